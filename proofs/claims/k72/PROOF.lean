import PyProof.Rows.All
import Wide.All
import OpenK.AllK
import Wide.FinOn
import Lean
import PyProof.EqAt
import PyProof.EqKinds
import PyProof.TupleCall
import PySem.Challenge.RW_leavehall_k72_lines_refused
set_option Elab.async false
set_option linter.all false
set_option maxRecDepth 100000
set_option maxHeartbeats 4000000
noncomputable section
open PySem PySem.Spec
open PySem.W (Frag callWith_K codeIn emptyDict fnOf instObj keepIn kia_one kitOne makesIn methodCall_KW methodObj mg_of notCls plainGet plainGet_of plainOver takerIn)
open List (all_eq_true all_map any_cons append_assoc append_nil cons_append cons_ne_nil drop_zero filterMap_cons filter_cons find?_cons flatten_cons foldl forIn_cons getElem?_eq_none getElem?_map getElem?_set_ne getElem?_set_self length_append length_cons length_drop length_map length_nil length_set length_take lookup_cons map_cons map_map map_nil mem_append mem_append_left mem_append_right mem_cons mem_cons_of_mem mem_cons_self mem_map mem_of_getElem? mem_range mem_singleton nil_append nodup_cons not_mem_nil replicate replicate_succ reverse_cons size_toArray take_of_length_le take_succ)
open Bool (and_eq_true beq_eq_decide_eq false_eq_true not_eq_true')
open Array (append_empty length_toList toList toList_inj)
open Value (builtin bytes float)
open PyData (canLay0 eqv keyHash)
open Int (eq_ofNat_of_zero_le)
open Heap (get?_push_of_some get?_push_size get?_update_other get?_update_self lt_size size_push)
open Option (isSome_map map map_eq_some_iff map_some)
open Nat (le_add_right le_of_eq le_of_lt le_refl le_succ le_trans lt_irrefl lt_of_lt_of_le lt_trans ne_of_gt ne_of_lt not_lt zero_le)
local macro_rules | `(tactic| omega) => `(tactic| lia)
namespace L2
open PyProof.Rows
noncomputable abbrev Key:=Sum Int Str
noncomputable def rN:Key->Value->Bool
 |.inl k,v=>Value.isInt k v
 |.inr x,v=>Value.isStrOf x v
noncomputable def af8 (w:World):Key->Int
 |.inl k=>hashInt k
 |.inr x=>hashStr w x
theorem dW:∀{k:Key}{v:Value},rN k v=true->(∃i t,k=Sum.inl i/\v=Value.int i t)\/(∃x t,k=Sum.inr x/\v=Value.str x t)
 |.inl i,v,h=>by
  obtain⟨t,e⟩:=Value.isInt_shape (k:=i) (v:=v) h;exact .inl ⟨i,t,rfl,e⟩
 |.inr x,v,h=>by obtain⟨t,e⟩:=Value.isStrOf_shape (x:=x) (v:=v) h;exact .inr ⟨x,t,rfl,e⟩
theorem Ml (i:Int)(t:Tok):rN (.inl i) (.int i t)=true:=by simp[rN,Value.isInt]
theorem Mp (x:Str)(t:Tok):rN (.inr x) (.str x t)=true:=by simp[rN,Value.isStrOf]
theorem Zz (a b:Int):decide ((Sum.inl a:Key)=Sum.inl b)=(a==b):=by
 by_cases e:a=b
 .subst e;simp
 .have h:¬(Sum.inl a:Key)=Sum.inl b:=λq=>e (Sum.inl.inj q);rw[decide_eq_false h];exact(beq_eq_false_iff_ne.mpr e).symm
theorem ZC (a b:Str):decide ((Sum.inr a:Key)=Sum.inr b)=decide (a=b):=by
 by_cases e:a=b
 .subst e;simp
 .have h:¬(Sum.inr a:Key)=Sum.inr b:=λq=>e (Sum.inr.inj q);rw[decide_eq_false h,decide_eq_false e]
theorem ZD (a:Int)(b:Str):decide ((Sum.inl a:Key)=Sum.inr b)=false:=decide_eq_false (λq=>nomatch q)
theorem ZF (a:Str)(b:Int):decide ((Sum.inr a:Key)=Sum.inl b)=false:=decide_eq_false (λq=>nomatch q)
def cA (prog:Program)(w:World):PySem.KeyKind prog w Key where
 is:=rN
 hash:=af8 w
 inj:=λv a b ha hb=>by
  rcases dW ha with⟨i,t,rfl,rfl⟩|⟨x,t,rfl,rfl⟩
  .rcases dW hb with⟨j,u,rfl,e⟩|⟨y,u,rfl,e⟩
   .injection e with e1 _;rw[e1]
   .exact nomatch e
  .rcases dW hb with⟨j,u,rfl,e⟩|⟨y,u,rfl,e⟩
   .exact nomatch e
   .injection e with e1 _;rw[e1]
 byValue:=λk v h=>by rcases dW h with⟨i,t,rfl,rfl⟩|⟨x,t,rfl,rfl⟩<;>rfl
 pyHash:=λhv h=>by
  rcases dW hv with⟨i,t,rfl,rfl⟩|⟨x,t,rfl,rfl⟩
  .exact wpAny_pyHash_int h
  .exact wpAny_pyHash_str h
 eqBool:=λhu hv h=>by
  rcases dW hu with⟨i,t,rfl,rfl⟩|⟨x,t,rfl,rfl⟩
  .rcases dW hv with⟨j,u,rfl,rfl⟩|⟨y,u,rfl,rfl⟩
   .rw[Zz] at h;exact wpAny_eqBool_int h
   .rw[ZD] at h;exact SeqAt.EqAt.int_str i t y u _ _ _ _ h
  .rcases dW hv with⟨j,u,rfl,rfl⟩|⟨y,u,rfl,rfl⟩
   .rw[ZF] at h;exact SeqAt.EqAt.str_int x t j u _ _ _ _ h
   .rw[ZC] at h;exact wpAny_eqBool_str h
 «strs»:=λk x t v h=>by
  rcases dW h with⟨i,u,rfl,e⟩|⟨y,u,rfl,e⟩
  .exact nomatch e
  .injection e with e1 _;subst e1;cases v<;>rfl
theorem JG (prog:Program)(w:World)(k:Key)(v:Value):(cA prog w).is k v=rN k v:=rfl
theorem GP (prog:Program)(w:World)(i:Int)(t:Tok):(cA prog w).is (.inl i) (.int i t)=true:=Ml i t
theorem GQ (prog:Program)(w:World)(x:Str)(t:Tok):(cA prog w).is (.inr x) (.str x t)=true:=Mp x t
inductive V where
 |non|bl (b:Bool)|int (i:Int)|str (x:Str)|nR (b:Array UInt8)|flt (b:UInt64)|ref (a:Addr)|ty (n:String)
 deriving DecidableEq
noncomputable def RelV:V->Value->Prop
 |.non,u=>u=Value.none
 |.bl b,u=>u=Value.bool b
 |.int i,u=>∃t,u=Value.int i t
 |.str x,u=>∃t,u=Value.str x t
 |.nR b,u=>∃t,u=bytes b t
 |.flt b,u=>∃t,u=float b t
 |.ref a,u=>u=Value.ref a
 |.ty n,u=>u=Value.type n
noncomputable abbrev Vals:List V->List Value->Prop:=Paired RelV
theorem Vals.length {xs:List V}{us:List Value}(r:Vals xs us):xs.length=us.length:=Paired.length r
theorem Vals.get:∀{xs:List V}{us:List Value} {i:Nat} {x:V},Vals xs us->xs[i]? =some x->∃u,us[i]? =some u/\RelV x u
 |_,_,_,_,.nil,e=>by simp at e
 |_,_,0,_,.cons r _,e=>by simp at e;subst e;exact⟨_,rfl,r⟩
 |_,_,i+1,x,.cons _ t,e=>by obtain⟨u,h1,h2⟩:=Vals.get (i:=i) (x:=x) t (by simpa using e);exact⟨u,by simpa using h1,h2⟩
theorem Vals.set {x:V}{u:Value}(r:RelV x u):∀{xs:List V}{us:List Value} (i:Nat),Vals xs us->Vals (xs.set i x) (us.set i u)
 |_,_,_,.nil=>.nil
 |_,_,0,.cons _ t=>.cons r t
 |_,_,i+1,.cons q t=>.cons q (Vals.set r i t)
theorem Vals.append:∀{xs ys:List V}{us ws:List Value},Vals xs us->Vals ys ws->Vals (xs++ys) (us++ws)
 |_,_,_,_,.nil,s=>s
 |_,_,_,_,.cons r t,s=>.cons r (Vals.append t s)
theorem Vals.take:∀{xs:List V}{us:List Value} (n:Nat),Vals xs us->Vals (xs.take n) (us.take n)
 |_,_,0,_=>.nil
 |_,_,_+1,.nil=>.nil
 |_,_,n+1,.cons r t=>.cons r (Vals.take n t)
theorem Vals.drop:∀{xs:List V}{us:List Value} (n:Nat),Vals xs us->Vals (xs.drop n) (us.drop n)
 |_,_,0,r=>r
 |_,_,_+1,.nil=>.nil
 |_,_,n+1,.cons _ t=>Vals.drop n t
theorem Vals.none_of:∀{xs:List V}{us:List Value} {i:Nat},Vals xs us->xs[i]? =none->us[i]? =none:=λ{xs us i} r e=>by have h1:=r.length;have h2:xs.length<=i:=List.getElem?_eq_none_iff.mp e;exact List.getElem?_eq_none_iff.mpr (by omega)
def fO:Option V->Option Value->Prop
 |some v,some u=>RelV v u
 |none,none=>True
 |_,_=>False
def KV {κ:Type}:List (κ×V)->List (κ×Value)->Prop:=Paired λ(p:κ×V) (q:κ×Value)=>p.1=q.1/\RelV p.2 q.2
noncomputable def kV:Key->V
 |.inl i=>.int i
 |.inr x=>.str x
inductive HO where
 |lst (xs:List V)
 |tup (xs:List V)
 |dK (kvs:List (Key×V))|dT (kvs:List (List Key×V))
 |set (S:Int->Bool) (n:Nat)
 |ins (C dx:Addr) (fs:List (Str×V))
 |own (x:Addr)
 |xd (fs:List (Str×V))
 |met (f x:Addr)
 |rng (lo hi:Int)
 |dR (o:Obj) (u:HO)
 |Aa (ps:Array Value)
 |ext (φ:Heap->Prop)
noncomputable abbrev Hp:=Addr->Option HO
noncomputable def upd (H:Hp)(a:Addr)(o:HO):Hp:=λb=>if b=a then some o else H b
theorem aA {H:Hp}{a:Addr}{o:HO}:upd H a o a=some o:=by unfold upd;rw[if_pos rfl]
theorem aB {H:Hp}{a b:Addr}{o:HO}(h:b≠a):upd H a o b=H b:=by unfold upd;rw[if_neg h]
theorem vq {H:Hp}{a:Addr}{o u:HO}:upd (upd H a o) a u=upd H a u:=by funext b;unfold upd;split<;>rfl
theorem adF {H:Hp}{a b:Addr}{o u:HO}(h:H a=some o)(h':H b=some u)(d:o≠u):a≠b:=by intro e;subst e;rw[h] at h';exact d (Option.some.inj h')
theorem bO {H:Hp}{a b:Addr}{o:HO}(h:H a=some o)(h':H b=none):a≠b:=by intro e;subst e;rw[h] at h';cases h'
section
variable (P:Program)(w:World)
noncomputable def dB (H:Hp)(h:Heap)(a:Addr):HO->Prop
 |.lst xs=>xs.length<=sizeLine/\∃(its:List Value) (n:Nat),Vals xs its/\h.get? a=some {cls:=.type "list",data:=.seq its.toArray n}
 |.tup xs=>xs.length<=sizeLine/\∃its:List Value,Vals xs its/\IsTup h a its.toArray
 |.dK kvs=>kvs.length<=sizeLine/\(a==sysModules)=false/\∃vs,KV kvs vs/\h.DictOf (cA P w) a vs
 |.dT kvs=>kvs.length<=sizeLine/\(a==sysModules)=false/\∃xs:List (List Key×Addr×Value),
  Paired (λ(p:List Key×V) (q:List Key×Addr×Value)=>p.1=q.1/\H q.2.1=some (.tup (p.1.map kV))/\RelV p.2 q.2.2) kvs xs/\
  ∃o es ep,h.get? a=some o/\o.ExactDict/\o.data=.dict es ep/\es.toList=xs.map (entryOfKey (tupleKind (cA P w)))/\(xs.map (·.1)).Nodup
 |.set S n=>h.SetOf (intKind P w) a S n
 |.ins C dx fs=>H dx=some (.own a)/\fs.length<=1000/\dx≠a/\h.get? a=some (instObj C dx)/\
  ∃mA,h.Ns1 dx mA/\(∀f,fO (fs.lookup f) (mA f))/\PySem.Within mA (fs.map (·.1))
 |.own _=>∃o,h.get? a=some o
 |.xd fs=>∃mA,h.Ns1 a mA/\∀f,fO (fs.lookup f) (mA f)
 |.rng lo hi=>∃t u v,h.get? a=some {cls:=.type "range",data:=.fields #[.int lo t,.int hi u,.int 1 v]}
 |.dR o u=>h.get? a=some o/\dB H h a u
 |.Aa ps=>h.get? a=some {cls:=.none,data:=.fields ps}
 |.met f x=>h.get? a=some (methodObj (.ref f) (.ref x))
 |.ext φ=>φ h/\(∃o,h.get? a=some o)/\∀h1 h2:Heap,φ h1->(∀o,h1.get? a=some o->h2.get? a=some o)->φ h2
def d9 (H:Hp)(h:Heap):Prop:=∀a o,H a=some o->dB P w H h a o
end
section
variable {P:Program}{w:World}{H H':Hp}{h h':Heap}{a:Addr}{o:HO}
theorem dB.lt (x:dB P w H h a o):a<h.objs.size:=by
 cases o with
 |lst xs=>obtain⟨_,_,_,_,e⟩:=x;exact lt_size e
 |tup xs=>obtain⟨_,_,_,p⟩:=x;exact p.lt
 |dK kvs=>obtain⟨_,_,_,_,o,_,_,e,_⟩:=x;exact lt_size e
 |dT kvs=>obtain⟨_,_,_,_,o,_,_,e,_⟩:=x;exact lt_size e
 |set S n=>obtain⟨o,_,_,_,e,_⟩:=x;exact lt_size e
 |ins C dx fs=>obtain⟨_,_,_,e,_⟩:=x;exact lt_size e
 |own y=>obtain⟨_,e⟩:=x;exact lt_size e
 |xd fs=>obtain⟨_,⟨_,_,_,e,_⟩,_⟩:=x;exact lt_size e
 |rng lo hi=>obtain⟨_,_,_,e⟩:=x;exact lt_size e
 |dR ob u=>obtain⟨e,_⟩:=x;exact lt_size e
 |Aa ps=>exact lt_size (show h.get? a=some _ from x)
 |met f y=>exact lt_size (show h.get? a=some _ from x)
 |ext φ=>obtain⟨_,⟨_,e⟩,_⟩:=x;exact lt_size e
theorem Paired.Rg {α β:Type}{F G:α->β->Prop}:∀{l₁:List α} {l₂:List β},Paired F l₁ l₂->(∀a b,F a b->G a b)->Paired G l₁ l₂
 |_,_,.nil,_=>.nil
 |_,_,.cons r t,f=>.cons (f _ _ r) (Paired.Rg t f)
theorem dB.stay (x:dB P w H h a o)(k:∀b u,(b=a\/H b=some (.own a))->h.get? b=some u->h'.get? b=some u)
  (ho:∀b,H b=some (.own a)->H' b=some (.own a))(ht:∀b xs,H b=some (.tup xs)->H' b=some (.tup xs)):dB P w H' h' a o:=by
 induction o with
 |lst xs=>obtain⟨z,its,n,r,e⟩:=x;exact⟨z,its,n,r,k _ _ (.inl rfl) e⟩
 |tup xs=>obtain⟨z,its,r,ob,e,c⟩:=x;exact⟨z,its,r,ob,k _ _ (.inl rfl) e,c⟩
 |dK kvs=>obtain⟨z,y,vs,r,ob,es,ep,e,c⟩:=x;exact⟨z,y,vs,r,ob,es,ep,k _ _ (.inl rfl) e,c⟩
 |dT kvs=>
  obtain⟨z,y,xs,r,ob,es,ep,e,c⟩:=x;exact⟨z,y,xs,Paired.Rg r λp q z=>⟨z.1,ht _ _ z.2.1,z.2.2⟩,ob,es,ep,k _ _ (.inl rfl) e,c⟩
 |set S n=>obtain⟨ob,es,ep,t,e,c⟩:=x;exact⟨ob,es,ep,t,k _ _ (.inl rfl) e,c⟩
 |ins C dx fs=>
  obtain⟨d,z,ne,e,mA,⟨od,es,ep,e2,c⟩,r⟩:=x;exact⟨ho _ d,z,ne,k _ _ (.inl rfl) e,mA,⟨od,es,ep,k _ _ (.inr d) e2,c⟩,r⟩
 |own y=>obtain⟨ob,e⟩:=x;exact⟨ob,k _ _ (.inl rfl) e⟩
 |xd fs=>obtain⟨mA,⟨od,es,ep,e,c⟩,r⟩:=x;exact⟨mA,⟨od,es,ep,k _ _ (.inl rfl) e,c⟩,r⟩
 |rng lo hi=>obtain⟨t,u,v,e⟩:=x;exact⟨t,u,v,k _ _ (.inl rfl) e⟩
 |dR ob u ih=>obtain⟨e,q⟩:=x;exact⟨k _ _ (.inl rfl) e,ih q⟩
 |Aa ps=>have e:h.get? a=some {cls:=.none,data:=.fields ps}:=x;show h'.get? a=some {cls:=.none,data:=.fields ps};exact k a _ (.inl rfl) e
 |met f y=>have e:h.get? a=some (methodObj (.ref f) (.ref y)):=x;show h'.get? a=some (methodObj (.ref f) (.ref y));exact k a _ (.inl rfl) e
 |ext φ=>obtain⟨p,⟨o,e⟩,st⟩:=x;exact⟨st _ _ p λo q=>k _ _ (.inl rfl) q,⟨o,k _ _ (.inl rfl) e⟩,st⟩
theorem d9.lt (x:d9 P w H h)(e:H a=some o):a<h.objs.size:=(x a o e).lt
theorem d9.fresh (x:d9 P w H h)(e:h.objs.size<=a):H a=none:=by
 cases q:H a with
 |none=>rfl
 |some u=>exact absurd (lt_of_lt_of_le (x.lt q) e) (lt_irrefl _)
theorem d9.kept (x:d9 P w H h)(k:∀b u,h.get? b=some u->h'.get? b=some u):d9 P w H h':=λa o e=>
 (x a o e).stay (λb u _ q=>k b u q) (λ_ q=>q) λ_ _ q=>q
theorem d9.laid (x:d9 P w H h)(k:∀b u,h.get? b=some u->h'.get? b=some u)(hp:h.objs.size<=a)(new:dB P w (upd H a o) h' a o):d9 P w (upd H a o) h':=λb u e=>by
 have hn:=x.fresh hp;by_cases hb:b=a
 .subst hb;rw[aA] at e;cases e;exact new
 .rw[aB hb] at e;exact(x b u e).stay (λc v _ q=>k c v q) (λc q=>by rw[aB (bO q hn)];exact q) λc xs q=>by rw[aB (bO q hn)];exact q
end
noncomputable def Rd (H:Hp)(a:Addr)(u:HO):Prop:=H a=some u\/∃o,H a=some (.dR o u)
theorem Rd.of {H:Hp}{a:Addr}{u:HO}(h:H a=some u):Rd H a u:=.inl h
theorem Rd.ok {P:Program}{w:World}{H:Hp}{h:Heap}{a:Addr}{u:HO}(r:Rd H a u)(x:d9 P w H h):dB P w H h a u:=by
 rcases r with r|⟨o,r⟩
 .exact x a u r
 .obtain⟨_,q⟩:=x a _ r;exact q
noncomputable def Mq:Option HO->Prop
 |some (.lst _)=>True
 |some (.dK _)=>True
 |some (.dT _)=>True
 |some (.set _ _)=>True
 |some (.ins _ _ _)=>True
 |some (.ext _)=>True
 |_=>False
section
variable {P:Program}{w:World}{H:Hp}{h h':Heap}{x e:Addr}{o':HO}
theorem d9.write (ok:d9 P w H h)(mu:Mq (H x))(he:e=x\/H e=some (.own x))(k:∀b u,b≠e->h.get? b=some u->h'.get? b=some u)(heo:∃u,h'.get? e=some u)
  (new:dB P w (upd H x o') h' x o'):d9 P w (upd H x o') h':=λb u q=>by
 have ZG:∀c y,H c=some (.own y)->c≠x:=λc y r z=>by subst z;rw[r] at mu;exact mu
 have af9:∀c xs,H c=some (.tup xs)->c≠x:=λc xs r z=>by subst z;rw[r] at mu;exact mu
 by_cases hb:b=x
 .subst hb;rw[aA] at q;cases q;exact new
 .rw[aB hb] at q;by_cases hbe:b=e
  .have q':H b=some (.own x):=by
    rcases he with z|z
    .exact absurd (hbe.trans z) hb
    .rw[hbe];exact z
   rw[q] at q';cases q';obtain⟨v,hv⟩:=heo;exact⟨v,by rw[hbe];exact hv⟩
  .refine(ok b u q).stay (λc v hc r=>k c v ?_ r) (λc r=>by rw[aB (ZG c b r)];exact r) λc xs r=>by rw[aB (af9 c xs r)];exact r
   rcases hc with rfl|hc
   .exact hbe
   .rintro rfl;rcases he with z|z
    .exact ZG c b hc z
    .rw[hc] at z;cases z;exact hb rfl
end
structure Un (fs ex:List Addr)(H H':Hp)(h h':Heap):Prop where
 keep:∀b o,h.get? b=some o->H b=none->b∉fs->b∉ex->h'.get? b=some o
 slot:∀b o,h.get? b=some o->H b=none->b∈fs->b∉ex->∃sl,h'.get? b=some {o with slots:=sl}
 free:∀b o,h.get? b=some o->H b=none->b∉ex->H' b=none
 there:∀b o,h.get? b=some o->b∉ex->∃o',h'.get? b=some o'
 tups:∀b xs,H b=some (.tup xs)->H' b=some (.tup xs)
 jO:∀b o u,H b=some (.dR o u)->H' b=some (.dR o u)
 j5:∀b ps,H b=some (.Aa ps)->∃more,H' b=some (.Aa (ps++more))
section
variable {fs fs' ex ex':List Addr}{H H1 H2:Hp}{h h1 h2 h':Heap}{a x e:Addr}{o:HO}
theorem Un.any (u:Un fs ex H H1 h h1){b:Addr}{ob:Obj}(q:h.get? b=some ob)(n:H b=none)(hx:b∉ex):∃sl,h1.get? b=some {ob with slots:=sl}:=by
 by_cases hb:b∈fs
 .exact u.slot b ob q n hb hx
 .exact⟨ob.slots,u.keep b ob q n hb hx⟩
theorem Un.trans (a:Un fs ex H H1 h h1)(b:Un fs ex H1 H2 h1 h2):Un fs ex H H2 h h2 where
 keep:=λc ob q n hc hx=>b.keep c ob (a.keep c ob q n hc hx) (a.free c ob q n hx) hc hx
 slot:=λc ob q n hc hx=>by obtain⟨sl,e1⟩:=a.slot c ob q n hc hx;obtain⟨sl',e2⟩:=b.slot c _ e1 (a.free c ob q n hx) hc hx;exact⟨sl',e2⟩
 free:=λc ob q n hx=>by obtain⟨o',e1⟩:=a.there c ob q hx;exact b.free c o' e1 (a.free c ob q n hx) hx
 there:=λc ob q hx=>by obtain⟨o',e1⟩:=a.there c ob q hx;exact b.there c o' e1 hx
 tups:=λc xs q=>b.tups c xs (a.tups c xs q)
 jO:=λc ob xs q=>b.jO c ob xs (a.jO c ob xs q)
 j5:=λc ps q=>by obtain⟨m1,e1⟩:=a.j5 c ps q;obtain⟨m2,e2⟩:=b.j5 c _ e1;exact⟨m1++m2,by rw[e2,Array.append_assoc]⟩
theorem Un.kept (k:∀b u,h.get? b=some u->h'.get? b=some u):Un fs ex H H h h':=
 ⟨λb ob q _ _ _=>k b ob q,λb ob q _ _ _=>⟨ob.slots,k b ob q⟩,λ_ _ _ n _=>n,λb ob q _=>⟨ob,k b ob q⟩,λ_ _ q=>q,λ_ _ _ q=>q,λ_ ps q=>⟨#[],by rw[q];simp⟩⟩
theorem Un.refl:Un fs ex H H h h:=Un.kept λ_ _ q=>q
theorem Un.laid (k:∀b u,h.get? b=some u->h'.get? b=some u)(hp:h.objs.size<=a)(hn:H a=none):Un fs ex H (upd H a o) h h' where
 keep:=λb u q _ _ _=>k b u q
 slot:=λb u q _ _ _=>⟨u.slots,k b u q⟩
 free:=λb u q n _=>by rw[aB (ne_of_lt (lt_of_lt_of_le (lt_size q) hp))];exact n
 there:=λb u q _=>⟨u,k b u q⟩
 tups:=λb xs q=>by rw[aB (bO q hn)];exact q
 jO:=λb u xs q=>by rw[aB (bO q hn)];exact q
 j5:=λb ps q=>⟨#[],by rw[aB (bO q hn),q];simp⟩
theorem Un.write (mu:Mq (H x))(he:e=x\/H e=some (.own x))(k:∀b u,b≠e->h.get? b=some u->h'.get? b=some u)(heo:∃u,h'.get? e=some u):Un fs ex H (upd H x o) h h':=by
 have hx:∀b,H b=none->b≠x:=λb n z=>by subst z;rw[n] at mu;exact mu
 have hb:∀b,H b=none->b≠e:=λb n z=>by
  subst z;rcases he with r|r
  .exact hx b n r
  .rw[n] at r;cases r
 have hm:∀b u,H b=some u->¬Mq (some u)->b≠x:=λb u q nm z=>by subst z;rw[q] at mu;exact nm mu
 refine⟨λb u q n _ _=>k b u (hb b n) q,λb u q n _ _=>⟨u.slots,k b u (hb b n) q⟩,λb u q n _=>by rw[aB (hx b n)];exact n,λb u q _=>?_,
  λb xs q=>by rw[aB (hm b _ q λz=>z)];exact q,λb u xs q=>by rw[aB (hm b _ q λz=>z)];exact q,λb ps q=>⟨#[],by rw[aB (hm b _ q λz=>z),q];simp⟩⟩
 by_cases hbe:b=e
 .subst hbe;exact heo
 .exact⟨u,k b u hbe q⟩
end
noncomputable def Vo (h:Heap)(H:Hp):List Addr:=(List.range h.objs.size).filter λa=>(H a).isSome
def rO (h:Heap)(H:Hp):Heap:=PySem.W.hideAll h (Vo h H)
theorem Mr (h:Heap)(H:Hp):(rO h H).objs.size=h.objs.size:=PySem.W.hideAll_size _ _
theorem Rh {h:Heap}{H:Hp}{b:Addr}{o:Obj}(e:h.get? b=some o)(n:H b=none):(rO h H).get? b=some o:=
 PySem.W.hideAll_get _ e λhm=>by have q:(H b).isSome=true:=(List.mem_filter.mp hm).2;rw[n] at q;simp at q
theorem Xo {h:Heap}{H:Hp}{b:Addr}{o:Obj}(e:(rO h H).get? b=some o):h.get? b=some o/\H b=none:=by
 have e':h.get? b=some o:=PySem.W.of_hideAll (Vo h H) e;refine⟨e',?_⟩;cases q:H b with
 |none=>rfl
 |some x=>have hm:b∈Vo h H:=List.mem_filter.mpr ⟨mem_range.mpr (lt_size e'),by simp[q]⟩;have z:(rO h H).get? b=none:=PySem.W.hideAll_none (Vo h H) hm;rw[z] at e;cases e
noncomputable def Xp (g h:Heap)(L:Addr):List (Addr×Obj):=(List.range h.objs.size).filterMap λa=>if a=L\/(g.get? a).isSome=true then none else(h.get? a).map λo=>(a,o)
def rest (g h:Heap)(L d:Addr):List (Addr×Obj):=(Xp g h L).filter λp=>decide (p.1≠d)
structure Mod (K:Frag)(mg:Str->Option Value)(base:Heap):Prop where
 xK:K.In base
 glob:base.Ns mainGlobals mg
 blt:∃mb,base.Ns builtinsNs mb/\∀x:Str,x≠"__name__"->mb x=bootBuiltins x
 nolimit:base.NoLimit
structure Cx where
 prog:Program
 w:World
 K:Frag
 mg:Str->Option Value
 base:Heap
 A:Around
 N:List Str
 s₀:Shared
 H₀:Hp
 env:Env
 outer:List Env
 stack:List Env
 ex:List Addr
 fn:Str->Bool
 calm:Bool
 pn:List (Addr×Obj)
 xe:Value->Shared->Prop
noncomputable def frs (l:List Env):List Addr:=l.filterMap (·.frame)
noncomputable abbrev Cx.fs (X:Cx):List Addr:=frs X.outer
noncomputable def G7 (sc:Scope)(x:Str):Prop:=sc.names.lookup x=some .local\/sc.names.lookup x=some .cell\/sc.names.lookup x=some .free
noncomputable def Loc (sc:Scope)(x:Str):Prop:=sc.names.lookup x=some .local\/sc.names.lookup x=some .cell
noncomputable def Look (env:Env)(h:Heap)(m:Str->Option Value)(x:Str)(u:Value):Prop:=
 (env.kindOf x=some .local/\m x=some u)\/((env.kindOf x=some .cell\/env.kindOf x=some .free)/\∃c,env.cells.lookup x=some c/\h.IsCell c (some u))
structure Cx.Ok (X:Cx):Prop where
 mod:Mod X.K X.mg X.base
 kind:X.env.scope.kind=.function
 glob:X.env.globals=mainGlobals
 blt:X.env.builtins=builtinsNs
 above:X.s₀.heap.objs.size<=X.env.locals
 inj:∀x y c,X.env.cells.lookup x=some c->X.env.cells.lookup y=some c->x=y
 has:∀x,(X.env.kindOf x=some .cell\/X.env.kindOf x=some .free)->∃c,X.env.cells.lookup x=some c
 cab:∀x c,X.fn x=true->X.env.cells.lookup x=some c->X.s₀.heap.objs.size<=c
 hd:X.calm=true->X.A.handled=none
 frames:X.A.frames=some X.stack
 stk:X.stack=X.outer\/(X.stack=X.env::X.outer/\X.env.frame=some X.env.locals)
 ZJ:∀b∈X.ex,b≠X.env.locals/\∀x c,X.env.cells.lookup x=some c->c≠b
 bs:∀b o,X.base.get? b=some o->X.s₀.heap.get? b=some o/\X.H₀ b=none
 tW:X.base.objs.size<=X.s₀.heap.objs.size
 zj:∀b o,X.base.get? b=some o->b∉X.ex
 Dd:∀b∈X.ex,b∉X.fs
 lH:X.s₀.heap.FunFrames X.base X.outer
 Ab:∀b∈X.fs,X.H₀ b=none
structure Inv (X:Cx)(pins:List (Addr×Obj))(σ:List (Option V))(H:Hp)(s:Shared):Prop where
 ok:X.Ok
 os:s.os=X.s₀.os
 bare:AllBare s.gens
 base:Un X.fs X.ex X.H₀ H X.s₀.heap s.heap
 loc:∃m,s.heap.Ns X.env.locals m/\∀(i:Nat) (x:Str) (v:V),X.N[i]? =some x->σ[i]? =some (some v)->G7 X.env.scope x->∃u,RelV v u/\Look X.env s.heap m x u
 cell:∀x c,X.env.cells.lookup x=some c->∃v,s.heap.IsCell c v
 free:H X.env.locals=none
 gZ:∀x c,X.env.cells.lookup x=some c->H c=none
 pin:∀p∈X.pn++pins,s.heap.get? p.1=some p.2/\H p.1=none/\p.1≠X.env.locals/\p.1∉X.fs/\∀v,p.2.data≠ .cell v
 hok:d9 X.prog X.w H s.heap
 len:σ.length=X.N.length
section
variable {X:Cx}{pins:List (Addr×Obj)}{σ:List (Option V)}{H H':Hp}{s:Shared}{h':Heap}
theorem Cx.Ok.aga (ok:X.Ok){b:Addr}{o:Obj}(e:X.base.get? b=some o):b∉X.fs:=λhb=>by have:=(ok.lH.mem hb).1;rw[e] at this;cases this
theorem Inv.bs (I:Inv X pins σ H s):∀b o,X.base.get? b=some o->s.heap.get? b=some o/\H b=none:=λb o e=>
 ⟨I.base.keep b o (I.ok.bs b o e).1 (I.ok.bs b o e).2 (I.ok.aga e) (I.ok.zj b o e),I.base.free b o (I.ok.bs b o e).1 (I.ok.bs b o e).2 (I.ok.zj b o e)⟩
theorem Inv.bk (I:Inv X pins σ H s):∀b o,X.base.get? b=some o->s.heap.get? b=some o:=λb o e=>(I.bs b o e).1
theorem Inv.mod (I:Inv X pins σ H s):Mod X.K X.mg X.base:=I.ok.mod
theorem Inv.dM (I:Inv X pins σ H s):X.K.In s.heap:=I.ok.mod.xK.keeps I.bk
theorem Inv.fr (I:Inv X pins σ H s):∃m,Fr X.base X.env.locals s.heap m:=
 let⟨m,hn,_⟩:=I.loc
 ⟨m,hn,I.bk,le_trans I.ok.tW I.ok.above⟩
theorem Inv.lt (I:Inv X pins σ H s):X.env.locals<s.heap.objs.size:=let⟨_,hn,_⟩:=I.loc;hn.lt
theorem Inv.sz (I:Inv X pins σ H s):X.s₀.heap.objs.size<=s.heap.objs.size:=le_trans I.ok.above (le_of_lt I.lt)
theorem Inv.agb (I:Inv X pins σ H s){a:Addr}(h:s.heap.objs.size<=a):a∉X.fs:=λhb=>by obtain⟨_,o,ho,_⟩:=I.ok.lH.mem hb;exact absurd (lt_of_lt_of_le (lt_size ho) (le_trans I.sz h)) (lt_irrefl _)
theorem Inv.xM (I:Inv X pins σ H s):∀x c,X.env.cells.lookup x=some c->c≠X.env.locals:=λx c e z=>by obtain⟨v,o,ho,hd⟩:=I.cell x c e;obtain⟨m,⟨o',es,ep,ho',hd',_⟩,_⟩:=I.loc;rw[z,ho'] at ho;cases ho;rw[hd'] at hd;cases hd
theorem Inv.lH (I:Inv X pins σ H s):s.heap.FunFrames X.base X.outer:=by
 have all:∀(l:List Env),(∀b∈frs l,b∈X.fs)->X.s₀.heap.FunFrames X.base l->s.heap.FunFrames X.base l:=by
  intro l;induction l with
  |nil=>intro _ _;trivial
  |cons env r ih=>intro hs hl;obtain⟨hk,⟨L,o,hf,hn,ho,hd⟩,hr⟩:=hl;have hL:L∈X.fs:=hs L (by unfold frs;rw[filterMap_cons,hf];exact mem_cons_self);obtain⟨sl,e⟩:=I.base.slot L o ho (I.ok.Ab L hL) hL λz=>I.ok.Dd L z hL;exact⟨hk,⟨L,_,hf,hn,e,hd⟩,ih (λb hb=>hs b (by unfold frs;rw[filterMap_cons,hf];exact mem_cons_of_mem _ hb)) hr⟩
 exact all X.outer (λ_ hb=>hb) I.ok.lH
theorem Inv.stack (I:Inv X pins σ H s):s.heap.FunFrames X.base X.stack:=by
 rcases I.ok.stk with e|⟨e,hf⟩
 .rw[e];exact I.lH
 .rw[e];obtain⟨m,hn,_⟩:=I.loc;refine .cons (by rw[I.ok.kind];decide) hf hn ?_ I.lH;exact Heap.get?_none_of_le (le_trans I.ok.tW I.ok.above)
theorem Inv.tX (I:Inv X pins σ H s):∀b∈frs X.stack,b∈X.env.locals::X.fs:=λb hb=>by
 rcases I.ok.stk with e|⟨e,hf⟩
 .rw[e] at hb;exact mem_cons_of_mem _ hb
 .rw[e] at hb;unfold frs at hb;rw[filterMap_cons,hf] at hb;exact hb
theorem Inv.qt (I:Inv X pins σ H s):∀b∈frs X.stack,H b=none:=λb hb=>by
 rcases mem_cons.mp (I.tX b hb) with e|hb
 .rw[e];exact I.free
 .obtain⟨_,o,ho,_⟩:=I.ok.lH.mem hb;exact I.base.free b o ho (I.ok.Ab b hb) λz=>I.ok.Dd b z hb
theorem Inv.step {g':Array GenState}{t':Nat}{d':Drawn}{ch:List Addr}(I:Inv X pins σ H s)
  (hch:∀b∈ch,(b∈X.ex\/X.s₀.heap.objs.size<=b)/\b≠X.env.locals/\(∀x c,X.env.cells.lookup x=some c->c≠b)/\∀p∈X.pn++pins,p.1≠b)
  (keep:∀b o,b≠X.env.locals->b∉X.fs->b∉ch->s.heap.get? b=some o->H b=none->h'.get? b=some o)
  (slot:∀b o,b≠X.env.locals->b∈X.fs->b∉ch->s.heap.get? b=some o->H b=none->∃sl,h'.get? b=some {o with slots:=sl})(free:∀b o,b∉ch->s.heap.get? b=some o->H b=none->H' b=none)
  (there:∀b o,b∉ch->s.heap.get? b=some o->∃o',h'.get? b=some o')
  (tups:∀b xs,H b=some (.tup xs)->H' b=some (.tup xs))(jO:∀b o u,H b=some (.dR o u)->H' b=some (.dR o u))(j5:∀b ps,H b=some (.Aa ps)->∃more,H' b=some (.Aa (ps++more)))
  (ns:∀m,s.heap.Ns X.env.locals m->h'.Ns X.env.locals m)(hok:d9 X.prog X.w H' h')(hg:AllBare g'):
  Inv X pins σ H' {s with heap:=h',gens:=g',drawn:=d',toks:=t'}:=by
 have neL:∀b o,X.s₀.heap.get? b=some o->b≠X.env.locals:=λb o e=>ne_of_lt (lt_of_lt_of_le (lt_size e) I.ok.above);have Vp:∀b o,X.s₀.heap.get? b=some o->b∉X.ex->b∉ch:=λb o e hx hb=>by
  rcases(hch b hb).1 with z|z
  .exact hx z
  .exact absurd (lt_of_lt_of_le (lt_size e) z) (lt_irrefl _)
 have cellK:∀x c,X.env.cells.lookup x=some c->∀v,s.heap.IsCell c v->h'.IsCell c v:=λx c e v ⟨o,ho,hd⟩=>by
  have Mt:c∉ch:=λz=>(hch c z).2.2.1 x c e rfl;by_cases hc:c∈X.fs
  .obtain⟨sl,q⟩:=slot c o (I.xM x c e) hc Mt ho (I.gZ x c e);exact⟨_,q,hd⟩
  .exact⟨o,keep c o (I.xM x c e) hc Mt ho (I.gZ x c e),hd⟩
 refine⟨I.ok,I.os,hg,⟨λb o e n hb hx=>?_,λb o e n hb hx=>?_,λb o e n hx=>?_,λb o e hx=>?_,λb xs e=>tups b xs (I.base.tups b xs e),λb o xs e=>jO b o xs (I.base.jO b o xs e),λb ps e=>?_⟩,?_,λx c e=>?_,?_,λx c e=>?_,λp hp=>?_,hok,I.len⟩
 .exact keep b o (neL b o e) hb (Vp b o e hx) (I.base.keep b o e n hb hx) (I.base.free b o e n hx)
 .obtain⟨sl,e1⟩:=I.base.slot b o e n hb hx;obtain⟨sl',e2⟩:=slot b _ (neL b o e) hb (Vp b o e hx) e1 (I.base.free b o e n hx);exact⟨sl',e2⟩
 .obtain⟨o',e1⟩:=I.base.there b o e hx;exact free b o' (Vp b o e hx) e1 (I.base.free b o e n hx)
 .obtain⟨o',e1⟩:=I.base.there b o e hx;exact there b o' (Vp b o e hx) e1
 .obtain⟨m1,e1⟩:=I.base.j5 b ps e;obtain⟨m2,e2⟩:=j5 b _ e1;exact⟨m1++m2,by rw[e2,Array.append_assoc]⟩
 .obtain⟨m,hn,hl⟩:=I.loc;refine⟨m,ns m hn,λi x v e1 e2 e3=>?_⟩;obtain⟨u,r,l⟩:=hl i x v e1 e2 e3;refine⟨u,r,?_⟩;rcases l with l|⟨k,c,e,z⟩
  .exact .inl l
  .exact .inr ⟨k,c,e,cellK x c e _ z⟩
 .obtain⟨v,z⟩:=I.cell x c e;exact⟨v,cellK x c e v z⟩
 .obtain⟨m,⟨o,_,_,ho,_⟩,_⟩:=I.loc;exact free _ o (λz=>(hch _ z).2.1 rfl) ho I.free
 .obtain⟨v,o,ho,hd⟩:=I.cell x c e;exact free c o (λz=>(hch c z).2.2.1 x c e rfl) ho (I.gZ x c e)
 .obtain⟨e,n,ne,nf,d⟩:=I.pin p hp;have Mt:p.1∉ch:=λz=>(hch p.1 z).2.2.2 p hp rfl;exact⟨keep p.1 p.2 ne nf Mt e n,free p.1 p.2 Mt e n,ne,nf,d⟩
theorem Inv.un {t':Nat}(I:Inv X pins σ H s)(u:Un X.fs [] H H' s.heap h')(hok:d9 X.prog X.w H' h'):Inv X pins σ H' {s with heap:=h',toks:=t'}:=by
 obtain⟨m,⟨o,es,ep,ho,r⟩,_⟩:=id I.loc;obtain⟨sl,hL⟩:=u.any ho I.free (by simp);exact I.step (g':=s.gens) (d':=s.drawn) (ch:=[]) (λ_ z=>nomatch z) (λb o _ hb _ e n=>u.keep b o e n hb (by simp)) (λb o _ hb _ e n=>u.slot b o e n hb (by simp)) (λb o _ e n=>u.free b o e n (by simp)) (λb o _ e=>u.there b o e (by simp)) u.tups u.jO u.j5 (λm' hm=>by
  obtain⟨o',es',ep',ho',r'⟩:=hm;rw[ho] at ho';cases ho';exact⟨_,es',ep',hL,r'⟩) hok I.bare
theorem Inv.call {g':Array GenState}{t':Nat}{d':Drawn}{ch:List Addr}(I:Inv X pins σ H s)(u:Un (frs X.stack) ch H H' s.heap h')(hok:d9 X.prog X.w H' h')(hg:AllBare g')
  (hch:∀b∈ch,(b∈X.ex\/X.s₀.heap.objs.size<=b)/\b≠X.env.locals/\(∀x c,X.env.cells.lookup x=some c->c≠b)/\∀p∈X.pn++pins,p.1≠b):
  Inv X pins σ H' {s with heap:=h',gens:=g',drawn:=d',toks:=t'}:=by
 obtain⟨m,⟨o,es,ep,ho,r⟩,_⟩:=id I.loc;obtain⟨sl,hL⟩:=u.any ho I.free λz=>(hch _ z).2.1 rfl;exact I.step (ch:=ch) hch (λb o hL hb hc e n=>u.keep b o e n (λz=>(mem_cons.mp (I.tX b z)).elim hL hb) hc) (λb o _ _ hc e n=>u.any e n hc) (λb o hc e n=>u.free b o e n hc) (λb o hc e=>u.there b o e hc) u.tups u.jO u.j5 (λm' hm=>by
  obtain⟨o',es',ep',ho',r'⟩:=hm;rw[ho] at ho';cases ho';exact⟨_,es',ep',hL,r'⟩) hok hg
theorem Inv.turned {t':Nat}{it:Addr}(I:Inv X pins σ H s)(k:∀b o,b≠it->s.heap.get? b=some o->h'.get? b=some o)(hn:H it=none)(hL:it≠X.env.locals)
  (h1:it∈X.ex\/X.s₀.heap.objs.size<=it)(h2:∀x c,X.env.cells.lookup x=some c->c≠it)(h3:∀p∈X.pn++pins,p.1≠it):Inv X pins σ H {s with heap:=h',toks:=t'}:=by
 have Ac:∀b u,H b=some u->b≠it:=λb u e z=>by rw[z,hn] at e;cases e
 refine I.step (g':=s.gens) (d':=s.drawn) (ch:=[it]) (λb hb=>?_) (λb o _ _ hc e _=>k b o (λz=>hc (by simp[z])) e) (λb o _ _ hc e _=>⟨o.slots,k b o (λz=>hc (by simp[z])) e⟩) (λ_ _ _ _ n=>n)
  (λb o hc e=>⟨o,k b o (λz=>hc (by simp[z])) e⟩) (λ_ _ e=>e) (λ_ _ _ e=>e) (λb ps e=>⟨#[],by rw[e];simp⟩) (λm hm=>?_) (λb u e=>?_) I.bare
 .have e:b=it:=by simpa using hb
  subst e;exact⟨h1,hL,h2,h3⟩
 .obtain⟨o,es,ep,ho,r⟩:=hm;exact⟨o,es,ep,k _ o (Ne.symm hL) ho,r⟩
 .refine(I.hok b u e).stay (λc v hc q=>k c v ?_ q) (λ_ q=>q) λ_ _ q=>q;rcases hc with z|z
  .rw[z];exact Ac b u e
  .exact Ac c _ z
theorem Inv.tok (I:Inv X pins σ H s)(t:Nat):Inv X pins σ H {s with toks:=t}:=I.un (h':=s.heap) (t':=t) Un.refl I.hok
theorem Inv.kept {t':Nat}(I:Inv X pins σ H s)(k:∀b u,s.heap.get? b=some u->h'.get? b=some u):Inv X pins σ H {s with heap:=h',toks:=t'}:=I.un (Un.kept k) (I.hok.kept k)
theorem Inv.laid {a:Addr}{o:HO}{t':Nat}(I:Inv X pins σ H s)(k:∀b u,s.heap.get? b=some u->h'.get? b=some u)(hp:s.heap.objs.size<=a)(new:dB X.prog X.w (upd H a o) h' a o):
  Inv X pins σ (upd H a o) {s with heap:=h',toks:=t'}:=I.un (Un.laid k hp (I.hok.fresh hp)) (I.hok.laid k hp new)
theorem Inv.write {x e:Addr}{o:HO}{t':Nat}(I:Inv X pins σ H s)(mu:Mq (H x))(he:e=x\/H e=some (.own x))(k:∀b u,b≠e->s.heap.get? b=some u->h'.get? b=some u)(heo:∃u,h'.get? e=some u)
  (new:dB X.prog X.w (upd H x o) h' x o):Inv X pins σ (upd H x o) {s with heap:=h',toks:=t'}:=I.un (Un.write mu he k heo) (I.hok.write mu he k heo new)
theorem Inv.weak {σ':List (Option V)}(I:Inv X pins σ H s)(hl:σ'.length=σ.length)(w:∀(i:Nat) v,σ'[i]? =some (some v)->σ[i]? =some (some v)):Inv X pins σ' H s:=
 ⟨I.ok,I.os,I.bare,I.base,let⟨m,hn,hl'⟩:=I.loc;⟨m,hn,λi x v e1 e2 e3=>hl' i x v e1 (w i v e2) e3⟩,I.cell,I.free,I.gZ,I.pin,I.hok,hl.trans I.len⟩
theorem Inv.G8 {Vq:List (Addr×Obj)}(I:Inv X pins σ H s)(h:∀p∈Vq,s.heap.get? p.1=some p.2/\H p.1=none/\p.1≠X.env.locals/\p.1∉X.fs/\∀v,p.2.data≠ .cell v):Inv X Vq σ H s:=
 ⟨I.ok,I.os,I.bare,I.base,I.loc,I.cell,I.free,I.gZ,λp hp=>(mem_append.mp hp).elim (λz=>I.pin p (mem_append_left _ z)) (h p),I.hok,I.len⟩
theorem Df {N:List Str}(hN:N.Nodup){i j:Nat}{x:Str}(a:N[i]? =some x)(b:N[j]? =some x):i=j:=by obtain⟨h1,e1⟩:=List.getElem?_eq_some_iff.mp a;obtain⟨h2,e2⟩:=List.getElem?_eq_some_iff.mp b;exact(List.getElem_inj hN).mp (e1.trans e2.symm)
theorem Ad {M:Model}{A:Around}{E:Value->Shared->Prop}{i:Nat}{x:Str}{v:V}{u:Value}{Q:Unit->Shared->Prop}(I:Inv X pins σ H s)(hN:X.N.Nodup)(hi:X.N[i]? =some x)(hx:Loc X.env.scope x)(r:RelV v u)
  (h:∀s',Inv X pins (σ.set i (some v)) H s'->(∃a,Heap.SameBut a s.heap s'.heap/\(a=X.env.locals\/X.env.cells.lookup x=some a))->Q () s')(hf:X.fn x=true\/X.env.scope.names.lookup x=some .local:=by first|exact .inl rfl|exact .inr rfl|assumption):wpAny M A (storeName X.env x u) Q E s:=by
 obtain⟨m,hn,hl⟩:=id I.loc;have hcls:(X.env.scope.kind==.class||(X.env.scope.kind==.module && X.env.locals !=X.env.globals))=false:=by rw[I.ok.kind];rfl
 have Dg:i<σ.length:=by rw[I.len];exact(List.getElem?_eq_some_iff.mp hi).1
 have xM:=I.xM;have tracked:∀{a:Addr}{h':Heap},(∃o,s.heap.get? a=some o/\H a=none)->Heap.SameBut a s.heap h'->d9 X.prog X.w H h':=λ{a h'} ha hs b ob e=>by
  obtain⟨_,_,hfree⟩:=ha;refine(I.hok b ob e).stay (λc w' hc q=>(hs.2 c ?_).trans q) (λ_ q=>q) λ_ _ q=>q;rintro rfl;rcases hc with rfl|hc
  .rw[hfree] at e;cases e
  .rw[hfree] at hc;cases hc
 rcases hx with hk|hk
 .refine wpAny_storeName_local hk hn (λh' hn' hs=>?_) hcls;obtain⟨oL,_,_,hoL,_⟩:=id hn;refine h _ ⟨I.ok,I.os,I.bare,⟨λb o e n hb hx=>?_,λb o e n hb hx=>?_,I.base.free,λb o e hx=>?_,I.base.tups,I.base.jO,I.base.j5⟩,⟨_,hn',λj y v' e1 e2 e3=>?_⟩,λy c e=>?_,I.free,I.gZ,λp hp=>?_,tracked ⟨oL,hoL,I.free⟩ hs,by simpa using I.len⟩ ⟨_,hs,.inl rfl⟩
  .exact(hs.2 b (ne_of_lt (lt_of_lt_of_le (lt_size e) I.ok.above))).trans (I.base.keep b o e n hb hx)
  .obtain⟨sl,e1⟩:=I.base.slot b o e n hb hx;exact⟨sl,(hs.2 b (ne_of_lt (lt_of_lt_of_le (lt_size e) I.ok.above))).trans e1⟩
  .obtain⟨o',e1⟩:=I.base.there b o e hx;exact⟨o',(hs.2 b (ne_of_lt (lt_of_lt_of_le (lt_size e) I.ok.above))).trans e1⟩
  .by_cases hj:j=i
   .subst hj;rw[hi] at e1;cases e1;rw[getElem?_set_self Dg] at e2;cases e2;exact⟨u,r,.inl ⟨hk,by simp⟩⟩
   .rw[getElem?_set_ne (Ne.symm hj)] at e2;obtain⟨u',r',q⟩:=hl j y v' e1 e2 e3;refine⟨u',r',?_⟩;rcases q with⟨k,e⟩|⟨k,c,e,z⟩
    .refine .inl ⟨k,?_⟩
     have:y≠x:=λe=>hj (Df hN e1 (e▸hi))
     simp[this,e]
    .exact .inr ⟨k,c,e,z.sameBut hs (xM y c e)⟩
  .obtain⟨w',z⟩:=I.cell y c e;exact⟨w',z.sameBut hs (xM y c e)⟩
  .obtain⟨e,n,ne,nf,d⟩:=I.pin p hp;exact⟨(hs.2 p.1 ne).trans e,n,ne,nf,d⟩
 .have hfn:X.fn x=true:=by
   rcases hf with z|z
   .exact z
   .rw[z] at hk;cases hk
  obtain⟨c,hc⟩:=I.ok.has x (.inl hk);obtain⟨w',z⟩:=I.cell x c hc;refine wpAny_storeName_cell I.ok.kind hk hc z (λh' hc' hs=>?_);obtain⟨oc,hoc,agc⟩:=id z;refine h {s with heap:=h'} ⟨I.ok,I.os,I.bare,⟨λb o e n hb hx=>?_,λb o e n hb hx=>?_,I.base.free,λb o e hx=>?_,I.base.tups,I.base.jO,I.base.j5⟩,⟨m,hn.sameBut hs (Ne.symm (xM x c hc)),λj y v' e1 e2 e3=>?_⟩,λy c' e=>?_,I.free,I.gZ,λp hp=>?_,tracked ⟨oc,hoc,I.gZ x c hc⟩ hs,by simpa using I.len⟩ ⟨c,hs,.inr hc⟩
  .exact(hs.2 b (ne_of_lt (lt_of_lt_of_le (lt_size e) (I.ok.cab x c hfn hc)))).trans (I.base.keep b o e n hb hx)
  .obtain⟨sl,e1⟩:=I.base.slot b o e n hb hx;exact⟨sl,(hs.2 b (ne_of_lt (lt_of_lt_of_le (lt_size e) (I.ok.cab x c hfn hc)))).trans e1⟩
  .obtain⟨o',e1⟩:=I.base.there b o e hx;exact⟨o',(hs.2 b (ne_of_lt (lt_of_lt_of_le (lt_size e) (I.ok.cab x c hfn hc)))).trans e1⟩
  .by_cases hj:j=i
   .subst hj;rw[hi] at e1;cases e1;rw[getElem?_set_self Dg] at e2;cases e2;exact⟨u,r,.inr ⟨.inl hk,c,hc,hc'⟩⟩
   .rw[getElem?_set_ne (Ne.symm hj)] at e2;obtain⟨u',r',q⟩:=hl j y v' e1 e2 e3;refine⟨u',r',?_⟩;rcases q with q|⟨k,c',e,z'⟩
    .exact .inl q
    .refine .inr ⟨k,c',e,z'.sameBut hs ?_⟩;rintro rfl;exact hj (Df hN e1 (I.ok.inj _ _ _ e hc▸hi))
  .by_cases hcc:c'=c
   .subst hcc;exact⟨_,hc'⟩
   .obtain⟨w2,z2⟩:=I.cell y c' e;exact⟨w2,z2.sameBut hs hcc⟩
  .obtain⟨e,n,ne,nf,d⟩:=I.pin p hp;refine⟨(hs.2 p.1 ?_).trans e,n,ne,nf,d⟩;intro q;rw[q,hoc] at e;have q':oc=p.2:=Option.some.inj e;exact d w' (by rw[<-q'];exact agc)
theorem j6 {M:Model}{A:Around}{E:Value->Shared->Prop}{i:Nat}{x:Str}{v:V}{u:Value}{Q:Unit->Shared->Prop}(I:Inv X pins σ H s)(hN:X.N.Nodup)(hi:X.N[i]? =some x)(hx:Loc X.env.scope x)(r:RelV v u)
  (h:∀s',Inv X pins (σ.set i (some v)) H s'->Q () s')(hf:X.fn x=true\/X.env.scope.names.lookup x=some .local:=by first|exact .inl rfl|exact .inr rfl|assumption):wpAny M A (storeName X.env x u) Q E s:=
 Ad I hN hi hx r (λs' I' _=>h s' I') hf
theorem Inv.call' {s':Shared}{ch:List Addr}(I:Inv X pins σ H s)(ho:s'.os=s.os)(u:Un (frs X.stack) ch H H' s.heap s'.heap)(hok:d9 X.prog X.w H' s'.heap)(hg:AllBare s'.gens)
  (hch:∀b∈ch,(b∈X.ex\/X.s₀.heap.objs.size<=b)/\b≠X.env.locals/\(∀x c,X.env.cells.lookup x=some c->c≠b)/\∀p∈X.pn++pins,p.1≠b):Inv X pins σ H' s':=by
 obtain⟨h',g',d',t',o'⟩:=s';have e:o'=s.os:=ho;subst e;exact I.call (g':=g') (t':=t') (d':=d') u hok hg hch
end
noncomputable abbrev XK:=Value->Option Addr->Hp->Prop
noncomputable abbrev St:=List (Option V)
noncomputable abbrev VK:=V->Hp->Prop
noncomputable abbrev TE:=St->Hp->VK->Prop
noncomputable abbrev TT:=St->Hp->(Bool->Hp->Prop)->Prop
noncomputable abbrev TA:=St->Hp->(List V->Hp->Prop)->Prop
structure Ends where
 nx:St->Hp->Prop
 rt:VK
 bk:St->Hp->Prop:=λ_ _=>False
 ct:St->Hp->Prop:=λ_ _=>False
noncomputable abbrev TS:=Ends->St->Hp->Prop
def EP (X:Cx)(pins:List (Addr×Obj))(σ:St)(Q:VK)(u:Value)(s':Shared):Prop:=∃v H',Inv X pins σ H' s'/\RelV v u/\Q v H'
noncomputable def TP (X:Cx)(pins:List (Addr×Obj))(σ:St)(Q:Bool->Hp->Prop)(b:Bool)(s':Shared):Prop:=∃H',Inv X pins σ H' s'/\Q b H'
def AP (X:Cx)(pins:List (Addr×Obj))(σ:St)(Q:List V->Hp->Prop)(us:List Value)(s':Shared):Prop:=∃vs H',Inv X pins σ H' s'/\Vals vs us/\Q vs H'
def SP (X:Cx)(pins:List (Addr×Obj))(D:Ends)(f:Flow)(s':Shared):Prop:=
 match f with
 |.next=>∃σ' H',Inv X pins σ' H' s'/\D.nx σ' H'
 |.brk=>∃σ' H',Inv X pins σ' H' s'/\D.bk σ' H'
 |.cont=>∃σ' H',Inv X pins σ' H' s'/\D.ct σ' H'
 |.ret u=>∃v σ' H',Inv X pins σ' H' s'/\RelV v u/\D.rt v H'
def PE (X:Cx)(e:Expr)(t:TE):Prop:=
 ∀(pins:List (Addr×Obj)) (s:Shared) (σ:St) (H:Hp) (Q:VK),Inv X pins σ H s->t σ H Q->wpAny (model X.prog X.w) X.A (eval e X.env) (EP X pins σ Q) X.xe s
def PT (X:Cx)(e:Expr)(t:TT):Prop:=
 ∀(pins:List (Addr×Obj)) (s:Shared) (σ:St) (H:Hp) (Q:Bool->Hp->Prop),Inv X pins σ H s->t σ H Q->wpAny (model X.prog X.w) X.A (isTrue e X.env (eval e X.env)) (TP X pins σ Q) X.xe s
def PW (X:Cx)(e:Expr)(t:TT):Prop:=
 ∀(whole:Sem Value) (pins:List (Addr×Obj)) (s:Shared) (σ:St) (H:Hp) (Q:Bool->Hp->Prop),Inv X pins σ H s->t σ H Q->wpAny (model X.prog X.w) X.A (isTrue e X.env whole) (TP X pins σ Q) X.xe s
theorem PW.pt {X:Cx}{e:Expr}{t:TT}(h:PW X e t):PT X e t:=h _
def PA (X:Cx)(es:List Expr)(t:TA):Prop:=
 ∀(pos:Pos) (pins:List (Addr×Obj)) (s:Shared) (σ:St) (H:Hp) (Q:List V->Hp->Prop),Inv X pins σ H s->t σ H Q->wpAny (model X.prog X.w) X.A (spliced (backTo pos (starEach es X.env))) (AP X pins σ Q) X.xe s
def PS (X:Cx)(st:Stmt)(t:TS):Prop:=
 ∀(pins:List (Addr×Obj)) (s:Shared) (σ:St) (H:Hp) (D:Ends),Inv X pins σ H s->t D σ H->wpAny (model X.prog X.w) X.A (exec st X.env) (SP X pins D) X.xe s
def eX (X:Cx)(st:List Stmt)(t:TS):Prop:=
 ∀(pins:List (Addr×Obj)) (s:Shared) (σ:St) (H:Hp) (D:Ends),Inv X pins σ H s->t D σ H->wpAny (model X.prog X.w) X.A (execs st X.env) (SP X pins D) X.xe s
theorem aO {α:Type}{t:Sem α}{Q Q':α->Shared->Prop}{M:Model}{A:Around}{E:Value->Shared->Prop}{s:Shared}(h:wpAny M A t Q E s)(hQ:∀a s,Q a s->Q' a s):wpAny M A t Q' E s:=wpAny_mono h hQ λ_ _ x=>x
section
variable {X:Cx}
theorem bin {a b:Expr}{ta tb:TE}(ha:PE X a ta)(hb:PE X b tb){pins:List (Addr×Obj)}{s:Shared}{σ:St}{H:Hp}{R:V->V->Hp->Prop}(I:Inv X pins σ H s)(h:ta σ H λx H1=>tb σ H1 λy H2=>R x y H2)
  {α:Type}{Q:α->Shared->Prop}{f:Value->Value->Sem α}
  (hf:∀v u s2 x y H2,Inv X pins σ H2 s2->RelV x v->RelV y u->R x y H2->wpAny (model X.prog X.w) X.A (f v u) Q X.xe s2):
  wpAny (model X.prog X.w) X.A (eval a X.env) (λv s₁=>wpAny (model X.prog X.w) X.A (eval b X.env) (λu s₂=>wpAny (model X.prog X.w) X.A (f v u) Q X.xe s₂) X.xe s₁) X.xe s:=by
 refine aO (ha pins s σ H _ I h) λv s1 ⟨x,H1,I1,r1,q1⟩=>?_;refine aO (hb pins s1 σ H1 _ I1 q1) λu s2 ⟨y,H2,I2,r2,q2⟩=>?_;exact hf v u s2 x y H2 I2 r1 r2 q2
noncomputable def Ri (i:Nat):TE:=λσ H Q=>∃v,σ[i]? =some (some v)/\Q v H
noncomputable def tC (v:V):TE:=λ_ H Q=>Q v H
theorem Dh {i:Nat}{x:Str}{pos:Pos}(hN:X.N[i]? =some x)(hv:G7 X.env.scope x)(hd:(x==("__debug__":Str))=false:=by decide)(hcd:(x==("__classdict__":Str))=false:=by decide):PE X (.Name x pos) (Ri i):=by
 intro pins s σ H Q I h;obtain⟨v,e,h⟩:=h;obtain⟨m,hn,hl⟩:=I.loc;obtain⟨u,r,l⟩:=hl i x v hN e hv;have fin:EP X pins σ Q u s:=⟨v,H,I,r,h⟩;rcases l with⟨hk,hm⟩|⟨hk,c,hc,hcell⟩
 .exact wpAny_Name (wpAny_loadName_local I.ok.kind hk hn hm fin) hd
 .rcases hk with hk|hk
  .exact wpAny_Name (wpAny_loadName_cell I.ok.kind hk hc hcell fin) hd
  .exact wpAny_Name (wpAny_loadName_free I.ok.kind hk hc hcell fin hcd) hd
theorem aP {i j pos}:PE X (.Constant (.int i) j pos) (tC (.int i)):=λ_ _ _ H _ I h=>wpAny_Constant_int ⟨.int i,H,I.tok _,⟨_,rfl⟩,h⟩
theorem rP {b j pos}:PE X (.Constant (.bool b) j pos) (tC (.bl b)):=λ_ _ _ H _ I h=>Constant_bool ⟨.bl b,H,I,rfl,h⟩
theorem qu {j pos}:PE X (.Constant .none j pos) (tC .non):=λ_ _ _ H _ I h=>Constant_none ⟨.non,H,I,rfl,h⟩
theorem aY {x j pos}:PE X (.Constant (.str x) j pos) (tC (.str x)):=λ_ _ _ H _ I h=>Calls.Constant_str ⟨.str x,H,I.tok _,⟨_,rfl⟩,h⟩
noncomputable def Gl (X:Cx)(x:Str):Prop:=X.env.kindOf x=some .globalImplicit
theorem iZ {E:Value->Shared->Prop}{pins:List (Addr×Obj)}{s:Shared}{σ:St}{H:Hp}{x:Str}{u:Value}{pos:Pos}{Q:Value->Shared->Prop}(I:Inv X pins σ H s)(hg:Gl X x)(hm:X.mg x=some u)(h:Q u s)
  (hd:(x==("__debug__":Str))=false:=by decide):wpAny (model X.prog X.w) X.A (eval (.Name x pos) X.env) Q E s:=
 Calls.Name_function_global I.ok.kind hg (Calls.loadGlobal_global (by rw[I.ok.glob];exact I.mod.glob.keeps I.bk) hm h) hd
theorem mG {E:Value->Shared->Prop}{pins:List (Addr×Obj)}{s:Shared}{σ:St}{H:Hp}{x:Str}{u:Value}{pos:Pos}{Q:Value->Shared->Prop}(I:Inv X pins σ H s)(hg:Gl X x)(hm:X.mg x=none)(hv:bootBuiltins x=some u)(h:Q u s)
  (hn:x≠"__name__":=by decide)(hd:(x==("__debug__":Str))=false:=by decide):wpAny (model X.prog X.w) X.A (eval (.Name x pos) X.env) Q E s:=by
 obtain⟨mb,h1,h2⟩:=I.mod.blt;exact Calls.Name_function_global I.ok.kind hg (Calls.loadGlobal_builtin (by rw[I.ok.glob];exact I.mod.glob.keeps I.bk) hm (by rw[I.ok.blt];exact h1.keeps I.bk) ((h2 x hn).trans hv) h) hd
theorem g8 {x:Str}{v:V}{u:Value}{pos:Pos}(hg:Gl X x)(hm:X.mg x=some u)(r:RelV v u)(hd:(x==("__debug__":Str))=false:=by decide):PE X (.Name x pos) (tC v):=
 λ_ _ _ H _ I h=>iZ I hg hm ⟨v,H,I,r,h⟩ hd
theorem qw {x:Str}{v:V}{u:Value}{pos:Pos}(hg:Gl X x)(hm:X.mg x=none)(hv:bootBuiltins x=some u)(r:RelV v u)(hn:x≠"__name__":=by decide)(hd:(x==("__debug__":Str))=false:=by decide):PE X (.Name x pos) (tC v):=
 λ_ _ _ H _ I h=>mG I hg hm hv ⟨v,H,I,r,h⟩ hn hd
variable {a b:Expr}{ta tb:TE}{pos:Pos}
def PC (X:Cx)(op:CmpOp)(a b:Expr)(t:TE):Prop:=
 ∀(pins:List (Addr×Obj)) (s:Shared) (σ:St) (H:Hp) (Q:VK),Inv X pins σ H s->t σ H Q->
  wpAny (model X.prog X.w) X.A (eval a X.env) (λv s₁=>wpAny (model X.prog X.w) X.A (eval b X.env) (λu s₂=>wpAny (model X.prog X.w) X.A (compareOp op v u) (EP X pins σ Q) X.xe s₂) X.xe s₁) X.xe s
theorem Di (b:Expr){op:CmpOp}(h:op≠ .In)(h2:op≠ .NotIn):behindInMarks op b=false:=by
 have e1:(op==CmpOp.In)=false:=by cases op<;>first|rfl|exact absurd rfl h
 have e2:(op==CmpOp.NotIn)=false:=by cases op<;>first|rfl|exact absurd rfl h2
 cases b<;>simp[behindInMarks,e1,e2]
noncomputable def Dj (ta:TE):TE:=λσ H Q=>ta σ H λx H1=>Q (.bl (decide (x=.non))) H1
noncomputable def Vr (ta:TE):TE:=λσ H Q=>ta σ H λx H1=>Q (.bl (!decide (x=.non))) H1
theorem RelV.Dk {x:V}{v:Value}(r:RelV x v):(v==Value.none)=decide (x=.non):=by
 cases x with
 |non=>cases r;rfl
 |bl _=>cases r;rfl
 |int _=>obtain⟨t,rfl⟩:=r;rfl
 |str _=>obtain⟨t,rfl⟩:=r;rfl
 |nR _=>obtain⟨t,rfl⟩:=r;rfl
 |flt _=>obtain⟨t,rfl⟩:=r;rfl
 |ref _=>cases r;rfl
 |ty _=>cases r;rfl
theorem xO {j pos'}(ha:PE X a ta):PC X .Is a (.Constant .none j pos') (Dj ta):=by intro pins s σ H Q I h;refine aO (ha pins s σ H _ I h) λv s1 ⟨x,H1,I1,r1,q1⟩=>?_;exact Constant_none (is_none_gen ⟨.bl _,H1,I1,by rw[r1.Dk];rfl,q1⟩)
theorem Xq {j pos'}(ha:PE X a ta):PC X .IsNot a (.Constant .none j pos') (Vr ta):=by intro pins s σ H Q I h;refine aO (ha pins s σ H _ I h) λv s1 ⟨x,H1,I1,r1,q1⟩=>?_;exact Constant_none (isnot_none_gen ⟨.bl _,H1,I1,by rw[r1.Dk];rfl,q1⟩)
noncomputable def tB (t:TE):TT:=λσ H Q=>t σ H λx H1=>∃c,x=.bl c/\Q c H1
theorem Mu {op:CmpOp}{t:TE}(h:PC X op a b t)(h1:behindInMarks op b=false:=by first|exact Di _ (by decide) (by decide)|rfl):PE X (.Compare a [op] [b] pos) t:=λpins s σ H Q I hw=>wpAny_Compare1 (h pins s σ H Q I hw) h1
theorem mH {op:CmpOp}{t:TE}(h:PC X op a b t)(h1:behindInMarks op b=false:=by first|exact Di _ (by decide) (by decide)|rfl):PT X (.Compare a [op] [b] pos) (tB t):=by intro pins s σ H Q I hw;refine wpAny_isTrue_Compare1 (aO (h pins s σ H _ I hw) λv s1 h1=>aO h1 λu s2 h2=>aO h2 λc s3 ⟨x,H1,I1,r1,q1⟩=>?_) h1;obtain⟨d,rfl,q⟩:=q1;cases r1;exact wpAny_truthy_bool ⟨H1,I1,q⟩
variable {tA Vs:TT}{rest:List Expr}
noncomputable def JH (t u:TT):TT:=λσ H Q=>t σ H λc H1=>if c=true then u σ H1 Q else Q false H1
noncomputable def Mv (t u:TT):TT:=λσ H Q=>t σ H λc H1=>if c=true then Q true H1 else u σ H1 Q
noncomputable def ZK (t:TT):TT:=λσ H Q=>t σ H λc H1=>Q (!c) H1
theorem vA (ha:PT X a tA):PW X (.BoolOp .And [a] pos) tA:=by
 intro wh pins s σ H Q I h;refine isTrue_and (aO (ha pins s σ H Q I h) λc s1 e=>?_);cases c with
 |true=>exact isTrue_and_nil e
 |false=>exact e
theorem nU (ha:PT X a tA):PW X (.BoolOp .Or [a] pos) tA:=by
 intro wh pins s σ H Q I h;refine isTrue_or (aO (ha pins s σ H Q I h) λc s1 e=>?_);cases c with
 |false=>exact isTrue_or_nil e
 |true=>exact e
theorem xP (ha:PT X a tA)(hb:PW X (.BoolOp .And (b::rest) pos) Vs):PW X (.BoolOp .And (a::b::rest) pos) (JH tA Vs):=by
 intro wh pins s σ H Q I h;refine isTrue_and (aO (ha pins s σ H _ I h) λc s1 ⟨H1,I1,q1⟩=>?_);cases c with
 |true=>exact hb wh pins s1 σ H1 Q I1 q1
 |false=>exact⟨H1,I1,q1⟩
theorem o8 (ha:PT X a tA)(hb:PW X (.BoolOp .Or (b::rest) pos) Vs):PW X (.BoolOp .Or (a::b::rest) pos) (Mv tA Vs):=by
 intro wh pins s σ H Q I h;refine isTrue_or (aO (ha pins s σ H _ I h) λc s1 ⟨H1,I1,q1⟩=>?_);cases c with
 |true=>exact⟨H1,I1,q1⟩
 |false=>exact hb wh pins s1 σ H1 Q I1 q1
theorem tY (ha:PT X a tA):PT X (.UnaryOp .Not a pos) (ZK tA):=by intro pins s σ H Q I h;exact isTrue_not (ha pins s σ H (λc H1=>Q (!c) H1) I h)
noncomputable def xQ (ta tb:TE):TE:=λσ H Q=>ta σ H λx H1=>∃c,x=.bl c/\if c=true then tb σ H1 Q else Q (.bl false) H1
noncomputable def ZL (ta tb:TE):TE:=λσ H Q=>ta σ H λx H1=>∃c,x=.bl c/\if c=true then Q (.bl true) H1 else tb σ H1 Q
theorem nW {op}{t:TE}(h:PE X a t):PE X (.BoolOp op [a] pos) t:=λpins s σ H Q I hw=>BoolOp_one (h pins s σ H Q I hw)
theorem xR (ha:PE X a ta)(hb:PE X (.BoolOp .And (b::rest) pos) tb):PE X (.BoolOp .And (a::b::rest) pos) (xQ ta tb):=by
 intro pins s σ H Q I h;refine BoolOp_and (aO (ha pins s σ H _ I h) λv s1 ⟨x,H1,I1,r1,q1⟩=>?_);obtain⟨c,rfl,q1⟩:=q1;cases r1;refine wpAny_truthy_bool ?_;cases c with
 |true=>exact hb pins s1 σ H1 Q I1 q1
 |false=>exact⟨.bl false,H1,I1,rfl,q1⟩
theorem adG (ha:PE X a ta)(hb:PE X (.BoolOp .Or (b::rest) pos) tb):PE X (.BoolOp .Or (a::b::rest) pos) (ZL ta tb):=by
 intro pins s σ H Q I h;refine BoolOp_or (aO (ha pins s σ H _ I h) λv s1 ⟨x,H1,I1,r1,q1⟩=>?_);obtain⟨c,rfl,q1⟩:=q1;cases r1;refine wpAny_truthy_bool ?_;cases c with
 |false=>exact hb pins s1 σ H1 Q I1 q1
 |true=>exact⟨.bl true,H1,I1,rfl,q1⟩
noncomputable def tIf (t:TT)(ta tb:TE):TE:=λσ H Q=>t σ H λc H1=>if c=true then ta σ H1 Q else tb σ H1 Q
theorem Rj {c:Expr}(hc:PT X c tA)(ha:PE X a ta)(hb:PE X b tb):PE X (.IfExp c a b pos) (tIf tA ta tb):=by
 intro pins s σ H Q I h;refine wpAny_IfExp (aO (hc pins s σ H _ I h) λd s1 ⟨H1,I1,q1⟩=>?_);cases d with
 |true=>exact ha pins s1 σ H1 Q I1 q1
 |false=>exact hb pins s1 σ H1 Q I1 q1
end
def aU (K:Frag)(H:Hp)(a:Addr)(xs:List V):Prop:=
 Rd H a (.lst xs)\/
  ∃(o:Obj) (its:Array Value) (n:Nat),K.lookup a=some o/\o.cls=.type "list"/\o.dict=none/\o.data=.seq its n/\its.size<=sizeLine/\Vals xs its.toList
def cZ (K:Frag)(H:Hp)(a:Addr)(xs:List V):Prop:=
 Rd H a (.tup xs)\/
  ∃(o:Obj) (its:Array Value) (n:Nat),K.lookup a=some o/\o.cls=.type "tuple"/\o.data=.seq its n/\its.size<=sizeLine/\Vals xs its.toList
noncomputable def agd:Value->Option V
 |.none=>some .non
 |.bool b=>some (.bl b)
 |.int i _=>some (.int i)
 |.str x _=>some (.str x)
 |.bytes b _=>some (.nR b)
 |.float b _=>some (.flt b)
 |.ref a=>some (.ref a)
 |.type n=>some (.ty n)
 |_=>none
theorem RelV.abs {x:V}{u:Value}(r:RelV x u):agd u=some x:=by
 cases x with
 |non=>cases r;rfl
 |bl _=>cases r;rfl
 |int _=>obtain⟨t,rfl⟩:=r;rfl
 |str _=>obtain⟨t,rfl⟩:=r;rfl
 |nR _=>obtain⟨t,rfl⟩:=r;rfl
 |flt _=>obtain⟨t,rfl⟩:=r;rfl
 |ref _=>cases r;rfl
 |ty _=>cases r;rfl
theorem RelV.inj {x y:V}{u:Value}(r:RelV x u)(q:RelV y u):x=y:=Option.some.inj (r.abs.symm.trans q.abs)
theorem Vals.inj:∀{xs ys:List V}{us:List Value},Vals xs us->Vals ys us->xs=ys
 |_,_,_,.nil,.nil=>rfl
 |_,_,_,.cons r t,.cons r' t'=>by rw[r.inj r',Vals.inj t t']
section
variable {X:Cx}{pins:List (Addr×Obj)}{σ:St}{H:Hp}{s:Shared}{a:Addr}{xs ys:List V}
theorem aU.of {K:Frag}(h:H a=some (.lst xs)):aU K H a xs:=.inl (.inl h)
theorem cZ.of {K:Frag}(h:H a=some (.tup xs)):cZ K H a xs:=.inl (.inl h)
theorem Inv.list (I:Inv X pins σ H s)(h:aU X.K H a xs):∃its:List Value,Vals xs its/\PlainL s.heap a its.toArray/\xs.length<=sizeLine:=by
 rcases h with h|⟨o,its,n,hk,hc,hd,hs,hz,r⟩
 .obtain⟨z,its,n,r,e⟩:=h.ok I.hok;exact⟨its,r,⟨_,n,e,rfl,rfl,rfl⟩,z⟩
 .refine⟨its.toList,r,⟨o,n,I.dM a o hk,hc,hd,by simpa using hs⟩,?_⟩;have e:=r.length;simp only[length_toList] at e;omega
theorem Inv.tuple (I:Inv X pins σ H s)(h:cZ X.K H a xs):∃its:List Value,Vals xs its/\IsTup s.heap a its.toArray/\xs.length<=sizeLine:=by
 rcases h with h|⟨o,its,n,hk,hc,hs,hz,r⟩
 .obtain⟨z,its,r,p⟩:=h.ok I.hok;exact⟨its,r,p,z⟩
 .refine⟨its.toList,r,⟨o,I.dM a o hk,hc,n,by simpa using hs⟩,?_⟩;have e:=r.length;simp only[length_toList] at e;omega
theorem Inv.nY (I:Inv X pins σ H s)(h:aU X.K H a xs)(h':aU X.K H a ys):xs=ys:=by
 obtain⟨its,r,⟨o,n,e,_,_,d⟩,_⟩:=I.list h;obtain⟨its',r',⟨o',n',e',_,_,d'⟩,_⟩:=I.list h';rw[e] at e';cases e';rw[d] at d';injection d' with d1 _
 have:its=its':=by simpa using congrArg toList d1
 subst this;exact r.inj r'
theorem Inv.Ae (I:Inv X pins σ H s)(h:cZ X.K H a xs)(h':cZ X.K H a ys):xs=ys:=by
 obtain⟨its,r,⟨o,e,_,n,d⟩,_⟩:=I.tuple h;obtain⟨its',r',⟨o',e',_,n',d'⟩,_⟩:=I.tuple h';rw[e] at e';cases e';rw[d] at d';injection d' with d1 _
 have:its=its':=by simpa using congrArg toList d1
 subst this;exact r.inj r'
end
noncomputable abbrev Cx.wish (X:Cx)(E:Value->Shared->Prop):Cx:={X with xe:=E}
noncomputable abbrev Cx.ni (X:Cx):Cx:=X.wish λ_ _=>False
theorem Cx.Ok.wish {X:Cx}(ok:X.Ok)(E:Value->Shared->Prop):(X.wish E).Ok:=
 ⟨ok.mod,ok.kind,ok.glob,ok.blt,ok.above,ok.inj,ok.has,ok.cab,ok.hd,ok.frames,ok.stk,ok.ZJ,ok.bs,ok.tW,ok.zj,ok.Dd,ok.lH,ok.Ab⟩
theorem Cx.Ok.fP {X:Cx}{E:Value->Shared->Prop}(ok:(X.wish E).Ok):X.Ok:=
 ⟨ok.mod,ok.kind,ok.glob,ok.blt,ok.above,ok.inj,ok.has,ok.cab,ok.hd,ok.frames,ok.stk,ok.ZJ,ok.bs,ok.tW,ok.zj,ok.Dd,ok.lH,ok.Ab⟩
section
variable {X:Cx}{pins:List (Addr×Obj)}{σ:St}{H:Hp}{s:Shared}{E:Value->Shared->Prop}
theorem Inv.wish (I:Inv X pins σ H s)(E:Value->Shared->Prop):Inv (X.wish E) pins σ H s:=⟨I.ok.wish E,I.os,I.bare,I.base,I.loc,I.cell,I.free,I.gZ,I.pin,I.hok,I.len⟩
theorem Inv.fP (I:Inv (X.wish E) pins σ H s):Inv X pins σ H s:=⟨I.ok.fP,I.os,I.bare,I.base,I.loc,I.cell,I.free,I.gZ,I.pin,I.hok,I.len⟩
theorem SP.fP {D:Ends}{f:Flow}{s':Shared}(h:SP (X.wish E) pins D f s'):SP X pins D f s':=by
 cases f with
 |next=>obtain⟨σ',H',I,q⟩:=h;exact⟨σ',H',I.fP,q⟩
 |brk=>obtain⟨σ',H',I,q⟩:=h;exact⟨σ',H',I.fP,q⟩
 |cont=>obtain⟨σ',H',I,q⟩:=h;exact⟨σ',H',I.fP,q⟩
 |ret u=>obtain⟨v,σ',H',I,r,q⟩:=h;exact⟨v,σ',H',I.fP,r,q⟩
theorem eX.ni {st:List Stmt}{t:TS}(h:eX X.ni st t):eX X st t:=λpins s σ H D I hw=>
 wpAny_mono (h pins s σ H D (I.wish _) hw) (λ_ _ q=>q.fP) λ_ _ z=>False.elim z
end
section
variable {X:Cx}{st:Stmt}{rest:List Stmt}{t u:TS}{e:Expr}{te:TE}{pos:Pos}
noncomputable def jF:TS:=λD σ H=>D.nx σ H
noncomputable def dX (t u:TS):TS:=λD σ H=>t {D with nx:=u D} σ H
theorem bM:eX X [] jF:=λ_ _ σ H _ I h=>wpAny_execs_nil ⟨σ,H,I,h⟩
theorem aJ (h1:PS X st t)(h2:eX X rest u):eX X (st::rest) (dX t u):=by
 intro pins s σ H D I h;refine wpAny_execs_cons (aO (h1 pins s σ H {D with nx:=u D} I h) λf s1 q=>?_);cases f with
 |next=>
  obtain⟨σ',H',I',q⟩:=q;exact h2 pins s1 σ' H' D I' q
 |ret v=>exact q
 |brk=>exact q
 |cont=>exact q
theorem aN (h1:PS X st t):eX X [st] t:=by
 intro pins s σ H D I h;refine wpAny_execs_cons (aO (h1 pins s σ H D I h) λf s1 q=>?_);cases f with
 |next=>exact wpAny_execs_nil q
 |ret v=>exact q
 |brk=>exact q
 |cont=>exact q
theorem Inv.quiet {pins:List (Addr×Obj)}{σ:St}{H:Hp}{s:Shared}(I:Inv X pins σ H s):interactive X.env=false:=by simp[interactive,I.ok.kind]
noncomputable def jG (te:TE):TS:=λD σ H=>te σ H λ_ H1=>D.nx σ H1
theorem jH (he:PE X e te)(hs:swapsWith e none pos.line X.env=pure false:=by rfl):PS X (.Expr e pos) (jG te):=by intro pins s σ H D I h;exact wpAny_Expr_any (aO (he pins s σ H _ I h) λv s1 ⟨x,H1,I1,r1,q1⟩=>⟨σ,H1,I1,q1⟩) I.quiet hs
noncomputable def lJ (te:TE):TS:=λD σ H=>te σ H D.rt
theorem cT (he:PE X e te):PS X (.Return (some e) pos) (lJ te):=by intro pins s σ H D I h;exact wpAny_Return_some (aO (he pins s σ H _ I h) λv s1 ⟨x,H1,I1,r1,q1⟩=>⟨x,σ,H1,I1,r1,q1⟩)
noncomputable def gK (c:TT)(t u:TS):TS:=λD σ H=>c σ H λb H1=>if b=true then t D σ H1 else u D σ H1
theorem cu {c:Expr}{a b:List Stmt}{tc:TT}(hc:PT X c tc)(ha:eX X a t)(hb:eX X b u):PS X (.If c a b pos) (gK tc t u):=by
 intro pins s σ H D I h;refine wpAny_If (aO (hc pins s σ H _ I h) λd s1 ⟨H1,I1,q1⟩=>?_);cases d with
 |true=>exact ha pins s1 σ H1 D I1 q1
 |false=>exact hb pins s1 σ H1 D I1 q1
noncomputable def Mw:TS:=λ_ _ _=>False
theorem Rk:PS X st Mw:=λ_ _ _ _ _ _ h=>h.elim
theorem mJ {sts:List Stmt}:eX X sts Mw:=λ_ _ _ _ _ _ h=>h.elim
end
noncomputable abbrev TG:=V->St->Hp->(St->Hp->Prop)->Prop
noncomputable abbrev o9:=List V->St->Hp->(St->Hp->Prop)->Prop
def PG (X:Cx)(target:Expr)(t:TG):Prop:=
 ∀(pins:List (Addr×Obj)) (s:Shared) (σ:St) (H:Hp) (v:V) (u:Value) (Q:St->Hp->Prop),Inv X pins σ H s->RelV v u->t v σ H Q->
  wpAny (model X.prog X.w) X.A (assign target X.env u) (λ_ s'=>∃σ' H',Inv X pins σ' H' s'/\Q σ' H') X.xe s
def jP (X:Cx)(ts:List Expr)(t:o9):Prop:=
 ∀(pins:List (Addr×Obj)) (s:Shared) (σ:St) (H:Hp) (vs:List V) (us:List Value) (Q:St->Hp->Prop),Inv X pins σ H s->Vals vs us->t vs σ H Q->
  wpAny (model X.prog X.w) X.A (assignInOrder ((assignEach ts X.env).map (·.2)) us) (λ_ s'=>∃σ' H',Inv X pins σ' H' s'/\Q σ' H') X.xe s
noncomputable abbrev zm:=V->V->V->Hp->(Hp->Prop)->Prop
def tZ (X:Cx)(t:zm):Prop:=
 ∀(pins:List (Addr×Obj)) (s:Shared) (σ:St) (H:Hp) (o i v:V) (ov iv u:Value) (Q:Hp->Prop),Inv X pins σ H s->RelV o ov->RelV i iv->RelV v u->t o i v H Q->
  wpAny (model X.prog X.w) X.A (setItem ov iv u) (λ_ s'=>∃H',Inv X pins σ H' s'/\Q H') X.xe s
noncomputable abbrev Dl:=V->V->Hp->VK->Prop
def uc (X:Cx)(op:Operator)(t:Dl):Prop:=
 ∀(pins:List (Addr×Obj)) (s:Shared) (σ:St) (H:Hp) (x y:V) (v u:Value) (Q:VK),Inv X pins σ H s->RelV x v->RelV y u->t x y H Q->
  wpAny (model X.prog X.w) X.A (inplaceOp op v u) (EP X pins σ Q) X.xe s
section
variable {X:Cx}{pos:Pos}
noncomputable def cN (i:Nat):TG:=λv σ H Q=>Q (σ.set i (some v)) H
theorem jJ {i:Nat}{x:Str}(hN:X.N.Nodup)(hi:X.N[i]? =some x)(hx:Loc X.env.scope x)(hf:X.fn x=true\/X.env.scope.names.lookup x=some .local:=by first|exact .inl rfl|exact .inr rfl|assumption):PG X (.Name x pos) (cN i):=by intro pins s σ H v u Q I r h;exact wpAny_assign_Name (j6 I hN hi hx r (λs' I'=>⟨_,H,I',h⟩) hf)
noncomputable def Dm:o9:=λvs σ H Q=>vs=[]/\Q σ H
noncomputable def jW (t:TG)(u:o9):o9:=λvs σ H Q=>∃v r,vs=v::r/\t v σ H λσ' H'=>u r σ' H' Q
theorem zp:jP X [] Dm:=by intro pins s σ H vs us Q I r h;obtain⟨e,h⟩:=h;subst e;cases r;exact assignInOrder_nil ⟨σ,H,I,h⟩
theorem iM {e:Expr}{es:List Expr}{t:TG}{u:o9}(h1:PG X e t)(h2:jP X es u)
  (hs:(assignEach (e::es) X.env).map (·.2)=assign e X.env::(assignEach es X.env).map (·.2):=by rfl):jP X (e::es) (jW t u):=by
 intro pins s σ H vs us Q I r h;obtain⟨v,vr,e1,h⟩:=h;subst e1;cases r with
 |cons r rr=>rw[hs];refine assignInOrder_cons (aO (h1 pins s σ H _ _ _ I r h) λ_ s1 ⟨σ1,H1,I1,q1⟩=>?_);exact h2 pins s1 σ1 H1 _ _ Q I1 rr q1
def Dp (K:Frag)(n:Nat)(t:o9):TG:=λv σ H Q=>∃a xs,v=.ref a/\cZ K H a xs/\xs.length=n/\t xs σ H Q
theorem xT {es:List Expr}{k:Nat}{t:o9}{n:Nat}(hc:X.calm=true)(h:jP X es t)
  (hn:(assignEach es X.env).length=n:=by rfl)(hst:(assignEach es X.env).findIdx? (·.1)=none:=by rfl):PG X (.Tuple es k pos) (Dp X.K n t):=by
 intro pins s σ H v u Q I r hw;obtain⟨a,xs,e1,hq,hl,hw⟩:=hw;subst e1;cases r;obtain⟨its,rv,ht,hz⟩:=I.tuple hq;refine assign_Tuple_tuple (I.ok.hd hc) ht (by simp[hn,←hl,rv.length]) hst λh' hx=>?_;have I1:Inv X pins σ H {s with heap:=h'}:=I.kept (t':=s.toks) λb o e=>hx b o (ne_of_lt (lt_size e)) e;exact h pins _ σ H xs _ Q I1 (by simpa using rv) hw
noncomputable def ZM (to ti:TE)(t:zm):TG:=λv σ H Q=>to σ H λo H1=>ti σ H1 λi H2=>t o i v H2 λH3=>Q σ H3
theorem ZP {o i:Expr}{to ti:TE}{t:zm}(ho:PE X o to)(hi:PE X i ti)(hs:tZ X t)
  (ha:∀v,assign (.Subscript o i pos) X.env v=(do
   let ov<-holding [v] (eval o X.env);let iv<-holding [v,ov] (eval i X.env)
   standAt pos
   holding [v,ov,iv] (setItem ov iv v)
   release [v,ov,iv] []):=by intro _;rfl):PG X (.Subscript o i pos) (ZM to ti t):=by
 intro pins s σ H v u Q I r h;rw[ha];refine wpAny_bind (wpAny_holding (aO (ho pins s σ H _ I h) λov s1 ⟨x,H1,I1,r1,q1⟩=>?_));refine wpAny_bind (wpAny_holding (aO (hi pins s1 σ H1 _ I1 q1) λiv s2 ⟨y,H2,I2,r2,q2⟩=>?_));refine wpAny_bind (wpAny_standAt (wpAny_bind (wpAny_holding (aO (hs pins s2 σ H2 x y v ov iv u _ I2 r1 r2 r q2) λ_ s3 ⟨H3,I3,q3⟩=>?_))));exact wpAny_release ⟨σ,H3,I3,q3⟩
noncomputable def gM (te:TE)(g:TG):TS:=λD σ H=>te σ H λx H1=>g x σ H1 D.nx
theorem Mx {tg e:Expr}{te:TE}{g:TG}(he:PE X e te)(hg:PG X tg g)(hs:swapsWithSole [tg] e pos.line X.env=pure false:=by rfl)(hw:swappedStores [tg] e X.env=pure none:=by rfl)
  (h1:(assignEach [tg] X.env).map (·.2)=[assign tg X.env]:=by rfl):PS X (.Assign [tg] e pos) (gM te g):=by
 intro pins s σ H D I h;refine wpAny_Assign_stores (aO (he pins s σ H _ I h) λv s1 ⟨x,H1,I1,r1,q1⟩=>?_) hs hw;rw[h1];exact aO (hg pins s1 σ H1 x v _ I1 r1 q1) λ_ s2 q=>q
theorem cU {i:Nat}{x:Str}{e:Expr}{te:TE}{pos':Pos}(hN:X.N.Nodup)(hi:X.N[i]? =some x)(hx:Loc X.env.scope x)(he:PE X e te)(hs:swapsWith e (some (.Name x pos')) pos.line X.env=pure false:=by rfl)(hf:X.fn x=true\/X.env.scope.names.lookup x=some .local:=by first|exact .inl rfl|exact .inr rfl|assumption):
  PS X (.Assign [.Name x pos'] e pos) (gM te (cN i)):=by
 intro pins s σ H D I h;refine wpAny_Assign_Name (aO (he pins s σ H _ I h) λv s1 ⟨y,H1,I1,r1,q1⟩=>?_) hs;exact j6 I1 hN hi hx r1 (λs2 I2=>⟨_,H1,I2,q1⟩) hf
noncomputable def agf (i:Nat)(te:TE)(ti:Dl):TS:=λD σ H=>∃x,σ[i]? =some (some x)/\te σ H λy H1=>ti x y H1 λz H2=>D.nx (σ.set i (some z)) H2
theorem ZQ {i:Nat}{x:Str}{e:Expr}{te:TE}{op:Operator}{ti:Dl}{pos':Pos}(hN:X.N.Nodup)(hi:X.N[i]? =some x)(hx:Loc X.env.scope x)(he:PE X e te)(ho:uc X op ti)(hf:X.fn x=true\/X.env.scope.names.lookup x=some .local:=by first|exact .inl rfl|exact .inr rfl|assumption):
  PS X (.AugAssign (.Name x pos') op e pos) (agf i te ti):=by
 intro pins s σ H D I h;obtain⟨v,e1,h⟩:=h;obtain⟨m,hn,hl⟩:=I.loc;have vis:G7 X.env.scope x:=by rcases hx with k|k;exact .inl k;exact .inr (.inl k)
 obtain⟨u,r,l⟩:=hl i x v hi e1 vis;refine wpAny_AugAssign_Name ?_;have go:wpAny (model X.prog X.w) X.A (eval e X.env) (λw s₂=>wpAny (model X.prog X.w) X.A (inplaceOp op u w) (λr s₃=>wpAny (model X.prog X.w) X.A (storeName X.env x r) (λ_=>SP X pins D .next) X.xe s₃) X.xe s₂) X.xe s:=by refine aO (he pins s σ H _ I h) λw s1 ⟨y,H1,I1,r1,q1⟩=>?_;refine aO (ho pins s1 σ H1 v y u w _ I1 r r1 q1) λz s2 ⟨zv,H2,I2,r2,q2⟩=>?_;exact j6 I2 hN hi hx r2 (λs3 I3=>⟨_,H2,I3,q2⟩) hf
 rcases l with⟨hk,hm⟩|⟨hk,c,hc,hcell⟩
 .exact wpAny_loadName_local I.ok.kind hk hn hm go
 .rcases hk with hk|hk
  .exact wpAny_loadName_cell I.ok.kind hk hc hcell go
  .rcases hx with k|k
   .have:X.env.scope.names.lookup x=some .free:=hk
    rw[k] at this;cases this
   .have:X.env.scope.names.lookup x=some .free:=hk
    rw[k] at this;cases this
noncomputable def Vt (to ti te:TE)(JK:V->V->Hp->VK->Prop)(Vu:Dl)(JL:zm):TS:=λD σ H=>to σ H λo H1=>ti σ H1 λi H2=>JK o i H2 λx H3=>te σ H3 λy H4=>Vu x y H4 λz H5=>JL o i z H5 λH6=>D.nx σ H6
def ZR (X:Cx)(t:V->V->Hp->VK->Prop):Prop:=
 ∀(pins:List (Addr×Obj)) (s:Shared) (σ:St) (H:Hp) (o i:V) (ov iv:Value) (Q:VK),Inv X pins σ H s->RelV o ov->RelV i iv->t o i H Q->
  wpAny (model X.prog X.w) X.A (getItem ov iv) (EP X pins σ Q) X.xe s
theorem G9 {o i e:Expr}{to ti te:TE}{JK:V->V->Hp->VK->Prop}{Vu:Dl}{JL:zm}{op:Operator}{tpos:Pos}(ho:PE X o to)(hi:PE X i ti)(hg:ZR X JK)(he:PE X e te)(hp:uc X op Vu)(hs:tZ X JL)
  (ha:∀ov iv new,augStore i ov iv new=(do holding [new,ov,iv] (setItem ov iv new);release [new,ov,iv] [];pure .next):=by intros;rfl):PS X (.AugAssign (.Subscript o i tpos) op e pos) (Vt to ti te JK Vu JL):=by
 intro pins s σ H D I h;refine wpAny_AugAssign_SubscriptAny (aO (ho pins s σ H _ I h) λov s1 ⟨x1,H1,I1,r1,q1⟩=>?_) ha;refine aO (hi pins s1 σ H1 _ I1 q1) λiv s2 ⟨x2,H2,I2,r2,q2⟩=>?_;refine aO (hg pins s2 σ H2 x1 x2 ov iv _ I2 r1 r2 q2) λold s3 ⟨x3,H3,I3,r3,q3⟩=>?_;refine aO (he pins s3 σ H3 _ I3 q3) λv s4 ⟨x4,H4,I4,r4,q4⟩=>?_;refine aO (hp pins s4 σ H4 x3 x4 old v _ I4 r3 r4 q4) λnew s5 ⟨x5,H5,I5,r5,q5⟩=>?_;exact aO (hs pins s5 σ H5 x1 x2 x5 ov iv new _ I5 r1 r2 r5 q5) λ_ s6 ⟨H6,I6,q6⟩=>⟨σ,H6,I6,q6⟩
noncomputable def ipI (f:Int->Int->Int):Dl:=λx y H Q=>∃i j,x=.int i/\y=.int j/\Q (.int (f i j)) H
theorem ZS:uc X .Add (ipI λi j=>i+j):=by intro pins s σ H x y v u Q I r1 r2 h;obtain⟨i,j,e1,e2,q⟩:=h;subst e1;subst e2;obtain⟨t,rfl⟩:=r1;obtain⟨t',rfl⟩:=r2;exact iadd_int ⟨.int _,H,I.tok _,⟨_,rfl⟩,q⟩
theorem ZV:uc X .Sub (ipI λi j=>i - j):=by intro pins s σ H x y v u Q I r1 r2 h;obtain⟨i,j,e1,e2,q⟩:=h;subst e1;subst e2;obtain⟨t,rfl⟩:=r1;obtain⟨t',rfl⟩:=r2;exact isub_int ⟨.int _,H,I.tok _,⟨_,rfl⟩,q⟩
end
section
variable {X:Cx}{pos:Pos}
def Mz (c:TT)(tb:TS):TS:=λD σ H=>∃W:Nat->St->Hp->Prop,(∃m,W m σ H)/\∀m σ H,W m σ H->
 c σ H λb H1=>if b=true then ∃N:St->Hp->Prop,(∀σ' H',N σ' H'->∃m',m'<m/\W m' σ' H')/\tb {D with nx:=N,ct:=N,bk:=D.nx} σ H1 else D.nx σ H1
theorem Rm {c:Expr}{body:List Stmt}{tc:TT}{tb:TS}(hp:PassesOwn (model X.prog X.w) X.A X.env X.xe)(hc:PT X c tc)(hb:eX X body tb):PS X (.While c body [] pos) (Mz tc tb):=by
 intro pins s σ H D I h;obtain⟨W,⟨m0,w0⟩,turn⟩:=h;refine wpAny_While (codeAny_whileLoop (λn s'=>∃σ' H',Inv X pins σ' H' s'/\W n σ' H') ?_ m0 ⟨σ,H,I,w0⟩);rintro n s1 ⟨σ1,H1,I1,w1⟩;refine wpAny_passesOwn hp (aO (hc pins s1 σ1 H1 _ I1 (turn n σ1 H1 w1)) λb s2 ⟨H2,I2,q2⟩=>?_);cases b with
 |true=>
  obtain⟨N,hN,q2⟩:=q2;rw[if_pos rfl];refine wpAny_passesOwn hp (aO (hb pins s2 σ1 H2 _ I2 q2) λf s3 q3=>?_);cases f with
  |next=>
   obtain⟨σ3,H3,I3,n3⟩:=q3;obtain⟨m',hm,w3⟩:=hN σ3 H3 n3;exact⟨m',hm,σ3,H3,I3,w3⟩
  |cont=>
   obtain⟨σ3,H3,I3,n3⟩:=q3;obtain⟨m',hm,w3⟩:=hN σ3 H3 n3;exact⟨m',hm,σ3,H3,I3,w3⟩
  |brk=>exact q3
  |ret v=>exact q3
 |false=>rw[if_neg Bool.false_ne_true];exact wpAny_execs_nil ⟨σ1,H2,I2,q2⟩
end
structure It where
 go:Nat->Hp->Prop
 wj:Nat->Hp->V->Hp->Prop
 stop:Nat->Hp->Prop
def iQ (X:Cx)(pins:List (Addr×Obj))(H:Hp)(b:Addr):Prop:=
 H b=none/\b≠X.env.locals/\b∉X.fs/\(b∈X.ex\/X.s₀.heap.objs.size<=b)/\(∀x c,X.env.cells.lookup x=some c->c≠b)/\∀p∈X.pn++pins,p.1≠b
theorem Inv.pW {X:Cx}{pins:List (Addr×Obj)}{σ:St}{H H':Hp}{s:Shared}{b:Addr}(I:Inv X pins σ H s)(hb:s.heap.objs.size<=b)(hn:H' b=none):iQ X pins H' b:=by
 refine⟨hn,ne_of_gt (lt_of_lt_of_le I.lt hb),I.agb hb,.inr (le_trans I.sz hb),λx c e z=>?_,λp hp z=>?_⟩
 .obtain⟨v,q⟩:=I.cell x c e;exact absurd (lt_of_lt_of_le q.lt (by rw[z];exact hb)) (lt_irrefl _)
 .exact absurd (lt_of_lt_of_le (lt_size (I.pin p hp).1) (by rw[z];exact hb)) (lt_irrefl _)
structure Turn (P:Program)(w:World)(K:Frag)(tg:Expr)(J:It)(fp:List Addr)(it:Addr)(tn:Nat->Heap->Prop):Prop where
 mem:it∈fp
 obj:∀i h,tn i h->∀b∈fp,∃o,h.get? b=some o/\∀v,o.data≠ .cell v
 keep:∀i h h',tn i h->(∀b∈fp,∀o,h.get? b=some o->h'.get? b=some o)->tn i h'
 item:∀(X:Cx),X.prog=P->X.w=w->X.K=K->X.calm=true->∀(i:Nat) (pins:List (Addr×Obj)) (s:Shared) (σ:St) (H:Hp) (E:Value->Shared->Prop),Inv X pins σ H s->(∀b∈fp,iQ X pins H b)->tn i s.heap->J.go i H->
  wpAny (model P w) X.A (pyNext (.ref it)) (λr s1=>∃u,r=some u/\
   wpAny (model P w) X.A (letOwnedTupleGo tg (.ref it) u) (λ_ s2=>∃x H',Inv X pins σ H' s2/\RelV x u/\J.wj i H x H'/\tn (i+1) s2.heap/\∀b∈fp,H' b=none) E s1) E s
 done:∀(X:Cx),X.prog=P->X.w=w->X.K=K->X.calm=true->∀(i:Nat) (pins:List (Addr×Obj)) (s:Shared) (σ:St) (H:Hp) (E:Value->Shared->Prop),Inv X pins σ H s->(∀b∈fp,iQ X pins H b)->tn i s.heap->J.stop i H->
  wpAny (model P w) X.A (pyNext (.ref it)) (λr s1=>r=none/\Inv X pins σ H s1) E s
 self:∀(A:Around) (i:Nat) (s:Shared) (Q:Value->Shared->Prop) (E:Value->Shared->Prop),tn i s.heap->Q (.ref it) s->wpAny (model P w) A (pyIter (.ref it)) Q E s
noncomputable abbrev TI:=St->Hp->(It->Hp->Prop)->Prop
def PIE (X:Cx)(pins:List (Addr×Obj))(σ:St)(tg:Expr)(R:It->Hp->Prop)(itv:Value)(s2:Shared):Prop:=
 ∃(it:Addr) (fp:List Addr) (tn:Nat->Heap->Prop) (J:It) (H':Hp),itv=.ref it/\Inv X pins σ H' s2/\Turn X.prog X.w X.K tg J fp it tn/\tn 0 s2.heap/\(∀b∈fp,iQ X pins H' b)/\R J H'
def PI (X:Cx)(tg iter:Expr)(wi:TI):Prop:=
 ∀(pins:List (Addr×Obj)) (s:Shared) (σ:St) (H:Hp) (R:It->Hp->Prop),Inv X pins σ H s->wi σ H R->
  wpAny (model X.prog X.w) X.A (eval iter X.env) (λv s1=>wpAny (model X.prog X.w) X.A (pyIter v) (PIE X pins σ tg R) X.xe s1) X.xe s
theorem Ca {M:Model}{A:Around}{E:Value->Shared->Prop}{s:Shared}{tg:Expr}{it:Addr}{u:Value}{o:Obj}{n:String}{vs:Array Value}{Q:Unit->Shared->Prop}(ho:s.heap.get? it=some o)(hc:o.cls=.type n)(hd:o.data=.fields vs)
    (hn:["enumerate","zip","dict_itemiterator","dict_reverseitemiterator","odict_iterator","itertools.zip_longest","itertools.pairwise"].contains n=false)(hQ:Q () s):wpAny M A (letOwnedTupleGo tg (.ref it) u) Q E s:=by
  unfold letOwnedTupleGo;cases tg<;>first
    |exact wpAny_pure hQ
    |(cases u<;>first
        |exact wpAny_pure hQ
        |(refine wpAny_bind (wpAny_load ho ?_)
          rw[hc,hd];show wpAny M A (if(["enumerate","zip","dict_itemiterator","dict_reverseitemiterator","odict_iterator","itertools.zip_longest","itertools.pairwise"].contains n && vs[0]? ==some (rawInt _))=true then _ else _) Q E s;rw[if_neg (by intro h;rw[hn,Bool.false_and] at h;cases h)];exact wpAny_pure hQ))
def ud (K:Frag)(a:Addr):It:=
 ⟨λi H=>∃xs x,aU K H a xs/\xs[i]? =some x,λi H x H'=>H'=H/\∀xs,aU K H a xs->xs[i]? =some x,λi H=>∃xs,aU K H a xs/\xs.length<=i⟩
def ZW (K:Frag)(a:Addr):It:=
 ⟨λi H=>∃xs x,cZ K H a xs/\xs[i]? =some x,λi H x H'=>H'=H/\∀xs,cZ K H a xs->xs[i]? =some x,λi H=>∃xs,cZ K H a xs/\xs.length<=i⟩
noncomputable def Vv (lo:Int)(n:Nat):It:=⟨λi _=>i<n,λi H x H'=>H'=H/\x=.int (lo+i),λi _=>n<=i⟩
theorem MF {P:Program}{w:World}{K:Frag}{tg:Expr}(a it:Addr):Turn P w K tg (ud K a) [it] it (λi h=>h.IsListIter it a i) where
 mem:=by simp
 obj:=λi h st b hb=>by
  have e:b=it:=by simpa using hb
  subst e;obtain⟨o,e,c,d⟩:=st;exact⟨o,e,λv z=>by rw[d] at z;cases z⟩
 keep:=λi h h' st k=>st.at λo e=>k it (by simp) o e
 item:=by intro X hP hw hK hc i pins s σ H E I hf st hg;subst hP hw hK;obtain⟨xs,x,hq,hx⟩:=hg;obtain⟨its,rv,p,hz⟩:=I.list hq;obtain⟨u,hu,ru⟩:=rv.get hx;obtain⟨f0,f1,f2,f3,f4,f5⟩:=hf it (by simp);refine wpAny_pyNext_list_item st p.isList (x:=u) (by simpa using hu) λh' st' sb=>?_;have I1:Inv X pins σ H {s with heap:=h'}:=I.turned (t':=s.toks) (λb o hb e=>(sb.2 b hb).trans e) f0 f1 f3 f4 f5;obtain⟨o,e,c,d⟩:=id st';exact⟨u,rfl,Ca (s:={s with heap:=h'}) e c d (by decide) ⟨x,H,I1,ru,⟨rfl,λys hy=>by rw[I.nY hy hq];exact hx⟩,st',λb hb=>(hf b hb).1⟩⟩
 done:=by intro X hP hw hK hc i pins s σ H E I hf st hg;subst hP hw hK;obtain⟨xs,hq,hx⟩:=hg;obtain⟨its,rv,p,hz⟩:=I.list hq;obtain⟨f0,f1,f2,f3,f4,f5⟩:=hf it (by simp);have hl:=rv.length;exact wpAny_pyNext_list_end (I.ok.hd hc) st p.isList (by simp;omega) λh' eb=>⟨rfl,I.turned (t':=s.toks) (λb o hb e=>eb b o hb e) f0 f1 f3 f4 f5⟩
 self:=λ_ _ _ _ _ st h=>wpAny_pyIter_listiter st h
theorem JM {P:Program}{w:World}{K:Frag}{tg:Expr}(a it:Addr):Turn P w K tg (ZW K a) [it] it (λi h=>h.IsTupleIter it a i) where
 mem:=by simp
 obj:=λi h st b hb=>by
  have e:b=it:=by simpa using hb
  subst e;obtain⟨o,e,c,d⟩:=st;exact⟨o,e,λv z=>by rw[d] at z;cases z⟩
 keep:=λi h h' st k=>st.at λo e=>k it (by simp) o e
 item:=by intro X hP hw hK hc i pins s σ H E I hf st hg;subst hP hw hK;obtain⟨xs,x,hq,hx⟩:=hg;obtain⟨its,rv,p,hz⟩:=I.tuple hq;obtain⟨u,hu,ru⟩:=rv.get hx;obtain⟨f0,f1,f2,f3,f4,f5⟩:=hf it (by simp);refine wpAny_pyNext_tuple_item st (show s.heap.IsTuple a its.toArray from p) (x:=u) (by simpa using hu) λh' st' sb=>?_;have I1:Inv X pins σ H {s with heap:=h'}:=I.turned (t':=s.toks) (λb o hb e=>(sb.2 b hb).trans e) f0 f1 f3 f4 f5;obtain⟨o,e,c,d⟩:=id st';exact⟨u,rfl,Ca (s:={s with heap:=h'}) e c d (by decide) ⟨x,H,I1,ru,⟨rfl,λys hy=>by rw[I.Ae hy hq];exact hx⟩,st',λb hb=>(hf b hb).1⟩⟩
 done:=by intro X hP hw hK hc i pins s σ H E I hf st hg;subst hP hw hK;obtain⟨xs,hq,hx⟩:=hg;obtain⟨its,rv,p,hz⟩:=I.tuple hq;obtain⟨f0,f1,f2,f3,f4,f5⟩:=hf it (by simp);have hl:=rv.length;exact wpAny_pyNext_tuple_end (I.ok.hd hc) st (show s.heap.IsTuple a its.toArray from p) (by simp;omega) λh' eb=>⟨rfl,I.turned (t':=s.toks) (λb o hb e=>eb b o hb e) f0 f1 f3 f4 f5⟩
 self:=λ_ _ _ _ _ st h=>wpAny_pyIter_tupleiter st h
theorem JN {P:Program}{w:World}{K:Frag}{tg:Expr}(it:Addr)(lo:Int)(n:Nat):Turn P w K tg (Vv lo n) [it] it (λi h=>IsRangeIter h it (lo+(i:Nat)*1) ((n:Int) - (i:Nat)) 1) where
 mem:=by simp
 obj:=λi h st b hb=>by
  have e:b=it:=by simpa using hb
  subst e;exact⟨_,st,λv z=>by
   have z':Data.fields _=Data.cell v:=z;cases z'⟩
 keep:=λi h h' st k=>k it (by simp) _ st
 item:=by intro X hP hw hK hc i pins s σ H E I hf st hg;subst hP hw hK;obtain⟨f0,f1,f2,f3,f4,f5⟩:=hf it (by simp);have W:=Walks.range (prog:=X.prog) (w:=X.w) (I.ok.hd hc) it lo 1 n;refine W.item i s _ _ hg st λv h' tk hv st' kk=>?_;obtain⟨t,rfl⟩:=hv;have I1:Inv X pins σ H {s with heap:=h',toks:=tk}:=I.turned (λb o hb e=>kk b o (by simpa using hb) e) f0 f1 f3 f4 f5;refine⟨_,rfl,Ca (s:={s with heap:=h',toks:=tk}) (n:="range_iterator") st' rfl rfl (by decide) ⟨.int (lo+i),H,I1,⟨t,?_⟩,⟨rfl,rfl⟩,st',λb hb=>(hf b hb).1⟩⟩;rw[Int.mul_one]
 done:=by intro X hP hw hK hc i pins s σ H E I hf st hg;subst hP hw hK;obtain⟨f0,f1,f2,f3,f4,f5⟩:=hf it (by simp);exact wpAny_pyNext_range_end (I.ok.hd hc) st (by have:n<=i:=hg;omega) λh' eb=>⟨rfl,I.turned (t':=s.toks) (λb o hb e=>eb b o hb e) f0 f1 f3 f4 f5⟩
 self:=λ_ _ _ _ _ st h=>wpAny_pyIter_rangeiter st h
section
variable {X:Cx}{tg:Expr}
def vD (K:Frag)(tl:TE):TI:=λσ H R=>tl σ H λx H1=>∃a,x=.ref a/\(∃xs,aU K H1 a xs)/\R (ud K a) H1
def ZX (K:Frag)(tl:TE):TI:=λσ H R=>tl σ H λx H1=>∃a,x=.ref a/\(∃xs,cZ K H1 a xs)/\R (ZW K a) H1
theorem qx {l:Expr}{tl:TE}(hl:PE X l tl):PI X tg l (vD X.K tl):=by
 intro pins s σ H R I h;refine aO (hl pins s σ H _ I h) λv s1 ⟨x,H1,I1,r1,q1⟩=>?_;obtain⟨a,e,⟨xs,hq⟩,q⟩:=q1;subst e;cases r1;obtain⟨its,rv,p,hz⟩:=I1.list hq;refine wpAny_pyIter_list p.isList ?_;refine⟨s1.heap.objs.size,[s1.heap.objs.size],_,_,H1,rfl,I1.kept (t':=s1.toks) λb o e=>get?_push_of_some _ e,MF a _,⟨_,get?_push_size _ rfl,rfl,rfl⟩,λb hb=>?_,q⟩;have e:b=s1.heap.objs.size:=by simpa using hb
 subst e;exact I1.pW (le_refl _) (I1.hok.fresh (le_refl _))
theorem Z0 {l:Expr}{tl:TE}(hl:PE X l tl):PI X tg l (ZX X.K tl):=by
 intro pins s σ H R I h;refine aO (hl pins s σ H _ I h) λv s1 ⟨x,H1,I1,r1,q1⟩=>?_;obtain⟨a,e,⟨xs,hq⟩,q⟩:=q1;subst e;cases r1;obtain⟨its,rv,p,hz⟩:=I1.tuple hq;refine wpAny_pyIter_tuple (show s1.heap.IsTuple a its.toArray from p) ?_;refine⟨s1.heap.objs.size,[s1.heap.objs.size],_,_,H1,rfl,I1.kept (t':=s1.toks) λb o e=>get?_push_of_some _ e,JM a _,⟨_,get?_push_size _ rfl,rfl,rfl⟩,λb hb=>?_,q⟩;have e:b=s1.heap.objs.size:=by simpa using hb
 subst e;exact I1.pW (le_refl _) (I1.hok.fresh (le_refl _))
theorem Rn {pins:List (Addr×Obj)}{σ:St}{H:Hp}{s:Shared}{R:It->Hp->Prop}{E:Value->Shared->Prop}{lo hi:Int}{t u v:Tok}{tk:Nat}(I:Inv X pins σ H s)(h1: -(2^62)<=lo)(h2:lo<2^62)(h3: -(2^62)<=hi)(h4:hi<2^62)
  (q:R (Vv lo (hi - lo).toNat) H):wpAny (model X.prog X.w) X.A (pyIter (.ref s.heap.objs.size)) (PIE X pins σ tg R) E {s with heap:=s.heap.push {cls:=.type "range",data:=.fields #[.int lo t,.int hi u,.int 1 v]},toks:=tk}:=by
 refine wpAny_pyIter_range (IsRange.new ..) (small_one h1 h2 h3 h4) ?_;have I1:Inv X pins σ H {s with heap:=s.heap.push {cls:=.type "range",data:=.fields #[.int lo t,.int hi u,.int 1 v]},toks:=tk}:=I.kept λb o e=>get?_push_of_some _ e;refine⟨(s.heap.push {cls:=.type "range",data:=.fields #[.int lo t,.int hi u,.int 1 v]}).objs.size,[(s.heap.push {cls:=.type "range",data:=.fields #[.int lo t,.int hi u,.int 1 v]}).objs.size],_,_,H,rfl,
  I1.kept (t':=tk) λb o e=>get?_push_of_some _ e,JN _ lo (hi - lo).toNat,?_,λb hb=>?_,q⟩
 .have e1:lo+((0:Nat):Int)*1=lo:=by simp
  have e2:(((hi - lo).toNat:Nat):Int) - ((0:Nat):Int)=Builtin.Range.rangeSize lo hi 1:=by rw[rangeSize_one];split<;>omega
  show IsRangeIter _ _ (lo+((0:Nat):Int)*1) ((((hi - lo).toNat:Nat):Int) - ((0:Nat):Int)) 1;rw[e1,e2];exact get?_push_size _ rfl
 .have e:b=(s.heap.push {cls:=.type "range",data:=.fields #[.int lo t,.int hi u,.int 1 v]}).objs.size:=by simpa using hb
  subst e;exact I1.pW (le_refl _) (I1.hok.fresh (le_refl _))
def Vw (ta:TA):TI:=λσ H R=>ta σ H λvs H1=>∃j:Int,vs=[.int j]∧-(2^62)<=j/\j<2^62/\R (Vv 0 j.toNat) H1
theorem Af {a:Expr}{ta:TA}{p pos:Pos}(hg:Gl X "range")(hm:X.mg "range"=none)(ha:PA X [a] ta)(hs:starEach [a] X.env=[(false,eval a X.env)]:=by rfl):PI X tg (.Call (.Name "range" p) [a] [] pos) (Vw ta):=by
 intro pins s σ H R I h;refine Call_ (mG I hg hm boot_range (PyProof.Rows.callWith_type1 (aO (ha pos pins s σ H _ I h) λus s1 ⟨vs,H1,I1,r1,q1⟩=>?_) hs rfl));obtain⟨j,e,q1,q2,q⟩:=q1;subst e;cases r1 with
 |cons r rr=>cases rr;obtain⟨t,rfl⟩:=r;exact call_range_1 (Rn I1 (by omega) (by omega) q1 q2 (by simpa using q))
def Dq (wi:TI)(g:TG)(tb:TS):TS:=λD σ H=>wi σ H λJ H1=>∃W:Nat->Nat->St->Hp->Prop,(∃m,W 0 m σ H1)/\∀i m σ H,W i m σ H->
 (J.stop i H/\D.nx σ H)\/(J.go i H/\∃N:St->Hp->Prop,(∀σ' H',N σ' H'->∃m',m'<m/\W (i+1) m' σ' H')/\∀x H',J.wj i H x H'->g x σ H' λσ2 H2=>tb {D with nx:=N,ct:=N,bk:=D.nx} σ2 H2)
noncomputable def mK (fp:List Addr)(h:Heap):List (Addr×Obj):=fp.filterMap λb=>(h.get? b).map λo=>(b,o)
theorem f9 {fp:List Addr}{h:Heap}{b:Addr}{o:Obj}(hb:b∈fp)(e:h.get? b=some o):(b,o)∈mK fp h:=List.mem_filterMap.mpr ⟨b,hb,by rw[e];rfl⟩
theorem Ag {fp:List Addr}{h:Heap}{p:Addr×Obj}(hp:p∈mK fp h):p.1∈fp/\h.get? p.1=some p.2:=by
 obtain⟨b,hb,e⟩:=List.mem_filterMap.mp hp;cases q:h.get? b with
 |none=>rw[q] at e;cases e
 |some o=>rw[q] at e;have e':(b,o)=p:=Option.some.inj e;subst e';exact⟨hb,q⟩
theorem Inv.pinned {pins:List (Addr×Obj)}{σ:St}{H:Hp}{s:Shared}{fp:List Addr}(I:Inv X pins σ H s)(hf:∀b∈fp,iQ X pins H b)(ho:∀b∈fp,∃o,s.heap.get? b=some o/\∀v,o.data≠ .cell v):Inv X (pins++mK fp s.heap) σ H s:=
 I.G8 λp hp=>(mem_append.mp hp).elim (λz=>I.pin p (mem_append_right _ z)) λz=>by obtain⟨hb,e⟩:=Ag z;obtain⟨f0,f1,f2,_⟩:=hf p.1 hb;obtain⟨o,e',d⟩:=ho p.1 hb;rw[e] at e';cases e';exact⟨e,f0,f1,f2,d⟩
theorem Inv.lK {pins pl:List (Addr×Obj)}{σ:St}{H:Hp}{s:Shared}(I:Inv X (pins++pl) σ H s):Inv X pins σ H s:=I.G8 λp hp=>I.pin p (mem_append_right _ (mem_append_left _ hp))
theorem uf {iter:Expr}{body:List Stmt}{wi:TI}{g:TG}{tb:TS}{pos:Pos}(hp:PassesOwn (model X.prog X.w) X.A X.env X.xe)(hc:X.calm=true)(hi:PI X tg iter wi)(hg:PG X tg g)(hb:eX X body tb)
  (hs:∀x,foldedSetIterable iter X.env x=pure x:=by intro _;rfl):PS X (.For tg iter body [] pos) (Dq wi g tb):=by
 intro pins s σ H D I h;refine wpAny_For (aO (hi pins s σ H _ I h) λv s1 h1=>aO h1 λitv s2 h2=>?_) hs;obtain⟨it,fp,tn,J,H2,e,I2,T,st2,f2,W,⟨m0,w0⟩,turn⟩:=h2;subst e;have stat:∀{H':Hp},(∀b∈fp,H' b=none)->∀b∈fp,iQ X pins H' b:=λhn b hb=>⟨hn b hb,(f2 b hb).2⟩;refine codeAny_forLoop_any (λn s'=>∃i σ' H',Inv X pins σ' H' s'/\tn i s'.heap/\(∀b∈fp,H' b=none)/\W i n σ' H') ?_ m0 ⟨0,σ,H2,I2,st2,λb hb=>(f2 b hb).1,w0⟩;rintro n s3 ⟨i,σ3,H3,I3,st3,fr3,w3⟩;rcases turn i n σ3 H3 w3 with⟨stop,qn⟩|⟨go,N,hN,step⟩
 .refine wpAny_passesOwn hp (aO (T.done X rfl rfl rfl hc i pins s3 σ3 H3 X.xe I3 (stat fr3) st3 stop) λr s4 ⟨hr,I4⟩=>?_);subst hr;exact wpAny_execs_nil ⟨σ3,H3,I4,qn⟩
 .refine wpAny_passesOwn hp (aO (T.item X rfl rfl rfl hc i pins s3 σ3 H3 X.xe I3 (stat fr3) st3 go) λr s4 ⟨u,hr,h4⟩=>?_);subst hr;refine wpAny_passesOwn hp (aO h4 λ_ s5 ⟨x,H5,I5,r5,y5,qy,MJ⟩=>?_);have MK:=I5.pinned (stat MJ) (T.obj _ _ qy);refine wpAny_passesOwn hp (aO (hg _ s5 σ3 H5 x u _ MK r5 (step x H5 y5)) λ_ s6 ⟨ug,H6,I6,q6⟩=>?_);refine wpAny_passesOwn hp (aO (hb _ s6 ug H6 _ I6 q6) λf s7 q7=>?_);have again:∀{uh:St}{H7:Hp},Inv X (pins++mK fp s5.heap) uh H7 s7->N uh H7->∃m,m<n/\∃i σ' H',Inv X pins σ' H' s7/\tn i s7.heap/\(∀b∈fp,H' b=none)/\W i m σ' H':=λ{uh H7} I7 n7=>by obtain⟨m',hm,w7⟩:=hN uh H7 n7;refine⟨m',hm,i+1,uh,H7,I7.lK,T.keep _ _ _ qy λb hb o e=>(I7.pin (b,o) (mem_append_right _ (mem_append_right _ (f9 hb e)))).1,λb hb=>?_,w7⟩;obtain⟨o,e,d⟩:=T.obj _ _ qy b hb;exact(I7.pin (b,o) (mem_append_right _ (mem_append_right _ (f9 hb e)))).2.1
  cases f with
  |next=>obtain⟨uh,H7,I7,n7⟩:=q7;exact again I7 n7
  |cont=>obtain⟨uh,H7,I7,n7⟩:=q7;exact again I7 n7
  |brk=>obtain⟨uh,H7,I7,q7⟩:=q7;exact⟨uh,H7,I7.lK,q7⟩
  |ret v=>obtain⟨x7,uh,H7,I7,r7,q7⟩:=q7;exact⟨x7,uh,H7,I7.lK,r7,q7⟩
end
theorem Ro {K:Frag}{a:Addr}{xs:List V}{g:TG}{tb:TS}{D:Ends}{σ:St}{H:Hp}(Pv:Nat->St->Hp->Prop)(h0:Pv 0 σ H)(hl:∀i σ H,i<=xs.length->Pv i σ H->aU K H a xs)
  (hs:∀i x σ H,xs[i]? =some x->Pv i σ H->g x σ H λσ2 H2=>tb {D with nx:=Pv (i+1),ct:=Pv (i+1),bk:=D.nx} σ2 H2)(hd:∀σ H,Pv xs.length σ H->D.nx σ H):
  ∃W:Nat->Nat->St->Hp->Prop,(∃m,W 0 m σ H)/\∀i m σ H,W i m σ H->
   ((ud K a).stop i H/\D.nx σ H)\/((ud K a).go i H/\∃N:St->Hp->Prop,(∀σ' H',N σ' H'->∃m',m'<m/\W (i+1) m' σ' H')/\∀x H',(ud K a).wj i H x H'->g x σ H' λσ2 H2=>tb {D with nx:=N,ct:=N,bk:=D.nx} σ2 H2):=by
 refine⟨λi m σ H=>m=xs.length - i/\i<=xs.length/\Pv i σ H,⟨xs.length,by simp,zero_le _,h0⟩,?_⟩;rintro i m σ H ⟨rfl,hi,p⟩;have q:=hl i σ H hi p;by_cases hlt:i<xs.length
 .refine .inr ⟨⟨xs,xs[i],q,by simp[hlt]⟩,Pv (i+1),λσ' H' p'=>⟨xs.length - (i+1),by omega,rfl,hlt,p'⟩,λx H' y=>?_⟩;obtain⟨e,y⟩:=y;subst e;exact hs i x σ _ (y xs q) p
 .have e:i=xs.length:=by omega
  subst e;exact .inl ⟨⟨xs,q,le_refl _⟩,hd σ H p⟩
noncomputable abbrev R2:=V->V->Hp->VK->Prop
def cg (X:Cx)(f:Value->Value->Sem Value)(r:R2):Prop:=
 ∀(pins:List (Addr×Obj)) (s:Shared) (σ:St) (H:Hp) (x y:V) (v u:Value) (Q:VK),Inv X pins σ H s->RelV x v->RelV y u->r x y H Q->
  wpAny (model X.prog X.w) X.A (f v u) (EP X pins σ Q) X.xe s
def Ah (X:Cx)(f:Value->Sem Value)(r:V->Hp->VK->Prop):Prop:=
 ∀(pins:List (Addr×Obj)) (s:Shared) (σ:St) (H:Hp) (x:V) (v:Value) (Q:VK),Inv X pins σ H s->RelV x v->r x H Q->
  wpAny (model X.prog X.w) X.A (f v) (EP X pins σ Q) X.xe s
def c7 (X:Cx)(f:Value)(r:List V->Hp->VK->Prop):Prop:=
 ∀(pins:List (Addr×Obj)) (s:Shared) (σ:St) (H:Hp) (xs:List V) (us:List Value) (Q:VK),Inv X pins σ H s->Vals xs us->r xs H Q->
  wpAny (model X.prog X.w) X.A (call f us) (EP X pins σ Q) X.xe s
def agg (X:Cx)(r:V->Hp->(Bool->Hp->Prop)->Prop):Prop:=
 ∀(pins:List (Addr×Obj)) (s:Shared) (σ:St) (H:Hp) (x:V) (v:Value) (Q:Bool->Hp->Prop),Inv X pins σ H s->RelV x v->r x H Q->
  wpAny (model X.prog X.w) X.A (truthy v) (TP X pins σ Q) X.xe s
noncomputable def dU (r:R2)(ta tb:TE):TE:=λσ H Q=>ta σ H λx H1=>tb σ H1 λy H2=>r x y H2 Q
noncomputable def MN (r:V->Hp->VK->Prop)(ta:TE):TE:=λσ H Q=>ta σ H λx H1=>r x H1 Q
noncomputable def rI (C:Int->Int->Prop)(g:Int->Int->V):R2:=λx y H Q=>∃i j,x=.int i/\y=.int j/\C i j/\Q (g i j) H
noncomputable def xU (g:Int->Int->V):R2:=λx y H Q=>∃i j,x=.int i/\y=.int j/\Q (g i j) H
noncomputable def rU (g:Int->V):V->Hp->VK->Prop:=λx H Q=>∃i,x=.int i/\Q (g i) H
section
variable {X:Cx}{a b c:Expr}{ta tb tc:TE}{pos:Pos}
theorem Rp (ha:PE X a ta)(hb:PE X b tb){pins:List (Addr×Obj)}{s:Shared}{σ:St}{H:Hp}{R:V->V->Hp->Prop}(I:Inv X pins σ H s)
  (h:ta σ H λx H1=>tb σ H1 λy H2=>R x y H2){Q:Value->Shared->Prop}{f:Value->Value->Sem Value}
  (hf:∀v u s2 x y H2,Inv X pins σ H2 s2->RelV x v->RelV y u->R x y H2->wpAny (model X.prog X.w) X.A (f v u) Q X.xe s2):
  wpAny (model X.prog X.w) X.A (eval a X.env) (λv s₁=>wpAny (model X.prog X.w) X.A (eval b X.env) (λu s₂=>wpAny (model X.prog X.w) X.A (f v u) Q X.xe s₂) X.xe s₁) X.xe s:=by
 refine aO (ha pins s σ H _ I h) λv s1 ⟨x,H1,I1,r1,q1⟩=>?_;refine aO (hb pins s1 σ H1 _ I1 q1) λu s2 ⟨y,H2,I2,r2,q2⟩=>?_;exact hf v u s2 x y H2 I2 r1 r2 q2
theorem bU {op:Operator}{r:R2}(ho:cg X (binaryOp op) r)(ha:PE X a ta)(hb:PE X b tb):PE X (.BinOp a op b pos) (dU r ta tb):=by intro pins s σ H Q I h;exact wpAny_BinOp (Rp ha hb I h λv u s2 x y H2 I2 rx ry q=>ho pins s2 σ H2 x y v u Q I2 rx ry q)
theorem Cd {op:UnaryOp}{r:V->Hp->VK->Prop}(ho:Ah X (unaryOp op) r)(ha:PE X a ta):PE X (.UnaryOp op a pos) (MN r ta):=by intro pins s σ H Q I h;exact UnaryOp_ (aO (ha pins s σ H _ I h) λv s1 ⟨x,H1,I1,r1,q1⟩=>ho pins s1 σ H1 x v Q I1 r1 q1)
theorem MP {f:Value->Value->Sem Value}{C:Int->Int->Prop}{g:Int->Int->Int}
  (rule:∀(i j:Int) (t u:Tok) (s:Shared) (Q:Value->Shared->Prop) (E:Value->Shared->Prop),C i j->Q (.int (g i j) s.toks) {s with toks:=s.toks+1}->wpAny (model X.prog X.w) X.A (f (.int i t) (.int j u)) Q E s):
  cg X f (rI C λi j=>.int (g i j)):=by
 intro pins s σ H x y v u Q I rx ry h;obtain⟨i,j,rfl,rfl,hc,q⟩:=h;obtain⟨t,rfl⟩:=rx;obtain⟨t',rfl⟩:=ry;exact rule i j t t' s _ _ hc ⟨.int (g i j),H,I.tok _,⟨_,rfl⟩,q⟩
theorem Rq {f:Value->Value->Sem Value}{g:Int->Int->Int}
  (rule:∀(i j:Int) (t u:Tok) (s:Shared) (Q:Value->Shared->Prop) (E:Value->Shared->Prop),Q (.int (g i j) s.toks) {s with toks:=s.toks+1}->wpAny (model X.prog X.w) X.A (f (.int i t) (.int j u)) Q E s):
  cg X f (xU λi j=>.int (g i j)):=by
 intro pins s σ H x y v u Q I rx ry h;obtain⟨i,j,rfl,rfl,q⟩:=h;obtain⟨t,rfl⟩:=rx;obtain⟨t',rfl⟩:=ry;exact rule i j t t' s _ _ ⟨.int (g i j),H,I.tok _,⟨_,rfl⟩,q⟩
theorem Ru {f:Value->Value->Sem Value}{g:Int->Int->Bool}
  (rule:∀(i j:Int) (t u:Tok) (s:Shared) (Q:Value->Shared->Prop) (E:Value->Shared->Prop),Q (.bool (g i j)) s->wpAny (model X.prog X.w) X.A (f (.int i t) (.int j u)) Q E s):
  cg X f (xU λi j=>.bl (g i j)):=by
 intro pins s σ H x y v u Q I rx ry h;obtain⟨i,j,rfl,rfl,q⟩:=h;obtain⟨t,rfl⟩:=rx;obtain⟨t',rfl⟩:=ry;exact rule i j t t' s _ _ ⟨.bl (g i j),H,I,rfl,q⟩
noncomputable def agh (i j:Int):Prop:=0<j/\j<1073741824
noncomputable def JQ (i j:Int):Prop:=0<=j/\j<=1000000/\i.natAbs<2^64
noncomputable def Z1 (i j:Int):Prop:=(-(2^64)<i/\i<2^64)\/(-(2^64)<j/\j<2^64)
theorem Z1.ok {i j:Int}(h:Z1 i j):IntMulOk i j:=by
 rcases h with⟨h1,h2⟩|⟨h1,h2⟩
 .exact .of_left (intBits_le_64 h1 h2)
 .exact .of_right (intBits_le_64 h1 h2)
theorem Z2:cg X (binaryOp .Add) (xU λi j=>.int (i+j)):=Rq λ_ _ _ _ _ _ _ q=>add_int q
theorem Z4:cg X (binaryOp .Sub) (xU λi j=>.int (i - j)):=Rq λ_ _ _ _ _ _ _ q=>sub_int q
theorem ahw:cg X (binaryOp .FloorDiv) (rI agh λi j=>.int (i/j)):=MP λi j _ _ _ _ _ hc q=>by have h1:(0:Int)<j:=hc.1;have h2:j<1073741824:=hc.2;exact floordiv_int (by omega) (by rw[Int.fdiv_eq_ediv_of_nonneg i (by omega)];exact q) (.inl (PyProof.noPylong_small (by omega)))
theorem Z5:cg X (binaryOp .Mod) (rI (λ_ j=>0<j) λi j=>.int (i % j)):=MP λi j _ _ _ _ _ hc q=>by have h1:(0:Int)<j:=hc;exact mod_int' (by omega) (by rw[Int.fmod_eq_emod_of_nonneg i (by omega)];exact q)
theorem Z6:cg X (binaryOp .Pow) (rI JQ λi j=>.int (i^j.toNat)):=MP λ_ _ _ _ _ _ _ hc q=>pow_int_small hc.1 hc.2.1 hc.2.2 q
theorem Z7:cg X (binaryOp .BitXor) (xU λi j=>.int (Builtin.bitXor i j)):=Rq λ_ _ _ _ _ _ _ q=>xor_int q
theorem unI {f:Value->Sem Value}{g:Int->Int}
  (rule:∀(i:Int) (t:Tok) (s:Shared) (Q:Value->Shared->Prop) (E:Value->Shared->Prop),Q (.int (g i) s.toks) {s with toks:=s.toks+1}->wpAny (model X.prog X.w) X.A (f (.int i t)) Q E s):
  Ah X f (rU λi=>.int (g i)):=by
 intro pins s σ H x v Q I rx h;obtain⟨i,rfl,q⟩:=h;obtain⟨t,rfl⟩:=rx;exact rule i t s _ _ ⟨.int (g i),H,I.tok _,⟨_,rfl⟩,q⟩
theorem xV:Ah X (unaryOp .USub) (rU λi=>.int (-i)):=unI λ_ _ _ _ _ q=>neg_int q
end
noncomputable def Z8:V->V->Bool
 |.non,.non=>true|.non,.int _=>true|.int _,.non=>true|.non,.bl _=>true|.bl _,.non=>true|.non,.str _=>true|.str _,.non=>true
 |.int _,.int _=>true|.bl _,.bl _=>true|.str _,.str _=>true|.nR _,.nR _=>true
 |.int _,.str _=>true|.str _,.int _=>true|.bl _,.str _=>true|.str _,.bl _=>true
 |_,_=>false
def Vx:R2:=λx y H Q=>Z8 x y=true/\Q (.bl (decide (x=y))) H
def Vy:R2:=λx y H Q=>Z8 x y=true/\Q (.bl (!decide (x=y))) H
theorem zq {i j:Int}:decide (V.int i=V.int j)=(i==j):=by rw[Bool.eq_iff_iff];simp
theorem M4 {i j:Bool}:decide (V.bl i=V.bl j)=(i==j):=by rw[Bool.eq_iff_iff];simp
theorem Hf {i j:Str}:decide (V.str i=V.str j)=(i==j):=by rw[Bool.eq_iff_iff];simp
theorem Hg {i j:Array UInt8}:decide (V.nR i=V.nR j)=(i.toList==j.toList):=by rw[Bool.eq_iff_iff];cases i;cases j;simp
section
variable {X:Cx}{a b c:Expr}{ta tb tc:TE}{pos:Pos}
theorem bW {pins:List (Addr×Obj)}{σ:St}{H:Hp}{s:Shared}{Q:VK}{k k':Bool}(I:Inv X pins σ H s)(q:Q (.bl k) H)(e:k=k'):EP X pins σ Q (.bool k') s:=by subst e;exact⟨.bl k,H,I,rfl,q⟩
theorem fL:cg X (compareOp .Eq) Vx:=by
 intro pins s σ H x y v u Q I rx ry h;obtain⟨hs,q⟩:=h;cases x with
 |non=>
  cases rx;cases y with
  |non=>cases ry;exact PySem.EqNone.eq_none_none (bW I q (by simp))
  |bl j=>cases ry;exact PySem.EqNone.eq_none_bool (bW I q (by simp))
  |int j=>obtain⟨t',rfl⟩:=ry;exact PySem.EqNone.eq_none_int (bW I q (by simp))
  |str j=>obtain⟨t',rfl⟩:=ry;exact PySem.EqNone.eq_none_str (bW I q (by simp))
  |_=>exact absurd (show false=true from hs) Bool.false_ne_true
 |bl i=>
  cases rx;cases y with
  |non=>cases ry;exact PySem.EqNone.eq_bool_none (bW I q (by simp))
  |bl j=>cases ry;exact eq_bool (bW I q M4)
  |str j=>obtain⟨t',rfl⟩:=ry;exact PySem.EqMixed.eq_bool_str (bW I q (by simp))
  |_=>exact absurd (show false=true from hs) Bool.false_ne_true
 |int i=>
  obtain⟨t,rfl⟩:=rx;cases y with
  |non=>cases ry;exact PySem.EqNone.eq_int_none (bW I q (by simp))
  |int j=>obtain⟨t',rfl⟩:=ry;exact eq_int (bW I q zq)
  |str j=>obtain⟨t',rfl⟩:=ry;exact PySem.EqMixed.eq_int_str (bW I q (by simp))
  |_=>exact absurd (show false=true from hs) Bool.false_ne_true
 |str i=>
  obtain⟨t,rfl⟩:=rx;cases y with
  |non=>cases ry;exact PySem.EqNone.eq_str_none (bW I q (by simp))
  |bl j=>cases ry;exact PySem.EqMixed.eq_str_bool (bW I q (by simp))
  |int j=>obtain⟨t',rfl⟩:=ry;exact PySem.EqMixed.eq_str_int (bW I q (by simp))
  |str j=>obtain⟨t',rfl⟩:=ry;exact eq_str (bW I q Hf)
  |_=>exact absurd (show false=true from hs) Bool.false_ne_true
 |nR i=>
  obtain⟨t,rfl⟩:=rx;cases y with
  |nR j=>obtain⟨t',rfl⟩:=ry;exact PySem.W.eq_bytes (bW I q Hg)
  |_=>exact absurd (show false=true from hs) Bool.false_ne_true
 |_=>cases y<;>exact absurd (show false=true from hs) Bool.false_ne_true
theorem Cg:cg X (compareOp .NotEq) Vy:=by
 intro pins s σ H x y v u Q I rx ry h;obtain⟨hs,q⟩:=h;cases x with
 |non=>
  cases rx;cases y with
  |non=>cases ry;exact PySem.EqNone.ne_none_none (bW I q (by simp))
  |bl j=>cases ry;exact PySem.EqNone.ne_none_bool (bW I q (by simp))
  |int j=>obtain⟨t',rfl⟩:=ry;exact PySem.EqNone.ne_none_int (bW I q (by simp))
  |str j=>obtain⟨t',rfl⟩:=ry;exact PySem.EqNone.ne_none_str (bW I q (by simp))
  |_=>exact absurd (show false=true from hs) Bool.false_ne_true
 |bl i=>
  cases rx;cases y with
  |non=>cases ry;exact PySem.EqNone.ne_bool_none (bW I q (by simp))
  |bl j=>cases ry;exact ne_bool (bW I q (congrArg not M4))
  |str j=>obtain⟨t',rfl⟩:=ry;exact PySem.EqMixed.ne_bool_str (bW I q (by simp))
  |_=>exact absurd (show false=true from hs) Bool.false_ne_true
 |int i=>
  obtain⟨t,rfl⟩:=rx;cases y with
  |non=>cases ry;exact PySem.EqNone.ne_int_none (bW I q (by simp))
  |int j=>obtain⟨t',rfl⟩:=ry;exact ne_int (bW I q (congrArg not zq))
  |str j=>obtain⟨t',rfl⟩:=ry;exact PySem.EqMixed.ne_int_str (bW I q (by simp))
  |_=>exact absurd (show false=true from hs) Bool.false_ne_true
 |str i=>
  obtain⟨t,rfl⟩:=rx;cases y with
  |non=>cases ry;exact PySem.EqNone.ne_str_none (bW I q (by simp))
  |bl j=>cases ry;exact PySem.EqMixed.ne_str_bool (bW I q (by simp))
  |int j=>obtain⟨t',rfl⟩:=ry;exact PySem.EqMixed.ne_str_int (bW I q (by simp))
  |str j=>obtain⟨t',rfl⟩:=ry;exact ne_str (bW I q (congrArg not Hf))
  |_=>exact absurd (show false=true from hs) Bool.false_ne_true
 |nR i=>
  obtain⟨t,rfl⟩:=rx;cases y with
  |nR j=>obtain⟨t',rfl⟩:=ry;exact PySem.W.ne_bytes (bW I q (congrArg not Hg))
  |_=>exact absurd (show false=true from hs) Bool.false_ne_true
 |_=>cases y<;>exact absurd (show false=true from hs) Bool.false_ne_true
theorem adH:cg X (compareOp .Lt) (xU λi j=>.bl (decide (i<j))):=Ru λ_ _ _ _ _ _ _ q=>lt_int q
theorem adI:cg X (compareOp .LtE) (xU λi j=>.bl (decide (i<=j))):=Ru λ_ _ _ _ _ _ _ q=>le_int q
theorem adJ:cg X (compareOp .Gt) (xU λi j=>.bl (decide (j<i))):=Ru λ_ _ _ _ _ _ _ q=>gt_int q
theorem Z9:cg X (compareOp .Is) (λx y H Q=>y=.non/\Q (.bl (decide (x=.non))) H):=by
 intro pins s σ H x y v u Q I rx ry h;obtain⟨rfl,q⟩:=h;cases ry;refine is_none_gen (bW I q ?_);cases x<;>first
  |(cases rx;rfl)
  |(obtain⟨t,rfl⟩:=rx;rfl)
theorem Xr:cg X (compareOp .IsNot) (λx y H Q=>y=.non/\Q (.bl (!decide (x=.non))) H):=by
 intro pins s σ H x y v u Q I rx ry h;obtain⟨rfl,q⟩:=h;cases ry;refine isnot_none_gen (bW I q ?_);cases x<;>first
  |(cases rx;rfl)
  |(obtain⟨t,rfl⟩:=rx;rfl)
theorem xW (b:Expr){op:CmpOp}(h:op≠ .In:=by decide)(h2:op≠ .NotIn:=by decide):behindInMarks op b=false:=by
 have e1:(op==CmpOp.In)=false:=by cases op<;>first|rfl|exact absurd rfl h
 have e2:(op==CmpOp.NotIn)=false:=by cases op<;>first|rfl|exact absurd rfl h2
 cases b<;>simp[behindInMarks,e1,e2]
theorem Xu {op:CmpOp}{r:R2}(ho:cg X (compareOp op) r)(ha:PE X a ta)(hb:PE X b tb)(hm:behindInMarks op b=false):PE X (.Compare a [op] [b] pos) (dU r ta tb):=by intro pins s σ H Q I h;exact wpAny_Compare1 (Rp ha hb I h λv u s2 x y H2 I2 rx ry q=>ho pins s2 σ H2 x y v u Q I2 rx ry q) hm
def aac (K:Frag)(x:V)(H:Hp)(k:Bool):Prop:=
 match x with
 |.non=>k=false
 |.bl b=>k=b
 |.int i=>k=(i !=0)
 |.str y=>y.length<=sizeLine/\k=((y.length:Int) !=0)
 |.nR y=>y.size<=sizeLine/\k=((y.size:Int) !=0)
 |.ref p=>(∃xs,aU K H p xs/\k= !xs.isEmpty)\/(∃xs,cZ K H p xs/\k= !xs.isEmpty)\/∃kvs,H p=some (.dK kvs)/\k= !kvs.isEmpty
 |_=>False
theorem JR {κ:Type}{kvs:List (κ×V)}{vs:List (κ×Value)}(r:KV kvs vs):(!vs.isEmpty)= !kvs.isEmpty:=by cases r<;>rfl
theorem xX {xs:List V}{its:List Value}(r:Vals xs its):(!its.toArray.isEmpty)= !xs.isEmpty:=by cases r<;>simp
theorem mL:(sizeLine:Nat)<2^63:=by rw[sizeLine_eq];decide
theorem aad:agg X (λx H Q=>∃k,aac X.K x H k/\Q k H):=by
 intro pins s σ H x v Q I rx h;obtain⟨k,e,q⟩:=h;have hl:=mL;have hs:sizeLine=16777216:=sizeLine_eq;cases x with
 |non=>
  cases rx;have e':k=false:=e;subst e';exact truthy_none ⟨H,I,q⟩
 |bl b=>
  cases rx;have e':k=b:=e;subst e';exact wpAny_truthy_bool ⟨H,I,q⟩
 |int i=>
  obtain⟨t,rfl⟩:=rx;have e':k=(i !=0):=e;subst e';exact PySem.P.truthy_int ⟨H,I,q⟩
 |str y=>
  obtain⟨t,rfl⟩:=rx;obtain⟨hy,e'⟩:y.length<=sizeLine/\k=((y.length:Int) !=0):=e;subst e';exact PySem.P.truthy_str (by omega) ⟨H,I.tok _,q⟩
 |nR y=>
  obtain⟨t,rfl⟩:=rx;obtain⟨hy,e'⟩:y.size<=sizeLine/\k=((y.size:Int) !=0):=e;subst e';exact PySem.W.truthy_bytes (by omega) ⟨H,I.tok _,q⟩
 |ref p=>
  cases rx;have e':(∃xs,aU X.K H p xs/\k= !xs.isEmpty)\/(∃xs,cZ X.K H p xs/\k= !xs.isEmpty)\/∃kvs,H p=some (.dK kvs)/\k= !kvs.isEmpty:=e;rcases e' with⟨xs,hx,e'⟩|⟨xs,hx,e'⟩|⟨kvs,hx,e'⟩
  .subst e';obtain⟨its,r,pl,hz⟩:=I.list hx;have hlen:=r.length;exact wpAny_truthy_list pl.isList (by simp only[size_toArray];omega) ⟨H,I.tok _,by rw[xX r];exact q⟩
  .subst e';obtain⟨its,r,pl,hz⟩:=I.tuple hx;have hlen:=r.length;exact truthy_tuple pl (by simp only[size_toArray];omega) ⟨H,I.tok _,by rw[xX r];exact q⟩
  .subst e';obtain⟨hz,hS,vs,r,m⟩:kvs.length<=sizeLine/\(p==sysModules)=false/\∃vs,KV kvs vs/\s.heap.DictOf (cA X.prog X.w) p vs:=I.hok p _ hx;have hlen:kvs.length=vs.length:=Paired.length r;exact wpAny_truthy_dict hS m (by omega) ⟨H,I.tok _,by rw[JR r];exact q⟩
 |_=>exact(show False from e).elim
theorem Rv (ha:PE X a ta)(he:∀whole,isTrue a X.env whole=(do let v<-whole;standAt a.pos;holding [v] (truthy v))):
  PT X a (λσ H Q=>ta σ H λx H'=>∃k,aac X.K x H' k/\Q k H'):=by
 intro pins s σ H Q I h;exact isTrue_plain (aO (ha pins s σ H _ I h) λv s1 ⟨x,H1,I1,r1,q1⟩=>aad pins s1 σ H1 x v Q I1 r1 q1) (he _)
theorem aX:cg X (binaryOp .Add) (λx y H Q=>∃i j,x=.str i/\y=.str j/\i.length+j.length<=sizeLine/\Q (.str (i++j)) H):=by intro pins s σ H x y v u Q I rx ry h;obtain⟨i,j,rfl,rfl,hz,q⟩:=h;obtain⟨t,rfl⟩:=rx;obtain⟨t',rfl⟩:=ry;exact add_str (λt' tk=>⟨.str (i++j),H,I.tok _,⟨_,rfl⟩,q⟩) hz
theorem vals1 {x:V}{us:List Value}(r:Vals [x] us):∃u,us=[u]/\RelV x u:=by
 cases r with
 |cons r1 r2=>cases r2;exact⟨_,rfl,r1⟩
theorem vals2 {x y:V}{us:List Value}(r:Vals [x,y] us):∃u w',us=[u,w']/\RelV x u/\RelV y w':=by
 cases r with
 |cons r1 r2=>
  cases r2 with
  |cons r3 r4=>cases r4;exact⟨_,_,rfl,r1,r3⟩
theorem Rw:c7 X (.builtin "abs") (λxs H Q=>∃i,xs=[.int i]/\Q (.int (if i<0 then -i else i)) H):=by intro pins s σ H xs us Q I r h;obtain⟨i,rfl,q⟩:=h;obtain⟨u,rfl,t,rfl⟩:=vals1 r;exact call_abs_int λu tk=>⟨.int (if i<0 then -i else i),H,I.tok _,⟨_,rfl⟩,q⟩
theorem M5 (hc:X.calm=true):c7 X (.builtin "min") (λxs H Q=>∃i j,xs=[.int i,.int j]/\Q (.int (if j<i then j else i)) H):=by
 intro pins s σ H xs us Q I r h;obtain⟨i,j,rfl,q⟩:=h;obtain⟨u,w',rfl,⟨t,rfl⟩,⟨t',rfl⟩⟩:=vals2 r;refine min_two_ints (I.ok.hd hc) λh' tk k=>⟨_,H,I.kept k,?_,q⟩;by_cases hj:j<i
 .rw[if_pos hj,if_pos hj];exact⟨_,rfl⟩
 .rw[if_neg hj,if_neg hj];exact⟨_,rfl⟩
theorem M6:c7 X (.type "int") (λxs H Q=>(∃i,xs=[.int i]/\Q (.int i) H)\/∃k,xs=[.bl k]/\Q (.int (if k then 1 else 0)) H):=by
 intro pins s σ H xs us Q I r h;rcases h with⟨i,rfl,q⟩|⟨k,rfl,q⟩
 .obtain⟨u,rfl,t,rfl⟩:=vals1 r;exact call_int_int ⟨.int i,H,I,⟨_,rfl⟩,q⟩
 .obtain⟨u,rfl,r1⟩:=vals1 r;cases r1;exact call_int_bool ⟨.int (if k then 1 else 0),H,I.tok _,⟨_,rfl⟩,q⟩
end
structure wM (h:Heap)(x dx C:Addr)(mA:Str->Option Value):Prop where
 obj:h.get? x=some (instObj C dx)
 ns:h.Ns1 dx mA
 ne:dx≠x
theorem Ai {h:Heap}{dx:Addr}{mA:Str->Option Value}(n:h.Ns1 dx mA):∃od,h.get? dx=some od/\∀name,PySem.W.lookIn name od=some (mA name):=by
 obtain⟨o,es,ep,ho,hd,hk,_,hm⟩:=n;refine⟨o,ho,λname=>?_⟩;have e:=hm name;unfold nsFind findBy at e;rw[<-Array.find?_toList] at e;unfold PySem.W.lookIn;rw[hd];dsimp only;split
 .rename_i y q;rw[q] at e;exact congrArg some e
 .rename_i q;rw[q] at e;have a:es.toList.any (·.refKey)=false:=by rw[List.any_eq_false];intro y hy;obtain⟨z,t,hkey⟩:=hk y (Array.mem_toList_iff.mp hy);simp[DictEntry.refKey,hkey]
  have a':¬es.toList.any (·.refKey)=true:=by rw[a];exact Bool.false_ne_true
  rw[if_neg a'];exact congrArg some e
theorem wM.look {h:Heap}{x dx C:Addr}{mA:Str->Option Value}(I:wM h x dx C mA):∃od,PySem.W.InstAt h x (instObj C dx) C (some od)/\∀name,PySem.W.lookIn name od=some (mA name):=
 let⟨od,ho,hl⟩:=Ai I.ns
 ⟨od,⟨I.obj,rfl,rfl,ho⟩,hl⟩
section
variable {prog:Program}{w:World}{A:Around}{E:Value->Shared->Prop}{s:Shared}{K:Frag}{x dx C f:Addr}{mA:Str->Option Value}{name:Str}{v:Value}
theorem get_map {expr:Bool}{Q:Value->Shared->Prop}(X:K.In s.heap)(I:wM s.heap x dx C mA)(hg:plainGet K C name=true)(hh:PySem.W.hasDictIn K C=true)
  (ha:PySem.W.findIn K (.ref C) name=some none)(hv:mA name=some v)(hv':PySem.W.handedIn v=true)(h:Q v {s with toks:=s.toks+1}):
  wpAny (model prog w) A (getAttr (.ref x) name expr) Q E s:=by
 obtain⟨od,J,hl⟩:=I.look;exact PySem.W.get_value X J (plainGet_of hg).1 (PySem.W.findObj_own hh ha rfl (by rw[hl,hv])) hv' h
theorem Rx {pl:Sem Bool}{Q:Value×List Value->Shared->Prop}(X:K.In s.heap)(I:wM s.heap x dx C mA)(hg:plainGet K C name=true)
  (hf:PySem.W.findIn K (.ref C) name=some (some (.ref f)))(ht:PySem.W.isFn K (.ref f)=true)(hv:mA name=none)(h:Q (.ref f,[.ref x]) s):
  wpAny (model prog w) A (getMethod (.ref x) name pl) Q E s:=by
 obtain⟨od,J,hl⟩:=I.look;exact PySem.W.method_fn X J (plainGet_of hg).1 (plainGet_of hg).2 hf (beq_iff_eq.mp ht) (by show(PySem.W.lookIn name od).map (·.isSome)=some false;rw[hl,hv];rfl) h
theorem Xv {ns:List Str}{Q:Unit->Shared->Prop}(X:K.In s.heap)(I:wM s.heap x dx C mA)
  (hs:PySem.W.findIn K (.ref C) "__setattr__"=some (some (.builtin "object.__setattr__")))(hp:plainOver K C=true)(ht:takerIn K C name=some none)(hh:PySem.W.hasDictIn K C=true)
  (hw:PySem.Within mA ns)(hsz:ns.length<=sizeLine)
  (h:∀h',wM h' x dx C (λy=>if y=name then some v else mA y)->Heap.SameBut dx s.heap h'->Q () {s with heap:=h',toks:=s.toks+2}):
  wpAny (model prog w) A (setAttr (.ref x) name v) Q E s:=by
 obtain⟨od,J,hl⟩:=I.look;refine PySem.W.set_plain X J hs (PySem.W.osa_open (s:={s with toks:=s.toks+1}) (r:=none) X J hp ht λb=>?_);obtain⟨cd,hc,hd'⟩:=PySem.W.any_some hh;have hx:s.heap.get? x=some ⟨.ref C,some dx,.plain,#[]⟩:=I.obj;refine wpAny_bind (wpAny_pure (wpAny_bind (wpAny_bind (wpAny_loadPart hx (wpAny_bind (PySem.W.Looks.here (s:={s with toks:=s.toks+1}) (PySem.W.looks_clsIn X hc) ?_))))));rw[hd'];refine wpAny_pure (a:=some dx) (wpAny_bind (wpAny_pure (wpAny_bind ?_)));refine wpAny_nsSet1 (s:={s with toks:=s.toks+1}) I.ns λh' hn2 hs2=>?_;obtain⟨oD,esD,epD,hoD,hdD,hcD⟩:=hn2.count (PySem.Within.cons name v hw);refine wpAny_bind (wpAny_lookBehind hoD (by rw[hdD];exact pastItsLine_dict (le_trans hcD (by rw[length_cons];omega))) ?_);exact wpAny_pure (h _ ⟨(hs2.2 _ (Ne.symm I.ne)).trans I.obj,hn2,I.ne⟩ hs2)
theorem Dr {R:Result->Shared->Prop}{vs:List Value}{kw:List (Str×Value)}(X:K.In s.heap)(hm:makesIn K C=true)
  (hi:PySem.W.findIn K (.ref C) "__init__"=some (some (.ref f)))(hf:PySem.W.typeIn K (.ref f)=some (.type "function"))
  (h:codeAny (model prog w) (A.under (.builtin "type.__call__" ⟨.ref C::vs,kw⟩)) (.call (.ref f) ⟨.ref (s.heap.objs.size+1)::vs,kw⟩) (PySem.W.InitBack (s.heap.objs.size+1) R)
   {s with heap:=(s.heap.push emptyDict).push (instObj C s.heap.objs.size)}):
  codeAny (model prog w) A (.call (.ref C) ⟨vs,kw⟩) R s:=by
 obtain⟨hh,g,d,t,os⟩:=s;exact PySem.W.make_core (PySem.W.makes_of X hm) (PySem.W.looks_findIn X hi) (λself=>PySem.W.bind_fn X self hf) (.inl rfl) h
end
noncomputable def ju (f:Str)(v:V):List (Str×V)->List (Str×V)
 |[]=>[(f,v)]
 |(g,x)::r=>if g=f then(g,v)::r else(g,x)::ju f v r
theorem wz (f g:Str)(v:V):∀fs:List (Str×V),(ju f v fs).lookup g=if g=f then some v else fs.lookup g
 |[]=>by
  show List.lookup g [(f,v)]=_;by_cases h:g=f
  .have hb:(g==f)=true:=beq_iff_eq.mpr h;simp only[List.lookup,hb,if_pos h]
  .have hb:(g==f)=false:=beq_eq_false_iff_ne.mpr h;simp only[List.lookup,hb,if_neg h]
 |(k,x)::r=>by
  have ih:=wz f g v r;rw[show ju f v ((k,x)::r)=(if k=f then(k,v)::r else(k,x)::ju f v r) from rfl];by_cases hk:k=f
  .rw[if_pos hk];by_cases h:g=k
   .have hb:(g==k)=true:=beq_iff_eq.mpr h;simp only[List.lookup,hb,if_pos (h.trans hk)]
   .have hb:(g==k)=false:=beq_eq_false_iff_ne.mpr h;simp only[List.lookup,hb,if_neg (λe:g=f=>h (e.trans hk.symm))]
  .rw[if_neg hk];by_cases h:g=k
   .have hb:(g==k)=true:=beq_iff_eq.mpr h;simp only[List.lookup,hb,if_neg (λe:g=f=>hk (h.symm.trans e))]
   .have hb:(g==k)=false:=beq_eq_false_iff_ne.mpr h;simp only[List.lookup,hb];exact ih
theorem um (f:Str)(v:V):∀fs:List (Str×V),f∈(ju f v fs).map (·.1)/\∀g,g∈fs.map (·.1)->g∈(ju f v fs).map (·.1)
 |[]=>⟨by simp[ju],λg h=>by simp at h⟩
 |(k,x)::r=>by
  obtain⟨i1,i2⟩:=um f v r;rw[show ju f v ((k,x)::r)=(if k=f then(k,v)::r else(k,x)::ju f v r) from rfl];by_cases hk:k=f
  .rw[if_pos hk];subst hk;exact⟨by simp,λg h=>by simpa using h⟩
  .rw[if_neg hk];refine⟨?_,λg h=>?_⟩
   .rw[map_cons];exact mem_cons_of_mem _ i1
   .rw[map_cons] at h ⊢;rcases mem_cons.mp h with e|e
    .exact mem_cons.mpr (.inl e)
    .exact mem_cons_of_mem _ (i2 g e)
theorem wB (f:Str)(v:V):∀fs:List (Str×V),(ju f v fs).length<=fs.length+1
 |[]=>by simp[ju]
 |(k,x)::r=>by
  have ih:=wB f v r;rw[show ju f v ((k,x)::r)=(if k=f then(k,v)::r else(k,x)::ju f v r) from rfl];by_cases hk:k=f
  .rw[if_pos hk,length_cons,length_cons];omega
  .rw[if_neg hk,length_cons,length_cons];omega
theorem fO.some_of {v:V}{o:Option Value}(r:fO (some v) o):∃u,o=some u/\RelV v u:=by
 cases o with
 |none=>exact(show False from r).elim
 |some u=>exact⟨u,rfl,r⟩
theorem fO.none_of {o:Option Value}(r:fO none o):o=none:=by
 cases o with
 |none=>rfl
 |some u=>exact(show False from r).elim
theorem Aj {v:V}{u:Value}(r:RelV v u):PySem.W.handedIn u=true:=by
 cases v with
 |non=>cases(show u=Value.none from r);rfl
 |bl b=>cases(show u=Value.bool b from r);rfl
 |int i=>obtain⟨t,e⟩:=(show ∃t,u=Value.int i t from r);cases e;rfl
 |str x=>obtain⟨t,e⟩:=(show ∃t,u=Value.str x t from r);cases e;rfl
 |nR b=>obtain⟨t,e⟩:=(show ∃t,u=bytes b t from r);cases e;rfl
 |flt b=>obtain⟨t,e⟩:=(show ∃t,u=float b t from r);cases e;rfl
 |ref a=>cases(show u=Value.ref a from r);rfl
 |ty n=>cases(show u=Value.type n from r);rfl
section
variable {P:Program}{w:World}{H H':Hp}{h h':Heap}{a C dx:Addr}{fs fs':List (Str×V)}
theorem zu (hok:d9 P w H h)(e:H a=some (.ins C dx fs)):∃mA,wM h a dx C mA/\(∀f,fO (fs.lookup f) (mA f))/\PySem.Within mA (fs.map (·.1))/\fs.length<=1000/\H dx=some (.own a):=by obtain⟨d,z,ne,ob,mA,n,r,q⟩:=(show dB P w H h a (.ins C dx fs) from hok a _ e);exact⟨mA,⟨ob,n,ne⟩,r,q,z,d⟩
end
structure Cls (K:Frag)(C:Addr):Prop where
 pg:plainGet K C Str.empty=true
 hd:PySem.W.hasDictIn K C=true
 po:plainOver K C=true
 sa:PySem.W.findIn K (.ref C) "__setattr__"=some (some (.builtin "object.__setattr__"))
theorem Cls.get {K:Frag}{C:Addr}(c:Cls K C)(f:Str):plainGet K C f=true:=c.pg
noncomputable def eY (K:Frag)(C:Addr)(f:Str):Prop:=PySem.W.findIn K (.ref C) f=some none
theorem eY.taker {K:Frag}{C:Addr}{f:Str}(n:eY K C f):takerIn K C f=some none:=by unfold takerIn;rw[show PySem.W.findIn K (.ref C) f=some none from n];rfl
structure Con (K:Frag)(C:Addr)(f:Str)(v:V)(u:Value):Prop where
 at_:PySem.W.findIn K (.ref C) f=some (some u)
 rel:RelV v u
 get:PySem.W.specialIn K u "__get__"=some none
 cp:PySem.W.copiedNames.contains f=false
structure Meth (K:Frag)(C:Addr)(m:Str)(f:Addr):Prop where
 at_:PySem.W.findIn K (.ref C) m=some (some (.ref f))
 fn:PySem.W.isFn K (.ref f)=true
 kp:keepIn K (.ref f)=true
section
variable {X:Cx}{pins:List (Addr×Obj)}{σ:St}{H:Hp}{s:Shared}{a C dx:Addr}{fs:List (Str×V)}{f:Str}{v:V}{A:Around}{E:Value->Shared->Prop}
theorem JT {b:Bool}{Q:Value->Shared->Prop}(I:Inv X pins σ H s)(e:H a=some (.ins C dx fs))(c:Cls X.K C)(n:eY X.K C f)(l:fs.lookup f=some v)
  (h:∀u s',Inv X pins σ H s'->RelV v u->Q u s'):wpAny (model X.prog X.w) A (getAttr (.ref a) f b) Q E s:=by
 obtain⟨mA,O,r,_,_,_⟩:=zu I.hok e;obtain⟨u,hu,ru⟩:=fO.some_of (v:=v) (o:=mA f) (by rw[<-l];exact r f);exact get_map I.dM O (c.get f) c.hd n hu (Aj ru) (h u _ (I.tok _) ru)
theorem nF {m:Str}{g:Addr}{pl:Sem Bool}{Q:Value×List Value->Shared->Prop}(I:Inv X pins σ H s)(e:H a=some (.ins C dx fs))(c:Cls X.K C)(k:Meth X.K C m g)(l:fs.lookup m=none)
  (h:Q (.ref g,[.ref a]) s):wpAny (model X.prog X.w) A (getMethod (.ref a) m pl) Q E s:=by
 obtain⟨mA,O,r,_,_,_⟩:=zu I.hok e;have hn:mA m=none:=fO.none_of (by rw[<-l];exact r m);exact Rx I.dM O (c.get m) k.at_ k.fn hn h
theorem xY {y:V}{u:Value}{Q:Unit->Shared->Prop}(I:Inv X pins σ H s)(e:H a=some (.ins C dx fs))(c:Cls X.K C)(n:eY X.K C f)(hl:fs.length<1000)(ry:RelV y u)
  (h:∀s',Inv X pins σ (upd H a (.ins C dx (ju f y fs))) s'->Q () s'):wpAny (model X.prog X.w) A (setAttr (.ref a) f u) Q E s:=by
 obtain⟨mA,O,r,wi,_,ho⟩:=zu I.hok e;have hz:(fs.map (·.1)).length<=sizeLine:=by rw[length_map,sizeLine_eq];omega
 refine Xv I.dM O c.sa c.po n.taker c.hd wi hz λh' O' sb=>h _ ?_;have hd:∃o,h'.get? dx=some o:=let⟨o,_,_,e',_⟩:=O'.ns;⟨o,e'⟩;refine I.write (x:=a) (e:=dx) (by rw[e];exact True.intro) (.inr ho) (λb q hb z=>(sb.2 b hb).trans z) hd ?_;refine⟨by rw[aB O.ne];exact ho,?_,O.ne,O'.obj,_,O'.ns,λg=>?_,λg hg=>?_⟩
 .have:=wB f y fs;omega
 .show fO ((ju f y fs).lookup g) (if g=f then some u else mA g);rw[wz];by_cases q:g=f
  .rw[if_pos q,if_pos q];exact ry
  .rw[if_neg q,if_neg q];exact r g
 .by_cases q:g=f
  .rw[q];exact(um f y fs).1
  .refine(um f y fs).2 g (wi g λz=>hg ?_);show(if g=f then some u else mA g)=none;rw[if_neg q];exact z
theorem Inv.made (I:Inv X pins σ H s):Inv X pins σ (upd (upd H s.heap.objs.size (.own (s.heap.objs.size+1))) (s.heap.objs.size+1) (.ins C s.heap.objs.size []))
  {s with heap:=(s.heap.push emptyDict).push (instObj C s.heap.objs.size)}:=by
 have e1:(s.heap.push emptyDict).get? s.heap.objs.size=some emptyDict:=get?_push_size s.heap rfl;have e2:((s.heap.push emptyDict).push (instObj C s.heap.objs.size)).get? (s.heap.objs.size+1)=some (instObj C s.heap.objs.size):=by have:=get?_push_size (s.heap.push emptyDict) (o:=instObj C s.heap.objs.size) rfl;rwa [size_push] at this
 have e3:(s.heap.push emptyDict).Ns s.heap.objs.size (λ_=>none):=⟨emptyDict,#[],_,e1,rfl,(λe he=>absurd he (by simp)),λ_=>rfl⟩;have I1:=I.laid (a:=s.heap.objs.size) (o:=.own (s.heap.objs.size+1)) (h':=s.heap.push emptyDict) (t':=s.toks) (λb u q=>get?_push_of_some _ q) (le_refl _) ⟨_,e1⟩;refine I1.laid (a:=s.heap.objs.size+1) (o:=.ins C s.heap.objs.size []) (t':=s.toks) (λb u q=>get?_push_of_some _ q) (le_of_eq (size_push _ _)) ?_;have ne:s.heap.objs.size≠s.heap.objs.size+1:=ne_of_lt (Nat.lt_succ_self _);refine⟨by rw[aB ne,aA],zero_le _,ne,e2,λ_=>none,(Heap.Ns1.of_empty e3).at λo q=>get?_push_of_some _ q,λ_=>True.intro,λy hy=>absurd rfl hy⟩
theorem Hh {prog:Program}{w:World}{env:Env}{e:Expr}{f:Str}{pos:Pos}{s:Shared}{Q:Value->Shared->Prop}(hb:attributeBase e f env (eval e env)=eval e env)
  (h:wpAny (model prog w) A (eval e env) (λo s₁=>wpAny (model prog w) A (getAttr o f true) Q E s₁) E s):wpAny (model prog w) A (eval (.Attribute e f pos) env) Q E s:=
 Attribute_any_ h (by rw[arm_eval_Attribute,hb])
end
def Ds (K:Frag)(ta:TE)(f:Str):TE:=λσ H Q=>ta σ H λx H1=>∃a C dx fs v,x=.ref a/\H1 a=some (.ins C dx fs)/\Cls K C/\eY K C f/\fs.lookup f=some v/\Q v H1
def Ry (K:Frag)(ta tv:TE)(f:Str):TS:=λD σ H=>tv σ H λy H1=>ta σ H1 λx H2=>∃a C dx fs,x=.ref a/\H2 a=some (.ins C dx fs)/\Cls K C/\eY K C f/\fs.length<1000/\
 D.nx σ (upd H2 a (.ins C dx (ju f y fs)))
section
variable {X:Cx}{o e value:Expr}{f:Str}{pos pos' tpos:Pos}{ta tv:TE}
theorem eG (he:PE X e ta)(hb:attributeBase e f X.env (eval e X.env)=eval e X.env):PE X (.Attribute e f pos) (Ds X.K ta f):=by intro pins s σ H Q I h;refine Hh hb (aO (he pins s σ H _ I h) λu s1 ⟨x,H1,I1,rx,a,C,dx,fs,v,ex,ea,c,n,l,q⟩=>?_);subst ex;obtain rfl:u=Value.ref a:=rx;exact JT I1 ea c n l λu' s2 I2 ru=>⟨v,H1,I2,ru,q⟩
theorem Dt (ha:PE X o ta)(hv:PE X value tv)(hs:swapsWith value (some (.Attribute o f pos')) pos.line X.env=pure false):PS X (.Assign [.Attribute o f pos'] value pos) (Ry X.K ta tv f):=by intro pins s σ H D I h;refine plainObj_wpAny_Assign_Attribute (aO (hv pins s σ H _ I h) λu s1 ⟨y,H1,I1,ry,q⟩=>aO (ha pins s1 σ H1 _ I1 q) λov s2 ⟨x,H2,I2,rx,a,C,dx,fs,ex,ea,c,n,l,q2⟩=>?_) hs;subst ex;obtain rfl:ov=Value.ref a:=rx;exact xY I2 ea c n l ry λs3 I3=>⟨σ,_,I3,q2⟩
theorem adE {pl:Sem Bool}{m:Str}{apos:Pos}{args:List Expr}{pins:List (Addr×Obj)}{s:Shared}{σ:St}{H:Hp}{Q:Value->Shared->Prop}{te:TE}(he:PE X e te)(I:Inv X pins σ H s)
  (h:te σ H λx H1=>∃a C dx fs g,x=.ref a/\H1 a=some (.ins C dx fs)/\Cls X.K C/\Meth X.K C m g/\fs.lookup m=none/\
   ∀s1,Inv X pins σ H1 s1->wpAny (model X.prog X.w) X.A (callWith pos (.ref g) [.ref a] (backTo pos (starEach args X.env)) (backToKw pos (keywordEach [] X.env))) Q X.xe s1)
  (ht:eval (.Call (.Attribute e m apos) args [] pos) X.env=(do
   let ov<-eval e X.env
   standAt apos.atName
   let(f,first)<-holding [ov] (getMethod ov m pl)
   callWith pos f first (backTo pos (starEach args X.env)) (backToKw pos (keywordEach [] X.env)))):
  wpAny (model X.prog X.w) X.A (eval (.Call (.Attribute e m apos) args [] pos) X.env) Q X.xe s:=by
 refine methodCall_KW (pl:=pl) (aO (he pins s σ H _ I h) λu s1 ⟨x,H1,I1,rx,a,C,dx,fs,g,ex,ea,c,k,l,q⟩=>?_) ht;subst ex;obtain rfl:u=Value.ref a:=rx;exact nF I1 ea c k l (q s1 I1)
end
section
variable {X:Cx}{pins:List (Addr×Obj)}{σ:St}{H:Hp}{s:Shared}{A:Around}{E:Value->Shared->Prop}{Q:Value->Shared->Prop}{c:Value}{b:Bool}
inductive nZ (K:Frag)(H:Hp):V->Value->Prop where
 |non:nZ K H .non (.type "NoneType")
 |bl (x:Bool):nZ K H (.bl x) (.type "bool")
 |int (i:Int):nZ K H (.int i) (.type "int")
 |str (x:Str):nZ K H (.str x) (.type "str")
 |flt (x:UInt64):nZ K H (.flt x) (.type "float")
 |lst {a:Addr} {xs:List V} (e:H a=some (.lst xs)):nZ K H (.ref a) (.type "list")
 |dR {a:Addr} {o:Obj} {xs:List V} (e:H a=some (.dR o (.lst xs))):nZ K H (.ref a) (.type "list")
 |tup {a:Addr} {xs:List V} (e:H a=some (.tup xs)):nZ K H (.ref a) (.type "tuple")
 |dK {a:Addr} {kvs:List (Key×V)} (e:H a=some (.dK kvs)):nZ K H (.ref a) (.type "dict")
 |dT {a:Addr} {kvs:List (List Key×V)} (e:H a=some (.dT kvs)):nZ K H (.ref a) (.type "dict")
 |ins {a C dx:Addr} {fs:List (Str×V)} (e:H a=some (.ins C dx fs)) (cl:Cls K C) (ha:PySem.W.findIn K (.ref C) "__class__"=some (some (.builtin "object.__class__")))
  (hn:PySem.W.specialIn K (.builtin "object.__class__") "__get__"=some (some (.builtin "getset_descriptor.__get__"))) (htk:PySem.W.takesIn K (.builtin "object.__class__")=some true)
  (hm:PySem.W.mroIn K C (.type "object")=some true):nZ K H (.ref a) (.ref C)
end
structure cI (k:Nat)(A:Around):Prop where
 hd:A.handled=none
 dp:A.depth+3*k+5<recursionLimit
 un:A.units+16*k+200<cLine
theorem cI.mono {j k:Nat}{A:Around}(r:cI k A)(h:j<=k):cI j A:=⟨r.hd,by have:=r.dp;omega,by have:=r.un;omega⟩
theorem cI.deeper {k:Nat}{A:Around}(r:cI (k+1) A)(env:Env):cI k (A.deeper env):=
 ⟨r.hd,by have:=r.dp;show A.depth+1+3*k+5<_;omega,by have:=r.un;show A.units+3+16*k+200<_;omega⟩
theorem JV {A:Around}{C:Addr}{us:List Value}{kw:List (Str×Value)}:(A.under (.builtin "type.__call__" ⟨.ref C::us,kw⟩)).depth=A.depth+1:=by first|rfl|simp[Around.under,Code.weight,Code.isCreation,Code.isGuard,Code.isCaller,Code.frames,Code.isFrame,guardIds]
theorem JW {A:Around}{C:Addr}{us:List Value}{kw:List (Str×Value)}:(A.under (.builtin "type.__call__" ⟨.ref C::us,kw⟩)).units=A.units+1:=by first|rfl|simp[Around.under,Code.cUnits,Code.frames,Code.isFrame]
theorem cI.make {k:Nat}{A:Around}(r:cI (k+1) A)(C:Addr)(us:List Value)(kw:List (Str×Value)):cI k (A.under (.builtin "type.__call__" ⟨.ref C::us,kw⟩)):=
 ⟨r.hd,by have:=r.dp;rw[JV];omega,by have:=r.un;rw[JW];omega⟩
theorem cI.depth {k:Nat}{A:Around}(r:cI k A):A.depth<recursionLimit:=by have:=r.dp;omega
theorem cI.units {k:Nat}{A:Around}(r:cI k A):A.units+64<cLine:=by have:=r.un;omega
noncomputable def bK:TA:=λ_ H Q=>Q [] H
noncomputable def aR (ta:TE)(tr:TA):TA:=λσ H Q=>ta σ H λx H1=>tr σ H1 λxs H2=>Q (x::xs) H2
section
variable {X:Cx}{e:Expr}{es:List Expr}{te:TE}{t:TA}{pos:Pos}
theorem aM:PA X [] bK:=λ_ _ _ _ H Q I h=>Calls.spliced_nil ⟨[],H,I,.nil,h⟩
theorem au (ha:PE X e te)(hr:PA X es t)(hs:starEach (e::es) X.env=(false,eval e X.env)::starEach es X.env:=by rfl):PA X (e::es) (aR te t):=by intro pos pins s σ H Q I h;rw[hs];show wpAny _ _ (spliced ((false,eval e X.env)::backTo pos (starEach es X.env))) _ _ s;refine Calls.spliced_cons (aO (ha pins s σ H _ I h) λu s1 ⟨x,H1,I1,r1,q1⟩=>?_);exact aO (hr pos pins s1 σ H1 _ I1 q1) λus s2 ⟨xs,H2,I2,r2,q2⟩=>⟨x::xs,H2,I2,.cons r1 r2,q2⟩
def JX (t:TA):TE:=λσ H Q=>t σ H λxs H1=>xs.length<=sizeLine/\∀p,H1 p=none->Q (.ref p) (upd H1 p (.tup xs))
def JZ (t:TA):TE:=λσ H Q=>t σ H λxs H1=>xs.length<=sizeLine/\∀p,H1 p=none->Q (.ref p) (upd H1 p (.lst xs))
theorem uo {x1}(h:PA X es t):PE X (.Tuple es x1 pos) (JX t):=by intro pins s σ H Q I hq;refine wpAny_Tuple_spliced (aO (h pos pins s σ H _ I hq) λus s1 ⟨xs,H1,I1,r,z,q⟩=>⟨by rw[<-r.length];exact z,?_⟩);have hf:H1 s1.heap.objs.size=none:=I1.hok.fresh (le_refl _);refine⟨.ref s1.heap.objs.size,upd H1 s1.heap.objs.size (.tup xs),I1.laid (t':=s1.toks) (λb u e=>get?_push_of_some _ e) (le_refl _) ?_,rfl,q _ hf⟩;exact⟨z,us,r,⟨_,get?_push_size _ rfl,rfl,_,rfl⟩⟩
theorem qz (h:PA X es t):PE X (.List es pos) (JZ t):=by intro pins s σ H Q I hq;refine wpAny_List_spliced (aO (h pos pins s σ H _ I hq) λus s1 ⟨xs,H1,I1,r,z,q⟩=>⟨by rw[<-r.length];exact z,?_⟩);have hf:H1 s1.heap.objs.size=none:=I1.hok.fresh (le_refl _);refine⟨.ref s1.heap.objs.size,upd H1 s1.heap.objs.size (.lst xs),I1.laid (t':=s1.toks) (λb u e=>get?_push_of_some _ e) (le_refl _) ?_,rfl,q _ hf⟩;exact⟨z,us,0,r,get?_push_size _ rfl⟩
end
noncomputable abbrev Sp:=List V->Hp->VK->XK->Prop
noncomputable abbrev n6:=List Env->Hp->Shared->XK->Value->Shared->Prop
structure wN (P:Program)(w:World)(K:Frag)(mg:Str->Option Value)(base:Heap)(A:Around)(outer:List Env)(s:Shared)(H:Hp):Prop where
 frames:A.frames=some outer
 mod:Mod K mg base
 bs:∀b o,base.get? b=some o->s.heap.get? b=some o/\H b=none
 tW:base.objs.size<=s.heap.objs.size
 lH:s.heap.FunFrames base outer
 Ab:∀b∈frs outer,H b=none
 hok:d9 P w H s.heap
 bare:AllBare s.gens
def CE (outer:List Env)(P:Program)(w:World)(H:Hp)(s:Shared)(Q:VK)(u:Value)(s':Shared):Prop:=
 ∃v H',s'.os=s.os/\AllBare s'.gens/\Un (frs outer) [] H H' s.heap s'.heap/\d9 P w H' s'.heap/\RelV v u/\Q v H'
def CR (CX:n6)(outer:List Env)(P:Program)(w:World)(H:Hp)(s:Shared)(Q:VK)(E:XK)(r:Result)(s':Shared):Prop:=
 match r with
 |.ok (.ret u)=>CE outer P w H s Q u s'
 |.ok _=>False
 |.error e=>CX outer H s E e s'
structure aQ (P:Program)(w:World)(K:Frag)(mg:Str->Option Value)(base:Heap)(CX:n6)(k:Nat)(f:Addr)(fd:FuncData)(ps:List Str)(sp:Sp):Prop where
 len:∀vs H Q E,sp vs H Q E->vs.length=ps.length
 run:∀(A:Around) (outer:List Env) (s:Shared) (H:Hp) (args:Args) (us:List Value) (vs:List V) (Q:VK) (E:XK),cI k A->wN P w K mg base A outer s H->BindsTo s fd args (ps.zip us)->Vals vs us->sp vs H Q E->
  codeAny (model P w) A (.call (.ref f) args) (CR CX outer P w H s Q E) s
theorem aQ.imp {P:Program}{w:World}{K:Frag}{mg:Str->Option Value}{base:Heap}{CX:n6}{k:Nat}{f:Addr}{fd:FuncData}{ps:List Str}{sp M7:Sp}(F:aQ P w K mg base CX k f fd ps sp)
  (h:∀vs H Q E,M7 vs H Q E->sp vs H Q E):aQ P w K mg base CX k f fd ps M7:=
 ⟨λvs H Q E q=>F.len vs H Q E (h _ _ _ _ q),λA outer s H args us vs Q E hr he hb hv hs=>F.run A outer s H args us vs Q E hr he hb hv (h _ _ _ _ hs)⟩
theorem wN.make {P:Program}{w:World}{K:Frag}{mg:Str->Option Value}{base:Heap}{A:Around}{outer:List Env}{s:Shared}{H:Hp}(e:wN P w K mg base A outer s H)(C:Addr)(us:List Value)(kw:List (Str×Value)):
  wN P w K mg base (A.under (.builtin "type.__call__" ⟨.ref C::us,kw⟩)) outer s H:=⟨by first|exact e.frames|(simpa [Around.under,Code.envs,Code.isFrame,pushEnvs] using e.frames),e.mod,e.bs,e.tW,e.lH,e.Ab,e.hok,e.bare⟩
section
variable {X:Cx}{pins:List (Addr×Obj)}{σ:St}{H:Hp}{s s':Shared}
theorem Inv.env0 (I:Inv X pins σ H s):wN X.prog X.w X.K X.mg X.base X.A X.stack s H:=
 ⟨I.ok.frames,I.ok.mod,I.bs,le_trans I.ok.tW I.sz,I.stack,I.qt,I.hok,I.bare⟩
theorem Inv.after {Q:VK}{u:Value}(I:Inv X pins σ H s)(h:CE X.stack X.prog X.w H s Q u s'):EP X pins σ Q u s':=by obtain⟨v,H',os,bare,un,hok,r,q⟩:=h;obtain⟨hh,g,d,t,os'⟩:=s';obtain rfl:os'=s.os:=os;exact⟨v,H',I.call (h':=hh) (g':=g) (d':=d) (t':=t) (ch:=[]) un hok bare (λb z=>absurd z (by simp)),r,q⟩
end
noncomputable def jm (sp:Sp)(jQ:List V)(E:XK)(t:TA):TE:=λσ H Q=>t σ H λvs H1=>sp (vs++jQ) H1 Q E
def kZ (C:Addr)(m:Str)(sp:Sp)(jQ:List V)(E:XK)(ta:TE)(t:TA):TE:=λσ H Q=>ta σ H λx H1=>∃a dx fs,x=.ref a/\H1 a=some (.ins C dx fs)/\fs.lookup m=none/\
 t σ H1 λvs H2=>sp (x::(vs++jQ)) H2 Q E
def adK (C:Addr)(sp:Sp)(jQ:List V)(E:XK)(t:TA):TE:=λσ H Q=>t σ H λvs H1=>∀x dx,H1 x=none->H1 dx=none->dx≠x->
 sp (.ref x::(vs++jQ)) (upd (upd H1 dx (.own x)) x (.ins C dx [])) (λv H2=>v=.non/\Q (.ref x) H2) E
noncomputable def Binds (K:Frag)(fd:FuncData)(ps:List Str)(ds:List Value):Prop:=
 ∀(s:Shared) (us:List Value),K.In s.heap->(us++ds).length=ps.length->BindsTo s fd ⟨us,[]⟩ (ps.zip (us++ds))
theorem Binds.all {K:Frag}{fd:FuncData}{ps:List Str}(h:∀us:List Value,us.length=ps.length->bindArgs fd ⟨us,[]⟩=pure (ps.zip us)):Binds K fd ps []:=λs us _ hl=>by rw[append_nil] at hl ⊢;exact .of_eq (h us hl)
def Passes (CX:n6)(X:Cx)(E:XK):Prop:=∀(pins:List (Addr×Obj)) (σ:St) (H:Hp) (s:Shared) (e:Value) (s':Shared),Inv X pins σ H s->CX X.stack H s E e s'->X.xe e s'
section
variable {X:Cx}{CX:n6}{k:Nat}{f C:Addr}{fd:FuncData}{ps:List Str}{sp:Sp}{jQ:List V}{ds:List Value}{E:XK}{x m:Str}{p pos apos:Pos}{e o:Expr}{es:List Expr}{ta:TE}{t:TA}
theorem Du {pins:List (Addr×Obj)}{σ:St}{H:Hp}{s:Shared}{Q:VK}{us:List Value}{vs:List V}(F:aQ X.prog X.w X.K X.mg X.base CX k f fd ps sp)(hr:cI k X.A)(hb:Binds X.K fd ps ds)(hd:Vals jQ ds)(hx:Passes CX X E)
  (I:Inv X pins σ H s)(r:Vals vs us)(h:sp (vs++jQ) H Q E):wpAny (model X.prog X.w) X.A (call (.ref f) us) (EP X pins σ Q) X.xe s:=by
 have r2:Vals (vs++jQ) (us++ds):=r.append hd;have hl:(us++ds).length=ps.length:=by rw[<-r2.length];exact F.len _ _ _ _ h
 refine wpAny_call (codeAny_mono (F.run X.A X.stack s H ⟨us,[]⟩ (us++ds) (vs++jQ) Q E hr I.env0 (hb s us I.dM hl) r2 h) λr s' hq=>?_);cases r with
 |error e=>exact hx pins σ H s e s' I hq
 |ok fl=>
  cases fl with
  |ret u=>exact I.after hq
  |next=>exact False.elim hq
  |brk=>exact False.elim hq
  |cont=>exact False.elim hq
theorem Xw (F:aQ X.prog X.w X.K X.mg X.base CX k f fd ps sp)(hr:cI k X.A)(hg:Gl X x)(hm:X.mg x=some (.ref f))(hk:keepIn X.K (.ref f)=true)(hb:Binds X.K fd ps ds)(hd:Vals jQ ds)(hx:Passes CX X E)
  (ha:PA X (e::es) t)(hdb:(x==("__debug__":Str))=false:=by decide)(he:starEach (e::es) X.env=(false,eval e X.env)::starEach es X.env:=by rfl)(hpl:(backTo pos (starEach es X.env)).any (·.1)=false:=by rfl):
  PE X (.Call (.Name x p) (e::es) [] pos) (jm sp jQ E t):=by
 intro pins s σ H Q I h;refine wpAny_Call_Name_kw (iZ I hg hm ?_ hdb);refine callWith_K (h₀:=X.base) I.ok.mod.xK hk (aO (ha pos pins s σ H _ I h) λus s1 ⟨vs,H1,I1,r,q⟩=>⟨I1.dM,?_⟩) he hpl;exact Du F hr hb hd hx I1 r q
theorem qC {pl:Sem Bool}(he:PE X o ta)(c:Cls X.K C)(hm:Meth X.K C m f)(F:aQ X.prog X.w X.K X.mg X.base CX k f fd ps sp)(hr:cI k X.A)(hb:Binds X.K fd ps ds)(hd:Vals jQ ds)(hx:Passes CX X E)(ha:PA X (e::es) t)
  (hst:starEach (e::es) X.env=(false,eval e X.env)::starEach es X.env:=by rfl)(hpl:(backTo pos (starEach es X.env)).any (·.1)=false:=by rfl)
  (ht:eval (.Call (.Attribute o m apos) (e::es) [] pos) X.env=(do
   let ov<-eval o X.env
   standAt apos.atName
   let(f,first)<-holding [ov] (getMethod ov m pl)
   callWith pos f first (backTo pos (starEach (e::es) X.env)) (backToKw pos (keywordEach [] X.env))):=by rfl):
  PE X (.Call (.Attribute o m apos) (e::es) [] pos) (kZ C m sp jQ E ta t):=by
 intro pins s σ H Q I h;refine methodCall_KW (pl:=pl) (aO (he pins s σ H _ I h) λu s1 ⟨x,H1,I1,rx,a,dx,fs,ex,ea,l,q⟩=>?_) ht;subst ex;obtain rfl:u=Value.ref a:=rx;refine nF I1 ea c hm l ?_;refine callWith_K (first:=[.ref a]) (h₀:=X.base) I.ok.mod.xK hm.kp (aO (ha pos pins s1 σ H1 _ I1 q) λus s2 ⟨vs,H2,I2,r,q2⟩=>⟨I2.dM,?_⟩) hst hpl;exact Du (us:=.ref a::us) (vs:=.ref a::vs) F hr hb hd hx I2 (.cons rfl r) q2
theorem wO {pl:Sem Bool}(he:PE X o ta)(c:Cls X.K C)(hm:Meth X.K C m f)(F:aQ X.prog X.w X.K X.mg X.base CX k f fd ps sp)(hr:cI k X.A)(hb:Binds X.K fd ps ds)(hd:Vals jQ ds)(hx:Passes CX X E)
  (ht:eval (.Call (.Attribute o m apos) [] [] pos) X.env=(do
   let ov<-eval o X.env
   standAt apos.atName
   let(f,first)<-holding [ov] (getMethod ov m pl)
   callWith pos f first (backTo pos (starEach [] X.env)) (backToKw pos (keywordEach [] X.env))):=by rfl):
  PE X (.Call (.Attribute o m apos) [] [] pos) (kZ C m sp jQ E ta bK):=by
 intro pins s σ H Q I h;refine methodCall_KW (pl:=pl) (aO (he pins s σ H _ I h) λu s1 ⟨x,H1,I1,rx,a,dx,fs,ex,ea,l,q⟩=>?_) ht;subst ex;obtain rfl:u=Value.ref a:=rx;refine nF I1 ea c hm l ?_;exact PySem.W.callWith_K0 (first:=[.ref a]) I1.dM hm.kp (Du (us:=[.ref a]) (vs:=[.ref a]) F hr hb hd hx I1 (.cons rfl .nil) q)
structure Mk (K:Frag)(C f:Addr):Prop where
 makes:makesIn K C=true
 init:PySem.W.findIn K (.ref C) "__init__"=some (some (.ref f))
 fn:PySem.W.isFn K (.ref f)=true
 kp:keepIn K (.ref C)=true
theorem Rz {pins:List (Addr×Obj)}{σ:St}{H:Hp}{s:Shared}{Q:VK}{us:List Value}{vs:List V}(M:Mk X.K C f)(F:aQ X.prog X.w X.K X.mg X.base CX k f fd ps sp)(hr:cI (k+1) X.A)(hb:Binds X.K fd ps ds)(hd:Vals jQ ds)
  (hx:Passes CX X E)(I:Inv X pins σ H s)(r:Vals vs us)
  (h:∀x dx,H x=none->H dx=none->dx≠x->sp (.ref x::(vs++jQ)) (upd (upd H dx (.own x)) x (.ins C dx [])) (λv H2=>v=.non/\Q (.ref x) H2) E):
  wpAny (model X.prog X.w) X.A (call (.ref C) us) (EP X pins σ Q) X.xe s:=by
 have hq:=h (s.heap.objs.size+1) s.heap.objs.size (I.hok.fresh (le_succ _)) (I.hok.fresh (le_refl _)) (ne_of_lt (Nat.lt_succ_self _));have I2:=Inv.made (C:=C) I;have r2:Vals (V.ref (s.heap.objs.size+1)::(vs++jQ)) (Value.ref (s.heap.objs.size+1)::(us++ds)):=.cons rfl (r.append hd);have hl:(Value.ref (s.heap.objs.size+1)::us++ds).length=ps.length:=by have e:=r2.length;rw[F.len _ _ _ _ hq] at e;exact e.symm
 refine wpAny_call (Dr (f:=f) I.dM M.makes M.init (beq_iff_eq.mp M.fn) (codeAny_mono (F.run _ X.stack _ _ ⟨Value.ref (s.heap.objs.size+1)::us,[]⟩ (Value.ref (s.heap.objs.size+1)::(us++ds)) _ _ E (hr.make C us [])
  (I2.env0.make C us []) (hb _ (Value.ref (s.heap.objs.size+1)::us) I2.dM hl) r2 hq) λr s' hq'=>?_))
 cases r with
 |error e=>exact hx pins σ _ _ e s' I2 hq'
 |ok fl=>
  cases fl with
  |ret u=>
   obtain⟨v,H',I3,rv,ev,q3⟩:=I2.after hq';subst ev;exact⟨rv,⟨V.ref (s.heap.objs.size+1),H',I3,rfl,q3⟩⟩
  |next=>exact False.elim hq'
  |brk=>exact False.elim hq'
  |cont=>exact False.elim hq'
theorem RD (M:Mk X.K C f)(F:aQ X.prog X.w X.K X.mg X.base CX k f fd ps sp)(hr:cI (k+1) X.A)(hg:Gl X x)(hm:X.mg x=some (.ref C))(hb:Binds X.K fd ps ds)(hd:Vals jQ ds)(hx:Passes CX X E)
  (hdb:(x==("__debug__":Str))=false:=by decide):PE X (.Call (.Name x p) [] [] pos) (adK C sp jQ E bK):=by
 intro pins s σ H Q I h;refine wpAny_Call_Name_kw (iZ I hg hm ?_ hdb);exact PySem.W.callWith_K0 I.dM M.kp (Rz (us:=[]) M F hr hb hd hx I .nil h)
end
section
variable {X:Cx}{CX:n6}{k:Nat}{f C:Addr}{fd:FuncData}{ps ks:List Str}{sp:Sp}{E:XK}{x m:Str}{p pos apos kpos:Pos}{e o:Expr}{es:List Expr}{kws:List Keyword}{te ta:TE}{t tk:TA}{nm:Option Str}
structure ahB (K:Frag)(fd:FuncData)(ps ks:List Str)(g:List Value->List Value->List Value)(gV:List V->List V->List V):Prop where
 to:∀(s:Shared) (us ws:List Value),K.In s.heap->(g us ws).length=ps.length->BindsTo s fd ⟨us,ks.zip ws⟩ (ps.zip (g us ws))
 rel:∀{vs:List V}{us:List Value} {zs:List V} {ws:List Value},Vals vs us->Vals zs ws->Vals (gV vs zs) (g us ws)
variable {g:List Value->List Value->List Value}{gV:List V->List V->List V}
end
structure bI (N P:List Str)(sc:Scope):Prop where
 kind:sc.kind=.function
 co:sc.isCoroutine=false
 gen:sc.isGenerator=false
 nd:N.Nodup
 pre:N.take P.length=P
 par:∀x∈P,sc.names.lookup x=some .local\/sc.names.lookup x=some .cell
 aae:∀y∈sc.names,y.2≠ .free
theorem Ak {kindOf:Str->Option NameKind}{x:Str}:∀{binds:List (Str×Value)}{m:Str->Option Value},(∀v,(x,v)∉binds)->bindL kindOf binds m x=m x
 |[],_,_=>rfl
 |(n,v)::r,m,h=>by
  unfold bindL;rw[Ak λw hw=>h w (mem_cons_of_mem _ hw)];split
  .have:x≠n:=by rintro rfl;exact h v mem_cons_self
   simp[this]
  .rfl
theorem Al {kindOf:Str->Option NameKind}{x:Str}:∀{binds:List (Str×Value)}{m:Str->Option Value},(∀v,(x,v)∉binds)->bindC kindOf binds m x=m x
 |[],_,_=>rfl
 |(n,v)::r,m,h=>by
  unfold bindC;rw[Al λw hw=>h w (mem_cons_of_mem _ hw)];split
  .rfl
  .have:x≠n:=by rintro rfl;exact h v mem_cons_self
   simp[this]
theorem Am {kindOf:Str->Option NameKind}{x:Str}{v:Value}:∀{P:List Str}{vs:List Value} {i:Nat} {m:Str->Option Value},P.Nodup->P[i]? =some x->vs[i]? =some v->kindOf x=some .local->
  bindL kindOf (P.zip vs) m x=some v
 |[],_,_,_,_,h,_,_=>by simp at h
 |_::_,[],_,_,_,_,h,_=>by simp at h
 |p::P,w::vs,0,m,nd,h1,h2,hk=>by
  simp at h1 h2;subst h1;subst h2;show bindL kindOf ((p,w)::P.zip vs) m p=_;unfold bindL;rw[Ak λv hv=>(nodup_cons.mp nd).1 (List.of_mem_zip hv).1,if_pos hk];simp
 |p::P,w::vs,i+1,m,nd,h1,h2,hk=>by show bindL kindOf ((p,w)::P.zip vs) m x=_;unfold bindL;exact Am (i:=i) (nodup_cons.mp nd).2 (by simpa using h1) (by simpa using h2) hk
theorem Ao {kindOf:Str->Option NameKind}{x:Str}{v:Value}:∀{P:List Str}{vs:List Value} {i:Nat} {m:Str->Option Value},P.Nodup->P[i]? =some x->vs[i]? =some v->kindOf x≠some .local->
  bindC kindOf (P.zip vs) m x=some v
 |[],_,_,_,_,h,_,_=>by simp at h
 |_::_,[],_,_,_,_,h,_=>by simp at h
 |p::P,w::vs,0,m,nd,h1,h2,hk=>by
  simp at h1 h2;subst h1;subst h2;show bindC kindOf ((p,w)::P.zip vs) m p=_;unfold bindC;rw[Al λv hv=>(nodup_cons.mp nd).1 (List.of_mem_zip hv).1,if_neg hk];simp
 |p::P,w::vs,i+1,m,nd,h1,h2,hk=>by show bindC kindOf ((p,w)::P.zip vs) m x=_;unfold bindC;exact Ao (i:=i) (nodup_cons.mp nd).2 (by simpa using h1) (by simpa using h2) hk
noncomputable def start (N:List Str)(vs:List V):St:=vs.map some++replicate (N.length - vs.length) none
noncomputable def cC (CX:n6)(P:Program)(w:World)(K:Frag)(mg:Str->Option Value)(base:Heap)(N:List Str)(qual:Str)(scope:Scope)(f:Addr)(cd:Value)(A:Around)(outer:List Env)(s:Shared)(H:Hp)(E:XK):Cx where
 prog:=P
 w:=w
 K:=K
 mg:=mg
 base:=base
 A:=A.deeper (envOfC qual scope s.heap.objs.size f cd)
 N:=N
 s₀:=s
 H₀:=H
 env:=envOfC qual scope s.heap.objs.size f cd
 outer:=outer
 stack:=envOfC qual scope s.heap.objs.size f cd::outer
 ex:=[]
 calm:=true
 fn:=λ_=>true
 pn:=[]
 xe:=λe s'=>wpAny (model P w) (A.deeper (envOfC qual scope s.heap.objs.size f cd)) (leaving (envOfC qual scope s.heap.objs.size f cd) e) (λ_ s''=>CX outer H s E e s'') (λe' s''=>CX outer H s E e' s'') s'
theorem Dv {sc:Scope}{n:Nat}{x:Str}(h:sc.names.lookup x=some .cell):∃c,(cellsFrom n sc.names []).lookup x=some c:=by have q:=PySem.W.cellsFrom_some sc.names n [] (.inl h);exact Option.isSome_iff_exists.mp q
theorem M8 {CX:n6}{P:Program}{w:World}{K:Frag}{mg:Str->Option Value}{base:Heap}{N ps:List Str}{qual:Str}{scope:Scope}{f:Addr}{cd:Value}{A:Around}{outer:List Env}{s s1:Shared}{H:Hp}{E:XK}{us:List Value}{vs:List V}
  (S:bI N ps scope)(hd:A.handled=none)(e0:wN P w K mg base A outer s H)(hl:vs.length=ps.length)(r:Vals vs us)
  (x:InCallC s s.heap.objs.size (bindL (envOfC qual scope s.heap.objs.size f cd).kindOf (ps.zip us) λ_=>none) (cellsFrom (s.heap.objs.size+1) scope.names []) (bindC (envOfC qual scope s.heap.objs.size f cd).kindOf (ps.zip us) λ_=>none) s1):
  Inv (cC CX P w K mg base N qual scope f cd A outer s H E) [] (start N vs) H s1:=by
 have hpl:ps.length<=N.length:=by have:=congrArg List.length S.pre;rw[length_take] at this;omega
 obtain⟨h1,tk,rfl,hk⟩:=x.done;have M9:∀b:Addr,b∉(cC CX P w K mg base N qual scope f cd A outer s H E).ex:=λb z=>absurd (show b∈([]:List Addr) from z) (by simp);refine⟨⟨e0.mod,S.kind,rfl,rfl,le_refl _,λy z c h1 h2=>?_,λy hy=>?_,λy c _ h=>?_,λ_=>hd,Around.frames_deeper e0.frames,.inr ⟨rfl,rfl⟩,λb z=>absurd z (M9 b),e0.bs,e0.tW,λb _ _=>M9 b,λb z=>absurd z (M9 b),e0.lH,e0.Ab⟩,
  rfl,e0.bare,Un.kept hk,⟨_,x.toInCall.ns,λi y v h1 h2 h3=>?_⟩,λy c h=>⟨_,x.cell y c h⟩,e0.hok.fresh (le_refl _),λy c h=>?_,λp hp=>absurd (show p∈([]:List (Addr×Obj)) from hp) (by simp),e0.hok.kept hk,?_⟩
 .exact name_of_addr x.apart (PySem.mem_of_lookup h1) (PySem.mem_of_lookup h2)
 .have hy:scope.names.lookup y=some .cell\/scope.names.lookup y=some .free:=hy;rcases hy with hy|hy
  .exact Dv hy
  .exact absurd rfl (S.aae _ (PySem.mem_of_lookup hy))
 .exact le_of_lt (x.above y c (PySem.mem_of_lookup h))
 .have hi:i<vs.length:=by
   unfold start at h2;by_cases hi:i<vs.length
   .exact hi
   .rw[List.getElem?_append_right (by simpa using hi)] at h2;rw[List.getElem?_replicate] at h2;split at h2<;>cases h2
  have ha:vs[i]? =some v:=by
   unfold start at h2;rw[List.getElem?_append_left (by simpa using hi),getElem?_map] at h2;cases e:vs[i]? with
   |none=>rw[e] at h2;cases h2
   |some a=>rw[e] at h2;cases h2;rfl
  obtain⟨u,hu,rv⟩:=r.get ha;have hp:ps[i]? =some y:=by rw[<-S.pre,List.getElem?_take_of_lt (by omega)];exact h1
  have ndP:ps.Nodup:=by rw[<-S.pre];exact S.nd.sublist (List.take_sublist _ _)
  refine⟨u,rv,?_⟩;rcases S.par y (mem_of_getElem? hp) with k|k
  .exact .inl ⟨k,Am ndP hp hu k⟩
  .obtain⟨c,e⟩:=Dv (n:=s.heap.objs.size+1) k;refine .inr ⟨.inl k,c,e,?_⟩;have q:=x.cell y c e;rw[Ao ndP hp hu (by show scope.names.lookup y≠_;rw[k];decide)] at q;exact q
 .exact e0.hok.fresh (le_of_lt (x.above y c (PySem.mem_of_lookup h)))
 .unfold start;show _=N.length;rw[length_append,length_map,List.length_replicate];omega
theorem J0 {CX:n6}{P:Program}{w:World}{K:Frag}{mg:Str->Option Value}{base:Heap}{k:Nat}{f:Addr}{name qual:Str}{params:Arguments}{body:List Stmt}{scope:Scope}{dV kV doc pm cdv ct oc:Value}{an od:Option Addr}
  {osl:Array (Option Value)}{N ps:List Str}{sp:Sp}(lk:K.lookup f=some ⟨oc,od,.func (fnOf name qual params body scope dV kV doc pm an cdv ct),osl⟩)(hcd:codeIn K cdv qual=true)(S:bI N ps scope)
  (len:∀vs H Q E,sp vs H Q E->vs.length=ps.length)
  (hbody:∀(A:Around) (outer:List Env) (s:Shared) (H:Hp) (vs:List V) (Q:VK) (E:XK),cI k (A.deeper (envOfC qual scope s.heap.objs.size f cdv))->sp vs H Q E->
   ∃t,eX (cC CX P w K mg base N qual scope f cdv A outer s H E) body t/\t {nx:=λ_ H'=>Q .non H',rt:=Q} (start N vs) H):
  aQ P w K mg base CX (k+1) f (fnOf name qual params body scope dV kV doc pm an cdv ct) ps sp:=by
 refine⟨len,λA outer s H args us vs Q E hr e0 hb r hsp=>?_⟩;have hl:=len _ _ _ _ hsp;have KX:K.In s.heap:=e0.mod.xK.keeps λb o e=>(e0.bs b o e).1;have lim:s.heap.NoLimit:=e0.mod.nolimit.keeps λb o e=>(e0.bs b o e).1;have hkind:∀y∈ps.zip us,scope.names.lookup y.1=some .local\/(scope.names.lookup y.1=some .cell/\((cellsFrom (s.heap.objs.size+1) scope.names []).lookup y.1).isSome=true):=λ⟨n,v⟩ hy=>by
  rcases S.par n (List.of_mem_zip hy).1 with q|q
  .exact .inl q
  .exact .inr ⟨q,PySem.W.cellsFrom_some _ _ _ (.inl q)⟩
 refine codeAny_call_function hr.depth (KX _ _ lk) rfl S.co S.gen rfl (PySem.W.codeRec_of KX hcd) (hb _ _ _ _ ?_);refine wpAny_newFunctionEnv_cells S.kind hkind λenv he s1 x=>?_;subst he;refine⟨lim.keeps x.toInCall.keep,codeAny_func ?_⟩;obtain⟨t,ht,hq⟩:=hbody A outer s H vs Q E (hr.deeper _) hsp;have I:Inv (cC CX P w K mg base N qual scope f cdv A outer s H E) [] (start N vs) H s1:=M8 S hr.hd e0 hl r x;refine wpAny_mono (ht [] s1 (start N vs) H _ I hq) (λfl s' hs=>?_) λe s' hs=>hs;have fin:∀{σ':St}{H':Hp} {v:V} {u:Value},Inv (cC CX P w K mg base N qual scope f cdv A outer s H E) [] σ' H' s'->RelV v u->Q v H'->CE outer P w H s Q u s':=
  λ{σ' H' v u} J rv q=>⟨v,H',J.os,J.bare,J.base,J.hok,rv,q⟩
 cases fl with
 |ret u=>
  obtain⟨v,σ',H',J,rv,q⟩:=hs;exact fin J rv q
 |next=>
  obtain⟨σ',H',J,q⟩:=hs;exact fin (v:=V.non) (u:=Value.none) J rfl q
 |brk=>
  obtain⟨_,_,_,q⟩:=hs;exact False.elim q
 |cont=>obtain⟨_,_,_,q⟩:=hs;exact False.elim q
section
variable {X:Cx}{x:Str}{p pos:Pos}{e:Expr}{es:List Expr}{t:TA}{id T:String}{r:List V->Hp->VK->Prop}
noncomputable def mO (r:List V->Hp->VK->Prop)(t:TA):TE:=λσ H Q=>t σ H λvs H1=>r vs H1 Q
theorem dj (hc:c7 X (.builtin id) r)(hg:Gl X x)(hm:X.mg x=none)(hv:bootBuiltins x=some (.builtin id))(ha:PA X (e::es) t)(hn:x≠"__name__":=by decide)(hdb:(x==("__debug__":Str))=false:=by decide)
  (he:starEach (e::es) X.env=(false,eval e X.env)::starEach es X.env:=by rfl)(hpl:(backTo pos (starEach es X.env)).any (·.1)=false:=by rfl):PE X (.Call (.Name x p) (e::es) [] pos) (mO r t):=by
 intro pins s σ H Q I h;refine wpAny_Call_Name_kw (mG I hg hm hv ?_ hn hdb);exact PyProof.Rows.callWith_builtin1 (aO (ha pos pins s σ H _ I h) λus s1 ⟨vs,H1,I1,r1,q1⟩=>hc pins s1 σ H1 vs us Q I1 r1 q1) he hpl
theorem iJ (hc:c7 X (.type T) r)(hg:Gl X x)(hm:X.mg x=none)(hv:bootBuiltins x=some (.type T))(ha:PA X (e::es) t)(hn:x≠"__name__":=by decide)(hdb:(x==("__debug__":Str))=false:=by decide)
  (he:starEach (e::es) X.env=(false,eval e X.env)::starEach es X.env:=by rfl)(hpl:(backTo pos (starEach es X.env)).any (·.1)=false:=by rfl):PE X (.Call (.Name x p) (e::es) [] pos) (mO r t):=by
 intro pins s σ H Q I h;refine wpAny_Call_Name_kw (mG I hg hm hv ?_ hn hdb);exact PyProof.Rows.callWith_type1 (aO (ha pos pins s σ H _ I h) λus s1 ⟨vs,H1,I1,r1,q1⟩=>hc pins s1 σ H1 vs us Q I1 r1 q1) he hpl
end
end L2
namespace HT
open PyProof.Rows
section
open PySem.SeqAt
open PySem.AutoSeq1 (wpAny_loadPart')
open PySem.MeetsSeq PySem.MeetsSeq2 PySem.MeetsSeq3
end
section
variable {prog:Program}{w:World}{A:Around}{E:Value->Shared->Prop}{s:Shared}
noncomputable def bQ (n d:Nat):Option Int->Nat
 |none=>d
 |some v=>if v<0 then(v+(n:Int)).toNat else min v.toNat n
theorem Dw (n d:Nat)(hd:d<=n)(o:Option Int):bQ n d o<=n:=by
 cases o with
 |none=>exact hd
 |some v=>
  show(if v<0 then(v+(n:Int)).toNat else min v.toNat n)<=n;by_cases hv:v<0
  .rw[if_pos hv];omega
  .rw[if_neg hv];exact Nat.min_le_right _ _
theorem Hi (v:Int)(n d:Nat):(if v<0 then max (v+(n:Int)) 0 else min v (n:Int))=((bQ n d (some v):Nat):Int):=by
 show(if v<0 then max (v+(n:Int)) 0 else min v (n:Int))=(((if v<0 then(v+(n:Int)).toNat else min v.toNat n):Nat):Int);by_cases hv:v<0
 .simp only[if_pos hv];omega
 .simp only[if_neg hv];omega
theorem J1 (lo hi:Option Int)(n:Nat):Builtin.Slice.sliceAdjust lo hi 1 (n:Int)=(((bQ n 0 lo:Nat):Int),((bQ n n hi:Nat):Int)):=by
 have h1:¬((1:Int)<0):=by omega
 unfold Builtin.Slice.sliceAdjust;simp only[h1,if_false];refine Prod.ext ?_ ?_
 .cases lo with
  |none=>rfl
  |some v=>exact Hi v n 0
 .cases hi with
  |none=>rfl
  |some v=>exact Hi v n n
theorem J2 (i j:Nat):Builtin.Slice.slicePlaces (i:Int) (j:Int) 1=j - i:=by
 unfold Builtin.Slice.slicePlaces;have h1:(1:Int)>0:=by omega
 simp only[h1,if_true,Int.ediv_one];split<;>omega
theorem xZ {v:Value}{o:Option Int}{Q:Option Int->Shared->Prop}(p:IsPart v o)(h:Q o s):wpAny (model prog w) A (Builtin.Slice.slicePartIndex v) Q E s:=by
 cases p with
 |none=>exact slicePart_none h
 |int i t=>exact slicePart_int h
theorem wQ {sl:Addr}{vl vu:Value}{lo hi:Option Int}{n:Nat}{Q:Int×Int×Nat->Shared->Prop}(hs:s.heap.IsSliceOf sl vl vu .none)(pl:IsPart vl lo)(pu:IsPart vu hi)
  (h:Q (((bQ n 0 lo:Nat):Int),1,bQ n n hi - bQ n 0 lo) s):wpAny (model prog w) A (Builtin.Slice.sliceApplied (.ref sl) (pure (n:Int))) Q E s:=by
 obtain⟨os,hos,hcs,hds⟩:=id hs;unfold Builtin.Slice.sliceApplied Builtin.Slice.sliceFields;refine wpAny_bind (wpAny_bind (wpAny_field hos hds (x:=vl) rfl (wpAny_bind (wpAny_field hos hds (x:=vu) rfl (wpAny_bind (wpAny_field hos hds (x:=.none) rfl (wpAny_pure ?_)))))));refine wpAny_bind (slicePart_none ?_);show wpAny _ _ (if((1:Int)==0)=true then _ else _) _ _ s;rw[if_neg (by decide)];refine wpAny_bind (xZ pl (wpAny_bind (xZ pu (wpAny_bind (wpAny_pure ?_)))));show wpAny _ _ (match Builtin.Slice.sliceAdjust lo hi 1 (n:Int) with|(lo,hi)=>pure (lo,(1:Int),Builtin.Slice.slicePlaces lo hi 1)) _ _ s;rw[J1 lo hi n];show wpAny _ _ (pure (((bQ n 0 lo:Nat):Int),(1:Int),Builtin.Slice.slicePlaces ((bQ n 0 lo:Nat):Int) ((bQ n n hi:Nat):Int) 1)) _ _ s;rw[J2];exact wpAny_pure h
theorem RG (xs:Array Value)(i k:Nat):((List.range k).filterMap λ(m:Nat)=>xs[((i:Int)+(m:Int)*1).toNat]?).toArray=((xs.toList.drop i).take k).toArray:=by
 have e:(λ(m:Nat)=>xs[((i:Int)+(m:Int)*1).toNat]?)= λm=>xs[i+m]?:=by
  funext m
  have:((i:Int)+(m:Int)*1).toNat=i+m:=by omega
  rw[this]
 rw[e];have:=pick_run xs i k;rw[List.filterMap_map] at this;have e2:((λx=>xs[x]?) ∘ λx=>i+x)= λm=>xs[i+m]?:=rfl;rw[e2] at this;rw[this]
theorem wg {t sl:Addr}{items:Array Value}{vl vu:Value}{lo hi:Option Int}{Q:Value->Shared->Prop}(ht:IsTup s.heap t items)(hs:s.heap.IsSliceOf sl vl vu .none)(pl:IsPart vl lo)(pu:IsPart vu hi)
  (hw:¬(bQ items.size 0 lo=0/\bQ items.size items.size hi=items.size))
  (h:Q (.ref s.heap.objs.size) {s with heap:=s.heap.push {cls:=.type "tuple",data:=.seq ((items.toList.drop (bQ items.size 0 lo)).take (bQ items.size items.size hi - bQ items.size 0 lo)).toArray}})
  (hsz:items.size<=sizeLine):wpAny (model prog w) A (getItem (.ref t) (.ref sl)) Q E s:=by
 have Ci:sizeOk (.seq ((items.toList.drop (bQ items.size 0 lo)).take (bQ items.size items.size hi - bQ items.size 0 lo)).toArray):=by show((items.toList.drop (bQ items.size 0 lo)).take (bQ items.size items.size hi - bQ items.size 0 lo)).toArray.size<=sizeLine;rw[size_toArray,length_take,length_drop,length_toList];omega
 have hj:bQ items.size items.size hi<=items.size:=Dw _ _ (le_refl _) hi;obtain⟨os,hos,hcs,hds⟩:=id hs;have hTs:s.TypeIs (.ref sl) "slice":=⟨os,hos,hcs⟩;unfold getItem;try with_reducible refine wpAny_holding ?_
 first|refine wpAny_bind (wpAny_pure ?_)|skip
 refine wpAny_bind (wpAny_sequenceKey ht.typeIs (by decide) ?_);refine wpAny_bind (wpAny_callSpecial?_slot (name:=Str.ofString "__getitem__") ht.typeIs PyProof.Rows.slot_tuple_getitem
  (wpAny_call_entry PyProof.Rows.slot_tuple_getitem ht.typeIs entry_tuple_getitem ?_ (args_tuple_getitem _ _)))
 show wpAny _ _ (Builtin.Tuple.tupleItemsOf (.ref t)>>=_) _ _ s;refine wpAny_bind (tupleItemsOf_ ht ?_);refine wpAny_bind (wpAny_typeOf hTs ?_);rw[if_pos (by decide)];refine wpAny_bind (wQ hs pl pu ?_);have hno:¬((((bQ items.size 0 lo:Nat):Int)==0 && (1:Int)==1 && (bQ items.size items.size hi - bQ items.size 0 lo)==items.size)=true):=by intro q;rw[and_eq_true,and_eq_true] at q;have q1:((bQ items.size 0 lo:Nat):Int)=0:=eq_of_beq q.1.1;have q2:bQ items.size items.size hi - bQ items.size 0 lo=items.size:=eq_of_beq q.2;exact hw ⟨by omega,by omega⟩
 show wpAny _ _ (if(((bQ items.size 0 lo:Nat):Int)==0 && (1:Int)==1 && (bQ items.size items.size hi - bQ items.size 0 lo)==items.size)=true then _ else _) _ _ s;rw[if_neg hno,RG];first
  |exact wpAny_bind (m:=Builtin.Tuple.tupleExact _) (wpAny_newObj_type (wpAny_pure ⟨_,rfl,wpAny_pure h⟩) Ci)
  |exact wpAny_bind (m:=Builtin.Tuple.tupleExact _) (wpAny_newObj_type (wpAny_bind (wpAny_pure (wpAny_pure ⟨_,rfl,wpAny_pure h⟩))) Ci)
  |exact wpAny_bind (wpAny_bind (m:=Builtin.Tuple.tupleExact _) (wpAny_newObj_type (wpAny_pure (wpAny_pure ⟨_,rfl,wpAny_pure h⟩)) Ci))
  |exact wpAny_bind (wpAny_bind (m:=Builtin.Tuple.tupleExact _) (wpAny_newObj_type (wpAny_pure ⟨_,rfl,wpAny_pure h⟩) Ci))
end
end HT
namespace L2
open PyProof.Rows
noncomputable abbrev TO:=St->Hp->(Option Int->Hp->Prop)->Prop
def PO (X:Cx)(e:Option Expr)(t:TO):Prop:=
 ∀(pins:List (Addr×Obj)) (s:Shared) (σ:St) (H:Hp) (Q:Option Int->Hp->Prop),Inv X pins σ H s->t σ H Q->
  wpAny (model X.prog X.w) X.A (evalPart e X.env) (λu s'=>∃o H',Inv X pins σ H' s'/\IsPart u o/\Q o H') X.xe s
noncomputable def qD:TO:=λ_ H Q=>Q none H
noncomputable def pA (t:TE):TO:=λσ H Q=>t σ H λx H1=>∃i,x=.int i/\Q (some i) H1
section
variable {X:Cx}{e:Expr}{te:TE}{lo hi:Option Expr}{tl th:TO}{pos p2:Pos}
theorem zx:PO X none qD:=by intro pins s σ H Q I h;rw[evalPart_none];exact wpAny_pure ⟨none,H,I,.none,h⟩
theorem qF (h:PE X e te):PO X (some e) (pA te):=by intro pins s σ H Q I hw;rw[evalPart_some];refine aO (h pins s σ H _ I hw) λu s1 ⟨x,H1,I1,r1,q1⟩=>?_;obtain⟨i,rfl,q⟩:=q1;obtain⟨t,rfl⟩:=r1;exact⟨some i,H1,I1,.int i t,q⟩
def Vz (X:Cx)(r:V->Option Int->Option Int->Hp->VK->Prop):Prop:=
 ∀(pins:List (Addr×Obj)) (s:Shared) (σ:St) (H:Hp) (x:V) (v vl vu:Value) (lo hi:Option Int) (sl:Addr) (Q:VK),Inv X pins σ H s->RelV x v->s.heap.IsSliceOf sl vl vu .none->IsPart vl lo->IsPart vu hi->r x lo hi H Q->
  ∃T id,typeLookup (.type T) "__getitem__"=pure (some (.builtin id))/\s.TypeIs v T/\wpAny (model X.prog X.w) X.A (getItem v (.ref sl)) (EP X pins σ Q) X.xe s
noncomputable def Dy (r:V->Option Int->Option Int->Hp->VK->Prop)(te:TE)(tl th:TO):TE:=λσ H Q=>te σ H λx H1=>tl σ H1 λl H2=>th σ H2 λu H3=>r x l u H3 Q
theorem lM {r:V->Option Int->Option Int->Hp->VK->Prop}(hr:Vz X r)(he:PE X e te)(hl:PO X lo tl)(hu:PO X hi th):PE X (.Subscript e (.Slice lo hi none p2) pos) (Dy r te tl th):=by intro pins s σ H Q I h;refine Subscript_ (aO (he pins s σ H _ I h) λv s1 ⟨x,H1,I1,r1,q1⟩=>?_);refine wpAny_Slice (aO (hl pins s1 σ H1 _ I1 q1) λvl s2 ⟨l,H2,I2,pl,q2⟩=>aO (hu pins s2 σ H2 _ I2 q2) λvu s3 ⟨u,H3,I3,pu,q3⟩=>?_);rw[evalPart_none];refine wpAny_pure ?_;have I4:Inv X pins σ H3 {s3 with heap:=s3.heap.push {cls:=.type "slice",data:=.fields #[vl,vu,.none]}}:=I3.kept (t':=s3.toks) λb ob q=>get?_push_of_some _ q;obtain⟨T,id,hT,ht,hg⟩:=hr pins {s3 with heap:=s3.heap.push {cls:=.type "slice",data:=.fields #[vl,vu,.none]}} σ H3 x v vl vu l u s3.heap.objs.size Q I4 r1 (Heap.IsSliceOf.new ..) pl pu q3;show wpAny (model X.prog X.w) X.A (subscriptTail e (.Slice lo hi none p2) v (.ref s3.heap.objs.size)) (EP X pins σ Q) X.xe {s3 with heap:=s3.heap.push {cls:=.type "slice",data:=.fields #[vl,vu,.none]}};exact tail_any (ops:=[.ref s3.heap.objs.size,v]) ht hT hg (by with_unfolding_all rfl)
def mX (xs:List V)(lo hi:Option Int):List V:=(xs.drop (HT.bQ xs.length 0 lo)).take (HT.bQ xs.length xs.length hi - HT.bQ xs.length 0 lo)
theorem wC (xs:List V)(lo hi:Option Int):(mX xs lo hi).length<=xs.length:=by unfold mX;rw[length_take,length_drop];omega
def agi (K:Frag):V->Option Int->Option Int->Hp->VK->Prop:=λx lo hi H Q=>∃a xs,x=.ref a/\cZ K H a xs/\
 ¬(HT.bQ xs.length 0 lo=0/\HT.bQ xs.length xs.length hi=xs.length)/\∀p,H p=none->Q (.ref p) (upd H p (.tup (mX xs lo hi)))
theorem aaf:Vz X (agi X.K):=by
 intro pins s σ H x v vl vu lo hi sl Q I rx hs pl pu h;obtain⟨a,xs,rfl,hx,hw,q⟩:=h;cases rx;obtain⟨its,r,ht,hz⟩:=I.tuple hx;have hlen:its.toArray.size=xs.length:=by rw[size_toArray];exact r.length.symm
 refine⟨"tuple",_,PyProof.Rows.slot_tuple_getitem.lookup,ht.typeIs,?_⟩;refine HT.wg ht hs pl pu (by rw[hlen];exact hw) ?_ (by rw[hlen];exact hz);rw[hlen];refine⟨.ref s.heap.objs.size,_,I.laid (t':=s.toks) (o:=.tup (mX xs lo hi)) (λb ob q=>get?_push_of_some _ q) (le_refl _) ?_,rfl,q _ (I.hok.fresh (le_refl _))⟩;exact⟨le_trans (wC xs lo hi) hz,_,(r.drop (HT.bQ xs.length 0 lo)).take (HT.bQ xs.length xs.length hi - HT.bQ xs.length 0 lo),IsTup.new _ _⟩
end
noncomputable def nq (n:Nat)(i:Int):Option Nat:=if 0<=i then(if i<n then some i.toNat else none) else if -(n:Int)<=i then some (i+n).toNat else none
def cR {α:Type}(xs:List α)(i:Int):Option α:=(nq xs.length i).bind λj=>xs[j]?
theorem Hj {n:Nat}{i:Int}{j:Nat}(h:nq n i=some j):seqIndex? i n=some j/\j<n∧-(n:Int)<=i/\i<n:=by
 unfold nq at h;by_cases h0:0<=i
 .rw[if_pos h0] at h;by_cases h1:i<n
  .rw[if_pos h1] at h;have e:i.toNat=j:=Option.some.inj h;exact⟨by rw[seqIndex_of h0 h1,e],by omega,by omega,h1⟩
  .rw[if_neg h1] at h;cases h
 .rw[if_neg h0] at h;by_cases h1: -(n:Int)<=i
  .rw[if_pos h1] at h;have e:(i+n).toNat=j:=Option.some.inj h;exact⟨by rw[seqIndex_neg (by omega) h1,e],by omega,h1,by omega⟩
  .rw[if_neg h1] at h;cases h
theorem qG {α:Type}{xs:List α}{i:Int}{v:α}(h:cR xs i=some v):∃j,seqIndex? i xs.length=some j/\xs[j]? =some v/\j<xs.length∧-(xs.length:Int)<=i/\i<xs.length:=by
 unfold cR at h;cases e:nq xs.length i with
 |none=>rw[e] at h;cases h
 |some j=>rw[e] at h;obtain⟨h1,h2,h3,h4⟩:=Hj e;exact⟨j,h1,h,h2,h3,h4⟩
theorem lN {α:Type}{xs:List α}{j:Nat}{v:α}(h:xs[j]? =some v):cR xs (j:Int)=some v:=by
 have hj:j<xs.length:=(List.getElem?_eq_some_iff.mp h).1;have e:nq xs.length (j:Int)=some j:=by unfold nq;rw[if_pos (by omega),if_pos (by omega)];simp
 unfold cR;rw[e];exact h
noncomputable def vG (b:Expr):Prop:=∀o i,subscripted b false o i=operate [o,i] (getItem o i)
def n8 (X:Cx)(r:R2):Prop:=
 ∀(value slice:Expr) (pins:List (Addr×Obj)) (s:Shared) (σ:St) (H:Hp) (x y:V) (v u:Value) (Q:VK),Inv X pins σ H s->RelV x v->RelV y u->r x y H Q->
  subscripted slice false v u=operate [v,u] (getItem v u)->wpAny (model X.prog X.w) X.A (subscriptTail value slice v u) (EP X pins σ Q) X.xe s
def Aq (X:Cx)(id:String)(r:V->List V->Hp->VK->Prop):Prop:=
 ∀(pins:List (Addr×Obj)) (s:Shared) (σ:St) (H:Hp) (x:V) (xs:List V) (v:Value) (us:List Value) (Q:VK),Inv X pins σ H s->RelV x v->Vals xs us->r x xs H Q->
  wpAny (model X.prog X.w) X.A (call (.builtin id) (v::us)) (EP X pins σ Q) X.xe s
section
variable {X:Cx}{a b:Expr}{ta tb:TE}{pos:Pos}
theorem n8.or {r r':R2}(h:n8 X r)(h':n8 X r'):n8 X (λx y H Q=>r x y H Q\/r' x y H Q):=by
 intro value slice pins s σ H x y v u Q I rx ry q hs;rcases q with q|q
 .exact h value slice pins s σ H x y v u Q I rx ry q hs
 .exact h' value slice pins s σ H x y v u Q I rx ry q hs
theorem J3 {r:R2}(hr:n8 X r)(ha:PE X a ta)(hb:PE X b tb)(hs:vG b):PE X (.Subscript a b pos) (dU r ta tb):=by intro pins s σ H Q I h;exact Subscript_ (Rp ha hb I h λv u s2 x y H2 I2 rx ry q=>hr a b pins s2 σ H2 x y v u Q I2 rx ry q (hs _ _))
def RJ (K:Frag):R2:=λx y H Q=>∃p xs i v,x=.ref p/\y=.int i/\aU K H p xs/\cR xs i=some v/\Q v H
def agj (K:Frag):R2:=λx y H Q=>∃p xs i v,x=.ref p/\y=.int i/\cZ K H p xs/\cR xs i=some v/\Q v H
def agk:R2:=λx y H Q=>∃z i c,x=.str z/\y=.int i/\z.length<=sizeLine/\cR z.cps.toList i=some c/\Q (.str ⟨#[c]⟩) H
theorem Hl:n8 X (RJ X.K):=by
 intro value slice pins s σ H x y v u Q I rx ry h hs;obtain⟨p,xs,i,z,rfl,rfl,hq,he,q⟩:=h;cases rx;obtain⟨t,rfl⟩:=ry;obtain⟨its,r,pl,hz⟩:=I.list hq;obtain⟨j,h1,h2,h3,h4,h5⟩:=qG he;obtain⟨w,ew,lg⟩:=r.get h2;have hl:=r.length;have hn:=mL;have fin:EP X pins σ Q w s:=⟨z,H,I,lg,q⟩;by_cases h0:0<=i
 .have hj:i.toNat=j:=by rw[seqIndex_of h0 h5] at h1;exact Option.some.inj h1
  exact item_listR pl.isList h0 (by omega) (by rw[hj];simpa using ew) fin hs
 .have hj:(i+(its.toArray.size:Int)).toNat=j:=by rw[seqIndex_neg (by omega) h4] at h1;rw[size_toArray,←hl];exact Option.some.inj h1
  exact subscriptTail_builtinR (x:=w) pl.isList.typeIs slot_list_getitem.lookup
   (wpAny_getItem_list_neg (Q:=λr s'=>r=w/\EP X pins σ Q r s') pl.isList (by omega) (by rw[size_toArray]<;>omega) (by omega) (by rw[hj];simpa using ew) ⟨rfl,fin⟩) hs
theorem Nb:n8 X (agj X.K):=by
 intro value slice pins s σ H x y v u Q I rx ry h hs;obtain⟨p,xs,i,z,rfl,rfl,hq,he,q⟩:=h;cases rx;obtain⟨t,rfl⟩:=ry;obtain⟨its,r,pl,hz⟩:=I.tuple hq;obtain⟨j,h1,h2,h3,h4,h5⟩:=qG he;obtain⟨w,ew,lg⟩:=r.get h2;have hl:=r.length;have hn:=mL;have fin:EP X pins σ Q w s:=⟨z,H,I,lg,q⟩;exact subscriptTail_builtinR (x:=w) pl.typeIs slot_tuple_getitem.lookup
  (getItem_tuple (j:=j) (Q:=λr s'=>r=w/\EP X pins σ Q r s') pl (by omega) (by omega) (by rw[size_toArray,←hl];exact h1) (by simpa using ew) ⟨rfl,fin⟩) hs
theorem aag:n8 X agk:=by
 intro value slice pins s σ H x y v u Q I rx ry h hs;obtain⟨z,i,c,rfl,rfl,hz,he,q⟩:=h;obtain⟨t,rfl⟩:=rx;obtain⟨t',rfl⟩:=ry;obtain⟨j,h1,h2,h3,h4,h5⟩:=qG he;have hl:z.cps.toList.length=z.length:=by simp[Str.length]
 rw[hl] at h1 h4 h5;have hn:=mL;exact tail_any (typeIs_str s z t) slot_str_getitem.lookup (getItem_str (c:=c) (by
  have e1:decide (i< -(2^63:Int))=false:=decide_eq_false (by omega);have e2:decide (i≥2^63)=false:=decide_eq_false (by omega);rw[e1,e2,Bool.or_false]) (by rw[h1];simpa using h2) ⟨.str ⟨#[c]⟩,H,I.tok _,⟨_,rfl⟩,q⟩) hs
theorem J4 (its:List Value)(n j:Nat)(u:Value):Obj.mapSeq (·.setIfInBounds j u) {cls:=.type "list",data:=.seq its.toArray n}={cls:=.type "list",data:=.seq (its.set j u).toArray n}:=by simp[Obj.mapSeq]
theorem Inv.lst {pins:List (Addr×Obj)}{σ:St}{H:Hp}{s:Shared}{p:Addr}{xs:List V}(I:Inv X pins σ H s)(h:H p=some (.lst xs)):
  ∃(its:List Value) (n:Nat),Vals xs its/\s.heap.get? p=some {cls:=.type "list",data:=.seq its.toArray n}/\xs.length<=sizeLine:=by
 obtain⟨z,its,n,r,e⟩:=I.hok p _ h;exact⟨its,n,r,e,z⟩
theorem Inv.aah {pins:List (Addr×Obj)}{σ:St}{H:Hp}{s:Shared}{p:Addr}{xs ys:List V}{its its':List Value}{n n':Nat}{f:Obj->Obj}(I:Inv X pins σ H s)(h:H p=some (.lst xs))
  (ho:s.heap.get? p=some {cls:=.type "list",data:=.seq its.toArray n})(hf:f {cls:=.type "list",data:=.seq its.toArray n}={cls:=.type "list",data:=.seq its'.toArray n'})(r:Vals ys its')(hz:ys.length<=sizeLine)(t:Nat):
  Inv X pins σ (upd H p (.lst ys)) {s with heap:=s.heap.update p f,toks:=t}:=by
 have e:(s.heap.update p f).get? p=some {cls:=.type "list",data:=.seq its'.toArray n'}:=by rw[get?_update_self f ho (by rw[hf]<;>rfl),hf]
 refine I.write (x:=p) (e:=p) (by rw[h];trivial) (.inl rfl) (λb u hb q=>(get?_update_other _ _ (Ne.symm hb)).trans q) ⟨_,e⟩ ?_;exact⟨hz,its',n',r,e⟩
def adL:V->V->V->Hp->(Hp->Prop)->Prop:=λo i v H Q=>∃p xs k j,o=.ref p/\i=.int k/\H p=some (.lst xs)/\nq xs.length k=some j/\Q (upd H p (.lst (xs.set j v)))
theorem set_list:tZ X adL:=by
 intro pins s σ H o i v ov iv u Q I ro ri rv h;obtain⟨p,xs,k,j,rfl,rfl,hp,hj,q⟩:=h;cases ro;obtain⟨t,rfl⟩:=ri;obtain⟨its,n,r,ho,hz⟩:=I.lst hp;obtain⟨h1,h2,h3,h4⟩:=Hj hj;have hl:=r.length;have hn:=mL;have I':Inv X pins σ (upd H p (.lst (xs.set j v))) {s with heap:=s.heap.update p (Obj.mapSeq (·.setIfInBounds j u))}:=
  I.aah hp ho (J4 its n j u) (r.set rv j) (by rw[length_set];exact hz) s.toks
 by_cases h0:0<=k
 .have hk:k.toNat=j:=by rw[seqIndex_of h0 h4] at h1;exact Option.some.inj h1
  exact PySem.W.ki_setAt ho h0 (by omega) (by rw[size_toArray,←hl];exact h4) (by rw[hk];exact⟨_,I',q⟩)
 .have hk:(k+(its.toArray.size:Int)).toNat=j:=by rw[seqIndex_neg (by omega) h3] at h1;rw[size_toArray,←hl];exact Option.some.inj h1
  exact PySem.W.ki_setBack ho (by omega) (by rw[size_toArray,←hl];exact h3) (by omega) (by rw[hk];exact⟨_,I',q⟩)
theorem Dz (lo hi:Option Int)(n:Nat):(sliceBounds lo hi none n).1=((HT.bQ n 0 lo:Nat):Int)/\(sliceBounds lo hi none n).2.1=((HT.bQ n n hi:Nat):Int)/\(sliceBounds lo hi none n).2.2=1:=by
 refine⟨?_,?_,rfl⟩
 .cases lo with
  |none=>simp[sliceBounds,HT.bQ]
  |some i=>
   simp only[sliceBounds,HT.bQ,Option.getD_none,show(1:Int)>0 by decide,if_true];by_cases h:i<0
   .simp only[h,if_true]<;>omega
   .simp only[h,if_false]<;>omega
 .cases hi with
  |none=>simp[sliceBounds,HT.bQ]
  |some i=>
   simp only[sliceBounds,HT.bQ,Option.getD_none,show(1:Int)>0 by decide,if_true];by_cases h:i<0
   .simp only[h,if_true]<;>omega
   .simp only[h,if_false]<;>omega
theorem BL (its:List Value)(lo hi:Option Int):slicePick its.toArray lo hi none=((its.drop (HT.bQ its.length 0 lo)).take (HT.bQ its.length its.length hi - HT.bQ its.length 0 lo)).toArray:=by obtain⟨h1,h2,h3⟩:=Dz lo hi its.toArray.size;unfold slicePick;rw[h1,h2,h3];simp only[sliceRange_one,pick_run,size_toArray]<;>rfl
def RK (K:Frag):V->Option Int->Option Int->Hp->VK->Prop:=λx lo hi H Q=>∃a xs,x=.ref a/\aU K H a xs/\∀p,H p=none->Q (.ref p) (upd H p (.lst (mX xs lo hi)))
theorem zy:Vz X (RK X.K):=by intro pins s σ H x v vl vu lo hi sl Q I rx hs pl pu h;obtain⟨a,xs,rfl,hx,q⟩:=h;cases rx;obtain⟨its,r,ht,hz⟩:=I.list hx;have hlen:=r.length;refine⟨"list",_,slot_list_getitem.lookup,ht.isList.typeIs,?_⟩;refine wpAny_getItem_list_slice ht.isList hs pl pu .none (by simp) ?_ (by rw[size_toArray]<;>omega);rw[BL,←hlen];refine⟨.ref s.heap.objs.size,_,I.laid (t':=s.toks) (o:=.lst (mX xs lo hi)) (λb ob q=>get?_push_of_some _ q) (le_refl _) ?_,rfl,q _ (I.hok.fresh (le_refl _))⟩;exact⟨le_trans (wC xs lo hi) hz,_,0,(r.drop (HT.bQ xs.length 0 lo)).take (HT.bQ xs.length xs.length hi - HT.bQ xs.length 0 lo),get?_push_size _ rfl⟩
noncomputable def mz:V->Bool
 |.non=>true
 |.bl _=>true
 |.int _=>true
 |.str _=>true
 |_=>false
noncomputable def wD:V->V->Bool
 |.non,.non=>true
 |.bl a,.bl b=>a==b
 |.bl a,.int b=>(if a then 1 else 0)==b
 |.int a,.bl b=>a==(if b then 1 else 0)
 |.int a,.int b=>a==b
 |.str a,.str b=>a==b
 |_,_=>false
theorem aai {A:Around}{s:Shared}{y x:V}{u v:Value}(ry:RelV y u)(rx:RelV x v)(fy:mz y=true)(fx:mz x=true):SeqAt.EqAt A s u v (wD y x):=by
 cases y with
 |non=>
  cases ry;cases x with
  |non=>cases rx;exact SeqAt.EqAt.same _
  |bl b=>cases rx;exact SeqAt.EqAt.none_bool b
  |int b=>obtain⟨t,rfl⟩:=rx;exact SeqAt.EqAt.none_int b t
  |str b=>obtain⟨t,rfl⟩:=rx;exact SeqAt.EqAt.none_str b t
  |_=>exact absurd (show false=true from fx) Bool.false_ne_true
 |bl a=>
  cases ry;cases x with
  |non=>cases rx;exact SeqAt.EqAt.bool_none a
  |bl b=>cases rx;exact SeqAt.EqAt.bool_bool a b
  |int b=>obtain⟨t,rfl⟩:=rx;exact SeqAt.EqAt.bool_int a b t
  |str b=>obtain⟨t,rfl⟩:=rx;exact SeqAt.EqAt.bool_str a b t
  |_=>exact absurd (show false=true from fx) Bool.false_ne_true
 |int a=>
  obtain⟨t',rfl⟩:=ry;cases x with
  |non=>cases rx;exact SeqAt.EqAt.int_none a t'
  |bl b=>cases rx;exact SeqAt.EqAt.int_bool a t' b
  |int b=>obtain⟨t,rfl⟩:=rx;exact SeqAt.EqAt.int_int a t' b t
  |str b=>obtain⟨t,rfl⟩:=rx;exact SeqAt.EqAt.int_str a t' b t
  |_=>exact absurd (show false=true from fx) Bool.false_ne_true
 |str a=>
  obtain⟨t',rfl⟩:=ry;cases x with
  |non=>cases rx;exact SeqAt.EqAt.str_none a t'
  |bl b=>cases rx;exact SeqAt.EqAt.str_bool a t' b
  |int b=>obtain⟨t,rfl⟩:=rx;exact SeqAt.EqAt.str_int a t' b t
  |str b=>obtain⟨t,rfl⟩:=rx;exact SeqAt.EqAt.str_str a t' b t
  |_=>exact absurd (show false=true from fx) Bool.false_ne_true
 |_=>exact absurd (show false=true from fy) Bool.false_ne_true
def oh (x:V)(u:Value):Bool:=match u with
 |.none=>wD .non x
 |.bool b=>wD (.bl b) x
 |.int i _=>wD (.int i) x
 |.str z _=>wD (.str z) x
 |_=>false
theorem Nf {x y:V}{u:Value}(r:RelV y u)(f:mz y=true):oh x u=wD y x:=by
 cases y with
 |non=>cases r;rfl
 |bl b=>cases r;rfl
 |int i=>obtain⟨t,rfl⟩:=r;rfl
 |str z=>obtain⟨t,rfl⟩:=r;rfl
 |_=>exact absurd (show false=true from f) Bool.false_ne_true
theorem qH {x:V}:∀{xs:List V}{us:List Value},Vals xs us->xs.all mz=true->us.any (oh x)=xs.any λy=>wD y x
 |_,_,.nil,_=>rfl
 |y::xs,u::us,.cons r t,f=>by rw[List.all_cons,and_eq_true] at f;rw[any_cons,any_cons,Nf r f.1,qH t f.2]
theorem ou {A:Around}{s:Shared}{x:V}{v:Value}(rx:RelV x v)(fx:mz x=true):∀{xs:List V}{us:List Value},Vals xs us->xs.all mz=true->∀u∈us,SeqAt.EqAt A s u v (oh x u)
 |_,_,.nil,_=>λu hu=>by cases hu
 |y::xs,u::us,.cons r t,f=>λu' hu=>by
  rw[List.all_cons,and_eq_true] at f;rcases mem_cons.mp hu with rfl|hu
  .rw[Nf r f.1];exact aai r rx f.1 fx
  .exact ou rx fx t f.2 u' hu
def inV (x:V)(xs:List V):Bool:=xs.any λy=>wD y x
def VB (K:Frag)(neg:Bool):R2:=λx y H Q=>∃p xs,y=.ref p/\(aU K H p xs\/cZ K H p xs)/\mz x=true/\xs.all mz=true/\Q (.bl (if neg then !inV x xs else inV x xs)) H
theorem Ng:cg X (compareOp .In) (VB X.K false):=by
 intro pins s σ H x y v u Q I rx ry h;obtain⟨p,xs,rfl,hq,fx,fs,q⟩:=h;cases ry;rcases hq with hq|hq
 .obtain⟨its,r,pl,hz⟩:=I.list hq;refine SeqAt.in_listAt (oh x) pl.isList (λw hw=>ou rx fx r fs w (by simpa using hw)) ⟨.bl _,H,I,rfl,?_⟩;rw[show its.toArray.any (oh x)=its.any (oh x) by simp,qH r fs];exact q
 .obtain⟨its,r,pl,hz⟩:=I.tuple hq;refine SeqAt.in_tupleAt (oh x) pl (λw hw=>ou rx fx r fs w (by simpa using hw)) ⟨.bl _,H,I,rfl,?_⟩;rw[show its.toArray.any (oh x)=its.any (oh x) by simp,qH r fs];exact q
theorem DG:cg X (compareOp .NotIn) (VB X.K true):=by
 intro pins s σ H x y v u Q I rx ry h;obtain⟨p,xs,rfl,hq,fx,fs,q⟩:=h;cases ry;rcases hq with hq|hq
 .obtain⟨its,r,pl,hz⟩:=I.list hq;refine SeqAt.notIn_listAt (oh x) pl.isList (λw hw=>ou rx fx r fs w (by simpa using hw)) ⟨.bl _,H,I,rfl,?_⟩;rw[show its.toArray.any (oh x)=its.any (oh x) by simp,qH r fs];exact q
 .obtain⟨its,r,pl,hz⟩:=I.tuple hq;refine SeqAt.notIn_tupleAt (oh x) pl (λw hw=>ou rx fx r fs w (by simpa using hw)) ⟨.bl _,H,I,rfl,?_⟩;rw[show its.toArray.any (oh x)=its.any (oh x) by simp,qH r fs];exact q
theorem DK:c7 X (.builtin "len") (λxs H Q=>∃p ys,xs=[.ref p]/\(aU X.K H p ys\/cZ X.K H p ys)/\Q (.int ys.length) H):=by
 intro pins s σ H xs us Q I r h;obtain⟨p,ys,rfl,hq,q⟩:=h;obtain⟨u,rfl,rx⟩:=vals1 r;cases rx;have hn:=mL;rcases hq with hq|hq
 .obtain⟨its,r',pl,hz⟩:=I.list hq;have hlen:=r'.length;exact Calls.call_len_list pl.isList (by simp only[size_toArray]<;>omega) ⟨.int ys.length,H,I.tok _,⟨s.toks+1,by rw[size_toArray,hlen]⟩,q⟩
 .obtain⟨its,r',pl,hz⟩:=I.tuple hq;have hlen:=r'.length;exact len_tuple pl (by simp only[size_toArray]<;>omega) ⟨.int ys.length,H,I.tok _,⟨s.toks+1,by rw[size_toArray,hlen]⟩,q⟩
theorem uq:c7 X (.builtin "len") (λxs H Q=>∃z,xs=[.str z]/\z.length<=sizeLine/\Q (.int z.length) H):=by intro pins s σ H xs us Q I r h;obtain⟨z,rfl,hz,q⟩:=h;obtain⟨u,rfl,t,rfl⟩:=vals1 r;have hn:=mL;exact len_str (by omega) ⟨.int z.length,H,I.tok _,⟨_,rfl⟩,q⟩
theorem DN:c7 X (.type "list") (λxs H Q=>∃p ys,xs=[.ref p]/\(aU X.K H p ys\/cZ X.K H p ys)/\∀l,H l=none->Q (.ref l) (upd H l (.lst ys))):=by
 intro pins s σ H xs us Q I r h;obtain⟨p,ys,rfl,hq,q⟩:=h;obtain⟨u,rfl,rx⟩:=vals1 r;cases rx;have fin:∀(its:List Value),Vals ys its->ys.length<=sizeLine->∀(h':Heap) (c':Nat),(∀b o',s.heap.get? b=some o'->h'.get? b=some o')->
   h'.get? s.heap.objs.size=some {cls:=.type "list",dict:=none,data:=.seq its.toArray c',slots:=#[]}->EP X pins σ Q (.ref s.heap.objs.size) {s with heap:=h'}:=λits r' hz h' c' kp e=>
  ⟨.ref s.heap.objs.size,_,I.laid (t':=s.toks) kp (le_refl _) (show dB X.prog X.w _ h' _ (.lst ys) from⟨hz,its,c',r',e⟩),rfl,q _ (I.hok.fresh (le_refl _))⟩
 rcases hq with hq|hq
 .obtain⟨its,r',pl,hz⟩:=I.list hq;have hlen:=r'.length;obtain⟨o,ho,hc,n,hd⟩:=pl.isList;exact call_list_seq p (.inl rfl) ho hc hd (λh' c' kp e=>fin its r' hz h' c' kp e) (by simp only[size_toArray]<;>omega)
 .obtain⟨its,r',pl,hz⟩:=I.tuple hq;have hlen:=r'.length;obtain⟨o,ho,hc,n,hd⟩:=pl;exact call_list_seq p (.inr rfl) ho hc hd (λh' c' kp e=>fin its r' hz h' c' kp e) (by simp only[size_toArray]<;>omega)
def tyV (K:Frag)(T:String)(x:V)(H:Hp):Prop:=match x with
 |.str _=>T="str"
 |.int _=>T="int"
 |.ref p=>(T="list"/\∃xs,aU K H p xs)\/(T="tuple"/\∃o,K.lookup p=some o/\o.cls=.type "tuple"/\o.dict=none)\/
  (T="dict"/\((∃kvs,H p=some (.dK kvs))\/∃kvs,H p=some (.dT kvs)))\/(T="set"/\∃S n,H p=some (.set S n))
 |_=>False
theorem Nh {pins:List (Addr×Obj)}{σ:St}{H:Hp}{s:Shared}{T:String}{x:V}{v:Value}(I:Inv X pins σ H s)(r:RelV x v)(ty:tyV X.K T x H):
  s.TypeIs v T/\∀a,v=.ref a->∃ob,s.heap.get? a=some ob/\ob.dict=none:=by
 cases x with
 |str z=>
  obtain⟨t,rfl⟩:=r;cases(show T="str" from ty);exact⟨typeIs_str s z t,λ_ e=>nomatch e⟩
 |int i=>
  obtain⟨t,rfl⟩:=r;cases(show T="int" from ty);exact⟨typeIs_int s i t,λ_ e=>nomatch e⟩
 |ref p=>
  cases r;rcases ty with⟨rfl,xs,hq⟩|⟨rfl,o,hk,hc,hd⟩|⟨rfl,hk⟩|⟨rfl,S,n,hk⟩
  .obtain⟨its,_,pl,_⟩:=I.list hq;refine⟨pl.isList.typeIs,λa e=>?_⟩;cases e;obtain⟨o,n,e,c,hd,_⟩:=pl;exact⟨o,e,hd⟩
  .refine⟨⟨o,I.dM p o hk,hc⟩,λa e=>?_⟩;cases e;exact⟨o,I.dM _ o hk,hd⟩
  .have z:∃o,s.heap.get? p=some o/\o.ExactDict:=by
    rcases hk with⟨kvs,hk⟩|⟨kvs,hk⟩
    .obtain⟨_,_,_,_,o,_,_,e,ex,_⟩:=I.hok p _ hk;exact⟨o,e,ex⟩
    .obtain⟨_,_,_,_,o,_,_,e,ex,_⟩:=I.hok p _ hk;exact⟨o,e,ex⟩
   obtain⟨o,e,ex⟩:=z;refine⟨⟨o,e,ex.1⟩,λa e2=>?_⟩;cases e2;exact⟨o,e,ex.2.1⟩
  .obtain⟨o,_,_,_,e,ex,_⟩:=I.hok p _ hk;refine⟨⟨o,e,ex.1⟩,λa e2=>?_⟩;cases e2;exact⟨o,e,ex.2.1⟩
 |_=>exact False.elim ty
def RL (K:Frag)(T:String)(r:V->List V->Hp->VK->Prop)(to:TE):TE:=λσ H Q=>to σ H λx H1=>tyV K T x H1/\r x [] H1 Q
def pB (K:Frag)(T:String)(r:V->List V->Hp->VK->Prop)(to:TE)(t:TA):TE:=λσ H Q=>to σ H λx H1=>tyV K T x H1/\t σ H1 λxs H2=>r x xs H2 Q
variable {o e:Expr}{es:List Expr}{to:TE}{t:TA}{name:Str}{apos cpos:Pos}{T id:String}{r:V->List V->Hp->VK->Prop}
theorem aak (pa:PlainAttrs T)(slot:Slot T name id)(hty:typeOf (.builtin id)=pure (.type "method_descriptor"))(hm:Aq X id r)(ho:PE X o to)
  (hbase:attributeBase o name X.env (eval o X.env)=eval o X.env:=by rfl)(hline:(apos.endLine==cpos.line)=true:=by rfl):PE X (.Call (.Attribute o name apos) [] [] cpos) (RL X.K T r to):=by
 intro pins s σ H Q I h;refine wpAny_Call_method0_late hbase hline (aO (ho pins s σ H _ I h) λv s1 ⟨x,H1,I1,r1,ty,q1⟩=>?_);obtain⟨h1,h2⟩:=Nh I1 r1 ty;exact⟨T,id,pa,slot,hty,h1,h2,Calls.callWith_builtin rfl (PySem.evalArgs_none (hm pins s1 σ H1 x [] v [] Q I1 r1 .nil q1))⟩
theorem Cj (pa:PlainAttrs T)(slot:Slot T name id)(hty:typeOf (.builtin id)=pure (.type "method_descriptor"))(hm:Aq X id r)(ho:PE X o to)(ha:PA X (e::es) t)
  (hbase:attributeBase o name X.env (eval o X.env)=eval o X.env:=by rfl)
  (hfew:((backTo cpos (starEach (e::es) X.env)).all (λx=>!x.1) && (backToKw cpos (keywordEach [] X.env)).all (λx=>x.1.isSome)
   && decide ((e::es).length+([]:List Keyword).length+(if([]:List Keyword).isEmpty then 0 else 1)<30))=true:=by rfl)
  (hline:(apos.endLine==cpos.line)=true:=by rfl)(hs:starEach (e::es) X.env=(false,eval e X.env)::starEach es X.env:=by rfl)(hplain:(backTo cpos (starEach es X.env)).any (·.1)=false:=by rfl):
  PE X (.Call (.Attribute o name apos) (e::es) [] cpos) (pB X.K T r to t):=by
 intro pins s σ H Q I h;refine wpAny_Call_method_late hbase hfew hline rfl (aO (ho pins s σ H _ I h) λv s1 ⟨x,H1,I1,r1,ty,q1⟩=>?_);obtain⟨h1,h2⟩:=Nh I1 r1 ty;refine⟨T,id,pa,slot,hty,h1,h2,?_⟩;have hA:=ha cpos pins s1 σ H1 _ I1 q1;rw[hs] at hA ⊢;refine Calls.callWith_builtin (by show(false||(backTo cpos (starEach es X.env)).any (·.1))=false;rw[hplain]<;>rfl) (Calls.evalArgs_plain ?_);exact aO hA λus s2 ⟨vs,H2,I2,r2,q2⟩=>hm pins s2 σ H2 x vs v us Q I2 r1 r2 q2
end
def MtM (X:Cx)(id:String)(r:V->List V->Hp->VK->Prop):Prop:=
 ∀(pins:List (Addr×Obj)) (s:Shared) (σ:St) (H:Hp) (x:V) (xs:List V) (v:Value) (us:List Value) (Q:VK),Inv X pins σ H s->RelV x v->Vals xs us->r x xs H Q->
  wpAny (model X.prog X.w) X.A (call (.builtin id) (v::us)) (EP X pins σ Q) X.xe s
theorem Vals.one:∀{x:V}{us:List Value},Vals [x] us->∃u,us=[u]/\RelV x u
 |_,_,.cons r .nil=>⟨_,rfl,r⟩
theorem Vals.two:∀{x y:V}{us:List Value},Vals [x,y] us->∃u v,us=[u,v]/\RelV x u/\RelV y v
 |_,_,_,.cons r (.cons q .nil)=>⟨_,_,rfl,r,q⟩
theorem Vals.zero:∀{us:List Value},Vals [] us->us=[]
 |_,.nil=>rfl
theorem Vals.dropLast {xs:List V}{us:List Value}(h:Vals xs us):Vals xs.dropLast us.dropLast:=by
 induction h with
 |nil=>exact .nil
 |cons r t ih=>
  cases t with
  |nil=>exact .nil
  |cons q t'=>exact .cons r ih
theorem Vals.eraseIdx:∀{xs:List V}{us:List Value} (i:Nat),Vals xs us->Vals (xs.eraseIdx i) (us.eraseIdx i)
 |_,_,_,.nil=>.nil
 |_,_,0,.cons _ t=>t
 |_,_,i+1,.cons r t=>.cons r (Vals.eraseIdx i t)
theorem Vals.reverse {xs:List V}{us:List Value}(h:Vals xs us):Vals xs.reverse us.reverse:=by
 induction h with
 |nil=>exact .nil
 |cons r t ih=>rw[reverse_cons,reverse_cons];exact Vals.append ih (.cons r .nil)
theorem Vals.rep {xs:List V}{us:List Value}(h:Vals xs us):∀k:Nat,Vals (replicate k xs).flatten (replicate k us).flatten
 |0=>.nil
 |k+1=>by rw[replicate_succ,replicate_succ,flatten_cons,flatten_cons];exact Vals.append h (Vals.rep h k)
theorem foldl_rep (its:List Value):∀(k:Nat) (acc:List Value),
  foldl (λx1 x2=>x1++x2) acc.toArray (replicate k its.toArray)=(acc++(replicate k its).flatten).toArray
 |0,acc=>by simp
 |k+1,acc=>by
  have e:acc.toArray++its.toArray=(acc++its).toArray:=by simp
  have e2:(acc++its)++(replicate k its).flatten=acc++(replicate (k+1) its).flatten:=by rw[replicate_succ,flatten_cons,append_assoc]
  rw[<-e2,←foldl_rep its k (acc++its),←e,replicate_succ,List.foldl_cons]
section
variable {X:Cx}{pins:List (Addr×Obj)}{σ:St}{H:Hp}{s:Shared}{l b:Addr}{xs ys zs:List V}
theorem Inv.agl {its its':List Value}{n:Nat}{f:Array Value->Array Value}{t':Nat}(I:Inv X pins σ H s)(hH:H l=some (.lst xs))
  (e:s.heap.get? l=some {cls:=.type "list",data:=.seq its.toArray n})(hf:f its.toArray=its'.toArray)(hv:Vals ys its')(hz:ys.length<=sizeLine):
  Inv X pins σ (upd H l (.lst ys)) {s with heap:=s.heap.update l (Obj.mapSeq f),toks:=t'}:=by
 have q:=PySem.IsL.update e f;rw[hf] at q;refine I.write (x:=l) (e:=l) (by rw[hH];exact trivial) (.inl rfl) (λb' u hb hu=>(get?_update_other s.heap (Obj.mapSeq f) (Ne.symm hb)).trans hu) ⟨_,q⟩ ?_;exact⟨hz,its',_,hv,q⟩
theorem Inv.J5 {its:List Value}{t':Nat}(I:Inv X pins σ H s)(hv:Vals ys its)(hz:ys.length<=sizeLine):
  Inv X pins σ (upd H s.heap.objs.size (.lst ys)) {s with heap:=s.heap.push {cls:=.type "list",data:=.seq its.toArray},toks:=t'}:=
 I.laid (λ_ _ q=>get?_push_of_some _ q) (le_refl _) ⟨hz,its,0,hv,get?_push_size _ rfl⟩
theorem Inv.fresh (I:Inv X pins σ H s):H s.heap.objs.size=none:=I.hok.fresh (le_refl _)
theorem Inv.aal (I:Inv X pins σ H s)(hH:H l=some (.lst xs)):xs.length<=sizeLine/\∃(its:List Value) (n:Nat),Vals xs its/\xs.length=its.length/\s.heap.get? l=some {cls:=.type "list",data:=.seq its.toArray n}:=by obtain⟨z,its,n,r,e⟩:=I.hok l _ hH;exact⟨z,its,n,r,r.length,e⟩
theorem RQ {n:Nat}(h:n<=sizeLine):Builtin.List.listTooLong n=false:=by unfold Builtin.List.listTooLong;exact decide_eq_false (by omega)
end
section
variable {X:Cx}
def Xx:V->List V->Hp->VK->Prop:=λx vs H Q=>∃l xs y,x=.ref l/\vs=[y]/\H l=some (.lst xs)/\xs.length<sizeLine/\Q .non (upd H l (.lst (xs++[y])))
theorem ur:MtM X "list.append" Xx:=by intro pins s σ H x vs v us Q I rx rv h;obtain⟨l,xs,y,rfl,rfl,hH,hz,q⟩:=h;cases rx;obtain⟨u,rfl,ru⟩:=rv.one;obtain⟨z,its,n,r,hl,e⟩:=I.aal hH;refine call_meets F.slot_list_append ⟨_,e,rfl⟩ F.entry_list_append (F.args_list_append_2 _ _) (PySem.list_append l its.toArray n u (by rw[size_toArray];omega)) ⟨e,?_⟩;refine⟨.non,_,I.agl (its':=its++[u]) hH e (by simp) (r.append (.cons ru .nil)) ?_,rfl,q⟩;rw[length_append,List.length_singleton];omega
def agm:R2:=λx y H Q=>∃l k xs,x=.ref l/\y=.int k/\H l=some (.lst xs)∧-(2^63)<=k/\k<2^63/\xs.length*k.toNat<=sizeLine/\
 ∀p,H p=none->Q (.ref p) (upd H p (.lst (replicate k.toNat xs).flatten))
theorem len_rep {α:Type}(xs:List α)(k:Nat):(replicate k xs).flatten.length=k*xs.length:=by
 induction k with
 |zero=>simp
 |succ k ih=>rw[replicate_succ,flatten_cons,length_append,ih,Nat.succ_mul,Nat.add_comm]
theorem aam:cg X (binaryOp .Mult) agm:=by
 intro pins s σ H x y v u Q I rx ry h;obtain⟨l,k,xs,rfl,rfl,hH,h1,h2,hz,q⟩:=h;cases rx;obtain⟨t,rfl⟩:=ry;obtain⟨z,its,n,r,hl,e⟩:=I.aal hH;have hlen:its.toArray.size*k.toNat<=sizeLine:=by rw[size_toArray,←hl];exact hz
 have hcap:¬its.toArray.size*k.toNat>(2^63 - 1)/8:=by
  have:(sizeLine:Nat)<=(2^63 - 1)/8:=by decide
  omega
 have hfit:¬(!Builtin.List.listFitsIndex k)=true:=by rw[fitsIndex_both h1 h2];exact Bool.false_ne_true
 have adM:¬Builtin.List.listTooLong (its.toArray.size*k.toNat)=true:=by rw[RQ hlen];exact Bool.false_ne_true
 have hnew:foldl (λx1 x2=>x1++x2) #[] (replicate (if its.toArray.isEmpty=true then 0 else k.toNat) its.toArray)=(replicate k.toNat its).flatten.toArray:=by
  have f0:∀m:Nat,foldl (λx1 x2=>x1++x2) #[] (replicate m its.toArray)=(replicate m its).flatten.toArray:=λm=>by have:=foldl_rep its m [];rw[nil_append] at this;exact this
  rw[f0];cases its with
  |nil=>simp
  |cons a r'=>rw[if_neg (by simp)]
 refine wpAny_binaryOp_repeat_ref (T:="list") (U:="int") (by decide) ⟨_,e,rfl⟩ (λs'=>typeIs_int s' k t) noFill_list_mul F.fills_int_mul F.slot_int_rmul repeat_list F.slot_int_index.lookup
  (call_meets F.slot_int_rmul (typeIs_int s k t) F.entry_int_rmul (F.args_int_rmul_2 _ _) (int___rmul___int_list k t l its.toArray n)
   ⟨e,rfl,⟨_,e,rfl⟩,call_meets F.slot_list_mul ⟨_,e,rfl⟩ F.entry_list_mul (F.args_list_mul_2 _ _) (AutoListH.list___mul___list_int_3 l its.toArray n k t hfit hcap adM) ⟨e,?_⟩⟩)
 rw[hnew];exact⟨.ref _,_,I.J5 (t':=s.toks) (r.rep k.toNat) (by rw[len_rep,Nat.mul_comm];exact hz),rfl,q _ I.fresh⟩
end
section
variable {prog:Program}{w:World}{A:Around}{E:Value->Shared->Prop}{s:Shared}
end
section
variable {X:Cx}
end
end L2
namespace Att
open PySem.W PySem.Calls PyProof.Rows
theorem yc {P:Params}{h:Heap}:∀(ns:List Int) (vs:List Value),WellAll P h vs (ns.map WData.int)->IntsAre vs ns:=by
 intro ns;induction ns with
 |nil=>
  intro vs w;rw[map_nil] at w;cases w;exact .nil
 |cons n ns ih=>
  intro vs w;rw[map_cons] at w;cases w with
  |cons a b=>cases a;exact .cons _ _ (ih _ b)
theorem Ni {l:OpenLaw}{n:Nat}(hn:l.most=some n){P:Params}{h:Heap}{args:List WData}{vals:List Value}
  (hpre:l.row.toRowW.claim.pre args=true)(hwl:WellAll P h vals args):
  ∃a vs ns,vals=[Value.ref a]/\args=[WData.list (ns.map WData.int)]/\h.get? a=some {cls:=.type "list",data:=.seq vs.toArray}/\IntsAre vs ns/\ns.length<=n:=by
 have hsh:WShape.hasAll [] args [.list .int]=true:=(pre_splitW hpre).1;have hc:l.pre.holds [] {args:=args}=true:=(pre_splitW hpre).2;obtain⟨d,r,rfl,h1,h2⟩:=hasAllW_cons hsh;obtain rfl:=hasAllW_nil h2;obtain⟨xs,rfl,h3⟩:=hasW_list h1;obtain⟨ns,rfl⟩:=items_int h3;have hlen:ns.length<=n:=by
  unfold OpenLaw.pre at hc;have h4:(WTm.not (.lt (.lit (.int (n:Int))) (.len (.arg 0)))).holds [] {args:=[.list (ns.map .int)]}=true:=by have h4:=(holds_andW hc).1;rw[hn] at h4;exact h4
  have h5:=condW_of h4 (w_not (w_lt w_lit (w_len_list (w_arg rfl))));rw[length_map] at h5;refine Nat.le_of_not_lt λq=>?_;have q':(n:Int)<((ns.length:Nat):Int):=by omega
  first
   |(rw[decide_eq_true q'] at h5;exact absurd h5 (by decide))
   |(simp at h5;omega)
 cases hwl with
 |cons w1 w2=>
  cases w2;cases w1 with
  |list ho hall=>exact⟨_,_,ns,rfl,rfl,ho,yc ns _ hall,hlen⟩
theorem Nj (l:OpenLaw)(args:List WData):l.row.toRowW.claim.post args (.bool true) args=true:=
 postW_of (r:=l.row.toRowW) (X:=(true==true))
  (show WShape.has [] (.bool true) .bool=true by first|rfl|decide|simp[WShape.has,WShape.arms,WShape.armsAll])
  (show(WTm.eq .res (.lit (.bool true))).value [] {args:=args,res:=some (.bool true),after:=args}=some (.bool (true==true)) from w_eq_bool (w_res rfl) w_lit) rfl
theorem GR {l:OpenLaw}{n:Nat}{q:Program}{loose:List Str}{XP:(Str->Option Value)->Heap->Prop}{YP:World->Heap->Prop}{d:DefRec}
  (hn:l.most=some n)(hdf:d.params.defaults=[])
  (call:∀(w:World) (s₀ s₁:Shared) (mg mb:Str->Option Value) (fa:Addr) (o:Obj) (pm cd doc:Value) (a:Addr) (vs:List Value) (ns:List Int),
   Ground q loose [] XP w s₀ mg mb s₁.heap->YP w s₁.heap->
   s₁.heap.get? fa=some o->o.data=.func (docDef d.name d.params d.body d.scope pm cd doc)->s₁.heap.CodeRec cd d.name->mg d.name=some (.ref fa)->
   s₁.heap.get? a=some {cls:=.type "list",data:=.seq vs.toArray}->IntsAre vs ns->ns.length<=n->s₁.gens= #[]->
   codeAny (model l.prog w) callerA (.call (.ref fa) ⟨[.ref a],[]⟩) (λr s'=>r=.ok (.ret (.bool true))/\OldK s₁.heap s'.heap/\s'.os=s₁.os/\AllBare s'.gens) s₁):
  WalkO q loose XP YP l.row.toRowW d [] (λf vs=>PySem.call f vs):=by
 intro w s₀ s₁ mg mb G Y fa o pm cd doc dV kV ho hd hcd hD hmg hg args vals as hpre hlay hrd hwl hlo;obtain rfl:dV=.none:=Dflts.none hD hdf;obtain rfl:kV=.none:=Dflts.noKw hD;obtain⟨a,vs,ns,rfl,rfl,hobj,hints,hlen⟩:=Ni hn hpre hwl;refine enter_call (codeAny_mono (call w s₀ s₁ mg mb fa o pm cd doc a vs ns G Y ho (fd_plain hd) hcd hmg hobj hints hlen hg) λr s' hq=>?_);obtain⟨rfl,h2,h3,h4⟩:=hq;exact⟨.inl ⟨.bool true,.bool true,[],rfl,λ_=>rfl,.bool true,Nj l _,λ_=>⟨List.Pairwise.nil,λ_ hm=>(nomatch hm)⟩⟩,h2,h3,h4⟩
section
variable {prog:Program}{w:World}{A:Around}{E:Value->Shared->Prop}{s:Shared}{K:Frag}
end
end Att
namespace L2
open PyProof.Rows
theorem Ar:∀{vs:List Value}{ns:List Int},IntsAre vs ns->Vals (ns.map V.int) vs
 |_,_,.nil=>.nil
 |_,_,.cons n t h=>.cons ⟨t,rfl⟩ (Ar h)
noncomputable def Only (H:Hp):Prop:=∀b,H b=none\/∃o xs,H b=some (.dR o (.lst xs))
theorem RV {P:Program}{w:World}{K:Frag}{mg mb:Str->Option Value}{CX:n6}{k:Nat}{fa a:Addr}{fd:FuncData}{x:Str}{sp:Sp}{s₁:Shared}{vs:List Value}{ns:List Int}
  (KX:K.In s₁.heap)(hns:s₁.heap.Ns mainGlobals mg)(hb:s₁.heap.Ns builtinsNs mb)(hbb:∀x:Str,x≠"__name__"->mb x=bootBuiltins x)(hlim:s₁.heap.NoLimit)(hg:s₁.gens= #[])
  (ha:s₁.heap.get? a=some {cls:=.type "list",data:=.seq vs.toArray})(hi:IntsAre vs ns)(hl:ns.length<=sizeLine)(hr:cI k callerA)
  (F:∀base:Heap,K.In base->base.Ns mainGlobals mg->aQ P w K mg base CX k fa fd [x] sp)(hbind:∀(s:Shared) (u:Value),BindsTo s fd ⟨[u],[]⟩ [(x,u)])
  (hsp:∀H:Hp,Only H->aU K H a (ns.map V.int)->sp [.ref a] H (λv _=>v=.bl true) λ_ _ _=>False)
  (hCX:∀H e s',CX [] H s₁ (λ_ _ _=>False) e s'->False):
  codeAny (model P w) callerA (.call (.ref fa) ⟨[.ref a],[]⟩) (λr s'=>r=.ok (.ret (.bool true))/\OldK s₁.heap s'.heap/\s'.os=s₁.os/\AllBare s'.gens) s₁:=by
 have rv:=Ar hi;have lenV:=hi.length;have core:∀H:Hp,Only H->aU K H a (ns.map V.int)->d9 P w H s₁.heap->(∀b,H b≠none->b=a)->(H a≠none->K.lookup a=none)->
   codeAny (model P w) callerA (.call (.ref fa) ⟨[.ref a],[]⟩) (λr s'=>r=.ok (.ret (.bool true))/\OldK s₁.heap s'.heap/\s'.os=s₁.os/\AllBare s'.gens) s₁:=by
  intro H hO hS hok hA hK;have Ho:∀{b:Addr}{o:Obj},s₁.heap.get? b=some o->H b=none->(rO s₁.heap H).get? b=some o:=λe n=>Rh e n;have M9:∀{b:Addr}{o:Obj} {es:Array DictEntry} {ep:Nat},s₁.heap.get? b=some o->o.data=.dict es ep->H b=none:=λ{b o es ep} e d=>by
   cases q:H b with
   |none=>rfl
   |some u=>have e':b=a:=hA b (by rw[q];simp);subst e';rw[ha] at e;cases e;have d':Data.seq vs.toArray _=Data.dict es ep:=d;cases d'
  have VD:∀{b:Addr}{m:Str->Option Value},s₁.heap.Ns b m->(rO s₁.heap H).Ns b m:=λ{b m} ⟨o,es,ep,e,d,r⟩=>⟨o,es,ep,Ho e (M9 e d),d,r⟩;have hKb:K.In (rO s₁.heap H):=λb o e=>Ho (KX b o e) (by
   cases q:H b with
   |none=>rfl
   |some u=>
    have e':b=a:=hA b (by rw[q];simp);subst e';rw[hK (by rw[q];simp)] at e;cases e)
  have hM:Mod K mg (rO s₁.heap H):=⟨hKb,VD hns,⟨mb,VD hb,hbb⟩,let⟨mc,h1,h2⟩:=hlim;⟨mc,VD h1,h2⟩⟩;have e0:wN P w K mg (rO s₁.heap H) callerA [] s₁ H:=⟨rfl,hM,λb o e=>Xo e,le_of_eq (Mr _ _),trivial,λb hb=>absurd (show b∈([]:List Addr) from hb) (by simp),hok,.of_eq hg⟩;refine codeAny_mono ((F _ hKb (VD hns)).run callerA [] s₁ H ⟨[.ref a],[]⟩ [.ref a] [.ref a] _ _ hr e0 (hbind s₁ (.ref a)) (.cons rfl .nil) (hsp H hO hS)) λr s' h=>?_;cases r with
  |error e=>exact(hCX H e s' h).elim
  |ok fl=>
   cases fl with
   |next=>exact False.elim h
   |brk=>exact False.elim h
   |cont=>exact False.elim h
   |ret u=>
    obtain⟨v,H',os,bare,un,hok',r',q⟩:=h;have q':v=.bl true:=q;subst q';obtain rfl:u=Value.bool true:=r';refine⟨rfl,OldK.of_keep λb o e=>?_,os,bare⟩;cases q:H b with
    |none=>exact un.keep b o e q (by intro z;exact absurd (show b∈([]:List Addr) from z) (by simp)) (by simp)
    |some u=>
     rcases hO b with z|⟨ob,xs,z⟩
     .rw[q] at z;cases z
     .have z2:=un.jO b ob _ z;obtain⟨e1,_⟩:=hok b _ z;obtain⟨e2,_⟩:=hok' b _ z2;rw[e] at e1;cases e1;exact e2
 cases hk:K.lookup a with
 |some o=>
  have e:=KX a o hk;rw[ha] at e;cases e;refine core (λ_=>none) (λ_=>.inl rfl) (.inr ⟨_,vs.toArray,_,hk,rfl,rfl,rfl,by rw[size_toArray,lenV];exact hl,by simpa using rv⟩) (λb u z=>by have z':(none:Option HO)=some u:=z;cases z') (λb z=>absurd rfl z) λz=>absurd rfl z
 |none=>
  refine core (λb=>if b=a then some (.dR {cls:=.type "list",data:=.seq vs.toArray} (.lst (ns.map V.int))) else none) (λb=>?_) (.inl (.inr ⟨{cls:=.type "list",data:=.seq vs.toArray},if_pos rfl⟩)) (λb u z=>?_) (λb z=>?_) λ_=>hk
  .by_cases hb:b=a
   .exact .inr ⟨_,_,if_pos hb⟩
   .exact .inl (if_neg hb)
  .by_cases hb:b=a
   .have z':=(if_pos hb).symm.trans z;cases z';subst hb;exact⟨ha,by rw[length_map];exact hl,vs,_,rv,ha⟩
   .have z':=(if_neg hb).symm.trans z;cases z'
  .by_cases hb:b=a
   .exact hb
   .exact absurd (if_neg hb) z
theorem Xy {l:PySem.W.OpenLaw}{n k:Nat}{q:Program}{loose:List Str}{XP:(Str->Option Value)->Heap->Prop}{YP:World->Heap->Prop}{d:DefRec}{K:Params->Frag}{CX:World->n6}{sp:World->Sp}{x:Str}
  (hn:l.most=some n)(hn2:n<=sizeLine)(hdf:d.params.defaults=[])(hr:cI k callerA)
  (hY:∀(w:World) (h:Heap),YP w h->(K w.params).In h)
  (F:∀(w:World) (mg:Str->Option Value) (fa:Addr) (h:Heap),(K w.params).In h->h.Ns mainGlobals mg->mg d.name=some (.ref fa)->
   ∃fd:FuncData,(∀(s:Shared) (u:Value),BindsTo s fd ⟨[u],[]⟩ [(x,u)])/\
    ∀base:Heap,(K w.params).In base->base.Ns mainGlobals mg->aQ l.prog w (K w.params) mg base (CX w) k fa fd [x] (sp w))
  (hsp:∀(w:World) (H:Hp) (a:Addr) (ns:List Int),ns.length<=n->Only H->aU (K w.params) H a (ns.map V.int)->sp w [.ref a] H (λv _=>v=.bl true) λ_ _ _=>False)
  (hCX:∀(w:World) (H:Hp) (s:Shared) (e:Value) (s':Shared),CX w [] H s (λ_ _ _=>False) e s'->False):
  PySem.W.WalkO q loose XP YP l.row.toRowW d [] (λf vs=>PySem.call f vs):=by
 refine Att.GR hn hdf λw s₀ s₁ mg mb fa o pm cd doc a vs ns G Y ho hd hcd hmg hobj hints hlen hg=>?_;have KX:=hY w _ Y;obtain⟨fd,hb,hF⟩:=F w mg fa _ KX G.T.g hmg;exact RV KX G.T.g G.T.b G.T.builtins G.T.nolimit hg hobj hints (le_trans hlen hn2) hr hF hb (λH hO hS=>hsp w H a ns hlen hO hS) λH e s'=>hCX w H s₁ e s'
noncomputable def inClass (s:Stmt)(j:Nat):Stmt:=match s with
 |.ClassDef _ _ _ body _ _ _ _ _ _ _=>body.getD j (.Pass ⟨0,0,0,0⟩)
 |_=>.Pass ⟨0,0,0,0⟩
noncomputable def eU (s:Stmt):Arguments:=match s with
 |.FunctionDef _ a _ _ _ _ _ _ _ _=>a
 |_=>{posonlyargs:=[],args:=[],vararg:=none,kwonlyargs:=[],kw_defaults:=[],kwarg:=none,defaults:=[]}
noncomputable def cH (s:Stmt):List Stmt:=match s with
 |.FunctionDef _ _ b _ _ _ _ _ _ _=>b
 |_=>[]
noncomputable def aj (s:Stmt):Scope:=match s with
 |.FunctionDef _ _ _ _ _ _ sc _ _ _=>sc
 |_=>{kind:=.function,names:=[],isGenerator:=false,isCoroutine:=false}
noncomputable abbrev cV:n6:=λ_ _ _ _ _ _=>False
noncomputable abbrev E0:XK:=λ_ _ _=>False
theorem mC {X:Cx}:Passes cV X E0:=λ_ _ _ _ _ _ _ h=>h.elim
structure cP (K:Frag)(x qual:Str)(st:Stmt)(f:Addr)(fd:FuncData):Prop where
 ex:∃(oc:Value) (od:Option Addr) (kV doc pm:Value) (an:Option Addr) (cdv ct:Value) (osl:Array (Option Value)),
  fd=fnOf x qual (eU st) (cH st) (aj st) .none kV doc pm an cdv ct/\K.lookup f=some ⟨oc,od,.func fd,osl⟩/\codeIn K cdv qual=true
 kp:keepIn K (.ref f)=true
section
variable {P:Program}{w:World}{K:Frag}{mg:Str->Option Value}{base:Heap}
theorem cP.ok {x qual:Str}{st:Stmt}{f:Addr}{fd:FuncData}{N ps:List Str}{k:Nat}{sp:Sp}(F:cP K x qual st f fd)(S:bI N ps (aj st))(len:∀vs H Q E,sp vs H Q E->vs.length=ps.length)
  (hbody:∀(cdv:Value) (A:Around) (outer:List Env) (s:Shared) (H:Hp) (vs:List V) (Q:VK) (E:XK),cI k (A.deeper (envOfC qual (aj st) s.heap.objs.size f cdv))->sp vs H Q E->
   ∃t,eX (cC cV P w K mg base N qual (aj st) f cdv A outer s H E).ni (cH st) t/\t {nx:=λ_ H'=>Q .non H',rt:=Q} (start N vs) H):aQ P w K mg base cV (k+1) f fd ps sp:=by
 obtain⟨oc,od,kV,doc,pm,an,cdv,ct,osl,rfl,lk,hcd⟩:=F.ex;refine J0 lk hcd S len λA outer s H vs Q E hr hsp=>?_;obtain⟨t,h,q⟩:=hbody cdv A outer s H vs Q E hr hsp;exact⟨t,h.ni,q⟩
theorem cP.binds {x qual:Str}{st:Stmt}{f:Addr}{fd:FuncData}{ps:List Str}(F:cP K x qual st f fd)
  (h:∀(kV doc pm:Value) (an:Option Addr) (cdv ct:Value) (us:List Value),us.length=ps.length->bindArgs (fnOf x qual (eU st) (cH st) (aj st) .none kV doc pm an cdv ct) ⟨us,[]⟩=pure (ps.zip us)):Binds K fd ps []:=by
 obtain⟨oc,od,kV,doc,pm,an,cdv,ct,osl,rfl,lk,hcd⟩:=F.ex;exact .all (h kV doc pm an cdv ct)
theorem Nk {x qual:Str}{st:Stmt}{f:Addr}{oc:Value}{od an:Option Addr}{osl:Array (Option Value)}{kV doc pm cdv ct:Value}(l:K.lookup f=some ⟨oc,od,.func (fnOf x qual (eU st) (cH st) (aj st) .none kV doc pm an cdv ct),osl⟩)
  (c:codeIn K cdv qual=true)(k:keepIn K (.ref f)=true):cP K x qual st f (fnOf x qual (eU st) (cH st) (aj st) .none kV doc pm an cdv ct):=⟨⟨oc,od,kV,doc,pm,an,cdv,ct,osl,rfl,l,c⟩,k⟩
end
theorem mD {A:Around}{k:Nat}(hr:cI k A):A.units+1<cLine:=Nat.lt_of_le_of_lt (Nat.add_le_add_left (by decide:1<=64) _) hr.units
theorem Av {n:Nat}(h:n<=1000):n<sizeLine:=Nat.lt_of_le_of_lt h (by decide)
section
variable {X:Cx}
theorem pv (i:Nat){x:Str}{pos:Pos}(hN:X.N[i]? =some x:=by rfl)(hv:G7 X.env.scope x:=by first|exact Or.inl rfl|exact Or.inr (Or.inl rfl)|exact Or.inr (Or.inr rfl))(hd:(x==("__debug__":Str))=false:=by decide)
  (hcd:(x==("__classdict__":Str))=false:=by decide):PE X (.Name x pos) (Ri i):=Dh hN hv hd hcd
end
noncomputable def Same (H H':Hp):Prop:=∀b o,H b=some o->H' b=some o
theorem Same.refl (H:Hp):Same H H:=λ_ _ h=>h
theorem Same.trans {H H1 H2:Hp}(a:Same H H1)(b:Same H1 H2):Same H H2:=λc o h=>b c o (a c o h)
theorem Same.free {H H':Hp}(e:Same H H'){l:Addr}(h:H' l=Option.none):H l=Option.none:=by
 cases q:H l with
 |none=>rfl
 |some o=>rw[e l o q] at h;cases h
theorem Same.seq {K:Frag}{H H':Hp}{a:Addr}{xs:List V}(e:Same H H')(h:aU K H a xs):aU K H' a xs:=by
 rcases h with(h|⟨o,h⟩)|h
 .exact .inl (.inl (e _ _ h))
 .exact .inl (.inr ⟨o,e _ _ h⟩)
 .exact .inr h
theorem PE.imp (h:PE X e t)(ht:∀σ H Q,t' σ H Q->t σ H Q):PE X e t':=λpins s σ H Q I q=>h pins s σ H Q I (ht σ H Q q)
section
variable {h':Heap}
theorem Inv.turns {fp:List Addr}{t':Nat}(I:Inv X pins σ H s)(k:∀b o,b∉fp->s.heap.get? b=some o->h'.get? b=some o)(hf:∀b∈fp,iQ X pins H b):Inv X pins σ H {s with heap:=h',toks:=t'}:=by
 have Ac:∀b u,H b=some u->b∉fp:=λb u e z=>by rw[(hf b z).1] at e;cases e
 refine I.step (λb hb=>⟨(hf b hb).2.2.2.1,(hf b hb).2.1,(hf b hb).2.2.2.2.1,(hf b hb).2.2.2.2.2⟩) (λb o _ _ hc e _=>k b o hc e) (λb o _ _ hc e _=>⟨o.slots,k b o hc e⟩) (λ_ _ _ _ n=>n)
  (λb o hc e=>⟨o,k b o hc e⟩) (λ_ _ e=>e) (λ_ _ _ e=>e) (λb ps e=>⟨#[],by rw[e];simp⟩) (λm hm=>?_) (λb u e=>?_) I.bare
 .obtain⟨o,es,ep,ho,r⟩:=hm;exact⟨o,es,ep,k _ o (λz=>(hf _ z).2.1 rfl) ho,r⟩
 .refine(I.hok b u e).stay (λc v hc q=>k c v ?_ q) (λ_ q=>q) λ_ _ q=>q;rcases hc with z|z
  .rw[z];exact Ac b u e
  .exact Ac c _ z
theorem Inv.vH {fp:List Addr}{T:Addr}{o:HO}{t':Nat}(I:Inv X pins σ H s)(k:∀b o,b∉fp->s.heap.get? b=some o->h'.get? b=some o)(hf:∀b∈fp,iQ X pins H b)(hT:s.heap.objs.size<=T)
  (new:dB X.prog X.w (upd H T o) h' T o):Inv X pins σ (upd H T o) {s with heap:=h',toks:=t'}:=by
 have hn:=I.hok.fresh hT;have Ac:∀b u,H b=some u->b∉fp:=λb u e z=>by rw[(hf b z).1] at e;cases e
 have neT:∀{b:Addr}{u:Obj},s.heap.get? b=some u->b≠T:=λe=>ne_of_lt (lt_of_lt_of_le (lt_size e) hT);refine I.step (λb hb=>⟨(hf b hb).2.2.2.1,(hf b hb).2.1,(hf b hb).2.2.2.2.1,(hf b hb).2.2.2.2.2⟩) (λb o _ _ hc e _=>k b o hc e) (λb o _ _ hc e _=>⟨o.slots,k b o hc e⟩)
  (λb o _ e n=>by rw[aB (neT e)];exact n)
  (λb o hc e=>⟨o,k b o hc e⟩) (λb xs e=>by rw[aB (bO e hn)];exact e) (λb _ _ e=>by rw[aB (bO e hn)];exact e) (λb ps e=>⟨#[],by rw[aB (bO e hn),e];simp⟩) (λm hm=>?_) (λb u e=>?_) I.bare
 .obtain⟨o,es,ep,ho,r⟩:=hm;exact⟨o,es,ep,k _ o (λz=>(hf _ z).2.1 rfl) ho,r⟩
 .by_cases hb:b=T
  .subst hb;rw[aA] at e;cases e;exact new
  .rw[aB hb] at e;refine(I.hok b u e).stay (λc v hc q=>k c v ?_ q) (λc q=>by rw[aB (bO q hn)];exact q) λc xs q=>by rw[aB (bO q hn)];exact q
   rcases hc with z|z
   .rw[z];exact Ac b u e
   .exact Ac c _ z
end
def Ite (K:Frag)(a:Addr):It:=
  ⟨λi H=>∃xs x,aU K H a xs/\xs[i]? =some x,
   λi H v H'=>∃p x,H p=none/\v=.ref p/\(∀xs,aU K H a xs->xs[i]? =some x)/\H'=upd H p (.tup [.int (i:Int),x]),
   λi H=>∃xs,aU K H a xs/\xs.length<=i⟩
theorem Nm {P:Program}{w:World}{K:Frag}{elts:List Expr}{k:Nat}{pos:Pos}(a e it:Addr)(hei:e≠it):
  Turn P w K (.Tuple elts k pos) (Ite K a) [e,it] e (λi h=>(∃old,IsEnum h e it (i:Nat) old)/\h.IsListIter it a i) where
 mem:=by simp
 obj:=λi h st b hb=>by
  obtain⟨⟨old,he⟩,⟨o,e1,c,d⟩⟩:=st;rcases mem_cons.mp hb with rfl|hb
  .exact⟨_,he,λv z=>by have z':Data.fields _=Data.cell v:=z;cases z'⟩
  .rw[mem_singleton.mp hb];exact⟨o,e1,λv z=>by rw[d] at z;cases z⟩
 keep:=λi h h' st k=>by obtain⟨⟨old,he⟩,st⟩:=st;exact⟨⟨old,k e (by simp) _ he⟩,st.at λo e=>k it (by simp) o e⟩
 item:=by
  intro X hP hw hK hc i pins s σ H E I hf st hg;subst hP hw hK;obtain⟨⟨old,he⟩,hit⟩:=st;obtain⟨xs,x,hq,hx⟩:=hg;obtain⟨its,rv,p,hz⟩:=I.list hq;obtain⟨u,hu,ru⟩:=rv.get hx;refine wpAny_pyNext_enum_item he hit p.isList (x:=u) (by simpa using hu) hei λh' ho hit' hT hsz hk=>?_;refine⟨_,rfl,wpAny_letOwnedTupleGo_enum ho λh2 he2 hs2=>?_⟩;have hlt:e<s.heap.objs.size:=lt_size he;have hT2:h2.get? s.heap.objs.size=some {cls:=.type "tuple",data:=.seq #[.int i s.toks,u]}:=(hs2.2 _ (ne_of_gt hlt)).trans hT;refine⟨.ref s.heap.objs.size,upd H s.heap.objs.size (.tup [.int (i:Int),x]),?_,rfl,⟨_,x,I.hok.fresh (le_refl _),rfl,λys hy=>by rw[I.nY hy hq];exact hx,rfl⟩,⟨⟨u,by simpa using he2⟩,hit'.at λo y=>(hs2.2 it hei.symm).trans y⟩,λb hb=>?_⟩
  .refine I.vH (fp:=[e,it]) (λb o hb q=>?_) hf (le_refl _) ⟨by show 2<=sizeLine;decide,[.int i s.toks,u],.cons ⟨_,rfl⟩ (.cons ru .nil),⟨_,hT2,rfl,_,rfl⟩⟩;have h1:b≠e:=λz=>hb (by simp[z]);have h2':b≠it:=λz=>hb (by simp[z]);exact(hs2.2 b h1).trans (hk b o h1 h2' q)
  .have hne:b≠s.heap.objs.size:=by
    rcases mem_cons.mp hb with rfl|hb
    .exact ne_of_lt hlt
    .rw[mem_singleton.mp hb];obtain⟨_,y,_⟩:=hit;exact ne_of_lt (lt_size y)
   rw[aB hne];exact(hf b hb).1
 done:=by intro X hP hw hK hc i pins s σ H E I hf st hg;subst hP hw hK;obtain⟨⟨old,he⟩,hit⟩:=st;obtain⟨xs,hq,hx⟩:=hg;obtain⟨its,rv,p,hz⟩:=I.list hq;have hl:=rv.length;refine wpAny_pyNext_enum_end (I.ok.hd hc) he hit p.isList (by simp;omega) λh' eb=>⟨rfl,I.turns (t':=s.toks) (fp:=[e,it]) (λb o hb q=>eb b o (λz=>hb (by simp[z])) q) hf⟩
 self:=λ_ _ _ _ _ st h=>by obtain⟨⟨old,he⟩,_⟩:=st;exact wpAny_pyIter_enum he h
section
def VF (K:Frag)(ta:TA):TI:=λσ H R=>ta σ H λvs H1=>∃a,vs=[.ref a]/\(∃xs,aU K H1 a xs)/\R (Ite K a) H1
theorem Xz {tpos:Pos}(hg:Gl X "enumerate")(hm:X.mg "enumerate"=none)(ha:PA X [l] ta)(hs:starEach [l] X.env=[(false,eval l X.env)]:=by rfl):
  PI X (.Tuple elts k tpos) (.Call (.Name "enumerate" p) [l] [] pos) (VF X.K ta):=by
 intro pins s σ H R I h;refine Call_ (mG I hg hm boot_enumerate (PyProof.Rows.callWith_type1 (aO (ha pos pins s σ H _ I h) λus s1 ⟨vs,H1,I1,r1,q1⟩=>?_) hs rfl));obtain⟨a,e,⟨xs,hq⟩,q⟩:=q1;subst e;cases r1 with
 |cons r rr=>
  cases rr;cases r;obtain⟨its,rv,pl,hz⟩:=I1.list hq;refine call_enumerate_list pl.isList λh' hE hI hsz hk=>?_;refine wpAny_pyIter_enum hE ?_;have hne:s1.heap.objs.size+1≠s1.heap.objs.size:=Nat.succ_ne_self _;refine⟨_,[s1.heap.objs.size+1,s1.heap.objs.size],_,_,H1,rfl,I1.kept hk,Nm a _ s1.heap.objs.size hne,⟨⟨.none,hE⟩,hI⟩,λb hb=>?_,q⟩;have hb':s1.heap.objs.size<=b:=by
   rcases mem_cons.mp hb with rfl|hb
   .exact le_succ _
   .rw[mem_singleton.mp hb];exact le_refl _
  exact I1.pW hb' (I1.hok.fresh hb')
end
def Itz (K:Frag)(a b:Addr):It:=
  ⟨λi H=>∃xs x ys y,aU K H a xs/\xs[i]? =some x/\aU K H b ys/\ys[i]? =some y,
   λi H v H'=>∃p x y,H p=none/\v=.ref p/\(∀xs,aU K H a xs->xs[i]? =some x)/\(∀ys,aU K H b ys->ys[i]? =some y)/\H'=upd H p (.tup [x,y]),
   λi H=>∃xs ys,aU K H a xs/\aU K H b ys/\(xs.length<=i\/ys.length<=i)⟩
structure DP (z TI TO i1 i2:Addr):Prop where
 TIz:TI≠z
 TOz:TO≠z
 i1z:i1≠z
 i2z:i2≠z
 TITO:TI≠TO
 TIi1:TI≠i1
 TIi2:TI≠i2
 TOi1:TO≠i1
 TOi2:TO≠i2
 i12:i1≠i2
def VH (z TI TO i1 i2 a b:Addr)(i:Nat)(h:Heap):Prop:=
 IsZip h z TI TO .none/\IsPair h TI (.ref i1) (.ref i2)/\(∃c d,IsPair h TO c d)/\h.IsListIter i1 a i/\h.IsListIter i2 b i
theorem Aw {h:Heap}{z TI TO i1 i2 a b:Addr}{i:Nat}{xs ys:Array Value}(D:DP z TI TO i1 i2)(st:VH z TI TO i1 i2 a b i h)(ha:h.IsList a xs)(hb:h.IsList b ys):ZipApart z TI TO i1 i2 a b:=by
 obtain⟨hz,hTI,⟨c,d,hTO⟩,⟨o1,e1,c1,_⟩,⟨o2,e2,c2,_⟩⟩:=st;obtain⟨oa,ea,ca,_⟩:=ha;obtain⟨ob,eb,cb,_⟩:=hb;have nz:∀{l:Addr}{o:Obj},h.get? l=some o->o.cls=.type "list"->l≠z:=λe c q=>by subst q;rw[hz] at e;cases e;simp at c
 have nT:∀{l:Addr}{o:Obj},h.get? l=some o->o.cls=.type "list"->l≠TO:=λe c q=>by subst q;rw[hTO] at e;cases e;simp at c
 have n1:∀{l:Addr}{o:Obj},h.get? l=some o->o.cls=.type "list"->l≠i1:=λe c q=>by subst q;rw[e1] at e;cases e;rw[c1] at c;simp at c
 have n2:∀{l:Addr}{o:Obj},h.get? l=some o->o.cls=.type "list"->l≠i2:=λe c q=>by subst q;rw[e2] at e;cases e;rw[c2] at c;simp at c
 exact⟨D.TIz,D.TOz,D.i1z,D.i2z,D.TITO,D.TIi1,D.TIi2,D.TOi1,D.TOi2,D.i12,nz ea ca,nT ea ca,n1 ea ca,n2 ea ca,nz eb cb,nT eb cb,n1 eb cb,n2 eb cb⟩
theorem RX {P:Program}{w:World}{K:Frag}{elts:List Expr}{k:Nat}{pos:Pos}(a b z TI TO i1 i2:Addr)(D:DP z TI TO i1 i2):
  Turn P w K (.Tuple elts k pos) (Itz K a b) [z,TI,TO,i1,i2] z (VH z TI TO i1 i2 a b) where
 mem:=by simp
 obj:=λi h st c hc=>by
  obtain⟨hz,hTI,⟨c1,d1,hTO⟩,⟨o1,e1,_,g1⟩,⟨o2,e2,_,g2⟩⟩:=st;simp only[mem_cons,not_mem_nil,or_false] at hc;rcases hc with rfl|rfl|rfl|rfl|rfl
  .exact⟨_,hz,λv q=>by have q':Data.fields _=Data.cell v:=q;cases q'⟩
  .exact⟨_,hTI,λv q=>by have q':Data.seq _ _=Data.cell v:=q;cases q'⟩
  .exact⟨_,hTO,λv q=>by have q':Data.seq _ _=Data.cell v:=q;cases q'⟩
  .exact⟨o1,e1,λv q=>by rw[g1] at q;cases q⟩
  .exact⟨o2,e2,λv q=>by rw[g2] at q;cases q⟩
 keep:=λi h h' st k=>by obtain⟨hz,hTI,⟨c1,d1,hTO⟩,h1,h2⟩:=st;exact⟨k z (by simp) _ hz,k TI (by simp) _ hTI,⟨c1,d1,k TO (by simp) _ hTO⟩,h1.at λo e=>k i1 (by simp) o e,h2.at λo e=>k i2 (by simp) o e⟩
 item:=by
  intro X hP hw hK hc i pins s σ H E I hf st hg;subst hP hw hK;obtain⟨xs,x,ys,y,hq,hx,hq2,hy⟩:=hg;obtain⟨its,rv,p,hz⟩:=I.list hq;obtain⟨u,hu,ru⟩:=rv.get hx;obtain⟨its2,DQ,p2,hz2⟩:=I.list hq2;obtain⟨u2,hu2,ru2⟩:=DQ.get hy;have DA:=Aw D st p.isList p2.isList;obtain⟨sz,uw,⟨c1,d1,DR⟩,s1,s2⟩:=st;refine wpAny_pyNext_zip_item DA sz uw DR s1 s2 p.isList p2.isList (x:=u) (y:=u2) (by simpa using hu) (by simpa using hu2) λh' a1 a2 a3 a4 a5 a6 hk=>?_;refine⟨_,rfl,wpAny_letOwnedTupleGo_zip a1 λh2 he2 hs2=>?_⟩;have lt:∀{c:Addr}{o:Obj},s.heap.get? c=some o->c≠s.heap.objs.size:=λe=>ne_of_lt (lt_size e);have hT2:IsPair h2 s.heap.objs.size u u2:=(hs2.2 _ (lt sz).symm).trans a5;have RZ:=hk _ _ DA.TIz DA.TITO DA.TIi1 DA.TIi2 uw;refine⟨.ref s.heap.objs.size,upd H s.heap.objs.size (.tup [x,y]),?_,rfl,⟨_,x,y,I.hok.fresh (le_refl _),rfl,λzs hz=>by rw[I.nY hz hq];exact hx,λzs hz=>by rw[I.nY hz hq2];exact hy,rfl⟩,
   ⟨he2,(hs2.2 _ DA.TIz).trans RZ,⟨u,u2,(hs2.2 _ DA.TOz).trans a2⟩,a3.at λo q=>(hs2.2 i1 DA.i1z).trans q,a4.at λo q=>(hs2.2 i2 DA.i2z).trans q⟩,λc hc=>?_⟩
  .refine I.vH (fp:=[z,TI,TO,i1,i2]) (t':=s.toks) (λc o hc q=>?_) hf (le_refl _) ⟨by show 2<=sizeLine;decide,[u,u2],.cons ru (.cons ru2 .nil),⟨_,hT2,rfl,_,rfl⟩⟩;simp only[mem_cons,not_mem_nil,or_false,not_or] at hc;obtain⟨n1,n2,n3,n4,n5⟩:=hc;exact(hs2.2 c n1).trans (hk c o n1 n3 n4 n5 q)
  .have hne:c≠s.heap.objs.size:=by
    simp only[mem_cons,not_mem_nil,or_false] at hc;obtain⟨_,e1,_⟩:=s1;obtain⟨_,e2,_⟩:=s2;rcases hc with rfl|rfl|rfl|rfl|rfl
    .exact lt sz
    .exact lt uw
    .exact lt DR
    .exact lt e1
    .exact lt e2
   rw[aB hne];exact(hf c hc).1
 done:=by intro X hP hw hK hc i pins s σ H E I hf st hg;subst hP hw hK;obtain⟨xs,ys,hq,hq2,hx⟩:=hg;obtain⟨its,rv,p,hz⟩:=I.list hq;obtain⟨its2,DQ,p2,hz2⟩:=I.list hq2;have hl:=rv.length;have hl2:=DQ.length;have DA:=Aw D st p.isList p2.isList;obtain⟨sz,uw,⟨c1,d1,DR⟩,s1,s2⟩:=st;refine wpAny_pyNext_zip_end (I.ok.hd hc) DA sz uw DR s1 s2 p.isList p2.isList (by rcases hx with q|q;exact .inl (by simp;omega);exact .inr (by simp;omega)) λh' hk=>⟨rfl,I.turns (t':=s.toks) (fp:=[z,TI,TO,i1,i2]) (λc o hc q=>?_) hf⟩;simp only[mem_cons,not_mem_nil,or_false,not_or] at hc;obtain⟨n1,n2,n3,n4,n5⟩:=hc;exact hk c o n1 n3 n4 n5 q
 self:=λ_ _ _ _ _ st h=>wpAny_pyIter_zip st.1 h
section
def aaq (K:Frag)(ta:TA):TI:=λσ H R=>ta σ H λvs H1=>∃a b,vs=[.ref a,.ref b]/\(∃xs,aU K H1 a xs)/\(∃ys,aU K H1 b ys)/\R (Itz K a b) H1
theorem aar {tpos:Pos}(hg:Gl X "zip")(hm:X.mg "zip"=none)(ha:PA X [l,l2] ta)(hs:starEach [l,l2] X.env=[(false,eval l X.env),(false,eval l2 X.env)]:=by rfl)(hs2:starEach [l2] X.env=[(false,eval l2 X.env)]:=by rfl):
  PI X (.Tuple elts k tpos) (.Call (.Name "zip" p) [l,l2] [] pos) (aaq X.K ta):=by
 intro pins s σ H R I h;refine Call_ (mG I hg hm boot_zip (PyProof.Rows.callWith_type1 (aO (ha pos pins s σ H _ I h) λus s1 ⟨vs,H1,I1,r1,q1⟩=>?_) (by rw[hs,hs2]) (by rw[hs2];rfl)));obtain⟨a,b,e,⟨xs,hq⟩,⟨ys,hq2⟩,q⟩:=q1;subst e;cases r1 with
 |cons r rr=>
  cases rr with
  |cons r2 rr=>
   cases rr;cases r;cases r2;obtain⟨its,rv,pl,hz⟩:=I1.list hq;obtain⟨its2,DQ,Hq,hz2⟩:=I1.list hq2;refine call_zip_2 pl.isList Hq.isList λh' g1 g2 g3 g4 g5 hsz hk=>?_;refine wpAny_pyIter_zip g1 ?_;have D:DP (s1.heap.objs.size+4) (s1.heap.objs.size+2) (s1.heap.objs.size+3) s1.heap.objs.size (s1.heap.objs.size+1):=by have e:∀n:Nat,(n)=n:=λ_=>rfl;constructor<;>(intro z;have z':=congrArg (λx:Nat=>x) z;simp at z')
   refine⟨_,[s1.heap.objs.size+4,s1.heap.objs.size+2,s1.heap.objs.size+3,s1.heap.objs.size,s1.heap.objs.size+1],_,_,H1,rfl,I1.kept hk,RX a b _ _ _ _ _ D,⟨g1,g2,⟨_,_,g3⟩,g4,g5⟩,λc hc=>?_,q⟩;have hb':s1.heap.objs.size<=c:=by
    simp only[mem_cons,not_mem_nil,or_false] at hc;rcases hc with rfl|rfl|rfl|rfl|rfl
    .exact le_add_right _ _
    .exact le_add_right _ _
    .exact le_add_right _ _
    .exact le_refl _
    .exact le_add_right _ _
   exact I1.pW hb' (I1.hok.fresh hb')
end
theorem rQ:∀(names:List (Str×NameKind)) (acc:List (Str×Addr)),(∀y∈names,y.2=.free->∃c,env.cells.lookup y.1=some c)->(∀x c,acc.lookup x=some c->env.cells.lookup x=some c)->
  ∃cl:List (Str×Addr),(forIn names acc λ(x:Str×NameKind) (r:List (Str×Addr))=>(match x with|(name,kind)=>if(kind==NameKind.free)=true then do let c<-cellOf env name;pure (ForInStep.yield ((name,c)::r)) else pure (ForInStep.yield r):Sem (ForInStep (List (Str×Addr)))):Sem (List (Str×Addr)))=pure cl/\
   (∀x c,cl.lookup x=some c->env.cells.lookup x=some c)/\(∀x,(x,NameKind.free)∈names->∃c,cl.lookup x=some c)/\∀x c,acc.lookup x=some c->∃c',cl.lookup x=some c'
 |[],acc,_,ha=>⟨acc,rfl,ha,λ_ h=>(nomatch h),λx c h=>⟨c,h⟩⟩
 |(n,k)::r,acc,hf,ha=>by
  by_cases hk:k=.free
  .subst hk;obtain⟨c,hc⟩:=hf (n,.free) mem_cons_self rfl;have ha':∀x c',((n,c)::acc).lookup x=some c'->env.cells.lookup x=some c':=λx c' h=>by
    rw[lookup_cons] at h;cases hx:x==n with
    |true=>
     rw[hx] at h;cases h;rw[eq_of_beq hx];exact hc
    |false=>rw[hx] at h;exact ha x c' h
   obtain⟨cl,e,h1,h2,h3⟩:=rQ r ((n,c)::acc) (λy hy=>hf y (mem_cons_of_mem _ hy)) ha';refine⟨cl,?_,h1,λx hx=>?_,λx c' hx=>?_⟩
   .rw[forIn_cons];have ec:cellOf env n=pure c:=by unfold cellOf;rw[hc]
    simp only[beq_self_eq_true,if_true,ec];exact e
   .rcases mem_cons.mp hx with z|z
    .cases z;exact h3 n c (by rw[lookup_cons,beq_self_eq_true])
    .exact h2 x z
   .by_cases hxn:(x==n)=true
    .exact h3 x c (by rw[lookup_cons,hxn])
    .exact h3 x c' (by rw[lookup_cons];simp only[hxn];exact hx)
  .obtain⟨cl,e,h1,h2,h3⟩:=rQ r acc (λy hy=>hf y (mem_cons_of_mem _ hy)) ha;refine⟨cl,?_,h1,λx hx=>?_,h3⟩
   .rw[forIn_cons];have eb:(k==NameKind.free)=false:=by simpa using hk
    simp only[eb,false_eq_true,if_false];exact e
   .rcases mem_cons.mp hx with z|z
    .cases z;exact absurd rfl hk
    .exact h2 x z
theorem BP (hf:∀y∈scope.names,y.2=.free->∃c,env.cells.lookup y.1=some c):
  ∃cl:List (Str×Addr),closureFor scope env=pure cl/\(∀x c,cl.lookup x=some c->env.cells.lookup x=some c)/\∀x,(x,NameKind.free)∈scope.names->∃c,cl.lookup x=some c:=by
 obtain⟨cl,e,h1,h2,_⟩:=rQ scope.names [] hf (λx c h=>by simp at h);refine⟨cl,?_,h1,h2⟩;refine Eq.trans (congrArg (λq=>q>>= λc=>pure c) e) ?_;rfl
theorem oA {scope:Scope}{env:Env}:∀{names:List (Str×NameKind)},(names.map λ(n,k)=>if(k==NameKind.free && env.scope.kind==.function && env.kindOf n==some .cell) then(n,NameKind.cell) else(n,k)).lookup x=some k->
  ∃k',(x,k')∈names/\(k=k'\/(k'=.free/\k=.cell))
 |[],h=>by simp at h
 |(n,j)::r,h=>by
  have h':List.lookup x ((if(j==NameKind.free && env.scope.kind==.function && env.kindOf n==some .cell)=true then(n,NameKind.cell) else(n,j))::(r.map λ(n,k)=>if(k==NameKind.free && env.scope.kind==.function && env.kindOf n==some .cell) then(n,NameKind.cell) else(n,k)))=some k:=h;by_cases hc:(j==NameKind.free && env.scope.kind==.function && env.kindOf n==some .cell)=true
  .rw[if_pos hc,lookup_cons] at h';cases hx:x==n with
   |true=>
    rw[hx] at h';cases h';have ej:j=.free:=by simp only[and_eq_true] at hc;exact eq_of_beq hc.1.1
    rw[eq_of_beq hx];exact⟨.free,by rw[ej];exact mem_cons_self,.inr ⟨rfl,rfl⟩⟩
   |false=>rw[hx] at h';obtain⟨k',hm,q⟩:=oA (scope:=scope) (env:=env) (names:=r) h';exact⟨k',mem_cons_of_mem _ hm,q⟩
  .rw[if_neg hc,lookup_cons] at h';cases hx:x==n with
   |true=>
    rw[hx] at h';cases h';rw[eq_of_beq hx];exact⟨_,mem_cons_self,.inl rfl⟩
   |false=>rw[hx] at h';obtain⟨k',hm,q⟩:=oA (scope:=scope) (env:=env) (names:=r) h';exact⟨k',mem_cons_of_mem _ hm,q⟩
theorem oE {env:Env}{x:Str}:∀{names:List (Str×NameKind)},names.lookup x=some .free->
  (names.map λ(n,k)=>if(k==NameKind.free && env.scope.kind==.function && env.kindOf n==some .cell) then(n,NameKind.cell) else(n,k)).lookup x=some .cell\/
  (names.map λ(n,k)=>if(k==NameKind.free && env.scope.kind==.function && env.kindOf n==some .cell) then(n,NameKind.cell) else(n,k)).lookup x=some .free
 |[],h=>by simp at h
 |(n,j)::r,h=>by
  have ih:=@oE env x r;show List.lookup x ((if(j==NameKind.free && env.scope.kind==.function && env.kindOf n==some .cell)=true then(n,NameKind.cell) else(n,j))::_)=_\/List.lookup x ((if(j==NameKind.free && env.scope.kind==.function && env.kindOf n==some .cell)=true then(n,NameKind.cell) else(n,j))::_)=_;by_cases hc:(j==NameKind.free && env.scope.kind==.function && env.kindOf n==some .cell)=true
  .rw[if_pos hc,lookup_cons];cases hx:x==n with
   |true=>exact .inl rfl
   |false=>rw[lookup_cons,hx] at h;exact ih h
  .rw[if_neg hc,lookup_cons];cases hx:x==n with
   |true=>rw[lookup_cons,hx] at h;exact .inr h
   |false=>rw[lookup_cons,hx] at h;exact ih h
noncomputable def mY (N:List Str)(sc scope:Scope):List Str->List (Option Nat)->Bool
 |[],[]=>true
 |_::xs,none::cs=>mY N sc scope xs cs
 |x::xs,some j::cs=>(match N[j]? with|some y=>y==x|none=>false) && (match sc.names.lookup x with|some .cell=>true|some .free=>true|_=>false) &&
  (match scope.names.lookup x with|some .free=>true|_=>false) && mY N sc scope xs cs
 |_,_=>false
theorem oF:∀{xs:List Str}{cs:List (Option Nat)},mY N sc scope xs cs=true->cs.length=xs.length
 |[],[],_=>rfl
 |_::xs,none::cs,h=>congrArg (· +1) (oF (xs:=xs) (cs:=cs) h)
 |x::xs,some j::cs,h=>by simp only[mY,and_eq_true] at h;exact congrArg (· +1) (oF (xs:=xs) (cs:=cs) h.2)
 |[],_::_,h=>by simp[mY] at h
 |_::_,[],h=>by simp[mY] at h
theorem zA:∀{xs:List Str}{cs:List (Option Nat)},mY N sc scope xs cs=true->∀(i:Nat) (x:Str) (j:Nat),xs[i]? =some x->cs[i]? =some (some j)->
  N[j]? =some x/\(sc.names.lookup x=some .cell\/sc.names.lookup x=some .free)/\scope.names.lookup x=some .free
 |[],[],_,i,x,j,h,_=>by simp at h
 |_::xs,none::cs,h,0,x,j,_,h2=>by simp at h2
 |_::xs,none::cs,h,i+1,x,j,h1,h2=>zA (xs:=xs) (cs:=cs) h i x j (by simpa using h1) (by simpa using h2)
 |y::xs,some k::cs,h,0,x,j,h1,h2=>by
  simp only[mY,and_eq_true] at h;obtain⟨⟨⟨a,b⟩,c⟩,_⟩:=h;have e1:y=x:=by simpa using h1
  have e2:k=j:=by simpa using h2
  subst e1 e2;refine⟨?_,?_,?_⟩
  .cases q:N[k]? with
   |none=>rw[q] at a;simp at a
   |some z=>rw[q] at a;rw[eq_of_beq a]
  .cases q:sc.names.lookup y with
   |none=>rw[q] at b;simp at b
   |some z=>rw[q] at b;cases z<;>first|exact .inl rfl|exact .inr rfl|simp at b
  .cases q:scope.names.lookup y with
   |none=>rw[q] at c;simp at c
   |some z=>rw[q] at c;cases z<;>first|rfl|simp at c
 |y::xs,some k::cs,h,i+1,x,j,h1,h2=>by simp only[mY,and_eq_true] at h;exact zA (xs:=xs) (cs:=cs) h.2 i x j (by simpa using h1) (by simpa using h2)
 |[],_::_,h,_,_,_,_,_=>by simp[mY] at h
 |_::_,[],h,_,_,_,_,_=>by simp[mY] at h
def kE (N:List Str)(sc scope:Scope)(N':List Str)(cap:List (Option Nat)):Bool:=
 mY N sc scope N' cap && (scope.kind==.function) && (scope.names.all λy=>y.2 !=.cell) &&
 (scope.names.all λy=>y.2 !=.local||scope.names.lookup y.1==some .local) &&
 (scope.names.all λy=>y.2 !=.free||sc.names.lookup y.1==some .cell||sc.names.lookup y.1==some .free)
noncomputable def bH (cap:List (Option Nat))(σ:St):St:=cap.map λo=>match o with
 |none=>none
 |some j=>match σ[j]? with
  |some v=>v
  |none=>none
noncomputable def cL (X:Cx)(scope:Scope)(N':List Str)(cl:List (Str×Addr))(C:Addr)(s:Shared)(H:Hp)(ex:List Addr):Cx:=
 {X with N:=N',s₀:=s,H₀:=H,env:=compEnvC scope cl C X.env,outer:=X.stack,ex:=ex,fn:=λ_=>false,pn:=[],xe:=λ_ _=>False}
section
variable {s:Shared}
theorem Np {scope:Scope}(hB:kE X.N X.env.scope scope N' cap=true)(I:Inv X pins σ H s)
  (c1:∀x c,cl.lookup x=some c->X.env.cells.lookup x=some c)(c2:∀x,(x,NameKind.free)∈scope.names->∃c,cl.lookup x=some c)(hf:∀b∈ex,iQ X pins H b)(hex:∀b∈ex,b<s.heap.objs.size)
  (hn:h₁.Ns s.heap.objs.size m)(hk:∀b o,s.heap.get? b=some o->h₁.get? b=some o):
  Inv (cL X scope N' cl s.heap.objs.size s H ex) [] (bH cap σ) H {s with heap:=h₁,toks:=t'}:=by
 simp only[kE,and_eq_true] at hB;obtain⟨⟨⟨⟨b1,b2⟩,b3⟩,b4⟩,b5⟩:=hB;have kind:=eq_of_beq b2;have ux:∀y∈scope.names,y.2≠ .cell:=λy hy=>by have:=all_eq_true.mp b3 y hy;simpa using this
 have ok:(cL X scope N' cl s.heap.objs.size s H ex).Ok:=by
  refine⟨I.ok.mod,kind,I.ok.glob,I.ok.blt,le_refl _,λx y c e1 e2=>I.ok.inj x y c (c1 x c e1) (c1 y c e2),λx hx=>?_,λx c e _=>(by cases e),I.ok.hd,I.ok.frames,.inl rfl,λb hb=>⟨ne_of_lt (hex b hb),λx c e=>(hf b hb).2.2.2.2.1 x c (c1 x c e)⟩,
   I.bs,le_trans I.ok.tW I.sz,λb o e hb=>?_,λb hb hb2=>?_,I.stack,I.qt⟩
  .have hx':∃k,(relabel scope X.env).names.lookup x=some k/\(k=.cell\/k=.free):=by
    rcases hx with z|z
    .exact⟨.cell,z,.inl rfl⟩
    .exact⟨.free,z,.inr rfl⟩
   obtain⟨k,e,hkk⟩:=hx';obtain⟨k',hm,q⟩:=oA (scope:=scope) e;have ek:k'=.free:=by
    rcases q with q|q
    .rw[<-q];rcases hkk with z|z
     .exact absurd (q.symm.trans z) (ux _ hm)
     .exact z
    .exact q.1
   rw[ek] at hm;exact c2 x hm
  .rcases(hf b hb).2.2.2.1 with z|z
   .exact I.ok.zj b o e z
   .exact absurd (lt_of_lt_of_le (lt_of_lt_of_le (lt_size e) I.ok.tW) z) (lt_irrefl _)
  .rcases mem_cons.mp (I.tX b hb2) with z|z
   .exact(hf b hb).2.1 z
   .exact(hf b hb).2.2.1 z
 refine⟨ok,rfl,I.bare,Un.kept hk,⟨m,hn,λi x v e1 e2 e3=>?_⟩,λx c e=>?_,I.hok.fresh (le_refl _),λx c e=>I.gZ x c (c1 x c e),λp hp=>absurd (show p∈([]:List (Addr×Obj)) from hp) (by simp),I.hok.kept hk,?_⟩
 .have e2':=e2;unfold bH at e2';rw[getElem?_map] at e2';cases ec:cap[i]? with
  |none=>rw[ec] at e2';simp at e2'
  |some o=>
   rw[ec] at e2';cases o with
   |none=>simp at e2'
   |some j=>
    simp only[map_some,Option.some.injEq] at e2';have ej:σ[j]? =some (some v):=by
     cases q:σ[j]? with
     |none=>rw[q] at e2';simp at e2'
     |some z=>rw[q] at e2';simp only at e2';rw[e2']
    obtain⟨q1,q2,q3⟩:=zA b1 i x j e1 ec;obtain⟨m0,hn0,hl0⟩:=I.loc;obtain⟨u,r,l⟩:=hl0 j x v q1 ej (by rcases q2 with z|z;exact .inr (.inl z);exact .inr (.inr z));refine⟨u,r,?_⟩;rcases l with⟨kl,_⟩|⟨_,c,hc,z⟩
    .have kl':X.env.scope.names.lookup x=some .local:=kl;rcases q2 with q2|q2<;>(rw[q2] at kl';cases kl')
    .obtain⟨o,ho,hd⟩:=z;obtain⟨c',hc'⟩:=c2 x (PySem.mem_of_lookup q3)
     have:c'=c:=by have:=c1 x c' hc';rw[hc] at this;exact(Option.some.inj this).symm
     subst this;exact .inr ⟨oE q3,c',hc',o,hk _ _ ho,hd⟩
 .obtain⟨v,o,ho,hd⟩:=I.cell x c (c1 x c e);exact⟨v,o,hk _ _ ho,hd⟩
 .unfold bH;rw[length_map];exact oF b1
end
noncomputable def VJ:TT:=λ_ H Q=>Q true H
def lO (X:Cx)(ifs:List Expr)(t:TT):Prop:=
 ∀(pins:List (Addr×Obj)) (s:Shared) (σ:St) (H:Hp) (Q:Bool->Hp->Prop),Inv X pins σ H s->t σ H Q->
  wpAny (model X.prog X.w) X.A (forIn ifs true λc r=>if r=true then do let ok<-isTrue c X.env (eval c X.env);pure (ForInStep.yield ok) else pure (ForInStep.yield r)) (TP X pins σ Q) X.xe s
theorem Hr:lO X [] VJ:=λ_ _ _ H _ I h=>wpAny_tests_nil ⟨H,I,h⟩
theorem Hs (h:PT X c t):lO X [c] t:=λpins s σ H Q I q=>wpAny_tests_one (h pins s σ H Q I q)
section
variable {s:Shared}
theorem GX (I:Nat->Shared->Prop)
  (turn:∀n s,I n s->wpAny (model prog w) A (pyNext it) (λr s₁=>match r with
   |none=>R (.ok .next) s₁
   |some v=>wpAny (model prog w) A (letOwnedTupleGo target it v) (λ_ s₁'=>wpAny (model prog w) A (assign target env v) (λ_ s₂=>
    wpAny (model prog w) A (forIn ifs true λc r=>if r=true then do let ok<-isTrue c env (eval c env);pure (ForInStep.yield ok) else pure (ForInStep.yield r)) (λok s₃=>
     if ok=true then wpAny (model prog w) A (eval elt env) (λx s₄=>
      wpAny (model prog w) A (call (.builtin "list.append") [acc,x]) (λ_ s₅=>∃m,m<n/\I m s₅) (λ_ _=>False) s₄) (λ_ _=>False) s₃
     else ∃m,m<n/\I m s₃) (λ_ _=>False) s₂) (λ_ _=>False) s₁') (λ_ _=>False) s₁) (λ_ _=>False) s)
  (n:Nat)(h:I n s):
  codeAny (model prog w) A (.compLoop (.ListComp elt [⟨target,iter,ifs,0⟩] scope pos) 0 it acc env) R s:=by
 refine codeAny_loop rfl I (λn s hI=>?_) n h;refine wpAny_noted ?_;rw[compTurn_list];refine wpAny_bind (wpAny_standAt (wpAny_bind (wpAny_mono (turn n s hI) (λr s₁ h₁=>?_) λ_ _ h'=>h'.elim)));cases r with
 |none=>exact wpAny_pure h₁
 |some v=>
  refine wpAny_bind (wpAny_mono h₁ (λ_ s₁' h₁'=>wpAny_bind (wpAny_mono h₁' (λ_ s₂ h₂=>wpAny_bind (wpAny_mono h₂ (λok s₃ h₃=>?_) λ_ _ h'=>h'.elim)) λ_ _ h'=>h'.elim)) λ_ _ h'=>h'.elim);cases ok with
  |false=>exact wpAny_pure ⟨rfl,h₃⟩
  |true=>exact wpAny_bind (wpAny_bind (wpAny_mono h₃ (λx s₄ h₄=>wpAny_bind (wpAny_mono h₄ (λ_ s₅ h₅=>wpAny_pure (wpAny_pure ⟨rfl,h₅⟩)) λ_ _ h'=>h'.elim)) λ_ _ h'=>h'.elim))
end
noncomputable def eZ (a b:St):Prop:=∀(j:Nat) v,a[j]? =some (some v)->b[j]? =some (some v)
theorem eZ.refl:eZ a a:=λ_ _ h=>h
theorem eZ.set (h:eZ a b)(hi:a[i]? =some none):eZ a (b.set i v):=λj u e=>by
 by_cases hj:j=i
 .subst hj;rw[hi] at e;cases e
 .rw[getElem?_set_ne (Ne.symm hj)];exact h j u e
def DW (J:It)(cap:List (Option Nat))(g:TG)(tc:TT)(te:TE)(σ:St)(H1:Hp)(Q:VK):Prop:=
 ∀D,H1 D=none->∃W:Nat->Nat->Hp->Prop,(∃m,W 0 m (upd H1 D (.lst [])))/\∀i m H,W i m H->
  (J.stop i H/\Q (.ref D) H)\/(J.go i H/\∀x H',J.wj i H x H'->g x (bH cap σ) H' λσ2 H2=>eZ (bH cap σ) σ2/\tc σ2 H2 λb H3=>
   if b=true then te σ2 H3 λy H4=>∃xs,H4 D=some (.lst xs)/\xs.length<sizeLine/\∃m',m'<m/\W (i+1) m' (upd H4 D (.lst (xs++[y])))
   else ∃m',m'<m/\W (i+1) m' H3)
def wF (wi:TI)(cap:List (Option Nat))(g:TG)(tc:TT)(te:TE):TE:=λσ H Q=>wi σ H λJ H1=>DW J cap g tc te σ H1 Q
section
variable {X:Cx}
theorem DX {RR:Value->Addr->Result->Shared->Prop}(hc:X.calm=true)(hB:kE X.N X.env.scope scope N' cap=true)
  (hg:∀cl C s₀ H₀ ex,PG (cL X scope N' cl C s₀ H₀ ex) tg g)(hi:∀cl C s₀ H₀ ex,lO (cL X scope N' cl C s₀ H₀ ex) ifs tc)(he:∀cl C s₀ H₀ ex,PE (cL X scope N' cl C s₀ H₀ ex) elt te)
  (c1:∀x c,cl.lookup x=some c->X.env.cells.lookup x=some c)(c2:∀x,(x,NameKind.free)∈scope.names->∃c,cl.lookup x=some c)
  (I:Inv X pins σ H s)(T:Turn X.prog X.w X.K tg J fp it tn)(st:tn 0 s.heap)(hf:∀b∈fp,iQ X pins H b)(rd:DW J cap g tc te σ H Q)
  (hRR:∀D C s' m H',Inv X pins σ H' s'->s'.heap.Ns C m->iQ X pins H' C->Q (.ref D) H'->RR (.ref D) C (.ok .next) s'):
  wpAny (model X.prog X.w) X.A (newList []) (λacc s₃=>wpAny (model X.prog X.w) X.A (newFunctionEnv scope X.env.globals cl [] X.env.qual none .none (some X.env)) (λcenv s₄=>
   codeAny (model X.prog X.w) X.A (.compStart (.ListComp elt [⟨tg,iter,ifs,0⟩] scope pos) 0 (.ref it) acc {cenv with scope:=relabel scope X.env}) (RR acc cenv.locals) s₄) E s₃) E s:=by
 have hB':=hB;simp only[kE,and_eq_true] at hB';obtain⟨⟨⟨⟨b1,b2⟩,b3⟩,b4⟩,b5⟩:=hB';have kind:=eq_of_beq b2;have ux:∀y∈scope.names,y.2≠ .cell:=λy hy=>by have:=all_eq_true.mp b3 y hy;simpa using this
 have hfp:∀b∈fp,b<s.heap.objs.size:=λb hb=>let⟨o,e,_⟩:=T.obj 0 _ st b hb;lt_size e;refine wpAny_newObj_type (wpAny_newFunctionEnv ux (by intro y hy;simp at hy) (λh₁ hns₁ hsb₁=>?_) kind);dsimp only at hns₁ hsb₁ ⊢;have I3:Inv X pins σ (upd H s.heap.objs.size (.lst [])) {s with heap:=s.heap.push {cls:=.type "list",data:=.seq ([]:List Value).toArray},toks:=s.toks}:=I.J5 .nil (zero_le _);generalize hs3:({s with heap:=s.heap.push {cls:=.type "list",data:=.seq ([]).toArray},toks:=s.toks})=s3 at I3;have eh:s3.heap=s.heap.push {cls:=.type "list",data:=.seq ([]).toArray}:=by rw[<-hs3]
 have Ht:s3.heap.objs.size=s.heap.objs.size+1:=by rw[eh,size_push]
 obtain⟨W,⟨m0,w0⟩,turn⟩:=rd s.heap.objs.size (I.hok.fresh (le_refl _));have Nq:∀b∈fp,iQ X pins (upd H s.heap.objs.size (.lst [])) b:=λb hb=>⟨by rw[aB (ne_of_lt (hfp b hb))];exact(hf b hb).1,(hf b hb).2⟩;have DY:∀b∈fp,b<s3.heap.objs.size:=λb hb=>by rw[Ht];exact Nat.lt_succ_of_lt (hfp b hb)
 have zB:h₁.Ns s3.heap.objs.size (λx=>([]).reverse.lookup x):=by rw[eh];exact hns₁
 have old:∀b o,s3.heap.get? b=some o->h₁.get? b=some o:=λb o e=>by refine hsb₁.extBut b o ?_ (get?_push_of_some _ (by rw[<-eh];exact e));rw[<-eh];exact ne_of_lt (lt_size e)
 have I4:=Np (t':=s.toks) hB I3 c1 c2 Nq DY zB old;have R0:∀b o,s.heap.get? b=some o->h₁.get? b=some o:=λb o e=>old b o (by rw[eh];exact get?_push_of_some _ e);have Nr:=T.keep _ _ _ st λb _ o e=>R0 b o e;have eC:(s.heap.push {cls:=.type "list",data:=.seq ([]).toArray}).objs.size=s3.heap.objs.size:=by rw[eh]
 have stat:∀{H':Hp},(∀b∈fp,H' b=none)->∀b∈fp,iQ (cL X scope N' cl s3.heap.objs.size s3 (upd H s.heap.objs.size (.lst [])) fp) [] H' b:=λhn b hb=>
  ⟨hn b hb,ne_of_lt (DY b hb),λz=>by
   rcases mem_cons.mp (I3.tX b z) with q|q
   .exact(hf b hb).2.1 q
   .exact(hf b hb).2.2.1 q,.inl hb,λx c e=>(hf b hb).2.2.2.2.1 x c (c1 x c e),λp hp=>absurd (show p∈([]:List (Addr×Obj)) from hp) (by simp)⟩
 have loop:∀s₃:Shared,s₃={s with heap:=h₁,toks:=s.toks+([]:List (Str×Value)).length}->
   codeAny (model X.prog X.w) X.A (.compLoop (.ListComp elt [⟨tg,iter,ifs,0⟩] scope pos) 0 (.ref it) (.ref s.heap.objs.size) (compEnvC scope cl s3.heap.objs.size X.env)) (RR (.ref s.heap.objs.size) s3.heap.objs.size) s₃:=by
  rintro s₃ rfl;refine GX (λn s'=>∃i σ' H',Inv (cL X scope N' cl s3.heap.objs.size s3 (upd H s.heap.objs.size (.lst [])) fp) [] σ' H' s'/\(∀(j:Nat) v,(bH cap σ)[j]? =some (some v)->σ'[j]? =some (some v))/\tn i s'.heap/\(∀b∈fp,H' b=none)/\W i n H') ?_ m0 ?_
  .rintro n s' ⟨i,σ',H',I',wk,st',fr',w'⟩;have yd:=I'.weak (by rw[I'.len];show(bH cap σ).length=N'.length;unfold bH;rw[length_map];exact oF b1) wk;rcases turn i n H' w' with⟨stop,q⟩|⟨go,step⟩
   .refine aO (T.done (cL X scope N' cl s3.heap.objs.size s3 (upd H s.heap.objs.size (.lst [])) fp) rfl rfl rfl hc i [] s' (bH cap σ) H' _ yd (stat fr') st' stop) λr s4 ⟨hr,oG⟩=>?_;subst hr;have u:=(Un.laid (λb o e=>by show s3.heap.get? b=some o;rw[eh];exact get?_push_of_some _ e) (le_refl _) (I.hok.fresh (le_refl _))).trans oG.base;have IX:=I.call' (oG.os.trans (by show s3.os=s.os;rw[<-hs3])) u oG.hok oG.bare λb hb=>⟨(hf b hb).2.2.2.1,(hf b hb).2.1,(hf b hb).2.2.2.2.1,(hf b hb).2.2.2.2.2⟩;obtain⟨m',hm',_⟩:=oG.loc;exact hRR _ _ s4 m' H' IX hm' (I.pW (by rw[Ht];exact le_succ _) oG.free) q
   .refine aO (T.item (cL X scope N' cl s3.heap.objs.size s3 (upd H s.heap.objs.size (.lst [])) fp) rfl rfl rfl hc i [] s' (bH cap σ) H' _ yd (stat fr') st' go) λr s4 ⟨v,hr,h4⟩=>?_;subst hr;refine aO h4 λ_ s5 ⟨x,H5,I5,r5,y5,qy,MJ⟩=>?_;have MK:=I5.pinned (stat MJ) (T.obj _ _ qy);refine aO (hg _ _ _ _ _ _ s5 (bH cap σ) H5 x v _ MK r5 (step x H5 y5)) λ_ s6 ⟨ug,H6,I6,kc6,q6⟩=>?_;refine aO (hi _ _ _ _ _ _ s6 ug H6 _ I6 q6) λok s7 ⟨H7,I7,q7⟩=>?_;have J6:∀{s8:Shared}{Nt:St} {H8:Hp},Inv (cL X scope N' cl s3.heap.objs.size s3 (upd H s.heap.objs.size (.lst [])) fp) ([]++mK fp s5.heap) Nt H8 s8->tn (i+1) s8.heap/\∀b∈fp,H8 b=none:=λ{s8 Nt H8} I8=>
     ⟨T.keep _ _ _ qy λb hb o e=>(I8.pin (b,o) (mem_append_right _ (mem_append_right _ (f9 hb e)))).1,λb hb=>by
      obtain⟨o,e,d⟩:=T.obj _ _ qy b hb;exact(I8.pin (b,o) (mem_append_right _ (mem_append_right _ (f9 hb e)))).2.1⟩
    have again:∀{s8:Shared}{H8:Hp} {m':Nat},Inv (cL X scope N' cl s3.heap.objs.size s3 (upd H s.heap.objs.size (.lst [])) fp) ([]++mK fp s5.heap) ug H8 s8->m'<n->W (i+1) m' H8->
      ∃m,m<n/\∃i σ' H',Inv (cL X scope N' cl s3.heap.objs.size s3 (upd H s.heap.objs.size (.lst [])) fp) [] σ' H' s8/\(∀j v,(bH cap σ)[j]? =some (some v)->σ'[j]? =some (some v))/\tn i s8.heap/\(∀b∈fp,H' b=none)/\W i m H':=λ{s8 H8 m'} I8 lt w8=>by
     obtain⟨k1,k2⟩:=J6 I8;exact⟨m',lt,i+1,ug,H8,I8.lK,kc6,k1,k2,w8⟩
    cases ok with
    |false=>
     rw[if_neg Bool.false_ne_true] at q7 ⊢;obtain⟨m',lt,w8⟩:=q7;exact again I7 lt w8
    |true=>rw[if_pos rfl] at q7 ⊢;refine aO (he _ _ _ _ _ _ s7 ug H7 _ I7 q7) λy s8 ⟨vy,H8,I8,ry,xs,hD,hz,m',lt,w8⟩=>?_;refine aO (ur _ s8 ug H8 (.ref s.heap.objs.size) [vy] _ _ (λ_ H'=>H'=upd H8 s.heap.objs.size (.lst (xs++[vy]))) I8 rfl (.cons ry .nil) ⟨_,xs,vy,rfl,rfl,hD,hz,rfl⟩) λ_ s9 ⟨_,H9,I9,_,e9⟩=>?_;subst e9;exact again I9 lt w8
  .have eS:({s3 with heap:=h₁,toks:=s.toks})={s with heap:=h₁,toks:=s.toks+([]:List (Str×Value)).length}:=by rw[<-hs3];rfl
   exact⟨0,bH cap σ,upd H s.heap.objs.size (.lst []),eS▸I4,λ_ _ h=>h,Nr,λb hb=>(Nq b hb).1,w0⟩
 rw[eC];exact codeAny_compStart_list (loop _ rfl) (T.self _ 0 _ _ _ Nr (loop _ rfl))
theorem uy (hB:kE X.N X.env.scope scope N' cap=true):∀x∈scope.names,x.2=.local->scope.names.lookup x.1=some .local:=λy hy e=>by simp only[kE,and_eq_true] at hB;have:=all_eq_true.mp hB.1.2 y hy;rw[e] at this;simpa using this
theorem wR (hB:kE X.N X.env.scope scope N' cap=true)(ok:X.Ok):∃cl:List (Str×Addr),closureFor scope X.env=pure cl/\(∀x c,cl.lookup x=some c->X.env.cells.lookup x=some c)/\∀x,(x,NameKind.free)∈scope.names->∃c,cl.lookup x=some c:=by
 refine BP λy hy e=>ok.has y.1 ?_;simp only[kE,and_eq_true] at hB;have:=all_eq_true.mp hB.2 y hy;rw[e] at this;simp only[bne_self_eq_false,Bool.false_or,Bool.or_eq_true] at this;rcases this with z|z
 .exact .inl (eq_of_beq z)
 .exact .inr (eq_of_beq z)
theorem J7 (N:List Str)(sc:Scope)(hc:X.calm=true)(hB0:kE N sc scope N' cap=true)(hNN:X.N=N)(hsc:X.env.scope=sc)(hit:PI X tg iter wi)
  (hg:∀cl C s₀ H₀ ex,PG (cL X scope N' cl C s₀ H₀ ex) tg g)(hi:∀cl C s₀ H₀ ex,lO (cL X scope N' cl C s₀ H₀ ex) ifs tc)(he:∀cl C s₀ H₀ ex,PE (cL X scope N' cl C s₀ H₀ ex) elt te)
  (hs:∀x,foldedSetIterable iter X.env x=pure x:=by intro _;rfl):PE X (.ListComp elt [⟨tg,iter,ifs,0⟩] scope pos) (wF wi cap g tc te):=by
 intro pins s σ H Q I h;have hB:kE X.N X.env.scope scope N' cap=true:=by rw[hNN,hsc];exact hB0
 have kind:scope.kind=.function:=by simp only[kE,and_eq_true] at hB;exact eq_of_beq hB.1.1.1.2
 obtain⟨cl,Nu,c1,c2⟩:=wR hB I.ok;rw[eval_ListComp];refine wpAny_comprehension_free rfl hs Nu kind (uy hB) (aO (hit pins s σ H _ I h) λv s1 h1=>aO h1 λitv s2 h2=>?_);obtain⟨it,fp,tn,J,H2,e,I2,T,st2,f2,rd⟩:=h2;subst e;refine DX hc hB hg hi he c1 c2 I2 T st2 f2 rd λD C s' m H' I' hm fC q=>?_;exact⟨m,hm,λh' hs'=>⟨.ref D,H',I'.turned (λb o hb e=>(hs'.2 b hb).trans e) fC.1 fC.2.1 fC.2.2.2.1 fC.2.2.2.2.1 fC.2.2.2.2.2,rfl,q⟩⟩
theorem Ea (hN:X.N.Nodup)(hiy:X.N[i]? =some y)(hy:Loc X.env.scope y)(N:List Str)(sc:Scope)(hc:X.calm=true)(hB0:kE N sc scope N' cap=true)(hNN:X.N=N)(hsc:X.env.scope=sc)(hit:PI X tg iter wi)
  (hg:∀cl C s₀ H₀ ex,PG (cL X scope N' cl C s₀ H₀ ex) tg g)(hi:∀cl C s₀ H₀ ex,lO (cL X scope N' cl C s₀ H₀ ex) ifs tc)(he:∀cl C s₀ H₀ ex,PE (cL X scope N' cl C s₀ H₀ ex) elt te)
  (hsw:swapsWith (.ListComp elt [⟨tg,iter,ifs,0⟩] scope pos) (some (.Name y ypos)) spos.line X.env=pure true:=by rfl)
  (hs:∀x,foldedSetIterable iter X.env x=pure x:=by intro _;rfl)(hf:X.fn y=true\/X.env.scope.names.lookup y=some .local:=by first|exact .inl rfl|exact .inr rfl|assumption):
  PS X (.Assign [.Name y ypos] (.ListComp elt [⟨tg,iter,ifs,0⟩] scope pos) spos) (gM (wF wi cap g tc te) (cN i)):=by
 intro pins s σ H D I h;have hB:kE X.N X.env.scope scope N' cap=true:=by rw[hNN,hsc];exact hB0
 have kind:scope.kind=.function:=by simp only[kE,and_eq_true] at hB;exact eq_of_beq hB.1.1.1.2
 obtain⟨cl,Nu,c1,c2⟩:=wR hB I.ok;rw[exec_Assign_Name_used _ _ _ _ hsw];refine wpAny_bind (wpAny_standAt (wpAny_bind ?_));refine wpAny_bind (wpAny_mono (wpAny_comprehension_free rfl hs Nu kind (uy hB)
  (aO (hit pins s σ H _ I h) λv s1 h1=>aO h1 λitv s2 h2=>?_)) (λ_ s' hq=>wpAny_pure (wpAny_pure hq)) λ_ _ e=>e)
 obtain⟨it,fp,tn,J,H2,e,I2,T,st2,f2,rd⟩:=h2;subst e;refine DX hc hB hg hi he c1 c2 I2 T st2 f2 rd λDa C s' m H' I' hm fC q=>?_;refine wpAny_assign_Name (Ad (v:=.ref Da) I' hN hiy hy rfl (λs'' yd ⟨a,hsa,hav⟩=>?_) hf);have haC:C≠a:=by
  rcases hav with z|z
  .rw[z];exact fC.2.1
  .exact(fC.2.2.2.2.1 y a z).symm
 refine⟨m,hm.sameBut hsa haC,λh' hs'=>⟨σ.set i (some (.ref Da)),H',yd.turned (λb o hb e=>(hs'.2 b hb).trans e) fC.1 fC.2.1 fC.2.2.2.1 fC.2.2.2.2.1 fC.2.2.2.2.2,q⟩⟩
end
noncomputable def Ck (_ j:Int):Prop:=0<j/\j.natAbs.log2<9000
noncomputable def Cm (i j:Int):Prop:=i.natAbs<2^8000/\j.natAbs<2^8000
theorem bits_le (h:i.natAbs<2^8000):Builtin.Int.intBits i<=2^20:=by
 unfold Builtin.Int.intBits;split
 .exact zero_le _
 .rename_i h0;have hz:i.natAbs≠0:=by
   intro z;apply h0
   have:i=0:=by omega
   rw[this];rfl
  have:=(Nat.log2_lt hz).mpr h;have e:(2)^20=1048576:=by decide
  omega
section
theorem R6:cg X (binaryOp .FloorDiv) (rI Ck λi j=>.int (i/j)):=MP λi j _ _ _ _ _ hc q=>by
 have e:i.fdiv j=i/j:=by rw[Int.fdiv_eq_ediv_of_nonneg _ (Int.le_of_lt hc.1)]
 exact floordiv_int (Int.ne_of_gt hc.1) (by rw[e];exact q) (.inl (PyProof.noPylong_of_log2 hc.2))
theorem XF:cg X (binaryOp .Mult) (rI Cm λi j=>.int (i*j)):=MP λ_ _ _ _ _ _ _ hc q=>mul_int q (IntMulOk.of_bits (bits_le hc.1) (bits_le hc.2))
end
theorem uz:∀{ns:List Int}{vs:List Value},Vals (ns.map V.int) vs->IntsAre vs ns
 |[],_,.nil=>.nil
 |n::ns,_,.cons r t=>by obtain⟨k,rfl⟩:=r;exact .cons n k (uz t)
section
theorem Nv (hc:X.calm=true):c7 X (.builtin "sum") (λxs H Q=>∃(p:Addr) (ns:List Int),xs=[.ref p]/\aU X.K H p (ns.map V.int)/\Q (.int ns.sum) H):=by
 intro pins s σ H xs us Q I r q;obtain⟨p,ns,rfl,hq,q⟩:=q;obtain⟨u,rfl,ru⟩:=r.one;cases ru;obtain⟨its,rv,pl,hz⟩:=I.list hq;have hi:=uz rv;obtain⟨zs,e⟩:=hi.allInts.items;have hns:ns=zs.toList.map (·.1):=by rw[<-hi.numsOf,←nums_intItems,←e]
 have hl:=pl.isList;rw[e] at hl;refine sum_intListG (I.ok.hd hc) hl λh' tk t' hk=>?_;have e2:preSum (numAt zs) zs.size=ns.sum:=by rw[preSum_eq,take_of_length_le (by simp),←hns]
 rw[e2];exact⟨.int ns.sum,H,I.kept hk,⟨_,rfl⟩,q⟩
theorem Nx (hc:X.calm=true):c7 X (.builtin "min") (λxs H Q=>∃(p:Addr) (ns:List Int),xs=[.ref p]/\aU X.K H p (ns.map V.int)/\0<ns.length/\∀M,M∈ns->(∀a,a∈ns->M<=a)->Q (.int M) H):=by
 intro pins s σ H xs us Q I r q;obtain⟨p,ns,rfl,hq,hne,q⟩:=q;obtain⟨u,rfl,ru⟩:=r.one;cases ru;obtain⟨its,rv,pl,hz⟩:=I.list hq;have hi:=uz rv;obtain⟨zs,e⟩:=hi.allInts.items;have hns:ns=zs.toList.map (·.1):=by rw[<-hi.numsOf,←nums_intItems,←e]
 have hl:=pl.isList;rw[e] at hl;have hsz:0<zs.size:=by have h3:=hne;rw[hns,length_map,length_toList] at h3;exact h3
 refine min_intList (I.ok.hd hc) hl hsz λv h' tk hv hk=>?_;obtain⟨t,rfl⟩:=intItems_at hv;obtain⟨h1,h2⟩:=argBest_lt (numAt zs) (zs.size - 1);refine⟨.int _,H,I.kept hk,⟨t,rfl⟩,q _ ?_ λa ha=>?_⟩
 .rw[hns,numAt_eq];exact getD_mem (by rw[length_map,length_toList];omega)
 .rw[hns] at ha;obtain⟨j,hj,rfl⟩:=mem_getD ha;rw[length_map,length_toList] at hj;rw[<-numAt_eq];exact h2 j (by omega)
end
section
variable {j:Nat}
end
mutual
noncomputable def Has (K:Frag)(H:Hp):PyData->V->Prop
 |.none,v=>v=.non
 |.bool b,v=>v=.bl b
 |.int i,v=>v=.int i
 |.str x,v=>v=.str x/\(PyData.str x).canLay0=true
 |.list ds,v=>∃a xs,v=.ref a/\aU K H a xs/\aK K H ds xs
 |.tuple ds,v=>∃a xs,v=.ref a/\cZ K H a xs/\aK K H ds xs
 |.dict _,_=>False
noncomputable def aK (K:Frag)(H:Hp):List PyData->List V->Prop
 |[],vs=>vs=[]
 |d::ds,vs=>∃v r,vs=v::r/\Has K H d v/\aK K H ds r
end
theorem Same.J8 {K:Frag}(e:Same H H')(h:cZ K H a xs):cZ K H' a xs:=by
 rcases h with(h|⟨o,h⟩)|h
 .exact .inl (.inl (e _ _ h))
 .exact .inl (.inr ⟨o,e _ _ h⟩)
 .exact .inr h
mutual
theorem Has.same {K:Frag}(e:Same H H'):∀{d:PyData}{v:V},Has K H d v->Has K H' d v
 |.none,_,h=>h
 |.bool _,_,h=>h
 |.int _,_,h=>h
 |.str _,_,h=>h
 |.list _,_,⟨a,xs,h1,h2,h3⟩=>⟨a,xs,h1,e.seq h2,aK.same e h3⟩
 |.tuple _,_,⟨a,xs,h1,h2,h3⟩=>⟨a,xs,h1,e.J8 h2,aK.same e h3⟩
theorem aK.same {K:Frag}(e:Same H H'):∀{ds:List PyData}{vs:List V},aK K H ds vs->aK K H' ds vs
 |[],_,h=>h
 |_::_,_,⟨v,r,h1,h2,h3⟩=>⟨v,r,h1,Has.same e h2,aK.same e h3⟩
end
theorem aK.length {K:Frag}:∀{ds:List PyData}{vs:List V},aK K H ds vs->ds.length=vs.length
 |[],vs,h=>by have h':vs=[]:=h;rw[h'];rfl
 |_::_,_,⟨v,r,h1,_,h3⟩=>by rw[h1];exact congrArg (· +1) (aK.length h3)
theorem aK.get {K:Frag}:∀{ds:List PyData}{vs:List V} {i:Nat} {v:V},aK K H ds vs->vs[i]? =some v->∃d,ds[i]? =some d/\Has K H d v
 |[],vs,i,v,h,e=>by have h':vs=[]:=h;rw[h'] at e;simp at e
 |d::_,_,0,v,⟨u,r,h1,h2,h3⟩,e=>by
  rw[h1] at e
  have:u=v:=by simpa using e
  subst this;exact⟨d,rfl,h2⟩
 |_::ds,_,i+1,v,⟨u,r,h1,h2,h3⟩,e=>by rw[h1] at e;obtain⟨d,q1,q2⟩:=aK.get (i:=i) (v:=v) h3 (by simpa using e);exact⟨d,by simpa using q1,q2⟩
theorem aK.at {K:Frag}:∀{ds:List PyData}{vs:List V} {i:Nat} {d:PyData},aK K H ds vs->ds[i]? =some d->∃v,vs[i]? =some v/\Has K H d v
 |[],_,i,d,_,e=>by simp at e
 |d'::_,_,0,d,⟨u,r,h1,h2,h3⟩,e=>by
  have:d'=d:=by simpa using e
  subst this;rw[h1];exact⟨u,rfl,h2⟩
 |_::ds,_,i+1,d,⟨u,r,h1,h2,h3⟩,e=>by obtain⟨v,q1,q2⟩:=aK.at (i:=i) (d:=d) h3 (by simpa using e);rw[h1];exact⟨v,by simpa using q1,q2⟩
theorem aK.snoc {K:Frag}(hv:Has K H d v):∀{ds:List PyData}{vs:List V},aK K H ds vs->aK K H (ds++[d]) (vs++[v])
 |[],vs,h=>by have h':vs=[]:=h;rw[h'];exact⟨v,[],rfl,hv,rfl⟩
 |_::_,_,⟨u,r,h1,h2,h3⟩=>by rw[h1];exact⟨u,r++[v],rfl,h2,aK.snoc hv h3⟩
theorem aK.append {K:Frag}(h2:aK K H es us):∀{ds:List PyData}{vs:List V},aK K H ds vs->aK K H (ds++es) (vs++us)
 |[],vs,h=>by have h':vs=[]:=h;rw[h'];exact h2
 |_::_,_,⟨u,r,g1,g2,g3⟩=>by rw[g1];exact⟨u,r++us,rfl,g2,aK.append h2 g3⟩
theorem aK.reverse {K:Frag}:∀{ds:List PyData}{vs:List V},aK K H ds vs->aK K H ds.reverse vs.reverse
 |[],vs,h=>by have h':vs=[]:=h;rw[h'];rfl
 |_::_,_,⟨u,r,g1,g2,g3⟩=>by rw[g1,reverse_cons,reverse_cons];exact aK.snoc g2 (aK.reverse g3)
theorem aK.set {K:Frag}(hv:Has K H d v):∀{ds:List PyData}{vs:List V} (i:Nat),aK K H ds vs->aK K H (ds.set i d) (vs.set i v)
 |[],vs,_,h=>by have h':vs=[]:=h;rw[h'];rfl
 |_::_,_,0,⟨u,r,g1,g2,g3⟩=>by rw[g1];exact⟨v,r,rfl,hv,g3⟩
 |_::_,_,i+1,⟨u,r,g1,g2,g3⟩=>by rw[g1];exact⟨u,r.set i v,rfl,g2,aK.set hv i g3⟩
theorem aK.ints {K:Frag}:∀{ns:List Int}{vs:List V},aK K H (ns.map PyData.int) vs↔vs=ns.map V.int
 |[],_=>Iff.rfl
 |n::ns,vs=>by
  constructor
  .rintro⟨v,r,h1,h2,h3⟩;have h2':v=.int n:=h2;rw[h1,h2',aK.ints.mp h3];rfl
  .rintro rfl;exact⟨.int n,ns.map V.int,rfl,rfl,aK.ints.mpr rfl⟩
section
variable {s:Shared}
mutual
theorem Has.reads (I:Inv X pins σ H s):∀{d:PyData}{v:V} {u:Value},Has X.K H d v->RelV v u->∃as,Reads s.heap u d as
 |.none,v,u,h,r=>by
  have h':v=.non:=h;subst h';cases r;exact⟨_,.none⟩
 |.bool b,v,u,h,r=>by
  have h':v=.bl b:=h;subst h';cases r;exact⟨_,.bool b⟩
 |.int i,v,u,h,r=>by
  have h':v=.int i:=h;subst h';obtain⟨t,rfl⟩:=r;exact⟨_,.int i t⟩
 |.str x,v,u,h,r=>by
  have h':v=.str x:=h.1;subst h';obtain⟨t,rfl⟩:=r;exact⟨_,.str x t⟩
 |.list ds,v,u,h,r=>by
  obtain⟨a,xs,rfl,hq,hl⟩:=h;cases r;obtain⟨its,rv,⟨o,n,e,c,_,d⟩,hz⟩:=I.list hq;obtain⟨as,ra⟩:=aK.reads I hl rv;exact⟨_,.list e c d (by simpa using ra)⟩
 |.tuple ds,v,u,h,r=>by
  obtain⟨a,xs,rfl,hq,hl⟩:=h;cases r;obtain⟨its,rv,⟨o,e,c,n,d⟩,hz⟩:=I.tuple hq;obtain⟨as,ra⟩:=aK.reads I hl rv;exact⟨_,.tuple e c d (by simpa using ra)⟩
 |.dict _,_,_,h,_=>False.elim h
theorem aK.reads (I:Inv X pins σ H s):∀{ds:List PyData}{vs:List V} {us:List Value},aK X.K H ds vs->Vals vs us->∃as,ReadsAll s.heap us ds as
 |[],vs,us,h,r=>by
  have h':vs=[]:=h;subst h';cases r;exact⟨_,.nil⟩
 |d::ds,vs,us,h,r=>by
  obtain⟨v,rr,rfl,h1,h2⟩:=h;cases r with
  |cons r1 r2=>obtain⟨as,a1⟩:=Has.reads I h1 r1;obtain⟨bs,a2⟩:=aK.reads I h2 r2;exact⟨_,.cons a1 a2⟩
end
end
mutual
theorem Has.can {K:Frag}:∀{d:PyData}{v:V},Has K H d v->d.canLay0=true
 |.none,_,_=>rfl
 |.bool _,_,_=>rfl
 |.int _,_,_=>rfl
 |.str _,_,h=>h.2
 |.list ds,_,⟨_,_,_,_,h⟩=>by simp only[canLay0];exact aK.can h
 |.tuple ds,_,⟨_,_,_,_,h⟩=>by simp only[canLay0];exact aK.can h
theorem aK.can {K:Frag}:∀{ds:List PyData}{vs:List V},aK K H ds vs->PyData.canLayAll0 ds=true
 |[],_,_=>rfl
 |d::ds,_,⟨_,_,_,h1,h2⟩=>by simp only[PyData.canLayAll0,and_eq_true];exact⟨Has.can h1,aK.can h2⟩
end
def aav (K:Frag):R2:=λx y H Q=>∃d e,Has K H d x/\Has K H e y/\d.depth<=60/\Q (.bl (eqv d e)) H
def aaw (K:Frag):R2:=λx y H Q=>∃d e,Has K H d x/\Has K H e y/\d.depth<=60/\Q (.bl (!PyData.eqv d e)) H
section
theorem Eb (hu:X.A.units+64<cLine):cg X (compareOp .Eq) (aav X.K):=by intro pins s σ H x y v u Q I rx ry h;obtain⟨d,e,hd,he,hk,q⟩:=h;obtain⟨as,ra⟩:=hd.reads I rx;obtain⟨bs,rb⟩:=he.reads I ry;exact SeqAt.compareEq_reads ra rb hd.can he.can (by have:=Nat.min_le_left d.depth e.depth;omega) ⟨.bl _,H,I,rfl,q⟩
theorem Ny (hu:X.A.units+64<cLine):cg X (compareOp .NotEq) (aaw X.K):=by intro pins s σ H x y v u Q I rx ry h;obtain⟨d,e,hd,he,hk,q⟩:=h;obtain⟨as,ra⟩:=hd.reads I rx;obtain⟨bs,rb⟩:=he.reads I ry;exact SeqAt.compareNe_reads ra rb hd.can he.can (by have:=Nat.min_le_left d.depth e.depth;omega) ⟨.bl _,H,I,rfl,q⟩
end
end L2
namespace L2
open PyProof.Rows
noncomputable def vR (i:Nat):TE:=λσ H Q=>match σ[i]? with
 |some (some v)=>Q v H
 |_=>False
noncomputable def dG (sc:Scope)(x:Str):Bool:=match sc.names.lookup x with
 |some .local=>true
 |some .cell=>true
 |some .free=>true
 |_=>false
noncomputable def R7 (sc:Scope)(x:Str):Bool:=match sc.names.lookup x with
 |some .local=>true
 |some .cell=>true
 |_=>false
noncomputable def Nz (sc:Scope)(x:Str):Bool:=match sc.names.lookup x with
 |some .globalImplicit=>true
 |_=>false
noncomputable def zE (sc:Scope)(x:Str):Bool:=match sc.names.lookup x with
 |some .local=>true
 |some .free=>true
 |_=>false
noncomputable def plain (x:Str):Bool:=!(x==("__debug__":Str)) && !(x==("__classdict__":Str))
theorem aax (h:dG sc x=true):G7 sc x:=by
 unfold dG at h;split at h
 .rename_i e;exact .inl e
 .rename_i e;exact .inr (.inl e)
 .rename_i e;exact .inr (.inr e)
 .cases h
theorem lo (h:R7 sc x=true):Loc sc x:=by
 unfold R7 at h;split at h
 .rename_i e;exact .inl e
 .rename_i e;exact .inr e
 .cases h
theorem XH (h:zE sc x=true):G7 (relabel sc env) x:=by
 unfold zE at h;split at h
 .rename_i e;exact .inl (lookup_relabel_local e)
 .rename_i e;exact .inr (oE e)
 .cases h
noncomputable def wU (sc:Scope)(x:Str):Bool:=match sc.names.lookup x with
 |some .local=>true
 |_=>false
theorem loC (h:wU sc x=true):(relabel sc env).names.lookup x=some .local:=by
 unfold wU at h;split at h
 .rename_i e;exact lookup_relabel_local e
 .cases h
theorem uD {env:Env}{x:Str}:∀{names:List (Str×NameKind)},names.lookup x=some .globalImplicit->
  (names.map λ(n,k)=>if(k==NameKind.free && env.scope.kind==.function && env.kindOf n==some .cell) then(n,NameKind.cell) else(n,k)).lookup x=some .globalImplicit
 |[],h=>by simp at h
 |(n,j)::r,h=>by
  have ih:=@uD env x r;show List.lookup x ((if(j==NameKind.free && env.scope.kind==.function && env.kindOf n==some .cell)=true then(n,NameKind.cell) else(n,j))::_)=_;by_cases hc:(j==NameKind.free && env.scope.kind==.function && env.kindOf n==some .cell)=true
  .rw[if_pos hc,lookup_cons];rw[lookup_cons] at h;cases hx:x==n with
   |true=>
    rw[hx] at h;simp only[and_eq_true] at hc;have ej:j=.free:=eq_of_beq hc.1.1;rw[ej] at h;cases h
   |false=>rw[hx] at h;exact ih h
  .rw[if_neg hc,lookup_cons];rw[lookup_cons] at h;cases hx:x==n with
   |true=>rw[hx] at h;exact h
   |false=>rw[hx] at h;exact ih h
section
theorem gl (h:Nz sc x=true)(hs:X.env.scope=sc:=by rfl):Gl X x:=by
 unfold Nz at h;split at h
 .rename_i e;show X.env.scope.names.lookup x=_;rw[hs];exact e
 .cases h
theorem VL (h:PE X e (Ri i)):PE X e (vR i):=h.imp λσ H Q h=>by
 unfold vR at h;split at h
 .rename_i v e;exact⟨v,e,h⟩
 .exact h.elim
theorem rR (h:plain x=true):(x==("__debug__":Str))=false/\(x==("__classdict__":Str))=false:=by unfold plain at h;simpa using h
theorem pV (vt:N.all (λx=>dG sc x && plain x)=true)(i:Nat)(hN:X.N[i]? =some x:=by rfl)(hXN:X.N=N:=by rfl)(hXs:X.env.scope=sc:=by rfl):PE X (.Name x pos) (vR i):=by have h:=all_eq_true.mp vt x (by rw[<-hXN];exact mem_of_getElem? hN);rw[and_eq_true] at h;exact VL (Dh hN (by rw[hXs];exact aax h.1) (rR h.2).1 (rR h.2).2)
end
section
variable {pos:Pos}
theorem pD (vt:N'.all (λx=>zE scope x && plain x)=true)(i:Nat)(hN:N'[i]? =some x:=by rfl):PE (cL X scope N' cl C s₀ H₀ ex) (.Name x pos) (vR i):=by have h:=all_eq_true.mp vt x (mem_of_getElem? hN);rw[and_eq_true] at h;exact VL (Dh hN (XH h.1) (rR h.2).1 (rR h.2).2)
theorem uE (hN:N'.Nodup)(h:wU scope x=true)(hi:N'[i]? =some x:=by rfl):PG (cL X scope N' cl C s₀ H₀ ex) (.Name x pos) (cN i):=
 jJ hN hi (.inl (loC h)) (.inr (loC h))
theorem glC (h:Nz scope x=true):Gl (cL X scope N' cl C s₀ H₀ ex) x:=by
 unfold Nz at h;split at h
 .rename_i e;show(relabel scope X.env).names.lookup x=_;exact uD e
 .cases h
end
section
theorem cg.imp (h:cg X f r)(hi:∀x y H Q,r' x y H Q->r x y H Q):cg X f r':=λpins s σ H x y v u Q I rx ry q=>h pins s σ H x y v u Q I rx ry (hi x y H Q q)
theorem n8.imp (h:n8 X r)(hi:∀x y H Q,r' x y H Q->r x y H Q):n8 X r':=λa b pins s σ H x y v u Q I rx ry q=>h a b pins s σ H x y v u Q I rx ry (hi x y H Q q)
theorem Ah.imp (h:Ah X f r)(hi:∀x H Q,r' x H Q->r x H Q):Ah X f r':=λpins s σ H x v Q I rx q=>h pins s σ H x v Q I rx (hi x H Q q)
theorem c7.imp (h:c7 X f r)(hi:∀xs H Q,r' xs H Q->r xs H Q):c7 X f r':=λpins s σ H xs us Q I rx q=>h pins s σ H xs us Q I rx (hi xs H Q q)
theorem uc.imp (h:uc X op r)(hi:∀x y H Q,r' x y H Q->r x y H Q):uc X op r':=λpins s σ H x y v u Q I rx ry q=>h pins s σ H x y v u Q I rx ry (hi x y H Q q)
theorem tZ.imp (h:tZ X r)(hi:∀x y z H Q,r' x y z H Q->r x y z H Q):tZ X r':=λpins s σ H x y z v u w Q I rx ry rz q=>h pins s σ H x y z v u w Q I rx ry rz (hi x y z H Q q)
end
noncomputable def rM (g:Int->Int->V):R2:=λx y H Q=>match x,y with
 |.int i,.int j=>Q (g i j) H
 |_,_=>False
noncomputable def wG (C:Int->Int->Prop)(g:Int->Int->V):R2:=λx y H Q=>match x,y with
 |.int i,.int j=>C i j/\Q (g i j) H
 |_,_=>False
noncomputable def rT:V->Bool
 |.non=>true
 |_=>false
theorem Ec (x:V):decide (x=.non)=rT x:=by cases x<;>simp[rT]
section
theorem Hu (h:cg X f (xU g)):cg X f (rM g):=h.imp λx y H Q q=>by cases x<;>first|exact False.elim q|(cases y<;>first|exact False.elim q|exact⟨_,_,rfl,rfl,q⟩)
theorem J9 (h:cg X f (rI C g)):cg X f (wG C g):=h.imp λx y H Q q=>by cases x<;>first|exact False.elim q|(cases y<;>first|exact False.elim q|exact⟨_,_,rfl,rfl,q.1,q.2⟩)
theorem Ed:cg X (binaryOp .Add) (rM λi j=>.int (i+j)):=Hu Z2
theorem R8:cg X (binaryOp .Sub) (rM λi j=>.int (i - j)):=Hu Z4
theorem aay:cg X (binaryOp .Mult) (wG Cm λi j=>.int (i*j)):=J9 XF
theorem oDiv:cg X (binaryOp .FloorDiv) (wG Ck λi j=>.int (i/j)):=J9 R6
theorem oMod:cg X (binaryOp .Mod) (wG (λ_ j=>0<j) λi j=>.int (i % j)):=J9 Z5
theorem agn:cg X (binaryOp .Pow) (wG JQ λi j=>.int (i^j.toNat)):=J9 Z6
theorem ago:cg X (binaryOp .BitXor) (rM λi j=>.int (Builtin.bitXor i j)):=Hu Z7
theorem oLt:cg X (compareOp .Lt) (rM λi j=>.bl (decide (i<j))):=Hu adH
theorem oLe:cg X (compareOp .LtE) (rM λi j=>.bl (decide (i<=j))):=Hu adI
theorem Hv:cg X (compareOp .Gt) (rM λi j=>.bl (decide (j<i))):=Hu adJ
theorem oNe:cg X (compareOp .NotEq) (rM λi j=>.bl (!decide (i=j))):=Cg.imp λx y H Q q=>by cases x<;>first|exact False.elim q|(cases y<;>first|exact False.elim q|(refine⟨rfl,?_⟩;rw[zq,beq_eq_decide_eq];exact q))
def aaz:R2:=λx y H Q=>match y with
 |.non=>Q (.bl (rT x)) H
 |_=>False
def VN:R2:=λx y H Q=>match y with
 |.non=>Q (.bl (!rT x)) H
 |_=>False
theorem agp:cg X (compareOp .Is) aaz:=Z9.imp λx y H Q q=>by cases y<;>first|exact False.elim q|(refine⟨rfl,?_⟩;rw[Ec];exact q)
theorem adN:cg X (compareOp .IsNot) VN:=Xr.imp λx y H Q q=>by cases y<;>first|exact False.elim q|(refine⟨rfl,?_⟩;rw[Ec];exact q)
noncomputable def rUM (g:Int->V):V->Hp->VK->Prop:=λx H Q=>match x with
 |.int i=>Q (g i) H
 |_=>False
theorem agq:Ah X (unaryOp .USub) (rUM λi=>.int (-i)):=xV.imp λx H Q q=>by cases x<;>first|exact False.elim q|exact⟨_,rfl,q⟩
end
noncomputable def iY (t:TE):TT:=λσ H Q=>t σ H λx H'=>match x with
 |.bl k=>Q k H'
 |_=>False
noncomputable def adO (ta tb:TE):TE:=λσ H Q=>ta σ H λx H1=>match x with
 |.bl c=>if c=true then tb σ H1 Q else Q (.bl false) H1
 |_=>False
noncomputable def agr (ta tb:TE):TE:=λσ H Q=>ta σ H λx H1=>match x with
 |.bl c=>if c=true then Q (.bl true) H1 else tb σ H1 Q
 |_=>False
noncomputable def adP (ta:TE):TE:=λσ H Q=>ta σ H λx H1=>match x with
 |.bl c=>Q (.bl (!c)) H1
 |_=>False
noncomputable def Sd (r r':R2)(ta tb tc:TE):TE:=λσ H Q=>ta σ H λx H1=>tb σ H1 λy H2=>r x y H2 λz H3=>match z with
 |.bl k=>if k=true then tc σ H3 λw' H4=>r' y w' H4 Q else Q (.bl false) H3
 |_=>False
section
variable {rest:List Expr}
theorem fH (ho:cg X (compareOp op) r)(ha:PE X a ta)(hb:PE X b tb)(hm:behindInMarks op b=false:=by first|exact xW _|rfl):PT X (.Compare a [op] [b] pos) (iY (dU r ta tb)):=by
 intro pins s σ H Q I h;refine wpAny_isTrue_Compare1 (aO (ha pins s σ H _ I h) λv s1 ⟨x,H1,I1,r1,q1⟩=>aO (hb pins s1 σ H1 _ I1 q1) λu s2 ⟨y,H2,I2,r2,q2⟩=>
  aO (ho pins s2 σ H2 x y v u _ I2 r1 r2 q2) λc s3 ⟨z,H3,I3,r3,q3⟩=>?_) hm
 cases z<;>first|exact False.elim q3|(cases r3;exact wpAny_truthy_bool ⟨H3,I3,q3⟩)
theorem peC (ho:cg X (compareOp op) r)(ha:PE X a ta)(hb:PE X b tb)(hm:behindInMarks op b=false:=by first|exact xW _|rfl):PE X (.Compare a [op] [b] pos) (dU r ta tb):=Xu ho ha hb hm
theorem NK (h:PE X e t)(he:∀whole,isTrue e X.env whole=(do let v<-whole;standAt e.pos;holding [v] (truthy v)):=by intro _;rfl):PT X e (iY t):=by intro pins s σ H Q I hw;refine isTrue_plain (aO (h pins s σ H _ I hw) λv s1 ⟨x,H1,I1,r1,q1⟩=>?_) (he _);cases x<;>first|exact False.elim q1|(cases r1;exact wpAny_truthy_bool ⟨H1,I1,q1⟩)
theorem adQ (ha:PE X a ta)(hb:PE X (.BoolOp .And (b::rest) pos) tb):PE X (.BoolOp .And (a::b::rest) pos) (adO ta tb):=by
 intro pins s σ H Q I h;refine BoolOp_and (aO (ha pins s σ H _ I h) λv s1 ⟨x,H1,I1,r1,q1⟩=>?_);cases x with
 |bl c=>
  cases r1;refine wpAny_truthy_bool ?_;cases c with
  |true=>exact hb pins s1 σ H1 Q I1 q1
  |false=>exact⟨.bl false,H1,I1,rfl,q1⟩
 |_=>exact False.elim q1
theorem ags (ha:PE X a ta)(hb:PE X (.BoolOp .Or (b::rest) pos) tb):PE X (.BoolOp .Or (a::b::rest) pos) (agr ta tb):=by
 intro pins s σ H Q I h;refine BoolOp_or (aO (ha pins s σ H _ I h) λv s1 ⟨x,H1,I1,r1,q1⟩=>?_);cases x with
 |bl c=>
  cases r1;refine wpAny_truthy_bool ?_;cases c with
  |false=>exact hb pins s1 σ H1 Q I1 q1
  |true=>exact⟨.bl true,H1,I1,rfl,q1⟩
 |_=>exact False.elim q1
theorem adR (ha:PE X a ta):PE X (.UnaryOp .Not a pos) (adP ta):=by
 intro pins s σ H Q I h;refine UnaryOp_ (aO (ha pins s σ H _ I h) λv s1 ⟨x,H1,I1,r1,q1⟩=>?_);cases x with
 |bl c=>cases r1;exact not_of (wpAny_truthy_bool ⟨.bl (!c),H1,I1,rfl,q1⟩)
 |_=>exact False.elim q1
theorem agt (ho:cg X (compareOp op) r)(ho':cg X (compareOp op') r')(ha:PE X a ta)(hb:PE X b tb)(hc:PE X c tc)
  (hm:lastMarks [op,op'] [b,c]=false:=by with_unfolding_all rfl):PE X (.Compare a [op,op'] [b,c] pos) (Sd r r' ta tb tc):=by
 intro pins s σ H Q I h;refine Compare_chain (aO (ha pins s σ H _ I h) λv s1 ⟨x,H1,I1,r1,q1⟩=>chain_link (aO (hb pins s1 σ H1 _ I1 q1) λu s2 ⟨y,H2,I2,r2,q2⟩=>
  aO (ho pins s2 σ H2 x y v u _ I2 r1 r2 q2) λd s3 ⟨z,H3,I3,r3,q3⟩=>?_)) hm
 cases z with
 |bl k=>
  cases r3;refine wpAny_truthy_bool ?_;cases k with
  |false=>exact ite_ff ⟨.bl false,H3,I3,rfl,q3⟩
  |true=>exact ite_tt (chain_last (aO (hc pins s3 σ H3 _ I3 q3) λw' s4 ⟨z',H4,I4,r4,q4⟩=>ho' pins s4 σ H4 y z' u w' Q I4 r2 r4 q4))
 |_=>exact False.elim q3
end
def lu (K:Frag):R2:=λx y H Q=>match x,y with
 |.ref p,.int i=>∃xs v,aU K H p xs/\cR xs i=some v/\Q v H
 |_,_=>False
def VP (K:Frag):R2:=λx y H Q=>match x,y with
 |.ref p,.int i=>∃xs v,cZ K H p xs/\cR xs i=some v/\Q v H
 |_,_=>False
section
variable {pos apos cpos:Pos}
theorem fJ:n8 X (lu X.K):=Hl.imp λx y H Q q=>by cases x<;>first|exact False.elim q|(cases y<;>first|exact False.elim q|(obtain⟨xs,v,h1,h2,h3⟩:=q;exact⟨_,xs,_,v,rfl,rfl,h1,h2,h3⟩))
theorem yg:n8 X (VP X.K):=Nb.imp λx y H Q q=>by cases x<;>first|exact False.elim q|(cases y<;>first|exact False.elim q|(obtain⟨xs,v,h1,h2,h3⟩:=q;exact⟨_,xs,_,v,rfl,rfl,h1,h2,h3⟩))
theorem XJ (h:n=m):nq n i=nq m i:=by rw[h]
theorem cM (hr:n8 X r)(ha:PE X a ta)(hb:PE X b tb)(hs:vG b:=by intro _ _;rfl):PE X (.Subscript a b pos) (dU r ta tb):=J3 hr ha hb hs
def Ka:zm:=λo i v H Q=>match o,i with
 |.ref p,.int k=>∃xs j,H p=some (.lst xs)/\nq xs.length k=some j/\Q (upd H p (.lst (xs.set j v)))
 |_,_=>False
theorem Sg:tZ X Ka:=set_list.imp λx y z H Q q=>by cases x<;>first|exact False.elim q|(cases y<;>first|exact False.elim q|(obtain⟨xs,j,h1,h2,h3⟩:=q;exact⟨_,xs,_,j,rfl,rfl,h1,h2,h3⟩))
def yh (K:Frag):List V->Hp->VK->Prop:=λxs H Q=>match xs with
 |[.ref p]=>∃ys,(aU K H p ys\/cZ K H p ys)/\Q (.int ys.length) H
 |_=>False
theorem Kc:c7 X (.builtin "len") (yh X.K):=DK.imp λxs H Q q=>by
 match xs,q with
 |[.ref p],⟨ys,h1,h2⟩=>exact⟨p,ys,rfl,h1,h2⟩
noncomputable def VR:List V->Hp->VK->Prop:=λxs H Q=>match xs with
 |[.int i]=>Q (.int (if i<0 then -i else i)) H
 |_=>False
theorem cAbs:c7 X (.builtin "abs") VR:=Rw.imp λxs H Q q=>by
 match xs,q with
 |[.int i],q=>exact⟨i,rfl,q⟩
def NP (K:Frag):List V->Hp->VK->Prop:=λxs H Q=>match xs with
 |[.ref p]=>∃ys,(aU K H p ys\/cZ K H p ys)/\∀l,H l=none->Q (.ref l) (upd H l (.lst ys))
 |_=>False
theorem adS:c7 X (.type "list") (NP X.K):=DN.imp λxs H Q q=>by
 match xs,q with
 |[.ref p],⟨ys,h1,h2⟩=>exact⟨p,ys,rfl,h1,h2⟩
def V0 (K:Frag):List V->Hp->VK->Prop:=λxs H Q=>match xs with
 |[.ref p]=>∃ns:List Int,aU K H p (ns.map V.int)/\Q (.int ns.sum) H
 |_=>False
theorem agu (hc:X.calm=true):c7 X (.builtin "sum") (V0 X.K):=(Nv hc).imp λxs H Q q=>by
 match xs,q with
 |[.ref p],⟨ys,h1,h2⟩=>exact⟨p,ys,rfl,h1,h2⟩
def V2 (K:Frag):List V->Hp->VK->Prop:=λxs H Q=>match xs with
 |[.ref p]=>∃ns:List Int,aU K H p (ns.map V.int)/\0<ns.length/\∀M,M∈ns->(∀a,a∈ns->M<=a)->Q (.int M) H
 |_=>False
theorem agv (hc:X.calm=true):c7 X (.builtin "min") (V2 X.K):=(Nx hc).imp λxs H Q q=>by
 match xs,q with
 |[.ref p],⟨ys,h1,h2,h3⟩=>exact⟨p,ys,rfl,h1,h2,h3⟩
def yj:V->List V->Hp->VK->Prop:=λx vs H Q=>match x,vs with
 |.ref l,[y]=>∃ys,H l=some (.lst ys)/\ys.length<sizeLine/\Q .non (upd H l (.lst (ys++[y])))
 |_,_=>False
theorem agw:Aq X "list.append" yj:=λpins s σ H x xs v us Q I rx rv q=>ur pins s σ H x xs v us Q I rx rv (by
 match x,xs,q with
 |.ref l,[y],⟨ys,h1,h2,h3⟩=>exact⟨l,ys,y,rfl,rfl,h1,h2,h3⟩)
theorem Cp (ho:PE X o to)(ha:PA X [e] t)
  (hbase:attributeBase o "append" X.env (eval o X.env)=eval o X.env:=by rfl)
  (hfew:((backTo cpos (starEach [e] X.env)).all (λx=>!x.1) && (backToKw cpos (keywordEach [] X.env)).all (λx=>x.1.isSome)
   && decide (([e]:List Expr).length+([]:List Keyword).length+(if([]:List Keyword).isEmpty then 0 else 1)<30))=true:=by rfl)
  (hline:(apos.endLine==cpos.line)=true:=by rfl)(hs:starEach [e] X.env=(false,eval e X.env)::starEach [] X.env:=by rfl)(hplain:(backTo cpos (starEach [] X.env)).any (·.1)=false:=by rfl):
  PE X (.Call (.Attribute o "append" apos) [e] [] cpos) (pB X.K "list" yj to t):=Cj PySem.F.plainAttrs_list PySem.F.slot_list_append PySem.F.type_list_append agw ho ha hbase hfew hline hs hplain
structure lE (P:Program)(w:World)(K:Frag)(mg:Str->Option Value)(base:Heap)(k:Nat)(x:Str)(ps:List Str)(sp:Sp):Prop where
 ex:∃f fd,aQ P w K mg base cV k f fd ps sp/\mg x=some (.ref f)/\keepIn K (.ref f)=true/\Binds K fd ps []
theorem fV (C:lE X.prog X.w X.K X.mg X.base k x ps sp)(hr:cI k X.A)(hg:Gl X x)(ha:PA X (e::es) t)
  (hdb:(x==("__debug__":Str))=false:=by decide)(he:starEach (e::es) X.env=(false,eval e X.env)::starEach es X.env:=by rfl)(hpl:(backTo pos (starEach es X.env)).any (·.1)=false:=by rfl):
  PE X (.Call (.Name x p) (e::es) [] pos) (jm sp [] E0 t):=by
 obtain⟨f,fd,F,hm,hk,hb⟩:=C.ex;exact Xw F hr hg hm hk hb .nil mC ha hdb he hpl
noncomputable def adT:o9:=λvs σ H Q=>match vs with
 |[]=>Q σ H
 |_=>False
noncomputable def aaA (t:TG)(u:o9):o9:=λvs σ H Q=>match vs with
 |v::r=>t v σ H λσ' H'=>u r σ' H' Q
 |[]=>False
def adU (K:Frag)(n:Nat)(t:o9):TG:=λv σ H Q=>match v with
 |.ref a=>∃xs,cZ K H a xs/\xs.length=n/\t xs σ H Q
 |_=>False
theorem NQ:jP X [] adT:=by
 intro pins s σ H vs us Q I r h;cases vs with
 |nil=>cases r;exact assignInOrder_nil ⟨σ,H,I,h⟩
 |cons _ _=>exact False.elim h
theorem zF (h1:PG X e t)(h2:jP X es u)
  (hs:(assignEach (e::es) X.env).map (·.2)=assign e X.env::(assignEach es X.env).map (·.2):=by rfl):jP X (e::es) (aaA t u):=by
 intro pins s σ H vs us Q I r h;cases vs with
 |nil=>exact False.elim h
 |cons v vr=>
  cases r with
  |cons r rr=>rw[hs];refine assignInOrder_cons (aO (h1 pins s σ H _ _ _ I r h) λ_ s1 ⟨σ1,H1,I1,q1⟩=>?_);exact h2 pins s1 σ1 H1 _ _ Q I1 rr q1
theorem V3 (hc:X.calm=true)(h:jP X es t)
  (hn:(assignEach es X.env).length=n:=by rfl)(hst:(assignEach es X.env).findIdx? (·.1)=none:=by rfl):PG X (.Tuple es k pos) (adU X.K n t):=by
 intro pins s σ H v u Q I r hw;cases v with
 |ref a=>
  obtain⟨xs,hq,hl,hw⟩:=hw;exact xT hc h hn hst pins s σ H (.ref a) u Q I r ⟨a,xs,rfl,hq,hl,hw⟩
 |_=>exact False.elim hw
noncomputable def Cq (i:Nat)(te:TE)(ti:Dl):TS:=λD σ H=>match σ[i]? with
 |some (some x)=>te σ H λy H1=>ti x y H1 λz H2=>D.nx (σ.set i (some z)) H2
 |_=>False
theorem adV (hN:X.N.Nodup)(hi:X.N[i]? =some x)(hx:Loc X.env.scope x)(he:PE X e te)(ho:uc X op ti)(hf:X.fn x=true\/X.env.scope.names.lookup x=some .local:=by first|exact .inl rfl|exact .inr rfl|assumption):
  PS X (.AugAssign (.Name x pos') op e pos) (Cq i te ti):=λpins s σ H D I h=>ZQ hN hi hx he ho hf pins s σ H D I (by
 unfold Cq at h;split at h
 .rename_i v e;exact⟨v,e,h⟩
 .exact h.elim)
theorem aaB:uc X .Add (rM λi j=>.int (i+j)):=ZS.imp λx y H Q q=>by cases x<;>first|exact False.elim q|(cases y<;>first|exact False.elim q|exact⟨_,_,rfl,rfl,q⟩)
theorem agx:uc X .Sub (rM λi j=>.int (i - j)):=ZV.imp λx y H Q q=>by cases x<;>first|exact False.elim q|(cases y<;>first|exact False.elim q|exact⟨_,_,rfl,rfl,q⟩)
end
def Cr (J:It)(g:TG)(tb:TS)(D:Ends)(σ:St)(H1:Hp):Prop:=∃W:Nat->Nat->St->Hp->Prop,(∃m,W 0 m σ H1)/\∀i m σ H,W i m σ H->
 (J.stop i H/\D.nx σ H)\/(J.go i H/\∃N:St->Hp->Prop,(∀σ' H',N σ' H'->∃m',m'<m/\W (i+1) m' σ' H')/\∀x H',J.wj i H x H'->g x σ H' λσ2 H2=>tb {D with nx:=N,ct:=N,bk:=D.nx} σ2 H2)
theorem zG:Dq wi g tb D σ H=wi σ H λJ H1=>Cr J g tb D σ H1:=rfl
theorem forL {K:Frag}(Pv:Nat->St->Hp->Prop)(h0:Pv 0 σ H)(hl:∀i σ H,i<=xs.length->Pv i σ H->aU K H a xs)
  (hs:∀i x σ H,xs[i]? =some x->Pv i σ H->g x σ H λσ2 H2=>tb {D with nx:=Pv (i+1),ct:=Pv (i+1),bk:=D.nx} σ2 H2)(hd:∀σ H,Pv xs.length σ H->D.nx σ H):Cr (ud K a) g tb D σ H:=Ro Pv h0 hl hs hd
theorem eZ.nil:eZ [] []:=eZ.refl
theorem eZ.skip (h:eZ a b):eZ (none::a) (x::b):=λj v e=>by
 cases j with
 |zero=>simp at e
 |succ j=>exact h j v (by simpa using e)
theorem eZ.keep (h:eZ a b):eZ (x::a) (x::b):=λj v e=>by
 cases j with
 |zero=>exact e
 |succ j=>exact h j v (by simpa using e)
noncomputable def hide (D:Addr)(H:Hp):Hp:=λb=>if b=D then none else H b
theorem NT:Same (hide D H) H:=λb o e=>by
 unfold hide at e;split at e
 .cases e
 .exact e
theorem hide_ne (h:b≠D):hide D H b=H b:=by unfold hide;rw[if_neg h]
theorem rW:hide D (upd H D o)=hide D H:=by funext b;unfold hide upd;split<;>rfl
theorem Ef (h:H D=none):hide D H=H:=by
 funext b;unfold hide;split
 .rename_i e;rw[e];exact h.symm
 .rfl
theorem aW (h:H p=none):Same H (upd H p o):=λb u e=>by rw[aB (bO e h)];exact e
theorem lcL {K:Frag}(hq:aU K H1 a xs)(hz:xs.length<sizeLine)(I:Nat->List V->Hp->Prop)(h0:I 0 [] H1)
  (hs:∀D i x ys H (N:VK),xs[i]? =some x->H D=some (.lst ys)->H1 D=none->ys.length=i->Same H1 (hide D H)->I i ys (hide D H)->
   (∀y H4,H4 D=some (.lst ys)->Same (hide D H) (hide D H4)->I (i+1) (ys++[y]) (hide D H4)->N y H4)->g x (bH cap σ) H λσ2 H2=>eZ (bH cap σ) σ2/\te σ2 H2 N)
  (hQ:∀D ys H,H D=some (.lst ys)->H1 D=none->ys.length=xs.length->Same H1 (hide D H)->I xs.length ys (hide D H)->Q (.ref D) H):DW (ud K a) cap g VJ te σ H1 Q:=by
 intro D hD;refine⟨λi m H=>m=xs.length - i/\i<=xs.length/\∃ys,H D=some (.lst ys)/\ys.length=i/\Same H1 (hide D H)/\I i ys (hide D H),⟨_,rfl,zero_le _,[],aA,rfl,by rw[rW,Ef hD];exact Same.refl _,by rw[rW,Ef hD];exact h0⟩,?_⟩;rintro i m H ⟨rfl,hi,ys,Eh,hlen,hsame,hI⟩;have uF:=(NT).seq (hsame.seq hq);by_cases hlt:i<xs.length
 .refine .inr ⟨⟨xs,xs[i],uF,by simp[hlt]⟩,λx H' y=>?_⟩;obtain⟨e,y⟩:=y;subst e;refine hs D i x ys _ _ (y xs uF) Eh hD hlen hsame hI λv H4 q1 q2 q3=>?_;refine⟨ys,q1,by omega,xs.length - (i+1),by omega,rfl,hlt,ys++[v],aA,by simp[hlen],?_,?_⟩
  .rw[rW];exact hsame.trans q2
  .rw[rW];exact q3
 .have e:i=xs.length:=by omega
  subst e;exact .inl ⟨⟨xs,uF,le_refl _⟩,hQ D ys H Eh hD hlen hsame hI⟩
end L2
namespace L2
theorem PT.imp (h:PT X e t)(ht:∀σ H Q,t' σ H Q->t σ H Q):PT X e t':=λpins s σ H Q I q=>h pins s σ H Q I (ht σ H Q q)
theorem PW.imp (h:PW X e t)(ht:∀σ H Q,t' σ H Q->t σ H Q):PW X e t':=λwh pins s σ H Q I q=>h wh pins s σ H Q I (ht σ H Q q)
theorem PS.imp (h:PS X e t)(ht:∀D σ H,t' D σ H->t D σ H):PS X e t':=λpins s σ H Q I q=>h pins s σ H Q I (ht Q σ H q)
theorem eX.imp (h:eX X e t)(ht:∀D σ H,t' D σ H->t D σ H):eX X e t':=λpins s σ H Q I q=>h pins s σ H Q I (ht Q σ H q)
theorem PA.imp (h:PA X e t)(ht:∀σ H Q,t' σ H Q->t σ H Q):PA X e t':=λpos pins s σ H Q I q=>h pos pins s σ H Q I (ht σ H Q q)
theorem PG.imp (h:PG X e t)(ht:∀v σ H Q,t' v σ H Q->t v σ H Q):PG X e t':=λpins s σ H v u Q I r q=>h pins s σ H v u Q I r (ht v σ H Q q)
theorem PI.imp (h:PI X tg e t)(ht:∀σ H Q,t' σ H Q->t σ H Q):PI X tg e t':=λpins s σ H Q I q=>h pins s σ H Q I (ht σ H Q q)
theorem PO.imp (h:PO X e t)(ht:∀σ H Q,t' σ H Q->t σ H Q):PO X e t':=λpins s σ H Q I q=>h pins s σ H Q I (ht σ H Q q)
end L2
namespace VM
open L2
noncomputable abbrev St:=L2.St
inductive Tg where
 |fr|ow|io|rf|ce
 deriving DecidableEq
noncomputable def Tg.dat:Tg->Bool
 |.rf=>false
 |.ce=>false
 |_=>true
noncomputable def Tg.own:Tg->Bool
 |.fr=>false
 |.rf=>false
 |_=>true
noncomputable abbrev GS:=List (Option (Tg×PyData))
noncomputable abbrev VE:=GS->Option PyData
noncomputable def oH:HO->Bool
 |.tup _=>true
 |.dR _ (.tup _)=>true
 |_=>false
structure bh (F H F' H':Hp):Prop where
 hh:Same H H'
 ff:Same F F'
 fh:Same F' H'
 new:∀a o,F' a=some o->F a=some o\/H a=none\/oH o=true
 pl:∀a o u,F' a=some (.dR o (.lst u))->F a=some (.dR o (.lst u))
theorem bh.refl (h:Same F H):bh F H F H:=⟨Same.refl _,Same.refl _,h,λ_ _ e=>.inl e,λ_ _ _ e=>e⟩
theorem bh.trans (a:bh F H F1 H1)(b:bh F1 H1 F2 H2):bh F H F2 H2:=⟨a.hh.trans b.hh,a.ff.trans b.ff,b.fh,λp o e=>by
 rcases b.new p o e with h|h|h
 .exact a.new p o h
 .exact .inr (.inl (a.hh.free h))
 .exact .inr (.inr h),λp o u e=>a.pl p o u (b.pl p o u e)⟩
theorem bh.alloc (h:Same F H)(hp:H p=none):bh F H F (upd H p o):=
 ⟨aW hp,Same.refl _,h.trans (aW hp),λ_ _ e=>.inl e,λ_ _ _ e=>e⟩
theorem bh.yp (h:Same F H)(hp:H p=none)(ho:∀x u,o≠ .dR x u:=by intros;intro z;cases z):bh F H (upd F p o) (upd H p o):=by
 have hF:=h.free hp;refine⟨aW hp,aW hF,λb u e=>?_,λb u e=>?_,λb x u e=>?_⟩
 .by_cases hb:b=p
  .subst hb;rw[aA] at e ⊢;exact e
  .rw[aB hb] at e ⊢;exact h b u e
 .by_cases hb:b=p
  .subst hb;exact .inr (.inl hp)
  .rw[aB hb] at e;exact .inl e
 .by_cases hb:b=p
  .subst hb;rw[aA] at e;exact absurd (Option.some.inj e) (ho _ _)
  .rw[aB hb] at e;exact e
mutual
noncomputable def uG:PyData->Bool
 |.none=>true
 |.bool _=>true
 |.int _=>true
 |.str _=>true
 |.tuple ds=>rY ds
 |_=>false
noncomputable def rY:List PyData->Bool
 |[]=>true
 |d::ds=>uG d && rY ds
end
def wide (F H:Hp):Hp:=λa=>match H a with
 |some o=>if oH o=true then some o else F a
 |none=>none
theorem Ei (h:H a=some o)(hi:oH o=true):wide F H a=some o:=by unfold wide;rw[h];simp only[hi,if_true]
theorem uH (g:bh F H F1 H'):bh F H (wide F1 H') H':=by
 have key:∀a o,F1 a=some o->wide F1 H' a=some o:=λa o e=>by
  have e2:=g.fh a o e;unfold wide;rw[e2];by_cases hi:oH o=true
  .simp only[hi,if_true]
  .simp only[hi];exact e
 refine⟨g.hh,λa o e=>key a o (g.ff a o e),λa o e=>?_,λa o e=>?_,λa x u e=>?_⟩
 .unfold wide at e;cases q:H' a with
  |none=>rw[q] at e;cases e
  |some u=>
   rw[q] at e;by_cases hi:oH u=true
   .simp only[hi,if_true] at e;exact e
   .simp only[hi] at e;rw[<-q];exact g.fh a o e
 .unfold wide at e;cases q:H' a with
  |none=>rw[q] at e;cases e
  |some u=>
   rw[q] at e;by_cases hi:oH u=true
   .simp only[hi,if_true] at e;cases e;exact .inr (.inr hi)
   .simp only[hi] at e;exact g.new a o e
 .unfold wide at e;cases q:H' a with
  |none=>rw[q] at e;cases e
  |some w=>
   rw[q] at e;by_cases hi:oH w=true
   .simp only[hi,if_true] at e;cases e;cases hi
   .simp only[hi] at e;exact g.pl a x u e
theorem NZ (h:H a=some (.lst xs))(hf:F a=none):wide F H a=none:=by unfold wide;rw[h];simpa [oH] using hf
theorem Sh (h:cZ K H a xs):cZ K (wide F H) a xs:=by
 rcases h with(h|⟨o,h⟩)|h
 .exact .inl (.inl (Ei h rfl))
 .exact .inl (.inr ⟨o,Ei h rfl⟩)
 .exact .inr h
mutual
theorem rZ:∀{d:PyData}{v:V},uG d=true->Has K H d v->Has K (wide F H) d v
 |.none,_,_,h=>h
 |.bool _,_,_,h=>h
 |.int _,_,_,h=>h
 |.str _,_,_,h=>h
 |.list _,_,f,_=>by simp[uG] at f
 |.tuple ds,_,f,⟨a,xs,e,hq,hl⟩=>⟨a,xs,e,Sh hq,uI (by simpa [uG] using f) hl⟩
 |.dict _,_,f,_=>by simp[uG] at f
theorem uI:∀{ds:List PyData}{vs:List V},rY ds=true->aK K H ds vs->aK K (wide F H) ds vs
 |[],_,_,h=>h
 |d::ds,_,f,⟨v,r,h1,h2,h3⟩=>by simp only[rY,and_eq_true] at f;exact⟨v,r,h1,rZ f.1 h2,uI f.2 h3⟩
end
def d8 (K:Frag)(H₀ F H:Hp)(d:PyData)(v:V):Prop:=∃a ds xs,d=.list ds/\v=.ref a/\H a=some (.lst xs)/\F a=none/\H₀ a=none/\aK K F ds xs
def oJ (K:Frag)(F:Hp):PyData->V->Prop
 |.dict [(.int i,.none)],v=>∃a:Addr,i=(a:Int)/\v=.ref a
 |d,v=>Has K F d v
noncomputable def ItemsAre (K:Frag)(F:Hp):List PyData->List V->Prop
 |[],vs=>vs=[]
 |d::ds,vs=>∃v r,vs=v::r/\oJ K F d v/\ItemsAre K F ds r
noncomputable def KeysAre (K:Frag)(F:Hp):List (PyData×PyData)->List (L2.Key×V)->Prop
 |[],vs=>vs=[]
 |(k,d)::ds,vs=>∃k' v r,vs=(k',v)::r/\(match k with|.int i=>k'=Sum.inl i|.str x=>k'=Sum.inr x|_=>False)/\oJ K F d v/\KeysAre K F ds r
noncomputable def nO (K:Frag)(F:Hp):List (PyData×PyData)->List (Str×V)->Prop
 |[],vs=>vs=[]
 |(k,d)::ds,vs=>∃x v r,vs=(x,v)::r/\k=.str x/\oJ K F d v/\nO K F ds r
def mQ (K:Frag)(F:Hp):PyData->HO->Prop
 |.list ds,o=>∃xs,o=.lst xs/\ItemsAre K F ds xs
 |.dict ks,o=>∃kvs,o=.dK kvs/\KeysAre K F ks kvs
 |.tuple [.int C,.int dx,.dict fs],o=>∃C' bJ fvs,C=((C':Nat):Int)/\dx=((bJ:Nat):Int)/\o=.ins C' bJ fvs/\nO K F fs fvs
 |.tuple [.int C],o=>∃C',C=((C':Nat):Int)/\o=.own C'
 |_,_=>False
def uJ (K:Frag)(H₀ F H:Hp)(d:PyData)(v:V):Prop:=∃a c o,d=.tuple [.int ((a:Addr):Int),c]/\v=.ref a/\H a=some o/\F a=none/\H₀ a=none/\mQ K F c o
theorem oJ.same (e:Same F F')(h:oJ K F d v):oJ K F' d v:=by
 unfold oJ at h ⊢;split at h
 .exact h
 .exact Has.same e h
theorem ItemsAre.same (e:Same F F'):∀{ds:List PyData}{vs:List V},ItemsAre K F ds vs->ItemsAre K F' ds vs
 |[],_,h=>h
 |_::_,_,⟨v,r,h1,h2,h3⟩=>⟨v,r,h1,h2.same e,ItemsAre.same e h3⟩
theorem KeysAre.same (e:Same F F'):∀{ds:List (PyData×PyData)}{vs:List (L2.Key×V)},KeysAre K F ds vs->KeysAre K F' ds vs
 |[],_,h=>h
 |(_,_)::_,_,⟨k,v,r,h1,h2,h3,h4⟩=>⟨k,v,r,h1,h2,h3.same e,KeysAre.same e h4⟩
theorem nO.same (e:Same F F'):∀{ds:List (PyData×PyData)}{vs:List (Str×V)},nO K F ds vs->nO K F' ds vs
 |[],_,h=>h
 |(_,_)::_,_,⟨k,v,r,h1,h2,h3,h4⟩=>⟨k,v,r,h1,h2,h3.same e,nO.same e h4⟩
theorem mQ.same (e:Same F F')(h:mQ K F c o):mQ K F' c o:=by
 unfold mQ at h ⊢;split at h
 .obtain⟨xs,h1,h2⟩:=h;exact⟨xs,h1,h2.same e⟩
 .obtain⟨xs,h1,h2⟩:=h;exact⟨xs,h1,h2.same e⟩
 .obtain⟨C',bJ,fvs,h1,h2,h3,h4⟩:=h;exact⟨C',bJ,fvs,h1,h2,h3,h4.same e⟩
 .exact h
 .exact h.elim
theorem mQ.mut (h:mQ K F c o):oH o=false:=by
 unfold mQ at h;split at h
 .obtain⟨xs,rfl,_⟩:=h;rfl
 .obtain⟨xs,rfl,_⟩:=h;rfl
 .obtain⟨C',bJ,fvs,_,_,rfl,_⟩:=h;rfl
 .obtain⟨C',_,rfl⟩:=h;rfl
 .exact h.elim
def N5 (K:Frag)(aG:Nat->Option Addr)(H₀ F H:Hp)(i:Nat):Tg->PyData->V->Prop
 |.fr,d,v=>Has K F d v
 |.ow,d,v=>d8 K H₀ F H d v
 |.io,d,v=>d8 K H₀ F H d v/\∃a,v=.ref a/\aG i=some a
 |.rf,d,v=>∃a:Addr,d=.int (a:Int)/\v=.ref a
 |.ce,d,v=>uJ K H₀ F H d v
structure VI (K:Frag)(aG:Nat->Option Addr)(G H₀:Hp)(S:GS)(F:Hp)(σ:St)(H:Hp):Prop where
 len:S.length=σ.length
 same:Same H₀ H
 gf:Same G F
 new:∀a o,F a=some o->G a=some o\/H₀ a=none\/oH o=true
 sub:Same F H
 slot:∀(i:Nat) t d,S[i]? =some (some (t,d))->∃v,σ[i]? =some (some v)/\N5 K aG H₀ F H i t d v
 inj:∀(i j:Nat) t t' d d' v,S[i]? =some (some (t,d))->S[j]? =some (some (t',d'))->t.own=true->t'.own=true->σ[i]? =some (some v)->σ[j]? =some (some v)->i=j
 pl:∀a o u,F a=some (.dR o (.lst u))->G a=some (.dR o (.lst u))
section
variable {σ:St}
theorem d8.grow (g:bh F H F' H')(h:d8 K H₀ F H d v):d8 K H₀ F' H' d v:=by
 obtain⟨a,ds,xs,e1,e2,e3,e4,e5,e6⟩:=h;refine⟨a,ds,xs,e1,e2,g.hh _ _ e3,?_,e5,e6.same g.ff⟩;cases q:F' a with
 |none=>rfl
 |some o=>
  rcases g.new a o q with z|z|z
  .rw[e4] at z;cases z
  .rw[e3] at z;cases z
  .have:=g.fh a o q;rw[g.hh _ _ e3] at this;cases this;simp[oH] at z
theorem uJ.grow (g:bh F H F' H')(h:uJ K H₀ F H d v):uJ K H₀ F' H' d v:=by
 obtain⟨a,c,o,e1,e2,e3,e4,e5,e6⟩:=h;refine⟨a,c,o,e1,e2,g.hh _ _ e3,?_,e5,e6.same g.ff⟩;cases q:F' a with
 |none=>rfl
 |some o'=>
  rcases g.new a o' q with z|z|z
  .rw[e4] at z;cases z
  .rw[e3] at z;cases z
  .have:=g.fh a o' q;rw[g.hh _ _ e3] at this;cases this;rw[e6.mut] at z;cases z
theorem VI.grow (I:VI K aG G H₀ S F σ H)(g:bh F H F' H'):VI K aG G H₀ S F' σ H' where
 len:=I.len
 same:=I.same.trans g.hh
 gf:=I.gf.trans g.ff
 new:=λa o e=>by
  rcases g.new a o e with z|z|z
  .exact I.new a o z
  .exact .inr (.inl (I.same.free z))
  .exact .inr (.inr z)
 sub:=g.fh
 slot:=λi t d e=>by
  obtain⟨v,e1,h⟩:=I.slot i t d e;refine⟨v,e1,?_⟩;cases t with
  |fr=>exact Has.same g.ff h
  |ow=>exact d8.grow g h
  |io=>exact⟨d8.grow g h.1,h.2⟩
  |rf=>exact h
  |ce=>exact uJ.grow g h
 inj:=I.inj
 pl:=λa o u e=>I.pl a o u (g.pl a o u e)
end
noncomputable abbrev Rel:=Frag->Hp->Hp->Hp->Hp->PyData->V->Prop
def RW:Rel:=λK _ _ _ H' d v=>Has K H' d v
def RS:Rel:=λK _ _ F' _ d v=>Has K F' d v
def RM:Rel:=λK _ _ F' H' d v=>Has K F' d v\/∃ds a xs,d=.list ds/\v=.ref a/\aU K H' a xs/\aK K F' ds xs
def RN:Rel:=λK _ H F' H' d v=>∃ds a xs,d=.list ds/\v=.ref a/\H a=none/\F' a=none/\H' a=some (.lst xs)/\aK K F' ds xs
noncomputable def tV (K:Frag)(R:Rel)(f:VE):TE:=λσ H Q=>∃aG G H₀ S F,VI K aG G H₀ S F σ H/\∃d,f S=some d/\∀v F' H',bh F H F' H'->R K F H F' H' d v->Q v H'
theorem tV.imp (hf:∀S d,f S=some d->f' S=some d)
  (hR:∀(F F' H':Hp) S d v,f S=some d->bh F H F' H'->R' K F H F' H' d v->∃F'',bh F H F'' H'/\R K F H F'' H' d v)(h:tV K R f σ H Q):tV K R' f' σ H Q:=by
 obtain⟨aG,G,H₀,S,F,I,d,e,q⟩:=h;refine⟨aG,G,H₀,S,F,I,d,hf S d e,λv F' H' g r=>?_⟩;obtain⟨F'',g2,r2⟩:=hR F F' H' S d v e g r;exact q v F'' H' g2 r2
section
variable {f:VE}
theorem sw (h:PE X e (tV X.K RS f)):PE X e (tV X.K RW f):=h.imp λ_ _ _ q=>tV.imp (λ_ _ h=>h) (λF F' H' S d v _ g r=>⟨F',g,Has.same g.fh r⟩) q
theorem sm (h:PE X e (tV X.K RS f)):PE X e (tV X.K RM f):=h.imp λ_ _ _ q=>tV.imp (λ_ _ h=>h) (λF F' H' S d v _ g r=>⟨F',g,.inl r⟩) q
theorem mw (h:PE X e (tV X.K RM f)):PE X e (tV X.K RW f):=h.imp λ_ _ _ q=>tV.imp (λ_ _ h=>h) (λF F' H' S d v _ g r=>⟨F',g,by
 rcases r with r|⟨ds,a,xs,rfl,rfl,h1,h2⟩
 .exact Has.same g.fh r
 .exact⟨a,xs,rfl,h1,h2.same g.fh⟩⟩) q
theorem nm (h:PE X e (tV X.K RN f)):PE X e (tV X.K RM f):=h.imp λ_ _ _ q=>tV.imp (λ_ _ h=>h) (λF F' H' S d v _ g r=>⟨F',g,by
 obtain⟨ds,a,xs,h1,h2,h3,h4,h5,h6⟩:=r;exact .inr ⟨ds,a,xs,h1,h2,aU.of h5,h6⟩⟩) q
theorem RN.dR (g:bh F H F' H')(r:RN K F H F' H' d v):∃F'',bh F H F'' H'/\RS K F H F'' H' d v:=by
 obtain⟨ds,a,xs,h1,h2,h3,h4,h5,h6⟩:=r;refine⟨upd F' a (.lst xs),⟨g.hh,g.ff.trans (aW h4),λb o e=>?_,λb o e=>?_,λb x u e=>?_⟩,?_⟩
 .by_cases hb:b=a
  .subst hb;rw[aA] at e;cases e;exact h5
  .rw[aB hb] at e;exact g.fh b o e
 .by_cases hb:b=a
  .subst hb;exact .inr (.inl h3)
  .rw[aB hb] at e;exact g.new b o e
 .by_cases hb:b=a
  .subst hb;rw[aA] at e;cases e
  .rw[aB hb] at e;exact g.pl b x u e
 .rw[h1];exact⟨a,xs,h2,aU.of aA,h6.same (aW h4)⟩
theorem ns (h:PE X e (tV X.K RN f)):PE X e (tV X.K RS f):=h.imp λ_ _ _ q=>tV.imp (λ_ _ h=>h) (λF F' H' S d v _ g r=>RN.dR g r) q
theorem nw (h:PE X e (tV X.K RN f)):PE X e (tV X.K RW f):=mw (nm h)
def wV (f:VE):VE:=λS=>match f S with
 |some d=>if uG d=true then some d else none
 |none=>none
theorem pF (h:wV f S=some d):f S=some d/\uG d=true:=by
 unfold wV at h;cases q:f S with
 |none=>rw[q] at h;cases h
 |some u=>
  rw[q] at h;simp only at h;split at h
  .cases h;exact⟨rfl,by assumption⟩
  .cases h
theorem ws (h:PE X e (tV X.K RW f)):PE X e (tV X.K RS (wV f)):=h.imp λ_ H Q q=>by refine tV.imp (λS d h=>(pF h).1) (λF F' H' S d v he g r=>⟨wide F' H',uH g,rZ (pF he).2 r⟩) q
end
noncomputable def vN (i:Nat):VE:=λS=>match S[i]? with
 |some (some (.fr,d))=>some d
 |some (some (.ow,d))=>some d
 |some (some (.io,d))=>some d
 |_=>none
noncomputable def vF (i:Nat):VE:=λS=>match S[i]? with
 |some (some (.fr,d))=>some d
 |_=>none
noncomputable def vC (d:PyData):VE:=λ_=>some d
section
variable {pos:Pos}
theorem dN (h:PE X e (vR i)):PE X e (tV X.K RM (vN i)):=h.imp λσ H Q q=>by
 obtain⟨aG,G,H₀,S,F,I,d,e,q⟩:=q;unfold vN at e;split at e
 .rename_i d' hS;cases e;obtain⟨v,hv,hs⟩:=I.slot i .fr d hS;unfold vR;rw[hv];exact q v F H (bh.refl I.sub) (.inl hs)
 .rename_i d' hS;cases e;obtain⟨v,hv,hs⟩:=I.slot i .ow d hS;unfold vR;rw[hv];obtain⟨a,ds,xs,e1,e2,e3,e4,e5,e6⟩:=hs;exact q v F H (bh.refl I.sub) (.inr ⟨ds,a,xs,e1,e2,aU.of e3,e6⟩)
 .rename_i d' hS;cases e;obtain⟨v,hv,hs⟩:=I.slot i .io d hS;unfold vR;rw[hv];obtain⟨a,ds,xs,e1,e2,e3,e4,e5,e6⟩:=hs.1;exact q v F H (bh.refl I.sub) (.inr ⟨ds,a,xs,e1,e2,aU.of e3,e6⟩)
 .cases e
theorem dF (h:PE X e (vR i)):PE X e (tV X.K RS (vF i)):=h.imp λσ H Q q=>by
 obtain⟨aG,G,H₀,S,F,I,d,e,q⟩:=q;unfold vF at e;split at e
 .rename_i d' hS;cases e;obtain⟨v,hv,hs⟩:=I.slot i .fr d hS;unfold vR;rw[hv];exact q v F H (bh.refl I.sub) hs
 .cases e
theorem dC (h:PE X e (tC v))(hv:∀H,Has X.K H d v):PE X e (tV X.K RS (vC d)):=h.imp λσ H Q q=>by obtain⟨aG,G,H₀,S,F,I,d',e,q⟩:=q;cases e;exact q v F H (bh.refl I.sub) (hv F)
theorem lQ {i j}:PE X (.Constant (.int i) j pos) (tV X.K RS (vC (.int i))):=dC aP λ_=>rfl
theorem adW {b j}:PE X (.Constant (.bool b) j pos) (tV X.K RS (vC (.bool b))):=dC rP λ_=>rfl
theorem adX {j}:PE X (.Constant .none j pos) (tV X.K RS (vC .none)):=dC qu λ_=>rfl
theorem Sq {x j}(hx:(PyData.str x).canLay0=true:=by rfl):PE X (.Constant (.str x) j pos) (tV X.K RS (vC (.str x))):=dC aY λ_=>⟨rfl,hx⟩
end
noncomputable def v2 (h:PyData->PyData->Option PyData)(fa fb:VE):VE:=λS=>match fa S with
 |some x=>match fb S with
  |some y=>h x y
  |none=>none
 |none=>none
theorem kI (e:v2 h fa fb S=some d):∃x y,fa S=some x/\fb S=some y/\h x y=some d:=by
 unfold v2 at e;cases q:fa S with
 |none=>rw[q] at e;cases e
 |some x=>
  rw[q] at e;cases q2:fb S with
  |none=>rw[q2] at e;cases e
  |some y=>rw[q2] at e;exact⟨x,y,rfl,rfl,e⟩
def fK (K:Frag)(h:PyData->PyData->Option PyData)(r:R2):Prop:=∀H x y dx dy d Q,h dx dy=some d->Has K H dx x->Has K H dy y->(∀v,(∀H',Has K H' d v)->Q v H)->r x y H Q
theorem rd2 (hd:fK K h r)(q:tV K RS (v2 h fa fb) σ H Q):dU r (tV K RW fa) (tV K RW fb) σ H Q:=by obtain⟨aG,G,H₀,S,F,I,d,e,q⟩:=q;obtain⟨x,y,ex,ey,e⟩:=kI e;refine⟨aG,G,H₀,S,F,I,x,ex,λv F1 H1 g1 hx=>⟨aG,G,H₀,S,F1,I.grow g1,y,ey,λu F2 H2 g2 hy=>?_⟩⟩;exact hd H2 v u x y d Q e (Has.same g2.hh hx) hy λw hw=>q w F2 H2 (g1.trans g2) (hw F2)
section
variable {r:R2}
theorem pG (ho:cg X (binaryOp op) r)(hd:fK X.K h r)(ha:PE X a (tV X.K RW fa))(hb:PE X b (tV X.K RW fb)):PE X (.BinOp a op b pos) (tV X.K RS (v2 h fa fb)):=
 (bU ho ha hb).imp λ_ _ _ q=>rd2 hd q
theorem wW (ho:cg X (compareOp op) r)(hd:fK X.K h r)(ha:PE X a (tV X.K RW fa))(hb:PE X b (tV X.K RW fb))(hm:behindInMarks op b=false:=by first|exact xW _|rfl):PE X (.Compare a [op] [b] pos) (tV X.K RS (v2 h fa fb)):=
 (peC ho ha hb hm).imp λ_ _ _ q=>rd2 hd q
end
noncomputable def tu (g:Int->Int->PyData):PyData->PyData->Option PyData
 |.int a,.int b=>some (g a b)
 |_,_=>none
noncomputable def su (C:Int->Int->Prop)[∀a b,Decidable (C a b)](g:Int->Int->PyData):PyData->PyData->Option PyData
 |.int a,.int b=>if C a b then some (g a b) else none
 |_,_=>none
def V4 (d:PyData)(v:V):Prop:=∀(K:Frag) (H:Hp),Has K H d v
theorem nP (hg:∀a b,V4 (g a b) (gv a b)):fK K (tu g) (rM gv):=by
 intro H x y dx dy d Q e hx hy q;cases dx<;>first|(simp[tu] at e;done)|skip
 cases dy<;>first|(simp[tu] at e;done)|skip
 simp only[tu,Option.some.injEq] at e;subst e;have ex:=hx;have ey:=hy;subst ex ey;exact q _ λH'=>hg _ _ K H'
theorem sy [∀a b,Decidable (C a b)](hc:∀a b,C a b->C' a b)(hg:∀a b,V4 (g a b) (gv a b)):fK K (su C g) (wG C' gv):=by
 intro H x y dx dy d Q e hx hy q;cases dx<;>first|(simp[su] at e;done)|skip
 cases dy<;>first|(simp[su] at e;done)|skip
 simp only[su] at e;split at e
 .rename_i hC;cases e;have ex:=hx;have ey:=hy;subst ex ey;exact⟨hc _ _ hC,q _ λH'=>hg _ _ K H'⟩
 .cases e
set_option exponentiation.threshold 9000
noncomputable def BMul (i j:Int):Prop:=i.natAbs<2^2000/\j.natAbs<2^2000
noncomputable instance (i j:Int):Decidable (BMul i j):=inferInstanceAs (Decidable (_/\_))
noncomputable def Kd (_ j:Int):Prop:=0<j/\j.natAbs<2^2000
noncomputable instance (i j:Int):Decidable (Kd i j):=inferInstanceAs (Decidable (_/\_))
noncomputable def BMod (_ j:Int):Prop:=0<j
noncomputable instance (i j:Int):Decidable (BMod i j):=inferInstanceAs (Decidable (_<_))
noncomputable def Ke (i j:Int):Prop:=0<=j/\j<=1000/\i.natAbs<2^60
noncomputable instance (i j:Int):Decidable (Ke i j):=inferInstanceAs (Decidable (_/\_/\_))
theorem BMul.ok (h:BMul i j):Cm i j:=by have e:(2:Nat)^2000<=2^8000:=Nat.pow_le_pow_right (by decide) (by decide);exact⟨lt_of_lt_of_le h.1 e,lt_of_lt_of_le h.2 e⟩
theorem Kd.ok (h:Kd i j):Ck i j:=⟨h.1,by
 have hz:j.natAbs≠0:=by have:=h.1;omega
 have:=(Nat.log2_lt hz).mpr h.2;omega⟩
theorem Ke.ok (h:Ke i j):JQ i j:=⟨h.1,by have:=h.2.1;omega,lt_trans h.2.2 (by decide)⟩
noncomputable abbrev oK:=tu λa b=>.int (a+b)
noncomputable abbrev aaD:=tu λa b=>.int (a - b)
noncomputable abbrev wX:=su BMul λa b=>.int (a*b)
noncomputable abbrev pX:=su Kd λa b=>.int (a/b)
noncomputable abbrev jh:=su BMod λa b=>.int (a % b)
noncomputable abbrev Kf:=su Ke λa b=>.int (a^b.toNat)
noncomputable abbrev V5:=tu λa b=>.bool (decide (a<b))
noncomputable abbrev Ax:=tu λa b=>.bool (decide (a<=b))
noncomputable abbrev gtD:=tu λa b=>.bool (decide (b<a))
noncomputable abbrev geD:=tu λa b=>.bool (decide (b<=a))
section
theorem hAdd:fK K oK (rM λi j=>.int (i+j)):=nP λ_ _ _ _=>rfl
theorem hSub:fK K aaD (rM λi j=>.int (i - j)):=nP λ_ _ _ _=>rfl
theorem hMul:fK K wX (wG Cm λi j=>.int (i*j)):=sy (λ_ _ h=>h.ok) λ_ _ _ _=>rfl
theorem hDiv:fK K pX (wG Ck λi j=>.int (i/j)):=sy (λ_ _ h=>h.ok) λ_ _ _ _=>rfl
theorem hMod:fK K jh (wG (λ_ j=>0<j) λi j=>.int (i % j)):=sy (λ_ _ h=>h) λ_ _ _ _=>rfl
theorem hPow:fK K Kf (wG JQ λi j=>.int (i^j.toNat)):=sy (λ_ _ h=>h.ok) λ_ _ _ _=>rfl
theorem hLt:fK K V5 (rM λi j=>.bl (decide (i<j))):=nP λ_ _ _ _=>rfl
theorem hLe:fK K Ax (rM λi j=>.bl (decide (i<=j))):=nP λ_ _ _ _=>rfl
theorem hGt:fK K gtD (rM λi j=>.bl (decide (j<i))):=nP λ_ _ _ _=>rfl
end
noncomputable def uK:PyData->PyData->Option PyData:=λx y=>if x.depth<=60 then some (.bool (eqv x y)) else none
noncomputable def wH:PyData->PyData->Option PyData:=λx y=>if x.depth<=60 then some (.bool (!PyData.eqv x y)) else none
theorem hEq:fK K uK (aav K):=by
 intro H x y dx dy d Q e hx hy q;unfold uK at e;split at e
 .cases e;exact⟨dx,dy,hx,hy,by assumption,q _ λ_=>rfl⟩
 .cases e
theorem hNe:fK K wH (aaw K):=by
 intro H x y dx dy d Q e hx hy q;unfold wH at e;split at e
 .cases e;exact⟨dx,dy,hx,hy,by assumption,q _ λ_=>rfl⟩
 .cases e
noncomputable def jc:PyData->Bool
 |.none=>true
 |_=>false
def isD:PyData->PyData->Option PyData:=λx y=>if jc y then some (.bool (jc x)) else none
def Kg:PyData->PyData->Option PyData:=λx y=>if jc y then some (.bool (!jc x)) else none
theorem Ay (h:Has K H d x):rT x=jc d:=by
 cases d with
 |none=>have e:=h;rw[e];rfl
 |bool b=>have e:=h;rw[e];rfl
 |int i=>have e:=h;rw[e];rfl
 |str y=>have e:=h.1;rw[e];rfl
 |list ds=>obtain⟨a,xs,rfl,_⟩:=h;rfl
 |tuple ds=>obtain⟨a,xs,rfl,_⟩:=h;rfl
 |dict k=>exact h.elim
theorem none_of (h:Has K H d x)(e:jc d=true):x=.non:=by cases d<;>first|exact h|(simp[jc] at e)
theorem hIs:fK K isD aaz:=by
 intro H x y dx dy d Q e hx hy q;unfold isD at e;split at e
 .rename_i hn;cases e;have:=none_of hy hn;subst this;show Q (.bl (rT x)) H;rw[Ay hx];exact q _ λ_=>rfl
 .cases e
theorem agy:fK K Kg VN:=by
 intro H x y dx dy d Q e hx hy q;unfold Kg at e;split at e
 .rename_i hn;cases e;have:=none_of hy hn;subst this;show Q (.bl (!rT x)) H;rw[Ay hx];exact q _ λ_=>rfl
 .cases e
noncomputable abbrev VT:=GS->Option Bool
noncomputable def fQ (K:Frag)(f:VT):TT:=λσ H Q=>∃aG G H₀ S F,VI K aG G H₀ S F σ H/\∃b,f S=some b/\∀F' H',bh F H F' H'->Q b H'
noncomputable def vB (f:VE):VT:=λS=>match f S with
 |some (.bool b)=>some b
 |_=>none
theorem XM (h:vB f S=some b):f S=some (.bool b):=by
 unfold vB at h;split at h
 .cases h;assumption
 .cases h
noncomputable def Kh (f g:VT):VT:=λS=>match f S with
 |some true=>g S
 |some false=>some false
 |none=>none
noncomputable def Kl (f g:VT):VT:=λS=>match f S with
 |some true=>some true
 |some false=>g S
 |none=>none
noncomputable def iR (f:VT):VT:=λS=>match f S with
 |some b=>some !b
 |none=>none
noncomputable def aaG:PyData->Option Bool
 |.none=>some false
 |.bool b=>some b
 |.int i=>some (i !=0)
 |.list ds=>some (!ds.isEmpty)
 |.tuple ds=>some (!ds.isEmpty)
 |_=>none
def Ss (f:VE):VT:=λS=>match f S with
 |some d=>aaG d
 |none=>none
theorem aK.isEmpty (h:aK K H ds vs):vs.isEmpty=ds.isEmpty:=by have:=h.length;cases ds<;>cases vs<;>simp_all
section
variable {rest:List Expr}
theorem Sv (ht:∀Q',tV K RS f σ H Q'->t σ H Q')(q:fQ K (vB f) σ H Q):iY t σ H Q:=by obtain⟨aG,G,H₀,S,F,I,b,e,q⟩:=q;refine ht _ ⟨aG,G,H₀,S,F,I,.bool b,XM e,λv F' H' g hv=>?_⟩;have ev:=hv;subst ev;exact q F' H' g
theorem pY (ho:cg X (compareOp op) r)(hd:fK X.K h r)(ha:PE X a (tV X.K RW fa))(hb:PE X b (tV X.K RW fb))(hm:behindInMarks op b=false:=by first|exact xW _|rfl):PT X (.Compare a [op] [b] pos) (fQ X.K (vB (v2 h fa fb))):=
 PT.imp (fH ho ha hb hm) λ_ _ _ q=>Sv (λ_ q=>rd2 hd q) q
theorem cVal (he:PE X e (tV X.K RS f))(hp:∀whole,isTrue e X.env whole=(do let v<-whole;standAt e.pos;holding [v] (truthy v)):=by intro _;rfl):PT X e (fQ X.K (vB f)):=
 PT.imp (NK he hp) λ_ _ _ q=>Sv (λ_ q=>q) q
theorem Km (ha:PT X a (fQ X.K ta)):PT X (.UnaryOp .Not a pos) (fQ X.K (iR ta)):=PT.imp (tY ha) λ_ _ _ q=>by
 obtain⟨aG,G,H₀,S,F,I,b,e,q⟩:=q;unfold iR at e;cases q2:ta S with
 |none=>rw[q2] at e;cases e
 |some c=>rw[q2] at e;cases e;exact⟨aG,G,H₀,S,F,I,c,q2,λF' H' g=>q F' H' g⟩
theorem adY (ha:PT X a (fQ X.K ta)):PW X (.BoolOp .And [a] pos) (fQ X.K ta):=vA ha
theorem aaH (ha:PT X a (fQ X.K ta)):PW X (.BoolOp .Or [a] pos) (fQ X.K ta):=nU ha
theorem agz (ha:PT X a (fQ X.K ta))(hb:PW X (.BoolOp .And (b::rest) pos) (fQ X.K tb)):PW X (.BoolOp .And (a::b::rest) pos) (fQ X.K (Kh ta tb)):=PW.imp (xP ha hb) λ_ _ _ q=>by
 obtain⟨aG,G,H₀,S,F,I,b,e,q⟩:=q;unfold Kh at e;cases q2:ta S with
 |none=>rw[q2] at e;cases e
 |some c=>
  rw[q2] at e;refine⟨aG,G,H₀,S,F,I,c,q2,λF' H' g=>?_⟩;cases c with
  |true=>rw[if_pos rfl];exact⟨aG,G,H₀,S,F',I.grow g,b,e,λF2 H2 g2=>q F2 H2 (g.trans g2)⟩
  |false=>rw[if_neg Bool.false_ne_true];cases e;exact q F' H' g
theorem wOr (ha:PT X a (fQ X.K ta))(hb:PW X (.BoolOp .Or (b::rest) pos) (fQ X.K tb)):PW X (.BoolOp .Or (a::b::rest) pos) (fQ X.K (Kl ta tb)):=PW.imp (o8 ha hb) λ_ _ _ q=>by
 obtain⟨aG,G,H₀,S,F,I,b,e,q⟩:=q;unfold Kl at e;cases q2:ta S with
 |none=>rw[q2] at e;cases e
 |some c=>
  rw[q2] at e;refine⟨aG,G,H₀,S,F,I,c,q2,λF' H' g=>?_⟩;cases c with
  |false=>rw[if_neg Bool.false_ne_true];exact⟨aG,G,H₀,S,F',I.grow g,b,e,λF2 H2 g2=>q F2 H2 (g.trans g2)⟩
  |true=>rw[if_pos rfl];cases e;exact q F' H' g
theorem agA (he:PE X e (tV X.K RW f))(hp:∀whole,isTrue e X.env whole=(do let v<-whole;standAt e.pos;holding [v] (truthy v)):=by intro _;rfl):PT X e (fQ X.K (Ss f)):=
 PT.imp (Rv he hp) λ_ _ _ q=>by
  obtain⟨aG,G,H₀,S,F,I,b,e,q⟩:=q;unfold Ss at e;cases q2:f S with
  |none=>rw[q2] at e;cases e
  |some d=>
   rw[q2] at e;refine⟨aG,G,H₀,S,F,I,d,q2,λv F' H' g hv=>⟨b,?_,q F' H' g⟩⟩;cases d with
   |none=>cases e;have ev:=hv;rw[ev];rfl
   |bool c=>cases e;have ev:=hv;rw[ev];rfl
   |int i=>cases e;have ev:=hv;rw[ev];rfl
   |list ds=>cases e;obtain⟨p,xs,rfl,h1,h2⟩:=hv;exact .inl ⟨xs,h1,by rw[aK.isEmpty h2]⟩
   |tuple ds=>cases e;obtain⟨p,xs,rfl,h1,h2⟩:=hv;exact .inr (.inl ⟨xs,h1,by rw[aK.isEmpty h2]⟩)
   |str y=>cases e
   |dict k=>cases e
end
noncomputable def Sw (f g:VE):VE:=λS=>match f S with
 |some (.bool true)=>g S
 |some (.bool false)=>some (.bool false)
 |_=>none
noncomputable def N6 (f g:VE):VE:=λS=>match f S with
 |some (.bool true)=>some (.bool true)
 |some (.bool false)=>g S
 |_=>none
noncomputable def Sx (f:VE):VE:=λS=>match f S with
 |some (.bool b)=>some (.bool !b)
 |_=>none
noncomputable def oM (h h':PyData->PyData->Option PyData)(fa fb fc:VE):VE:=λS=>match fa S with
 |some x=>match fb S with
  |some y=>match h x y with
   |some (.bool true)=>(match fc S with
    |some z=>h' y z
    |none=>none)
   |some (.bool false)=>some (.bool false)
   |_=>none
  |none=>none
 |none=>none
noncomputable def V6 (c:VT)(f g:VE):VE:=λS=>match c S with
 |some true=>f S
 |some false=>g S
 |none=>none
section
variable {rest:List Expr}
theorem agB (ha:PE X a (tV X.K RS fa))(hb:PE X (.BoolOp .And (b::rest) pos) (tV X.K RS fb)):PE X (.BoolOp .And (a::b::rest) pos) (tV X.K RS (Sw fa fb)):=(adQ ha hb).imp λ_ _ _ q=>by
 obtain⟨aG,G,H₀,S,F,I,d,e,q⟩:=q;unfold Sw at e;split at e
 .rename_i q2;refine⟨aG,G,H₀,S,F,I,_,q2,λv F' H' g hv=>?_⟩;have ev:=hv;subst ev;simp only[if_true];exact⟨aG,G,H₀,S,F',I.grow g,d,e,λw F2 H2 g2 hw=>q w F2 H2 (g.trans g2) hw⟩
 .rename_i q2;cases e;refine⟨aG,G,H₀,S,F,I,_,q2,λv F' H' g hv=>?_⟩;have ev:=hv;subst ev;simp only[false_eq_true,if_false];exact q _ F' H' g rfl
 .cases e
theorem dOr (ha:PE X a (tV X.K RS fa))(hb:PE X (.BoolOp .Or (b::rest) pos) (tV X.K RS fb)):PE X (.BoolOp .Or (a::b::rest) pos) (tV X.K RS (N6 fa fb)):=(ags ha hb).imp λ_ _ _ q=>by
 obtain⟨aG,G,H₀,S,F,I,d,e,q⟩:=q;unfold N6 at e;split at e
 .rename_i q2;cases e;refine⟨aG,G,H₀,S,F,I,_,q2,λv F' H' g hv=>?_⟩;have ev:=hv;subst ev;simp only[if_true];exact q _ F' H' g rfl
 .rename_i q2;refine⟨aG,G,H₀,S,F,I,_,q2,λv F' H' g hv=>?_⟩;have ev:=hv;subst ev;simp only[false_eq_true,if_false];exact⟨aG,G,H₀,S,F',I.grow g,d,e,λw F2 H2 g2 hw=>q w F2 H2 (g.trans g2) hw⟩
 .cases e
theorem agC (ha:PE X a (tV X.K RS fa)):PE X (.UnaryOp .Not a pos) (tV X.K RS (Sx fa)):=(adR ha).imp λ_ _ _ q=>by
 obtain⟨aG,G,H₀,S,F,I,d,e,q⟩:=q;unfold Sx at e;split at e
 .rename_i b q2;cases e;refine⟨aG,G,H₀,S,F,I,_,q2,λv F' H' g hv=>?_⟩;have ev:=hv;subst ev;exact q _ F' H' g rfl
 .cases e
theorem agD {op}(h:PE X a (tV X.K R f)):PE X (.BoolOp op [a] pos) (tV X.K R f):=nW h
theorem aaI (hd:fK K h r)(hd':fK K h' r')(q:tV K RS (oM h h' fa fb fc) σ H Q):Sd r r' (tV K RW fa) (tV K RW fb) (tV K RW fc) σ H Q:=by
 obtain⟨aG,G,H₀,S,F,I,d,e,q⟩:=q;unfold oM at e;cases qa:fa S with
 |none=>rw[qa] at e;cases e
 |some x=>
  rw[qa] at e;cases qb:fb S with
  |none=>rw[qb] at e;cases e
  |some y=>
   rw[qb] at e;simp only at e;refine⟨aG,G,H₀,S,F,I,x,qa,λv F1 H1 g1 hx=>⟨aG,G,H₀,S,F1,I.grow g1,y,qb,λu F2 H2 g2 hy=>?_⟩⟩;split at e
   .rename_i q3;cases qc:fc S with
    |none=>rw[qc] at e;cases e
    |some z=>rw[qc] at e;refine hd H2 v u x y _ _ q3 (Has.same g2.hh hx) hy λk hk=>?_;have ek:=hk H2;subst ek;simp only[if_true];refine⟨aG,G,H₀,S,F2,(I.grow g1).grow g2,z,qc,λw F3 H3 g3 hw=>?_⟩;exact hd' H3 u w y z d Q e (Has.same g3.hh hy) hw λk hk=>q k F3 H3 ((g1.trans g2).trans g3) (hk F3)
   .rename_i q3;cases e;refine hd H2 v u x y _ _ q3 (Has.same g2.hh hx) hy λk hk=>?_;have ek:=hk H2;subst ek;simp only[false_eq_true,if_false];exact q _ F2 H2 (g1.trans g2) rfl
   .cases e
theorem dCh (ho:cg X (compareOp op) r)(hd:fK X.K h r)(ho':cg X (compareOp op') r')(hd':fK X.K h' r')(ha:PE X a (tV X.K RW fa))(hb:PE X b (tV X.K RW fb))(hc:PE X c (tV X.K RW fc))
  (hm:lastMarks [op,op'] [b,c]=false:=by with_unfolding_all rfl):PE X (.Compare a [op,op'] [b,c] pos) (tV X.K RS (oM h h' fa fb fc)):=(agt ho ho' ha hb hc hm).imp λ_ _ _ q=>aaI hd hd' q
theorem dIf (hc:PT X c (fQ X.K tc))(ha:PE X a (tV X.K RS fa))(hb:PE X b (tV X.K RS fb)):PE X (.IfExp c a b pos) (tV X.K RS (V6 tc fa fb)):=(Rj hc ha hb).imp λ_ _ _ q=>by
 obtain⟨aG,G,H₀,S,F,I,d,e,q⟩:=q;unfold V6 at e;split at e
 .rename_i q2;refine⟨aG,G,H₀,S,F,I,_,q2,λF' H' g=>?_⟩;simp only[if_true];exact⟨aG,G,H₀,S,F',I.grow g,d,e,λw F2 H2 g2 hw=>q w F2 H2 (g.trans g2) hw⟩
 .rename_i q2;refine⟨aG,G,H₀,S,F,I,_,q2,λF' H' g=>?_⟩;simp only[false_eq_true,if_false];exact⟨aG,G,H₀,S,F',I.grow g,d,e,λw F2 H2 g2 hw=>q w F2 H2 (g.trans g2) hw⟩
 .cases e
end
end VM
namespace VM
open L2
section
variable {F H F' H':Hp}
theorem aK.cR (h:aK K H ds xs)(e:L2.cR ds i=some d):∃v,L2.cR xs i=some v/\Has K H d v:=by
 unfold L2.cR at e ⊢;rw[XJ h.length.symm];cases q:nq ds.length i with
 |none=>rw[q] at e;cases e
 |some j=>rw[q] at e;exact h.at e
theorem aK.drop:∀{ds:List PyData}{vs:List V} (n:Nat),aK K H ds vs->aK K H (ds.drop n) (vs.drop n)
 |_,_,0,h=>h
 |[],vs,n+1,h=>by have h':vs=[]:=h;rw[h'];rfl
 |_::_,_,n+1,⟨_,_,g1,_,g3⟩=>by rw[g1];exact aK.drop n g3
theorem aK.take:∀{ds:List PyData}{vs:List V} (n:Nat),aK K H ds vs->aK K H (ds.take n) (vs.take n)
 |_,_,0,_=>by simp only[List.take_zero];rfl
 |[],vs,n+1,h=>by have h':vs=[]:=h;rw[h'];rfl
 |_::_,_,n+1,⟨u,r,g1,g2,g3⟩=>by rw[g1];exact⟨u,r.take n,rfl,g2,aK.take n g3⟩
theorem RM.list (fh:Same F' H')(r:RM K F H F' H' (.list ds) v):∃a xs,v=.ref a/\aU K H' a xs/\aK K F' ds xs:=by
 rcases r with⟨a,xs,rfl,h1,h2⟩|⟨ds',a,xs,e,rfl,h1,h2⟩
 .exact⟨a,xs,rfl,fh.seq h1,h2⟩
 .cases e;exact⟨a,xs,rfl,h1,h2⟩
theorem RM.tuple (fh:Same F' H')(r:RM K F H F' H' (.tuple ds) v):∃a xs,v=.ref a/\cZ K H' a xs/\aK K F' ds xs:=by
 rcases r with⟨a,xs,rfl,h1,h2⟩|⟨ds',a,xs,e,rfl,h1,h2⟩
 .exact⟨a,xs,rfl,fh.J8 h1,h2⟩
 .cases e
theorem RM.grow (g:bh F' H' F2 H2)(r:RM K F H F' H' d v):RM K F H F2 H2 d v:=by
 rcases r with r|⟨ds,a,xs,e,e2,h1,h2⟩
 .exact .inl (Has.same g.ff r)
 .exact .inr ⟨ds,a,xs,e,e2,g.hh.seq h1,h2.same g.ff⟩
end
def oO:PyData->PyData->Option PyData
 |.list ds,.int i=>cR ds i
 |.tuple ds,.int i=>cR ds i
 |_,_=>none
section
variable {pos p2:Pos}
theorem dIx (ha:PE X a (tV X.K RM fa))(hb:PE X b (tV X.K RW fb))(hs:vG b:=by intro _ _;rfl):PE X (.Subscript a b pos) (tV X.K RS (v2 oO fa fb)):=
 (J3 (Hl.or Nb) ha hb hs).imp λ_ _ Q q=>by
  obtain⟨aG,G,H₀,S,F,I,d,e,q⟩:=q;obtain⟨x,y,ex,ey,e⟩:=kI e;refine⟨aG,G,H₀,S,F,I,x,ex,λv F1 H1 g1 hx=>⟨aG,G,H₀,S,F1,I.grow g1,y,ey,λu F2 H2 g2 hy=>?_⟩⟩;have hx2:=RM.grow g2 hx;unfold oO at e;split at e
  .rename_i ds i;have eu:=hy;obtain⟨p,xs,rfl,h1,h2⟩:=RM.list g2.fh hx2;obtain⟨w,hw,hw2⟩:=aK.cR h2 e;exact .inl ⟨p,xs,i,w,rfl,eu,h1,hw,q w F2 H2 (g1.trans g2) hw2⟩
  .rename_i ds i;have eu:=hy;obtain⟨p,xs,rfl,h1,h2⟩:=RM.tuple g2.fh hx2;obtain⟨w,hw,hw2⟩:=aK.cR h2 e;exact .inr ⟨p,xs,i,w,rfl,eu,h1,hw,q w F2 H2 (g1.trans g2) hw2⟩
  .cases e
noncomputable def Az (K:Frag)(f:GS->Option (Option Int)):TO:=λσ H Q=>∃aG G H₀ S F,VI K aG G H₀ S F σ H/\∃o,f S=some o/\∀F' H',bh F H F' H'->Q o H'
noncomputable def oN:GS->Option (Option Int):=λ_=>some none
noncomputable def oI (f:VE):GS->Option (Option Int):=λS=>match f S with
 |some (.int i)=>some (some i)
 |_=>none
theorem poN:PO X none (Az X.K oN):=PO.imp zx λ_ H Q q=>by obtain⟨aG,G,H₀,S,F,I,o,e,q⟩:=q;cases e;exact q F H (bh.refl I.sub)
theorem poI (h:PE X e (tV X.K RW f)):PO X (some e) (Az X.K (oI f)):=PO.imp (qF h) λ_ H Q q=>by
 obtain⟨aG,G,H₀,S,F,I,o,e,q⟩:=q;unfold oI at e;split at e
 .rename_i i q2;cases e;refine⟨aG,G,H₀,S,F,I,_,q2,λv F' H' g hv=>⟨i,hv,q F' H' g⟩⟩
 .cases e
def cutD (xs:List PyData)(lo hi:Option Int):List PyData:=(xs.drop (HT.bQ xs.length 0 lo)).take (HT.bQ xs.length xs.length hi - HT.bQ xs.length 0 lo)
theorem aK.cut {lo hi:Option Int}(h:aK K H ds vs):aK K H (cutD ds lo hi) (mX vs lo hi):=by unfold cutD mX;rw[h.length];exact aK.take _ (aK.drop _ h)
def Sy (f:VE)(l u:GS->Option (Option Int)):VE:=λS=>match f S,l S,u S with
 |some (.list ds),some lo,some hi=>some (.list (cutD ds lo hi))
 |_,_,_=>none
def SJ (f:VE)(l u:GS->Option (Option Int)):VE:=λS=>match f S,l S,u S with
 |some (.tuple ds),some lo,some hi=>if HT.bQ ds.length 0 lo=0/\HT.bQ ds.length ds.length hi=ds.length then none else some (.tuple (cutD ds lo hi))
 |_,_,_=>none
variable {lo hi:Option Expr}
theorem agE (he:PE X e (tV X.K RM f))(hl:PO X lo (Az X.K fl))(hu:PO X hi (Az X.K fu)):PE X (.Subscript e (.Slice lo hi none p2) pos) (tV X.K RN (Sy f fl fu)):=
 (lM zy he hl hu).imp λ_ H Q q=>by
  obtain⟨aG,G,H₀,S,F,I,d,e,q⟩:=q;unfold Sy at e;split at e
  .rename_i ds l u q1 q2 q3;cases e;refine⟨aG,G,H₀,S,F,I,_,q1,λv F1 H1 g1 hx=>⟨aG,G,H₀,S,F1,I.grow g1,l,q2,λF2 H2 g2=>⟨aG,G,H₀,S,F2,(I.grow g1).grow g2,u,q3,λF3 H3 g3=>?_⟩⟩⟩;obtain⟨p,xs,rfl,h1,h2⟩:=RM.list g3.fh (RM.grow (g2.trans g3) hx);have g:=(g1.trans g2).trans g3;refine⟨p,xs,rfl,h1,λz hz=>q _ F3 _ (g.trans (bh.alloc g3.fh hz)) ⟨_,z,_,rfl,rfl,g.hh.free hz,g3.fh.free hz,aA,aK.cut h2⟩⟩
  .cases e
theorem agF (he:PE X e (tV X.K RM f))(hl:PO X lo (Az X.K fl))(hu:PO X hi (Az X.K fu)):PE X (.Subscript e (.Slice lo hi none p2) pos) (tV X.K RS (SJ f fl fu)):=
 (lM aaf he hl hu).imp λ_ H Q q=>by
  obtain⟨aG,G,H₀,S,F,I,d,e,q⟩:=q;unfold SJ at e;split at e
  .rename_i ds l u q1 q2 q3;split at e
   .cases e
   .rename_i hw;cases e;refine⟨aG,G,H₀,S,F,I,_,q1,λv F1 H1 g1 hx=>⟨aG,G,H₀,S,F1,I.grow g1,l,q2,λF2 H2 g2=>⟨aG,G,H₀,S,F2,(I.grow g1).grow g2,u,q3,λF3 H3 g3=>?_⟩⟩⟩;obtain⟨p,xs,rfl,h1,h2⟩:=RM.tuple g3.fh (RM.grow (g2.trans g3) hx);have g:=(g1.trans g2).trans g3;refine⟨p,xs,rfl,h1,by rw[<-h2.length];exact hw,λz hz=>q _ _ _ (g.trans (bh.yp g3.fh hz)) ⟨z,_,rfl,cZ.of aA,aK.same (aW (g3.fh.free hz)) (aK.cut h2)⟩⟩
  .cases e
noncomputable def agG (f:VE):VE:=λS=>match f S with
 |some (.list ds)=>some (.list ds.reverse)
 |_=>none
noncomputable def SM:PyData->Option PyData
 |.int i=>some (.int (-i))
 |_=>none
noncomputable def v1 (h:PyData->Option PyData)(f:VE):VE:=λS=>match f S with
 |some x=>h x
 |none=>none
theorem agH (ha:PE X a (tV X.K RW f)):PE X (.UnaryOp .USub a pos) (tV X.K RS (v1 SM f)):=(Cd agq ha).imp λ_ H Q q=>by
 obtain⟨aG,G,H₀,S,F,I,d,e,q⟩:=q;unfold v1 at e;split at e
 .rename_i x q1;unfold SM at e;split at e
  .rename_i i;cases e;refine⟨aG,G,H₀,S,F,I,_,q1,λv F1 H1 g1 hx=>?_⟩;have ev:=hx;subst ev;exact q _ F1 H1 g1 rfl
  .cases e
 .cases e
end
noncomputable abbrev VA:=GS->Option (List PyData)
def uL (K:Frag)(f:VA):TA:=λσ H Q=>∃aG G H₀ S F,VI K aG G H₀ S F σ H/\∃ds,f S=some ds/\∀vs F' H',bh F H F' H'->aK K F' ds vs->Q vs H'
def zH (K:Frag)(f:VA):TA:=λσ H Q=>∃aG G H₀ S F,VI K aG G H₀ S F σ H/\∃ds,f S=some ds/\∀vs F' H',bh F H F' H'->aK K H' ds vs->Q vs H'
noncomputable def a0:VA:=λ_=>some []
def aC (f:VE)(fs:VA):VA:=λS=>match f S with
 |some d=>match fs S with
  |some ds=>some (d::ds)
  |none=>none
 |none=>none
theorem Hw (h:aC f fs S=some ds):∃d r,f S=some d/\fs S=some r/\ds=d::r:=by
 unfold aC at h;cases q:f S with
 |none=>rw[q] at h;cases h
 |some d=>
  rw[q] at h;cases q2:fs S with
  |none=>rw[q2] at h;cases h
  |some r=>rw[q2] at h;cases h;exact⟨d,r,rfl,rfl,rfl⟩
section
variable {pos:Pos}
theorem Ej:PA X [] (uL X.K a0):=PA.imp aM λ_ H Q q=>by obtain⟨aG,G,H₀,S,F,I,d,e,q⟩:=q;cases e;exact q [] F H (bh.refl I.sub) rfl
theorem N7:PA X [] (zH X.K a0):=PA.imp aM λ_ H Q q=>by obtain⟨aG,G,H₀,S,F,I,d,e,q⟩:=q;cases e;exact q [] F H (bh.refl I.sub) rfl
theorem tE (he:PE X e (tV X.K RS f))(hr:PA X es (uL X.K fs))(hs:starEach (e::es) X.env=(false,eval e X.env)::starEach es X.env:=by rfl):PA X (e::es) (uL X.K (aC f fs)):=PA.imp (au he hr hs) λ_ H Q q=>by obtain⟨aG,G,H₀,S,F,I,ds,e,q⟩:=q;obtain⟨d,r,e1,e2,rfl⟩:=Hw e;exact⟨aG,G,H₀,S,F,I,d,e1,λv F1 H1 g1 hx=>⟨aG,G,H₀,S,F1,I.grow g1,r,e2,λvs F2 H2 g2 hy=>q _ F2 H2 (g1.trans g2) ⟨v,vs,rfl,Has.same g2.ff hx,hy⟩⟩⟩
theorem N8 (he:PE X e (tV X.K RW f))(hr:PA X es (zH X.K fs))(hs:starEach (e::es) X.env=(false,eval e X.env)::starEach es X.env:=by rfl):PA X (e::es) (zH X.K (aC f fs)):=PA.imp (au he hr hs) λ_ H Q q=>by obtain⟨aG,G,H₀,S,F,I,ds,e,q⟩:=q;obtain⟨d,r,e1,e2,rfl⟩:=Hw e;exact⟨aG,G,H₀,S,F,I,d,e1,λv F1 H1 g1 hx=>⟨aG,G,H₀,S,F1,I.grow g1,r,e2,λvs F2 H2 g2 hy=>q _ F2 H2 (g1.trans g2) ⟨v,vs,rfl,Has.same g2.hh hx,hy⟩⟩⟩
def dH (fs:VA):VE:=λS=>match fs S with
 |some ds=>if ds.length<=1000 then some (.tuple ds) else none
 |none=>none
def bR (fs:VA):VE:=λS=>match fs S with
 |some ds=>if ds.length<=1000 then some (.list ds) else none
 |none=>none
theorem Ob (h:dH fs S=some d):∃ds,fs S=some ds/\ds.length<=1000/\d=.tuple ds:=by
 unfold dH at h;split at h
 .split at h
  .cases h;exact⟨_,by assumption,by assumption,rfl⟩
  .cases h
 .cases h
theorem Oe (h:bR fs S=some d):∃ds,fs S=some ds/\ds.length<=1000/\d=.list ds:=by
 unfold bR at h;split at h
 .split at h
  .cases h;exact⟨_,by assumption,by assumption,rfl⟩
  .cases h
 .cases h
theorem dTup {x1}(h:PA X es (uL X.K fs)):PE X (.Tuple es x1 pos) (tV X.K RS (dH fs)):=(uo h).imp λ_ H Q q=>by obtain⟨aG,G,H₀,S,F,I,d,e,q⟩:=q;obtain⟨ds,e1,hl,rfl⟩:=Ob e;refine⟨aG,G,H₀,S,F,I,ds,e1,λvs F1 H1 g1 hx=>⟨by rw[<-hx.length];exact le_of_lt (Av hl),λp hp=>?_⟩⟩;exact q _ _ _ (g1.trans (bh.yp g1.fh hp)) ⟨p,vs,rfl,cZ.of aA,aK.same (aW (g1.fh.free hp)) hx⟩
theorem aaJ (h:PA X es (uL X.K fs)):PE X (.List es pos) (tV X.K RN (bR fs)):=(qz h).imp λ_ H Q q=>by obtain⟨aG,G,H₀,S,F,I,d,e,q⟩:=q;obtain⟨ds,e1,hl,rfl⟩:=Oe e;refine⟨aG,G,H₀,S,F,I,ds,e1,λvs F1 H1 g1 hx=>⟨by rw[<-hx.length];exact le_of_lt (Av hl),λp hp=>?_⟩⟩;exact q _ _ _ (g1.trans (bh.alloc g1.fh hp)) ⟨ds,p,vs,rfl,rfl,g1.hh.free hp,g1.fh.free hp,aA,hx⟩
end
def CallD (K:Frag)(h:List PyData->Option PyData)(r:List V->Hp->VK->Prop):Prop:=∀H vs ds d Q,h ds=some d->aK K H ds vs->(∀v,(∀H',Has K H' d v)->Q v H)->r vs H Q
def jo (h:List PyData->Option PyData)(fs:VA):VE:=λS=>match fs S with
 |some ds=>h ds
 |none=>none
theorem tG (he:PE X e (mO r (zH X.K fs)))(hd:CallD X.K h r):PE X e (tV X.K RS (jo h fs)):=he.imp λ_ H Q q=>by
 obtain⟨aG,G,H₀,S,F,I,d,e,q⟩:=q;unfold jo at e;split at e
 .rename_i ds q1;exact⟨aG,G,H₀,S,F,I,ds,q1,λvs F1 H1 g1 hx=>hd H1 vs ds d Q e hx λv hv=>q v F1 H1 g1 (hv F1)⟩
 .cases e
noncomputable def zJ:List PyData->Option PyData
 |[.list ds]=>some (.int ds.length)
 |[.tuple ds]=>some (.int ds.length)
 |_=>none
noncomputable def Ko:List PyData->Option PyData
 |[.int i]=>some (.int (if i<0 then -i else i))
 |_=>none
noncomputable def intsOf:List PyData->Option (List Int)
 |[]=>some []
 |.int i::r=>match intsOf r with
  |some ns=>some (i::ns)
  |none=>none
 |_=>none
theorem pZ:∀{ds:List PyData}{ns:List Int},intsOf ds=some ns->ds=ns.map PyData.int
 |[],_,h=>by cases h;rfl
 |.int i::r,ns,h=>by
  unfold intsOf at h;cases q:intsOf r with
  |none=>rw[q] at h;cases h
  |some ms=>rw[q] at h;cases h;rw[pZ q];rfl
 |.none::_,_,h=>by cases h
 |.bool _::_,_,h=>by cases h
 |.str _::_,_,h=>by cases h
 |.list _::_,_,h=>by cases h
 |.tuple _::_,_,h=>by cases h
 |.dict _::_,_,h=>by cases h
def aaK:List PyData->Option PyData
 |[.list ds]=>match intsOf ds with
  |some ns=>some (.int ns.sum)
  |none=>none
 |_=>none
noncomputable def kJ:List Int->Int
 |[]=>0
 |[n]=>n
 |n::r=>min n (kJ r)
theorem uM:∀{ns:List Int},ns≠[]->kJ ns∈ns/\∀a∈ns,kJ ns<=a
 |[n],_=>by simp[kJ]
 |n::m::r,_=>by
  obtain⟨h1,h2⟩:=uM (ns:=m::r) (by simp);have e:kJ (n::m::r)=min n (kJ (m::r)):=rfl;rw[e];refine⟨?_,λa ha=>?_⟩
  .by_cases hle:n<=kJ (m::r)
   .rw[Int.min_eq_left hle];exact mem_cons_self
   .rw[Int.min_eq_right (by omega)];exact mem_cons_of_mem _ h1
  .rcases mem_cons.mp ha with rfl|ha
   .exact Int.min_le_left ..
   .exact Int.le_trans (Int.min_le_right ..) (h2 a ha)
def minD:List PyData->Option PyData
 |[.list ds]=>match intsOf ds with
  |some (n::r)=>some (.int (kJ (n::r)))
  |_=>none
 |_=>none
noncomputable def Kp:List PyData->Option PyData
 |[.int i,.int j]=>some (.int (if j<i then j else i))
 |_=>none
noncomputable def adZ:List PyData->Option PyData
 |[.int i,.int j]=>some (.int (if j>i then j else i))
 |_=>none
noncomputable def Cu:List PyData->Option PyData
 |[.int i]=>some (.int i)
 |[.bool k]=>some (.int (if k then 1 else 0))
 |_=>none
section
theorem aK.one (h:aK K H [d] vs):∃v,vs=[v]/\Has K H d v:=by obtain⟨v,r,rfl,h1,h2⟩:=h;have h2':=h2;rw[h2'];exact⟨v,rfl,h1⟩
theorem aK.two (h:aK K H [d,e] vs):∃v u,vs=[v,u]/\Has K H d v/\Has K H e u:=by obtain⟨v,r,rfl,h1,h2⟩:=h;obtain⟨u,rfl,h3⟩:=aK.one h2;exact⟨v,u,rfl,h1,h3⟩
theorem hLen:CallD K zJ (yh K):=by
 intro H vs ds d Q e hx q;unfold zJ at e;split at e
 .obtain⟨v,rfl,a,xs,rfl,h1,h2⟩:=aK.one hx;cases e;exact⟨xs,.inl h1,by rw[<-h2.length];exact q _ λ_=>rfl⟩
 .obtain⟨v,rfl,a,xs,rfl,h1,h2⟩:=aK.one hx;cases e;exact⟨xs,.inr h1,by rw[<-h2.length];exact q _ λ_=>rfl⟩
 .cases e
theorem agI:CallD K Ko VR:=by
 intro H vs ds d Q e hx q;unfold Ko at e;split at e
 .obtain⟨v,rfl,h1⟩:=aK.one hx;have ev:=h1;subst ev;cases e;exact q _ λ_=>rfl
 .cases e
theorem agJ:CallD K aaK (V0 K):=by
 intro H vs ds d Q e hx q;unfold aaK at e;split at e
 .split at e
  .rename_i ns hn;obtain⟨v,rfl,a,xs,rfl,h1,h2⟩:=aK.one hx;cases e;rw[pZ hn] at h2;rw[aK.ints.mp h2] at h1;exact⟨ns,h1,q _ λ_=>rfl⟩
  .cases e
 .cases e
theorem agK:CallD K minD (V2 K):=by
 intro H vs ds d Q e hx q;unfold minD at e;split at e
 .split at e
  .rename_i n r hn;obtain⟨v,rfl,a,xs,rfl,h1,h2⟩:=aK.one hx;cases e;rw[pZ hn] at h2;rw[aK.ints.mp h2] at h1;refine⟨n::r,h1,by simp,λM hM hA=>?_⟩;obtain⟨g1,g2⟩:=uM (ns:=n::r) (by simp);have:=Int.le_antisymm (hA _ g1) (g2 _ hM);rw[this];exact q _ λ_=>rfl
  .cases e
 .cases e
theorem ad0:CallD K Kp (λxs H Q=>∃i j,xs=[.int i,.int j]/\Q (.int (if j<i then j else i)) H):=by
 intro H vs ds d Q e hx q;unfold Kp at e;split at e
 .rename_i i j;obtain⟨v,u,rfl,h1,h2⟩:=aK.two hx;have ev:=h1;have eu:=h2;subst ev eu;cases e;exact⟨i,j,rfl,q _ λ_=>rfl⟩
 .cases e
theorem ad1:CallD K Cu (λxs H Q=>(∃i,xs=[.int i]/\Q (.int i) H)\/∃k,xs=[.bl k]/\Q (.int (if k then 1 else 0)) H):=by
 intro H vs ds d Q e hx q;unfold Cu at e;split at e
 .obtain⟨v,rfl,h1⟩:=aK.one hx;have ev:=h1;subst ev;cases e;exact .inl ⟨_,rfl,q _ λ_=>rfl⟩
 .obtain⟨v,rfl,h1⟩:=aK.one hx;have ev:=h1;subst ev;cases e;exact .inr ⟨_,rfl,q _ λ_=>rfl⟩
 .cases e
end
noncomputable def Ba:PyData->String
 |.none=>"NoneType"
 |.bool _=>"bool"
 |.int _=>"int"
 |.str _=>"str"
 |.list _=>"list"
 |.tuple _=>"tuple"
 |.dict _=>"dict"
def lR (T:String)(d:PyData):Option PyData:=match d with
 |.dict _=>none
 |_=>some (.bool (Ba d==T||(Ba d=="bool" && T=="int")))
def aaL (K:Frag)(T:String):List V->Hp->VK->Prop:=λxs H Q=>∃x d b,xs=[x,.ty T]/\Has K H d x/\kitOne K (.type (Ba d)) (.type T)=some b/\Q (.bl b) H
theorem agL:c7 X (.builtin "isinstance") (aaL X.K T):=by
 intro pins s σ H xs us Q I r h;obtain⟨x,d,b,rfl,hd,e,q⟩:=h;cases r with
 |cons rx rr=>
  cases rr with
  |cons r2 rr=>
   cases rr;rename_i u u2;cases(r2);have fin:∀tk,EP X pins σ Q (.bool b) {s with toks:=tk}:=λtk=>⟨.bl b,H,I.kept λ_ _ h=>h,rfl,q⟩;cases d with
   |none=>cases(hd);cases(rx);exact kia_one PySem.W.kitx_none I.dM True.intro e (λz=>nomatch z) fin
   |bool y=>cases(hd);cases(rx);exact kia_one PySem.W.kitx_bool I.dM True.intro e (λz=>nomatch z) fin
   |int i=>cases(hd);obtain⟨t,q⟩:=(rx);cases q;exact kia_one PySem.W.kitx_int I.dM True.intro e (λz=>nomatch z) fin
   |str y=>cases(hd.1);obtain⟨t,q⟩:=(rx);cases q;exact kia_one PySem.W.kitx_str I.dM True.intro e (λz=>nomatch z) fin
   |list ds=>
    obtain⟨a,ys,rfl,h1,_⟩:=hd;cases(rx);obtain⟨its,rv,⟨o,n,e1,c,_,_⟩,hz⟩:=I.list h1;exact kia_one PySem.W.kitx_list I.dM ⟨o,e1,c⟩ e (λz=>nomatch z) fin
   |tuple ds=>
    obtain⟨a,ys,rfl,h1,_⟩:=hd;cases(rx);obtain⟨its,rv,⟨o,e1,c,_⟩,hz⟩:=I.tuple h1;exact kia_one PySem.W.kitx_tuple I.dM ⟨o,e1,c⟩ e (λz=>nomatch z) fin
   |dict k=>exact hd.elim
structure sE (K:Frag)(T:String):Prop where
 ok:∀d d',lR T d=some (.bool d')->kitOne K (.type (Ba d)) (.type T)=some d'
def SN (T:String)(f:VE):VE:=v1 (lR T) f
theorem Og (h:lR T d=some x):∃b,x=.bool b:=by cases d<;>first|(simp[lR] at h;done)|(simp only[lR,Option.some.injEq] at h;exact⟨_,h.symm⟩)
theorem Kq (kt:sE X.K T)(he:PE X e (mO (aaL X.K T) (aR (tV X.K RW f) (aR (tC (.ty T)) bK)))):PE X e (tV X.K RS (SN T f)):=he.imp λ_ H Q q=>by
 obtain⟨aG,G,H₀,S,F,I,d,e,q⟩:=q;unfold SN v1 at e;split at e
 .rename_i x q1;obtain⟨b,rfl⟩:=Og e;exact⟨aG,G,H₀,S,F,I,x,q1,λv F1 H1 g1 hx=>⟨v,x,b,rfl,hx,kt.ok x b e,q _ F1 H1 g1 rfl⟩⟩
 .cases e
noncomputable def zK (f:VE):VE:=λS=>match f S with
 |some (.list ds)=>some (.list ds)
 |some (.tuple ds)=>some (.list ds)
 |_=>none
theorem XQ (he:PE X e (mO (NP X.K) (aR (tV X.K RM f) bK))):PE X e (tV X.K RN (zK f)):=he.imp λ_ H Q q=>by
 obtain⟨aG,G,H₀,S,F,I,d,e,q⟩:=q;unfold zK at e;split at e
 .rename_i ds q1;cases e;refine⟨aG,G,H₀,S,F,I,_,q1,λv F1 H1 g1 hx=>?_⟩;obtain⟨p,xs,rfl,h1,h2⟩:=RM.list g1.fh hx;exact⟨xs,.inl h1,λz hz=>q _ F1 _ (g1.trans (bh.alloc g1.fh hz)) ⟨_,z,_,rfl,rfl,g1.hh.free hz,g1.fh.free hz,aA,h2⟩⟩
 .rename_i ds q1;cases e;refine⟨aG,G,H₀,S,F,I,_,q1,λv F1 H1 g1 hx=>?_⟩;obtain⟨p,xs,rfl,h1,h2⟩:=RM.tuple g1.fh hx;exact⟨xs,.inr h1,λz hz=>q _ F1 _ (g1.trans (bh.alloc g1.fh hz)) ⟨_,z,_,rfl,rfl,g1.hh.free hz,g1.fh.free hz,aA,h2⟩⟩
 .cases e
noncomputable abbrev lF:=List PyData->Option (Bool×PyData)
def RB:Bool->Rel
 |true=>RN
 |false=>RS
def ig (K:Frag)(m:lF):Sp:=λvs H Q _=>∃G ds,Same G H/\aK K G ds vs/\∃b d,m ds=some (b,d)/\∀v F' H',bh G H F' H'->RB b K G H F' H' d v->Q v H'
def gj (m:lF)(fs:VA):VE:=λS=>match fs S with
 |some ds=>match m ds with
  |some (_,d)=>some d
  |none=>none
 |none=>none
def uN (m:lF)(fs:VA):VE:=λS=>match fs S with
 |some ds=>match m ds with
  |some (true,d)=>some d
  |_=>none
 |none=>none
def Kr:Bool->PyData->Bool
 |true,.list ds=>rY ds
 |true,_=>false
 |false,d=>uG d
def yq (m:lF)(fs:VA):VE:=λS=>match fs S with
 |some ds=>match m ds with
  |some (b,d)=>if Kr b d=true then some d else none
  |none=>none
 |none=>none
def Hy (m:lF)(fs:VA):VE:=λS=>match fs S with
 |some ds=>match m ds with
  |some (true,.list es)=>if rY es=true then some (.list es) else none
  |_=>none
 |none=>none
section
variable {fs:VA}
theorem zL (he:PE X e (jm (ig X.K m) [] E0 (uL X.K fs))):PE X e (tV X.K RS (gj m fs)):=he.imp λ_ H Q q=>by
 obtain⟨aG,G,H₀,S,F,I,d,e,q⟩:=q;unfold gj at e;split at e
 .rename_i ds q1;split at e
  .rename_i b d' q2;cases e;refine⟨aG,G,H₀,S,F,I,ds,q1,λvs F1 H1 g1 hx=>?_⟩;show ig X.K m (vs++[]) H1 Q E0;rw[append_nil];refine⟨F1,ds,g1.fh,hx,b,_,q2,λv F' H' g hv=>?_⟩;cases b with
   |false=>exact q v F' H' (g1.trans g) hv
   |true=>obtain⟨F'',g2,r2⟩:=RN.dR g hv;exact q v F'' H' (g1.trans g2) r2
  .cases e
 .cases e
theorem V7 (he:PE X e (jm (ig X.K m) [] E0 (uL X.K fs))):PE X e (tV X.K RN (uN m fs)):=he.imp λ_ H Q q=>by
 obtain⟨aG,G,H₀,S,F,I,d,e,q⟩:=q;unfold uN at e;split at e
 .rename_i ds q1;split at e
  .rename_i d' q2;cases e;refine⟨aG,G,H₀,S,F,I,ds,q1,λvs F1 H1 g1 hx=>?_⟩;show ig X.K m (vs++[]) H1 Q E0;rw[append_nil];refine⟨F1,ds,g1.fh,hx,true,_,q2,λv F' H' g hv=>?_⟩;obtain⟨es,a,xs,h1,h2,h3,h4,h5,h6⟩:=hv;exact q v F' H' (g1.trans g) ⟨es,a,xs,h1,h2,g1.hh.free h3,h4,h5,h6⟩
  .cases e
 .cases e
theorem ad2 (he:PE X e (jm (ig X.K m) [] E0 (zH X.K fs))):PE X e (tV X.K RS (yq m fs)):=he.imp λ_ H Q q=>by
 obtain⟨aG,G,H₀,S,F,I,d,e,q⟩:=q;unfold yq at e;split at e
 .rename_i ds q1;split at e
  .rename_i b d' q2;split at e
   .rename_i hi;cases e;refine⟨aG,G,H₀,S,F,I,ds,q1,λvs F1 H1 g1 hx=>?_⟩;show ig X.K m (vs++[]) H1 Q E0;rw[append_nil];refine⟨H1,ds,Same.refl _,hx,b,_,q2,λv F' H' g hv=>?_⟩;have gw:=uH ⟨g.hh,Same.refl _,g1.fh.trans g.hh,λ_ _ e=>.inl e,λ_ _ _ e=>e⟩;cases b with
    |false=>exact q v _ H' (g1.trans gw) (rZ hi (Has.same g.fh hv))
    |true=>obtain⟨es,a,xs,rfl,h2,h3,h4,h5,h6⟩:=hv;have hF1:=g1.fh.free h3;obtain⟨F'',g2,r2⟩:=RN.dR gw ⟨es,a,xs,rfl,h2,h3,NZ h5 hF1,h5,uI hi (h6.same g.fh)⟩;exact q v F'' H' (g1.trans g2) r2
   .cases e
  .cases e
 .cases e
end
structure Ek (K:Frag)(F:Hp)(J:It)(ds:List PyData):Prop where
 go:∀(i:Nat) d F' H',ds[i]? =some d->Same F F'->Same F' H'->J.go i H'/\∀x mR,J.wj i H' x mR->∃F'',bh F' H' F'' mR/\Has K F'' d x
 stop:∀(i:Nat) F' H',ds.length<=i->Same F F'->Same F' H'->J.stop i H'
noncomputable def uO (K:Frag)(f:VA):TI:=λσ H R=>∃aG G H₀ S F,VI K aG G H₀ S F σ H/\∃ds,f S=some ds/\∀J F' H',bh F H F' H'->Ek K F' J ds->R J H'
noncomputable def El (f:VE):VA:=λS=>match f S with
 |some (.list ds)=>some ds
 |_=>none
noncomputable def XS (f:VE):VA:=λS=>match f S with
 |some (.tuple ds)=>some ds
 |_=>none
noncomputable def jR (lo:Int)(n:Nat):List PyData:=(List.range n).map λ(i:Nat)=>PyData.int (lo+i)
def Cv (fs:VA):VA:=λS=>match fs S with
 |some [.int j]=>@ite _ (-(2^62)<=j/\j<2^62) (Classical.propDecidable _) (some (jR 0 j.toNat)) none
 |_=>none
def ad3 (fs:VA):VA:=λS=>match fs S with
 |some [.int i,.int j]=>@ite _ ((-(2^62)<=i/\i<2^62)∧-(2^62)<=j/\j<2^62) (Classical.propDecidable _) (some (jR i (j - i).toNat)) none
 |_=>none
noncomputable def nG:Nat->List PyData->List PyData
 |_,[]=>[]
 |i,d::r=>.tuple [.int i,d]::nG (i+1) r
theorem Bb:∀(k:Nat) (ds:List PyData) (i:Nat),(nG k ds)[i]? =ds[i]?.map λd=>.tuple [.int ((k+i:Nat):Int),d]
 |_,[],_=>by simp[nG]
 |k,d::r,0=>by simp[nG]
 |k,d::r,i+1=>by
  simp only[nG,List.getElem?_cons_succ];rw[Bb (k+1) r i];have e:k+1+i=k+(i+1):=by omega
  rw[e]
theorem Em (k:Nat)(ds:List PyData):(nG k ds).length=ds.length:=by
 induction ds generalizing k with
 |nil=>rfl
 |cons d r ih=>simp[nG,ih]
noncomputable def Ks (ds es:List PyData):List PyData:=List.zipWith (λa b=>PyData.tuple [a,b]) ds es
def Ku (fs:VA):VA:=λS=>match fs S with
 |some [.list ds]=>some (nG 0 ds)
 |_=>none
def SQ (fs:VA):VA:=λS=>match fs S with
 |some [.list ds,.list es]=>some (Ks ds es)
 |_=>none
section
variable {k:Nat}
theorem Oh (h1:aU K F a xs)(h2:aK K F ds xs):Ek K F (ud K a) ds where
 go:=λi d F' H' e f1 f2=>by obtain⟨v,ev,hv⟩:=h2.at e;have hq:=(f1.trans f2).seq h1;refine⟨⟨xs,v,hq,ev⟩,λx mR y=>?_⟩;obtain⟨e1,y⟩:=y;subst e1;have:=y xs hq;rw[ev] at this;cases this;exact⟨F',bh.refl f2,Has.same f1 hv⟩
 stop:=λi F' H' e f1 f2=>⟨xs,(f1.trans f2).seq h1,by rw[<-h2.length];exact e⟩
theorem SX {lo:Int}:Ek K F (Vv lo n) (jR lo n) where
 go:=λi d F' H' e f1 f2=>by
  unfold jR at e;rw[getElem?_map] at e;by_cases hi:i<n
  .rw[List.getElem?_range hi] at e;cases e;refine⟨hi,λx mR y=>?_⟩;obtain⟨e1,e2⟩:=y;subst e1 e2;exact⟨F',bh.refl f2,rfl⟩
  .rw[getElem?_eq_none (by simp;omega)] at e;cases e
 stop:=λi F' H' e f1 f2=>by unfold jR at e;show n<=i;simpa using e
theorem Oj (h1:aU K F a xs)(h2:aK K F ds xs):Ek K F (Ite K a) (nG 0 ds) where
 go:=λi d F' H' e f1 f2=>by
  rw[Bb] at e;cases q:ds[i]? with
  |none=>rw[q] at e;cases e
  |some d0=>rw[q] at e;cases e;obtain⟨v,ev,hv⟩:=h2.at q;have hq:=(f1.trans f2).seq h1;refine⟨⟨xs,v,hq,ev⟩,λx mR y=>?_⟩;obtain⟨pp,z,hn,e1,hz,e2⟩:=y;subst e1 e2;have:=hz xs hq;rw[ev] at this;cases this;have gr:bh F' H' (upd F' pp (.tup [.int (i:Int),v])) (upd H' pp (.tup [.int (i:Int),v])):=bh.yp f2 hn;refine⟨_,gr,pp,_,rfl,cZ.of aA,_,_,rfl,?_,_,_,rfl,Has.same (f1.trans gr.ff) hv,rfl⟩;show V.int (i:Int)=V.int ((0+i:Nat):Int);rw[Nat.zero_add]
 stop:=λi F' H' e f1 f2=>⟨xs,(f1.trans f2).seq h1,by rw[<-h2.length];rw[Em] at e;exact e⟩
theorem S5 (h1:aU K F a xs)(h2:aK K F ds xs)(h3:aU K F b ys)(h4:aK K F es ys):Ek K F (Itz K a b) (Ks ds es) where
 go:=λi d F' H' e f1 f2=>by
  unfold Ks at e;rw[List.getElem?_zipWith] at e;cases q:ds[i]? with
  |none=>rw[q] at e;cases e
  |some d0=>
   cases q2:es[i]? with
   |none=>rw[q,q2] at e;cases e
   |some e0=>rw[q,q2] at e;cases e;obtain⟨v,ev,hv⟩:=h2.at q;obtain⟨u,eu,hu⟩:=h4.at q2;have hq:=(f1.trans f2).seq h1;have hq2:=(f1.trans f2).seq h3;refine⟨⟨xs,v,ys,u,hq,ev,hq2,eu⟩,λx mR y=>?_⟩;obtain⟨pp,z,w,hn,e1,hz,hw,e2⟩:=y;subst e1 e2;have t1:=hz xs hq;have t2:=hw ys hq2;rw[ev] at t1;rw[eu] at t2;cases t1;cases t2;have gr:bh F' H' (upd F' pp (.tup [v,u])) (upd H' pp (.tup [v,u])):=bh.yp f2 hn;exact⟨_,gr,pp,_,rfl,cZ.of aA,_,_,rfl,Has.same (f1.trans gr.ff) hv,_,_,rfl,Has.same (f1.trans gr.ff) hu,rfl⟩
 stop:=λi F' H' e f1 f2=>by unfold Ks at e;rw[List.length_zipWith] at e;exact⟨xs,ys,(f1.trans f2).seq h1,(f1.trans f2).seq h3,by rw[<-h2.length,←h4.length];omega⟩
theorem itL (hl:PE X l (tV X.K RS f)):PI X tg l (uO X.K (El f)):=PI.imp (qx hl) λ_ H Q q=>by
 obtain⟨aG,G,H₀,S,F,I,ds,e,q⟩:=q;unfold El at e;split at e
 .rename_i q1;cases e;refine⟨aG,G,H₀,S,F,I,_,q1,λv F' H' g hv=>?_⟩;obtain⟨a,xs,rfl,h1,h2⟩:=hv;exact⟨a,rfl,⟨xs,g.fh.seq h1⟩,q _ F' H' g (Oh h1 h2)⟩
 .cases e
theorem aaN (h:PI X tg l (Vw (zH X.K fs))):PI X tg l (uO X.K (Cv fs)):=PI.imp h λ_ H Q q=>by
 obtain⟨aG,G,H₀,S,F,I,ds,e,q⟩:=q;unfold Cv at e;split at e
 .rename_i j q1;split at e
  .rename_i hj;cases e;refine⟨aG,G,H₀,S,F,I,_,q1,λvs F' H' g hv=>?_⟩;obtain⟨v,rfl,hv'⟩:=aK.one hv;have ev:=hv';exact⟨j,by rw[ev],hj.1,hj.2,q _ F' H' g SX⟩
  .cases e
 .cases e
theorem itE (h:PI X tg l (VF X.K (uL X.K fs))):PI X tg l (uO X.K (Ku fs)):=PI.imp h λ_ H Q q=>by
 obtain⟨aG,G,H₀,S,F,I,ds,e,q⟩:=q;unfold Ku at e;split at e
 .rename_i es q1;cases e;refine⟨aG,G,H₀,S,F,I,_,q1,λvs F' H' g hv=>?_⟩;obtain⟨v,rfl,a,xs,rfl,h1,h2⟩:=aK.one hv;exact⟨a,rfl,⟨xs,g.fh.seq h1⟩,q _ F' H' g (Oj h1 h2)⟩
 .cases e
theorem itZ (h:PI X tg l (aaq X.K (uL X.K fs))):PI X tg l (uO X.K (SQ fs)):=PI.imp h λ_ H Q q=>by
 obtain⟨aG,G,H₀,S,F,I,ds,e,q⟩:=q;unfold SQ at e;split at e
 .rename_i es es2 q1;cases e;refine⟨aG,G,H₀,S,F,I,_,q1,λvs F' H' g hv=>?_⟩;obtain⟨v,u,rfl,⟨a,xs,rfl,h1,h2⟩,b,ys,rfl,h3,h4⟩:=aK.two hv;exact⟨a,b,rfl,⟨xs,g.fh.seq h1⟩,⟨ys,g.fh.seq h3⟩,q _ F' H' g (S5 h1 h2 h3 h4)⟩
 .cases e
end
section
variable {σ:St}
theorem VI.set (I:VI K aG G H₀ S F σ H)(hd:Has K F d v):VI K aG G H₀ (S.set i (some (.fr,d))) F (σ.set i (some v)) H where
 pl:=I.pl
 len:=by rw[length_set,length_set];exact I.len
 same:=I.same
 gf:=I.gf
 new:=I.new
 sub:=I.sub
 slot:=λj t d' e=>by
  by_cases hj:j=i
  .subst hj;by_cases hl:j<S.length
   .rw[getElem?_set_self hl] at e;cases e;exact⟨v,getElem?_set_self (by rw[<-I.len];exact hl),hd⟩
   .rw[getElem?_eq_none (by rw[length_set];omega)] at e;cases e
  .rw[getElem?_set_ne (Ne.symm hj)] at e ⊢;exact I.slot j t d' e
 inj:=λj k t t' d1 d2 u e1 e2 n1 n2 v1 v2=>by
  have h1:j≠i:=λz=>by
   subst z;by_cases hl:j<S.length
   .rw[getElem?_set_self hl] at e1;cases e1;exact(Bool.false_ne_true n1)
   .rw[getElem?_eq_none (by rw[length_set];omega)] at e1;cases e1
  have h2:k≠i:=λz=>by
   subst z;by_cases hl:k<S.length
   .rw[getElem?_set_self hl] at e2;cases e2;exact(Bool.false_ne_true n2)
   .rw[getElem?_eq_none (by rw[length_set];omega)] at e2;cases e2
  rw[getElem?_set_ne (Ne.symm h1)] at e1 v1;rw[getElem?_set_ne (Ne.symm h2)] at e2 v2;exact I.inj j k t t' d1 d2 u e1 e2 n1 n2 v1 v2
end
noncomputable abbrev VG:=PyData->GS->Option GS
noncomputable abbrev yr:=List PyData->GS->Option GS
noncomputable def p7 (S:GS)(i:Nat):Bool:=match S[i]? with
 |some (some (.io,_))=>false
 |_=>true
def gN (i:Nat):VG:=λd S=>if p7 S i=true then some (S.set i (some (.fr,d))) else none
noncomputable def g0:yr:=λds S=>match ds with
 |[]=>some S
 |_=>none
noncomputable def gC (t:VG)(u:yr):yr:=λds S=>match ds with
 |d::r=>match t d S with
  |some S1=>u r S1
  |none=>none
 |[]=>none
noncomputable def gT (n:Nat)(u:yr):VG:=λd S=>match d with
 |.tuple ds=>if ds.length=n then u ds S else none
 |_=>none
def qI (K:Frag)(t:VG)(js:List Nat):TG:=λv σ H Q=>∃aG G H₀ S F,VI K aG G H₀ S F σ H/\∃d S',Has K F d v/\t d S=some S'/\∀σ',(∀(j:Nat),j∉js->σ'[j]? =σ[j]?)->VI K aG G H₀ S' F σ' H->Q σ' H
def En (K:Frag)(t:yr)(js:List Nat):o9:=λvs σ H Q=>∃aG G H₀ S F,VI K aG G H₀ S F σ H/\∃ds S',aK K F ds vs/\t ds S=some S'/\∀σ',(∀(j:Nat),j∉js->σ'[j]? =σ[j]?)->VI K aG G H₀ S' F σ' H->Q σ' H
section
variable {pos:Pos}
theorem tgN (h:PG X e (cN i)):PG X e (qI X.K (gN i) [i]):=PG.imp h λv σ H Q q=>by
 obtain⟨aG,G,H₀,S,F,I,d,S',hd,e,q⟩:=q;unfold gN at e;split at e
 .cases e;exact q _ (λj hj=>getElem?_set_ne (λz=>hj (by simp[z]))) (I.set hd)
 .cases e
theorem jP.imp (h:jP X es t)(ht:∀v σ H Q,t' v σ H Q->t v σ H Q):jP X es t':=λpins s σ H v u Q I r q=>h pins s σ H v u Q I r (ht v σ H Q q)
theorem tg0:jP X [] (En X.K g0 []):=jP.imp NQ λvs σ H Q q=>by
 obtain⟨aG,G,H₀,S,F,I,ds,S',hd,e,q⟩:=q;unfold g0 at e;split at e
 .cases e;have hd':=hd;rw[hd'];exact q σ (λ_ _=>rfl) I
 .cases e
theorem tgC (h1:PG X e (qI X.K t js))(h2:jP X es (En X.K u ks))(hs:(assignEach (e::es) X.env).map (·.2)=assign e X.env::(assignEach es X.env).map (·.2):=by rfl):jP X (e::es) (En X.K (gC t u) (js++ks)):=jP.imp (zF h1 h2 hs) λvs σ H Q q=>by
 obtain⟨aG,G,H₀,S,F,I,ds,S',hd,e,q⟩:=q;unfold gC at e;split at e
 .rename_i d r;split at e
  .rename_i S1 q1;obtain⟨v,rr,rfl,hv,hr⟩:=hd;refine⟨aG,G,H₀,S,F,I,d,S1,hv,q1,λσ1 k1 I1=>⟨aG,G,H₀,S1,F,I1,r,S',hr,e,λσ2 k2 I2=>q σ2 (λj hj=>?_) I2⟩⟩;rw[k2 j (λz=>hj (mem_append_right _ z)),k1 j (λz=>hj (mem_append_left _ z))]
  .cases e
 .cases e
theorem tgT (hc:X.calm=true)(h:jP X es (En X.K u js))(hn:(assignEach es X.env).length=n:=by rfl)(hst:(assignEach es X.env).findIdx? (·.1)=none:=by rfl):PG X (.Tuple es k pos) (qI X.K (gT n u) js):=PG.imp (V3 hc h hn hst) λv σ H Q q=>by
 obtain⟨aG,G,H₀,S,F,I,d,S',hd,e,q⟩:=q;unfold gT at e;split at e
 .rename_i ds;split at e
  .rename_i hl;obtain⟨a,xs,rfl,h1,h2⟩:=hd;exact⟨xs,I.sub.J8 h1,by rw[<-h2.length];exact hl,aG,G,H₀,S,F,I,ds,S',h2,e,q⟩
  .cases e
 .cases e
end
noncomputable def yt (S:GS):Option Nat->Option (Tg×PyData)
 |none=>none
 |some j=>match S[j]? with
  |some (some (.fr,d))=>some (.fr,d)
  |some (some (.ow,d))=>some (.fr,d)
  |some (some (.io,d))=>some (.fr,d)
  |_=>none
noncomputable def mF (S:GS):List (Option Nat)->Bool
 |[]=>true
 |none::r=>mF S r
 |some j::r=>(match S[j]? with
  |some (some (.fr,_))=>true
  |some (some _)=>false
  |_=>true) && mF S r
def ji (cap:List (Option Nat))(S:GS):GS:=cap.map (yt S)
noncomputable def qJ (t:VG)(fc:VT)(fe:VE)(S:GS):List PyData->Option (List PyData)
 |[]=>some []
 |d::r=>match t d S with
  |none=>none
  |some S2=>match fc S2 with
   |none=>none
   |some false=>qJ t fc fe S r
   |some true=>match fe S2 with
    |none=>none
    |some e=>match qJ t fc fe S r with
     |none=>none
     |some es=>some (e::es)
def tH (fi:VA)(cap:List (Option Nat))(t:VG)(fc:VT)(fe:VE):VE:=λS=>match fi S with
 |some ds=>@ite _ (mF S cap=true/\ds.length<sizeLine) (Classical.propDecidable _) (match qJ t fc fe (ji cap S) ds with
  |some es=>some (.list es)
  |none=>none) none
 |none=>none
def Eo (fi:VA)(cap:List (Option Nat))(t:VG)(fc:VT)(fe:VE):VE:=λS=>match fi S with
 |some ds=>@ite _ (ds.length<sizeLine) (Classical.propDecidable _) (match qJ t fc (wV fe) (ji cap S) ds with
  |some es=>some (.list es)
  |none=>none) none
 |none=>none
theorem Ep {i:Nat}(h:(ji cap S)[i]? =some (some (t,d))):∃j t',cap[i]? =some (some j)/\S[j]? =some (some (t',d))/\t'.dat=true/\t=.fr:=by
 unfold ji at h;rw[getElem?_map] at h;cases q:cap[i]? with
 |none=>rw[q] at h;cases h
 |some o=>
  rw[q] at h;cases o with
  |none=>simp[yt] at h
  |some j=>
   simp only[map_some,yt,Option.some.injEq] at h;split at h
   .rename_i d' hS;cases h;exact⟨j,.fr,rfl,hS,rfl,rfl⟩
   .rename_i d' hS;cases h;exact⟨j,.ow,rfl,hS,rfl,rfl⟩
   .rename_i d' hS;cases h;exact⟨j,.io,rfl,hS,rfl,rfl⟩
   .cases h
theorem uP:∀{cap:List (Option Nat)}{i j:Nat} {t:Tg} {d:PyData},mF S cap=true->cap[i]? =some (some j)->S[j]? =some (some (t,d))->t=.fr
 |[],i,j,t,d,_,h,_=>by simp at h
 |none::r,0,j,t,d,_,h,_=>by simp at h
 |none::r,i+1,j,t,d,hc,h,hs=>uP (cap:=r) (i:=i) hc (by simpa using h) hs
 |some k::r,0,j,t,d,hc,h,hs=>by
  have e:k=j:=by simpa using h
  subst e;unfold mF at hc;rw[hs] at hc;cases t<;>simp at hc ⊢
 |some k::r,i+1,j,t,d,hc,h,hs=>by unfold mF at hc;rw[and_eq_true] at hc;exact uP (cap:=r) (i:=i) hc.2 (by simpa using h) hs
theorem Ol {i j:Nat}(h:cap[i]? =some (some j))(hs:σ[j]? =some (some v)):(bH cap σ)[i]? =some (some v):=by unfold bH;rw[getElem?_map,h];simp only[map_some,hs]
section
variable {cap:List (Option Nat)}
theorem VI.block (I:VI K aG G H₀ S F σ H){R:Hp}(hR:Same R H)(hv:∀(i j:Nat) t d v,cap[i]? =some (some j)->S[j]? =some (some (t,d))->σ[j]? =some (some v)->t.dat=true->N5 K aG H₀ F H j t d v->Has K R d v):
  VI K (λ_=>none) R H (ji cap S) R (bH cap σ) H where
 pl:=λ_ _ _ e=>e
 len:=by unfold ji bH;rw[length_map,length_map]
 same:=Same.refl _
 gf:=Same.refl _
 new:=λ_ _ e=>.inl e
 sub:=hR
 slot:=λi t d e=>by obtain⟨j,t',h1,h2,h3,rfl⟩:=Ep e;obtain⟨v,hv1,hs⟩:=I.slot j t' d h2;exact⟨v,Ol h1 hv1,hv i j t' d v h1 h2 hv1 h3 hs⟩
 inj:=λi j t t' d d' v e1 _ n1=>by obtain⟨_,_,_,_,_,rfl⟩:=Ep e1;exact absurd n1 Bool.false_ne_true
theorem VI.S6 (I:VI K aG G H₀ S F σ H)(hc:mF S cap=true):VI K (λ_=>none) F H (ji cap S) F (bH cap σ) H:=
 I.block I.sub λi j t d v h1 h2 _ _ hs=>by have:=uP hc h1 h2;subst this;exact hs
theorem VI.Om (I:VI K aG G H₀ S F σ H):VI K (λ_=>none) H H (ji cap S) H (bH cap σ) H:=
 I.block (Same.refl _) λi j t d v h1 h2 _ hd hs=>by
  have own:d8 K H₀ F H d v->Has K H d v:=λ⟨a,ds,xs,e1,e2,e3,_,_,e6⟩=>by rw[e1];exact⟨a,xs,e2,aU.of e3,e6.same I.sub⟩
  cases t with
  |fr=>exact Has.same I.sub hs
  |ow=>exact own hs
  |io=>exact own hs.1
  |rf=>cases hd
  |ce=>cases hd
end
theorem X3 {js:List Nat}(hjs:(js.all λj=>cap[j]? ==some none)=true)(k:∀(j:Nat),j∉js->σ'[j]? =(bH cap σ)[j]?):eZ (bH cap σ) σ':=λj v e=>by
 by_cases hj:j∈js
 .have:=all_eq_true.mp hjs j hj;have hc:cap[j]? =some none:=by simpa using this
  unfold bH at e;rw[getElem?_map,hc] at e;simp at e
 .rw[k j hj];exact e
theorem V8 (hjs:(js.all λj=>cap[j]? ==some none)=true)
  (I:VI K aG G H₀ S F σ H)(e1:fi S=some ds)(hlen:ds.length<sizeLine)(e2:qJ t fc fe (ji cap S) ds=some es)
  (Rf:Hp->Hp->Hp)(hb:∀F' H',bh F H F' H'->VI K (λ_=>none) (Rf F' H') H' (ji cap S) (Rf F' H') (bH cap σ) H'/\Same F' (Rf F' H'))
  (hr:∀(F' H' F2 H2:Hp) S2 d v,fe S2=some d->Same F' H'->bh (Rf F' H') H' F2 H2->Has K F2 d v->∃F3,bh F' H' F3 H2/\Has K F3 d v)(hfe:∀S d,fe S=some d->fe' S=some d)
  (q:∀v F' H',bh F H F' H'->RN K F H F' H' (.list es) v->Q v H'):wF (uO K fi) cap (qI K t js) (fQ K fc) (tV K RS fe') σ H Q:=by
 refine⟨aG,G,H₀,S,F,I,ds,e1,λJ F1 H1 g1 it D hD=>?_⟩;refine⟨λi m H'=>∃F' es1 es2 ys,m=ds.length - i/\i<=ds.length/\H' D=some (.lst ys)/\F' D=none/\aK K F' es1 ys/\bh F1 H1 F' H'/\es1.length<=i/\qJ t fc fe (ji cap S) (ds.drop i)=some es2/\es1++es2=es,?_,?_⟩
 .exact⟨_,F1,[],es,[],rfl,zero_le _,aA,g1.fh.free hD,rfl,bh.alloc g1.fh hD,zero_le _,e2,rfl⟩
 .rintro i m H' ⟨F',es1,es2,ys,rfl,hi,Eh,hFD,hh,g,hle,hr2,happ⟩;by_cases hlt:i<ds.length
  .have hd:ds[i]? =some ds[i]:=by simp[hlt]
   rw[List.drop_eq_getElem_cons hlt] at hr2;obtain⟨go,yl⟩:=it.go i ds[i] F' H' hd g.ff g.fh;refine .inr ⟨go,λx H2 y=>?_⟩;obtain⟨F2,g2,hx⟩:=yl x H2 y;obtain⟨IB,hR⟩:=hb F2 H2 ((g1.trans g).trans g2);have hr':=hr F2 H2;generalize Rf F2 H2=R at*
   generalize ds[i]=d0 at*
   unfold qJ at hr2;cases q1:t d0 (ji cap S) with
   |none=>rw[q1] at hr2;cases hr2
   |some S2=>
    rw[q1] at hr2;simp only at hr2;refine⟨λ_=>none,R,H2,ji cap S,R,IB,d0,S2,Has.same hR hx,q1,λσ2 k2 I2=>⟨X3 hjs k2,?_⟩⟩;have D2:=g2.hh _ _ Eh;cases q2:fc S2 with
    |none=>rw[q2] at hr2;cases hr2
    |some b=>
     rw[q2] at hr2;refine⟨λ_=>none,R,H2,S2,R,I2,b,q2,λF3 H3 g3=>?_⟩;cases b with
     |false=>
      simp only[false_eq_true,if_false];have gg:bh F' H' F2 H3:=⟨g2.hh.trans g3.hh,g2.ff,hR.trans (g3.ff.trans g3.fh),g2.new,g2.pl⟩;have hF2:F2 D=none:=by
       cases z:F2 D with
       |none=>rfl
       |some o=>
        rcases g2.new D o z with w|w|w
        .rw[hFD] at w;cases w
        .rw[Eh] at w;cases w
        .have:=g2.fh D o z;rw[D2] at this;cases this;simp[oH] at w
      exact⟨ds.length - (i+1),by omega,F2,es1,es2,ys,rfl,hlt,g3.hh _ _ D2,hF2,hh.same g2.ff,g.trans gg,by omega,hr2,happ⟩
     |true=>
      simp only[if_true] at hr2 ⊢;cases q3:fe S2 with
      |none=>rw[q3] at hr2;cases hr2
      |some e0=>
       rw[q3] at hr2;simp only at hr2;cases q4:qJ t fc fe (ji cap S) (ds.drop (i+1)) with
       |none=>rw[q4] at hr2;cases hr2
       |some es3=>
        rw[q4] at hr2;cases hr2;refine⟨λ_=>none,R,H2,S2,F3,I2.grow g3,e0,hfe _ _ q3,λv F4 H4 g4 hv=>?_⟩;obtain⟨F5,g5,hv5⟩:=hr' F4 H4 S2 e0 v q3 g2.fh (g3.trans g4) hv;have D4:=g5.hh _ _ D2;have V9:=g2.trans g5;have hF5:F5 D=none:=by
         cases z:F5 D with
         |none=>rfl
         |some o=>
          rcases V9.new D o z with w|w|w
          .rw[hFD] at w;cases w
          .rw[Eh] at w;cases w
          .have:=V9.fh D o z;rw[D4] at this;cases this;simp[oH] at w
        have hly:=hh.length;refine⟨ys,D4,by omega,ds.length - (i+1),by omega,F5,es1++[e0],es3,ys++[v],rfl,hlt,aA,hF5,aK.snoc hv5 (hh.same V9.ff),?_,by simp;omega,rfl,by simpa using happ⟩;have Oo:=g.trans V9;refine⟨λb o e=>?_,Oo.ff,λb o e=>?_,Oo.new,Oo.pl⟩
        .rw[aB (bO e hD)];exact Oo.hh b o e
        .rw[aB (bO e hF5)];exact Oo.fh b o e
  .have hie:i=ds.length:=by omega
   subst hie;rw[List.drop_eq_nil_of_le (le_refl _)] at hr2;cases hr2;rw[append_nil] at happ;subst happ;refine .inl ⟨it.stop _ F' H' (le_refl _) g.ff g.fh,q _ F' H' (g1.trans g) ⟨_,D,ys,rfl,rfl,g1.hh.free hD,hFD,Eh,hh⟩⟩
theorem agM (hjs:(js.all λj=>cap[j]? ==some none)=true)(q:tV K RN (tH fi cap t fc fe) σ H Q):
  wF (uO K fi) cap (qI K t js) (fQ K fc) (tV K RS fe) σ H Q:=by
 obtain⟨aG,G,H₀,S,F,I,d,e,q⟩:=q;unfold tH at e;split at e
 .rename_i ds e1;split at e
  .rename_i hc;split at e
   .rename_i es e2;cases e;exact V8 hjs I e1 hc.2 e2 (λF' _=>F') (λF' H' g=>⟨(I.grow g).S6 hc.1,Same.refl _⟩) (λF' H' F2 H2 S2 d v _ _ g2 hv=>⟨F2,g2,hv⟩) (λ_ _ h=>h) q
   .cases e
  .cases e
 .cases e
theorem ad4 (hjs:(js.all λj=>cap[j]? ==some none)=true)(q:tV K RN (Eo fi cap t fc fe) σ H Q):
  wF (uO K fi) cap (qI K t js) (fQ K fc) (tV K RS fe) σ H Q:=by
 obtain⟨aG,G,H₀,S,F,I,d,e,q⟩:=q;unfold Eo at e;split at e
 .rename_i ds e1;split at e
  .rename_i hc;split at e
   .rename_i es e2;cases e;refine V8 hjs I e1 hc e2 (λ_ H'=>H') (λF' H' g=>⟨(I.grow g).Om,g.fh⟩) (λF' H' F2 H2 S2 d v he fh g2 hv=>?_) (λ_ _ h=>(pF h).1) q;exact⟨wide F' H2,uH ⟨g2.hh,Same.refl _,fh.trans g2.hh,λ_ _ e=>.inl e,λ_ _ _ e=>e⟩,rZ (pF he).2 (Has.same g2.fh hv)⟩
   .cases e
  .cases e
 .cases e
noncomputable def nH:VT:=λ_=>some true
theorem lO.imp (h:lO X ifs t)(ht:∀σ H Q,t' σ H Q->t σ H Q):lO X ifs t':=λpins s σ H Q I q=>h pins s σ H Q I (ht σ H Q q)
theorem ifN:lO X [] (fQ X.K nH):=lO.imp Hr λ_ H Q q=>by obtain⟨aG,G,H₀,S,F,I,b,e,q⟩:=q;cases e;exact q F H (bh.refl I.sub)
theorem dLC (he:PE X e (wF (uO X.K fi) cap (qI X.K t js) (fQ X.K fc) (tV X.K RS fe)))(hjs:(js.all λj=>cap[j]? ==some none)=true:=by rfl):PE X e (tV X.K RN (tH fi cap t fc fe)):=
 he.imp λ_ _ _ q=>agM hjs q
theorem agN (he:PE X e (wF (uO X.K fi) cap (qI X.K t js) (fQ X.K fc) (tV X.K RS fe)))(hjs:(js.all λj=>cap[j]? ==some none)=true:=by rfl):PE X e (tV X.K RN (Eo fi cap t fc fe)):=
 he.imp λ_ _ _ q=>ad4 hjs q
inductive Out where
 |fail
 |nxt (S:GS)
 |ret (S:GS) (b:Bool) (d:PyData)
 |brk (S:GS)
 |cnt (S:GS)
noncomputable abbrev VS:=GS->Out
def RR (K:Frag)(H₀:Hp)(S:GS)(σ:St)(F H:Hp):Bool->PyData->V->Prop
 |false,d,v=>Has K F d v
 |true,d,v=>d8 K H₀ F H d v/\∀(i:Nat) t d',S[i]? =some (some (t,d'))->t.own=true->σ[i]? ≠some (some v)
def yu (K:Frag)(aG:Nat->Option Addr)(G H₀:Hp)(D:Ends):Out->Prop
 |.fail=>False
 |.nxt S=>∀F σ H,VI K aG G H₀ S F σ H->D.nx σ H
 |.brk S=>∀F σ H,VI K aG G H₀ S F σ H->D.bk σ H
 |.cnt S=>∀F σ H,VI K aG G H₀ S F σ H->D.ct σ H
 |.ret S b d=>∀v F σ H,VI K aG G H₀ S F σ H->RR K H₀ S σ F H b d v->D.rt v H
def gY (K:Frag)(g:VS):TS:=λD σ H=>∃aG G H₀ S F,VI K aG G H₀ S F σ H/\yu K aG G H₀ D (g S)
section
variable {D:Ends}
theorem VI.self (I:VI K aG G H₀ S F σ H):VI K aG F H₀ S F σ H:=⟨I.len,I.same,Same.refl _,λ_ _ e=>.inl e,I.sub,I.slot,I.inj,λ_ _ _ e=>e⟩
theorem VI.rebase (I:VI K aG G H₀ S F σ H)(J:VI K aG F H₀ S' F' σ' H'):VI K aG G H₀ S' F' σ' H':=⟨J.len,J.same,I.gf.trans J.gf,λa o e=>by
 rcases J.new a o e with z|z|z
 .exact I.new a o z
 .exact .inr (.inl z)
 .exact .inr (.inr z),J.sub,J.slot,J.inj,λa o u e=>I.pl a o u (J.pl a o u e)⟩
end
noncomputable def uQ:VS:=λS=>.nxt S
noncomputable def bf (g1 g2:VS):VS:=λS=>match g1 S with
 |.nxt S1=>g2 S1
 |o=>o
noncomputable def Bc (c:VT)(g1 g2:VS):VS:=λS=>match c S with
 |some true=>g1 S
 |some false=>g2 S
 |none=>.fail
section
variable {rest a b:List Stmt}
theorem agO:eX X [] (gY X.K uQ):=eX.imp bM λD σ H q=>by obtain⟨aG,G,H₀,S,F,I,q⟩:=q;exact q F σ H I
theorem agP (h:PS X s (gY X.K g)):eX X [s] (gY X.K g):=aN h
theorem agQ (h1:PS X s (gY X.K g1))(h2:eX X rest (gY X.K g2)):eX X (s::rest) (gY X.K (bf g1 g2)):=eX.imp (aJ h1 h2) λD σ H q=>by
 obtain⟨aG,G,H₀,S,F,I,q⟩:=q;refine⟨aG,G,H₀,S,F,I,?_⟩;unfold bf at q;cases e:g1 S with
 |fail=>rw[e] at q;exact q
 |brk S1=>rw[e] at q;exact q
 |cnt S1=>rw[e] at q;exact q
 |ret S1 b d=>rw[e] at q;exact q
 |nxt S1=>rw[e] at q;exact λF' σ' H' I'=>⟨aG,G,H₀,S1,F',I',q⟩
theorem sIf (hc:PT X c (fQ X.K tc))(ha:eX X a (gY X.K g1))(hb:eX X b (gY X.K g2)):PS X (.If c a b pos) (gY X.K (Bc tc g1 g2)):=PS.imp (cu hc ha hb) λD σ H q=>by
 obtain⟨aG,G,H₀,S,F,I,q⟩:=q;unfold Bc at q;cases e:tc S with
 |none=>rw[e] at q;exact q.elim
 |some k=>
  rw[e] at q;refine⟨aG,G,H₀,S,F,I,k,e,λF' H' g=>?_⟩;cases k with
  |true=>simp only[if_true];exact⟨aG,G,H₀,S,F',I.grow g,q⟩
  |false=>simp only[false_eq_true,if_false];exact⟨aG,G,H₀,S,F',I.grow g,q⟩
noncomputable def Wa:VS:=λ_=>.fail
theorem aaS:PS X s (gY X.K Wa):=PS.imp Rk λD σ H q=>by obtain⟨_,_,_,_,_,_,q⟩:=q;exact q
end
noncomputable def lU (f:VE):VS:=λS=>match f S with
 |some d=>.ret S false d
 |none=>.fail
noncomputable def lA (f:VE):VS:=λS=>match f S with
 |some d=>.ret S true d
 |none=>.fail
noncomputable def Cw (i:Nat):VS:=λS=>match S[i]? with
 |some (some (.ow,d))=>.ret (S.set i none) true d
 |some (some (.fr,d))=>.ret S false d
 |_=>.fail
section
variable {σ:St}
theorem lB {S:GS}(h:(S.set i none)[j]? =some (some x)):j≠i/\S[j]? =some (some x):=by
 by_cases hj:j=i
 .subst hj;by_cases hl:j<S.length
  .rw[getElem?_set_self hl] at h;cases h
  .rw[getElem?_eq_none (by rw[length_set];omega)] at h;cases h
 .rw[getElem?_set_ne (Ne.symm hj)] at h;exact⟨hj,h⟩
theorem VI.drop (I:VI K aG G H₀ S F σ H)(i:Nat):VI K aG G H₀ (S.set i none) F σ H where
 pl:=I.pl
 len:=by rw[length_set];exact I.len
 same:=I.same
 gf:=I.gf
 new:=I.new
 sub:=I.sub
 slot:=λj t d e=>I.slot j t d (lB e).2
 inj:=λj k t t' d d' v e1 e2=>I.inj j k t t' d d' v (lB e1).2 (lB e2).2
theorem Bd (I:VI K aG G H₀ S F σ H){i:Nat}(e:S[i]? =some (some (t,d)))(ht:t.own=true)(hv:σ[i]? =some (some (.ref a))):∃xs,H a=some xs:=by
 obtain⟨v,hv',hs⟩:=I.slot i t d e;rw[hv] at hv';cases hv';cases t with
 |fr=>cases ht
 |rf=>cases ht
 |ow=>obtain⟨a',ds,xs,_,e2,e3,_⟩:=hs;cases e2;exact⟨_,e3⟩
 |io=>obtain⟨a',ds,xs,_,e2,e3,_⟩:=hs.1;cases e2;exact⟨_,e3⟩
 |ce=>obtain⟨a',c,o,_,e2,e3,_⟩:=hs;cases e2;exact⟨_,e3⟩
theorem RN.own {d:PyData}{v:V}(I:VI K aG G H₀ S F σ H)(r:RN K F H F' H' d v):d8 K H₀ F' H' d v/\∀(i:Nat) t d',S[i]? =some (some (t,d'))->t.own=true->σ[i]? ≠some (some v):=by obtain⟨ds,a,xs,h1,h2,h3,h4,h5,h6⟩:=r;refine⟨⟨a,ds,xs,h1,h2,h5,h4,I.same.free h3,h6⟩,λi t d' e ht hv=>?_⟩;rw[h2] at hv;obtain⟨ys,hy⟩:=Bd I e ht hv;rw[h3] at hy;cases hy
end
section
variable {s:Stmt}
theorem agR (he:PE X e (tV X.K RS f)):PS X (.Return (some e) pos) (gY X.K (lU f)):=PS.imp (cT he) λD σ H q=>by
 obtain⟨aG,G,H₀,S,F,I,q⟩:=q;unfold lU at q;cases e:f S with
 |none=>rw[e] at q;exact q.elim
 |some d=>rw[e] at q;exact⟨aG,G,H₀,S,F,I,d,e,λv F' H' g hv=>q v F' σ H' (I.grow g) hv⟩
theorem ad5 (he:PE X e (tV X.K RN f)):PS X (.Return (some e) pos) (gY X.K (lA f)):=PS.imp (cT he) λD σ H q=>by
 obtain⟨aG,G,H₀,S,F,I,q⟩:=q;unfold lA at q;cases e:f S with
 |none=>rw[e] at q;exact q.elim
 |some d=>rw[e] at q;exact⟨aG,G,H₀,S,F,I,d,e,λv F' H' g hv=>q v F' σ H' (I.grow g) (RN.own I hv)⟩
theorem ad6 {i:Nat}(he:PE X e (vR i)):PS X (.Return (some e) pos) (gY X.K (Cw i)):=PS.imp (cT he) λD σ H q=>by
 obtain⟨aG,G,H₀,S,F,I,q⟩:=q;unfold Cw at q;split at q
 .rename_i d hS;obtain⟨v,hv,hs⟩:=I.slot i .ow d hS;show vR i σ H D.rt;unfold vR;rw[hv];refine q v F σ H (I.drop i) ⟨hs,λj t d' e ht hv'=>?_⟩;obtain⟨hj,e⟩:=lB e;exact hj (I.inj j i t .ow d' d v e hS ht rfl hv' hv)
 .rename_i d hS;obtain⟨v,hv,hs⟩:=I.slot i .fr d hS;show vR i σ H D.rt;unfold vR;rw[hv];exact q v F σ H I hs
 .exact q.elim
noncomputable def gEx (f:VE):VS:=λS=>match f S with
 |some _=>.nxt S
 |none=>.fail
noncomputable def bY (f:VE)(t:VG):VS:=λS=>match f S with
 |some d=>match t d S with
  |some S'=>.nxt S'
  |none=>.fail
 |none=>.fail
theorem sAs (h:PS X s (gM (tV X.K RS f) (qI X.K t js))):PS X s (gY X.K (bY f t)):=PS.imp h λD σ H q=>by
 obtain⟨aG,G,H₀,S,F,I,q⟩:=q;unfold bY at q;cases e:f S with
 |none=>rw[e] at q;exact q.elim
 |some d=>
  rw[e] at q;simp only at q;cases e2:t d S with
  |none=>rw[e2] at q;exact q.elim
  |some S'=>rw[e2] at q;exact⟨aG,G,H₀,S,F,I,d,e,λv F' H' g hv=>⟨aG,G,H₀,S,F',I.grow g,d,S',hv,e2,λσ' _ I'=>q F' σ' H' I'⟩⟩
def gOw (i:Nat)(f:VE):VS:=λS=>match f S with
 |some d=>if p7 S i=true then .nxt (S.set i (some (.ow,d))) else .fail
 |none=>.fail
theorem VI.aaU (I:VI K aG G H₀ S F σ H)(ho:d8 K H₀ F H d v)(hn:∀(i:Nat) t d',S[i]? =some (some (t,d'))->t.own=true->σ[i]? ≠some (some v)):
  VI K aG G H₀ (S.set i (some (.ow,d))) F (σ.set i (some v)) H where
 pl:=I.pl
 len:=by rw[length_set,length_set];exact I.len
 same:=I.same
 gf:=I.gf
 new:=I.new
 sub:=I.sub
 slot:=λj t d' e=>by
  by_cases hj:j=i
  .subst hj;by_cases hl:j<S.length
   .rw[getElem?_set_self hl] at e;cases e;exact⟨v,getElem?_set_self (by rw[<-I.len];exact hl),ho⟩
   .rw[getElem?_eq_none (by rw[length_set];omega)] at e;cases e
  .rw[getElem?_set_ne (Ne.symm hj)] at e ⊢;exact I.slot j t d' e
 inj:=λj k t t' d1 d2 u e1 e2 n1 n2 v1 v2=>by
  have aaV:∀{j:Nat}{t:Tg} {d1:PyData} {u:V},(S.set i (some (.ow,d)))[j]? =some (some (t,d1))->(σ.set i (some v))[j]? =some (some u)->j=i->u=v:=λ{j t d1 u} e1 v1 z=>by
   subst z;by_cases hl:j<S.length
   .rw[getElem?_set_self (by rw[<-I.len];exact hl)] at v1;exact(Option.some.inj (Option.some.inj v1)).symm
   .rw[getElem?_eq_none (by rw[length_set];omega)] at e1;cases e1
  by_cases hj:j=i
  .by_cases hk:k=i
   .rw[hj,hk]
   .have:=aaV e1 v1 hj;subst this;rw[getElem?_set_ne (Ne.symm hk)] at e2 v2;exact absurd v2 (hn k t' d2 e2 n2)
  .by_cases hk:k=i
   .have:=aaV e2 v2 hk;subst this;rw[getElem?_set_ne (Ne.symm hj)] at e1 v1;exact absurd v1 (hn j t d1 e1 n1)
   .rw[getElem?_set_ne (Ne.symm hj)] at e1 v1;rw[getElem?_set_ne (Ne.symm hk)] at e2 v2;exact I.inj j k t t' d1 d2 u e1 e2 n1 n2 v1 v2
theorem sOw (h:PS X s (gM (tV X.K RN f) (cN i))):PS X s (gY X.K (gOw i f)):=PS.imp h λD σ H q=>by
 obtain⟨aG,G,H₀,S,F,I,q⟩:=q;unfold gOw at q;cases e:f S with
 |none=>rw[e] at q;exact q.elim
 |some d=>
  rw[e] at q;simp only at q;split at q
  .refine⟨aG,G,H₀,S,F,I,d,e,λv F' H' g hv=>?_⟩;obtain⟨h1,h2⟩:=RN.own I hv;exact q F' _ H' ((I.grow g).aaU h1 h2)
  .exact q.elim
noncomputable def dR (i:Nat)(S:GS):GS:=match S[i]? with
 |some (some (.ow,d))=>S.set i (some (.fr,d))
 |_=>S
def gFz (i:Nat)(g:VS):VS:=λS=>g (dR i S)
theorem VI.dR (I:VI K aG G H₀ S F σ H)(i:Nat):∃F',VI K aG G H₀ (dR i S) F' σ H:=by
 unfold VM.dR;split
 .rename_i d hS;obtain⟨v,hv,a,ds,xs,rfl,rfl,e3,e4,e5,e6⟩:=I.slot i .ow d hS;have hl:i<S.length:=by
   by_cases h:i<S.length
   .exact h
   .rw[getElem?_eq_none (by omega)] at hS;cases hS
  have s1:Same F (upd F a (.lst xs)):=aW e4;have s2:Same (upd F a (.lst xs)) H:=λb o e=>by
   by_cases hb:b=a
   .subst hb;rw[aA] at e;cases e;exact e3
   .rw[aB hb] at e;exact I.sub b o e
  refine⟨upd F a (.lst xs),⟨by rw[length_set];exact I.len,I.same,I.gf.trans s1,λb o e=>?_,s2,λj t d' e=>?_,λj k t t' d1 d2 u g1 g2 n1 n2 v1 v2=>?_,λb x u e=>by
   by_cases hb:b=a
   .subst hb;rw[aA] at e;cases e
   .rw[aB hb] at e;exact I.pl b x u e⟩⟩
  .by_cases hb:b=a
   .subst hb;exact .inr (.inl e5)
   .rw[aB hb] at e;exact I.new b o e
  .by_cases hj:j=i
   .subst hj;rw[getElem?_set_self hl] at e;cases e;exact⟨_,hv,a,xs,rfl,aU.of aA,e6.same s1⟩
   .rw[getElem?_set_ne (Ne.symm hj)] at e;obtain⟨u,hu,hs⟩:=I.slot j t d' e;have ow:t.own=true->d8 K H₀ F H d' u->d8 K H₀ (upd F a (.lst xs)) H d' u:=λht ⟨b,ds',ys,h1,h2,h3,h4,h5,h6⟩=>by
     refine⟨b,ds',ys,h1,h2,h3,?_,h5,h6.same s1⟩
     have:b≠a:=λz=>by subst z;exact hj (I.inj j i t .ow d' _ _ e hS ht rfl hu (by rw[h2];exact hv))
     rw[aB this];exact h4
    refine⟨u,hu,?_⟩;cases t with
    |fr=>exact Has.same s1 hs
    |ow=>exact ow rfl hs
    |io=>exact⟨ow rfl hs.1,hs.2⟩
    |rf=>exact hs
    |ce=>
     obtain⟨b,c,o,h1,h2,h3,h4,h5,h6⟩:=hs;refine⟨b,c,o,h1,h2,h3,?_,h5,h6.same s1⟩
     have:b≠a:=λz=>by subst z;exact hj (I.inj j i .ce .ow d' _ _ e hS rfl rfl hu (by rw[h2];exact hv))
     rw[aB this];exact h4
  .have nj:∀{j:Nat}{t:Tg} {d1:PyData},(S.set i (some (.fr,.list ds)))[j]? =some (some (t,d1))->t.own=true->S[j]? =some (some (t,d1)):=λ{j t d1} g1 n1=>by
    by_cases hj:j=i
    .subst hj;rw[getElem?_set_self hl] at g1;cases g1;exact absurd n1 Bool.false_ne_true
    .rw[getElem?_set_ne (Ne.symm hj)] at g1;exact g1
   exact I.inj j k t t' d1 d2 u (nj g1 n1) (nj g2 n2) n1 n2 v1 v2
 .exact⟨F,I⟩
end
section
variable {σ:St}
noncomputable def jj (S:GS)(i:Nat):Option (Tg×List PyData):=match S[i]? with
 |some (some (.ow,.list ds))=>some (.ow,ds)
 |some (some (.io,.list ds))=>some (.io,ds)
 |_=>none
theorem Bf (h:jj S i=some (t,ds)):S[i]? =some (some (t,.list ds))/\t.own=true:=by
 unfold jj at h;split at h
 .cases h;exact⟨by assumption,rfl⟩
 .cases h;exact⟨by assumption,rfl⟩
 .cases h
theorem wY (h:jj S i=some (t,ds)):t=.ow\/t=.io:=by
 unfold jj at h;split at h
 .cases h;exact .inl rfl
 .cases h;exact .inr rfl
 .cases h
theorem VI.own (I:VI K aG G H₀ S F σ H)(h:jj S i=some (t,ds)):∃a xs,σ[i]? =some (some (.ref a))/\H a=some (.lst xs)/\aK K F ds xs/\
  ∀(ds':List PyData) (xs':List V) (F' H':Hp),bh F H F' H'->aK K F' ds' xs'->VI K aG G H₀ (S.set i (some (t,.list ds'))) F' σ (upd H' a (.lst xs')):=by
 obtain⟨hS,ht⟩:=Bf h;obtain⟨v,hv,hs⟩:=I.slot i t _ hS;have ho:d8 K H₀ F H (.list ds) v:=by
  rcases wY h with rfl|rfl
  .exact hs
  .exact hs.1
 obtain⟨a,ds0,xs,e1,rfl,e3,e4,e5,e6⟩:=ho;cases e1;have hl:i<S.length:=by
  by_cases h:i<S.length
  .exact h
  .rw[getElem?_eq_none (by omega)] at hS;cases hS
 refine⟨a,xs,hv,e3,e6,λds' xs' F' H' g hx=>?_⟩;have J:=I.grow g;have hF':F' a=none:=by
  cases q:F' a with
  |none=>rfl
  |some o=>
   rcases g.new a o q with z|z|z
   .rw[e4] at z;cases z
   .rw[e3] at z;cases z
   .have:=g.fh a o q;rw[g.hh _ _ e3] at this;cases this;simp[oH] at z
 refine⟨by rw[length_set];exact I.len,λb o e=>?_,J.gf,J.new,λb o e=>?_,λj t' d' e=>?_,λj k t1 t2 d1 d2 u g1 g2 n1 n2 v1 v2=>?_,J.pl⟩
 .rw[aB (bO e e5)];exact J.same b o e
 .rw[aB (bO e hF')];exact J.sub b o e
 .by_cases hj:j=i
  .subst hj;rw[getElem?_set_self hl] at e;cases e;refine⟨_,hv,?_⟩;have o:d8 K H₀ F' (upd H' a (.lst xs')) (.list ds') (.ref a):=⟨a,ds',xs',rfl,rfl,aA,hF',e5,hx⟩;rcases wY h with rfl|rfl
   .exact o
   .exact⟨o,hs.2⟩
  .rw[getElem?_set_ne (Ne.symm hj)] at e;obtain⟨u,hu,hs'⟩:=J.slot j t' d' e;have ow:t'.own=true->d8 K H₀ F' H' d' u->d8 K H₀ F' (upd H' a (.lst xs')) d' u:=λht' ⟨b,ds1,ys,h1,h2,h3,h4,h5,h6⟩=>by
    refine⟨b,ds1,ys,h1,h2,?_,h4,h5,h6⟩
    have:b≠a:=λz=>by subst z;exact hj (I.inj j i t' t d' _ _ e hS ht' ht hu (by rw[h2];exact hv))
    rw[aB this];exact h3
   refine⟨u,hu,?_⟩;cases t' with
   |fr=>exact hs'
   |ow=>exact ow rfl hs'
   |io=>exact⟨ow rfl hs'.1,hs'.2⟩
   |rf=>exact hs'
   |ce=>
    obtain⟨b,c,o,h1,h2,h3,h4,h5,h6⟩:=hs';refine⟨b,c,o,h1,h2,?_,h4,h5,h6⟩
    have:b≠a:=λz=>by subst z;exact hj (I.inj j i .ce t d' _ _ e hS rfl ht hu (by rw[h2];exact hv))
    rw[aB this];exact h3
 .have nj:∀{j:Nat}{t1:Tg} {d1:PyData},(S.set i (some (t,.list ds')))[j]? =some (some (t1,d1))->t1.own=true->∃d2,S[j]? =some (some (t1,d2)):=λ{j t1 d1} g1 n1=>by
   by_cases hj:j=i
   .subst hj;rw[getElem?_set_self hl] at g1;cases g1;exact⟨_,hS⟩
   .rw[getElem?_set_ne (Ne.symm hj)] at g1;exact⟨_,g1⟩
  obtain⟨d3,q1⟩:=nj g1 n1;obtain⟨d4,q2⟩:=nj g2 n2;exact I.inj j k t1 t2 d3 d4 u q1 q2 n1 n2 v1 v2
end
def S7 (i:Nat)(fs:VA):VS:=λS=>match jj S i,fs S with
 |some (t,ds),some [d]=>@ite _ (ds.length<sizeLine) (Classical.propDecidable _) (.nxt (S.set i (some (t,.list (ds++[d]))))) .fail
 |_,_=>.fail
def S8 (i:Nat)(fk f:VE):VS:=λS=>match f S,fk S,jj S i with
 |some d,some (.int k),some (t,ds)=>(match nq ds.length k with
  |some j=>.nxt (S.set i (some (t,.list (ds.set j d))))
  |none=>.fail)
 |_,_,_=>.fail
def Kv (h:PyData->PyData->Option PyData)(i:Nat)(fk f:VE):VS:=λS=>match jj S i,fk S,f S with
 |some (t,ds),some (.int k),some y=>(match nq ds.length k with
  |some j=>(match ds[j]? with
   |some x=>(match h x y with
    |some z=>.nxt (S.set i (some (t,.list (ds.set j z))))
    |none=>.fail)
   |none=>.fail)
  |none=>.fail)
 |_,_,_=>.fail
noncomputable def S9 (h:PyData->PyData->Option PyData)(i:Nat)(f:VE):VS:=λS=>match S[i]?,f S with
 |some (some (.fr,x)),some y=>(match h x y with
  |some z=>.nxt (S.set i (some (.fr,z)))
  |none=>.fail)
 |_,_=>.fail
section
variable {h:PyData->PyData->Option PyData}
theorem agS (hp:PS X s (jG (pB X.K "list" yj (vR i) (uL X.K fs)))):PS X s (gY X.K (S7 i fs)):=PS.imp hp λD σ H q=>by
 obtain⟨aG,G,H₀,S,F,I,q⟩:=q;unfold S7 at q;split at q
 .rename_i t ds d q1 q2;split at q
  .rename_i hz;obtain⟨a,xs,hv,hH,hx,nx⟩:=I.own q1;unfold jG pB vR;simp only[hv];refine⟨.inl ⟨rfl,xs,aU.of hH⟩,aG,G,H₀,S,F,I,[d],q2,λvs F' H' g hvs=>?_⟩;obtain⟨v,rfl,hv2⟩:=aK.one hvs;refine⟨xs,g.hh _ _ hH,by rw[<-hx.length];exact hz,q F' σ _ (nx _ _ F' H' g (aK.snoc hv2 (hx.same g.ff)))⟩
  .exact q.elim
 .exact q.elim
theorem Kw (hp:PS X s (gM (tV X.K RS f) (ZM (vR i) (tV X.K RW fk) Ka))):PS X s (gY X.K (S8 i fk f)):=PS.imp hp λD σ H q=>by
 obtain⟨aG,G,H₀,S,F,I,q⟩:=q;unfold S8 at q;split at q
 .rename_i d k t ds q1 q2 q3;split at q
  .rename_i j q4;refine⟨aG,G,H₀,S,F,I,d,q1,λv F1 H1 g1 hv=>?_⟩;obtain⟨a,xs,hv',hH,hx,nx⟩:=(I.grow g1).own q3;show vR i σ H1 _;unfold vR;rw[hv'];refine⟨aG,G,H₀,S,F1,I.grow g1,_,q2,λu F2 H2 g2 hu=>?_⟩;have eu:=hu;subst eu;refine⟨xs,j,g2.hh _ _ hH,by rw[<-hx.length];exact q4,q F2 σ _ (nx _ _ F2 H2 g2 (aK.set (Has.same g2.ff hv) j (hx.same g2.ff)))⟩
  .exact q.elim
 .exact q.elim
theorem getL:ZR X (RJ X.K):=by
 intro pins s σ H x y v u Q I rx ry h;obtain⟨p,xs,i,z,rfl,rfl,hq,he,q⟩:=h;cases rx;obtain⟨t,rfl⟩:=ry;obtain⟨its,r,pl,hz⟩:=I.list hq;obtain⟨j,h1,h2,h3,h4,h5⟩:=qG he;obtain⟨w,ew,lg⟩:=r.get h2;have hl:=r.length;have hn:=mL;have fin:EP X pins σ Q w s:=⟨z,H,I,lg,q⟩;by_cases h0:0<=i
 .have hj:i.toNat=j:=by rw[seqIndex_of h0 h5] at h1;exact Option.some.inj h1
  exact wpAny_getItem_list pl.isList h0 (by omega) (by rw[hj];simpa using ew) fin
 .have hj:(i+(its.toArray.size)).toNat=j:=by rw[seqIndex_neg (by omega) h4] at h1;rw[size_toArray,←hl];exact Option.some.inj h1
  exact wpAny_getItem_list_neg pl.isList (by omega) (by rw[size_toArray]<;>omega) (by omega) (by rw[hj];simpa using ew) fin
theorem Wb (hd:fK X.K h r)(hp:PS X s (Vt (vR i) (tV X.K RW fk) (tV X.K RS f) (RJ X.K) r Ka)):PS X s (gY X.K (Kv h i fk f)):=PS.imp hp λD σ H q=>by
 obtain⟨aG,G,H₀,S,F,I,q⟩:=q;unfold Kv at q;split at q
 .rename_i t ds k y q1 q2 q3;split at q
  .rename_i j q4;split at q
   .rename_i x q5;split at q
    .rename_i z q6;obtain⟨a,xs,hv',hH,hx,nx⟩:=I.own q1;show vR i σ H _;unfold vR;rw[hv'];refine⟨aG,G,H₀,S,F,I,_,q2,λu F1 H1 g1 hu=>?_⟩;have eu:=hu;subst eu;obtain⟨w,hw1,hw2⟩:=hx.at q5;have q4':nq xs.length k=some j:=by rw[<-hx.length];exact q4
     refine⟨a,xs,k,w,rfl,rfl,aU.of (g1.hh _ _ hH),by unfold cR;rw[q4'];exact hw1,?_⟩;refine⟨aG,G,H₀,S,F1,I.grow g1,y,q3,λv F2 H2 g2 hv=>?_⟩;have g:=g1.trans g2;refine hd H2 w v x y z _ q6 (Has.same g2.fh (Has.same g.ff hw2)) (Has.same g2.fh hv) λv2 hv2=>?_;exact⟨xs,j,g.hh _ _ hH,q4',q F2 σ _ (nx _ _ F2 H2 g (aK.set (hv2 F2) j (hx.same g.ff)))⟩
    .exact q.elim
   .exact q.elim
  .exact q.elim
 .exact q.elim
theorem agT (hd:fK X.K h r)(hp:PS X s (Cq i (tV X.K RS f) r)):PS X s (gY X.K (S9 h i f)):=PS.imp hp λD σ H q=>by
 obtain⟨aG,G,H₀,S,F,I,q⟩:=q;unfold S9 at q;split at q
 .rename_i x y q1 q2;split at q
  .rename_i z q3;obtain⟨v,hv,hs⟩:=I.slot i .fr x q1;unfold Cq;rw[hv];refine⟨aG,G,H₀,S,F,I,y,q2,λu F1 H1 g1 hu=>?_⟩;refine hd H1 v u x y z _ q3 (Has.same g1.fh (Has.same g1.ff hs)) (Has.same g1.fh hu) λw hw=>?_;exact q F1 _ H1 ((I.grow g1).set (hw F1))
  .exact q.elim
 .exact q.elim
end
noncomputable def mZ (t:VG)(g:VS):List PyData->GS->Out
 |[],S=>.nxt S
 |d::r,S=>match t d S with
  |none=>.fail
  |some S1=>match g S1 with
   |.nxt S2=>mZ t g r S2
   |.cnt S2=>mZ t g r S2
   |.brk S2=>.nxt S2
   |.ret S2 b e=>.ret S2 b e
   |.fail=>.fail
def Ky (fi:VA)(t:VG)(g:VS):VS:=λS=>match fi S with
 |some ds=>mZ t g ds S
 |none=>.fail
noncomputable def oR (c:VT)(g:VS):Nat->GS->Out
 |0,_=>.fail
 |n+1,S=>match c S with
  |none=>.fail
  |some false=>.nxt S
  |some true=>match g S with
   |.nxt S2=>oR c g n S2
   |.cnt S2=>oR c g n S2
   |.brk S2=>.nxt S2
   |.ret S2 b e=>.ret S2 b e
   |.fail=>.fail
open Classical in
def gWh (c:VT)(g:VS):VS:=λS=>if h:∃n,oR c g n S≠ .fail then oR c g h.choose S else .fail
section
variable {tc:VT}
theorem agU (hp:PS X s (Dq (uO X.K fi) (qI X.K t js) (gY X.K g))):PS X s (gY X.K (Ky fi t g)):=PS.imp hp λD σ H q=>by
 obtain⟨aG,G,H₀,S,F,I,q⟩:=q;unfold Ky at q;split at q
 .rename_i ds q1;refine⟨aG,G,H₀,S,F,I,ds,q1,λJ F1 H1 g1 it=>?_⟩;have I1:=I.grow g1;refine⟨λi m σ' H'=>∃S' F',m=ds.length - i/\i<=ds.length/\VI X.K aG F1 H₀ S' F' σ' H'/\yu X.K aG G H₀ D (mZ t g (ds.drop i) S'),⟨_,S,F1,rfl,zero_le _,I1.self,q⟩,?_⟩;rintro i m σ' H' ⟨S',F',rfl,hi,I',q'⟩;by_cases hlt:i<ds.length
  .have hd:ds[i]? =some ds[i]:=by simp[hlt]
   rw[List.drop_eq_getElem_cons hlt] at q';obtain⟨go,yl⟩:=it.go i ds[i] F' H' hd I'.gf I'.sub;generalize ds[i]=d0 at*
   unfold mZ at q';cases q2:t d0 S' with
   |none=>rw[q2] at q';exact q'.elim
   |some S1=>
    rw[q2] at q';simp only at q';refine .inr ⟨go,λσ2 H2=>∃m',m'<ds.length - i/\∃S2 F2,m'=ds.length - (i+1)/\i+1<=ds.length/\VI X.K aG F1 H₀ S2 F2 σ2 H2/\yu X.K aG G H₀ D (mZ t g (ds.drop (i+1)) S2),λ_ _ h=>h,λx H2 y=>?_⟩;obtain⟨F2,g2,hx⟩:=yl x H2 y;refine⟨aG,F1,H₀,S',F2,I'.grow g2,d0,S1,hx,q2,λσ3 _ I3=>⟨aG,F1,H₀,S1,F2,I3,?_⟩⟩;cases q3:g S1 with
    |fail=>rw[q3] at q';exact q'.elim
    |nxt S2=>rw[q3] at q';exact λF4 uR H4 I4=>⟨_,by omega,S2,F4,rfl,hlt,I4,q'⟩
    |cnt S2=>rw[q3] at q';exact λF4 uR H4 I4=>⟨_,by omega,S2,F4,rfl,hlt,I4,q'⟩
    |brk S2=>rw[q3] at q';exact λF4 uR H4 I4=>q' F4 uR H4 (I1.rebase I4)
    |ret S2 b e=>rw[q3] at q';exact λv F4 uR H4 I4 r=>q' v F4 uR H4 (I1.rebase I4) r
  .have e:i=ds.length:=by omega
   subst e;rw[List.drop_eq_nil_of_le (le_refl _)] at q';exact .inl ⟨it.stop _ F' H' (le_refl _) I'.gf I'.sub,q' F' σ' H' (I1.rebase I')⟩
 .exact q.elim
theorem sWh (hp:PS X s (Mz (fQ X.K tc) (gY X.K g))):PS X s (gY X.K (gWh tc g)):=PS.imp hp λD σ H q=>by
 obtain⟨aG,G,H₀,S,F,I,q⟩:=q;unfold gWh at q;split at q
 .rename_i hx;refine⟨λm σ' H'=>∃S' F',VI X.K aG G H₀ S' F' σ' H'/\yu X.K aG G H₀ D (oR tc g m S'),⟨hx.choose,S,F,I,q⟩,?_⟩;rintro m σ' H' ⟨S',F',I',q'⟩;cases m with
  |zero=>exact q'.elim
  |succ n=>
   rw[oR] at q';cases q2:tc S' with
   |none=>rw[q2] at q';exact q'.elim
   |some b=>
    rw[q2] at q';refine⟨aG,G,H₀,S',F',I',b,q2,λF2 H2 g2=>?_⟩;cases b with
    |false=>simp only[false_eq_true,if_false];exact q' F2 σ' H2 (I'.grow g2)
    |true=>
     simp only[if_true];simp only at q';refine⟨λσ2 H2=>∃m',m'<n+1/\∃S' F',VI X.K aG G H₀ S' F' σ2 H2/\yu X.K aG G H₀ D (oR tc g m' S'),λ_ _ h=>h,aG,G,H₀,S',F2,I'.grow g2,?_⟩;cases q3:g S' with
     |fail=>rw[q3] at q';exact q'.elim
     |nxt S2=>rw[q3] at q';exact λF4 uR H4 I4=>⟨n,by omega,S2,F4,I4,q'⟩
     |cnt S2=>rw[q3] at q';exact λF4 uR H4 I4=>⟨n,by omega,S2,F4,I4,q'⟩
     |brk S2=>rw[q3] at q';exact λF4 uR H4 I4=>q' F4 uR H4 I4
     |ret S2 b e=>rw[q3] at q';exact λv F4 uR H4 I4 r=>q' v F4 uR H4 I4 r
 .exact q.elim
end
noncomputable def ini (nN:Nat)(ds:List PyData):GS:=ds.map (λd=>some (.fr,d))++replicate (nN - ds.length) none
def nu (n nN:Nat)(g:VS):lF:=λds=>if ds.length=n then(match g (ini nN ds) with
 |.ret _ b d=>some (b,d)
 |.nxt _=>some (false,.none)
 |_=>none) else none
theorem Hz {i:Nat}(h:(ini nN ds)[i]? =some (some (t,d))):ds[i]? =some d/\t=.fr:=by
 unfold ini at h;by_cases hi:i<ds.length
 .rw[List.getElem?_append_left (by simpa using hi),getElem?_map] at h;cases q:ds[i]? with
  |none=>rw[q] at h;cases h
  |some d'=>rw[q] at h;simp at h;exact⟨by rw[h.2],h.1.symm⟩
 .rw[List.getElem?_append_right (by simpa using hi),List.getElem?_replicate] at h;split at h
  .cases h
  .cases h
section
variable {base:Heap}
theorem aaW {ds:List PyData}(hs:Same G H)(h:aK K G ds vs):VI K (λ_=>none) G H (ini N.length ds) G (L2.start N vs) H where
 pl:=λ_ _ _ e=>e
 len:=by unfold ini L2.start;simp[h.length]
 same:=Same.refl _
 gf:=Same.refl _
 new:=λ_ _ e=>.inl e
 sub:=hs
 slot:=λi t d e=>by
  obtain⟨e1,rfl⟩:=Hz e;obtain⟨v,hv,hh⟩:=h.at e1;refine⟨v,?_,hh⟩;have hl:i<vs.length:=by
   by_cases z:i<vs.length
   .exact z
   .rw[getElem?_eq_none (by omega)] at hv;cases hv
  unfold L2.start;rw[List.getElem?_append_left (by simpa using hl),getElem?_map,hv];rfl
 inj:=λi j t t' d d' v e1 _ n1=>by rw[(Hz e1).2] at n1;exact absurd n1 Bool.false_ne_true
theorem agV (F:cP K x qual st f fd)(S:bI N ps (aj st))
  (hb:∀(cdv:Value) (A:Around) (outer:List Env) (s:Shared) (H:Hp) (E:XK),cI k (A.deeper (PyProof.Rows.envOfC qual (aj st) s.heap.objs.size f cdv))->eX (cC cV P w K mg base N qual (aj st) f cdv A outer s H E).ni (cH st) (gY K g)):
  aQ P w K mg base cV (k+1) f fd ps (ig K (nu ps.length N.length g)):=by
 refine F.ok S (λvs H Q E h=>?_) (λcdv A outer s H vs Q E hr h=>⟨_,hb cdv A outer s H E hr,?_⟩)
 .obtain⟨G,ds,_,hx,b,d,e,_⟩:=h;unfold nu at e;split at e
  .rename_i hl;rw[<-hx.length];exact hl
  .cases e
 .obtain⟨G,ds,hs,hx,b,d,e,q⟩:=h;unfold nu at e;split at e
  .refine⟨λ_=>none,G,H,ini N.length ds,G,aaW hs hx,?_⟩;split at e
   .rename_i S' b' d' e2;cases e;rw[e2];intro v F' σ' H' I r;refine q v F' H' ⟨I.same,I.gf,I.sub,I.new,I.pl⟩ ?_;cases b with
    |false=>exact r
    |true=>obtain⟨⟨a,es,xs,h1,h2,h3,h4,h5,h6⟩,_⟩:=r;exact⟨es,a,xs,h1,h2,h5,h4,h3,h6⟩
   .rename_i S' e2;cases e;rw[e2];intro F' σ' H' I;exact q .non F' H' ⟨I.same,I.gf,I.sub,I.new,I.pl⟩ rfl
   .cases e
  .cases e
theorem fnV (F:cP K x qual st f fd)(S:bI N ps (aj st))(hn:ps.length=n)(hN:N.length=nN)
  (hb:∀(cdv:Value) (A:Around) (outer:List Env) (s:Shared) (H:Hp) (E:XK),cI k (A.deeper (PyProof.Rows.envOfC qual (aj st) s.heap.objs.size f cdv))->eX (cC cV P w K mg base N qual (aj st) f cdv A outer s H E).ni (cH st) (gY K g)):
  aQ P w K mg base cV (k+1) f fd ps (ig K (nu n nN g)):=by
 subst hn hN;exact agV F S hb
end
open PyProof.Rows (list_addW)
def ad7 (K:Frag):R2:=λx y H Q=>∃l b xs zs,x=.ref l/\y=.ref b/\aU K H l xs/\aU K H b zs/\xs.length+zs.length<=sizeLine/\∀p,H p=none->Q (.ref p) (upd H p (.lst (xs++zs)))
theorem zM:cg X (binaryOp .Add) (ad7 X.K):=by
 intro pins s σ H x y v u Q I rx ry h;obtain⟨l,b,xs,zs,rfl,rfl,hH,hB,hz,q⟩:=h;cases rx;cases ry;obtain⟨its,r,pl,z⟩:=I.list hH;obtain⟨its2,r2,Hq,z2⟩:=I.list hB;have hl:=r.length;have hl2:=r2.length;obtain⟨⟨cls,dd,data,sl⟩,n,ho,hc,hdd,hd⟩:=pl;obtain⟨⟨cls2,dd2,data2,sl2⟩,n2,ho2,hc2,ai2,hd2⟩:=Hq;simp only at hc hd hc2 hd2;subst hc hd hc2 hd2;have e:its.toArray++its2.toArray=(its++its2).toArray:=by simp
 refine concat_meets ⟨_,ho,rfl⟩ ⟨_,ho2,rfl⟩ noFill_list_add seq_list_add PySem.F.slot_list_add PySem.F.entry_list_add (PySem.F.args_list_add_2 _ _) (list_addW l b its.toArray its2.toArray n n2 dd dd2 sl sl2 (by rw[size_toArray,size_toArray];omega)) ⟨ho,ho2,?_⟩;rw[e];exact⟨.ref _,_,I.J5 (r.append r2) (by rw[length_append];omega),rfl,q _ I.fresh⟩
noncomputable def bZ:PyData->PyData->Option PyData
 |.list xs,.list ys=>@ite _ (xs.length+ys.length<=sizeLine) (Classical.propDecidable _) (some (.list (xs++ys))) none
 |_,_=>none
noncomputable def Tc:PyData->PyData->Option PyData
 |.list xs,.int k=>@ite _ (k<2^63∧-(2^63)<=k/\xs.length*k.toNat<=sizeLine) (Classical.propDecidable _) (some (.list (replicate k.toNat xs).flatten)) none
 |_,_=>none
theorem aK.rep (h:aK K H ds vs):∀k:Nat,aK K H (replicate k ds).flatten (replicate k vs).flatten
 |0=>rfl
 |k+1=>by rw[replicate_succ,replicate_succ,flatten_cons,flatten_cons];exact aK.append (aK.rep h k) h
section
variable {fs:VA}
theorem dCat (ha:PE X a (tV X.K RM fa))(hb:PE X b (tV X.K RM fb)):PE X (.BinOp a .Add b pos) (tV X.K RN (v2 bZ fa fb)):=(bU zM ha hb).imp λ_ H Q q=>by
 obtain⟨aG,G,H₀,S,F,I,d,e,q⟩:=q;obtain⟨x,y,ex,ey,e⟩:=kI e;refine⟨aG,G,H₀,S,F,I,x,ex,λv F1 H1 g1 hx=>⟨aG,G,H₀,S,F1,I.grow g1,y,ey,λu F2 H2 g2 hy=>?_⟩⟩;unfold bZ at e;split at e
 .split at e
  .rename_i hz;cases e;obtain⟨p,xs,rfl,h1,h2⟩:=RM.list g2.fh (RM.grow g2 hx);obtain⟨p',ys,rfl,h3,h4⟩:=RM.list g2.fh hy;have g:=g1.trans g2;refine⟨p,p',xs,ys,rfl,rfl,h1,h3,by rw[<-h2.length,←h4.length];exact hz,λz hz=>q _ F2 _ (g.trans (bh.alloc g2.fh hz)) ⟨_,z,_,rfl,rfl,g.hh.free hz,g2.fh.free hz,aA,aK.append h4 h2⟩⟩
  .cases e
 .cases e
theorem agW (ha:PE X a (tV X.K RN fa))(hb:PE X b (tV X.K RW fb)):PE X (.BinOp a .Mult b pos) (tV X.K RN (v2 Tc fa fb)):=(bU aam ha hb).imp λ_ H Q q=>by
 obtain⟨aG,G,H₀,S,F,I,d,e,q⟩:=q;obtain⟨x,y,ex,ey,e⟩:=kI e;refine⟨aG,G,H₀,S,F,I,x,ex,λv F1 H1 g1 hx=>⟨aG,G,H₀,S,F1,I.grow g1,y,ey,λu F2 H2 g2 hy=>?_⟩⟩;unfold Tc at e;split at e
 .split at e
  .rename_i hz;cases e;obtain⟨es,p,xs,e1,rfl,h3,h4,h5,h6⟩:=hx;cases e1;have eu:=hy;subst eu;have g:=g1.trans g2;refine⟨p,_,xs,rfl,rfl,g2.hh _ _ h5,hz.2.1,hz.1,by rw[<-h6.length];exact hz.2.2,λz hz=>q _ F2 _ (g.trans (bh.alloc g2.fh hz)) ⟨_,z,_,rfl,rfl,g.hh.free hz,g2.fh.free hz,aA,aK.rep (h6.same g2.ff) _⟩⟩
  .cases e
 .cases e
end
noncomputable abbrev aaX:=tu λa b=>.int (Builtin.bitXor a b)
theorem hXor:fK K aaX (rM λi j=>.int (Builtin.bitXor i j)):=nP λ_ _ _ _=>rfl
def agX (i:Nat)(f:VE):VS:=λS=>match f S with
 |some d=>if p7 S i=true then .nxt (S.set i (some (.fr,d))) else .fail
 |none=>.fail
section
variable {s:Stmt}
def agY (i:Nat):VS:=λS=>match jj S i with
 |some (t,_)=>.nxt (S.set i (some (t,.list [])))
 |none=>.fail
def agZ (i:Nat):VS:=λS=>match jj S i with
 |some (t,ds)=>if ds=[] then .fail else .nxt (S.set i (some (t,.list ds.dropLast)))
 |none=>.fail
theorem aK.dropLast (h:aK K H ds vs):aK K H ds.dropLast vs.dropLast:=by rw[List.dropLast_eq_take,List.dropLast_eq_take,h.length];exact aK.take _ h
end
structure Bl (mg:Str->Option Value):Prop where
 len:mg "len"=none
 list:mg "list"=none
 range:mg "range"=none
 enumerate:mg "enumerate"=none
 zip:mg "zip"=none
 abs:mg "abs"=none
 sum:mg "sum"=none
 min:mg "min"=none
 max:mg "max"=none
 int:mg "int"=none
 bool:mg "bool"=none
 tuple:mg "tuple"=none
 str:mg "str"=none
 sorted:mg "sorted"=none
 set:mg "set"=none
 isinstance:mg "isinstance"=none
structure oU (K:Frag):Prop where
 int:sE K "int"
 bool:sE K "bool"
 list:sE K "list"
 tuple:sE K "tuple"
theorem X4:sE K "int":=⟨λd d' h=>by
 cases d with
 |none=>cases h;kernel_rfl
 |bool _=>cases h;kernel_rfl
 |int _=>cases h;kernel_rfl
 |str _=>cases h;kernel_rfl
 |list _=>cases h;kernel_rfl
 |tuple _=>cases h;kernel_rfl
 |dict _=>cases h⟩
theorem Td:sE K "bool":=⟨λd d' h=>by
 cases d with
 |none=>cases h;kernel_rfl
 |bool _=>cases h;kernel_rfl
 |int _=>cases h;kernel_rfl
 |str _=>cases h;kernel_rfl
 |list _=>cases h;kernel_rfl
 |tuple _=>cases h;kernel_rfl
 |dict _=>cases h⟩
theorem Te:sE K "list":=⟨λd d' h=>by
 cases d with
 |none=>cases h;kernel_rfl
 |bool _=>cases h;kernel_rfl
 |int _=>cases h;kernel_rfl
 |str _=>cases h;kernel_rfl
 |list _=>cases h;kernel_rfl
 |tuple _=>cases h;kernel_rfl
 |dict _=>cases h⟩
theorem kit_tuple:sE K "tuple":=⟨λd d' h=>by
 cases d with
 |none=>cases h;kernel_rfl
 |bool _=>cases h;kernel_rfl
 |int _=>cases h;kernel_rfl
 |str _=>cases h;kernel_rfl
 |list _=>cases h;kernel_rfl
 |tuple _=>cases h;kernel_rfl
 |dict _=>cases h⟩
theorem p8 (K:Frag):oU K:=⟨X4,Td,Te,kit_tuple⟩
def Cy (K:Frag):Sp:=λvs H Q _=>∃(a:Addr) (ns:List Int),vs=[.ref a]/\aU K H a (ns.map V.int)/\ns.length<=63/\∀H',Q (.bl true) H'
theorem walk {l:PySem.W.OpenLaw}{K:Params->Frag}(hn:l.most=some 63)(hdf:d.params.defaults=[])(hr:cI k callerA)
  (hY:∀(w:World) (h:Heap),YP w h->(K w.params).In h)
  (F:∀(w:World) (mg:Str->Option Value) (fa:Addr) (h:Heap),(K w.params).In h->h.Ns mainGlobals mg->mg d.name=some (.ref fa)->
   ∃fd:FuncData,(∀(s:Shared) (u:Value),BindsTo s fd ⟨[u],[]⟩ [(x,u)])/\∀base:Heap,(K w.params).In base->base.Ns mainGlobals mg->aQ l.prog w (K w.params) mg base cV k fa fd [x] (Cy (K w.params))):
  PySem.W.WalkO q loose XP YP l.row.toRowW d [] (λf vs=>PySem.call f vs):=
 L2.Xy hn (by decide) hdf hr hY F (λ_ _ a ns hl _ hS=>⟨a,ns,rfl,hS,hl,λ_=>rfl⟩) λ_ _ _ _ _ z=>z
noncomputable def gq (K:Frag)(F:Hp)(v0:V):List (Option PyData)->List V->Prop
 |[],vs=>vs=[]
 |some d::r,vs=>∃v us,vs=v::us/\Has K F d v/\gq K F v0 r us
 |none::r,vs=>∃us,vs=v0::us/\gq K F v0 r us
theorem gq.same (e:Same F F'):∀{os:List (Option PyData)}{vs:List V},gq K F v0 os vs->gq K F' v0 os vs
 |[],_,h=>h
 |some _::_,_,⟨v,us,h1,h2,h3⟩=>⟨v,us,h1,Has.same e h2,gq.same e h3⟩
 |none::_,_,⟨us,h1,h3⟩=>⟨us,h1,gq.same e h3⟩
theorem gq.length:∀{os:List (Option PyData)}{vs:List V},gq K F v0 os vs->os.length=vs.length
 |[],vs,h=>by have h':vs=[]:=h;rw[h'];rfl
 |some _::_,_,⟨v,us,h1,_,h3⟩=>by rw[h1];exact congrArg (· +1) (gq.length h3)
 |none::_,_,⟨us,h1,h3⟩=>by rw[h1];exact congrArg (· +1) (gq.length h3)
theorem gq.at:∀{os:List (Option PyData)}{vs:List V} {i:Nat} {o:Option PyData},gq K F v0 os vs->os[i]? =some o->∃v,vs[i]? =some v/\match o with|some d=>Has K F d v|none=>v=v0
 |[],_,i,o,_,e=>by simp at e
 |some d::_,_,0,o,⟨v,us,h1,h2,h3⟩,e=>by
  have e':some d=o:=by simpa using e
  subst e';rw[h1];exact⟨v,rfl,h2⟩
 |none::_,_,0,o,⟨us,h1,h3⟩,e=>by
  have e':none=o:=by simpa using e
  subst e';rw[h1];exact⟨v0,rfl,rfl⟩
 |some _::r,_,i+1,o,⟨v,us,h1,h2,h3⟩,e=>by
  obtain⟨u,q1,q2⟩:=gq.at (i:=i) (o:=o) h3 (by simpa using e);rw[h1];exact⟨u,by simpa using q1,q2⟩
 |none::r,_,i+1,o,⟨us,h1,h3⟩,e=>by obtain⟨u,q1,q2⟩:=gq.at (i:=i) (o:=o) h3 (by simpa using e);rw[h1];exact⟨u,by simpa using q1,q2⟩
noncomputable abbrev yw:=GS->Option (List (Option PyData))
def Bg (K:Frag)(j:Nat)(fs:yw):TA:=λσ H Q=>∃aG G H₀ S F,VI K aG G H₀ S F σ H/\∃v0,σ[j]? =some (some v0)/\∃os,fs S=some os/\∀vs F' H',bh F H F' H'->gq K F' v0 os vs->Q vs H'
noncomputable def ioO:yw:=λ_=>some []
def ioC (f:VE)(fs:yw):yw:=λS=>match f S with
 |some d=>match fs S with
  |some os=>some (some d::os)
  |none=>none
 |none=>none
def ioN (fs:yw):yw:=λS=>match fs S with
 |some os=>some (none::os)
 |none=>none
section
variable {j:Nat}
theorem io0:PA X [] (Bg X.K j ioO):=PA.imp aM λ_ H Q q=>by obtain⟨aG,G,H₀,S,F,I,v0,hv,os,e,q⟩:=q;cases e;exact q [] F H (bh.refl I.sub) rfl
theorem ioS (he:PE X e (tV X.K RS f))(hr:PA X es (Bg X.K j fs))(hs:starEach (e::es) X.env=(false,eval e X.env)::starEach es X.env:=by rfl):PA X (e::es) (Bg X.K j (ioC f fs)):=PA.imp (au he hr hs) λ_ H Q q=>by
 obtain⟨aG,G,H₀,S,F,I,v0,hv,os,e,q⟩:=q;unfold ioC at e;split at e
 .rename_i d q1;split at e
  .rename_i os' q2;cases e;exact⟨aG,G,H₀,S,F,I,d,q1,λv F1 H1 g1 hx=>⟨aG,G,H₀,S,F1,I.grow g1,v0,hv,os',q2,λvs F2 H2 g2 hy=>q _ F2 H2 (g1.trans g2) ⟨v,vs,rfl,Has.same g2.ff hx,hy⟩⟩⟩
  .cases e
 .cases e
theorem ioJ (he:PE X e (vR j))(hr:PA X es (Bg X.K j fs))(hs:starEach (e::es) X.env=(false,eval e X.env)::starEach es X.env:=by rfl):PA X (e::es) (Bg X.K j (ioN fs)):=PA.imp (au he hr hs) λσ H Q q=>by
 obtain⟨aG,G,H₀,S,F,I,v0,hv,os,e,q⟩:=q;unfold ioN at e;split at e
 .rename_i os' q2;cases e;show vR j σ H _;unfold vR;simp only[hv];exact⟨aG,G,H₀,S,F,I,v0,hv,os',q2,λvs F2 H2 g2 hy=>q _ F2 H2 g2 ⟨vs,rfl,hy⟩⟩
 .cases e
end
noncomputable abbrev Tf:=List (Option PyData)->List PyData->Option (Bool×PyData×List PyData)
def Kz (K:Frag)(m:Tf):Sp:=λvs H Q _=>∃G os a ls xs,Same G H/\G a=none/\H a=some (.lst xs)/\aK K G ls xs/\gq K G (.ref a) os vs/\∃b d ls',m os ls=some (b,d,ls')/\
 ∀v F' H' xs',bh G (hide a H) F' (hide a H')->F' a=none->H' a=some (.lst xs')->aK K F' ls' xs'->RB b K G (hide a H) F' (hide a H') d v->Q v H'
theorem Ti (h:H a=some o)(p:HO):upd (upd H a p) a o=H:=by
 funext b;by_cases hb:b=a
 .subst hb;rw[aA,h]
 .rw[aB hb,aB hb]
theorem X5 (g:bh F1 (hide a H1) F' (hide a H'))(hF:F' a=none)(h1:H1 a=some o):bh F1 H1 F' (upd H' a o):=by
 refine⟨λb u e=>?_,g.ff,λb u e=>?_,λb u e=>?_,g.pl⟩
 .by_cases hb:b=a
  .subst hb;rw[aA];rw[h1] at e;exact e
  .rw[aB hb];have:=g.hh b u (by rw[hide_ne hb];exact e);rw[hide_ne hb] at this;exact this
 .have hb:=bO e hF;rw[aB hb];have:=g.fh b u e;rw[hide_ne hb] at this;exact this
 .have hb:=bO e hF;rcases g.new b u e with z|z|z
  .exact .inl z
  .rw[hide_ne hb] at z;exact .inr (.inl z)
  .exact .inr (.inr z)
theorem VI.bound (I:VI K aG G H₀ S F σ H)(h:jj S i=some (t,ds)):∃a,σ[i]? =some (some (.ref a))/\F a=none/\H₀ a=none:=by
 obtain⟨hS,ht⟩:=Bf h;obtain⟨v,hv,hs⟩:=I.slot i t _ hS;cases t with
 |fr=>cases ht
 |rf=>cases ht
 |ce=>rcases wY h with z|z<;>cases z
 |ow=>obtain⟨a,_,_,_,rfl,_,h4,h5,_⟩:=hs;exact⟨a,hv,h4,h5⟩
 |io=>obtain⟨a,_,_,_,rfl,_,h4,h5,_⟩:=hs.1;exact⟨a,hv,h4,h5⟩
theorem HD {os:List (Option PyData)}(I:VI K aG G H₀ S F σ H)(ho:jj S j=some (t,ls))(hf:fs S=some os)(hm:m os ls=some (b,d,ls'))
  (q:∀v F' H',VI K aG G H₀ (S.set j (some (t,.list ls'))) F' σ H'->RR K H₀ (S.set j (some (t,.list ls'))) σ F' H' b d v->Q v H'):jm (Kz K m) [] E0 (Bg K j fs) σ H Q:=by
 obtain⟨a,hv,hFa,hH0⟩:=I.bound ho;refine⟨aG,G,H₀,S,F,I,_,hv,os,hf,λvs F1 H1 g1 hvs=>?_⟩;show Kz K m (vs++[]) H1 Q E0;rw[append_nil];have I1:=I.grow g1;obtain⟨a',xs,hv',hH,hx,nx⟩:=I1.own ho;rw[hv] at hv';cases hv';obtain⟨a2,hv2,hF1,_⟩:=I1.bound ho;rw[hv] at hv2;cases hv2;refine⟨F1,os,a,ls,xs,g1.fh,hF1,hH,hx,hvs,b,d,ls',hm,λv F' H' xs' g ag0 ag1 hx' hr=>?_⟩;have g2:=X5 g ag0 hH;have I2:=nx ls' xs' F' _ g2 hx';rw[Ti ag1] at I2;refine q v F' H' I2 ?_;cases b with
 |false=>exact hr
 |true=>
  obtain⟨es,p,ys,e1,e2,e3,e4,e5,e6⟩:=hr;have hpa:p≠a:=λz=>by subst z;unfold hide at e5;rw[if_pos rfl] at e5;cases e5
  rw[hide_ne hpa] at e3 e5;refine⟨⟨p,es,ys,e1,e2,e5,e4,I1.same.free e3,e6⟩,λi t' d' e ht hv'=>?_⟩;rw[e2] at hv';by_cases hij:i=j
  .subst hij;rw[hv] at hv';cases hv';exact hpa rfl
  .rw[getElem?_set_ne (Ne.symm hij)] at e;obtain⟨zs,hz⟩:=Bd I1 e ht hv';rw[e3] at hz;cases hz
def Wc (m:Tf)(j:Nat)(fs:yw)(i:Nat):VS:=λS=>match jj S j,fs S with
 |some (t,ls),some os=>(match m os ls with
  |some (_,d,ls')=>if p7 (S.set j (some (t,.list ls'))) i=true/\i≠j then .nxt ((S.set j (some (t,.list ls'))).set i (some (.fr,d))) else .fail
  |none=>.fail)
 |_,_=>.fail
def Wf (m:Tf)(j:Nat)(fs:yw):VS:=λS=>match jj S j,fs S with
 |some (t,ls),some os=>(match m os ls with
  |some (_,_,ls')=>.nxt (S.set j (some (t,.list ls')))
  |none=>.fail)
 |_,_=>.fail
theorem d8.ad8 (I:VI K aG G H₀ S F σ H)(ho:d8 K H₀ F H d v)(hn:∀(i:Nat) t d',S[i]? =some (some (t,d'))->t.own=true->σ[i]? ≠some (some v)):∃F',VI K aG G H₀ S F' σ H/\Has K F' d v:=by
 obtain⟨a,ds,xs,rfl,rfl,h3,h4,h5,h6⟩:=ho;have s1:Same F (upd F a (.lst xs)):=aW h4;refine⟨upd F a (.lst xs),⟨I.len,I.same,I.gf.trans s1,λb o e=>?_,λb o e=>?_,λi t d' e=>?_,I.inj,λb x u e=>by
  by_cases hb:b=a
  .subst hb;rw[aA] at e;cases e
  .rw[aB hb] at e;exact I.pl b x u e⟩,a,xs,rfl,aU.of aA,h6.same s1⟩
 .by_cases hb:b=a
  .subst hb;exact .inr (.inl h5)
  .rw[aB hb] at e;exact I.new b o e
 .by_cases hb:b=a
  .subst hb;rw[aA] at e;cases e;exact h3
  .rw[aB hb] at e;exact I.sub b o e
 .obtain⟨u,hu,hs⟩:=I.slot i t d' e;have ow:t.own=true->d8 K H₀ F H d' u->d8 K H₀ (upd F a (.lst xs)) H d' u:=λht ⟨b,ds',ys,g1,g2,g3,g4,g5,g6⟩=>by
   refine⟨b,ds',ys,g1,g2,g3,?_,g5,g6.same s1⟩
   have:b≠a:=λz=>by subst z;exact hn i t d' e ht (by rw[hu,g2])
   rw[aB this];exact g4
  refine⟨u,hu,?_⟩;cases t with
  |fr=>exact Has.same s1 hs
  |ow=>exact ow rfl hs
  |io=>exact⟨ow rfl hs.1,hs.2⟩
  |rf=>exact hs
  |ce=>
   obtain⟨b,c,o,g1,g2,g3,g4,g5,g6⟩:=hs;refine⟨b,c,o,g1,g2,g3,?_,g5,g6.same s1⟩
   have:b≠a:=λz=>by subst z;exact hn i .ce d' e rfl (by rw[hu,g2])
   rw[aB this];exact g4
section
variable {fs:yw}
theorem ad9 {i:Nat}(hp:PS X s (gM (jm (Kz X.K m) [] E0 (Bg X.K j fs)) (cN i))):PS X s (gY X.K (Wc m j fs i)):=PS.imp hp λD σ H q=>by
 obtain⟨aG,G,H₀,S,F,I,q⟩:=q;unfold Wc at q;split at q
 .rename_i t ls os q1 q2;split at q
  .rename_i b d ls' q3;split at q
   .refine HD I q1 q2 q3 λv F' H' I' r=>?_;cases b with
    |false=>exact q F' _ H' (I'.set r)
    |true=>obtain⟨F'',yd,hd⟩:=d8.ad8 I' r.1 r.2;exact q F'' _ H' (yd.set hd)
   .exact q.elim
  .exact q.elim
 .exact q.elim
theorem aea (hp:PS X s (jG (jm (Kz X.K m) [] E0 (Bg X.K j fs)))):PS X s (gY X.K (Wf m j fs)):=PS.imp hp λD σ H q=>by
 obtain⟨aG,G,H₀,S,F,I,q⟩:=q;unfold Wf at q;split at q
 .rename_i t ls os q1 q2;split at q
  .rename_i b d ls' q3;exact HD I q1 q2 q3 λv F' H' I' _=>q F' σ H' I'
  .exact q.elim
 .exact q.elim
end
section
variable {base:Heap}
end
section
variable {apos cpos:Pos}
def gRv (i:Nat):VS:=λS=>match jj S i with
 |some (t,ds)=>.nxt (S.set i (some (t,.list ds.reverse)))
 |none=>.fail
noncomputable def aeb (k:Nat)(y:α)(xs:List α):List α:=xs.take k++y::xs.drop k
def ag2 (i:Nat)(fs:VA):VS:=λS=>match jj S i,fs S with
 |some (t,ds),some [.int k,d]=>@ite _ (ds.length<sizeLine/\0<=k/\k<2^62) (Classical.propDecidable _) (.nxt (S.set i (some (t,.list (aeb k.toNat d ds))))) .fail
 |_,_=>.fail
def aaY (i:Nat)(fs:VA):VS:=λS=>match jj S i,fs S with
 |some (t,ds),some [.int k]=>@ite _ (k.toNat<ds.length/\0<=k/\k<2^62) (Classical.propDecidable _) (.nxt (S.set i (some (t,.list (ds.eraseIdx k.toNat))))) .fail
 |_,_=>.fail
end
noncomputable def unlike (ns:List Int):List Int:=PyProof.Rows.firstMet (λi=>ns.getD i 0) ns.length
section
def X6:PyData->Option PyData
 |.list ds=>match intsOf ds with
  |some ns=>@ite _ (ns.length<=4000) (Classical.propDecidable _) (some (.int (unlike ns).length)) none
  |none=>none
 |_=>none
def X7 (f:VE):VE:=v1 X6 f
end
open PyProof PyProof.Rows
section
variable {r r':R2}
theorem ag3 (ho:cg X (compareOp op) r)(ho':cg X (compareOp op') r')(ha:PE X a ta)(hb:PE X b tb)(hc:PE X c tc)
  (hm:lastMarks [op,op'] [b,c]=false:=by with_unfolding_all rfl):PT X (.Compare a [op,op'] [b,c] pos) (iY (Sd r r' ta tb tc)):=by
 intro pins s σ H Q I q;refine isTrue_chain (aO (ha pins s σ H _ I q) λv s1 ⟨x,H1,I1,r1,q1⟩=>test_link (aO (hb pins s1 σ H1 _ I1 q1) λu s2 ⟨y,H2,I2,r2,q2⟩=>
  aO (ho pins s2 σ H2 x y v u _ I2 r1 r2 q2) λd s3 ⟨z,H3,I3,r3,q3⟩=>?_)) hm
 cases z with
 |bl k=>
  cases r3;refine wpAny_truthy_bool ?_;cases k with
  |false=>exact ite_ff ⟨H3,I3,q3⟩
  |true=>
   refine ite_tt (test_last (aO (hc pins s3 σ H3 _ I3 q3) λw' s4 ⟨z',H4,I4,r4,q4⟩=>aO (ho' pins s4 σ H4 y z' u w' _ I4 r2 r4 q4) λd' s5 ⟨z2,H5,I5,r5,q5⟩=>?_));cases z2 with
   |bl k2=>cases r5;exact wpAny_truthy_bool ⟨H5,I5,q5⟩
   |_=>exact False.elim q5
 |_=>exact False.elim q3
theorem cCh (ho:cg X (compareOp op) r)(hd:fK X.K h r)(ho':cg X (compareOp op') r')(hd':fK X.K h' r')(ha:PE X a (tV X.K RW fa))(hb:PE X b (tV X.K RW fb))(hc:PE X c (tV X.K RW fc))
  (hm:lastMarks [op,op'] [b,c]=false:=by with_unfolding_all rfl):PT X (.Compare a [op,op'] [b,c] pos) (fQ X.K (vB (oM h h' fa fb fc))):=
 PT.imp (ag3 ho ho' ha hb hc hm) λ_ _ _ q=>Sv (λ_ q=>aaI hd hd' q) q
end
end VM
namespace VM
open PyProof.Rows L2
section
variable {tg:Expr}
end
end VM
namespace VM
open L2
set_option exponentiation.threshold 3000
theorem Er (h1: -10000000000000000000000000000000000000000000000000000000000000000000000000000000000000000000000000000<j)(h2:j<10000000000000000000000000000000000000000000000000000000000000000000000000000000000000000000000000000):j.natAbs<2^2000:=by have e:(10000000000000000000000000000000000000000000000000000000000000000000000000000000000000000000000000000:Nat)<=2^2000:=le_trans (show(10000000000000000000000000000000000000000000000000000000000000000000000000000000000000000000000000000:Nat)<=2^340 by decide +kernel) (Nat.pow_le_pow_right (by decide) (by decide));omega
theorem qK (h1: -10000000000000000000000000000000000000000000000000000000000000000000000000000000000000000000000000000<a)(h2:a<10000000000000000000000000000000000000000000000000000000000000000000000000000000000000000000000000000)(h3: -10000000000000000000000000000000000000000000000000000000000000000000000000000000000000000000000000000<b)(h4:b<10000000000000000000000000000000000000000000000000000000000000000000000000000000000000000000000000000):wX (.int a) (.int b)=some (.int (a*b)):=if_pos ⟨Er h1 h2,Er h3 h4⟩
theorem qL (h0:0<b)(h1:b<10000000000000000000000000000000000000000000000000000000000000000000000000000000000000000000000000000):pX (.int a) (.int b)=some (.int (a/b)):=if_pos ⟨h0,Er (by omega) h1⟩
theorem iu (h0:0<b):jh (.int a) (.int b)=some (.int (a % b)):=if_pos h0
theorem aaZ (h0:0<=b)(h1:b<=1000)(h2:0<=a)(h3:a<1152921504606846976):Kf (.int a) (.int b)=some (.int (a^b.toNat)):=if_pos ⟨h0,h1,by omega⟩
theorem Wg (a b:Int):uK (.int a) (.int b)=some (.bool (decide (a=b))):=by
 have:PyData.depth (.int a)<=60:=by simp[PyData.depth]
 unfold uK;rw[if_pos this];simp only[eqv,beq_eq_decide_eq]
theorem aec (a b:Int):wH (.int a) (.int b)=some (.bool (!decide (a=b))):=by
 have:PyData.depth (.int a)<=60:=by simp[PyData.depth]
 unfold wH;rw[if_pos this];simp only[eqv,beq_eq_decide_eq]
theorem aed (x:PyData):isD x .none=some (.bool (jc x)):=rfl
theorem aa0 (x:PyData):Kg x .none=some (.bool (!jc x)):=rfl
theorem X8 (P:Nat->GS->Prop):∀(ds:List PyData) (i:Nat) (S:GS),P i S->
    (∀(j:Nat) d S,ds[j]? =some d->P (i+j) S->∃S1,t d S=some S1/\∃S2,(g S1=.nxt S2\/g S1=.cnt S2)/\P (i+j+1) S2)->∃S',mZ t g ds S=.nxt S'/\P (i+ds.length) S'
  |[],i,S,h,_=>⟨S,rfl,h⟩
  |d::r,i,S,h,st=>by
   obtain⟨S1,e1,S2,e2,p2⟩:=st 0 d S rfl h;obtain⟨S',e3,p3⟩:=X8 P r (i+1) S2 p2 λj d' S' e p=>by
     have e':i+1+j=i+(j+1):=by omega
     rw[e'] at p ⊢;exact st (j+1) d' S' (by simpa using e) p
   refine⟨S', ?_,by rw[length_cons];have e':i+1+r.length=i+(r.length+1):=by omega
                    rw[<-e'];exact p3⟩
   simp only[mZ,e1];rcases e2 with e2|e2<;>(rw[e2];exact e3)
theorem Es (f:Nat->GS):∀(ds:List PyData) (i:Nat),
  (∀(j:Nat) d,ds[j]? =some d->∃S1,t d (f (i+j))=some S1/\g S1=.nxt (f (i+j+1)))->mZ t g ds (f i)=.nxt (f (i+ds.length))
 |[],i,_=>rfl
 |d::r,i,st=>by
  obtain⟨S1,e1,e2⟩:=st 0 d rfl;have e3:=Es f r (i+1) λj d' e=>by
   have e':i+1+j=i+(j+1):=by omega
   rw[e'];exact st (j+1) d' (by simpa using e)
  simp only[mZ];rw[show i+0=i from rfl] at e1;rw[e1];simp only;rw[e2];simp only;rw[show i+0+1=i+1 from rfl,e3,length_cons];have e':i+1+r.length=i+(r.length+1):=by omega
  rw[e']
theorem vI:∀{ds:List PyData},(∀d∈ds,∃S2,t d S=some S2/\fc S2=some true/\fe S2=some (f d))->qJ t fc fe S ds=some (ds.map f)
 |[],_=>rfl
 |d::r,h=>by obtain⟨S2,e1,e2,e3⟩:=h d mem_cons_self;have ih:=vI (ds:=r) (f:=f) λx hx=>h x (mem_cons_of_mem _ hx);simp only[qJ,e1,e2,e3,ih,map_cons]
theorem KC {lo:Int}(h:(jR lo n)[j]? =some d):j<n/\d=.int (lo+j):=by
 unfold jR at h;rw[getElem?_map] at h;by_cases hj:j<n
 .rw[List.getElem?_range hj] at h;cases h;exact⟨hj,rfl⟩
 .rw[getElem?_eq_none (by simp;omega)] at h;cases h
theorem BR (lo:Int)(n:Nat):(jR lo n).length=n:=by simp[jR]
noncomputable def zN (o:Out)(g:VS):Out:=match o with
 |.nxt S=>g S
 |o=>o
noncomputable def Wh (o:Option Bool)(g1 g2:VS)(S:GS):Out:=match o with
 |some true=>g1 S
 |some false=>g2 S
 |none=>.fail
noncomputable def Tj (o:Option Bool)(g:VT)(S:GS):Option Bool:=match o with
 |some true=>g S
 |some false=>some false
 |none=>none
noncomputable def bOr (o:Option Bool)(g:VT)(S:GS):Option Bool:=match o with
 |some true=>some true
 |some false=>g S
 |none=>none
noncomputable def KD (o:Option PyData)(g:VE)(S:GS):Option PyData:=match o with
 |some (.bool true)=>g S
 |some (.bool false)=>some (.bool false)
 |_=>none
noncomputable def Tn (o:Option PyData)(g:VE)(S:GS):Option PyData:=match o with
 |some (.bool true)=>some (.bool true)
 |some (.bool false)=>g S
 |_=>none
noncomputable def KH (o:Option Bool)(f g:VE)(S:GS):Option PyData:=match o with
 |some true=>f S
 |some false=>g S
 |none=>none
noncomputable def b2 (h:PyData->PyData->Option PyData)(o:Option PyData)(fb:VE)(S:GS):Option PyData:=match o with
 |some x=>(match fb S with
  |some y=>h x y
  |none=>none)
 |none=>none
noncomputable def b1 (h:PyData->Option PyData)(o:Option PyData):Option PyData:=match o with
 |some y=>h y
 |none=>none
def bC (o:Option PyData)(fs:VA)(S:GS):Option (List PyData):=match o with
 |some d=>(match fs S with
  |some ds=>some (d::ds)
  |none=>none)
 |none=>none
noncomputable def bC1 (d:PyData)(o:Option (List PyData)):Option (List PyData):=match o with
 |some ds=>some (d::ds)
 |none=>none
noncomputable def bAs (o:Option PyData)(t:VG)(S:GS):Out:=match o with
 |some d=>(match t d S with
  |some S'=>.nxt S'
  |none=>.fail)
 |none=>.fail
noncomputable def bNx (o:Option GS):Out:=match o with
 |some S'=>.nxt S'
 |none=>.fail
noncomputable def bG (o:Option GS)(u:yr)(r:List PyData):Option GS:=match o with
 |some S1=>u r S1
 |none=>none
noncomputable def KJ (o:Option (Bool×PyData)):Option PyData:=match o with
 |some (_,d)=>some d
 |none=>none
noncomputable def Cz (o:Option (Bool×PyData)):Option PyData:=match o with
 |some (true,d)=>some d
 |_=>none
noncomputable def Bh:Bool->PyData->Option PyData
 |true,d=>some d
 |false,_=>none
theorem Et (b:Bool)(d:PyData):Bh b d=if b=true then some d else none:=by cases b<;>rfl
theorem aee (d:PyData):Bh true d=some d:=rfl
def CG (o:Option (Bool×PyData)):Option PyData:=match o with
 |some (b,d)=>Bh (Kr b d) d
 |none=>none
def yx (o:Option (Bool×PyData)):Option PyData:=match o with
 |some (true,.list es)=>Bh (rY es) (.list es)
 |_=>none
def KN (m:lF)(o:Option (List PyData)):Option PyData:=match o with
 |some ds=>KJ (m ds)
 |none=>none
def Eu (m:lF)(o:Option (List PyData)):Option PyData:=match o with
 |some ds=>Cz (m ds)
 |none=>none
def Ew (m:lF)(o:Option (List PyData)):Option PyData:=match o with
 |some ds=>CG (m ds)
 |none=>none
def zO (m:lF)(o:Option (List PyData)):Option PyData:=match o with
 |some ds=>yx (m ds)
 |none=>none
def aa3 (o:Option (List PyData))(t:VG)(g:VS)(S:GS):Out:=match o with
 |some ds=>mZ t g ds S
 |none=>.fail
noncomputable def bFn (o:Out):Option (Bool×PyData):=match o with
 |.ret _ b d=>some (b,d)
 |.nxt _=>some (false,.none)
 |_=>none
noncomputable def bCh (h':PyData->PyData->Option PyData)(y:PyData)(o:Option PyData)(fc:VE)(S:GS):Option PyData:=match o with
 |some (.bool true)=>(match fc S with
  |some z=>h' y z
  |none=>none)
 |some (.bool false)=>some (.bool false)
 |_=>none
section
variable {b:Bool}
theorem Yb:bf g1 g2 S=zN (g1 S) g2:=rfl
theorem aa5:zN (.nxt S) g=g S:=rfl
theorem aa6:zN (.ret S b d) g=.ret S b d:=rfl
theorem aa7:zN (.brk S) g=.brk S:=rfl
theorem aa8:zN (.cnt S) g=.cnt S:=rfl
theorem aa9:Bc c g1 g2 S=Wh (c S) g1 g2 S:=rfl
theorem aef:Wh (some true) g1 g2 S=g1 S:=rfl
theorem aeg:Wh (some false) g1 g2 S=g2 S:=rfl
theorem Yc:Kh c c2 S=Tj (c S) c2 S:=rfl
theorem abb:Tj (some true) c S=c S:=rfl
theorem abd:Tj (some false) c S=some false:=rfl
theorem Oq:Kl c c2 S=bOr (c S) c2 S:=rfl
theorem Wi:bOr (some true) c S=some true:=rfl
theorem Wj:bOr (some false) c S=c S:=rfl
theorem Yd:Sw fa fb S=KD (fa S) fb S:=rfl
theorem Ye:KD (some (.bool true)) f S=f S:=rfl
theorem Yg:KD (some (.bool false)) f S=some (.bool false):=rfl
theorem abe:N6 fa fb S=Tn (fa S) fb S:=rfl
theorem abf:Tn (some (.bool true)) f S=some (.bool true):=rfl
theorem abg:Tn (some (.bool false)) f S=f S:=rfl
theorem abh:V6 c fa fb S=KH (c S) fa fb S:=rfl
theorem Ot:KH (some true) fa fb S=fa S:=rfl
theorem Ou:KH (some false) fa fb S=fb S:=rfl
theorem aeh:v2 h fa fb S=b2 h (fa S) fb S:=rfl
theorem ag4:b2 h (some x) fb S=b1 (h x) (fb S):=rfl
theorem ag5:b1 k (some y)=k y:=rfl
theorem aei:v1 k f S=b1 k (f S):=rfl
theorem Wk:aC f fs S=bC (f S) fs S:=rfl
theorem ag6:bC (some d) fs S=bC1 d (fs S):=rfl
theorem aej:bC1 d (some r)=some (d::r):=rfl
theorem abj:bY f t S=bAs (f S) t S:=rfl
theorem aek:bAs (some d) t S=bNx (t d S):=rfl
theorem ael:bNx (some S)=.nxt S:=rfl
theorem aem:gC t u (d::r) S=bG (t d S) u r:=rfl
theorem ag7:bG (some S) u r=u r S:=rfl
theorem Tp:gj m fs S=KN m (fs S):=by unfold gj KN KJ;rfl
theorem Yh:KN m (some ds)=KJ (m ds):=rfl
theorem Ox:uN m fs S=Eu m (fs S):=by unfold uN Eu Cz;rfl
theorem Tq:Eu m (some ds)=Cz (m ds):=rfl
theorem Oz:yq m fs S=Ew m (fs S):=by unfold yq Ew CG;simp only[Et]<;>rfl
theorem Tr:Ew m (some ds)=CG (m ds):=rfl
theorem Yi:CG (some (b,d))=Bh (Kr b d) d:=rfl
theorem KQ:Hy m fs S=zO m (fs S):=by unfold Hy zO yx;simp only[Et]<;>rfl
theorem OD:zO m (some ds)=yx (m ds):=rfl
theorem Tt:yx (some (true,.list r))=Bh (rY r) (.list r):=rfl
theorem abk:KJ (some (b,d))=some d:=rfl
theorem Yj:Cz (some (true,d))=some d:=rfl
theorem OJ (e:ds.length=n):nu n nN g ds=bFn (g (ini nN ds)):=by unfold nu;rw[if_pos e];rfl
theorem aen:bFn (.ret S b d)=some (b,d):=rfl
theorem aeo:bFn (.nxt S)=some (false,.none):=rfl
theorem abl:oM h h' fa fb fc S=(match fa S with
 |some x=>(match fb S with
  |some y=>bCh h' y (h x y) fc S
  |none=>none)
 |none=>none):=rfl
theorem aep:bCh h' y (some (.bool true)) fc S=b1 (h' y) (fc S):=rfl
theorem aer:bCh h' y (some (.bool false)) fc S=some (.bool false):=rfl
theorem nJ (x:α)(r:List α):cR (x::r) 0=some x:=lN rfl
theorem sG (x y:α)(r:List α):cR (x::y::r) 1=some y:=lN rfl
theorem sH (x y z:α)(r:List α):cR (x::y::z::r) 2=some z:=lN rfl
theorem vJ (x y z w:α)(r:List α):cR (x::y::z::w::r) 3=some w:=lN rfl
theorem Yk:Ky fi t g S=aa3 (fi S) t g S:=rfl
theorem abm:aa3 (some ds) t g S=mZ t g ds S:=rfl
end
noncomputable def bL (o:Option (List PyData)):Option PyData:=match o with
 |some es=>some (.list es)
 |none=>none
def bLC (o:Option (List PyData))(cap:List (Option Nat))(t:VG)(fc:VT)(fe:VE)(S:GS):Option PyData:=match o with
 |some ds=>@ite _ (mF S cap=true/\ds.length<sizeLine) (Classical.propDecidable _) (bL (qJ t fc fe (ji cap S) ds)) none
 |none=>none
def abo (o:Option (List PyData))(cap:List (Option Nat))(t:VG)(fc:VT)(fe:VE)(S:GS):Option PyData:=match o with
 |some ds=>@ite _ (ds.length<sizeLine) (Classical.propDecidable _) (bL (qJ t fc (wV fe) (ji cap S) ds)) none
 |none=>none
noncomputable def bOw (o:Option PyData)(b:Bool)(i:Nat)(t:Tg)(S:GS):Out:=match o with
 |some d=>if b=true then .nxt (S.set i (some (t,d))) else .fail
 |none=>.fail
section
variable {b:Bool}
theorem O1:tH fi cap t fc fe S=bLC (fi S) cap t fc fe S:=by unfold tH bLC bL;rfl
theorem KR (h1:mF S cap=true)(h2:ds.length<sizeLine):bLC (some ds) cap t fc fe S=bL (qJ t fc fe (ji cap S) ds):=if_pos ⟨h1,h2⟩
theorem Yl:Eo fi cap t fc fe S=abo (fi S) cap t fc fe S:=by unfold Eo abo bL;rfl
theorem ag8:bL (some es)=some (.list es):=rfl
theorem abq:gOw i f S=bOw (f S) (p7 S i) i .ow S:=rfl
theorem Ym:agX i f S=bOw (f S) (p7 S i) i .fr S:=rfl
theorem aes:bOw (some d) true i T S=.nxt (S.set i (some (T,d))):=rfl
def Tv (o:Option PyData):Option PyData:=match o with
 |some d=>Bh (uG d) d
 |none=>none
theorem Yn:wV f S=Tv (f S):=by unfold wV Tv;simp only[Et]<;>rfl
theorem abr:Tv (some d)=Bh (uG d) d:=rfl
theorem sI (h:n<=16000000):n<sizeLine:=by have e:sizeLine=16777216:=rfl;omega
end
noncomputable def ob (v:Option PyData):Option (Tg×PyData):=v.map λd=>(Tg.fr,d)
theorem Yo (d:PyData):ob (some d)=some (Tg.fr,d):=rfl
theorem Yp:ob none=none:=rfl
theorem ahx (o:Option PyData):(match ob o with|some (.io,_)=>false|_=>true)=true:=by cases o<;>rfl
theorem abt (f:α->PyData){xs:List α}{i:Nat}(h:xs[i]? =some x):cR (xs.map f) (i:Int)=some (f x):=lN (by rw[getElem?_map,h];rfl)
theorem abu (a b:Int):oK (.int a) (.int b)=some (.int (a+b)):=rfl
theorem abv (a b:Int):aaD (.int a) (.int b)=some (.int (a - b)):=rfl
theorem aeu (a b:Int):V5 (.int a) (.int b)=some (.bool (decide (a<b))):=rfl
theorem aev (a b:Int):Ax (.int a) (.int b)=some (.bool (decide (a<=b))):=rfl
theorem aew (a b:Int):gtD (.int a) (.int b)=some (.bool (decide (b<a))):=rfl
theorem aex (a b:Int):geD (.int a) (.int b)=some (.bool (decide (b<=a))):=rfl
theorem abw (a b:Int):aaX (.int a) (.int b)=some (.int (Builtin.bitXor a b)):=rfl
noncomputable def HF:Option (Option (Tg×PyData))->Bool
 |some (some (.io,_))=>false
 |_=>true
theorem Yq (S:GS)(i:Nat):p7 S i=HF (S[i]?):=rfl
theorem abx (o:Option PyData):HF (some (ob o))=true:=by cases o<;>rfl
theorem aey:HF (some none)=true:=rfl
theorem aby (d:PyData):HF (some (some (.fr,d)))=true:=rfl
theorem abz (d:PyData):HF (some (some (.ow,d)))=true:=rfl
theorem Tw (ds:List PyData):lR "list" (.list ds)=some (.bool true):=by simp[lR,Ba]
theorem Yr (i:Int):lR "int" (.int i)=some (.bool true):=by simp[lR,Ba]
theorem KY (i:Int):lR "bool" (.int i)=some (.bool false):=by simp[lR,Ba]
theorem O2 (ds:List PyData):lR "tuple" (.tuple ds)=some (.bool true):=by simp[lR,Ba]
end VM
namespace L2
open PyProof.Rows
section
variable {κ:Type}[DecidableEq κ]
noncomputable def dI (kvs:List (κ×V))(k:κ):Option V:=(kvs.find? λkv=>decide (kv.1=k)).map (·.2)
noncomputable def putK (kvs:List (κ×V))(k:κ)(v:V):List (κ×V):=
 if(kvs.any λkv=>decide (kv.1=k))=true then kvs.map (λkv=>if kv.1=k then(kv.1,v) else kv) else kvs++[(k,v)]
noncomputable def pH (kvs:List (κ×V))(k:κ):List (κ×V):=kvs.filter λkv=>decide (kv.1≠k)
theorem lV {p:κ×V}{r:List (κ×V)}{k:κ}(e:p.1=k):dI (p::r) k=some p.2:=by simp[dI,find?_cons,e]
theorem jw {p:κ×V}{r:List (κ×V)}{k:κ}(e:¬p.1=k):dI (p::r) k=dI r k:=by simp[dI,find?_cons,e]
theorem Ey (k:κ):∀kvs:List (κ×V),(kvs.any λkv=>decide (kv.1=k))=(dI kvs k).isSome
 |[]=>rfl
 |p::r=>by
  rw[any_cons];by_cases e:p.1=k
  .simp only[lV e,decide_eq_true e,Bool.true_or,Option.isSome_some]
  .rw[jw e,decide_eq_false e,Bool.false_or];exact Ey k r
theorem qe (kvs:List (κ×V))(k:κ)(v:V):(putK kvs k v).length<=kvs.length+1:=by
 unfold putK;split
 .rw[length_map];omega
 .rw[length_append,length_cons,length_nil];omega
theorem fO.iK {o:Option V}{u:Option Value}(r:fO o u):o.isSome=u.isSome:=by
 cases o with
 |none=>cases u with
  |none=>rfl
  |some _=>exact(show False from r).elim
 |some _=>cases u with
  |none=>exact(show False from r).elim
  |some _=>rfl
theorem fO.getD {o:Option V}{u:Option Value}{d:V}{d':Value}(r:fO o u)(rd:RelV d d'):RelV (o.getD d) (u.getD d'):=by
 cases o with
 |none=>cases u with
  |none=>exact rd
  |some _=>exact(show False from r).elim
 |some _=>cases u with
  |none=>exact(show False from r).elim
  |some _=>exact r
theorem KV.val {kvs:List (κ×V)}{vs:List (κ×Value)}(r:KV kvs vs)(k:κ):fO (dI kvs k) (valueAt vs k):=by
 unfold KV at r;induction r with
 |nil=>exact True.intro
 | @cons p q ps qs h t ih=>
  obtain⟨h1,h2⟩:=h;by_cases e:p.1=k
  .have e':q.1=k:=h1.symm.trans e;have b:valueAt (q::qs) k=some q.2:=by simp[valueAt,find?_cons,e']
   rw[lV e,b];exact h2
  .have e':¬q.1=k:=λz=>e (h1.trans z);have b:valueAt (q::qs) k=valueAt qs k:=by simp[valueAt,find?_cons,e']
   rw[jw e,b];exact ih
theorem KV.any {kvs:List (κ×V)}{vs:List (κ×Value)}(r:KV kvs vs)(k:κ):(kvs.any λkv=>decide (kv.1=k))=vs.any λkv=>decide (kv.1=k):=by
 unfold KV at r;induction r with
 |nil=>rfl
 |cons h t ih=>rw[any_cons,any_cons,ih,h.1]
theorem KV.repl {kvs:List (κ×V)}{vs:List (κ×Value)}(r:KV kvs vs)(k:κ){y:V}{u:Value}(ry:RelV y u):
  KV (kvs.map λkv=>if kv.1=k then(kv.1,y) else kv) (vs.map λkv=>if kv.1=k then(kv.1,u) else kv):=by
 unfold KV at r ⊢;induction r with
 |nil=>exact .nil
 | @cons p q ps qs h t ih=>
  rw[map_cons,map_cons];refine .cons ?_ ih;obtain⟨h1,h2⟩:=h;by_cases e:p.1=k
  .rw[if_pos e,if_pos (h1.symm.trans e)];exact⟨h1,ry⟩
  .rw[if_neg e,if_neg (λz=>e (h1.trans z))];exact⟨h1,h2⟩
theorem KV.put {kvs:List (κ×V)}{vs:List (κ×Value)}(r:KV kvs vs)(k:κ){y:V}{u:Value}(ry:RelV y u):KV (putK kvs k y) (stored vs k u):=by
 unfold putK stored;rw[r.any k];by_cases e:(vs.any λkv=>decide (kv.1=k))=true
 .rw[if_pos e,if_pos e];exact r.repl k ry
 .rw[if_neg e,if_neg e];exact Paired.snoc r ⟨rfl,ry⟩
theorem KV.drop {kvs:List (κ×V)}{vs:List (κ×Value)}(r:KV kvs vs)(k:κ):KV (pH kvs k) (without vs k):=by
 unfold KV at r ⊢;unfold pH without;induction r with
 |nil=>exact .nil
 | @cons p q ps qs h t ih=>
  obtain⟨h1,h2⟩:=h;rw[filter_cons,filter_cons];by_cases e:p.1=k
  .have a:¬decide (p.1≠k)=true:=by simp[e]
   have b:¬decide (q.1≠k)=true:=by simp[h1.symm.trans e]
   rw[if_neg a,if_neg b];exact ih
  .have e':¬q.1=k:=λz=>e (h1.trans z);have a:decide (p.1≠k)=true:=by simp[e]
   have b:decide (q.1≠k)=true:=by simp[e']
   rw[if_pos a,if_pos b];exact .cons ⟨h1,h2⟩ ih
theorem KV.length {kvs:List (κ×V)}{vs:List (κ×Value)}(r:KV kvs vs):kvs.length=vs.length:=Paired.length r
theorem Ez (kvs:List (κ×V))(k:κ):(pH kvs k).length<=kvs.length:=List.length_filter_le _ _
end
theorem lC {P:Program}{w:World}{k:Key}{u:Value}(r:RelV (kV k) u):(cA P w).is k u=true:=by
 cases k with
 |inl i=>obtain⟨t,e⟩:=(show ∃t,u=Value.int i t from r);subst e;exact GP P w i t
 |inr x=>obtain⟨t,e⟩:=(show ∃t,u=Value.str x t from r);subst e;exact GQ P w x t
theorem Bj {P:Program}{w:World}:∀{ks:List Key}{us:List Value},Vals (ks.map kV) us->ItemsAre (cA P w) ks us
 |[],_,r=>by rw[map_nil] at r;cases r;exact .nil
 |k::ks,_,r=>by
  rw[map_cons] at r;cases r with
  |cons h t=>exact .cons (lC h) (Bj t)
noncomputable abbrev KT (H:Hp):List (List Key×V)->List (List Key×Addr×Value)->Prop:=Paired λp q=>p.1=q.1/\H q.2.1=some (.tup (p.1.map kV))/\RelV p.2 q.2.2
theorem KT.val {H:Hp}{kvs:List (List Key×V)}{xs:List (List Key×Addr×Value)}(r:KT H kvs xs)(k:List Key):fO (dI kvs k) ((atKey xs k).map (·.2)):=by
 induction r with
 |nil=>exact True.intro
 | @cons p q ps qs h t ih=>
  obtain⟨h1,_,h2⟩:=h;by_cases e:p.1=k
  .have e':q.1=k:=h1.symm.trans e;have b:atKey (q::qs) k=some q.2:=by simp[atKey,find?_cons,e']
   rw[lV e,b];exact h2
  .have e':¬q.1=k:=λz=>e (h1.trans z);have b:atKey (q::qs) k=atKey qs k:=by simp[atKey,find?_cons,e']
   rw[jw e,b];exact ih
theorem KT.repl {H:Hp}{kvs:List (List Key×V)}{xs:List (List Key×Addr×Value)}(r:KT H kvs xs)(k:List Key){y:V}{u:Value}(ry:RelV y u):
  KT H (kvs.map λkv=>if kv.1=k then(kv.1,y) else kv) (xs.map (putAt k u)):=by
 induction r with
 |nil=>exact .nil
 | @cons p q ps qs h t ih=>
  rw[map_cons,map_cons];refine .cons ?_ ih;obtain⟨h1,h2,h3⟩:=h;unfold putAt;by_cases e:p.1=k
  .rw[if_pos e,if_pos (h1.symm.trans e)];exact⟨h1,h2,ry⟩
  .rw[if_neg e,if_neg (λz=>e (h1.trans z))];exact⟨h1,h2,h3⟩
theorem KT.put {H:Hp}{kvs:List (List Key×V)}{xs:List (List Key×Addr×Value)}(r:KT H kvs xs)(k:List Key){b:Addr}{y:V}{u:Value}(hb:H b=some (.tup (k.map kV)))(ry:RelV y u):
  KT H (putK kvs k y) (storedH xs k b u):=by
 have e:(kvs.any λkv=>decide (kv.1=k))=(atKey xs k).isSome:=by rw[Ey,(r.val k).iK,isSome_map]
 unfold putK storedH;rw[e];by_cases q:(atKey xs k).isSome=true
 .rw[if_pos q,if_pos q];exact r.repl k ry
 .rw[if_neg q,if_neg q];exact Paired.snoc r ⟨rfl,hb,ry⟩
theorem KT.keeps {H H':Hp}{kvs:List (List Key×V)}{xs:List (List Key×Addr×Value)}(r:KT H kvs xs)(ht:∀b ys,H b=some (.tup ys)->H' b=some (.tup ys)):KT H' kvs xs:=
 Paired.Rg r λ_ _ z=>⟨z.1,ht _ _ z.2.1,z.2.2⟩
section
variable {P:Program}{w:World}{H:Hp}{h:Heap}{a:Addr}
theorem Wm {u:HO}(ok:d9 P w H h)(e:Rd H a u):dB P w H h a u:=e.ok ok
theorem sJ {kvs:List (Key×V)}(ok:d9 P w H h)(e:Rd H a (.dK kvs)):kvs.length<=sizeLine/\(a==sysModules)=false/\∃vs,KV kvs vs/\h.DictOf (cA P w) a vs:=
 show dB P w H h a (.dK kvs) from Wm ok e
theorem sO {kvs:List (Key×V)}(ok:d9 P w H h)(e:H a=some (.dK kvs)):kvs.length<=sizeLine/\(a==sysModules)=false/\∃vs,KV kvs vs/\h.DictOf (cA P w) a vs:=sJ ok (.inl e)
theorem uT {ks:List Key}(ok:d9 P w H h)(e:H a=some (.tup (ks.map kV))):(tupleKind (cA P w)).is h ks a:=by obtain⟨_,its,r,o,h1,h2,n,h3⟩:=(show dB P w H h a (.tup (ks.map kV)) from ok a _ e);exact⟨o,its.toArray,n,h1,h2,h3,by simpa using Bj r⟩
theorem vK {kvs:List (List Key×V)}(ok:d9 P w H h)(e:Rd H a (.dT kvs)):kvs.length<=sizeLine/\(a==sysModules)=false/\
  ∃xs,KT H kvs xs/\h.DictOfH (tupleKind (cA P w)) a xs:=by
 obtain⟨z,y,xs,r,o,es,ep,h1,h2,h3,h4,h5⟩:=(show dB P w H h a (.dT kvs) from Wm ok e);refine⟨z,y,xs,r,o,es,ep,h1,h2,h3,h4,λx hx=>?_,h5⟩;have all:∀{l:List (List Key×V)}{m:List (List Key×Addr×Value)},KT H l m->∀x∈m,(tupleKind (cA P w)).is h x.1 x.2.1:=by
  intro l m q;induction q with
  |nil=>intro x hx;exact nomatch hx
  | @cons p q ps qs hq t ih=>
   intro x hx;rcases mem_cons.mp hx with e|hx
   .subst e;exact uT ok (by rw[<-hq.1];exact hq.2.1)
   .exact ih x hx
 exact all r x hx
theorem aez {kvs:List (List Key×V)}(ok:d9 P w H h)(e:H a=some (.dT kvs)):kvs.length<=sizeLine/\(a==sysModules)=false/\
  ∃xs,KT H kvs xs/\h.DictOfH (tupleKind (cA P w)) a xs:=vK ok (.inl e)
end
def jk (H:Hp)(a:Addr)(y:V)(r:Option V):Prop:=
 (∃kvs k,Rd H a (.dK kvs)/\y=kV k/\r=dI kvs k)\/∃kvs k b,Rd H a (.dT kvs)/\y=.ref b/\H b=some (.tup (k.map kV))/\r=dI kvs k
def sS (H:Hp)(a:Addr)(y v:V)(H':Hp):Prop:=
 (∃kvs k,H a=some (.dK kvs)/\y=kV k/\kvs.length<sizeLine/\H'=upd H a (.dK (putK kvs k v)))\/
 ∃kvs k b,H a=some (.dT kvs)/\y=.ref b/\H b=some (.tup (k.map kV))/\kvs.length<sizeLine/\H'=upd H a (.dT (putK kvs k v))
theorem jk.k {H:Hp}{a:Addr}{kvs:List (Key×V)}{k:Key}(e:H a=some (.dK kvs)):jk H a (kV k) (dI kvs k):=.inl ⟨kvs,k,.inl e,rfl,rfl⟩
theorem jk.t {H:Hp}{a b:Addr}{kvs:List (List Key×V)}{k:List Key}(e:H a=some (.dT kvs))(eb:H b=some (.tup (k.map kV))):jk H a (.ref b) (dI kvs k):=.inr ⟨kvs,k,b,.inl e,rfl,eb,rfl⟩
theorem sS.k {H:Hp}{a:Addr}{kvs:List (Key×V)}{k:Key}{v:V}(e:H a=some (.dK kvs))(hl:kvs.length<sizeLine):sS H a (kV k) v (upd H a (.dK (putK kvs k v))):=.inl ⟨kvs,k,e,rfl,hl,rfl⟩
theorem sS.t {H:Hp}{a b:Addr}{kvs:List (List Key×V)}{k:List Key}{v:V}(e:H a=some (.dT kvs))(eb:H b=some (.tup (k.map kV)))(hl:kvs.length<sizeLine):
  sS H a (.ref b) v (upd H a (.dT (putK kvs k v))):=.inr ⟨kvs,k,b,e,rfl,eb,hl,rfl⟩
section
variable {X:Cx}{pins:List (Addr×Obj)}{σ:St}{H:Hp}{s:Shared}{a:Addr}{y v:V}{u r:Value}{o:Option V}{A:Around}{E:Value->Shared->Prop}
theorem Inv.big (I:Inv X pins σ H s):sysModules<s.heap.objs.size:=by have h:mainGlobals<s.heap.objs.size:=(I.mod.glob.keeps I.bk).lt;exact lt_trans (by decide) h
theorem O4 {Q:Value->Shared->Prop}(hu:A.units+1<cLine)(I:Inv X pins σ H s)(g:jk H a y (some v))(ry:RelV y u)(h:∀w' s',Inv X pins σ H s'->RelV v w'->Q w' s'):
  wpAny (model X.prog X.w) A (getItem (.ref a) u) Q E s:=by
 rcases g with⟨kvs,k,e,ey,l⟩|⟨kvs,k,b,e,ey,eb,l⟩
 .subst ey;obtain⟨z,hd,vs,rel,dd⟩:=sJ I.hok e;obtain⟨w',hw,lg⟩:=fO.some_of (v:=v) (o:=valueAt vs k) (by rw[l];exact rel.val k);exact wpAny_getItem_of (lC ry) dd.mapOf hw (h w' _ (I.tok _) lg)
 .subst ey;cases(show u=Value.ref b from ry);obtain⟨z,hd,xs,rel,dd⟩:=vK I.hok e;obtain⟨w',hw,lg⟩:=fO.some_of (v:=v) (o:=(atKey xs k).map (·.2)) (by rw[l];exact rel.val k);obtain⟨p,hp,hp2⟩:=map_eq_some_iff.mp hw;refine wpAny_getItem_heap (tupleKind_room_in1 hu) (uT I.hok eb) dd hp ?_;rw[hp2];exact h w' _ (I.tok _) lg
theorem ag9 {Q:Value->Shared->Prop}(hu:A.units+1<cLine)(I:Inv X pins σ H s)(g:jk H a y o)(ry:RelV y u)(h:∀s',Inv X pins σ H s'->Q (.bool o.isSome) s'):
  wpAny (model X.prog X.w) A (compareOp .In u (.ref a)) Q E s:=by
 rcases g with⟨kvs,k,e,ey,l⟩|⟨kvs,k,b,e,ey,eb,l⟩
 .subst ey;obtain⟨z,hd,vs,rel,dd⟩:=sJ I.hok e;refine wpAny_in_of (lC ry) hd dd.mapOf ?_;rw[<-(rel.val k).iK,←l];exact h _ (I.tok _)
 .subst ey;cases(show u=Value.ref b from ry);obtain⟨z,hd,xs,rel,dd⟩:=vK I.hok e;refine wpAny_in_heap (tupleKind_room_in1 hu) (uT I.hok eb) hd dd ?_;have q:=(rel.val k).iK;rw[isSome_map] at q;rw[<-q,←l];exact h _ (I.tok _)
theorem Ys {Q:Value->Shared->Prop}(hu:A.units+1<cLine)(I:Inv X pins σ H s)(g:jk H a y o)(ry:RelV y u)(h:∀s',Inv X pins σ H s'->Q (.bool (!o.isSome)) s'):
  wpAny (model X.prog X.w) A (compareOp .NotIn u (.ref a)) Q E s:=by
 rcases g with⟨kvs,k,e,ey,l⟩|⟨kvs,k,b,e,ey,eb,l⟩
 .subst ey;obtain⟨z,hd,vs,rel,dd⟩:=sJ I.hok e;refine wpAny_notIn_of (lC ry) hd dd.mapOf ?_;rw[<-(rel.val k).iK,←l];exact h _ (I.tok _)
 .subst ey;cases(show u=Value.ref b from ry);obtain⟨z,hd,xs,rel,dd⟩:=vK I.hok e;refine wpAny_notIn_heap (tupleKind_room_in1 hu) (uT I.hok eb) hd dd ?_;have q:=(rel.val k).iK;rw[isSome_map] at q;rw[<-q,←l];exact h _ (I.tok _)
theorem qM {h':Heap}{t':Nat}{ob:HO}(I:Inv X pins σ H s)(mu:Mq (H a))(hs:Heap.SameBut a s.heap h')(he:∃q,h'.get? a=some q)(new:dB X.prog X.w (upd H a ob) h' a ob):
  Inv X pins σ (upd H a ob) {s with heap:=h',toks:=t'}:=
 I.write (x:=a) (e:=a) mu (.inl rfl) (λb q hb z=>(hs.2 b hb).trans z) he new
theorem yC {P:Program}{w:World}{H':Hp}{h':Heap}{kvs:List (Key×V)}{vs:List (Key×Value)}(z:kvs.length<=sizeLine)(hd:(a==sysModules)=false)(rel:KV kvs vs)(dd:h'.DictOf (cA P w) a vs):
  dB P w H' h' a (.dK kvs):=⟨z,hd,vs,rel,dd⟩
theorem O8 {H':Hp}{Q:Unit->Shared->Prop}(hu:A.units+1<cLine)(I:Inv X pins σ H s)(g:sS H a y v H')(ry:RelV y u)(rv:RelV v r)(h:∀s',Inv X pins σ H' s'->Q () s'):
  wpAny (model X.prog X.w) A (setItem (.ref a) u r) Q E s:=by
 rcases g with⟨kvs,k,e,ey,l,eH⟩|⟨kvs,k,b,e,ey,eb,l,eH⟩
 .subst ey eH;obtain⟨z,hd,vs,rel,dd⟩:=sO I.hok e;have hz:vs.length<=sizeLine:=by rw[<-rel.length];exact z
  have hl:(putK kvs k v).length<=sizeLine:=by have:=qe kvs k v;omega
  refine wpAny_setItem_pairs (hsz:=hz) (lC ry) dd λh' qN hs=>h _ ?_;have he:∃q,h'.get? a=some q:=let⟨q,_,_,hq,_⟩:=qN;⟨q,hq⟩;exact qM I (by rw[e];exact True.intro) hs he (yC hl hd (rel.put k rv) qN)
 .subst ey eH;cases(show u=Value.ref b from ry);obtain⟨z,hd,xs,rel,dd⟩:=aez I.hok e;have hz:xs.length<=sizeLine:=by rw[<-Paired.length rel];exact z
  have hl:(putK kvs k v).length<=sizeLine:=by have:=qe kvs k v;omega
  refine wpAny_setItem_heap (hsz:=hz) (tupleKind_room_in1 hu) (uT I.hok eb) dd λh' qN hs=>h _ ?_;obtain⟨q,es,ep,hq,h2,h3,h4,_,h5⟩:=qN;refine qM I (by rw[e];exact True.intro) hs ⟨q,hq⟩ ⟨hl,hd,_,(rel.put k eb rv).keeps λc ys ec=>?_,q,es,ep,hq,h2,h3,h4,h5⟩;rw[aB (adF ec e (λz=>nomatch z))];exact ec
end
section
variable {X:Cx}{pins:List (Addr×Obj)}{σ:St}{H:Hp}{s:Shared}{a:Addr}{kvs:List (Key×V)}{k:Key}{u:Value}{A:Around}{E:Value->Shared->Prop}
theorem afu {Q:Unit->Shared->Prop}(I:Inv X pins σ H s)(e:H a=some (.dK kvs))(ry:RelV (kV k) u)(l:(dI kvs k).isSome=true)(h:∀s',Inv X pins σ (upd H a (.dK (pH kvs k))) s'->Q () s'):
  wpAny (model X.prog X.w) A (delItem (.ref a) u) Q E s:=by
 obtain⟨z,hd,vs,rel,dd⟩:=sO I.hok e;refine wpAny_delItem_slot dd.typeIs (by decide) PySem.F.slot_dict_delitem
  (call_meetsIn PySem.F.slot_dict_delitem dd.typeIs PySem.F.entry_dict_delitem (PySem.F.args_dict_delitem_2 _ _) (meets_dict_delitem_pairs (cA X.prog X.w) a (lC ry)) ⟨vs,dd,by rw[<-rel.length];exact z,by rw[<-(rel.val k).iK];exact l,λh' qN hs=>h _ ?_⟩)
 have he:∃q,h'.get? a=some q:=let⟨q,_,_,hq,_⟩:=qN;⟨q,hq⟩;exact qM I (by rw[e];exact True.intro) hs he (yC (le_trans (Ez kvs k) z) hd (rel.drop k) qN)
theorem aeA {v:V}{more:List Value}{Q:Value->Shared->Prop}(I:Inv X pins σ H s)(e:H a=some (.dK kvs))(ry:RelV (kV k) u)(l:dI kvs k=some v)(hm:more=[]\/∃x,more=[x])
  (h:∀w' s',Inv X pins σ (upd H a (.dK (pH kvs k))) s'->RelV v w'->Q w' s'):wpAny (model X.prog X.w) A (call (.builtin "dict.pop") (.ref a::u::more)) Q E s:=by
 obtain⟨z,hd,vs,rel,dd⟩:=sO I.hok e;obtain⟨w',hw,lg⟩:=fO.some_of (v:=v) (o:=valueAt vs k) (by rw[<-l];exact rel.val k);have hp:(keyPart u).isSome=true:=by
  cases k with
  |inl i=>obtain⟨t,q⟩:=(show ∃t,u=Value.int i t from ry);subst q;rfl
  |inr x=>obtain⟨t,q⟩:=(show ∃t,u=Value.str x t from ry);subst q;rfl
 have ha:argsOk "dict.pop" ⟨.ref a::u::more,[]⟩:=by
  rcases hm with q|⟨x,q⟩
  .subst q;exact PySem.F.args_dict_pop_2 _ _
  .subst q;exact PySem.F.args_dict_pop_3 _ _ _
 refine call_meetsIn PySem.F.slot_dict_pop dd.typeIs PySem.F.entry_dict_pop ha (meets_dict_pop_there (cA X.prog X.w) a (lC ry) more hm hp)
  ⟨vs,w',dd,by rw[<-rel.length];exact z,hw,λh' qN hs=>h w' _ ?_ lg⟩
 have he:∃q,h'.get? a=some q:=let⟨q,_,_,hq,_⟩:=qN;⟨q,hq⟩;exact qM I (by rw[e];exact True.intro) hs he (yC (le_trans (Ez kvs k) z) hd (rel.drop k) qN)
theorem aeB {Q:Value->Shared->Prop}(I:Inv X pins σ H s)(e:Rd H a (.dK kvs))(h:∀t s',Inv X pins σ H s'->Q (.int kvs.length t) s'):wpAny (model X.prog X.w) A (call (.builtin "len") [.ref a]) Q E s:=by obtain⟨z,hd,vs,rel,dd⟩:=sJ I.hok e;refine call_len_dict hd dd (by rw[<-rel.length];rw[sizeLine_eq] at z;omega) ?_;rw[<-rel.length];exact h _ _ (I.tok _)
end
noncomputable def Tz (i:Expr):Prop:=∀ov iv,subscripted i false ov iv=operate [ov,iv] (getItem ov iv)
theorem HJ {prog:Program}{w:World}{A:Around}{E:Value->Shared->Prop}{s:Shared}{env:Env}{value slice:Expr}{pos:Pos}{T id:String}{Q:Value->Shared->Prop}
  (hl:typeLookup (.type T) "__getitem__"=pure (some (.builtin id)))(hs:Tz slice)
  (h:wpAny (model prog w) A (eval value env) (λo s₁=>wpAny (model prog w) A (eval slice env) (λi s₂=>s₂.TypeIs o T/\wpAny (model prog w) A (getItem o i) Q E s₂) E s₁) E s):
  wpAny (model prog w) A (eval (.Subscript value slice pos) env) Q E s:=by
 refine Subscript_ (wpAny_mono h (λo s₁ h₁=>wpAny_mono h₁ (λi s₂ h₂=>?_) λ_ _ x=>x) λ_ _ x=>x);obtain⟨hT,h₂⟩:=h₂;unfold subscriptTail;refine wpAny_bind ?_;rw[getitemInPython_of_ne hT.not_modules];refine wpAny_bind (wpAny_specialOf hT hl ?_);have fin:wpAny (model prog w) A (subscripted slice false o i) (λr s₃=>wpAny (model prog w) A (letTemporaryGo value o r>>= λ_=>pure r) Q E s₃) E s₂:=by rw[hs o i];exact wpAny_operating (wpAny_mono h₂ (λr s₃ h₃=>wpAny_bind (wpAny_letTemporaryGo (wpAny_pure h₃))) λ_ _ x=>x)
 first
  |exact wpAny_pure (wpAny_bind fin)
  |exact wpAny_bind (wpAny_pure (wpAny_bind fin))
  |exact wpAny_bind fin
theorem GZ {X:Cx}{pins:List (Addr×Obj)}{σ:St}{H:Hp}{s:Shared}{a:Addr}{y:V}{o:Option V}(I:Inv X pins σ H s)(g:jk H a y o):s.TypeIs (.ref a) "dict":=by
 rcases g with⟨kvs,k,e,_,_⟩|⟨kvs,k,b,e,_,_,_⟩
 .obtain⟨_,_,vs,_,dd⟩:=sJ I.hok e;exact dd.typeIs
 .obtain⟨_,_,xs,_,dd⟩:=vK I.hok e;exact dd.typeIs
def CJ (td ty:TE):TE:=λσ H Q=>td σ H λx H1=>ty σ H1 λy H2=>∃a v,x=.ref a/\jk H2 a y (some v)/\Q v H2
def abA (ty td:TE):TE:=λσ H Q=>ty σ H λy H1=>td σ H1 λx H2=>∃a o,x=.ref a/\jk H2 a y o/\Q (.bl o.isSome) H2
def zP (ty td:TE):TE:=λσ H Q=>ty σ H λy H1=>td σ H1 λx H2=>∃a o,x=.ref a/\jk H2 a y o/\Q (.bl (!o.isSome)) H2
def CK (td ty tv:TE):TS:=λD σ H=>tv σ H λv H1=>td σ H1 λx H2=>ty σ H2 λy H3=>∃a H4,x=.ref a/\sS H3 a y v H4/\D.nx σ H4
section
variable {X:Cx}{o i e value:Expr}{pos pos' tpos:Pos}{td ty tv:TE}
theorem vL (hu:X.A.units+1<cLine)(ho:PE X o td)(hi:PE X i ty)(hs:Tz i):PE X (.Subscript o i pos) (CJ td ty):=by intro pins s σ H Q I h;refine HJ PySem.F.slot_dict_getitem.lookup hs (aO (ho pins s σ H _ I h) λu s1 ⟨x,H1,I1,rx,q1⟩=>aO (hi pins s1 σ H1 _ I1 q1) λiv s2 ⟨y,H2,I2,ry,a,v,ex,g,q2⟩=>?_);subst ex;obtain rfl:u=Value.ref a:=rx;exact⟨GZ I2 g,O4 hu I2 g ry λw' s3 I3 lg=>⟨v,H2,I3,lg,q2⟩⟩
theorem abB (hu:X.A.units+1<cLine)(hi:PE X i ty)(ho:PE X o td):PC X .In i o (abA ty td):=by intro pins s σ H Q I h;refine aO (hi pins s σ H _ I h) λiv s1 ⟨y,H1,I1,ry,q1⟩=>aO (ho pins s1 σ H1 _ I1 q1) λu s2 ⟨x,H2,I2,rx,a,ov,ex,g,q2⟩=>?_;subst ex;obtain rfl:u=Value.ref a:=rx;exact ag9 hu I2 g ry λs3 I3=>⟨.bl ov.isSome,H2,I3,rfl,q2⟩
theorem Bk (hu:X.A.units+1<cLine)(hi:PE X i ty)(ho:PE X o td):PC X .NotIn i o (zP ty td):=by intro pins s σ H Q I h;refine aO (hi pins s σ H _ I h) λiv s1 ⟨y,H1,I1,ry,q1⟩=>aO (ho pins s1 σ H1 _ I1 q1) λu s2 ⟨x,H2,I2,rx,a,ov,ex,g,q2⟩=>?_;subst ex;obtain rfl:u=Value.ref a:=rx;exact Ys hu I2 g ry λs3 I3=>⟨.bl (!ov.isSome),H2,I3,rfl,q2⟩
theorem zQ (hu:X.A.units+1<cLine)(ho:PE X o td)(hi:PE X i ty)(hv:PE X value tv)(hs:swapsWith value (some (.Subscript o i pos')) pos.line X.env=pure false):
  PS X (.Assign [.Subscript o i pos'] value pos) (CK td ty tv):=by
 intro pins s σ H D I h;refine wpAny_Assign_Subscript (aO (hv pins s σ H _ I h) λr s1 ⟨v,H1,I1,rv,q1⟩=>aO (ho pins s1 σ H1 _ I1 q1) λu s2 ⟨x,H2,I2,rx,q2⟩=>aO (hi pins s2 σ H2 _ I2 q2) λiv s3 ⟨y,H3,I3,ry,a,H4,ex,g,q3⟩=>?_) hs;subst ex;obtain rfl:u=Value.ref a:=rx;exact O8 hu I3 g ry rv λs4 I4=>⟨σ,H4,I4,q3⟩
end
theorem EY {P:Program}{w:World}{H:Hp}(h:Heap)(hb:sysModules<h.objs.size):dB P w H (h.push {cls:=.type "dict",data:=.dict #[]}) h.objs.size (.dK []):=
 ⟨zero_le _,beq_eq_false_iff_ne.mpr (Ne.symm (ne_of_lt hb)),[],.nil,Heap.DictOf.new h⟩
def abC:TE:=λ_ H Q=>∀p,H p=none->Q (.ref p) (upd H p (.dK []))
section
variable {X:Cx}{pos:Pos}
theorem TF:PE X (.Dict [] [] pos) abC:=λpins s σ H Q I h=>
 wpAny_Dict_empty ⟨.ref s.heap.objs.size,_,I.laid (a:=s.heap.objs.size) (o:=.dK []) (t':=s.toks) (λ_ _ q=>get?_push_of_some _ q) (le_refl _) (EY s.heap I.big),rfl,h _ (I.hok.fresh (le_refl _))⟩
end
noncomputable def qO:List (TE×TE)->St->Hp->(List (V×V)->Hp->Prop)->Prop
 |[],_,H,Q=>Q [] H
 |(tk,tv)::r,σ,H,Q=>tk σ H λx H1=>tv σ H1 λy H2=>qO r σ H2 λps H3=>Q ((x,y)::ps) H3
noncomputable abbrev VV:List (V×V)->List (Value×Value)->Prop:=Paired λp q=>RelV p.1 q.1/\RelV p.2 q.2
def yD (X:Cx)(pos:Pos)(keys:List (Option Expr))(values:List Expr)(yE:List (TE×TE)):Prop:=
 ∀(pins:List (Addr×Obj)) (s:Shared) (σ:St) (H:Hp) (Q:List (V×V)->Hp->Prop),Inv X pins σ H s->qO yE σ H Q->
  wpAny (model X.prog X.w) X.A (evalPairs (pairTrees keys values X.env pos)) (λvs s'=>∃ps H',Inv X pins σ H' s'/\VV ps vs/\Q ps H') X.xe s
theorem je {X:Cx}{pos:Pos}:yD X pos [] [] []:=λpins s σ H Q I h=>pairTrees_nil_walk ⟨[],H,I,.nil,h⟩
theorem cJ {X:Cx}{pos:Pos}{k v:Expr}{ks:List (Option Expr)}{vs:List Expr}{tk tv:TE}{yE:List (TE×TE)}(hk:PE X k tk)(hv:PE X v tv)(hr:yD X pos ks vs yE):
  yD X pos (some k::ks) (v::vs) ((tk,tv)::yE):=λpins s σ H Q I h=>
 pairTrees_cons_walk (aO (hk pins s σ H _ I h) λu s1 ⟨x,H1,I1,rx,q1⟩=>aO (hv pins s1 σ H1 _ I1 q1) λw2 s2 ⟨y,H2,I2,ry,q2⟩=>
  aO (hr pins s2 σ H2 _ I2 q2) λws s3 ⟨ps,H3,I3,rel,q3⟩=>⟨(x,y)::ps,H3,I3,.cons ⟨rx,ry⟩ rel,q3⟩)
def oV (kvs more:List (Key×V)):List (Key×V):=more.foldl (λacc kv=>putK acc kv.1 kv.2) kvs
theorem KV.merge:∀{more:List (Key×V)}{rs:List (Key×Value)} {kvs:List (Key×V)} {vs:List (Key×Value)},KV more rs->KV kvs vs->KV (oV kvs more) (merged vs rs):=by
 intro more rs kvs vs r;unfold KV at r;induction r generalizing kvs vs with
 |nil=>intro q;exact q
 | @cons p q ps qs h t ih=>
  intro r0;have e:KV (putK kvs p.1 p.2) (stored vs q.1 q.2):=by have:=r0.put p.1 h.2;rw[<-h.1];exact this
  exact ih e
theorem tK:∀(more kvs:List (Key×V)),(oV kvs more).length<=kvs.length+more.length
 |[],kvs=>by show kvs.length<=kvs.length+0;omega
 |p::r,kvs=>by have h1:=tK r (putK kvs p.1 p.2);have h2:=qe kvs p.1 p.2;show(oV (putK kvs p.1 p.2) r).length<=_;rw[length_cons];omega
theorem yF {P:Program}{w:World}:∀{kvs:List (Key×V)}{ws:List (Value×Value)},VV (kvs.map λkv=>(kV kv.1,kv.2)) ws->∃rs,Carries (cA P w) ws rs/\KV kvs rs
 |[],_,r=>by rw[map_nil] at r;cases r;exact⟨[],True.intro,.nil⟩
 |p::kvs,_,r=>by
  rw[map_cons] at r;cases r with
  | @cons a b as bs h t=>obtain⟨rs,c,q⟩:=yF (P:=P) (w:=w) t;obtain⟨b1,b2⟩:=b;exact⟨(p.1,b2)::rs,⟨lC h.1,rfl,c⟩,.cons ⟨rfl,h.2⟩ q⟩
def Wn (yE:List (TE×TE)):TE:=λσ H Q=>∀p,H p=none->qO yE σ (upd H p (.dK [])) λps H2=>H2 p=some (.dK [])/\∃kvs:List (Key×V),ps=kvs.map (λkv=>(kV kv.1,kv.2))/\kvs.length<=15/\Q (.ref p) (upd H2 p (.dK (oV [] kvs)))
theorem Yt {X:Cx}{pos:Pos}{keys:List (Option Expr)}{values:List Expr}{yE:List (TE×TE)}(h:yD X pos keys values yE)(hall:keys.all (·.isSome)=true)(hl:keys.length=values.length)(h0:keys≠[])
  (h15:keys.length<=15):PE X (.Dict keys values pos) (Wn yE):=by
 intro pins s σ H Q I q;have hn:=I.hok.fresh (le_refl s.heap.objs.size);have I1:=I.laid (a:=s.heap.objs.size) (o:=.dK []) (h':=s.heap.push {cls:=.type "dict",data:=.dict #[]}) (t':=s.toks) (λ_ _ q=>get?_push_of_some _ q) (le_refl _) (EY s.heap I.big);refine wpAny_Dict_walk (knd:=cA X.prog X.w) hall hl h0 h15 (aO (h pins _ σ _ _ I1 (q _ hn)) λws s2 ⟨ps,H2,I2,rel,e,kvs,ep,lk,q2⟩=>?_);subst ep;obtain⟨rs,c,rk⟩:=yF (P:=X.prog) (w:=X.w) rel;obtain⟨z,hd,vs0,r0,dd⟩:=sO I2.hok e;cases r0;refine⟨rs,c,dd,λh' qN hs=>⟨.ref s.heap.objs.size,_,?_,rfl,q2⟩⟩;have hz:(oV [] kvs).length<=sizeLine:=by have h1:=tK kvs [];rw[length_nil] at h1;rw[sizeLine_eq];omega
 have he:∃q,h'.get? s.heap.objs.size=some q:=let⟨q,_,_,hq,_⟩:=qN;⟨q,hq⟩;exact qM I2 (by rw[e];exact True.intro) hs he (yC hz hd (rk.merge .nil) qN)
structure M1 (X:Cx)(o:Expr)(m:Str)(apos:Pos)(e:Expr)(cpos:Pos):Prop where
 base:attributeBase o m X.env (eval o X.env)=eval o X.env
 few:((backTo cpos (starEach [e] X.env)).all (λx=>!x.1) && (backToKw cpos (keywordEach [] X.env)).all (λx=>x.1.isSome)
  && decide (([e]:List Expr).length+([]:List Keyword).length+(if([]:List Keyword).isEmpty then 0 else 1)<30))=true
 line:(apos.endLine==cpos.line)=true
 trees:backTo cpos (starEach [e] X.env)=[(false,eval e X.env)]
structure M2 (X:Cx)(o:Expr)(m:Str)(apos:Pos)(e f:Expr)(cpos:Pos):Prop where
 base:attributeBase o m X.env (eval o X.env)=eval o X.env
 few:((backTo cpos (starEach [e,f] X.env)).all (λx=>!x.1) && (backToKw cpos (keywordEach [] X.env)).all (λx=>x.1.isSome)
  && decide (([e,f]:List Expr).length+([]:List Keyword).length+(if([]:List Keyword).isEmpty then 0 else 1)<30))=true
 line:(apos.endLine==cpos.line)=true
 trees:backTo cpos (starEach [e,f] X.env)=[(false,eval e X.env),(false,eval f X.env)]
def IsD (H:Hp)(a:Addr):Prop:=(∃kvs,Rd H a (.dK kvs))\/∃kvs,Rd H a (.dT kvs)
theorem abD {X:Cx}{pins:List (Addr×Obj)}{σ:St}{H:Hp}{s:Shared}{a:Addr}(I:Inv X pins σ H s)(d:IsD H a):
  s.TypeIs (.ref a) "dict"/\(∀b,Value.ref a=.ref b->∃ob,s.heap.get? b=some ob/\ob.dict=none)/\(a==sysModules)=false:=by
 rcases d with⟨kvs,e⟩|⟨kvs,e⟩
 .obtain⟨_,hd,vs,_,dd⟩:=sJ I.hok e;refine⟨dd.typeIs,λb q=>?_,hd⟩;cases q;obtain⟨ob,_,_,h1,h2,_⟩:=dd;exact⟨ob,h1,h2.2.1⟩
 .obtain⟨_,hd,xs,_,dd⟩:=vK I.hok e;refine⟨dd.typeIs,λb q=>?_,hd⟩;cases q;obtain⟨ob,_,_,h1,h2,_⟩:=dd;exact⟨ob,h1,h2.2.1⟩
section
variable {X:Cx}{pins:List (Addr×Obj)}{σ:St}{H:Hp}{s:Shared}{a:Addr}{y d:V}{u r:Value}{o:Option V}{A:Around}{E:Value->Shared->Prop}
end
def O9 (td ty:TE):TE:=λσ H Q=>td σ H λx H1=>∃a,x=.ref a/\IsD H1 a/\ty σ H1 λy H2=>∃kvs k v,H2 a=some (.dK kvs)/\y=kV k/\dI kvs k=some v/\Q v (upd H2 a (.dK (pH kvs k)))
section
variable {X:Cx}{o e f:Expr}{apos cpos:Pos}{td ty tx:TE}
theorem TJ (ho:PE X o td)(he:PE X e ty)(m:M1 X o "pop" apos e cpos):PE X (.Call (.Attribute o "pop" apos) [e] [] cpos) (O9 td ty):=by intro pins s σ H Q I h;refine wpAny_Call_method m.base m.few m.line PySem.F.plainAttrs_dict PySem.F.slot_dict_pop PySem.F.type_dict_pop (aO (ho pins s σ H _ I h) λu s1 ⟨x,H1,I1,rx,a,ex,d,q1⟩=>?_);subst ex;obtain rfl:u=Value.ref a:=rx;obtain⟨t1,t2,_⟩:=abD I1 d;refine⟨t1,t2,?_⟩;rw[m.trees];refine Calls.callWith_builtin rfl (Calls.evalArgs_plain (Calls.spliced_cons (aO (he pins s1 σ H1 _ I1 q1) λiv s2 ⟨y,H2,I2,ry,kvs,k,v,ea,ey,l,q2⟩=>Calls.spliced_nil ?_)));subst ey;exact aeA I2 ea ry l (.inl rfl) λw' s3 I3 lg=>⟨v,_,I3,lg,q2⟩
end
section
variable {X:Cx}{pins:List (Addr×Obj)}{σ:St}{H:Hp}{s:Shared}{a:Addr}{kvs:List (Key×V)}{A:Around}{E:Value->Shared->Prop}
end
section
variable {X:Cx}{pins:List (Addr×Obj)}{σ:St}{H:Hp}{s:Shared}{a:Addr}{y:V}{u:Value}{A:Around}{E:Value->Shared->Prop}
end
end L2
namespace VM
theorem len1:∀{us:List α},us.length=1->∃x0,us=[x0]
 |[x0],_=>⟨x0,rfl⟩
 |[],h=>by cases h
 |_::_::_,h=>by cases h
theorem len2:∀{us:List α},us.length=2->∃x0 x1,us=[x0,x1]
 |[],h=>by cases h
 |x0::r,h=>by obtain⟨x1,rfl⟩:=len1 (us:=r) (by simpa using h);exact⟨x0,x1,rfl⟩
theorem KZ:∀{us:List α},us.length=3->∃x0 x1 x2,us=[x0,x1,x2]
 |[],h=>by cases h
 |x0::r,h=>by obtain⟨x1,x2,rfl⟩:=len2 (us:=r) (by simpa using h);exact⟨x0,x1,x2,rfl⟩
theorem K1:∀{us:List α},us.length=4->∃x0 x1 x2 x3,us=[x0,x1,x2,x3]
 |[],h=>by cases h
 |x0::r,h=>by obtain⟨x1,x2,x3,rfl⟩:=KZ (us:=r) (by simpa using h);exact⟨x0,x1,x2,x3,rfl⟩
theorem K3:∀{us:List α},us.length=5->∃x0 x1 x2 x3 x4,us=[x0,x1,x2,x3,x4]
 |[],h=>by cases h
 |x0::r,h=>by obtain⟨x1,x2,x3,x4,rfl⟩:=K1 (us:=r) (by simpa using h);exact⟨x0,x1,x2,x3,x4,rfl⟩
theorem TQ:∀{us:List α},us.length=6->∃x0 x1 x2 x3 x4 x5,us=[x0,x1,x2,x3,x4,x5]
 |[],h=>by cases h
 |x0::r,h=>by obtain⟨x1,x2,x3,x4,x5,rfl⟩:=K3 (us:=r) (by simpa using h);exact⟨x0,x1,x2,x3,x4,x5,rfl⟩
open L2 PySem.W PySem.Calls PyProof.Rows
section
variable {X:Cx}
end
end VM
namespace VM
open L2
structure MI (K:Frag)(G H₀:Hp)(D:Addr)(bs:List Addr)(f:Nat->List PyData)(H:Hp):Prop where
 ex:∃F,Same H₀ H/\Same G F/\Same F H/\(∀a o,F a=some o->G a=some o\/oH o=true)/\F D=none/\H₀ D=none/\H D=some (.lst (bs.map V.ref))/\D∉bs/\bs.Nodup/\
  (∀b∈bs,F b=none/\H₀ b=none)/\∀(u:Nat) b,bs[u]? =some b->∃ys,H b=some (.lst ys)/\aK K F (f u) ys
section
variable {f f':Nat->List PyData}
theorem MI.congr (I:MI K G H₀ D bs f H)(h:∀u,u<bs.length->f u=f' u):MI K G H₀ D bs f' H:=by
 obtain⟨F,h1,h2,h3,h4,h5,h6,h7,h8,h9,h10,h11⟩:=I.ex;refine⟨F,h1,h2,h3,h4,h5,h6,h7,h8,h9,h10,λu b e=>?_⟩;have hu:u<bs.length:=by
  by_cases z:u<bs.length
  .exact z
  .rw[getElem?_eq_none (by omega)] at e;cases e
 obtain⟨ys,q1,q2⟩:=h11 u b e;exact⟨ys,q1,by rw[<-h u hu];exact q2⟩
theorem MI.fin (I:MI K G H₀ D bs f H):∃F,bh G H₀ F H/\Has K F (.list ((List.range bs.length).map λu=>.list (f u))) (.ref D):=by
 obtain⟨F,h1,h2,h3,h4,h5,h6,h7,h8,h9,h10,h11⟩:=I.ex;let F':Hp:=λa=>if a=D\/a∈bs then H a else F a
 have eF:∀a,F' a=if a=D\/a∈bs then H a else F a:=λ_=>rfl
 have FF:Same F F':=λa o e=>by
  have:¬(a=D\/a∈bs):=λz=>by
   rcases z with z|z
   .rw[z,h5] at e;cases e
   .rw[(h10 a z).1] at e;cases e
  rw[eF,if_neg this];exact e
 refine⟨F',⟨h1,h2.trans FF,λa o e=>?_,λa o e=>?_,λa x u e=>?_⟩,?_⟩
 .rw[eF] at e;split at e
  .exact e
  .exact h3 a o e
 .rw[eF] at e;split at e
  .rename_i z;rcases z with z|z
   .rw[z];exact .inr (.inl h6)
   .exact .inr (.inl (h10 a z).2)
  .rcases h4 a o e with z|z
   .exact .inl z
   .exact .inr (.inr z)
 .rw[eF] at e;split at e
  .rename_i z;rcases z with z|z
   .rw[z,h7] at e;cases e
   .obtain⟨i,hi⟩:=List.mem_iff_getElem?.mp z;obtain⟨ys,q1,_⟩:=h11 i a hi;rw[q1] at e;cases e
  .rcases h4 a _ e with z|z
   .exact z
   .cases z
 .refine⟨D,bs.map V.ref,rfl,aU.of (by rw[eF,if_pos (.inl rfl)];exact h7),?_⟩;have key:∀(cs:List Addr) (k:Nat),(∀i b,cs[i]? =some b->bs[k+i]? =some b)->aK K F' ((List.range' k cs.length).map λu=>PyData.list (f u)) (cs.map V.ref):=λcs=>by
   induction cs with
   |nil=>intro k _;rfl
   |cons b r ih=>intro k hk;have hb:=hk 0 b rfl;obtain⟨ys,q1,q2⟩:=h11 k b hb;rw[length_cons,List.range'_succ];refine⟨_,_,rfl,⟨b,ys,rfl,aU.of (by rw[eF,if_pos (.inr (mem_of_getElem? hb))];exact q1),aK.same FF q2⟩,ih (k+1) λi c hc=>?_⟩;have:=hk (i+1) c (by simpa using hc);rw[<-this];congr 1;omega
  have:=key bs 0 λi b hb=>by rw[Nat.zero_add];exact hb
  rw[List.range_eq_range'];exact this
end
open PyProof.Rows
section
variable {K:Frag}
end
theorem aH (e:σ[i]? =some (some v))(q:Q v H):vR i σ H Q:=by unfold vR;rw[e];exact q
section
variable {X:Cx}{rest:List Stmt}
end
end VM
namespace L2
open PyProof.Rows
def lX (l:List Nat)(lo hi:Option Int):List Nat:=(l.drop (HT.bQ l.length 0 lo)).take (HT.bQ l.length l.length hi - HT.bQ l.length 0 lo)
def fX (z:Str)(lo hi:Option Int):Str:=⟨(lX z.cps.toList lo hi).toArray⟩
theorem Wo (o:Option Int)(n d:Nat)(hd:d<=n):(match o with
  |none=>(d:Int)
  |some i=>max 0 (min (if i<0 then i+(n:Int) else i) (n:Int)))=((HT.bQ n d o:Nat):Int):=by
 cases o with
 |none=>rfl
 |some v=>show max (0:Int) (min (if v<0 then v+(n:Int) else v) (n:Int))=(((if v<0 then(v+(n:Int)).toNat else min v.toNat n:Nat)):Int);split<;>omega
open PySem.Builtin.Str in
theorem Yu (lo hi:Option Int)(n:Nat):strSliceIndices lo hi 1 n=(List.range (HT.bQ n n hi - HT.bQ n 0 lo)).map λk=>HT.bQ n 0 lo+k:=by
 have e1:=Wo lo n 0 (zero_le _);have e2:=Wo hi n n (le_refl _);have key:strSliceIndices lo hi 1 n=sliceRange ((HT.bQ n 0 lo)) ((HT.bQ n n hi):Int) 1:=by rw[<-e1,←e2];cases lo<;>cases hi<;>rfl
 rw[key];generalize HT.bQ n 0 lo=a;generalize HT.bQ n n hi=b;unfold sliceRange;simp only[show((1:Int)>0)=True by simp,if_true];have e3:(if(a)<(b:Int) then((b) - (a:Int)+1 - 1)/1 else 0).toNat=b - a:=by
  by_cases h:(a:Int)<b
  .rw[if_pos h,Int.ediv_one];omega
  .rw[if_neg h];omega
 rw[e3];exact List.map_congr_left λk _=>by omega
open PySem.Builtin.Str in
theorem TV (z:Str)(t:Tok)(l u:Option (Int×Tok))(hz:z.length<=sizeLine)(q:∀t' k,Q (.str (fX z (l.map (·.1)) (u.map (·.1))) t') {s with toks:=k}):
  (sliceMade z t l u none).post Q s:=by
 unfold sliceMade slicePicked;have hl:z.cps.toList.length=z.length:=by simp[Str.length]
 have a1:=HT.Dw z.length 0 (zero_le _) (l.map (·.1));have a2:=HT.Dw z.length z.length (le_refl _) (u.map (·.1));have ei:strSliceIndices (l.map (·.1)) (u.map (·.1)) (((none:Option (Int×Tok)).map (·.1)).getD 1) z.length=_:=Yu (l.map (·.1)) (u.map (·.1)) z.length;have ep:(strSliceIndices (l.map (·.1)) (u.map (·.1)) (((none:Option (Int×Tok)).map (·.1)).getD 1) z.length).filterMap (z.cps[·]?)=lX z.cps.toList (l.map (·.1)) (u.map (·.1)):=by
  rw[ei];unfold lX;rw[hl];generalize hA:HT.bQ z.length 0 (l.map (·.1))=a at*
  generalize hB:HT.bQ z.length z.length (u.map (·.1))=b at*
  by_cases c:a<=b
  .have:=StrLaws.picks z.cps.toList (b - a) a (by omega);simpa using this
  .rw[show b - a=0 by omega];simp
 split
 .rename_i c;have c':(strSliceIndices (l.map (·.1)) (u.map (·.1)) (((none:Option (Int×Tok)).map (·.1)).getD 1) z.length).length=z.length:=by simp only[and_eq_true,beq_iff_eq] at c;exact c.2
  rw[ei,length_map,List.length_range] at c'
  have:fX z (l.map (·.1)) (u.map (·.1))=z:=by unfold fX lX;rw[hl,show HT.bQ z.length 0 (l.map (·.1))=0 by omega,drop_zero,take_of_length_le (by rw[hl];omega)]
  have q':=q t s.toks;rw[this] at q';exact q'
 .rw[ep];refine⟨?_,q _ _⟩;show(lX z.cps.toList (l.map (·.1)) (u.map (·.1))).toArray.size<=sizeLine;rw[size_toArray];unfold lX;rw[length_take,length_drop,hl];omega
section
def abE:V->Option Int->Option Int->Hp->VK->Prop:=λx lo hi H Q=>∃z,x=.str z/\z.length<=sizeLine/\Q (.str (fX z lo hi)) H
theorem Pa:Vz X abE:=by
 intro pins s σ H x v vl vu lo hi sl Q I rx hs pl pu h;obtain⟨z,rfl,hz,q⟩:=h;obtain⟨t,rfl⟩:=rx;refine⟨"str",_,F.slot_str_getitem.lookup,typeIs_str s z t,?_⟩;obtain⟨o,ho,hc,hd⟩:=hs;have part:∀{v:Value}{o:Option Int},IsPart v o->∃p,v=partValue p/\p.map (·.1)=o:=λh=>by
  cases h with
  |none=>exact⟨none,rfl,rfl⟩
  |int i t=>exact⟨some (i,t),rfl,rfl⟩
 obtain⟨pl',rfl,rfl⟩:=part pl;obtain⟨pu',rfl,rfl⟩:=part pu;refine wpAny_getItem_str_slice ⟨o,ho,hc,hd⟩ rfl (TV z t pl' pu' hz λt' k=>?_);exact⟨.str _,H,I.kept λ_ _ e=>e,⟨t',rfl⟩,q⟩
theorem pI:cg X (compareOp .LtE) (λx y H Q=>∃i j,x=.str i/\y=.str j/\Q (.bl (!decide (j.cps.toList<i.cps.toList))) H):=by intro pins s σ H x y v u Q I rx ry h;obtain⟨i,j,rfl,rfl,q⟩:=h;obtain⟨t,rfl⟩:=rx;obtain⟨t',rfl⟩:=ry;exact PySem.P.le_str (bW I q rfl)
end
end L2
namespace VM
open PyProof.Rows L2
theorem qP:(PyData.str x).canLay0=true↔∀c∈x.cps.toList,c<0x110000:=by show x.cps.all (· <0x110000)=true↔_;rw[Array.all_eq_true'];simp
theorem Yv {lo hi:Option Int}(h:(PyData.str x).canLay0=true):(PyData.str (fX x lo hi)).canLay0=true:=by rw[qP] at h ⊢;intro c hc;exact h c (List.mem_of_mem_drop (List.mem_of_mem_take hc))
theorem iw (x y:Str):(x++y).cps.toList=x.cps.toList++y.cps.toList:=by show(x.cps++y.cps).toList=_;simp
theorem Yw (h:(PyData.str x).canLay0=true)(g:(PyData.str y).canLay0=true):(PyData.str (x++y)).canLay0=true:=by
 rw[qP] at h g ⊢;intro c hc;rw[iw] at hc;rcases mem_append.mp hc with z|z
 .exact h c z
 .exact g c z
noncomputable def ak:PyData->PyData->Option PyData
 |.str x,.str y=>if x.length+y.length<=1000 then some (.str (x++y)) else none
 |_,_=>none
theorem aeC {K:Frag}:fK K ak (λx y H Q=>∃i j,x=.str i/\y=.str j/\i.length+j.length<=sizeLine/\Q (.str (i++j)) H):=by
 intro H x y dx dy d Q e hx hy q;unfold ak at e;split at e
 .split at e
  .rename_i i j hz;cases e;obtain⟨rfl,c1⟩:=hx;obtain⟨rfl,c2⟩:=hy;exact⟨_,_,rfl,rfl,le_trans hz (by decide),q _ λ_=>⟨rfl,Yw c1 c2⟩⟩
  .cases e
 .cases e
noncomputable def jl:PyData->PyData->Option PyData
 |.str x,.str y=>some (.bool (!decide (y.cps.toList<x.cps.toList)))
 |_,_=>none
theorem K4 {K:Frag}:fK K jl (λx y H Q=>∃i j,x=.str i/\y=.str j/\Q (.bl (!decide (j.cps.toList<i.cps.toList))) H):=by
 intro H x y dx dy d Q e hx hy q;unfold jl at e;split at e
 .cases e;obtain⟨rfl,c1⟩:=hx;obtain⟨rfl,c2⟩:=hy;exact⟨_,_,rfl,rfl,q _ λ_=>rfl⟩
 .cases e
noncomputable def pJ:List PyData->Option PyData
 |[.str x]=>if x.length<=1000 then some (.int x.length) else none
 |_=>none
theorem Wq {K:Frag}:CallD K pJ (λxs H Q=>∃z,xs=[.str z]/\z.length<=sizeLine/\Q (.int z.length) H):=by
 intro H vs ds d Q e hx q;unfold pJ at e;split at e
 .split at e
  .rename_i x hz;cases e;obtain⟨v,rfl,rfl,_⟩:=aK.one hx;exact⟨_,rfl,le_trans hz (by decide),q _ λ_=>rfl⟩
  .cases e
 .cases e
def zR:PyData->PyData->Option PyData
 |.str x,.int i=>if x.length<=1000 then(cR x.cps.toList i).map λc=>.str ⟨#[c]⟩ else none
 |_,_=>none
noncomputable def strsOf:List PyData->Option (List Str)
 |[]=>some []
 |.str x::r=>(strsOf r).map λl=>x::l
 |_=>none
theorem qg:∀{ds:List PyData}{xs:List Str},strsOf ds=some xs->ds=xs.map PyData.str
 |[],xs,h=>by cases h;rfl
 |d::r,xs,h=>by
  unfold strsOf at h;split at h
  .rename_i e;cases e
  .rename_i x r' e;cases e;cases q:strsOf r with
   |none=>rw[q] at h;cases h
   |some l=>rw[q] at h;cases h;rw[qg q];rfl
  .cases h
theorem HN {K:Frag}:∀{xs:List Str}{vs:List V},aK K H (xs.map PyData.str) vs->vs=xs.map V.str
 |[],vs,h=>h
 |x::xs,vs,h=>by obtain⟨v,r,rfl,⟨rfl,_⟩,h3⟩:=h;rw[HN h3];rfl
def abF (neg:Bool):PyData->PyData->Option PyData
 |.str x,.list ds=>match strsOf ds with
  |some xs=>some (.bool (if neg then !(xs.any λy=>y==x) else xs.any λy=>y==x))
  |none=>none
 |_,_=>none
theorem aha {K:Frag}:fK K (abF neg) (VB K neg):=by
 intro H x y dx dy d Q e hx hy q;unfold abF at e;split at e
 .split at e
  .rename_i xs hn;cases e;obtain⟨rfl,_⟩:=hx;obtain⟨p,vs,rfl,h1,h2⟩:=hy;rw[qg hn] at h2;rw[HN h2] at h1;have e1:∀x:Str,inV (.str x) (xs.map V.str)=xs.any λy=>y==x:=λx=>by unfold inV;rw[List.any_map];rfl
   refine⟨p,_,rfl,.inl h1,rfl,by rw[all_map];simp[mz],?_⟩;rw[e1];exact q _ λ_=>rfl
  .cases e
 .cases e
section
variable {lo hi:Option Expr}
theorem ahb (ha:PE X a (tV X.K RW fa))(hb:PE X b (tV X.K RW fb))(hs:vG b:=by intro _ _;rfl):PE X (.Subscript a b pos) (tV X.K RS (v2 zR fa fb)):=
 (J3 aag ha hb hs).imp λ_ _ Q q=>by
  obtain⟨aG,G,H₀,S,F,I,d,e,q⟩:=q;obtain⟨x,y,ex,ey,e⟩:=kI e;refine⟨aG,G,H₀,S,F,I,x,ex,λv F1 H1 g1 hx=>⟨aG,G,H₀,S,F1,I.grow g1,y,ey,λu F2 H2 g2 hy=>?_⟩⟩;unfold zR at e;split at e
  .rename_i z i;split at e
   .rename_i hz;cases ec:cR z.cps.toList i with
    |none=>rw[ec] at e;cases e
    |some c=>
     rw[ec] at e;cases e;obtain⟨rfl,cz⟩:=hx;have eu:=hy;refine⟨z,i,c,rfl,eu,le_trans hz (by decide),ec,q _ F2 H2 (g1.trans g2) ⟨rfl,?_⟩⟩;rw[qP] at cz ⊢;intro c' hc'
     have:c'=c:=by simpa using hc'
     subst this;obtain⟨j,_,h2,_⟩:=qG ec;exact cz c' (mem_of_getElem? h2)
   .cases e
  .cases e
def wZ (f:VE)(l u:GS->Option (Option Int)):VE:=λS=>match f S,l S,u S with
 |some (.str x),some lo,some hi=>if x.length<=1000 then some (.str (fX x lo hi)) else none
 |_,_,_=>none
theorem ahc (he:PE X e (tV X.K RW f))(hl:PO X lo (Az X.K fl))(hu:PO X hi (Az X.K fu)):PE X (.Subscript e (.Slice lo hi none p2) pos) (tV X.K RS (wZ f fl fu)):=
 (lM Pa he hl hu).imp λ_ H Q q=>by
  obtain⟨aG,G,H₀,S,F,I,d,e,q⟩:=q;unfold wZ at e;split at e
  .rename_i x l u q1 q2 q3;split at e
   .rename_i hz;cases e;refine⟨aG,G,H₀,S,F,I,_,q1,λv F1 H1 g1 hx=>⟨aG,G,H₀,S,F1,I.grow g1,l,q2,λF2 H2 g2=>⟨aG,G,H₀,S,F2,(I.grow g1).grow g2,u,q3,λF3 H3 g3=>?_⟩⟩⟩;obtain⟨rfl,cx⟩:=hx;exact⟨x,rfl,le_trans hz (by decide),q _ F3 H3 ((g1.trans g2).trans g3) ⟨rfl,Yv cx⟩⟩
   .cases e
  .cases e
end
end VM
namespace L2
open PyProof.Rows
noncomputable def sgn (z:Str)(i:Nat):Option Str:=(z.cps[i]?).map λc=>⟨#[c]⟩
def Its (z:Str):It:=⟨λi _=>i<z.length,λi H x H'=>H'=H/\∃y,sgn z i=some y/\x=.str y,λi _=>z.length<=i⟩
theorem K5 {K:Frag}(z:Str)(t:Tok)(it:Addr):Turn P w K tg (Its z) [it] it (λi h=>h.IsStrIter it "str_ascii_iterator" z t i) where
 mem:=by simp
 obj:=λi h st b hb=>by
  obtain rfl:b=it:=by simpa using hb
  obtain⟨o,e,c,d⟩:=st;exact⟨o,e,λv y=>by rw[d] at y;cases y⟩
 keep:=λi h h' st k=>let⟨o,e,r⟩:=st;⟨o,k it (by simp) o e,r⟩
 item:=by
  intro X hP hw hK hc i pins s σ H E I hf st hg;subst hP hw hK;obtain⟨f0,f1,f2,f3,f4,f5⟩:=hf it (by simp);have hi:i<z.cps.size:=hg;have ec:z.cps[i]? =some z.cps[i]:=by simp[hi]
  refine wpAny_pyNext_ascii_item st ec λh' st' sb=>?_;have I1:Inv X pins σ H {s with heap:=h',toks:=s.toks+1}:=I.turned (λb o hb e=>(sb.2 b hb).trans e) f0 f1 f3 f4 f5;obtain⟨o,e,c,d⟩:=id st';exact⟨_,rfl,Ca (s:={s with heap:=h',toks:=s.toks+1}) e c d (by decide) ⟨.str ⟨#[z.cps[i]]⟩,H,I1,⟨_,rfl⟩,⟨rfl,_,by unfold sgn;rw[ec];rfl,rfl⟩,st',λb hb=>(hf b hb).1⟩⟩
 done:=by intro X hP hw hK hc i pins s σ H E I hf st hg;subst hP hw hK;obtain⟨f0,f1,f2,f3,f4,f5⟩:=hf it (by simp);have hi:z.cps.size<=i:=hg;exact wpAny_pyNext_ascii_end (I.ok.hd hc) st (by simp[hi]) λh' eb=>⟨rfl,I.turned (t':=s.toks) (λb o hb e=>eb b o hb e) f0 f1 f3 f4 f5⟩
 self:=λ_ _ _ _ _ st h=>wpAny_pyIter_striter_ascii st h
section
variable {tg:Expr}
noncomputable def ascii (z:Str):Bool:=z.cps.all (· <128)
def ahd (tl:TE):TI:=λσ H R=>tl σ H λx H1=>∃z,x=.str z/\ascii z=true/\R (Its z) H1
theorem abG {tl:TE}(hl:PE X l tl):PI X tg l (ahd tl):=by
 intro pins s σ H R I h;refine aO (hl pins s σ H _ I h) λv s1 ⟨x,H1,I1,r1,q1⟩=>?_;obtain⟨z,e,ha,q⟩:=q1;subst e;obtain⟨t,rfl⟩:=r1;refine wpAny_pyIter_ascii ha ?_;refine⟨s1.heap.objs.size,[s1.heap.objs.size],_,_,H1,rfl,I1.kept λb o e=>get?_push_of_some _ e,K5 z t _,⟨_,get?_push_size _ rfl,rfl,rfl⟩,λb hb=>?_,q⟩;obtain rfl:b=s1.heap.objs.size:=by simpa using hb
 exact I1.pW (le_refl _) (I1.hok.fresh (le_refl _))
def Wr (K:Frag):List V->Hp->VK->Prop:=λxs H Q=>∃(p:Addr) (bs:List Bool),xs=[.ref p]/\aU K H p (bs.map V.bl)/\Q (.bl (bs.all id)) H
theorem abH (hc:X.calm=true):c7 X (.builtin "all") (Wr X.K):=by
 intro pins s σ H xs us Q I r h;obtain⟨p,bs,rfl,hq,q⟩:=h;obtain⟨u,rfl,rx⟩:=vals1 r;cases rx;obtain⟨its,rv,pl,hz⟩:=I.list hq;have hl:=rv.length;rw[length_map] at hl;have hb:∀(i:Nat) v,its[i]? =some v->v=.bool (bs.getD i true):=λi v e=>by
  have hi:i<bs.length:=by
   rcases Nat.lt_or_ge i bs.length with z|z
   .exact z
   .rw[getElem?_eq_none (by omega)] at e;cases e
  obtain⟨u,e2,r2⟩:=rv.get (i:=i) (x:=.bl bs[i]) (by simp[hi]);rw[e] at e2;cases e2;have r2':=r2;rw[r2'];simp[List.getD,hi]
 refine call_all_walk (wpAny_pyIter_list pl.isList ?_);have hne:p≠s.heap.objs.size:=by obtain⟨o,n,e,_⟩:=pl;exact ne_of_lt (lt_size e)
 refine⟨s.heap.objs.size,_,_,_,_,_,λi=>bs.getD i true,rfl,Walks.list (show X.A.in1.handled=none from I.ok.hd hc) s.heap.objs.size p hne its.toArray,⟨⟨_,get?_push_size _ rfl,rfl,rfl⟩,?_⟩,?_,λh' tk hk=>?_⟩
 .obtain⟨o,n,e,c1,c2,c3⟩:=pl;exact⟨o,get?_push_of_some _ e,c1,n,c3⟩
 .intro i v s Q E hv hQ;rw[hb i v (by simpa using hv)];exact wpAny_truthy_bool hQ
 .have e:(List.range its.toArray.size).all (λi=>bs.getD i true)=bs.all id:=by
   rw[size_toArray,←hl];rw[Bool.eq_iff_iff,all_eq_true,all_eq_true];constructor
   .intro h b hb;obtain⟨i,hi,rfl⟩:=List.getElem_of_mem hb;have:=h i (mem_range.mpr hi);simpa [List.getD,hi] using this
   .intro h i hi;have hi:=mem_range.mp hi;have:=h bs[i] (List.getElem_mem hi);simpa [List.getD,hi] using this
  rw[e];refine⟨.bl _,H,I.kept λb o eb=>hk b o ?_ (get?_push_of_some _ eb),rfl,q⟩;intro z;have z':b=s.heap.objs.size:=by simpa using z
  exact absurd (lt_size eb) (by rw[z'];exact lt_irrefl _)
end
end L2
namespace VM
open PyProof.Rows L2
noncomputable def vM (z:Str):List PyData:=z.cps.toList.map λc=>.str ⟨#[c]⟩
def fZ (f:VE):VA:=λS=>match f S with
 |some (.str z)=>if ascii z=true then some (vM z) else none
 |_=>none
section
variable {fs:VA}
theorem itS (he:PE X l (tV X.K RW f)):PI X tg l (uO X.K (fZ f)):=PI.imp (abG he) λ_ H R q=>by
 obtain⟨aG,G,H₀,S,F,I,ds,e,q⟩:=q;unfold fZ at e;split at e
 .rename_i z q1;split at e
  .rename_i ha;cases e;refine⟨aG,G,H₀,S,F,I,_,q1,λv F1 H1 g1 hx=>?_⟩;obtain⟨rfl,cz⟩:=hx;refine⟨z,rfl,ha,q _ F1 H1 g1 ⟨λi d F' H' hd s1 s2=>⟨?_,λx mR hy=>?_⟩,λi F' H' hi _ _=>?_⟩⟩
   .have:=(List.getElem?_eq_some_iff.mp hd).1;rw[vM,length_map] at this;show i<z.cps.size;simpa using this
   .obtain⟨rfl,y,hy,rfl⟩:=hy;refine⟨F',bh.refl s2,?_⟩;rw[vM,getElem?_map] at hd;obtain⟨c,ec,rfl⟩:=map_eq_some_iff.mp hd;have ec':z.cps[i]? =some c:=by simpa using ec
    unfold sgn at hy;rw[ec'] at hy;cases hy;refine⟨rfl,?_⟩;rw[qP] at cz ⊢;intro c' hc'
    have:c'=c:=by simpa using hc'
    subst this;exact cz c' (mem_of_getElem? ec)
   .rw[vM,length_map] at hi;show z.cps.size<=i;simpa using hi
  .cases e
 .cases e
noncomputable def boolsOf:List PyData->Option (List Bool)
 |[]=>some []
 |.bool b::r=>(boolsOf r).map λl=>b::l
 |_=>none
theorem uU:∀{ds:List PyData}{xs:List Bool},boolsOf ds=some xs->ds=xs.map PyData.bool
 |[],xs,h=>by cases h;rfl
 |d::r,xs,h=>by
  unfold boolsOf at h;split at h
  .rename_i e;cases e
  .rename_i x r' e;cases e;cases q:boolsOf r with
   |none=>rw[q] at h;cases h
   |some l=>rw[q] at h;cases h;rw[uU q];rfl
  .cases h
theorem wI:∀(xs:List Bool),boolsOf (xs.map PyData.bool)=some xs
 |[]=>rfl
 |x::r=>by show(boolsOf (r.map PyData.bool)).map _=_;rw[wI r];rfl
theorem Fb {K:Frag}:∀{xs:List Bool}{vs:List V},aK K H (xs.map PyData.bool) vs->vs=xs.map V.bl
 |[],vs,h=>h
 |x::xs,vs,h=>by obtain⟨v,r,rfl,h2,h3⟩:=h;have h2':v=.bl x:=h2;rw[h2',Fb h3];rfl
def uV:List PyData->Option PyData
 |[.list ds]=>(boolsOf ds).map λbs=>.bool (bs.all id)
 |_=>none
theorem abI {K:Frag}:CallD K uV (Wr K):=by
 intro H vs ds d Q e hx q;unfold uV at e;split at e
 .rename_i ds;cases eb:boolsOf ds with
  |none=>rw[eb] at e;cases e
  |some bs=>rw[eb] at e;cases e;obtain⟨v,rfl,a,xs,rfl,h1,h2⟩:=aK.one hx;rw[uU eb] at h2;rw[Fb h2] at h1;exact⟨a,bs,rfl,h1,q _ λ_=>rfl⟩
 .cases e
end
end VM
namespace L2
open PyProof.Rows
section
variable {o:Obj}
theorem Inv.still (I:Inv X pins σ H s)(h:H a=some (.dK kvs))(ho:s.heap.get? a=some o):Inv X pins σ (upd H a (.dR o (.dK kvs))) s:=by have new:dB X.prog X.w (upd H a (.dR o (.dK kvs))) s.heap a (.dR o (.dK kvs)):=⟨ho,I.hok a _ h⟩;exact I.write (by rw[h];exact True.intro) (.inl rfl) (λ_ _ _ e=>e) ⟨o,ho⟩ new
theorem Inv.loose (TY:Inv X pins σ H s)(h₀:H a=some (.dK kvs))(I:Inv X pins σ' H' s')(h:H' a=some (.dR o (.dK kvs))):Inv X pins σ' (upd H' a (.dK kvs)) s':=by
 have ht:H' a≠none:=by rw[h];simp
 have nf:∀ob u,X.H₀ a≠some (.dR ob u):=λob u e=>by have:=TY.base.jO a ob u e;rw[h₀] at this;cases this
 have nt:∀xs,X.H₀ a≠some (.tup xs):=λxs e=>by have:=TY.base.tups a xs e;rw[h₀] at this;cases this
 have nb:∀ps,X.H₀ a≠some (.Aa ps):=λps e=>by obtain⟨more,this⟩:=TY.base.j5 a ps e;rw[h₀] at this;cases this
 have ahe:=I.hok a _ h;refine⟨I.ok,I.os,I.bare,⟨I.base.keep,I.base.slot,λb ob e n hx=>?_,I.base.there,λb xs e=>?_,λb ob u e=>?_,λb ps e=>?_⟩,I.loc,I.cell,?_,λx c e=>?_,λp hp=>?_,λb u e=>?_,I.len⟩
 .have z:=I.base.free b ob e n hx;rw[aB λy=>by subst y;exact ht z];exact z
 .rw[aB λy=>by subst y;exact nt xs e];exact I.base.tups b xs e
 .rw[aB λy=>by subst y;exact nf ob u e];exact I.base.jO b ob u e
 .obtain⟨more,z⟩:=I.base.j5 b ps e;exact⟨more,by rw[aB λy=>by subst y;exact nb ps e];exact z⟩
 .rw[aB λy=>ht (by rw[<-y];exact I.free)];exact I.free
 .rw[aB λy=>ht (by rw[<-y];exact I.gZ x c e)];exact I.gZ x c e
 .obtain⟨p1,p2,p3⟩:=I.pin p hp;exact⟨p1,by rw[aB λy=>ht (by rw[<-y];exact p2)];exact p2,p3⟩
 .by_cases hb:b=a
  .subst hb;rw[aA] at e;cases e;exact ahe.2
  .rw[aB hb] at e;refine(I.hok b u e).stay (λc v _ q=>q) (λc q=>?_) λc xs q=>?_
   .rw[aB λy=>by subst y;rw[h] at q;cases q];exact q
   .rw[aB λy=>by subst y;rw[h] at q;cases q];exact q
end
def Iti (a:Addr)(o:Obj)(kvs:List (Key×V)):It:=
  ⟨λi H=>H a=some (.dR o (.dK kvs))/\i<kvs.length,
   λi H v H'=>∃p kv,kvs[i]? =some kv/\H p=none/\v=.ref p/\H'=upd H p (.tup [kV kv.1,kv.2]),
   λi H=>H a=some (.dR o (.dK kvs))/\kvs.length<=i⟩
theorem HS (h:(cA P w).is k v=true):RelV (kV k) v:=by
 rw[JG] at h;rcases dW h with⟨j,t,e,e2⟩|⟨x,t,e,e2⟩
 .subst e;exact⟨t,e2⟩
 .subst e;exact⟨t,e2⟩
theorem Fd (ok:d9 P w H h)(e:H a=some (.dR o (.dK kvs)))(ho:o.data=.dict es ep):
  ∃vs,KV kvs vs/\h.DictAt (cA P w) a vs ep:=by
 obtain⟨g,_,_,vs,kv,o',es',ep',g',x1,x2,x3,x4,x5⟩:=(ok a _ e);rw[g] at g';cases g';rw[ho] at x2;cases x2;exact⟨vs,kv,o,es,g,x1,ho,x3,x4,x5⟩
theorem K6 {K:Frag}(a it:Addr)(o:Obj)(kvs:List (Key×V))(es:Array DictEntry)(ep:Nat)(ho:o.data=.dict es ep):
  Turn P w K (.Tuple elts k pos) (Iti a o kvs) [it] it (λi h=>∃ok ov,IsItemIter h it a i kvs.length ep ok ov) where
 mem:=by simp
 obj:=λi h st b hb=>by obtain⟨_,_,he⟩:=st;rw[mem_singleton.mp hb];exact⟨_,he,λv z=>by have z':Data.fields _=Data.cell v:=z;cases z'⟩
 keep:=λi h h' st k=>by obtain⟨ok,ov,he⟩:=st;exact⟨ok,ov,k it (by simp) _ he⟩
 item:=by
  intro X hP hw hK hc i pins s σ H E I hf st hg;subst hP hw hK;obtain⟨ok,ov,he⟩:=st;obtain⟨hd,hi⟩:=hg;obtain⟨vs,kv,dat⟩:=Fd I.hok hd ho;have hl:=kv.length;have ex:kvs[i]? =some kvs[i]:=by simp[hi]
  obtain⟨⟨k',v'⟩,e2,r1,r2⟩:∃y,vs[i]? =some y/\kvs[i].1=y.1/\RelV kvs[i].2 y.2:=by
   have key:∀{l:List (Key×V)}{r:List (Key×Value)} {j:Nat} {x:Key×V},KV l r->l[j]? =some x->∃y,r[j]? =some y/\x.1=y.1/\RelV x.2 y.2:=λ{l r}=>by
    intro j x h;induction h generalizing j with
    |nil=>intro e;cases e
    |cons h _ ih=>
     cases j with
     |zero=>intro e;cases e;exact⟨_,rfl,h⟩
     |succ j=>intro e;exact ih e
   exact key kv ex
  rw[hl] at he;refine wpAny_pyNext_items_item he dat e2 λkey h' hk hO hT hsz hkp=>?_;refine⟨_,rfl,wpAny_letOwnedTupleGo_items hO λh2 he2 hs2=>?_⟩;have hlt:it<s.heap.objs.size:=lt_size he;have hT2:h2.get? s.heap.objs.size=some {cls:=.type "tuple",data:=.seq #[key,v']}:=(hs2.2 _ (ne_of_gt hlt)).trans hT;have rk:RelV (kV kvs[i].1) key:=by rw[r1];exact HS hk
  refine⟨.ref s.heap.objs.size,upd H s.heap.objs.size (.tup [kV kvs[i].1,kvs[i].2]),?_,rfl,⟨_,kvs[i],ex,I.hok.fresh (le_refl _),rfl,rfl⟩,⟨key,v',by rw[hl];exact he2⟩,λb hb=>?_⟩
  .refine I.vH (fp:=[it]) (λb ob hb q=>?_) hf (le_refl _) ⟨by show 2<=sizeLine;decide,[key,v'],.cons rk (.cons r2 .nil),⟨_,hT2,rfl,_,rfl⟩⟩;have h1:b≠it:=λz=>hb (by simp[z]);exact(hs2.2 b h1).trans (hkp b ob h1 q)
  .rw[mem_singleton.mp hb,aB (ne_of_lt hlt)];exact(hf it (by simp)).1
 done:=by intro X hP hw hK hc i pins s σ H E I hf st hg;subst hP hw hK;obtain⟨ok,ov,he⟩:=st;obtain⟨hd,hi⟩:=hg;obtain⟨vs,kv,dat⟩:=Fd I.hok hd ho;have hl:=kv.length;rw[hl] at he;refine wpAny_pyNext_items_end (I.ok.hd hc) he dat (getElem?_eq_none (by omega)) λh' eb=>⟨rfl,I.turns (t':=s.toks) (fp:=[it]) (λb ob hb q=>eb b ob (λz=>hb (by simp[z])) q) hf⟩
 self:=λ_ _ _ _ _ st h=>by obtain⟨ok,ov,he⟩:=st;exact PySem.W.kcp_self he h
section
variable {tpos:Pos}
noncomputable def j7 (d:Addr):Obj:={cls:=.type "dict_items",data:=.fields #[.ref d]}
def HW:V->List V->Hp->VK->Prop:=λx vs H Q=>match x,vs with
 |.ref d,[]=>∃kvs,H d=some (.dK kvs)/\∀z,H z=none->Q (.ref z) (upd H z (HO.ext λh=>h.get? z=some (j7 d)))
 |_,_=>False
theorem abK:Aq X "dict.items" HW:=by
 intro pins s σ H x vs v us Q I rx rv q
 match x,vs,q with
 |.ref d,[],⟨kvs,hH,q⟩=>cases rx;have hus:=rv.zero;subst hus;obtain⟨z,hS,ws,rel,dd⟩:=sO I.hok hH;refine call_meetsIn PySem.F.slot_dict_items dd.typeIs PySem.F.entry_dict_items (PySem.F.args_dict_items_1 _) (meets_dict_items (cA X.prog X.w) d hS) ⟨⟨ws,dd⟩,?_⟩;have e:(s.heap.push (j7 d)).get? s.heap.objs.size=some (j7 d):=get?_push_size _ rfl;exact⟨.ref _,_,I.laid (o:=HO.ext λh=>h.get? s.heap.objs.size=some (j7 d)) (λ_ _ q=>get?_push_of_some _ q) (le_refl _) ⟨e,⟨_,e⟩,λh1 h2 a b=>b _ a⟩,rfl,q _ I.fresh⟩
def Pb (K:Frag)(td:TE):TI:=λσ H R=>RL K "dict" HW td σ H λv H2=>∃z a kvs H1,v=.ref z/\H2=upd H1 z (HO.ext λh=>h.get? z=some (j7 a))/\H1 z=none/\H1 a=some (.dK kvs)/\∀o,R (Iti a o kvs) (upd H2 a (.dR o (.dK kvs)))
theorem T4 {d:Expr}(hd:PE X d td)(hbase:attributeBase d "items" X.env (eval d X.env)=eval d X.env:=by rfl)(hline:(apos.endLine==cpos.line)=true:=by rfl):
  PI X (.Tuple elts k tpos) (.Call (.Attribute d "items" apos) [] [] cpos) (Pb X.K td):=by
 intro pins s σ H R I h;have pe:=aak PySem.F.plainAttrs_dict PySem.F.slot_dict_items PySem.F.type_dict_items abK hd hbase hline;refine aO (pe pins s σ H _ I h) λv s1 hz=>?_;obtain⟨x,H2,I2,r2,z,a,kvs,H1,rfl,eH,hz,ha,q⟩:=hz;cases r2;subst eH;have hza:=bO ha hz;have ha2:upd H1 z (HO.ext λh=>h.get? z=some (j7 a)) a=some (.dK kvs):=by rw[aB hza];exact ha
 have hv:=(I2.hok z _ aA).1;obtain⟨_,hS,ws,rel,dd⟩:=sO I2.hok ha2;obtain⟨o,es,ep,d1,d2,d3,d4,d5,d6⟩:=id dd;have hl:=rel.length;refine wpAny_pyIter_items ⟨_,hv,rfl,rfl⟩ ⟨o,es,d1,d2,d3,d4,d5,d6⟩ ?_;have I3:=I2.kept (t':=s1.toks) (h':=s1.heap.push {cls:=.type "dict_itemiterator",data:=.fields #[.none,.bool false,.ref a,.int 0 0,.int ws.length 0,.int ep 0,.none,.none]}) λb ob e=>get?_push_of_some _ e;refine⟨s1.heap.objs.size,[s1.heap.objs.size],_,_,_,rfl,I3.still ha2 (get?_push_of_some _ d1),K6 a _ o kvs es ep d3,⟨.none,.none,by rw[hl];exact get?_push_size _ rfl⟩,λb hb=>?_,q o⟩;rw[mem_singleton.mp hb];have fr:=I2.hok.fresh (le_refl s1.heap.objs.size);refine I2.pW (le_refl _) ?_;rw[aB λy=>by rw[y,ha2] at fr;cases fr];exact fr
theorem T5 {st:Stmt}(h:PS X st t):PS X st (λD σ H=>∃a kvs,H a=some (.dK kvs)/\t {D with nx:=λσ' H'=>∃o,H' a=some (.dR o (.dK kvs))/\D.nx σ' (upd H' a (.dK kvs))} σ H):=by
 intro pins s σ H D I q;obtain⟨a,kvs,ha,q⟩:=q;refine aO (h pins s σ H _ I q) λf s' hf=>?_;cases f with
 |next=>
  obtain⟨σ',H',I',o,h1,h2⟩:=hf;exact⟨σ',_,Inv.loose I ha I' h1,h2⟩
 |brk=>exact hf
 |cont=>exact hf
 |ret u=>exact hf
theorem abL (hc:X.calm=true):c7 X (.type "list") (λxs H Q=>∃a kvs,xs=[.ref a]/\H a=some (.dK kvs)/\∀z,H z=none->Q (.ref z) (upd H z (.lst (kvs.map λkv=>kV kv.1)))):=by
 intro pins s σ H xs us Q I r h;obtain⟨a,kvs,rfl,ha,q⟩:=h;obtain⟨u,rfl,rx⟩:=vals1 r;cases rx;obtain⟨hz,hS,ws,rel,dd⟩:=sO I.hok ha;obtain⟨ep,dat⟩:=dd.dictAt;have hl:=rel.length;refine PySem.W.kdl_call (PySem.W.kdl_dict hS) (I.ok.hd hc) dat (by omega) λh' tk acc c hk hD hacc=>?_;have hv:Vals (kvs.map λkv=>kV kv.1) acc.toList:=by
  have key:∀{l:List (Key×V)}{r:List (Key×Value)} {us:List Value},KV l r->us.length=r.length->(∀j v,us[j]? =some v->∃k x,r[j]? =some (k,x)/\(cA X.prog X.w).is k v=true)->Vals (l.map λkv=>kV kv.1) us:=λ{l r us} h=>by
   induction h generalizing us with
   |nil=>intro hl _;cases us with
    |nil=>exact .nil
    |cons _ _=>cases hl
   | @cons x y l r h _ ih=>
    intro hl hv;cases us with
    |nil=>cases hl
    |cons u us=>
     refine .cons ?_ (ih (by simpa using hl) λj v e=>hv (j+1) v e);obtain⟨k,x',e,hk⟩:=hv 0 u rfl;have e':y=(k,x'):=by simpa using e
     show RelV (kV x.1) u;rw[h.1,e'];exact HS hk
  refine key rel (by rw[length_toList];exact hacc.1) λj v e=>hacc.2 j v (by rw[<-Array.getElem?_toList];exact e)
 exact⟨.ref s.heap.objs.size,_,I.laid (o:=.lst (kvs.map λkv=>kV kv.1)) hk (le_refl _) ⟨by rw[length_map];exact hz,acc.toList,c,hv,by rw[hD]⟩,rfl,q _ (I.hok.fresh (le_refl _))⟩
end
end L2
namespace EX
theorem T6 {o:Obj}{vs:Array Value}(f:Array Value->Array Value)(hd:o.data=.fields vs):o.mapFields f={o with data:=.fields (f vs)}:=by obtain⟨c,d,dt,sl⟩:=o;cases hd;rfl
structure Fly (fr:List Addr)(e T:Addr)(h h':Heap):Prop where
 keep:∀b o,b∉fr->b≠e->h.get? b=some o->h'.get? b=some o
 slot:∀b o,b≠e->h.get? b=some o->∃sl,h'.get? b=some {o with slots:=sl}
 self:∀o vs,h.get? e=some o->o.data=.fields vs->∃ws,h'.get? e=some {o with data:=.fields ws}/\ws[0]? =vs[0]?∧ws[1]? =some (.ref T)
 new:h.objs.size<=T
 ent:∃oT ts,h'.get? T=some oT/\oT.data=.fields ts/\ts[3]? =some .none
 ne:T≠e
section
variable {M:Model}{A:Around}{E:Value->Shared->Prop}{s:Shared}{base:Heap}{env:Env}{outer:List Env}{L e:Addr}{oe:Obj}{vs:Array Value}{Q:Unit->Shared->Prop}
theorem entry {head:Value}{had:Bool}(hfr:A.frames=some (env::outer))(hl:s.heap.FunFrames base (env::outer))(hf:env.frame=some L)(he:s.heap.get? e=some oe)(hd:oe.data=.fields vs)(hz:1<vs.size)
  (k:∀h' T,Fly ((env::outer).filterMap (·.frame)) e T s.heap h'->Q () {s with heap:=h'}):
  wpAny M A (do let fo<-frameOf env;let pl<-entryPlaceOf L had;let nw<-EntryCells.newEntry head fo .none (rawInt L) .none pl;setField (.ref e) 1 nw)
   (λ_ s'=>wpAny M A (setFlight (.ref e) none) Q E s') E s:=by
 have Ws:e∉(env::outer).filterMap (·.frame):=λz=>by obtain⟨_,o,ho,no⟩:=hl.mem z;rw[he] at ho;cases ho;exact no vs hd
 refine wpAny_bind (wpAny_frameOf_fun hfr hl hf λg1 so=>?_);refine wpAny_bind (wpAny_entryPlaceOf λpl hpl=>?_);unfold EntryCells.newEntry newFields;refine wpAny_bind (wpAny_newObj_type ?_ (hpl.sizeOk5 _ _ _ _ _));generalize hts:([head,.ref L,.none,rawInt L,.none]++(if pl.isEmpty then replicate 6 Value.none else pl)).toArray=ts;have z3:3<ts.size:=by rw[<-hts];simp only[size_toArray,length_append,length_cons,length_nil];omega
 generalize hob:({cls:=.type "traceback",dict:=none,data:=.fields ts}:Obj)=ob;have w5:ob.data=.fields ts:=by rw[<-hob]
 have T7:ob.isFreed=false:=Obj.isFreed_of_fields w5;have e1:g1.get? e=some oe:=(so.2.1 e Ws).trans he;have lt:e<g1.objs.size:=lt_size e1;have ne:g1.objs.size≠e:=ne_of_gt lt;have e2:(g1.push ob).get? e=some oe:=get?_push_of_some _ e1;refine wpAny_setField e2 hd hz ?_;have d3:=Obj.data_mapFields hd (·.setIfInBounds 1 (Value.ref g1.objs.size));have e3:=get?_update_self (Obj.mapFields (·.setIfInBounds 1 (Value.ref g1.objs.size))) e2 (Obj.isFreed_of_fields d3);have t3:=(get?_update_other (g1.push ob) (Obj.mapFields (·.setIfInBounds 1 (Value.ref g1.objs.size))) ne.symm).trans (get?_push_size g1 T7);unfold setFlight;refine wpAny_bind (wpAny_field e3 d3 (x:=.ref g1.objs.size) (by simp[hz]) ?_);rw[if_pos (show(Value.ref g1.objs.size !=Value.none)=true from by simp)];refine wpAny_setField t3 w5 z3 (k _ g1.objs.size ?_);have kp:∀b o,b≠e->g1.get? b=some o->((((g1.push ob).update e (Obj.mapFields (·.setIfInBounds 1 (Value.ref g1.objs.size)))).update g1.objs.size (Obj.mapFields (·.setIfInBounds 3 ((none:Option Addr).elim Value.none λf=>rawInt f))))).get? b=some o:=λb o hb q=>by rw[get?_update_other _ _ (ne_of_gt (lt_size q)),get?_update_other _ _ hb.symm];exact get?_push_of_some _ q
 refine⟨λb o hb hbe q=>kp b o hbe ((so.2.1 b hb).trans q),λb o hbe q=>?_,λo ws q qd=>?_,?_,?_,ne⟩
 .obtain⟨sl,q1⟩:=so.2.2 b o q;exact⟨sl,kp b _ hbe q1⟩
 .rw[he] at q;cases q;rw[hd] at qd;cases qd;refine⟨vs.setIfInBounds 1 (Value.ref g1.objs.size),?_,by rw[Array.getElem?_setIfInBounds_ne (by decide)],by simp[hz]⟩;rw[get?_update_other _ _ ne,e3,T6 _ hd]
 .exact le_of_eq so.1.symm
 .refine⟨_,_,get?_update_self _ t3 (Obj.isFreed_of_fields (Obj.data_mapFields w5 _)),Obj.data_mapFields w5 _,?_⟩;simp[z3]
theorem leave (hfr:A.frames=some (env::outer))(hl:s.heap.FunFrames base (env::outer))(hf:env.frame=some L)(he:s.heap.get? e=some oe)(hd:oe.data=.fields vs)(h1:vs[1]? =some .none)
  (k:∀h' T,Fly ((env::outer).filterMap (·.frame)) e T s.heap h'->Q () {s with heap:=h'}):wpAny M A (leaving env (.ref e)) Q E s:=by
 unfold leaving noteFrame;simp only[hf];refine wpAny_bind (wpAny_bind (wpAny_field he hd h1 ?_));rw[if_neg (by decide)];exact entry hfr hl hf he hd (Array.getElem?_eq_some_iff.mp h1).1 k
theorem land {T0:Addr}{o0:Obj}{ts:Array Value}(hfr:A.frames=some (env::outer))(hl:s.heap.FunFrames base (env::outer))(hf:env.frame=some L)(he:s.heap.get? e=some oe)(hd:oe.data=.fields vs)(h1:vs[1]? =some (.ref T0))
  (ne:T0≠e)(h0:s.heap.get? T0=some o0)(d0:o0.data=.fields ts)(h3:ts[3]? =some .none)
  (k:∀h1 h' T,(∀b o,b≠T0->s.heap.get? b=some o->h1.get? b=some o)->h1.objs.size=s.heap.objs.size->Fly ((env::outer).filterMap (·.frame)) e T h1 h'->Q () {s with heap:=h'}):
  wpAny M A (noteFrame (.ref e) env) (λ_ s'=>wpAny M A (setFlight (.ref e) none) Q E s') E s:=by
 unfold noteFrame;simp only[hf];refine wpAny_bind (wpAny_field he hd h1 ?_);rw[if_pos (show(Value.ref T0 !=Value.none)=true from by simp)];refine wpAny_bind (wpAny_field h0 d0 h3 ?_);rw[if_neg (by simp[rawInt])];have z3:=(Array.getElem?_eq_some_iff.mp h3).1;refine wpAny_bind (wpAny_setField h0 d0 z3 ?_);have nT:T0∉(env::outer).filterMap (·.frame):=λz=>by obtain⟨_,o,ho,no⟩:=hl.mem z;rw[h0] at ho;cases ho;exact no ts d0
 have kp:∀b o,b≠T0->s.heap.get? b=some o->(s.heap.update T0 (Obj.mapFields (·.setIfInBounds 3 Value.none))).get? b=some o:=λb o hb q=>(get?_update_other _ _ hb.symm).trans q;refine entry (base:=base) hfr ?_ hf (kp e oe ne.symm he) hd (Array.getElem?_eq_some_iff.mp h1).1 λh' T fl=>k _ h' T kp (Heap.size_after_update ..) fl;exact hl.of_keeps λb o ho no=>⟨o,kp b o (λz=>by subst z;rw[h0] at ho;cases ho;exact no ts d0) ho,rfl⟩
end
open PySem.W
open Builtin Builtin.ObjectAttr
noncomputable abbrev jx:List Value:=[.type "ValueError",.type "Exception",.type "BaseException",.type "object"]
structure XC (K:Frag)(C D:Addr):Prop where
 obj:∃(nm q:Str) (N:Addr) (bs:List Value) (sn:List Str) (sub:List Value) (ab:Bool) (col:Option Bool) (dd:Option Addr) (k0 k1 k2 k3 k5:Option Value),
  K.lookup C=some (excClassObj nm q C N bs (.ref D::jx) true sn sub ab col dd k0 k1 k2 k3 k5 "ValueError.__new__")
 tl:tailIn K jx (.ref D::jx)=true
section
variable {prog:Program}{w:World}{A:Around}{E:Value->Shared->Prop}{h:Heap}{g:Array GenState}{d:Drawn}{t:Nat}{os:OsState}{K:Frag}{C D fI x:Addr}
theorem Pg {rest:List Value}{Q:Fin->Shared->Prop}(X:K.In h)(c:XC K C D)(hi:findIn K (.ref C) "__init__"=some (some (.ref fI)))(hf:isFn K (.ref fI)=true)
  (hq:∀h' e,h.objs.size<=e->Heap.MadeExcOf h h' e (.ref C) rest->wpAny (model prog w) A (call (.ref fI) (.ref e::rest)) (λr s'=>r=.none/\Q (.done (.ret (.ref e))) s') E ⟨h',g,d,t,os⟩)(hrest:rest.length<=sizeLine):
  wpAny (model prog w) A (Builtin.«type.__call__» ⟨.ref C::rest,[]⟩) Q E ⟨h,g,d,t,os⟩:=by
 obtain⟨nm,q,N,bs,sn,sub,ab,col,dd,k0,k1,k2,k3,k5,lk⟩:=c.obj;have hC:=X _ _ lk;have T:=tail_of_in X c.tl;have FV:=PySem.F.excBase_ValueError;repeat (first|with_reducible refine wpAny_loadPart_at hC ?_|with_reducible refine wpAny_madeBy_exc hC ?_|wp_step)
 refine codeAny_call_builtin_code (Code.quiet_builtin _ FV.quiet) (wpAny_check_new_subU FV FV.hasB T hC ?_);refine codeAny_exc_new_subU FV FV.hasB FV T hC ?_ hrest;show wpAny _ _ _ _ _ _;generalize hot:({cls:=.type "tuple",data:=.seq rest.toArray}:Obj)=ot;generalize hoe:({cls:=.ref C,data:=.fields #[.ref h.objs.size,.none,.none,.none,.bool false,.none]}:Obj)=oe;have kp:∀b o,h.get? b=some o->((h.push ot).push oe).get? b=some o:=λb o z=>get?_push_of_some _ (get?_push_of_some _ z);have X1:K.In ((h.push ot).push oe):=X.keeps kp;have hC1:=kp _ _ hC;have Fe:((h.push ot).push oe).get? (h.objs.size+1)=some oe:=by have z:=get?_push_size (h.push ot) (o:=oe) (by rw[<-hoe];rfl);rwa [size_push] at z
 have hcl:oe.cls=.ref C:=by rw[<-hoe]
 have hcC:(Value.ref C::(.ref D::jx)).contains (.ref C)=true:=by simp
 unfold isInstance;repeat (first|(with_reducible refine wpAny_loadPart_at Fe ?_;rw[hcl])|(with_reducible refine wpAny_isSubtype_exc hC1 ?_;rw[hcC])|wp_step)
 show wpAny _ _ (typeLookup (.ref C) _) _ _ _;refine(looks_findIn X1 hi).at ?_;refine wpAny_holding (wpAny_bind ?_);unfold bindSpecial;refine wpAny_bind ((looks_typeIn X1 (beq_iff_eq.mp hf)).at ?_);rw[if_pos (by decide)];refine wpAny_pure (wpAny_bind (wpAny_mono (hq _ (h.objs.size+1) (le_succ _) ⟨kp,Heap.get?_none_of_le (le_succ _),h.objs.size,by rw[Fe,←hoe],Heap.get?_none_of_le (le_refl _),?_⟩) (λr s' hr=>?_) λ_ _ z=>z))
 .rw[<-hot];exact get?_push_of_some _ (Heap.get?_push_at rfl rfl)
 .obtain⟨rfl,hQ⟩:=hr
  wp_walk
  exact hQ
theorem made {rest:List Value}{Q:Value->Shared->Prop}(X:K.In h)(c:XC K C D)(hi:findIn K (.ref C) "__init__"=some (some (.ref fI)))(hf:isFn K (.ref fI)=true)
  (hq:∀h' e,h.objs.size<=e->Heap.MadeExcOf h h' e (.ref C) rest->wpAny (model prog w) (A.under (.builtin "type.__call__" ⟨.ref C::rest,[]⟩)) (call (.ref fI) (.ref e::rest)) (λr s'=>r=.none/\Q (.ref e) s') E ⟨h',g,d,t,os⟩)
  (hrest:rest.length<=sizeLine):wpAny (model prog w) A (call (.ref C) rest) Q E ⟨h,g,d,t,os⟩:=by
 obtain⟨nm,q,N,bs,sn,sub,ab,col,dd,k0,k1,k2,k3,k5,lk⟩:=c.obj;have hC:=X _ _ lk;have f1:=tc_lookup;have f2:=tc_bind (.ref C);have hT:(⟨h,g,d,t,os⟩:Shared).TypeIs (.ref C) "type":=⟨_,hC,rfl⟩;refine wpAny_call (codeAny_of_tree ?_);show wpAny _ _ (callAny (.ref C) _) _ _ _;repeat (any_goals (first|assumption|with_reducible refine wpAny_loadPart_at hC ?_|wp_step))
 refine⟨rfl,codeAny_call_builtin_at (Code.quiet_builtin _ (by decide +kernel)) entry_typeCall (wpAny_check_type_call_sub hC (Pg X c hi hf (λh' e hz hm=>hq h' e hz hm) hrest))⟩
theorem Bm {e:Addr}{oe:Obj}{vs:Array Value}{v:Value}{Q:Value->Shared->Prop}(X:K.In h)(c:XC K C D)(he:h.get? e=some oe)(hcl:oe.cls=.ref C)(hd:oe.data=.fields vs){t0:Addr}(h0:vs[0]? =some (.ref t0))
  (hq:∀h',(∀b o,b≠e->h.get? b=some o->h'.get? b=some o)->h'.get? e=some {oe with data:=.fields (vs.setIfInBounds 0 (.ref h.objs.size))}->Q .none ⟨h',g,d,t,os⟩):
  wpAny (model prog w) A (call (.builtin "ValueError.__init__") [.ref e,v]) Q E ⟨h,g,d,t,os⟩:=by
 obtain⟨nm,q,N,bs,sn,sub,ab,col,dd,k0,k1,k2,k3,k5,lk⟩:=c.obj;have hC:=X _ _ lk;have T:=tail_of_in X c.tl;have FV:=PySem.F.excBase_ValueError;have hz:=(Array.getElem?_eq_some_iff.mp h0).1;refine wpAny_call (codeAny_call_builtin FV.init.plain FV.initEntry (wpAny_check_init_subU FV T hC he hcl ?_));unfold Builtin.«BaseException.__init__»;have e1:(h.push {cls:=.type "tuple",data:=.seq #[v]}).get? e=some oe:=get?_push_of_some _ he;have nd:(Value.ref t0==doubtfulMember)=false:=by simp[doubtfulMember,rawInt]
 repeat (first|with_reducible refine wpAny_field e1 hd h0 ?_|with_reducible refine wpAny_setField e1 hd hz ?_|wp_step)
 refine hq _ (λb o hb z=>(get?_update_other _ _ hb.symm).trans (get?_push_of_some _ z)) ?_;rw[get?_update_self _ e1 (Obj.isFreed_of_fields (Obj.data_mapFields hd _)),T6 _ hd]
theorem Ph {o:Obj}{f:Str}{v:Value}{Q:Unit->Shared->Prop}(X:K.In h)(c:XC K C D)(hs:findIn K (.ref C) "__setattr__"=some (some (.builtin "object.__setattr__")))(hf:findIn K (.ref C) f=some none)
  (hx:h.get? x=some o)(hcl:o.cls=.ref C){vs:Array Value}(hd:o.data=.fields vs)(hdn:o.dict=none)
  (hq:∀h' tk,(∀b ob,b≠x->h.get? b=some ob->h'.get? b=some ob)->h'.get? x=some {o with dict:=some h.objs.size}->h'.Ns1 h.objs.size (λy=>if y=f then some v else none)->Q () ⟨h',g,d,tk,os⟩):
  wpAny (model prog w) A (setAttr (.ref x) f v) Q E ⟨h,g,d,t,os⟩:=by
 obtain⟨nm,q,N,bs,sn,sub,ab,col,dd,k0,k1,k2,k3,k5,lk⟩:=c.obj;have hC:=X _ _ lk;have SF:=PySem.F.store_ValueError;have f3:=SF.slot.bind (.ref x);have L1:=looks_findIn (M:=model prog w) X hs;have L2:=looks_findIn (M:=model prog w) X hf;unfold setAttr callSpecial? specialOf;repeat (any_goals (first|assumption|(with_reducible refine wpAny_loadPart_at hx ?_;rw[hcl])|with_reducible refine L1.at ?_|wp_step))
 have hco:(Value.ref C::(.ref D::jx)).contains (.type "object")=true:=by simp[jx]
 have ck:=SF.args (.ref x) (.str f t) v;refine codeAny_call_builtin SF.slot.plain SF.entry ?_;refine @check_slot (model prog w) _ _ ⟨h,g,d,t+1,os⟩ "object.__setattr__" "object" "__setattr__" (.ref x) [.str f t,v] [] _ SF.kind SF.split ?_ ck ?_
 .refine Looks.andThen (a:=.ref C) (hcl▸(Looks.ld hx).andThen .now) ?_;intro A' Q' E' s' k z;obtain⟨h2,g2,d2,t2,o2⟩:=s';refine wpAny_isSubtype_exc (k _ _ hC) ?_;rw[hco];exact z
 have hpass:=SF.passes (.ref x);unfold Builtin.«object.__setattr__»;repeat (first|rw[refuse_eq]|(rw[refuseLoop_ref,refuseLoop_ref,hpass])|(with_reducible refine wpAny_loadPart_at hx ?_;rw[hcl])|with_reducible refine wpAny_mroOf_exc hC ?_|with_reducible refine L2.at ?_|wp_step)
 rw[hdn,hd,if_neg (by simp[typeHasDict])];have hx1:(h.push {cls:=.type "dict",data:=.dict #[]}).get? x=some o:=get?_push_of_some _ hx;have hxs:x≠h.objs.size:=ne_of_lt (lt_size hx);refine wpAny_bind (wpAny_alloc' (wpAny_bind (wpAny_update' hx1 (wpAny_pure ?_))));generalize hg:((h.push {cls:=.type "dict",data:=.dict #[]}).update x λo=>{cls:=o.cls,dict:=some h.objs.size,data:=o.data,slots:=o.slots})=g1;have gd:g1.get? h.objs.size=some {cls:=.type "dict",data:=.dict #[]}:=by rw[<-hg];exact(Heap.get?_update_ne _ _ _ _ hxs.symm).trans (Heap.get?_push_at rfl rfl)
 have gx:g1.get? x=some {o with dict:=some h.objs.size}:=by rw[<-hg];refine get?_update_self _ hx1 (Obj.isFreed_of_fields (vs:=vs) hd)
 have gk:∀b ob,b≠x->h.get? b=some ob->g1.get? b=some ob:=λb ob hb z=>by rw[<-hg];exact(Heap.get?_update_ne _ _ _ _ hb).trans (get?_push_of_some _ z)
 have nd:g1.Ns h.objs.size (λ_=>none):=⟨_,#[],_,gd,rfl,λe he=>absurd he (by simp),λ_=>rfl⟩;show wpAny _ _ (storeInDict h.objs.size (.str f t) f v) _ _ _;unfold storeInDict newKeyGuard;refine wpAny_bind (wpAny_pure (wpAny_bind (wpAny_nsSet1 (Heap.Ns1.of_empty nd) λh' hn' sb=>?_)));obtain⟨oD,esD,epD,hoD,hdD,hcD⟩:=hn'.count (Within.cons f v Within.nil);refine wpAny_bind (wpAny_lookBehind hoD (by rw[hdD];exact pastItsLine_dict (le_trans hcD (by rw[length_cons,length_nil,sizeLine_eq];omega))) ?_)
 wp_walk
 refine hq h' _ (λb ob hb z=>(sb.2 b (ne_of_lt (lt_size z))).trans (gk b ob hb z)) ((sb.2 x hxs).trans gx) ?_;exact hn'
end
structure XR (K:Frag)(C:Addr):Prop where
 ga:findIn K (.ref C) "__getattribute__"=some (some (.builtin "BaseException.__getattribute__"))
 gt:findIn K (.ref C) "__getattr__"=some none
 hd:hasDictIn K C=true
 sub:mroIn K C (.type "BaseException")=some true
 ob:mroIn K C (.type "object")=some true
section
variable {prog:Program}{w:World}{A:Around}{E:Value->Shared->Prop}{h:Heap}{g:Array GenState}{d:Drawn}{t:Nat}{os:OsState}{K:Frag}{C D x:Addr}{ox:Obj}{od:Option Obj}{f:Str}
theorem Pj {tk:Tok}{fo:Found}{R:Result->Shared->Prop}(X:K.In h)(c:XR K C)(I:InstAt h x ox C od)(hf:findObj K C od f=some fo)
  (hq:match fo with|.value v=>R (.ok (.ret v)) ⟨h,g,d,t,os⟩|.bind gg a=>wpAny (model prog w) A.in1 (call gg [a,.ref x,.ref C]) (λv s'=>R (.ok (.ret v)) s') (λe s'=>R (.error e) s') ⟨h,g,d,t,os⟩|_=>False):
  codeAny (model prog w) A (.call (.builtin "BaseException.__getattribute__") ⟨[.ref x,.str f tk],[]⟩) R ⟨h,g,d,t,os⟩:=by
 have FA:=PySem.F.excAttr_ValueError;have L0:=I.type (M:=model prog w);have L1:=looks_find (M:=model prog w) X I hf;refine codeAny_call_builtin FA.ga.plain PySem.F.entry_bexc_ga ?_;refine @check_slot (model prog w) _ _ ⟨h,g,d,t,os⟩ "BaseException.__getattribute__" "BaseException" "__getattribute__" (.ref x) [.str f tk] [] _ (by decide +kernel) (by decide +kernel) (L0.andThen (looks_mroIn X c.sub)) (PySem.F.args_bexc_ga _ _) ?_;unfold Builtin.«object.__getattribute__»;repeat lk
 cases fo with
 |value v=>exact wpAny_pure hq
 |bind gg a=>exact wpAny_bind (wpAny_holding (wpAny_mono hq (λ_ _ z=>wpAny_pure z) λ_ _ z=>z))
 |_=>exact hq.elim
theorem Pk {tk:Tok}{fill expr:Bool}{fo:Found}{v:Value}{Q:Value->Shared->Prop}(X:K.In h)(c:XR K C)(I:InstAt h x ox C od)(hf:findObj K C od f=some fo)(hv:handedIn v=true)
  (hq:match fo with|.value u=>u=v|.bind gg a=>∀A' (R:Result->Shared->Prop),R (.ok (.ret v)) ⟨h,g,d,t,os⟩->codeAny (model prog w) A' (.call gg ⟨[a,.ref x,.ref C],[]⟩) R ⟨h,g,d,t,os⟩|_=>False)(q:Q v ⟨h,g,d,t,os⟩):
  wpAny (model prog w) A (getAttrBy (.ref x) (.str f tk) fill expr) Q E ⟨h,g,d,t,os⟩:=by
 have FA:=PySem.F.excAttr_ValueError;have L0:=I.type (M:=model prog w);have L1:=looks_findIn (M:=model prog w) X c.ga;have L2:=looks_findIn (M:=model prog w) X c.gt;have f3:=FA.ga.bind (.ref x);have hx0:(expr && onTheHeap (builtin "BaseException.__getattribute__"))=false:=by cases expr<;>rfl
 have hx2:(builtin "BaseException.__getattribute__"==builtin "object.__getattribute__")=false:=by decide +kernel
 have hx1:(onTheHeap (Value.ref C) && builtin "BaseException.__getattribute__"==builtin "object.__getattribute__")=false:=by rw[hx2];rfl
 unfold getAttrBy;repeat (any_goals (first|assumption|with_reducible refine Looks.at (by assumption) ?_|wp_step))
 refine Pj X c I hf ?_;have fin:wpAny (model prog w) A (handedOut v) Q E ⟨h,g,d,t,os⟩:=by rw[handedOut_of hv];exact wpAny_pure q
 cases fo with
 |value u=>cases(show u=v from hq);exact fin
 |bind gg a=>exact wpAny_call (hq _ _ fin)
 |_=>exact hq.elim
theorem get_own {expr:Bool}{od:Obj}{v:Value}{Q:Value->Shared->Prop}(X:K.In h)(c:XR K C)(I:InstAt h x ox C (some od))(hf:findIn K (.ref C) f=some none)(hl:lookIn f od=some (some v))(hv:handedIn v=true)
  (q:Q v ⟨h,g,d,t+1,os⟩):wpAny (model prog w) A (getAttr (.ref x) f expr) Q E ⟨h,g,d,t,os⟩:=by
 unfold getAttr;exact wpAny_bind (wpAny_mkText (Pk X c I (findObj_own c.hd hf rfl hl) hv rfl q))
structure XI (K:Frag)(C:Addr):Prop extends XR K C where
 ca:findIn K (.ref C) "__class__"=some (some (.builtin "object.__class__"))
 gg:specialIn K (.builtin "object.__class__") "__get__"=some (some (.builtin "getset_descriptor.__get__"))
 tk:takesIn K (.builtin "object.__class__")=some true
theorem raise {s:Shared}{env:Env}{ex:Expr}{pos:Pos}{Q:Flow->Shared->Prop}(hh:A.handled=none)
  (hw:wpAny (model prog w) A (eval ex env) (λv s1=>∃e oe vs D C,v=.ref e/\K.In s1.heap/\XC K C D/\s1.heap.get? e=some oe/\oe.cls=.ref C/\oe.data=.fields vs/\vs[1]? =some .none/\E (.ref e) s1) E s):
  wpAny (model prog w) A (exec (.Raise (some ex) none pos) env) Q E s:=by
 rw[arm_exec_Raise];have go:wpAny (model prog w) A (raiseStmt env (some (do let v<-eval ex env;standAt pos;pure v)) none) Q E s:=by
  unfold raiseStmt;refine wpAny_bind (wpAny_bind (wpAny_mono hw (λv s1 h1=>wpAny_bind (wpAny_standAt (wpAny_pure ?_))) λ_ _ z=>z));obtain⟨e,oe,vs,D,C,rfl,X,c,he,hcl,hd,h1,hE⟩:=h1;obtain⟨nm,q,N,bs,sn,sub,ab,col,dd,k0,k1,k2,k3,k5,lk⟩:=c.obj;have hC:=X _ _ lk;obtain⟨hp,g1,d1,t1,os1⟩:=s1;have hcB:(Value.ref C::(.ref D::jx)).contains (.type "BaseException")=true:=by simp[jx]
  repeat (first|(with_reducible refine wpAny_loadPart_at he ?_;first|rw[hcl]|rw[hd])|with_reducible refine wpAny_loadPart_at hC ?_|(with_reducible refine wpAny_isSubtype_exc hC ?_;rw[hcB])|with_reducible refine wpAny_field he hd h1 ?_|wp_step)
  exact wpAny_raiseNew_none hh hE
 first
  |exact wpAny_bind (wpAny_standAt go)
  |(simp only[evalOpt,map];exact wpAny_bind (wpAny_standAt go))
theorem catches {e:Addr}{cl:Addr}{b:Bool}{oe:Obj}{Q:Bool->Shared->Prop}(X:K.In h)(he:h.get? e=some oe)(hcl:oe.cls=.ref C)(hx:mroIn K cl (.type "BaseException")=some true)(ht:typeIn K (.ref cl)=some (.type "type"))(hm:mroIn K C (.ref cl)=some b)(q:Q b ⟨h,g,d,t,os⟩):
  wpAny (model prog w) A (excMatches (.ref e) (.ref cl)) Q E ⟨h,g,d,t,os⟩:=by
 have L0:Looks (model prog w) h (typeOf (.ref e)) (.ref C):=hcl▸(Looks.ld he).andThen .now;have L1:=looks_mroIn (M:=model prog w) X hx;have L2:=looks_mroIn (M:=model prog w) X hm;have L3:=looks_typeIn (M:=model prog w) X ht;have f:=tc_notTuple;obtain⟨ocl,lk,hcd⟩:∃ocl,h.get? cl=some ocl/\∃cd,ocl.data=.cls cd:=by
  unfold mroIn clsIn at hx;split at hx
  .rename_i ho;exact⟨_,X _ _ ho,_,rfl⟩
  .cases hx
 obtain⟨cd,hcd⟩:=hcd;unfold excMatches isExcClass isInstance isType loadHead;repeat (any_goals (first|assumption|with_reducible refine Looks.at (by assumption) ?_|(with_reducible refine wpAny_loadPart_at lk ?_;rw[hcd])|wp_step))
 cases b<;>(wp_walk;exact q)
end
end EX
namespace EX
open PyProof.Rows L2
noncomputable def bA (e C:Addr)(dx:Option Addr)(tb:Value):HO:=.ext λh=>∃oe vs t0,h.get? e=some oe/\oe.cls=.ref C/\oe.dict=dx/\oe.data=.fields vs/\vs[0]? =some (.ref t0)/\vs[1]? =some tb
section
variable {P:Program}{w:World}{H:Hp}{h:Heap}{e C:Addr}{dx:Option Addr}{tb:Value}{oe:Obj}{vs:Array Value}{t0:Addr}
theorem oW (he:h.get? e=some oe)(hc:oe.cls=.ref C)(hd:oe.dict=dx)(hv:oe.data=.fields vs)(h0:vs[0]? =some (.ref t0))(h1:vs[1]? =some tb):dB P w H h e (bA e C dx tb):=
 ⟨⟨oe,vs,t0,he,hc,hd,hv,h0,h1⟩,⟨oe,he⟩,λ_ _ ⟨o,ws,u,a,b⟩ k=>⟨o,ws,u,k o a,b⟩⟩
theorem gA (ok:d9 P w H h)(x:H e=some (bA e C dx tb)):∃oe vs t0,h.get? e=some oe/\oe.cls=.ref C/\oe.dict=dx/\oe.data=.fields vs/\vs[0]? =some (.ref t0)/\vs[1]? =some tb:=(ok e _ x).1
end
section
variable {X:Cx}{k:Nat}{f C D:Addr}{fd:FuncData}{ps:List Str}{sp:Sp}{x:Str}{p pos apos:Pos}{e:Expr}{es:List Expr}{t:TA}{te:TE}
theorem run_mk {pins:List (Addr×Obj)}{σ:L2.St}{H:Hp}{s:Shared}{Q:VK}{us:List Value}{vs:List V}(c:XC X.K C D)(hi:PySem.W.findIn X.K (.ref C) "__init__"=some (some (.ref f)))(hf:PySem.W.isFn X.K (.ref f)=true)
  (F:aQ X.prog X.w X.K X.mg X.base cV k f fd ps sp)(hr:cI (k+1) X.A)(hb:Binds X.K fd ps [])(I:Inv X pins σ H s)(r:Vals vs us)(hz:us.length<=sizeLine)
  (h:∀e,H e=none->sp (.ref e::vs) (upd H e (bA e C none .none)) (λv H2=>v=.non/\Q (.ref e) H2) E0):wpAny (model X.prog X.w) X.A (call (.ref C) us) (EP X pins σ Q) X.xe s:=by
 obtain⟨hp,gs,dr,tk,os⟩:=s;refine made I.dM c hi hf (λh' e hle m=>?_) hz;obtain⟨t0,he,_,_⟩:=m.there;have I2:=I.laid (a:=e) (o:=bA e C none .none) (h':=h') (t':=tk) m.keeps hle (oW he rfl rfl rfl (t0:=t0) rfl rfl);have hq:=h e (I.hok.fresh hle);have r2:Vals (V.ref e::vs) (Value.ref e::us):=.cons rfl r;have hl:(Value.ref e::us++[]).length=ps.length:=by have z:=r2.length;rw[F.len _ _ _ _ hq] at z;rw[append_nil];exact z.symm
 have bb:=hb ⟨h',gs,dr,tk,os⟩ (Value.ref e::us) I2.dM hl;rw[append_nil] at bb;refine wpAny_call (codeAny_mono (F.run _ X.stack _ _ ⟨Value.ref e::us,[]⟩ (Value.ref e::us) _ _ E0 (hr.make C us []) (I2.env0.make C us []) bb r2 hq) λr s' hq'=>?_);cases r with
 |error e=>exact hq'.elim
 |ok fl=>
  cases fl with
  |ret u=>
   obtain⟨v,H',I3,rv,ev,q3⟩:=I2.after hq';subst ev;exact⟨rv,V.ref e,H',I3,rfl,q3⟩
  |next=>exact False.elim hq'
  |brk=>exact False.elim hq'
  |cont=>exact False.elim hq'
def Wt (C:Addr)(sp:Sp)(t:TA):TE:=λσ H Q=>t σ H λvs H1=>vs.length<=sizeLine/\∀e,H1 e=none->sp (.ref e::vs) (upd H1 e (bA e C none .none)) (λv H2=>v=.non/\Q (.ref e) H2) E0
theorem Wu (c:XC X.K C D)(hi:PySem.W.findIn X.K (.ref C) "__init__"=some (some (.ref f)))(hf:PySem.W.isFn X.K (.ref f)=true)(kp:keepIn X.K (.ref C)=true)
  (F:aQ X.prog X.w X.K X.mg X.base cV k f fd ps sp)(hr:cI (k+1) X.A)(hb:Binds X.K fd ps [])(hg:Gl X x)(hm:X.mg x=some (.ref C))
  (ha:PA X (e::es) t)(hdb:(x==("__debug__":Str))=false:=by decide)(he:starEach (e::es) X.env=(false,eval e X.env)::starEach es X.env:=by rfl)(hpl:(backTo pos (starEach es X.env)).any (·.1)=false:=by rfl):
  PE X (.Call (.Name x p) (e::es) [] pos) (Wt C sp t):=by
 intro pins s σ H Q I h;refine wpAny_Call_Name_kw (iZ I hg hm ?_ hdb);refine callWith_K (h₀:=X.base) I.ok.mod.xK kp (aO (ha pos pins s σ H _ I h) λus s1 ⟨vs,H1,I1,r,q⟩=>⟨I1.dM,?_⟩) he hpl;have z:us.length<=sizeLine:=by rw[<-r.length];exact q.1
 exact run_mk c hi hf F hr hb I1 r z q.2
def tBase (C:Addr)(t:TA):TE:=λσ H Q=>t σ H λvs H1=>∃e y dx tb,vs=[.ref e,y]/\H1 e=some (bA e C dx tb)/\Q .non H1
structure XD (K:Frag)(D:Addr):Prop where
 ga:PySem.W.specialIn K (.ref D) "__getattribute__"=some (some (.builtin "type.__getattribute__"))
 rd:PySem.W.readsIn K D (.type "type")=true
 fi:PySem.W.findCls K (.ref D) (.type "type") "__init__"=some (.val (.builtin "ValueError.__init__"))
theorem HY {pl:Sem Bool}(c:XC X.K C D)(cd:XD X.K D)(hg:Gl X x)(hm:X.mg x=some (.ref D))(ha:PA X (e::es) t)(hdb:(x==("__debug__":Str))=false:=by decide)
  (he:starEach (e::es) X.env=(false,eval e X.env)::starEach es X.env:=by rfl)(hpl:(backTo pos (starEach es X.env)).any (·.1)=false:=by rfl)
  (ht:eval (.Call (.Attribute (.Name x p) "__init__" apos) (e::es) [] pos) X.env=(do
   let ov<-eval (.Name x p) X.env
   standAt apos.atName
   let(f,first)<-holding [ov] (getMethod ov "__init__" pl)
   callWith pos f first (backTo pos (starEach (e::es) X.env)) (backToKw pos (keywordEach [] X.env))):=by rfl):
  PE X (.Call (.Attribute (.Name x p) "__init__" apos) (e::es) [] pos) (tBase C t):=by
 intro pins s σ H Q I h;refine methodCall_KW (pl:=pl) (iZ I hg hm ?_ hdb) ht;refine PySem.W.method_cls I.dM cd.ga (PySem.W.cls_value I.dM cd.rd cd.fi rfl ?_);have I0:=I.tok (s.toks+1);refine callWith_builtin1 (aO (ha pos pins _ σ H _ I0 h) λus s1 ⟨vs,H1,I1,r,e,y,dx,tb,ev,hE,q⟩=>?_) he hpl;subst ev;cases r with
 |cons r1 r2=>
  cases r2 with
  |cons r2 r3=>
   cases r3;cases r1;obtain⟨oe,ws,t0,g1,g2,g3,g4,g5,g6⟩:=gA I1.hok hE;obtain⟨hp,gs,dr,tk,os⟩:=s1;refine Bm I1.dM c g1 g2 g4 g5 λh' kp ge=>?_;have z0:=(Array.getElem?_eq_some_iff.mp g5).1;have I2:Inv X pins σ (upd H1 e (bA e C dx tb)) ⟨h',gs,dr,tk,os⟩:=I1.write (x:=e) (e:=e) (h':=h') (t':=tk) (by rw[hE];exact True.intro) (.inl rfl) (λb u hb z=>kp b u hb z) ⟨_,ge⟩
    (oW ge g2 g3 rfl (t0:=hp.objs.size) (by simp[z0]) (by rw[Array.getElem?_setIfInBounds_ne (by decide)];exact g6))
   have eq:upd H1 e (bA e C dx tb)=H1:=by
    funext b;by_cases hb:b=e
    .subst hb;rw[aA,hE]
    .rw[aB hb]
   rw[eq] at I2;exact⟨.non,H1,I2,rfl,q⟩
def Kw (C:Addr)(ta tv:TE)(f:Str):TS:=λD σ H=>tv σ H λy H1=>ta σ H1 λx H2=>∃a tb,x=.ref a/\H2 a=some (bA a C none tb)/\
 ∀dx,H2 dx=none->D.nx σ (upd (upd H2 dx (.xd [(f,y)])) a (bA a C (some dx) tb))
theorem abP {o value:Expr}{fl:Str}{pos':Pos}{ta tv:TE}(c:XC X.K C D)(hs0:PySem.W.findIn X.K (.ref C) "__setattr__"=some (some (.builtin "object.__setattr__")))(hf:PySem.W.findIn X.K (.ref C) fl=some none)
  (ha:PE X o ta)(hv:PE X value tv)(hs:swapsWith value (some (.Attribute o fl pos')) pos.line X.env=pure false):PS X (.Assign [.Attribute o fl pos'] value pos) (Kw C ta tv fl):=by
 intro pins s σ H Dn I h;refine plainObj_wpAny_Assign_Attribute (aO (hv pins s σ H _ I h) λu s1 ⟨y,H1,I1,ry,q⟩=>aO (ha pins s1 σ H1 _ I1 q) λov s2 ⟨x,H2,I2,rx,a,tb,ex,ea,q2⟩=>?_) hs;subst ex;obtain rfl:ov=Value.ref a:=rx;obtain⟨oe,ws,t0,g1,g2,g3,g4,g5,g6⟩:=gA I2.hok ea;obtain⟨hp,gs,dr,tk,os⟩:=s2;refine Ph I2.dM c hs0 hf g1 g2 g4 g3 λh' tk' kp gx ns=>?_;have fr:=I2.hok.fresh (le_refl _);have hne:hp.objs.size≠a:=ne_of_gt (lt_size g1);refine⟨σ,_,?_,q2 hp.objs.size fr⟩;have na:∀b,H2 b=none->b≠a:=λb z z'=>by rw[z',ea] at z;cases z
 have nd:∀b o,hp.get? b=some o->b≠hp.objs.size:=λb o z=>ne_of_lt (lt_size z);have nt:∀b o,H2 b=some o->b≠hp.objs.size:=λb o z z'=>by rw[z',fr] at z;cases z
 have up:∀b o,H2 b=some o->b≠a->upd (upd H2 hp.objs.size (.xd [(fl,y)])) a (bA a C (some hp.objs.size) tb) b=some o:=λb o z hb=>by rw[aB hb,aB (nt b o z)];exact z
 refine I2.un (h':=h') (t':=tk') ⟨λb o z n _ _=>kp b o (na b n) z,λb o z n _ _=>⟨o.slots,kp b o (na b n) z⟩,λb o z n _=>?_,λb o z _=>?_,λb xs z=>up b _ z (λz'=>by rw[z',ea] at z;cases z),λb o u z=>up b _ z (λz'=>by rw[z',ea] at z;cases z),
  λb ps z=>⟨#[],by rw[append_empty];exact up b _ z (λz'=>by rw[z',ea] at z;cases z)⟩⟩ λb o z=>?_
 .rw[aB (na b n),aB (nd b o z)];exact n
 .by_cases hb:b=a
  .subst hb;exact⟨_,gx⟩
  .exact⟨o,kp b o hb z⟩
 .by_cases hb:b=a
  .subst hb;rw[aA] at z;cases z;exact oW gx g2 rfl g4 g5 g6
  .rw[aB hb] at z;by_cases hd:b=hp.objs.size
   .subst hd;rw[aA] at z;cases z;refine⟨_,ns,λg=>?_⟩;by_cases hg:g=fl
    .subst hg;rw[if_pos rfl];have l:List.lookup g [(g,y)]=some y:=by simp[List.lookup]
     rw[l];exact ry
    .rw[if_neg hg];have l:List.lookup g [(fl,y)]=none:=by
      have:(g==fl)=false:=by simpa using hg
      simp[List.lookup,this]
     rw[l];exact True.intro
   .rw[aB hd] at z;refine(I2.hok b o z).stay (λb' u hb' z'=>kp b' u ?_ z') (λb' z'=>up b' _ z' (λz''=>by rw[z'',ea] at z';cases z')) (λb' xs z'=>up b' _ z' (λz''=>by rw[z'',ea] at z';cases z'));rcases hb' with rfl|hb'
    .exact hb
    .intro z'';rw[z'',ea] at hb';cases hb'
end
def bN (P:Program)(w:World):n6:=λouter H s E ev s'=>∃e C dx T H',ev=.ref e/\s'.os=s.os/\AllBare s'.gens/\Un (frs outer) [] H H' s.heap s'.heap/\d9 P w H' s'.heap/\H' e=some (bA e C dx (.ref T))/\
 (∃oT ts,s'.heap.get? T=some oT/\oT.data=.fields ts/\ts[3]? =some .none)/\H' T=none/\s.heap.objs.size<=T/\T≠e/\E (.ref e) dx H'
theorem Yx {env:Env}{outer:List Env}{L b:Addr}(hf:env.frame=some L)(h:b∈(env::outer).filterMap (·.frame)):b=L\/b∈frs outer:=by rw[filterMap_cons,hf] at h;exact mem_cons.mp h
theorem eO {H:Hp}{e C b:Addr}{dx:Option Addr}{tb:Value}(ea:H e=some (bA e C dx tb)){o:HO}(z:H b=some o)(n:∀φ,o≠ .ext φ):b≠e:=λq=>by rw[q,ea] at z;exact n _ (Option.some.inj z).symm
theorem abQ {P:Program}{w:World}{K:Frag}{mg:Str->Option Value}{base:Heap}{N:List Str}{qual:Str}{scope:Scope}{f:Addr}{cdv:Value}{A:Around}{outer:List Env}{s s1:Shared}{H H1:Hp}{E:XK}{pins:List (Addr×Obj)}{σ:L2.St}{e C:Addr}{dx:Option Addr}
  (I:Inv (cC (bN P w) P w K mg base N qual scope f cdv A outer s H E) pins σ H1 s1)(hE:H1 e=some (bA e C dx .none))(q:∀T,E (.ref e) dx (upd H1 e (bA e C dx (.ref T)))):
  (cC (bN P w) P w K mg base N qual scope f cdv A outer s H E).xe (.ref e) s1:=by
 obtain⟨oe,vs,t0,g1,g2,g3,g4,g5,g6⟩:=gA I.hok hE;have ub:Un (frs outer) [] H H1 s.heap s1.heap:=I.base;have stk:=I.qt;refine leave (base:=base) I.ok.frames I.stack rfl g1 g4 g6 λh' T fl=>?_;have nT:∀b o,s1.heap.get? b=some o->b≠T:=λb o z=>ne_of_lt (lt_of_lt_of_le (lt_size z) fl.new);have hT1:H1 T=none:=I.hok.fresh fl.new;have no:∀b:Addr,b∉([]:List Addr):=λb z=>absurd z (by simp);obtain⟨ws,x1,x2,x3⟩:=fl.self oe vs g1 g4;have up:∀b o,H1 b=some o->b≠e->upd H1 e (bA e C dx (.ref T)) b=some o:=λb o z n=>by rw[aB n];exact z
 refine⟨e,C,dx,T,upd H1 e (bA e C dx (.ref T)),rfl,I.os,I.bare,⟨λb o z n hb _=>?_,λb o z n hb _=>?_,λb o z n _=>?_,λb o z _=>?_,λb xs z=>?_,λb o u z=>?_,λb ps z=>?_⟩,λb o z=>?_,aA,fl.ent,by rw[aB fl.ne];exact hT1,?_,fl.ne,q T⟩
 .have n1:=ub.free b o z n (no b);refine fl.keep b o (λm=>?_) (λy=>by rw[y,hE] at n1;cases n1) (ub.keep b o z n hb (no b));rcases Yx (L:=s.heap.objs.size) rfl m with y|y
  .rw[y] at z;exact absurd (lt_size z) (lt_irrefl _)
  .exact hb y
 .have n1:=ub.free b o z n (no b);obtain⟨sl,z1⟩:=ub.any z n (no b);obtain⟨sl',z2⟩:=fl.slot b _ (λy=>by rw[y,hE] at n1;cases n1) z1;exact⟨sl',z2⟩
 .have n1:=ub.free b o z n (no b);rw[aB λy=>by rw[y,hE] at n1;cases n1];exact n1
 .obtain⟨o',z1⟩:=ub.there b o z (no b);by_cases hb:b=e
  .subst hb;exact⟨_,x1⟩
  .obtain⟨sl,z2⟩:=fl.slot b _ hb z1;exact⟨_,z2⟩
 .have z1:=ub.tups b xs z;exact up b _ z1 (eO hE z1 λφ y=>by cases y)
 .have z1:=ub.jO b o u z;exact up b _ z1 (eO hE z1 λφ y=>by cases y)
 .obtain⟨m,z1⟩:=ub.j5 b ps z;exact⟨m,up b _ z1 (eO hE z1 λφ y=>by cases y)⟩
 .by_cases hb:b=e
  .subst hb;rw[aA] at z;cases z;exact oW x1 g2 g3 rfl (x2.trans g5) x3
  .rw[aB hb] at z;refine(I.hok b o z).stay (λb' u hb' z'=>?_) (λb' z'=>up b' _ z' (eO hE z' λφ y=>by cases y)) (λb' xs z'=>up b' _ z' (eO hE z' λφ y=>by cases y));have tr:∃o',H1 b'=some o'/\b'≠e:=by
    rcases hb' with rfl|hb'
    .exact⟨o,z,hb⟩
    .exact⟨_,hb',eO hE hb' λφ y=>by cases y⟩
   obtain⟨o',y1,y2⟩:=tr;refine fl.keep b' u (λm=>?_) y2 z';rw[stk b' m] at y1;cases y1
 .exact le_trans I.sz fl.new
def jT (K:Frag)(E:XK)(te:TE):TS:=λ_ σ H=>te σ H λx H1=>∃e C D dx,x=.ref e/\XC K C D/\H1 e=some (bA e C dx .none)/\∀T,E (.ref e) dx (upd H1 e (bA e C dx (.ref T)))
theorem eV {P:Program}{w:World}{K:Frag}{mg:Str->Option Value}{base:Heap}{N:List Str}{qual:Str}{scope:Scope}{f:Addr}{cdv:Value}{A:Around}{outer:List Env}{s:Shared}{H:Hp}{E:XK}{ex:Expr}{pos:Pos}{te:TE}
  (he:PE (cC (bN P w) P w K mg base N qual scope f cdv A outer s H E) ex te):PS (cC (bN P w) P w K mg base N qual scope f cdv A outer s H E) (.Raise (some ex) none pos) (jT K E te):=by
 intro pins s0 σ H0 D I h;refine raise (K:=K) (I.ok.hd rfl) (aO (he pins s0 σ H0 _ I h) λv s1 ⟨x,H1,I1,rx,e,C,D',dx,ex,c,hE,q⟩=>?_);subst ex;obtain rfl:v=Value.ref e:=rx;obtain⟨oe,vs,t0,g1,g2,g3,g4,g5,g6⟩:=gA I1.hok hE;exact⟨e,oe,vs,D',C,rfl,I1.dM,c,g1,g2,g4,g6,abQ I1 hE q⟩
noncomputable abbrev inX (X:Cx)(e:Addr):Cx:={X with A:=X.A.mark (some (.ref e)),calm:=false,xe:=λ_ _=>False}
section
variable {X:Cx}{pins:List (Addr×Obj)}{σ:L2.St}{H:Hp}{s:Shared}{e:Addr}
theorem abR (ok:X.Ok):(inX X e).Ok:=⟨ok.mod,ok.kind,ok.glob,ok.blt,ok.above,ok.inj,ok.has,ok.cab,(λz=>by cases z),ok.frames,ok.stk,ok.ZJ,ok.bs,ok.tW,ok.zj,ok.Dd,ok.lH,ok.Ab⟩
theorem vO (I:Inv X pins σ H s):Inv (inX X e) pins σ H s:=⟨abR I.ok,I.os,I.bare,I.base,I.loc,I.cell,I.free,I.gZ,I.pin,I.hok,I.len⟩
theorem Ia (ok:X.Ok)(I:Inv (inX X e) pins σ H s):Inv X pins σ H s:=⟨ok,I.os,I.bare,I.base,I.loc,I.cell,I.free,I.gZ,I.pin,I.hok,I.len⟩
structure Rec (X:Cx)(pins:List (Addr×Obj))(H:Hp)(s:Shared)(T:Addr):Prop where
 ent:∃oT ts,s.heap.get? T=some oT/\oT.data=.fields ts/\ts[3]? =some .none
 no:H T=none
 ne:T≠X.env.locals
 ab:X.s₀.heap.objs.size<=T
 cl:∀x c,X.env.cells.lookup x=some c->c≠T
 pn:∀p∈X.pn++pins,p.1≠T
theorem rec_of {s1:Shared}{H1:Hp}{T:Addr}(I:Inv X pins σ H1 s1)(z:s1.heap.objs.size<=T)(ent:∃oT ts,s.heap.get? T=some oT/\oT.data=.fields ts/\ts[3]? =some .none)(no:H T=none):Rec X pins H s T:=
 ⟨ent,no,λy=>absurd I.lt (by rw[<-y];exact not_lt.mpr z),le_trans I.sz z,λx c hc y=>by
  obtain⟨v,o,ho,_⟩:=I.cell x c hc;exact absurd (lt_size ho) (by rw[y];exact not_lt.mpr z),λp hp y=>absurd (lt_size (I.pin p hp).1) (by rw[y];exact not_lt.mpr z)⟩
theorem zT {M:Model}{A:Around}{E:Value->Shared->Prop}{EE:XK}{ev:Value}{s':Shared}{R:Shared->Prop}(hA:A.frames=some X.stack)(I:Inv X pins σ H s)(hq:bN X.prog X.w X.stack H s EE ev s')(hst:X.stack=X.env::X.outer)(hfr:X.env.frame=some X.env.locals)
  (go:∀e C dx T H' T2 s3,ev=.ref e->EE (.ref e) dx H'->H' e=some (bA e C dx (.ref T))->d9 X.prog X.w H' s'.heap->Inv X pins σ (upd H' e (bA e C dx (.ref T2))) s3->Rec X pins (upd H' e (bA e C dx (.ref T2))) s3 T2->R s3):
  wpAny M A (noteFrame ev X.env) (λ_ s2=>wpAny M A (setFlight ev none) (λ_ s3=>R s3) E s2) E s':=by
 obtain⟨e,C,dx,T,H',rfl,os,bare,un,hok,hE,⟨oT,ts,t1,t2,t3⟩,hT,hz,hne,q⟩:=hq;have I':Inv X pins σ H' s':=I.call' (ch:=[]) os un hok bare (λb z=>absurd z (by simp));have RT:Rec X pins H' s' T:=rec_of I hz ⟨oT,ts,t1,t2,t3⟩ hT;obtain⟨oe,vs,t0,g1,g2,g3,g4,g5,g6⟩:=gA I'.hok hE;have stk:=I'.qt;have fs:=I'.stack;rw[hst] at fs hA;refine land (base:=X.base) hA fs hfr g1 g4 g6 hne t1 t2 t3 λh1 h2 T2 kp sz fl=>?_;have ahf:∀b∈(X.env::X.outer).filterMap (·.frame),H' b=none:=by rw[<-hst];exact stk
 obtain⟨ws,x1,x2,x3⟩:=fl.self oe vs (kp e oe hne.symm g1) g4;have up:∀b o,H' b=some o->b≠e->upd H' e (bA e C dx (.ref T2)) b=some o:=λb o z n=>by rw[aB n];exact z
 have z2:s'.heap.objs.size<=T2:=by rw[<-sz];exact fl.new
 have nm:∀b,b∉([T]:List Addr)->b≠T:=λb z y=>z (by rw[y];exact mem_cons_self);have ne2:T2≠e:=fl.ne;have I3:Inv X pins σ (upd H' e (bA e C dx (.ref T2))) {s' with heap:=h2}:=by
  refine I'.call (ch:=[T]) (h':=h2) (g':=s'.gens) (d':=s'.drawn) (t':=s'.toks) ⟨λb o z n hb hc=>?_,λb o z n hb hc=>?_,λb o z n hc=>?_,λb o z hc=>?_,λb xs z=>up b _ z (eO hE z λφ y=>by cases y),λb o u z=>up b _ z (eO hE z λφ y=>by cases y),
   λb ps z=>⟨#[],by rw[append_empty];exact up b _ z (eO hE z λφ y=>by cases y)⟩⟩ (λb o z=>?_) I'.bare (λb hb=>?_)
  .exact fl.keep b o (by rw[<-hst];exact hb) (λy=>by rw[y,hE] at n;cases n) (kp b o (nm b hc) z)
  .exact fl.slot b o (λy=>by rw[y,hE] at n;cases n) (kp b o (nm b hc) z)
  .rw[aB λy=>by rw[y,hE] at n;cases n];exact n
  .by_cases hb:b=e
   .subst hb;exact⟨_,x1⟩
   .obtain⟨sl,y⟩:=fl.slot b o hb (kp b o (nm b hc) z);exact⟨_,y⟩
  .by_cases hb:b=e
   .subst hb;rw[aA] at z;cases z;exact oW x1 g2 g3 rfl (x2.trans g5) x3
   .rw[aB hb] at z;refine(I'.hok b o z).stay (λb' u hb' z'=>?_) (λb' z'=>up b' _ z' (eO hE z' λφ y=>by cases y)) (λb' xs z'=>up b' _ z' (eO hE z' λφ y=>by cases y));have tr:∃o',H' b'=some o'/\b'≠e:=by
     rcases hb' with rfl|hb'
     .exact⟨o,z,hb⟩
     .exact⟨_,hb',eO hE hb' λφ y=>by cases y⟩
    obtain⟨o',y1,y2⟩:=tr;refine fl.keep b' u (λm=>?_) y2 (kp b' u (λy=>by rw[y,hT] at y1;cases y1) z');rw[ahf b' m] at y1;cases y1
  .obtain rfl:b=T:=by simpa using hb
   exact⟨.inr RT.ab,RT.ne,RT.cl,RT.pn⟩
 exact go e C dx T H' T2 _ rfl q hE hok I3 (rec_of I' z2 fl.ent (by rw[aB ne2];exact I'.hok.fresh z2))
theorem goes {M:Model}{A:Around}{E:Value->Shared->Prop}{i:Nat}{n:Str}{pos:Pos}{Q:Unit->Shared->Prop}(I:Inv X pins σ H s)(hN:X.N.Nodup)(hi:X.N[i]? =some n)(hl:X.env.scope.names.lookup n=some .local)
  (h:∀s',Inv X pins (σ.set i none) H s'->Q () s'):wpAny M A (do bindName X.env n .none;unbindBehindTheSuite X.env n pos) Q E s:=by
 refine wpAny_bind (wpAny_bindName (j6 (v:=.non) I hN hi (.inl hl) rfl (λs1 I1=>?_) (.inr hl)));obtain⟨m,hn,hlk⟩:=id I1.loc;have Dg:i<σ.length:=by rw[I.len];exact(List.getElem?_eq_some_iff.mp hi).1
 have hk:X.env.kindOf n=some .local:=hl;have hp:(X.env.scope.kind==.class||(X.env.scope.kind==.module && X.env.locals !=X.env.globals))=false:=by rw[I.ok.kind];rfl
 obtain⟨u,_,lk⟩:=hlk i n .non hi (by rw[getElem?_set_self Dg]) (.inl hl);have hm:m n=some u:=by
  rcases lk with⟨_,z⟩|⟨z,_⟩
  .exact z
  .rw[hk] at z;rcases z with z|z<;>cases z
 unfold unbindBehindTheSuite;refine wpAny_onRaise ?_;unfold unbindName;refine wpAny_bind (wpAny_point (wpAny_bind ?_));unfold deleteName;simp only[hk,hp];rw[if_neg (by decide)];refine wpAny_bind (wpAny_nsDel_keeps hn λh2 v hn2 sb=>?_);rw[hm];simp only[if_true,Option.isSome_some,Bool.not_true,false_eq_true,if_false];refine wpAny_pure (wpAny_point (h _ ?_));have ne0:∀b o,X.s₀.heap.get? b=some o->b≠X.env.locals:=λb o z y=>absurd (lt_size z) (by rw[y];exact not_lt.mpr I.ok.above);have cell:∀c v,c≠X.env.locals->s1.heap.IsCell c v->h2.IsCell c v:=λc v y ⟨o,z,r⟩=>⟨o,(sb.2 c y).trans z,r⟩;have B:=I1.base;refine⟨I.ok,I1.os,I1.bare,⟨λb o z n hf hx=>(sb.2 b (ne0 b o z)).trans (B.keep b o z n hf hx),λb o z n hf hx=>?_,λb o z n hx=>B.free b o z n hx,λb o z hx=>?_,B.tups,B.jO,B.j5⟩,⟨_,hn2,λj x w hj hσ hv=>?_⟩,λx c hc=>?_,I1.free,I1.gZ,λp hp'=>?_,λb o z=>?_,by rw[length_set];exact I.len⟩
 .obtain⟨sl,y⟩:=B.slot b o z n hf hx;exact⟨sl,(sb.2 b (ne0 b o z)).trans y⟩
 .obtain⟨o',y⟩:=B.there b o z hx;exact⟨o',(sb.2 b (ne0 b o z)).trans y⟩
 .have hji:j≠i:=λy=>by subst y;rw[getElem?_set_self Dg] at hσ;cases hσ
  have hxn:x≠n:=λy=>by subst y;have q:=(List.getElem?_inj (List.getElem?_eq_some_iff.mp hj).1 hN).mp (hj.trans hi.symm);exact hji q
  obtain⟨u',r',lk'⟩:=hlk j x w hj (by rw[getElem?_set_ne hji.symm] at hσ ⊢;exact hσ) hv;refine⟨u',r',?_⟩;rcases lk' with⟨a,b⟩|⟨a,c,b1,b2⟩
  .exact .inl ⟨a,(if_neg hxn).trans b⟩
  .exact .inr ⟨a,c,b1,cell c _ (I.xM x c b1) b2⟩
 .obtain⟨w,hw⟩:=I1.cell x c hc;exact⟨w,cell c _ (I.xM x c hc) hw⟩
 .obtain⟨a,b,c,d1,d2⟩:=I1.pin p hp';exact⟨(sb.2 p.1 c).trans a,b,c,d1,d2⟩
 .refine(I1.hok b o z).stay (λc w hc q=>(sb.2 c ?_).trans q) (λ_ q=>q) λ_ _ q=>q;rintro rfl;rcases hc with rfl|hc
  .rw[I1.free] at z;cases z
  .rw[I1.free] at hc;cases hc
end
section
variable {X:Cx}{k i:Nat}{f Y:Addr}{fd:FuncData}{ps:List Str}{sp:Sp}{x y n:Str}{p pos cpos epos hpos np:Pos}{e:Expr}{es:List Expr}{b0:Stmt}{suite:List Stmt}{t:TA}{tS:TS}
theorem pK {P:Program}{w:World}{H:Hp}{h:Heap}{e C C':Addr}{dx bJ:Option Addr}{tb tb':Value}(ok:d9 P w H h)(a:H e=some (bA e C dx tb))(b:H e=some (bA e C' bJ tb')):C=C':=by obtain⟨o1,_,_,a1,a2,_⟩:=gA ok a;obtain⟨o2,_,_,b1,b2,_⟩:=gA ok b;rw[a1] at b1;cases b1;rw[a2] at b2;cases b2;rfl
theorem Fg {CX:n6}{outer:List Env}{P:Program}{w:World}{H:Hp}{s s':Shared}{Q:VK}{E:XK}{ev:Value}(h:CR CX outer P w H s Q E (.error ev) s'):CX outer H s E ev s':=h
end
open VM
section
variable {K:Frag}{S:GS}{σ:L2.St}{H:Hp}
noncomputable def fU (K:Frag)(H:Hp):GS->L2.St->Prop
 |[],σ=>σ=[]
 |none::S,σ=>∃x r,σ=x::r/\fU K H S r
 |some (t,d)::S,σ=>∃v r,σ=some v::r/\t=.fr/\Has K H d v/\fU K H S r
theorem fU.len:∀{S:GS}{σ:L2.St},fU K H S σ->S.length=σ.length
 |[],σ,h=>by rw[show σ=[] from h];rfl
 |none::S,σ,⟨x,r,e,h⟩=>by rw[e,length_cons,length_cons,fU.len h]
 |some (t,d)::S,σ,⟨v,r,e,_,_,h⟩=>by rw[e,length_cons,length_cons,fU.len h]
theorem fU.slot:∀{S:GS}{σ:L2.St},fU K H S σ->∀(i:Nat) t d,S[i]? =some (some (t,d))->t=.fr/\∃v,σ[i]? =some (some v)/\Has K H d v
 |[],σ,_,i,t,d,e=>by simp at e
 |none::S,σ,⟨x,r,e,h⟩,i,t,d,e2=>by
  subst e;cases i with
  |zero=>cases e2
  |succ i=>exact fU.slot h i t d e2
 |some (t0,d0)::S,σ,⟨v,r,e,h1,h2,h⟩,i,t,d,e2=>by
  subst e;cases i with
  |zero=>cases e2;exact⟨h1,v,rfl,h2⟩
  |succ i=>exact fU.slot h i t d e2
theorem fU.grow {H':Hp}(k:Same H H'):∀{S:GS}{σ:L2.St},fU K H S σ->fU K H' S σ
 |[],_,h=>h
 |none::_,_,⟨x,r,e,h⟩=>⟨x,r,e,fU.grow k h⟩
 |some (_,_)::_,_,⟨v,r,e,h1,h2,h⟩=>⟨v,r,e,h1,Has.same k h2,fU.grow k h⟩
theorem fU.vi (h:fU K H S σ):VI K (λ_=>none) H H S H σ H where
 len:=h.len
 same:=Same.refl _
 gf:=Same.refl _
 new:=λ_ _ e=>.inl e
 sub:=Same.refl _
 slot:=λi t d e=>by obtain⟨rfl,v,e1,e2⟩:=h.slot i t d e;exact⟨v,e1,e2⟩
 inj:=λi j t t' d d' v e1 _ o1 _ _ _=>by obtain⟨rfl,_⟩:=h.slot i t d e1;cases o1
 pl:=λ_ _ _ e=>e
theorem Fj {f:VT}{b:Bool}{Q:Bool->Hp->Prop}(h:fU K H S σ)(e:f S=some b)(q:∀H',Same H H'->Q b H'):fQ K f σ H Q:=
 ⟨_,_,_,S,H,h.vi,b,e,λ_ H' g=>q H' g.hh⟩
theorem CN {f:VE}{d:PyData}{Q:VK}(h:fU K H S σ)(e:f S=some d)(q:∀v H',Same H H'->Has K H' d v->Q v H'):tV K RS f σ H Q:=
 ⟨_,_,_,S,H,h.vi,d,e,λv _ H' g hv=>q v H' g.hh (Has.same g.fh hv)⟩
end
section
variable {P:Program}{w:World}{K:Frag}{mg:Str->Option Value}{base:Heap}
theorem qQ {x qual:Str}{st:Stmt}{f:Addr}{fd:FuncData}{N ps:List Str}{k:Nat}{sp:Sp}(F:cP K x qual st f fd)(S:bI N ps (aj st))(len:∀vs H Q E,sp vs H Q E->vs.length=ps.length)
  (hbody:∀(cdv:Value) (A:Around) (outer:List Env) (s:Shared) (H:Hp) (vs:List V) (Q:VK) (E:XK),cI k (A.deeper (envOfC qual (aj st) s.heap.objs.size f cdv))->sp vs H Q E->
   ∃t,eX (cC (bN P w) P w K mg base N qual (aj st) f cdv A outer s H E) (cH st) t/\t {nx:=λ_ H'=>Q .non H',rt:=Q} (start N vs) H):aQ P w K mg base (bN P w) (k+1) f fd ps sp:=by
 obtain⟨oc,od,kV,doc,pm,an,cdv,ct,osl,rfl,lk,hcd⟩:=F.ex;exact J0 lk hcd S len λA outer s H vs Q E hr hsp=>hbody cdv A outer s H vs Q E hr hsp
theorem calm {f:Addr}{fd:FuncData}{ps:List Str}{k:Nat}{sp M7:Sp}(F:aQ P w K mg base (bN P w) k f fd ps sp)(h:∀vs H Q E,M7 vs H Q E->sp vs H Q E0):aQ P w K mg base cV k f fd ps M7:=
 ⟨λvs H Q E q=>F.len vs H Q E0 (h _ _ _ _ q),λA outer s H args us vs Q E hr he hb hv hs=>codeAny_mono (F.run A outer s H args us vs Q E0 hr he hb hv (h _ _ _ _ hs)) λr s' q=>by
  cases r with
  |ok fl=>cases fl<;>exact q
  |error ev=>
   obtain⟨_,_,_,_,_,_,_,_,_,_,_,_,_,_,_,z⟩:=Fg q;exact z.elim⟩
structure Fl (K:Frag)(x qual:Str)(st:Stmt)(f:Addr)(fd:FuncData):Prop where
 ex:∃(oc:Value) (od:Option Addr) (dV kV doc pm:Value) (an:Option Addr) (cdv ct:Value) (osl:Array (Option Value)),
  fd=fnOf x qual (eU st) (cH st) (aj st) dV kV doc pm an cdv ct/\K.lookup f=some ⟨oc,od,.func fd,osl⟩/\codeIn K cdv qual=true
theorem Fl.ok {x qual:Str}{st:Stmt}{f:Addr}{fd:FuncData}{N ps:List Str}{k:Nat}{sp:Sp}(F:Fl K x qual st f fd)(S:bI N ps (aj st))(len:∀vs H Q E,sp vs H Q E->vs.length=ps.length)
  (hbody:∀(cdv:Value) (A:Around) (outer:List Env) (s:Shared) (H:Hp) (vs:List V) (Q:VK) (E:XK),cI k (A.deeper (envOfC qual (aj st) s.heap.objs.size f cdv))->sp vs H Q E->
   ∃t,eX (cC cV P w K mg base N qual (aj st) f cdv A outer s H E).ni (cH st) t/\t {nx:=λ_ H'=>Q .non H',rt:=Q} (start N vs) H):aQ P w K mg base cV (k+1) f fd ps sp:=by
 obtain⟨oc,od,dV,kV,doc,pm,an,cdv,ct,osl,rfl,lk,hcd⟩:=F.ex;refine J0 lk hcd S len λA outer s H vs Q E hr hsp=>?_;obtain⟨t,h,q⟩:=hbody cdv A outer s H vs Q E hr hsp;exact⟨t,h.ni,q⟩
end
section
variable {X:Cx}{e:Expr}{te:TE}{C:Addr}
noncomputable def abS (a b:Str)(te:TE):TE:=λσ H Q=>te σ H λx H1=>∃n:Int,x=.int n/\n.natAbs.log2<1920/\(Str.empty++a++toString n).length<=sizeLine/\(Str.empty++a++toString n++b).length<=sizeLine/\∀y,Q (.str y) H1
theorem abT {a b:Str}{j1 j2:Nat}{p1 p2 p3 pos:Pos}(he:PE X e te)(h0:(Str.empty++a).length<=sizeLine:=by decide):PE X (.JoinedStr [.Constant (.str a) j1 p1,.FormattedValue e (-1) none p2,.Constant (.str b) j2 p3] pos) (abS a b te):=by intro pins s σ H Q I h;refine JoinedStr_many (joinParts_cons (Calls.Constant_str ?_));dsimp only;refine⟨h0,joinParts_cons (FormattedValue_plain (aO (he pins _ σ H _ (I.tok _) h) λu s1 ⟨x,H1,I1,rx,n,ex,hn,z1,z2,q⟩=>?_))⟩;subst ex;obtain⟨t,rfl⟩:=rx;refine formatField_int_small hn ⟨z1,joinParts_cons (Calls.Constant_str ⟨z2,joinParts_nil ?_ z2⟩)⟩;exact⟨.str (Str.empty++a++toString n++b),H1,I1.tok _,⟨_,rfl⟩,q _⟩
def K7 (K:Frag)(ta:TE)(f:Str):TE:=λσ H Q=>ta σ H λx H1=>∃a C dx tb fs v,x=.ref a/\H1 a=some (bA a C (some dx) tb)/\H1 dx=some (.xd fs)/\XR K C/\PySem.W.findIn K (.ref C) f=some none/\fs.lookup f=some v/\Q v H1
theorem Ib {P:Program}{w:World}{H:Hp}{h:Heap}{a dx:Addr}{tb:Value}{fs:List (Str×V)}(ok:d9 P w H h)(ea:H a=some (bA a C (some dx) tb))(ed:H dx=some (.xd fs)):
  ∃(oe od:Obj) (mA:Str->Option Value),PySem.W.InstAt h a oe C (some od)/\(∀name,PySem.W.lookIn name od=some (mA name))/\∀f,fO (fs.lookup f) (mA f):=by
 obtain⟨oe,vs,t0,g1,g2,g3,g4,g5,g6⟩:=gA ok ea;obtain⟨mA,ns,rl⟩:=(show ∃mA,h.Ns1 dx mA/\∀f,fO (fs.lookup f) (mA f) from ok dx _ ed);obtain⟨od,ho,hl⟩:=Ai ns;refine⟨oe,od,mA,⟨g1,g2,?_,?_⟩,hl,rl⟩
 .unfold notCls;rw[g4]
 .rw[g3];exact ho
theorem Yy {f:Str}{pos:Pos}(he:PE X e te)(hb:attributeBase e f X.env (eval e X.env)=eval e X.env:=by rfl):PE X (.Attribute e f pos) (K7 X.K te f):=by intro pins s σ H Q I h;refine Hh hb (aO (he pins s σ H _ I h) λu s1 ⟨x,H1,I1,rx,a,C,dx,tb,fs,v,ex,ea,ed,c,n,l,q⟩=>?_);subst ex;obtain rfl:u=Value.ref a:=rx;obtain⟨oe,od,mA,IA,hl,rl⟩:=Ib I1.hok ea ed;obtain⟨u,hu,ru⟩:=fO.some_of (v:=v) (o:=mA f) (by rw[<-l];exact rl f);obtain⟨hp,gs,dr,tk,os⟩:=s1;exact get_own I1.dM c IA n (by rw[hl,hu]) (Aj ru) ⟨v,H1,I1.tok _,ru,q⟩
end
end EX
namespace EX
open PySem.W
theorem G3 {K:Frag}{D:Addr}{newId:String}(h:excIn K D jx newId=true):tailIn K jx (.ref D::jx)=true:=by
 unfold excIn at h;split at h
 .rename_i dd cd sl ho;split at h
  .rename_i C' bm k0 k1 k2 k3 n k5 hm hs;simp only[and_eq_true] at h;have t0:tailIn K jx jx=true:=by show tailIn K jx (.type "ValueError"::[.type "Exception",.type "BaseException",.type "object"])=true;unfold tailIn;simp
   have t1:tailIn K jx (.ref D::jx)=((.ref D::jx)==jx||match K.lookup D with
     |some ⟨_,_,.cls cd,_⟩=>nsOkIn K cd.ns && nsIn K cd.ns "__init__"==some none && tailIn K jx jx
     |_=>false):=rfl
   rw[t1,ho];dsimp only;rw[h.1.2,h.2,t0];simp
  .cases h
 .cases h
open Builtin Builtin.ObjectAttr
section
variable {prog:Program}{w:World}{A:Around}{E:Value->Shared->Prop}{h:Heap}{g:Array GenState}{d:Drawn}{t:Nat}{os:OsState}{K:Frag}{C D:Addr}
theorem K8 {v:Value}{Q:Fin->Shared->Prop}(X:K.In h)(c:XC K C D)(hi:findIn K (.ref C) "__init__"=some (some (.builtin "ValueError.__init__")))
  (hq:∀h' e t0,h.objs.size<=e->(∀b o,h.get? b=some o->h'.get? b=some o)->h'.get? e=some {cls:=.ref C,data:=.fields #[.ref t0,.none,.none,.none,.bool false,.none]}->Q (.done (.ret (.ref e))) ⟨h',g,d,t,os⟩):
  wpAny (model prog w) A (Builtin.«type.__call__» ⟨[.ref C,v],[]⟩) Q E ⟨h,g,d,t,os⟩:=by
 obtain⟨nm,q,N,bs,sn,sub,ab,col,dd,k0,k1,k2,k3,k5,lk⟩:=c.obj;have hC:=X _ _ lk;have T:=tail_of_in X c.tl;have FV:=PySem.F.excBase_ValueError;repeat (first|with_reducible refine wpAny_loadPart_at hC ?_|with_reducible refine wpAny_madeBy_exc hC ?_|wp_step)
 refine codeAny_call_builtin_code (Code.quiet_builtin _ FV.quiet) (wpAny_check_new_subU FV FV.hasB T hC ?_);refine codeAny_exc_new_subU (rest:=[v]) FV FV.hasB FV T hC ?_ (by show 1<=sizeLine;decide);show wpAny _ _ _ _ _ _;generalize hot:({cls:=.type "tuple",data:=.seq [v].toArray}:Obj)=ot;generalize hoe:({cls:=.ref C,data:=.fields #[.ref h.objs.size,.none,.none,.none,.bool false,.none]}:Obj)=oe;have kp:∀b o,h.get? b=some o->((h.push ot).push oe).get? b=some o:=λb o z=>get?_push_of_some _ (get?_push_of_some _ z);have X1:K.In ((h.push ot).push oe):=X.keeps kp;have hC1:=kp _ _ hC;have Fe:((h.push ot).push oe).get? (h.objs.size+1)=some oe:=by have z:=get?_push_size (h.push ot) (o:=oe) (by rw[<-hoe];rfl);rwa [size_push] at z
 have hcl:oe.cls=.ref C:=by rw[<-hoe]
 have hcC:(Value.ref C::(.ref D::jx)).contains (.ref C)=true:=by simp
 unfold isInstance;repeat (first|(with_reducible refine wpAny_loadPart_at Fe ?_;rw[hcl])|(with_reducible refine wpAny_isSubtype_exc hC1 ?_;rw[hcC])|wp_step)
 show wpAny _ _ (typeLookup (.ref C) _) _ _ _;refine(looks_findIn X1 hi).at ?_;refine wpAny_holding (wpAny_bind (wpAny_of_eq (FV.init.bind _) ?_));refine wpAny_bind (Bm (vs:=#[.ref h.objs.size,.none,.none,.none,.bool false,.none]) X1 c Fe hcl (by rw[<-hoe]) rfl λh' k1' ge=>?_)
 wp_walk
 refine hq h' (h.objs.size+1) ((h.push ot).push oe).objs.size (le_succ _) (λb o z=>k1' b o (ne_of_lt (Nat.lt_succ_of_lt (lt_size z))) (kp b o z)) (ge.trans ?_);rw[<-hoe];rfl
theorem aeD {v:Value}{Q:Value->Shared->Prop}(X:K.In h)(c:XC K C D)(hi:findIn K (.ref C) "__init__"=some (some (.builtin "ValueError.__init__")))
  (hq:∀h' e t0,h.objs.size<=e->(∀b o,h.get? b=some o->h'.get? b=some o)->h'.get? e=some {cls:=.ref C,data:=.fields #[.ref t0,.none,.none,.none,.bool false,.none]}->Q (.ref e) ⟨h',g,d,t,os⟩):
  wpAny (model prog w) A (call (.ref C) [v]) Q E ⟨h,g,d,t,os⟩:=by
 obtain⟨nm,q,N,bs,sn,sub,ab,col,dd,k0,k1,k2,k3,k5,lk⟩:=c.obj;have hC:=X _ _ lk;have f1:=tc_lookup;have f2:=tc_bind (.ref C);have hT:(⟨h,g,d,t,os⟩:Shared).TypeIs (.ref C) "type":=⟨_,hC,rfl⟩;refine wpAny_call (codeAny_of_tree ?_);show wpAny _ _ (callAny (.ref C) _) _ _ _;repeat (any_goals (first|assumption|with_reducible refine wpAny_loadPart_at hC ?_|wp_step))
 refine⟨rfl,codeAny_call_builtin_at (Code.quiet_builtin _ (by decide +kernel)) entry_typeCall (wpAny_check_type_call_sub hC (K8 X c hi λh' e t0 a b z=>?_))⟩;exact hq h' e t0 a b z
end
end EX
namespace EX
open PyProof.Rows L2
def K9 (X:Cx)(pins:List (Addr×Obj))(σ:L2.St)(E:XK)(ev:Value)(s':Shared):Prop:=∃H s,Inv X pins σ H s/\bN X.prog X.w X.stack H s E ev s'
noncomputable abbrev TX:=L2.St->Hp->VK->XK->Prop
def pL (X:Cx)(e:Expr)(t:TX):Prop:=∀(pins:List (Addr×Obj)) (s:Shared) (σ:L2.St) (H:Hp) (Q:VK) (E:XK),Inv X pins σ H s->t σ H Q E->wpAny (model X.prog X.w) X.A (eval e X.env) (EP X pins σ Q) (K9 X pins σ E) s
section
variable {X:Cx}{k:Nat}{f C:Addr}{fd:FuncData}{ps:List Str}{sp:Sp}{x m:Str}{p pos apos:Pos}{e o:Expr}{es:List Expr}{t:TA}{ta:TE}
theorem Ie {pins:List (Addr×Obj)}{σ:L2.St}{H:Hp}{s:Shared}{Q:VK}{E:XK}{us:List Value}{vs:List V}(F:aQ X.prog X.w X.K X.mg X.base (bN X.prog X.w) k f fd ps sp)(hr:cI k X.A)(hb:Binds X.K fd ps [])(I:Inv X pins σ H s)(r:Vals vs us)(h:sp vs H Q E):
  wpAny (model X.prog X.w) X.A (call (.ref f) us) (EP X pins σ Q) (K9 X pins σ E) s:=by
 have hl:us.length=ps.length:=by rw[<-r.length];exact F.len _ _ _ _ h
 have bb:=hb s us I.dM (by rw[append_nil];exact hl);rw[append_nil] at bb;refine wpAny_call (codeAny_mono (F.run X.A X.stack s H ⟨us,[]⟩ us vs Q E hr I.env0 bb r h) λr s' hq=>?_);cases r with
 |error ev=>exact⟨H,s,I,Fg hq⟩
 |ok fl=>
  cases fl with
  |ret u=>exact I.after hq
  |next=>exact False.elim hq
  |brk=>exact False.elim hq
  |cont=>exact False.elim hq
noncomputable def jX (sp:Sp)(t:TA):TX:=λσ H Q E=>t σ H λvs H1=>sp vs H1 Q E
theorem jK (F:aQ X.prog X.w X.K X.mg X.base (bN X.prog X.w) k f fd ps sp)(hr:cI k X.A)(hg:Gl X x)(hm:X.mg x=some (.ref f))(hk:keepIn X.K (.ref f)=true)(hb:Binds X.K fd ps [])(ha:PA X.ni (e::es) t)
  (hdb:(x==("__debug__":Str))=false:=by decide)(he:starEach (e::es) X.env=(false,eval e X.env)::starEach es X.env:=by rfl)(hpl:(backTo pos (starEach es X.env)).any (·.1)=false:=by rfl):
  pL X (.Call (.Name x p) (e::es) [] pos) (jX sp t):=by
 intro pins s σ H Q E I h;refine wpAny_Call_Name_kw (iZ I hg hm ?_ hdb);refine callWith_K (h₀:=X.base) I.ok.mod.xK hk (wpAny_mono (ha pos pins s σ H _ (I.wish _) h) (λus s1 ⟨vs,H1,I1,r,q⟩=>⟨I1.fP.dM,?_⟩) λ_ _ z=>z.elim) he hpl;exact Ie F hr hb I1.fP r q
def jY (C:Addr)(m:Str)(sp:Sp)(ta:TE)(t:TA):TX:=λσ H Q E=>ta σ H λx H1=>∃a dx fs,x=.ref a/\H1 a=some (.ins C dx fs)/\fs.lookup m=none/\t σ H1 λvs H2=>sp (x::vs) H2 Q E
theorem iy {pl:Sem Bool}(he:PE X.ni o ta)(c:Cls X.K C)(hm:Meth X.K C m f)(F:aQ X.prog X.w X.K X.mg X.base (bN X.prog X.w) k f fd ps sp)(hr:cI k X.A)(hb:Binds X.K fd ps [])(ha:PA X.ni (e::es) t)
  (hst:starEach (e::es) X.env=(false,eval e X.env)::starEach es X.env:=by rfl)(hpl:(backTo pos (starEach es X.env)).any (·.1)=false:=by rfl)
  (ht:eval (.Call (.Attribute o m apos) (e::es) [] pos) X.env=(do
   let ov<-eval o X.env
   standAt apos.atName
   let(f,first)<-holding [ov] (getMethod ov m pl)
   callWith pos f first (backTo pos (starEach (e::es) X.env)) (backToKw pos (keywordEach [] X.env))):=by rfl):
  pL X (.Call (.Attribute o m apos) (e::es) [] pos) (jY C m sp ta t):=by
 intro pins s σ H Q E I h;refine methodCall_KW (pl:=pl) (wpAny_mono (he pins s σ H _ (I.wish _) h) (λu s1 ⟨x,H1,I1,rx,a,dx,fs,ex,ea,l,q⟩=>?_) λ_ _ z=>z.elim) ht;subst ex;obtain rfl:u=Value.ref a:=rx;refine nF I1.fP ea c hm l ?_;refine callWith_K (first:=[.ref a]) (h₀:=X.base) I.ok.mod.xK hm.kp (wpAny_mono (ha pos pins s1 σ H1 _ I1 q) (λus s2 ⟨vs,H2,I2,r,q2⟩=>⟨I2.fP.dM,?_⟩) λ_ _ z=>z.elim) hst hpl;exact Ie (us:=.ref a::us) (vs:=.ref a::vs) F hr hb I2.fP (.cons rfl r) q2
end
theorem CP {P:Program}{w:World}{K:Frag}{mg:Str->Option Value}{base:Heap}{N:List Str}{qual:Str}{scope:Scope}{f:Addr}{cdv:Value}{A:Around}{outer:List Env}{s s':Shared}{H:Hp}{E:XK}{pins:List (Addr×Obj)}{σ:L2.St}{ev:Value}{E1:XK}
  (hc:K9 (cC (bN P w) P w K mg base N qual scope f cdv A outer s H E) pins σ E1 ev s')(q:∀e C dx T H',ev=.ref e->H' e=some (bA e C dx (.ref T))->(∀C' tb,H' e=some (bA e C' dx tb)->C'=C)->E1 (.ref e) dx H'->∀T2,E (.ref e) dx (upd H' e (bA e C dx (.ref T2)))):
  (cC (bN P w) P w K mg base N qual scope f cdv A outer s H E).xe ev s':=by
 obtain⟨H1,s1,I,hq⟩:=hc;have fr:∀(X:Cx),X.A.frames=some X.stack->X.A.frames=some X.stack:=λ_ z=>z;show wpAny (model P w) (A.deeper (envOfC qual scope s.heap.objs.size f cdv)) (leaving (envOfC qual scope s.heap.objs.size f cdv) ev) _ _ s';unfold leaving;refine wpAny_bind (zT (X:=cC (bN P w) P w K mg base N qual scope f cdv A outer s H E) I.ok.frames I hq rfl rfl λe C dx T H' T2 s3 hev qE hE hok I3 R3=>?_);subst hev;have ub:Un (frs outer) [] H (upd H' e (bA e C dx (.ref T2))) s.heap s3.heap:=I3.base;exact⟨e,C,dx,T2,_,rfl,I3.os,I3.bare,ub,I3.hok,aA,R3.ent,R3.no,R3.ab,(λz=>by have:=R3.no;rw[z,aA] at this;cases this),q e C dx T H' rfl hE (λC' tb z=>pK hok z hE) qE T2⟩
theorem dY {P:Program}{w:World}{K:Frag}{mg:Str->Option Value}{base:Heap}{N:List Str}{qual:Str}{scope:Scope}{f:Addr}{cdv:Value}{A:Around}{outer:List Env}{s:Shared}{H:Hp}{E:XK}{ex:Expr}{pos:Pos}{t:TX}
  (he:pL (cC (bN P w) P w K mg base N qual scope f cdv A outer s H E) ex t)(hs:swapsWith ex none pos.line (cC (bN P w) P w K mg base N qual scope f cdv A outer s H E).env=pure false:=by rfl):
  PS (cC (bN P w) P w K mg base N qual scope f cdv A outer s H E) (.Expr ex pos) (λD σ H0=>t σ H0 (λ_ H'=>D.nx σ H') λev dx H'=>∀e C T T2,ev=.ref e->H' e=some (bA e C dx (.ref T))->(∀C' tb,H' e=some (bA e C' dx tb)->C'=C)->E (.ref e) dx (upd H' e (bA e C dx (.ref T2)))):=by
 intro pins s0 σ H0 D I h;refine wpAny_Expr_any (wpAny_mono (he pins s0 σ H0 _ _ I h) (λv s1 ⟨x,H1,I1,r1,q1⟩=>⟨σ,H1,I1,q1⟩) λev s1 z=>?_) I.quiet hs;exact CP z λe C dx T H' hev hE u q T2=>q e C T T2 rfl hE u
section
variable {X:Cx}{k i:Nat}{f Y C D:Addr}{fd:FuncData}{ps:List Str}{sp:Sp}{x y n:Str}{p pos cpos epos hpos np:Pos}{e ex:Expr}{es:List Expr}{b0:Stmt}{suite:List Stmt}{t:TX}{ta:TA}{tS:TS}{te:TE}
def CQ (K:Frag)(Y:Addr)(i:Nat)(t:TX)(tS:TS):TS:=λD σ H=>t σ H (λ_ H2=>D.nx σ H2) λev dx H2=>∃e C tb,ev=.ref e/\H2 e=some (bA e C dx tb)/\PySem.W.mroIn K C (.ref Y)=some true/\
 ∀T,tS {nx:=λσ' H'=>D.nx (σ'.set i none) H',rt:=λ_ _=>False} (σ.set i (some (.ref e))) (upd H2 e (bA e C dx (.ref T)))
theorem Yz (hex:pL X ex t)(hst:X.stack=X.env::X.outer)(hfr:X.env.frame=some X.env.locals)(hgy:Gl X y)(hmy:X.mg y=some (.ref Y))(hY1:PySem.W.mroIn X.K Y (.type "BaseException")=some true)(hY2:PySem.W.typeIn X.K (.ref Y)=some (.type "type"))
  (hN:X.N.Nodup)(hi:X.N[i]? =some n)(hl:X.env.scope.names.lookup n=some .local)(hS:∀e,eX (inX X e) (b0::suite) tS)(hdy:(y==("__debug__":Str))=false:=by decide)
  (hs:swapsWith ex none epos.line X.env=pure false:=by rfl):
  PS X (.Try [.Expr ex epos] [.ExceptHandler (some (.Name y np)) (some n) (b0::suite) hpos] [] [] pos) (CQ X.K Y i t tS):=by
 intro pins s σ H D I h;refine wpAny_Try_except (wpAny_execs_cons (wpAny_Expr_any (wpAny_mono (hex pins s σ H _ _ I h) (λv s1 ⟨_,H1,I1,_,q1⟩=>wpAny_execs_nil (wpAny_execs_nil ⟨σ,H1,I1,q1⟩)) λev s' ⟨H1,s1,I1,hq⟩=>?_) I.quiet hs));refine zT I.ok.frames I1 hq hst hfr λe C dx T H' T2 s3 hev qE hE hok I3 R3=>?_;subst hev;obtain⟨e',C',tb,z,hE',hm1,qS⟩:=qE;cases z;have hc:=pK hok hE' hE;subst hc;obtain⟨oe,vs,t0,g1,g2,g3,g4,g5,g6⟩:=gA I3.hok (aA (H:=H') (a:=e) (o:=bA e C' dx (.ref T2)));obtain⟨oT,ts,t1,t2,t3⟩:=R3.ent;refine wpAny_handleBy_cons (codeAny_handlers_test (iZ (X:=inX X e) (vO I3) hgy hmy ?_ hdy)) (by intro z;cases z);obtain⟨hp,gs,dr,tk,os⟩:=s3;refine catches I3.dM g1 g2 hY1 hY2 hm1 (codeAny_handlers_suite_as ?_);unfold setFlight;refine wpAny_bind (wpAny_field g1 g4 g6 ?_);rw[if_pos (show(Value.ref T2 !=Value.none)=true from by simp)];refine wpAny_setField t1 t2 (Array.getElem?_eq_some_iff.mp t3).1 ?_;have I4:=I3.turned (t':=tk) (it:=T2) (h':=hp.update T2 (Obj.mapFields (·.setIfInBounds 3 Value.none))) (λb o hb z=>(get?_update_other _ _ hb.symm).trans z) R3.no R3.ne (.inr R3.ab) R3.cl R3.pn;refine j6 (v:=.ref e) I4 hN hi (.inl hl) rfl (λs5 I5=>?_) (.inr hl);refine wpAny_mono (hS e pins s5 _ _ _ (vO I5) (qS T2)) (λfl s6 q6=>?_) λ_ _ z=>z.elim;cases fl with
 |next=>
  obtain⟨σ',H6,I6,dn⟩:=q6;exact goes (Ia I.ok I6) hN hi hl λs7 I7=>⟨σ'.set i none,H6,I7,dn⟩
 |brk=>obtain⟨_,_,_,z⟩:=q6;exact z.elim
 |cont=>obtain⟨_,_,_,z⟩:=q6;exact z.elim
 |ret u=>obtain⟨_,_,_,_,_,z⟩:=q6;exact z.elim
def w6 (C:Addr)(t:TA):TE:=λσ H Q=>t σ H λvs H1=>∃v,vs=[v]/\∀e,H1 e=none->Q (.ref e) (upd H1 e (bA e C none .none))
theorem jy (c:XC X.K C D)(hi:PySem.W.findIn X.K (.ref C) "__init__"=some (some (.builtin "ValueError.__init__")))(kp:keepIn X.K (.ref C)=true)(hg:Gl X x)(hm:X.mg x=some (.ref C))
  (ha:PA X (e::es) ta)(hdb:(x==("__debug__":Str))=false:=by decide)(he:starEach (e::es) X.env=(false,eval e X.env)::starEach es X.env:=by rfl)(hpl:(backTo pos (starEach es X.env)).any (·.1)=false:=by rfl):
  PE X (.Call (.Name x p) (e::es) [] pos) (w6 C ta):=by
 intro pins s σ H Q I h;refine wpAny_Call_Name_kw (iZ I hg hm ?_ hdb);refine callWith_K (h₀:=X.base) I.ok.mod.xK kp (aO (ha pos pins s σ H _ I h) λus s1 ⟨vs,H1,I1,r,v,ev,q⟩=>⟨I1.dM,?_⟩) he hpl;subst ev;obtain⟨u,rfl,ru⟩:=vals1 r;obtain⟨hp,gs,dr,tk,os⟩:=s1;refine aeD I1.dM c hi λh' e t0 hle kp' ge=>?_;exact⟨.ref e,_,I1.laid (a:=e) (o:=bA e C none .none) (h':=h') (t':=tk) kp' hle (oW ge rfl rfl rfl (t0:=t0) rfl rfl),rfl,q e (I1.hok.fresh hle)⟩
theorem aeE {P:Program}{w:World}{H:Hp}{h:Heap}{a:Addr}{tb:Value}(ok:d9 P w H h)(ea:H a=some (bA a C none tb)):∃oe,PySem.W.InstAt h a oe C none:=by
 obtain⟨oe,vs,t0,g1,g2,g3,g4,g5,g6⟩:=gA ok ea;refine⟨oe,g1,g2,?_,?_⟩
 .unfold notCls;rw[g4]
 .rw[g3];exact True.intro
end
section
variable {X:Cx}{k:Nat}{f C:Addr}{fd:FuncData}{ps:List Str}{sp:Sp}{x:Str}{p pos:Pos}{e:Expr}{es:List Expr}{t:TA}
def Wv (C:Addr)(sp:Sp)(t:TA):TX:=λσ H Q E=>t σ H λvs H1=>∀x dx,H1 x=none->H1 dx=none->dx≠x->sp (.ref x::vs) (upd (upd H1 dx (.own x)) x (.ins C dx [])) (λv H2=>v=.non/\Q (.ref x) H2) E
theorem Pn {pins:List (Addr×Obj)}{σ:L2.St}{H:Hp}{s:Shared}{Q:VK}{E:XK}{us:List Value}{vs:List V}(M:Mk X.K C f)(F:aQ X.prog X.w X.K X.mg X.base (bN X.prog X.w) k f fd ps sp)(hr:cI (k+1) X.A)(hb:Binds X.K fd ps [])(I:Inv X pins σ H s)(r:Vals vs us)
  (h:∀x dx,H x=none->H dx=none->dx≠x->sp (.ref x::vs) (upd (upd H dx (.own x)) x (.ins C dx [])) (λv H2=>v=.non/\Q (.ref x) H2) E):
  wpAny (model X.prog X.w) X.A (call (.ref C) us) (EP X pins σ Q) (K9 X pins σ E) s:=by
 have hq:=h (s.heap.objs.size+1) s.heap.objs.size (I.hok.fresh (le_succ _)) (I.hok.fresh (le_refl _)) (ne_of_lt (Nat.lt_succ_self _));have I2:=Inv.made (C:=C) I;have r2:Vals (V.ref (s.heap.objs.size+1)::vs) (Value.ref (s.heap.objs.size+1)::us):=.cons rfl r;have hl:(Value.ref (s.heap.objs.size+1)::us++[]).length=ps.length:=by have z:=r2.length;rw[F.len _ _ _ _ hq] at z;rw[append_nil];exact z.symm
 have bb:=hb {s with heap:=(s.heap.push emptyDict).push (instObj C s.heap.objs.size)} (Value.ref (s.heap.objs.size+1)::us) I2.dM hl;rw[append_nil] at bb;refine wpAny_call (Dr (f:=f) I.dM M.makes M.init (beq_iff_eq.mp M.fn) (codeAny_mono (F.run _ X.stack _ _ ⟨Value.ref (s.heap.objs.size+1)::us,[]⟩ (Value.ref (s.heap.objs.size+1)::us) _ _ E (hr.make C us []) (I2.env0.make C us []) bb r2 hq) λr s' hq'=>?_));cases r with
 |error ev=>exact⟨_,_,I2,Fg hq'⟩
 |ok fl=>
  cases fl with
  |ret u=>
   obtain⟨v,H',I3,rv,ev,q3⟩:=I2.after hq';subst ev;exact⟨rv,⟨V.ref (s.heap.objs.size+1),H',I3,rfl,q3⟩⟩
  |next=>exact False.elim hq'
  |brk=>exact False.elim hq'
  |cont=>exact False.elim hq'
theorem YB (M:Mk X.K C f)(F:aQ X.prog X.w X.K X.mg X.base (bN X.prog X.w) k f fd ps sp)(hr:cI (k+1) X.A)(hg:Gl X x)(hm:X.mg x=some (.ref C))(hb:Binds X.K fd ps [])(ha:PA X.ni (e::es) t)
  (hdb:(x==("__debug__":Str))=false:=by decide)(he:starEach (e::es) X.env=(false,eval e X.env)::starEach es X.env:=by rfl)(hpl:(backTo pos (starEach es X.env)).any (·.1)=false:=by rfl):
  pL X (.Call (.Name x p) (e::es) [] pos) (Wv C sp t):=by
 intro pins s σ H Q E I h;refine wpAny_Call_Name_kw (iZ I hg hm ?_ hdb);refine callWith_K (h₀:=X.base) I.ok.mod.xK M.kp (wpAny_mono (ha pos pins s σ H _ (I.wish _) h) (λus s1 ⟨vs,H1,I1,r,q⟩=>⟨I1.fP.dM,?_⟩) λ_ _ z=>z.elim) he hpl;exact Pn M F hr hb I1.fP r q
end
noncomputable abbrev Fo:=L2.St->Hp->(Hp->Prop)->Prop
def Pq (X:Cx)(e:Expr)(t:Fo):Prop:=∀(pins:List (Addr×Obj)) (s:Shared) (σ:L2.St) (H:Hp) (Q:Hp->Prop),Inv X pins σ H s->t σ H Q->
 wpAny (model X.prog X.w) X.A (eval e X.env) (λu s'=>∃y tk H',u=.str y tk/\y.length<=20000/\Inv X pins σ H' s'/\Q H') X.xe s
section
variable {X:Cx}{e:Expr}{es:List Expr}{te:TE}{t:Fo}
theorem lD {a:Str}{j:Nat}{pos:Pos}(h:a.length<=20000:=by decide):Pq X (.Constant (.str a) j pos) (λ_ H Q=>Q H):=λ_ _ _ H _ I q=>Calls.Constant_str ⟨_,_,H,rfl,h,I.tok _,q⟩
noncomputable def Ig (te:TE):Fo:=λσ H Q=>te σ H λx H1=>∃n:Int,x=.int n/\n.natAbs.log2<1920/\Q H1
theorem Ih {n:Int}(h:n.natAbs.log2<1920):(Str.ofString (toString n)).length<=20000:=by have e:=int_text_length_le (k:=1920) (by decide) h;rw[PySem.ofString_length];omega
theorem Fp {pos:Pos}(he:PE X e te):Pq X (.FormattedValue e (-1) none pos) (Ig te):=by intro pins s σ H Q I h;refine FormattedValue_plain (aO (he pins s σ H _ I h) λu s1 ⟨x,H1,I1,rx,n,ex,hn,q⟩=>?_);subst ex;obtain⟨t,rfl⟩:=rx;exact formatField_int_small hn ⟨_,_,H1,rfl,Ih hn,I1.tok _,q⟩
noncomputable def Fq (te:TE):Fo:=λσ H Q=>te σ H λx H1=>∃y:Str,x=.str y/\y.length<=1000/\Q H1
theorem yG {pos:Pos}(he:PE X e te):Pq X (.FormattedValue e (-1) none pos) (Fq te):=by intro pins s σ H Q I h;refine FormattedValue_plain (aO (he pins s σ H _ I h) λu s1 ⟨x,H1,I1,rx,y,ex,hn,q⟩=>?_);subst ex;obtain⟨t,rfl⟩:=rx;exact formatField_str (λt' tk=>⟨y,t',H1,rfl,by omega,I1.tok _,q⟩) (by rw[sizeLine_eq];omega)
noncomputable def tPR (te:TE):Fo:=λσ H Q=>te σ H λx H1=>∃y:Str,x=.str y/\y.length<=1000/\(∀c∈y.cps.toList,c<16^8)/\Q H1
theorem Ii {pos:Pos}(he:PE X e te):Pq X (.FormattedValue e 114 none pos) (tPR te):=by intro pins s σ H Q I h;refine wpAny_FormattedValue_repr (aO (he pins s σ H _ I h) λu s1 ⟨x,H1,I1,rx,y,ex,hn,hc,q⟩=>?_);subst ex;obtain⟨t,rfl⟩:=rx;have hl:=PySem.StrLaws.reprText_len y hc;exact wpAny_pyReprObj_str (formatField_str (λt' tk=>⟨reprText y,t',H1,rfl,by omega,I1.tok _,q⟩) (by rw[sizeLine_eq];omega)) (by rw[sizeLine_eq];omega)
def yD (X:Cx)(es:List Expr)(t:Fo):Prop:=∀(out:Str) (n:Nat) (pins:List (Addr×Obj)) (s:Shared) (σ:L2.St) (H:Hp) (Q:VK),out.length<=20000*n->n+es.length<=100->Inv X pins σ H s->t σ H (λH1=>∀y,Q (.str y) H1)->
 wpAny (model X.prog X.w) X.A (joinParts out (evalEach es X.env)) (EP X pins σ Q) X.xe s
theorem je:yD X [] (λ_ H Q=>Q H):=by intro out n pins s σ H Q hn hz I q;refine joinParts_nil ⟨.str out,H,I.tok _,⟨_,rfl⟩,q out⟩ ?_;rw[sizeLine_eq];simp only[length_nil] at hz;omega
theorem cJ {u:Fo}(h1:Pq X e t)(h2:yD X es u)(he:evalEach (e::es) X.env=eval e X.env::evalEach es X.env:=by rfl):yD X (e::es) (λσ H Q=>t σ H λH1=>u σ H1 Q):=by
 intro out n pins s σ H Q hn hz I q;rw[he];refine joinParts_cons (aO (h1 pins s σ H _ I q) λv s1 ⟨y,tk,H1,ev,hy,I1,q1⟩=>?_);subst ev;have hl:(out++y).length<=20000*(n+1):=by rw[strLen_append];omega
 simp only[length_cons] at hz;refine⟨?_,h2 (out++y) (n+1) pins s1 σ H1 Q hl (by omega) I1 q1⟩;rw[sizeLine_eq];omega
theorem kO {e2:Expr}{pos:Pos}(h:yD X (e::e2::es) t)(hz:es.length<=90:=by decide):PE X (.JoinedStr (e::e2::es) pos) (λσ H Q=>t σ H λH1=>∀y,Q (.str y) H1):=by intro pins s σ H Q I q;refine JoinedStr_many ?_;exact h Str.empty 0 pins s σ H Q (by decide) (by simp only[length_cons];omega) I q
end
theorem Ij {P:Program}{w:World}{K:Frag}{mg:Str->Option Value}{base:Heap}{N:List Str}{qual:Str}{scope:Scope}{f:Addr}{cdv:Value}{A:Around}{outer:List Env}{s:Shared}{H:Hp}{E:XK}{ex:Expr}{pos:Pos}{t:TX}
  (he:pL (cC (bN P w) P w K mg base N qual scope f cdv A outer s H E) ex t):
  PS (cC (bN P w) P w K mg base N qual scope f cdv A outer s H E) (.Return (some ex) pos) (λD σ H0=>t σ H0 D.rt λev dx H'=>∀e C T T2,ev=.ref e->H' e=some (bA e C dx (.ref T))->(∀C' tb,H' e=some (bA e C' dx tb)->C'=C)->E (.ref e) dx (upd H' e (bA e C dx (.ref T2)))):=by
 intro pins s0 σ H0 D I h;refine wpAny_Return_some (wpAny_mono (he pins s0 σ H0 _ _ I h) (λv s1 ⟨x,H1,I1,r1,q1⟩=>⟨x,σ,H1,I1,r1,q1⟩) λev s1 z=>?_);exact CP z λe C dx T H' hev hE u q T2=>q e C T T2 rfl hE u
end EX
namespace EX
open PySem.W
open Builtin Builtin.ObjectAttr
section
variable {K:Frag}{C x:Addr}{ox:Obj}{name:Str}{od:Option Obj}
theorem Pr {a gg:Value}(YC:(clsIn K C).isSome=true)(fa:findIn K (.ref C) name=some (some a))(sg:specialIn K a "__get__"=some (some gg))(tk:takesIn K a=some true):findObj K C od name=some (.bind gg a):=by obtain⟨cd,ec⟩:=Option.isSome_iff_exists.mp YC;unfold findObj;simp only[ec,fa,Option.bind_some,sg,tk]
theorem T8 (c:XI K C):KitX K (.ref x) (.ref C) (λh=>InstAt h x ox C od) where
 ty:=λ_ _ _ I=>I.type
 it:=λ_ _ X _=>by
  obtain⟨cd,ec,_⟩:=any_some c.hd;unfold clsIn at ec;split at ec
  .rename_i lo;intro A' Q' E' s' k q;unfold isType loadHead;exact wpAny_bind (wpAny_loadPart (k _ _ (X _ _ lo)) (wpAny_pure q))
  .cases ec
 ne:=λh tp dd its n sl X htp=>by
  obtain⟨cd,ec,_⟩:=any_some c.hd;refine Bool.eq_false_iff.mpr λq=>?_;have e:C=tp:=Value.ref.inj (beq_iff_eq.mp q);subst e;unfold clsIn at ec;split at ec
  .rename_i lo;cases(X _ _ lo).symm.trans htp
  .cases ec
 ca:=λ{prog w A E Q s} X I k=>by obtain⟨h,g,d,t,os⟩:=s;unfold getAttr? getAttrBy?;refine wpAny_bind (wpAny_mkText (wpAny_bind (wpAny_attempt ?_)));refine Pk X c.toXR I (Pr (by obtain⟨cd,ec,_⟩:=any_some c.hd;rw[ec];rfl) c.ca c.gg c.tk) rfl (λA' R r=>?_) (wpAny_pure k);exact class_get (s:=⟨h,g,d,t+1,os⟩) X I c.ob r
end
end EX
namespace EX
open PyProof.Rows L2
section
variable {X:Cx}
def La (K:Frag):List V->Hp->VK->Prop:=λxs H Q=>∃a C dx tb cv cl b,xs=[.ref a,cv]/\(∀u,RelV cv u->u=cl)/\H a=some (bA a C dx tb)/\(∀d,dx=some d->∃fs,H d=some (.xd fs))/\XI K C/\kitOne K (.ref C) cl=some b/\Q (.bl b) H
theorem ab0:c7 X (.builtin "isinstance") (La X.K):=by
 intro pins s σ H xs us Q I r h;obtain⟨a,C,dx,tb,cv,cl,b,rfl,hcv,ea,ed,c,hk,q⟩:=h;cases r with
 |cons r1 r2=>
  cases r2 with
  |cons r2 r3=>
   cases r3;cases r1;cases hcv _ r2;have fin:∀oe od,PySem.W.InstAt s.heap a oe C od->wpAny (model X.prog X.w) X.A (call (.builtin "isinstance") [.ref a,cl]) (EP X pins σ Q) X.xe s:=λoe od IA=>
    kia_one (T8 c) I.dM IA hk (λz=>nomatch z) λtk=>⟨.bl b,H,I.tok tk,rfl,q⟩
   cases dx with
   |none=>
    obtain⟨oe,IA⟩:=aeE I.hok ea;exact fin oe none IA
   |some d=>obtain⟨fs,hf⟩:=ed d rfl;obtain⟨oe,od,mA,IA,_,_⟩:=Ib I.hok ea hf;exact fin oe (some od) IA
end
end EX
namespace L2
section
variable {X:Cx}
theorem gx (h:Nz X.env.scope x=true:=by kernel_rfl):Gl X x:=gl h
theorem lx (h:R7 X.env.scope x=true:=by kernel_rfl):Loc X.env.scope x:=lo h
theorem cI.mo (r:cI k A)(h:j<=k:=by decide):cI j A:=r.mono h
end
section
variable {sc:Scope}
theorem fs (a:sc.kind=.function:=by rfl)(b:sc.isCoroutine=false:=by rfl)(c:sc.isGenerator=false:=by rfl)(d:N.Nodup:=by decide +kernel)(e:N.take P.length=P:=by rfl)(f:∀x∈P,sc.names.lookup x=some .local\/sc.names.lookup x=some .cell:=by decide +kernel)(g:∀y∈sc.names,y.2≠ .free:=by decide +kernel):bI N P sc:=⟨a,b,c,d,e,f,g⟩
theorem bI.vt (_:bI N P sc)(h:N.all (λx=>dG sc x && plain x)=true:=by decide +kernel):N.all (λx=>dG sc x && plain x)=true:=h
end
end L2
namespace VM
open PyProof.Rows L2
section
variable {X:Cx}
noncomputable def Lb:List V->Hp->VK->Prop:=λxs H Q=>∃z n,xs=[.str z]/\intText? z=some n/\z.length<=640/\Q (.int n) H
theorem Ww:c7 X (.type "int") Lb:=by intro pins s σ H xs us Q I r h;obtain⟨z,n,rfl,hz,hl,q⟩:=h;obtain⟨u,rfl,t,rfl⟩:=vals1 r;exact PySem.W.KIN.call_text hz hl ⟨.int n,H,I.tok _,⟨_,rfl⟩,q⟩
end
noncomputable def Wx:List PyData->Option PyData
 |[.str x]=>if x.length<=640 then(intText? x).map .int else none
 |_=>none
theorem aeF {K:Frag}:CallD K Wx Lb:=by
 intro H vs ds d Q e hx q;unfold Wx at e;split at e
 .split at e
  .rename_i x hz;obtain⟨n,hn,rfl⟩:=map_eq_some_iff.mp e;obtain⟨v,rfl,rfl,_⟩:=aK.one hx;exact⟨_,n,rfl,hn,hz,q _ λ_=>rfl⟩
  .cases e
 .cases e
open PySem.Builtin PySem.Builtin.Str
section
variable {X:Cx}
theorem Bo:∀(l:List (Str×Tok)),Vals ((l.map (·.1)).map V.str) (strValues l)
 |[]=>.nil
 |(x,t)::r=>.cons ⟨t,rfl⟩ (Bo r)
theorem Ik:∀{ys:List Str}{us:List Value},Vals (ys.map V.str) us->∃l:List (Str×Tok),l.map (·.1)=ys/\us=strValues l
 |[],_,.nil=>⟨[],rfl,rfl⟩
 |y::ys,_,.cons ⟨t,e⟩ r=>by obtain⟨l,h1,h2⟩:=Ik r;exact⟨(y,t)::l,by rw[map_cons,h1],by rw[e,h2];rfl⟩
def Ft:V->List V->Hp->VK->Prop:=λx xs H Q=>∃z y,x=.str z/\xs=[.str y]/\(y.length==0)=false/\z.length<=sizeLine/\(Txt.split z y).length<=sizeLine/\
 (partsBetween z (occurrences z y 0 z.length (z.length+1)) y.length).length<=sizeLine/\∀l,H l=none->Q (.ref l) (upd H l (.lst ((Txt.split z y).map V.str)))
theorem T9:Aq X "str.split" Ft:=by
 intro pins s σ H x xs v us Q I rx rv h;obtain⟨z,y,rfl,rfl,hy,hz,hn,hz2,q⟩:=h;obtain⟨t,rfl⟩:=rx;obtain⟨_,rfl,u,rfl⟩:=vals1 rv;have fin:∀(l:List (Str×Tok)) (k:Nat),l.map (·.1)=Txt.split z y->EP X pins σ Q (.ref s.heap.objs.size) {s with toks:=k,heap:=s.heap.push {cls:=.type "list",data:=.seq (strValues l).toArray}}:=λl k e=>
  ⟨.ref s.heap.objs.size,_,I.laid (t':=k) (λb o h=>get?_push_of_some _ h) (le_refl _)
   (show dB X.prog X.w _ _ _ (.lst ((Txt.split z y).map V.str)) from⟨by rw[length_map];exact hn,strValues l,0,by rw[<-e];exact Bo l,get?_push_size _ rfl⟩),rfl,q _ (I.hok.fresh (le_refl _))⟩
 cases h1:(decide (z.length<y.length)||decide (strKind z<strKind y))
 .cases hf:(occurrences z y 0 z.length (z.length+1)).isEmpty
  .refine call_meets F.slot_str_split (typeIs_str _ _ _) F.entry_str_split (F.args_str_split_2 _ _) (meets_str_split_sep z y t u h1 hy hf hz hz2) ?_;show wants _ _ _ {s with toks:=_,heap:=s.heap.push {cls:=.type "list",data:=.seq (strsFrom s.toks (partsBetween z (occurrences z y 0 z.length (z.length+1)) y.length)).toArray}};rw[strsFrom_eq];exact fin (numbered s.toks _) _ ((numbered_texts _ _).trans ((if_neg (ne_true_of_eq_false h1)).trans (if_neg (ne_true_of_eq_false hf))).symm)
  .exact call_meets F.slot_str_split (typeIs_str _ _ _) F.entry_str_split (F.args_str_split_2 _ _) (meets_str_split_not_found z y t u h1 hy hf)
    (fin [(z,t)] s.toks ((if_neg (ne_true_of_eq_false h1)).trans (if_pos hf)).symm)
 .exact call_meets F.slot_str_split (typeIs_str _ _ _) F.entry_str_split (F.args_str_split_2 _ _) (meets_str_split_cannot_occur z y t u h1)
   (fin [(z,t)] s.toks (if_pos h1).symm)
noncomputable def Il:V->List V->Hp->VK->Prop:=λx xs H Q=>∃z y,x=.str z/\xs=[.str y]/\Q (.bl (Txt.startswith z y)) H
theorem Pu:Aq X "str.startswith" Il:=by intro pins s σ H x xs v us Q I rx rv h;obtain⟨z,y,rfl,rfl,q⟩:=h;obtain⟨t,rfl⟩:=rx;obtain⟨_,rfl,u,rfl⟩:=vals1 rv;exact SC.startswith ⟨.bl _,H,I,rfl,q⟩
def rJoin (K:Frag):V->List V->Hp->VK->Prop:=λx xs H Q=>∃z p ys,x=.str z/\xs=[.ref p]/\aU K H p (ys.map V.str)/\JoinOk z ys=true/\Q (.str (Txt.join z ys)) H
theorem YD:Aq X "str.join" (rJoin X.K):=by intro pins s σ H x xs v us Q I rx rv h;obtain⟨z,p,ys,rfl,rfl,hp,hj,q⟩:=h;obtain⟨t,rfl⟩:=rx;obtain⟨_,rfl,e⟩:=vals1 rv;cases e;obtain⟨its,r',pl,_⟩:=I.list hp;obtain⟨l,h1,rfl⟩:=Ik r';exact SC.join (l:=l) pl.isList h1 hj λt' k=>⟨.str _,H,I.tok k,⟨t',rfl⟩,q⟩
end
end VM
namespace VM
open PyProof.Rows L2
section
variable {X:Cx}{o e:Expr}{to:TE}{t:TA}{apos cpos:Pos}
theorem Im (ho:PE X o to)(ha:PA X [e] t)(hbase:attributeBase o "split" X.env (eval o X.env)=eval o X.env:=by rfl)
  (hfew:((backTo cpos (starEach [e] X.env)).all (λx=>!x.1) && (backToKw cpos (keywordEach [] X.env)).all (λx=>x.1.isSome) && decide ([e].length+([]:List Keyword).length+(if([]:List Keyword).isEmpty then 0 else 1)<30))=true:=by rfl)
  (hline:(apos.endLine==cpos.line)=true:=by rfl)(hs:starEach [e] X.env=(false,eval e X.env)::starEach [] X.env:=by rfl)(hplain:(backTo cpos (starEach [] X.env)).any (·.1)=false:=by rfl):
  PE X (.Call (.Attribute o "split" apos) [e] [] cpos) (pB X.K "str" Ft to t):=Cj PySem.F.plainAttrs_str PySem.F.slot_str_split PySem.F.type_str_split T9 ho ha hbase hfew hline hs hplain
theorem Ua (ho:PE X o to)(ha:PA X [e] t)(hbase:attributeBase o "startswith" X.env (eval o X.env)=eval o X.env:=by rfl)
  (hfew:((backTo cpos (starEach [e] X.env)).all (λx=>!x.1) && (backToKw cpos (keywordEach [] X.env)).all (λx=>x.1.isSome) && decide ([e].length+([]:List Keyword).length+(if([]:List Keyword).isEmpty then 0 else 1)<30))=true:=by rfl)
  (hline:(apos.endLine==cpos.line)=true:=by rfl)(hs:starEach [e] X.env=(false,eval e X.env)::starEach [] X.env:=by rfl)(hplain:(backTo cpos (starEach [] X.env)).any (·.1)=false:=by rfl):
  PE X (.Call (.Attribute o "startswith" apos) [e] [] cpos) (pB X.K "str" Il to t):=Cj PySem.F.plainAttrs_str PySem.F.slot_str_startswith PySem.F.type_str_startswith Pu ho ha hbase hfew hline hs hplain
theorem Fv (ho:PE X o to)(ha:PA X [e] t)(hbase:attributeBase o "join" X.env (eval o X.env)=eval o X.env:=by rfl)
  (hfew:((backTo cpos (starEach [e] X.env)).all (λx=>!x.1) && (backToKw cpos (keywordEach [] X.env)).all (λx=>x.1.isSome) && decide ([e].length+([]:List Keyword).length+(if([]:List Keyword).isEmpty then 0 else 1)<30))=true:=by rfl)
  (hline:(apos.endLine==cpos.line)=true:=by rfl)(hs:starEach [e] X.env=(false,eval e X.env)::starEach [] X.env:=by rfl)(hplain:(backTo cpos (starEach [] X.env)).any (·.1)=false:=by rfl):
  PE X (.Call (.Attribute o "join" apos) [e] [] cpos) (pB X.K "str" (rJoin X.K) to t):=Cj PySem.F.plainAttrs_str PySem.F.slot_str_join PySem.F.type_str_join YD ho ha hbase hfew hline hs hplain
end
noncomputable def vP:PyData->PyData->Option PyData
 |.str z,.str y=>some (.bool (Txt.startswith z y))
 |_,_=>none
noncomputable def lY (z y:Str):Bool:=!(y.length==0) && decide (z.length<=1000) && decide ((Txt.split z y).length<=1000) && decide ((Builtin.Str.partsBetween z (Builtin.Str.occurrences z y 0 z.length (z.length+1)) y.length).length<=1000) && (Txt.split z y).all λw=>(PyData.str w).canLay0
def Px:PyData->PyData->Option PyData
 |.str z,.str y=>if lY z y=true then some (.list ((Txt.split z y).map .str)) else none
 |_,_=>none
def Wy:PyData->PyData->Option PyData
 |.str z,.list ds=>match strsOf ds with
  |some ys=>if(JoinOk z ys && (PyData.str (Txt.join z ys)).canLay0)=true then some (.str (Txt.join z ys)) else none
  |none=>none
 |_,_=>none
theorem uW {K:Frag}{H:Hp}:∀{ys:List Str},(∀w∈ys,(PyData.str w).canLay0=true)->aK K H (ys.map PyData.str) (ys.map V.str)
 |[],_=>rfl
 |y::ys,h=>⟨_,_,rfl,⟨rfl,h y mem_cons_self⟩,uW λw hw=>h w (mem_cons_of_mem _ hw)⟩
theorem uX {K:Frag}{H:Hp}:∀{ys:List Str}{vs:List V},aK K H (ys.map PyData.str) vs->vs=ys.map V.str
 |[],_,h=>h
 |_::_,_,⟨_,_,e,⟨e1,_⟩,r⟩=>by rw[e,e1,uX r];rfl
section
variable {X:Cx}{o e:Expr}{f g:VE}{apos cpos:Pos}
theorem YF (ho:PE X o (tV X.K RW f))(he:PE X e (tV X.K RW g))(hbase:attributeBase o "startswith" X.env (eval o X.env)=eval o X.env:=by rfl)
  (hfew:((backTo cpos (starEach [e] X.env)).all (λx=>!x.1) && (backToKw cpos (keywordEach [] X.env)).all (λx=>x.1.isSome) && decide ([e].length+([]:List Keyword).length+(if([]:List Keyword).isEmpty then 0 else 1)<30))=true:=by rfl)
  (hline:(apos.endLine==cpos.line)=true:=by rfl)(hs:starEach [e] X.env=(false,eval e X.env)::starEach [] X.env:=by rfl)(hplain:(backTo cpos (starEach [] X.env)).any (·.1)=false:=by rfl):
  PE X (.Call (.Attribute o "startswith" apos) [e] [] cpos) (tV X.K RS (v2 vP f g)):=(Ua ho (au he aM hs) hbase hfew hline hs hplain).imp λ_ H Q q=>by
 obtain⟨aG,G,H₀,S,F,I,d,e,q⟩:=q;obtain⟨x,y,ex,ey,e⟩:=kI e;unfold vP at e;split at e
 .cases e;refine⟨aG,G,H₀,S,F,I,_,ex,λv F1 H1 g1 hx=>?_⟩;obtain⟨rfl,_⟩:=hx;refine⟨rfl,aG,G,H₀,S,F1,I.grow g1,_,ey,λu F2 H2 g2 hy=>?_⟩;obtain⟨rfl,_⟩:=hy;exact⟨_,_,rfl,rfl,q _ F2 H2 (g1.trans g2) rfl⟩
 .cases e
theorem ab1 (ho:PE X o (tV X.K RW f))(he:PE X e (tV X.K RW g))(hbase:attributeBase o "split" X.env (eval o X.env)=eval o X.env:=by rfl)
  (hfew:((backTo cpos (starEach [e] X.env)).all (λx=>!x.1) && (backToKw cpos (keywordEach [] X.env)).all (λx=>x.1.isSome) && decide ([e].length+([]:List Keyword).length+(if([]:List Keyword).isEmpty then 0 else 1)<30))=true:=by rfl)
  (hline:(apos.endLine==cpos.line)=true:=by rfl)(hs:starEach [e] X.env=(false,eval e X.env)::starEach [] X.env:=by rfl)(hplain:(backTo cpos (starEach [] X.env)).any (·.1)=false:=by rfl):
  PE X (.Call (.Attribute o "split" apos) [e] [] cpos) (tV X.K RN (v2 Px f g)):=(Im ho (au he aM hs) hbase hfew hline hs hplain).imp λ_ H Q q=>by
 obtain⟨aG,G,H₀,S,F,I,d,e,q⟩:=q;obtain⟨x,y,ex,ey,e⟩:=kI e;unfold Px at e;split at e
 .split at e
  .rename_i z y hok;cases e;unfold lY at hok;simp only[and_eq_true,decide_eq_true_eq,not_eq_true'] at hok;have k:=show(1000:Nat)<=sizeLine by decide
   refine⟨aG,G,H₀,S,F,I,_,ex,λv F1 H1 g1 hx=>?_⟩;obtain⟨rfl,_⟩:=hx;refine⟨rfl,aG,G,H₀,S,F1,I.grow g1,_,ey,λu F2 H2 g2 hy=>?_⟩;obtain⟨rfl,_⟩:=hy;have g:=g1.trans g2;exact⟨_,_,rfl,rfl,hok.1.1.1.1,le_trans hok.1.1.1.2 k,le_trans hok.1.1.2 k,le_trans hok.1.2 k,λl hl=>q _ _ _ (g.trans (bh.alloc g.fh hl)) ⟨_,l,_,rfl,rfl,g.hh.free hl,g.fh.free hl,aA,uW (all_eq_true.mp hok.2)⟩⟩
  .cases e
 .cases e
theorem aeG (ho:PE X o (tV X.K RW f))(he:PE X e (tV X.K RM g))(hbase:attributeBase o "join" X.env (eval o X.env)=eval o X.env:=by rfl)
  (hfew:((backTo cpos (starEach [e] X.env)).all (λx=>!x.1) && (backToKw cpos (keywordEach [] X.env)).all (λx=>x.1.isSome) && decide ([e].length+([]:List Keyword).length+(if([]:List Keyword).isEmpty then 0 else 1)<30))=true:=by rfl)
  (hline:(apos.endLine==cpos.line)=true:=by rfl)(hs:starEach [e] X.env=(false,eval e X.env)::starEach [] X.env:=by rfl)(hplain:(backTo cpos (starEach [] X.env)).any (·.1)=false:=by rfl):
  PE X (.Call (.Attribute o "join" apos) [e] [] cpos) (tV X.K RS (v2 Wy f g)):=(Fv ho (au he aM hs) hbase hfew hline hs hplain).imp λ_ H Q q=>by
 obtain⟨aG,G,H₀,S,F,I,d,e,q⟩:=q;obtain⟨x,y,ex,ey,e⟩:=kI e;unfold Wy at e;split at e
 .split at e
  .split at e
   .rename_i ds _ ys hy2 hok;cases e;cases qg hy2;rw[and_eq_true] at hok;refine⟨aG,G,H₀,S,F,I,_,ex,λv F1 H1 g1 hx=>?_⟩;obtain⟨rfl,_⟩:=hx;refine⟨rfl,aG,G,H₀,S,F1,I.grow g1,_,ey,λu F2 H2 g2 hy=>?_⟩;obtain⟨p,xs,rfl,h1,h2⟩:=RM.list g2.fh hy;cases uX h2;exact⟨_,_,_,rfl,rfl,h1,hok.1,q _ F2 H2 (g1.trans g2) ⟨rfl,hok.2⟩⟩
   .cases e
  .cases e
 .cases e
end
end VM
namespace EX
open PyProof.Rows L2
theorem Py (a b c:Str):a++b++c=a++(b++c):=by show Str.mk ((a.cps++b.cps)++c.cps)=Str.mk (a.cps++(b.cps++c.cps));rw[Array.append_assoc]
theorem YG (a:Str):a++Str.empty=a:=by show Str.mk (a.cps++ #[])=a;rw[append_empty]
theorem YH (a:Str):Str.empty++a=a:=by show Str.mk (#[]++a.cps)=a;rw[Array.empty_append]
noncomputable abbrev uY:=L2.St->Hp->(Str->Hp->Prop)->Prop
def Wz (X:Cx)(e:Expr)(t:uY):Prop:=∀(pins:List (Addr×Obj)) (s:Shared) (σ:L2.St) (H:Hp) (Q:Str->Hp->Prop),Inv X pins σ H s->t σ H Q->
 wpAny (model X.prog X.w) X.A (eval e X.env) (λu s'=>∃y tk H',u=.str y tk/\y.length<=20000/\Inv X pins σ H' s'/\Q y H') X.xe s
def WD (X:Cx)(es:List Expr)(t:uY):Prop:=∀(out:Str) (n:Nat) (pins:List (Addr×Obj)) (s:Shared) (σ:L2.St) (H:Hp) (Q:VK),out.length<=20000*n->n+es.length<=100->Inv X pins σ H s->t σ H (λz H1=>Q (.str (out++z)) H1)->
 wpAny (model X.prog X.w) X.A (joinParts out (evalEach es X.env)) (EP X pins σ Q) X.xe s
section
variable {X:Cx}{e:Expr}{es:List Expr}{te:TE}{t:uY}
noncomputable def tFL (a:Str):uY:=λ_ H Q=>Q a H
theorem yH {a:Str}{j:Nat}{pos:Pos}(h:a.length<=20000:=by decide):Wz X (.Constant (.str a) j pos) (tFL a):=λ_ _ _ H _ I q=>Calls.Constant_str ⟨_,_,H,rfl,h,I.tok _,q⟩
noncomputable def tFI (te:TE):uY:=λσ H Q=>te σ H λx H1=>∃n:Int,x=.int n/\n.natAbs.log2<1920/\Q (toString n) H1
theorem Pz {pos:Pos}(he:PE X e te):Wz X (.FormattedValue e (-1) none pos) (tFI te):=by intro pins s σ H Q I h;refine FormattedValue_plain (aO (he pins s σ H _ I h) λu s1 hz=>?_);obtain⟨_,H1,I1,rx,n,rfl,hn,q⟩:=hz;obtain⟨t,rfl⟩:=rx;exact formatField_int_small hn ⟨_,_,H1,rfl,Ih hn,I1.tok _,q⟩
noncomputable def tFS (te:TE):uY:=λσ H Q=>te σ H λx H1=>∃y:Str,x=.str y/\y.length<=20000/\Q y H1
theorem Fw {pos:Pos}(he:PE X e te):Wz X (.FormattedValue e (-1) none pos) (tFS te):=by intro pins s σ H Q I h;refine FormattedValue_plain (aO (he pins s σ H _ I h) λu s1 hz=>?_);obtain⟨_,H1,I1,rx,y,rfl,hn,q⟩:=hz;obtain⟨t,rfl⟩:=rx;exact formatField_str (λt' tk=>⟨y,t',H1,rfl,hn,I1.tok _,q⟩) (by rw[sizeLine_eq];omega)
noncomputable def tF0:uY:=λ_ H Q=>Q Str.empty H
noncomputable def tFC (t u:uY):uY:=λσ H Q=>t σ H λy H1=>u σ H1 λz H2=>Q (y++z) H2
theorem YJ:WD X [] tF0:=by intro out n pins s σ H Q hn hz I q;have q:Q (.str (out++Str.empty)) H:=q;rw[YG] at q;refine joinParts_nil ⟨.str out,H,I.tok _,⟨_,rfl⟩,q⟩ ?_;rw[sizeLine_eq];simp only[length_nil] at hz;omega
theorem iT {u:uY}(h1:Wz X e t)(h2:WD X es u)(he:evalEach (e::es) X.env=eval e X.env::evalEach es X.env:=by rfl):WD X (e::es) (tFC t u):=by
 intro out n pins s σ H Q hn hz I q;rw[he];refine joinParts_cons (aO (h1 pins s σ H _ I q) λv s1 hy=>?_);obtain⟨y,tk,H1,rfl,hy,I1,q1⟩:=hy;have hl:(out++y).length<=20000*(n+1):=by rw[strLen_append];omega
 simp only[length_cons] at hz;simp only[<-Py] at q1;refine⟨?_,h2 (out++y) (n+1) pins s1 σ H1 Q hl (by omega) I1 q1⟩;rw[sizeLine_eq];omega
noncomputable def tFV (t:uY):TE:=λσ H Q=>t σ H λz H1=>Q (.str z) H1
theorem Ub {e2:Expr}{pos:Pos}(h:WD X (e::e2::es) t)(hz:es.length<=90:=by decide):PE X (.JoinedStr (e::e2::es) pos) (tFV t):=by intro pins s σ H Q I q;refine JoinedStr_many ?_;unfold tFV at q;refine h Str.empty 0 pins s σ H Q (by decide) (by simp only[length_cons];omega) I ?_;simp only[YH];exact q
theorem CV:c7 X (.type "str") (λxs H Q=>∃n:Int,xs=[.int n]∧-4611686018427387904<n/\n<4611686018427387904/\Q (.str (toString n)) H):=by intro pins s σ H xs us Q I r h;obtain⟨n,rfl,h1,h2,q⟩:=h;obtain⟨u,rfl,t,rfl⟩:=vals1 r;exact str_of_int_fit (N:=4611686018427387904) (by split<;>omega) (by decide) λ_=>⟨.str _,H,I.tok _,⟨_,rfl⟩,q⟩
end
end EX
namespace IS
noncomputable abbrev bl:Str:=⟨#[32]⟩
theorem oX (w v:Str)(r:List Str):(Str.join bl (w::v::r)).cps.toList=w.cps.toList++32::(Str.join bl (v::r)).cps.toList:=by show((w.cps++ #[32])++(Str.join bl (v::r)).cps).toList=_;simp
theorem PB:∀{a b r s:List Nat},32∉a->32∉b->a++32::r=b++32::s->a=b/\r=s
 |[],[],_,_,_,_,h=>⟨rfl,by simpa using h⟩
 |[],c::b,_,_,_,hb,h=>by
  rw[nil_append,cons_append] at h;injection h with h1 _;exact absurd (by rw[h1];exact mem_cons_self) hb
 |c::a,[],_,_,ha,_,h=>by
  rw[nil_append,cons_append] at h;injection h with h1 _;exact absurd (by rw[<-h1];exact mem_cons_self) ha
 |c::a,d::b,_,_,ha,hb,h=>by rw[cons_append,cons_append] at h;injection h with h1 h2;obtain⟨e1,e2⟩:=PB (λz=>ha (mem_cons_of_mem _ z)) (λz=>hb (mem_cons_of_mem _ z)) h2;exact⟨by rw[h1,e1],e2⟩
theorem Fx:∀{us ws:List Str},us≠[]->ws≠[]->(∀w∈us,32∉w.cps.toList)->(∀w∈ws,32∉w.cps.toList)->(Str.join bl us).cps.toList=(Str.join bl ws).cps.toList->us=ws
 |[],_,h,_,_,_,_=>absurd rfl h
 |_,[],_,h,_,_,_=>absurd rfl h
 |[u],[w],_,_,_,_,h=>by have e:u=w:=Str.ext' (toList_inj.mp h);rw[e]
 |[u],w::v::r,_,_,hu,_,h=>by have h:u.cps.toList=_:=h.trans (oX w v r);exact absurd (by rw[h];simp) (hu u mem_cons_self)
 |u::v::r,[w],_,_,_,hw,h=>by have h:w.cps.toList=_:=h.symm.trans (oX u v r);exact absurd (by rw[h];simp) (hw w mem_cons_self)
 |u::v::r,w::x::s,_,_,hu,hw,h=>by obtain⟨e1,e2⟩:=PB (hu u mem_cons_self) (hw w mem_cons_self) ((oX u v r).symm.trans (h.trans (oX w x s)));have e:u=w:=Str.ext' (toList_inj.mp e1);rw[e,Fx (by simp) (by simp) (λy hy=>hu y (mem_cons_of_mem _ hy)) (λy hy=>hw y (mem_cons_of_mem _ hy)) e2]
theorem G4 {ws:List Str}(hne:ws≠[])(h:∀w∈ws,32∉w.cps.toList):Txt.split (Str.join bl ws) bl=ws:=by
 have h1:=StrLaws.join_split (Str.join bl ws) bl;have h2:=StrLaws.split_free (Str.join bl ws) 32;have h3:Txt.split (Str.join bl ws) bl≠[]:=λe=>by have:=PyProof.Rows.split_pos (Str.join bl ws) bl;rw[e] at this;simp at this
 exact Fx h3 hne h2 h (by rw[h1])
end IS
namespace VM
open PyProof.Rows L2
noncomputable def nM:PyData->PyData->Option PyData
 |.str z,.int n=>if decide (0<=n) && decide (n<=1000) && decide (z.length<=100) && (PyData.str (Txt.mul z n)).canLay0=true then some (.str (Txt.mul z n)) else none
 |_,_=>none
theorem Fy {z:Str}{n:Int}(h0:0<=n)(h1:n<=1000)(hz:z.length<=100):MulOk z n:=by
 refine⟨by simp;omega,λh2 _=>?_,λ_ _=>?_⟩
 .have:(100:Int)<=(2^63 - 1)/n:=Int.le_ediv_of_mul_le (by omega) (by omega)
  omega
 .have h:z.length*n.toNat<=100*1000:=Nat.mul_le_mul hz (by omega);generalize z.length*n.toNat=k at h;show decide (k>sizeLine)=false;have:=show 100*1000<=sizeLine by decide
  exact decide_eq_false (by omega)
noncomputable def Ld:V->V->Hp->VK->Prop:=λx y H Q=>∃z n,x=.str z/\y=.int n/\MulOk z n/\Q (.str (Txt.mul z n)) H
theorem sU {X:Cx}:cg X (binaryOp .Mult) Ld:=by intro pins s σ H x y v u Q I rx ry h;obtain⟨z,n,rfl,rfl,hz,q⟩:=h;obtain⟨t,rfl⟩:=rx;obtain⟨t',rfl⟩:=ry;exact SB.mul hz λt' k=>⟨.str _,H,I.tok _,⟨_,rfl⟩,q⟩
theorem aeH {K:Frag}:fK K nM Ld:=by
 intro H x y dx dy d Q e hx hy q;unfold nM at e;split at e
 .split at e
  .rename_i z n hz;cases e;simp only[and_eq_true,decide_eq_true_eq] at hz;obtain⟨rfl,_⟩:=hx;have hy:y=.int n:=hy;subst hy;exact⟨_,_,rfl,rfl,Fy hz.1.1.1 hz.1.1.2 hz.1.2,q _ λ_=>⟨rfl,hz.2⟩⟩
  .cases e
 .cases e
noncomputable def pN:List PyData->Option PyData
 |[.int n]=>if decide (-4611686018427387904<n) && decide (n<4611686018427387904) && (PyData.str (toString n)).canLay0=true then some (.str (toString n)) else none
 |_=>none
theorem aeI {K:Frag}:CallD K pN (λxs H Q=>∃n:Int,xs=[.int n]∧-4611686018427387904<n/\n<4611686018427387904/\Q (.str (toString n)) H):=by
 intro H vs ds d Q e hx q;unfold pN at e;split at e
 .split at e
  .rename_i n hz;cases e;simp only[and_eq_true,decide_eq_true_eq] at hz;obtain⟨v,rfl,hv⟩:=aK.one hx;have hv:v=.int n:=hv;subst hv;exact⟨n,rfl,hz.1.1,hz.1.2,q _ λ_=>⟨rfl,hz.2⟩⟩
  .cases e
 .cases e
end VM
namespace L2
open PyProof.Rows
def KDict (P:Program)(w:World)(K:Frag)(a:Addr)(kvs:List (Key×V)):Prop:=∃o vs,K.lookup a=some o/\KV kvs vs/\o.IsDictOf (cA P w) vs/\(a==sysModules)=false
section
variable {X:Cx}{pins:List (Addr×Obj)}{σ:St}{H:Hp}{s:Shared}{a:Addr}{kvs:List (Key×V)}{k:Key}{u:Value}{A:Around}{E:Value->Shared->Prop}{Q:Value->Shared->Prop}
theorem KDict.at (g:KDict X.prog X.w X.K a kvs)(I:Inv X pins σ H s):∃vs,KV kvs vs/\s.heap.DictOf (cA X.prog X.w) a vs/\(a==sysModules)=false:=by obtain⟨o,vs,e,r,d,n⟩:=g;exact⟨vs,r,Heap.dictOf_iff.mpr ⟨o,I.dM a o e,d⟩,n⟩
theorem k_in (I:Inv X pins σ H s)(g:KDict X.prog X.w X.K a kvs)(ry:RelV (kV k) u)(h:∀s',Inv X pins σ H s'->Q (.bool (dI kvs k).isSome) s'):wpAny (model X.prog X.w) A (compareOp .In u (.ref a)) Q E s:=by obtain⟨vs,rel,dd,hd⟩:=g.at I;refine wpAny_in_of (lC ry) hd dd.mapOf ?_;rw[<-(rel.val k).iK];exact h _ (I.tok _)
theorem YK (I:Inv X pins σ H s)(g:KDict X.prog X.w X.K a kvs)(ry:RelV (kV k) u)(h:∀s',Inv X pins σ H s'->Q (.bool (!(dI kvs k).isSome)) s'):wpAny (model X.prog X.w) A (compareOp .NotIn u (.ref a)) Q E s:=by obtain⟨vs,rel,dd,hd⟩:=g.at I;refine wpAny_notIn_of (lC ry) hd dd.mapOf ?_;rw[<-(rel.val k).iK];exact h _ (I.tok _)
theorem PJ {v:V}(I:Inv X pins σ H s)(g:KDict X.prog X.w X.K a kvs)(l:dI kvs k=some v)(ry:RelV (kV k) u)(h:∀w' s',Inv X pins σ H s'->RelV v w'->Q w' s'):wpAny (model X.prog X.w) A (getItem (.ref a) u) Q E s:=by obtain⟨vs,rel,dd,hd⟩:=g.at I;obtain⟨w',hw,lg⟩:=fO.some_of (v:=v) (o:=valueAt vs k) (by rw[<-l];exact rel.val k);exact wpAny_getItem_of (lC ry) dd.mapOf hw (h w' _ (I.tok _) lg)
end
def ab3 (P:Program)(w:World)(K:Frag)(ty td:TE):TE:=λσ H Q=>ty σ H λy H1=>td σ H1 λx H2=>∃a kvs k,x=.ref a/\y=kV k/\KDict P w K a kvs/\Q (.bl (dI kvs k).isSome) H2
def Io (P:Program)(w:World)(K:Frag)(ty td:TE):TE:=λσ H Q=>ty σ H λy H1=>td σ H1 λx H2=>∃a kvs k,x=.ref a/\y=kV k/\KDict P w K a kvs/\Q (.bl (!(dI kvs k).isSome)) H2
def Le (P:Program)(w:World)(K:Frag)(td ty:TE):TE:=λσ H Q=>td σ H λx H1=>ty σ H1 λy H2=>∃a kvs k v,x=.ref a/\y=kV k/\KDict P w K a kvs/\dI kvs k=some v/\Q v H2
section
variable {X:Cx}{o i:Expr}{pos:Pos}{td ty:TE}
theorem ab4 (hi:PE X i ty)(ho:PE X o td):PC X .In i o (ab3 X.prog X.w X.K ty td):=by intro pins s σ H Q I h;refine aO (hi pins s σ H _ I h) λiv s1 ⟨y,H1,I1,ry,q1⟩=>aO (ho pins s1 σ H1 _ I1 q1) λu s2 hz=>?_;obtain⟨_,H2,I2,rx,a,kvs,k,rfl,rfl,g,q2⟩:=hz;obtain rfl:u=Value.ref a:=rx;exact k_in I2 g ry λs3 I3=>⟨.bl _,H2,I3,rfl,q2⟩
theorem PK (hi:PE X i ty)(ho:PE X o td):PC X .NotIn i o (Io X.prog X.w X.K ty td):=by intro pins s σ H Q I h;refine aO (hi pins s σ H _ I h) λiv s1 ⟨y,H1,I1,ry,q1⟩=>aO (ho pins s1 σ H1 _ I1 q1) λu s2 hz=>?_;obtain⟨_,H2,I2,rx,a,kvs,k,rfl,rfl,g,q2⟩:=hz;obtain rfl:u=Value.ref a:=rx;exact YK I2 g ry λs3 I3=>⟨.bl _,H2,I3,rfl,q2⟩
theorem Ip (ho:PE X o td)(hi:PE X i ty)(hs:Tz i):PE X (.Subscript o i pos) (Le X.prog X.w X.K td ty):=by intro pins s σ H Q I h;refine HJ PySem.F.slot_dict_getitem.lookup hs (aO (ho pins s σ H _ I h) λu s1 ⟨x,H1,I1,rx,q1⟩=>aO (hi pins s1 σ H1 _ I1 q1) λiv s2 hz=>?_);obtain⟨y,H2,I2,ry,a,kvs,k,v,rfl,rfl,g,l,q2⟩:=hz;obtain rfl:u=Value.ref a:=rx;obtain⟨vs,rel,dd,hd⟩:=g.at I2;exact⟨dd.typeIs,PJ I2 g l ry λw' s3 I3 lg=>⟨v,H2,I3,lg,q2⟩⟩
end
section
variable {prog:Program}{w:World}{A:Around}{E:Value->Shared->Prop}{s:Shared}{it t z TI TO i1 i2 l1 l2:Addr}{i k1 k2:Nat}{items xs ys:Array Value}{x y a b:Value}
theorem Lf {Q:Value->Shared->Prop}(hit:s.heap.IsTupleIter it t i)(ht:s.heap.IsTuple t items)(hx:items[i]? =some x)(hQ:∀h',h'.IsTupleIter it t (i+1)->Heap.SameBut it s.heap h'->Q x {s with heap:=h'}):
  wpAny (model prog w) A (Builtin.SmallTypes.nextOf (.ref it)) Q E s:=by
 obtain⟨o,ho,hc,hd⟩:=id hit;obtain⟨ol,hol,_,nl,hdl⟩:=ht;unfold Builtin.SmallTypes.nextOf;refine wpAny_bind (wpAny_callSpecial?_slot (name:=Str.ofString "__next__") hit.typeIs F.slot_tuple_iterator_next (wpAny_call_entry F.slot_tuple_iterator_next hit.typeIs F.entry_tuple_iterator_next ?_ (F.args_tuple_iterator_next_1 _)));show wpAny _ _ (field (.ref it) 0>>=_) _ _ s;refine wpAny_bind (wpAny_field ho hd (x:=.ref t) rfl ?_);show wpAny _ _ (if(Value.ref t==Value.none)=true then _ else _) _ _ s;rw[if_neg (show ¬((Value.ref t==Value.none)=true) from Bool.false_ne_true)];show wpAny _ _ (field (.ref it) 1>>=_) _ _ s;refine wpAny_bind (wpAny_field ho hd (x:=.int i 0) rfl ?_);show wpAny _ _ (seqItems? (.ref t)>>=_) _ _ s;refine wpAny_bind (wpAny_seqItems hol hdl ?_);simp only[Int.toNat_natCast,hx];refine wpAny_bind (wpAny_setField ho hd (by simp) (wpAny_pure ⟨x,rfl,wpAny_pure (hQ _ ?_ (Heap.SameBut.update ..))⟩));exact⟨_,get?_update_self _ ho (Obj.isFreed_of_fields (Obj.data_mapFields hd _)),(Obj.cls_mapFields ..).trans hc,by rw[Obj.data_mapFields hd];simp[rawInt]⟩
theorem zU {Q:Value->Shared->Prop}(hh:A.handled=none)(hit:s.heap.IsTupleIter it t i)(ht:s.heap.IsTuple t items)(hx:items[i]? =none)
  (hE:∀h' e,Heap.ExtBut it s.heap h'->(∃o,h'.get? e=some o/\o.cls=.type "StopIteration")->E (.ref e) {s with heap:=h'}):
  wpAny (model prog w) A (Builtin.SmallTypes.nextOf (.ref it)) Q E s:=by
 obtain⟨o,ho,hc,hd⟩:=id hit;obtain⟨ol,hol,_,nl,hdl⟩:=ht;unfold Builtin.SmallTypes.nextOf;refine wpAny_bind (wpAny_callSpecial?_slot (name:=Str.ofString "__next__") hit.typeIs F.slot_tuple_iterator_next (wpAny_call_entry F.slot_tuple_iterator_next hit.typeIs F.entry_tuple_iterator_next ?_ (F.args_tuple_iterator_next_1 _)));show wpAny _ _ (field (.ref it) 0>>=_) _ _ s;refine wpAny_bind (wpAny_field ho hd (x:=.ref t) rfl ?_);show wpAny _ _ (if(Value.ref t==Value.none)=true then _ else _) _ _ s;rw[if_neg (show ¬((Value.ref t==Value.none)=true) from Bool.false_ne_true)];show wpAny _ _ (field (.ref it) 1>>=_) _ _ s;refine wpAny_bind (wpAny_field ho hd (x:=.int i 0) rfl ?_);show wpAny _ _ (seqItems? (.ref t)>>=_) _ _ s;refine wpAny_bind (wpAny_seqItems hol hdl ?_);simp only[Int.toNat_natCast,hx];refine wpAny_bind (wpAny_rule (wpAny_bind (wpAny_setField ho hd (by simp) ?_)));show wpAny _ _ (newExc (.type "StopIteration") []>>=_) _ _ _;refine wpAny_bind ?_;simp only[newExc,newTuple];refine wpAny_bind (wpAny_newObj_type ?_ (by size_fits));refine wpAny_bind (m:=firstArgMember _ _) (wpAny_of_eq (a:=Value.none) (by first|rfl|(simp only[firstArgMember];rfl)) ?_);refine wpAny_newObj_type ?_ (by size_fits);simp only[raiseNew];refine wpAny_bind (wpAny_handled ?_);first|rw[show A.in1.handled=none from hh]|rw[hh]
 refine wpAny_bind (wpAny_pure (wpAny_throw ?_));exact hE _ _ (((Heap.SameBut.update ..).extBut.push _).push _) ⟨_,get?_push_size _ rfl,rfl⟩
theorem Uc {Q:Value->Shared->Prop}(D:ZipApart z TI TO i1 i2 l1 l2)(hz:IsZip s.heap z TI TO .none)(hTI:IsPair s.heap TI (.ref i1) (.ref i2))(hTO:IsPair s.heap TO a b)
  (h1:s.heap.IsTupleIter i1 l1 k1)(h2:s.heap.IsListIter i2 l2 k2)(hl1:s.heap.IsTuple l1 xs)(hl2:s.heap.IsList l2 ys)(hx:xs[k1]? =some x)(hy:ys[k2]? =some y)
  (hQ:∀h',IsZip h' z TI TO (rawInt s.heap.objs.size)->IsPair h' TO x y->h'.IsTupleIter i1 l1 (k1+1)->h'.IsListIter i2 l2 (k2+1)->IsPair h' s.heap.objs.size x y->
   (∀c o,c≠z->c≠TO->c≠i1->c≠i2->s.heap.get? c=some o->h'.get? c=some o)->Q (.ref s.heap.objs.size) {s with heap:=h'}):
  wpAny (model prog w) A (Builtin.«zip.__next__» ⟨[.ref z],[]⟩) (λfin s'=>∃v,fin=.done (.ret v)/\Q v s') E s:=by
 show wpAny _ _ (field (.ref z) 2>>=_) _ _ _;refine wpAny_bind (wpAny_field hz rfl (x:=.bool false) rfl ?_);show wpAny _ _ (field (.ref z) 3>>=_) _ _ _;refine wpAny_bind (wpAny_field hz rfl (x:=.ref TI) rfl ?_);refine wpAny_bind (wpAny_seqItems hTI rfl ?_);show wpAny _ _ (Builtin.SmallTypes.ownedTupleIsFree (.ref z)>>=_) _ _ _;refine wpAny_bind ?_;unfold Builtin.SmallTypes.ownedTupleIsFree;refine wpAny_bind (wpAny_field hz rfl (x:=.none) rfl (wpAny_pure ?_));simp only[if_true];refine wpAny_bind (wpAny_rule ?_);refine wpAny_bind (wpAny_field hz rfl (x:=.ref TO) rfl ?_);refine wpAny_bind (wpAny_setField_rec hz (by simp) λh₁ hz₁ hs₁=>?_);replace hz₁:IsZip h₁ z TI TO .ellipsis:=hz₁;refine wpAny_bind ?_;simp only[List.zipIdx_cons,List.zipIdx_nil,forIn_cons,List.forIn_nil];refine wpAny_bind (wpAny_bind (wpAny_onRaise ?_));show wpAny _ _ (Builtin.SmallTypes.nextOf (.ref i1)>>=_) _ _ _;refine wpAny_bind (Lf (h1.extBut hs₁.extBut D.i1z) (hl1.extBut hs₁.extBut D.l1z) hx λh₂ h1₂ hs₂=>wpAny_pure ?_);have hTO₂:IsPair h₂ TO a b:=hs₂.extBut _ _ D.TOi1 (hs₁.extBut _ _ D.TOz hTO);refine wpAny_bind (wpAny_seqItems hTO₂ rfl ?_);refine wpAny_bind (wpAny_updateSeq_pair hTO₂ λh₃ hTO₃ hs₃=>?_);replace hTO₃:IsPair h₃ TO x b:=hTO₃;refine wpAny_bind (wpAny_letGo (wpAny_pure ?_));refine wpAny_bind (wpAny_bind (wpAny_onRaise ?_));show wpAny _ _ (Builtin.SmallTypes.nextOf (.ref i2)>>=_) _ _ _;refine wpAny_bind (wpAny_nextOf_list_item (((h2.extBut hs₁.extBut D.i2z).extBut hs₂.extBut D.i12.symm).extBut hs₃.extBut D.TOi2.symm)
  (((hl2.extBut hs₁.extBut D.l2z).extBut hs₂.extBut D.l2i1).extBut hs₃.extBut D.l2TO) hy λh₄ h2₄ hs₄=>wpAny_pure ?_)
 have hTO₄:IsPair h₄ TO x b:=hs₄.extBut _ _ D.TOi2 hTO₃;refine wpAny_bind (wpAny_seqItems hTO₄ rfl ?_);refine wpAny_bind (wpAny_updateSeq_pair hTO₄ λh₅ hTO₅ hs₅=>?_);replace hTO₅:IsPair h₅ TO x y:=hTO₅;refine wpAny_bind (wpAny_letGo (wpAny_pure (wpAny_pure ?_)));refine wpAny_bind (wpAny_seqItems hTO₅ rfl ?_);refine wpAny_bind (wpAny_newTuple ?_);have hsz:h₅.objs.size=s.heap.objs.size:=by rw[hs₅.1,hs₄.1,hs₃.1,hs₂.1,hs₁.1]
 have hz₅:IsZip h₅ z TI TO .ellipsis:=hs₅.extBut _ _ D.TOz.symm (hs₄.extBut _ _ D.i2z.symm (hs₃.extBut _ _ D.TOz.symm (hs₂.extBut _ _ D.i1z.symm hz₁)));have hk₅:∀c o,c≠z->c≠TO->c≠i1->c≠i2->s.heap.get? c=some o->h₅.get? c=some o:=λc o c1 c2 c3 c4 e=>
  hs₅.extBut _ _ c2 (hs₄.extBut _ _ c4 (hs₃.extBut _ _ c2 (hs₂.extBut _ _ c3 (hs₁.extBut _ _ c1 e))))
 have h1₅:h₅.IsTupleIter i1 l1 (k1+1):=((h1₂.extBut hs₃.extBut D.TOi1.symm).extBut hs₄.extBut D.i12).extBut hs₅.extBut D.TOi1.symm;have h2₅:h₅.IsListIter i2 l2 (k2+1):=h2₄.extBut hs₅.extBut D.TOi2.symm;have hzlt:z<h₅.objs.size:=lt_size hz₅;show wpAny _ _ (Builtin.SmallTypes.ownedTupleHandOut (.ref z) (.ref h₅.objs.size)>>=_) _ _ _;refine wpAny_bind ?_;unfold Builtin.SmallTypes.ownedTupleHandOut;have hz₆:IsZip (h₅.push {cls:=.type "tuple",data:=.seq #[x,y]}) z TI TO .ellipsis:=get?_push_of_some _ hz₅;refine wpAny_bind (wpAny_setField_rec hz₆ (by simp) λh₇ hz₇ hs₇=>?_);replace hz₇:IsZip h₇ z TI TO (rawInt h₅.objs.size):=hz₇;refine wpAny_setField_rec hz₇ (by simp) λh₈ hz₈ hs₈=>?_;replace hz₈:IsZip h₈ z TI TO (rawInt h₅.objs.size):=hz₈;have up:∀c o,c≠z->h₅.get? c=some o->h₈.get? c=some o:=λc o c1 e=>hs₈.extBut _ _ c1 (hs₇.extBut _ _ c1 (get?_push_of_some _ e));have hT₈:IsPair h₈ h₅.objs.size x y:=hs₈.extBut _ _ (ne_of_gt hzlt) (hs₇.extBut _ _ (ne_of_gt hzlt) (get?_push_size _ rfl));rw[hsz] at hz₈ hT₈;refine wpAny_pure ⟨_,rfl,?_⟩;show Q (.ref h₅.objs.size) _;rw[hsz];exact hQ h₈ hz₈ (up _ _ D.TOz hTO₅) (h1₅.at λo e=>up _ o D.i1z e) (h2₅.at λo e=>up _ o D.i2z e) hT₈ λc o c1 c2 c3 c4 e=>up c o c1 (hk₅ c o c1 c2 c3 c4 e)
theorem YL {Q:Fin->Shared->Prop}(hh:A.handled=none)(D:ZipApart z TI TO i1 i2 l1 l2)(hz:IsZip s.heap z TI TO .none)(hTI:IsPair s.heap TI (.ref i1) (.ref i2))
  (h1:s.heap.IsTupleIter i1 l1 k1)(hl1:s.heap.IsTuple l1 xs)(hx:xs[k1]? =none)
  (hE:∀h' e,(∀c o,c≠z->c≠i1->s.heap.get? c=some o->h'.get? c=some o)->(∃o,h'.get? e=some o/\o.cls=.type "StopIteration")->E (.ref e) {s with heap:=h'}):
  wpAny (model prog w) A (Builtin.«zip.__next__» ⟨[.ref z],[]⟩) Q E s:=by
 show wpAny _ _ (field (.ref z) 2>>=_) _ _ _;refine wpAny_bind (wpAny_field hz rfl (x:=.bool false) rfl ?_);show wpAny _ _ (field (.ref z) 3>>=_) _ _ _;refine wpAny_bind (wpAny_field hz rfl (x:=.ref TI) rfl ?_);refine wpAny_bind (wpAny_seqItems hTI rfl ?_);show wpAny _ _ (Builtin.SmallTypes.ownedTupleIsFree (.ref z)>>=_) _ _ _;refine wpAny_bind ?_;unfold Builtin.SmallTypes.ownedTupleIsFree;refine wpAny_bind (wpAny_field hz rfl (x:=.none) rfl (wpAny_pure ?_));simp only[if_true];refine wpAny_bind (wpAny_rule ?_);refine wpAny_bind (wpAny_field hz rfl (x:=.ref TO) rfl ?_);refine wpAny_bind (wpAny_setField_rec hz (by simp) λh₁ hz₁ hs₁=>?_);replace hz₁:IsZip h₁ z TI TO .ellipsis:=hz₁;refine wpAny_bind ?_;simp only[List.zipIdx_cons,List.zipIdx_nil,forIn_cons,List.forIn_nil];refine wpAny_bind (wpAny_bind (wpAny_onRaise ?_));show wpAny _ _ (Builtin.SmallTypes.nextOf (.ref i1)>>=_) _ _ _;refine wpAny_bind (zU hh (h1.extBut hs₁.extBut D.i1z) (hl1.extBut hs₁.extBut D.l1z) hx λh₂ e hs₂ he=>?_);obtain⟨oe,hoe,hce⟩:=he;have hz₂:IsZip h₂ z TI TO .ellipsis:=hs₂ _ _ D.i1z.symm hz₁;have hez:e≠z:=λx=>by subst x;rw[hz₂] at hoe;cases hoe;simp at hce
 exact wpAny_setField_rec hz₂ (by simp) λh₃ _ hs₃=>hE h₃ e (λc o c1 c3 x=>hs₃.extBut _ _ c1 (hs₂ _ _ c3 (hs₁.extBut _ _ c1 x))) ⟨oe,hs₃.extBut _ _ hez hoe,hce⟩
theorem Ud {Q:Option Value->Shared->Prop}(D:ZipApart z TI TO i1 i2 l1 l2)(hz:IsZip s.heap z TI TO .none)(hTI:IsPair s.heap TI (.ref i1) (.ref i2))(hTO:IsPair s.heap TO a b)
  (h1:s.heap.IsTupleIter i1 l1 k1)(h2:s.heap.IsListIter i2 l2 k2)(hl1:s.heap.IsTuple l1 xs)(hl2:s.heap.IsList l2 ys)(hx:xs[k1]? =some x)(hy:ys[k2]? =some y)
  (hQ:∀h',IsZip h' z TI TO (rawInt s.heap.objs.size)->IsPair h' TO x y->h'.IsTupleIter i1 l1 (k1+1)->h'.IsListIter i2 l2 (k2+1)->IsPair h' s.heap.objs.size x y->
   (∀c o,c≠z->c≠TO->c≠i1->c≠i2->s.heap.get? c=some o->h'.get? c=some o)->Q (some (.ref s.heap.objs.size)) {s with heap:=h'}):wpAny (model prog w) A (pyNext (.ref z)) Q E s:=by
 have hT:s.TypeIs (.ref z) "zip":=⟨_,hz,rfl⟩;unfold pyNext;exact wpAny_bind (wpAny_attempt (wpAny_callSpecial?_slot (name:=Str.ofString "__next__") hT F.slot_zip_next (wpAny_call_entry F.slot_zip_next hT F.entry_zip_next
  (Uc D hz hTI hTO h1 h2 hl1 hl2 hx hy λh' a1 a2 a3 a4 a5 a6=>wpAny_pure (hQ h' a1 a2 a3 a4 a5 a6)) (F.args_zip_next_1 _))))
theorem Fz {Q:Option Value->Shared->Prop}(hh:A.handled=none)(D:ZipApart z TI TO i1 i2 l1 l2)(hz:IsZip s.heap z TI TO .none)(hTI:IsPair s.heap TI (.ref i1) (.ref i2))
  (h1:s.heap.IsTupleIter i1 l1 k1)(hl1:s.heap.IsTuple l1 xs)(hx:xs[k1]? =none)
  (hQ:∀h',(∀c o,c≠z->c≠i1->s.heap.get? c=some o->h'.get? c=some o)->Q none {s with heap:=h'}):wpAny (model prog w) A (pyNext (.ref z)) Q E s:=by
 have hT:s.TypeIs (.ref z) "zip":=⟨_,hz,rfl⟩;unfold pyNext;refine wpAny_bind (wpAny_attempt (wpAny_callSpecial?_slot (name:=Str.ofString "__next__") hT F.slot_zip_next (wpAny_call_entry F.slot_zip_next hT F.entry_zip_next (YL hh D hz hTI h1 hl1 hx λh' e hk he=>?_) (F.args_zip_next_1 _))));obtain⟨o,ho,hc⟩:=he;exact wpAny_bind (wpAny_isInstance (T:="StopIteration") (b:=true) ⟨o,ho,hc⟩ isSubtype_stop (wpAny_pure (hQ _ hk)))
end
noncomputable abbrev Lg (h:Heap)(l1:Addr):Heap:=h.push {cls:=.type "tuple_iterator",data:=.fields #[.ref l1,.int 0 0]}
noncomputable abbrev Lh (h:Heap)(l1 l2:Addr):Heap:=(Lg h l1).push {cls:=.type "list_iterator",data:=.fields #[.ref l2,.int 0 0]}
noncomputable abbrev Li (h:Heap)(l1 l2:Addr):Heap:=(Lh h l1 l2).push {cls:=.type "tuple",data:=.seq #[.ref h.objs.size,.ref (Lg h l1).objs.size]}
noncomputable abbrev Lj (h:Heap)(l1 l2:Addr):Heap:=(Li h l1 l2).push {cls:=.type "tuple",data:=.seq #[.none,.none]}
noncomputable abbrev zV (h:Heap)(l1 l2:Addr):Heap:=(Lj h l1 l2).push {cls:=.type "zip",data:=.fields #[.none,.bool false,.bool false,.ref (Lh h l1 l2).objs.size,.ref (Li h l1 l2).objs.size]}
theorem Ue (l1 l2:Addr)(xs ys:Array Value):
  Meets (Builtin.«zip.__new__» ⟨[.type "zip",.ref l1,.ref l2],[]⟩) (λ_ R s=>s.heap.IsTuple l1 xs/\s.heap.IsList l2 ys/\
   R (.ok (.ret (.ref (Lj s.heap l1 l2).objs.size))) {s with heap:=zV s.heap l1 l2}):=
 .of_wp λprog w A R s h=>by
  obtain⟨hp,g,d,tk,os⟩:=s;obtain⟨hl1,hl2,h⟩:=h;have hsub:=sub_zip;have hL1:Heap.IsTuple (Shared.heap ⟨hp,g,d,tk,os⟩) l1 xs:=hl1;have hL2:Heap.IsList (Shared.heap ⟨hp.push {cls:=.type "tuple_iterator",data:=.fields #[.ref l1,.int 0 0]},g,d,tk,os⟩) l2 ys:=Heap.IsList.push hl2 _
  wp_walk using wpAny_pyIter_tuple hL1,wpAny_pyIter_list hL2
  exact⟨_,rfl,h⟩
section
variable {prog:Program}{w:World}{A:Around}{E:Value->Shared->Prop}{s:Shared}
theorem YM {l1 l2:Addr}{xs ys:Array Value}{Q:Value->Shared->Prop}(hl1:s.heap.IsTuple l1 xs)(hl2:s.heap.IsList l2 ys)
  (h:∀h',IsZip h' (s.heap.objs.size+4) (s.heap.objs.size+2) (s.heap.objs.size+3) .none->IsPair h' (s.heap.objs.size+2) (.ref s.heap.objs.size) (.ref (s.heap.objs.size+1))->
   IsPair h' (s.heap.objs.size+3) .none .none->h'.IsTupleIter s.heap.objs.size l1 0->h'.IsListIter (s.heap.objs.size+1) l2 0->(∀c o,s.heap.get? c=some o->h'.get? c=some o)->Q (.ref (s.heap.objs.size+4)) {s with heap:=h'}):
  wpAny (model prog w) A (call (.type "zip") [.ref l1,.ref l2]) Q E s:=by
 refine callType_new F.called_zip (by decide) (F.typeCall_zip_2 _ _) (F.newCall_zip_2 _ _) (λobj=>F.args_object_init_3 obj _ _) F.entry_zip_new (Ue l1 l2 xs ys) ⟨hl1,hl2,?_⟩;have z1:(Lg s.heap l1).objs.size=s.heap.objs.size+1:=size_push ..;have z2:(Lh s.heap l1 l2).objs.size=s.heap.objs.size+2:=by rw[size_push,z1]
 have z3:(Li s.heap l1 l2).objs.size=s.heap.objs.size+3:=by rw[size_push,z2]
 have z4:(Lj s.heap l1 l2).objs.size=s.heap.objs.size+4:=by rw[size_push,z3]
 have up:∀{h:Heap}{c:Addr} {o o':Obj},h.get? c=some o->(h.push o').get? c=some o:=λe=>get?_push_of_some _ e;have g5:(zV s.heap l1 l2).get? (Lj s.heap l1 l2).objs.size=some _:=get?_push_size _ rfl;have g4:(zV s.heap l1 l2).get? (Li s.heap l1 l2).objs.size=some _:=up (get?_push_size _ rfl);have g3:(zV s.heap l1 l2).get? (Lh s.heap l1 l2).objs.size=some _:=up (up (get?_push_size _ rfl));have g2:(zV s.heap l1 l2).get? (Lg s.heap l1).objs.size=some _:=up (up (up (get?_push_size _ rfl)));have g1:(zV s.heap l1 l2).get? s.heap.objs.size=some _:=up (up (up (up (get?_push_size _ rfl))));show _/\_;rw[z2,z3,z4] at g5;rw[z1,z2] at g3;rw[z3] at g4;rw[z1] at g2;rw[z4];exact⟨⟨_,g5,rfl⟩,h _ g5 g3 g4 ⟨_,g1,rfl,rfl⟩ ⟨_,g2,rfl,rfl⟩ λc o x=>up (up (up (up (up x))))⟩
end
def FJ (K:Frag)(a b:Addr):It:=
  ⟨λi H=>∃xs x ys y,cZ K H a xs/\xs[i]? =some x/\aU K H b ys/\ys[i]? =some y,
   λi H v H'=>∃p x y,H p=none/\v=.ref p/\(∀xs,cZ K H a xs->xs[i]? =some x)/\(∀ys,aU K H b ys->ys[i]? =some y)/\H'=upd H p (.tup [x,y]),
   λi H=>∃xs ys,cZ K H a xs/\aU K H b ys/\xs.length<=i⟩
def ahg (z TI TO i1 i2 a b:Addr)(i:Nat)(h:Heap):Prop:=
 IsZip h z TI TO .none/\IsPair h TI (.ref i1) (.ref i2)/\(∃c d,IsPair h TO c d)/\h.IsTupleIter i1 a i/\h.IsListIter i2 b i
theorem YQ {P:Program}{w:World}{K:Frag}{elts:List Expr}{k:Nat}{pos:Pos}(a b z TI TO i1 i2:Addr)(D:ZipApart z TI TO i1 i2 a b):
  Turn P w K (.Tuple elts k pos) (FJ K a b) [z,TI,TO,i1,i2] z (ahg z TI TO i1 i2 a b) where
 mem:=by simp
 obj:=λi h st c hc=>by
  obtain⟨hz,hTI,⟨c1,d1,hTO⟩,⟨o1,e1,_,g1⟩,⟨o2,e2,_,g2⟩⟩:=st;simp only[mem_cons,not_mem_nil,or_false] at hc;rcases hc with rfl|rfl|rfl|rfl|rfl
  .exact⟨_,hz,λv q=>by have q':Data.fields _=Data.cell v:=q;cases q'⟩
  .exact⟨_,hTI,λv q=>by have q':Data.seq _ _=Data.cell v:=q;cases q'⟩
  .exact⟨_,hTO,λv q=>by have q':Data.seq _ _=Data.cell v:=q;cases q'⟩
  .exact⟨o1,e1,λv q=>by rw[g1] at q;cases q⟩
  .exact⟨o2,e2,λv q=>by rw[g2] at q;cases q⟩
 keep:=λi h h' st k=>by obtain⟨hz,hTI,⟨c1,d1,hTO⟩,h1,h2⟩:=st;exact⟨k z (by simp) _ hz,k TI (by simp) _ hTI,⟨c1,d1,k TO (by simp) _ hTO⟩,h1.at λo e=>k i1 (by simp) o e,h2.at λo e=>k i2 (by simp) o e⟩
 item:=by
  intro X hP hw hK hc i pins s σ H E I hf st hg;subst hP hw hK;obtain⟨xs,x,ys,y,hq,hx,hq2,hy⟩:=hg;obtain⟨its,rv,p,hz⟩:=I.tuple hq;obtain⟨u,hu,ru⟩:=rv.get hx;obtain⟨its2,DQ,p2,hz2⟩:=I.list hq2;obtain⟨u2,hu2,ru2⟩:=DQ.get hy;obtain⟨sz,uw,⟨c1,d1,DR⟩,s1,s2⟩:=st;refine Ud D sz uw DR s1 s2 (show s.heap.IsTuple a its.toArray from p) p2.isList (x:=u) (y:=u2) (by simpa using hu) (by simpa using hu2) λh' a1 a2 a3 a4 a5 hk=>?_;refine⟨_,rfl,wpAny_letOwnedTupleGo_zip a1 λh2 he2 hs2=>?_⟩;have lt:∀{c:Addr}{o:Obj},s.heap.get? c=some o->c≠s.heap.objs.size:=λe=>ne_of_lt (lt_size e);have hT2:IsPair h2 s.heap.objs.size u u2:=(hs2.2 _ (lt sz).symm).trans a5;have RZ:=hk _ _ D.TIz D.TITO D.TIi1 D.TIi2 uw;refine⟨.ref s.heap.objs.size,upd H s.heap.objs.size (.tup [x,y]),?_,rfl,⟨_,x,y,I.hok.fresh (le_refl _),rfl,λzs hz=>by rw[I.Ae hz hq];exact hx,λzs hz=>by rw[I.nY hz hq2];exact hy,rfl⟩,
   ⟨he2,(hs2.2 _ D.TIz).trans RZ,⟨u,u2,(hs2.2 _ D.TOz).trans a2⟩,a3.at λo q=>(hs2.2 i1 D.i1z).trans q,a4.at λo q=>(hs2.2 i2 D.i2z).trans q⟩,λc hc=>?_⟩
  .refine I.vH (fp:=[z,TI,TO,i1,i2]) (t':=s.toks) (λc o hc q=>?_) hf (le_refl _) ⟨by show 2<=sizeLine;decide,[u,u2],.cons ru (.cons ru2 .nil),⟨_,hT2,rfl,_,rfl⟩⟩;simp only[mem_cons,not_mem_nil,or_false,not_or] at hc;obtain⟨n1,n2,n3,n4,n5⟩:=hc;exact(hs2.2 c n1).trans (hk c o n1 n3 n4 n5 q)
  .have hne:c≠s.heap.objs.size:=by
    simp only[mem_cons,not_mem_nil,or_false] at hc;obtain⟨_,e1,_⟩:=s1;obtain⟨_,e2,_⟩:=s2;rcases hc with rfl|rfl|rfl|rfl|rfl
    .exact lt sz
    .exact lt uw
    .exact lt DR
    .exact lt e1
    .exact lt e2
   rw[aB hne];exact(hf c hc).1
 done:=by intro X hP hw hK hc i pins s σ H E I hf st hg;subst hP hw hK;obtain⟨xs,ys,hq,hq2,hx⟩:=hg;obtain⟨its,rv,p,hz⟩:=I.tuple hq;have hl:=rv.length;obtain⟨sz,uw,_,s1,_⟩:=st;refine Fz (I.ok.hd hc) D sz uw s1 (show s.heap.IsTuple a its.toArray from p) (by simp;omega) λh' hk=>⟨rfl,I.turns (t':=s.toks) (fp:=[z,TI,TO,i1,i2]) (λc o hc q=>?_) hf⟩;simp only[mem_cons,not_mem_nil,or_false,not_or] at hc;obtain⟨n1,n2,n3,n4,n5⟩:=hc;exact hk c o n1 n4 q
 self:=λ_ _ _ _ _ st h=>wpAny_pyIter_zip st.1 h
section
variable {X:Cx}{elts:List Expr}{k:Nat}{l l2:Expr}{p pos:Pos}{ta:TA}
def iZt (K:Frag)(ta:TA):TI:=λσ H R=>ta σ H λvs H1=>∃a b,vs=[.ref a,.ref b]/\(∃xs,cZ K H1 a xs)/\(∃ys,aU K H1 b ys)/\R (FJ K a b) H1
theorem aeJ {tpos:Pos}(hg:Gl X "zip")(hm:X.mg "zip"=none)(ha:PA X [l,l2] ta)(hs:starEach [l,l2] X.env=[(false,eval l X.env),(false,eval l2 X.env)]:=by rfl)(hs2:starEach [l2] X.env=[(false,eval l2 X.env)]:=by rfl):
  PI X (.Tuple elts k tpos) (.Call (.Name "zip" p) [l,l2] [] pos) (iZt X.K ta):=by
 intro pins s σ H R I h;refine Call_ (mG I hg hm boot_zip (PyProof.Rows.callWith_type1 (aO (ha pos pins s σ H _ I h) λus s1 ⟨vs,H1,I1,r1,q1⟩=>?_) (by rw[hs,hs2]) (by rw[hs2];rfl)));obtain⟨a,b,e,⟨xs,hq⟩,⟨ys,hq2⟩,q⟩:=q1;subst e;cases r1 with
 |cons r rr=>
  cases rr with
  |cons r2 rr=>
   cases rr;cases r;cases r2;obtain⟨its,rv,pl,hz⟩:=I1.tuple hq;obtain⟨its2,DQ,Hq,hz2⟩:=I1.list hq2;have lt1:a<s1.heap.objs.size:=by obtain⟨o,e,_⟩:=pl;exact lt_size e
   have lt2:b<s1.heap.objs.size:=by obtain⟨o,e,_⟩:=Hq.isList;exact lt_size e
   refine YM (show s1.heap.IsTuple a its.toArray from pl) Hq.isList λh' g1 g2 g3 g4 g5 hk=>?_;refine wpAny_pyIter_zip g1 ?_;refine⟨_,[s1.heap.objs.size+4,s1.heap.objs.size+2,s1.heap.objs.size+3,s1.heap.objs.size,s1.heap.objs.size+1],_,_,H1,rfl,I1.kept hk,YQ a b _ _ _ _ _ (zipApart_new lt1 lt2),⟨g1,g2,⟨_,_,g3⟩,g4,g5⟩,λc hc=>?_,q⟩;have hb':s1.heap.objs.size<=c:=by
    simp only[mem_cons,not_mem_nil,or_false] at hc;rcases hc with rfl|rfl|rfl|rfl|rfl
    .exact le_add_right _ _
    .exact le_add_right _ _
    .exact le_add_right _ _
    .exact le_refl _
    .exact le_add_right _ _
   exact I1.pW hb' (I1.hok.fresh hb')
end
end L2
namespace EX
open PyProof.Rows L2
structure qj (X:Cx)(pins:List (Addr×Obj))(H:Hp)(s:Shared)(T:Addr)(w:Value):Prop where
 ent:∃oT ts,s.heap.get? T=some oT/\oT.data=.fields ts/\ts[3]? =some w
 no:H T=none
 ne:T≠X.env.locals
 ab:X.s₀.heap.objs.size<=T
 cl:∀x c,X.env.cells.lookup x=some c->c≠T
 pn:∀p∈X.pn++pins,p.1≠T
section
variable {X:Cx}{pins:List (Addr×Obj)}{σ:L2.St}{H:Hp}{s:Shared}{e C T:Addr}{dx:Option Addr}{w:Value}{M:Model}{A:Around}{E:Value->Shared->Prop}{Q:Unit->Shared->Prop}
theorem qj.to (R:qj X pins H s T w){s':Shared}{H':Hp}(k:∀o,s.heap.get? T=some o->s'.heap.get? T=some o)(n:H' T=none):qj X pins H' s' T w:=by obtain⟨⟨oT,ts,a,b,c⟩,no,ne,ab,cl,pn⟩:=R;exact⟨⟨oT,ts,k _ a,b,c⟩,n,ne,ab,cl,pn⟩
theorem Bp {fr:Option Addr}(I:Inv X pins σ H s)(hE:H e=some (bA e C dx (.ref T)))(R:qj X pins H s T w)(k:∀h',Inv X pins σ H {s with heap:=h'}->qj X pins H {s with heap:=h'} T (fr.elim .none λf=>rawInt f)->Q () {s with heap:=h'}):
  wpAny M A (setFlight (.ref e) fr) Q E s:=by
 obtain⟨oe,vs,t0,g1,g2,g3,g4,g5,g6⟩:=gA I.hok hE;obtain⟨oT,ts,a1,a2,a3⟩:=R.ent;have z3:=(Array.getElem?_eq_some_iff.mp a3).1;unfold setFlight;refine wpAny_bind (wpAny_field g1 g4 g6 ?_);rw[if_pos (show(Value.ref T !=Value.none)=true from by simp)];refine wpAny_setField a1 a2 z3 (k _ (I.turned (t':=s.toks) (λb o hb q=>(get?_update_other _ _ hb.symm).trans q) R.no R.ne (.inr R.ab) R.cl R.pn) ⟨⟨_,_,get?_update_self _ a1 (Obj.isFreed_of_fields (Obj.data_mapFields a2 _)),Obj.data_mapFields a2 _,?_⟩,R.no,R.ne,R.ab,R.cl,R.pn⟩);simp[z3]
theorem Ir {env':Env}(hA:A.frames=some X.stack)(hst:X.stack=X.env::X.outer)(hfr:X.env.frame=some X.env.locals)(hf':env'.frame=X.env.frame)(I:Inv X pins σ H s)(hE:H e=some (bA e C dx (.ref T)))(R:qj X pins H s T w)
  (k:∀T2 h',Inv X pins σ (upd H e (bA e C dx (.ref T2))) {s with heap:=h'}->qj X pins (upd H e (bA e C dx (.ref T2))) {s with heap:=h'} T2 (rawInt X.env.locals)->Q () {s with heap:=h'}):
  wpAny M A (noteFrame (.ref e) env') Q E s:=by
 obtain⟨oe,vs,t0,g1,g2,g3,g4,g5,g6⟩:=gA I.hok hE;obtain⟨oT,ts,a1,a2,a3⟩:=R.ent;have z3:=(Array.getElem?_eq_some_iff.mp a3).1;have z1:=(Array.getElem?_eq_some_iff.mp g6).1;have hTe:T≠e:=λq=>by have:=R.no;rw[q,hE] at this;cases this
 have en:noteFrame (.ref e) env'=noteFrame (.ref e) X.env:=by unfold noteFrame PySem.frameOf;rw[hf']
 rw[en];unfold noteFrame;simp only[hfr];refine wpAny_bind (wpAny_field g1 g4 g6 ?_);rw[if_pos (show(Value.ref T !=Value.none)=true from by simp)];refine wpAny_bind (wpAny_field a1 a2 a3 ?_);by_cases hw:(w==rawInt X.env.locals)=true
 .rw[if_pos hw];have ew:w=rawInt X.env.locals:=eq_of_beq hw;subst ew;have eu:upd H e (bA e C dx (.ref T))=H:=by
   funext b;by_cases hb:b=e
   .subst hb;rw[aA,hE]
   .rw[aB hb]
  refine wpAny_pure (k T s.heap ?_ ?_)
  .rw[eu];exact I
  .rw[eu];exact R
 rw[if_neg hw];refine wpAny_bind (wpAny_setField a1 a2 z3 ?_);have stk:=I.qt;have fs:=I.stack;rw[hst] at hA;generalize eh1:s.heap.update T (Obj.mapFields (·.setIfInBounds 3 Value.none))=h1;have kp:∀b o,b≠T->s.heap.get? b=some o->h1.get? b=some o:=λb o hb q=>by rw[<-eh1];exact(get?_update_other _ _ hb.symm).trans q
 have sz1:h1.objs.size=s.heap.objs.size:=by rw[<-eh1];exact Heap.size_after_update ..
 have fs1:h1.FunFrames X.base (X.env::X.outer):=by rw[hst] at fs;exact fs.of_keeps λb o ho no=>⟨o,kp b o (λz=>by subst z;rw[a1] at ho;cases ho;exact no ts a2) ho,rfl⟩
 have Ws:∀b,H b≠none->b∉(X.env::X.outer).filterMap (·.frame):=λb nb m=>nb (stk b (by rw[hst];exact m));have e1:=kp e oe hTe.symm g1;refine wpAny_bind (wpAny_frameOf_fun (s:={s with heap:=h1}) hA fs1 hfr λqR so=>?_);refine wpAny_bind (wpAny_entryPlaceOf λpl hpl=>?_);unfold EntryCells.newEntry newFields;refine wpAny_bind (wpAny_newObj_type ?_ (hpl.sizeOk5 _ _ _ _ _));generalize hts:([Value.ref T,.ref X.env.locals,.none,rawInt X.env.locals,.none]++(if pl.isEmpty then replicate 6 Value.none else pl)).toArray=us;have u3:us[3]? =some (rawInt X.env.locals):=by rw[<-hts];rfl
 generalize hob:({cls:=.type "traceback",dict:=none,data:=.fields us}:Obj)=ob;have w5:ob.data=.fields us:=by rw[<-hob]
 have T7:ob.isFreed=false:=Obj.isFreed_of_fields w5;have e2:qR.get? e=some oe:=(so.2.1 e (Ws e (by rw[hE];simp))).trans e1;have ne:qR.objs.size≠e:=ne_of_gt (lt_size e2);have e3:(qR.push ob).get? e=some oe:=get?_push_of_some _ e2;refine wpAny_setField e3 g4 z1 ?_;have szg:qR.objs.size=s.heap.objs.size:=so.1.trans sz1;generalize eh2:(qR.push ob).update e (Obj.mapFields (·.setIfInBounds 1 (Value.ref qR.objs.size)))=h2;have WK:∀b o,b≠e->qR.get? b=some o->h2.get? b=some o:=λb o hb q=>by rw[<-eh2,get?_update_other _ _ hb.symm];exact get?_push_of_some _ q
 have eE:h2.get? e=some {oe with data:=.fields (vs.setIfInBounds 1 (Value.ref qR.objs.size))}:=by rw[<-eh2,get?_update_self _ e3 (Obj.isFreed_of_fields (Obj.data_mapFields g4 _)),T6 _ g4]
 have eT:h2.get? qR.objs.size=some ob:=by rw[<-eh2,get?_update_other _ _ ne.symm];exact get?_push_size _ T7
 have hT2:H qR.objs.size=none:=I.hok.fresh (le_of_eq szg.symm);have up:∀b o,H b=some o->b≠e->upd H e (bA e C dx (.ref qR.objs.size)) b=some o:=λb o z n=>by rw[aB n];exact z
 have nm:∀b,b∉([T]:List Addr)->b≠T:=λb z y=>z (by rw[y];exact mem_cons_self);have I3:Inv X pins σ (upd H e (bA e C dx (.ref qR.objs.size))) {s with heap:=h2}:=by
  refine I.call (ch:=[T]) (h':=h2) (g':=s.gens) (d':=s.drawn) (t':=s.toks) ⟨λb o z n hb hc=>?_,λb o z n hb hc=>?_,λb o z n hc=>?_,λb o z hc=>?_,λb xs z=>up b _ z (eO hE z λφ y=>by cases y),λb o u z=>up b _ z (eO hE z λφ y=>by cases y),
   λb ps z=>⟨#[],by rw[append_empty];exact up b _ z (eO hE z λφ y=>by cases y)⟩⟩ (λb o z=>?_) I.bare (λb hb=>?_)
  .have hbe:b≠e:=λy=>by rw[y,hE] at n;cases n
   exact WK b o hbe ((so.2.1 b (by rw[hst] at hb;exact hb)).trans (kp b o (nm b hc) z))
  .have hbe:b≠e:=λy=>by rw[y,hE] at n;cases n
   obtain⟨sl,q⟩:=so.2.2 b o (kp b o (nm b hc) z);exact⟨sl,WK b _ hbe q⟩
  .rw[aB λy=>by rw[y,hE] at n;cases n];exact n
  .by_cases hb:b=e
   .subst hb;exact⟨_,eE⟩
   .obtain⟨sl,q⟩:=so.2.2 b o (kp b o (nm b hc) z);exact⟨_,WK b _ hb q⟩
  .by_cases hb:b=e
   .subst hb;rw[aA] at z;cases z;exact oW eE g2 g3 rfl (by rw[Array.getElem?_setIfInBounds_ne (by decide)];exact g5) (by simp[z1])
   .rw[aB hb] at z;refine(I.hok b o z).stay (λb' u hb' z'=>?_) (λb' z'=>up b' _ z' (eO hE z' λφ y=>by cases y)) (λb' xs z'=>up b' _ z' (eO hE z' λφ y=>by cases y));have tr:∃o',H b'=some o'/\b'≠e:=by
     rcases hb' with rfl|hb'
     .exact⟨o,z,hb⟩
     .exact⟨_,hb',eO hE hb' λφ y=>by cases y⟩
    obtain⟨o',y1,y2⟩:=tr;exact WK b' u y2 ((so.2.1 b' (Ws b' (by rw[y1];simp))).trans (kp b' u (λy=>by have:=R.no;rw[<-y,y1] at this;cases this) z'))
  .obtain rfl:b=T:=by simpa using hb
   exact⟨.inr R.ab,R.ne,R.cl,R.pn⟩
 have WL:s.heap.objs.size<=qR.objs.size:=le_of_eq szg.symm;refine k _ h2 I3 ⟨⟨ob,us,eT,w5,u3⟩,by rw[aB ne];exact hT2,λy=>absurd I.lt (by rw[<-y];exact not_lt.mpr WL),le_trans I.sz WL,λx c hc y=>?_,λp hp y=>absurd (lt_size (I.pin p hp).1) (by rw[y];exact not_lt.mpr WL)⟩;obtain⟨v,o,ho,_⟩:=I.cell x c hc;exact absurd (lt_size ho) (by rw[y];exact not_lt.mpr WL)
end
theorem ab6 {P:Program}{w:World}{K:Frag}{mg:Str->Option Value}{base:Heap}{N:List Str}{qual:Str}{scope:Scope}{f:Addr}{cdv:Value}{A:Around}{outer:List Env}{s s':Shared}{H H':Hp}{E:XK}{pins:List (Addr×Obj)}{σ:L2.St}{e C T:Addr}{dx:Option Addr}{v:Value}
  (I:Inv (cC (bN P w) P w K mg base N qual scope f cdv A outer s H E) pins σ H' s')(hE:H' e=some (bA e C dx (.ref T)))(R:qj (cC (bN P w) P w K mg base N qual scope f cdv A outer s H E) pins H' s' T v)
  (q:∀T2,E (.ref e) dx (upd H' e (bA e C dx (.ref T2)))):(cC (bN P w) P w K mg base N qual scope f cdv A outer s H E).xe (.ref e) s':=by
 show wpAny (model P w) (A.deeper (envOfC qual scope s.heap.objs.size f cdv)) (leaving (envOfC qual scope s.heap.objs.size f cdv) (.ref e)) _ _ s';unfold leaving;refine wpAny_bind (Ir (X:=cC (bN P w) P w K mg base N qual scope f cdv A outer s H E) I.ok.frames rfl rfl rfl I hE R λT2 h2 I2 R2=>?_);refine Bp (fr:=none) I2 aA R2 λh3 I3 R3=>?_;have ub:Un (frs outer) [] H (upd H' e (bA e C dx (.ref T2))) s.heap h3:=I3.base;exact⟨e,C,dx,T2,_,rfl,I3.os,I3.bare,ub,I3.hok,aA,R3.ent,R3.no,R3.ab,(λz=>by have:=R3.no;rw[z,aA] at this;cases this),q T2⟩
section
variable {prog:Program}{w:World}{A:Around}{elt target iter:Expr}{scope:Scope}{pos:Pos}{it acc:Value}{env:Env}{R:Result->Shared->Prop}{s:Shared}
theorem PL (I:Nat->Shared->Prop)
  (turn:∀n s,I n s->wpAny (model prog w) A (pyNext it) (λr s₁=>match r with
   |none=>R (.ok .next) s₁
   |some v=>wpAny (model prog w) A (letOwnedTupleGo target it v) (λ_ s₁'=>wpAny (model prog w) A (assign target env v) (λ_ s₂=>
    wpAny (model prog w) A (eval elt env) (λx s₄=>
      wpAny (model prog w) A (call (.builtin "list.append") [acc,x]) (λ_ s₅=>∃m,m<n/\I m s₅) (λ_ _=>False) s₄) (notedBy (model prog w) A env λe s'=>R (.error e) s') s₂) (λ_ _=>False) s₁') (λ_ _=>False) s₁) (λ_ _=>False) s)
  (n:Nat)(h:I n s):
  codeAny (model prog w) A (.compLoop (.ListComp elt [⟨target,iter,[],0⟩] scope pos) 0 it acc env) R s:=by
 refine codeAny_loop rfl I (λn s hI=>?_) n h;refine wpAny_noted ?_;rw[compTurn_list];refine wpAny_bind (wpAny_standAt (wpAny_bind (wpAny_mono (turn n s hI) (λr s₁ h₁=>?_) λ_ _ h'=>h'.elim)));cases r with
 |none=>exact wpAny_pure h₁
 |some v=>refine wpAny_bind (wpAny_mono h₁ (λ_ s₁' h₁'=>wpAny_bind (wpAny_mono h₁' (λ_ s₂ h₂=>wpAny_bind (wpAny_tests_nil ?_)) λ_ _ h'=>h'.elim)) λ_ _ h'=>h'.elim);exact wpAny_bind (wpAny_bind (wpAny_mono h₂ (λx s₄ h₄=>wpAny_bind (wpAny_mono h₄ (λ_ s₅ h₅=>wpAny_pure (wpAny_pure ⟨rfl,h₅⟩)) λ_ _ h'=>h'.elim)) λ_ _ h'=>h'))
end
def xLC (wi:TI)(cap:List (Option Nat))(g:TG)(te:TX):TX:=λσ H Q E=>wi σ H λJ H1=>∀D,H1 D=none->∃W:Nat->Nat->Hp->Prop,(∃m,W 0 m (upd H1 D (.lst [])))/\∀i m H,W i m H->
  (J.stop i H/\Q (.ref D) H)\/(J.go i H/\∀x H',J.wj i H x H'->g x (bH cap σ) H' λσ2 H2=>eZ (bH cap σ) σ2/\
   te σ2 H2 (λy H4=>∃xs,H4 D=some (.lst xs)/\xs.length<sizeLine/\∃m',m'<m/\W (i+1) m' (upd H4 D (.lst (xs++[y])))) E)
section
variable {X:Cx}{scope:Scope}{N':List Str}{cap:List (Option Nat)}{tg elt iter:Expr}{g:TG}{te:TX}{cl:List (Str×Addr)}{pins:List (Addr×Obj)}{σ:L2.St}{H:Hp}{s:Shared}{J:It}{fp:List Addr}{it:Addr}{tn:Nat->Heap->Prop}{Q:VK}{E1:XK}{E:Value->Shared->Prop}{pos:Pos}
theorem PN {RR:Value->Addr->Result->Shared->Prop}(hst:X.stack=X.env::X.outer)(hfr:X.env.frame=some X.env.locals)(hc:X.calm=true)(hB:kE X.N X.env.scope scope N' cap=true)
  (hg:∀cl C s₀ H₀ ex,PG (cL X scope N' cl C s₀ H₀ ex) tg g)(he:∀cl C s₀ H₀ ex,pL (cL X scope N' cl C s₀ H₀ ex) elt te)
  (c1:∀x c,cl.lookup x=some c->X.env.cells.lookup x=some c)(c2:∀x,(x,NameKind.free)∈scope.names->∃c,cl.lookup x=some c)
  (I:Inv X pins σ H s)(T:Turn X.prog X.w X.K tg J fp it tn)(st:tn 0 s.heap)(hf:∀b∈fp,iQ X pins H b)
  (rd:∀D,H D=none->∃W:Nat->Nat->Hp->Prop,(∃m,W 0 m (upd H D (.lst [])))/\∀i m H,W i m H->
   (J.stop i H/\Q (.ref D) H)\/(J.go i H/\∀x H',J.wj i H x H'->g x (bH cap σ) H' λσ2 H2=>eZ (bH cap σ) σ2/\
   te σ2 H2 (λy H4=>∃xs,H4 D=some (.lst xs)/\xs.length<sizeLine/\∃m',m'<m/\W (i+1) m' (upd H4 D (.lst (xs++[y])))) E1))
  (hRR:∀D C s' m H',Inv X pins σ H' s'->s'.heap.Ns C m->iQ X pins H' C->Q (.ref D) H'->RR (.ref D) C (.ok .next) s')
  (hRE:∀D C s' m H' e Ce dx T0 T2,Inv X pins σ (upd H' e (bA e Ce dx (.ref T2))) s'->s'.heap.Ns C m->iQ X pins (upd H' e (bA e Ce dx (.ref T2))) C->qj X pins (upd H' e (bA e Ce dx (.ref T2))) s' T2 (rawInt X.env.locals)->T2≠C->
   H' e=some (bA e Ce dx (.ref T0))->(∀C' tb,H' e=some (bA e C' dx tb)->C'=Ce)->E1 (.ref e) dx H'->RR (.ref D) C (.error (.ref e)) s'):
  wpAny (model X.prog X.w) X.A (newList []) (λacc s₃=>wpAny (model X.prog X.w) X.A (newFunctionEnv scope X.env.globals cl [] X.env.qual none .none (some X.env)) (λcenv s₄=>
   codeAny (model X.prog X.w) X.A (.compStart (.ListComp elt [⟨tg,iter,[],0⟩] scope pos) 0 (.ref it) acc {cenv with scope:=relabel scope X.env}) (RR acc cenv.locals) s₄) E s₃) E s:=by
 have hB':=hB;simp only[kE,and_eq_true] at hB';obtain⟨⟨⟨⟨b1,b2⟩,b3⟩,b4⟩,b5⟩:=hB';have kind:=eq_of_beq b2;have ux:∀y∈scope.names,y.2≠ .cell:=λy hy=>by have:=all_eq_true.mp b3 y hy;simpa using this
 have hfp:∀b∈fp,b<s.heap.objs.size:=λb hb=>let⟨o,e,_⟩:=T.obj 0 _ st b hb;lt_size e;refine wpAny_newObj_type (wpAny_newFunctionEnv ux (by intro y hy;simp at hy) (λh₁ hns₁ hsb₁=>?_) kind);dsimp only at hns₁ hsb₁ ⊢;have I3:Inv X pins σ (upd H s.heap.objs.size (.lst [])) {s with heap:=s.heap.push {cls:=.type "list",data:=.seq ([]:List Value).toArray},toks:=s.toks}:=I.J5 .nil (zero_le _);generalize hs3:({s with heap:=s.heap.push {cls:=.type "list",data:=.seq ([]:List Value).toArray},toks:=s.toks}:Shared)=s3 at I3;have eh:s3.heap=s.heap.push {cls:=.type "list",data:=.seq ([]:List Value).toArray}:=by rw[<-hs3]
 have Ht:s3.heap.objs.size=s.heap.objs.size+1:=by rw[eh,size_push]
 obtain⟨W,⟨m0,w0⟩,turn⟩:=rd s.heap.objs.size (I.hok.fresh (le_refl _));have Nq:∀b∈fp,iQ X pins (upd H s.heap.objs.size (.lst [])) b:=λb hb=>⟨by rw[aB (ne_of_lt (hfp b hb))];exact(hf b hb).1,(hf b hb).2⟩;have DY:∀b∈fp,b<s3.heap.objs.size:=λb hb=>by rw[Ht];exact Nat.lt_succ_of_lt (hfp b hb)
 have zB:h₁.Ns s3.heap.objs.size (λx=>([]:List (Str×Value)).reverse.lookup x):=by rw[eh];exact hns₁
 have old:∀b o,s3.heap.get? b=some o->h₁.get? b=some o:=λb o e=>by refine hsb₁.extBut b o ?_ (get?_push_of_some _ (by rw[<-eh];exact e));rw[<-eh];exact ne_of_lt (lt_size e)
 have I4:=Np (t':=s.toks) hB I3 c1 c2 Nq DY zB old;have R0:∀b o,s.heap.get? b=some o->h₁.get? b=some o:=λb o e=>old b o (by rw[eh];exact get?_push_of_some _ e);have Nr:=T.keep _ _ _ st λb _ o e=>R0 b o e;have eC:(s.heap.push {cls:=.type "list",data:=.seq ([]:List Value).toArray}).objs.size=s3.heap.objs.size:=by rw[eh]
 have stat:∀{H':Hp},(∀b∈fp,H' b=none)->∀b∈fp,iQ (cL X scope N' cl s3.heap.objs.size s3 (upd H s.heap.objs.size (.lst [])) fp) [] H' b:=λhn b hb=>
  ⟨hn b hb,ne_of_lt (DY b hb),λz=>by
   rcases mem_cons.mp (I3.tX b z) with q|q
   .exact(hf b hb).2.1 q
   .exact(hf b hb).2.2.1 q,.inl hb,λx c e=>(hf b hb).2.2.2.2.1 x c (c1 x c e),λp hp=>absurd (show p∈([]:List (Addr×Obj)) from hp) (by simp)⟩
 have back:∀{pl:List (Addr×Obj)}{σ':L2.St} {H':Hp} {s4:Shared},Inv (cL X scope N' cl s3.heap.objs.size s3 (upd H s.heap.objs.size (.lst [])) fp) pl σ' H' s4->Inv X pins σ H' s4/\∃m',s4.heap.Ns s3.heap.objs.size m'/\iQ X pins H' s3.heap.objs.size:=λ{pl σ' H' s4} oG=>by have u:=(Un.laid (λb o e=>by show s3.heap.get? b=some o;rw[eh];exact get?_push_of_some _ e) (le_refl _) (I.hok.fresh (le_refl _))).trans oG.base;have IX:=I.call' (oG.os.trans (by show s3.os=s.os;rw[<-hs3])) u oG.hok oG.bare λb hb=>⟨(hf b hb).2.2.2.1,(hf b hb).2.1,(hf b hb).2.2.2.2.1,(hf b hb).2.2.2.2.2⟩;obtain⟨m',hm',_⟩:=oG.loc;exact⟨IX,m',hm',I.pW (by rw[Ht];exact le_succ _) oG.free⟩
 have loop:∀s₃:Shared,s₃={s with heap:=h₁,toks:=s.toks+([]:List (Str×Value)).length}->
   codeAny (model X.prog X.w) X.A (.compLoop (.ListComp elt [⟨tg,iter,[],0⟩] scope pos) 0 (.ref it) (.ref s.heap.objs.size) (compEnvC scope cl s3.heap.objs.size X.env)) (RR (.ref s.heap.objs.size) s3.heap.objs.size) s₃:=by
  rintro s₃ rfl;refine PL (λn s'=>∃i σ' H',Inv (cL X scope N' cl s3.heap.objs.size s3 (upd H s.heap.objs.size (.lst [])) fp) [] σ' H' s'/\(∀(j:Nat) v,(bH cap σ)[j]? =some (some v)->σ'[j]? =some (some v))/\tn i s'.heap/\(∀b∈fp,H' b=none)/\W i n H') ?_ m0 ?_
  .rintro n s' ⟨i,σ',H',I',wk,st',fr',w'⟩;have yd:=I'.weak (by rw[I'.len];show(bH cap σ).length=N'.length;unfold bH;rw[length_map];exact oF b1) wk;rcases turn i n H' w' with⟨stop,q⟩|⟨go,step⟩
   .refine aO (T.done (cL X scope N' cl s3.heap.objs.size s3 (upd H s.heap.objs.size (.lst [])) fp) rfl rfl rfl hc i [] s' (bH cap σ) H' _ yd (stat fr') st' stop) λr s4 ⟨hr,oG⟩=>?_;subst hr;obtain⟨IX,m',hm',fC⟩:=back oG;exact hRR _ _ s4 m' H' IX hm' fC q
   .refine aO (T.item (cL X scope N' cl s3.heap.objs.size s3 (upd H s.heap.objs.size (.lst [])) fp) rfl rfl rfl hc i [] s' (bH cap σ) H' _ yd (stat fr') st' go) λr s4 ⟨v,hr,h4⟩=>?_;subst hr;refine aO h4 λ_ s5 ⟨x,H5,I5,r5,y5,qy,MJ⟩=>?_;have MK:=I5.pinned (stat MJ) (T.obj _ _ qy);refine aO (hg _ _ _ _ _ _ s5 (bH cap σ) H5 x v _ MK r5 (step x H5 y5)) λ_ s6 ⟨ug,H6,I6,kc6,q6⟩=>?_;have J6:∀{s8:Shared}{Nt:L2.St} {H8:Hp},Inv (cL X scope N' cl s3.heap.objs.size s3 (upd H s.heap.objs.size (.lst [])) fp) ([]++mK fp s5.heap) Nt H8 s8->tn (i+1) s8.heap/\∀b∈fp,H8 b=none:=λ{s8 Nt H8} I8=>
     ⟨T.keep _ _ _ qy λb hb o e=>(I8.pin (b,o) (mem_append_right _ (mem_append_right _ (f9 hb e)))).1,λb hb=>by
      obtain⟨o,e,d⟩:=T.obj _ _ qy b hb;exact(I8.pin (b,o) (mem_append_right _ (mem_append_right _ (f9 hb e)))).2.1⟩
    refine wpAny_mono (he _ _ _ _ _ _ s6 ug H6 _ _ I6 q6) (λy s8 ⟨vy,H8,I8,ry,xs,hD,hz,m',lt,w8⟩=>?_) λev s8 came=>?_
    .refine aO (ur _ s8 ug H8 (.ref s.heap.objs.size) [vy] _ _ (λ_ H'=>H'=upd H8 s.heap.objs.size (.lst (xs++[vy]))) I8 rfl (.cons ry .nil) ⟨_,xs,vy,rfl,rfl,hD,hz,rfl⟩) λ_ s9 ⟨_,H9,I9,_,e9⟩=>?_;subst e9;obtain⟨k1,k2⟩:=J6 I9;exact⟨m',lt,i+1,ug,_,I9.lK,kc6,k1,k2,w8⟩
    .obtain⟨H7,s7,I7,e,Ce,dx,T0,H8,rfl,os,bare,un,hok,hE,ent,hT,hz,hne,qE⟩:=came;have I8:=I7.call' (ch:=[]) os un hok bare (λb z=>absurd z (by simp));obtain⟨IX,m8,hm8,fC⟩:=back I8;have lt7:s3.heap.objs.size<T0:=lt_of_lt_of_le I7.lt hz;have ltC:s3.heap.objs.size<s8.heap.objs.size:=I8.lt;have le0:s.heap.objs.size<=T0:=le_trans (by rw[Ht];exact le_succ _) (le_of_lt lt7);obtain⟨oC,es,ep,hoC,hdC,rC⟩:=id hm8;have IP:=IX.pinned (fp:=[s3.heap.objs.size]) (λb hb=>by rw[mem_singleton.mp hb];exact fC) (λb hb=>by rw[mem_singleton.mp hb];exact⟨oC,hoC,λv q=>by rw[hdC] at q;cases q⟩);have RC:=rec_of (X:=X) (pins:=pins) (σ:=σ) I le0 ent hT;have RP:qj X (pins++mK [s3.heap.objs.size] s8.heap) H8 s8 T0 .none:=⟨RC.ent,RC.no,RC.ne,RC.ab,RC.cl,λp hp=>by
      rcases mem_append.mp hp with z|z
      .exact RC.pn p (mem_append_left _ z)
      .rcases mem_append.mp z with z|z
       .exact RC.pn p (mem_append_right _ z)
       .obtain⟨hb,_⟩:=Ag z;rw[mem_singleton.mp hb];exact ne_of_lt lt7⟩
     show wpAny (model X.prog X.w) X.A (noteFrame (.ref e) (compEnvC scope cl s3.heap.objs.size X.env)) _ _ s8;refine Ir I.ok.frames hst hfr rfl IP hE RP λT2 h9 I9 R9=>?_;have pC:=I9.pin (s3.heap.objs.size,oC) (mem_append_right _ (mem_append_right _ (f9 (mem_singleton.mpr rfl) hoC)));exact hRE _ _ _ m8 H8 e Ce dx T0 T2 I9.lK ⟨oC,es,ep,pC.1,hdC,rC⟩ ⟨pC.2.1,fC.2⟩ ⟨R9.ent,R9.no,R9.ne,R9.ab,R9.cl,λp hp=>R9.pn p (by
      rcases mem_append.mp hp with z|z
      .exact mem_append_left _ z
      .exact mem_append_right _ (mem_append_left _ z))⟩
      (λz=>R9.pn (s3.heap.objs.size,oC) (mem_append_right _ (mem_append_right _ (f9 (mem_singleton.mpr rfl) hoC))) z.symm) hE (λC' tb z=>pK hok z hE) qE
  .have eS:({s3 with heap:=h₁,toks:=s.toks}:Shared)={s with heap:=h₁,toks:=s.toks+([]:List (Str×Value)).length}:=by rw[<-hs3];rfl
   exact⟨0,bH cap σ,upd H s.heap.objs.size (.lst []),eS▸I4,λ_ _ h=>h,Nr,λb hb=>(Nq b hb).1,w0⟩
 rw[eC];exact codeAny_compStart_list (loop _ rfl) (T.self _ 0 _ _ _ Nr (loop _ rfl))
end
theorem Ug {P:Program}{w:World}{K:Frag}{mg:Str->Option Value}{base:Heap}{N:List Str}{qual:Str}{sc:Scope}{f:Addr}{cdv:Value}{A:Around}{outer:List Env}{s:Shared}{H:Hp}{E:XK}{elt tg iter:Expr}{scope:Scope}{N':List Str}{cap:List (Option Nat)}{pos rpos:Pos}{wi:TI}{g:TG}{te:TX}
  (hB:kE N sc scope N' cap=true)(hit:PI (cC (bN P w) P w K mg base N qual sc f cdv A outer s H E) tg iter wi)
  (hg:∀cl C s₀ H₀ ex,PG (cL (cC (bN P w) P w K mg base N qual sc f cdv A outer s H E) scope N' cl C s₀ H₀ ex) tg g)(he:∀cl C s₀ H₀ ex,pL (cL (cC (bN P w) P w K mg base N qual sc f cdv A outer s H E) scope N' cl C s₀ H₀ ex) elt te)
  (hs:∀x,foldedSetIterable iter (cC (bN P w) P w K mg base N qual sc f cdv A outer s H E).env x=pure x:=by intro _;rfl):
  PS (cC (bN P w) P w K mg base N qual sc f cdv A outer s H E) (.Return (some (.ListComp elt [⟨tg,iter,[],0⟩] scope pos)) rpos)
   (λD σ H0=>xLC wi cap g te σ H0 D.rt λev dx H'=>∀e C T T2,ev=.ref e->H' e=some (bA e C dx (.ref T))->(∀C' tb,H' e=some (bA e C' dx tb)->C'=C)->E (.ref e) dx (upd H' e (bA e C dx (.ref T2)))):=by
 intro pins s0 σ H0 D I h;have hB1:kE (cC (bN P w) P w K mg base N qual sc f cdv A outer s H E).N (cC (bN P w) P w K mg base N qual sc f cdv A outer s H E).env.scope scope N' cap=true:=hB;have kind:scope.kind=.function:=by simp only[kE,and_eq_true] at hB;exact eq_of_beq hB.1.1.1.2
 obtain⟨cl,Nu,c1,c2⟩:=wR hB1 I.ok;refine wpAny_Return_some ?_;rw[eval_ListComp];refine wpAny_comprehension_free (use:=none) rfl hs Nu kind (uy hB1) (aO (hit pins s0 σ H0 _ I h) λv s1 h1=>aO h1 λitv s2 h2=>?_);obtain⟨it,fp,tn,J,H2,e,I2,T,st2,f2,rd⟩:=h2;subst e;refine PN rfl rfl rfl hB1 hg he c1 c2 I2 T st2 f2 rd (λD' C s' m H' I' hm fC q=>?_) λD' C s' m H' e Ce dx T0 T2 I' hm fC R' nTC hE hu q=>?_
 .exact⟨m,hm,λh' hs'=>⟨.ref D',σ,H',I'.turned (λb o hb e=>(hs'.2 b hb).trans e) fC.1 fC.2.1 fC.2.2.2.1 fC.2.2.2.2.1 fC.2.2.2.2.2,rfl,q⟩⟩
 .refine⟨m,hm,λh' hs' cenv' hc'=>?_⟩;have I4:=I'.turned (h':=h') (t':=s'.toks) (λb o hb e=>(hs'.2 b hb).trans e) fC.1 fC.2.1 fC.2.2.2.1 fC.2.2.2.2.1 fC.2.2.2.2.2;have R4:=R'.to (s':={s' with heap:=h'}) (λo z=>(hs'.2 _ nTC).trans z) R'.no;obtain⟨oe,vs,t0,g1,g2,g3,g4,g5,g6⟩:=gA I4.hok aA;unfold PySem.passOn;refine wpAny_bind (wpAny_field g1 g4 g6 ?_);rw[if_neg (by simp)];refine wpAny_bind (Bp I4 aA R4 λh5 I5 R5=>wpAny_throw ?_);refine ab6 I5 aA R5 λT3=>?_;rw[vq];exact q e Ce T0 T3 rfl hE hu
noncomputable abbrev yI (E:XK):XK:=λev dx H'=>∀e C T T2,ev=.ref e->H' e=some (bA e C dx (.ref T))->(∀C' tb,H' e=some (bA e C' dx tb)->C'=C)->E (.ref e) dx (upd H' e (bA e C dx (.ref T2)))
section
variable {P:Program}{w:World}{K:Frag}{mg:Str->Option Value}{base:Heap}{N:List Str}{qual:Str}{scope:Scope}{f:Addr}{cdv:Value}{A:Around}{outer:List Env}{s:Shared}{H:Hp}{E:XK}{ex o:Expr}{pos pos':Pos}{t:TX}{i:Nat}{x fl:Str}{ta:TE}
theorem YS (hN:N.Nodup)(hi:N[i]? =some x)(hx:Loc scope x)(hl:scope.names.lookup x=some .local)(he:pL (cC (bN P w) P w K mg base N qual scope f cdv A outer s H E) ex t)(hs:swapsWith ex (some (.Name x pos')) pos.line (cC (bN P w) P w K mg base N qual scope f cdv A outer s H E).env=pure false:=by rfl):
  PS (cC (bN P w) P w K mg base N qual scope f cdv A outer s H E) (.Assign [.Name x pos'] ex pos) (λD σ H0=>t σ H0 (λy H1=>D.nx (σ.set i (some y)) H1) (yI E)):=by
 intro pins s0 σ H0 D I h;refine wpAny_Assign_Name (wpAny_mono (he pins s0 σ H0 _ _ I h) (λv s1 ⟨y,H1,I1,r1,q1⟩=>?_) λev s1 z=>?_) hs
 .exact j6 I1 hN hi hx r1 (λs2 I2=>⟨_,H1,I2,q1⟩) (.inr hl)
 .exact CP z λe C dx T H' hev hE u q T2=>q e C T T2 rfl hE u
theorem YT (ha:PE (cC (bN P w) P w K mg base N qual scope f cdv A outer s H E) o ta)(he:pL (cC (bN P w) P w K mg base N qual scope f cdv A outer s H E) ex t)(hs:swapsWith ex (some (.Attribute o fl pos')) pos.line (cC (bN P w) P w K mg base N qual scope f cdv A outer s H E).env=pure false:=by rfl):
  PS (cC (bN P w) P w K mg base N qual scope f cdv A outer s H E) (.Assign [.Attribute o fl pos'] ex pos) (λD σ H0=>t σ H0 (λy H1=>ta σ H1 λx H2=>∃a C dx fs,x=.ref a/\H2 a=some (.ins C dx fs)/\Cls K C/\eY K C fl/\fs.length<1000/\D.nx σ (upd H2 a (.ins C dx (ju fl y fs)))) (yI E)):=by
 intro pins s0 σ H0 D I h;refine plainObj_wpAny_Assign_Attribute (wpAny_mono (he pins s0 σ H0 _ _ I h) (λu s1 ⟨y,H1,I1,ry,q⟩=>aO (ha pins s1 σ H1 _ I1 q) λov s2 ⟨x,H2,I2,rx,a,C,dx,fs,ex,ea,c,n,l,q2⟩=>?_) λev s1 z=>?_) hs
 .subst ex;obtain rfl:ov=Value.ref a:=rx;exact xY I2 ea c n l ry λs3 I3=>⟨σ,_,I3,q2⟩
 .exact CP z λe C dx T H' hev hE u q T2=>q e C T T2 rfl hE u
end
section
variable {X:Cx}{x:Str}{T:String}{e:Expr}{t:TX}{p pos:Pos}
theorem Uh (hg:Gl X x)(hm:X.mg x=none)(hv:bootBuiltins x=some (.type T))(he:pL X e t)(hn:x≠"__name__":=by decide)(hdb:(x==("__debug__":Str))=false:=by decide)
  (hst:starEach [e] X.env=[(false,eval e X.env)]:=by rfl):pL X (.Call (.Name x p) [e] [] pos) (λσ H _ E=>t σ H (λ_ _=>False) E):=by
 intro pins s σ H Q E I h;refine wpAny_Call_Name_kw (mG I hg hm hv ?_ hn hdb);refine PyProof.Rows.callWith_type1 ?_ hst rfl;rw[hst];show wpAny _ _ (spliced ((false,eval e X.env)::backTo pos [])) _ _ s;exact Calls.spliced_cons (wpAny_mono (he pins s σ H _ _ I h) (λu s1 ⟨_,_,_,_,z⟩=>z.elim) λ_ _ z=>z)
end
section
variable {X:Cx}{i:Nat}{Y:Addr}{x y n:Str}{pos epos xpos hpos np:Pos}{ex:Expr}{b0:Stmt}{suite:List Stmt}{t:TX}{tS:TS}
theorem PX (hex:pL X ex t)(hst:X.stack=X.env::X.outer)(hfr:X.env.frame=some X.env.locals)(hgy:Gl X y)(hmy:X.mg y=some (.ref Y))(hY1:PySem.W.mroIn X.K Y (.type "BaseException")=some true)(hY2:PySem.W.typeIn X.K (.ref Y)=some (.type "type"))
  (hN:X.N.Nodup)(hi:X.N[i]? =some n)(hl:X.env.scope.names.lookup n=some .local)(hS:∀e,eX (inX X e) (b0::suite) tS)(hdy:(y==("__debug__":Str))=false:=by decide)
  (hs:swapsWith ex (some (.Name x xpos)) epos.line X.env=pure false:=by rfl):
  PS X (.Try [.Assign [.Name x xpos] ex epos] [.ExceptHandler (some (.Name y np)) (some n) (b0::suite) hpos] [] [] pos) (λD σ H=>CQ X.K Y i (λσ H _ E=>t σ H (λ_ _=>False) E) tS D σ H):=by
 intro pins s σ H D I h;refine wpAny_Try_except (wpAny_execs_cons (wpAny_Assign_Name (wpAny_mono (hex pins s σ H _ _ I h) (λv s1 ⟨_,H1,I1,_,q1⟩=>q1.elim) λev s' ⟨H1,s1,I1,hq⟩=>?_) hs));refine zT I.ok.frames I1 hq hst hfr λe C dx T H' T2 s3 hev qE hE hok I3 R3=>?_;subst hev;obtain⟨e',C',tb,z,hE',hm1,qS⟩:=qE;cases z;have hc:=pK hok hE' hE;subst hc;obtain⟨oe,vs,t0,g1,g2,g3,g4,g5,g6⟩:=gA I3.hok (aA (H:=H') (a:=e) (o:=bA e C' dx (.ref T2)));obtain⟨oT,ts,t1,t2,t3⟩:=R3.ent;refine wpAny_handleBy_cons (codeAny_handlers_test (iZ (X:=inX X e) (vO I3) hgy hmy ?_ hdy)) (by intro z;cases z);obtain⟨hp,gs,dr,tk,os⟩:=s3;refine catches I3.dM g1 g2 hY1 hY2 hm1 (codeAny_handlers_suite_as ?_);unfold setFlight;refine wpAny_bind (wpAny_field g1 g4 g6 ?_);rw[if_pos (show(Value.ref T2 !=Value.none)=true from by simp)];refine wpAny_setField t1 t2 (Array.getElem?_eq_some_iff.mp t3).1 ?_;have I4:=I3.turned (t':=tk) (it:=T2) (h':=hp.update T2 (Obj.mapFields (·.setIfInBounds 3 Value.none))) (λb o hb z=>(get?_update_other _ _ hb.symm).trans z) R3.no R3.ne (.inr R3.ab) R3.cl R3.pn;refine j6 (v:=.ref e) I4 hN hi (.inl hl) rfl (λs5 I5=>?_) (.inr hl);refine wpAny_mono (hS e pins s5 _ _ _ (vO I5) (qS T2)) (λfl s6 q6=>?_) λ_ _ z=>z.elim;cases fl with
 |next=>
  obtain⟨σ',H6,I6,dn⟩:=q6;exact goes (Ia I.ok I6) hN hi hl λs7 I7=>⟨σ'.set i none,H6,I7,dn⟩
 |brk=>obtain⟨_,_,_,z⟩:=q6;exact z.elim
 |cont=>obtain⟨_,_,_,z⟩:=q6;exact z.elim
 |ret u=>obtain⟨_,_,_,_,_,z⟩:=q6;exact z.elim
end
end EX
namespace L2
open PyProof.Rows
theorem xg {prog:Program}{w:World}{A:Around}{E:Value->Shared->Prop}{s:Shared}{env:Env}{elts:List Expr}{x1:Nat}{pos:Pos}{t:Addr}{items:Array Value}{Q:Unit->Shared->Prop}(hh:A.handled=none)(ht:s.heap.IsList t items)
  (hn:(assignEach elts env).length=items.size)(hst:(assignEach elts env).findIdx? (·.1)=none)
  (h:∀h',Heap.ExtBut s.heap.objs.size s.heap h'->wpAny (model prog w) A (assignInOrder ((assignEach elts env).map (·.2)) items.toList) Q E {s with heap:=h'}):wpAny (model prog w) A (assign (.Tuple elts x1 pos) env (.ref t)) Q E s:=by
 rw[assign];refine wpAny_bind (wpAny_standAt ?_);unfold unpack;rw[hn,hst];exact wpAny_bind (wpAny_holding (PySem.W.kun_itemsOf hh ht h))
section
variable {X:Cx}{pos:Pos}
def aeK (K:Frag)(n:Nat)(t:o9):TG:=λv σ H Q=>match v with
 |.ref a=>∃xs,aU K H a xs/\xs.length=n/\t xs σ H Q
 |_=>False
theorem aeL {es:List Expr}{k n:Nat}{t:o9}(hc:X.calm=true)(h:jP X es t)
  (hn:(assignEach es X.env).length=n:=by rfl)(hst:(assignEach es X.env).findIdx? (·.1)=none:=by rfl):PG X (.Tuple es k pos) (aeK X.K n t):=by
 intro pins s σ H v u Q I r hw;cases v with
 |ref a=>
  obtain⟨xs,hq,hl,hw⟩:=hw;cases r;obtain⟨its,rv,⟨o,n',e,ec,_,ed⟩,hz⟩:=I.list hq;refine xg (I.ok.hd hc) (items:=its.toArray) ?_ (by simp[hn,←hl,rv.length]) hst λh' hx=>?_
  .exact⟨o,e,ec,n',ed⟩
  have I1:Inv X pins σ H {s with heap:=h'}:=I.kept (t':=s.toks) λb o e=>hx b o (ne_of_lt (lt_size e)) e;exact h pins _ σ H xs _ Q I1 (by simpa using rv) hw
 |_=>exact False.elim hw
end
end L2
namespace VM
open PyProof.Rows L2
section
variable {X:Cx}{pos:Pos}
noncomputable def Iu (n:Nat)(u:yr):VG:=λd S=>match d with
 |.list ds=>if ds.length=n then u ds S else none
 |_=>none
theorem ahh {es:List Expr}{k n:Nat}{u:yr}{js:List Nat}(hc:X.calm=true)(h:jP X es (En X.K u js))(hn:(assignEach es X.env).length=n:=by rfl)(hst:(assignEach es X.env).findIdx? (·.1)=none:=by rfl):PG X (.Tuple es k pos) (qI X.K (Iu n u) js):=PG.imp (aeL hc h hn hst) λv σ H Q q=>by
 obtain⟨aG,G,H₀,S,F,I,d,S',hd,e,q⟩:=q;unfold Iu at e;split at e
 .rename_i ds;split at e
  .rename_i hl;obtain⟨a,xs,rfl,h1,h2⟩:=hd;exact⟨xs,I.sub.seq h1,by rw[<-h2.length];exact hl,aG,G,H₀,S,F,I,ds,S',h2,e,q⟩
  .cases e
 .cases e
end
end VM
namespace bF
open PyProof.Rows L2 VM
noncomputable def top (i:Nat):Stmt:=PySem.Challenge.pw_leavehall_k72_lines_refused.main.body.getD i (.Pass ⟨0,0,0,0⟩)
noncomputable abbrev bV (j:Nat):Stmt:=inClass (top 37) j
noncomputable abbrev Q4:=Int×Int×Int×Int
noncomputable def iz (x:Str×Int):Key×V:=(.inr x.1,.int x.2)
noncomputable def tL (H:Hp)(kv:Key×V)(x:Str×Q4):Prop:=kv.1=.inr x.1/\∃t,kv.2=.ref t/\H t=some (.tup [.int x.2.1,.int x.2.2.1,.int x.2.2.2.1,.int x.2.2.2.2])
structure cF (H:Hp)(C p dx nn ll:Addr)(nums:List (Str×Int))(ls:List (Str×Q4)):Prop where
 ins:H p=some (.ins C dx [("numbers",.ref nn),("laid",.ref ll)])
 num:H nn=some (.dK (nums.map iz))
 laid:∃kvs,H ll=some (.dK kvs)/\Paired (tL H) kvs ls
 ne:nn≠ll
theorem tL.same {H H':Hp}(k:∀t xs,H t=some (.tup xs)->H' t=some (.tup xs)){kv:Key×V}{x:Str×Q4}(h:tL H kv x):tL H' kv x:=let⟨a,t,b,c⟩:=h;⟨a,t,b,k t _ c⟩
theorem cF.grow {H H':Hp}{C p dx nn ll:Addr}{nums:List (Str×Int)}{ls:List (Str×Q4)}(h:cF H C p dx nn ll nums ls)(k:Same H H'):cF H' C p dx nn ll nums ls:=by obtain⟨a,b,⟨kvs,c,d⟩,n⟩:=h;exact⟨k _ _ a,k _ _ b,⟨kvs,k _ _ c,d.mono λ_ _ z=>z.same λt xs e=>k _ _ e⟩,n⟩
noncomputable def bB {α:Type}(nm:Str):List (Str×α)->Option α
 |[]=>none
 |x::r=>if x.1=nm then some x.2 else bB nm r
noncomputable def jz {α:Type}(nm:Str)(v:α)(l:List (Str×α)):List (Str×α):=if(l.any λx=>decide (x.1=nm))=true then l.map (λx=>if x.1=nm then(x.1,v) else x) else l++[(nm,v)]
noncomputable def Lk {α:Type}(nm:Str)(l:List (Str×α)):List (Str×α):=l.filter λx=>!decide (x.1=nm)
theorem yJ {a b:Str}:((Sum.inr a:Key)=Sum.inr b)↔a=b:=⟨λh=>Sum.inr.inj h,λh=>by rw[h]⟩
theorem vQ (nm:Str):∀nums:List (Str×Int),dI (nums.map iz) (.inr nm)=(bB nm nums).map V.int
 |[]=>rfl
 |x::r=>by
  rw[map_cons,bB];by_cases e:x.1=nm
  .rw[if_pos e,lV (by show Sum.inr x.1=_;rw[e])];rfl
  .rw[if_neg e,jw (by intro z;exact e (Sum.inr.inj z)),vQ nm r]
theorem qT {H:Hp}(nm:Str):∀{kvs:List (Key×V)}{ls:List (Str×Q4)},Paired (tL H) kvs ls->match bB nm ls with
  |none=>dI kvs (.inr nm)=none
  |some q=>∃t,dI kvs (.inr nm)=some (.ref t)/\H t=some (.tup [.int q.1,.int q.2.1,.int q.2.2.1,.int q.2.2.2])
 |_,_,.nil=>rfl
 |_,_,.cons (a:=kv) (b:=x) h r=>by
  obtain⟨h1,t,h2,h3⟩:=h;rw[bB];by_cases e:x.1=nm
  .rw[if_pos e];exact⟨t,by rw[lV (by rw[h1,e]),h2],h3⟩
  .rw[if_neg e];have ih:=qT nm r;rw[jw (by intro z;rw[h1] at z;exact e (Sum.inr.inj z))];exact ih
theorem ab8 {H:Hp}(nm:Str){kvs:List (Key×V)}{ls:List (Str×Q4)}(h:Paired (tL H) kvs ls):(kvs.any λkv=>decide (kv.1=.inr nm))=ls.any λx=>decide (x.1=nm):=by
 induction h with
 |nil=>rfl
 |cons h _ ih=>rw[any_cons,any_cons,ih,h.1];congr 1;exact decide_eq_decide.mpr yJ
theorem P0 {H:Hp}{nm:Str}{t:Addr}{q:Q4}(ht:H t=some (.tup [.int q.1,.int q.2.1,.int q.2.2.1,.int q.2.2.2])){kvs:List (Key×V)}{ls:List (Str×Q4)}(h:Paired (tL H) kvs ls):
  Paired (tL H) (putK kvs (.inr nm) (.ref t)) (jz nm q ls):=by
 unfold putK jz;rw[ab8 nm h];split
 .rename_i c;clear c;induction h with
  |nil=>exact .nil
  | @cons a b _ _ h _ ih=>
   rw[map_cons,map_cons];refine .cons ?_ ih;by_cases e:b.1=nm
   .rw[if_pos (by rw[h.1,e]),if_pos e];exact⟨h.1,t,rfl,ht⟩
   .rw[if_neg (by intro z;rw[h.1] at z;exact e (Sum.inr.inj z)),if_neg e];exact h
 .rename_i c;clear c;induction h with
  |nil=>exact .cons ⟨rfl,t,rfl,ht⟩ .nil
  |cons h _ ih=>exact .cons h ih
theorem YW {H:Hp}{nm:Str}{kvs:List (Key×V)}{ls:List (Str×Q4)}(h:Paired (tL H) kvs ls):Paired (tL H) (pH kvs (.inr nm)) (Lk nm ls):=by
 unfold pH Lk;induction h with
 |nil=>exact .nil
 | @cons a b _ _ h _ ih=>
  rw[filter_cons,filter_cons];by_cases e:b.1=nm
  .rw[if_neg (by rw[h.1,e];simp),if_neg (by simp[e])];exact ih
  .have ne:a.1≠Sum.inr nm:=λz=>by rw[h.1] at z;exact e (Sum.inr.inj z)
   rw[if_pos (decide_eq_true ne),if_pos (by simp[e])];exact .cons h ih
theorem YX (nm:Str)(v:Int)(nums:List (Str×Int)):putK (nums.map iz) (.inr nm) (.int v)=(jz nm v nums).map iz:=by
 unfold putK jz;have ea:((nums.map iz).any λkv=>decide (kv.1=.inr nm))=nums.any λx=>decide (x.1=nm):=by rw[List.any_map];congr 1;funext x;exact decide_eq_decide.mpr yJ
 rw[ea];split
 .rw[map_map,map_map];refine List.map_congr_left λx _=>?_;by_cases e:x.1=nm
  .show(if(iz x).1=Sum.inr nm then((iz x).1,V.int v) else iz x)=iz (if x.1=nm then(x.1,v) else x);rw[if_pos (show(iz x).1=Sum.inr nm from yJ.mpr e),if_pos e];rfl
  .show(if(iz x).1=Sum.inr nm then((iz x).1,V.int v) else iz x)=iz (if x.1=nm then(x.1,v) else x);rw[if_neg (show ¬(iz x).1=Sum.inr nm from λz=>e (yJ.mp z)),if_neg e]
 .rw[List.map_append];rfl
noncomputable def dO (nn ll:Addr)(H H':Hp):Prop:=∀b o,b≠nn->b≠ll->H b=some o->H' b=some o
theorem dO.same {nn ll:Addr}{H H':Hp}(h:Same H H'):dO nn ll H H':=λb o _ _ e=>h b o e
theorem dO.trans {nn ll:Addr}{H H' mR:Hp}(a:dO nn ll H H')(b:dO nn ll H' mR):dO nn ll H mR:=λc o h1 h2 e=>b c o h1 h2 (a c o h1 h2 e)
section
variable {H:Hp}{C p dx nn ll:Addr}{nums:List (Str×Int)}{ls ls':List (Str×Q4)}{kvs kvs':List (Key×V)}
theorem FN {a:Addr}{o:HO}{ks:List (Key×V)}(h:H a=some (.dK ks)):∀t xs,H t=some (.tup xs)->upd H a o t=some (.tup xs):=λt xs e=>by rw[aB λz=>by subst z;rw[h] at e;cases e];exact e
theorem cF.put (h:cF H C p dx nn ll nums ls)(hk:H ll=some (.dK kvs))(hl:Paired (tL H) kvs' ls'):cF (upd H ll (.dK kvs')) C p dx nn ll nums ls':=by
 refine⟨?_,?_,⟨kvs',aA,hl.mono λ_ _ z=>z.same (FN hk)⟩,h.ne⟩
 .rw[aB λz=>by have:=h.ins;rw[z,hk] at this;cases this];exact h.ins
 .rw[aB h.ne];exact h.num
theorem dO.put (hk:H ll=some (.dK kvs)):dO nn ll H (upd H ll (.dK kvs')):=λb o _ h2 e=>by rw[aB h2];exact e
theorem cF.ahi {WM:List (Str×Int)}(h:cF H C p dx nn ll nums ls):cF (upd H nn (.dK (WM.map iz))) C p dx nn ll WM ls:=by
 obtain⟨kvs,hk,hl⟩:=h.laid;refine⟨?_,aA,⟨kvs,?_,hl.mono λ_ _ z=>z.same (FN h.num)⟩,h.ne⟩
 .rw[aB λz=>by have:=h.ins;rw[z,h.num] at this;cases this];exact h.ins
 .rw[aB h.ne.symm];exact hk
theorem dO.num {ks:List (Key×V)}:dO nn ll H (upd H nn (.dK ks)):=λb o h1 _ e=>by rw[aB h1];exact e
end
end bF
namespace bF
open L2 VM
seal L2.PE L2.PT L2.PW L2.PA L2.PS L2.eX L2.PG L2.jP L2.PI L2.lO L2.PO L2.cg L2.Ah L2.c7 L2.n8 L2.Aq L2.tZ L2.uc VM.fK VM.CallD PySem.binaryOp PySem.compareOp VM.ak VM.tu VM.su VM.nM VM.bZ VM.uK VM.wH VM.isD VM.Kg VM.Tc
variable {tkF tkL:Tok}
open EX (CV)
theorem mN {X:Cx}{e:Expr}{i:Nat}(h:PE X e (vR i)):PE X e (tV X.K RW (vN i)):=mw (dN h)
theorem nL {X:Cx}{es:List Expr}{fs:VA}{pos:Pos}(h:PA X es (uL X.K fs)):PE X (.List es pos) (tV X.K RW (bR fs)):=nw (aaJ h)
section
variable {X:Cx}{tg iter elt:Expr}{ifs:List Expr}{scope sc:Scope}{N:List Str}{pos:Pos}{cap:List (Option Nat)}
noncomputable def tgF (N:List Str):Expr->Bool|.Name x _=>N.head? ==some x|.Tuple (e::_) _ _=>tgF N e|_=>false
theorem lcE {wi:TI}{g:TG}{tc:TT}{te:TE}(_:N.all (λx=>dG sc x && plain x)=true)(N':List Str)(hit:PI X tg iter wi)(hg:∀cl C s₀ H₀ ex,PG (cL X scope N' cl C s₀ H₀ ex) tg g)(hi:∀cl C s₀ H₀ ex,lO (cL X scope N' cl C s₀ H₀ ex) ifs tc)(he:∀cl C s₀ H₀ ex,PE (cL X scope N' cl C s₀ H₀ ex) elt te)
  (hB:kE N sc scope N' cap=true:=by decide +kernel)(hN:X.N=N:=by rfl)(hc:X.env.scope=sc:=by rfl)(hm:X.calm=true:=by rfl)(hs:∀x,foldedSetIterable iter X.env x=pure x:=by intro _;rfl)(_:tgF N' tg=true:=by rfl):PE X (.ListComp elt [⟨tg,iter,ifs,0⟩] scope pos) (wF wi cap g tc te):=J7 _ _ hm hB hN hc hit hg hi he hs
theorem dGl {x:Str}{n:Int}{tk:Tok}(h:X.mg x=some (.int n tk))(hg:Gl X x)(hd:(x==("__debug__":Str))=false:=by decide):PE X (.Name x pos) (tV X.K RS (vC (.int n))):=dC (g8 (v:=.int n) hg h ⟨_,rfl⟩ hd) λ_=>rfl
end
section
variable {P:Program}{w:World}{K:Frag}{mg:Str->Option Value}{base:Heap}
theorem Bq (N:List Str)(F:cP K x qual st f fd)(hb:∀(cdv:Value) (A:Around) (outer:List Env) (s:Shared) (H:Hp) (E:XK),N.Nodup->N.all (λx=>dG (aj st) x && plain x)=true->cI k (A.deeper (PyProof.Rows.envOfC qual (aj st) s.heap.objs.size f cdv))->eX (cC cV P w K mg base N qual (aj st) f cdv A outer s H E).ni (cH st) (gY K g))
  (S:bI N ps (aj st):=by exact fs)(vt:N.all (λx=>dG (aj st) x && plain x)=true:=by decide +kernel)(hn:ps.length=n:=by rfl)(hN:N.length=nN:=by rfl):aQ P w K mg base cV (k+1) f fd ps (ig K (nu n nN g)):=fnV F S hn hN λa b c d e i=>hb a b c d e i S.nd vt
end
open PyProof.Rows (boot_isinstance boot_abs boot_min boot_sum boot_all boot_int boot_bool boot_list boot_tuple boot_str)
local macro_rules | `(tactic| walk_at "d")=>do
 let f:=fun (a : List (Lean.TSyntax `tactic)) (z : Lean.TSyntax `tactic)=>a.foldrM (fun x y=>`(tactic| first | $x:tactic | $y:tactic)) z;let g ← ("PE=vR:pV vt _,pD ? _|PE:mN ?,nL ?,sw ?,dN ?,sm ?,dF ?|PE.Constant:lQ,Sq ?,adW,adX|PE.BinOp:pG aX aeC ? ?,pG Ed hAdd ? ?,pG oMod hMod ? ?,pG oDiv hDiv ? ?,pG aay hMul ? ?,pG R8 hSub ? ?,pG agn hPow ? ?,pG ago hXor ? ?,pG sU aeH ? ?,dCat ? ?,agW ? ?|PE.Subscript:dIx ? ?,ahb ? ?,ahc ? ? ?,agE ? ? ?,agF ? ? ?|PE.Call:zL ?,fV ! hr.mo ? ?,tG ? hLen,tG ? Wq,dj ? ? B.len PySem.boot_len ?,Kq KT.int ?,Kq KT.bool ?,Kq KT.list ?,Kq KT.tuple ?,dj agL ? B.isinstance boot_isinstance ?,tG ? agI,dj cAbs ? B.abs boot_abs ?,tG ? ad0,tG ? agK,dj ? ? B.min boot_min ?,tG ? agJ,dj ? ? B.sum boot_sum ?,tG ? abI,dj ? ? Ui boot_all ?,tG ? aeI,iJ CV ? uZ boot_str ?,tG ? aeF,iJ Ww ? B.int boot_int ?,XQ ?,iJ adS ? B.list boot_list ?,ad2 ?,V7 ?,YF ? ?,ab1 ? ?,aeG ? ?,Cp ? ?|PE.Name:qw ? B.int boot_int rfl,qw ? B.bool boot_bool rfl,qw ? B.list boot_list rfl,qw ? B.tuple boot_tuple rfl,dGl ! gx|PE:dTup ?,aaJ ?,agH ?,agD ?,agB ? ?,dOr ? ?,wW ? hEq ? ?,wW ? hNe ? ?,wW oLt hLt ? ?,wW Hv hGt ? ?,agC ?,'dLC,'agN,dIf ? ? ?,dCh pI K4 pI K4 ? ? ?,lcE vt [sign] ? ? ? ?,lcE vt [_law_letter;_law_base] ? ? ? ?,ns ?,nm ?,nw ?|PT:pY ? hEq ? ?,pY ? hNe ? ?,pY oLt hLt ? ?,pY Hv hGt ? ?,pY oLe hLe ? ?,pY agp hIs ? ?,pY adN agy ? ?,pY DG aha ? ?,pY ? ai3 ? ?,cCh oLe hLe oLe hLe ? ? ?,Km ?,agA ?,cVal ?,PW.pt ?|PW:adY ?,agz ? ?,aaH ?,wOr ? ?|PA:Ej,tE ? ?,N7,N8 ? ?,aM,au ? ?,io0,ioS ? ?,ioJ ? ?|eX:agP ?,agQ ? ?,agO|PS:'sAs,Mx ? ?,sIf ? ? ?,agR ?,ad6 ?,ad5 ?,sOw ?,cU nd rfl lx ?,jH ?,agS ?,Kw ?,uf PassesOwn.never rfl ? ? ?,'agU,Rm PassesOwn.never ? ?,sWh ?,adV nd rfl lx lQ aaB,agT hAdd ?,ad9 ?,aea ?,aaS,Wb hSub ?,Wb hAdd ?,G9 ? ? getL ? agx Sg,G9 ? ? getL ? aaB Sg|PG:jJ nd rfl lx,tgN ?,uE ? ?,ZP ? ? Sg,'tgT,'ahh|jP:tg0,'tgC|PI:itL ?,itS ?,aar ? B.zip ?,itZ ?,Xz ? B.enumerate ?,itE ?,Af ? B.range ?,aaN ?|lO:ifN,Hs ?|PO:poN,poI ?|cg:Eb hr.units,Ny hr.units,aiu hr.units|c7:Kc,uq,M5 rfl,agv rfl,agu rfl,abH rfl|Gl:gx,glC ?".splitOn "|").mapM fun q=>do
  let p:=q.splitOn ":";let a ← (p[1]!.splitOn ",").mapM fun s=>do
   let w:=s.splitOn " ";let x ← w.tail!.toArray.mapM fun y=>if y == "?" then `(?_) else if y == "_" then `(_) else if y == "!" then `((by assumption)) else if y.startsWith "[" then let z : Array (Lean.TSyntax `term):=(((y.drop 1).dropEnd 1).toString.splitOn ";").toArray.map Lean.quote; `([$z,*]) else pure (Lean.mkIdent y.toName)
   if s.startsWith "'" then `(tactic| apply $(Lean.mkIdent (w.head!.drop 1).toString.toName)) else `(tactic| refine $(Lean.mkIdent w.head!.toName) $x*)
  let h:=p[0]!.splitOn ".";let r ← f a (← `(tactic| fail))
  if (p[0]!.splitOn "=").length == 2 then `(tactic| (show PE _ _ (vR _); $r:tactic)) else if h.length == 2 then `(tactic| (show $(Lean.mkIdent h[0]!.toName) _ ($(Lean.mkIdent ("PySem.Expr." ++ h[1]!).toName) ..) _; $r:tactic)) else `(tactic| (show $(Lean.mkIdent h[0]!.toName) ..; $r:tactic))
 `(tactic| repeat' $(← f g (← `(tactic| first | rfl | decide +kernel | intro _))):tactic)
def wJ:VS:=
 (bf (bY (V6 (vB (v2 vP (vN 0) (vC (.str "-")))) (wZ (vN 0) (oI (vC (.int 1))) oN) (vF 0)) (gN 1))
 (bf (Bc (iR (vB (oM Ax Ax (vC (.int 1)) (jo pJ (aC (vN 1) a0)) (vC (.int 60)))))
 (lU (vC (.bool false)))
 uQ)
 (bf (Bc (iR (vB (jo uV (aC (tH (fZ (vN 1)) [none] (gN 0) nH (oM jl jl (vC (.str "0")) (vN 0) (vC (.str "9")))) a0))))
 (lU (vC (.bool false)))
 uQ)
 (lU (N6 (v2 uK (vN 0) (vC (.str "0"))) (v2 wH (v2 zR (vN 1) (vC (.int 0))) (vC (.str "0"))))))))
def gO:lF:=nu 1 2 wJ
theorem FP (F:cP K "is_number" "is_number" (top 46) f fd)(B:Bl mg)(KT:oU K)(Ui:mg "all"=none)(Zy:mg "MOST_FIGURES"=some (.int 60 tkF)) :aQ P w K mg base cV 1 f fd ["word"] (ig K gO):=Bq ["word","figures"] F λ_ _ _ _ _ _ nd vt hr=>by walk_at "d"
def qU:VS:=
 (bf (Bc (vB (v2 V5 (vN 1) (jo zJ (aC (vN 0) a0))))
 (lU (v2 oO (vN 0) (vN 1)))
 uQ)
 (lU (vC (.int 0))))
def fM:lF:=nu 2 2 qU
theorem yK (F:cP K "_law_cell_at" "_law_cell_at" (top 52) f fd)(B:Bl mg)(KT:oU K) :aQ P w K mg base cV 1 f fd ["_law_script","_law_k"] (ig K fM):=Bq ["_law_script","_law_k"] F λ_ _ _ _ _ _ nd vt hr=>by walk_at "d"
def u0:VS:=
 (bf (Bc (vB (v2 uK (v2 jh (vN 0) (vC (.int 2))) (vC (.int 0))))
 (bf (bY (v2 pX (jo Ko (aC (vN 0) a0)) (vC (.int 2))) (gN 2))
 (bf (Ky (Cv (aC (vN 1) a0)) (gN 3)
 (bY (v2 pX (vN 2) (v2 Kf (vC (.int 10)) (vC (.int 12)))) (gN 2)))
 (Cw 2)))
 uQ)
 (bf (bY (v2 jh (v2 oK (vN 0) (v2 wX (vC (.int 7919)) (vN 1))) (vC (.int 2147483629))) (gN 2))
 (bf (bY (v2 jh (v2 oK (v2 oK (v2 wX (vN 2) (vN 2)) (v2 wX (vC (.int 16807)) (vN 2))) (vN 1)) (vC (.int 2147483629))) (gN 2))
 (lU (v2 jh (v2 wX (vN 2) (vN 2)) (vC (.int 2147483587)))))))
def dZ:lF:=nu 2 4 u0
theorem BW (F:cP K "_law_mixed" "_law_mixed" (top 53) f fd)(B:Bl mg)(KT:oU K) :aQ P w K mg base cV 1 f fd ["_law_cell","_law_k"] (ig K dZ):=Bq ["_law_cell","_law_k","_law_number","_law_time"] F λ_ _ _ _ _ _ nd vt hr=>by walk_at "d"
def u5:VS:=
 (bf (bY (vC (.str "abcdefghijklmnopqrstuvwxyz")) (gN 1))
 (bf (bY (gj dZ (aC (vF 0) (aC (vC (.int 0)) a0))) (gN 2))
 (bf (bY (wZ (vN 1) (oI (v2 jh (vN 2) (vC (.int 26)))) (oI (v2 oK (v2 jh (vN 2) (vC (.int 26))) (v2 jh (v2 pX (vN 2) (vC (.int 26))) (vC (.int 6)))))) (gN 3))
 (lA (tH (fZ (vC (.str "abcdefg"))) [none,some 3] (gN 0) nH (v2 ak (vN 1) (vN 0)))))))
def jA:lF:=nu 1 4 u5
theorem BX (F:cP K "_law_names" "_law_names" (top 55) f fd)(B:Bl mg)(KT:oU K)(gP:lE P w K mg base 1 "_law_mixed" ["_law_cell","_law_k"] (ig K dZ)):aQ P w K mg base cV 2 f fd ["_law_cell"] (ig K jA):=Bq ["_law_cell","_law_letters","_law_number","_law_base"] F λ_ _ _ _ _ _ nd vt hr=>by walk_at "d"
def qW:VS:=
 (bf (bY (bR (aC (vC (.str "")) (aC (vC (.str " ")) (aC (vC (.str "hall")) (aC (v2 ak (vC (.str "hall ")) (vN 0)) (aC (v2 ak (v2 ak (v2 ak (v2 ak (v2 ak (vC (.str "hall ")) (vN 0)) (vC (.str " "))) (vN 0)) (vC (.str " "))) (vN 0)) a0)))))) (gN 3))
 (bf (bY (v2 bZ (vN 3) (bR (aC (v2 ak (v2 ak (v2 ak (vC (.str "hall  ")) (vN 0)) (vC (.str " "))) (vN 1)) (aC (v2 ak (v2 ak (v2 ak (vC (.str "Hall ")) (vN 0)) (vC (.str " "))) (vN 1)) a0)))) (gN 3))
 (bf (bY (v2 bZ (vN 3) (bR (aC (v2 ak (v2 ak (v2 ak (v2 ak (v2 ak (v2 ak (v2 ak (vC (.str "lay ")) (vN 1)) (vC (.str " "))) (vN 0)) (vC (.str " "))) (vN 0)) (vC (.str " "))) (vN 2)) (aC (vC (.str "lay")) a0)))) (gN 3))
 (bf (bY (v2 bZ (vN 3) (bR (aC (v2 ak (v2 ak (v2 ak (v2 ak (v2 ak (v2 ak (v2 ak (v2 ak (v2 ak (vC (.str "lay ")) (vN 1)) (vC (.str " "))) (vN 0)) (vC (.str " b "))) (vN 2)) (vC (.str " "))) (vN 2)) (vC (.str " "))) (vN 2)) a0))) (gN 3))
 (bf (bY (v2 bZ (vN 3) (bR (aC (v2 ak (v2 ak (v2 ak (v2 ak (vC (.str "lay ")) (vN 1)) (vC (.str " "))) (vN 0)) (vC (.str " b x 1"))) (aC (v2 ak (v2 ak (v2 ak (v2 ak (v2 ak (vC (.str "lay ")) (vN 1)) (vC (.str " "))) (vN 0)) (vC (.str " b 1 0"))) (vN 2)) a0)))) (gN 3))
 (bf (bY (v2 bZ (vN 3) (bR (aC (v2 ak (v2 ak (v2 ak (v2 ak (vC (.str "lay ")) (vN 1)) (vC (.str " "))) (vN 0)) (vC (.str " b +1 1"))) a0))) (gN 3))
 (bf (bY (v2 bZ (vN 3) (bR (aC (v2 ak (v2 ak (v2 ak (v2 ak (vC (.str "lay ")) (vN 1)) (vC (.str " "))) (vN 0)) (vC (.str " b 1 --1"))) (aC (v2 ak (v2 ak (v2 ak (v2 ak (vC (.str "lay ")) (vN 1)) (vC (.str " "))) (vN 0)) (vC (.str " b 1_0 1"))) a0)))) (gN 3))
 (bf (bY (v2 bZ (vN 3) (bR (aC (v2 ak (v2 ak (v2 ak (v2 ak (vC (.str "lay ")) (vN 1)) (vC (.str " "))) (vN 0)) (vC (.str " b -0 1"))) a0))) (gN 3))
 (bf (bY (v2 bZ (vN 3) (bR (aC (v2 ak (v2 ak (v2 ak (v2 ak (v2 ak (vC (.str "lay ")) (vN 1)) (vC (.str " "))) (vN 0)) (vC (.str " b 1 1"))) (v2 nM (vC (.str "0")) (vC (.int 60)))) (aC (vC (.str "shut")) (aC (v2 ak (v2 ak (v2 ak (vC (.str "shut ")) (vN 1)) (vC (.str " "))) (vN 1)) a0))))) (gN 3))
 (bf (bY (v2 bZ (vN 3) (bR (aC (v2 ak (v2 ak (vC (.str "shut ")) (vN 1)) (vC (.str " "))) a0))) (gN 3))
 (bf (bY (v2 bZ (vN 3) (bR (aC (v2 ak (vC (.str "widen ")) (vN 1)) (aC (v2 ak (v2 ak (v2 ak (vC (.str "widen ")) (vN 1)) (vC (.str " "))) (vN 0)) (aC (v2 ak (v2 ak (v2 ak (vC (.str "widen ")) (vN 1)) (vC (.str " 0"))) (vN 2)) a0))))) (gN 3))
 (bf (bY (v2 bZ (vN 3) (bR (aC (v2 ak (v2 ak (v2 ak (v2 ak (v2 ak (vC (.str "narrow ")) (vN 1)) (vC (.str " "))) (vN 2)) (vC (.str " "))) (vN 2)) a0))) (gN 3))
 (bf (bY (v2 bZ (vN 3) (bR (aC (v2 ak (v2 ak (vC (.str "narrow ")) (vN 1)) (vC (.str " 1/2"))) (aC (v2 ak (v2 ak (vC (.str "narrow ")) (vN 1)) (vC (.str " "))) (aC (v2 ak (v2 ak (vC (.str " narrow ")) (vN 1)) (vC (.str " 1"))) (aC (v2 ak (vC (.str "open ")) (vN 1)) a0)))))) (gN 3))
 (bf (bY (v2 bZ (vN 3) (bR (aC (vC (.str "fire")) (aC (vF 0) (aC (vF 2) a0))))) (gN 3))
 (lA (v2 bZ (vN 3) (bR (aC (v2 ak (v2 ak (v2 ak (v2 ak (vC (.str "lay ")) (vN 1)) (vC (.str " "))) (vN 0)) (vC (.str " b 1 "))) (aC (v2 ak (v2 ak (v2 ak (v2 ak (vC (.str "lay ")) (vN 1)) (vC (.str " "))) (vN 0)) (vC (.str "  1 1"))) a0)))))))))))))))))))
def jL:lF:=nu 3 4 qW
theorem yL (F:cP K "_law_no_line" "_law_no_line" (top 56) f fd)(B:Bl mg)(KT:oU K) :aQ P w K mg base cV 1 f fd ["_law_a","_law_p","_law_m"] (ig K jL):=Bq ["_law_a","_law_p","_law_m","_law_some"] F λ_ _ _ _ _ _ nd vt hr=>by walk_at "d"
def mU:VS:=
 (bf (bY (bR (aC (vC (.str "out")) (aC (vC (.str "out x")) (aC (v2 ak (vC (.str "out -")) (vN 1)) (aC (vC (.str "out -1")) (aC (v2 ak (vC (.str "out 0")) (vN 1)) (aC (v2 ak (v2 ak (v2 ak (vC (.str "out ")) (vN 1)) (vC (.str " "))) (vN 1)) a0))))))) (gN 2))
 (bf (bY (v2 bZ (vN 2) (bR (aC (v2 ak (vC (.str "out +")) (vN 1)) (aC (vC (.str "out 1.0")) (aC (vC (.str "out -0")) a0))))) (gN 2))
 (bf (bY (v2 bZ (vN 2) (bR (aC (vC (.str "walks")) (aC (v2 ak (vC (.str "walks ")) (vN 0)) (aC (vC (.str "walks -1")) (aC (vC (.str "walks 00")) (aC (vC (.str "moments")) (aC (v2 ak (vC (.str "moments -")) (vN 1)) a0)))))))) (gN 2))
 (bf (bY (v2 bZ (vN 2) (bR (aC (v2 ak (v2 ak (vC (.str "moments ")) (vN 1)) (vC (.str " "))) a0))) (gN 2))
 (bf (bY (v2 bZ (vN 2) (bR (aC (vC (.str "turns")) (aC (vC (.str "turns 0")) (aC (v2 ak (vC (.str "turns -")) (vN 1)) (aC (vC (.str "turns x")) (aC (vC (.str "turns 01")) (aC (v2 ak (v2 ak (vC (.str "turns ")) (vN 1)) (vC (.str " 1"))) a0)))))))) (gN 2))
 (bf (bY (v2 bZ (vN 2) (bR (aC (vC (.str "turns +1")) (aC (vC (.str "turns 1_0")) a0)))) (gN 2))
 (bf (bY (v2 bZ (vN 2) (bR (aC (v2 ak (vC (.str "worth ")) (vN 0)) (aC (v2 ak (v2 ak (vC (.str "worth ")) (vN 0)) (vC (.str " -1"))) (aC (v2 ak (v2 ak (vC (.str "worth ")) (vN 0)) (vC (.str " x"))) (aC (v2 ak (vC (.str "worth ")) (vN 1)) a0)))))) (gN 2))
 (bf (bY (v2 bZ (vN 2) (bR (aC (v2 ak (v2 ak (v2 ak (v2 ak (vC (.str "worth ")) (vN 0)) (vC (.str " "))) (vN 1)) (vC (.str " 1"))) a0))) (gN 2))
 (bf (bY (v2 bZ (vN 2) (bR (aC (v2 ak (vC (.str "rooms ")) (vN 1)) (aC (vC (.str "rooms ")) (aC (v2 ak (vC (.str "passages ")) (vN 0)) (aC (vC (.str "Rooms")) (aC (vC (.str "room")) (aC (v2 ak (vC (.str "out 1")) (v2 nM (vC (.str "0")) (vC (.int 60)))) a0)))))))) (gN 2))
 (bf (bY (v2 bZ (vN 2) (bR (aC (v2 ak (vC (.str "turns 1")) (v2 nM (vC (.str "0")) (vC (.int 60)))) a0))) (gN 2))
 (lA (v2 bZ (vN 2) (bR (aC (v2 ak (v2 ak (v2 ak (vC (.str "worth ")) (vN 0)) (vC (.str " 0"))) (vN 1)) (aC (v2 ak (v2 ak (vC (.str "worth  ")) (vN 0)) (vC (.str " 1"))) (aC (vC (.str "out")) (aC (vC (.str "moments 1-")) a0)))))))))))))))))
def gB:lF:=nu 2 3 mU
theorem tU (F:cP K "_law_no_question" "_law_no_question" (top 57) f fd)(B:Bl mg)(KT:oU K) :aQ P w K mg base cV 1 f fd ["_law_p","_law_m"] (ig K gB):=Bq ["_law_p","_law_m","_law_some"] F λ_ _ _ _ _ _ nd vt hr=>by walk_at "d"
def qX:VS:=
 (bf (bY (vF 0) (Iu 7 (gC (gN 3) (gC (gN 4) (gC (gN 5) (gC (gN 6) (gC (gN 7) (gC (gN 8) (gC (gN 9) g0)))))))))
 (bf (bY (bR (aC (dH (aC (vC (.int 1)) (aC (v2 ak (v2 ak (v2 ak (v2 ak (vC (.str "lay P ")) (vN 3)) (vC (.str " "))) (vN 3)) (vC (.str " 0 0"))) a0))) (aC (dH (aC (vC (.int 1)) (aC (v2 ak (v2 ak (v2 ak (v2 ak (vC (.str "lay ")) (vN 8)) (vC (.str " A "))) (vN 3)) (vC (.str " 0 1"))) a0))) a0))) (gN 10))
 (bf (bY (v2 bZ (vN 10) (bR (aC (dH (aC (vC (.int 1)) (aC (v2 ak (v2 ak (v2 ak (v2 ak (vC (.str "lay a1 ")) (vN 3)) (vC (.str " "))) (vN 4)) (vC (.str " 1 1"))) a0))) a0))) (gN 10))
 (bf (bY (v2 bZ (vN 10) (bR (aC (dH (aC (vC (.int 1)) (aC (v2 ak (v2 ak (v2 ak (v2 ak (vC (.str "lay ")) (vN 5)) (vC (.str " "))) (vN 3)) (vC (.str " abcdefghijklm 1 1"))) a0))) a0))) (gN 10))
 (bf (bY (v2 bZ (vN 10) (bR (aC (dH (aC (vC (.int 2)) (aC (v2 ak (v2 ak (v2 ak (v2 ak (v2 ak (v2 ak (vC (.str "lay ")) (vN 5)) (vC (.str " "))) (vN 3)) (vC (.str " "))) (vN 3)) (vC (.str " 0 0"))) a0))) a0))) (gN 10))
 (bf (bY (v2 bZ (vN 10) (bR (aC (dH (aC (vC (.int 2)) (aC (v2 ak (v2 ak (v2 ak (v2 ak (v2 ak (v2 ak (v2 ak (v2 ak (v2 ak (vC (.str "lay ")) (vN 6)) (vC (.str " "))) (vN 4)) (vC (.str " "))) (vN 3)) (vC (.str " "))) (vN 1)) (vC (.str " "))) (vN 1)) a0))) a0))) (gN 10))
 (bf (bY (v2 bZ (vN 10) (bR (aC (dH (aC (vC (.int 0)) (aC (v2 ak (v2 ak (v2 ak (v2 ak (v2 ak (v2 ak (vC (.str "lay ")) (vN 8)) (vC (.str " "))) (vN 3)) (vC (.str " "))) (vN 3)) (vC (.str " 1 1"))) a0))) a0))) (gN 10))
 (bf (bY (v2 bZ (vN 10) (bR (aC (dH (aC (vC (.int 0)) (aC (v2 ak (v2 ak (v2 ak (v2 ak (v2 ak (v2 ak (vC (.str "lay ")) (vN 8)) (vC (.str " "))) (vN 3)) (vC (.str " "))) (vN 9)) (vC (.str " 0 1"))) a0))) a0))) (gN 10))
 (bf (bY (v2 bZ (vN 10) (bR (aC (dH (aC (vC (.int 0)) (aC (v2 ak (v2 ak (v2 ak (v2 ak (v2 ak (v2 ak (v2 ak (vC (.str "lay ")) (vN 8)) (vC (.str " "))) (vN 3)) (vC (.str " "))) (vN 4)) (vC (.str " 1 -"))) (vN 1)) a0))) a0))) (gN 10))
 (bf (bY (v2 bZ (vN 10) (bR (aC (dH (aC (vC (.int 0)) (aC (v2 ak (v2 ak (v2 ak (v2 ak (v2 ak (v2 ak (v2 ak (v2 ak (vC (.str "lay ")) (vN 8)) (vC (.str " "))) (vN 9)) (vC (.str " "))) (vN 7)) (vC (.str " -"))) (vN 1)) (vC (.str " 1"))) a0))) (aC (dH (aC (vC (.int 4)) (aC (v2 ak (vC (.str "shut ")) (vN 7)) a0))) a0)))) (gN 10))
 (bf (bY (v2 bZ (vN 10) (bR (aC (dH (aC (vC (.int 4)) (aC (v2 ak (vC (.str "shut ")) (vN 3)) a0))) a0))) (gN 10))
 (bf (bY (v2 bZ (vN 10) (bR (aC (dH (aC (vC (.int 4)) (aC (v2 ak (v2 ak (vC (.str "widen ")) (vN 7)) (vC (.str " 0"))) a0))) (aC (dH (aC (vC (.int 4)) (aC (vC (.str "narrow P 1")) a0))) (aC (dH (aC (vC (.int 5)) (aC (v2 ak (v2 ak (vC (.str "widen ")) (vN 5)) (vC (.str " 0"))) a0))) a0))))) (gN 10))
 (bf (bY (v2 bZ (vN 10) (bR (aC (dH (aC (vC (.int 5)) (aC (v2 ak (v2 ak (v2 ak (vC (.str "widen ")) (vN 6)) (vC (.str " -"))) (vN 1)) a0))) a0))) (gN 10))
 (bf (bY (v2 bZ (vN 10) (bR (aC (dH (aC (vC (.int 5)) (aC (v2 ak (v2 ak (v2 ak (vC (.str "narrow ")) (vN 5)) (vC (.str " "))) (jo pN (aC (vN 2) a0))) a0))) (aC (dH (aC (vC (.int 5)) (aC (v2 ak (v2 ak (vC (.str "narrow ")) (vN 5)) (vC (.str " 0"))) a0))) a0)))) (gN 10))
 (bf (bY (v2 bZ (vN 10) (bR (aC (dH (aC (vC (.int 5)) (aC (v2 ak (v2 ak (vC (.str "narrow ")) (vN 5)) (vC (.str " -1"))) a0))) a0))) (gN 10))
 (bf (bY (v2 bZ (vN 10) (bR (aC (dH (aC (vC (.int 5)) (aC (v2 ak (v2 ak (v2 ak (vC (.str "narrow ")) (vN 5)) (vC (.str " "))) (jo pN (aC (v2 oK (vN 2) (vC (.int 1))) a0))) a0))) (aC (dH (aC (vC (.int 4)) (aC (v2 ak (v2 ak (v2 ak (vC (.str "worth ")) (vN 7)) (vC (.str " "))) (vN 1)) a0))) a0)))) (gN 10))
 (lA (v2 bZ (vN 10) (bR (aC (dH (aC (vC (.int 4)) (aC (v2 ak (v2 ak (vC (.str "worth ")) (vN 4)) (vC (.str " 0"))) a0))) a0))))))))))))))))))))
def jM:lF:=nu 3 11 qX
theorem yM (F:cP K "_law_by_hall" "_law_by_hall" (top 58) f fd)(B:Bl mg)(KT:oU K)(uZ:mg "str"=none) :aQ P w K mg base cV 1 f fd ["_law_names_here","_law_m","_law_width"] (ig K jM):=Bq ["_law_names_here","_law_m","_law_width","_law_a","_law_b","_law_p","_law_q","_law_no","_law_other","_law_last","_law_some"] F λ_ _ _ _ _ _ nd vt hr=>by walk_at "d"
def wK:VS:=
 (bf (bY (gj dZ (aC (vF 0) (aC (vC (.int 0)) a0))) (gN 3))
 (bf (bY (jo pN (aC (v2 oK (vC (.int 1)) (v2 jh (v2 pX (vN 3) (vC (.int 4))) (vC (.int 40)))) a0)) (gN 4))
 (bf (bY (v2 jh (vN 3) (vC (.int 4))) (gN 5))
 (bf (bY (v2 pX (vN 3) (vC (.int 160))) (gN 3))
 (bf (Bc (vB (v2 V5 (vN 5) (vC (.int 2))))
 (bf (bY (v2 oO (bR (aC (gj jL (aC (v2 oO (vN 1) (vC (.int 0))) (aC (v2 oO (vN 1) (vC (.int 2))) (aC (vF 4) a0)))) (aC (gj gB (aC (v2 oO (vN 1) (vC (.int 2))) (aC (vF 4) a0))) a0))) (vN 5)) (gN 6))
 (lU (dH (aC (vC (.int 6)) (aC (v2 oO (vN 6) (v2 jh (vN 3) (jo zJ (aC (vN 6) a0)))) a0)))))
 uQ)
 (bf (bY (gj jM (aC (vF 1) (aC (vF 4) (aC (vF 2) a0)))) (gN 6))
 (lU (v2 oO (vN 6) (v2 jh (vN 3) (jo zJ (aC (vN 6) a0)))))))))))
def jf:lF:=nu 3 7 wK
theorem FQ (F:cP K "_law_line" "_law_line" (top 59) f fd)(B:Bl mg)(KT:oU K)(uZ:mg "str"=none)(gP:lE P w K mg base 1 "_law_mixed" ["_law_cell","_law_k"] (ig K dZ))(tM:lE P w K mg base 1 "_law_by_hall" ["_law_names_here","_law_m","_law_width"] (ig K jM))(tO:lE P w K mg base 1 "_law_no_line" ["_law_a","_law_p","_law_m"] (ig K jL))(nA:lE P w K mg base 1 "_law_no_question" ["_law_p","_law_m"] (ig K gB)):aQ P w K mg base cV 2 f fd ["_law_cell","_law_names_here","_law_width"] (ig K jf):=Bq ["_law_cell","_law_names_here","_law_width","_law_number","_law_m","_law_way","_law_some"] F λ_ _ _ _ _ _ nd vt hr=>by walk_at "d"
end bF
def evS:="OJ Yo Yp aen aeo ini Yb aa5 aa6 aa7 aa8 aa9 aef aeg Yc abb abd Oq Wi Wj iR Yd Ye Yg abe abf abg abh Ot Ou aeh ag4 ag5 aei Wk ag6 aej a0 abj aek ael aem ag7 g0 Tp Yh Ox Tq Oz Tr Yi KQ OD Tt aee Yn abr abk Yj abl aep aer nJ sG sH vJ Yk abm lU lA Cw gEx gN gT abq Ym aes O1 Yl ag8 gFz dR S7 S8 S9 Kv uQ Wa agY agZ gRv ag2 aaY X7 jj Yq abx aey aby abz vN vF vC vB Ss aaG Sx uG rY oO oN oI Sy SJ agG SM dH bR jo zJ Ko Kp adZ Cu SN Tw Yr KY O2 zK Kr El XS Cv ad3 Ku SQ mF ji yt nH abu abv aeu aev aew aex abw Wg aec Int.reduceToNat Int.reducePow aed aa0 jc length_cons length_nil map_cons map_nil replicate cons_append nil_append append_nil List.getElem?_cons_zero List.getElem?_cons_succ List.set_cons_zero List.set_cons_succ Nat.reduceAdd Nat.reduceSub Nat.reduceLeDiff Nat.reduceEqDiff Bool.and_true Bool.true_and Bool.not_true Bool.not_false false_eq_true if_true if_false"
local macro_rules | `(tactic| walk_at "e0")=>do
 let a<-(evS.splitOn " ").toArray.mapM λs=>`(Lean.Parser.Tactic.simpLemma| $(Lean.mkIdent s.toName):ident)
 `(tactic| try simp only[$a,*,↓reduceIte])
namespace bF
open PyProof.Rows L2 VM EX
noncomputable abbrev j8:Stmt:=inClass (top 2) 0
section
variable {P:Program}{w:World}{K:Frag}{mg:Str->Option Value}{base:Heap}{C D:Addr}
structure Uj (K:Frag)(mg:Str->Option Value)(C D f0:Addr):Prop where
 xc:XC K C D
 xd:XD K D
 xi:XI K C
 ini:PySem.W.findIn K (.ref C) "__init__"=some (some (.ref f0))
 fn:PySem.W.isFn K (.ref f0)=true
 kp:keepIn K (.ref C)=true
 sa:PySem.W.findIn K (.ref C) "__setattr__"=some (some (.builtin "object.__setattr__"))
 pl:PySem.W.findIn K (.ref C) "place"=some none
 gC:mg "NoHall"=some (.ref C)
 gD:mg "HallError"=some (.ref D)
 cc:PySem.W.mroIn K C (.ref C)=some true
 cd:PySem.W.mroIn K C (.ref D)=some true
 bC:PySem.W.mroIn K C (.type "BaseException")=some true
 bD:PySem.W.mroIn K D (.type "BaseException")=some true
 tC:PySem.W.typeIn K (.ref C)=some (.type "type")
 tD:PySem.W.typeIn K (.ref D)=some (.type "type")
noncomputable def ab9 (v:V):Prop:=v=.non\/∃n:Int,v=.int n/\0<=n/\n<100
def u6 (C:Addr):Sp:=λvs H Q _=>∃e v,vs=[.ref e,v]/\ab9 v/\H e=some (bA e C none .none)/\∀dx,H dx=none->Q .non (upd (upd H dx (.xd [("place",v)])) e (bA e C (some dx) .none))
theorem YZ:bI ["self","place"] ["self","place"] (aj j8):=⟨rfl,rfl,rfl,by decide +kernel,rfl,by decide +kernel,by decide +kernel⟩
theorem Qa:∀n:Nat,n<100->(n:Int).natAbs.log2<1920/\(Str.empty++"passage "++toString (n:Int)).length<=sizeLine/\(Str.empty++"passage "++toString (n:Int)++" is wrong").length<=sizeLine:=by decide +kernel
theorem Y0 {f0:Addr}{fd:FuncData}(F:Fl K "__init__" "NoHall.__init__" j8 f0 fd)(c:Uj K mg C D f0):aQ P w K mg base cV 1 f0 fd ["self","place"] (u6 C):=by
 have vt:=(show(["self","place"]:List Str).all (λx=>dG (aj j8) x && plain x)=true by decide +kernel);refine Fl.ok (k:=0) F YZ (λvs H Q E h=>by obtain⟨_,_,rfl,_⟩:=h;rfl) λcdv A outer s H vs Q E hr hsp=>?_;obtain⟨e,v,rfl,hv,hE,hq⟩:=hsp;refine⟨_,aJ (cu (mH (xO (pV vt 1))) (aN (jH (HY c.xc c.xd (gl (sc:=aj j8) (by decide +kernel)) c.gD (au (pV vt 0) (au aY aM)))))
  (aN (jH (HY c.xc c.xd (gl (sc:=aj j8) (by decide +kernel)) c.gD (au (pV vt 0) (au (abT (pV vt 1)) aM))))))
  (aN (abP c.xc c.sa c.pl (pV vt 0) (pV vt 1) rfl)),?_⟩
 have fin:Kw C (vR 0) (vR 1) "place" {nx:=λ_ H'=>Q .non H',rt:=Q} [some (.ref e),some v] H:=by refine aH (v:=v) rfl (aH (v:=.ref e) rfl ⟨e,.none,rfl,hE,λdx hd=>hq dx hd⟩)
 rcases hv with rfl|⟨n,rfl,h0,h1⟩
 .unfold dX gK tB Dj;refine aH (v:=.non) rfl ⟨true,by simp,?_⟩;dsimp only;rw[if_pos rfl];unfold jG tBase aR bK;exact aH (v:=.ref e) rfl ⟨e,.str "this is no hall",none,.none,rfl,hE,fin⟩
 .unfold dX gK tB Dj;refine aH (v:=.int n) rfl ⟨false,by simp,?_⟩;dsimp only;rw[if_neg (by decide)];unfold jG tBase aR bK abS;obtain⟨k,rfl⟩:=eq_ofNat_of_zero_le h0;obtain⟨z1,z2,z3⟩:=Qa k (by omega);refine aH (v:=.ref e) rfl (aH (v:=.int k) rfl ⟨k,rfl,z1,z2,z3,λy=>⟨e,.str y,none,.none,rfl,hE,fin⟩⟩)
noncomputable def WQ:Nat->Str
 |0=>"NoHall"
 |1=>"NoName"
 |2=>"Twice"
 |3=>"TooMany"
 |4=>"NoPassage"
 |5=>"NoWidth"
 |_=>"NoLine"
structure xq (K:Frag)(mg:Str->Option Value)(C D:Addr)(x:Str):Prop where
 xc:XC K C D
 xi:XI K C
 ini:PySem.W.findIn K (.ref C) "__init__"=some (some (.builtin "ValueError.__init__"))
 kp:keepIn K (.ref C)=true
 g:mg x=some (.ref C)
 cd:PySem.W.mroIn K C (.ref D)=some true
structure gQ (K:Frag)(mg:Str->Option Value)(R:Nat->Addr)(D f0:Addr):Prop where
 no:Uj K mg (R 0) D f0
 one:∀k,1<=k->k<=6->xq K mg (R k) D (WQ k)
def lZ (R:Nat->Addr)(k:Nat)(H:Hp)(e:Addr)(dx:Option Addr):Prop:=(∃tb,H e=some (bA e (R k) dx tb))/\match k with
 |0=>∃d,dx=some d/\H d=some (.xd [("place",.non)])
 |_=>dx=none
theorem lZ.grow {R:Nat->Addr}{k:Nat}{H H':Hp}{e:Addr}{dx:Option Addr}(h:lZ R k H e dx)(s:Same H H'):lZ R k H' e dx:=by
 obtain⟨⟨tb,a⟩,b⟩:=h;refine⟨⟨tb,s _ _ a⟩,?_⟩;cases k with
 |zero=>obtain⟨d,b1,b2⟩:=b;exact⟨d,b1,s _ _ b2⟩
 |succ k=>exact b
def bT (R:Nat->Addr)(k:Nat)(H:Hp)(E:XK):Prop:=∀e dx H',Same H H'->H e=none->lZ R k H' e dx->E (.ref e) dx H'
theorem lZ.upd {R:Nat->Addr}{k:Nat}{H:Hp}{e:Addr}{dx:Option Addr}{T:Value}(h:lZ R k H e dx):lZ R k (upd H e (bA e (R k) dx T)) e dx:=by
 obtain⟨⟨tb,a⟩,b⟩:=h;refine⟨⟨T,aA⟩,?_⟩;cases k with
 |zero=>
  obtain⟨d,b1,b2⟩:=b;refine⟨d,b1,?_⟩;rw[aB λz=>by rw[z,a] at b2;cases b2];exact b2
 |succ k=>exact b
theorem cO {H H':Hp}{e:Addr}{o:HO}(s:Same H H')(h:H e=none):Same H (L2.upd H' e o):=λb ob z=>by rw[aB λy=>by subst y;rw[h] at z;cases z];exact s _ _ z
theorem WR {ta:TA}{E:XK}{D':Ends}{σ:L2.St}{H0 H:Hp}{R:Nat->Addr}{f0:Addr}(c:gQ K mg R D f0)(sm:Same H0 H)(ht:∀Q:List V->Hp->Prop,Q [.non] H->ta σ H Q)(q:bT R 0 H0 E):jT K E (Wt (R 0) (u6 (R 0)) ta) D' σ H:=by
 unfold jT Wt;refine ht _ ⟨by show 1<=sizeLine;decide,λe he=>⟨e,.non,rfl,.inl rfl,aA,λdx hd=>⟨rfl,e,R 0,D,some dx,rfl,c.no.xc,aA,λT=>?_⟩⟩⟩;have hde:dx≠e:=λz=>by subst z;rw[aA] at hd;cases hd
 rw[aB hde] at hd;have s1:Same H0 (L2.upd (L2.upd (L2.upd H e (bA e (R 0) none .none)) dx (.xd [("place",.non)])) e (bA e (R 0) (some dx) .none)):=cO (cO (cO sm (sm.free he)) (sm.free hd)) (sm.free he);exact q e (some dx) _ (cO s1 (sm.free he)) (sm.free he) (lZ.upd (k:=0) ⟨⟨.none,aA⟩,dx,rfl,by rw[aB hde,aA]⟩)
theorem jU {ta:TA}{E:XK}{D':Ends}{σ:L2.St}{H0 H:Hp}{R:Nat->Addr}{f0 k:Nat}(c:gQ K mg R D f0)(h1:1<=k)(h6:k<=6)(sm:Same H0 H)(ht:∀Q:List V->Hp->Prop,(∀y,Q [.str y] H)->ta σ H Q)(q:bT R k H0 E):jT K E (w6 (R k) ta) D' σ H:=by
 unfold jT w6;refine ht _ λy=>⟨.str y,rfl,λe he=>⟨e,R k,D,none,rfl,(c.one k h1 h6).xc,aA,λT=>?_⟩⟩;refine q e none _ (cO (cO sm (sm.free he)) (sm.free he)) (sm.free he) (lZ.upd ⟨⟨.none,aA⟩,?_⟩);cases k with
 |zero=>omega
 |succ k=>rfl
def CW:VT:=(Kl (iR (vB (oM Ax Ax (vC (.int 1)) (jo pJ (aC (vN 0) a0)) (vC (.int 12))))) (iR (vB (jo uV (aC (tH (fZ (vN 0)) [none] (gN 0) nH (oM jl jl (vC (.str "a")) (vN 0) (vC (.str "z")))) a0)))))
structure gR (nm:Str):Prop where
 lay:(PyData.str nm).canLay0=true
 len:nm.length<=100
 cps:∀c∈nm.cps.toList,c<16^8
def jB (nm:Str)(b:Bool):Prop:=CW [some (Tg.fr,.str nm)]=some (!b)
def u9 (R:Nat->Addr):Sp:=λvs H Q E=>∃nm b,vs=[.str nm]/\gR nm/\jB nm b/\if b=true then ∀H',Same H H'->Q .non H' else bT R 1 H E
theorem Iv:bI ["name"] ["name"] (aj (top 38)):=⟨rfl,rfl,rfl,by decide +kernel,rfl,by decide +kernel,by decide +kernel⟩
theorem Y4 {f f0:Addr}{fd:FuncData}{R:Nat->Addr}(F:cP K "look_at_name" "look_at_name" (top 38) f fd)(B:Bl mg)(KT:oU K)(c:gQ K mg R D f0)(Ui:mg "all"=none){tkL:Tok}(BZ:mg "LONGEST_NAME"=some (.int 12 tkL)):aQ P w K mg base (bN P w) 1 f fd ["name"] (u9 R):=by
 have nd:=Iv.nd;have vt:=(show(["name"]:List Str).all (λx=>dG (aj (top 38)) x && plain x)=true by decide +kernel);refine qQ (k:=0) F Iv (λvs H Q E h=>by obtain⟨_,_,rfl,_⟩:=h;rfl) λcdv A outer s H vs Q E hr hsp=>?_;refine⟨_,aN (cu (show PT (cC (bN P w) P w K mg base ["name"] "look_at_name" (aj (top 38)) f cdv A outer s H E) _ (fQ K CW) from(PW.pt (wOr (Km (cCh oLe hLe oLe hLe (sw lQ) (sw (tG (dj uq (gl (sc:=(aj (top 38))) (by decide +kernel)) B.len PySem.boot_len (N8 (mw (dN (pV vt 0))) N7)) Wq)) (sw (dC (g8 (v:=.int 12) (gl (sc:=(aj (top 38))) (by decide +kernel)) BZ ⟨_,rfl⟩) λ_=>rfl)))) (aaH (Km (cVal (tG (dj (abH rfl) (gl (sc:=(aj (top 38))) (by decide +kernel)) Ui PyProof.Rows.boot_all (N8 (nw (dLC (J7 (te:=tV K RS _) (tc:=fQ K _) (g:=qI K _ _) (N':=["sign"]) (cap:=[none]) ["name"] (aj (top 38)) rfl (by decide +kernel) rfl rfl (itS (mw (dN (pV vt 0)))) (λ_ _ _ _ _=>(tgN (uE (i:=0) (show(["sign"]:List Str).Nodup by decide +kernel) (by decide +kernel)))) (λ_ _ _ _ _=>ifN) (λ_ _ _ _ _=>(dCh pI K4 pI K4 (sw (Sq (by decide +kernel))) (mw (dN (pD (by decide +kernel) 0))) (sw (Sq (by decide +kernel)))))))) N7)) abI)))))))
  (aN (eV (jy (c.one 1 (by decide) (by decide)).xc (c.one 1 (by decide) (by decide)).ini (c.one 1 (by decide) (by decide)).kp (gl (sc:=aj (top 38)) (by decide +kernel)) (c.one 1 (by decide) (by decide)).g (au (kO (cJ (Ii (pV vt 0)) (cJ lD je))) aM)))) bM),?_⟩
 obtain⟨nm,b,rfl,wd,hb,hq⟩:=hsp;have fr:fU K H [some (Tg.fr,.str nm)] [some (.str nm)]:=⟨.str nm,_,rfl,rfl,⟨rfl,wd.lay⟩,rfl⟩;unfold gK;refine Fj (b:=!b) fr hb λH1 s1=>?_;cases b with
 |true=>
  try dsimp only
  rw[if_neg (by decide)];rw[if_pos rfl] at hq;exact hq H1 s1
 |false=>
  try dsimp only
  rw[if_pos (by decide)];rw[if_neg (by decide)] at hq;refine jU c (by decide) (by decide) s1 (λQ' r=>?_) hq;unfold aR bK tPR;exact aH (v:=.str nm) rfl ⟨nm,rfl,by have:=wd.len;omega,wd.cps,λy=>r y⟩
end
structure Cl (K:Frag)(C:Addr):Prop where
 cl:Cls K C
 n1:eY K C "numbers"
 n2:eY K C "laid"
theorem fj {K:Frag}{i:Nat}{f:Str}{σ:L2.St}{H:Hp}{Q:VK}{p C dx:Addr}{fs:List (Str×V)}{v:V}(e:σ[i]? =some (some (.ref p)))(h:H p=some (.ins C dx fs))(c:Cls K C)(n:eY K C f)(l:fs.lookup f=some v)(q:Q v H):
  Ds K (vR i) f σ H Q:=aH e ⟨p,C,dx,fs,v,rfl,h,c,n,l,q⟩
theorem pO {K:Frag}{i:Nat}{j:Int}{σ:L2.St}{H:Hp}{Q:VK}{t:Addr}{xs:List V}{v:V}(e:σ[i]? =some (some (.ref t)))(h:H t=some (.tup xs))(a:cR xs j=some v)(q:Q v H):dU (VP K) (vR i) (tC (.int j)) σ H Q:=
 aH e ⟨xs,v,cZ.of h,a,q⟩
theorem op1 {g:Int->Int->V}{ta:TE}{j:Int}{σ:L2.St}{H:Hp}{Q:VK}:dU (rM g) ta (tC (.int j)) σ H Q=ta σ H λx H1=>rM g x (.int j) H1 Q:=rfl
theorem WT {g:Int->Int->V}{ta:TE}{i:Nat}{σ:L2.St}{H:Hp}{Q:VK}{x y:Int}(h:∀R:VK,R (.int x) H->ta σ H R)(e:σ[i]? =some (some (.int y)))(q:Q (g x y) H):dU (rM g) ta (vR i) σ H Q:=h _ (aH e q)
section
variable {P:Program}{w:World}{K:Frag}{mg:Str->Option Value}{base:Heap}{C D f0:Addr}{R:Nat->Addr}{E:XK}{H H1:Hp}{k:Nat}
theorem bT.le (q:bT R k H E)(s:Same H H1):bT R k H1 E:=λe dx H' s' n r=>q e dx H' (s.trans s') (s.free n) r
theorem bT.on (q:bT R k H E):bT R k H λev dx H'=>∀e C T T2,ev=.ref e->H' e=some (bA e C dx (.ref T))->(∀C' tb,H' e=some (bA e C' dx tb)->C'=C)->E (.ref e) dx (L2.upd H' e (bA e C dx (.ref T2))):=by intro e dx H' s n r e' C T T2 hev hE u;cases hev;have hc:=u _ _ r.1.choose_spec;subst hc;exact q e dx _ (cO s n) n r.upd
def vd (C:Addr)(R:Nat->Addr):Sp:=λvs H Q E=>∃p dx nn ll nums ls nm,vs=[.ref p,.str nm]/\cF H C p dx nn ll nums ls/\gR nm/\match bB nm ls with
 |some _=>Q .non H
 |none=>bT R 4 H E
theorem Y5:bI ["self","name"] ["self","name"] (aj (bV 5)):=⟨rfl,rfl,rfl,by decide +kernel,rfl,by decide +kernel,by decide +kernel⟩
theorem Y6 {f:Addr}{fd:FuncData}(F:cP K "look_for" "NamedHall.look_for" (bV 5) f fd)(c:Cl K C)(r:gQ K mg R D f0):aQ P w K mg base (bN P w) 1 f fd ["self","name"] (vd C R):=by
 have vt:=(show(["self","name"]:List Str).all (λx=>dG (aj (bV 5)) x && plain x)=true by decide +kernel);have r4:=r.one 4 (by decide) (by decide);refine qQ (k:=0) F Y5 (λvs H Q E h=>by obtain⟨_,_,_,_,_,_,_,rfl,_⟩:=h;rfl) λcdv A outer s H vs Q E hr hsp=>?_;obtain⟨p,dx,nn,ll,nums,ls,nm,rfl,hh,wd,hq⟩:=hsp;refine⟨_,aN (cu (mH (Bk (mD hr) (pV vt 1) (eG (pV vt 0) rfl))) (aN (eV (jy r4.xc r4.ini r4.kp (gl (sc:=aj (bV 5)) (by decide +kernel)) r4.g (au (kO (cJ lD (cJ (yG (pV vt 1)) je))) aM)))) bM),?_⟩;obtain⟨kvs,hk,hl⟩:=hh.laid;have g:=qT nm hl;unfold gK tB zP;refine aH (v:=.str nm) rfl (fj (p:=p) rfl hh.ins c.cl c.n2 rfl ⟨ll,_,rfl,jk.k (k:=.inr nm) hk,_,rfl,?_⟩);cases hg:bB nm ls with
 |some q=>
  rw[hg] at g hq;obtain⟨t,gv,gt⟩:=g;rw[gv];exact hq
 |none=>
  rw[hg] at g hq;rw[show dI kvs (.inr nm)=none from g];try dsimp only
  rw[if_pos (by rfl)];refine jU r (by decide) (by decide) (Same.refl _) (λQ' z=>?_) hq;unfold aR bK Fq;exact aH (v:=.str nm) rfl ⟨nm,rfl,by have:=wd.len;omega,z⟩
end
section
variable {P:Program}{w:World}{K:Frag}{mg:Str->Option Value}{base:Heap}{C D f0:Addr}{R:Nat->Addr}
def Ln (C:Addr):Sp:=λvs H Q _=>∃p dx nn ll nums ls nm q ch,vs=[.ref p,.str nm,.int ch]/\cF H C p dx nn ll nums ls/\bB nm ls=some q/\ls.length<100/\
 ∀H',cF H' C p dx nn ll nums (jz nm (q.1,q.2.1,q.2.2.1+ch,q.2.2.2) ls)->dO nn ll H H'->Q .non H'
theorem Qc:bI ["self","name","change","passage"] ["self","name","change"] (aj (bV 6)):=⟨rfl,rfl,rfl,by decide +kernel,rfl,by decide +kernel,by decide +kernel⟩
theorem acd {f:Addr}{fd:FuncData}(F:cP K "change_width" "NamedHall.change_width" (bV 6) f fd)(c:Cl K C):aQ P w K mg base cV 1 f fd ["self","name","change"] (Ln C):=by
 have nd:=Qc.nd;have vt:=(show(["self","name","change","passage"]:List Str).all (λx=>dG (aj (bV 6)) x && plain x)=true by decide +kernel);refine cP.ok (k:=0) F Qc (λvs H Q E h=>by obtain⟨_,_,_,_,_,_,_,_,_,rfl,_⟩:=h;rfl) λcdv A outer s H vs Q E hr hsp=>?_;obtain⟨p,dx,nn,ll,nums,ls,nm,q,ch,rfl,hh,hg,hn,hq⟩:=hsp;refine⟨_,aJ (cU (i:=3) nd rfl (lo (sc:=aj (bV 6)) (by decide +kernel)) (vL (mD hr) (eG (pV vt 0) rfl) (pV vt 1) (λ_ _=>rfl)))
  (aN (zQ (mD hr) (eG (pV vt 0) rfl) (pV vt 1) (uo (au (cM yg (pV vt 3) aP) (au (cM yg (pV vt 3) aP) (au (bU Ed (cM yg (pV vt 3) aP) (pV vt 2)) (au (cM yg (pV vt 3) aP) aM))))) rfl)),?_⟩
 obtain⟨kvs,hk,hl⟩:=hh.laid;have g:=qT nm hl;rw[hg] at g;obtain⟨t,gv,gt⟩:=g;have hkl:=hl.length;unfold dX gM CJ cN CK JX aR;refine fj (p:=p) rfl hh.ins c.cl c.n2 rfl (aH (v:=.str nm) rfl ⟨ll,.ref t,rfl,by rw[<-gv];exact jk.k (k:=.inr nm) hk,?_⟩);dsimp only;refine pO (t:=t) rfl gt rfl (pO (t:=t) rfl gt rfl (WT (x:=q.2.2.1) (y:=ch) (λR r=>pO (t:=t) rfl gt rfl r) rfl (pO (t:=t) rfl gt rfl ⟨by show 4<=sizeLine;decide,λt' ht'=>?_⟩)));have hne:ll≠t':=bO hk ht';have same:=aW (o:=.tup [.int q.1,.int q.2.1,.int (q.2.2.1+ch),.int q.2.2.2]) ht';have hh1:=hh.grow same;have hk1:=same _ _ hk;refine fj (p:=p) rfl hh1.ins c.cl c.n2 rfl (aH (v:=.str nm) rfl ⟨ll,_,rfl,sS.k (k:=.inr nm) hk1 (sI (by omega)),?_⟩);refine hq _ (hh1.put hk1 (P0 (q:=(q.1,q.2.1,q.2.2.1+ch,q.2.2.2)) aA (hl.mono λ_ _ z=>z.same λu xs e=>same _ _ e))) ((dO.same same).trans (dO.put hk1))
def yN (C:Addr)(R:Nat->Addr):Sp:=λvs H Q E=>∃p dx nn ll nums ls nm,vs=[.ref p,.str nm]/\cF H C p dx nn ll nums ls/\gR nm/\match bB nm ls with
 |some _=>∀H',cF H' C p dx nn ll nums (Lk nm ls)->dO nn ll H H'->Q .non H'
 |none=>bT R 4 H E
theorem Y7:bI ["self","name"] ["self","name"] (aj (bV 2)):=⟨rfl,rfl,rfl,by decide +kernel,rfl,by decide +kernel,by decide +kernel⟩
theorem Y8 {f:Addr}{fd:FuncData}(F:cP K "shut" "NamedHall.shut" (bV 2) f fd)(c:Cl K C){f5:Addr}{vf:FuncData}(F5:aQ P w K mg base (bN P w) 1 f5 vf ["self","name"] (vd C R))(m5:Meth K C "look_for" f5)(b5:Binds K vf ["self","name"] []):
  aQ P w K mg base (bN P w) 2 f fd ["self","name"] (yN C R):=by
 have vt:=(show(["self","name"]:List Str).all (λx=>dG (aj (bV 2)) x && plain x)=true by decide +kernel);refine qQ (k:=1) F Y7 (λvs H Q E h=>by obtain⟨_,_,_,_,_,_,_,rfl,_⟩:=h;rfl) λcdv A outer s H vs Q E hr hsp=>?_;obtain⟨p,dx,nn,ll,nums,ls,nm,rfl,hh,wd,hq⟩:=hsp;refine⟨_,aJ (dY (iy (pV vt 0) c.cl m5 F5 hr b5 (au (pV vt 1) aM))) (aN (jH (TJ (eG (pV vt 0) rfl) (pV vt 1) ⟨rfl,rfl,rfl,rfl⟩))),?_⟩;obtain⟨kvs,hk,hl⟩:=hh.laid;have g:=qT nm hl;unfold dX jG jY O9 aR bK;refine aH (v:=.ref p) rfl ⟨p,dx,_,rfl,hh.ins,rfl,aH (v:=.str nm) rfl ⟨p,dx,nn,ll,nums,ls,nm,rfl,hh,wd,?_⟩⟩;cases hg:bB nm ls with
 |none=>rw[hg] at hq;exact hq.on
 |some q=>rw[hg] at hq g;obtain⟨t,gv,gt⟩:=g;dsimp only;refine fj (p:=p) rfl hh.ins c.cl c.n2 rfl ⟨ll,rfl,.inl ⟨_,.inl hk⟩,aH (v:=.str nm) rfl ⟨kvs,.inr nm,.ref t,hk,rfl,gv,?_⟩⟩;exact hq _ (hh.put hk (YW hl)) (dO.put hk)
noncomputable def kW (n:Int):Prop:=n.natAbs.log2<1920
def vU (C:Addr)(R:Nat->Addr):Sp:=λvs H Q E=>∃p dx nn ll nums ls nm ch,vs=[.ref p,.str nm,.int ch]/\cF H C p dx nn ll nums ls/\gR nm/\kW ch/\ls.length<100/\match bB nm ls with
 |none=>bT R 4 H E
 |some q=>if ch<1 then bT R 5 H E else ∀H',cF H' C p dx nn ll nums (jz nm (q.1,q.2.1,q.2.2.1+ch,q.2.2.2) ls)->dO nn ll H H'->Q .non H'
theorem Uk:bI ["self","name","more"] ["self","name","more"] (aj (bV 3)):=⟨rfl,rfl,rfl,by decide +kernel,rfl,by decide +kernel,by decide +kernel⟩
theorem Ul {f:Addr}{fd:FuncData}(F:cP K "widen" "NamedHall.widen" (bV 3) f fd)(c:Cl K C)(r:gQ K mg R D f0){f5 f6:Addr}{vf Qd:FuncData}(F5:aQ P w K mg base (bN P w) 1 f5 vf ["self","name"] (vd C R))(m5:Meth K C "look_for" f5)(b5:Binds K vf ["self","name"] [])
  (F6:aQ P w K mg base cV 1 f6 Qd ["self","name","change"] (Ln C))(m6:Meth K C "change_width" f6)(b6:Binds K Qd ["self","name","change"] []):
  aQ P w K mg base (bN P w) 2 f fd ["self","name","more"] (vU C R):=by
 have vt:=(show(["self","name","more"]:List Str).all (λx=>dG (aj (bV 3)) x && plain x)=true by decide +kernel);have r5:=r.one 5 (by decide) (by decide);refine qQ (k:=1) F Uk (λvs H Q E h=>by obtain⟨_,_,_,_,_,_,_,_,rfl,_⟩:=h;rfl) λcdv A outer s H vs Q E hr hsp=>?_;obtain⟨p,dx,nn,ll,nums,ls,nm,ch,rfl,hh,wd,fw,hn,hq⟩:=hsp;refine⟨_,aJ (dY (iy (pV vt 0) c.cl m5 F5 hr b5 (au (pV vt 1) aM))) (aJ (cu (fH oLt (pV vt 2) aP) (aN (eV (jy r5.xc r5.ini r5.kp (gl (sc:=aj (bV 3)) (by decide +kernel)) r5.g (au (kO (cJ (Fp (pV vt 2)) (cJ lD je))) aM)))) bM)
  (aN (jH (qC (pV vt 0) c.cl m6 F6 hr b6 .nil mC (au (pV vt 1) (au (pV vt 2) aM)))))),?_⟩
 unfold dX jG kZ jY aR bK;refine aH (v:=.ref p) rfl ⟨p,dx,_,rfl,hh.ins,rfl,aH (v:=.str nm) rfl ⟨p,dx,nn,ll,nums,ls,nm,rfl,hh,wd,?_⟩⟩;cases hg:bB nm ls with
 |none=>rw[hg] at hq;exact hq.on
 |some q=>
  rw[hg] at hq;dsimp only at hq ⊢;unfold gK iY;rw[op1];refine aH (v:=.int ch) rfl ?_;show(if decide (ch<1)=true then _ else _);by_cases h1:ch<1
  .rw[if_pos h1] at hq;rw[if_pos (by simp[h1])];refine jU r (by decide) (by decide) (Same.refl _) (λQ' z=>?_) hq;unfold Ig;exact aH (v:=.int ch) rfl ⟨ch,rfl,fw,z⟩
  .rw[if_neg h1] at hq;rw[if_neg (by simp[h1])];unfold jF;dsimp only;refine aH (v:=.ref p) rfl ⟨p,dx,_,rfl,hh.ins,rfl,aH (v:=.str nm) rfl (aH (v:=.int ch) rfl ⟨p,dx,nn,ll,nums,ls,nm,q,ch,rfl,hh,hg,hn,λH' h1 h2=>?_⟩)⟩;exact hq H' h1 h2
end
section
variable {P:Program}{w:World}{K:Frag}{mg:Str->Option Value}{base:Heap}{C D f0:Addr}{R:Nat->Addr}
def sV (C:Addr)(R:Nat->Addr):Sp:=λvs H Q E=>∃p dx nn ll nums ls nm ch,vs=[.ref p,.str nm,.int ch]/\cF H C p dx nn ll nums ls/\gR nm/\kW ch/\ls.length<100/\match bB nm ls with
 |none=>bT R 4 H E
 |some q=>if ch<1\/q.2.2.1 - ch<1 then bT R 5 H E else ∀H',cF H' C p dx nn ll nums (jz nm (q.1,q.2.1,q.2.2.1+ -ch,q.2.2.2) ls)->dO nn ll H H'->Q .non H'
theorem Qe:bI ["self","name","less"] ["self","name","less"] (aj (bV 4)):=⟨rfl,rfl,rfl,by decide +kernel,rfl,by decide +kernel,by decide +kernel⟩
theorem Qf {f:Addr}{fd:FuncData}(F:cP K "narrow" "NamedHall.narrow" (bV 4) f fd)(c:Cl K C)(r:gQ K mg R D f0){f5 f6:Addr}{vf Qd:FuncData}(F5:aQ P w K mg base (bN P w) 1 f5 vf ["self","name"] (vd C R))(m5:Meth K C "look_for" f5)(b5:Binds K vf ["self","name"] [])
  (F6:aQ P w K mg base cV 1 f6 Qd ["self","name","change"] (Ln C))(m6:Meth K C "change_width" f6)(b6:Binds K Qd ["self","name","change"] []):
  aQ P w K mg base (bN P w) 2 f fd ["self","name","less"] (sV C R):=by
 have vt:=(show(["self","name","less"]:List Str).all (λx=>dG (aj (bV 4)) x && plain x)=true by decide +kernel);have r5:=r.one 5 (by decide) (by decide);refine qQ (k:=1) F Qe (λvs H Q E h=>by obtain⟨_,_,_,_,_,_,_,_,rfl,_⟩:=h;rfl) λcdv A outer s H vs Q E hr hsp=>?_;obtain⟨p,dx,nn,ll,nums,ls,nm,ch,rfl,hh,wd,fw,hn,hq⟩:=hsp;refine⟨_,aJ (dY (iy (pV vt 0) c.cl m5 F5 hr b5 (au (pV vt 1) aM)))
  (aJ (cu (PW.pt (o8 (fH oLt (pV vt 2) aP) (nU (fH oLt (bU R8 (cM yg (vL (mD hr) (eG (pV vt 0) rfl) (pV vt 1) (λ_ _=>rfl)) aP) (pV vt 2)) aP)))) (aN (eV (jy r5.xc r5.ini r5.kp (gl (sc:=aj (bV 4)) (by decide +kernel)) r5.g (au (kO (cJ (Fp (pV vt 2)) (cJ lD (cJ (yG (pV vt 1)) (cJ lD je))))) aM)))) bM)
  (aN (jH (qC (pV vt 0) c.cl m6 F6 hr b6 .nil mC (au (pV vt 1) (au (Cd xV (pV vt 2)) aM)))))),?_⟩
 obtain⟨kvs,hk,hl⟩:=hh.laid;have g:=qT nm hl;unfold dX jG kZ jY aR bK;refine aH (v:=.ref p) rfl ⟨p,dx,_,rfl,hh.ins,rfl,aH (v:=.str nm) rfl ⟨p,dx,nn,ll,nums,ls,nm,rfl,hh,wd,?_⟩⟩;cases hg:bB nm ls with
 |none=>rw[hg] at hq;exact hq.on
 |some q=>
  rw[hg] at hq g;obtain⟨t,gv,gt⟩:=g;dsimp only at hq ⊢;have no:∀D':Ends,(ch<1\/q.2.2.1 - ch<1)->jT K E (w6 (R 5) λσ H Q=>Ig (vR 2) σ H λH1=>Fq (vR 1) σ H1 λH2=>∀y,Q [.str y] H2) D' [some (.ref p),some (.str nm),some (.int ch)] H:=λD' h=>by rw[if_pos h] at hq;refine jU r (by decide) (by decide) (Same.refl _) (λQ' z=>?_) hq;unfold Ig Fq;exact aH (v:=.int ch) rfl ⟨ch,rfl,fw,aH (v:=.str nm) rfl ⟨nm,rfl,by have:=wd.len;omega,z⟩⟩
  unfold gK Mv iY;rw[op1];refine aH (v:=.int ch) rfl ?_;show(if decide (ch<1)=true then _ else _);by_cases h1:ch<1
  .rw[if_pos (by simp[h1])];exact no {nx:=λ_ _=>True,rt:=λ_ _=>True} (.inl h1)
  rw[if_neg (by simp[h1]),op1];refine WT (x:=q.2.2.1) (y:=ch) (λR' r'=>?_) rfl ?_
  .unfold dU CJ;exact fj (p:=p) rfl hh.ins c.cl c.n2 rfl (aH (v:=.str nm) rfl ⟨ll,.ref t,rfl,by rw[<-gv];exact jk.k (k:=.inr nm) hk,⟨_,_,cZ.of gt,rfl,r'⟩⟩)
  show(if decide (q.2.2.1 - ch<1)=true then _ else _);by_cases h2:q.2.2.1 - ch<1
  .rw[if_pos (by simp[h2])];exact no {nx:=λ_ _=>True,rt:=λ_ _=>True} (.inr h2)
  rw[if_neg (by simp[h2])];rw[if_neg (by omega)] at hq;unfold jF;dsimp only;refine aH (v:=.ref p) rfl ⟨p,dx,_,rfl,hh.ins,rfl,aH (v:=.str nm) rfl ?_⟩;unfold MN;refine aH (v:=.int ch) rfl ⟨ch,rfl,p,dx,nn,ll,nums,ls,nm,q,-ch,rfl,hh,hg,hn,λH' h1 h2=>?_⟩;exact hq H' h1 h2
end
end bF
namespace bF
open PyProof.Rows L2 VM
theorem aeM {a:Addr}{o:Obj}{kvs:List (Key×V)}{g:TG}{tb:TS}{D:Ends}{σ:L2.St}{H:Hp}(Pv:Nat->L2.St->Hp->Prop)(h0:Pv 0 σ H)(hl:∀i σ H,i<=kvs.length->Pv i σ H->H a=some (.dR o (.dK kvs)))
  (hs:∀i kv σ H p,kvs[i]? =some kv->Pv i σ H->H p=none->g (.ref p) σ (upd H p (.tup [kV kv.1,kv.2])) λσ2 H2=>tb {D with nx:=Pv (i+1),ct:=Pv (i+1),bk:=D.nx} σ2 H2)(hd:∀σ H,Pv kvs.length σ H->D.nx σ H):
  Cr (Iti a o kvs) g tb D σ H:=by
 refine⟨λi m σ H=>m=kvs.length - i/\i<=kvs.length/\Pv i σ H,⟨kvs.length,by simp,zero_le _,h0⟩,?_⟩;rintro i m σ H ⟨rfl,hi,p⟩;have q:=hl i σ H hi p;by_cases hlt:i<kvs.length
 .refine .inr ⟨⟨q,hlt⟩,Pv (i+1),λσ' H' p'=>⟨kvs.length - (i+1),by omega,rfl,hlt,p'⟩,λx H' y=>?_⟩;obtain⟨pp,kv,hz,hn,e1,e2⟩:=y;subst e1 e2;exact hs i kv σ _ pp hz p hn
 .have e:i=kvs.length:=by omega
  subst e;exact .inl ⟨⟨q,le_refl _⟩,hd σ H p⟩
theorem Lp {X:Cx}:c7 X (.builtin "len") (λxs H Q=>∃a kvs,xs=[.ref a]/\H a=some (.dK kvs)/\Q (.int kvs.length) H):=by intro pins s σ H xs us Q I r h;obtain⟨a,kvs,rfl,ha,q⟩:=h;obtain⟨u,rfl,rx⟩:=vals1 r;cases rx;exact aeB I (.inl ha) λt s' I'=>⟨.int _,H,I',⟨t,rfl⟩,q⟩
noncomputable abbrev Row:=Str×Str×Str×Int×Int
noncomputable def zW (r:Row):List V:=[.str r.1,.str r.2.1,.str r.2.2.1,.int r.2.2.2.1,.int r.2.2.2.2]
def Um (H:Hp)(v:V)(r:Row):Prop:=∃t,v=.ref t/\H t=some (.tup (zW r))
def LR (seen:List Str)(x:Str×Q4)(r:Row):Prop:=x.1=r.1/\cR (seen.map V.str) x.2.1=some (.str r.2.1)/\cR (seen.map V.str) x.2.2.1=some (.str r.2.2.1)/\x.2.2.2.1=r.2.2.2.1/\x.2.2.2.2=r.2.2.2.2
noncomputable def seenOf (nums:List (Str×Int)):List Str:=nums.map (·.1)
theorem Same.keep {H H':Hp}{p:Addr}{o:HO}(hp:H p=none)(k:∀b ob,b≠p->H b=some ob->H' b=some ob):Same H H':=λb ob e=>k b ob (λz=>by subst z;rw[hp] at e;cases e) e
theorem sW {α β:Type}{R:α->β->Prop}{l:List α}{r:List β}(h:Paired R l r):∀{i:Nat}{a:α},l[i]? =some a->∃b,r[i]? =some b/\R a b:=by
 induction h with
 |nil=>intro i a e;cases e
 |cons h _ ih=>
  intro i a e;cases i with
  |zero=>cases e;exact⟨_,rfl,h⟩
  |succ i=>exact ih e
theorem wL {α β:Type}{R:α->β->Prop}:∀{l:List α}{r:List β} {a:α} {b:β},Paired R l r->R a b->Paired R (l++[a]) (r++[b])
 |_,_,_,_,.nil,h=>.cons h .nil
 |_,_,_,_,.cons x r,h=>.cons x (wL r h)
section
variable {P:Program}{w:World}{K:Frag}{mg:Str->Option Value}{base:Heap}{C:Addr}
def zX (C:Addr):Sp:=λvs H Q _=>∃p dx nn ll nums ls,vs=[.ref p]/\cF H C p dx nn ll nums ls/\∀z,H z=none->Q (.ref z) (upd H z (.lst ((seenOf nums).map V.str)))
theorem Uo:bI ["self"] ["self"] (aj (bV 7)):=⟨rfl,rfl,rfl,by decide +kernel,rfl,by decide +kernel,by decide +kernel⟩
theorem Uq {f:Addr}{fd:FuncData}(F:cP K "rooms" "NamedHall.rooms" (bV 7) f fd)(B:Bl mg)(c:Cl K C):aQ P w K mg base cV 1 f fd ["self"] (zX C):=by
 have vt:=(show(["self"]:List Str).all (λx=>dG (aj (bV 7)) x && plain x)=true by decide +kernel);refine cP.ok (k:=0) F Uo (λvs H Q E h=>by obtain⟨_,_,_,_,_,_,rfl,_⟩:=h;rfl) λcdv A outer s H vs Q E hr hsp=>?_;obtain⟨p,dx,nn,ll,nums,ls,rfl,hh,hq⟩:=hsp;refine⟨_,aN (cT (iJ (abL rfl) (gl (sc:=aj (bV 7)) (by decide +kernel)) B.list PyProof.Rows.boot_list (au (eG (pV vt 0) rfl) aM))),?_⟩;unfold lJ mO aR bK;refine fj (p:=p) rfl hh.ins c.cl c.n1 rfl ⟨nn,_,rfl,hh.num,λz hz=>?_⟩;have e:(nums.map iz).map (λkv=>kV kv.1)=(seenOf nums).map V.str:=by unfold seenOf;rw[map_map,map_map];rfl
 rw[e];exact hq z hz
def Qg (C:Addr):Sp:=λvs H Q _=>∃p dx nn ll nums ls rows,vs=[.ref p]/\cF H C p dx nn ll nums ls/\ls.length<100/\Paired (LR (seenOf nums)) ls rows/\
 ∀H' q ts,Same H H'->H q=none->H' q=some (.lst ts)->Paired (Um H') ts rows->Q (.ref q) H'
theorem Iw:bI ["self","rooms","told","name","passage"] ["self"] (aj (bV 8)):=⟨rfl,rfl,rfl,by decide +kernel,rfl,by decide +kernel,by decide +kernel⟩
theorem Qh {i:Nat}{tj:TE}{σ:L2.St}{H:Hp}{Q:VK}{t:Addr}{xs:List V}{j:Int}{v:V}(e:σ[i]? =some (some (.ref t)))(h:H t=some (.lst xs))(hj:∀R:VK,R (.int j) H->tj σ H R)(a:cR xs j=some v)(q:Q v H):dU (lu K) (vR i) tj σ H Q:=
 aH e (hj _ ⟨xs,v,aU.of h,a,q⟩)
theorem Y9 {f:Addr}{fd:FuncData}(F:cP K "passages" "NamedHall.passages" (bV 8) f fd)(c:Cl K C){f7:Addr}{fd7:FuncData}(F7:aQ P w K mg base cV 1 f7 fd7 ["self"] (zX C))(m7:Meth K C "rooms" f7)(b7:Binds K fd7 ["self"] []):
  aQ P w K mg base cV 2 f fd ["self"] (Qg C):=by
 have nd:=Iw.nd;have vt:=(show(["self","rooms","told","name","passage"]:List Str).all (λx=>dG (aj (bV 8)) x && plain x)=true by decide +kernel);refine cP.ok (k:=1) F Iw (λvs H Q E h=>by obtain⟨_,_,_,_,_,_,_,rfl,_⟩:=h;rfl) λcdv A outer s H vs Q E hr hsp=>?_;obtain⟨p,dx,nn,ll,nums,ls,rows,rfl,hh,hn,hR,hq⟩:=hsp;refine⟨_,aJ (cU (i:=1) nd rfl (lo (sc:=aj (bV 8)) (by decide +kernel)) (wO (pV vt 0) c.cl m7 F7 hr b7 .nil mC))
  (aJ (cU (i:=2) nd rfl (lo (sc:=aj (bV 8)) (by decide +kernel)) (qz aM))
  (aJ (T5 (uf PassesOwn.never rfl (T4 (eG (pV vt 0) rfl)) (V3 (n:=2) rfl (zF (jJ (i:=3) nd rfl (lo (sc:=aj (bV 8)) (by decide +kernel))) (zF (jJ (i:=4) nd rfl (lo (sc:=aj (bV 8)) (by decide +kernel))) NQ)))
   (aN (jH (Cp (pV vt 2) (au (uo (au (pV vt 3) (au (cM fJ (pV vt 1) (cM yg (pV vt 4) aP)) (au (cM fJ (pV vt 1) (cM yg (pV vt 4) aP)) (au (cM yg (pV vt 4) aP) (au (cM yg (pV vt 4) aP) aM)))))) aM))))))
  (aN (cT (pV vt 2))))),?_⟩
 obtain⟨kvs,hk,hl⟩:=hh.laid;have hkl:=hl.length;have hrl:=hR.length;unfold dX gM kZ bK cN JZ;refine aH (v:=.ref p) rfl ⟨p,dx,_,rfl,hh.ins,rfl,p,dx,nn,ll,nums,ls,rfl,hh,λrz hrz=>?_⟩;dsimp only;refine⟨zero_le _,λtz WW=>?_⟩;have s1:=aW (o:=.lst ((seenOf nums).map V.str)) hrz;have s2:=aW (o:=.lst []) WW;have s12:=s1.trans s2;have hz0:H tz=none:=s1.free WW;have hrt:rz≠tz:=λz=>by subst z;rw[aA] at WW;cases WW
 have Ur:ll≠tz:=bO hk hz0;refine⟨ll,kvs,s12 _ _ hk,?_⟩;rw[zG];unfold Pb RL;refine fj (p:=p) rfl (s12 _ _ hh.ins) c.cl c.n2 rfl ⟨.inr (.inr (.inl ⟨rfl,.inl ⟨kvs,s12 _ _ hk⟩⟩)),kvs,s12 _ _ hk,λz hz=>?_⟩;refine⟨z,ll,kvs,_,rfl,rfl,hz,s12 _ _ hk,λo=>?_⟩;have s3:=aW (o:=HO.ext λh=>h.get? z=some (j7 ll)) hz;have hzt:tz≠z:=λy=>by subst y;rw[aA] at hz;cases hz
 have hzr:rz≠z:=λy=>by subst y;rw[aB hrt,aA] at hz;cases hz
 have ahj:ll≠rz:=bO hk hrz;refine aeM (λi σ' H'=>(∃x y,σ'=[some (.ref p),some (.ref rz),some (.ref tz),x,y])/\H' ll=some (.dR o (.dK kvs))/\H' rz=some (.lst ((seenOf nums).map V.str))/\(∃ts,H' tz=some (.lst ts)/\ts.length=i/\Paired (Um H') ts (rows.take i))/\∀b ob,b≠ll->H b=some ob->H' b=some ob)
  ⟨⟨_,_,rfl⟩,aA,by rw[aB ahj.symm,aB hzr,aB hrt,aA],⟨[],by rw[aB Ur.symm,aB hzt,aA],rfl,.nil⟩,λb ob hb e=>by rw[aB hb];exact s3 _ _ (s12 _ _ e)⟩ (λ_ _ _ _ h=>h.2.1) ?_ ?_
 .rintro i kv σ' H' p' hkv ⟨⟨x,y,rfl⟩,i1,i2,⟨ts,i3,i4,i5⟩,i6⟩ hp';obtain⟨x1,e1,e2⟩:=sW hl hkv;obtain⟨r,e3,e4⟩:=sW hR e1;obtain⟨hkey,t,hv,ht⟩:=e2;obtain⟨l1,l2,l3,l4,l5⟩:=e4;have hi:i<kvs.length:=(List.getElem?_eq_some_iff.mp hkv).1;rw[l1] at hkey;have htl:t≠ll:=λz=>by subst z;rw[hk] at ht;cases ht
  have ht':=i6 _ _ htl ht;have s4:=aW (o:=.tup [kV kv.1,kv.2]) hp';refine⟨_,cZ.of aA,rfl,?_⟩;rw[hkey,hv];show jG (pB K "list" yj (vR 2) _) _ [some (.ref p),some (.ref rz),some (.ref tz),some (.str r.1),some (.ref t)] _;rw[hkey,hv] at s4;unfold jG pB;refine aH (v:=.ref tz) rfl ⟨.inl ⟨rfl,_,aU.of (s4 _ _ i3)⟩,?_⟩;unfold aR JX;refine aH (v:=.str r.1) rfl (Qh (t:=rz) rfl (s4 _ _ i2) (λR r=>pO (t:=t) rfl (s4 _ _ ht') rfl r) l2 (Qh (t:=rz) rfl (s4 _ _ i2) (λR r=>pO (t:=t) rfl (s4 _ _ ht') rfl r) l3 (pO (t:=t) rfl (s4 _ _ ht') rfl (pO (t:=t) rfl (s4 _ _ ht') rfl ⟨by show 5<=sizeLine;decide,λt' ht2=>?_⟩))));rw[l4,l5];have s5:=aW (o:=.tup (zW r)) ht2;refine⟨ts,s5 _ _ (s4 _ _ i3),sI (by omega),?_⟩;have Iz:=s4.trans s5;have nt:∀b ob,b≠tz->upd (upd H' p' (.tup [kV (Sum.inr r.1),V.ref t])) t' (.tup (zW r)) b=some ob->upd (upd (upd H' p' (.tup [kV (Sum.inr r.1),V.ref t])) t' (.tup (zW r))) tz (.lst (ts++[.ref t'])) b=some ob:=λb ob hb e=>by rw[aB hb];exact e
  have ntt:∀b xs,upd (upd H' p' (.tup [kV (Sum.inr r.1),V.ref t])) t' (.tup (zW r)) b=some (.tup xs)->b≠tz:=λb xs e z=>by subst z;rw[Iz _ _ i3] at e;cases e
  refine⟨⟨_,_,rfl⟩,nt _ _ Ur (Iz _ _ i1),nt _ _ hrt (Iz _ _ i2),⟨_,aA,by rw[length_append,i4];rfl,?_⟩,λb ob hb e=>nt _ _ (λz=>by subst z;rw[hz0] at e;cases e) (Iz _ _ (i6 _ _ hb e))⟩;have etk:rows.take (i+1)=rows.take i++[r]:=by rw[take_succ,e3];rfl
  rw[etk];refine wL (i5.mono λv r' h=>?_) ⟨t',rfl,nt _ _ (ntt _ _ aA) aA⟩;obtain⟨u,eu,hu⟩:=h;exact⟨u,eu,nt _ _ (ntt _ _ (Iz _ _ hu)) (Iz _ _ hu)⟩
 .rintro σ' H' ⟨⟨x,y,rfl⟩,i1,i2,⟨ts,i3,i4,i5⟩,i6⟩;refine⟨o,i1,?_⟩;unfold lJ;refine aH (v:=.ref tz) rfl ?_;refine hq _ tz ts (λb ob e=>?_) hz0 (by rw[aB Ur.symm];exact i3) ?_
  .by_cases hb:b=ll
   .subst hb;rw[hk] at e;cases e;exact aA
   .rw[aB hb];exact i6 _ _ hb e
  .rw[take_of_length_le (by omega)] at i5;refine i5.mono λv r' h=>?_;obtain⟨u,eu,hu⟩:=h;exact⟨u,eu,by rw[aB λz=>by subst z;rw[i1] at hu;cases hu];exact hu⟩
end
open EX
def ahk:Stmt->Scope
 |.Assign _ (.ListComp _ _ sc _) _=>sc
 |_=>aj (.Pass ⟨0,0,0,0⟩)
def m9 (nums:List (Str×Int))(rs:List Str):List (Str×Int):=rs.foldl (λn r=>jz r (n.length:Int) n) nums
def newOf (nums:List (Str×Int))(rs:List Str):List Str:=rs.filter λr=>(bB r nums).isNone
theorem Us {α:Type}(nm:Str)(v:α)(l:List (Str×α)):(jz nm v l).length<=l.length+1:=by
 unfold jz;split
 .rw[length_map];omega
 .rw[length_append];simp
theorem Ut (rs:List Str):∀nums,(m9 nums rs).length<=nums.length+rs.length:=by
 induction rs with
 |nil=>intro nums;exact le_refl _
 |cons r rs ih=>intro nums;have h1:=ih (jz r (nums.length:Int) nums);have h2:=Us r (nums.length:Int) nums;show(m9 (jz r (nums.length:Int) nums) rs).length<=_;rw[length_cons];omega
theorem lcF {K:Frag}{a:Addr}{xs:List V}{cap:List (Option Nat)}{tc:TT}{te:TE}{σ:L2.St}{H1:Hp}{Q:VK}(keep:V->Bool)(hq:cZ K H1 a xs)(hz:xs.length<sizeLine)
  (hc:∀x∈xs,∀D ys (R:Bool->Hp->Prop),H1 D=none->R (keep x) (upd H1 D (.lst ys))->tc ((bH cap σ).set 0 (some x)) (upd H1 D (.lst ys)) R)
  (hk:∀x,eZ (bH cap σ) ((bH cap σ).set 0 (some x)))(he:∀(x:V) (H:Hp) (R:VK),R x H->te ((bH cap σ).set 0 (some x)) H R)
  (hQ:∀D,H1 D=none->Q (.ref D) (upd H1 D (.lst (xs.filter keep)))):DW (ZW K a) cap (cN 0) tc te σ H1 Q:=by
 intro D hD;refine⟨λi m H=>m=xs.length - i/\i<=xs.length/\H=upd H1 D (.lst ((xs.take i).filter keep)),⟨_,rfl,zero_le _,rfl⟩,?_⟩;rintro i m H ⟨rfl,hi,rfl⟩;have uF:cZ K (upd H1 D (.lst ((xs.take i).filter keep))) a xs:=(aW hD).J8 hq;by_cases hlt:i<xs.length
 .refine .inr ⟨⟨xs,xs[i],uF,by simp[hlt]⟩,λx H' y=>?_⟩;obtain⟨e,y⟩:=y;subst e;have ex:=y xs uF;have etk:xs.take (i+1)=xs.take i++[x]:=by rw[take_succ,ex];rfl
  show eZ _ _/\_;refine⟨hk x,hc x (mem_of_getElem? ex) D _ _ hD ?_⟩;by_cases hx:keep x=true
  .rw[if_pos hx];refine he x _ _ ⟨_,aA,?_,xs.length - (i+1),by omega,rfl,hlt,?_⟩
   .have:=List.length_filter_le keep (xs.take i);rw[length_take] at this;omega
   .rw[vq,etk,List.filter_append];simp[hx]
  .rw[if_neg hx];refine⟨xs.length - (i+1),by omega,rfl,hlt,?_⟩;rw[etk,List.filter_append];simp[hx]
 .have e:i=xs.length:=by omega
  subst e;refine .inl ⟨⟨xs,uF,le_refl _⟩,?_⟩;rw[take_of_length_le (le_refl _)];exact hQ D hD
section
variable {P:Program}{w:World}{K:Frag}{mg:Str->Option Value}{base:Heap}{C D f0:Addr}{R:Nat->Addr}
def CZ (C:Addr)(R:Nat->Addr):Sp:=λvs H Q E=>∃p dx nn ll nums ls nm a b wd len b1 b2 b3,vs=[.ref p,.str nm,.str a,.str b,.int wd,.int len]/\cF H C p dx nn ll nums ls/\(gR nm/\gR a/\gR b)/\(jB nm b1/\jB a b2/\jB b b3)/\ls.length<100/\nums.length<100/\
 if(b1 && b2 && b3)=false then bT R 1 H E else if(bB nm ls).isSome=true then bT R 2 H E else if a=b\/wd<1\/len<1 then bT R 0 H E else if 60<ls.length+1\/40<nums.length+(newOf nums [a,b]).length then bT R 3 H E
 else ∃ia ib,bB a (m9 nums (newOf nums [a,b]))=some ia/\bB b (m9 nums (newOf nums [a,b]))=some ib/\∀H',cF H' C p dx nn ll (m9 nums (newOf nums [a,b])) (jz nm (ia,ib,wd,len) ls)->dO nn ll H H'->Q .non H'
theorem Qi:bI ["self","name","a","b","width","length","added","room"] ["self","name","a","b","width","length"] (aj (bV 1)):=⟨rfl,rfl,rfl,by decide +kernel,rfl,by decide +kernel,by decide +kernel⟩
theorem acf {f:Addr}{fd:FuncData}(F:cP K "lay" "NamedHall.lay" (bV 1) f fd)(B:Bl mg)(c:Cl K C)(r:gQ K mg R D f0){f1 fi:Addr}{iB Qj:FuncData}(F1:aQ P w K mg base (bN P w) 1 f1 iB ["name"] (u9 R))(gn:mg "look_at_name"=some (.ref f1))(kn:keepIn K (.ref f1)=true)(bn:Binds K iB ["name"] [])(Fi:aQ P w K mg base cV 1 f0 Qj ["self","place"] (u6 (R 0)))(bi:Binds K Qj ["self","place"] []){t60 t40:Tok}(g60:mg "MOST_PASSAGES"=some (.int 60 t60))(g40:mg "MOST_ROOMS"=some (.int 40 t40)):
  aQ P w K mg base (bN P w) 3 f fd ["self","name","a","b","width","length"] (CZ C R):=by
 have r2:=r.one 2 (by decide) (by decide);have r3:=r.one 3 (by decide) (by decide);have nd:=Qi.nd;have vt:=(show(["self","name","a","b","width","length","added","room"]:List Str).all (λx=>dG (aj (bV 1)) x && plain x)=true by decide +kernel);refine qQ (k:=2) F Qi (λvs H Q E h=>by obtain⟨_,_,_,_,_,_,_,_,_,_,_,_,_,_,rfl,_⟩:=h;rfl) λcdv A outer s H vs Q E hr hsp=>?_;obtain⟨p,dx,nn,ll,nums,ls,nm,a,b,wd,len,b1,b2,b3,rfl,hh,⟨w1,w2,w3⟩,⟨n1,n2,n3⟩,hn1,hn2,hq⟩:=hsp;have vc:=(show(["room","self"]:List Str).all (λx=>zE (ahk ((cH (bV 1)).getD 5 (.Pass ⟨0,0,0,0⟩))) x && plain x)=true by decide +kernel);refine⟨_,aJ (dY (jK F1 (hr.mono (by decide)) (gl (sc:=aj (bV 1)) (by decide +kernel)) gn kn bn (au (pV vt 1) aM)))
  (aJ (dY (jK F1 (hr.mono (by decide)) (gl (sc:=aj (bV 1)) (by decide +kernel)) gn kn bn (au (pV vt 2) aM)))
  (aJ (dY (jK F1 (hr.mono (by decide)) (gl (sc:=aj (bV 1)) (by decide +kernel)) gn kn bn (au (pV vt 3) aM)))
  (aJ (cu (mH (abB (mD hr) (pV vt 1) (eG (pV vt 0) rfl))) (aN (eV (jy r2.xc r2.ini r2.kp (gl (sc:=aj (bV 1)) (by decide +kernel)) r2.g (au (kO (cJ lD (cJ (yG (pV vt 1)) je))) aM)))) bM)
  (aJ (cu (PW.pt (o8 (fH fL (pV vt 2) (pV vt 3)) (o8 (fH oLt (pV vt 4) aP) (nU (fH oLt (pV vt 5) aP))))) (aN (eV (Wu r.no.xc r.no.ini r.no.fn r.no.kp Fi hr bi (gl (sc:=aj (bV 1)) (by decide +kernel)) r.no.gC (au qu aM)))) bM)
  (aJ (Ea (tc:=tB (zP (vR 0) (Ds K (vR 1) "numbers"))) (te:=vR 0) (i:=6) nd rfl (lo (sc:=aj (bV 1)) (by decide +kernel)) (N':=["room","self"]) (cap:=[none,some 0]) ["self","name","a","b","width","length","added","room"] (aj (bV 1)) rfl (by decide +kernel) rfl rfl
   (Z0 (uo (au (pV vt 2) (au (pV vt 3) aM)))) (λ_ _ _ _ _=>uE (i:=0) (show(["room","self"]:List Str).Nodup by decide +kernel) (by decide +kernel)) (λ_ _ _ _ _=>Hs (mH (Bk (mD hr) (pD vc 0) (eG (pD vc 1) (by rfl))))) (λ_ _ _ _ _=>pD vc 0))
  (aJ (cu (PW.pt (o8 (fH Hv (bU Ed (dj Lp (gl (sc:=aj (bV 1)) (by decide +kernel)) B.len PySem.boot_len (au (eG (pV vt 0) rfl) aM)) aP) (g8 (v:=.int 60) (gl (sc:=aj (bV 1)) (by decide +kernel)) g60 ⟨_,rfl⟩))
   (nU (fH Hv (bU Ed (dj Lp (gl (sc:=aj (bV 1)) (by decide +kernel)) B.len PySem.boot_len (au (eG (pV vt 0) rfl) aM)) (dj Kc (gl (sc:=aj (bV 1)) (by decide +kernel)) B.len PySem.boot_len (au (pV vt 6) aM))) (g8 (v:=.int 40) (gl (sc:=aj (bV 1)) (by decide +kernel)) g40 ⟨_,rfl⟩))))) (aN (eV (jy r3.xc r3.ini r3.kp (gl (sc:=aj (bV 1)) (by decide +kernel)) r3.g (au (kO (cJ lD (cJ (yG (pV vt 1)) je))) aM)))) bM)
  (aJ (uf PassesOwn.leaving rfl (qx (pV vt 6)) (jJ (i:=7) nd rfl (lo (sc:=aj (bV 1)) (by decide +kernel))) (aN (zQ (mD hr) (eG (pV vt 0) rfl) (pV vt 7) (dj Lp (gl (sc:=aj (bV 1)) (by decide +kernel)) B.len PySem.boot_len (au (eG (pV vt 0) rfl) aM)) rfl)))
  (aN (zQ (mD hr) (eG (pV vt 0) rfl) (pV vt 1) (uo (au (vL (mD hr) (eG (pV vt 0) rfl) (pV vt 2) (λ_ _=>rfl)) (au (vL (mD hr) (eG (pV vt 0) rfl) (pV vt 3) (λ_ _=>rfl)) (au (pV vt 4) (au (pV vt 5) aM))))) rfl))))))))),?_⟩
 have IK:∀{i:Nat}{x:Str} {bx:Bool} {σ:L2.St} {H':Hp} {Q':VK},σ[i]? =some (some (.str x))->Same H H'->gR x->jB x bx->(bx=false->bT R 1 H E)->(bx=true->∀H2,Same H' H2->Q' .non H2)->
   jX (u9 R) (aR (vR i) bK) σ H' Q' λev dx H'=>∀e C T T2,ev=.ref e->H' e=some (bA e C dx (.ref T))->(∀C' tb,H' e=some (bA e C' dx tb)->C'=C)->E (.ref e) dx (L2.upd H' e (bA e C dx (.ref T2))):=λ{i x bx σ H' Q'} e s wx hb q1 q2=>by
  unfold jX aR bK;refine aH e ⟨x,bx,rfl,wx,hb,?_⟩;cases bx with
  |true=>rw[if_pos rfl];exact q2 rfl
  |false=>rw[if_neg (by decide)];exact((q1 rfl).le s).on
 have q1:(b1 && b2 && b3)=false->bT R 1 H E:=λh=>by rw[if_pos h] at hq;exact hq
 unfold dX;try dsimp only
 refine IK rfl (Same.refl _) w1 n1 (λh=>q1 (by rw[h];rfl)) λh1 H1 s1=>?_;subst h1;try dsimp only
 refine IK rfl s1 w2 n2 (λh=>q1 (by rw[h];rfl)) λh2 H2 s2=>?_;subst h2;try dsimp only
 refine IK rfl (s1.trans s2) w3 n3 (λh=>q1 (by rw[h];rfl)) λh3 H3 s3=>?_;subst h3;rw[if_neg (by decide)] at hq;have FT:=(s1.trans s2).trans s3;have hh3:=hh.grow FT;obtain⟨kvs,hk,hl⟩:=hh3.laid;have g:=qT nm hl;have hkl:=hl.length;try dsimp only
 unfold gK tB abA;refine aH (v:=.str nm) rfl (fj (p:=p) rfl hh3.ins c.cl c.n2 rfl ⟨ll,_,rfl,jk.k (k:=.inr nm) hk,_,rfl,?_⟩);cases hg:bB nm ls with
 |some q=>
  rw[hg] at g hq;obtain⟨t,gv,gt⟩:=g;rw[gv];rw[if_pos (by rfl)] at hq;try dsimp only
  rw[if_pos (by rfl)];refine jU r (by decide) (by decide) FT (λQ' z=>?_) hq;unfold aR bK Fq;exact aH (v:=.str nm) rfl ⟨nm,rfl,by have:=w1.len;omega,z⟩
 |none=>
 rw[hg] at g hq;rw[if_neg (by simp)] at hq;rw[show dI kvs (.inr nm)=none from g];show(if(none:Option V).isSome=true then _ else _);rw[if_neg (by simp)];unfold jF Mv iY;try dsimp only
 have bad:∀D':Ends,(a=b\/wd<1\/len<1)->jT K E (Wt (R 0) (u6 (R 0)) (aR (tC .non) bK)) D' [some (.ref p),some (.str nm),some (.str a),some (.str b),some (.int wd),some (.int len),none,none] H3:=λD' h=>by rw[if_pos h] at hq;exact WR r FT (λQ' z=>z) hq
 refine aH (v:=.str a) rfl (aH (v:=.str b) rfl ⟨rfl,?_⟩);show(if decide (V.str a=V.str b)=true then _ else _);by_cases hab:a=b
 .rw[if_pos (by simp[hab])];exact bad {nx:=λ_ _=>True,rt:=λ_ _=>True} (.inl hab)
 rw[if_neg (by simp[hab])];rw[bF.op1];refine aH (v:=.int wd) rfl ?_;show(if decide (wd<1)=true then _ else _);by_cases hw:wd<1
 .rw[if_pos (by simp[hw])];exact bad {nx:=λ_ _=>True,rt:=λ_ _=>True} (.inr (.inl hw))
 rw[if_neg (by simp[hw])];rw[bF.op1];refine aH (v:=.int len) rfl ?_;show(if decide (len<1)=true then _ else _);by_cases hl1:len<1
 .rw[if_pos (by simp[hl1])];exact bad {nx:=λ_ _=>True,rt:=λ_ _=>True} (.inr (.inr hl1))
 rw[if_neg (by simp[hl1])];rw[if_neg (by rintro(z|z|z);exact hab z;exact hw z;exact hl1 z)] at hq;unfold gM wF ZX JX aR;try dsimp only
 refine aH (v:=.str a) rfl (aH (v:=.str b) rfl ⟨by show 2<=sizeLine;decide,λt ht=>⟨t,rfl,⟨_,cZ.of aA⟩,?_⟩⟩);have s4:=aW (o:=.tup [.str a,.str b]) ht;have hh4:=hh3.grow s4;refine lcF (λx=>match x with|.str r=>(bB r nums).isNone|_=>false) (cZ.of aA) (by show 2<sizeLine;decide) ?_ (λx=>eZ.set eZ.refl rfl) (λx Hx R r=>aH rfl r) ?_
 .intro x hx D ys R hD r;have sD:=aW (o:=.lst ys) hD;obtain⟨rm,rfl⟩:∃rm,x=.str rm:=by
   rcases mem_cons.mp hx with rfl|hx
   .exact⟨_,rfl⟩
   .rw[mem_singleton.mp hx];exact⟨_,rfl⟩
  refine aH (v:=.str rm) rfl (fj (p:=p) rfl ((hh4.grow sD).ins) c.cl c.n1 rfl ⟨nn,_,rfl,jk.k (k:=.inr rm) ((hh4.grow sD).num),_,rfl,?_⟩);rw[vQ];have e:(!(map V.int (bB rm nums)).isSome)=(bB rm nums).isNone:=by cases bB rm nums<;>rfl
  rw[e];exact r
 intro D hD;have eN:List.filter (λx=>match x with|.str r=>(bB r nums).isNone|_=>false) [V.str a,V.str b]=(newOf nums [a,b]).map V.str:=by unfold newOf;rw[show [V.str a,V.str b]=[a,b].map V.str from rfl,List.filter_map];rfl
 rw[eN];have s5:=aW (o:=.lst ((newOf nums [a,b]).map V.str)) hD;have Qk:=hh4.grow s5;have hk5:=s5 _ _ (s4 _ _ hk);have WX:upd (upd H3 t (.tup [.str a,.str b])) D (.lst ((newOf nums [a,b]).map V.str)) D=some (.lst ((newOf nums [a,b]).map V.str)):=aA;have WY:Paired (tL (upd (upd H3 t (.tup [.str a,.str b])) D (.lst ((newOf nums [a,b]).map V.str)))) kvs ls:=hl.mono λ_ _ z=>z.same λu xs e=>s5 _ _ (s4 _ _ e);have s35:=s4.trans s5;generalize upd (upd H3 t (.tup [.str a,.str b])) D (.lst ((newOf nums [a,b]).map V.str))=H5 at Qk hk5 WX WY s35 ⊢;have nl:(newOf nums [a,b]).length<=2:=List.length_filter_le _ _;generalize hN:newOf nums [a,b]=nw at*
 dsimp only[cN];rw[bF.op1,bF.op1];unfold mO;refine fj (p:=p) rfl Qk.ins c.cl c.n2 rfl ⟨ll,kvs,rfl,hk5,?_⟩;have many:∀D':Ends,(60<ls.length+1\/40<nums.length+nw.length)->jT K E (w6 (R 3) λσ H Q=>Fq (vR 1) σ H λH1=>∀y,Q [.str y] H1) D' [some (.ref p),some (.str nm),some (.str a),some (.str b),some (.int wd),some (.int len),some (.ref D),none] H5:=λD' h=>by rw[if_pos h] at hq;refine jU r (by decide) (by decide) (FT.trans s35) (λQ' z=>?_) hq;unfold Fq;exact aH (v:=.str nm) rfl ⟨nm,rfl,by have:=w1.len;omega,z⟩
 show(if decide ((60:Int)<(kvs.length:Int)+1)=true then _ else _);by_cases h60:60<ls.length+1
 .rw[if_pos (by simp;omega)];exact many {nx:=λ_ _=>True,rt:=λ_ _=>True} (.inl h60)
 rw[if_neg (by simp;omega)];rw[bF.op1];unfold dU;refine fj (p:=p) rfl Qk.ins c.cl c.n1 rfl ⟨nn,_,rfl,Qk.num,aH (v:=.ref D) rfl ⟨nw.map V.str,.inl (aU.of WX),?_⟩⟩;show(if decide ((40:Int)<((nums.map iz).length:Int)+((nw.map V.str).length:Int))=true then _ else _);by_cases h40:40<nums.length+nw.length
 .rw[if_pos (by rw[length_map,length_map];simp;omega)];exact many {nx:=λ_ _=>True,rt:=λ_ _=>True} (.inr h40)
 rw[if_neg (by rw[length_map,length_map];simp;omega)];rw[if_neg (by omega)] at hq;obtain⟨ia,ib,ga,gb,hq⟩:=hq;try dsimp only
 rw[zG];unfold vD;refine aH (v:=.ref D) rfl ⟨D,rfl,⟨_,aU.of WX⟩,?_⟩;refine forL (xs:=nw.map V.str) (λi σ' H'=>(∃y,σ'=[some (.ref p),some (.str nm),some (.str a),some (.str b),some (.int wd),some (.int len),some (.ref D),y])/\cF H' C p dx nn ll (m9 nums (nw.take i)) ls/\H' D=some (.lst (nw.map V.str))/\dO nn ll H5 H') ⟨⟨_,rfl⟩,Qk,WX,dO.same (Same.refl _)⟩ (λ_ _ _ _ h=>aU.of h.2.2.1) ?_ ?_
 .rintro i x σ' H' hx ⟨⟨y,rfl⟩,i1,i2,i3⟩;rw[getElem?_map] at hx;obtain⟨rm,er,rfl⟩:=map_eq_some_iff.mp hx;unfold cN CK;show Ds K (vR 0) "numbers" [some (.ref p),some (.str nm),some (.str a),some (.str b),some (.int wd),some (.int len),some (.ref D),some (.str rm)] H' _;refine fj (p:=p) rfl i1.ins c.cl c.n1 rfl ⟨nn,_,rfl,i1.num,fj (p:=p) rfl i1.ins c.cl c.n1 rfl (aH (v:=.str rm) rfl ⟨nn,_,rfl,sS.k (k:=.inr rm) i1.num (sI ?_),?_⟩)⟩
  .have:=Ut (nw.take i) nums
   have:(nw.take i).length<=nw.length:=by rw[length_take];omega
   rw[length_map];omega
  rw[length_map,YX];have e:jz rm ((m9 nums (nw.take i)).length:Int) (m9 nums (nw.take i))=m9 nums (nw.take (i+1)):=by rw[take_succ,er];unfold m9;rw[List.foldl_append];rfl
  rw[e];refine⟨⟨_,rfl⟩,i1.ahi,?_,i3.trans dO.num⟩;rw[aB λz=>by have:=i1.num;rw[<-z,i2] at this;cases this];exact i2
 .rintro σ' H' ⟨⟨y,rfl⟩,i1,i2,i3⟩;rw[length_map,take_of_length_le (le_refl _)] at i1;obtain⟨kv2,hk2,hl2⟩:=i1.laid;have ai4:=hl2.length;dsimp only;unfold CK CJ;refine fj (p:=p) rfl i1.ins c.cl c.n1 rfl (aH (v:=.str a) rfl ⟨nn,.int ia,rfl,?_,?_⟩)
  .have:=jk.k (k:=.inr a) i1.num;rw[vQ,ga] at this;exact this
  refine fj (p:=p) rfl i1.ins c.cl c.n1 rfl (aH (v:=.str b) rfl ⟨nn,.int ib,rfl,?_,?_⟩)
  .have:=jk.k (k:=.inr b) i1.num;rw[vQ,gb] at this;exact this
  refine aH (v:=.int wd) rfl (aH (v:=.int len) rfl ⟨by show 4<=sizeLine;decide,λt' ht'=>?_⟩);have s6:=aW (o:=.tup [.int ia,.int ib,.int wd,.int len]) ht';have hh6:=i1.grow s6;have tQ:=s6 _ _ hk2;refine fj (p:=p) rfl hh6.ins c.cl c.n2 rfl (aH (v:=.str nm) rfl ⟨ll,_,rfl,sS.k (k:=.inr nm) tQ (sI (by omega)),?_⟩);refine hq _ (hh6.put tQ (P0 (q:=(ia,ib,wd,len)) aA (hl2.mono λ_ _ z=>z.same λu xs e=>s6 _ _ e))) ?_;exact((((dO.same FT).trans (dO.same s35)).trans i3).trans (dO.same s6)).trans (dO.put tQ)
end
section
variable {P:Program}{w:World}{K:Frag}{mg:Str->Option Value}{base:Heap}{C D f0:Addr}{R:Nat->Addr}
def W0 (C:Addr)(R:Nat->Addr):Sp:=λvs H Q E=>∃x dx a b b1 b2,vs=[.ref x,.str a,.str b]/\H x=some (.ins C dx [])/\(gR a/\gR b)/\(jB a b1/\jB b b2)/\
 if(b1 && b2)=false then bT R 1 H E else if a=b then bT R 2 H E else ∀H' nn ll,cF H' C x dx nn ll [(a,0),(b,1)] []->(∀c o,c≠x->H c=some o->H' c=some o)->H nn=none->H ll=none->Q .non H'
theorem aci:bI ["self","start","goal"] ["self","start","goal"] (aj (bV 0)):=⟨rfl,rfl,rfl,by decide +kernel,rfl,by decide +kernel,by decide +kernel⟩
theorem acj {f:Addr}{fd:FuncData}(F:cP K "__init__" "NamedHall.__init__" (bV 0) f fd)(c:Cl K C)(r:gQ K mg R D f0){f1:Addr}{iB:FuncData}(F1:aQ P w K mg base (bN P w) 1 f1 iB ["name"] (u9 R))(gn:mg "look_at_name"=some (.ref f1))(kn:keepIn K (.ref f1)=true)(bn:Binds K iB ["name"] []){t0 t1:Tok}(g0:mg "START"=some (.int 0 t0))(g1:mg "GOAL"=some (.int 1 t1)):
  aQ P w K mg base (bN P w) 2 f fd ["self","start","goal"] (W0 C R):=by
 have r2:=r.one 2 (by decide) (by decide);have vt:=(show(["self","start","goal"]:List Str).all (λx=>dG (aj (bV 0)) x && plain x)=true by decide +kernel);refine qQ (k:=1) F aci (λvs H Q E h=>by obtain⟨_,_,_,_,_,_,rfl,_⟩:=h;rfl) λcdv A outer s H vs Q E hr hsp=>?_;obtain⟨x,dx,a,b,b1,b2,rfl,hx,⟨w1,w2⟩,⟨n1,n2⟩,hq⟩:=hsp;refine⟨_,aJ (dY (jK F1 (hr.mono (by decide)) (gl (sc:=aj (bV 0)) (by decide +kernel)) gn kn bn (au (pV vt 1) aM)))
  (aJ (dY (jK F1 (hr.mono (by decide)) (gl (sc:=aj (bV 0)) (by decide +kernel)) gn kn bn (au (pV vt 2) aM)))
  (aJ (cu (fH fL (pV vt 1) (pV vt 2)) (aN (eV (jy r2.xc r2.ini r2.kp (gl (sc:=aj (bV 0)) (by decide +kernel)) r2.g (au aY aM)))) bM)
  (aJ (Dt (pV vt 0) (Yt (L2.cJ (pV vt 1) (g8 (v:=.int 0) (gl (sc:=aj (bV 0)) (by decide +kernel)) g0 ⟨_,rfl⟩) (L2.cJ (pV vt 2) (g8 (v:=.int 1) (gl (sc:=aj (bV 0)) (by decide +kernel)) g1 ⟨_,rfl⟩) L2.je)) rfl rfl (by simp) (by decide)) rfl)
  (aN (Dt (pV vt 0) TF rfl))))),?_⟩
 have IK:∀{i:Nat}{x:Str} {bx:Bool} {σ:L2.St} {H':Hp} {Q':VK},σ[i]? =some (some (.str x))->Same H H'->gR x->jB x bx->(bx=false->bT R 1 H E)->(bx=true->∀H2,Same H' H2->Q' .non H2)->
   jX (u9 R) (aR (vR i) bK) σ H' Q' λev dx H'=>∀e C T T2,ev=.ref e->H' e=some (bA e C dx (.ref T))->(∀C' tb,H' e=some (bA e C' dx tb)->C'=C)->E (.ref e) dx (L2.upd H' e (bA e C dx (.ref T2))):=λ{i x bx σ H' Q'} e s wx hb q1 q2=>by
  unfold jX aR bK;refine aH e ⟨x,bx,rfl,wx,hb,?_⟩;cases bx with
  |true=>rw[if_pos rfl];exact q2 rfl
  |false=>rw[if_neg (by decide)];exact((q1 rfl).le s).on
 have q1:(b1 && b2)=false->bT R 1 H E:=λh=>by rw[if_pos h] at hq;exact hq
 unfold dX;try dsimp only
 refine IK rfl (Same.refl _) w1 n1 (λh=>q1 (by rw[h];rfl)) λh1 H1 s1=>?_;subst h1;try dsimp only
 refine IK rfl s1 w2 n2 (λh=>q1 (by rw[h];rfl)) λh2 H2 s2=>?_;subst h2;rw[if_neg (by decide)] at hq;have s12:=s1.trans s2;have hx2:=s12 _ _ hx;try dsimp only
 unfold gK iY;refine aH (v:=.str a) rfl (aH (v:=.str b) rfl ⟨rfl,?_⟩);show(if decide (V.str a=V.str b)=true then _ else _);by_cases hab:a=b
 .rw[if_pos hab] at hq;rw[if_pos (by simp[hab])];exact jU r (by decide) (by decide) s12 (λQ' z=>z _) hq
 rw[if_neg hab] at hq;rw[if_neg (by simp[hab])];unfold jF;try dsimp only
 unfold Ry Wn;intro d hd;have hxd:x≠d:=bO hx2 hd;unfold qO qO qO tC;refine aH (v:=.str a) rfl (aH (v:=.str b) rfl ⟨aA,[(.inr a,.int 0),(.inr b,.int 1)],rfl,by simp,?_⟩);rw[vq];have eM:oV [] [((Sum.inr a:Key),V.int 0),(.inr b,.int 1)]=([(a,0),(b,1)]:List (Str×Int)).map iz:=by
  have:¬(Sum.inr a:Key)=Sum.inr b:=λz=>hab (Sum.inr.inj z)
  unfold oV;rw[List.foldl_cons,List.foldl_cons,List.foldl_nil];unfold putK;simp[this,iz]
 rw[eM];refine aH (v:=.ref x) rfl ⟨x,C,dx,[],rfl,by rw[aB hxd];exact hx2,c.cl,c.n1,by decide,?_⟩;intro e he;have hxe:x≠e:=λz=>by subst z;rw[aA] at he;cases he
 have hde:d≠e:=λz=>by subst z;rw[aB hxd.symm,aA] at he;cases he
 refine aH (v:=.ref x) rfl ⟨x,C,dx,_,rfl,by rw[aB hxe,aA],c.cl,c.n2,by show 1<1000;decide,?_⟩;have he2:H2 e=none:=by rw[aB hxe.symm,aB hde.symm] at he;exact he
 refine hq _ d e ⟨?_,?_,⟨[],?_,.nil⟩,hde⟩ (λc o hc e1=>?_) (s12.free hd) (s12.free he2)
 .rw[aA];rfl
 .rw[aB hxd.symm,aB hde,aB hxd.symm,aA]
 .rw[aB hxe.symm,aA]
 .have e2:=s12 _ _ e1;have z1:c≠e:=λz=>by subst z;rw[he2] at e2;cases e2
  have z2:c≠d:=λz=>by subst z;rw[hd] at e2;cases e2
  rw[aB hc,aB z1,aB hc,aB z2];exact e2
end
noncomputable abbrev qY (j:Nat):Stmt:=inClass (top 43) j
section
variable {P:Program}{w:World}{K:Frag}{mg:Str->Option Value}{base:Heap}{CD:Addr}
noncomputable def cQ (H:Hp)(CD p dx:Addr)(h:V):Prop:=H p=some (.ins CD dx [("hall",h)])
def IV (CD:Addr):Sp:=λvs H Q _=>∃x dx,vs=[.ref x]/\H x=some (.ins CD dx [])/\Q .non (upd H x (.ins CD dx [("hall",.non)]))
theorem FW:bI ["self"] ["self"] (aj (qY 0)):=fs
theorem Uu {f:Addr}{fd:FuncData}(F:cP K "__init__" "Desk.__init__" (qY 0) f fd)(c:Cls K CD)(n:eY K CD "hall"):aQ P w K mg base cV 1 f fd ["self"] (IV CD):=by have vt:=FW.vt;refine cP.ok (k:=0) F FW (λvs H Q E h=>by obtain⟨_,_,rfl,_⟩:=h;rfl) λcdv A outer s H vs Q E hr hsp=>?_;obtain⟨x,dx,rfl,hx,hq⟩:=hsp;refine⟨_,aN (Dt (pV vt 0) qu rfl),?_⟩;unfold Ry tC;exact aH (v:=.ref x) rfl ⟨x,CD,dx,[],rfl,hx,c,n,by decide,hq⟩
end
noncomputable def least (kd:Str)(n:Int):Bool:=!((decide (kd="turns") && decide (n<0))||(decide (kd="people") && decide (n<1)))
def dJ (kd wd:Str)(o:Option V):Prop:=if kd="name" then o=some (.str wd) else ∃t b,gO [.str wd]=some (t,.bool b)/\
 if b=true then ∃n,intText? wd=some n/\kW n/\o=if least kd n=true then some (.int n) else none else o=none
noncomputable abbrev oY:List (Key×V):=[(.inr "turns",.int 0),(.inr "people",.int 1)]
def qZ (R:Nat->Addr):Sp:=λvs H Q E=>∃kd wd o,vs=[.str kd,.str wd]/\gR wd/\dJ kd wd o/\match o with
 |some v=>∀H',Same H H'->Q v H'
 |none=>bT R 6 H E
section
variable {P:Program}{w:World}{K:Frag}{mg:Str->Option Value}{base:Heap}{C D f0:Addr}{R:Nat->Addr}
theorem FZ:bI ["kind","word","number"] ["kind","word"] (aj (top 45)):=fs
theorem Uv {f:Addr}{fd:FuncData}(F:cP K "value_of" "value_of" (top 45) f fd)(B:Bl mg)(c:gQ K mg R D f0){aL:Addr}(GL:mg "LEAST"=some (.ref aL))(kL:KDict P w K aL oY)
  (Cis:lE P w K mg base 1 "is_number" ["word"] (ig K gO)):aQ P w K mg base (bN P w) 2 f fd ["kind","word"] (qZ R):=by
 have nd:=FZ.nd;have vt:=(show(["kind","word","number"]:List Str).all (λx=>dG (aj (top 45)) x && plain x)=true by decide +kernel);have r6:=c.one 6 (by decide) (by decide);refine qQ (k:=1) F FZ (λvs H Q E h=>by obtain⟨_,_,_,rfl,_⟩:=h;rfl) λcdv A outer s H vs Q E hr hsp=>?_;refine⟨_,aJ (cu (fH fL (pV vt 0) aY) (aN (cT (pV vt 1))) bM)
  (aJ (cu (show PT (cC (bN P w) P w K mg base ["kind","word","number"] "value_of" (aj (top 45)) f cdv A outer s H E) _ (fQ K (iR (vB (gj gO (aC (vF 1) a0))))) from Km (cVal (zL (fV Cis hr (gl (sc:=aj (top 45)) (by decide +kernel)) (tE (dF (pV vt 1)) Ej)))))
   (aN (eV (jy r6.xc r6.ini r6.kp (gl (sc:=aj (top 45)) (by decide +kernel)) r6.g (au (kO (cJ (Ii (pV vt 1)) (cJ lD je))) aM)))) bM)
  (aJ (cU (i:=2) nd rfl (lo (sc:=aj (top 45)) (by decide +kernel)) (iJ Ww (gl (sc:=aj (top 45)) (by decide +kernel)) B.int boot_int (au (pV vt 1) aM)))
  (aJ (cu (PW.pt (xP (mH (ab4 (pV vt 0) (g8 (v:=.ref aL) (gl (sc:=aj (top 45)) (by decide +kernel)) GL rfl))) (vA (fH oLt (pV vt 2) (Ip (g8 (v:=.ref aL) (gl (sc:=aj (top 45)) (by decide +kernel)) GL rfl) (pV vt 0) (λ_ _=>rfl))))))
   (aN (eV (jy r6.xc r6.ini r6.kp (gl (sc:=aj (top 45)) (by decide +kernel)) r6.g (au (kO (cJ (Fp (pV vt 2)) (cJ lD je))) aM)))) bM)
  (aN (cT (pV vt 2)))))),?_⟩
 obtain⟨kd,wd,o,rfl,hw,hv,hq⟩:=hsp;unfold dJ at hv;unfold dX gK iY lJ;refine aH (v:=.str kd) rfl ⟨rfl,?_⟩;show(if decide (V.str kd=V.str "name")=true then _ else _);by_cases hk:kd="name"
 .rw[if_pos hk] at hv;subst hv;rw[if_pos (by simp[hk])];exact aH (v:=.str wd) rfl (hq H (Same.refl _))
 rw[if_neg hk] at hv;rw[if_neg (by simp[hk])];obtain⟨t,b,hb,hv⟩:=hv;unfold jF;try dsimp only
 have fr:fU K H [none,some (Tg.fr,.str wd),none] [some (.str kd),some (.str wd),none]:=⟨_,_,rfl,.str wd,_,rfl,rfl,⟨rfl,hw.lay⟩,_,_,rfl,rfl⟩;refine Fj (b:=!b) fr (by show(iR (vB (gj gO (aC (vF 1) a0)))) _=_;unfold iR vB gj aC a0;simp[vF,hb]) λH1 s1=>?_;cases b with
 |false=>
  rw[if_neg (by decide)] at hv;subst hv;rw[if_pos (by decide)];refine jU c (by decide) (by decide) s1 (λQ' z=>?_) hq;unfold aR bK tPR;exact aH (v:=.str wd) rfl ⟨wd,rfl,by have:=hw.len;omega,hw.cps,λy=>z y⟩
 |true=>
  rw[if_pos rfl] at hv;obtain⟨n,hn,few,ho⟩:=hv;rw[if_neg (by decide)];try dsimp only
  unfold gM mO Lb aR bK cN;refine aH (v:=.str wd) rfl ⟨wd,n,rfl,hn,by have:=hw.len;omega,?_⟩;try dsimp only
  unfold JH tB ab3 tC;refine aH (v:=.str kd) rfl ⟨aL,oY,.inr kd,rfl,rfl,kL,⟨_,rfl,?_⟩⟩;have rz:∀{D':Ends},least kd n=false->jT K E (w6 (R 6) λσ H Q=>Ig (vR 2) σ H λH1=>∀y,Q [V.str y] H1) D' [some (.str kd),some (.str wd),some (.int n)] H1:=λ{D'} hl=>by rw[if_neg (by rw[hl];decide)] at ho;subst ho;refine jU c (by decide) (by decide) s1 (λQ' z=>?_) hq;unfold Ig;exact aH (v:=.int n) rfl ⟨n,rfl,few,λy=>z y⟩
  have rt:least kd n=true->vR 2 [some (.str kd),some (.str wd),some (.int n)] H1 Q:=λhl=>by rw[if_pos hl] at ho;subst ho;exact aH (v:=.int n) rfl (hq H1 s1)
  have cs:(∃m:Int,dI oY (.inr kd)=some (.int m)/\least kd n= !decide (n<m))\/(dI oY (.inr kd)=none/\least kd n=true):=by
   by_cases k1:kd="turns"
   .exact .inl ⟨0,by rw[k1];rfl,by rw[k1];unfold least;rw[show decide (("turns":Str)="people")=false by decide];simp⟩
   by_cases k2:kd="people"
   .exact .inl ⟨1,by rw[k2];rfl,by rw[k2];unfold least;rw[show decide (("people":Str)="turns")=false by decide];simp⟩
   exact .inr ⟨by rw[jw (by simp;exact λz=>k1 z.symm),jw (by simp;exact λz=>k2 z.symm)];rfl,by simp[least,k1,k2]⟩
  try dsimp only
  rcases cs with⟨m,e,l⟩|⟨e,l⟩
  .rw[e,if_pos (show(some (V.int m)).isSome=true from rfl)];refine aH (v:=.int n) rfl ?_;unfold Le;refine aH (v:=.str kd) rfl ⟨aL,oY,.inr kd,.int m,rfl,rfl,kL,e,?_⟩;show if decide (n<m)=true then _ else _
   cases hd:decide (n<m) with
   |true=>rw[if_pos rfl];exact rz (by rw[l,hd];rfl)
   |false=>rw[if_neg (by decide)];exact rt (by rw[l,hd];rfl)
  .rw[e,if_neg (show ¬(none:Option V).isSome=true by simp)];try dsimp only
   rw[if_neg (by decide)];exact rt l
end
noncomputable def cY:List (Str×List Str):=[("hall",["name","name"]),("lay",["name","name","name","number","number"]),("shut",["name"]),("widen",["name","number"]),("narrow",["name","number"]),("out",["turns"]),("walks",["turns"]),("moments",["turns"]),("turns",["people"]),("worth",["name","turns"]),("rooms",[]),("passages",[])]
def iU (K:Frag)(a:Addr)(xs:List V):Prop:=∃(o:Obj) (its:Array Value) (n:Nat),K.lookup a=some o/\o.cls=.type "tuple"/\o.data=.seq its n/\its.size<=sizeLine/\Vals xs its.toList
def aco (K:Frag)(kv:Key×V)(f:Str×List Str):Prop:=kv.1=.inr f.1/\∃t,kv.2=.ref t/\iU K t (f.2.map .str)
def Forms (P:Program)(w:World)(K:Frag)(a:Addr):Prop:=∃kvs,KDict P w K a kvs/\Paired (aco K) kvs cY
theorem IW {K:Frag}(nm:Str):∀{kvs:List (Key×V)}{fs:List (Str×List Str)},Paired (aco K) kvs fs->match bB nm fs with
  |none=>dI kvs (.inr nm)=none
  |some q=>∃t,dI kvs (.inr nm)=some (.ref t)/\iU K t (q.map .str)
 |_,_,.nil=>rfl
 |_,_,.cons (a:=kv) (b:=x) h r=>by
  obtain⟨h1,t,h2,h3⟩:=h;rw[bB];by_cases e:x.1=nm
  .rw[if_pos e];exact⟨t,by rw[lV (by rw[h1,e]),h2],h3⟩
  .rw[if_neg e];have ih:=IW nm r;rw[jw (by intro z;rw[h1] at z;exact e (Sum.inr.inj z))];exact ih
inductive dz:List Str->List Str->Option (List V)->Prop
 |nil:dz [] [] (some [])
 |bad {k w ks ws}:dJ k w none->ks.length=ws.length->dz (k::ks) (w::ws) none
 |ok {k w v ks ws o}:dJ k w (some v)->dz ks ws o->dz (k::ks) (w::ws) (o.map (v:: ·))
theorem dz.len {ks ws:List Str}{o:Option (List V)}(h:dz ks ws o):ks.length=ws.length:=by
 induction h with
 |nil=>rfl
 |bad _ e=>simp[e]
 |ok _ _ ih=>simp[ih]
def gF (ws:List Str)(o:Option (List V)):Prop:=∃w0 r,ws=w0::r/\if("":Str)∈ws then o=none else match bB w0 cY with
 |none=>o=none
 |some ks=>if r.length=ks.length then dz ks r o else o=none
def Ql (R:Nat->Addr)(H:Hp)(Q:VK)(E:XK):Option (List V)->Prop
 |some vl=>∀l H',Same H H'->H l=none->H' l=some (.lst vl)->Q (.ref l) H'
 |none=>bT R 6 H E
def Qm (R:Nat->Addr):Sp:=λvs H Q E=>∃p ws o,vs=[.ref p]/\H p=some (.lst (ws.map .str))/\(∀w∈ws,gR w)/\ws.length<=1000/\gF ws o/\Ql R H Q E o
theorem Ja (x:Str):∀ws:List Str,inV (.str x) (ws.map V.str)=decide (x∈ws)
 |[]=>rfl
 |y::r=>by
  have ih:=Ja x r;unfold inV at ih ⊢;rw[map_cons,any_cons,ih];by_cases e:x=y
  .subst e;simp[wD]
  .have e':¬y=x:=λz=>e z.symm;simp[wD,e,e']
theorem Qn (ws:List Str):(ws.map V.str).all mz=true:=by rw[all_map];exact all_eq_true.mpr λ_ _=>rfl
section
variable {P:Program}{w:World}{K:Frag}{mg:Str->Option Value}{base:Heap}{C D f0:Addr}{R:Nat->Addr}
def aeN:Stmt->Scope
 |.Return (some (.ListComp _ _ sc _)) _=>sc
 |_=>aj (top 44)
noncomputable abbrev W2:Scope:=aeN ((cH (top 44)).getD 3 (.Pass ⟨0,0,0,0⟩))
theorem Uw {X:Cx}{scope:Scope}{N':List Str}{cl:List (Str×Addr)}{C':Addr}{s₀:Shared}{H₀:Hp}{ex:List Addr}{k:Nat}{f:Addr}{fd:FuncData}{ps:List Str}{sp:Sp}{x:Str}{p pos:Pos}{e:Expr}{es:List Expr}{t:TA}
  (F:aQ X.prog X.w X.K X.mg X.base (bN X.prog X.w) k f fd ps sp)(hr:cI k X.A)(hg:Gl (cL X scope N' cl C' s₀ H₀ ex) x)(hm:X.mg x=some (.ref f))(hk:keepIn X.K (.ref f)=true)(hb:Binds X.K fd ps [])(ha:PA (cL X scope N' cl C' s₀ H₀ ex) (e::es) t)
  (hdb:(x==("__debug__":Str))=false:=by decide)(he:starEach (e::es) (cL X scope N' cl C' s₀ H₀ ex).env=(false,eval e (cL X scope N' cl C' s₀ H₀ ex).env)::starEach es (cL X scope N' cl C' s₀ H₀ ex).env:=by rfl)(hpl:(backTo pos (starEach es (cL X scope N' cl C' s₀ H₀ ex).env)).any (·.1)=false:=by rfl):
  pL (cL X scope N' cl C' s₀ H₀ ex) (.Call (.Name x p) (e::es) [] pos) (jX sp t):=jK (X:=cL X scope N' cl C' s₀ H₀ ex) F hr hg hm hk hb ha hdb he hpl
theorem Jb:(["kind","word"]:List Str).all (λx=>zE W2 x && plain x)=true:=by decide +kernel
theorem Jc:(["kind","word"]:List Str).Nodup:=by decide +kernel
theorem Ux:wU W2 "kind"=true:=by decide +kernel
theorem Uy:wU W2 "word"=true:=by decide +kernel
theorem acp {t p2:Addr}{H H1:Hp}{ks r:List Str}{o:Option (List V)}{Q:VK}{E:XK}{σ:L2.St}(ht:iU K t (ks.map .str))(hp2:H1 p2=some (.lst (r.map .str)))(hz:dz ks r o)(hw:∀w∈r,gR w)(hn:r.length<=1000)(sm:Same H H1)
  (hq:Ql R H Q E o):
  ∀Da,H1 Da=none->∃W:Nat->Nat->Hp->Prop,(∃m,W 0 m (upd H1 Da (.lst [])))/\∀i m H',W i m H'->((FJ K t p2).stop i H'/\Q (.ref Da) H')\/((FJ K t p2).go i H'/\∀x mR,(FJ K t p2).wj i H' x mR->
   Dp K 2 (jW (cN 0) (jW (cN 1) Dm)) x (bH [none,none] σ) mR λσ2 H2=>eZ (bH [none,none] σ) σ2/\jX (qZ R) (aR (vR 0) (aR (vR 1) bK)) σ2 H2 (λy H4=>∃xs,H4 Da=some (.lst xs)/\xs.length<sizeLine/\∃m',m'<m/\W (i+1) m' (upd H4 Da (.lst (xs++[y]))))
    λev dx H'=>∀e C T T2,ev=.ref e->H' e=some (bA e C dx (.ref T))->(∀C' tb,H' e=some (bA e C' dx tb)->C'=C)->E (.ref e) dx (upd H' e (bA e C dx (.ref T2)))):=by
 intro Da hD;refine⟨λi m H'=>∃vs' ks' rs' o',ks.drop i=ks'/\r.drop i=rs'/\dz ks' rs' o'/\o=o'.map (vs'++ ·)/\vs'.length=i/\m=ks'.length/\H' Da=some (.lst vs')/\∀b ob,b≠Da->H1 b=some ob->H' b=some ob,
  ⟨_,[],ks,r,o,rfl,rfl,hz,by cases o<;>rfl,rfl,rfl,aA,λb ob hb z=>by rw[aB hb];exact z⟩,λi m H' ⟨vs',ks',rs',o',e1,e2,z,eo,el,em,hd,kp⟩=>?_⟩
 have hp':=kp _ _ (λy=>by rw[y,hD] at hp2;cases hp2) hp2;have sT:cZ K H' t (ks.map .str):=.inr ht;have sL:aU K H' p2 (r.map .str):=aU.of hp';have same:Same H H':=λb ob z=>kp b ob (λy=>by subst y;have:=sm _ _ z;rw[hD] at this;cases this) (sm b ob z);have step:∀{k w:Str}{Qo W3:List Str} {ov:Option V},ks.drop i=k::Qo->r.drop i=w::W3->dJ k w ov->(match ov with
   |some v=>∀H2 H4,Same H' H2->Same H2 H4->∃xs,H4 Da=some (.lst xs)/\xs.length<sizeLine/\∃m',m'<m/\∃vs' ks' rs' o',ks.drop (i+1)=ks'/\r.drop (i+1)=rs'/\dz ks' rs' o'/\o=o'.map (vs'++ ·)/\vs'.length=i+1/\m'=ks'.length/\upd H4 Da (.lst (xs++[v])) Da=some (.lst vs')/\∀b ob,b≠Da->H1 b=some ob->upd H4 Da (.lst (xs++[v])) b=some ob
   |none=>o=none)->((FJ K t p2).go i H'/\∀x mR,(FJ K t p2).wj i H' x mR->
   Dp K 2 (jW (cN 0) (jW (cN 1) Dm)) x (bH [none,none] σ) mR λσ2 H2=>eZ (bH [none,none] σ) σ2/\jX (qZ R) (aR (vR 0) (aR (vR 1) bK)) σ2 H2 (λy H4=>∃xs,H4 Da=some (.lst xs)/\xs.length<sizeLine/\∃m',m'<m/\∃vs' ks' rs' o',ks.drop (i+1)=ks'/\r.drop (i+1)=rs'/\dz ks' rs' o'/\o=o'.map (vs'++ ·)/\vs'.length=i+1/\m'=ks'.length/\upd H4 Da (.lst (xs++[y])) Da=some (.lst vs')/\∀b ob,b≠Da->H1 b=some ob->upd H4 Da (.lst (xs++[y])) b=some ob)
    λev dx H'=>∀e C T T2,ev=.ref e->H' e=some (bA e C dx (.ref T))->(∀C' tb,H' e=some (bA e C' dx tb)->C'=C)->E (.ref e) dx (upd H' e (bA e C dx (.ref T2)))):=λ{k w Qo W3 ov} d1 d2 hv hgo=>by
  have k1:ks[i]? =some k:=by rw[<-List.head?_drop,d1];rfl
  have k2:r[i]? =some w:=by rw[<-List.head?_drop,d2];rfl
  have m1:(ks.map V.str)[i]? =some (.str k):=by rw[getElem?_map,k1];rfl
  have m2:(r.map V.str)[i]? =some (.str w):=by rw[getElem?_map,k2];rfl
  refine⟨⟨_,_,_,_,sT,m1,sL,m2⟩,λx mR ⟨pp,x1,y1,hpp,ex,hx,hy,eh⟩=>?_⟩;subst ex eh;have q1:=Option.some.inj ((hx _ sT).symm.trans m1);have q2:=Option.some.inj ((hy _ sL).symm.trans m2);subst q1 q2;have s2:Same H' (upd H' pp (.tup [.str k,.str w])):=cO (Same.refl _) hpp;refine⟨pp,_,rfl,cZ.of aA,rfl,_,_,rfl,_,_,rfl,rfl,λj v e=>?_,?_⟩
  .match j with
   |0=>simp[bH] at e
   |1=>simp[bH] at e
   |n+2=>simp[bH] at e
  .unfold jX aR bK;refine aH (v:=.str k) rfl (aH (v:=.str w) rfl ⟨k,w,ov,rfl,hw w (mem_of_getElem? k2),hv,?_⟩);cases ov with
   |none=>have e:o=none:=hgo;subst e;exact(bT.le hq (same.trans s2)).on
   |some v=>exact λH4 s4=>hgo _ H4 s2 s4
 cases z with
 |nil=>left;refine⟨⟨_,_,sT,sL,by rw[length_map];exact List.drop_eq_nil_iff.mp e1⟩,?_⟩;have eo:o=some (vs'++[]):=eo;subst eo;rw[append_nil] at hq;exact hq Da H' same (sm.free hD) hd
 |bad hv hl=>exact .inr (step e1 e2 hv eo)
 | @ok k w v Qo W3 o1 hv z'=>
  refine .inr (step e1 e2 hv λH2 H4 s2 s4=>?_);have hi:i<r.length:=by have:=congrArg List.length e2;rw[length_drop,length_cons] at this;omega
  refine⟨vs',s4 _ _ (s2 _ _ hd),Nat.lt_of_le_of_lt (show vs'.length<=1000 by omega) (by decide),Qo.length,by rw[em];exact Nat.lt_succ_self _,vs'++[v],Qo,W3,o1,?_,?_,z',?_,by simp[el],rfl,aA,λb ob hb z=>?_⟩
  .rw[<-List.drop_drop,e1];rfl
  .rw[<-List.drop_drop,e2];rfl
  .rw[eo];cases o1<;>simp
  .rw[aB hb];exact s4 _ _ (s2 _ _ (kp b ob hb z))
theorem Jd:bI ["words","form"] ["words"] (aj (top 44)):=fs
theorem Za {f:Addr}{fd:FuncData}(F:cP K "values_of" "values_of" (top 44) f fd)(B:Bl mg)(c:gQ K mg R D f0){aF:Addr}(GF:mg "FORMS"=some (.ref aF))(kF:Forms P w K aF)
  {f1:Addr}{iB:FuncData}(F1:aQ P w K mg base (bN P w) 2 f1 iB ["kind","word"] (qZ R))(gn:mg "value_of"=some (.ref f1))(kn:keepIn K (.ref f1)=true)(bn:Binds K iB ["kind","word"] []):
  aQ P w K mg base (bN P w) 3 f fd ["words"] (Qm R):=by
 have nd:=Jd.nd;have vt:=(show(["words","form"]:List Str).all (λx=>dG (aj (top 44)) x && plain x)=true by decide +kernel);have r6:=c.one 6 (by decide) (by decide);obtain⟨kvs,kd,pf⟩:=kF;refine qQ (k:=2) F Jd (λvs H Q E h=>by obtain⟨_,_,_,rfl,_⟩:=h;rfl) λcdv A outer s H vs Q E hr hsp=>?_;refine⟨_,aJ (cu (PW.pt (o8 (fH Ng aY (pV vt 0)) (nU (mH (PK (cM fJ (pV vt 0) aP) (g8 (v:=.ref aF) (gl (sc:=aj (top 44)) (by decide +kernel)) GF rfl))))))
   (aN (eV (jy r6.xc r6.ini r6.kp (gl (sc:=aj (top 44)) (by decide +kernel)) r6.g (au aY aM)))) bM)
  (aJ (cU (i:=1) nd rfl (lo (sc:=aj (top 44)) (by decide +kernel)) (Ip (g8 (v:=.ref aF) (gl (sc:=aj (top 44)) (by decide +kernel)) GF rfl) (cM fJ (pV vt 0) aP) (λ_ _=>rfl)))
  (aJ (cu (fH oNe (bU R8 (dj Kc (gl (sc:=aj (top 44)) (by decide +kernel)) B.len PySem.boot_len (au (pV vt 0) aM)) aP) (dj Kc (gl (sc:=aj (top 44)) (by decide +kernel)) B.len PySem.boot_len (au (pV vt 1) aM)))
   (aN (eV (jy r6.xc r6.ini r6.kp (gl (sc:=aj (top 44)) (by decide +kernel)) r6.g (au aY aM)))) bM)
  (aN (Ug (g:=Dp K 2 (jW (cN 0) (jW (cN 1) Dm))) (te:=jX (qZ R) (aR (vR 0) (aR (vR 1) bK))) (scope:=W2) (N':=["kind","word"]) (cap:=[none,none]) (by decide +kernel) (aeJ (gl (sc:=aj (top 44)) (by decide +kernel)) B.zip (au (pV vt 1) (au (lM zy (pV vt 0) (qF aP) zx) aM)))
   (λ_ _ _ _ _=>xT (n:=2) rfl (iM (uE (i:=0) Jc Ux) (iM (uE (i:=1) Jc Uy) zp)))
   (λ_ _ _ _ _=>Uw F1 hr (glC (by decide +kernel)) gn kn bn (au (pD Jb 0) (au (pD Jb 1) aM))))))),?_⟩
 obtain⟨p,ws,o,rfl,hp,hw,hz,hl,hq⟩:=hsp;obtain⟨w0,r,rfl,hl⟩:=hl;have bad:∀{ta:TA}{D':Ends} {σ:L2.St} {H1:Hp},Same H H1->o=none->(∀Q':List V->Hp->Prop,(∀y,Q' [.str y] H1)->ta σ H1 Q')->jT K E (w6 (R 6) ta) D' σ H1:=λs1 e ht=>by subst e;exact jU c (by decide) (by decide) s1 ht hq
 have lit:∀{x:Str}{σ:L2.St} {H1:Hp} {Q':List V->Hp->Prop},(∀y,Q' [.str y] H1)->aR (tC (.str x)) bK σ H1 Q':=λz=>z _;unfold dX gK Mv iY;have inn:∀{σ:L2.St}{Q':VK},σ[0]? =some (some (.ref p))->Q' (.bl (inV (.str "") ((w0::r).map V.str))) H->dU (VB K false) (tC (.str "")) (vR 0) σ H Q':=λe q=>by unfold dU tC;exact aH e ⟨p,_,rfl,.inl (aU.of hp),rfl,Qn _,q⟩
 refine inn rfl ?_;rw[Ja];show(if decide _=true then _ else _);by_cases he:("":Str)∈w0::r
 .rw[if_pos he] at hl;rw[if_pos (decide_eq_true he)];try dsimp only
  rw[if_pos (by rfl)];exact bad (Same.refl _) hl λQ' z=>lit z
 rw[if_neg he] at hl;rw[if_neg (by simpa using he)];have ix:∀{σ:L2.St}{H1:Hp} {Q':VK},σ[0]? =some (some (.ref p))->Same H H1->Q' (.str w0) H1->dU (lu K) (vR 0) (tC (.int 0)) σ H1 Q':=λe s1 q=>aH e ⟨_,.str w0,aU.of (s1 _ _ hp),by simp[cR,nq],q⟩;unfold tB Io;refine ix rfl (Same.refl _) ⟨aF,kvs,.inr w0,rfl,rfl,kd,_,rfl,?_⟩;have g:=IW w0 pf;cases hg:bB w0 cY with
 |none=>
  rw[hg] at hl g;rw[show dI kvs (.inr w0)=none from g];try dsimp only
  rw[if_pos (by rfl)];exact bad (Same.refl _) hl λQ' z=>lit z
 |some ks=>
  rw[hg] at hl g;obtain⟨t,gv,gt⟩:=g;rw[gv];try dsimp only
  rw[if_neg (by simp)];unfold jF;try dsimp only
  unfold gM Le cN;refine ix rfl (Same.refl _) ⟨aF,kvs,.inr w0,.ref t,rfl,rfl,kd,gv,?_⟩;try dsimp only
  have len:∀{i:Nat}{a:Addr} {xs:List V} {σ:L2.St} {Q':VK},σ[i]? =some (some (.ref a))->(aU K H a xs\/cZ K H a xs)->Q' (.int xs.length) H->mO (yh K) (aR (vR i) bK) σ H Q':=λe h q=>aH e ⟨_,h,q⟩;have cmp:∀{σ:L2.St}{Q':VK},σ[0]? =some (some (.ref p))->σ[1]? =some (some (.ref t))->Q' (.bl (!decide ((((w0::r).map V.str).length:Int) - 1=((ks.map V.str).length:Int)))) H->dU (rM λi j=>.bl (!decide (i=j))) (dU (rM λi j=>.int (i - j)) (mO (yh K) (aR (vR 0) bK)) (tC (.int 1))) (mO (yh K) (aR (vR 1) bK)) σ H Q':=λe0 e1 q=>
   len e0 (.inl (aU.of hp)) (len e1 (.inr (.inr gt)) q)
  refine cmp rfl rfl ?_;try dsimp only
  replace hl:if r.length=ks.length then dz ks r o else o=none:=hl
  by_cases hlen:r.length=ks.length
  .rw[if_pos hlen] at hl;rw[if_neg (by simp[hlen])];unfold xLC iZt;have sl:∀{σ:L2.St}{Q':List V->Hp->Prop},σ[0]? =some (some (.ref p))->σ[1]? =some (some (.ref t))->(∀p2,H p2=none->Q' [.ref t,.ref p2] (upd H p2 (.lst (r.map .str))))->aR (vR 1) (aR (Dy (RK K) (vR 0) (pA (tC (.int 1))) qD) bK) σ H Q':=λe0 e1 q=>by
    refine aH e1 ?_;unfold aR Dy pA qD tC bK;refine aH e0 ⟨1,rfl,p,_,rfl,aU.of hp,λp2 h2=>?_⟩;have e:mX ((w0::r).map V.str) (some 1) none=r.map V.str:=by
     have e1:min (1:Int).toNat ((w0::r).map V.str).length=1:=by rw[length_map,length_cons];show min 1 (r.length+1)=1;omega
     show List.take (((w0::r).map V.str).length - min (1:Int).toNat ((w0::r).map V.str).length) (List.drop (min (1:Int).toNat ((w0::r).map V.str).length) ((w0::r).map V.str))=_;rw[e1,map_cons];exact take_of_length_le (by simp)
    rw[e];exact q p2 h2
   refine sl rfl rfl λp2 h2=>⟨t,p2,rfl,⟨_,.inr gt⟩,⟨_,aU.of aA⟩,?_⟩;exact acp gt aA hl (λw hw'=>hw w (mem_cons_of_mem _ hw')) (by rw[length_cons] at hz;omega) (cO (Same.refl _) h2) hq
  .rw[if_neg hlen] at hl;rw[if_pos (by simp;omega)];exact bad (Same.refl _) hl λQ' z=>lit z
end
noncomputable def acq (ta tb:TE):TE:=λσ H Q=>ta σ H λx H1=>∃z:Str,x=.str z/\z.length<=sizeLine/\if z.length=0 then tb σ H1 Q else Q x H1
theorem acr {X:Cx}{a b:Expr}{rest:List Expr}{ta tb:TE}{pos:Pos}(ha:PE X a ta)(hb:PE X (.BoolOp .Or (b::rest) pos) tb):PE X (.BoolOp .Or (a::b::rest) pos) (acq ta tb):=by
 intro pins s σ H Q I h;refine BoolOp_or (aO (ha pins s σ H _ I h) λv s1 ⟨x,H1,I1,r1,z,ex,hz,q1⟩=>?_);subst ex;obtain⟨t,rfl⟩:=r1;have hz':=hz;rw[sizeLine_eq] at hz';refine PySem.P.truthy_str (by omega) ?_;by_cases e:z.length=0
 .rw[if_pos e] at q1;rw[show((z.length:Int) !=0)=false by simp[e]];exact hb pins _ σ H1 Q (I1.tok _) q1
 .rw[if_neg e] at q1;rw[show((z.length:Int) !=0)=true by simpa using e];exact⟨.str z,H1,I1.tok _,⟨_,rfl⟩,q1⟩
theorem lcL {K:Frag}{a:Addr}{xs:List V}{cap:List (Option Nat)}{g:TG}{tc:TT}{te:TE}{σ:L2.St}{H1:Hp}{Q:VK}(Pv:Addr->Nat->List V->Hp->Prop)(hz:xs.length<sizeLine)
  (h0:∀D,H1 D=none->Pv D 0 [] (upd H1 D (.lst [])))(hl:∀D i ys H,Pv D i ys H->aU K H a xs)(htc:∀σ H (R:Bool->Hp->Prop),R true H->tc σ H R)
  (hs:∀D i x ys H,H1 D=none->xs[i]? =some x->Pv D i ys H->H D=some (.lst ys)->∀(R:VK) (Kt:L2.St->Hp->Prop),(∀y H4,H4 D=some (.lst ys)->Pv D (i+1) (ys++[y]) (upd H4 D (.lst (ys++[y])))->R y H4)->(∀σ2 H2,eZ (bH cap σ) σ2->te σ2 H2 R->Kt σ2 H2)->g x (bH cap σ) H Kt)
  (hQ:∀D ys H,H1 D=none->Pv D xs.length ys H->ys.length=xs.length->H D=some (.lst ys)->Q (.ref D) H):DW (ud K a) cap g tc te σ H1 Q:=by
 intro D hD;refine⟨λi m H=>m=xs.length - i/\i<=xs.length/\∃ys,ys.length=i/\H D=some (.lst ys)/\Pv D i ys H,⟨_,rfl,zero_le _,[],rfl,aA,h0 D hD⟩,?_⟩;rintro i m H ⟨rfl,hi,ys,hyl,hyD,p⟩;have uF:=hl D i ys H p;by_cases hlt:i<xs.length
 .refine .inr ⟨⟨xs,xs[i],uF,by simp[hlt]⟩,λx H' y=>?_⟩;obtain⟨e,y⟩:=y;subst e;have ex:=y xs uF;refine hs D i x ys _ hD ex p hyD (λy H4=>∃zs,H4 D=some (.lst zs)/\zs.length<sizeLine/\∃m',m'<xs.length - i/\(m'=xs.length - (i+1)/\i+1<=xs.length/\∃ys',ys'.length=i+1/\upd H4 D (.lst (zs++[y])) D=some (.lst ys')/\Pv D (i+1) ys' (upd H4 D (.lst (zs++[y]))))) _ (λv H4 h1 h2=>?_) λσ2 H2 ck h=>⟨ck,htc _ _ _ (by rw[if_pos rfl];exact h)⟩;exact⟨ys,h1,by omega,xs.length - (i+1),by omega,rfl,hlt,ys++[v],by rw[length_append,hyl];rfl,aA,h2⟩
 .have e:i=xs.length:=by omega
  subst e;exact .inl ⟨⟨xs,uF,le_refl _⟩,hQ D ys _ hD p hyl hyD⟩
section
variable {P:Program}{w:World}{K:Frag}{mg:Str->Option Value}{base:Heap}
noncomputable def jC (r:Row):Str:=r.1++(" "++(r.2.1++(" "++(r.2.2.1++(" "++(toString r.2.2.2.1++(" "++(toString r.2.2.2.2++Str.empty))))))))
structure W4 (r:Row):Prop where
 n:r.1.length<=100
 a:r.2.1.length<=100
 b:r.2.2.1.length<=100
 w:kW r.2.2.2.1
 l:kW r.2.2.2.2
def Qp:Sp:=λvs H Q _=>∃q ts rows,vs=[.ref q]/\H q=some (.lst ts)/\Paired (Um H) ts rows/\rows.length<100/\(∀r∈rows,W4 r)/\JoinOk "; " (rows.map jC)=true/\(Txt.join "; " (rows.map jC)).length≠0/\(Txt.join "; " (rows.map jC)).length<=sizeLine/\
 ∀H',Same H H'->Q (.str (Txt.join "; " (rows.map jC))) H'
def aeO:Stmt->Scope
 |.Assign _ (.ListComp _ _ sc _) _=>sc
 |_=>aj (top 50)
noncomputable abbrev W5:Scope:=aeO ((cH (top 50)).getD 0 (.Pass ⟨0,0,0,0⟩))
theorem rA:(["name","a","b","width","length"]:List Str).all (λx=>zE W5 x && plain x)=true:=by decide +kernel
theorem rB:(["name","a","b","width","length"]:List Str).Nodup:=by decide +kernel
theorem Zb:(["name","a","b","width","length"]:List Str).all (λx=>wU W5 x)=true:=by decide +kernel
theorem Qq {x:Str}(h:x∈(["name","a","b","width","length"]:List Str)):wU W5 x=true:=all_eq_true.mp Zb x h
theorem Je:bI ["passages","told"] ["passages"] (aj (top 50)):=fs
theorem Zc {f:Addr}{fd:FuncData}(F:cP K "told_passages" "told_passages" (top 50) f fd):aQ P w K mg base cV 1 f fd ["passages"] Qp:=by
 have nd:=Je.nd;have vt:=(show(["passages","told"]:List Str).all (λx=>dG (aj (top 50)) x && plain x)=true by decide +kernel);refine cP.ok (k:=0) F Je (λvs H Q E h=>by obtain⟨_,_,_,rfl,_⟩:=h;rfl) λcdv A outer s H vs Q E hr hsp=>?_;refine⟨_,aJ (Ea (i:=1) (scope:=W5) (N':=["name","a","b","width","length"]) (cap:=[none,none,none,none,none]) (g:=Dp K 5 (jW (cN 0) (jW (cN 1) (jW (cN 2) (jW (cN 3) (jW (cN 4) Dm)))))) nd rfl (lo (sc:=aj (top 50)) (by decide +kernel)) ["passages","told"] (aj (top 50)) rfl (by decide +kernel) rfl rfl (qx (pV vt 0))
   (λ_ _ _ _ _=>xT (n:=5) rfl (iM (uE (i:=0) rB (Qq (by decide))) (iM (uE (i:=1) rB (Qq (by decide))) (iM (uE (i:=2) rB (Qq (by decide))) (iM (uE (i:=3) rB (Qq (by decide))) (iM (uE (i:=4) rB (Qq (by decide))) zp))))))
   (λ_ _ _ _ _=>Hr) (λ_ _ _ _ _=>Ub (iT (Fw (pD rA 0)) (iT yH (iT (Fw (pD rA 1)) (iT yH (iT (Fw (pD rA 2)) (iT yH (iT (Pz (pD rA 3)) (iT yH (iT (Pz (pD rA 4)) YJ)))))))))))
  (aN (cT (acr (Fv aY (au (pV vt 1) aM)) (nW aY)))),?_⟩
 obtain⟨q,ts,rows,rfl,hp,hR,hn,hok,hj,hne,hsz,hq⟩:=hsp;have hrl:=hR.length;unfold dX gM wF vD cN;refine aH (v:=.ref q) rfl ⟨q,rfl,⟨_,aU.of hp⟩,?_⟩;refine lcL (xs:=ts) (λD i ys H'=>(∀b o,b≠D->H b=some o->H' b=some o)/\H D=none/\ys=(rows.take i).map λr=>.str (jC r)) (lt_trans (show ts.length<100 by omega) (by decide)) (λD hD=>⟨λb o hb e=>by rw[aB hb];exact e,hD,rfl⟩)
  (λD i ys H' ⟨k,hD,_⟩=>aU.of (k _ _ (λz=>by rw[z,hD] at hp;cases hp) hp)) (λ_ _ _ h=>h) (λD i x ys H' hD hx ⟨k,_,hy⟩ hDy R' Kt hR' hK=>?_) λD ys H' hD ⟨k,_,hy⟩ hyl hDy=>?_
 .obtain⟨r,hr,t,rfl,ht⟩:=sW hR hx;have ho:=hok r (mem_of_getElem? hr);refine⟨t,zW r,rfl,cZ.of (k _ _ (λz=>by rw[z,hD] at ht;cases ht) ht),rfl,_,_,rfl,_,_,rfl,_,_,rfl,_,_,rfl,_,_,rfl,rfl,hK _ _ (λj v e=>?_) ?_⟩
  .rcases j with _|_|_|_|_|j<;>simp[bH] at e
  .unfold tFV tFC tFS tFI tFL tF0;have l1:=ho.n;have l2:=ho.a;have l3:=ho.b;refine aH (v:=.str r.1) rfl ⟨_,rfl,by omega,aH (v:=.str r.2.1) rfl ⟨_,rfl,by omega,aH (v:=.str r.2.2.1) rfl ⟨_,rfl,by omega,aH (v:=.int r.2.2.2.1) rfl ⟨_,rfl,ho.w,aH (v:=.int r.2.2.2.2) rfl ⟨_,rfl,ho.l,?_⟩⟩⟩⟩⟩;refine hR' _ _ hDy ⟨λb o hb e=>by rw[aB hb];exact k b o hb e,hD,?_⟩;rw[hy,List.take_add_one,hr];simp[jC]
 .unfold lJ acq pB rJoin aR bK tC;rw[take_of_length_le (by omega)] at hy;refine⟨rfl,?_⟩;try dsimp only
  refine aH (v:=.ref D) rfl ⟨_,D,rows.map jC,rfl,rfl,aU.of (by rw[hDy,hy,map_map];rfl),hj,_,rfl,hsz,?_⟩;rw[if_neg hne];exact hq _ λb o e=>k b o (λz=>by subst z;rw[hD] at e;cases e) e
end
section
variable {P:Program}{w:World}{K:Frag}{mg:Str->Option Value}{base:Heap}{C D f0:Addr}{R:Nat->Addr}
def zY (C:Addr)(R:Nat->Addr):Sp:=λvs H _ E=>∃p dx nn ll nums ls nm v,vs=[.ref p,.str nm,v]/\cF H C p dx nn ll nums ls/\gR nm/\bB nm ls=none/\bT R 4 H E
theorem Uz:bI ["self","name","turns","without"] ["self","name","turns"] (aj (bV 11)):=fs
theorem UG {f:Addr}{fd:FuncData}(F:cP K "worth" "NamedHall.worth" (bV 11) f fd)(c:Cl K C){f5:Addr}{vf:FuncData}(F5:aQ P w K mg base (bN P w) 1 f5 vf ["self","name"] (vd C R))(m5:Meth K C "look_for" f5)(b5:Binds K vf ["self","name"] []):
  aQ P w K mg base (bN P w) 2 f fd ["self","name","turns"] (zY C R):=by
 have vt:=(show(["self","name","turns","without"]:List Str).all (λx=>dG (aj (bV 11)) x && plain x)=true by decide +kernel);refine qQ (k:=1) F Uz (λvs H Q E h=>by obtain⟨_,_,_,_,_,_,_,_,rfl,_⟩:=h;rfl) λcdv A outer s H vs Q E hr hsp=>?_;refine⟨_,aJ (dY (iy (pV vt 0) c.cl m5 F5 hr b5 (au (pV vt 1) aM))) mJ,?_⟩;obtain⟨p,dx,nn,ll,nums,ls,nm,v,rfl,hh,wd,hg,hq⟩:=hsp;unfold dX jY aR bK;refine aH (v:=.ref p) rfl ⟨p,dx,_,rfl,hh.ins,rfl,aH (v:=.str nm) rfl ⟨p,dx,nn,ll,nums,ls,nm,rfl,hh,wd,?_⟩⟩;rw[hg];exact hq.on
noncomputable def yO (H:Hp)(C p:Addr):Prop:=∃dx nn ll,H p=some (.ins C dx [("numbers",.ref nn),("laid",.ref ll)])
def xr (C:Addr)(R:Nat->Addr):Sp:= λvs H Q E=>∃p v vl wd,vs=[.ref p,.str wd,.ref v]/\yO H C p/\H v=some (.lst vl)/\
  ((wd="lay"/\vl.length=5/\CZ C R (.ref p::vl) H (λ_ H'=>Q .non H') (yI E))\/(wd="shut"/\vl.length=1/\yN C R (.ref p::vl) H (λ_ H'=>Q .non H') (yI E))\/
   (wd="widen"/\vl.length=2/\vU C R (.ref p::vl) H (λ_ H'=>Q .non H') (yI E))\/(wd="narrow"/\vl.length=2/\sV C R (.ref p::vl) H (λ_ H'=>Q .non H') (yI E)))
theorem Qs:bI ["hall","word","values"] ["hall","word","values"] (aj (top 48)):=fs
structure UJ (P:Program)(w:World)(K:Frag)(mg:Str->Option Value)(base:Heap)(C:Addr)(R:Nat->Addr):Prop where
 cl:Cls K C
 lay:∃f fd,aQ P w K mg base (bN P w) 3 f fd ["self","name","a","b","width","length"] (CZ C R)/\Meth K C "lay" f/\Binds K fd ["self","name","a","b","width","length"] []
 shut:∃f fd,aQ P w K mg base (bN P w) 2 f fd ["self","name"] (yN C R)/\Meth K C "shut" f/\Binds K fd ["self","name"] []
 widen:∃f fd,aQ P w K mg base (bN P w) 2 f fd ["self","name","more"] (vU C R)/\Meth K C "widen" f/\Binds K fd ["self","name","more"] []
 narrow:∃f fd,aQ P w K mg base (bN P w) 2 f fd ["self","name","less"] (sV C R)/\Meth K C "narrow" f/\Binds K fd ["self","name","less"] []
 worth:∃f fd,aQ P w K mg base (bN P w) 2 f fd ["self","name","turns"] (zY C R)/\Meth K C "worth" f/\Binds K fd ["self","name","turns"] []
 rooms:∃f fd,aQ P w K mg base cV 1 f fd ["self"] (zX C)/\Meth K C "rooms" f/\Binds K fd ["self"] []
 pass:∃f fd,aQ P w K mg base cV 2 f fd ["self"] (Qg C)/\Meth K C "passages" f/\Binds K fd ["self"] []
theorem jq {i:Nat}{j:Int}{σ:L2.St}{H:Hp}{Q:VK}{l:Addr}{xs:List V}{v:V}(e:σ[i]? =some (some (.ref l)))(h:H l=some (.lst xs))(a:cR xs j=some v)(q:Q v H):dU (lu K) (vR i) (tC (.int j)) σ H Q:=aH e ⟨xs,v,aU.of h,a,q⟩
theorem gG {i:Nat}{y x:Str}{σ:L2.St}{H:Hp}{Q:Bool->Hp->Prop}(e:σ[i]? =some (some (.str y)))(q:Q (decide (y=x)) H):iY (dU Vx (vR i) (tC (.str x))) σ H Q:=by unfold iY;refine aH e ⟨rfl,?_⟩;show Q (decide (V.str y=V.str x)) H;rw[show decide (V.str y=V.str x)=decide (y=x) from decide_eq_decide.mpr ⟨λz=>by injection z,λz=>by rw[z]⟩];exact q
theorem Qt {f:Addr}{fd:FuncData}(F:cP K "change" "change" (top 48) f fd)(M:UJ P w K mg base C R):aQ P w K mg base (bN P w) 4 f fd ["hall","word","values"] (xr C R):=by
 have vt:=(show(["hall","word","values"]:List Str).all (λx=>dG (aj (top 48)) x && plain x)=true by decide +kernel);obtain⟨f1,iB,F1,m1,b1⟩:=M.lay;obtain⟨f2,fd2,F2,m2,b2⟩:=M.shut;obtain⟨f3,W6,F3,m3,b3⟩:=M.widen;obtain⟨f4,fd4,F4,m4,b4⟩:=M.narrow;refine qQ (k:=3) F Qs (λvs H Q E h=>by obtain⟨_,_,_,_,rfl,_⟩:=h;rfl) λcdv A outer s H vs Q E hr hsp=>?_;refine⟨_,aN (cu (fH fL (pV vt 1) aY) (aN (dY (iy (pV vt 0) M.cl m1 F1 hr b1 (au (cM fJ (pV vt 2) aP) (au (cM fJ (pV vt 2) aP) (au (cM fJ (pV vt 2) aP) (au (cM fJ (pV vt 2) aP) (au (cM fJ (pV vt 2) aP) aM))))))))
  (aN (cu (fH fL (pV vt 1) aY) (aN (dY (iy (pV vt 0) M.cl m2 F2 (hr.mono (by decide)) b2 (au (cM fJ (pV vt 2) aP) aM))))
  (aN (cu (fH fL (pV vt 1) aY) (aN (dY (iy (pV vt 0) M.cl m3 F3 (hr.mono (by decide)) b3 (au (cM fJ (pV vt 2) aP) (au (cM fJ (pV vt 2) aP) aM)))))
  (aN (cu (fH fL (pV vt 1) aY) (aN (dY (iy (pV vt 0) M.cl m4 F4 (hr.mono (by decide)) b4 (au (cM fJ (pV vt 2) aP) (au (cM fJ (pV vt 2) aP) aM))))) bM))))))),?_⟩
 obtain⟨p,v,vl,wd,rfl,⟨dx,nn,ll,hp⟩,hv,hq⟩:=hsp;unfold gK;rcases hq with⟨rfl,hl,hq⟩|⟨rfl,hl,hq⟩|⟨rfl,hl,hq⟩|⟨rfl,hl,hq⟩
 .refine gG (y:="lay") rfl ?_;rw[if_pos (by decide)]
  match vl,hl with
  |[v0,v1,v2,v3,v4],_=>unfold jY aR bK;exact aH (v:=.ref p) rfl ⟨p,dx,_,rfl,hp,rfl,jq (l:=v) rfl hv rfl (jq (l:=v) rfl hv rfl (jq (l:=v) rfl hv rfl (jq (l:=v) rfl hv rfl (jq (l:=v) rfl hv rfl hq))))⟩
 .refine gG (y:="shut") rfl ?_;rw[if_neg (by decide)];refine gG (y:="shut") rfl ?_;rw[if_pos (by decide)]
  match vl,hl with
  |[v0],_=>unfold jY aR bK;exact aH (v:=.ref p) rfl ⟨p,dx,_,rfl,hp,rfl,jq (l:=v) rfl hv rfl hq⟩
 .refine gG (y:="widen") rfl ?_;rw[if_neg (by decide)];refine gG (y:="widen") rfl ?_;rw[if_neg (by decide)];refine gG (y:="widen") rfl ?_;rw[if_pos (by decide)]
  match vl,hl with
  |[v0,v1],_=>unfold jY aR bK;exact aH (v:=.ref p) rfl ⟨p,dx,_,rfl,hp,rfl,jq (l:=v) rfl hv rfl (jq (l:=v) rfl hv rfl hq)⟩
 .refine gG (y:="narrow") rfl ?_;rw[if_neg (by decide)];refine gG (y:="narrow") rfl ?_;rw[if_neg (by decide)];refine gG (y:="narrow") rfl ?_;rw[if_neg (by decide)];refine gG (y:="narrow") rfl ?_;rw[if_pos (by decide)]
  match vl,hl with
  |[v0,v1],_=>unfold jY aR bK;exact aH (v:=.ref p) rfl ⟨p,dx,_,rfl,hp,rfl,jq (l:=v) rfl hv rfl (jq (l:=v) rfl hv rfl hq)⟩
end
section
variable {P:Program}{w:World}{K:Frag}{mg:Str->Option Value}{base:Heap}{C D f0:Addr}{R:Nat->Addr}
def Qu (H:Hp)(C p:Addr)(z:Str):Prop:=∃dx nn ll nums ls,cF H C p dx nn ll nums ls/\JoinOk " " (seenOf nums)=true/\z=Txt.join " " (seenOf nums)
def W7 (H:Hp)(C p:Addr)(z:Str):Prop:=∃dx nn ll nums ls rows,cF H C p dx nn ll nums ls/\ls.length<100/\Paired (LR (seenOf nums)) ls rows/\(∀r∈rows,W4 r)/\JoinOk "; " (rows.map jC)=true/\z=Txt.join "; " (rows.map jC)/\z.length≠0/\z.length<=sizeLine
def Lq (C:Addr)(R:Nat->Addr):Sp:= λvs H Q E=>∃p v vl wd,vs=[.ref p,.str wd,.ref v]/\yO H C p/\H v=some (.lst vl)/\
  ((wd="worth"/\vl.length=2/\zY C R (.ref p::vl) H Q (yI E))\/(wd="rooms"/\∃z,Qu H C p z/\∀H',Same H H'->Q (.str z) H')\/(wd="passages"/\∃z,W7 H C p z/\∀H',Same H H'->Q (.str z) H')\/
   (wd∈(["lay","shut","widen","narrow"]:List Str)/\xr C R vs H (λ_ H'=>Q (.str "ok") H') (yI E)))
theorem acu:bI ["hall","word","values","fewest"] ["hall","word","values"] (aj (top 47)):=fs
theorem acv {f:Addr}{fd:FuncData}(F:cP K "answer_to" "answer_to" (top 47) f fd)(B:Bl mg)(uZ:mg "str"=none)(M:UJ P w K mg base C R){f1:Addr}{iB:FuncData}(F1:aQ P w K mg base (bN P w) 4 f1 iB ["hall","word","values"] (xr C R))(g1:mg "change"=some (.ref f1))(k1:keepIn K (.ref f1)=true)(b1:Binds K iB ["hall","word","values"] [])
  (CT:lE P w K mg base 1 "told_passages" ["passages"] Qp):aQ P w K mg base (bN P w) 5 f fd ["hall","word","values"] (Lq C R):=by
 have vt:=(show(["hall","word","values","fewest"]:List Str).all (λx=>dG (aj (top 47)) x && plain x)=true by decide +kernel);obtain⟨f2,fd2,F2,m2,b2⟩:=M.worth;obtain⟨f3,W6,F3,m3,b3⟩:=M.rooms;obtain⟨f4,fd4,F4,m4,b4⟩:=M.pass;refine qQ (k:=4) F acu (λvs H Q E h=>by obtain⟨_,_,_,_,rfl,_⟩:=h;rfl) λcdv A outer s H vs Q E hr hsp=>?_;refine⟨_,aJ (cu (fH fL (pV vt 1) aY) mJ bM) (aJ (cu (fH fL (pV vt 1) aY) mJ bM) (aJ (cu (fH fL (pV vt 1) aY) mJ bM) (aJ (cu (fH fL (pV vt 1) aY) mJ bM)
  (aJ (cu (fH fL (pV vt 1) aY) (aN (Ij (Uh (gl (sc:=aj (top 47)) (by decide +kernel)) uZ boot_str (iy (pV vt 0) M.cl m2 F2 (hr.mono (by decide)) b2 (au (cM fJ (pV vt 2) aP) (au (cM fJ (pV vt 2) aP) aM)))))) bM)
  (aJ (cu (fH fL (pV vt 1) aY) (aN (cT (Fv aY (au (wO (pV vt 0) M.cl m3 F3 (hr.mono (by decide)) b3 .nil mC) aM)))) bM)
  (aJ (cu (fH fL (pV vt 1) aY) (aN (cT (fV CT (hr.mono (by decide)) (gl (sc:=aj (top 47)) (by decide +kernel)) (au (wO (pV vt 0) M.cl m4 F4 (hr.mono (by decide)) b4 .nil mC) aM)))) bM)
  (aJ (dY (jK F1 hr (gl (sc:=aj (top 47)) (by decide +kernel)) g1 k1 b1 (au (pV vt 0) (au (pV vt 1) (au (pV vt 2) aM)))))
  (aN (cT aY))))))))),?_⟩
 obtain⟨p,v,vl,wd,rfl,⟨dx,nn,ll,hp⟩,hv,hq⟩:=hsp;unfold dX gK jF;rcases hq with⟨rfl,hl,hq⟩|⟨rfl,z,hz,hq⟩|⟨rfl,z,hz,hq⟩|⟨hm,hq⟩
 .iterate 4 (refine gG (y:="worth") rfl ?_;rw[if_neg (by decide)];try dsimp only)
  refine gG (y:="worth") rfl ?_;rw[if_pos (by decide)]
  match vl,hl with
  |[v0,v1],_=>unfold jY aR bK;refine aH (v:=.ref p) rfl ⟨p,dx,_,rfl,hp,rfl,jq (l:=v) rfl hv rfl (jq (l:=v) rfl hv rfl ?_)⟩;exact hq
 .iterate 5 (refine gG (y:="rooms") rfl ?_;rw[if_neg (by decide)];try dsimp only)
  refine gG (y:="rooms") rfl ?_;rw[if_pos (by decide)];obtain⟨bJ,nn',ll',nums,ls,hh,hj,rfl⟩:=hz;unfold lJ pB rJoin aR bK tC kZ;refine⟨rfl,?_⟩;try dsimp only
  refine aH (v:=.ref p) rfl ⟨p,dx,_,rfl,hp,rfl,p,bJ,nn',ll',nums,ls,rfl,hh,λq hq'=>⟨_,q,seenOf nums,rfl,rfl,aU.of aA,hj,hq _ (cO (Same.refl _) hq')⟩⟩
 .iterate 6 (refine gG (y:="passages") rfl ?_;rw[if_neg (by decide)];try dsimp only)
  refine gG (y:="passages") rfl ?_;rw[if_pos (by decide)];obtain⟨bJ,nn',ll',nums,ls,rows,hh,hn,hR,hok,hj,rfl,h0,h1⟩:=hz;unfold lJ jm aR bK kZ;have hrl:=hR.length;refine aH (v:=.ref p) rfl ⟨p,dx,_,rfl,hp,rfl,p,bJ,nn',ll',nums,ls,rows,rfl,hh,hn,hR,λH' q ts s1 hq' hts hT=>⟨q,ts,rows,rfl,hts,hT,by omega,hok,hj,h0,h1,λH2 s2=>hq _ (s1.trans s2)⟩⟩
 .have ne:∀x:Str,x∈(["out","walks","moments","turns","worth","rooms","passages"]:List Str)->¬decide (wd=x)=true:=by simp only[mem_cons,not_mem_nil,or_false] at hm;rcases hm with rfl|rfl|rfl|rfl<;>decide
  iterate 7 (refine gG (y:=wd) rfl ?_;rw[if_neg (ne _ (by decide))];try dsimp only)
  unfold jX aR bK;exact aH (v:=.ref p) rfl (aH (v:=.str wd) rfl (aH (v:=.ref v) rfl hq))
end
section
variable {P:Program}{w:World}{K:Frag}{mg:Str->Option Value}{base:Heap}{C CD D f0:Addr}{R:Nat->Addr}
def gH (CD C:Addr)(R:Nat->Addr)(H:Hp)(Q:VK)(E:XK)(x dx:Addr)(hv:V)(w0:Str)(vl:List V):Prop:=
 if w0="hall" then ∃a b b1 b2,vl=[.str a,.str b]/\(gR a/\gR b)/\(jB a b1/\jB b b2)/\
  if(b1 && b2)=false then bT R 1 H E else if a=b then bT R 2 H E else ∀H' x' bJ nn ll,cF H' C x' bJ nn ll [(a,0),(b,1)] []->cQ H' CD x dx (.ref x')->(∀c o,c≠x->H c=some o->H' c=some o)->H x'=none->H nn=none->H ll=none->Q (.str "ok") H'
 else(hv=.non/\bT R 0 H E)\/∃p,hv=.ref p/\∀H1 l,Same H H1->H l=none->H1 l=some (.lst vl)->Lq C R [.ref p,.str w0,.ref l] H1 Q (yI E)
def fD (CD C:Addr)(R:Nat->Addr):Sp:=λvs H Q E=>∃x dx hv line w0 r o,vs=[.ref x,.str line]/\cQ H CD x dx hv/\lY line " "=true/\Txt.split line " "=w0::r/\(∀w∈w0::r,gR w)/\gF (w0::r) o/\match o with
 |none=>bT R 6 H E
 |some vl=>gH CD C R H Q E x dx hv w0 vl
theorem Qv:bI ["self","line","words","values"] ["self","line"] (aj (qY 1)):=fs
theorem acy {f:Addr}{fd:FuncData}(F:cP K "say" "Desk.say" (qY 1) f fd)(cD:Cls K CD)(nD:eY K CD "hall")(c:gQ K mg R D f0){fd0:FuncData}(F0:aQ P w K mg base cV 1 f0 fd0 ["self","place"] (u6 (R 0)))(b0:Binds K fd0 ["self","place"] [])
  {f1:Addr}{iB:FuncData}(F1:aQ P w K mg base (bN P w) 3 f1 iB ["words"] (Qm R))(g1:mg "values_of"=some (.ref f1))(k1:keepIn K (.ref f1)=true)(b1:Binds K iB ["words"] [])
  {f2:Addr}{fd2:FuncData}(F2:aQ P w K mg base (bN P w) 5 f2 fd2 ["hall","word","values"] (Lq C R))(g2:mg "answer_to"=some (.ref f2))(k2:keepIn K (.ref f2)=true)(b2:Binds K fd2 ["hall","word","values"] [])
  {f3:Addr}{W6:FuncData}(M:Mk K C f3)(F3:aQ P w K mg base (bN P w) 2 f3 W6 ["self","start","goal"] (W0 C R))(g3:mg "NamedHall"=some (.ref C))(b3:Binds K W6 ["self","start","goal"] []):
  aQ P w K mg base (bN P w) 6 f fd ["self","line"] (fD CD C R):=by
 have nd:=Qv.nd;have vt:=(show(["self","line","words","values"]:List Str).all (λx=>dG (aj (qY 1)) x && plain x)=true by decide +kernel);refine qQ (k:=5) F Qv (λvs H Q E h=>by obtain⟨_,_,_,_,_,_,_,rfl,_⟩:=h;rfl) λcdv A outer s H vs Q E hr hsp=>?_;refine⟨_,aJ (cU (i:=2) nd rfl (lo (sc:=aj (qY 1)) (by decide +kernel)) (Im (pV vt 1) (au aY aM)))
  (aJ (YS (i:=3) nd rfl (lo (sc:=aj (qY 1)) (by decide +kernel)) (by decide +kernel) (jK F1 (hr.mono (by decide)) (gl (sc:=aj (qY 1)) (by decide +kernel)) g1 k1 b1 (au (pV vt 2) aM)))
  (aJ (cu (fH fL (cM fJ (pV vt 2) aP) aY) (aJ (YT (pV vt 0) (YB M F3 (hr.mono (by decide)) (gl (sc:=aj (qY 1)) (by decide +kernel)) g3 b3 (au (cM fJ (pV vt 3) aP) (au (cM fJ (pV vt 3) aP) aM)))) (aN (cT aY))) bM)
  (aJ (cu (mH (xO (eG (pV vt 0) rfl))) (aN (eV (Wu c.no.xc c.no.ini c.no.fn c.no.kp F0 (hr.mono (show 2<=5 by decide)) b0 (gl (sc:=aj (qY 1)) (by decide +kernel)) c.no.gC (au qu aM)))) bM)
  (aN (Ij (jK F2 hr (gl (sc:=aj (qY 1)) (by decide +kernel)) g2 k2 b2 (au (eG (pV vt 0) rfl) (au (cM fJ (pV vt 2) aP) (au (pV vt 3) aM))))))))),?_⟩
 obtain⟨x,dx,hv,line,w0,r,o,rfl,hd,hs,hw,hwd,hl,hq⟩:=hsp;have hs':=hs;unfold lY at hs';simp only[and_eq_true,decide_eq_true_eq,not_eq_true'] at hs';have Lr:=show(1000:Nat)<=sizeLine by decide
 unfold dX gM pB Ft aR bK cN;refine aH (v:=.str line) rfl ⟨rfl,?_⟩;try dsimp only
 refine⟨line," ",rfl,rfl,hs'.1.1.1.1,le_trans hs'.1.1.1.2 Lr,le_trans hs'.1.1.2 Lr,le_trans hs'.1.2 Lr,λl hl0=>?_⟩;rw[hw];have s1:=cO (o:=.lst ((w0::r).map V.str)) (Same.refl H) hl0;have hl1:upd H l (.lst ((w0::r).map V.str)) l=some (.lst ((w0::r).map V.str)):=aA;generalize upd H l (.lst ((w0::r).map V.str))=H1 at s1 hl1;unfold jX;try dsimp only
 refine aH (v:=.ref l) rfl ⟨l,w0::r,o,rfl,hl1,hwd,by rw[<-hw];exact hs'.1.1.2,hl,?_⟩;cases o with
 |none=>exact(bT.le hq s1).on
 |some vl=>
  intro v H2 s2 hv1 hv2;have s12:=s1.trans s2;have hl2:=s2 _ _ hl1;have ixw:∀{σ:L2.St}{Q':VK},σ[2]? =some (some (.ref l))->Q' (.str w0) H2->dU (lu K) (vR 2) (tC (.int 0)) σ H2 Q':=λe q=>aH e ⟨_,.str w0,aU.of hl2,by simp[cR,nq],q⟩;replace hq:gH CD C R H Q E x dx hv w0 vl:=hq;unfold gH at hq;unfold gK iY;refine ixw rfl ⟨rfl,?_⟩;show(if decide (V.str w0=V.str "hall")=true then _ else _);by_cases hh:w0="hall"
  .rw[if_pos hh] at hq;rw[if_pos (by simp[hh])];obtain⟨a,b,b1,b2,rfl,⟨wa,wb⟩,⟨na,nb⟩,hq⟩:=hq;unfold Wv;refine jq (l:=v) rfl hv2 rfl (jq (l:=v) rfl hv2 rfl λx' bJ hx hdx hne=>?_);have sx:Same H (upd (upd H2 bJ (.own x')) x' (.ins C bJ [])):=cO (cO s12 (s12.free hdx)) (s12.free hx);refine⟨x',bJ,a,b,b1,b2,rfl,aA,⟨wa,wb⟩,⟨na,nb⟩,?_⟩;by_cases hb:(b1 && b2)=false
   .rw[if_pos hb] at hq ⊢;exact(hq.le sx).on
   rw[if_neg hb] at hq ⊢;by_cases hab:a=b
   .rw[if_pos hab] at hq ⊢;exact(hq.le sx).on
   rw[if_neg hab] at hq ⊢;intro H' nn ll hH kp hnn hll;have hxx:x≠x':=λz=>by have:=s12 _ _ hd;rw[z,hx] at this;cases this
   have hd':H' x=some (.ins CD dx [("hall",hv)]):=kp _ _ hxx (sx _ _ hd);refine⟨rfl,aH (v:=.ref x) rfl ⟨x,CD,dx,_,rfl,hd',cD,nD,by show 1<1000;decide,?_⟩⟩;have hnx:nn≠x:=λz=>by rw[z,sx _ _ hd] at hnn;cases hnn
   have hlx:ll≠x:=λz=>by rw[z,sx _ _ hd] at hll;cases hll
   refine hq _ x' bJ nn ll ?_ aA (λc' o hc e=>?_) (s12.free hx) (sx.free hnn) (sx.free hll)
   .obtain⟨i1,i2,⟨kvs,i3,i4⟩,i5⟩:=hH;cases i4;exact⟨by rw[aB hxx.symm];exact i1,by rw[aB hnx];exact i2,⟨[],by rw[aB hlx];exact i3,.nil⟩,i5⟩
   .rw[aB hc];refine kp c' o (λz=>?_) (sx _ _ e);rw[z,s12.free hx] at e;cases e
  .rw[if_neg hh] at hq;rw[if_neg (by simp[hh])];unfold jF;try dsimp only
   have hd2:=s12 _ _ hd;have fl:∀{σ:L2.St}{Q':VK},σ[0]? =some (some (.ref x))->Q' hv H2->Ds K (vR 0) "hall" σ H2 Q':=λe q=>fj e hd2 cD nD rfl q;unfold tB Dj;rcases hq with⟨rfl,hq⟩|⟨p,rfl,hq⟩
   .refine fl rfl ⟨true,by simp,?_⟩;try dsimp only
    rw[if_pos rfl];exact WR c s12 (λQ' z=>z) hq
   .refine fl rfl ⟨false,by simp,?_⟩;try dsimp only
    rw[if_neg (by decide)];refine fl rfl (ixw rfl (aH (v:=.ref v) rfl (hq H2 v s12 (s1.free hv1) hv2)))
end
section
variable {P:Program}{w:World}{K:Frag}{mg:Str->Option Value}{base:Heap}{D f0:Addr}{R:Nat->Addr}
structure acz (K:Frag)(mg:Str->Option Value)(R:Nat->Addr):Prop where
 one:∀j k,j<=6->k<=6->kitOne K (.ref (R k)) (.ref (R j))=some (decide (j=k))
 val:∀k,k<=6->kitOne K (.ref (R k)) (.type "ValueError")=some true
 nv:mg "ValueError"=none
theorem gQ.g (c:gQ K mg R D f0)(k:Nat)(h:k<=6):mg (WQ k)=some (.ref (R k)):=by
 cases k with
 |zero=>exact c.no.gC
 |succ k=>exact(c.one (k+1) (by omega) h).g
theorem gQ.xi (c:gQ K mg R D f0)(k:Nat)(h:k<=6):XI K (R k):=by
 cases k with
 |zero=>exact c.no.xi
 |succ k=>exact(c.one (k+1) (by omega) h).xi
theorem lZ.dct {k:Nat}{H:Hp}{e:Addr}{dx:Option Addr}(h:lZ R k H e dx):∀d,dx=some d->∃fs,H d=some (.xd fs):=by
 obtain⟨_,b⟩:=h;cases k with
 |zero=>obtain⟨d,b1,b2⟩:=b;intro d' z;rw[b1] at z;cases z;exact⟨_,b2⟩
 |succ k=>intro d' z;rw[show dx=none from b] at z;cases z
def acA (R:Nat->Addr):Sp:=λvs H Q _=>∃e dx k,vs=[.ref e,.int ((k:Nat):Int)]/\k<=6/\lZ R k H e dx/\∀H',Same H H'->Q (.bl true) H'
theorem W8:bI ["_law_caught","_law_at","_law_told_here"] ["_law_caught","_law_at"] (aj (top 54)):=⟨rfl,rfl,rfl,by decide +kernel,rfl,by decide +kernel,by decide +kernel⟩
theorem acB {te:TE}{σ:L2.St}{H:Hp}{Q:VK}{e:Addr}{dx:Option Addr}{k:Nat}{cv:V}{cl:Value}{b:Bool}(ht:∀Z:VK,Z (.ref e) H->te σ H Z)(x:lZ R k H e dx)(xi:XI K (R k))(hc:∀u,RelV cv u->u=cl)(hk:kitOne K (.ref (R k)) cl=some b)(q:Q (.bl b) H):
  mO (La K) (aR te (aR (tC cv) bK)) σ H Q:=by
 unfold mO aR bK tC;obtain⟨tb,h1⟩:=x.1;exact ht _ ⟨e,R k,dx,tb,cv,cl,b,rfl,hc,h1,x.dct,xi,hk,q⟩
theorem aeP {f f0:Addr}{fd:FuncData}(F:cP K "_law_is" "_law_is" (top 54) f fd)(B:Bl mg)(KT:oU K)(c:gQ K mg R D f0)(o:acz K mg R):aQ P w K mg base cV 2 f fd ["_law_caught","_law_at"] (acA R):=by
 have nd:=W8.nd;have vt:=(show(["_law_caught","_law_at","_law_told_here"]:List Str).all (λx=>dG (aj (top 54)) x && plain x)=true by decide +kernel);have g1:=c.g 1 (by decide);have g2:=c.g 2 (by decide);have g3:=c.g 3 (by decide);have g4:=c.g 4 (by decide);have g5:=c.g 5 (by decide);have g6:=c.g 6 (by decide);refine cP.ok (k:=1) F W8 (λvs H Q E h=>by obtain⟨_,_,_,rfl,_⟩:=h;rfl) λcdv A outer s H vs Q E hr hsp=>?_;have Ga:∀{x:Str}{a:Addr} {p p2 p3 pos:Pos},Gl (cC cV P w K mg base ["_law_caught","_law_at","_law_told_here"] "_law_is" (aj (top 54)) f cdv A outer s H E).ni x->mg x=some (.ref a)->(x==("__debug__":Str))=false->
   PE (cC cV P w K mg base ["_law_caught","_law_at","_law_told_here"] "_law_is" (aj (top 54)) f cdv A outer s H E).ni (.Call (.Name "isinstance" p) [.Name "_law_caught" p2,.Name x p3] [] pos) (mO (La K) (aR (vR 0) (aR (tC (.ref a)) bK))):=λhg hm hd=>
  dj ab0 (gl (sc:=aj (top 54)) (by decide +kernel)) B.isinstance boot_isinstance (au (pV vt 0) (au (g8 hg hm rfl hd) aM))
 refine⟨_,aJ (cU (i:=2) nd rfl (lo (sc:=aj (top 54)) (by decide +kernel)) (qz (au (Ga (gl (sc:=aj (top 54)) (by decide +kernel)) (c.g 0 (by decide)) (by decide)) (au (Ga (gl (sc:=aj (top 54)) (by decide +kernel)) g1 (by decide)) (au (Ga (gl (sc:=aj (top 54)) (by decide +kernel)) g2 (by decide)) aM)))))
  (aJ (cU (i:=2) nd rfl (lo (sc:=aj (top 54)) (by decide +kernel)) (bU zM (pV vt 2) (qz (au (Ga (gl (sc:=aj (top 54)) (by decide +kernel)) g3 (by decide)) (au (Ga (gl (sc:=aj (top 54)) (by decide +kernel)) g4 (by decide)) (au (Ga (gl (sc:=aj (top 54)) (by decide +kernel)) g5 (by decide)) aM))))))
  (aJ (cU (i:=2) nd rfl (lo (sc:=aj (top 54)) (by decide +kernel)) (bU zM (pV vt 2) (qz (au (Ga (gl (sc:=aj (top 54)) (by decide +kernel)) g6 (by decide)) aM))))
  (aJ (cu (pY (Ny hr.units) hNe (mw (dN (pV vt 2))) (nw (dLC (J7 (te:=tV K RS _) (tc:=fQ K _) (g:=qI K _ _) (N':=["_law_k","_law_at"]) (cap:=[none,some 1]) ["_law_caught","_law_at","_law_told_here"] (aj (top 54)) rfl (by decide +kernel) rfl rfl (aaN (Af (gl (sc:=(aj (top 54))) (by decide +kernel)) B.range (N8 (sw lQ) N7))) (λ_ _ _ _ _=>(tgN (uE (i:=0) (show(["_law_k","_law_at"]:List Str).Nodup by decide +kernel) (by decide +kernel)))) (λ_ _ _ _ _=>ifN) (λ_ _ _ _ _=>(wW (Eb hr.units) hEq (mw (dN (pD (by decide +kernel) 0))) (mw (dN (pD (by decide +kernel) 1)))))))))
   (aN (cT rP)) bM)
  (aN (cT (adG (xR (wW (Eb hr.units) hEq (mw (dN (pV vt 1))) (sw lQ)) (nW (Mu (xO (pV vt 0))))) (nW (dj ab0 (gl (sc:=aj (top 54)) (by decide +kernel)) B.isinstance boot_isinstance (au (pV vt 0) (au (qw (v:=.ty "ValueError") (gl (sc:=aj (top 54)) (by decide +kernel)) o.nv (by decide +kernel) rfl) aM)))))))))),?_⟩
 obtain⟨e,dx,k,rfl,tQ,ex,hq⟩:=hsp;unfold dX gM JZ cN dU;have go:∀{H':Hp}{x:Option V} {j:Nat} {Q':VK},j<=6->Same H H'->Q' (.bl (decide (j=k))) H'->mO (La K) (aR (vR 0) (aR (tC (.ref (R j))) bK)) [some (.ref e),some (.int (k:Int)),x] H' Q':=λhj sm q=>
  acB (λZ z=>aH (v:=.ref e) rfl z) (ex.grow sm) (c.xi k tQ) (λu z=>z) (o.one _ k hj tQ) q
 refine go (by decide) (Same.refl _) (go (by decide) (Same.refl _) (go (by decide) (Same.refl _) ⟨by show 3<=sizeLine;decide,λp1 hp1=>?_⟩));have s1:=aW (o:=.lst [.bl (decide (0=k)),.bl (decide (1=k)),.bl (decide (2=k))]) hp1;dsimp only;refine aH (v:=.ref p1) rfl ?_;refine go (by decide) s1 (go (by decide) s1 (go (by decide) s1 ⟨by show 3<=sizeLine;decide,λp2 hp2=>?_⟩));have s2:=aW (o:=.lst [.bl (decide (3=k)),.bl (decide (4=k)),.bl (decide (5=k))]) hp2;refine⟨p1,p2,_,_,rfl,rfl,aU.of (s2 _ _ aA),aU.of aA,by show 6<=sizeLine;decide,λp3 hp3=>?_⟩;have s3:=aW (o:=.lst ([.bl (decide (0=k)),.bl (decide (1=k)),.bl (decide (2=k))]++[.bl (decide (3=k)),.bl (decide (4=k)),.bl (decide (5=k))])) hp3;have s13:=(s1.trans s2).trans s3;dsimp only;refine aH (v:=.ref p3) rfl ?_;refine go (by decide) s13 ⟨by show 1<=sizeLine;decide,λp4 hp4=>?_⟩;have s4:=aW (o:=.lst [.bl (decide (6=k))]) hp4;refine⟨p3,p4,_,_,rfl,rfl,aU.of (s4 _ _ aA),aU.of aA,by show 7<=sizeLine;decide,λp5 hp5=>?_⟩;have s5:=aW (o:=.lst (([.bl (decide (0=k)),.bl (decide (1=k)),.bl (decide (2=k))]++[.bl (decide (3=k)),.bl (decide (4=k)),.bl (decide (5=k))])++[.bl (decide (6=k))])) hp5;have s15:=(s13.trans s4).trans s5;have h5:L2.upd (L2.upd (L2.upd (L2.upd (L2.upd H p1 (.lst [.bl (decide (0=k)),.bl (decide (1=k)),.bl (decide (2=k))])) p2 (.lst [.bl (decide (3=k)),.bl (decide (4=k)),.bl (decide (5=k))])) p3 (.lst ([.bl (decide (0=k)),.bl (decide (1=k)),.bl (decide (2=k))]++[.bl (decide (3=k)),.bl (decide (4=k)),.bl (decide (5=k))]))) p4 (.lst [.bl (decide (6=k))])) p5 (.lst (([.bl (decide (0=k)),.bl (decide (1=k)),.bl (decide (2=k))]++[.bl (decide (3=k)),.bl (decide (4=k)),.bl (decide (5=k))])++[.bl (decide (6=k))])) p5=some (.lst (([.bl (decide (0=k)),.bl (decide (1=k)),.bl (decide (2=k))]++[.bl (decide (3=k)),.bl (decide (4=k)),.bl (decide (5=k))])++[.bl (decide (6=k))])):=aA;generalize L2.upd (L2.upd (L2.upd (L2.upd (L2.upd H p1 (.lst [.bl (decide (0=k)),.bl (decide (1=k)),.bl (decide (2=k))])) p2 (.lst [.bl (decide (3=k)),.bl (decide (4=k)),.bl (decide (5=k))])) p3 (.lst ([.bl (decide (0=k)),.bl (decide (1=k)),.bl (decide (2=k))]++[.bl (decide (3=k)),.bl (decide (4=k)),.bl (decide (5=k))]))) p4 (.lst [.bl (decide (6=k))])) p5 (.lst (([.bl (decide (0=k)),.bl (decide (1=k)),.bl (decide (2=k))]++[.bl (decide (3=k)),.bl (decide (4=k)),.bl (decide (5=k))])++[.bl (decide (6=k))]))=H5 at s15 h5 ⊢;have fr:EX.fU K H5 [none,some (Tg.fr,.int (k:Int)),some (Tg.fr,.list [.bool (decide (0=k)),.bool (decide (1=k)),.bool (decide (2=k)),.bool (decide (3=k)),.bool (decide (4=k)),.bool (decide (5=k)),.bool (decide (6=k))])] [some (.ref e),some (.int (k:Int)),some (.ref p5)]:=
  ⟨some (.ref e),_,rfl,.int (k:Int),_,rfl,rfl,rfl,.ref p5,_,rfl,rfl,⟨p5,_,rfl,aU.of h5,_,_,rfl,rfl,_,_,rfl,rfl,_,_,rfl,rfl,_,_,rfl,rfl,_,_,rfl,rfl,_,_,rfl,rfl,_,_,rfl,rfl,rfl⟩,rfl⟩
 dsimp only;unfold gK;refine EX.Fj (b:=false) fr ?_ λH6 s6=>?_
 .walk_at "e0";rw[if_pos (by decide)];walk_at "e0";rw[KR (by rfl) (by show 7<sizeLine;decide)];rw[vI (f:=λd=>match d with|.int j=>.bool (decide (j=(k:Int)))|d=>d)]
  .walk_at "e0";have hk:k=0\/k=1\/k=2\/k=3\/k=4\/k=5\/k=6:=by omega
   rcases hk with rfl|rfl|rfl|rfl|rfl|rfl|rfl<;>rfl
  .intro d hd;have hd':d∈[PyData.int 0,.int 1,.int 2,.int 3,.int 4,.int 5,.int 6]:=hd;simp only[mem_cons,not_mem_nil,or_false] at hd';rcases hd' with rfl|rfl|rfl|rfl|rfl|rfl|rfl;all_goals
    refine⟨_,rfl,rfl,?_⟩;walk_at "e0"
 rw[if_neg (by decide)];unfold jF lJ ZL xQ;refine EX.CN (fr.grow s6) (d:=.bool false) ?_ λx H7 s7 hx=>?_
 .walk_at "e0"
  have:¬(k:Int)=7:=by omega
  simp[this]
 cases(show x=.bl false from hx);refine⟨false,rfl,?_⟩;rw[if_neg (by decide)];refine⟨false,rfl,?_⟩;rw[if_neg (by decide)];have s17:=(s15.trans s6).trans s7;exact acB (λZ z=>aH (v:=.ref e) rfl z) (ex.grow s17) (c.xi k tQ) (λu z=>z) (o.val k tQ) (hq _ s17)
end
section
variable {P:Program}{w:World}{K:Frag}{mg:Str->Option Value}{base:Heap}{C CD D f0:Addr}{R:Nat->Addr}
def iC (CD C:Addr)(R:Nat->Addr)(x:Addr)(line:Str)(k:Nat)(H:Hp):Prop:=k<=6/\(∃dx hv,cQ H CD x dx hv)/\∀Q E,bT R k H E->fD CD C R [.ref x,.str line] H Q E
theorem gQ.sub (c:gQ K mg R D f0)(k:Nat)(h:k<=6):PySem.W.mroIn K (R k) (.ref D)=some true:=by
 cases k with
 |zero=>exact c.no.cd
 |succ k=>exact(c.one (k+1) (by omega) h).cd
def pP (CD C:Addr)(R:Nat->Addr):Sp:=λvs H Q _=>∃x line k,vs=[.ref x,.str line,.int ((k:Nat):Int)]/\iC CD C R x line k H/\∀H',Same H H'->Q (.bl true) H'
theorem yP:bI ["_law_desk","_law_line_here","_law_at","_law_told_here","_law_caught","e"] ["_law_desk","_law_line_here","_law_at"] (aj (top 60)):=fs
theorem Ls {f f1:Addr}{fd iB:FuncData}(F:cP K "_law_refused" "_law_refused" (top 60) f fd)(c:gQ K mg R D f0)(cD:Cls K CD)(F1:aQ P w K mg base (bN P w) 6 f1 iB ["self","line"] (fD CD C R))(m1:Meth K CD "say" f1)(b1:Binds K iB ["self","line"] [])
  (xu:lE P w K mg base 2 "_law_is" ["_law_caught","_law_at"] (acA R)):aQ P w K mg base cV 7 f fd ["_law_desk","_law_line_here","_law_at"] (pP CD C R):=by
 have nd:=yP.nd;have vt:=(show(["_law_desk","_law_line_here","_law_at","_law_told_here","_law_caught","e"]:List Str).all (λx=>dG (aj (top 60)) x && plain x)=true by decide +kernel);refine cP.ok (k:=6) F yP (λvs H Q E h=>by obtain⟨_,_,_,rfl,_⟩:=h;rfl) λcdv A outer s H vs Q E hr hsp=>?_;refine⟨_,aJ (cU (i:=3) nd rfl (lo (sc:=aj (top 60)) (by decide +kernel)) qu) (aJ (cU (i:=4) nd rfl (lo (sc:=aj (top 60)) (by decide +kernel)) qu)
  (aJ (PX (i:=5) (iy (pV vt 0) cD m1 F1 hr b1 (au (pV vt 1) aM)) rfl rfl (gl (sc:=aj (top 60)) (by decide +kernel)) c.no.gD c.no.bD c.no.tD nd rfl (show(aj (top 60)).names.lookup ("e":Str)=some .local by decide +kernel)
   (λ_=>aN (cU (i:=4) nd rfl (lo (sc:=aj (top 60)) (by decide +kernel)) (pV vt 5))))
  (aN (cT (xR (Mu (xO (pV vt 3))) (nW (fV xu (hr.mono (by decide)) (gl (sc:=aj (top 60)) (by decide +kernel)) (au (pV vt 4) (au (pV vt 2) aM))))))))),?_⟩
 obtain⟨x,line,k,rfl,⟨tQ,⟨dx,hv,hd⟩,hS⟩,hq⟩:=hsp;unfold dX gM tC cN CQ lJ jY aR bK xQ;try dsimp only
 refine aH (v:=.ref x) rfl ⟨x,dx,_,rfl,hd,rfl,aH (v:=.str line) rfl (hS _ _ λe bJ H' sm n r=>?_)⟩;obtain⟨tb,h1⟩:=r.1;refine⟨e,R k,tb,rfl,h1,c.sub k tQ,λT=>aH (v:=.ref e) rfl ?_⟩;try dsimp only
 unfold Dj jm;refine aH (v:=.non) rfl ⟨true,by simp,?_⟩;rw[if_pos rfl];refine aH (v:=.ref e) rfl (aH (v:=.int k) rfl ⟨e,bJ,k,rfl,tQ,r.upd,λH2 s2=>hq H2 ((cO sm n).trans s2)⟩)
def zZ (CD C:Addr)(R:Nat->Addr):Sp:=λvs H Q _=>∃x line,vs=[.ref x,.str line]/\iC CD C R x line 0 H/\∀H',Same H H'->Q .non H'
noncomputable def Zd:Stmt->List Stmt
 |.Try _ [.ExceptHandler _ _ b _] _ _ _=>b
 |_=>[]
theorem Gb:bI ["_law_desk","_law_line_here","_law_place_here","e"] ["_law_desk","_law_line_here"] (aj (top 61)):=fs
theorem UL {f f1:Addr}{fd iB:FuncData}(F:cP K "_law_place" "_law_place" (top 61) f fd)(c:gQ K mg R D f0)(cD:Cls K CD)(F1:aQ P w K mg base (bN P w) 6 f1 iB ["self","line"] (fD CD C R))(m1:Meth K CD "say" f1)(b1:Binds K iB ["self","line"] []):
  aQ P w K mg base cV 7 f fd ["_law_desk","_law_line_here"] (zZ CD C R):=by
 have nd:=Gb.nd;have vt:=(show(["_law_desk","_law_line_here","_law_place_here","e"]:List Str).all (λx=>dG (aj (top 61)) x && plain x)=true by decide +kernel);refine cP.ok (k:=6) F Gb (λvs H Q E h=>by obtain⟨_,_,rfl,_⟩:=h;rfl) λcdv A outer s H vs Q E hr hsp=>?_;have hS:∀e,eX (inX (cC cV P w K mg base ["_law_desk","_law_line_here","_law_place_here","e"] "_law_place" (aj (top 61)) f cdv A outer s H E).ni e) (Zd ((cH (top 61)).getD 1 (.Pass ⟨0,0,0,0⟩))) (gM (K7 K (vR 3) "place") (cN 2)):=λ_=>
  aN (cU (i:=2) nd rfl (lo (sc:=aj (top 61)) (by decide +kernel)) (Yy (pV vt 3)))
 refine⟨_,aJ (cU (i:=2) nd rfl (lo (sc:=aj (top 61)) (by decide +kernel)) (Cd xV aP))
  (aJ (Yz (i:=3) (iy (pV vt 0) cD m1 F1 hr b1 (au (pV vt 1) aM)) rfl rfl (gl (sc:=aj (top 61)) (by decide +kernel)) c.no.gC c.no.bC c.no.tC nd rfl (show(aj (top 61)).names.lookup ("e":Str)=some .local by decide +kernel) hS)
  (aN (cT (pV vt 2)))),?_⟩
 obtain⟨x,line,rfl,⟨_,⟨dx,hv,hd⟩,hS'⟩,hq⟩:=hsp;unfold dX gM MN tC cN CQ lJ K7 jY aR bK;dsimp only;refine⟨1,rfl,aH (v:=.ref x) rfl ⟨x,dx,_,rfl,hd,rfl,aH (v:=.str line) rfl (hS' _ _ λe bJ H' sm n r=>?_)⟩⟩;obtain⟨⟨tb,h1⟩,d',rfl,h2⟩:=r;have hne:d'≠e:=λz=>by rw[z,h1] at h2;cases h2
 refine⟨e,R 0,tb,rfl,h1,c.no.cc,λT=>aH (v:=.ref e) rfl ⟨e,R 0,d',.ref T,[("place",.non)],.non,rfl,aA,by rw[aB hne];exact h2,c.no.xi.toXR,c.no.pl,rfl,?_⟩⟩;exact(show vR 2 [some (.ref x),some (.str line),some .non,none] (L2.upd H' e (bA e (R 0) (some d') (.ref T))) Q from aH (v:=.non) rfl (hq _ (cO sm n)))
end
noncomputable abbrev EF:XK:=λ_ _ _=>False
def calm (sp:Sp):Sp:=λvs H Q _=>sp vs H Q EF
theorem Qw {P:Program}{w:World}{K:Frag}{mg:Str->Option Value}{base:Heap}{k:Nat}{f:Addr}{fd:FuncData}{ps:List Str}{sp:Sp}(F:aQ P w K mg base (bN P w) k f fd ps sp):aQ P w K mg base cV k f fd ps (calm sp):=
 ⟨λvs H Q _ h=>F.len vs H Q EF h,λA outer s H args us vs Q E hr he hb hv hs=>codeAny_mono (F.run A outer s H args us vs Q EF hr he hb hv hs) λr s' z=>by
  cases r with
  |ok v=>cases v<;>exact z
  |error e=>
   have z':bN P w outer H s EF e s':=z;obtain⟨_,_,_,_,_,_,_,_,_,_,_,_,_,_,_,q⟩:=z';exact q.elim⟩
def aV (te:TE)(σ:L2.St)(H:Hp)(v:V):Prop:=∀R:VK,R v H->te σ H R
section
variable {K:Frag}{te tf:TE}{σ:L2.St}{H:Hp}{x y:Str}{i:Nat}{v:V}
theorem aV.c:aV (tC v) σ H v:=λ_ q=>q
theorem aV.r (e:σ[i]? =some (some v)):aV (vR i) σ H v:=λ_ q=>aH e q
theorem aV.ix {l:Addr}{xs:List V}{j:Int}(e:σ[i]? =some (some (.ref l)))(h:H l=some (.lst xs))(a:cR xs j=some v):aV (dU (lu K) (vR i) (tC (.int j))) σ H v:=λ_ q=>aH e ⟨xs,v,aU.of h,a,q⟩
theorem aV.cat (h1:aV te σ H (.str x))(h2:aV tf σ H (.str y))(n:x.length+y.length<=1000):aV (dU (λx y H Q=>∃i j,x=.str i/\y=.str j/\i.length+j.length<=sizeLine/\Q (.str (i++j)) H) te tf) σ H (.str (x++y)):=λ_ q=>h1 _ (h2 _ ⟨x,y,rfl,rfl,le_trans n (by decide),q⟩)
theorem aV.mul {n:Int}(h1:aV te σ H (.str x))(h2:aV tf σ H (.int n))(h:MulOk x n):aV (dU Ld te tf) σ H (.str (Txt.mul x n)):=λ_ q=>h1 _ (h2 _ ⟨x,n,rfl,rfl,h,q⟩)
end
noncomputable def fG (a b:Str):Str:=" "++a++" "++b++" "
def z6 (a b p:Str)(W:Int):Str:=p++fG a b++toString W++" 3; "
def pQ (a b p q:Str)(W:Int):Str:=z6 a b p W++q++fG a b++Txt.mul "9" 60++" 9"
section
variable {P:Program}{w:World}{K:Frag}{mg:Str->Option Value}{base:Heap}{C CD D f0:Addr}{R:Nat->Addr}
def Answers (CD C:Addr)(R:Nat->Addr)(x:Addr)(line z:Str)(H:Hp):Prop:=(∃dx hv,cQ H CD x dx hv)/\∀Q,(∀H',Same H H'->Q (.str z) H')->fD CD C R [.ref x,.str line] H Q EF
def Tells (CD C:Addr)(R:Nat->Addr)(x:Addr)(a b p q:Str)(W:Int)(H:Hp):Prop:=
 if W=0 then ∀H',Same H H'->iC CD C R x "rooms" 0 H'/\iC CD C R x "out 3" 0 H' else ∀H',Same H H'->Answers CD C R x "rooms" (a++" "++b) H'/\Answers CD C R x "passages" (pQ a b p q W) H'
def Gd (CD C:Addr)(R:Nat->Addr):Sp:=λvs H Q _=>∃x nl a b p q r W,vs=[.ref x,.ref nl,.int W]/\H nl=some (.lst ((a::b::p::q::r).map .str))/\(a.length<=12/\b.length<=12/\p.length<=12/\q.length<=12)/\0<=W/\W<=40/\Tells CD C R x a b p q W H/\∀H',Same H H'->Q (.bl true) H'
theorem Jf:bI ["_law_desk","_law_names_here","_law_width","_law_ends","_law_due"] ["_law_desk","_law_names_here","_law_width"] (aj (top 62)):=fs
theorem Lw:∀n:Nat,n<=40->(toString ((n:Nat):Int):Str).length<=2:=by decide +kernel
theorem Ze {f f1:Addr}{fd iB:FuncData}(F:cP K "_law_told" "_law_told" (top 62) f fd)(uZ:mg "str"=none)(cD:Cls K CD)(F1:aQ P w K mg base (bN P w) 6 f1 iB ["self","line"] (fD CD C R))(m1:Meth K CD "say" f1)(b1:Binds K iB ["self","line"] [])
  (sX:lE P w K mg base 7 "_law_refused" ["_law_desk","_law_line_here","_law_at"] (pP CD C R)):aQ P w K mg base cV 8 f fd ["_law_desk","_law_names_here","_law_width"] (Gd CD C R):=by
 have nd:=Jf.nd;have vt:=(show(["_law_desk","_law_names_here","_law_width","_law_ends","_law_due"]:List Str).all (λx=>dG (aj (top 62)) x && plain x)=true by decide +kernel);have W9:=Qw F1;refine cP.ok (k:=7) F Jf (λvs H Q E h=>by obtain⟨_,_,_,_,_,_,_,_,rfl,_⟩:=h;rfl) λcdv A outer s H vs Q E hr hsp=>?_;refine⟨_,aJ (cu (fH fL (pV vt 2) aP) (aN (cT (xR (fV sX hr (gl (sc:=aj (top 62)) (by decide +kernel)) (au (pV vt 0) (au aY (au aP aM)))) (nW (fV sX hr (gl (sc:=aj (top 62)) (by decide +kernel)) (au (pV vt 0) (au aY (au aP aM)))))))) bM)
  (aJ (cu (fH Cg (qC (pV vt 0) cD m1 W9 (hr.mono (by decide)) b1 .nil mC (au aY aM)) (bU aX (bU aX (cM fJ (pV vt 1) aP) aY) (cM fJ (pV vt 1) aP))) (aN (cT rP)) bM)
  (aJ (cU (i:=3) nd rfl (lo (sc:=aj (top 62)) (by decide +kernel)) (bU aX (bU aX (bU aX (bU aX aY (cM fJ (pV vt 1) aP)) aY) (cM fJ (pV vt 1) aP)) aY))
  (aJ (cU (i:=4) nd rfl (lo (sc:=aj (top 62)) (by decide +kernel)) (bU aX (bU aX (bU aX (cM fJ (pV vt 1) aP) (pV vt 3)) (iJ CV (gl (sc:=aj (top 62)) (by decide +kernel)) uZ boot_str (au (pV vt 2) aM))) aY))
  (aN (cT (peC fL (qC (pV vt 0) cD m1 W9 (hr.mono (by decide)) b1 .nil mC (au aY aM)) (bU aX (bU aX (bU aX (bU aX (pV vt 4) (cM fJ (pV vt 1) aP)) (pV vt 3)) (bU sU aY aP)) aY))))))),?_⟩
 obtain⟨x,nl,a,b,p,q,r,W,rfl,hn,⟨la,lb,lp,lq⟩,w0,Br,hT,hq⟩:=hsp;unfold dX gK;unfold Tells at hT;have eqi:∀{σ:L2.St}{Q':Bool->Hp->Prop},σ[2]? =some (some (.int W))->Q' (decide (W=0)) H->iY (dU Vx (vR 2) (tC (.int 0))) σ H Q':=λ{σ Q'} e q=>by unfold iY;refine aH e ⟨rfl,?_⟩;show Q' (decide (V.int W=V.int 0)) H;rw[show decide (V.int W=V.int 0)=decide (W=0) from decide_eq_decide.mpr ⟨λz=>by injection z,λz=>by rw[z]⟩];exact q
 refine eqi rfl ?_;by_cases hw:W=0
 .rw[if_pos hw] at hT;rw[if_pos (by simpa using hw)];unfold lJ xQ jm aR bK tC;refine aH (v:=.ref x) rfl ⟨x,"rooms",0,rfl,(hT H (Same.refl _)).1,λH1 s1=>⟨true,rfl,?_⟩⟩;rw[if_pos rfl];exact aH (v:=.ref x) rfl ⟨x,"out 3",0,rfl,(hT H1 s1).2,λH2 s2=>hq H2 (s1.trans s2)⟩
 rw[if_neg hw] at hT;rw[if_neg (by simpa using hw)];unfold jF gM cN;try dsimp only
 have meth:∀{σ:L2.St}{H1:Hp} {line z:Str} {Q':VK} {E':XK},σ[0]? =some (some (.ref x))->Answers CD C R x line z H1->(∀H2,Same H1 H2->Q' (.str z) H2)->kZ CD "say" (calm (fD CD C R)) [] E' (vR 0) (aR (tC (.str line)) bK) σ H1 Q':=λe ⟨⟨dx,hv,hd⟩,hs⟩ q=>by unfold kZ aR bK tC;exact aH e ⟨x,dx,_,rfl,hd,rfl,hs _ q⟩
 obtain⟨n,rfl⟩:=eq_ofNat_of_zero_le w0;have lw:=Lw n (by omega);have l1:((" ":Str):Str).length=1:=rfl;have l3:(" 3; ":Str).length=4:=rfl;have l9:(" 9":Str).length=2:=rfl;have le:(fG a b).length<=27:=by unfold fG;simp only[strLen_append,l1];omega
 have ld:(z6 a b p n).length<=45:=by unfold z6;simp only[strLen_append,l3];omega
 have lm:(Txt.mul "9" 60).length=60:=by decide +kernel
 have oZ:∀{σ:L2.St}{H1:Hp} {j:Int} {v:Str},Same H H1->σ[1]? =some (some (.ref nl))->cR ((a::b::p::q::r).map V.str) j=some (.str v)->aV (dU (lu K) (vR 1) (tC (.int j))) σ H1 (.str v):=λsm e h=>aV.ix e (sm _ _ hn) h;have at0:cR ((a::b::p::q::r).map V.str) 0=some (.str a):=by simp only[map_cons,nJ,sG,sH,vJ]
 have at1:cR ((a::b::p::q::r).map V.str) 1=some (.str b):=by simp only[map_cons,nJ,sG,sH,vJ]
 have at2:cR ((a::b::p::q::r).map V.str) 2=some (.str p):=by simp only[map_cons,nJ,sG,sH,vJ]
 have at3:cR ((a::b::p::q::r).map V.str) 3=some (.str q):=by simp only[map_cons,nJ,sG,sH,vJ]
 unfold iY;refine meth rfl (hT H (Same.refl _)).1 λH1 s1=>?_;refine aV.cat (aV.cat (oZ s1 rfl at0) aV.c (by rw[l1];omega)) (oZ s1 rfl at1) (by rw[strLen_append,l1];omega) _ ⟨rfl,?_⟩;try dsimp only
 rw[if_neg (by simp)];refine aV.cat (aV.cat (aV.cat (aV.cat aV.c (oZ s1 rfl at0) (by rw[l1];omega)) aV.c (by simp only[strLen_append,l1];omega)) (oZ s1 rfl at1) (by simp only[strLen_append,l1];omega)) aV.c (by simp only[strLen_append,l1];omega) _ ?_;try dsimp only
 have st:∀{σ:L2.St},σ[2]? =some (some (.int (n:Int)))->aV (mO (λxs H Q=>∃n:Int,xs=[.int n]∧-4611686018427387904<n/\n<4611686018427387904/\Q (.str (toString n)) H) (aR (vR 2) bK)) σ H1 (.str (toString (n:Int))):=λe R' q=>aH e ⟨n,rfl,by omega,by omega,q⟩;refine aV.cat (aV.cat (aV.cat (oZ s1 rfl at2) (aV.r (v:=.str (fG a b)) rfl) (by omega)) (st rfl) (by simp only[strLen_append];omega)) aV.c (by simp only[strLen_append,l3];omega) _ ?_;try dsimp only
 unfold lJ;refine meth rfl (hT H1 s1).2 λH2 s2=>?_;have s12:=s1.trans s2;refine aV.cat (aV.cat (aV.cat (aV.cat (aV.r (v:=.str (z6 a b p n)) rfl) (oZ s12 rfl at3) (by omega)) (aV.r (v:=.str (fG a b)) rfl) (by simp only[strLen_append];omega)) (aV.mul aV.c aV.c (Fy (by decide) (by decide) (by decide))) (by simp only[strLen_append];omega)) aV.c (by simp only[strLen_append,l9];omega) _ ⟨rfl,?_⟩;show Q (.bl (decide (V.str (pQ a b p q n)=V.str (pQ a b p q n)))) H2;rw[decide_eq_true rfl];exact hq H2 s12
end
def cW (CD C x:Addr)(a b p q:Str)(W:Int)(H:Hp):Prop:=∃dx,if W=0 then cQ H CD x dx .non else ∃h bJ nn ll,cQ H CD x dx (.ref h)/\cF H C h bJ nn ll [(a,0),(b,1)] [(p,(0,1,W,3)),(q,(0,1,10^60 - 1,9))]
theorem cW.grow {CD C x:Addr}{a b p q:Str}{W:Int}{H H':Hp}(h:cW CD C x a b p q W H)(s:Same H H'):cW CD C x a b p q W H':=by
 obtain⟨dx,h⟩:=h;refine⟨dx,?_⟩;by_cases hw:W=0
 .rw[if_pos hw] at h ⊢;exact s _ _ h
 .rw[if_neg hw] at h ⊢;obtain⟨h0,bJ,nn,ll,h1,h2⟩:=h;exact⟨h0,bJ,nn,ll,s _ _ h1,h2.grow s⟩
noncomputable abbrev Ge:VE:=uN jA (aC (gj fM (aC (vF 0) (aC (vC (.int 0)) a0))) a0)
noncomputable abbrev UW:VE:=gj dZ (aC (gj fM (aC (vF 0) (aC (vC (.int 1)) a0))) (aC (vC (.int 0)) a0))
noncomputable abbrev yQ:VE:=v2 wX (v2 oK (vC (.int 1)) (v2 jh (v2 pX (vN 2) (vC (.int 4))) (vC (.int 40)))) (jo Cu (aC (v2 gtD (v2 jh (vN 2) (vC (.int 4))) (vC (.int 0))) a0))
def hallL (a b:Str):Str:="hall"++fX (fG a b) none (some (-1))
def iV (a b p x y:Str):Str:="lay "++p++fG a b++x++y
structure Qx (CD C:Addr)(R:Nat->Addr)(ns:List Int)(a b p q:Str)(r:List Str)(num W:Int):Prop where
 e1:∀S,Ge (some (.fr,.list (ns.map .int))::S)=some (.list ((a::b::p::q::r).map .str))
 e2:∀S,UW (some (.fr,.list (ns.map .int))::S)=some (.int num)
 e3:∀x0 x1 S,yQ (x0::x1::some (.fr,.int num)::S)=some (.int W)
 w0:0<=W
 Br:W<=40
 len:a.length<=12/\b.length<=12/\p.length<=12/\q.length<=12
 lay:∀x∈a::b::p::q::r,(PyData.str x).canLay0=true
 line:∀c:Int,∃t,∃k:Nat,∃line:Str,jf [.int c,.list ((a::b::p::q::r).map .str),.int W]=some (t,.tuple [.int (k:Int),.str line])/\k<=6/\∀x H,cW CD C x a b p q W H->iC CD C R x line (if W=0/\k≠6 then 0 else k) H
 tells:∀x H,cW CD C x a b p q W H->Tells CD C R x a b p q W H
 acD:∀x H,cW CD C x a b p q W H->iC CD C R x ("hall "++a++" "++a) 2 H
 fin2:∀x H,cW CD C x a b p q W H->iC CD C R x ("hall Ann "++a) 1 H
 acE:W≠0->∀x dx H Q,cQ H CD x dx .non->(∀H' x' bJ nn ll,cF H' C x' bJ nn ll [(a,0),(b,1)] []->cQ H' CD x dx (.ref x')->(∀c o,c≠x->H c=some o->H' c=some o)->H x'=none->H nn=none->H ll=none->Q (.str "ok") H')->fD CD C R [.ref x,.str (hallL a b)] H Q EF
 acF:W≠0->∀x dx h bJ nn ll H Q,cQ H CD x dx (.ref h)->cF H C h bJ nn ll [(a,0),(b,1)] []->(∀H1 H',Same H H1->cF H' C h bJ nn ll [(a,0),(b,1)] [(p,(0,1,W,3))]->dO nn ll H1 H'->Q (.str "ok") H')->fD CD C R [.ref x,.str (iV a b p (toString W) " 3")] H Q EF
 acG:W≠0->∀x dx h bJ nn ll H Q,cQ H CD x dx (.ref h)->cF H C h bJ nn ll [(a,0),(b,1)] [(p,(0,1,W,3))]->(∀H1 H',Same H H1->cF H' C h bJ nn ll [(a,0),(b,1)] [(p,(0,1,W,3)),(q,(0,1,10^60 - 1,9))]->dO nn ll H1 H'->Q (.str "ok") H')->fD CD C R [.ref x,.str (iV a b q (Txt.mul "9" 60) " 9")] H Q EF
section
variable {P:Program}{w:World}{K:Frag}{mg:Str->Option Value}{base:Heap}{C CD D f0:Addr}{R:Nat->Addr}
theorem acH {H:Hp}{S:GS}{σ:L2.St}{f:VE}{ds:List PyData}{Q:VK}(h:EX.fU K H S σ)(e:f S=some (.list ds))(q:∀a xs H',Same H H'->H a=none->H' a=some (.lst xs)->aK K H' ds xs->Q (.ref a) H'):tV K RN f σ H Q:=
 ⟨_,_,_,S,H,h.vi,_,e,λv F' H' g hv=>by
  obtain⟨ds',a,xs,e1,rfl,h1,_,h3,h4⟩:=hv;cases e1;exact q a xs H' g.hh h1 h3 (aK.same g.fh h4)⟩
def Cy (K:Frag):Sp:=λvs H Q _=>∃(sc:Addr) (ns:List Int),vs=[.ref sc]/\aU K H sc (ns.map V.int)/\ns.length<=63/\∀H',Q (.bl true) H'
theorem z7 {H H':Hp}{z:Addr}{xs:List V}(k:∀o,(∀kvs,o≠ .dK kvs)->(∀C dx fs,o≠ .ins C dx fs)->H z=some o->H' z=some o)(h:aU K H z xs):aU K H' z xs:=by
 rcases h with(h|⟨ob,h⟩)|h
 .exact .inl (.inl (k _ (λ_ e=>by cases e) (λ_ _ _ e=>by cases e) h))
 .exact .inl (.inr ⟨ob,k _ (λ_ e=>by cases e) (λ_ _ _ e=>by cases e) h⟩)
 .exact .inr h
theorem rD {i:Nat}{te:TE}{u:TS}{D':Ends}{σ:L2.St}{H:Hp}(h:te σ H λv H1=>u D' (σ.set i (some v)) H1):dX (gM te (cN i)) u D' σ H:=h
theorem acI {te:TE}{g:TG}{u:TS}{D':Ends}{σ:L2.St}{H:Hp}(h:te σ H λv H1=>g v σ H1 (u D')):dX (gM te g) u D' σ H:=h
theorem Xa {T:TT}{B E' U:TS}{D':Ends}{σ:L2.St}{H:Hp}(G:L2.St->Hp->Prop)(hU:∀σ' H',G σ' H'->U D' σ' H')(h:(∀σ' H',G σ' H'->U D' σ' H')->T σ H λc H1=>if c=true then B {D' with nx:=U D'} σ H1 else E' {D' with nx:=U D'} σ H1):dX (gK T B E') U D' σ H:=h hU
theorem acJ {wi:TI}{g:TG}{tb U:TS}{D':Ends}{σ:L2.St}{H:Hp}(h:wi σ H λJ H1=>Cr J g tb {D' with nx:=U D'} σ H1):dX (Dq wi g tb) U D' σ H:=h
theorem U0 (ns:List Int)(lo hi:Option Int):∃cs:List Int,mX (ns.map V.int) lo hi=cs.map V.int/\cs.length<=ns.length:=by
 refine⟨(ns.drop (HT.bQ ns.length 0 lo)).take (HT.bQ ns.length ns.length hi - HT.bQ ns.length 0 lo),?_,?_⟩
 .unfold mX;rw[length_map,←List.map_drop,←List.map_take]
 .rw[length_take,length_drop];omega
theorem acK {i:Nat}{l h:Int}{sc:Addr}{xs:List V}{σ:L2.St}{H:Hp}{Rr:It->Hp->Prop}(e:σ[i]? =some (some (.ref sc)))(hs:aU K H sc xs)(q:∀cz,H cz=none->Rr (ud K cz) (upd H cz (.lst (mX xs (some l) (some h))))):vD K (Dy (RK K) (vR i) (pA (tC (.int l))) (pA (tC (.int h)))) σ H Rr:=by unfold vD Dy pA tC;exact aH e ⟨l,rfl,h,rfl,sc,xs,rfl,hs,λcz hcz=>⟨cz,rfl,⟨_,aU.of aA⟩,q cz hcz⟩⟩
theorem yR {ta tb tc:TE}{σ:L2.St}{H:Hp}{Q:VK}{E:XK}{x:Addr}{line:Str}{k:Nat}(h1:aV ta σ H (.ref x))(h2:aV tb σ H (.str line))(h3:aV tc σ H (.int (k:Int)))(h:iC CD C R x line k H)(q:∀H',Same H H'->Q (.bl true) H'):jm (pP CD C R) [] E (aR ta (aR tb (aR tc bK))) σ H Q:=
 h1 _ (h2 _ (h3 _ ⟨x,line,k,rfl,h,q⟩))
theorem yS {te:TE}{σ:L2.St}{H:Hp}{Q:Bool->Hp->Prop}(h:te σ H λx H'=>match x with
 |.bl k=>Q (!k) H'
 |_=>False):ZK (iY te) σ H Q:=h
theorem aeQ {ta tb:TE}{σ:L2.St}{H:Hp}{Q:VK}{E:XK}{x:Addr}{line:Str}(h1:aV ta σ H (.ref x))(h2:aV tb σ H (.str line))(h:iC CD C R x line 0 H)(q:∀H',Same H H'->Q .non H'):jm (zZ CD C R) [] E (aR ta (aR tb bK)) σ H Q:=
 h1 _ (h2 _ ⟨x,line,rfl,h,q⟩)
theorem z8 {ta tb tc:TE}{σ:L2.St}{H:Hp}{Q:VK}{E:XK}{x nl:Addr}{a b p q:Str}{r:List Str}{W:Int}(h1:aV ta σ H (.ref x))(h2:aV tb σ H (.ref nl))(h3:aV tc σ H (.int W))(hn:H nl=some (.lst ((a::b::p::q::r).map .str)))(hl:a.length<=12/\b.length<=12/\p.length<=12/\q.length<=12)(w0:0<=W)(w4:W<=40)(h:Tells CD C R x a b p q W H)(k:∀H',Same H H'->Q (.bl true) H'):
  jm (Gd CD C R) [] E (aR ta (aR tb (aR tc bK))) σ H Q:=h1 _ (h2 _ (h3 _ ⟨x,nl,a,b,p,q,r,W,rfl,hn,hl,w0,w4,h,k⟩))
theorem Bs {i:Nat}{n m:Int}{σ:L2.St}{H:Hp}{Q:Bool->Hp->Prop}(e:σ[i]? =some (some (.int n)))(q:Q (decide (n=m)) H):iY (dU Vx (vR i) (tC (.int m))) σ H Q:=by unfold iY;refine aH e ⟨rfl,?_⟩;show Q (decide (V.int n=V.int m)) H;rw[show decide (V.int n=V.int m)=decide (n=m) from decide_eq_decide.mpr ⟨λz=>by injection z,λz=>by rw[z]⟩];exact q
theorem aeR {i:Nat}{n m:Int}{σ:L2.St}{H:Hp}{Q:Bool->Hp->Prop}(e:σ[i]? =some (some (.int n)))(q:Q (decide (m<n)) H):iY (dU (rM λi j=>.bl (decide (j<i))) (vR i) (tC (.int m))) σ H Q:=by unfold iY dU tC;exact aH e q
theorem acL {i:Nat}{l:Addr}{xs:List V}{σ:L2.St}{H:Hp}{Rr:It->Hp->Prop}(e:σ[i]? =some (some (.ref l)))(h:aU K H l xs)(q:Rr (ud K l) H):vD K (vR i) σ H Rr:=aH e ⟨l,rfl,⟨_,h⟩,q⟩
theorem Qy {i:Nat}{n m:Int}{σ:L2.St}{H:Hp}{Q:Bool->Hp->Prop}(e:σ[i]? =some (some (.int n)))(q:Q (!decide (n=m)) H):iY (dU Vy (vR i) (tC (.int m))) σ H Q:=by unfold iY;refine aH e ⟨rfl,?_⟩;show Q (!decide (V.int n=V.int m)) H;rw[show decide (V.int n=V.int m)=decide (n=m) from decide_eq_decide.mpr ⟨λz=>by injection z,λz=>by rw[z]⟩];exact q
theorem Qz {i:Nat}{te:TE}{u:TS}{D':Ends}{σ:L2.St}{H:Hp}{l:Addr}{ys:List V}{y:V}(e:σ[i]? =some (some (.ref l)))(h:H l=some (.lst ys))(n:ys.length<1000)(ht:aV te σ H y)(q:u D' σ (upd H l (.lst (ys++[y])))):dX (jG (pB K "list" yj (vR i) (aR te bK))) u D' σ H:=by unfold dX jG pB aR bK;exact aH e ⟨.inl ⟨rfl,_,aU.of h⟩,ht _ ⟨ys,h,lt_trans n (by decide),q⟩⟩
theorem aV.aeS {i:Nat}{z:Str}{σ:L2.St}{H:Hp}(e:σ[i]? =some (some (.str z)))(n:z.length<=1000):aV (Dy abE (vR i) qD (pA (MN (rU λi=>.int (-i)) (tC (.int 1))))) σ H (.str (fX z none (some (-1)))):=λ_ q=>by unfold Dy qD pA MN tC;exact aH e ⟨1,rfl,-1,rfl,z,rfl,le_trans n (by decide),q⟩
theorem U3 (z:Str)(lo hi:Option Int):(fX z lo hi).length<=z.length:=by show(lX z.cps.toList lo hi).toArray.size<=z.cps.size;rw[size_toArray];unfold lX;rw[length_take,length_drop,length_toList];omega
def DI (CD C x dx:Addr)(nums:List (Str×Int))(full:List (Str×Q4))(i:Nat)(H:Hp):Prop:=match i with
 |0=>cQ H CD x dx .non
 |j+1=>∃h bJ nn ll,cQ H CD x dx (.ref h)/\cF H C h bJ nn ll nums (full.take j)
theorem QB {x dx nl ln sc:Addr}{nm L xs:List V}{nums:List (Str×Int)}{full:List (Str×Q4)}{L1 L2 L3:Str}
  (h1:∀dx H Q,cQ H CD x dx .non->(∀H' x' bJ nn ll,cF H' C x' bJ nn ll nums []->cQ H' CD x dx (.ref x')->(∀c o,c≠x->H c=some o->H' c=some o)->Q (.str "ok") H')->fD CD C R [.ref x,.str L1] H Q EF)
  (h2:∀j line,(j=0/\line=L2\/j=1/\line=L3)->∀dx h bJ nn ll H Q,cQ H CD x dx (.ref h)->cF H C h bJ nn ll nums (full.take j)->(∀H1 H',Same H H1->cF H' C h bJ nn ll nums (full.take (j+1))->dO nn ll H1 H'->Q (.str "ok") H')->fD CD C R [.ref x,.str line] H Q EF)
  {i:Nat}{v:V}{Ha:Hp}(hv:([.str L1,.str L2,.str L3]:List V)[i]? =some v)(hl:Ha ln=some (.lst L))(hn:Ha nl=some (.lst nm))(hs:aU K Ha sc xs)(di:DI CD C x dx nums full i Ha):
  ∃line hv',v=.str line/\cQ Ha CD x dx hv'/\∀Q:VK,(∀H',(H' ln=some (.lst L)/\H' nl=some (.lst nm)/\aU K H' sc xs/\DI CD C x dx nums full (i+1) H')->Q (.str "ok") H')->fD CD C R [.ref x,.str line] Ha Q EF:=by
 cases i with
 |zero=>
  cases hv;have di:cQ Ha CD x dx .non:=di;refine⟨_,_,rfl,di,λQ q=>h1 dx Ha Q di λH' x' bJ nn ll hH hD kp=>q H' ⟨?_,?_,?_,x',bJ,nn,ll,hD,hH⟩⟩
  .exact kp _ _ (λz=>by rw[z,show Ha x=_ from di] at hl;cases hl) hl
  .exact kp _ _ (λz=>by rw[z,show Ha x=_ from di] at hn;cases hn) hn
  .exact z7 (λo _ n2 e=>kp _ _ (λz=>by rw[z,show Ha x=_ from di] at e;cases e;exact n2 _ _ _ rfl) e) hs
 |succ j=>
  have hj:∃line,v=.str line/\(j=0/\line=L2\/j=1/\line=L3):=by
   match j,hv with
   |0,hv=>cases hv;exact⟨_,rfl,.inl ⟨rfl,rfl⟩⟩
   |1,hv=>cases hv;exact⟨_,rfl,.inr ⟨rfl,rfl⟩⟩
   |n+2,hv=>simp at hv
  obtain⟨line,ev,hj⟩:=hj;obtain⟨h,bJ,nn,ll,hD,hH⟩:=di;refine⟨line,_,ev,hD,λQ q=>h2 j line hj dx h bJ nn ll Ha Q hD hH λH1 H' sm hH' stay=>?_⟩;obtain⟨kvs,hk,_⟩:=hH.laid;have go:∀{z:Addr}{o:HO},(∀kvs,o≠ .dK kvs)->Ha z=some o->H' z=some o:=λ{z o} no e=>stay z o (λy=>by rw[y,hH.num] at e;cases e;exact no _ rfl) (λy=>by rw[y,hk] at e;cases e;exact no _ rfl) (sm _ _ e);exact q H' ⟨go (λ_ e=>by cases e) hl,go (λ_ e=>by cases e) hn,z7 (λo n1 _ e=>go n1 e) hs,h,bJ,nn,ll,go (λ_ e=>by cases e) hD,hH'⟩
theorem acM {i j:Nat}{σ:L2.St}{H:Hp}{Q:Bool->Hp->Prop}{E:XK}{x dx:Addr}{hv:V}{line:Str}(e:σ[i]? =some (some (.ref x)))(e2:σ[j]? =some (some (.str line)))(hd:cQ H CD x dx hv)(h:fD CD C R [.ref x,.str line] H (λy H2=>Vy y (.str "ok") H2 λz H3=>match z with
 |.bl k=>Q k H3
 |_=>False) EF):iY (dU Vy (kZ CD "say" (calm (fD CD C R)) [] E (vR i) (aR (vR j) bK)) (tC (.str "ok"))) σ H Q:=by
 unfold iY dU kZ aR bK tC;exact aH e ⟨x,dx,_,rfl,hd,rfl,aH e2 h⟩
theorem QC:bI ["_law_script","_law_names_here","_law_number","_law_width","_law_desk","_law_ends","_law_lines","_law_line_here","_law_cell","_law_at"] ["_law_script"] (aj (top 63)):=fs
theorem acN {f:Addr}{fd:FuncData}(F:cP K "law" "law" (top 63) f fd)(B:Bl mg)(uZ:mg "str"=none)(cD:Cls K CD){f1:Addr}{iB:FuncData}(F1:aQ P w K mg base (bN P w) 6 f1 iB ["self","line"] (fD CD C R))(m1:Meth K CD "say" f1)(b1:Binds K iB ["self","line"] [])
  {fi:Addr}{Qj:FuncData}(M:Mk K CD fi)(Fi:aQ P w K mg base cV 1 fi Qj ["self"] (IV CD))(bi:Binds K Qj ["self"] [])(gD:mg "Desk"=some (.ref CD))
  (jZ:lE P w K mg base 1 "_law_cell_at" ["_law_script","_law_k"] (ig K fM))(gP:lE P w K mg base 1 "_law_mixed" ["_law_cell","_law_k"] (ig K dZ))(qm:lE P w K mg base 2 "_law_names" ["_law_cell"] (ig K jA))
  (sY:lE P w K mg base 2 "_law_line" ["_law_cell","_law_names_here","_law_width"] (ig K jf))(sX:lE P w K mg base 7 "_law_refused" ["_law_desk","_law_line_here","_law_at"] (pP CD C R))(ahl:lE P w K mg base 7 "_law_place" ["_law_desk","_law_line_here"] (zZ CD C R))
  (QD:lE P w K mg base 8 "_law_told" ["_law_desk","_law_names_here","_law_width"] (Gd CD C R))(hM:∀ns:List Int,∃a b p q r num W,Qx CD C R ns a b p q r num W):aQ P w K mg base cV 9 f fd ["_law_script"] (Cy K):=by
 have nd:=QC.nd;have vt:=(show(["_law_script","_law_names_here","_law_number","_law_width","_law_desk","_law_ends","_law_lines","_law_line_here","_law_cell","_law_at"]:List Str).all (λx=>dG (aj (top 63)) x && plain x)=true by decide +kernel);have W9:=Qw F1;refine cP.ok (k:=8) F QC (λvs H Q E h=>by obtain⟨_,_,rfl,_⟩:=h;rfl) λcdv A outer s H vs Q E hr hsp=>?_;refine⟨_,aJ (cU (i:=1) nd rfl (lo (sc:=aj (top 63)) (by decide +kernel)) (V7 (fV qm (hr.mono (by decide)) (gl (sc:=(aj (top 63))) (by decide +kernel)) (tE (zL (fV jZ (hr.mono (by decide)) (gl (sc:=(aj (top 63))) (by decide +kernel)) (tE (dF (pV vt 0)) (tE lQ Ej)))) Ej))))
  (aJ (cU (i:=2) nd rfl (lo (sc:=aj (top 63)) (by decide +kernel)) (zL (fV gP (hr.mono (by decide)) (gl (sc:=(aj (top 63))) (by decide +kernel)) (tE (zL (fV jZ (hr.mono (by decide)) (gl (sc:=(aj (top 63))) (by decide +kernel)) (tE (dF (pV vt 0)) (tE lQ Ej)))) (tE lQ Ej)))))
  (aJ (cU (i:=3) nd rfl (lo (sc:=aj (top 63)) (by decide +kernel)) (pG aay hMul (sw (pG Ed hAdd (sw lQ) (sw (pG oMod hMod (sw (pG oDiv hDiv (mw (dN (pV vt 2))) (sw lQ))) (sw lQ))))) (sw (tG (iJ M6 (gl (sc:=(aj (top 63))) (by decide +kernel)) B.int PyProof.Rows.boot_int (N8 (sw (wW Hv hGt (sw (pG oMod hMod (mw (dN (pV vt 2))) (sw lQ))) (sw lQ))) N7)) ad1))))
  (aJ (cU (i:=4) nd rfl (lo (sc:=aj (top 63)) (by decide +kernel)) (RD M Fi (hr.mono (by decide)) (gl (sc:=(aj (top 63))) (by decide +kernel)) gD bi .nil mC))
  (aJ (cu (fH Hv (pV vt 3) aP)
   (aJ (cU (i:=5) nd rfl (lo (sc:=aj (top 63)) (by decide +kernel)) (bU aX (bU aX (bU aX (bU aX aY (cM fJ (pV vt 1) aP)) aY) (cM fJ (pV vt 1) aP)) aY))
   (aJ (cU (i:=6) nd rfl (lo (sc:=aj (top 63)) (by decide +kernel)) (qz (au (bU aX aY (lM Pa (pV vt 5) zx (qF (Cd xV aP)))) aM)))
   (aJ (jH (Cp (pV vt 6) (au (bU aX (bU aX (bU aX (bU aX aY (cM fJ (pV vt 1) aP)) (pV vt 5)) (iJ CV (gl (sc:=aj (top 63)) (by decide +kernel)) uZ boot_str (au (pV vt 3) aM))) aY) aM)))
   (aJ (jH (Cp (pV vt 6) (au (bU aX (bU aX (bU aX (bU aX aY (cM fJ (pV vt 1) aP)) (pV vt 5)) (bU sU aY aP)) aY) aM)))
   (aN (uf PassesOwn.never rfl (qx (pV vt 6)) (jJ (i:=7) nd rfl (lo (sc:=aj (top 63)) (by decide +kernel))) (aN (cu (fH Cg (qC (pV vt 4) cD m1 W9 (hr.mono (by decide)) b1 .nil mC (au (pV vt 7) aM)) aY) (aN (cT rP)) bM)))))))) bM)
  (aJ (uf PassesOwn.never rfl (qx (lM zy (pV vt 0) (qF aP) (qF aP))) (jJ (i:=8) nd rfl (lo (sc:=aj (top 63)) (by decide +kernel)))
   (aJ (Mx (zL (fV sY (hr.mono (by decide)) (gl (sc:=(aj (top 63))) (by decide +kernel)) (tE (dF (pV vt 8)) (tE (dF (pV vt 1)) (tE (dF (pV vt 3)) Ej))))) (xT (n:=2) rfl (iM (jJ (i:=9) nd rfl (lo (sc:=aj (top 63)) (by decide +kernel))) (iM (jJ (i:=7) nd rfl (lo (sc:=aj (top 63)) (by decide +kernel))) zp))))
   (aJ (cu (PW.pt (xP (fH fL (pV vt 3) aP) (vA (fH Cg (pV vt 9) aP)))) (aN (cU (i:=9) nd rfl (lo (sc:=aj (top 63)) (by decide +kernel)) aP)) bM)
   (aJ (cu (PW.pt (o8 (tY (NK (fV sX (hr.mono (by decide)) (gl (sc:=aj (top 63)) (by decide +kernel)) (au (pV vt 4) (au (pV vt 7) (au (pV vt 9) aM)))))) (nU (tY (NK (fV sX (hr.mono (by decide)) (gl (sc:=aj (top 63)) (by decide +kernel)) (au (pV vt 4) (au (pV vt 7) (au (pV vt 9) aM))))))))) (aN (cT rP)) bM)
   (aN (cu (PW.pt (o8 (PW.pt (xP (fH fL (pV vt 9) aP) (vA (mH (Xq (fV ahl (hr.mono (by decide)) (gl (sc:=aj (top 63)) (by decide +kernel)) (au (pV vt 4) (au (pV vt 7) aM)))))))) (nU (tY (NK (fV QD hr (gl (sc:=aj (top 63)) (by decide +kernel)) (au (pV vt 4) (au (pV vt 1) (au (pV vt 3) aM))))))))) (aN (cT rP)) bM))))))
  (aJ (cu (tY (NK (fV sX (hr.mono (by decide)) (gl (sc:=aj (top 63)) (by decide +kernel)) (au (pV vt 4) (au (bU aX (bU aX (bU aX aY (cM fJ (pV vt 1) aP)) aY) (cM fJ (pV vt 1) aP)) (au aP aM)))))) (aN (cT rP)) bM)
  (aN (cT (xR (fV sX (hr.mono (by decide)) (gl (sc:=aj (top 63)) (by decide +kernel)) (au (pV vt 4) (au (bU aX aY (cM fJ (pV vt 1) aP)) (au aP aM)))) (nW (fV QD hr (gl (sc:=aj (top 63)) (by decide +kernel)) (au (pV vt 4) (au (pV vt 1) (au (pV vt 3) aM)))))))))))))),?_⟩
 obtain⟨sc,ns,rfl,hsc,hns,hq⟩:=hsp;obtain⟨a,b,p,q,r,num,W,m⟩:=hM ns;have acO:∀{H':Hp},Same H H'->Has K H' (.list (ns.map .int)) (.ref sc):=λk=>⟨sc,_,rfl,k.seq hsc,aK.ints.mpr rfl⟩;refine rD (acH (S:=[some (.fr,.list (ns.map .int)),none,none,none,none,none,none,none,none,none]) ⟨_,_,rfl,rfl,acO (Same.refl _),_,_,rfl,_,_,rfl,_,_,rfl,_,_,rfl,_,_,rfl,_,_,rfl,_,_,rfl,_,_,rfl,_,_,rfl,rfl⟩ (m.e1 _) λnl xs H1 s1 ai5 hnl hx=>?_);rw[uX hx] at hnl;refine rD (EX.CN (S:=[some (.fr,.list (ns.map .int)),none,none,none,none,none,none,none,none,none]) ⟨_,_,rfl,rfl,acO s1,_,_,rfl,_,_,rfl,_,_,rfl,_,_,rfl,_,_,rfl,_,_,rfl,_,_,rfl,_,_,rfl,_,_,rfl,rfl⟩ (m.e2 _) λv H2 s2 hv=>?_);have hv':v=.int num:=hv;subst hv';refine rD (EX.CN (S:=[none,none,some (.fr,.int num),none,none,none,none,none,none,none]) ⟨_,_,rfl,_,_,rfl,.int num,_,rfl,rfl,rfl,_,_,rfl,_,_,rfl,_,_,rfl,_,_,rfl,_,_,rfl,_,_,rfl,_,_,rfl,rfl⟩ (m.e3 _ _ _) λv H3 s3 hv=>?_);have hv':v=.int W:=hv;subst hv';refine rD λx dx hx hdx hne=>⟨x,dx,rfl,aA,rfl,?_⟩;have s4:Same H3 (upd (upd (upd H3 dx (.own x)) x (.ins CD dx [])) x (.ins CD dx [("hall",.non)])):=cO (cO (cO (Same.refl _) hdx) hx) hx;have Xb:cQ (upd (upd (upd H3 dx (.own x)) x (.ins CD dx [])) x (.ins CD dx [("hall",.non)])) CD x dx .non:=aA;generalize upd (upd (upd H3 dx (.own x)) x (.ins CD dx [])) x (.ins CD dx [("hall",.non)])=H4 at s4 Xb;have sc4:aU K H4 sc (ns.map V.int):=((s1.trans s2).trans (s3.trans s4)).seq hsc;have Bt:=(s2.trans (s3.trans s4)) _ _ hnl;try dsimp only
 refine Xa (λσ' H'=>(∃y5 y6 y7,σ'=[some (.ref sc),some (.ref nl),some (.int num),some (.int W),some (.ref x),y5,y6,y7,none,none])/\H' nl=some (.lst ((a::b::p::q::r).map .str))/\aU K H' sc (ns.map V.int)/\cW CD C x a b p q W H') ?_ λhU=>?_
 .rintro σ' H5 ⟨⟨y5,y6,y7,rfl⟩,Xc,sc5,qy⟩;refine acJ (acK (sc:=sc) rfl sc5 λcz hcz=>?_);obtain⟨cs,ecs,hcl⟩:=U0 ns (some 2) (some 40);rw[ecs];have s6:=cO (o:=.lst (cs.map V.int)) (Same.refl H5) hcz;have acP:upd H5 cz (.lst (cs.map V.int)) cz=some (.lst (cs.map V.int)):=aA;generalize upd H5 cz (.lst (cs.map V.int))=H6 at s6 acP ⊢;refine forL (xs:=cs.map V.int) (λi σ' H'=>(∃y5 y6 y7 y8 y9,σ'=[some (.ref sc),some (.ref nl),some (.int num),some (.int W),some (.ref x),y5,y6,y7,y8,y9])/\H' cz=some (.lst (cs.map V.int))/\H' nl=some (.lst ((a::b::p::q::r).map .str))/\cW CD C x a b p q W H')
   ⟨⟨_,_,_,_,_,rfl⟩,acP,s6 _ _ Xc,qy.grow s6⟩ (λi σ' H' _ h=>aU.of h.2.1) ?_ ?_
  .rintro i v σ' Ha hv ⟨⟨y5,y6,y7,y8,y9,rfl⟩,hc,hn,st⟩;rw[getElem?_map] at hv;obtain⟨cell,_,rfl⟩:=map_eq_some_iff.mp hv;obtain⟨t0,k,line,el,tQ,hs⟩:=m.line cell;refine acI (EX.CN (S:=[none,some (.fr,.list ((a::b::p::q::r).map .str)),none,some (.fr,.int W),none,none,none,none,some (.fr,.int cell),none]) ⟨_,_,rfl,.ref nl,_,rfl,rfl,⟨nl,_,rfl,aU.of hn,uW m.lay⟩,_,_,rfl,.int W,_,rfl,rfl,rfl,_,_,rfl,_,_,rfl,_,_,rfl,_,_,rfl,.int cell,_,rfl,rfl,rfl,_,_,rfl,rfl⟩ (d:=.tuple [.int (k:Int),.str line]) (by
    show gj jf (aC (vF 8) (aC (vF 1) (aC (vF 3) a0))) _=_;unfold gj aC a0;simp only[vF,List.getElem?_cons_succ,List.getElem?_cons_zero];rw[el]) λv H7 s7 hv=>?_)
   obtain⟨t,xs,rfl,hT,v1,r1,rfl,hv1,v2,r2,rfl,⟨hv2,_⟩,hnil⟩:=hv;have hv1:v1=.int (k:Int):=hv1;have hnil:r2=[]:=hnil;subst hv1 hv2 hnil;refine⟨t,_,rfl,hT,rfl,_,_,rfl,_,_,rfl,rfl,?_⟩;have Jg:=st.grow s7;have Xd:=s7 _ _ hn;have hc7:=s7 _ _ hc;refine Xa (λσ2 H2=>σ2=[some (.ref sc),some (.ref nl),some (.int num),some (.int W),some (.ref x),y5,y6,some (.str line),some (.int cell),some (.int ((if W=0/\k≠6 then 0 else k:Nat):Int))]/\H2=H7) ?_ λhU=>?_
   .rintro σ2 H2 ⟨rfl,rfl⟩;generalize hk':(if W=0/\k≠6 then 0 else k:Nat)=k' at hs ⊢;unfold dX gK Mv JH jF;refine yS (yR (aV.r rfl) (aV.r rfl) (aV.r rfl) (hs x H2 Jg) λH8 s8=>?_);try dsimp only
    rw[if_neg (by decide)];refine yS (yR (aV.r rfl) (aV.r rfl) (aV.r rfl) (hs x H8 (Jg.grow s8)) λH9 s9=>?_);try dsimp only
    rw[if_neg (by decide)];have QF:=s8.trans s9;refine Bs (n:=(k':Int)) rfl ?_;have fin:∀{HX:Hp},Same H2 HX->Tells CD C R x a b p q W HX:=λsx=>m.tells x _ (Jg.grow sx);by_cases hk0:k'=0
    .rw[if_pos (by simp[hk0])];unfold tB Vr;refine aeQ (aV.r rfl) (aV.r rfl) (by have:=hs x H9 (Jg.grow QF);rw[hk0] at this;exact this) λHA sA=>⟨false,by simp,?_⟩;try dsimp only
     rw[if_neg (by decide)];have s8A:=QF.trans sA;refine yS (z8 (aV.r rfl) (aV.r rfl) (aV.r rfl) (s8A _ _ Xd) m.len m.w0 m.Br (fin s8A) λHB sB=>?_);try dsimp only
     rw[if_neg (by decide)];have Gf:=s8A.trans sB;exact⟨⟨_,_,_,_,_,rfl⟩,Gf _ _ hc7,Gf _ _ Xd,Jg.grow Gf⟩
    .rw[if_neg (by simp;omega)];try dsimp only
     rw[if_neg (by decide)];refine yS (z8 (aV.r rfl) (aV.r rfl) (aV.r rfl) (QF _ _ Xd) m.len m.w0 m.Br (fin QF) λHB sB=>?_);try dsimp only
     rw[if_neg (by decide)];have Gf:=QF.trans sB;exact⟨⟨_,_,_,_,_,rfl⟩,Gf _ _ hc7,Gf _ _ Xd,Jg.grow Gf⟩
   .unfold JH;refine Bs (n:=W) rfl ?_;by_cases hw:W=0
    .rw[if_pos (by simp[hw])];refine Qy (n:=(k:Int)) rfl ?_;by_cases hk:k=6
     .rw[if_neg (by simp[hk])];exact hU _ _ ⟨by rw[if_neg (by simp[hk])],rfl⟩
     .rw[if_pos (by simp;omega)];exact hU _ _ ⟨by rw[if_pos ⟨hw,hk⟩],rfl⟩
    .rw[if_neg (by simp[hw])];try dsimp only
     rw[if_neg (by decide)];exact hU _ _ ⟨by rw[if_neg (by simp[hw])],rfl⟩
  .rintro σ' H9 ⟨⟨y5,y6,y7,y8,y9,rfl⟩,hc,hn,st⟩;have l5:("hall ":Str).length=5:=rfl;have l9:("hall Ann ":Str).length=9:=rfl;have l1:(" ":Str).length=1:=rfl;have la:=m.len.1;have at0:cR ((a::b::p::q::r).map V.str) 0=some (.str a):=by simp only[map_cons,nJ]
   have oZ:∀{σ:L2.St}{H1:Hp},Same H9 H1->σ[1]? =some (some (.ref nl))->aV (dU (lu K) (vR 1) (tC (.int 0))) σ H1 (.str a):=λsm e=>aV.ix e (sm _ _ hn) at0;unfold dX gK jF;try dsimp only
   have rd1:∀{σ:L2.St},σ[1]? =some (some (.ref nl))->aV (dU (λx y H Q=>∃i j,x=.str i/\y=.str j/\i.length+j.length<=sizeLine/\Q (.str (i++j)) H) (dU (λx y H Q=>∃i j,x=.str i/\y=.str j/\i.length+j.length<=sizeLine/\Q (.str (i++j)) H) (dU (λx y H Q=>∃i j,x=.str i/\y=.str j/\i.length+j.length<=sizeLine/\Q (.str (i++j)) H) (tC (.str "hall ")) (dU (lu K) (vR 1) (tC (.int 0)))) (tC (.str " "))) (dU (lu K) (vR 1) (tC (.int 0)))) σ H9 (.str ("hall "++a++" "++a)):=λe=>
    aV.cat (aV.cat (aV.cat aV.c (oZ (Same.refl _) e) (by omega)) aV.c (by simp only[strLen_append];omega)) (oZ (Same.refl _) e) (by simp only[strLen_append];omega)
   refine yS ?_;refine yR (k:=2) (aV.r rfl) (rd1 ?_) aV.c (m.acD x H9 st) λHA sA=>?_
   .rfl
   try dsimp only
   rw[if_neg (by decide)];have hnA:=sA _ _ hn;unfold lJ xQ;refine yR (k:=1) (aV.r rfl) (aV.cat aV.c (oZ sA rfl) (by omega)) aV.c (m.fin2 x HA (st.grow sA)) λHB sB=>⟨true,rfl,?_⟩;rw[if_pos rfl];exact z8 (aV.r rfl) (aV.r rfl) (aV.r rfl) (sB _ _ hnA) m.len m.w0 m.Br (m.tells x _ ((st.grow sA).grow sB)) λHC sC=>hq HC
 .refine aeR (n:=W) rfl ?_;have w0:=m.w0;by_cases hw:W=0
  .rw[if_neg (by simp[hw])];exact hU _ _ ⟨⟨_,_,_,rfl⟩,Bt,sc4,dx,by rw[if_pos hw];exact Xb⟩
  rw[if_pos (by simp;omega)];obtain⟨la,lb,lp,lq⟩:=m.len;have l1:(" ":Str).length=1:=rfl;have l4:("lay ":Str).length=4:=rfl;have l40:("hall":Str).length=4:=rfl;have l3:(" 3":Str).length=2:=rfl;have l9:(" 9":Str).length=2:=rfl;have lm:(Txt.mul "9" 60).length=60:=by decide +kernel
  have le:(fG a b).length<=27:=by unfold fG;simp only[strLen_append,l1];omega
  have lW:(toString W:Str).length<=2:=by obtain⟨n,rfl⟩:=eq_ofNat_of_zero_le w0;have:=m.Br;exact Lw n (by omega)
  have at0:cR ((a::b::p::q::r).map V.str) 0=some (.str a):=by simp only[map_cons,nJ]
  have at1:cR ((a::b::p::q::r).map V.str) 1=some (.str b):=by simp only[map_cons,sG]
  have at2:cR ((a::b::p::q::r).map V.str) 2=some (.str p):=by simp only[map_cons,sH]
  have at3:cR ((a::b::p::q::r).map V.str) 3=some (.str q):=by simp only[map_cons,vJ]
  have oZ:∀{σ:L2.St}{H1:Hp} {j:Int} {v:Str},H1 nl=some (.lst ((a::b::p::q::r).map .str))->σ[1]? =some (some (.ref nl))->cR ((a::b::p::q::r).map V.str) j=some (.str v)->aV (dU (lu K) (vR 1) (tC (.int j))) σ H1 (.str v):=λhn e h=>aV.ix e hn h;refine rD ?_;refine aV.cat (aV.cat (aV.cat (aV.cat aV.c (oZ Bt rfl at0) (by rw[l1];omega)) aV.c (by simp only[strLen_append,l1];omega)) (oZ Bt rfl at1) (by simp only[strLen_append,l1];omega)) aV.c (by simp only[strLen_append,l1];omega) _ ?_;refine rD ?_;unfold JZ;have c1:=U3 (fG a b) none (some (-1));refine aV.cat aV.c (aV.aeS (z:=fG a b) rfl (by omega)) (by rw[l40];omega) _ ⟨by show 1<=sizeLine;decide,λln hln=>?_⟩;have s5:=cO (o:=.lst [.str (hallL a b)]) (Same.refl H4) hln;have WY:upd H4 ln (.lst [.str (hallL a b)]) ln=some (.lst [.str (hallL a b)]):=aA;change dX _ _ _ _ (upd H4 ln (.lst [.str (hallL a b)]));generalize upd H4 ln (.lst [.str (hallL a b)])=H5 at s5 WY ⊢;have Xc:=s5 _ _ Bt;have hnl:nl≠ln:=λz=>by rw[z,hln] at Bt;cases Bt
  have st:∀{σ:L2.St}{H1:Hp},σ[3]? =some (some (.int W))->aV (mO (λxs H Q=>∃n:Int,xs=[.int n]∧-4611686018427387904<n/\n<4611686018427387904/\Q (.str (toString n)) H) (aR (vR 3) bK)) σ H1 (.str (toString W)):=λe R' q=>aH e ⟨W,rfl,by omega,by have:=m.Br;omega,q⟩;refine Qz (l:=ln) rfl WY (by show 1<1000;decide) (aV.cat (aV.cat (aV.cat (aV.cat aV.c (oZ Xc rfl at2) (by omega)) (aV.r (v:=.str (fG a b)) rfl) (by simp only[strLen_append];omega)) (st rfl) (by simp only[strLen_append];omega)) aV.c (by simp only[strLen_append];omega)) ?_;have hn6:upd H5 ln (.lst ([.str (hallL a b)]++[.str (iV a b p (toString W) " 3")])) nl=_:=(aB hnl).trans Xc;refine Qz (l:=ln) rfl aA (by show 2<1000;decide) (aV.cat (aV.cat (aV.cat (aV.cat aV.c (oZ hn6 rfl at3) (by omega)) (aV.r (v:=.str (fG a b)) rfl) (by simp only[strLen_append];omega)) (aV.mul aV.c aV.c (Fy (by decide) (by decide) (by decide))) (by simp only[strLen_append];omega)) aV.c (by simp only[strLen_append];omega)) ?_;rw[vq];have Jh:upd H5 ln (.lst [.str (hallL a b),.str (iV a b p (toString W) " 3"),.str (iV a b q (Txt.mul "9" 60) " 9")]) ln=some (.lst [.str (hallL a b),.str (iV a b p (toString W) " 3"),.str (iV a b q (Txt.mul "9" 60) " 9")]):=aA;have k7:∀z o,z≠ln->H4 z=some o->upd H5 ln (.lst [.str (hallL a b),.str (iV a b p (toString W) " 3"),.str (iV a b q (Txt.mul "9" 60) " 9")]) z=some o:=λz o hz e=>(aB hz).trans (s5 _ _ e);change Dq _ _ _ _ _ (upd H5 ln (.lst [.str (hallL a b),.str (iV a b p (toString W) " 3"),.str (iV a b q (Txt.mul "9" 60) " 9")]));generalize upd H5 ln (.lst [.str (hallL a b),.str (iV a b p (toString W) " 3"),.str (iV a b q (Txt.mul "9" 60) " 9")])=H7 at Jh k7 ⊢;have U4:∀{z:Addr}{o:HO},H4 z=some o->z≠ln:=λe z=>by rw[z,hln] at e;cases e
  rw[zG];refine acL (l:=ln) rfl (aU.of Jh) ?_;have q1:∀dx H Q,cQ H CD x dx .non->(∀H' x' bJ nn ll,cF H' C x' bJ nn ll [(a,0),(b,1)] []->cQ H' CD x dx (.ref x')->(∀c o,c≠x->H c=some o->H' c=some o)->Q (.str "ok") H')->fD CD C R [.ref x,.str (hallL a b)] H Q EF:=λdx H Q hd h=>m.acE hw x dx H Q hd λH' x' bJ nn ll h1 h2 h3 _ _ _=>h H' x' bJ nn ll h1 h2 h3;have q2:∀j line,(j=0/\line=iV a b p (toString W) " 3"\/j=1/\line=iV a b q (Txt.mul "9" 60) " 9")->∀dx h bJ nn ll H Q,cQ H CD x dx (.ref h)->cF H C h bJ nn ll [(a,0),(b,1)] (([(p,(0,1,W,3)),(q,(0,1,10^60 - 1,9))]:List (Str×Q4)).take j)->(∀H1 H',Same H H1->cF H' C h bJ nn ll [(a,0),(b,1)] (([(p,(0,1,W,3)),(q,(0,1,10^60 - 1,9))]:List (Str×Q4)).take (j+1))->dO nn ll H1 H'->Q (.str "ok") H')->fD CD C R [.ref x,.str line] H Q EF:=λj line hj dx h bJ nn ll H Q hd hh k=>by
   rcases hj with⟨rfl,rfl⟩|⟨rfl,rfl⟩
   .exact m.acF hw x dx h bJ nn ll H Q hd hh k
   .exact m.acG hw x dx h bJ nn ll H Q hd hh k
  generalize hallL a b=L1 at q1 Jh ⊢;generalize iV a b p (toString W) " 3"=L2 at q2 Jh ⊢;generalize iV a b q (Txt.mul "9" 60) " 9"=L3 at q2 Jh ⊢;refine forL (xs:=[.str L1,.str L2,.str L3]) (λi σ' H'=>(∃y7,σ'=[some (.ref sc),some (.ref nl),some (.int num),some (.int W),some (.ref x),some (.str (fG a b)),some (.ref ln),y7,none,none])/\H' ln=some (.lst [.str L1,.str L2,.str L3])/\H' nl=some (.lst ((a::b::p::q::r).map .str))/\aU K H' sc (ns.map V.int)/\DI CD C x dx [(a,0),(b,1)] [(p,(0,1,W,3)),(q,(0,1,10^60 - 1,9))] i H')
   ⟨⟨_,rfl⟩,Jh,k7 _ _ (U4 Bt) Bt,z7 (λo _ _ e=>k7 _ _ (U4 e) e) sc4,k7 _ _ (U4 Xb) Xb⟩ (λi σ' H' _ h=>aU.of h.2.1) ?_ ?_
  .rintro i v σ' Ha hv ⟨⟨y7,rfl⟩,hl,hn,hs,di⟩;obtain⟨line,hv',rfl,hd,h⟩:=QB q1 q2 hv hl hn hs di;show gK _ _ _ _ [some (.ref sc),some (.ref nl),some (.int num),some (.int W),some (.ref x),some (.str (fG a b)),some (.ref ln),some (.str line),none,none] Ha;unfold gK;refine acM (x:=x) (line:=line) rfl rfl hd (h _ λH' g=>⟨rfl,?_⟩);try dsimp only
   rw[if_neg (by simp)];exact⟨⟨_,rfl⟩,g⟩
  .rintro σ' H9 ⟨⟨y7,rfl⟩,hl,hn,hs,di⟩;exact hU _ _ ⟨⟨_,_,_,rfl⟩,hn,hs,dx,by rw[if_neg hw];exact di⟩
end
end bF
namespace bF
open PyProof.Rows L2 VM
noncomputable def iW (ns:List Int)(k:Int):Int:=ns.getD k.toNat 0
theorem U5 {ns:List Int}{k:Int}(h0:0<=k)(h1:k<ns.length):cR (ns.map PyData.int) k=some (.int (iW ns k)):=by
 obtain⟨j,rfl⟩:∃j:Nat,k=j:=⟨k.toNat,by omega⟩;have hj:j<ns.length:=by omega
 refine lN ?_;simp[hj,iW]
noncomputable def vg (n:Int):Nat->Int
 |0=>n
 |k+1=>vg n k/1000000000000
noncomputable def U6 (x k:Int):Int:=((x*x+16807*x+k) % 2147483629)*((x*x+16807*x+k) % 2147483629) % 2147483587
def cG (c k:Int):Int:=if c % 2=0 then vg ((if c<0 then -c else c)/2) k.toNat else U6 ((c+7919*k) % 2147483629) k
theorem jD (a:Int){b:Int}(h:0<b):0<=a % b/\a % b<b:=⟨Int.emod_nonneg a (by omega),Int.emod_lt_of_pos a h⟩
theorem QG {ns:List Int}{k:Int}(h0:0<=k):fM [.list (ns.map .int),.int k]=some (false,.int (iW ns k)):=by
 unfold fM qU;walk_at "e0";simp only[length_map];by_cases h:k<ns.length
 .simp only[h,decide_true];walk_at "e0";rw[U5 h0 h];walk_at "e0"
 .simp only[h,decide_false];walk_at "e0";have e:iW ns k=0:=by unfold iW;rw[List.getD_eq_getElem?_getD,getElem?_eq_none (by omega)];rfl
  rw[e]
theorem Lx {c k:Int}(h0:0<=k)(h1:k<=100):dZ [.int c,.int k]=some (false,.int (cG c k)):=by
 unfold dZ u0 cG;walk_at "e0";simp only[iu (show(0:Int)<2 by decide),Wg];walk_at "e0";by_cases h:c % 2=0
 .simp only[h,decide_true];walk_at "e0";simp only[qL (show(0:Int)<2 by decide) (by decide)];walk_at "e0";rw[if_pos (by omega)];walk_at "e0";have key:=Es (t:=gN 3) (g:=bY (v2 pX (vN 2) (v2 Kf (vC (.int 10)) (vC (.int 12)))) (gN 2))
   (λi=>[some (Tg.fr,.int c),some (Tg.fr,.int k),some (Tg.fr,.int (vg ((if c<0 then -c else c)/2) i)),if i=0 then none else some (Tg.fr,.int ((i - 1:Nat):Int))]) (jR 0 k.toNat) 0 ?_
  .simp only[vg,↓reduceIte,Nat.zero_add,BR] at key;rw[key];walk_at "e0"
  .intro j d hj;obtain⟨hj,rfl⟩:=KC hj;refine⟨[some (Tg.fr,.int c),some (Tg.fr,.int k),some (Tg.fr,.int (vg ((if c<0 then -c else c)/2) j)),some (Tg.fr,.int (j:Int))],?_,?_⟩
   .cases j<;>(walk_at "e0";simp[HF])
   .walk_at "e0";simp only[aaZ (show(0:Int)<=12 by decide) (by decide) (show(0:Int)<=10 by decide) (by decide)];walk_at "e0";simp only[qL (show(0:Int)<1000000000000 by decide) (by decide)];walk_at "e0";simp[vg]
 .simp only[h,decide_false];walk_at "e0";rw[qK (by decide) (by decide) (by omega) (by omega)];walk_at "e0";simp only[iu (show(0:Int)<2147483629 by decide)];walk_at "e0";have b:=jD (c+7919*k) (show(0:Int)<2147483629 by decide);generalize (c+7919*k) % 2147483629=x at*
  rw[qK (by omega) (by omega) (by omega) (by omega)];walk_at "e0";rw[qK (by omega) (by omega) (by omega) (by omega)];walk_at "e0";simp only[iu (show(0:Int)<2147483629 by decide)];walk_at "e0";have b:=jD (x*x+16807*x+k) (show(0:Int)<2147483629 by decide);unfold U6;generalize (x*x+16807*x+k) % 2147483629=y at*
  rw[qK (by omega) (by omega) (by omega) (by omega)];walk_at "e0";simp only[iu (show(0:Int)<2147483587 by decide)];walk_at "e0"
noncomputable def abc:Str:="abcdefghijklmnopqrstuvwxyz"
theorem Ji:abc.length=26:=by decide +kernel
noncomputable def AZ (x:Str):Prop:=∀c∈x.cps.toList,97<=c/\c<=122
theorem vV (z:Str)(lo hi:Option Int):(fX z lo hi).cps.toList=lX z.cps.toList lo hi:=by unfold fX;simp
theorem AZ.cut {z:Str}(h:AZ z)(lo hi:Option Int):AZ (fX z lo hi):=λc hc=>by rw[vV] at hc;exact h c (List.mem_of_mem_drop (List.mem_of_mem_take hc))
theorem cX (z:Str):z.length=z.cps.toList.length:=by simp[Str.length]
theorem yU (z:Str)(lo hi:Option Int):(fX z lo hi).length<=z.length:=by rw[cX,vV,cX z];unfold lX;rw[length_take,length_drop];omega
theorem Jj {n d:Nat}(i:Int)(h:0<=i):HT.bQ n d (some i)=min i.toNat n:=by show(if i<0 then _ else _)=_;rw[if_neg (by omega)]
theorem ahy (z:Str)(i:Nat)(h:i<=z.length):(fX z none (some (i:Int))).cps.toList=z.cps.toList.take i:=by rw[vV];unfold lX;rw[Jj (i:Int) (by omega),Int.toNat_natCast,←cX];show(z.cps.toList.drop 0).take (min i z.length - 0)=_;rw[drop_zero,Nat.sub_zero,Nat.min_eq_left h]
theorem Zf (z:Str)(i:Nat)(h:i<=z.length):(fX z (some (i:Int)) none).cps.toList=z.cps.toList.drop i:=by rw[vV];unfold lX;rw[Jj (i:Int) (by omega),Int.toNat_natCast,←cX,Nat.min_eq_left h];show(z.cps.toList.drop i).take (z.length - i)=_;rw[take_of_length_le];rw[length_drop,←cX];exact le_refl _
theorem Jk {f:VE}{l u:GS->Option (Option Int)}{S:GS}{x:Str}{lo hi:Option Int}(h1:f S=some (.str x))(h2:l S=some lo)(h3:u S=some hi)(h:x.length<=1000):wZ f l u S=some (.str (fX x lo hi)):=by unfold wZ;rw[h1,h2,h3];exact if_pos h
theorem Gg {x y:Str}(h:x.length+y.length<=1000):ak (.str x) (.str y)=some (.str (x++y)):=if_pos h
theorem Zg {x:Str}{j c:Nat}(h:x.length<=1000)(e:x.cps.toList[j]? =some c):zR (.str x) (.int (j:Int))=some (.str ⟨#[c]⟩):=by show(if x.length<=1000 then _ else _)=_;rw[if_pos h,lN e];rfl
theorem Gh {x:Str}(h:x.length<=1000):pJ [.str x]=some (.int (x.length:Int)):=if_pos h
theorem Zh (x y:Str):(x++y).length=x.length+y.length:=by rw[cX,iw,length_append,←cX,←cX]
theorem acS {lo hi:Str}{l h c:Nat}(e1:lo.cps.toList=[l])(e2:hi.cps.toList=[h]):(oM jl jl (vC (.str lo)) (vN 0) (vC (.str hi))) [some (.fr,.str ⟨#[c]⟩)]=some (.bool (decide (l<=c) && decide (c<=h))):=by
 have q:∀x y:Nat,decide ([x]<[y])=decide (x<y):=λx y=>decide_eq_decide.mpr ⟨λz=>by rcases List.cons_lt_cons_iff.mp z with g|⟨_,g⟩;exact g;exact absurd g (by simp),λz=>List.cons_lt_cons_iff.mpr (.inl z)⟩;have q2:∀x y:Nat,(!decide (x<y))=decide (y<=x):=λx y=>by by_cases z:x<y<;>simp[z]<;>omega
 have f1:jl (.str lo) (.str ⟨#[c]⟩)=some (.bool (decide (l<=c))):=by show some (PyData.bool (!decide ([c]<lo.cps.toList)))=_;rw[e1,q,q2]
 have f2:jl (.str ⟨#[c]⟩) (.str hi)=some (.bool (decide (c<=h))):=by show some (PyData.bool (!decide (hi.cps.toList<[c])))=_;rw[e2,q,q2]
 walk_at "e0";rw[f1];cases hd:decide (l<=c) with
 |false=>walk_at "e0";rfl
 |true=>walk_at "e0";rw[f2]
theorem QH {lo hi:Str}{l h:Nat}{S:GS}{f:VE}{z:Str}(e1:lo.cps.toList=[l])(e2:hi.cps.toList=[h])(hf:f S=some (.str z))(ha:ascii z=true)(hz:z.length<=1000):
  (jo uV (aC (tH (fZ f) [none] (gN 0) nH (oM jl jl (vC (.str lo)) (vN 0) (vC (.str hi)))) a0)) S=some (.bool (z.cps.toList.all λc=>decide (l<=c) && decide (c<=h))):=by
 have es:(tH (fZ f) [none] (gN 0) nH (oM jl jl (vC (.str lo)) (vN 0) (vC (.str hi)))) S=some (.list (z.cps.toList.map λc=>.bool (decide (l<=c) && decide (c<=h)))):=by
  rw[O1];unfold fZ;rw[hf];simp only[ha,if_true];unfold vM;rw[KR rfl (by rw[length_map,←cX];exact Nat.lt_of_le_of_lt hz (by decide))];rw[vI (f:=λd=>match d with|.str s=>.bool (decide (l<=s.cps.toList.headD 0) && decide (s.cps.toList.headD 0<=h))|d=>d)]
  .walk_at "e0";rw[map_map];rfl
  .intro d hd;obtain⟨c,hc,rfl⟩:=mem_map.mp hd;exact⟨[some (.fr,.str ⟨#[c]⟩)],by walk_at "e0",rfl,acS e1 e2⟩
 unfold jo;rw[Wk,es];show uV [.list (z.cps.toList.map λc=>.bool (decide (l<=c) && decide (c<=h)))]=_;show(boolsOf _).map _=_;rw[show(z.cps.toList.map λc=>PyData.bool (decide (l<=c) && decide (c<=h)))=(z.cps.toList.map λc=>decide (l<=c) && decide (c<=h)).map PyData.bool by rw[map_map];rfl,wI];simp[all_map,Function.comp_def]
noncomputable def cB (l:List Nat):Bool:=decide (1<=l.length) && decide (l.length<=12) && l.all λc=>decide (97<=c) && decide (c<=122)
theorem jg {z:Str}(ha:ascii z=true)(hz:z.length<=1000):jB z (cB z.cps.toList):=by
 have el:pJ [.str z]=some (.int (z.length:Int)):=Gh hz;have eB:=QH (S:=[some (.fr,.str z)]) (f:=vN 0) (lo:="a") (hi:="z") (l:=97) (h:=122) (by decide +kernel) (by decide +kernel) (by walk_at "e0") ha hz;show CW _=_;unfold CW;have g1:decide ((1:Int)<=(z.length:Int))=decide (1<=z.cps.toList.length):=by rw[<-cX];exact decide_eq_decide.mpr (by omega)
 have g2:decide ((z.length:Int)<=12)=decide (z.cps.toList.length<=12):=by rw[<-cX];exact decide_eq_decide.mpr (by omega)
 have eA:(iR (vB (oM Ax Ax (vC (.int 1)) (jo pJ (aC (vN 0) a0)) (vC (.int 12))))) [some (.fr,.str z)]=some (!(decide (1<=z.cps.toList.length) && decide (z.cps.toList.length<=12))):=by
  walk_at "e0";rw[el];walk_at "e0";rw[g1];cases decide (1<=z.cps.toList.length) with
  |false=>walk_at "e0";rfl
  |true=>walk_at "e0";rw[g2]
 rw[Oq,eA];unfold cB;cases hA:(decide (1<=z.cps.toList.length) && decide (z.cps.toList.length<=12)) with
 |false=>rw[show(!false)=true from rfl,Wi];rfl
 |true=>rw[show(!true)=false from rfl,Wj];unfold iR vB;rw[eB];rfl
noncomputable def jr (l:List Nat):List Nat:=if l.head? =some 45 then l.tail else l
def dg (l:List Nat):Bool:=decide (1<=(jr l).length) && decide ((jr l).length<=60) && (jr l).all (λc=>decide (48<=c) && decide (c<=57)) && (decide (l=[48])|| !decide ((jr l).head? =some 48))
theorem Gi (z:Str):Txt.startswith z "-"=decide (z.cps.toList.head? =some 45):=by
 obtain⟨⟨l⟩⟩:=z;have e1:("-":Str).length=1:=rfl;unfold Txt.startswith;cases l with
 |nil=>rfl
 |cons c r=>
  have h1:decide (0+("-":Str).length<=(⟨⟨c::r⟩⟩:Str).length)=true:=decide_eq_true (by rw[e1];show 0+1<=(c::r).length;simp);rw[h1,Bool.true_and];have h2:((⟨c::r⟩:Array Nat).extract 0 (0+("-":Str).length))= #[c]:=by rw[e1];refine toList_inj.mp ?_;simp
  show(((⟨c::r⟩:Array Nat).extract 0 (0+("-":Str).length))== #[45])=_;rw[h2];show((#[c]:Array Nat)== #[45])=decide (some c=some 45);by_cases hc:c=45
  .subst hc;rfl
  .rw[show((#[c]:Array Nat)== #[45])=false by simpa using hc];simp[hc]
theorem Zi (z:Str)(h:1<=z.length):(fX z (some 1) none).cps.toList=z.cps.toList.tail:=by rw[show(1:Int)=((1:Nat):Int) from rfl,Zf z 1 h,List.drop_one]
theorem vW {z:Str}:ascii z=true↔∀c∈z.cps.toList,c<128:=by unfold L2.ascii;rw[Array.all_eq_true'];simp
theorem aeT (a b:Str):uK (.str a) (.str b)=some (.bool (decide (a=b))):=by
 have:PyData.depth (.str a)<=60:=by simp[PyData.depth]
 unfold uK;rw[if_pos this];simp only[eqv,beq_eq_decide_eq]
theorem aeU (a b:Str):wH (.str a) (.str b)=some (.bool (!decide (a=b))):=by
 have:PyData.depth (.str a)<=60:=by simp[PyData.depth]
 unfold wH;rw[if_pos this];simp only[eqv,beq_eq_decide_eq]
theorem Jl {a b:Str}{l:List Nat}(h:b.cps.toList=l):a=b↔a.cps.toList=l:=⟨λz=>by rw[z,h],λz=>Str.ext' (toList_inj.mp (z.trans h.symm))⟩
theorem Jm {z:Str}(ha:ascii z=true)(hz:z.length<=1000):gO [.str z]=some (false,.bool (dg z.cps.toList)):=by
 unfold gO wJ;walk_at "e0";have e0:vP (.str z) (.str "-")=some (.bool (decide (z.cps.toList.head? =some 45))):=by show some (PyData.bool (Txt.startswith z "-"))=_;rw[Gi]
 rw[e0];have fig:∃fz:Str,fz.cps.toList=jr z.cps.toList/\ascii fz=true/\fz.length<=1000/\bAs (KH (some (decide (z.cps.toList.head? =some 45))) (wZ (vN 0) (oI (vC (.int 1))) oN) (vF 0) [some (Tg.fr,.str z),none]) (gN 1) [some (Tg.fr,.str z),none]=.nxt [some (Tg.fr,.str z),some (Tg.fr,.str fz)]:=by
  by_cases hd:z.cps.toList.head? =some 45
  .have h1:1<=z.length:=by
    rw[cX];cases hl:z.cps.toList with
    |nil=>rw[hl] at hd;cases hd
    |cons _ _=>simp
   have hc:=Zi z h1;refine⟨fX z (some 1) none,by rw[hc];unfold jr;rw[if_pos hd],?_,le_trans (yU z _ _) hz,?_⟩
   .rw[vW] at ha ⊢;rw[hc];exact λc h=>ha c (List.mem_of_mem_tail h)
   .rw[decide_eq_true hd,Ot,Jk (x:=z) (lo:=some 1) (hi:=none) rfl rfl rfl hz];rfl
  .refine⟨z,by unfold jr;rw[if_neg hd],ha,hz,?_⟩;rw[decide_eq_false hd,Ou];rfl
 obtain⟨fz,ef,af,lf,eb⟩:=fig;try dsimp only
 rw[eb];walk_at "e0";have el:pJ [.str fz]=some (.int (fz.length:Int)):=Gh lf;rw[el];walk_at "e0";have g1:decide ((1:Int)<=(fz.length:Int))=decide (1<=(jr z.cps.toList).length):=by rw[<-ef,←cX];exact decide_eq_decide.mpr (by omega)
 have g2:decide ((fz.length:Int)<=60)=decide ((jr z.cps.toList).length<=60):=by rw[<-ef,←cX];exact decide_eq_decide.mpr (by omega)
 unfold dg;rw[g1];cases hA:decide (1<=(jr z.cps.toList).length) with
 |false=>walk_at "e0";rfl
 |true=>
  walk_at "e0";rw[g2];cases hB:decide ((jr z.cps.toList).length<=60) with
  |false=>walk_at "e0";rfl
  |true=>
   walk_at "e0";have ea:=QH (S:=[some (.fr,.str z),some (.fr,.str fz)]) (f:=vN 1) (lo:="0") (hi:="9") (l:=48) (h:=57) (by decide +kernel) (by decide +kernel) (by walk_at "e0") af lf;have eT:iR (vB (jo uV (aC (tH (fZ (vN 1)) [none] (gN 0) nH (oM jl jl (vC (.str "0")) (vN 0) (vC (.str "9")))) a0))) [some (.fr,.str z),some (.fr,.str fz)]=some (!(jr z.cps.toList).all λc=>decide (48<=c) && decide (c<=57)):=by unfold iR vB;rw[ea,ef]
   show bFn (zN (Wh (iR (vB (jo uV (aC (tH (fZ (vN 1)) [none] (gN 0) nH (oM jl jl (vC (.str "0")) (vN 0) (vC (.str "9")))) a0))) [some (.fr,.str z),some (.fr,.str fz)]) (lU (vC (.bool false))) uQ [some (.fr,.str z),some (.fr,.str fz)]) (lU (N6 (v2 uK (vN 0) (vC (.str "0"))) (v2 wH (v2 zR (vN 1) (vC (.int 0))) (vC (.str "0"))))))=_;rw[eT];cases hC:(jr z.cps.toList).all λc=>decide (48<=c) && decide (c<=57) with
   |false=>rw[show(!false)=true from rfl];walk_at "e0";rfl
   |true=>
    rw[show(!true)=false from rfl];walk_at "e0";have q1:uK (.str z) (.str "0")=some (.bool (decide (z.cps.toList=[48]))):=by rw[aeT,decide_eq_decide.mpr (Jl (a:=z) (l:=[48]) (by decide +kernel))]
    rw[q1];cases hD:decide (z.cps.toList=[48]) with
    |true=>walk_at "e0";rfl
    |false=>
     walk_at "e0";cases hf:jr z.cps.toList with
     |nil=>rw[hf] at hA;cases hA
     |cons c r=>
      have q2:zR (.str fz) (.int 0)=some (.str ⟨#[c]⟩):=Zg (j:=0) lf (by rw[ef,hf];rfl);rw[q2];walk_at "e0";have q3:wH (.str ⟨#[c]⟩) (.str "0")=some (.bool (!decide (some c=some 48))):=by have w:(⟨#[c]⟩:Str)="0"↔some c=some 48:=(Jl (l:=[48]) (by decide +kernel)).trans (by simp);rw[aeU,decide_eq_decide.mpr w]
      rw[q3];walk_at "e0";rfl
open EX
structure Wd (w:Str):Prop where
 asc:L2.ascii w=true
 len:w.length<=100
 nb:32∉w.cps.toList
theorem Wd.can {w:Str}(h:Wd w):(PyData.str w).canLay0=true:=qP.mpr λc hc=>by have:=vW.mp h.asc c hc;omega
theorem Wd.word {w:Str}(h:Wd w):gR w:=⟨h.can,h.len,λc hc=>by have:=vW.mp h.asc c hc;omega⟩
theorem xG (w:Str):dJ "name" w (some (.str w)):=by unfold dJ;rw[if_pos rfl]
theorem rE {k w:Str}(hk:k≠"name")(h:Wd w)(hn:dg w.cps.toList=false):dJ k w none:=by unfold dJ;rw[if_neg hk];refine⟨false,false,by rw[Jm h.asc (by have:=h.len;omega),hn],?_⟩;rw[if_neg (by decide)]
theorem Jo {k w:Str}{n:Int}(hk:k≠"name")(h:Wd w)(hn:dg w.cps.toList=true)(hi:intText? w=some n)(hf:kW n):dJ k w (if least k n=true then some (.int n) else none):=by unfold dJ;rw[if_neg hk];refine⟨false,true,by rw[Jm h.asc (by have:=h.len;omega),hn],?_⟩;rw[if_pos rfl];exact⟨n,hi,hf,rfl⟩
theorem aeV:(" ":Str)=IS.bl:=by decide +kernel
theorem U7 {ws:List Str}(hne:ws≠[])(h:∀w∈ws,Wd w)(hl:ws.length<=1000)(hj:(Str.join IS.bl ws).length<=1000)(h1:1<=(Str.join IS.bl ws).length):lY (Str.join IS.bl ws) " "=true/\Txt.split (Str.join IS.bl ws) " "=ws:=by
 have hs:=IS.G4 hne λw hw=>(h w hw).nb;rw[aeV];refine⟨?_,hs⟩;unfold lY;rw[hs];simp only[and_eq_true,decide_eq_true_eq,not_eq_true'];refine⟨⟨⟨⟨by rfl,hj⟩,hl⟩,?_⟩,all_eq_true.mpr λw hw=>(h w hw).can⟩;unfold Txt.split at hs;have kb:Builtin.Str.strKind IS.bl=1:=by decide +kernel
 have k1:∀x:Str,¬Builtin.Str.strKind x<1:=λx=>by unfold Builtin.Str.strKind;split<;>(try split)<;>omega
 rw[if_neg (by rw[kb,Bool.or_eq_true,decide_eq_true_eq,decide_eq_true_eq];rintro(z|z);exact absurd h1 (by have:IS.bl.length=1:=rfl;omega);exact k1 _ z)] at hs;by_cases ho:(Builtin.Str.occurrences (Str.join IS.bl ws) IS.bl 0 (Str.join IS.bl ws).length ((Str.join IS.bl ws).length+1)).isEmpty=true
 .rw[PyProof.Rows.len_partsBetween]
  have:(Builtin.Str.occurrences (Str.join IS.bl ws) IS.bl 0 (Str.join IS.bl ws).length ((Str.join IS.bl ws).length+1))=[]:=by simpa using ho
  rw[this];decide
 .rw[if_neg ho] at hs;rw[hs];exact hl
theorem Bu {w0:Str}{r:List Str}(h:bB w0 cY=none):gF (w0::r) none:=by
 refine⟨w0,r,rfl,?_⟩;by_cases e:("":Str)∈w0::r
 .rw[if_pos e]
 .rw[if_neg e,h]
theorem jN {w0:Str}{r:List Str}(e:("":Str)∈w0::r):gF (w0::r) none:=⟨w0,r,rfl,by rw[if_pos e]⟩
theorem U8 {w0:Str}{r ks:List Str}(h:bB w0 cY=some ks)(hl:r.length≠ks.length):gF (w0::r) none:=by
 refine⟨w0,r,rfl,?_⟩;by_cases e:("":Str)∈w0::r
 .rw[if_pos e]
 .rw[if_neg e,h];show if r.length=ks.length then _ else _
  rw[if_neg hl]
theorem cj {w0:Str}{r ks:List Str}{o:Option (List V)}(e:¬("":Str)∈w0::r)(h:bB w0 cY=some ks)(z:dz ks r o):gF (w0::r) o:=by
 refine⟨w0,r,rfl,?_⟩;rw[if_neg e,h];show if r.length=ks.length then _ else _
 rw[if_pos z.len.symm];exact z
structure aZ (line w0:Str)(r:List Str)(o:Option (List V)):Prop where
 ok:lY line " "=true
 sp:Txt.split line " "=w0::r
 wd:∀w∈w0::r,gR w
 li:gF (w0::r) o
theorem Zj {w0:Str}{r:List Str}{o:Option (List V)}(h:∀w∈w0::r,Wd w)(hl:(w0::r).length<=1000)(hj:(Str.join IS.bl (w0::r)).length<=1000)(h1:1<=(Str.join IS.bl (w0::r)).length)(li:gF (w0::r) o):aZ (Str.join IS.bl (w0::r)) w0 r o:=by obtain⟨a,b⟩:=U7 (by simp) h hl hj h1;exact⟨a,b,λw hw=>(h w hw).word,li⟩
section
variable {C CD:Addr}{R:Nat->Addr}{line w0:Str}{r:List Str}{x:Addr}{H:Hp}{a b p q:Str}{W:Int}
theorem cW.at (d:cW CD C x a b p q W H):∃dx hv,cQ H CD x dx hv:=by
 obtain⟨dx,d⟩:=d;by_cases hw:W=0
 .rw[if_pos hw] at d;exact⟨dx,_,d⟩
 .rw[if_neg hw] at d;obtain⟨h,_,_,_,d1,_⟩:=d;exact⟨dx,_,d1⟩
theorem QJ (l:aZ line w0 r none)(d:cW CD C x a b p q W H):iC CD C R x line 6 H:=by
 obtain⟨dx,hv,hd⟩:=d.at
 exact⟨by decide,⟨dx,hv,hd⟩,λQ E h=>⟨x,dx,hv,line,w0,r,none,rfl,hd,l.ok,l.sp,l.wd,l.li,h⟩⟩
theorem qp {vl:List V}(l:aZ line w0 r (some vl))(h0:w0≠"hall")(hw:W=0)(d:cW CD C x a b p q W H):iC CD C R x line 0 H:=by obtain⟨dx,d⟩:=d;rw[if_pos hw] at d;refine⟨by decide,⟨dx,_,d⟩,λQ E h=>⟨x,dx,.non,line,w0,r,some vl,rfl,d,l.ok,l.sp,l.wd,l.li,?_⟩⟩;show gH _ _ _ _ _ _ _ _ _ _ _;unfold gH;rw[if_neg h0];exact .inl ⟨rfl,h⟩
theorem Bv {u v:Str}{k:Nat}(l:aZ line "hall" r (some [.str u,.str v]))(wu:Wd u)(wv:Wd v)(hk:(k=1/\(cB u.cps.toList && cB v.cps.toList)=false)\/(k=2/\(cB u.cps.toList && cB v.cps.toList)=true/\u=v))(d:cW CD C x a b p q W H):iC CD C R x line k H:=by
 obtain⟨dx,hv,hd⟩:=d.at
 refine⟨by rcases hk with⟨h,_⟩|⟨h,_⟩<;>omega,⟨dx,hv,hd⟩,λQ E h=>⟨x,dx,hv,line,"hall",r,_,rfl,hd,l.ok,l.sp,l.wd,l.li,?_⟩⟩;show gH _ _ _ _ _ _ _ _ _ _ _;unfold gH;rw[if_pos rfl];refine⟨u,v,_,_,rfl,⟨wu.word,wv.word⟩,⟨jg wu.asc (by have:=wu.len;omega),jg wv.asc (by have:=wv.len;omega)⟩,?_⟩;rcases hk with⟨rfl,e⟩|⟨rfl,e,e2⟩
 .rw[if_pos e];exact h
 .rw[if_neg (by rw[e];decide),if_pos e2];exact h
end
def DoW (C:Addr)(R:Nat->Addr)(w0:Str)(h:Addr)(vl:List V)(H:Hp)(Q:VK)(E:XK):Prop:=
 (w0="lay"/\vl.length=5/\CZ C R (.ref h::vl) H Q E)\/(w0="shut"/\vl.length=1/\yN C R (.ref h::vl) H Q E)\/(w0="widen"/\vl.length=2/\vU C R (.ref h::vl) H Q E)\/(w0="narrow"/\vl.length=2/\sV C R (.ref h::vl) H Q E)
theorem DoW.mem {C:Addr}{R:Nat->Addr}{w0:Str}{h:Addr}{vl:List V}{H:Hp}{Q:VK}{E:XK}(d:DoW C R w0 h vl H Q E):w0∈(["lay","shut","widen","narrow"]:List Str):=by rcases d with⟨rfl,_⟩|⟨rfl,_⟩|⟨rfl,_⟩|⟨rfl,_⟩<;>decide
section
variable {C CD:Addr}{R:Nat->Addr}{line w0:Str}{r:List Str}{x:Addr}{H:Hp}{a b p q:Str}{W:Int}{k:Nat}{vl:List V}
noncomputable abbrev pR (a b:Str):List (Str×Int):=[(a,0),(b,1)]
noncomputable abbrev jt (p q:Str)(W:Int):List (Str×Q4):=[(p,(0,1,W,3)),(q,(0,1,10^60 - 1,9))]
theorem vX (l:aZ line w0 r (some vl))(hw:W≠0)(hk:k<=6)(h0:w0≠"hall")(d:cW CD C x a b p q W H)
  (hc:∀h bJ nn ll H1 Q E,cF H1 C h bJ nn ll (pR a b) (jt p q W)->bT R k H1 E->DoW C R w0 h vl H1 Q E):iC CD C R x line k H:=by
 obtain⟨dx,d⟩:=d;rw[if_neg hw] at d;obtain⟨h,bJ,nn,ll,hd,hh⟩:=d;refine⟨hk,⟨dx,_,hd⟩,λQ E hr=>⟨x,dx,_,line,w0,r,some vl,rfl,hd,l.ok,l.sp,l.wd,l.li,?_⟩⟩;show gH _ _ _ _ _ _ _ _ _ _ _;unfold gH;rw[if_neg h0];refine .inr ⟨h,rfl,λH1 v s1 hv0 hv1=>?_⟩;have hh1:=hh.grow s1;have ha:yO H1 C h:=⟨bJ,nn,ll,hh1.ins⟩;have dw:=λQ':VK=>hc h bJ nn ll H1 Q' _ hh1 ((((hr.le s1).on).on).on);refine⟨h,v,vl,w0,rfl,ha,hv1,.inr (.inr (.inr ⟨(dw λ_ _=>True).mem,h,v,vl,w0,rfl,ha,hv1,?_⟩))⟩;exact dw _
theorem yV {nm:Str}{v:V}(l:aZ line "worth" r (some [.str nm,v]))(hw:W≠0)(wn:Wd nm)(hn:bB nm (jt p q W)=none)(d:cW CD C x a b p q W H):iC CD C R x line 4 H:=by obtain⟨dx,d⟩:=d;rw[if_neg hw] at d;obtain⟨h,bJ,nn,ll,hd,hh⟩:=d;refine⟨by decide,⟨dx,_,hd⟩,λQ E hr=>⟨x,dx,_,line,"worth",r,_,rfl,hd,l.ok,l.sp,l.wd,l.li,?_⟩⟩;show gH _ _ _ _ _ _ _ _ _ _ _;unfold gH;rw[if_neg (by decide)];refine .inr ⟨h,rfl,λH1 v1 s1 hv0 hv1=>?_⟩;have hh1:=hh.grow s1;exact⟨h,v1,_,"worth",rfl,⟨bJ,nn,ll,hh1.ins⟩,hv1,.inl ⟨rfl,rfl,h,bJ,nn,ll,_,_,nm,v,rfl,hh1,wn.word,hn,((hr.le s1).on).on⟩⟩
theorem Bw {nm:Str}(l:aZ line "shut" r (some [.str nm]))(hw:W≠0)(wn:Wd nm)(hn:bB nm (jt p q W)=none)(d:cW CD C x a b p q W H):iC CD C R x line 4 H:=
 vX l hw (by decide) (by decide) d λh bJ nn ll H1 Q E hh hr=>.inr (.inl ⟨rfl,rfl,h,bJ,nn,ll,_,_,nm,rfl,hh,wn.word,by rw[hn];exact hr⟩)
theorem sZ {nm:Str}{n:Int}(l:aZ line "widen" r (some [.str nm,.int n]))(hw:W≠0)(wn:Wd nm)(fw:kW n)(hk:(k=4/\bB nm (jt p q W)=none)\/(k=5/\n<1/\∃y,bB nm (jt p q W)=some y))(d:cW CD C x a b p q W H):iC CD C R x line k H:=
 vX l hw (by rcases hk with⟨h,_⟩|⟨h,_⟩<;>omega) (by decide) d λh bJ nn ll H1 Q E hh hr=>.inr (.inr (.inl ⟨rfl,rfl,h,bJ,nn,ll,_,_,nm,n,rfl,hh,wn.word,fw,by show 2<100;decide,by
  rcases hk with⟨rfl,e⟩|⟨rfl,hn,y,e⟩
  .rw[e];exact hr
  .rw[e];show if n<1 then _ else _;rw[if_pos hn];exact hr⟩))
end
section
variable {C CD:Addr}{R:Nat->Addr}{line w0:Str}{r:List Str}{x:Addr}{H:Hp}{a b p q:Str}{W:Int}{k:Nat}{vl:List V}
theorem jV {nm:Str}{n:Int}(l:aZ line "narrow" r (some [.str nm,.int n]))(hw:W≠0)(wn:Wd nm)(fw:kW n)(hk:(k=4/\bB nm (jt p q W)=none)\/(k=5/\∃y,bB nm (jt p q W)=some y/\(n<1\/y.2.2.1 - n<1)))(d:cW CD C x a b p q W H):iC CD C R x line k H:=
 vX l hw (by rcases hk with⟨h,_⟩|⟨h,_⟩<;>omega) (by decide) d λh bJ nn ll H1 Q E hh hr=>.inr (.inr (.inr ⟨rfl,rfl,h,bJ,nn,ll,_,_,nm,n,rfl,hh,wn.word,fw,by show 2<100;decide,by
  rcases hk with⟨rfl,e⟩|⟨rfl,y,e,hn⟩
  .rw[e];exact hr
  .rw[e];show if n<1\/y.2.2.1 - n<1 then _ else _;rw[if_pos hn];exact hr⟩))
theorem gU {nm u v:Str}{w n:Int}(l:aZ line "lay" r (some [.str nm,.str u,.str v,.int w,.int n]))(hw:W≠0)(w1:Wd nm)(w2:Wd u)(w3:Wd v)
  (hk:(k=1/\(cB nm.cps.toList && cB u.cps.toList && cB v.cps.toList)=false)\/((cB nm.cps.toList && cB u.cps.toList && cB v.cps.toList)=true/\((k=2/\(bB nm (jt p q W)).isSome=true)\/(k=0/\(bB nm (jt p q W)).isSome=false/\(u=v\/w<1\/n<1)))))(d:cW CD C x a b p q W H):iC CD C R x line k H:=
 vX l hw (by rcases hk with⟨h,_⟩|⟨_,⟨h,_⟩|⟨h,_⟩⟩<;>omega) (by decide) d λh bJ nn ll H1 Q E hh hr=>.inl ⟨rfl,rfl,h,bJ,nn,ll,_,_,nm,u,v,w,n,_,_,_,rfl,hh,⟨w1.word,w2.word,w3.word⟩,
  ⟨jg w1.asc (by have:=w1.len;omega),jg w2.asc (by have:=w2.len;omega),jg w3.asc (by have:=w3.len;omega)⟩,by show 2<100;decide,by show 2<100;decide,by
  rcases hk with⟨rfl,e⟩|⟨e,⟨rfl,e2⟩|⟨rfl,e2,e3⟩⟩
  .rw[if_pos e];exact hr
  .rw[if_neg (by rw[e];decide),if_pos e2];exact hr
  .rw[if_neg (by rw[e];decide),if_neg (by rw[e2];decide),if_pos e3];exact hr⟩
theorem U9 {line:Str}{dx:Addr}{Q:VK}(l:aZ line "hall" r (some [.str a,.str b]))(wa:Wd a)(wb:Wd b)(na:cB a.cps.toList=true)(nb:cB b.cps.toList=true)(hab:a≠b)(hd:cQ H CD x dx .non)
  (h:∀H' x' bJ nn ll,cF H' C x' bJ nn ll [(a,0),(b,1)] []->cQ H' CD x dx (.ref x')->(∀c o,c≠x->H c=some o->H' c=some o)->H x'=none->H nn=none->H ll=none->Q (.str "ok") H'):fD CD C R [.ref x,.str line] H Q EF:=by
 refine⟨x,dx,_,line,"hall",r,_,rfl,hd,l.ok,l.sp,l.wd,l.li,?_⟩;show gH _ _ _ _ _ _ _ _ _ _ _;unfold gH;rw[if_pos rfl];refine⟨a,b,_,_,rfl,⟨wa.word,wb.word⟩,⟨jg wa.asc (by have:=wa.len;omega),jg wb.asc (by have:=wb.len;omega)⟩,?_⟩;rw[if_neg (by rw[na,nb];decide),if_neg hab];exact h
theorem Jp {line nm:Str}{dx h bJ nn ll:Addr}{Q:VK}{w n:Int}{ls:List (Str×Q4)}(l:aZ line "lay" r (some [.str nm,.str a,.str b,.int w,.int n]))(wn:Wd nm)(wa:Wd a)(wb:Wd b)(n1:cB nm.cps.toList=true)(na:cB a.cps.toList=true)(nb:cB b.cps.toList=true)
  (hab:a≠b)(hw:1<=w)(hn:1<=n)(hls:ls.length<=1)(hg:bB nm ls=none)(hd:cQ H CD x dx (.ref h))(hh:cF H C h bJ nn ll (pR a b) ls)
  (k:∀H1 H',Same H H1->cF H' C h bJ nn ll (pR a b) (jz nm (0,1,w,n) ls)->dO nn ll H1 H'->Q (.str "ok") H'):fD CD C R [.ref x,.str line] H Q EF:=by
 refine⟨x,dx,_,line,"lay",r,_,rfl,hd,l.ok,l.sp,l.wd,l.li,?_⟩;show gH _ _ _ _ _ _ _ _ _ _ _;unfold gH;rw[if_neg (by decide)];refine .inr ⟨h,rfl,λH1 v s1 hv0 hv1=>?_⟩;have hh1:=hh.grow s1;have ha:yO H1 C h:=⟨bJ,nn,ll,hh1.ins⟩;refine⟨h,v,_,"lay",rfl,ha,hv1,.inr (.inr (.inr ⟨by decide,h,v,_,"lay",rfl,ha,hv1,.inl ⟨rfl,rfl,h,bJ,nn,ll,_,ls,nm,a,b,w,n,_,_,_,rfl,hh1,⟨wn.word,wa.word,wb.word⟩,⟨jg wn.asc (by have:=wn.len;omega),jg wa.asc (by have:=wa.len;omega),jg wb.asc (by have:=wb.len;omega)⟩,by omega,by show 2<100;decide,?_⟩⟩))⟩;have hba:¬b=a:=λz=>hab z.symm;have nw:newOf (pR a b) [a,b]=[]:=by simp[newOf,pR,bB,hab]
 rw[if_neg (by rw[n1,na,nb];decide),if_neg (by rw[hg];decide),if_neg (by rintro(z|z|z);exact hab z;omega;omega),nw,if_neg (by rintro(z|z);omega;exact absurd z (by show ¬40<2;decide))];refine⟨0,1,by simp[m9,bB,pR],by simp[m9,bB,pR,hab],λH' hH' st=>k H1 H' s1 hH' st⟩
end
noncomputable def mV (w:Str):Bool:=w.cps.toList.all (λc=>decide (c<128) && !decide (c=32)) && decide (w.length<=100)
theorem dD {w:Str}(h:mV w=true):Wd w:=by
 unfold mV at h;rw[and_eq_true,all_eq_true] at h;refine⟨vW.mpr λc hc=>?_,by simpa using h.2,λhc=>?_⟩
 .have:=h.1 c hc;simp at this;exact this.1
 .have:=h.1 32 hc;simp at this
theorem fB {n:Int}(h0: -100<=n)(h1:n<=100):kW n:=by
 unfold kW
 have:n.natAbs.log2<7:=by
  by_cases z:n.natAbs=0
  .rw[z];decide
  .exact(Nat.log2_lt z).mpr (by omega)
 omega
theorem Ly:∀n:Nat,n<=41->(mV (toString (n:Int)) && dg (toString (n:Int):Str).cps.toList && decide (intText? (toString (n:Int))=some (n:Int)) && decide (1<=(toString (n:Int):Str).length))=true:=by decide +kernel
theorem aeW:∀n:Nat,n<=40->n=0\/(mV ("0"++toString (n:Int)) && !dg ("0"++toString (n:Int):Str).cps.toList && mV ("+"++toString (n:Int)) && !dg ("+"++toString (n:Int):Str).cps.toList)=true:=by decide +kernel
theorem Xe:(mV (Txt.mul "9" 60) && dg (Txt.mul "9" 60).cps.toList && decide (intText? (Txt.mul "9" 60)=some (10^60 - 1)))=true:=by decide +kernel
theorem Bx:kW (10^60 - 1):=by unfold kW;decide +kernel
theorem ones:(mV ("1"++Txt.mul "0" 60) && !dg ("1"++Txt.mul "0" 60).cps.toList)=true:=by decide +kernel
def yW (i j:Nat):Str:=fX abc (some (i:Int)) (some ((i:Int)+(j:Int)))
def yX (i j:Nat):List Str:=(["a","b","c","d","e","f","g"]:List Str).map λx=>yW i j++x
def nameB (w:Str):Bool:=mV w && cB w.cps.toList && !dg w.cps.toList && (bB w cY).isNone && decide (w.length<=12) && !decide (w="")
theorem Zk:∀i:Fin 26,∀j:Fin 6,((yX i.1 j.1).all nameB && decide (yX i.1 j.1).Nodup)=true:=by decide +kernel
def rF (c:Int):List Str:=yX (cG c 0 % 26).toNat (cG c 0/26 % 6).toNat
theorem Jq (c:Int):(∀w∈rF c,nameB w=true)/\(rF c).Nodup:=by have h1:=jD (cG c 0) (b:=26) (by decide);have h2:=jD (cG c 0/26) (b:=6) (by decide);have h:=Zk ⟨(cG c 0 % 26).toNat,by omega⟩ ⟨(cG c 0/26 % 6).toNat,by omega⟩;rw[and_eq_true,all_eq_true] at h;exact⟨h.1,of_decide_eq_true h.2⟩
structure d7 (w:Str):Prop where
 wd:Wd w
 fW:cB w.cps.toList=true
 num:dg w.cps.toList=false
 frm:bB w cY=none
 len:w.length<=12
 ne:w≠""
theorem acU {w:Str}(h:nameB w=true):d7 w:=by unfold nameB at h;simp only[and_eq_true,not_eq_true',decide_eq_true_eq,decide_eq_false_iff_not,Option.isNone_iff_eq_none] at h;exact⟨dD h.1.1.1.1.1,h.1.1.1.1.2,h.1.1.1.2,h.1.1.2,h.1.2,h.2⟩
theorem QK (c:Int):∃a b p q n o l,rF c=[a,b,p,q,n,o,l]/\(∀w∈([a,b,p,q,n,o,l]:List Str),d7 w)/\([a,b,p,q,n,o,l]:List Str).Nodup:=
 ⟨_,_,_,_,_,_,_,rfl,λw hw=>acU ((Jq c).1 w hw),(Jq c).2⟩
end bF
namespace bF
open PyProof.Rows L2 VM
theorem Zm (c:Int):jA [.int c]=some (true,.list ((rF c).map .str)):=by
 unfold jA u5;walk_at "e0";rw[Lx (by decide) (by decide)];walk_at "e0";have h1:=jD (cG c 0) (b:=26) (by decide);have h2:=jD (cG c 0/26) (b:=6) (by decide);have i1:(((cG c 0 % 26).toNat:Nat):Int)=cG c 0 % 26:=Int.toNat_of_nonneg h1.1;have i2:(((cG c 0/26 % 6).toNat:Nat):Int)=cG c 0/26 % 6:=Int.toNat_of_nonneg h2.1;rw[Jk (x:=abc) (lo:=some (cG c 0 % 26)) (hi:=some (cG c 0 % 26+cG c 0/26 % 6)) rfl (by
   show oI (v2 jh (vN 2) (vC (.int 26))) _=_;unfold oI;walk_at "e0";rw[iu (by decide)]) (by
   show oI (v2 oK (v2 jh (vN 2) (vC (.int 26))) (v2 jh (v2 pX (vN 2) (vC (.int 26))) (vC (.int 6)))) _=_;unfold oI;walk_at "e0";rw[iu (by decide)];walk_at "e0";rw[qL (by decide) (by decide)];walk_at "e0";rw[iu (by decide)];walk_at "e0") (by rw[Ji];decide)]
 have eb:fX abc (some (cG c 0 % 26)) (some (cG c 0 % 26+cG c 0/26 % 6))=yW (cG c 0 % 26).toNat (cG c 0/26 % 6).toNat:=by unfold yW;rw[i1,i2]
 rw[eb];have lb:(yW (cG c 0 % 26).toNat (cG c 0/26 % 6).toNat).length<=26:=by rw[<-Ji];exact yU _ _ _
 unfold rF yX;generalize yW (cG c 0 % 26).toNat (cG c 0/26 % 6).toNat=bs at lb ⊢;walk_at "e0";have es:∀S:GS,fZ (vC (.str "abcdefg")) S=some ((["a","b","c","d","e","f","g"]:List Str).map .str):=λS=>by unfold fZ vC;show(if L2.ascii "abcdefg"=true then _ else _)=_;rw[if_pos (by decide +kernel)];unfold vM;rw[show("abcdefg":Str).cps.toList=[97,98,99,100,101,102,103] by decide +kernel];rfl
 rw[es,KR rfl (by show 7<sizeLine;decide),vI (f:=λd=>match d with|.str z=>.str (bs++z)|d=>d)]
 .rfl
 .intro d hd;obtain⟨z,hz,rfl⟩:=mem_map.mp hd;refine⟨[some (.fr,.str z),some (.fr,.str bs)],by walk_at "e0",rfl,?_⟩;walk_at "e0";have lz:z.length=1:=by simp only[mem_cons,not_mem_nil,or_false] at hz;rcases hz with rfl|rfl|rfl|rfl|rfl|rfl|rfl<;>rfl
  rw[Gg (by rw[lz];omega)]
theorem Zn {num:Int}(h:0<=num)(x0 x1:Option (Tg×PyData))(S:GS):yQ (x0::x1::some (.fr,.int num)::S)=some (.int ((1+num/4 % 40)*(if 0<num % 4 then 1 else 0))):=by
 unfold yQ;walk_at "e0";rw[qL (by decide) (by decide)];walk_at "e0";rw[iu (by decide)];walk_at "e0";rw[iu (by decide)];walk_at "e0";have h4:=jD (num/4) (b:=40) (by decide);simp only[decide_eq_true_eq];by_cases h0:0<num % 4
 .rw[if_pos h0,qK (by omega) (by omega) (by decide) (by decide)]
 .rw[if_neg h0,qK (by omega) (by omega) (by decide) (by decide)]
theorem ahm (ns:List Int)(S:GS):Ge (some (.fr,.list (ns.map .int))::S)=some (.list ((rF (iW ns 0)).map .str)):=by unfold Ge;walk_at "e0";rw[QG (by decide)];walk_at "e0";rw[Zm];walk_at "e0"
theorem ahn (ns:List Int)(S:GS):UW (some (.fr,.list (ns.map .int))::S)=some (.int (cG (iW ns 1) 0)):=by unfold UW;walk_at "e0";rw[QG (by decide)];walk_at "e0";rw[Lx (by decide) (by decide)];walk_at "e0"
theorem QL (c:Int):0<=cG c 0:=by
 unfold cG;split
 .show 0<=vg _ 0;unfold vg;split<;>omega
 .unfold U6;exact Int.emod_nonneg _ (by decide)
def rG (c:Int):Int:=(1+cG c 0/4 % 40)*(if 0<cG c 0 % 4 then 1 else 0)
theorem Va (c:Int):0<=rG c/\rG c<=40:=by have h:=jD (cG c 0/4) (b:=40) (by decide);unfold rG;split<;>omega
theorem Lz:aZ "" "" [] none:=by refine⟨by decide +kernel,by decide +kernel,λw hw=>?_,jN (by decide)⟩;rw[mem_singleton.mp hw];exact(dD (by decide +kernel)).word
noncomputable def mj (a p m:Str):List (List Str):=([[""],["",""],["hall"],["hall",a],["hall",a,a,a],["hall","",a,p],["Hall",a,p],["lay",p,a,a,m],["lay"],["lay",p,a,"b",m,m,m],["lay",p,a,"b","x","1"],["lay",p,a,"b","1","0"++m],["lay",p,a,"b","+1","1"]]:List (List Str))++
 ([["lay",p,a,"b","1","--1"],["lay",p,a,"b","1_0","1"],["lay",p,a,"b","-0","1"],["lay",p,a,"b","1","1"++Txt.mul "0" 60],["shut"],["shut",p,p],["shut",p,""],["widen",p],["widen",p,a],["widen",p,"0"++m],["narrow",p,m,m],["narrow",p,"1/2"],["narrow",p,""],["","narrow",p,"1"],["open",p],["fire"],[a],[m],["lay",p,a,"b","1",""],["lay",p,a,"","1","1"]]:List (List Str))
theorem Zo {xs ys:List PyData}(h:xs.length+ys.length<=1000):bZ (.list xs) (.list ys)=some (.list (xs++ys)):=@if_pos _ (Classical.propDecidable _) (le_trans h (by decide)) _ _ _
theorem join_cons (w v:Str)(r:List Str):(Str.join IS.bl (w::v::r)).cps.toList=w.cps.toList++32::(Str.join IS.bl (v::r)).cps.toList:=IS.oX w v r
theorem mq {x y:Str}(h:x.cps.toList=y.cps.toList):x=y:=Str.ext' (toList_inj.mp h)
noncomputable def jd:List Str->List Nat
 |[]=>[]
 |[w]=>w.cps.toList
 |w::v::r=>w.cps.toList++32::jd (v::r)
theorem pU:∀ws:List Str,(Str.join IS.bl ws).cps.toList=jd ws
 |[]=>rfl
 |[w]=>rfl
 |w::v::r=>by rw[join_cons,pU (v::r)];rfl
noncomputable def Tx (B:GS)(f:VE)(F:List Nat->List Nat)(n:Nat):Prop:=∃x:Str,(∀o,f (B++[o])=some (.str x))/\(∀r,x.cps.toList++r=F r)/\x.length<=n
def Tl {α:Type}(D:α->PyData)(B:GS)(fs:VA)(xs:List α):Prop:=∀o,fs (B++[o])=some (xs.map D)
noncomputable def Rt {α:Type}(D:α->PyData)(B:GS)(g:VS)(xs ys:List α):Prop:=∃S',g (B++[some (.fr,.list (xs.map D))])=.ret S' true (.list (ys.map D))
def j4 (ws:List Str):PyData:=.str (Str.join IS.bl ws)
def pairD (kw:Nat×List Str):PyData:=.tuple [.int (kw.1:Int),.str (Str.join IS.bl kw.2)]
theorem str2:∀m:Nat,m<=41->(toString (m:Int):Str).length<=2:=by decide +kernel
theorem Gj {m:Nat}(h:m<=41):pN [.int (m:Int)]=some (.str (toString (m:Int))):=by have w:=Ly m h;simp only[and_eq_true,decide_eq_true_eq] at w;unfold pN;exact if_pos (by simp only[and_eq_true,decide_eq_true_eq];exact⟨⟨by omega,by omega⟩,(dD w.1.1.1).can⟩)
theorem Dc {S:GS}{fa:VE}{fs:VA}{d:PyData}{ds:List PyData}(h:fa S=some d)(r:fs S=some ds):aC fa fs S=some (d::ds):=by unfold aC;rw[h,r]
section
variable {B:GS}{fa fb:VE}{F G:List Nat->List Nat}{na nb i:Nat}{x:Str}{fs:VA}{ws:List Str}{wss:List (List Str)}
theorem LC {o:Option (Tg×PyData)}{v:Option (Tg×PyData)}(h:B[i]? =some v):(B++[o])[i]? =some v:=by rw[List.getElem?_append_left (List.getElem?_eq_some_iff.mp h).1,h]
theorem Tx.c:Tx B (vC (.str x)) (x.cps.toList++ ·) x.length:=⟨x,λ_=>rfl,λ_=>rfl,le_refl _⟩
theorem Tx.n (h:B[i]? =some (some (.fr,.str x)))(l:x.length<=na):Tx B (vN i) (x.cps.toList++ ·) na:=⟨x,λo=>by unfold vN;rw[LC h],λ_=>rfl,l⟩
theorem Tx.f (h:B[i]? =some (some (.fr,.str x)))(l:x.length<=na):Tx B (vF i) (x.cps.toList++ ·) na:=⟨x,λo=>by unfold vF;rw[LC h],λ_=>rfl,l⟩
theorem Tx.cat (a:Tx B fa F na)(b:Tx B fb G nb)(h:na+nb<=1000):Tx B (v2 ak fa fb) (λr=>F (G r)) (na+nb):=by obtain⟨x,e1,c1,l1⟩:=a;obtain⟨y,e2,c2,l2⟩:=b;refine⟨x++y,λo=>by unfold v2;rw[e1,e2];exact Gg (by omega),λr=>?_,by rw[Zh];omega⟩;rw[iw,append_assoc,c2,c1]
theorem Tx.mul:Tx B (v2 nM (vC (.str "0")) (vC (.int 60))) ((Txt.mul "0" 60).cps.toList++ ·) 60:=⟨Txt.mul "0" 60,λ_=>if_pos (by decide +kernel),λ_=>rfl,by decide +kernel⟩
theorem Tx.str {m:Nat}{fe:VE}(h:∀o,fe (B++[o])=some (.int (m:Int)))(h1:m<=41):Tx B (jo pN (aC fe a0)) ((toString (m:Int):Str).cps.toList++ ·) 2:=by refine⟨toString (m:Int),λo=>?_,λ_=>rfl,str2 m h1⟩;unfold jo aC a0;rw[h];exact Gj h1
theorem str_is (h:Tx B fa F na)(e:F []=jd ws)(o:Option (Tg×PyData)):fa (B++[o])=some (.str (Str.join IS.bl ws)):=by obtain⟨x,e1,c1,_⟩:=h;rw[e1,mq (x:=x) (y:=Str.join IS.bl ws) (by rw[pU,←e,←c1,append_nil])]
theorem QM {α:Type}{D:α->PyData}:Tl D B a0 []:=λ_=>rfl
theorem acV (h:Tx B fa F na)(e:F []=jd ws)(r:Tl j4 B fs wss):Tl j4 B (aC fa fs) (ws::wss):=λo=>Dc (str_is h e o) (r o)
theorem QS {k':Nat}{kws:List (Nat×List Str)}(h:Tx B fa F na)(e:F []=jd ws)(r:Tl pairD B fs kws):Tl pairD B (aC (dH (aC (vC (.int (k':Int))) (aC fa a0))) fs) ((k',ws)::kws):=λo=>by have e2:aC (vC (.int (k':Int))) (aC fa a0) (B++[o])=some [.int (k':Int),.str (Str.join IS.bl ws)]:=Dc rfl (Dc (str_is h e o) rfl);refine Dc ?_ (r o);unfold dH;rw[e2];rfl
theorem Xf {α:Type}{D:α->PyData}{xs:List α}(h:Tl D B fs xs)(l:xs.length<=1000)(o:Option (Tg×PyData)):bR fs (B++[o])=some (.list (xs.map D)):=by unfold bR;rw[h];exact if_pos (by rw[length_map];exact l)
theorem QT {α:Type}{D:α->PyData}{xs ys:List α}(hi:B.length=i)(h:Tl D B fs ys)(l:xs.length+ys.length<=1000):v2 bZ (vN i) (bR fs) (B++[some (.fr,.list (xs.map D))])=some (.list ((xs++ys).map D)):=by unfold v2;rw[Xf h (by omega),show vN i (B++[some (.fr,.list (xs.map D))])=some (.list (xs.map D)) by unfold vN;rw[<-hi,List.getElem?_concat_length]];rw[List.map_append];exact Zo (by rw[length_map,length_map];exact l)
theorem Xg {d:PyData}{o:Option (Tg×PyData)}(hi:B.length=i)(ho:o=none\/∃z,o=some (.fr,z))(h:fa (B++[o])=some d):bY fa (gN i) (B++[o])=.nxt (B++[some (.fr,d)]):=by
 unfold bY gN;rw[h];have hn:p7 (B++[o]) i=true:=by unfold p7;rw[<-hi,List.getElem?_concat_length];rcases ho with rfl|⟨z,rfl⟩<;>rfl
 show(match(if p7 (B++[o]) i=true then _ else _:Option GS) with|some S'=>Out.nxt S'|none=>Out.fail)=_;rw[if_pos hn,←hi];simp
theorem QV {α:Type}{D:α->PyData}{xs ys zs:List α}{g:VS}(hi:B.length=i)(h:Tl D B fs ys)(l:xs.length+ys.length<=1000)(k:Rt D B g (xs++ys) zs):Rt D B (bf (bY (v2 bZ (vN i) (bR fs)) (gN i)) g) xs zs:=by obtain⟨S',k⟩:=k;refine⟨S',?_⟩;unfold bf;rw[Xg hi (.inr ⟨_,rfl⟩) (QT hi h l)];exact k
theorem QW {α:Type}{D:α->PyData}{xs ys zs:List α}(hi:B.length=i)(h:Tl D B fs ys)(l:xs.length+ys.length<=1000)(k:xs++ys=zs):Rt D B (lA (v2 bZ (vN i) (bR fs))) xs zs:=⟨_,by unfold lA;rw[QT hi h l,k]⟩
theorem Gk {α:Type}{D:α->PyData}{ys zs:List α}{g:VS}(hi:B.length=i)(h:Tl D B fs ys)(l:ys.length<=1000)(k:Rt D B g ys zs):∃S',bf (bY (bR fs) (gN i)) g (B++[none])=.ret S' true (.list (zs.map D)):=by obtain⟨S',k⟩:=k;refine⟨S',?_⟩;unfold bf;rw[Xg hi (.inl rfl) (Xf h l none)];exact k
theorem LK {n' nN:Nat}{g':VS}{ds:List PyData}{d:PyData}(e:ds.length=n')(h:∃S',g' (ini nN ds)=.ret S' true d):nu n' nN g' ds=some (true,d):=by obtain⟨S',h⟩:=h;rw[OJ e,h];rfl
end
noncomputable def j9 (p m:Str):List (List Str):=([["out"],["out","x"],["out","-"++m],["out","-1"],["out","0"++m],["out",m,m],["out","+"++m],["out","1.0"],["out","-0"],["walks"],["walks",p],["walks","-1"],["walks","00"],["moments"],["moments","-"++m],["moments",m,""],["turns"],["turns","0"],["turns","-"++m],["turns","x"]]:List (List Str))++
 ([["turns","01"],["turns",m,"1"],["turns","+1"],["turns","1_0"],["worth",p],["worth",p,"-1"],["worth",p,"x"],["worth",m],["worth",p,m,"1"],["rooms",m],["rooms",""],["passages",p],["Rooms"],["room"],["out","1"++Txt.mul "0" 60],["turns","1"++Txt.mul "0" 60],["worth",p,"0"++m],["worth","",p,"1"],["out"],["moments","1-"]]:List (List Str))
noncomputable def kY (a b p q n o l m w w1:Str):List (Nat×List Str):=([(1,["lay","P",a,a,"0","0"]),(1,["lay",o,"A",a,"0","1"]),(1,["lay","a1",a,b,"1","1"]),(1,["lay",p,a,"abcdefghijklm","1","1"]),(2,["lay",p,a,a,"0","0"]),(2,["lay",q,b,a,m,m]),(0,["lay",o,a,a,"1","1"]),(0,["lay",o,a,l,"0","1"]),(0,["lay",o,a,b,"1","-"++m]),(0,["lay",o,l,n,"-"++m,"1"]),(4,["shut",n])]:List (Nat×List Str))++
 ([(4,["shut",a]),(4,["widen",n,"0"]),(4,["narrow","P","1"]),(5,["widen",p,"0"]),(5,["widen",q,"-"++m]),(5,["narrow",p,w]),(5,["narrow",p,"0"]),(5,["narrow",p,"-1"]),(5,["narrow",p,w1]),(4,["worth",n,m]),(4,["worth",b,"0"])]:List (Nat×List Str))
seal Tx Tl Rt jd vC vN vF v2 bR aC a0 bf bY lA bZ ak nM j4 pairD dH jo
local macro_rules | `(tactic| walk_at "tx")=>`(tactic| (repeat' (first
 |exact Tx.c
 |exact Tx.n rfl (by assumption)
 |exact Tx.f rfl (by assumption)
 |exact Tx.mul
 |apply Tx.cat
 |exact QM
 |apply acV
 |apply QS
 |apply QV rfl
 |apply QW rfl)))
local macro_rules | `(tactic| walk_at "jd")=>`(tactic| all_goals first
 |(show _<=_;exact Nat.le_of_ble_eq_true (by kernel_rfl))
 |(show _=jd _;simp only[jd,iw,append_assoc,append_nil]<;>kernel_rfl))
theorem QX {a p m:Str}(la:a.length<=12)(lp:p.length<=12)(lm:m.length<=2):jL [.str a,.str p,.str m]=some (true,.list ((mj a p m).map j4)):=by
 refine LK rfl ?_;unfold qW;apply Gk (B:=[some (.fr,.str a),some (.fr,.str p),some (.fr,.str m)]) rfl;all_goals walk_at "tx"
 any_goals (show _=mj a p m;rfl)
 walk_at "jd"
theorem LQ {p m:Str}(lp:p.length<=12)(lm:m.length<=2):gB [.str p,.str m]=some (true,.list ((j9 p m).map j4)):=by
 refine LK rfl ?_;unfold mU;apply Gk (B:=[some (.fr,.str p),some (.fr,.str m)]) rfl;all_goals walk_at "tx"
 any_goals (show _=j9 p m;rfl)
 walk_at "jd"
end bF
namespace bF
open PyProof.Rows L2 VM
theorem unp {S S':GS}{g:VS}{u:yr}{ds:List PyData}{d:PyData}(h:S[0]? =some (some (.fr,.list ds)))(hl:ds.length=7)(e:u ds S=some S')(k:∃S2,g S'=.ret S2 true d):∃S2,bf (bY (vF 0) (Iu 7 u)) g S=.ret S2 true d:=by
 obtain⟨S2,k⟩:=k;refine⟨S2,?_⟩
 have:bY (vF 0) (Iu 7 u) S=.nxt S':=by unfold bY vF Iu;rw[h];show(match(if ds.length=7 then u ds S else none) with|some S'=>Out.nxt S'|none=>Out.fail)=_;rw[if_pos hl,e]
 unfold bf;rw[this];exact k
theorem acW {B:GS}{w:Nat}(h:B[2]? =some (some (.fr,.int (w:Int))))(o:Option (Tg×PyData)):v2 oK (vN 2) (vC (.int 1)) (B++[o])=some (.int ((w+1:Nat):Int)):=by unfold v2 vN vC;rw[LC h];rfl
theorem acX {B:GS}{w:Nat}(h:B[2]? =some (some (.fr,.int (w:Int))))(o:Option (Tg×PyData)):vN 2 (B++[o])=some (.int (w:Int)):=by unfold vN;rw[LC h]
seal Tx Tl Rt jd vC vN vF v2 bR aC a0 bf bY lA bZ ak nM j4 pairD dH jo
local macro_rules | `(tactic| walk_at "tx")=>`(tactic| (repeat' (first
 |exact Tx.c
 |exact Tx.n rfl (by assumption)
 |exact Tx.f rfl (by assumption)
 |exact Tx.str (acX rfl) (by assumption)
 |exact Tx.str (acW rfl) (by assumption)
 |apply Tx.cat
 |exact QM
 |apply QS
 |apply QV rfl
 |apply QW rfl)))
local macro_rules | `(tactic| walk_at "jd")=>`(tactic| all_goals first
 |(show _<=_;exact Nat.le_of_ble_eq_true (by kernel_rfl))
 |(show _=jd _;simp only[jd,iw,append_assoc,append_nil]<;>kernel_rfl))
theorem QZ {a b p q n o l m:Str}{w:Nat}(la:a.length<=12)(lb:b.length<=12)(lp:p.length<=12)(lq:q.length<=12)(ln:n.length<=12)(lo:o.length<=12)(ll:l.length<=12)(lm:m.length<=2)(hw:w<=41)(hw1:w+1<=41):jM [.list (([a,b,p,q,n,o,l]:List Str).map .str),.str m,.int (w:Int)]=some (true,.list ((kY a b p q n o l m (toString (w:Int)) (toString ((w+1:Nat):Int))).map pairD)):=by
 refine LK rfl ?_;unfold qX;apply unp rfl rfl;case e=>exact rfl
 apply Gk (B:=[some (.fr,.list (([a,b,p,q,n,o,l]:List Str).map .str)),some (.fr,.str m),some (.fr,.int (w:Int)),some (.fr,.str a),some (.fr,.str b),some (.fr,.str p),some (.fr,.str q),some (.fr,.str n),some (.fr,.str o),some (.fr,.str l)]) rfl;all_goals walk_at "tx"
 any_goals (show _=kY ..;rfl)
 walk_at "jd"
end bF
namespace bF
open PyProof.Rows L2 VM EX
theorem Gm:∀ws:List Str,(∀w∈ws,w.length<=100)->(jd ws).length<=101*ws.length
 |[],_=>by unfold jd;simp
 |[w],h=>by have:=h w (by simp);rw[cX] at this;unfold jd;simp only[length_cons,length_nil];omega
 |w::v::r,h=>by have h1:=h w (by simp);rw[cX] at h1;have h2:=Gm (v::r) λx hx=>h x (by simp[hx]);unfold jd;simp only[length_append,length_cons] at h2 ⊢;omega
theorem vY {w0:Str}{r:List Str}{o:Option (List V)}(h:∀w∈w0::r,Wd w)(hl:(w0::r).length<=7)(hp:r≠[]\/1<=w0.length)(li:gF (w0::r) o):aZ (Str.join IS.bl (w0::r)) w0 r o:=by
 have j:=Gm (w0::r) λw hw=>(h w hw).len;refine Zj h (by omega) (by rw[cX,pU];omega) ?_ li;rw[cX,pU];cases r with
 |nil=>
  rcases hp with z|z
  .exact absurd rfl z
  .rw[cX] at z;unfold jd;exact z
 |cons v r=>unfold jd;simp only[length_append,length_cons];omega
theorem yZ:∀w∈([]:List Str),Wd w:=λ_ h=>absurd h (by simp)
theorem rH {w:Str}{r:List Str}(h:Wd w)(t:∀v∈r,Wd v):∀v∈w::r,Wd v:=λv hv=>by
 rcases mem_cons.mp hv with rfl|z
 .exact h
 .exact t v z
theorem nQ:¬("":Str)∈([]:List Str):=by simp
theorem kh {w:Str}{r:List Str}(h:1<=w.length)(t:¬("":Str)∈r):¬("":Str)∈w::r:=λz=>by
 rcases mem_cons.mp z with rfl|z
 .exact absurd h (by decide +kernel)
 .exact t z
def za (w0:Str)(n:Nat):Bool:=match bB w0 cY with
 |some ks=>!decide (n=ks.length)
 |none=>true
theorem kj {w0:Str}{r:List Str}{n:Nat}(hr:r.length=n)(h:za w0 n=true):gF (w0::r) none:=by
 unfold za at h;cases e:bB w0 cY with
 |none=>exact Bu e
 |some ks=>rw[e] at h;exact U8 e (by rw[hr];simpa using h)
theorem acY {k w:Str}{v:V}{ks ws:List Str}(a:dJ k w (some v))(b:dz ks ws none):dz (k::ks) (w::ws) none:=dz.ok a b
theorem gW {k w:Str}{v:V}{vs:List V}{ks ws:List Str}(a:dJ k w (some v))(b:dz ks ws (some vs)):dz (k::ks) (w::ws) (some (v::vs)):=dz.ok a b
theorem rJ {k w:Str}{n:Int}(hk:k≠"name")(h:Wd w)(hn:dg w.cps.toList=true)(hi:intText? w=some n)(hf:kW n)(hl:least k n=true):dJ k w (some (.int n)):=by have:=Jo hk h hn hi hf;rw[if_pos hl] at this;exact this
theorem Jr {k w:Str}{n:Int}(hk:k≠"name")(h:Wd w)(hn:dg w.cps.toList=true)(hi:intText? w=some n)(hf:kW n)(hl:least k n=false):dJ k w none:=by have:=Jo hk h hn hi hf;rw[if_neg (by rw[hl];decide)] at this;exact this
theorem iD {k w:Str}(n:Int)(h:(mV w && dg w.cps.toList && decide (intText? w=some n) && decide (-100<=n) && decide (n<=100) && least k n && !decide (k="name"))=true):dJ k w (some (.int n)):=by simp only[and_eq_true,decide_eq_true_eq,not_eq_true',decide_eq_false_iff_not] at h;exact rJ h.2 (dD h.1.1.1.1.1.1) h.1.1.1.1.1.2 h.1.1.1.1.2 (fB h.1.1.1.2 h.1.1.2) h.1.2
theorem Js {k w:Str}(n:Int)(h:(mV w && dg w.cps.toList && decide (intText? w=some n) && decide (-100<=n) && decide (n<=100) && !least k n && !decide (k="name"))=true):dJ k w none:=by simp only[and_eq_true,decide_eq_true_eq,not_eq_true',decide_eq_false_iff_not] at h;exact Jr h.2 (dD h.1.1.1.1.1.1) h.1.1.1.1.1.2 h.1.1.1.1.2 (fB h.1.1.1.2 h.1.1.2) h.1.2
theorem Zq {k w:Str}(h:(mV w && !dg w.cps.toList && !decide (k="name"))=true):dJ k w none:=by simp only[and_eq_true,not_eq_true',decide_eq_false_iff_not] at h;exact rE h.2 (dD h.1.1) h.1.2
theorem d7.pos {w:Str}(h:d7 w):1<=w.length:=by have:=h.fW;unfold cB at this;rw[cX];simp at this;exact this.1.1
theorem d7.bad {k w:Str}(h:d7 w)(hk:k≠"name"):dJ k w none:=rE hk h.wd h.num
theorem d7.not {w x:Str}(h:d7 w)(hx:cB x.cps.toList=false):w≠x:=λz=>by rw[<-z,h.fW] at hx;cases hx
structure Num (m:Str)(n:Nat):Prop where
 lo:1<=n
 hi:n<=40
 is:m=toString (n:Int)
def acZ (n:Nat):Bool:=decide (n=0)||(za (toString (n:Int)) 0 && decide (intText? ("-"++toString (n:Int))=some (-(n:Int))) && mV ("-"++toString (n:Int)) && dg ("-"++toString (n:Int):Str).cps.toList && decide (1<=("-"++toString (n:Int):Str).length) && decide (1<=("0"++toString (n:Int):Str).length) && decide (1<=("+"++toString (n:Int):Str).length))
theorem aeX:∀n:Nat,n<=40->acZ n=true:=by decide +kernel
section
variable {m:Str}{n:Nat}{k:Str}
theorem Num.b (h:Num m n):za m 0=true/\intText? ("-"++m)=some (-(n:Int))/\mV ("-"++m)=true/\dg ("-"++m:Str).cps.toList=true/\1<=("-"++m).length/\1<=("0"++m).length/\1<=("+"++m).length:=by
 obtain⟨h1,h2,rfl⟩:=h;have:=aeX n h2;unfold acZ at this;simp only[Bool.or_eq_true,and_eq_true,decide_eq_true_eq] at this;rcases this with z|⟨⟨⟨⟨⟨⟨a,b⟩,c⟩,d⟩,e⟩,f⟩,g⟩
 .omega
 .exact⟨a,b,c,d,e,f,g⟩
theorem Num.a (h:Num m n):mV m=true/\dg m.cps.toList=true/\intText? m=some (n:Int)/\1<=m.length:=by obtain⟨h1,h2,rfl⟩:=h;have:=Ly n (by omega);simp only[and_eq_true,decide_eq_true_eq] at this;exact⟨this.1.1.1,this.1.1.2,this.1.2,this.2⟩
theorem Num.c (h:Num m n):mV ("0"++m)=true/\dg ("0"++m:Str).cps.toList=false/\mV ("+"++m)=true/\dg ("+"++m:Str).cps.toList=false:=by
 obtain⟨h1,h2,rfl⟩:=h;have:=aeW n (by omega);simp only[and_eq_true,not_eq_true'] at this;rcases this with z|⟨⟨⟨a,b⟩,c⟩,d⟩
 .omega
 .exact⟨a,b,c,d⟩
theorem Num.wd (h:Num m n):Wd m:=dD h.a.1
theorem Num.Q0 (h:Num m n):Wd ("-"++m):=dD h.b.2.2.1
theorem Num.wdZ (h:Num m n):Wd ("0"++m):=dD h.c.1
theorem Num.wdP (h:Num m n):Wd ("+"++m):=dD h.c.2.2.1
theorem Num.pos (h:Num m n):1<=m.length:=h.a.2.2.2
theorem Num.posN (h:Num m n):1<=("-"++m).length:=h.b.2.2.2.2.1
theorem Num.aho (h:Num m n):1<=("0"++m).length:=h.b.2.2.2.2.2.1
theorem Num.ahp (h:Num m n):1<=("+"++m).length:=h.b.2.2.2.2.2.2
theorem Num.few (h:Num m n):kW (n:Int):=fB (by have:=h.lo;omega) (by have:=h.hi;omega)
theorem Num.Vb (h:Num m n):kW (-(n:Int)):=fB (by have:=h.hi;omega) (by have:=h.lo;omega)
theorem Num.ahq (h:Num m n)(hk:k≠"name"):dJ k ("0"++m) none:=rE hk h.wdZ h.c.2.1
theorem Num.ahr (h:Num m n)(hk:k≠"name"):dJ k ("+"++m) none:=rE hk h.wdP h.c.2.2.2
theorem Num.low (h:Num m n)(hk:k="turns"\/k="people"):dJ k ("-"++m) none:=by
 have h1:=h.lo;refine Jr (by rcases hk with rfl|rfl<;>decide) h.Q0 h.b.2.2.2.1 h.b.2.1 h.Vb ?_;rcases hk with rfl|rfl
 .simp[least];omega
 .simp[least];omega
theorem vZ (z:Int):least "number" z=true:=by unfold least;rw[show decide (("number":Str)="turns")=false by decide,show decide (("number":Str)="people")=false by decide];rfl
theorem Zr {z:Int}(h:0<=z):least "turns" z=true:=by unfold least;rw[show decide (("turns":Str)="people")=false by decide];simp;omega
theorem Num.neg (h:Num m n):dJ "number" ("-"++m) (some (.int (-(n:Int)))):=rJ (by decide) h.Q0 h.b.2.2.2.1 h.b.2.1 h.Vb (vZ _)
theorem Num.val (h:Num m n):dJ "number" m (some (.int (n:Int))):=rJ (by decide) h.wd h.a.2.1 h.a.2.2.1 h.few (vZ _)
theorem Num.turns (h:Num m n):dJ "turns" m (some (.int (n:Int))):=rJ (by decide) h.wd h.a.2.1 h.a.2.2.1 h.few (Zr (by omega))
end
theorem Jt:Wd ("1"++Txt.mul "0" 60):=by have:=ones;simp only[and_eq_true] at this;exact dD this.1
theorem Vc:1<=("1"++Txt.mul "0" 60).length:=by decide +kernel
theorem Vd {k:Str}(hk:k≠"name"):dJ k ("1"++Txt.mul "0" 60) none:=by have:=ones;simp only[and_eq_true,not_eq_true'] at this;exact rE hk Jt this.2
theorem Gn:bB "lay" cY=some (["name","name","name","number","number"]:List Str):=by decide +kernel
theorem Ju:bB "shut" cY=some (["name"]:List Str):=by decide +kernel
theorem xH:bB "widen" cY=some (["name","number"]:List Str):=by decide +kernel
theorem vh:bB "narrow" cY=some (["name","number"]:List Str):=by decide +kernel
theorem Q5:bB "out" cY=some (["turns"]:List Str):=by decide +kernel
theorem Ve:bB "walks" cY=some (["turns"]:List Str):=by decide +kernel
theorem Ma:bB "moments" cY=some (["turns"]:List Str):=by decide +kernel
theorem Vf:bB "turns" cY=some (["people"]:List Str):=by decide +kernel
theorem xJ:bB "worth" cY=some (["name","turns"]:List Str):=by decide +kernel
theorem Jv:bB "hall" cY=some (["name","name"]:List Str):=by decide +kernel
def vm (ws:List Str):Prop:=∃w0 r,aZ (Str.join IS.bl ws) w0 r none
theorem nol {w0:Str}{r:List Str}(h:∀w∈w0::r,Wd w)(li:gF (w0::r) none)(hl:(w0::r).length<=7)(hp:r≠[]\/1<=w0.length):vm (w0::r):=⟨w0,r,vY h hl hp li⟩
theorem ahs:vm [""]:=⟨"",[],Lz⟩
theorem all_nil {P:List Str->Prop}:∀ws∈([]:List (List Str)),P ws:=λ_ h=>absurd h (by simp)
theorem all_cons {P:List Str->Prop}{w:List Str}{r:List (List Str)}(h:P w)(t:∀v∈r,P v):∀v∈w::r,P v:=λv hv=>by
 rcases mem_cons.mp hv with rfl|z
 .exact h
 .exact t v z
seal PySem.Str.ofString gF dJ vm cY
local macro_rules | `(tactic| walk_at "lw")=>`(tactic| (repeat' (first
 |exact ahs
 |refine nol ?_ ?_ ?_ ?_
 |exact yZ
 |refine rH ?_ ?_
 |(show Wd _;first|exact d7.wd (by assumption)|exact Num.wd (by assumption)|exact Num.Q0 (by assumption)|exact Num.wdZ (by assumption)|exact Num.wdP (by assumption)|exact Jt|exact dD (by decide +kernel))
 |(show gF _ _;first
  |exact jN (.head _)|exact jN (.tail _ (.head _))|exact jN (.tail _ (.tail _ (.head _)))|exact jN (.tail _ (.tail _ (.tail _ (.head _))))|exact jN (.tail _ (.tail _ (.tail _ (.tail _ (.tail _ (.head _))))))
  |exact kj (n:=0) rfl (by decide +kernel)
  |exact kj (n:=1) rfl (by decide +kernel)
  |exact kj (n:=2) rfl (by decide +kernel)
  |exact kj (n:=3) rfl (by decide +kernel)
  |exact kj (n:=4) rfl (by decide +kernel)
  |exact kj (n:=6) rfl (by decide +kernel)
  |exact Bu (d7.frm (by assumption))
  |exact kj (n:=0) rfl (Num.b (by assumption)).1
  |refine cj ?_ Gn ?_|refine cj ?_ xH ?_|refine cj ?_ vh ?_|refine cj ?_ Q5 ?_|refine cj ?_ Ve ?_|refine cj ?_ Ma ?_|refine cj ?_ Vf ?_|refine cj ?_ xJ ?_)
 |exact nQ
 |refine kh ?_ ?_
 |(show 1<=_;first|exact d7.pos (by assumption)|exact Num.pos (by assumption)|exact Num.posN (by assumption)|exact Num.aho (by assumption)|exact Num.ahp (by assumption)|exact Vc|decide +kernel)
 |(show dz _ _ _;first
  |refine acY (xG _) ?_
  |exact dz.bad (Zq (by decide +kernel)) rfl
  |exact dz.bad (Js (-1) (by decide +kernel)) rfl
  |exact dz.bad (Js 0 (by decide +kernel)) rfl
  |exact dz.bad (d7.bad (by assumption) (by decide +kernel)) rfl
  |exact dz.bad (Num.ahq (by assumption) (by decide +kernel)) rfl
  |exact dz.bad (Num.ahr (by assumption) (by decide +kernel)) rfl
  |exact dz.bad (Num.low (by assumption) (by decide +kernel)) rfl
  |exact dz.bad (Vd (by decide +kernel)) rfl
  |refine acY (iD 1 (by decide +kernel)) ?_)
 |exact .inl (cons_ne_nil _ _)
 |exact .inr (d7.pos (by assumption))
 |exact .inr (Num.pos (by assumption))
 |exact .inr (by decide +kernel)
 |exact Nat.le_of_ble_eq_true rfl
 |exact all_nil
 |refine all_cons ?_ ?_)))
theorem Zt {a p m:Str}{n:Nat}(A:d7 a)(P:d7 p)(M:Num m n):∀ws∈mj a p m,vm ws:=by show ∀ws∈(_::_:List (List Str)),vm ws;walk_at "lw"
theorem Vg {p m:Str}{n:Nat}(P:d7 p)(M:Num m n):∀ws∈j9 p m,vm ws:=by show ∀ws∈(_::_:List (List Str)),vm ws;walk_at "lw"
end bF
namespace bF
open PyProof.Rows L2 VM EX
section
variable {C CD:Addr}{R:Nat->Addr}{a b p q n o l m:Str}{W:Int}{w k:Nat}
theorem o7 {nm:Str}(h1:p≠nm)(h2:q≠nm):bB nm (jt p q W)=none:=by simp[bB,h1,h2]
theorem v7:bB p (jt p q W)=some (0,1,W,3):=by simp[bB]
theorem Xh (h:p≠q):bB q (jt p q W)=some (0,1,10^60 - 1,9):=by simp[bB,h]
theorem Vh:kW 0:=fB (by decide) (by decide)
theorem aht:kW 1:=fB (by decide) (by decide)
theorem ahu:kW (-1):=fB (by decide) (by decide)
structure lG (z:Str)(w:Nat):Prop where
 hi:w<=41
 is:z=toString (w:Int)
theorem lG.all {z:Str}(h:lG z w):mV z=true/\dg z.cps.toList=true/\intText? z=some (w:Int)/\1<=z.length:=by obtain⟨h2,rfl⟩:=h;have:=Ly w (by omega);simp only[and_eq_true,decide_eq_true_eq] at this;exact⟨this.1.1.1,this.1.1.2,this.1.2,this.2⟩
theorem lG.wd {z:Str}(h:lG z w):Wd z:=dD h.all.1
theorem lG.few {z:Str}(h:lG z w):kW (w:Int):=fB (by omega) (by have:=h.hi;omega)
theorem lG.val {z:Str}(h:lG z w):dJ "number" z (some (.int (w:Int))):=rJ (by decide) h.wd h.all.2.1 h.all.2.2.1 h.few (vZ _)
def Ref (CD C:Addr)(R:Nat->Addr)(a b p q:Str)(W:Int)(kw:Nat×List Str):Prop:=kw.1<=5/\∃w0 r vl,aZ (Str.join IS.bl kw.2) w0 r (some vl)/\w0≠"hall"/\(W≠0->∀x H,cW CD C x a b p q W H->iC CD C R x (Str.join IS.bl kw.2) kw.1 H)
theorem dh {ws r:List Str}{w0:Str}{vl:List V}(L:aZ (Str.join IS.bl ws) w0 r (some vl))(hk:k<=5)(h:w0≠"hall")(g:W≠0->∀x H,cW CD C x a b p q W H->iC CD C R x (Str.join IS.bl ws) k H):Ref CD C R a b p q W (k,ws):=⟨hk,w0,r,vl,L,h,g⟩
theorem nh (x:Str)(h:(!decide (x="hall"))=true):x≠"hall":=by simpa using h
seal PySem.Str.ofString gF dJ vm cY
local macro_rules | `(tactic| walk_at "li")=>`(tactic| (repeat' (first
 |refine vY ?_ ?_ ?_ ?_
 |exact yZ
 |refine rH ?_ ?_
 |(show Wd _;first|exact d7.wd (by assumption)|exact Num.wd (by assumption)|exact Num.Q0 (by assumption)|exact lG.wd (by assumption)|exact dD (by decide +kernel))
 |(show gF _ _;first
  |refine cj ?_ Gn ?_|refine cj ?_ xH ?_|refine cj ?_ vh ?_|refine cj ?_ xJ ?_|refine cj ?_ Ju ?_|refine cj ?_ Jv ?_)
 |exact nQ
 |refine kh ?_ ?_
 |(show 1<=_;first|exact d7.pos (by assumption)|exact Num.pos (by assumption)|exact Num.posN (by assumption)|exact(lG.all (by assumption)).2.2.2|decide +kernel)
 |exact dz.nil
 |(show dz _ _ _;first
  |refine gW (xG _) ?_
  |refine gW (iD 0 (by decide +kernel)) ?_
  |refine gW (iD 1 (by decide +kernel)) ?_
  |refine gW (iD 3 (by decide +kernel)) ?_
  |refine gW (iD (-1) (by decide +kernel)) ?_
  |refine gW (Num.val (by assumption)) ?_
  |refine gW (Num.turns (by assumption)) ?_
  |refine gW (Num.neg (by assumption)) ?_
  |refine gW (lG.val (by assumption)) ?_)
 |exact .inl (cons_ne_nil _ _)
 |exact Nat.le_of_ble_eq_true rfl)))
theorem Zu (A:d7 a)(B:d7 b)(P:d7 p)(Q:d7 q)(N:d7 n)(O:d7 o)(L:d7 l)(M:Num m k){v v1:Str}(V:lG v w)(V1:lG v1 (w+1))(d:([a,b,p,q,n,o,l]:List Str).Nodup):∀kw∈kY a b p q n o l m v v1,Ref CD C R a b p q (w:Int) kw:=by
 simp only[nodup_cons,mem_cons,not_mem_nil,or_false,not_or,List.nodup_nil,not_false_eq_true,and_true] at d;obtain⟨⟨ab,ap,aq,an,ao,al⟩,⟨bp,bq,bn,bo,bl⟩,⟨pq,pn,po,pl⟩,⟨qn,qo,ql⟩,⟨no,nl⟩,ol⟩:=d;have hP:cB ("P":Str).cps.toList=false:=by decide +kernel
 have hA:cB ("A":Str).cps.toList=false:=by decide +kernel
 have h1:cB ("a1":Str).cps.toList=false:=by decide +kernel
 have h13:cB ("abcdefghijklm":Str).cps.toList=false:=by decide +kernel
 have k1:=M.lo;show ∀kw∈(_::_:List (Nat×List Str)),_;have fY:∀{x:Nat×List Str}{r:List (Nat×List Str)},Ref CD C R a b p q (w:Int) x->(∀v∈r,Ref CD C R a b p q (w:Int) v)->∀v∈x::r,Ref CD C R a b p q (w:Int) v:=λh t v hv=>by
  rcases mem_cons.mp hv with rfl|z
  .exact h
  .exact t v z
 have gn:∀{nm:Str},p≠nm->q≠nm->(bB nm (jt p q (w:Int))).isSome=false:=λh1 h2=>by rw[o7 h1 h2];rfl
 have wP:Wd "P":=dD (by decide +kernel);have wA:Wd "A":=dD (by decide +kernel);refine fY ?_ ?_
 .have L1:aZ (Str.join IS.bl ("lay"::["P",a,a,"0","0"])) "lay" ["P",a,a,"0","0"] (some [.str "P",.str a,.str a,.int (0),.int (0)]):=by walk_at "li"
  exact dh L1 (by decide) (nh _ (by decide +kernel)) λhw x H=>gU L1 hw wP A.wd A.wd (.inl ⟨rfl,by rw[hP];rfl⟩)
 refine fY ?_ ?_
 .have L1:aZ (Str.join IS.bl ("lay"::[o,"A",a,"0","1"])) "lay" [o,"A",a,"0","1"] (some [.str o,.str "A",.str a,.int (0),.int (1)]):=by walk_at "li"
  exact dh L1 (by decide) (nh _ (by decide +kernel)) λhw x H=>gU L1 hw O.wd wA A.wd (.inl ⟨rfl,by rw[O.fW,hA];rfl⟩)
 refine fY ?_ ?_
 .have L1:aZ (Str.join IS.bl ("lay"::["a1",a,b,"1","1"])) "lay" ["a1",a,b,"1","1"] (some [.str "a1",.str a,.str b,.int (1),.int (1)]):=by walk_at "li"
  exact dh L1 (by decide) (nh _ (by decide +kernel)) λhw x H=>gU L1 hw (dD (by decide +kernel)) A.wd B.wd (.inl ⟨rfl,by rw[h1];rfl⟩)
 refine fY ?_ ?_
 .have L1:aZ (Str.join IS.bl ("lay"::[p,a,"abcdefghijklm","1","1"])) "lay" [p,a,"abcdefghijklm","1","1"] (some [.str p,.str a,.str "abcdefghijklm",.int (1),.int (1)]):=by walk_at "li"
  exact dh L1 (by decide) (nh _ (by decide +kernel)) λhw x H=>gU L1 hw P.wd A.wd (dD (by decide +kernel)) (.inl ⟨rfl,by rw[P.fW,A.fW,h13];rfl⟩)
 refine fY ?_ ?_
 .have L1:aZ (Str.join IS.bl ("lay"::[p,a,a,"0","0"])) "lay" [p,a,a,"0","0"] (some [.str p,.str a,.str a,.int (0),.int (0)]):=by walk_at "li"
  exact dh L1 (by decide) (nh _ (by decide +kernel)) λhw x H=>gU L1 hw P.wd A.wd A.wd (.inr ⟨by rw[P.fW,A.fW];rfl,.inl ⟨rfl,by rw[v7];rfl⟩⟩)
 refine fY ?_ ?_
 .have L1:aZ (Str.join IS.bl ("lay"::[q,b,a,m,m])) "lay" [q,b,a,m,m] (some [.str q,.str b,.str a,.int ((k:Int)),.int ((k:Int))]):=by walk_at "li"
  exact dh L1 (by decide) (nh _ (by decide +kernel)) λhw x H=>gU L1 hw Q.wd B.wd A.wd (.inr ⟨by rw[Q.fW,B.fW,A.fW];rfl,.inl ⟨rfl,by rw[Xh pq];rfl⟩⟩)
 refine fY ?_ ?_
 .have L1:aZ (Str.join IS.bl ("lay"::[o,a,a,"1","1"])) "lay" [o,a,a,"1","1"] (some [.str o,.str a,.str a,.int (1),.int (1)]):=by walk_at "li"
  exact dh L1 (by decide) (nh _ (by decide +kernel)) λhw x H=>gU L1 hw O.wd A.wd A.wd (.inr ⟨by rw[O.fW,A.fW];rfl,.inr ⟨rfl,gn po qo,.inl rfl⟩⟩)
 refine fY ?_ ?_
 .have L1:aZ (Str.join IS.bl ("lay"::[o,a,l,"0","1"])) "lay" [o,a,l,"0","1"] (some [.str o,.str a,.str l,.int (0),.int (1)]):=by walk_at "li"
  exact dh L1 (by decide) (nh _ (by decide +kernel)) λhw x H=>gU L1 hw O.wd A.wd L.wd (.inr ⟨by rw[O.fW,A.fW,L.fW];rfl,.inr ⟨rfl,gn po qo,.inr (.inl (by decide))⟩⟩)
 refine fY ?_ ?_
 .have L1:aZ (Str.join IS.bl ("lay"::[o,a,b,"1","-"++m])) "lay" [o,a,b,"1","-"++m] (some [.str o,.str a,.str b,.int (1),.int (-(k:Int))]):=by walk_at "li"
  exact dh L1 (by decide) (nh _ (by decide +kernel)) λhw x H=>gU L1 hw O.wd A.wd B.wd (.inr ⟨by rw[O.fW,A.fW,B.fW];rfl,.inr ⟨rfl,gn po qo,.inr (.inr (by omega))⟩⟩)
 refine fY ?_ ?_
 .have L1:aZ (Str.join IS.bl ("lay"::[o,l,n,"-"++m,"1"])) "lay" [o,l,n,"-"++m,"1"] (some [.str o,.str l,.str n,.int (-(k:Int)),.int (1)]):=by walk_at "li"
  exact dh L1 (by decide) (nh _ (by decide +kernel)) λhw x H=>gU L1 hw O.wd L.wd N.wd (.inr ⟨by rw[O.fW,L.fW,N.fW];rfl,.inr ⟨rfl,gn po qo,.inr (.inl (by omega))⟩⟩)
 refine fY ?_ ?_
 .have L1:aZ (Str.join IS.bl ("shut"::[n])) "shut" [n] (some [.str n]):=by walk_at "li"
  exact dh L1 (by decide) (nh _ (by decide +kernel)) λhw x H=>Bw L1 hw N.wd (o7 pn qn)
 refine fY ?_ ?_
 .have L1:aZ (Str.join IS.bl ("shut"::[a])) "shut" [a] (some [.str a]):=by walk_at "li"
  exact dh L1 (by decide) (nh _ (by decide +kernel)) λhw x H=>Bw L1 hw A.wd (o7 (Ne.symm ap) (Ne.symm aq))
 refine fY ?_ ?_
 .have L1:aZ (Str.join IS.bl ("widen"::[n,"0"])) "widen" [n,"0"] (some [.str n,.int (0)]):=by walk_at "li"
  exact dh L1 (by decide) (nh _ (by decide +kernel)) λhw x H=>sZ L1 hw N.wd Vh (.inl ⟨rfl,o7 pn qn⟩)
 refine fY ?_ ?_
 .have L1:aZ (Str.join IS.bl ("narrow"::["P","1"])) "narrow" ["P","1"] (some [.str "P",.int (1)]):=by walk_at "li"
  exact dh L1 (by decide) (nh _ (by decide +kernel)) λhw x H=>jV L1 hw wP aht (.inl ⟨rfl,o7 (P.not hP) (Q.not hP)⟩)
 refine fY ?_ ?_
 .have L1:aZ (Str.join IS.bl ("widen"::[p,"0"])) "widen" [p,"0"] (some [.str p,.int (0)]):=by walk_at "li"
  exact dh L1 (by decide) (nh _ (by decide +kernel)) λhw x H=>sZ L1 hw P.wd Vh (.inr ⟨rfl,by decide,_,v7⟩)
 refine fY ?_ ?_
 .have L1:aZ (Str.join IS.bl ("widen"::[q,"-"++m])) "widen" [q,"-"++m] (some [.str q,.int (-(k:Int))]):=by walk_at "li"
  exact dh L1 (by decide) (nh _ (by decide +kernel)) λhw x H=>sZ L1 hw Q.wd M.Vb (.inr ⟨rfl,by omega,_,Xh pq⟩)
 refine fY ?_ ?_
 .have L1:aZ (Str.join IS.bl ("narrow"::[p,v])) "narrow" [p,v] (some [.str p,.int ((w:Int))]):=by walk_at "li"
  exact dh L1 (by decide) (nh _ (by decide +kernel)) λhw x H=>jV L1 hw P.wd V.few (.inr ⟨rfl,_,v7,.inr (by show(w:Int) - w<1;omega)⟩)
 refine fY ?_ ?_
 .have L1:aZ (Str.join IS.bl ("narrow"::[p,"0"])) "narrow" [p,"0"] (some [.str p,.int (0)]):=by walk_at "li"
  exact dh L1 (by decide) (nh _ (by decide +kernel)) λhw x H=>jV L1 hw P.wd Vh (.inr ⟨rfl,_,v7,.inl (by decide)⟩)
 refine fY ?_ ?_
 .have L1:aZ (Str.join IS.bl ("narrow"::[p,"-1"])) "narrow" [p,"-1"] (some [.str p,.int (-1)]):=by walk_at "li"
  exact dh L1 (by decide) (nh _ (by decide +kernel)) λhw x H=>jV L1 hw P.wd ahu (.inr ⟨rfl,_,v7,.inl (by decide)⟩)
 refine fY ?_ ?_
 .have L1:aZ (Str.join IS.bl ("narrow"::[p,v1])) "narrow" [p,v1] (some [.str p,.int (((w+1:Nat):Int))]):=by walk_at "li"
  exact dh L1 (by decide) (nh _ (by decide +kernel)) λhw x H=>jV L1 hw P.wd V1.few (.inr ⟨rfl,_,v7,.inr (by show(w:Int) - ((w+1:Nat):Int)<1;omega)⟩)
 refine fY ?_ ?_
 .have L1:aZ (Str.join IS.bl ("worth"::[n,m])) "worth" [n,m] (some [.str n,.int ((k:Int))]):=by walk_at "li"
  exact dh L1 (by decide) (nh _ (by decide +kernel)) λhw x H=>yV L1 hw N.wd (o7 pn qn)
 refine fY ?_ ?_
 .have L1:aZ (Str.join IS.bl ("worth"::[b,"0"])) "worth" [b,"0"] (some [.str b,.int (0)]):=by walk_at "li"
  exact dh L1 (by decide) (nh _ (by decide +kernel)) λhw x H=>yV L1 hw B.wd (o7 (Ne.symm bp) (Ne.symm bq))
 exact λ_ h=>absurd h (by simp)
end
end bF
namespace bF
open PyProof.Rows L2 VM
theorem pick {α:Type}(D:α->PyData){xs:List α}(hx:0<xs.length)(z:Int):∃y,y∈xs/\oO (.list (xs.map D)) (.int (z % (xs.length:Int)))=some (D y):=by
 have h:=jD z (b:=(xs.length:Int)) (by omega);obtain⟨j,hj⟩:=eq_ofNat_of_zero_le h.1;have hl:j<xs.length:=by omega
 refine⟨xs[j],List.getElem_mem hl,?_⟩;rw[hj];exact abt D (List.getElem?_eq_getElem hl)
theorem ac0 (c:Int){a b p q n o l:Str}{w:Nat}(la:a.length<=12)(lb:b.length<=12)(lp:p.length<=12)(lq:q.length<=12)(ln:n.length<=12)(lo:o.length<=12)(ll:l.length<=12)(hw:w<=40):
  ∃kk m,Num m kk/\∃t k ws,jf [.int c,.list (([a,b,p,q,n,o,l]:List Str).map .str),.int (w:Int)]=some (t,pairD (k,ws))/\((k=6/\(ws∈mj a p m\/ws∈j9 p m))\/(k,ws)∈kY a b p q n o l m (toString (w:Int)) (toString ((w+1:Nat):Int))):=by
 have hz:=QL c;have h4:=jD (cG c 0/4) (b:=40) (by decide);have hy:=jD (cG c 0) (b:=4) (by decide);obtain⟨kk,hk⟩:=eq_ofNat_of_zero_le (show 0<=1+cG c 0/4 % 40 by omega);have M:Num (toString (kk:Int)) kk:=⟨by omega,by omega,rfl⟩;have lm:=str2 kk (by omega);have sk:=Gj (m:=kk) (by omega);refine⟨kk,toString (kk:Int),M,?_⟩;generalize (toString (kk:Int):Str)=m at M lm sk ⊢;unfold jf wK;generalize hnm:([a,b,p,q,n,o,l]:List Str).map PyData.str=nmD;walk_at "e0";rw[Lx (by decide) (by decide)];walk_at "e0";rw[qL (by decide) (by decide)];walk_at "e0";rw[iu (by decide)];walk_at "e0";rw[hk,sk];walk_at "e0";rw[iu (by decide)];walk_at "e0";rw[qL (by decide) (by decide)];walk_at "e0";by_cases h2:cG c 0 % 4<2
 .simp only[h2,decide_true];walk_at "e0";have i0:cR nmD 0=some (.str a):=by rw[<-hnm];simp only[map_cons,nJ]
  have i2:cR nmD 2=some (.str p):=by rw[<-hnm];simp only[map_cons,sH]
  rw[i0];walk_at "e0";rw[i2];walk_at "e0";rw[QX la lp lm];walk_at "e0";rw[i2];walk_at "e0";rw[LQ lp lm];walk_at "e0";have hc:cG c 0 % 4=0\/cG c 0 % 4=1:=by omega
  obtain⟨ls,hne,hix,hin⟩:∃ls:List (List Str),0<ls.length/\cR [PyData.list ((mj a p m).map j4),PyData.list ((j9 p m).map j4)] (cG c 0 % 4)=some (.list (ls.map j4))/\∀ws∈ls,ws∈mj a p m\/ws∈j9 p m:=by
   rcases hc with e|e<;>rw[e]
   .exact⟨mj a p m,Nat.zero_lt_succ _,nJ _ _,λws h=>.inl h⟩
   .exact⟨j9 p m,Nat.zero_lt_succ _,sG _ _ _,λws h=>.inr h⟩
  rw[hix];walk_at "e0";rw[length_map,iu (by omega)];walk_at "e0";obtain⟨ws,hws,e⟩:=pick j4 hne (cG c 0/160);have e:cR (ls.map j4) (cG c 0/160 % (ls.length:Int))=some (j4 ws):=e;rw[e];walk_at "e0";exact⟨_,6,ws,rfl,.inl ⟨rfl,hin ws hws⟩⟩
 .simp only[h2,decide_false];walk_at "e0";rw[<-hnm,QZ la lb lp lq ln lo ll lm (by omega) (by omega)];walk_at "e0";rw[length_map,iu (show(0:Int)<((kY a b p q n o l m (toString (w:Int)) (toString ((w+1:Nat):Int))).length:Int) from Int.ofNat_lt.mpr (Nat.zero_lt_succ _))];walk_at "e0";obtain⟨⟨k,ws⟩,hws,e⟩:=pick pairD (xs:=kY a b p q n o l m (toString (w:Int)) (toString ((w+1:Nat):Int))) (Nat.zero_lt_succ _) (cG c 0/160);have e:cR ((kY a b p q n o l m (toString (w:Int)) (toString ((w+1:Nat):Int))).map pairD) (cG c 0/160 % ((kY a b p q n o l m (toString (w:Int)) (toString ((w+1:Nat):Int))).length:Int))=some (pairD (k,ws)):=e;rw[e];walk_at "e0";exact⟨_,k,ws,rfl,.inr hws⟩
open EX
theorem Vi (x:Str):fX (x++" ") none (some (-1))=x:=by apply mq;unfold fX lX;rw[iw,show(" ":Str).cps.toList=[32] by decide +kernel];simp only[HT.bQ,length_append,List.length_singleton,drop_zero,Nat.sub_zero];rw[if_pos (by decide),show(-1+((x.cps.toList.length+1:Nat):Int)).toNat=x.cps.toList.length by omega,List.take_left]
theorem aeY (s x y:Str):Txt.join s [x,y]=x++s++y:=rfl
theorem ac1 (a b:Str):hallL a b=Str.join IS.bl ["hall",a,b]:=by unfold hallL fG;rw[Vi];apply mq;rw[pU];simp only[jd,iw,append_assoc];kernel_rfl
theorem Xi (a b p x y z:Str)(h:y.cps.toList=32::z.cps.toList):iV a b p x y=Str.join IS.bl ["lay",p,a,b,x,z]:=by unfold iV fG;apply mq;rw[pU];simp only[jd,iw,append_assoc,h];kernel_rfl
theorem aeZ (a b p q:Str)(W:Int):Txt.join "; " ([(p,a,b,W,3),(q,a,b,10^60 - 1,9)].map jC)=pQ a b p q W:=by rw[map_cons,map_cons,map_nil,aeY];unfold pQ z6 fG jC;rw[show(toString (3:Int):Str)="3" by decide +kernel,show(toString (9:Int):Str)="9" by decide +kernel,show(toString (10^60 - 1:Int):Str)=Txt.mul "9" 60 by decide +kernel];apply mq;simp only[iw,append_assoc];kernel_rfl
section
variable {C CD:Addr}{R:Nat->Addr}{a b p q:Str}{W:Int}{x:Addr}{H:Hp}
theorem Gp:Wd (Txt.mul "9" 60):=by have:=Xe;simp only[and_eq_true] at this;exact dD this.1.1
theorem Q6:1<=(Txt.mul "9" 60).length:=by decide +kernel
theorem Q7:dJ "number" (Txt.mul "9" 60) (some (.int (10^60 - 1))):=by have:=Xe;simp only[and_eq_true,decide_eq_true_eq] at this;exact rJ (by decide) Gp this.1.2 this.2 Bx (vZ _)
seal PySem.Str.ofString gF dJ vm cY
local macro_rules | `(tactic| walk_at "li")=>`(tactic| (repeat' (first
 |refine vY ?_ ?_ ?_ ?_
 |exact yZ
 |refine rH ?_ ?_
 |(show Wd _;first|exact d7.wd (by assumption)|exact Num.wd (by assumption)|exact Num.Q0 (by assumption)|exact lG.wd (by assumption)|exact Gp|exact dD (by decide +kernel))
 |(show gF _ _;first
  |refine cj ?_ Gn ?_|refine cj ?_ xH ?_|refine cj ?_ vh ?_|refine cj ?_ xJ ?_|refine cj ?_ Ju ?_|refine cj ?_ Jv ?_)
 |exact nQ
 |refine kh ?_ ?_
 |(show 1<=_;first|exact d7.pos (by assumption)|exact Num.pos (by assumption)|exact Num.posN (by assumption)|exact(lG.all (by assumption)).2.2.2|exact Q6|decide +kernel)
 |exact dz.nil
 |(show dz _ _ _;first
  |refine gW (xG _) ?_
  |refine gW (iD 0 (by decide +kernel)) ?_
  |refine gW (iD 1 (by decide +kernel)) ?_
  |refine gW (iD 3 (by decide +kernel)) ?_
  |refine gW (iD 9 (by decide +kernel)) ?_
  |refine gW Q7 ?_
  |refine gW (iD (-1) (by decide +kernel)) ?_
  |refine gW (Num.val (by assumption)) ?_
  |refine gW (Num.turns (by assumption)) ?_
  |refine gW (Num.neg (by assumption)) ?_
  |refine gW (lG.val (by assumption)) ?_)
 |exact .inl (cons_ne_nil _ _)
 |exact Nat.le_of_ble_eq_true rfl)))
theorem zc:aZ "rooms" "rooms" [] (some []):=⟨by decide +kernel,by decide +kernel,λw hw=>by rw[mem_singleton.mp hw];exact(dD (by decide +kernel)).word,cj (kh (by decide +kernel) nQ) (ks:=[]) (by decide +kernel) .nil⟩
theorem Q8:aZ "passages" "passages" [] (some []):=⟨by decide +kernel,by decide +kernel,λw hw=>by rw[mem_singleton.mp hw];exact(dD (by decide +kernel)).word,cj (kh (by decide +kernel) nQ) (ks:=[]) (by decide +kernel) .nil⟩
theorem Q9:aZ "out 3" "out" ["3"] (some [.int 3]):=by have L:aZ (Str.join IS.bl ["out","3"]) "out" ["3"] (some [.int 3]):=vY (rH (dD (by decide +kernel)) (rH (dD (by decide +kernel)) yZ)) (by decide) (.inl (cons_ne_nil _ _)) (cj (kh (by decide +kernel) (kh (by decide +kernel) nQ)) Q5 (gW (iD 3 (by decide +kernel)) .nil));rwa [show Str.join IS.bl ["out","3"]="out 3" by decide +kernel] at L
theorem answers (hw:W≠0){line w0 z:Str}{r:List Str}(l:aZ line w0 r (some []))(h0:w0≠"hall")(d:cW CD C x a b p q W H)
  (h:∀H1 p0,(∃dx nn ll,cF H1 C p0 dx nn ll (pR a b) (jt p q W))->(w0="rooms"/\Qu H1 C p0 z)\/(w0="passages"/\W7 H1 C p0 z)):Answers CD C R x line z H:=by
 obtain⟨dx,d⟩:=d;rw[if_neg hw] at d;obtain⟨p0,bJ,nn,ll,hd,hh⟩:=d;refine⟨⟨dx,_,hd⟩,λQ hq=>⟨x,dx,_,line,w0,r,_,rfl,hd,l.ok,l.sp,l.wd,l.li,?_⟩⟩;show gH _ _ _ _ _ _ _ _ _ _ _;unfold gH;rw[if_neg h0];refine .inr ⟨p0,rfl,λH1 v s1 hv0 hv1=>?_⟩;have hh1:=hh.grow s1;refine⟨p0,v,[],w0,rfl,⟨bJ,nn,ll,hh1.ins⟩,hv1,?_⟩;rcases h H1 p0 ⟨bJ,nn,ll,hh1⟩ with⟨e,hT⟩|⟨e,hT⟩
 .exact .inr (.inl ⟨e,z,hT,λH' s=>hq H' (s1.trans s)⟩)
 .exact .inr (.inr (.inl ⟨e,z,hT,λH' s=>hq H' (s1.trans s)⟩))
theorem Vj (A:d7 a)(B:d7 b)(P:d7 p)(Q:d7 q)(w0:0<=W)(Br:W<=40)(d:cW CD C x a b p q W H):Tells CD C R x a b p q W H:=by
 unfold Tells;have la:=A.len;have lb:=B.len;have lp:=P.len;have lq:=Q.len;by_cases hw:W=0
 .rw[if_pos hw];exact λH' s=>⟨qp zc (nh _ (by decide +kernel)) hw (d.grow s),qp Q9 (nh _ (by decide +kernel)) hw (d.grow s)⟩
 .rw[if_neg hw];have lW:(toString W:Str).length<=2:=by obtain⟨n,rfl⟩:=eq_ofNat_of_zero_le w0;exact Lw n (by omega)
  have l9:(toString (10^60 - 1:Int):Str).length=60:=by decide +kernel
  have s1l:(" ":Str).length=1:=by decide +kernel
  have sel:Str.empty.length=0:=by decide +kernel
  have s3l:(toString (3:Int):Str).length=1:=by decide +kernel
  have s9l:(toString (9:Int):Str).length=1:=by decide +kernel
  have ln9:(Txt.mul "9" 60).length=60:=by decide +kernel
  refine λH' s=>⟨answers hw zc (nh _ (by decide +kernel)) (d.grow s) λH1 p0 ⟨dx,nn,ll,hh⟩=>.inl ⟨rfl,dx,nn,ll,_,_,hh,joinOk_of ?_,rfl⟩,answers hw Q8 (nh _ (by decide +kernel)) (d.grow s) λH1 p0 ⟨dx,nn,ll,hh⟩=>.inr ⟨rfl,dx,nn,ll,_,_,[(p,a,b,W,3),(q,a,b,10^60 - 1,9)],hh,by show 2<100;decide,?_,?_,joinOk_of ?_,(aeZ a b p q W).symm,?_,?_⟩⟩
  .show(a.length+(b.length+0))+2*(" ":Str).length<=16777216;rw[show(" ":Str).length=1 by decide +kernel];omega
  .exact .cons ⟨rfl,rfl,rfl,rfl,rfl⟩ (.cons ⟨rfl,rfl,rfl,rfl,rfl⟩ .nil)
  .intro r hr;simp only[mem_cons,not_mem_nil,or_false] at hr;rcases hr with rfl|rfl
   .exact⟨by show p.length<=100;omega,by show a.length<=100;omega,by show b.length<=100;omega,fB (by show -100<=W;omega) (by show W<=100;omega),fB (by show(-100:Int)<=3;decide) (by show(3:Int)<=100;decide)⟩
   .exact⟨by show q.length<=100;omega,by show a.length<=100;omega,by show b.length<=100;omega,Bx,fB (by show(-100:Int)<=9;decide) (by show(9:Int)<=100;decide)⟩
  .have r1:(jC (p,a,b,W,3)).length<=100:=by unfold jC;simp only[strLen_append,s1l,s3l,sel];omega
   have r2:(jC (q,a,b,10^60 - 1,9)).length<=200:=by unfold jC;simp only[strLen_append,s1l,s9l,sel,l9];omega
   show(jC (p,a,b,W,3)).length+((jC (q,a,b,10^60 - 1,9)).length+0)+2*("; ":Str).length<=16777216;rw[show("; ":Str).length=2 by decide +kernel];omega
  .unfold pQ;simp only[strLen_append,ln9];omega
  .have:(pQ a b p q W).length<=1000:=by unfold pQ z6 fG;simp only[strLen_append,ln9,s1l,show(" 3; ":Str).length=4 by decide +kernel,show(" 9":Str).length=2 by decide +kernel];omega
   exact le_trans this (by decide)
theorem Zv (ns:List Int):∃a b p q r num W,Qx CD C R ns a b p q r num W:=by
 obtain⟨a,b,p,q,n,o,l,en,hn,nd⟩:=QK (iW ns 0);have A:d7 a:=hn a (by simp);have B:d7 b:=hn b (by simp);have P:d7 p:=hn p (by simp);have Q:d7 q:=hn q (by simp);have N:d7 n:=hn n (by simp);have O:d7 o:=hn o (by simp);have L:d7 l:=hn l (by simp);have hW:=Va (iW ns 1);have nd':=nd;simp only[nodup_cons,mem_cons,not_mem_nil,or_false,not_or,List.nodup_nil,not_false_eq_true,and_true] at nd';obtain⟨⟨ab,ap,aq,an,ao,al⟩,⟨bp,bq,bn,bo,bl⟩,⟨pq,pn,po,pl⟩,⟨qn,qo,ql⟩,⟨no,nl⟩,ol⟩:=nd';refine⟨a,b,p,q,[n,o,l],cG (iW ns 1) 0,rG (iW ns 1),?_⟩;have e3:=λx0 x1 S=>Zn (QL (iW ns 1)) x0 x1 S;have e3:∀x0 x1 S,yQ (x0::x1::some (.fr,.int (cG (iW ns 1) 0))::S)=some (.int (rG (iW ns 1))):=e3;generalize rG (iW ns 1)=W at hW e3 ⊢;obtain⟨w,rfl⟩:=eq_ofNat_of_zero_le hW.1;have V:lG (toString (w:Int)) w:=⟨by omega,rfl⟩;refine {e1:=λS=>by rw[ahm,en],e2:=ahn ns,e3:=e3,w0:=hW.1,Br:=hW.2,len:=⟨A.len,B.len,P.len,Q.len⟩,lay:=λx hx=>(hn x hx).wd.can,line:=λc=>?_,tells:=λx H d=>Vj A B P Q hW.1 hW.2 d,acD:=λx H d=>?_,fin2:=λx H d=>?_,acE:=λhw x dx H Q' hd h=>?_,acF:=λhw x dx h bJ nn ll H Q' hd hh k=>?_,acG:=λhw x dx h bJ nn ll H Q' hd hh k=>?_}
 .obtain⟨kk,m,M,t,k,ws,e,h⟩:=ac0 c A.len B.len P.len Q.len N.len O.len L.len (w:=w) (by omega);refine⟨t,k,Str.join IS.bl ws,e,?_⟩;rcases h with⟨rfl,h⟩|h
  .have hN:vm ws:=h.elim (Zt A P M ws) (Vg P M ws);unfold vm at hN;obtain⟨w0,r,li⟩:=hN;refine⟨le_refl _,λx H d=>?_⟩;rw[if_neg (by simp)];exact QJ li d
  .obtain⟨hk,w0,r,vl,li,h0,hs⟩:=Zu (CD:=CD) (C:=C) (R:=R) A B P Q N O L M V (V1:=(⟨by omega,rfl⟩:lG (toString ((w+1:Nat):Int)) (w+1))) nd (k,ws) h;have hk:k<=5:=hk;refine⟨by omega,λx H d=>?_⟩;by_cases hw:(w:Int)=0
   .rw[if_pos ⟨hw,by omega⟩];exact qp li h0 hw d
   .rw[if_neg (λz=>hw z.1)];exact hs hw x H d
 .have L1:aZ (Str.join IS.bl ["hall",a,a]) "hall" [a,a] (some [.str a,.str a]):=by walk_at "li"
  rw[show("hall "++a++" "++a:Str)=Str.join IS.bl ["hall",a,a] from mq (by rw[pU];simp only[jd,iw,append_assoc];kernel_rfl)];exact Bv L1 A.wd A.wd (.inr ⟨rfl,by rw[A.fW];rfl,rfl⟩) d
 .have L1:aZ (Str.join IS.bl ["hall","Ann",a]) "hall" ["Ann",a] (some [.str "Ann",.str a]):=by walk_at "li"
  rw[show("hall Ann "++a:Str)=Str.join IS.bl ["hall","Ann",a] from mq (by rw[pU];simp only[jd,iw,append_assoc];kernel_rfl)];exact Bv L1 (dD (by decide +kernel)) A.wd (.inl ⟨rfl,by rw[show cB ("Ann":Str).cps.toList=false by decide +kernel];rfl⟩) d
 .have L1:aZ (Str.join IS.bl ["hall",a,b]) "hall" [a,b] (some [.str a,.str b]):=by walk_at "li"
  rw[ac1];exact U9 L1 A.wd B.wd A.fW B.fW ab hd h
 .have L1:aZ (Str.join IS.bl ["lay",p,a,b,toString (w:Int),"3"]) "lay" [p,a,b,toString (w:Int),"3"] (some [.str p,.str a,.str b,.int (w:Int),.int 3]):=by walk_at "li"
  rw[Xi a b p _ _ "3" (by decide +kernel)];exact Jp L1 P.wd A.wd B.wd P.fW A.fW B.fW ab (by omega) (by decide) (zero_le _) rfl hd hh λH1 H' s hH st=>k H1 H' s hH st
 .have L1:aZ (Str.join IS.bl ["lay",q,a,b,Txt.mul "9" 60,"9"]) "lay" [q,a,b,Txt.mul "9" 60,"9"] (some [.str q,.str a,.str b,.int (10^60 - 1),.int 9]):=by walk_at "li"
  rw[Xi a b q _ _ "9" (by decide +kernel)];refine Jp L1 Q.wd A.wd B.wd Q.fW A.fW B.fW ab (by decide) (by decide) (le_refl _) (by simp[bB,pq]) hd hh λH1 H' s hH st=>k H1 H' s ?_ st;rw[show jz q ((0:Int),(1:Int),(10^60 - 1:Int),(9:Int)) [(p,(0,1,(w:Int),3))]=[(p,(0,1,(w:Int),3)),(q,(0,1,10^60 - 1,9))] by simp[jz,pq]] at hH;exact hH
end
end bF
namespace bF
open L2 VM EX
noncomputable def ac3 (w:World)(x:Str×Tok×Value):DictEntry:=⟨keyHash w.params x.1,.str x.1 x.2.1,x.2.2⟩
theorem BJ {P:Program}{w:World}:∀l:List (Str×Tok×Value),Pairs (cA P w) (l.map (ac3 w)) (l.map λx=>((Sum.inr x.1:Key),x.2.2))
 |[]=>.nil
 |x::r=>.cons (by show(x.1==x.1)=true;simp) rfl (BJ r)
theorem Gq {P:Program}{w:World}{K:Frag}{a:Addr}{l:List (Str×Tok×Value)}{ep:Nat}{kvs:List (Key×V)}(h:K.lookup a=some ⟨.type "dict",none,.dict (l.map (ac3 w)).toArray ep,#[]⟩)(hn:(l.map (·.1)).Nodup)(hk:KV kvs (l.map λx=>((Sum.inr x.1:Key),x.2.2)))(ha:(a==sysModules)=false):KDict P w K a kvs:=by
 refine⟨_,_,h,hk,⟨_,ep,⟨rfl,rfl,rfl⟩,rfl,λe he=>?_,by rw[List.toList_toArray];exact BJ l,?_⟩,ha⟩
 .obtain⟨x,_,rfl⟩:=mem_map.mp (List.mem_toArray.mp he);exact⟨.inr x.1,by show(x.1==x.1)=true;simp,rfl⟩
 .rw[map_map];unfold List.Nodup at hn ⊢;rw[List.pairwise_map] at hn ⊢;exact hn.imp λh z=>h (Sum.inr.inj z)
theorem Vk {P:Program}{w:World}{K:Frag}{a:Addr}{t0 t1 i0 i1:Tok}{ep:Nat}(h:K.lookup a=some ⟨.type "dict",none,.dict #[⟨keyHash w.params "turns",.str "turns" t0,.int 0 i0⟩,⟨keyHash w.params "people",.str "people" t1,.int 1 i1⟩] ep,#[]⟩)(ha:(a==sysModules)=false):KDict P w K a oY:=
 Gq (l:=[("turns",t0,.int 0 i0),("people",t1,.int 1 i1)]) h (show(["turns","people"]:List Str).Nodup by decide +kernel) (.cons ⟨rfl,i0,rfl⟩ (.cons ⟨rfl,i1,rfl⟩ .nil)) ha
section
variable {K:Frag}{t:Addr}{od:Option Addr}{sl:Array (Option Value)}{n:Nat}{a b c d e:Str}{ta tb tc td te:Tok}
theorem ac4 (h:K.lookup t=some ⟨.type "tuple",od,.seq #[] n,sl⟩):iU K t (([]:List Str).map .str):=⟨_,_,_,h,rfl,rfl,by decide,.nil⟩
theorem Gs (h:K.lookup t=some ⟨.type "tuple",od,.seq #[.str a ta] n,sl⟩):iU K t ([a].map .str):=⟨_,_,_,h,rfl,rfl,by show 1<=sizeLine;decide,.cons ⟨_,rfl⟩ .nil⟩
theorem Mf (h:K.lookup t=some ⟨.type "tuple",od,.seq #[.str a ta,.str b tb] n,sl⟩):iU K t ([a,b].map .str):=⟨_,_,_,h,rfl,rfl,by show 2<=sizeLine;decide,.cons ⟨_,rfl⟩ (.cons ⟨_,rfl⟩ .nil)⟩
theorem ahv (h:K.lookup t=some ⟨.type "tuple",od,.seq #[.str a ta,.str b tb,.str c tc,.str d td,.str e te] n,sl⟩):iU K t ([a,b,c,d,e].map .str):=⟨_,_,_,h,rfl,rfl,by show 5<=sizeLine;decide,.cons ⟨_,rfl⟩ (.cons ⟨_,rfl⟩ (.cons ⟨_,rfl⟩ (.cons ⟨_,rfl⟩ (.cons ⟨_,rfl⟩ .nil))))⟩
end
theorem Vl {P:Program}{w:World}{K:Frag}{a:Addr}{t0 t1 t2 t3 t4 t5 t6 t7 t8 t9 t10 t11:Tok}{a0 a1 a2 a3 a4 a5 a6 a7 a8 a9 a10 a11:Addr}{ep:Nat}(h:K.lookup a=some ⟨.type "dict",none,.dict #[⟨keyHash w.params "hall",.str "hall" t0,.ref a0⟩,⟨keyHash w.params "lay",.str "lay" t1,.ref a1⟩,⟨keyHash w.params "shut",.str "shut" t2,.ref a2⟩,⟨keyHash w.params "widen",.str "widen" t3,.ref a3⟩,⟨keyHash w.params "narrow",.str "narrow" t4,.ref a4⟩,⟨keyHash w.params "out",.str "out" t5,.ref a5⟩,⟨keyHash w.params "walks",.str "walks" t6,.ref a6⟩,⟨keyHash w.params "moments",.str "moments" t7,.ref a7⟩,⟨keyHash w.params "turns",.str "turns" t8,.ref a8⟩,⟨keyHash w.params "worth",.str "worth" t9,.ref a9⟩,⟨keyHash w.params "rooms",.str "rooms" t10,.ref a10⟩,⟨keyHash w.params "passages",.str "passages" t11,.ref a11⟩] ep,#[]⟩)(q0:iU K a0 ((["name","name"]:List Str).map .str))(q1:iU K a1 ((["name","name","name","number","number"]:List Str).map .str))(q2:iU K a2 ((["name"]:List Str).map .str))(q3:iU K a3 ((["name","number"]:List Str).map .str))(q4:iU K a4 ((["name","number"]:List Str).map .str))(q5:iU K a5 ((["turns"]:List Str).map .str))(q6:iU K a6 ((["turns"]:List Str).map .str))(q7:iU K a7 ((["turns"]:List Str).map .str))(q8:iU K a8 ((["people"]:List Str).map .str))(q9:iU K a9 ((["name","turns"]:List Str).map .str))(q10:iU K a10 (([]:List Str).map .str))(q11:iU K a11 (([]:List Str).map .str))(ha:(a==sysModules)=false):Forms P w K a:=
 ⟨[(.inr "hall",.ref a0),(.inr "lay",.ref a1),(.inr "shut",.ref a2),(.inr "widen",.ref a3),(.inr "narrow",.ref a4),(.inr "out",.ref a5),(.inr "walks",.ref a6),(.inr "moments",.ref a7),(.inr "turns",.ref a8),(.inr "worth",.ref a9),(.inr "rooms",.ref a10),(.inr "passages",.ref a11)],Gq (l:=[("hall",t0,.ref a0),("lay",t1,.ref a1),("shut",t2,.ref a2),("widen",t3,.ref a3),("narrow",t4,.ref a4),("out",t5,.ref a5),("walks",t6,.ref a6),("moments",t7,.ref a7),("turns",t8,.ref a8),("worth",t9,.ref a9),("rooms",t10,.ref a10),("passages",t11,.ref a11)]) h (show(["hall","lay","shut","widen","narrow","out","walks","moments","turns","worth","rooms","passages"]:List Str).Nodup by decide +kernel) (.cons ⟨rfl,rfl⟩ (.cons ⟨rfl,rfl⟩ (.cons ⟨rfl,rfl⟩ (.cons ⟨rfl,rfl⟩ (.cons ⟨rfl,rfl⟩ (.cons ⟨rfl,rfl⟩ (.cons ⟨rfl,rfl⟩ (.cons ⟨rfl,rfl⟩ (.cons ⟨rfl,rfl⟩ (.cons ⟨rfl,rfl⟩ (.cons ⟨rfl,rfl⟩ (.cons ⟨rfl,rfl⟩ .nil)))))))))))) ha,(.cons ⟨rfl,a0,rfl,q0⟩ (.cons ⟨rfl,a1,rfl,q1⟩ (.cons ⟨rfl,a2,rfl,q2⟩ (.cons ⟨rfl,a3,rfl,q3⟩ (.cons ⟨rfl,a4,rfl,q4⟩ (.cons ⟨rfl,a5,rfl,q5⟩ (.cons ⟨rfl,a6,rfl,q6⟩ (.cons ⟨rfl,a7,rfl,q7⟩ (.cons ⟨rfl,a8,rfl,q8⟩ (.cons ⟨rfl,a9,rfl,q9⟩ (.cons ⟨rfl,a10,rfl,q10⟩ (.cons ⟨rfl,a11,rfl,q11⟩ .nil))))))))))))⟩
structure FH (K:Frag)(x q:Str)(st:Stmt)(f:Addr):Prop where
 ex:∃oc od kV dc pm an cd ct sl,K.lookup f=some ⟨oc,od,.func (fnOf x q (eU st) (cH st) (aj st) .none kV dc pm an cd ct),sl⟩/\codeIn K cd q=true/\keepIn K (.ref f)=true
noncomputable abbrev GH (K:Frag)(x:Str)(st:Stmt):Prop:=∃f,PySem.W.nsIn K mainGlobals x=some (some (.ref f))/\FH K x x st f
noncomputable abbrev MH (K:Frag)(C:Addr)(x q:Str)(st:Stmt):Prop:=∃f,PySem.W.findIn K (.ref C) x=some (some (.ref f))/\PySem.W.isFn K (.ref f)=true/\FH K x q st f
section
variable {P:Program}{w:World}{K:Frag}{h0:Heap}{mg:Str->Option Value}{base:Heap}{C f:Addr}{x q:Str}{st:Stmt}{ps:List Str}{sp:Sp}{lv:Nat}{CX:n6}
theorem FH.fn (h:FH K x q st f):∃fd,cP K x q st f fd:=let⟨_,_,_,_,_,_,_,_,_,l,c,k⟩:=h.ex;⟨_,Nk l c k⟩
theorem GH.ex (h:GH K x st)(X:K.In h0)(G:h0.Ns mainGlobals mg)(o:∀{f fd},cP K x x st f fd->aQ P w K mg base CX lv f fd ps sp)
  (hb:∀(kV doc pm:Value) (an:Option Addr) (cdv ct:Value) (us:List Value),us.length=ps.length->bindArgs (fnOf x x (eU st) (cH st) (aj st) .none kV doc pm an cdv ct) ⟨us,[]⟩=pure (ps.zip us):=by
   intro _ _ _ _ _ _ us hl;first|(obtain⟨_,rfl⟩:=len1 hl;exact rfl)|(obtain⟨_,_,rfl⟩:=len2 hl;exact rfl)|(obtain⟨_,_,_,rfl⟩:=KZ hl;exact rfl)|(obtain⟨_,_,_,_,rfl⟩:=K1 hl;exact rfl)|(obtain⟨_,_,_,_,_,rfl⟩:=K3 hl;exact rfl)|(obtain⟨_,_,_,_,_,_,rfl⟩:=TQ hl;exact rfl)):∃f fd,aQ P w K mg base CX lv f fd ps sp/\mg x=some (.ref f)/\keepIn K (.ref f)=true/\L2.Binds K fd ps []:=
 let⟨_,a,b⟩:=h;let⟨fd,F⟩:=b.fn;⟨_,fd,o F,mg_of X G a,F.kp,F.binds hb⟩
theorem GH.cal (h:GH K x st)(X:K.In h0)(G:h0.Ns mainGlobals mg)(o:∀{f fd},cP K x x st f fd->aQ P w K mg base cV lv f fd ps sp)
  (hb:∀(kV doc pm:Value) (an:Option Addr) (cdv ct:Value) (us:List Value),us.length=ps.length->bindArgs (fnOf x x (eU st) (cH st) (aj st) .none kV doc pm an cdv ct) ⟨us,[]⟩=pure (ps.zip us):=by
   intro _ _ _ _ _ _ us hl;first|(obtain⟨_,rfl⟩:=len1 hl;exact rfl)|(obtain⟨_,_,rfl⟩:=len2 hl;exact rfl)|(obtain⟨_,_,_,rfl⟩:=KZ hl;exact rfl)|(obtain⟨_,_,_,_,rfl⟩:=K1 hl;exact rfl)|(obtain⟨_,_,_,_,_,rfl⟩:=K3 hl;exact rfl)|(obtain⟨_,_,_,_,_,_,rfl⟩:=TQ hl;exact rfl)):lE P w K mg base lv x ps sp:=
 let⟨_,fd,a,b,c,d⟩:=h.ex X G o hb;⟨_,fd,a,b,c,d⟩
theorem MH.ex (h:MH K C x q st)(o:∀{f fd},cP K x q st f fd->aQ P w K mg base CX lv f fd ps sp)
  (hb:∀(kV doc pm:Value) (an:Option Addr) (cdv ct:Value) (us:List Value),us.length=ps.length->bindArgs (fnOf x q (eU st) (cH st) (aj st) .none kV doc pm an cdv ct) ⟨us,[]⟩=pure (ps.zip us):=by
   intro _ _ _ _ _ _ us hl;first|(obtain⟨_,rfl⟩:=len1 hl;exact rfl)|(obtain⟨_,_,rfl⟩:=len2 hl;exact rfl)|(obtain⟨_,_,_,rfl⟩:=KZ hl;exact rfl)|(obtain⟨_,_,_,_,rfl⟩:=K1 hl;exact rfl)|(obtain⟨_,_,_,_,_,rfl⟩:=K3 hl;exact rfl)|(obtain⟨_,_,_,_,_,_,rfl⟩:=TQ hl;exact rfl)):∃f fd,aQ P w K mg base CX lv f fd ps sp/\Meth K C x f/\L2.Binds K fd ps []:=
 let⟨_,a,n,b⟩:=h;let⟨fd,F⟩:=b.fn;⟨_,fd,o F,⟨a,n,F.kp⟩,F.binds hb⟩
theorem GH.mk' {oc:Value}{od an:Option Addr}{sl:Array (Option Value)}{kV dc pm cd ct:Value}(a:PySem.W.nsIn K mainGlobals x=some (some (.ref f)))(l:K.lookup f=some ⟨oc,od,.func (fnOf x x (eU st) (cH st) (aj st) .none kV dc pm an cd ct),sl⟩)(c:codeIn K cd x=true)(k:keepIn K (.ref f)=true):GH K x st:=⟨f,a,oc,od,kV,dc,pm,an,cd,ct,sl,l,c,k⟩
theorem MH.mk' {oc:Value}{od an:Option Addr}{sl:Array (Option Value)}{kV dc pm cd ct:Value}(a:PySem.W.findIn K (.ref C) x=some (some (.ref f)))(l:K.lookup f=some ⟨oc,od,.func (fnOf x q (eU st) (cH st) (aj st) .none kV dc pm an cd ct),sl⟩)(c:codeIn K cd q=true)(k:keepIn K (.ref f)=true)(n:PySem.W.isFn K (.ref f)=true):MH K C x q st:=⟨f,a,n,oc,od,kV,dc,pm,an,cd,ct,sl,l,c,k⟩
theorem v8 {α:Type}{p:α->Prop}{a:α}(h:p a):∃x,p x:=⟨a,h⟩
end
structure BK (K:Frag)(D e:Addr):Prop where
 x1:PySem.W.findIn K (.ref e) "__getattribute__"=some (some (.builtin "BaseException.__getattribute__"))
 x2:PySem.W.findIn K (.ref e) "__getattr__"=some none
 x3:PySem.W.hasDictIn K e=true
 x4:PySem.W.mroIn K e (.type "BaseException")=some true
 x5:PySem.W.mroIn K e (.type "object")=some true
 x6:PySem.W.findIn K (.ref e) "__class__"=some (some (.builtin "object.__class__"))
 ke:keepIn K (.ref e)=true
 cd:PySem.W.mroIn K e (.ref D)=some true
 pv:kitOne K (.ref e) (.type "ValueError")=some true
structure mW (K:Frag)(D e:Addr):Prop where
 ex:∃nm qn NN bs sn sub ab col dd k0 k1 k2 k3 k5,K.lookup e=some (excClassObj nm qn e NN bs (.ref D::EX.jx) true sn sub ab col dd k0 k1 k2 k3 k5 "ValueError.__new__")
theorem mW.mk' {K:Frag}{D e:Addr}{nm qn NN bs sn sub ab col dd k0 k1 k2 k3 k5}(h:K.lookup e=some (excClassObj nm qn e NN bs (.ref D::EX.jx) true sn sub ab col dd k0 k1 k2 k3 k5 "ValueError.__new__")):mW K D e:=⟨nm,qn,NN,bs,sn,sub,ab,col,dd,k0,k1,k2,k3,k5,h⟩
structure XR (K:Frag)(e:Addr)(l:List Addr)(bs:List Bool):Prop where
 h:l.map (λx=>kitOne K (.ref x) (.ref e))=bs.map some
structure Mg (K:Frag)(fi:Addr):Prop where
 ex:∃Jw odi TT Gu Gv Gw Gx zf Gy Jx Ra Rb nT Rc,K.lookup fi=some ⟨Jw,odi,.func (fnOf "__init__" "NoHall.__init__" (eU j8) (cH j8) (aj j8) (.ref TT) Gu Gv Gw Gx zf Gy),Jx⟩/\K.lookup TT=some ⟨Ra,Rb,.seq #[.none] nT,Rc⟩/\codeIn K zf "NoHall.__init__"=true
theorem Mg.mk' {K:Frag}{fi TT:Addr}{Jw odi Gu Gv Gw Gx zf Gy Jx Ra Rb nT Rc}(a:K.lookup fi=some ⟨Jw,odi,.func (fnOf "__init__" "NoHall.__init__" (eU j8) (cH j8) (aj j8) (.ref TT) Gu Gv Gw Gx zf Gy),Jx⟩)(b:K.lookup TT=some ⟨Ra,Rb,.seq #[.none] nT,Rc⟩)(c:codeIn K zf "NoHall.__init__"=true):Mg K fi:=⟨Jw,odi,TT,Gu,Gv,Gw,Gx,zf,Gy,Jx,Ra,Rb,nT,Rc,a,b,c⟩
noncomputable def Vm (e0 e1 e2 e3 e4 e5 e6:Addr):Nat->Addr
 |0=>e0
 |1=>e1
 |2=>e2
 |3=>e3
 |4=>e4
 |5=>e5
 |_=>e6
theorem all_mk {l:PySem.W.OpenLaw}{w:World}{K:Frag}{h:Heap}{mg:Str->Option Value}{fa C CD D fi aF_ aL_ e0 e1 e2 e3 e4 e5 e6:Addr}(X:K.In h)(G:h.Ns mainGlobals mg)(hfa:mg "law"=some (.ref fa))
  (h0:GH K "look_at_name" (top 38))
  (h1:GH K "values_of" (top 44))
  (h2:GH K "value_of" (top 45))
  (h3:GH K "is_number" (top 46))
  (h4:GH K "answer_to" (top 47))
  (h5:GH K "change" (top 48))
  (h6:GH K "told_passages" (top 50))
  (h7:GH K "_law_cell_at" (top 52))
  (h8:GH K "_law_mixed" (top 53))
  (h9:GH K "_law_is" (top 54))
  (h10:GH K "_law_names" (top 55))
  (h11:GH K "_law_no_line" (top 56))
  (h12:GH K "_law_no_question" (top 57))
  (h13:GH K "_law_by_hall" (top 58))
  (h14:GH K "_law_line" (top 59))
  (h15:GH K "_law_refused" (top 60))
  (h16:GH K "_law_place" (top 61))
  (h17:GH K "_law_told" (top 62))
  (h18:GH K "law" (top 63))
  (aC:PySem.W.nsIn K mainGlobals "NamedHall"=some (some (.ref C)))
  (Xj:Cls K C)
  (Xk:makesIn K C=true/\keepIn K (.ref C)=true)
  (aCD:PySem.W.nsIn K mainGlobals "Desk"=some (some (.ref CD)))
  (vo:Cls K CD)
  (Mh:makesIn K CD=true/\keepIn K (.ref CD)=true)
  (nC:eY K C "numbers"/\eY K C "laid")
  (nD:eY K CD "hall")
  (m0:MH K C "__init__" "NamedHall.__init__" (bV 0))
  (m1:MH K C "lay" "NamedHall.lay" (bV 1))
  (m2:MH K C "shut" "NamedHall.shut" (bV 2))
  (m3:MH K C "widen" "NamedHall.widen" (bV 3))
  (m4:MH K C "narrow" "NamedHall.narrow" (bV 4))
  (m5:MH K C "look_for" "NamedHall.look_for" (bV 5))
  (m6:MH K C "change_width" "NamedHall.change_width" (bV 6))
  (m7:MH K C "rooms" "NamedHall.rooms" (bV 7))
  (m8:MH K C "passages" "NamedHall.passages" (bV 8))
  (m11:MH K C "worth" "NamedHall.worth" (bV 11))
  (d0:MH K CD "__init__" "Desk.__init__" (qY 0))
  (d1:MH K CD "say" "Desk.say" (qY 1))
  (aD:PySem.W.nsIn K mainGlobals "HallError"=some (some (.ref D)))
  (gx0:PySem.W.nsIn K mainGlobals "NoHall"=some (some (.ref e0)))
  (xo0:mW K D e0)
  (Gz:BK K D e0)
  (gx1:PySem.W.nsIn K mainGlobals "NoName"=some (some (.ref e1)))
  (xo1:mW K D e1)
  (Jy:BK K D e1)
  (iI1:PySem.W.findIn K (.ref e1) "__init__"=some (some (.builtin "ValueError.__init__")))
  (gx2:PySem.W.nsIn K mainGlobals "Twice"=some (some (.ref e2)))
  (xo2:mW K D e2)
  (Jz:BK K D e2)
  (iI2:PySem.W.findIn K (.ref e2) "__init__"=some (some (.builtin "ValueError.__init__")))
  (gx3:PySem.W.nsIn K mainGlobals "TooMany"=some (some (.ref e3)))
  (xo3:mW K D e3)
  (JB:BK K D e3)
  (iI3:PySem.W.findIn K (.ref e3) "__init__"=some (some (.builtin "ValueError.__init__")))
  (gx4:PySem.W.nsIn K mainGlobals "NoPassage"=some (some (.ref e4)))
  (xo4:mW K D e4)
  (JC:BK K D e4)
  (iI4:PySem.W.findIn K (.ref e4) "__init__"=some (some (.builtin "ValueError.__init__")))
  (gx5:PySem.W.nsIn K mainGlobals "NoWidth"=some (some (.ref e5)))
  (xo5:mW K D e5)
  (JD:BK K D e5)
  (iI5:PySem.W.findIn K (.ref e5) "__init__"=some (some (.builtin "ValueError.__init__")))
  (gx6:PySem.W.nsIn K mainGlobals "NoLine"=some (some (.ref e6)))
  (xo6:mW K D e6)
  (JF:BK K D e6)
  (iI6:PySem.W.findIn K (.ref e6) "__init__"=some (some (.builtin "ValueError.__init__")))
  (xt:PySem.W.excIn K D [.type "ValueError",.type "Exception",.type "BaseException",.type "object"] "ValueError.__new__"=true)
  (xd:XD K D)
  (x78:PySem.W.specialIn K (.builtin "object.__class__") "__get__"=some (some (.builtin "getset_descriptor.__get__"))/\PySem.W.takesIn K (.builtin "object.__class__")=some true)
  (iI:PySem.W.findIn K (.ref e0) "__init__"=some (some (.ref fi)))
  (iF:PySem.W.isFn K (.ref fi)=true)
  (sp0:PySem.W.findIn K (.ref e0) "__setattr__"=some (some (.builtin "object.__setattr__"))/\PySem.W.findIn K (.ref e0) "place"=some none/\PySem.W.mroIn K e0 (.ref e0)=some true/\PySem.W.mroIn K D (.type "BaseException")=some true/\PySem.W.typeIn K (.ref e0)=some (.type "type")/\PySem.W.typeIn K (.ref D)=some (.type "type"))
  (ii:Mg K fi)
  (p0:kitOne K (.ref e0) (.ref e0)=some true/\kitOne K (.ref e1) (.ref e0)=some false/\kitOne K (.ref e2) (.ref e0)=some false/\kitOne K (.ref e3) (.ref e0)=some false/\kitOne K (.ref e4) (.ref e0)=some false/\kitOne K (.ref e5) (.ref e0)=some false/\kitOne K (.ref e6) (.ref e0)=some false)
  (p1:kitOne K (.ref e0) (.ref e1)=some false/\kitOne K (.ref e1) (.ref e1)=some true/\kitOne K (.ref e2) (.ref e1)=some false/\kitOne K (.ref e3) (.ref e1)=some false/\kitOne K (.ref e4) (.ref e1)=some false/\kitOne K (.ref e5) (.ref e1)=some false/\kitOne K (.ref e6) (.ref e1)=some false)
  (p2:kitOne K (.ref e0) (.ref e2)=some false/\kitOne K (.ref e1) (.ref e2)=some false/\kitOne K (.ref e2) (.ref e2)=some true/\kitOne K (.ref e3) (.ref e2)=some false/\kitOne K (.ref e4) (.ref e2)=some false/\kitOne K (.ref e5) (.ref e2)=some false/\kitOne K (.ref e6) (.ref e2)=some false)
  (p3:kitOne K (.ref e0) (.ref e3)=some false/\kitOne K (.ref e1) (.ref e3)=some false/\kitOne K (.ref e2) (.ref e3)=some false/\kitOne K (.ref e3) (.ref e3)=some true/\kitOne K (.ref e4) (.ref e3)=some false/\kitOne K (.ref e5) (.ref e3)=some false/\kitOne K (.ref e6) (.ref e3)=some false)
  (p4:kitOne K (.ref e0) (.ref e4)=some false/\kitOne K (.ref e1) (.ref e4)=some false/\kitOne K (.ref e2) (.ref e4)=some false/\kitOne K (.ref e3) (.ref e4)=some false/\kitOne K (.ref e4) (.ref e4)=some true/\kitOne K (.ref e5) (.ref e4)=some false/\kitOne K (.ref e6) (.ref e4)=some false)
  (p5:kitOne K (.ref e0) (.ref e5)=some false/\kitOne K (.ref e1) (.ref e5)=some false/\kitOne K (.ref e2) (.ref e5)=some false/\kitOne K (.ref e3) (.ref e5)=some false/\kitOne K (.ref e4) (.ref e5)=some false/\kitOne K (.ref e5) (.ref e5)=some true/\kitOne K (.ref e6) (.ref e5)=some false)
  (p6:kitOne K (.ref e0) (.ref e6)=some false/\kitOne K (.ref e1) (.ref e6)=some false/\kitOne K (.ref e2) (.ref e6)=some false/\kitOne K (.ref e3) (.ref e6)=some false/\kitOne K (.ref e4) (.ref e6)=some false/\kitOne K (.ref e5) (.ref e6)=some false/\kitOne K (.ref e6) (.ref e6)=some true)
  (iG:∃t,PySem.W.nsIn K mainGlobals "LONGEST_NAME"=some (some (.int 12 t)))
  (gJ:∃t,PySem.W.nsIn K mainGlobals "MOST_PASSAGES"=some (some (.int 60 t)))
  (jE:∃t,PySem.W.nsIn K mainGlobals "MOST_ROOMS"=some (some (.int 40 t)))
  (rK:∃t,PySem.W.nsIn K mainGlobals "START"=some (some (.int 0 t)))
  (vp:∃t,PySem.W.nsIn K mainGlobals "GOAL"=some (some (.int 1 t)))
  (iH:∃t,PySem.W.nsIn K mainGlobals "MOST_FIGURES"=some (some (.int 60 t)))
  (z:PySem.W.nsIn K mainGlobals "len"=some none/\PySem.W.nsIn K mainGlobals "list"=some none/\PySem.W.nsIn K mainGlobals "range"=some none/\PySem.W.nsIn K mainGlobals "enumerate"=some none/\PySem.W.nsIn K mainGlobals "zip"=some none/\PySem.W.nsIn K mainGlobals "abs"=some none/\PySem.W.nsIn K mainGlobals "sum"=some none/\PySem.W.nsIn K mainGlobals "min"=some none/\PySem.W.nsIn K mainGlobals "max"=some none/\PySem.W.nsIn K mainGlobals "int"=some none/\PySem.W.nsIn K mainGlobals "bool"=some none/\PySem.W.nsIn K mainGlobals "tuple"=some none/\PySem.W.nsIn K mainGlobals "str"=some none/\PySem.W.nsIn K mainGlobals "sorted"=some none/\PySem.W.nsIn K mainGlobals "set"=some none/\PySem.W.nsIn K mainGlobals "isinstance"=some none/\PySem.W.nsIn K mainGlobals "all"=some none/\PySem.W.nsIn K mainGlobals "ValueError"=some none)
  (aF:PySem.W.nsIn K mainGlobals "FORMS"=some (some (.ref aF_)))
  (kF:Forms l.prog w K aF_)
  (aL:PySem.W.nsIn K mainGlobals "LEAST"=some (some (.ref aL_)))
  (kL:KDict l.prog w K aL_ oY):
  ∃fd:FuncData,(∀(s:Shared) (v:Value),BindsTo s fd ⟨[v],[]⟩ [("_law_script",v)])/\∀base:Heap,K.In base->base.Ns mainGlobals mg->aQ l.prog w K mg base cV 9 fa fd ["_law_script"] (Cy K):=by
 obtain⟨fl,al,oc,od,kV,dc,pm,an,cd,ct,sl,ll,lc,lk⟩:=h18;have e:=hfa.symm.trans (mg_of X G al);cases e;obtain⟨_,iG⟩:=iG;obtain⟨_,gJ⟩:=gJ;obtain⟨_,jE⟩:=jE;obtain⟨_,rK⟩:=rK;obtain⟨_,vp⟩:=vp;obtain⟨_,iH⟩:=iH;have W:=λ{x v} (e:PySem.W.nsIn K mainGlobals x=some (some v))=>mg_of X G e;have Z:=λ{x} (e:PySem.W.nsIn K mainGlobals x=some none)=>PySem.W.mg_none_of X G e;obtain⟨ae0,adC,Zw,G5,ae1,ae2,ae3,ae4,ae5,ae6,adD,Zx,v9,Vn,ae7,GC,Xl,GD⟩:=z;have B:Bl mg:=⟨Z ae0,Z adC,Z Zw,Z G5,Z ae1,Z ae2,Z ae3,Z ae4,Z ae5,Z ae6,Z adD,Z Zx,Z v9,Z Vn,Z ae7,Z GC⟩;have cl:Cl K C:=⟨Xj,nC.1,nC.2⟩;obtain⟨sa0,pl,cc,bD,tC,tD⟩:=sp0;have GJ:∀{e:Addr},mW K D e->XC K e D:=λo=>⟨o.ex,EX.G3 xt⟩;have GK:∀{e:Addr},BK K D e->XI K e:=λk=>⟨⟨k.x1,k.x2,k.x3,k.x4,k.x5⟩,k.x6,x78.1,x78.2⟩;have cx2:Uj K mg e0 D fi:=⟨GJ xo0,xd,GK Gz,iI,iF,Gz.ke,sa0,pl,W gx0,W aD,cc,Gz.cd,Gz.x4,bD,tC,tD⟩;have cr1:xq K mg e1 D "NoName":=⟨GJ xo1,GK Jy,iI1,Jy.ke,W gx1,Jy.cd⟩;have cr2:xq K mg e2 D "Twice":=⟨GJ xo2,GK Jz,iI2,Jz.ke,W gx2,Jz.cd⟩;have cr3:xq K mg e3 D "TooMany":=⟨GJ xo3,GK JB,iI3,JB.ke,W gx3,JB.cd⟩;have cr4:xq K mg e4 D "NoPassage":=⟨GJ xo4,GK JC,iI4,JC.ke,W gx4,JC.cd⟩;have cr5:xq K mg e5 D "NoWidth":=⟨GJ xo5,GK JD,iI5,JD.ke,W gx5,JD.cd⟩;have cr6:xq K mg e6 D "NoLine":=⟨GJ xo6,GK JF,iI6,JF.ke,W gx6,JF.cd⟩;have cn:gQ K mg (Vm e0 e1 e2 e3 e4 e5 e6) D fi:=⟨cx2,λk h1 h6=>by
  have hk:k=1\/k=2\/k=3\/k=4\/k=5\/k=6:=by omega
  rcases hk with rfl|rfl|rfl|rfl|rfl|rfl
  .exact cr1
  .exact cr2
  .exact cr3
  .exact cr4
  .exact cr5
  .exact cr6⟩
 have kit:acz K mg (Vm e0 e1 e2 e3 e4 e5 e6):=by
  refine⟨λj k hj hk=>?_,λk hk=>?_,Z GD⟩
  .have hj:j=0\/j=1\/j=2\/j=3\/j=4\/j=5\/j=6:=by omega
   have hk:k=0\/k=1\/k=2\/k=3\/k=4\/k=5\/k=6:=by omega
   rcases hj with rfl|rfl|rfl|rfl|rfl|rfl|rfl
   .obtain⟨q0,q1,q2,q3,q4,q5,q6⟩:=p0;rcases hk with rfl|rfl|rfl|rfl|rfl|rfl|rfl<;>assumption
   .obtain⟨q0,q1,q2,q3,q4,q5,q6⟩:=p1;rcases hk with rfl|rfl|rfl|rfl|rfl|rfl|rfl<;>assumption
   .obtain⟨q0,q1,q2,q3,q4,q5,q6⟩:=p2;rcases hk with rfl|rfl|rfl|rfl|rfl|rfl|rfl<;>assumption
   .obtain⟨q0,q1,q2,q3,q4,q5,q6⟩:=p3;rcases hk with rfl|rfl|rfl|rfl|rfl|rfl|rfl<;>assumption
   .obtain⟨q0,q1,q2,q3,q4,q5,q6⟩:=p4;rcases hk with rfl|rfl|rfl|rfl|rfl|rfl|rfl<;>assumption
   .obtain⟨q0,q1,q2,q3,q4,q5,q6⟩:=p5;rcases hk with rfl|rfl|rfl|rfl|rfl|rfl|rfl<;>assumption
   .obtain⟨q0,q1,q2,q3,q4,q5,q6⟩:=p6;rcases hk with rfl|rfl|rfl|rfl|rfl|rfl|rfl<;>assumption
  .have hk:k=0\/k=1\/k=2\/k=3\/k=4\/k=5\/k=6:=by omega
   rcases hk with rfl|rfl|rfl|rfl|rfl|rfl|rfl
   .exact Gz.pv
   .exact Jy.pv
   .exact Jz.pv
   .exact JB.pv
   .exact JC.pv
   .exact JD.pv
   .exact JF.pv
 obtain⟨Jw,odi,TT,Gu,Gv,Gw,Gx,zf,Gy,Jx,Ra,Rb,nT,Rc,li,lT,ci⟩:=ii.ex;have Fi:EX.Fl K "__init__" "NoHall.__init__" j8 fi _:=⟨Jw,odi,.ref TT,Gu,Gv,Gw,Gx,zf,Gy,Jx,rfl,li,ci⟩;have bi:L2.Binds K (fnOf "__init__" "NoHall.__init__" (eU j8) (cH j8) (aj j8) (.ref TT) Gu Gv Gw Gx zf Gy) ["self","place"] []:=λs us X hl=>by rw[append_nil] at hl ⊢;obtain⟨y0,y1,rfl⟩:=len2 hl;exact BindsTo.of_defaults rfl (X _ _ lT) rfl rfl rfl
 refine⟨fnOf "law" "law" (eU (top 63)) (cH (top 63)) (aj (top 63)) .none kV dc pm an cd ct,λs v=>.of_eq rfl,λbase _ _=>?_⟩;have Oi:=Y0 (P:=l.prog) (w:=w) (base:=base) Fi cx2;obtain⟨_,_,On,gn,kn,bn⟩:=h0.ex (P:=l.prog) (w:=w) (base:=base) X G λF=>Y4 F B (p8 K) cn (Z Xl) (W iG);obtain⟨_,_,O5,Xm,b5⟩:=m5.ex (P:=l.prog) (w:=w) (mg:=mg) (base:=base) λF=>Y6 F cl cn;obtain⟨_,_,O6,m6_,b6⟩:=m6.ex (P:=l.prog) (w:=w) (mg:=mg) (base:=base) λF=>acd F cl;obtain⟨_,_,O7,m7_,b7⟩:=m7.ex (P:=l.prog) (w:=w) (mg:=mg) (base:=base) λF=>Uq F B cl;have Ms:UJ l.prog w K mg base C (Vm e0 e1 e2 e3 e4 e5 e6):=⟨Xj,m1.ex λF=>acf (fi:=fi) F B cl cn On gn kn bn Oi bi (W gJ) (W jE),m2.ex λF=>Y8 F cl O5 Xm b5,m3.ex λF=>Ul F cl cn O5 Xm b5 O6 m6_ b6,m4.ex λF=>Qf F cl cn O5 Xm b5 O6 m6_ b6,m11.ex λF=>UG F cl O5 Xm b5,⟨_,_,O7,m7_,b7⟩,m8.ex λF=>Y9 F cl O7 m7_ b7⟩;obtain⟨_,_,Ow,mw_,bw⟩:=m0.ex (P:=l.prog) (w:=w) (mg:=mg) (base:=base) λF=>acj F cl cn On gn kn bn (W rK) (W vp);obtain⟨_,_,Od,md_,bd⟩:=d0.ex (P:=l.prog) (w:=w) (mg:=mg) (base:=base) λF=>Uu F vo nD;have Mi:=h3.cal (P:=l.prog) (w:=w) (base:=base) X G λF=>FP F B (p8 K) (Z Xl) (W iH);obtain⟨_,_,Ov,gv,kv,bv⟩:=h2.ex (P:=l.prog) (w:=w) (base:=base) X G λF=>Uv F B cn (W aL) kL Mi;obtain⟨_,_,Os,gs,ks,bs⟩:=h1.ex (P:=l.prog) (w:=w) (base:=base) X G λF=>Za F B cn (W aF) kF Ov gv kv bv;have z9:=h6.cal (P:=l.prog) (w:=w) (base:=base) X G λF=>Zc F;obtain⟨_,_,Oc,gc,kc,bc⟩:=h5.ex (P:=l.prog) (w:=w) (base:=base) X G λF=>Qt F Ms;obtain⟨_,_,Oa,ga,ka,ba⟩:=h4.ex (P:=l.prog) (w:=w) (base:=base) X G λF=>acv F B (Z v9) Ms Oc gc kc bc z9;obtain⟨_,_,Oy,Xn,by_⟩:=d1.ex (P:=l.prog) (w:=w) (mg:=mg) (base:=base) λF=>acy F vo nD cn Oi bi Os gs ks bs Oa ga ka ba ⟨Xk.1,mw_.at_,mw_.fn,Xk.2⟩ Ow (W aC) bw;have jZ:=h7.cal (P:=l.prog) (w:=w) (base:=base) X G λF=>yK F B (p8 K);have gP:=h8.cal (P:=l.prog) (w:=w) (base:=base) X G λF=>BW F B (p8 K);have qm:=h10.cal (P:=l.prog) (w:=w) (base:=base) X G λF=>BX F B (p8 K) gP;have tO:=h11.cal (P:=l.prog) (w:=w) (base:=base) X G λF=>yL F B (p8 K);have nA:=h12.cal (P:=l.prog) (w:=w) (base:=base) X G λF=>tU F B (p8 K);have tM:=h13.cal (P:=l.prog) (w:=w) (base:=base) X G λF=>yM F B (p8 K) (Z v9);have sY:=h14.cal (P:=l.prog) (w:=w) (base:=base) X G λF=>FQ F B (p8 K) (Z v9) gP tM tO nA;have xu:=h9.cal (P:=l.prog) (w:=w) (base:=base) X G λF=>aeP F B (p8 K) cn kit;have tR:=h15.cal (P:=l.prog) (w:=w) (base:=base) X G λF=>Ls F cn vo Oy Xn by_ xu;have G6:=h16.cal (P:=l.prog) (w:=w) (base:=base) X G λF=>UL F cn vo Oy Xn by_;have Mj:=h17.cal (P:=l.prog) (w:=w) (base:=base) X G λF=>Ze F (Z v9) vo Oy Xn by_ tR;exact acN (Nk (st:=top 63) ll lc lk) B (Z v9) vo Oy Xn by_ ⟨Mh.1,md_.at_,md_.fn,Mh.2⟩ Od bd (W aCD) jZ gP qm sY tR G6 Mj Zv
end bF
open PySem.W PyProof.Rows
namespace PySem.W.Fast
def tw10931242167353275852:=0
def tw1098149433068004572:=0
def tw13509363392522697244:=0
def tw7273516687777422890:=0
def tw11661675027479303201:=0
def tw4028882898563310821:=0
def tw5968623113371706089:=0
def tw8254729109980501196:=0
def tw16795739409259728336:=0
def tw5527915333753352889:=0
def tw1709324404630154038:=0
def tw13699473006390748061:=0
def tw12432039345306351555:=0
def tw11437257633842345306:=0
def tw13689767767796999948:=0
def tw12914884249433762042:=0
def tw14079459992975825597:=0
def tw13338546863727310725:=0
def tw15338447170581597855:=0
def tw3270189996441330462:=0
def tw14152036028648944584:=0
def tw4604661866324916996:=0
def tw14770910760455240029:=0
def tw18338061125870160086:=0
def tw3833081810800165570:=0
def tw6493375009645117848:=0
def tw10741094254227979520:=0
def tw11860546555119252424:=0
def tw12025689078240664642:=0
def tw18383443195272013779:=0
def tw5068211678399110138:=0
def tw5013152942965250672:=0
def tw389176962663387222:=0
def tw5968056516655278059:=0
def tw4440308372765912190:=0
def tw12981672895267628000:=0
def tw3745113849913863889:=0
def tw13550948812245340387:=0
def tw1311519424862708881:=0
def tw12262883112143935:=0
def tw4710969712653791343:=0
def tw14149498517961481688:=0
def tw1728290278032128809:=0
def tw16762233216731535855:=0
def tw3904091793234194246:=0
def tw8749611280401986445:=0
def tw10462214503716076048:=0
def tw8082601647619145063:=0
def tw14917511669912138703:=0
def tw12149649116067165124:=0
def tw7828760482302375446:=0
def tw11504794622620392826:=0
def tw6850701903032730992:=0
def tw4927964327870113299:=0
def tw6115322376584493005:=0
def tw3786405009692746351:=0
def tw12660804631715821155:=0
def tw15472623087950088835:=0
def tw17673516308786309360:=0
def tw17798762191487565617:=0
def tw9664223534788643298:=0
def tw5823781337868429701:=0
def tw10709181636483508790:=0
def tw3623433161946263463:=0
def tw12714253623828332178:=0
def tw4337775906727890938:=0
def tw137745006210700403:=0
def tw13145713393443825597:=0
def tw10756677988227320018:=0
def tw12586643537333285160:=0
def tw9182938585419453964:=0
def tw6250608189117788480:=0
def tw4871164269234459631:=0
def tw505277100211826114:=0
def tw10188365818868059926:=0
def tw2715151020715921990:=0
def tw15200126342762808732:=0
def tw9969353215015049757:=0
def tw3550466384048213737:=0
def tw12672639321943929318:=0
def tw9888173170634462542:=0
def tw17137430398209211362:=0
def tw16936018667054670090:=0
def tw9431471385911799353:=0
def tw11567154660749470069:=0
def tw14212760548564844236:=0
def tw7272683660904222961:=0
def tw16691425817286536602:=0
def tw11419998333164759002:=0
def tw13090114546069319524:=0
def tw926915630947238316:=0
def tw12394448479230518706:=0
def tw9190038068455008596:=0
def tw27260460751935066:=0
def tw16063546443737300912:=0
def tw3979271304764538761:=0
def tw8482763185872271373:=0
def tw7207250050143186746:=0
def tw2966454178699870840:=0
def tw7229837825684078892:=0
def tw6625812179580245758:=0
def tw11770743212304679607:=0
def tw17006132892762089122:=0
def tw1944172388632660996:=0
def tw14450903295146321316:=0
def tw7693101533904778410:=0
def tw15204562508897732385:=0
def tw10075317631632326861:=0
def tw1277434281885969585:=0
def tw3512992358940102115:=0
def tw13481009119591894935:=0
def tw2534052855757418641:=0
def tw5514571390655105210:=0
def tw7280512835361357635:=0
def tw17584250890770166149:=0
def tw59676009360755136:=0
def tw12727724938249604298:=0
def tw13508969923010924162:=0
def tw1390185757608596676:=0
def tw4176846541427828219:=0
def tw10278706874338420217:=0
def tw3212639768950056548:=0
def tw6447416859632941195:=0
def tw11399676195760894203:=0
def tw11365302768282077131:=0
def tw13159532196257856133:=0
def tw3534943731419776731:=0
def tw6603643537454779698:=0
def tw9814836871444719363:=0
def tw2211495521820600023:=0
def tw7918088995908772139:=0
def tw17689602031398891885:=0
def tw2797342731696287063:=0
def tw16356178435629081036:=0
def tw8775443981412526062:=0
def tw10717770745976394591:=0
def tw13665949322221305510:=0
def tw9102265458203872780:=0
def tw8488359469374552920:=0
def tw13242112051037829957:=0
def tw18235753832364026853:=0
def tw12764541278713380622:=0
def tw12436555221306028157:=0
def tw12804435383979236494:=0
def tw15511024631249125891:=0
def tw13836612681606240144:=0
def tw10062579993017269877:=0
def tw5837952659419116904:=0
def tw15328315453189639832:=0
def tw16224812057488035917:=0
end PySem.W.Fast
set_option maxRecDepth 100000 in
set_option maxHeartbeats 0 in
theorem PySem.Challenge.cw_leavehall_k72_lines_refused_holds : PySem.Challenge.rw_leavehall_k72_lines_refused.Holds := by
 w_on;o_law;k_head;(case hw=>w_witness2)
 k_fill
 refine VM.walk (l:=PySem.Challenge.rw_leavehall_k72_lines_refused) (k:=9) (x:="_law_script") rfl rfl ⟨rfl,by decide,by decide⟩ (λw h Y=>PySem.W.kIn_of Y) ?F;case F=>
  intro w mg fa h KX G hmg;refine' bF.all_mk KX G hmg ?h0 ?h1 ?h2 ?h3 ?h4 ?h5 ?h6 ?h7 ?h8 ?h9 ?h10 ?h11 ?h12 ?h13 ?h14 ?h15 ?h16 ?h17 ?h18 ?aC ?Xj ?Xk ?aCD ?vo ?Mh ?nC ?nD ?m0 ?m1 ?m2 ?m3 ?m4 ?m5 ?m6 ?m7 ?m8 ?m11 ?d0 ?d1 ?aD ?gx0 ?xo0 ?Gz ?gx1 ?xo1 ?Jy ?iI1 ?gx2 ?xo2 ?Jz ?iI2 ?gx3 ?xo3 ?JB ?iI3 ?gx4 ?xo4 ?JC ?iI4 ?gx5 ?xo5 ?JD ?iI5 ?gx6 ?xo6 ?JF ?iI6 ?xt ?xd ?x78 ?iI ?iF ?sp0 ?ii ?p0 ?p1 ?p2 ?p3 ?p4 ?p5 ?p6 ?iG ?gJ ?jE ?rK ?vp ?iH ?z ?aF ?kF ?aL ?kL
  (case h0=>refine' bF.GH.mk' ?a ?l ?c ?k;(case a=>k_is);(case l=>k_is);(case c=>k_is);(case k=>k_is))
  (case h1=>refine' bF.GH.mk' ?a ?l ?c ?k;(case a=>k_is);(case l=>k_is);(case c=>k_is);(case k=>k_is))
  (case h2=>refine' bF.GH.mk' ?a ?l ?c ?k;(case a=>k_is);(case l=>k_is);(case c=>k_is);(case k=>k_is))
  (case h3=>refine' bF.GH.mk' ?a ?l ?c ?k;(case a=>k_is);(case l=>k_is);(case c=>k_is);(case k=>k_is))
  (case h4=>refine' bF.GH.mk' ?a ?l ?c ?k;(case a=>k_is);(case l=>k_is);(case c=>k_is);(case k=>k_is))
  (case h5=>refine' bF.GH.mk' ?a ?l ?c ?k;(case a=>k_is);(case l=>k_is);(case c=>k_is);(case k=>k_is))
  (case h6=>refine' bF.GH.mk' ?a ?l ?c ?k;(case a=>k_is);(case l=>k_is);(case c=>k_is);(case k=>k_is))
  (case h7=>refine' bF.GH.mk' ?a ?l ?c ?k;(case a=>k_is);(case l=>k_is);(case c=>k_is);(case k=>k_is))
  (case h8=>refine' bF.GH.mk' ?a ?l ?c ?k;(case a=>k_is);(case l=>k_is);(case c=>k_is);(case k=>k_is))
  (case h9=>refine' bF.GH.mk' ?a ?l ?c ?k;(case a=>k_is);(case l=>k_is);(case c=>k_is);(case k=>k_is))
  (case h10=>refine' bF.GH.mk' ?a ?l ?c ?k;(case a=>k_is);(case l=>k_is);(case c=>k_is);(case k=>k_is))
  (case h11=>refine' bF.GH.mk' ?a ?l ?c ?k;(case a=>k_is);(case l=>k_is);(case c=>k_is);(case k=>k_is))
  (case h12=>refine' bF.GH.mk' ?a ?l ?c ?k;(case a=>k_is);(case l=>k_is);(case c=>k_is);(case k=>k_is))
  (case h13=>refine' bF.GH.mk' ?a ?l ?c ?k;(case a=>k_is);(case l=>k_is);(case c=>k_is);(case k=>k_is))
  (case h14=>refine' bF.GH.mk' ?a ?l ?c ?k;(case a=>k_is);(case l=>k_is);(case c=>k_is);(case k=>k_is))
  (case h15=>refine' bF.GH.mk' ?a ?l ?c ?k;(case a=>k_is);(case l=>k_is);(case c=>k_is);(case k=>k_is))
  (case h16=>refine' bF.GH.mk' ?a ?l ?c ?k;(case a=>k_is);(case l=>k_is);(case c=>k_is);(case k=>k_is))
  (case h17=>refine' bF.GH.mk' ?a ?l ?c ?k;(case a=>k_is);(case l=>k_is);(case c=>k_is);(case k=>k_is))
  (case h18=>refine' bF.GH.mk' ?a ?l ?c ?k;(case a=>k_is);(case l=>k_is);(case c=>k_is);(case k=>k_is))
  (case aC=>k_is)
  (case Xj=>refine⟨?_,?_,?_,?_⟩<;>k_is)
  (case Xk=>refine⟨?_,?_⟩<;>k_is)
  (case aCD=>k_is)
  (case vo=>refine⟨?_,?_,?_,?_⟩<;>k_is)
  (case Mh=>refine⟨?_,?_⟩<;>k_is)
  (case nC=>refine⟨?_,?_⟩<;>(unfold L2.eY;k_is))
  (case nD=>unfold L2.eY;k_is)
  (case m0=>refine' bF.MH.mk' ?a ?l ?c ?k ?n;(case a=>k_is);(case l=>k_is);(case c=>k_is);(case k=>k_is);(case n=>k_is))
  (case m1=>refine' bF.MH.mk' ?a ?l ?c ?k ?n;(case a=>k_is);(case l=>k_is);(case c=>k_is);(case k=>k_is);(case n=>k_is))
  (case m2=>refine' bF.MH.mk' ?a ?l ?c ?k ?n;(case a=>k_is);(case l=>k_is);(case c=>k_is);(case k=>k_is);(case n=>k_is))
  (case m3=>refine' bF.MH.mk' ?a ?l ?c ?k ?n;(case a=>k_is);(case l=>k_is);(case c=>k_is);(case k=>k_is);(case n=>k_is))
  (case m4=>refine' bF.MH.mk' ?a ?l ?c ?k ?n;(case a=>k_is);(case l=>k_is);(case c=>k_is);(case k=>k_is);(case n=>k_is))
  (case m5=>refine' bF.MH.mk' ?a ?l ?c ?k ?n;(case a=>k_is);(case l=>k_is);(case c=>k_is);(case k=>k_is);(case n=>k_is))
  (case m6=>refine' bF.MH.mk' ?a ?l ?c ?k ?n;(case a=>k_is);(case l=>k_is);(case c=>k_is);(case k=>k_is);(case n=>k_is))
  (case m7=>refine' bF.MH.mk' ?a ?l ?c ?k ?n;(case a=>k_is);(case l=>k_is);(case c=>k_is);(case k=>k_is);(case n=>k_is))
  (case m8=>refine' bF.MH.mk' ?a ?l ?c ?k ?n;(case a=>k_is);(case l=>k_is);(case c=>k_is);(case k=>k_is);(case n=>k_is))
  (case m11=>refine' bF.MH.mk' ?a ?l ?c ?k ?n;(case a=>k_is);(case l=>k_is);(case c=>k_is);(case k=>k_is);(case n=>k_is))
  (case d0=>refine' bF.MH.mk' ?a ?l ?c ?k ?n;(case a=>k_is);(case l=>k_is);(case c=>k_is);(case k=>k_is);(case n=>k_is))
  (case d1=>refine' bF.MH.mk' ?a ?l ?c ?k ?n;(case a=>k_is);(case l=>k_is);(case c=>k_is);(case k=>k_is);(case n=>k_is))
  (case aD=>k_is)
  (case gx0=>k_is)
  (case xo0=>refine' bF.mW.mk' ?a;(case a=>k_is))
  (case Gz=>refine⟨?_,?_,?_,?_,?_,?_,?_,?_,?_⟩<;>first|k_is|kit_is)
  (case gx1=>k_is)
  (case xo1=>refine' bF.mW.mk' ?a;(case a=>k_is))
  (case Jy=>refine⟨?_,?_,?_,?_,?_,?_,?_,?_,?_⟩<;>first|k_is|kit_is)
  (case iI1=>k_is)
  (case gx2=>k_is)
  (case xo2=>refine' bF.mW.mk' ?a;(case a=>k_is))
  (case Jz=>refine⟨?_,?_,?_,?_,?_,?_,?_,?_,?_⟩<;>first|k_is|kit_is)
  (case iI2=>k_is)
  (case gx3=>k_is)
  (case xo3=>refine' bF.mW.mk' ?a;(case a=>k_is))
  (case JB=>refine⟨?_,?_,?_,?_,?_,?_,?_,?_,?_⟩<;>first|k_is|kit_is)
  (case iI3=>k_is)
  (case gx4=>k_is)
  (case xo4=>refine' bF.mW.mk' ?a;(case a=>k_is))
  (case JC=>refine⟨?_,?_,?_,?_,?_,?_,?_,?_,?_⟩<;>first|k_is|kit_is)
  (case iI4=>k_is)
  (case gx5=>k_is)
  (case xo5=>refine' bF.mW.mk' ?a;(case a=>k_is))
  (case JD=>refine⟨?_,?_,?_,?_,?_,?_,?_,?_,?_⟩<;>first|k_is|kit_is)
  (case iI5=>k_is)
  (case gx6=>k_is)
  (case xo6=>refine' bF.mW.mk' ?a;(case a=>k_is))
  (case JF=>refine⟨?_,?_,?_,?_,?_,?_,?_,?_,?_⟩<;>first|k_is|kit_is)
  (case iI6=>k_is)
  (case xt=>k_exc)
  (case xd=>refine⟨?_,?_,?_⟩<;>k_is)
  (case x78=>refine⟨?_,?_⟩<;>k_is)
  (case iI=>k_is)
  (case iF=>k_is)
  (case sp0=>refine⟨?_,?_,?_,?_,?_,?_⟩<;>k_is)
  (case ii=>refine' bF.Mg.mk' ?a ?b ?c;(case a=>k_is);(case b=>k_is);(case c=>k_is))
  (case p0=>refine⟨?_,?_,?_,?_,?_,?_,?_⟩<;>kit_is)
  (case p1=>refine⟨?_,?_,?_,?_,?_,?_,?_⟩<;>kit_is)
  (case p2=>refine⟨?_,?_,?_,?_,?_,?_,?_⟩<;>kit_is)
  (case p3=>refine⟨?_,?_,?_,?_,?_,?_,?_⟩<;>kit_is)
  (case p4=>refine⟨?_,?_,?_,?_,?_,?_,?_⟩<;>kit_is)
  (case p5=>refine⟨?_,?_,?_,?_,?_,?_,?_⟩<;>kit_is)
  (case p6=>refine⟨?_,?_,?_,?_,?_,?_,?_⟩<;>kit_is)
  (case iG=>refine' bF.v8 ?a;(case a=>k_is))
  (case gJ=>refine' bF.v8 ?a;(case a=>k_is))
  (case jE=>refine' bF.v8 ?a;(case a=>k_is))
  (case rK=>refine' bF.v8 ?a;(case a=>k_is))
  (case vp=>refine' bF.v8 ?a;(case a=>k_is))
  (case iH=>refine' bF.v8 ?a;(case a=>k_is))
  (case z=>refine⟨?_,?_,?_,?_,?_,?_,?_,?_,?_,?_,?_,?_,?_,?_,?_,?_,?_,?_⟩<;>k_is)
  (case aF=>k_is)
  (case kF=>refine' bF.Vl ?h ?q0 ?q1 ?q2 ?q3 ?q4 ?q5 ?q6 ?q7 ?q8 ?q9 ?q10 ?q11 ?ha;(case h=>k_is);(case q0=>refine' bF.Mf ?a;(case a=>k_is));(case q1=>refine' bF.ahv ?a;(case a=>k_is));(case q2=>refine' bF.Gs ?a;(case a=>k_is));(case q3=>refine' bF.Mf ?a;(case a=>k_is));(case q4=>refine' bF.Mf ?a;(case a=>k_is));(case q5=>refine' bF.Gs ?a;(case a=>k_is));(case q6=>refine' bF.Gs ?a;(case a=>k_is));(case q7=>refine' bF.Gs ?a;(case a=>k_is));(case q8=>refine' bF.Gs ?a;(case a=>k_is));(case q9=>refine' bF.Mf ?a;(case a=>k_is));(case q10=>refine' bF.ac4 ?a;(case a=>k_is));(case q11=>refine' bF.ac4 ?a;(case a=>k_is));(case ha=>rfl))
  (case aL=>k_is)
  (case kL=>refine' bF.Vk ?h ?ha;(case h=>k_is);(case ha=>rfl))
