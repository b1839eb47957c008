import PyProof.Rows.All
import Wide.All
import OpenK.AllK
import Wide.FinOn
import Lean
import PyProof.EqAt
import PyProof.EqKinds
import PyProof.TupleCall
import PySem.Challenge.RW_leavehall_k62_deeds_refused
set_option Elab.async false
set_option linter.all false
set_option maxRecDepth 100000
namespace L2
open PySem PySem.Spec PyProof.Rows
noncomputable abbrev Key:=Sum Int Str
noncomputable def sO:Key->Value->Bool
 |.inl k,v=>Value.isInt k v
 |.inr x,v=>Value.isStrOf x v
noncomputable def aiU (w:World):Key->Int
 |.inl k=>hashInt k
 |.inr x=>hashStr w x
theorem eY:∀{k:Key}{v:Value},sO k v=true->(∃i t,k=Sum.inl i/\v=Value.int i t)\/(∃x t,k=Sum.inr x/\v=Value.str x t)
 |.inl i,v,h=>by
  obtain⟨t,e⟩:=Value.isInt_shape (k:=i) (v:=v) h
  exact .inl ⟨i,t,rfl,e⟩
 |.inr x,v,h=>by
  obtain⟨t,e⟩:=Value.isStrOf_shape (x:=x) (v:=v) h
  exact .inr ⟨x,t,rfl,e⟩
theorem K7 (i:Int)(t:Tok):sO (.inl i) (.int i t)=true:=by simp[sO,Value.isInt]
theorem K8 (x:Str)(t:Tok):sO (.inr x) (.str x t)=true:=by simp[sO,Value.isStrOf]
theorem YF (a b:Int):decide ((Sum.inl a:Key)=Sum.inl b)=(a==b):=by
 by_cases e:a=b
 .subst e;simp
 .have h:¬(Sum.inl a:Key)=Sum.inl b:=λq=>e (Sum.inl.inj q)
  rw[decide_eq_false h]
  exact(beq_eq_false_iff_ne.mpr e).symm
theorem YG (a b:Str):decide ((Sum.inr a:Key)=Sum.inr b)=decide (a=b):=by
 by_cases e:a=b
 .subst e;simp
 .have h:¬(Sum.inr a:Key)=Sum.inr b:=λq=>e (Sum.inr.inj q)
  rw[decide_eq_false h,decide_eq_false e]
theorem YH (a:Int)(b:Str):decide ((Sum.inl a:Key)=Sum.inr b)=false:=decide_eq_false (λq=>nomatch q)
theorem YJ (a:Str)(b:Int):decide ((Sum.inr a:Key)=Sum.inl b)=false:=decide_eq_false (λq=>nomatch q)
noncomputable def cJ (prog:Program)(w:World):PySem.KeyKind prog w Key where
 is:=sO
 hash:=aiU w
 inj:=λv a b ha hb=>by
  rcases eY ha with⟨i,t,rfl,rfl⟩|⟨x,t,rfl,rfl⟩
  .rcases eY hb with⟨j,u,rfl,e⟩|⟨y,u,rfl,e⟩
   .injection e with e1 _;rw[e1]
   .exact nomatch e
  .rcases eY hb with⟨j,u,rfl,e⟩|⟨y,u,rfl,e⟩
   .exact nomatch e
   .injection e with e1 _;rw[e1]
 byValue:=λk v h=>by
  rcases eY h with⟨i,t,rfl,rfl⟩|⟨x,t,rfl,rfl⟩<;>rfl
 pyHash:=λhv h=>by
  rcases eY hv with⟨i,t,rfl,rfl⟩|⟨x,t,rfl,rfl⟩
  .exact wpAny_pyHash_int h
  .exact wpAny_pyHash_str h
 eqBool:=λhu hv h=>by
  rcases eY hu with⟨i,t,rfl,rfl⟩|⟨x,t,rfl,rfl⟩
  .rcases eY hv with⟨j,u,rfl,rfl⟩|⟨y,u,rfl,rfl⟩
   .rw[YF] at h;exact wpAny_eqBool_int h
   .rw[YH] at h;exact SeqAt.EqAt.int_str i t y u _ _ _ _ h
  .rcases eY hv with⟨j,u,rfl,rfl⟩|⟨y,u,rfl,rfl⟩
   .rw[YJ] at h;exact SeqAt.EqAt.str_int x t j u _ _ _ _ h
   .rw[YG] at h;exact wpAny_eqBool_str h
 «strs»:=λk x t v h=>by
  rcases eY h with⟨i,u,rfl,e⟩|⟨y,u,rfl,e⟩
  .exact nomatch e
  .injection e with e1 _
   subst e1
   cases v<;>rfl
theorem Jc (prog:Program)(w:World)(k:Key)(v:Value):(cJ prog w).is k v=sO k v:=rfl
theorem GD (prog:Program)(w:World)(i:Int)(t:Tok):(cJ prog w).is (.inl i) (.int i t)=true:=K7 i t
theorem GF (prog:Program)(w:World)(x:Str)(t:Tok):(cJ prog w).is (.inr x) (.str x t)=true:=K8 x t
end L2
namespace L2
open PySem PySem.Spec PyProof.Rows
inductive V where
 |non|bl (b:Bool)|int (i:Int)|str (x:Str)|uz (b:Array UInt8)|flt (b:UInt64)|ref (a:Addr)|ty (n:String)
 deriving DecidableEq
noncomputable def RelV:V->Value->Prop
 |.non,u=>u=Value.none
 |.bl b,u=>u=Value.bool b
 |.int i,u=>∃t,u=Value.int i t
 |.str x,u=>∃t,u=Value.str x t
 |.uz b,u=>∃t,u=Value.bytes b t
 |.flt b,u=>∃t,u=Value.float b t
 |.ref a,u=>u=Value.ref a
 |.ty n,u=>u=Value.type n
noncomputable abbrev Vals:List V->List Value->Prop:=Paired RelV
theorem Vals.length {xs:List V}{us:List Value}(r:Vals xs us):xs.length=us.length:=Paired.length r
theorem Vals.get:∀{xs:List V}{us:List Value} {i:Nat} {x:V},Vals xs us->xs[i]? =some x->∃u,us[i]? =some u/\RelV x u
 |_,_,_,_,.nil,e=>by simp at e
 |_,_,0,_,.cons r _,e=>by simp at e;subst e;exact⟨_,rfl,r⟩
 |_,_,i+1,x,.cons _ t,e=>by
  obtain⟨u,h1,h2⟩:=Vals.get (i:=i) (x:=x) t (by simpa using e)
  exact⟨u,by simpa using h1,h2⟩
theorem Vals.set {x:V}{u:Value}(r:RelV x u):∀{xs:List V}{us:List Value} (i:Nat),Vals xs us->Vals (xs.set i x) (us.set i u)
 |_,_,_,.nil=>.nil
 |_,_,0,.cons _ t=>.cons r t
 |_,_,i+1,.cons q t=>.cons q (Vals.set r i t)
theorem Vals.append:∀{xs ys:List V}{us ws:List Value},Vals xs us->Vals ys ws->Vals (xs++ys) (us++ws)
 |_,_,_,_,.nil,s=>s
 |_,_,_,_,.cons r t,s=>.cons r (Vals.append t s)
theorem Vals.take:∀{xs:List V}{us:List Value} (n:Nat),Vals xs us->Vals (xs.take n) (us.take n)
 |_,_,0,_=>.nil
 |_,_,_+1,.nil=>.nil
 |_,_,n+1,.cons r t=>.cons r (Vals.take n t)
theorem Vals.drop:∀{xs:List V}{us:List Value} (n:Nat),Vals xs us->Vals (xs.drop n) (us.drop n)
 |_,_,0,r=>r
 |_,_,_+1,.nil=>.nil
 |_,_,n+1,.cons _ t=>Vals.drop n t
theorem Vals.none_of:∀{xs:List V}{us:List Value} {i:Nat},Vals xs us->xs[i]? =none->us[i]? =none:=λ{xs us i} r e=>by
 have h1:=r.length
 have h2:xs.length<=i:=List.getElem?_eq_none_iff.mp e
 exact List.getElem?_eq_none_iff.mpr (by omega)
noncomputable def gZ:Option V->Option Value->Prop
 |some v,some u=>RelV v u
 |none,none=>True
 |_,_=>False
noncomputable def KV {κ:Type}:List (κ×V)->List (κ×Value)->Prop:=Paired λ(p:κ×V) (q:κ×Value)=>p.1=q.1/\RelV p.2 q.2
noncomputable def kV:Key->V
 |.inl i=>.int i
 |.inr x=>.str x
inductive HO where
 |lst (xs:List V)
 |tup (xs:List V)
 |dK (kvs:List (Key×V))|dT (kvs:List (List Key×V))
 |set (S:Int->Bool) (n:Nat)
 |ins (C dx:Addr) (fs:List (Str×V))
 |own (x:Addr)
 |xd (fs:List (Str×V))
 |met (f x:Addr)
 |rng (lo hi:Int)
 |eO (o:Obj) (u:HO)
 |z9 (ps:Array Value)
 |ext (φ:Heap->Prop)
noncomputable abbrev Hp:=Addr->Option HO
noncomputable def upd (H:Hp)(a:Addr)(o:HO):Hp:=λb=>if b=a then some o else H b
theorem ao {H:Hp}{a:Addr}{o:HO}:upd H a o a=some o:=by unfold upd;rw[if_pos rfl]
theorem aq {H:Hp}{a b:Addr}{o:HO}(h:b≠a):upd H a o b=H b:=by unfold upd;rw[if_neg h]
theorem G4 {H:Hp}{a:Addr}{o u:HO}:upd (upd H a o) a u=upd H a u:=by
 funext b;unfold upd;split<;>rfl
theorem afM {H:Hp}{a b:Addr}{o u:HO}(h:H a=some o)(h':H b=some u)(d:o≠u):a≠b:=by
 intro e;subst e;rw[h] at h';exact d (Option.some.inj h')
theorem aR {H:Hp}{a b:Addr}{o:HO}(h:H a=some o)(h':H b=none):a≠b:=by
 intro e;subst e;rw[h] at h';cases h'
section
variable (P:Program)(w:World)
noncomputable def dY (H:Hp)(h:Heap)(a:Addr):HO->Prop
 |.lst xs=>xs.length<=sizeLine/\∃(its:List Value) (n:Nat),Vals xs its/\h.get? a=some {cls:=.type "list",data:=.seq its.toArray n}
 |.tup xs=>xs.length<=sizeLine/\∃its:List Value,Vals xs its/\IsTup h a its.toArray
 |.dK kvs=>kvs.length<=sizeLine/\(a==sysModules)=false/\∃vs,KV kvs vs/\h.DictOf (cJ P w) a vs
 |.dT kvs=>kvs.length<=sizeLine/\(a==sysModules)=false/\∃xs:List (List Key×Addr×Value),
  Paired (λ(p:List Key×V) (q:List Key×Addr×Value)=>p.1=q.1/\H q.2.1=some (.tup (p.1.map kV))/\RelV p.2 q.2.2) kvs xs/\
  ∃o es ep,h.get? a=some o/\o.ExactDict/\o.data=.dict es ep/\es.toList=xs.map (entryOfKey (tupleKind (cJ P w)))/\(xs.map (·.1)).Nodup
 |.set S n=>h.SetOf (intKind P w) a S n
 |.ins C dx fs=>H dx=some (.own a)/\fs.length<=1000/\dx≠a/\h.get? a=some (PySem.W.instObj C dx)/\
  ∃mA,h.Ns1 dx mA/\(∀f,gZ (fs.lookup f) (mA f))/\PySem.Within mA (fs.map (·.1))
 |.own _=>∃o,h.get? a=some o
 |.xd fs=>∃mA,h.Ns1 a mA/\∀f,gZ (fs.lookup f) (mA f)
 |.rng lo hi=>∃t u v,h.get? a=some {cls:=.type "range",data:=.fields #[.int lo t,.int hi u,.int 1 v]}
 |.eO o u=>h.get? a=some o/\dY H h a u
 |.z9 ps=>h.get? a=some {cls:=.none,data:=.fields ps}
 |.met f x=>h.get? a=some (PySem.W.methodObj (.ref f) (.ref x))
 |.ext φ=>φ h/\(∃o,h.get? a=some o)/\∀h1 h2:Heap,φ h1->(∀o,h1.get? a=some o->h2.get? a=some o)->φ h2
noncomputable def fH (H:Hp)(h:Heap):Prop:=∀a o,H a=some o->dY P w H h a o
end
section
variable {P:Program}{w:World}{H H':Hp}{h h':Heap}{a:Addr}{o:HO}
theorem dY.lt (x:dY P w H h a o):a<h.objs.size:=by
 cases o with
 |lst xs=>obtain⟨_,_,_,_,e⟩:=x;exact Heap.lt_size e
 |tup xs=>obtain⟨_,_,_,p⟩:=x;exact p.lt
 |dK kvs=>obtain⟨_,_,_,_,o,_,_,e,_⟩:=x;exact Heap.lt_size e
 |dT kvs=>obtain⟨_,_,_,_,o,_,_,e,_⟩:=x;exact Heap.lt_size e
 |set S n=>obtain⟨o,_,_,_,e,_⟩:=x;exact Heap.lt_size e
 |ins C dx fs=>obtain⟨_,_,_,e,_⟩:=x;exact Heap.lt_size e
 |own y=>obtain⟨_,e⟩:=x;exact Heap.lt_size e
 |xd fs=>obtain⟨_,⟨_,_,_,e,_⟩,_⟩:=x;exact Heap.lt_size e
 |rng lo hi=>obtain⟨_,_,_,e⟩:=x;exact Heap.lt_size e
 |eO ob u=>obtain⟨e,_⟩:=x;exact Heap.lt_size e
 |z9 ps=>exact Heap.lt_size (show h.get? a=some _ from x)
 |met f y=>exact Heap.lt_size (show h.get? a=some _ from x)
 |ext φ=>obtain⟨_,⟨_,e⟩,_⟩:=x;exact Heap.lt_size e
theorem Paired.Px {α β:Type}{F G:α->β->Prop}:∀{l₁:List α} {l₂:List β},Paired F l₁ l₂->(∀a b,F a b->G a b)->Paired G l₁ l₂
 |_,_,.nil,_=>.nil
 |_,_,.cons r t,f=>.cons (f _ _ r) (Paired.Px t f)
theorem dY.stay (x:dY P w H h a o)(k:∀b u,(b=a\/H b=some (.own a))->h.get? b=some u->h'.get? b=some u)
  (ho:∀b,H b=some (.own a)->H' b=some (.own a))(ht:∀b xs,H b=some (.tup xs)->H' b=some (.tup xs)):dY P w H' h' a o:=by
 induction o with
 |lst xs=>obtain⟨z,its,n,r,e⟩:=x;exact⟨z,its,n,r,k _ _ (.inl rfl) e⟩
 |tup xs=>obtain⟨z,its,r,ob,e,c⟩:=x;exact⟨z,its,r,ob,k _ _ (.inl rfl) e,c⟩
 |dK kvs=>obtain⟨z,y,vs,r,ob,es,ep,e,c⟩:=x;exact⟨z,y,vs,r,ob,es,ep,k _ _ (.inl rfl) e,c⟩
 |dT kvs=>
  obtain⟨z,y,xs,r,ob,es,ep,e,c⟩:=x
  exact⟨z,y,xs,Paired.Px r λp q z=>⟨z.1,ht _ _ z.2.1,z.2.2⟩,ob,es,ep,k _ _ (.inl rfl) e,c⟩
 |set S n=>obtain⟨ob,es,ep,t,e,c⟩:=x;exact⟨ob,es,ep,t,k _ _ (.inl rfl) e,c⟩
 |ins C dx fs=>
  obtain⟨d,z,ne,e,mA,⟨od,es,ep,e2,c⟩,r⟩:=x
  exact⟨ho _ d,z,ne,k _ _ (.inl rfl) e,mA,⟨od,es,ep,k _ _ (.inr d) e2,c⟩,r⟩
 |own y=>obtain⟨ob,e⟩:=x;exact⟨ob,k _ _ (.inl rfl) e⟩
 |xd fs=>obtain⟨mA,⟨od,es,ep,e,c⟩,r⟩:=x;exact⟨mA,⟨od,es,ep,k _ _ (.inl rfl) e,c⟩,r⟩
 |rng lo hi=>obtain⟨t,u,v,e⟩:=x;exact⟨t,u,v,k _ _ (.inl rfl) e⟩
 |eO ob u ih=>obtain⟨e,q⟩:=x;exact⟨k _ _ (.inl rfl) e,ih q⟩
 |z9 ps=>
  have e:h.get? a=some {cls:=.none,data:=.fields ps}:=x
  show h'.get? a=some {cls:=.none,data:=.fields ps}
  exact k a _ (.inl rfl) e
 |met f y=>
  have e:h.get? a=some (PySem.W.methodObj (.ref f) (.ref y)):=x
  show h'.get? a=some (PySem.W.methodObj (.ref f) (.ref y))
  exact k a _ (.inl rfl) e
 |ext φ=>obtain⟨p,⟨o,e⟩,st⟩:=x;exact⟨st _ _ p λo q=>k _ _ (.inl rfl) q,⟨o,k _ _ (.inl rfl) e⟩,st⟩
theorem fH.lt (x:fH P w H h)(e:H a=some o):a<h.objs.size:=(x a o e).lt
theorem fH.fresh (x:fH P w H h)(e:h.objs.size<=a):H a=none:=by
 cases q:H a with
 |none=>rfl
 |some u=>exact absurd (Nat.lt_of_lt_of_le (x.lt q) e) (Nat.lt_irrefl _)
theorem fH.kept (x:fH P w H h)(k:∀b u,h.get? b=some u->h'.get? b=some u):fH P w H h':=λa o e=>
 (x a o e).stay (λb u _ q=>k b u q) (λ_ q=>q) λ_ _ q=>q
theorem fH.laid (x:fH P w H h)(k:∀b u,h.get? b=some u->h'.get? b=some u)(hp:h.objs.size<=a)(new:dY P w (upd H a o) h' a o):fH P w (upd H a o) h':=λb u e=>by
 have hn:=x.fresh hp
 by_cases hb:b=a
 .subst hb;rw[ao] at e;cases e;exact new
 .rw[aq hb] at e
  exact(x b u e).stay (λc v _ q=>k c v q) (λc q=>by rw[aq (aR q hn)];exact q) λc xs q=>by rw[aq (aR q hn)];exact q
end
noncomputable def Rd (H:Hp)(a:Addr)(u:HO):Prop:=H a=some u\/∃o,H a=some (.eO o u)
theorem Rd.of {H:Hp}{a:Addr}{u:HO}(h:H a=some u):Rd H a u:=.inl h
theorem Rd.ok {P:Program}{w:World}{H:Hp}{h:Heap}{a:Addr}{u:HO}(r:Rd H a u)(x:fH P w H h):dY P w H h a u:=by
 rcases r with r|⟨o,r⟩
 .exact x a u r
 .obtain⟨_,q⟩:=x a _ r
  exact q
noncomputable def K9:Option HO->Prop
 |some (.lst _)=>True
 |some (.dK _)=>True
 |some (.dT _)=>True
 |some (.set _ _)=>True
 |some (.ins _ _ _)=>True
 |some (.ext _)=>True
 |_=>False
section
variable {P:Program}{w:World}{H:Hp}{h h':Heap}{x e:Addr}{o':HO}
theorem fH.write (ok:fH P w H h)(mu:K9 (H x))(he:e=x\/H e=some (.own x))(k:∀b u,b≠e->h.get? b=some u->h'.get? b=some u)(heo:∃u,h'.get? e=some u)
  (new:dY P w (upd H x o') h' x o'):fH P w (upd H x o') h':=λb u q=>by
 have YK:∀c y,H c=some (.own y)->c≠x:=λc y r z=>by subst z;rw[r] at mu;exact mu
 have aiV:∀c xs,H c=some (.tup xs)->c≠x:=λc xs r z=>by subst z;rw[r] at mu;exact mu
 by_cases hb:b=x
 .subst hb;rw[ao] at q;cases q;exact new
 .rw[aq hb] at q
  by_cases hbe:b=e
  .have q':H b=some (.own x):=by
    rcases he with z|z
    .exact absurd (hbe.trans z) hb
    .rw[hbe];exact z
   rw[q] at q';cases q'
   obtain⟨v,hv⟩:=heo
   exact⟨v,by rw[hbe];exact hv⟩
  .refine(ok b u q).stay (λc v hc r=>k c v ?_ r) (λc r=>by rw[aq (YK c b r)];exact r) λc xs r=>by rw[aq (aiV c xs r)];exact r
   rcases hc with rfl|hc
   .exact hbe
   .rintro rfl
    rcases he with z|z
    .exact YK c b hc z
    .rw[hc] at z;cases z;exact hb rfl
end
structure Un (fs ex:List Addr)(H H':Hp)(h h':Heap):Prop where
 keep:∀b o,h.get? b=some o->H b=none->b∉fs->b∉ex->h'.get? b=some o
 slot:∀b o,h.get? b=some o->H b=none->b∈fs->b∉ex->∃sl,h'.get? b=some {o with slots:=sl}
 free:∀b o,h.get? b=some o->H b=none->b∉ex->H' b=none
 there:∀b o,h.get? b=some o->b∉ex->∃o',h'.get? b=some o'
 tups:∀b xs,H b=some (.tup xs)->H' b=some (.tup xs)
 jX:∀b o u,H b=some (.eO o u)->H' b=some (.eO o u)
 kJ:∀b ps,H b=some (.z9 ps)->∃more,H' b=some (.z9 (ps++more))
section
variable {fs fs' ex ex':List Addr}{H H1 H2:Hp}{h h1 h2 h':Heap}{a x e:Addr}{o:HO}
theorem Un.any (u:Un fs ex H H1 h h1){b:Addr}{ob:Obj}(q:h.get? b=some ob)(n:H b=none)(hx:b∉ex):∃sl,h1.get? b=some {ob with slots:=sl}:=by
 by_cases hb:b∈fs
 .exact u.slot b ob q n hb hx
 .exact⟨ob.slots,u.keep b ob q n hb hx⟩
theorem Un.trans (a:Un fs ex H H1 h h1)(b:Un fs ex H1 H2 h1 h2):Un fs ex H H2 h h2 where
 keep:=λc ob q n hc hx=>b.keep c ob (a.keep c ob q n hc hx) (a.free c ob q n hx) hc hx
 slot:=λc ob q n hc hx=>by
  obtain⟨sl,e1⟩:=a.slot c ob q n hc hx
  obtain⟨sl',e2⟩:=b.slot c _ e1 (a.free c ob q n hx) hc hx
  exact⟨sl',e2⟩
 free:=λc ob q n hx=>by
  obtain⟨o',e1⟩:=a.there c ob q hx
  exact b.free c o' e1 (a.free c ob q n hx) hx
 there:=λc ob q hx=>by
  obtain⟨o',e1⟩:=a.there c ob q hx
  exact b.there c o' e1 hx
 tups:=λc xs q=>b.tups c xs (a.tups c xs q)
 jX:=λc ob xs q=>b.jX c ob xs (a.jX c ob xs q)
 kJ:=λc ps q=>by
  obtain⟨m1,e1⟩:=a.kJ c ps q
  obtain⟨m2,e2⟩:=b.kJ c _ e1
  exact⟨m1++m2,by rw[e2,Array.append_assoc]⟩
theorem Un.kept (k:∀b u,h.get? b=some u->h'.get? b=some u):Un fs ex H H h h':=
 ⟨λb ob q _ _ _=>k b ob q,λb ob q _ _ _=>⟨ob.slots,k b ob q⟩,λ_ _ _ n _=>n,λb ob q _=>⟨ob,k b ob q⟩,λ_ _ q=>q,λ_ _ _ q=>q,λ_ ps q=>⟨#[],by rw[q];simp⟩⟩
theorem Un.refl:Un fs ex H H h h:=Un.kept λ_ _ q=>q
theorem Un.laid (k:∀b u,h.get? b=some u->h'.get? b=some u)(hp:h.objs.size<=a)(hn:H a=none):Un fs ex H (upd H a o) h h' where
 keep:=λb u q _ _ _=>k b u q
 slot:=λb u q _ _ _=>⟨u.slots,k b u q⟩
 free:=λb u q n _=>by rw[aq (Nat.ne_of_lt (Nat.lt_of_lt_of_le (Heap.lt_size q) hp))];exact n
 there:=λb u q _=>⟨u,k b u q⟩
 tups:=λb xs q=>by rw[aq (aR q hn)];exact q
 jX:=λb u xs q=>by rw[aq (aR q hn)];exact q
 kJ:=λb ps q=>⟨#[],by rw[aq (aR q hn),q];simp⟩
theorem Un.write (mu:K9 (H x))(he:e=x\/H e=some (.own x))(k:∀b u,b≠e->h.get? b=some u->h'.get? b=some u)(heo:∃u,h'.get? e=some u):Un fs ex H (upd H x o) h h':=by
 have hx:∀b,H b=none->b≠x:=λb n z=>by subst z;rw[n] at mu;exact mu
 have hb:∀b,H b=none->b≠e:=λb n z=>by
  subst z
  rcases he with r|r
  .exact hx b n r
  .rw[n] at r;cases r
 have hm:∀b u,H b=some u->¬K9 (some u)->b≠x:=λb u q nm z=>by subst z;rw[q] at mu;exact nm mu
 refine⟨λb u q n _ _=>k b u (hb b n) q,λb u q n _ _=>⟨u.slots,k b u (hb b n) q⟩,λb u q n _=>by rw[aq (hx b n)];exact n,λb u q _=>?_,
  λb xs q=>by rw[aq (hm b _ q λz=>z)];exact q,λb u xs q=>by rw[aq (hm b _ q λz=>z)];exact q,λb ps q=>⟨#[],by rw[aq (hm b _ q λz=>z),q];simp⟩⟩
 by_cases hbe:b=e
 .subst hbe;exact heo
 .exact⟨u,k b u hbe q⟩
end
noncomputable def Uo (h:Heap)(H:Hp):List Addr:=(List.range h.objs.size).filter λa=>(H a).isSome
noncomputable def sS (h:Heap)(H:Hp):Heap:=PySem.W.hideAll h (Uo h H)
theorem La (h:Heap)(H:Hp):(sS h H).objs.size=h.objs.size:=PySem.W.hideAll_size _ _
theorem Py {h:Heap}{H:Hp}{b:Addr}{o:Obj}(e:h.get? b=some o)(n:H b=none):(sS h H).get? b=some o:=
 PySem.W.hideAll_get _ e λhm=>by
  have q:(H b).isSome=true:=(List.mem_filter.mp hm).2
  rw[n] at q;simp at q
theorem Wu {h:Heap}{H:Hp}{b:Addr}{o:Obj}(e:(sS h H).get? b=some o):h.get? b=some o/\H b=none:=by
 have e':h.get? b=some o:=PySem.W.of_hideAll (Uo h H) e
 refine⟨e',?_⟩
 cases q:H b with
 |none=>rfl
 |some x=>
  have hm:b∈Uo h H:=List.mem_filter.mpr ⟨List.mem_range.mpr (Heap.lt_size e'),by simp[q]⟩
  have z:(sS h H).get? b=none:=PySem.W.hideAll_none (Uo h H) hm
  rw[z] at e;cases e
noncomputable def Wv (g h:Heap)(L:Addr):List (Addr×Obj):=(List.range h.objs.size).filterMap λa=>if a=L\/(g.get? a).isSome=true then none else(h.get? a).map λo=>(a,o)
noncomputable def rest (g h:Heap)(L d:Addr):List (Addr×Obj):=(Wv g h L).filter λp=>decide (p.1≠d)
end L2
namespace L2
open PySem PySem.Spec PyProof.Rows
structure Mod (K:PySem.W.Frag)(mg:Str->Option Value)(base:Heap):Prop where
 v8:K.In base
 glob:base.Ns mainGlobals mg
 blt:∃mb,base.Ns builtinsNs mb/\∀x:Str,x≠"__name__"->mb x=bootBuiltins x
 nolimit:base.NoLimit
structure Cx where
 prog:Program
 w:World
 K:PySem.W.Frag
 mg:Str->Option Value
 base:Heap
 A:Around
 N:List Str
 s₀:Shared
 H₀:Hp
 env:Env
 outer:List Env
 stack:List Env
 ex:List Addr
 fn:Str->Bool
 calm:Bool
 pn:List (Addr×Obj)
 xe:Value->Shared->Prop
noncomputable def frs (l:List Env):List Addr:=l.filterMap (·.frame)
noncomputable abbrev Cx.fs (X:Cx):List Addr:=frs X.outer
noncomputable def Uq (sc:Scope)(x:Str):Prop:=sc.names.lookup x=some .local\/sc.names.lookup x=some .cell\/sc.names.lookup x=some .free
noncomputable def Loc (sc:Scope)(x:Str):Prop:=sc.names.lookup x=some .local\/sc.names.lookup x=some .cell
noncomputable def Look (env:Env)(h:Heap)(m:Str->Option Value)(x:Str)(u:Value):Prop:=
 (env.kindOf x=some .local/\m x=some u)\/((env.kindOf x=some .cell\/env.kindOf x=some .free)/\∃c,env.cells.lookup x=some c/\h.IsCell c (some u))
structure Cx.Ok (X:Cx):Prop where
 mod:Mod X.K X.mg X.base
 kind:X.env.scope.kind=.function
 glob:X.env.globals=mainGlobals
 blt:X.env.builtins=builtinsNs
 above:X.s₀.heap.objs.size<=X.env.locals
 inj:∀x y c,X.env.cells.lookup x=some c->X.env.cells.lookup y=some c->x=y
 has:∀x,(X.env.kindOf x=some .cell\/X.env.kindOf x=some .free)->∃c,X.env.cells.lookup x=some c
 cab:∀x c,X.fn x=true->X.env.cells.lookup x=some c->X.s₀.heap.objs.size<=c
 hd:X.calm=true->X.A.handled=none
 frames:X.A.frames=some X.stack
 stk:X.stack=X.outer\/(X.stack=X.env::X.outer/\X.env.frame=some X.env.locals)
 YL:∀b∈X.ex,b≠X.env.locals/\∀x c,X.env.cells.lookup x=some c->c≠b
 bs:∀b o,X.base.get? b=some o->X.s₀.heap.get? b=some o/\X.H₀ b=none
 uD:X.base.objs.size<=X.s₀.heap.objs.size
 za:∀b o,X.base.get? b=some o->b∉X.ex
 CQ:∀b∈X.ex,b∉X.fs
 lX:X.s₀.heap.FunFrames X.base X.outer
 Aa:∀b∈X.fs,X.H₀ b=none
structure Inv (X:Cx)(pins:List (Addr×Obj))(σ:List (Option V))(H:Hp)(s:Shared):Prop where
 ok:X.Ok
 os:s.os=X.s₀.os
 bare:AllBare s.gens
 base:Un X.fs X.ex X.H₀ H X.s₀.heap s.heap
 loc:∃m,s.heap.Ns X.env.locals m/\∀(i:Nat) (x:Str) (v:V),X.N[i]? =some x->σ[i]? =some (some v)->Uq X.env.scope x->∃u,RelV v u/\Look X.env s.heap m x u
 cell:∀x c,X.env.cells.lookup x=some c->∃v,s.heap.IsCell c v
 free:H X.env.locals=none
 iJ:∀x c,X.env.cells.lookup x=some c->H c=none
 pin:∀p∈X.pn++pins,s.heap.get? p.1=some p.2/\H p.1=none/\p.1≠X.env.locals/\p.1∉X.fs/\∀v,p.2.data≠ .cell v
 hok:fH X.prog X.w H s.heap
 len:σ.length=X.N.length
section
variable {X:Cx}{pins:List (Addr×Obj)}{σ:List (Option V)}{H H':Hp}{s:Shared}{h':Heap}
theorem Cx.Ok.aiW (ok:X.Ok){b:Addr}{o:Obj}(e:X.base.get? b=some o):b∉X.fs:=λhb=>by
 have:=(ok.lX.mem hb).1
 rw[e] at this;cases this
theorem Inv.bs (I:Inv X pins σ H s):∀b o,X.base.get? b=some o->s.heap.get? b=some o/\H b=none:=λb o e=>
 ⟨I.base.keep b o (I.ok.bs b o e).1 (I.ok.bs b o e).2 (I.ok.aiW e) (I.ok.za b o e),I.base.free b o (I.ok.bs b o e).1 (I.ok.bs b o e).2 (I.ok.za b o e)⟩
theorem Inv.bk (I:Inv X pins σ H s):∀b o,X.base.get? b=some o->s.heap.get? b=some o:=λb o e=>(I.bs b o e).1
theorem Inv.mod (I:Inv X pins σ H s):Mod X.K X.mg X.base:=I.ok.mod
theorem Inv.gG (I:Inv X pins σ H s):X.K.In s.heap:=I.ok.mod.v8.keeps I.bk
theorem Inv.fr (I:Inv X pins σ H s):∃m,Fr X.base X.env.locals s.heap m:=
 let⟨m,hn,_⟩:=I.loc
 ⟨m,hn,I.bk,Nat.le_trans I.ok.uD I.ok.above⟩
theorem Inv.lt (I:Inv X pins σ H s):X.env.locals<s.heap.objs.size:=let⟨_,hn,_⟩:=I.loc;hn.lt
theorem Inv.sz (I:Inv X pins σ H s):X.s₀.heap.objs.size<=s.heap.objs.size:=Nat.le_trans I.ok.above (Nat.le_of_lt I.lt)
theorem Inv.aiX (I:Inv X pins σ H s){a:Addr}(h:s.heap.objs.size<=a):a∉X.fs:=λhb=>by
 obtain⟨_,o,ho,_⟩:=I.ok.lX.mem hb
 exact absurd (Nat.lt_of_lt_of_le (Heap.lt_size ho) (Nat.le_trans I.sz h)) (Nat.lt_irrefl _)
theorem Inv.xH (I:Inv X pins σ H s):∀x c,X.env.cells.lookup x=some c->c≠X.env.locals:=λx c e z=>by
 obtain⟨v,o,ho,hd⟩:=I.cell x c e
 obtain⟨m,⟨o',es,ep,ho',hd',_⟩,_⟩:=I.loc
 rw[z,ho'] at ho;cases ho;rw[hd'] at hd;cases hd
theorem Inv.lX (I:Inv X pins σ H s):s.heap.FunFrames X.base X.outer:=by
 have all:∀(l:List Env),(∀b∈frs l,b∈X.fs)->X.s₀.heap.FunFrames X.base l->s.heap.FunFrames X.base l:=by
  intro l
  induction l with
  |nil=>intro _ _;trivial
  |cons env r ih=>
   intro hs hl
   obtain⟨hk,⟨L,o,hf,hn,ho,hd⟩,hr⟩:=hl
   have hL:L∈X.fs:=hs L (by unfold frs;rw[List.filterMap_cons,hf];exact List.mem_cons_self)
   obtain⟨sl,e⟩:=I.base.slot L o ho (I.ok.Aa L hL) hL λz=>I.ok.CQ L z hL
   exact⟨hk,⟨L,_,hf,hn,e,hd⟩,ih (λb hb=>hs b (by unfold frs;rw[List.filterMap_cons,hf];exact List.mem_cons_of_mem _ hb)) hr⟩
 exact all X.outer (λ_ hb=>hb) I.ok.lX
theorem Inv.stack (I:Inv X pins σ H s):s.heap.FunFrames X.base X.stack:=by
 rcases I.ok.stk with e|⟨e,hf⟩
 .rw[e];exact I.lX
 .rw[e]
  obtain⟨m,hn,_⟩:=I.loc
  refine .cons (by rw[I.ok.kind];decide) hf hn ?_ I.lX
  exact Heap.get?_none_of_le (Nat.le_trans I.ok.uD I.ok.above)
theorem Inv.xJ (I:Inv X pins σ H s):∀b∈frs X.stack,b∈X.env.locals::X.fs:=λb hb=>by
 rcases I.ok.stk with e|⟨e,hf⟩
 .rw[e] at hb;exact List.mem_cons_of_mem _ hb
 .rw[e] at hb
  unfold frs at hb
  rw[List.filterMap_cons,hf] at hb
  exact hb
theorem Inv.vm (I:Inv X pins σ H s):∀b∈frs X.stack,H b=none:=λb hb=>by
 rcases List.mem_cons.mp (I.xJ b hb) with e|hb
 .rw[e];exact I.free
 .obtain⟨_,o,ho,_⟩:=I.ok.lX.mem hb
  exact I.base.free b o ho (I.ok.Aa b hb) λz=>I.ok.CQ b z hb
theorem Inv.step {g':Array GenState}{t':Nat}{d':Drawn}{ch:List Addr}(I:Inv X pins σ H s)
  (hch:∀b∈ch,(b∈X.ex\/X.s₀.heap.objs.size<=b)/\b≠X.env.locals/\(∀x c,X.env.cells.lookup x=some c->c≠b)/\∀p∈X.pn++pins,p.1≠b)
  (keep:∀b o,b≠X.env.locals->b∉X.fs->b∉ch->s.heap.get? b=some o->H b=none->h'.get? b=some o)
  (slot:∀b o,b≠X.env.locals->b∈X.fs->b∉ch->s.heap.get? b=some o->H b=none->∃sl,h'.get? b=some {o with slots:=sl})(free:∀b o,b∉ch->s.heap.get? b=some o->H b=none->H' b=none)
  (there:∀b o,b∉ch->s.heap.get? b=some o->∃o',h'.get? b=some o')
  (tups:∀b xs,H b=some (.tup xs)->H' b=some (.tup xs))(jX:∀b o u,H b=some (.eO o u)->H' b=some (.eO o u))(kJ:∀b ps,H b=some (.z9 ps)->∃more,H' b=some (.z9 (ps++more)))
  (ns:∀m,s.heap.Ns X.env.locals m->h'.Ns X.env.locals m)(hok:fH X.prog X.w H' h')(hg:AllBare g'):
  Inv X pins σ H' {s with heap:=h',gens:=g',drawn:=d',toks:=t'}:=by
 have neL:∀b o,X.s₀.heap.get? b=some o->b≠X.env.locals:=λb o e=>Nat.ne_of_lt (Nat.lt_of_lt_of_le (Heap.lt_size e) I.ok.above)
 have Ur:∀b o,X.s₀.heap.get? b=some o->b∉X.ex->b∉ch:=λb o e hx hb=>by
  rcases(hch b hb).1 with z|z
  .exact hx z
  .exact absurd (Nat.lt_of_lt_of_le (Heap.lt_size e) z) (Nat.lt_irrefl _)
 have cellK:∀x c,X.env.cells.lookup x=some c->∀v,s.heap.IsCell c v->h'.IsCell c v:=λx c e v ⟨o,ho,hd⟩=>by
  have Lb:c∉ch:=λz=>(hch c z).2.2.1 x c e rfl
  by_cases hc:c∈X.fs
  .obtain⟨sl,q⟩:=slot c o (I.xH x c e) hc Lb ho (I.iJ x c e)
   exact⟨_,q,hd⟩
  .exact⟨o,keep c o (I.xH x c e) hc Lb ho (I.iJ x c e),hd⟩
 refine⟨I.ok,I.os,hg,⟨λb o e n hb hx=>?_,λb o e n hb hx=>?_,λb o e n hx=>?_,λb o e hx=>?_,λb xs e=>tups b xs (I.base.tups b xs e),λb o xs e=>jX b o xs (I.base.jX b o xs e),λb ps e=>?_⟩,?_,λx c e=>?_,?_,λx c e=>?_,λp hp=>?_,hok,I.len⟩
 .exact keep b o (neL b o e) hb (Ur b o e hx) (I.base.keep b o e n hb hx) (I.base.free b o e n hx)
 .obtain⟨sl,e1⟩:=I.base.slot b o e n hb hx
  obtain⟨sl',e2⟩:=slot b _ (neL b o e) hb (Ur b o e hx) e1 (I.base.free b o e n hx)
  exact⟨sl',e2⟩
 .obtain⟨o',e1⟩:=I.base.there b o e hx
  exact free b o' (Ur b o e hx) e1 (I.base.free b o e n hx)
 .obtain⟨o',e1⟩:=I.base.there b o e hx
  exact there b o' (Ur b o e hx) e1
 .obtain⟨m1,e1⟩:=I.base.kJ b ps e
  obtain⟨m2,e2⟩:=kJ b _ e1
  exact⟨m1++m2,by rw[e2,Array.append_assoc]⟩
 .obtain⟨m,hn,hl⟩:=I.loc
  refine⟨m,ns m hn,λi x v e1 e2 e3=>?_⟩
  obtain⟨u,r,l⟩:=hl i x v e1 e2 e3
  refine⟨u,r,?_⟩
  rcases l with l|⟨k,c,e,z⟩
  .exact .inl l
  .exact .inr ⟨k,c,e,cellK x c e _ z⟩
 .obtain⟨v,z⟩:=I.cell x c e
  exact⟨v,cellK x c e v z⟩
 .obtain⟨m,⟨o,_,_,ho,_⟩,_⟩:=I.loc
  exact free _ o (λz=>(hch _ z).2.1 rfl) ho I.free
 .obtain⟨v,o,ho,hd⟩:=I.cell x c e
  exact free c o (λz=>(hch c z).2.2.1 x c e rfl) ho (I.iJ x c e)
 .obtain⟨e,n,ne,nf,d⟩:=I.pin p hp
  have Lb:p.1∉ch:=λz=>(hch p.1 z).2.2.2 p hp rfl
  exact⟨keep p.1 p.2 ne nf Lb e n,free p.1 p.2 Lb e n,ne,nf,d⟩
theorem Inv.un {t':Nat}(I:Inv X pins σ H s)(u:Un X.fs [] H H' s.heap h')(hok:fH X.prog X.w H' h'):Inv X pins σ H' {s with heap:=h',toks:=t'}:=by
 obtain⟨m,⟨o,es,ep,ho,r⟩,_⟩:=id I.loc
 obtain⟨sl,hL⟩:=u.any ho I.free (by simp)
 exact I.step (g':=s.gens) (d':=s.drawn) (ch:=[]) (λ_ z=>nomatch z) (λb o _ hb _ e n=>u.keep b o e n hb (by simp)) (λb o _ hb _ e n=>u.slot b o e n hb (by simp)) (λb o _ e n=>u.free b o e n (by simp)) (λb o _ e=>u.there b o e (by simp)) u.tups u.jX u.kJ (λm' hm=>by
  obtain⟨o',es',ep',ho',r'⟩:=hm
  rw[ho] at ho';cases ho'
  exact⟨_,es',ep',hL,r'⟩) hok I.bare
theorem Inv.call {g':Array GenState}{t':Nat}{d':Drawn}{ch:List Addr}(I:Inv X pins σ H s)(u:Un (frs X.stack) ch H H' s.heap h')(hok:fH X.prog X.w H' h')(hg:AllBare g')
  (hch:∀b∈ch,(b∈X.ex\/X.s₀.heap.objs.size<=b)/\b≠X.env.locals/\(∀x c,X.env.cells.lookup x=some c->c≠b)/\∀p∈X.pn++pins,p.1≠b):
  Inv X pins σ H' {s with heap:=h',gens:=g',drawn:=d',toks:=t'}:=by
 obtain⟨m,⟨o,es,ep,ho,r⟩,_⟩:=id I.loc
 obtain⟨sl,hL⟩:=u.any ho I.free λz=>(hch _ z).2.1 rfl
 exact I.step (ch:=ch) hch (λb o hL hb hc e n=>u.keep b o e n (λz=>(List.mem_cons.mp (I.xJ b z)).elim hL hb) hc) (λb o _ _ hc e n=>u.any e n hc) (λb o hc e n=>u.free b o e n hc) (λb o hc e=>u.there b o e hc) u.tups u.jX u.kJ (λm' hm=>by
  obtain⟨o',es',ep',ho',r'⟩:=hm
  rw[ho] at ho';cases ho'
  exact⟨_,es',ep',hL,r'⟩) hok hg
theorem Inv.turned {t':Nat}{it:Addr}(I:Inv X pins σ H s)(k:∀b o,b≠it->s.heap.get? b=some o->h'.get? b=some o)(hn:H it=none)(hL:it≠X.env.locals)
  (h1:it∈X.ex\/X.s₀.heap.objs.size<=it)(h2:∀x c,X.env.cells.lookup x=some c->c≠it)(h3:∀p∈X.pn++pins,p.1≠it):Inv X pins σ H {s with heap:=h',toks:=t'}:=by
 have Ab:∀b u,H b=some u->b≠it:=λb u e z=>by rw[z,hn] at e;cases e
 refine I.step (g':=s.gens) (d':=s.drawn) (ch:=[it]) (λb hb=>?_) (λb o _ _ hc e _=>k b o (λz=>hc (by simp[z])) e) (λb o _ _ hc e _=>⟨o.slots,k b o (λz=>hc (by simp[z])) e⟩) (λ_ _ _ _ n=>n)
  (λb o hc e=>⟨o,k b o (λz=>hc (by simp[z])) e⟩) (λ_ _ e=>e) (λ_ _ _ e=>e) (λb ps e=>⟨#[],by rw[e];simp⟩) (λm hm=>?_) (λb u e=>?_) I.bare
 .have e:b=it:=by simpa using hb
  subst e
  exact⟨h1,hL,h2,h3⟩
 .obtain⟨o,es,ep,ho,r⟩:=hm
  exact⟨o,es,ep,k _ o (Ne.symm hL) ho,r⟩
 .refine(I.hok b u e).stay (λc v hc q=>k c v ?_ q) (λ_ q=>q) λ_ _ q=>q
  rcases hc with z|z
  .rw[z];exact Ab b u e
  .exact Ab c _ z
theorem Inv.tok (I:Inv X pins σ H s)(t:Nat):Inv X pins σ H {s with toks:=t}:=I.un (h':=s.heap) (t':=t) Un.refl I.hok
theorem Inv.kept {t':Nat}(I:Inv X pins σ H s)(k:∀b u,s.heap.get? b=some u->h'.get? b=some u):Inv X pins σ H {s with heap:=h',toks:=t'}:=I.un (Un.kept k) (I.hok.kept k)
theorem Inv.laid {a:Addr}{o:HO}{t':Nat}(I:Inv X pins σ H s)(k:∀b u,s.heap.get? b=some u->h'.get? b=some u)(hp:s.heap.objs.size<=a)(new:dY X.prog X.w (upd H a o) h' a o):
  Inv X pins σ (upd H a o) {s with heap:=h',toks:=t'}:=I.un (Un.laid k hp (I.hok.fresh hp)) (I.hok.laid k hp new)
theorem Inv.write {x e:Addr}{o:HO}{t':Nat}(I:Inv X pins σ H s)(mu:K9 (H x))(he:e=x\/H e=some (.own x))(k:∀b u,b≠e->s.heap.get? b=some u->h'.get? b=some u)(heo:∃u,h'.get? e=some u)
  (new:dY X.prog X.w (upd H x o) h' x o):Inv X pins σ (upd H x o) {s with heap:=h',toks:=t'}:=I.un (Un.write mu he k heo) (I.hok.write mu he k heo new)
theorem Inv.weak {σ':List (Option V)}(I:Inv X pins σ H s)(hl:σ'.length=σ.length)(w:∀(i:Nat) v,σ'[i]? =some (some v)->σ[i]? =some (some v)):Inv X pins σ' H s:=
 ⟨I.ok,I.os,I.bare,I.base,let⟨m,hn,hl'⟩:=I.loc;⟨m,hn,λi x v e1 e2 e3=>hl' i x v e1 (w i v e2) e3⟩,I.cell,I.free,I.iJ,I.pin,I.hok,hl.trans I.len⟩
theorem Inv.G5 {Us:List (Addr×Obj)}(I:Inv X pins σ H s)(h:∀p∈Us,s.heap.get? p.1=some p.2/\H p.1=none/\p.1≠X.env.locals/\p.1∉X.fs/\∀v,p.2.data≠ .cell v):Inv X Us σ H s:=
 ⟨I.ok,I.os,I.bare,I.base,I.loc,I.cell,I.free,I.iJ,λp hp=>(List.mem_append.mp hp).elim (λz=>I.pin p (List.mem_append_left _ z)) (h p),I.hok,I.len⟩
theorem CT {N:List Str}(hN:N.Nodup){i j:Nat}{x:Str}(a:N[i]? =some x)(b:N[j]? =some x):i=j:=by
 obtain⟨h1,e1⟩:=List.getElem?_eq_some_iff.mp a
 obtain⟨h2,e2⟩:=List.getElem?_eq_some_iff.mp b
 exact(List.getElem_inj hN).mp (e1.trans e2.symm)
theorem Ac {M:Model}{A:Around}{E:Value->Shared->Prop}{i:Nat}{x:Str}{v:V}{u:Value}{Q:Unit->Shared->Prop}(I:Inv X pins σ H s)(hN:X.N.Nodup)(hi:X.N[i]? =some x)(hx:Loc X.env.scope x)(r:RelV v u)
  (h:∀s',Inv X pins (σ.set i (some v)) H s'->(∃a,Heap.SameBut a s.heap s'.heap/\(a=X.env.locals\/X.env.cells.lookup x=some a))->Q () s')(hf:X.fn x=true\/X.env.scope.names.lookup x=some .local:=by first|exact .inl rfl|exact .inr rfl|assumption):wpAny M A (storeName X.env x u) Q E s:=by
 obtain⟨m,hn,hl⟩:=id I.loc
 have hcls:(X.env.scope.kind==.class||(X.env.scope.kind==.module && X.env.locals !=X.env.globals))=false:=by rw[I.ok.kind];rfl
 have CV:i<σ.length:=by rw[I.len];exact(List.getElem?_eq_some_iff.mp hi).1
 have xH:=I.xH
 have tracked:∀{a:Addr}{h':Heap},(∃o,s.heap.get? a=some o/\H a=none)->Heap.SameBut a s.heap h'->fH X.prog X.w H h':=λ{a h'} ha hs b ob e=>by
  obtain⟨_,_,hfree⟩:=ha
  refine(I.hok b ob e).stay (λc w' hc q=>(hs.2 c ?_).trans q) (λ_ q=>q) λ_ _ q=>q
  rintro rfl
  rcases hc with rfl|hc
  .rw[hfree] at e;cases e
  .rw[hfree] at hc;cases hc
 rcases hx with hk|hk
 .refine wpAny_storeName_local hk hn (λh' hn' hs=>?_) hcls
  obtain⟨oL,_,_,hoL,_⟩:=id hn
  refine h _ ⟨I.ok,I.os,I.bare,⟨λb o e n hb hx=>?_,λb o e n hb hx=>?_,I.base.free,λb o e hx=>?_,I.base.tups,I.base.jX,I.base.kJ⟩,⟨_,hn',λj y v' e1 e2 e3=>?_⟩,λy c e=>?_,I.free,I.iJ,λp hp=>?_,tracked ⟨oL,hoL,I.free⟩ hs,by simpa using I.len⟩ ⟨_,hs,.inl rfl⟩
  .exact(hs.2 b (Nat.ne_of_lt (Nat.lt_of_lt_of_le (Heap.lt_size e) I.ok.above))).trans (I.base.keep b o e n hb hx)
  .obtain⟨sl,e1⟩:=I.base.slot b o e n hb hx
   exact⟨sl,(hs.2 b (Nat.ne_of_lt (Nat.lt_of_lt_of_le (Heap.lt_size e) I.ok.above))).trans e1⟩
  .obtain⟨o',e1⟩:=I.base.there b o e hx
   exact⟨o',(hs.2 b (Nat.ne_of_lt (Nat.lt_of_lt_of_le (Heap.lt_size e) I.ok.above))).trans e1⟩
  .by_cases hj:j=i
   .subst hj
    rw[hi] at e1;cases e1
    rw[List.getElem?_set_self CV] at e2
    cases e2
    exact⟨u,r,.inl ⟨hk,by simp⟩⟩
   .rw[List.getElem?_set_ne (Ne.symm hj)] at e2
    obtain⟨u',r',q⟩:=hl j y v' e1 e2 e3
    refine⟨u',r',?_⟩
    rcases q with⟨k,e⟩|⟨k,c,e,z⟩
    .refine .inl ⟨k,?_⟩
     have:y≠x:=λe=>hj (CT hN e1 (e▸hi))
     simp[this,e]
    .exact .inr ⟨k,c,e,z.sameBut hs (xH y c e)⟩
  .obtain⟨w',z⟩:=I.cell y c e
   exact⟨w',z.sameBut hs (xH y c e)⟩
  .obtain⟨e,n,ne,nf,d⟩:=I.pin p hp
   exact⟨(hs.2 p.1 ne).trans e,n,ne,nf,d⟩
 .have hfn:X.fn x=true:=by
   rcases hf with z|z
   .exact z
   .rw[z] at hk;cases hk
  obtain⟨c,hc⟩:=I.ok.has x (.inl hk)
  obtain⟨w',z⟩:=I.cell x c hc
  refine wpAny_storeName_cell I.ok.kind hk hc z (λh' hc' hs=>?_)
  obtain⟨oc,hoc,aiY⟩:=id z
  refine h {s with heap:=h'} ⟨I.ok,I.os,I.bare,⟨λb o e n hb hx=>?_,λb o e n hb hx=>?_,I.base.free,λb o e hx=>?_,I.base.tups,I.base.jX,I.base.kJ⟩,⟨m,hn.sameBut hs (Ne.symm (xH x c hc)),λj y v' e1 e2 e3=>?_⟩,λy c' e=>?_,I.free,I.iJ,λp hp=>?_,tracked ⟨oc,hoc,I.iJ x c hc⟩ hs,by simpa using I.len⟩ ⟨c,hs,.inr hc⟩
  .exact(hs.2 b (Nat.ne_of_lt (Nat.lt_of_lt_of_le (Heap.lt_size e) (I.ok.cab x c hfn hc)))).trans (I.base.keep b o e n hb hx)
  .obtain⟨sl,e1⟩:=I.base.slot b o e n hb hx
   exact⟨sl,(hs.2 b (Nat.ne_of_lt (Nat.lt_of_lt_of_le (Heap.lt_size e) (I.ok.cab x c hfn hc)))).trans e1⟩
  .obtain⟨o',e1⟩:=I.base.there b o e hx
   exact⟨o',(hs.2 b (Nat.ne_of_lt (Nat.lt_of_lt_of_le (Heap.lt_size e) (I.ok.cab x c hfn hc)))).trans e1⟩
  .by_cases hj:j=i
   .subst hj
    rw[hi] at e1;cases e1
    rw[List.getElem?_set_self CV] at e2
    cases e2
    exact⟨u,r,.inr ⟨.inl hk,c,hc,hc'⟩⟩
   .rw[List.getElem?_set_ne (Ne.symm hj)] at e2
    obtain⟨u',r',q⟩:=hl j y v' e1 e2 e3
    refine⟨u',r',?_⟩
    rcases q with q|⟨k,c',e,z'⟩
    .exact .inl q
    .refine .inr ⟨k,c',e,z'.sameBut hs ?_⟩
     rintro rfl
     exact hj (CT hN e1 (I.ok.inj _ _ _ e hc▸hi))
  .by_cases hcc:c'=c
   .subst hcc;exact⟨_,hc'⟩
   .obtain⟨w2,z2⟩:=I.cell y c' e
    exact⟨w2,z2.sameBut hs hcc⟩
  .obtain⟨e,n,ne,nf,d⟩:=I.pin p hp
   refine⟨(hs.2 p.1 ?_).trans e,n,ne,nf,d⟩
   intro q
   rw[q,hoc] at e
   have q':oc=p.2:=Option.some.inj e
   exact d w' (by rw[<-q'];exact aiY)
theorem sU {M:Model}{A:Around}{E:Value->Shared->Prop}{i:Nat}{x:Str}{v:V}{u:Value}{Q:Unit->Shared->Prop}(I:Inv X pins σ H s)(hN:X.N.Nodup)(hi:X.N[i]? =some x)(hx:Loc X.env.scope x)(r:RelV v u)
  (h:∀s',Inv X pins (σ.set i (some v)) H s'->Q () s')(hf:X.fn x=true\/X.env.scope.names.lookup x=some .local:=by first|exact .inl rfl|exact .inr rfl|assumption):wpAny M A (storeName X.env x u) Q E s:=
 Ac I hN hi hx r (λs' I' _=>h s' I') hf
theorem Inv.call' {s':Shared}{ch:List Addr}(I:Inv X pins σ H s)(ho:s'.os=s.os)(u:Un (frs X.stack) ch H H' s.heap s'.heap)(hok:fH X.prog X.w H' s'.heap)(hg:AllBare s'.gens)
  (hch:∀b∈ch,(b∈X.ex\/X.s₀.heap.objs.size<=b)/\b≠X.env.locals/\(∀x c,X.env.cells.lookup x=some c->c≠b)/\∀p∈X.pn++pins,p.1≠b):Inv X pins σ H' s':=by
 obtain⟨h',g',d',t',o'⟩:=s'
 have e:o'=s.os:=ho
 subst e
 exact I.call (g':=g') (t':=t') (d':=d') u hok hg hch
end
noncomputable abbrev XK:=Value->Option Addr->Hp->Prop
noncomputable abbrev St:=List (Option V)
noncomputable abbrev VK:=V->Hp->Prop
noncomputable abbrev TE:=St->Hp->VK->Prop
noncomputable abbrev TT:=St->Hp->(Bool->Hp->Prop)->Prop
noncomputable abbrev TA:=St->Hp->(List V->Hp->Prop)->Prop
structure Ends where
 nx:St->Hp->Prop
 rt:VK
 bk:St->Hp->Prop:=λ_ _=>False
 ct:St->Hp->Prop:=λ_ _=>False
noncomputable abbrev TS:=Ends->St->Hp->Prop
noncomputable def EP (X:Cx)(pins:List (Addr×Obj))(σ:St)(Q:VK)(u:Value)(s':Shared):Prop:=∃v H',Inv X pins σ H' s'/\RelV v u/\Q v H'
noncomputable def TP (X:Cx)(pins:List (Addr×Obj))(σ:St)(Q:Bool->Hp->Prop)(b:Bool)(s':Shared):Prop:=∃H',Inv X pins σ H' s'/\Q b H'
noncomputable def AP (X:Cx)(pins:List (Addr×Obj))(σ:St)(Q:List V->Hp->Prop)(us:List Value)(s':Shared):Prop:=∃vs H',Inv X pins σ H' s'/\Vals vs us/\Q vs H'
noncomputable def SP (X:Cx)(pins:List (Addr×Obj))(D:Ends)(f:Flow)(s':Shared):Prop:=
 match f with
 |.next=>∃σ' H',Inv X pins σ' H' s'/\D.nx σ' H'
 |.brk=>∃σ' H',Inv X pins σ' H' s'/\D.bk σ' H'
 |.cont=>∃σ' H',Inv X pins σ' H' s'/\D.ct σ' H'
 |.ret u=>∃v σ' H',Inv X pins σ' H' s'/\RelV v u/\D.rt v H'
noncomputable def PE (X:Cx)(e:Expr)(t:TE):Prop:=
 ∀(pins:List (Addr×Obj)) (s:Shared) (σ:St) (H:Hp) (Q:VK),Inv X pins σ H s->t σ H Q->wpAny (model X.prog X.w) X.A (eval e X.env) (EP X pins σ Q) X.xe s
noncomputable def PT (X:Cx)(e:Expr)(t:TT):Prop:=
 ∀(pins:List (Addr×Obj)) (s:Shared) (σ:St) (H:Hp) (Q:Bool->Hp->Prop),Inv X pins σ H s->t σ H Q->wpAny (model X.prog X.w) X.A (isTrue e X.env (eval e X.env)) (TP X pins σ Q) X.xe s
noncomputable def PW (X:Cx)(e:Expr)(t:TT):Prop:=
 ∀(whole:Sem Value) (pins:List (Addr×Obj)) (s:Shared) (σ:St) (H:Hp) (Q:Bool->Hp->Prop),Inv X pins σ H s->t σ H Q->wpAny (model X.prog X.w) X.A (isTrue e X.env whole) (TP X pins σ Q) X.xe s
theorem PW.pt {X:Cx}{e:Expr}{t:TT}(h:PW X e t):PT X e t:=h _
noncomputable def PA (X:Cx)(es:List Expr)(t:TA):Prop:=
 ∀(pos:Pos) (pins:List (Addr×Obj)) (s:Shared) (σ:St) (H:Hp) (Q:List V->Hp->Prop),Inv X pins σ H s->t σ H Q->wpAny (model X.prog X.w) X.A (spliced (backTo pos (starEach es X.env))) (AP X pins σ Q) X.xe s
noncomputable def PS (X:Cx)(st:Stmt)(t:TS):Prop:=
 ∀(pins:List (Addr×Obj)) (s:Shared) (σ:St) (H:Hp) (D:Ends),Inv X pins σ H s->t D σ H->wpAny (model X.prog X.w) X.A (exec st X.env) (SP X pins D) X.xe s
noncomputable def gW (X:Cx)(st:List Stmt)(t:TS):Prop:=
 ∀(pins:List (Addr×Obj)) (s:Shared) (σ:St) (H:Hp) (D:Ends),Inv X pins σ H s->t D σ H->wpAny (model X.prog X.w) X.A (execs st X.env) (SP X pins D) X.xe s
theorem aQ {α:Type}{t:Sem α}{Q Q':α->Shared->Prop}{M:Model}{A:Around}{E:Value->Shared->Prop}{s:Shared}(h:wpAny M A t Q E s)(hQ:∀a s,Q a s->Q' a s):wpAny M A t Q' E s:=wpAny_mono h hQ λ_ _ x=>x
end L2
namespace L2
open PySem PySem.Spec PyProof.Rows
section
variable {X:Cx}
theorem bin {a b:Expr}{ta tb:TE}(ha:PE X a ta)(hb:PE X b tb){pins:List (Addr×Obj)}{s:Shared}{σ:St}{H:Hp}{R:V->V->Hp->Prop}(I:Inv X pins σ H s)(h:ta σ H λx H1=>tb σ H1 λy H2=>R x y H2)
  {α:Type}{Q:α->Shared->Prop}{f:Value->Value->Sem α}
  (hf:∀v u s2 x y H2,Inv X pins σ H2 s2->RelV x v->RelV y u->R x y H2->wpAny (model X.prog X.w) X.A (f v u) Q X.xe s2):
  wpAny (model X.prog X.w) X.A (eval a X.env) (λv s₁=>wpAny (model X.prog X.w) X.A (eval b X.env) (λu s₂=>wpAny (model X.prog X.w) X.A (f v u) Q X.xe s₂) X.xe s₁) X.xe s:=by
 refine aQ (ha pins s σ H _ I h) λv s1 ⟨x,H1,I1,r1,q1⟩=>?_
 refine aQ (hb pins s1 σ H1 _ I1 q1) λu s2 ⟨y,H2,I2,r2,q2⟩=>?_
 exact hf v u s2 x y H2 I2 r1 r2 q2
noncomputable def Pz (i:Nat):TE:=λσ H Q=>∃v,σ[i]? =some (some v)/\Q v H
noncomputable def tC (v:V):TE:=λ_ H Q=>Q v H
theorem Ld {i:Nat}{x:Str}{pos:Pos}(hN:X.N[i]? =some x)(hv:Uq X.env.scope x)(hd:(x==("__debug__":Str))=false:=by decide)(hcd:(x==("__classdict__":Str))=false:=by decide):PE X (.Name x pos) (Pz i):=by
 intro pins s σ H Q I h
 obtain⟨v,e,h⟩:=h
 obtain⟨m,hn,hl⟩:=I.loc
 obtain⟨u,r,l⟩:=hl i x v hN e hv
 have fin:EP X pins σ Q u s:=⟨v,H,I,r,h⟩
 rcases l with⟨hk,hm⟩|⟨hk,c,hc,hcell⟩
 .exact wpAny_Name (wpAny_loadName_local I.ok.kind hk hn hm fin) hd
 .rcases hk with hk|hk
  .exact wpAny_Name (wpAny_loadName_cell I.ok.kind hk hc hcell fin) hd
  .exact wpAny_Name (wpAny_loadName_free I.ok.kind hk hc hcell fin hcd) hd
theorem au {i j pos}:PE X (.Constant (.int i) j pos) (tC (.int i)):=λ_ _ _ H _ I h=>wpAny_Constant_int ⟨.int i,H,I.tok _,⟨_,rfl⟩,h⟩
theorem iY {b j pos}:PE X (.Constant (.bool b) j pos) (tC (.bl b)):=λ_ _ _ H _ I h=>Constant_bool ⟨.bl b,H,I,rfl,h⟩
theorem oX {j pos}:PE X (.Constant .none j pos) (tC .non):=λ_ _ _ H _ I h=>Constant_none ⟨.non,H,I,rfl,h⟩
theorem bV {x j pos}:PE X (.Constant (.str x) j pos) (tC (.str x)):=λ_ _ _ H _ I h=>Calls.Constant_str ⟨.str x,H,I.tok _,⟨_,rfl⟩,h⟩
noncomputable def Gl (X:Cx)(x:Str):Prop:=X.env.kindOf x=some .globalImplicit
theorem jO {E:Value->Shared->Prop}{pins:List (Addr×Obj)}{s:Shared}{σ:St}{H:Hp}{x:Str}{u:Value}{pos:Pos}{Q:Value->Shared->Prop}(I:Inv X pins σ H s)(hg:Gl X x)(hm:X.mg x=some u)(h:Q u s)
  (hd:(x==("__debug__":Str))=false:=by decide):wpAny (model X.prog X.w) X.A (eval (.Name x pos) X.env) Q E s:=
 Calls.Name_function_global I.ok.kind hg (Calls.loadGlobal_global (by rw[I.ok.glob];exact I.mod.glob.keeps I.bk) hm h) hd
theorem xK {E:Value->Shared->Prop}{pins:List (Addr×Obj)}{s:Shared}{σ:St}{H:Hp}{x:Str}{u:Value}{pos:Pos}{Q:Value->Shared->Prop}(I:Inv X pins σ H s)(hg:Gl X x)(hm:X.mg x=none)(hv:bootBuiltins x=some u)(h:Q u s)
  (hn:x≠"__name__":=by decide)(hd:(x==("__debug__":Str))=false:=by decide):wpAny (model X.prog X.w) X.A (eval (.Name x pos) X.env) Q E s:=by
 obtain⟨mb,h1,h2⟩:=I.mod.blt
 exact Calls.Name_function_global I.ok.kind hg (Calls.loadGlobal_builtin (by rw[I.ok.glob];exact I.mod.glob.keeps I.bk) hm (by rw[I.ok.blt];exact h1.keeps I.bk) ((h2 x hn).trans hv) h) hd
theorem oG {x:Str}{v:V}{u:Value}{pos:Pos}(hg:Gl X x)(hm:X.mg x=some u)(r:RelV v u)(hd:(x==("__debug__":Str))=false:=by decide):PE X (.Name x pos) (tC v):=
 λ_ _ _ H _ I h=>jO I hg hm ⟨v,H,I,r,h⟩ hd
theorem Ww {x:Str}{v:V}{u:Value}{pos:Pos}(hg:Gl X x)(hm:X.mg x=none)(hv:bootBuiltins x=some u)(r:RelV v u)(hn:x≠"__name__":=by decide)(hd:(x==("__debug__":Str))=false:=by decide):PE X (.Name x pos) (tC v):=
 λ_ _ _ H _ I h=>xK I hg hm hv ⟨v,H,I,r,h⟩ hn hd
variable {a b:Expr}{ta tb:TE}{pos:Pos}
noncomputable def PC (X:Cx)(op:CmpOp)(a b:Expr)(t:TE):Prop:=
 ∀(pins:List (Addr×Obj)) (s:Shared) (σ:St) (H:Hp) (Q:VK),Inv X pins σ H s->t σ H Q->
  wpAny (model X.prog X.w) X.A (eval a X.env) (λv s₁=>wpAny (model X.prog X.w) X.A (eval b X.env) (λu s₂=>wpAny (model X.prog X.w) X.A (compareOp op v u) (EP X pins σ Q) X.xe s₂) X.xe s₁) X.xe s
theorem CW (b:Expr){op:CmpOp}(h:op≠ .In)(h2:op≠ .NotIn):behindInMarks op b=false:=by
 have e1:(op==CmpOp.In)=false:=by cases op<;>first|rfl|exact absurd rfl h
 have e2:(op==CmpOp.NotIn)=false:=by cases op<;>first|rfl|exact absurd rfl h2
 cases b<;>simp[behindInMarks,e1,e2]
noncomputable def PB (ta:TE):TE:=λσ H Q=>ta σ H λx H1=>Q (.bl (decide (x=.non))) H1
theorem RelV.PJ {x:V}{v:Value}(r:RelV x v):(v==Value.none)=decide (x=.non):=by
 cases x with
 |non=>cases r;rfl
 |bl _=>cases r;rfl
 |int _=>obtain⟨t,rfl⟩:=r;rfl
 |str _=>obtain⟨t,rfl⟩:=r;rfl
 |uz _=>obtain⟨t,rfl⟩:=r;rfl
 |flt _=>obtain⟨t,rfl⟩:=r;rfl
 |ref _=>cases r;rfl
 |ty _=>cases r;rfl
theorem Le {j pos'}(ha:PE X a ta):PC X .Is a (.Constant .none j pos') (PB ta):=by
 intro pins s σ H Q I h
 refine aQ (ha pins s σ H _ I h) λv s1 ⟨x,H1,I1,r1,q1⟩=>?_
 exact Constant_none (is_none_gen ⟨.bl _,H1,I1,by rw[r1.PJ];rfl,q1⟩)
noncomputable def tB (t:TE):TT:=λσ H Q=>t σ H λx H1=>∃c,x=.bl c/\Q c H1
theorem YM {op:CmpOp}{t:TE}(h:PC X op a b t)(h1:behindInMarks op b=false:=by first|exact CW _ (by decide) (by decide)|rfl):PE X (.Compare a [op] [b] pos) t:=λpins s σ H Q I hw=>wpAny_Compare1 (h pins s σ H Q I hw) h1
theorem xM {op:CmpOp}{t:TE}(h:PC X op a b t)(h1:behindInMarks op b=false:=by first|exact CW _ (by decide) (by decide)|rfl):PT X (.Compare a [op] [b] pos) (tB t):=by
 intro pins s σ H Q I hw
 refine wpAny_isTrue_Compare1 (aQ (h pins s σ H _ I hw) λv s1 h1=>aQ h1 λu s2 h2=>aQ h2 λc s3 ⟨x,H1,I1,r1,q1⟩=>?_) h1
 obtain⟨d,rfl,q⟩:=q1
 cases r1
 exact wpAny_truthy_bool ⟨H1,I1,q⟩
variable {tA Ut:TT}{rest:List Expr}
noncomputable def CZ (t u:TT):TT:=λσ H Q=>t σ H λc H1=>if c=true then u σ H1 Q else Q false H1
noncomputable def Dc (t u:TT):TT:=λσ H Q=>t σ H λc H1=>if c=true then Q true H1 else u σ H1 Q
noncomputable def uE (t:TT):TT:=λσ H Q=>t σ H λc H1=>Q (!c) H1
theorem rF (ha:PT X a tA):PW X (.BoolOp .And [a] pos) tA:=by
 intro wh pins s σ H Q I h
 refine isTrue_and (aQ (ha pins s σ H Q I h) λc s1 e=>?_)
 cases c with
 |true=>exact isTrue_and_nil e
 |false=>exact e
theorem rG (ha:PT X a tA):PW X (.BoolOp .Or [a] pos) tA:=by
 intro wh pins s σ H Q I h
 refine isTrue_or (aQ (ha pins s σ H Q I h) λc s1 e=>?_)
 cases c with
 |false=>exact isTrue_or_nil e
 |true=>exact e
theorem uF (ha:PT X a tA)(hb:PW X (.BoolOp .And (b::rest) pos) Ut):PW X (.BoolOp .And (a::b::rest) pos) (CZ tA Ut):=by
 intro wh pins s σ H Q I h
 refine isTrue_and (aQ (ha pins s σ H _ I h) λc s1 ⟨H1,I1,q1⟩=>?_)
 cases c with
 |true=>exact hb wh pins s1 σ H1 Q I1 q1
 |false=>exact⟨H1,I1,q1⟩
theorem sV (ha:PT X a tA)(hb:PW X (.BoolOp .Or (b::rest) pos) Ut):PW X (.BoolOp .Or (a::b::rest) pos) (Dc tA Ut):=by
 intro wh pins s σ H Q I h
 refine isTrue_or (aQ (ha pins s σ H _ I h) λc s1 ⟨H1,I1,q1⟩=>?_)
 cases c with
 |true=>exact⟨H1,I1,q1⟩
 |false=>exact hb wh pins s1 σ H1 Q I1 q1
theorem iM (ha:PT X a tA):PT X (.UnaryOp .Not a pos) (uE tA):=by
 intro pins s σ H Q I h
 exact isTrue_not (ha pins s σ H (λc H1=>Q (!c) H1) I h)
noncomputable def Uu (ta tb:TE):TE:=λσ H Q=>ta σ H λx H1=>∃c,x=.bl c/\if c=true then tb σ H1 Q else Q (.bl false) H1
noncomputable def YQ (ta tb:TE):TE:=λσ H Q=>ta σ H λx H1=>∃c,x=.bl c/\if c=true then Q (.bl true) H1 else tb σ H1 Q
theorem xO {op}{t:TE}(h:PE X a t):PE X (.BoolOp op [a] pos) t:=λpins s σ H Q I hw=>BoolOp_one (h pins s σ H Q I hw)
theorem YS (ha:PE X a ta)(hb:PE X (.BoolOp .And (b::rest) pos) tb):PE X (.BoolOp .And (a::b::rest) pos) (Uu ta tb):=by
 intro pins s σ H Q I h
 refine BoolOp_and (aQ (ha pins s σ H _ I h) λv s1 ⟨x,H1,I1,r1,q1⟩=>?_)
 obtain⟨c,rfl,q1⟩:=q1
 cases r1
 refine wpAny_truthy_bool ?_
 cases c with
 |true=>exact hb pins s1 σ H1 Q I1 q1
 |false=>exact⟨.bl false,H1,I1,rfl,q1⟩
theorem afN (ha:PE X a ta)(hb:PE X (.BoolOp .Or (b::rest) pos) tb):PE X (.BoolOp .Or (a::b::rest) pos) (YQ ta tb):=by
 intro pins s σ H Q I h
 refine BoolOp_or (aQ (ha pins s σ H _ I h) λv s1 ⟨x,H1,I1,r1,q1⟩=>?_)
 obtain⟨c,rfl,q1⟩:=q1
 cases r1
 refine wpAny_truthy_bool ?_
 cases c with
 |false=>exact hb pins s1 σ H1 Q I1 q1
 |true=>exact⟨.bl true,H1,I1,rfl,q1⟩
end
end L2
namespace L2
open PySem PySem.Spec PyProof.Rows
noncomputable def bQ (K:PySem.W.Frag)(H:Hp)(a:Addr)(xs:List V):Prop:=
 Rd H a (.lst xs)\/
  ∃(o:Obj) (its:Array Value) (n:Nat),K.lookup a=some o/\o.cls=.type "list"/\o.dict=none/\o.data=.seq its n/\its.size<=sizeLine/\Vals xs its.toList
noncomputable def bM (K:PySem.W.Frag)(H:Hp)(a:Addr)(xs:List V):Prop:=
 Rd H a (.tup xs)\/
  ∃(o:Obj) (its:Array Value) (n:Nat),K.lookup a=some o/\o.cls=.type "tuple"/\o.data=.seq its n/\its.size<=sizeLine/\Vals xs its.toList
noncomputable def aiZ:Value->Option V
 |.none=>some .non
 |.bool b=>some (.bl b)
 |.int i _=>some (.int i)
 |.str x _=>some (.str x)
 |.bytes b _=>some (.uz b)
 |.float b _=>some (.flt b)
 |.ref a=>some (.ref a)
 |.type n=>some (.ty n)
 |_=>none
theorem RelV.abs {x:V}{u:Value}(r:RelV x u):aiZ u=some x:=by
 cases x with
 |non=>cases r;rfl
 |bl _=>cases r;rfl
 |int _=>obtain⟨t,rfl⟩:=r;rfl
 |str _=>obtain⟨t,rfl⟩:=r;rfl
 |uz _=>obtain⟨t,rfl⟩:=r;rfl
 |flt _=>obtain⟨t,rfl⟩:=r;rfl
 |ref _=>cases r;rfl
 |ty _=>cases r;rfl
theorem RelV.inj {x y:V}{u:Value}(r:RelV x u)(q:RelV y u):x=y:=Option.some.inj (r.abs.symm.trans q.abs)
theorem Vals.inj:∀{xs ys:List V}{us:List Value},Vals xs us->Vals ys us->xs=ys
 |_,_,_,.nil,.nil=>rfl
 |_,_,_,.cons r t,.cons r' t'=>by rw[r.inj r',Vals.inj t t']
section
variable {X:Cx}{pins:List (Addr×Obj)}{σ:St}{H:Hp}{s:Shared}{a:Addr}{xs ys:List V}
theorem bQ.of {K:PySem.W.Frag}(h:H a=some (.lst xs)):bQ K H a xs:=.inl (.inl h)
theorem bM.of {K:PySem.W.Frag}(h:H a=some (.tup xs)):bM K H a xs:=.inl (.inl h)
theorem Inv.list (I:Inv X pins σ H s)(h:bQ X.K H a xs):∃its:List Value,Vals xs its/\PlainL s.heap a its.toArray/\xs.length<=sizeLine:=by
 rcases h with h|⟨o,its,n,hk,hc,hd,hs,hz,r⟩
 .obtain⟨z,its,n,r,e⟩:=h.ok I.hok
  exact⟨its,r,⟨_,n,e,rfl,rfl,rfl⟩,z⟩
 .refine⟨its.toList,r,⟨o,n,I.gG a o hk,hc,hd,by simpa using hs⟩,?_⟩
  have e:=r.length
  simp only[Array.length_toList] at e
  omega
theorem Inv.tuple (I:Inv X pins σ H s)(h:bM X.K H a xs):∃its:List Value,Vals xs its/\IsTup s.heap a its.toArray/\xs.length<=sizeLine:=by
 rcases h with h|⟨o,its,n,hk,hc,hs,hz,r⟩
 .obtain⟨z,its,r,p⟩:=h.ok I.hok
  exact⟨its,r,p,z⟩
 .refine⟨its.toList,r,⟨o,I.gG a o hk,hc,n,by simpa using hs⟩,?_⟩
  have e:=r.length
  simp only[Array.length_toList] at e
  omega
theorem Inv.PK (I:Inv X pins σ H s)(h:bQ X.K H a xs)(h':bQ X.K H a ys):xs=ys:=by
 obtain⟨its,r,⟨o,n,e,_,_,d⟩,_⟩:=I.list h
 obtain⟨its',r',⟨o',n',e',_,_,d'⟩,_⟩:=I.list h'
 rw[e] at e';cases e'
 rw[d] at d'
 injection d' with d1 _
 have:its=its':=by simpa using congrArg Array.toList d1
 subst this
 exact r.inj r'
theorem Inv.Lf (I:Inv X pins σ H s)(h:bM X.K H a xs)(h':bM X.K H a ys):xs=ys:=by
 obtain⟨its,r,⟨o,e,_,n,d⟩,_⟩:=I.tuple h
 obtain⟨its',r',⟨o',e',_,n',d'⟩,_⟩:=I.tuple h'
 rw[e] at e';cases e'
 rw[d] at d'
 injection d' with d1 _
 have:its=its':=by simpa using congrArg Array.toList d1
 subst this
 exact r.inj r'
end
noncomputable abbrev Cx.wish (X:Cx)(E:Value->Shared->Prop):Cx:={X with xe:=E}
noncomputable abbrev Cx.oY (X:Cx):Cx:=X.wish λ_ _=>False
theorem Cx.Ok.wish {X:Cx}(ok:X.Ok)(E:Value->Shared->Prop):(X.wish E).Ok:=
 ⟨ok.mod,ok.kind,ok.glob,ok.blt,ok.above,ok.inj,ok.has,ok.cab,ok.hd,ok.frames,ok.stk,ok.YL,ok.bs,ok.uD,ok.za,ok.CQ,ok.lX,ok.Aa⟩
theorem Cx.Ok.gP {X:Cx}{E:Value->Shared->Prop}(ok:(X.wish E).Ok):X.Ok:=
 ⟨ok.mod,ok.kind,ok.glob,ok.blt,ok.above,ok.inj,ok.has,ok.cab,ok.hd,ok.frames,ok.stk,ok.YL,ok.bs,ok.uD,ok.za,ok.CQ,ok.lX,ok.Aa⟩
section
variable {X:Cx}{pins:List (Addr×Obj)}{σ:St}{H:Hp}{s:Shared}{E:Value->Shared->Prop}
theorem Inv.wish (I:Inv X pins σ H s)(E:Value->Shared->Prop):Inv (X.wish E) pins σ H s:=⟨I.ok.wish E,I.os,I.bare,I.base,I.loc,I.cell,I.free,I.iJ,I.pin,I.hok,I.len⟩
theorem Inv.gP (I:Inv (X.wish E) pins σ H s):Inv X pins σ H s:=⟨I.ok.gP,I.os,I.bare,I.base,I.loc,I.cell,I.free,I.iJ,I.pin,I.hok,I.len⟩
theorem SP.gP {D:Ends}{f:Flow}{s':Shared}(h:SP (X.wish E) pins D f s'):SP X pins D f s':=by
 cases f with
 |next=>obtain⟨σ',H',I,q⟩:=h;exact⟨σ',H',I.gP,q⟩
 |brk=>obtain⟨σ',H',I,q⟩:=h;exact⟨σ',H',I.gP,q⟩
 |cont=>obtain⟨σ',H',I,q⟩:=h;exact⟨σ',H',I.gP,q⟩
 |ret u=>obtain⟨v,σ',H',I,r,q⟩:=h;exact⟨v,σ',H',I.gP,r,q⟩
theorem gW.oY {st:List Stmt}{t:TS}(h:gW X.oY st t):gW X st t:=λpins s σ H D I hw=>
 wpAny_mono (h pins s σ H D (I.wish _) hw) (λ_ _ q=>q.gP) λ_ _ z=>False.elim z
end
section
variable {X:Cx}{st:Stmt}{rest:List Stmt}{t u:TS}{e:Expr}{te:TE}{pos:Pos}
noncomputable def dR:TS:=λD σ H=>D.nx σ H
noncomputable def gA (t u:TS):TS:=λD σ H=>t {D with nx:=u D} σ H
theorem bR:gW X [] dR:=λ_ _ σ H _ I h=>wpAny_execs_nil ⟨σ,H,I,h⟩
theorem aH (h1:PS X st t)(h2:gW X rest u):gW X (st::rest) (gA t u):=by
 intro pins s σ H D I h
 refine wpAny_execs_cons (aQ (h1 pins s σ H {D with nx:=u D} I h) λf s1 q=>?_)
 cases f with
 |next=>
  obtain⟨σ',H',I',q⟩:=q
  exact h2 pins s1 σ' H' D I' q
 |ret v=>exact q
 |brk=>exact q
 |cont=>exact q
theorem aM (h1:PS X st t):gW X [st] t:=by
 intro pins s σ H D I h
 refine wpAny_execs_cons (aQ (h1 pins s σ H D I h) λf s1 q=>?_)
 cases f with
 |next=>exact wpAny_execs_nil q
 |ret v=>exact q
 |brk=>exact q
 |cont=>exact q
theorem Inv.quiet {pins:List (Addr×Obj)}{σ:St}{H:Hp}{s:Shared}(I:Inv X pins σ H s):interactive X.env=false:=by simp[interactive,I.ok.kind]
noncomputable def gq (te:TE):TS:=λD σ H=>te σ H λ_ H1=>D.nx σ H1
theorem fK (he:PE X e te)(hs:swapsWith e none pos.line X.env=pure false:=by rfl):PS X (.Expr e pos) (gq te):=by
 intro pins s σ H D I h
 exact wpAny_Expr_any (aQ (he pins s σ H _ I h) λv s1 ⟨x,H1,I1,r1,q1⟩=>⟨σ,H1,I1,q1⟩) I.quiet hs
noncomputable def qN (te:TE):TS:=λD σ H=>te σ H D.rt
theorem cN (he:PE X e te):PS X (.Return (some e) pos) (qN te):=by
 intro pins s σ H D I h
 exact wpAny_Return_some (aQ (he pins s σ H _ I h) λv s1 ⟨x,H1,I1,r1,q1⟩=>⟨x,σ,H1,I1,r1,q1⟩)
noncomputable def d8 (c:TT)(t u:TS):TS:=λD σ H=>c σ H λb H1=>if b=true then t D σ H1 else u D σ H1
theorem cM {c:Expr}{a b:List Stmt}{tc:TT}(hc:PT X c tc)(ha:gW X a t)(hb:gW X b u):PS X (.If c a b pos) (d8 tc t u):=by
 intro pins s σ H D I h
 refine wpAny_If (aQ (hc pins s σ H _ I h) λd s1 ⟨H1,I1,q1⟩=>?_)
 cases d with
 |true=>exact ha pins s1 σ H1 D I1 q1
 |false=>exact hb pins s1 σ H1 D I1 q1
end
noncomputable abbrev TG:=V->St->Hp->(St->Hp->Prop)->Prop
noncomputable abbrev v9:=List V->St->Hp->(St->Hp->Prop)->Prop
noncomputable def PG (X:Cx)(target:Expr)(t:TG):Prop:=
 ∀(pins:List (Addr×Obj)) (s:Shared) (σ:St) (H:Hp) (v:V) (u:Value) (Q:St->Hp->Prop),Inv X pins σ H s->RelV v u->t v σ H Q->
  wpAny (model X.prog X.w) X.A (assign target X.env u) (λ_ s'=>∃σ' H',Inv X pins σ' H' s'/\Q σ' H') X.xe s
noncomputable def xP (X:Cx)(ts:List Expr)(t:v9):Prop:=
 ∀(pins:List (Addr×Obj)) (s:Shared) (σ:St) (H:Hp) (vs:List V) (us:List Value) (Q:St->Hp->Prop),Inv X pins σ H s->Vals vs us->t vs σ H Q->
  wpAny (model X.prog X.w) X.A (assignInOrder ((assignEach ts X.env).map (·.2)) us) (λ_ s'=>∃σ' H',Inv X pins σ' H' s'/\Q σ' H') X.xe s
noncomputable abbrev Dd:=V->V->V->Hp->(Hp->Prop)->Prop
noncomputable def wM (X:Cx)(t:Dd):Prop:=
 ∀(pins:List (Addr×Obj)) (s:Shared) (σ:St) (H:Hp) (o i v:V) (ov iv u:Value) (Q:Hp->Prop),Inv X pins σ H s->RelV o ov->RelV i iv->RelV v u->t o i v H Q->
  wpAny (model X.prog X.w) X.A (setItem ov iv u) (λ_ s'=>∃H',Inv X pins σ H' s'/\Q H') X.xe s
noncomputable abbrev TIp:=V->V->Hp->VK->Prop
noncomputable def Uv (X:Cx)(op:Operator)(t:TIp):Prop:=
 ∀(pins:List (Addr×Obj)) (s:Shared) (σ:St) (H:Hp) (x y:V) (v u:Value) (Q:VK),Inv X pins σ H s->RelV x v->RelV y u->t x y H Q->
  wpAny (model X.prog X.w) X.A (inplaceOp op v u) (EP X pins σ Q) X.xe s
section
variable {X:Cx}{pos:Pos}
noncomputable def fG (i:Nat):TG:=λv σ H Q=>Q (σ.set i (some v)) H
theorem aO {i:Nat}{x:Str}(hN:X.N.Nodup)(hi:X.N[i]? =some x)(hx:Loc X.env.scope x)(hf:X.fn x=true\/X.env.scope.names.lookup x=some .local:=by first|exact .inl rfl|exact .inr rfl|assumption):PG X (.Name x pos) (fG i):=by
 intro pins s σ H v u Q I r h
 exact wpAny_assign_Name (sU I hN hi hx r (λs' I'=>⟨_,H,I',h⟩) hf)
noncomputable def ai0 (K:PySem.W.Frag)(n:Nat)(t:v9):TG:=λv σ H Q=>∃a xs,v=.ref a/\bM K H a xs/\xs.length=n/\t xs σ H Q
theorem YT {es:List Expr}{k:Nat}{t:v9}{n:Nat}(hc:X.calm=true)(h:xP X es t)
  (hn:(assignEach es X.env).length=n:=by rfl)(hst:(assignEach es X.env).findIdx? (·.1)=none:=by rfl):PG X (.Tuple es k pos) (ai0 X.K n t):=by
 intro pins s σ H v u Q I r hw
 obtain⟨a,xs,e1,hq,hl,hw⟩:=hw
 subst e1
 cases r
 obtain⟨its,rv,ht,hz⟩:=I.tuple hq
 refine assign_Tuple_tuple (I.ok.hd hc) ht (by simp[hn,←hl,rv.length]) hst λh' hx=>?_
 have I1:Inv X pins σ H {s with heap:=h'}:=I.kept (t':=s.toks) λb o e=>hx b o (Nat.ne_of_lt (Heap.lt_size e)) e
 exact h pins _ σ H xs _ Q I1 (by simpa using rv) hw
noncomputable def zc (to ti:TE)(t:Dd):TG:=λv σ H Q=>to σ H λo H1=>ti σ H1 λi H2=>t o i v H2 λH3=>Q σ H3
theorem Lg {o i:Expr}{to ti:TE}{t:Dd}(ho:PE X o to)(hi:PE X i ti)(hs:wM X t)
  (ha:∀v,assign (.Subscript o i pos) X.env v=(do
   let ov<-holding [v] (eval o X.env)
   let iv<-holding [v,ov] (eval i X.env)
   standAt pos
   holding [v,ov,iv] (setItem ov iv v)
   release [v,ov,iv] []):=by intro _;rfl):PG X (.Subscript o i pos) (zc to ti t):=by
 intro pins s σ H v u Q I r h
 rw[ha]
 refine wpAny_bind (wpAny_holding (aQ (ho pins s σ H _ I h) λov s1 ⟨x,H1,I1,r1,q1⟩=>?_))
 refine wpAny_bind (wpAny_holding (aQ (hi pins s1 σ H1 _ I1 q1) λiv s2 ⟨y,H2,I2,r2,q2⟩=>?_))
 refine wpAny_bind (wpAny_standAt (wpAny_bind (wpAny_holding (aQ (hs pins s2 σ H2 x y v ov iv u _ I2 r1 r2 r q2) λ_ s3 ⟨H3,I3,q3⟩=>?_))))
 exact wpAny_release ⟨σ,H3,I3,q3⟩
noncomputable def g8 (te:TE)(g:TG):TS:=λD σ H=>te σ H λx H1=>g x σ H1 D.nx
theorem bI {tg e:Expr}{te:TE}{g:TG}(he:PE X e te)(hg:PG X tg g)(hs:swapsWithSole [tg] e pos.line X.env=pure false:=by rfl)(hw:swappedStores [tg] e X.env=pure none:=by rfl)
  (h1:(assignEach [tg] X.env).map (·.2)=[assign tg X.env]:=by rfl):PS X (.Assign [tg] e pos) (g8 te g):=by
 intro pins s σ H D I h
 refine wpAny_Assign_stores (aQ (he pins s σ H _ I h) λv s1 ⟨x,H1,I1,r1,q1⟩=>?_) hs hw
 rw[h1]
 exact aQ (hg pins s1 σ H1 x v _ I1 r1 q1) λ_ s2 q=>q
theorem fV {i:Nat}{x:Str}{e:Expr}{te:TE}{pos':Pos}(hN:X.N.Nodup)(hi:X.N[i]? =some x)(hx:Loc X.env.scope x)(he:PE X e te)(hs:swapsWith e (some (.Name x pos')) pos.line X.env=pure false:=by rfl)(hf:X.fn x=true\/X.env.scope.names.lookup x=some .local:=by first|exact .inl rfl|exact .inr rfl|assumption):
  PS X (.Assign [.Name x pos'] e pos) (g8 te (fG i)):=by
 intro pins s σ H D I h
 refine wpAny_Assign_Name (aQ (he pins s σ H _ I h) λv s1 ⟨y,H1,I1,r1,q1⟩=>?_) hs
 exact sU I1 hN hi hx r1 (λs2 I2=>⟨_,H1,I2,q1⟩) hf
end
section
variable {X:Cx}{pos:Pos}
end
structure It where
 go:Nat->Hp->Prop
 Df:Nat->Hp->V->Hp->Prop
 stop:Nat->Hp->Prop
noncomputable def lY (X:Cx)(pins:List (Addr×Obj))(H:Hp)(b:Addr):Prop:=
 H b=none/\b≠X.env.locals/\b∉X.fs/\(b∈X.ex\/X.s₀.heap.objs.size<=b)/\(∀x c,X.env.cells.lookup x=some c->c≠b)/\∀p∈X.pn++pins,p.1≠b
theorem Inv.zf {X:Cx}{pins:List (Addr×Obj)}{σ:St}{H H':Hp}{s:Shared}{b:Addr}(I:Inv X pins σ H s)(hb:s.heap.objs.size<=b)(hn:H' b=none):lY X pins H' b:=by
 refine⟨hn,Nat.ne_of_gt (Nat.lt_of_lt_of_le I.lt hb),I.aiX hb,.inr (Nat.le_trans I.sz hb),λx c e z=>?_,λp hp z=>?_⟩
 .obtain⟨v,q⟩:=I.cell x c e
  exact absurd (Nat.lt_of_lt_of_le q.lt (by rw[z];exact hb)) (Nat.lt_irrefl _)
 .exact absurd (Nat.lt_of_lt_of_le (Heap.lt_size (I.pin p hp).1) (by rw[z];exact hb)) (Nat.lt_irrefl _)
structure Turn (P:Program)(w:World)(K:PySem.W.Frag)(tg:Expr)(J:It)(fp:List Addr)(it:Addr)(tn:Nat->Heap->Prop):Prop where
 mem:it∈fp
 obj:∀i h,tn i h->∀b∈fp,∃o,h.get? b=some o/\∀v,o.data≠ .cell v
 keep:∀i h h',tn i h->(∀b∈fp,∀o,h.get? b=some o->h'.get? b=some o)->tn i h'
 item:∀(X:Cx),X.prog=P->X.w=w->X.K=K->X.calm=true->∀(i:Nat) (pins:List (Addr×Obj)) (s:Shared) (σ:St) (H:Hp) (E:Value->Shared->Prop),Inv X pins σ H s->(∀b∈fp,lY X pins H b)->tn i s.heap->J.go i H->
  wpAny (model P w) X.A (pyNext (.ref it)) (λr s1=>∃u,r=some u/\
   wpAny (model P w) X.A (letOwnedTupleGo tg (.ref it) u) (λ_ s2=>∃x H',Inv X pins σ H' s2/\RelV x u/\J.Df i H x H'/\tn (i+1) s2.heap/\∀b∈fp,H' b=none) E s1) E s
 done:∀(X:Cx),X.prog=P->X.w=w->X.K=K->X.calm=true->∀(i:Nat) (pins:List (Addr×Obj)) (s:Shared) (σ:St) (H:Hp) (E:Value->Shared->Prop),Inv X pins σ H s->(∀b∈fp,lY X pins H b)->tn i s.heap->J.stop i H->
  wpAny (model P w) X.A (pyNext (.ref it)) (λr s1=>r=none/\Inv X pins σ H s1) E s
 self:∀(A:Around) (i:Nat) (s:Shared) (Q:Value->Shared->Prop) (E:Value->Shared->Prop),tn i s.heap->Q (.ref it) s->wpAny (model P w) A (pyIter (.ref it)) Q E s
noncomputable abbrev TI:=St->Hp->(It->Hp->Prop)->Prop
noncomputable def PIE (X:Cx)(pins:List (Addr×Obj))(σ:St)(tg:Expr)(R:It->Hp->Prop)(itv:Value)(s2:Shared):Prop:=
 ∃(it:Addr) (fp:List Addr) (tn:Nat->Heap->Prop) (J:It) (H':Hp),itv=.ref it/\Inv X pins σ H' s2/\Turn X.prog X.w X.K tg J fp it tn/\tn 0 s2.heap/\(∀b∈fp,lY X pins H' b)/\R J H'
noncomputable def PI (X:Cx)(tg iter:Expr)(wi:TI):Prop:=
 ∀(pins:List (Addr×Obj)) (s:Shared) (σ:St) (H:Hp) (R:It->Hp->Prop),Inv X pins σ H s->wi σ H R->
  wpAny (model X.prog X.w) X.A (eval iter X.env) (λv s1=>wpAny (model X.prog X.w) X.A (pyIter v) (PIE X pins σ tg R) X.xe s1) X.xe s
theorem Ca {M:Model}{A:Around}{E:Value->Shared->Prop}{s:Shared}{tg:Expr}{it:Addr}{u:Value}{o:Obj}{n:String}{vs:Array Value}{Q:Unit->Shared->Prop}(ho:s.heap.get? it=some o)(hc:o.cls=.type n)(hd:o.data=.fields vs)
    (hn:["enumerate","zip","dict_itemiterator","dict_reverseitemiterator","odict_iterator","itertools.zip_longest","itertools.pairwise"].contains n=false)(hQ:Q () s):wpAny M A (letOwnedTupleGo tg (.ref it) u) Q E s:=by
  unfold letOwnedTupleGo
  cases tg<;>first
    |exact wpAny_pure hQ
    |(cases u<;>first
        |exact wpAny_pure hQ
        |(refine wpAny_bind (wpAny_load ho ?_)
          rw[hc,hd]
          show wpAny M A (if(["enumerate","zip","dict_itemiterator","dict_reverseitemiterator","odict_iterator","itertools.zip_longest","itertools.pairwise"].contains n && vs[0]? ==some (rawInt _))=true then _ else _) Q E s
          rw[if_neg (by intro h;rw[hn,Bool.false_and] at h;cases h)]
          exact wpAny_pure hQ))
noncomputable def wg (K:PySem.W.Frag)(a:Addr):It:=
 ⟨λi H=>∃xs x,bQ K H a xs/\xs[i]? =some x,λi H x H'=>H'=H/\∀xs,bQ K H a xs->xs[i]? =some x,λi H=>∃xs,bQ K H a xs/\xs.length<=i⟩
noncomputable def Dg (K:PySem.W.Frag)(a:Addr):It:=
 ⟨λi H=>∃xs x,bM K H a xs/\xs[i]? =some x,λi H x H'=>H'=H/\∀xs,bM K H a xs->xs[i]? =some x,λi H=>∃xs,bM K H a xs/\xs.length<=i⟩
noncomputable def Uw (lo:Int)(n:Nat):It:=⟨λi _=>i<n,λi H x H'=>H'=H/\x=.int (lo+i),λi _=>n<=i⟩
theorem Lh {P:Program}{w:World}{K:PySem.W.Frag}{tg:Expr}(a it:Addr):Turn P w K tg (wg K a) [it] it (λi h=>h.IsListIter it a i) where
 mem:=by simp
 obj:=λi h st b hb=>by
  have e:b=it:=by simpa using hb
  subst e
  obtain⟨o,e,c,d⟩:=st
  exact⟨o,e,λv z=>by rw[d] at z;cases z⟩
 keep:=λi h h' st k=>st.at λo e=>k it (by simp) o e
 item:=by
  intro X hP hw hK hc i pins s σ H E I hf st hg
  subst hP hw hK
  obtain⟨xs,x,hq,hx⟩:=hg
  obtain⟨its,rv,p,hz⟩:=I.list hq
  obtain⟨u,hu,ru⟩:=rv.get hx
  obtain⟨f0,f1,f2,f3,f4,f5⟩:=hf it (by simp)
  refine wpAny_pyNext_list_item st p.isList (x:=u) (by simpa using hu) λh' st' sb=>?_
  have I1:Inv X pins σ H {s with heap:=h'}:=I.turned (t':=s.toks) (λb o hb e=>(sb.2 b hb).trans e) f0 f1 f3 f4 f5
  obtain⟨o,e,c,d⟩:=id st'
  exact⟨u,rfl,Ca (s:={s with heap:=h'}) e c d (by decide) ⟨x,H,I1,ru,⟨rfl,λys hy=>by rw[I.PK hy hq];exact hx⟩,st',λb hb=>(hf b hb).1⟩⟩
 done:=by
  intro X hP hw hK hc i pins s σ H E I hf st hg
  subst hP hw hK
  obtain⟨xs,hq,hx⟩:=hg
  obtain⟨its,rv,p,hz⟩:=I.list hq
  obtain⟨f0,f1,f2,f3,f4,f5⟩:=hf it (by simp)
  have hl:=rv.length
  exact wpAny_pyNext_list_end (I.ok.hd hc) st p.isList (by simp;omega) λh' eb=>⟨rfl,I.turned (t':=s.toks) (λb o hb e=>eb b o hb e) f0 f1 f3 f4 f5⟩
 self:=λ_ _ _ _ _ st h=>wpAny_pyIter_listiter st h
theorem Jd {P:Program}{w:World}{K:PySem.W.Frag}{tg:Expr}(a it:Addr):Turn P w K tg (Dg K a) [it] it (λi h=>h.IsTupleIter it a i) where
 mem:=by simp
 obj:=λi h st b hb=>by
  have e:b=it:=by simpa using hb
  subst e
  obtain⟨o,e,c,d⟩:=st
  exact⟨o,e,λv z=>by rw[d] at z;cases z⟩
 keep:=λi h h' st k=>st.at λo e=>k it (by simp) o e
 item:=by
  intro X hP hw hK hc i pins s σ H E I hf st hg
  subst hP hw hK
  obtain⟨xs,x,hq,hx⟩:=hg
  obtain⟨its,rv,p,hz⟩:=I.tuple hq
  obtain⟨u,hu,ru⟩:=rv.get hx
  obtain⟨f0,f1,f2,f3,f4,f5⟩:=hf it (by simp)
  refine wpAny_pyNext_tuple_item st (show s.heap.IsTuple a its.toArray from p) (x:=u) (by simpa using hu) λh' st' sb=>?_
  have I1:Inv X pins σ H {s with heap:=h'}:=I.turned (t':=s.toks) (λb o hb e=>(sb.2 b hb).trans e) f0 f1 f3 f4 f5
  obtain⟨o,e,c,d⟩:=id st'
  exact⟨u,rfl,Ca (s:={s with heap:=h'}) e c d (by decide) ⟨x,H,I1,ru,⟨rfl,λys hy=>by rw[I.Lf hy hq];exact hx⟩,st',λb hb=>(hf b hb).1⟩⟩
 done:=by
  intro X hP hw hK hc i pins s σ H E I hf st hg
  subst hP hw hK
  obtain⟨xs,hq,hx⟩:=hg
  obtain⟨its,rv,p,hz⟩:=I.tuple hq
  obtain⟨f0,f1,f2,f3,f4,f5⟩:=hf it (by simp)
  have hl:=rv.length
  exact wpAny_pyNext_tuple_end (I.ok.hd hc) st (show s.heap.IsTuple a its.toArray from p) (by simp;omega) λh' eb=>⟨rfl,I.turned (t':=s.toks) (λb o hb e=>eb b o hb e) f0 f1 f3 f4 f5⟩
 self:=λ_ _ _ _ _ st h=>wpAny_pyIter_tupleiter st h
theorem Je {P:Program}{w:World}{K:PySem.W.Frag}{tg:Expr}(it:Addr)(lo:Int)(n:Nat):Turn P w K tg (Uw lo n) [it] it (λi h=>IsRangeIter h it (lo+(i:Nat)*1) ((n:Int) - (i:Nat)) 1) where
 mem:=by simp
 obj:=λi h st b hb=>by
  have e:b=it:=by simpa using hb
  subst e
  exact⟨_,st,λv z=>by
   have z':Data.fields _=Data.cell v:=z
   cases z'⟩
 keep:=λi h h' st k=>k it (by simp) _ st
 item:=by
  intro X hP hw hK hc i pins s σ H E I hf st hg
  subst hP hw hK
  obtain⟨f0,f1,f2,f3,f4,f5⟩:=hf it (by simp)
  have W:=Walks.range (prog:=X.prog) (w:=X.w) (I.ok.hd hc) it lo 1 n
  refine W.item i s _ _ hg st λv h' tk hv st' kk=>?_
  obtain⟨t,rfl⟩:=hv
  have I1:Inv X pins σ H {s with heap:=h',toks:=tk}:=I.turned (λb o hb e=>kk b o (by simpa using hb) e) f0 f1 f3 f4 f5
  refine⟨_,rfl,Ca (s:={s with heap:=h',toks:=tk}) (n:="range_iterator") st' rfl rfl (by decide) ⟨.int (lo+i),H,I1,⟨t,?_⟩,⟨rfl,rfl⟩,st',λb hb=>(hf b hb).1⟩⟩
  rw[Int.mul_one]
 done:=by
  intro X hP hw hK hc i pins s σ H E I hf st hg
  subst hP hw hK
  obtain⟨f0,f1,f2,f3,f4,f5⟩:=hf it (by simp)
  exact wpAny_pyNext_range_end (I.ok.hd hc) st (by have:n<=i:=hg;omega) λh' eb=>⟨rfl,I.turned (t':=s.toks) (λb o hb e=>eb b o hb e) f0 f1 f3 f4 f5⟩
 self:=λ_ _ _ _ _ st h=>wpAny_pyIter_rangeiter st h
end L2
namespace L2
open PySem PySem.Spec PyProof.Rows
section
variable {X:Cx}{tg:Expr}
noncomputable def sW (K:PySem.W.Frag)(tl:TE):TI:=λσ H R=>tl σ H λx H1=>∃a,x=.ref a/\(∃xs,bQ K H1 a xs)/\R (wg K a) H1
noncomputable def PL (K:PySem.W.Frag)(tl:TE):TI:=λσ H R=>tl σ H λx H1=>∃a,x=.ref a/\(∃xs,bM K H1 a xs)/\R (Dg K a) H1
theorem lZ {l:Expr}{tl:TE}(hl:PE X l tl):PI X tg l (sW X.K tl):=by
 intro pins s σ H R I h
 refine aQ (hl pins s σ H _ I h) λv s1 ⟨x,H1,I1,r1,q1⟩=>?_
 obtain⟨a,e,⟨xs,hq⟩,q⟩:=q1
 subst e
 cases r1
 obtain⟨its,rv,p,hz⟩:=I1.list hq
 refine wpAny_pyIter_list p.isList ?_
 refine⟨s1.heap.objs.size,[s1.heap.objs.size],_,_,H1,rfl,I1.kept (t':=s1.toks) λb o e=>Heap.get?_push_of_some _ e,Lh a _,⟨_,Heap.get?_push_size _ rfl,rfl,rfl⟩,λb hb=>?_,q⟩
 have e:b=s1.heap.objs.size:=by simpa using hb
 subst e
 exact I1.zf (Nat.le_refl _) (I1.hok.fresh (Nat.le_refl _))
theorem Li {l:Expr}{tl:TE}(hl:PE X l tl):PI X tg l (PL X.K tl):=by
 intro pins s σ H R I h
 refine aQ (hl pins s σ H _ I h) λv s1 ⟨x,H1,I1,r1,q1⟩=>?_
 obtain⟨a,e,⟨xs,hq⟩,q⟩:=q1
 subst e
 cases r1
 obtain⟨its,rv,p,hz⟩:=I1.tuple hq
 refine wpAny_pyIter_tuple (show s1.heap.IsTuple a its.toArray from p) ?_
 refine⟨s1.heap.objs.size,[s1.heap.objs.size],_,_,H1,rfl,I1.kept (t':=s1.toks) λb o e=>Heap.get?_push_of_some _ e,Jd a _,⟨_,Heap.get?_push_size _ rfl,rfl,rfl⟩,λb hb=>?_,q⟩
 have e:b=s1.heap.objs.size:=by simpa using hb
 subst e
 exact I1.zf (Nat.le_refl _) (I1.hok.fresh (Nat.le_refl _))
theorem PN {pins:List (Addr×Obj)}{σ:St}{H:Hp}{s:Shared}{R:It->Hp->Prop}{E:Value->Shared->Prop}{lo hi:Int}{t u v:Tok}{tk:Nat}(I:Inv X pins σ H s)(h1: -(2^62)<=lo)(h2:lo<2^62)(h3: -(2^62)<=hi)(h4:hi<2^62)
  (q:R (Uw lo (hi - lo).toNat) H):wpAny (model X.prog X.w) X.A (pyIter (.ref s.heap.objs.size)) (PIE X pins σ tg R) E {s with heap:=s.heap.push {cls:=.type "range",data:=.fields #[.int lo t,.int hi u,.int 1 v]},toks:=tk}:=by
 refine wpAny_pyIter_range (IsRange.new ..) (small_one h1 h2 h3 h4) ?_
 have I1:Inv X pins σ H {s with heap:=s.heap.push {cls:=.type "range",data:=.fields #[.int lo t,.int hi u,.int 1 v]},toks:=tk}:=I.kept λb o e=>Heap.get?_push_of_some _ e
 refine⟨(s.heap.push {cls:=.type "range",data:=.fields #[.int lo t,.int hi u,.int 1 v]}).objs.size,[(s.heap.push {cls:=.type "range",data:=.fields #[.int lo t,.int hi u,.int 1 v]}).objs.size],_,_,H,rfl,
  I1.kept (t':=tk) λb o e=>Heap.get?_push_of_some _ e,Je _ lo (hi - lo).toNat,?_,λb hb=>?_,q⟩
 .have e1:lo+((0:Nat):Int)*1=lo:=by simp
  have e2:(((hi - lo).toNat:Nat):Int) - ((0:Nat):Int)=Builtin.Range.rangeSize lo hi 1:=by rw[rangeSize_one];split<;>omega
  show IsRangeIter _ _ (lo+((0:Nat):Int)*1) ((((hi - lo).toNat:Nat):Int) - ((0:Nat):Int)) 1
  rw[e1,e2]
  exact Heap.get?_push_size _ rfl
 .have e:b=(s.heap.push {cls:=.type "range",data:=.fields #[.int lo t,.int hi u,.int 1 v]}).objs.size:=by simpa using hb
  subst e
  exact I1.zf (Nat.le_refl _) (I1.hok.fresh (Nat.le_refl _))
noncomputable def Ux (ta:TA):TI:=λσ H R=>ta σ H λvs H1=>∃j:Int,vs=[.int j]∧-(2^62)<=j/\j<2^62/\R (Uw 0 j.toNat) H1
theorem uG {a:Expr}{ta:TA}{p pos:Pos}(hg:Gl X "range")(hm:X.mg "range"=none)(ha:PA X [a] ta)(hs:starEach [a] X.env=[(false,eval a X.env)]:=by rfl):PI X tg (.Call (.Name "range" p) [a] [] pos) (Ux ta):=by
 intro pins s σ H R I h
 refine Call_ (xK I hg hm boot_range (PyProof.Rows.callWith_type1 (aQ (ha pos pins s σ H _ I h) λus s1 ⟨vs,H1,I1,r1,q1⟩=>?_) hs rfl))
 obtain⟨j,e,q1,q2,q⟩:=q1
 subst e
 cases r1 with
 |cons r rr=>
  cases rr
  obtain⟨t,rfl⟩:=r
  exact call_range_1 (PN I1 (by omega) (by omega) q1 q2 (by simpa using q))
noncomputable def Dh (wi:TI)(g:TG)(tb:TS):TS:=λD σ H=>wi σ H λJ H1=>∃W:Nat->Nat->St->Hp->Prop,(∃m,W 0 m σ H1)/\∀i m σ H,W i m σ H->
 (J.stop i H/\D.nx σ H)\/(J.go i H/\∃N:St->Hp->Prop,(∀σ' H',N σ' H'->∃m',m'<m/\W (i+1) m' σ' H')/\∀x H',J.Df i H x H'->g x σ H' λσ2 H2=>tb {D with nx:=N,ct:=N,bk:=D.nx} σ2 H2)
noncomputable def rH (fp:List Addr)(h:Heap):List (Addr×Obj):=fp.filterMap λb=>(h.get? b).map λo=>(b,o)
theorem ou {fp:List Addr}{h:Heap}{b:Addr}{o:Obj}(hb:b∈fp)(e:h.get? b=some o):(b,o)∈rH fp h:=List.mem_filterMap.mpr ⟨b,hb,by rw[e];rfl⟩
theorem Lj {fp:List Addr}{h:Heap}{p:Addr×Obj}(hp:p∈rH fp h):p.1∈fp/\h.get? p.1=some p.2:=by
 obtain⟨b,hb,e⟩:=List.mem_filterMap.mp hp
 cases q:h.get? b with
 |none=>rw[q] at e;cases e
 |some o=>
  rw[q] at e
  have e':(b,o)=p:=Option.some.inj e
  subst e'
  exact⟨hb,q⟩
theorem Inv.pinned {pins:List (Addr×Obj)}{σ:St}{H:Hp}{s:Shared}{fp:List Addr}(I:Inv X pins σ H s)(hf:∀b∈fp,lY X pins H b)(ho:∀b∈fp,∃o,s.heap.get? b=some o/\∀v,o.data≠ .cell v):Inv X (pins++rH fp s.heap) σ H s:=
 I.G5 λp hp=>(List.mem_append.mp hp).elim (λz=>I.pin p (List.mem_append_right _ z)) λz=>by
  obtain⟨hb,e⟩:=Lj z
  obtain⟨f0,f1,f2,_⟩:=hf p.1 hb
  obtain⟨o,e',d⟩:=ho p.1 hb
  rw[e] at e';cases e'
  exact⟨e,f0,f1,f2,d⟩
theorem Inv.sX {pins pl:List (Addr×Obj)}{σ:St}{H:Hp}{s:Shared}(I:Inv X (pins++pl) σ H s):Inv X pins σ H s:=I.G5 λp hp=>I.pin p (List.mem_append_right _ (List.mem_append_left _ hp))
theorem jD {iter:Expr}{body:List Stmt}{wi:TI}{g:TG}{tb:TS}{pos:Pos}(hp:PassesOwn (model X.prog X.w) X.A X.env X.xe)(hc:X.calm=true)(hi:PI X tg iter wi)(hg:PG X tg g)(hb:gW X body tb)
  (hs:∀x,foldedSetIterable iter X.env x=pure x:=by intro _;rfl):PS X (.For tg iter body [] pos) (Dh wi g tb):=by
 intro pins s σ H D I h
 refine wpAny_For (aQ (hi pins s σ H _ I h) λv s1 h1=>aQ h1 λitv s2 h2=>?_) hs
 obtain⟨it,fp,tn,J,H2,e,I2,T,st2,f2,W,⟨m0,w0⟩,turn⟩:=h2
 subst e
 have stat:∀{H':Hp},(∀b∈fp,H' b=none)->∀b∈fp,lY X pins H' b:=λhn b hb=>⟨hn b hb,(f2 b hb).2⟩
 refine codeAny_forLoop_any (λn s'=>∃i σ' H',Inv X pins σ' H' s'/\tn i s'.heap/\(∀b∈fp,H' b=none)/\W i n σ' H') ?_ m0 ⟨0,σ,H2,I2,st2,λb hb=>(f2 b hb).1,w0⟩
 rintro n s3 ⟨i,σ3,H3,I3,st3,fr3,w3⟩
 rcases turn i n σ3 H3 w3 with⟨stop,qn⟩|⟨go,N,hN,step⟩
 .refine wpAny_passesOwn hp (aQ (T.done X rfl rfl rfl hc i pins s3 σ3 H3 X.xe I3 (stat fr3) st3 stop) λr s4 ⟨hr,I4⟩=>?_)
  subst hr
  exact wpAny_execs_nil ⟨σ3,H3,I4,qn⟩
 .refine wpAny_passesOwn hp (aQ (T.item X rfl rfl rfl hc i pins s3 σ3 H3 X.xe I3 (stat fr3) st3 go) λr s4 ⟨u,hr,h4⟩=>?_)
  subst hr
  refine wpAny_passesOwn hp (aQ h4 λ_ s5 ⟨x,H5,I5,r5,y5,Di,YW⟩=>?_)
  have YX:=I5.pinned (stat YW) (T.obj _ _ Di)
  refine wpAny_passesOwn hp (aQ (hg _ s5 σ3 H5 x u _ YX r5 (step x H5 y5)) λ_ s6 ⟨Dj,H6,I6,q6⟩=>?_)
  refine wpAny_passesOwn hp (aQ (hb _ s6 Dj H6 _ I6 q6) λf s7 q7=>?_)
  have again:∀{uH:St}{H7:Hp},Inv X (pins++rH fp s5.heap) uH H7 s7->N uH H7->∃m,m<n/\∃i σ' H',Inv X pins σ' H' s7/\tn i s7.heap/\(∀b∈fp,H' b=none)/\W i m σ' H':=λ{uH H7} I7 n7=>by
   obtain⟨m',hm,w7⟩:=hN uH H7 n7
   refine⟨m',hm,i+1,uH,H7,I7.sX,T.keep _ _ _ Di λb hb o e=>(I7.pin (b,o) (List.mem_append_right _ (List.mem_append_right _ (ou hb e)))).1,λb hb=>?_,w7⟩
   obtain⟨o,e,d⟩:=T.obj _ _ Di b hb
   exact(I7.pin (b,o) (List.mem_append_right _ (List.mem_append_right _ (ou hb e)))).2.1
  cases f with
  |next=>obtain⟨uH,H7,I7,n7⟩:=q7;exact again I7 n7
  |cont=>obtain⟨uH,H7,I7,n7⟩:=q7;exact again I7 n7
  |brk=>obtain⟨uH,H7,I7,q7⟩:=q7;exact⟨uH,H7,I7.sX,q7⟩
  |ret v=>obtain⟨x7,uH,H7,I7,r7,q7⟩:=q7;exact⟨x7,uH,H7,I7.sX,r7,q7⟩
end
theorem PX {K:PySem.W.Frag}{a:Addr}{xs:List V}{g:TG}{tb:TS}{D:Ends}{σ:St}{H:Hp}(Pv:Nat->St->Hp->Prop)(h0:Pv 0 σ H)(hl:∀i σ H,i<=xs.length->Pv i σ H->bQ K H a xs)
  (hs:∀i x σ H,xs[i]? =some x->Pv i σ H->g x σ H λσ2 H2=>tb {D with nx:=Pv (i+1),ct:=Pv (i+1),bk:=D.nx} σ2 H2)(hd:∀σ H,Pv xs.length σ H->D.nx σ H):
  ∃W:Nat->Nat->St->Hp->Prop,(∃m,W 0 m σ H)/\∀i m σ H,W i m σ H->
   ((wg K a).stop i H/\D.nx σ H)\/((wg K a).go i H/\∃N:St->Hp->Prop,(∀σ' H',N σ' H'->∃m',m'<m/\W (i+1) m' σ' H')/\∀x H',(wg K a).Df i H x H'->g x σ H' λσ2 H2=>tb {D with nx:=N,ct:=N,bk:=D.nx} σ2 H2):=by
 refine⟨λi m σ H=>m=xs.length - i/\i<=xs.length/\Pv i σ H,⟨xs.length,by simp,Nat.zero_le _,h0⟩,?_⟩
 rintro i m σ H ⟨rfl,hi,p⟩
 have q:=hl i σ H hi p
 by_cases hlt:i<xs.length
 .refine .inr ⟨⟨xs,xs[i],q,by simp[hlt]⟩,Pv (i+1),λσ' H' p'=>⟨xs.length - (i+1),by omega,rfl,hlt,p'⟩,λx H' y=>?_⟩
  obtain⟨e,y⟩:=y
  subst e
  exact hs i x σ _ (y xs q) p
 .have e:i=xs.length:=by omega
  subst e
  exact .inl ⟨⟨xs,q,Nat.le_refl _⟩,hd σ H p⟩
theorem Wx {K:PySem.W.Frag}{a:Addr}{xs:List V}{g:TG}{tb:TS}{D:Ends}{σ:St}{H:Hp}(Pv:Nat->St->Hp->Prop)(h0:Pv 0 σ H)(hl:∀i σ H,i<=xs.length->Pv i σ H->bM K H a xs)
  (hs:∀i x σ H,xs[i]? =some x->Pv i σ H->g x σ H λσ2 H2=>tb {D with nx:=Pv (i+1),ct:=Pv (i+1),bk:=D.nx} σ2 H2)(hd:∀σ H,Pv xs.length σ H->D.nx σ H):
  ∃W:Nat->Nat->St->Hp->Prop,(∃m,W 0 m σ H)/\∀i m σ H,W i m σ H->
   ((Dg K a).stop i H/\D.nx σ H)\/((Dg K a).go i H/\∃N:St->Hp->Prop,(∀σ' H',N σ' H'->∃m',m'<m/\W (i+1) m' σ' H')/\∀x H',(Dg K a).Df i H x H'->g x σ H' λσ2 H2=>tb {D with nx:=N,ct:=N,bk:=D.nx} σ2 H2):=by
 refine⟨λi m σ H=>m=xs.length - i/\i<=xs.length/\Pv i σ H,⟨xs.length,by simp,Nat.zero_le _,h0⟩,?_⟩
 rintro i m σ H ⟨rfl,hi,p⟩
 have q:=hl i σ H hi p
 by_cases hlt:i<xs.length
 .refine .inr ⟨⟨xs,xs[i],q,by simp[hlt]⟩,Pv (i+1),λσ' H' p'=>⟨xs.length - (i+1),by omega,rfl,hlt,p'⟩,λx H' y=>?_⟩
  obtain⟨e,y⟩:=y
  subst e
  exact hs i x σ _ (y xs q) p
 .have e:i=xs.length:=by omega
  subst e
  exact .inl ⟨⟨xs,q,Nat.le_refl _⟩,hd σ H p⟩
end L2
namespace L2
open PySem PySem.Spec PyProof.Rows
noncomputable abbrev R2:=V->V->Hp->VK->Prop
noncomputable def cL (X:Cx)(f:Value->Value->Sem Value)(r:R2):Prop:=
 ∀(pins:List (Addr×Obj)) (s:Shared) (σ:St) (H:Hp) (x y:V) (v u:Value) (Q:VK),Inv X pins σ H s->RelV x v->RelV y u->r x y H Q->
  wpAny (model X.prog X.w) X.A (f v u) (EP X pins σ Q) X.xe s
noncomputable def Ad (X:Cx)(f:Value->Sem Value)(r:V->Hp->VK->Prop):Prop:=
 ∀(pins:List (Addr×Obj)) (s:Shared) (σ:St) (H:Hp) (x:V) (v:Value) (Q:VK),Inv X pins σ H s->RelV x v->r x H Q->
  wpAny (model X.prog X.w) X.A (f v) (EP X pins σ Q) X.xe s
noncomputable def gw (X:Cx)(f:Value)(r:List V->Hp->VK->Prop):Prop:=
 ∀(pins:List (Addr×Obj)) (s:Shared) (σ:St) (H:Hp) (xs:List V) (us:List Value) (Q:VK),Inv X pins σ H s->Vals xs us->r xs H Q->
  wpAny (model X.prog X.w) X.A (call f us) (EP X pins σ Q) X.xe s
noncomputable def dh (r:R2)(ta tb:TE):TE:=λσ H Q=>ta σ H λx H1=>tb σ H1 λy H2=>r x y H2 Q
noncomputable def YZ (r:V->Hp->VK->Prop)(ta:TE):TE:=λσ H Q=>ta σ H λx H1=>r x H1 Q
noncomputable def rI (C:Int->Int->Prop)(g:Int->Int->V):R2:=λx y H Q=>∃i j,x=.int i/\y=.int j/\C i j/\Q (g i j) H
noncomputable def Ae (g:Int->Int->V):R2:=λx y H Q=>∃i j,x=.int i/\y=.int j/\Q (g i j) H
noncomputable def rU (g:Int->V):V->Hp->VK->Prop:=λx H Q=>∃i,x=.int i/\Q (g i) H
section
variable {X:Cx}{a b c:Expr}{ta tb tc:TE}{pos:Pos}
theorem P0 (ha:PE X a ta)(hb:PE X b tb){pins:List (Addr×Obj)}{s:Shared}{σ:St}{H:Hp}{R:V->V->Hp->Prop}(I:Inv X pins σ H s)
  (h:ta σ H λx H1=>tb σ H1 λy H2=>R x y H2){Q:Value->Shared->Prop}{f:Value->Value->Sem Value}
  (hf:∀v u s2 x y H2,Inv X pins σ H2 s2->RelV x v->RelV y u->R x y H2->wpAny (model X.prog X.w) X.A (f v u) Q X.xe s2):
  wpAny (model X.prog X.w) X.A (eval a X.env) (λv s₁=>wpAny (model X.prog X.w) X.A (eval b X.env) (λu s₂=>wpAny (model X.prog X.w) X.A (f v u) Q X.xe s₂) X.xe s₁) X.xe s:=by
 refine aQ (ha pins s σ H _ I h) λv s1 ⟨x,H1,I1,r1,q1⟩=>?_
 refine aQ (hb pins s1 σ H1 _ I1 q1) λu s2 ⟨y,H2,I2,r2,q2⟩=>?_
 exact hf v u s2 x y H2 I2 r1 r2 q2
theorem iK {op:Operator}{r:R2}(ho:cL X (binaryOp op) r)(ha:PE X a ta)(hb:PE X b tb):PE X (.BinOp a op b pos) (dh r ta tb):=by
 intro pins s σ H Q I h
 exact wpAny_BinOp (P0 ha hb I h λv u s2 x y H2 I2 rx ry q=>ho pins s2 σ H2 x y v u Q I2 rx ry q)
theorem Jf {op:UnaryOp}{r:V->Hp->VK->Prop}(ho:Ad X (unaryOp op) r)(ha:PE X a ta):PE X (.UnaryOp op a pos) (YZ r ta):=by
 intro pins s σ H Q I h
 exact UnaryOp_ (aQ (ha pins s σ H _ I h) λv s1 ⟨x,H1,I1,r1,q1⟩=>ho pins s1 σ H1 x v Q I1 r1 q1)
theorem Uy {f:Value->Value->Sem Value}{C:Int->Int->Prop}{g:Int->Int->Int}
  (rule:∀(i j:Int) (t u:Tok) (s:Shared) (Q:Value->Shared->Prop) (E:Value->Shared->Prop),C i j->Q (.int (g i j) s.toks) {s with toks:=s.toks+1}->wpAny (model X.prog X.w) X.A (f (.int i t) (.int j u)) Q E s):
  cL X f (rI C λi j=>.int (g i j)):=by
 intro pins s σ H x y v u Q I rx ry h
 obtain⟨i,j,rfl,rfl,hc,q⟩:=h
 obtain⟨t,rfl⟩:=rx
 obtain⟨t',rfl⟩:=ry
 exact rule i j t t' s _ _ hc ⟨.int (g i j),H,I.tok _,⟨_,rfl⟩,q⟩
theorem Y0 {f:Value->Value->Sem Value}{g:Int->Int->Int}
  (rule:∀(i j:Int) (t u:Tok) (s:Shared) (Q:Value->Shared->Prop) (E:Value->Shared->Prop),Q (.int (g i j) s.toks) {s with toks:=s.toks+1}->wpAny (model X.prog X.w) X.A (f (.int i t) (.int j u)) Q E s):
  cL X f (Ae λi j=>.int (g i j)):=by
 intro pins s σ H x y v u Q I rx ry h
 obtain⟨i,j,rfl,rfl,q⟩:=h
 obtain⟨t,rfl⟩:=rx
 obtain⟨t',rfl⟩:=ry
 exact rule i j t t' s _ _ ⟨.int (g i j),H,I.tok _,⟨_,rfl⟩,q⟩
theorem Qa {f:Value->Value->Sem Value}{g:Int->Int->Bool}
  (rule:∀(i j:Int) (t u:Tok) (s:Shared) (Q:Value->Shared->Prop) (E:Value->Shared->Prop),Q (.bool (g i j)) s->wpAny (model X.prog X.w) X.A (f (.int i t) (.int j u)) Q E s):
  cL X f (Ae λi j=>.bl (g i j)):=by
 intro pins s σ H x y v u Q I rx ry h
 obtain⟨i,j,rfl,rfl,q⟩:=h
 obtain⟨t,rfl⟩:=rx
 obtain⟨t',rfl⟩:=ry
 exact rule i j t t' s _ _ ⟨.bl (g i j),H,I,rfl,q⟩
noncomputable def Jg (i j:Int):Prop:=0<=j/\j<=1000000/\i.natAbs<2^64
noncomputable def Y4 (i j:Int):Prop:=(-(2^64)<i/\i<2^64)\/(-(2^64)<j/\j<2^64)
theorem Y4.ok {i j:Int}(h:Y4 i j):IntMulOk i j:=by
 rcases h with⟨h1,h2⟩|⟨h1,h2⟩
 .exact .of_left (intBits_le_64 h1 h2)
 .exact .of_right (intBits_le_64 h1 h2)
theorem Y5:cL X (binaryOp .Add) (Ae λi j=>.int (i+j)):=Y0 λ_ _ _ _ _ _ _ q=>add_int q
theorem Y6:cL X (binaryOp .Sub) (Ae λi j=>.int (i - j)):=Y0 λ_ _ _ _ _ _ _ q=>sub_int q
theorem Y7:cL X (binaryOp .Mod) (rI (λ_ j=>0<j) λi j=>.int (i % j)):=Uy λi j _ _ _ _ _ hc q=>by
 have h1:(0:Int)<j:=hc
 exact mod_int' (by omega) (by rw[Int.fmod_eq_emod_of_nonneg i (by omega)];exact q)
theorem Y8:cL X (binaryOp .Pow) (rI Jg λi j=>.int (i^j.toNat)):=Uy λ_ _ _ _ _ _ _ hc q=>pow_int_small hc.1 hc.2.1 hc.2.2 q
theorem unI {f:Value->Sem Value}{g:Int->Int}
  (rule:∀(i:Int) (t:Tok) (s:Shared) (Q:Value->Shared->Prop) (E:Value->Shared->Prop),Q (.int (g i) s.toks) {s with toks:=s.toks+1}->wpAny (model X.prog X.w) X.A (f (.int i t)) Q E s):
  Ad X f (rU λi=>.int (g i)):=by
 intro pins s σ H x v Q I rx h
 obtain⟨i,rfl,q⟩:=h
 obtain⟨t,rfl⟩:=rx
 exact rule i t s _ _ ⟨.int (g i),H,I.tok _,⟨_,rfl⟩,q⟩
theorem Dk:Ad X (unaryOp .USub) (rU λi=>.int (-i)):=unI λ_ _ _ _ _ q=>neg_int q
end
noncomputable def ai1:V->V->Bool
 |.non,.non=>true|.non,.int _=>true|.int _,.non=>true|.non,.bl _=>true|.bl _,.non=>true|.non,.str _=>true|.str _,.non=>true
 |.int _,.int _=>true|.bl _,.bl _=>true|.str _,.str _=>true|.uz _,.uz _=>true
 |.int _,.str _=>true|.str _,.int _=>true|.bl _,.str _=>true|.str _,.bl _=>true
 |_,_=>false
noncomputable def Lk:R2:=λx y H Q=>ai1 x y=true/\Q (.bl (decide (x=y))) H
theorem G6 {i j:Int}:decide (V.int i=V.int j)=(i==j):=by
 rw[Bool.eq_iff_iff]
 simp
theorem Y9 {i j:Bool}:decide (V.bl i=V.bl j)=(i==j):=by
 rw[Bool.eq_iff_iff]
 simp
theorem Wy {i j:Str}:decide (V.str i=V.str j)=(i==j):=by
 rw[Bool.eq_iff_iff]
 simp
theorem Wz {i j:Array UInt8}:decide (V.uz i=V.uz j)=(i.toList==j.toList):=by
 rw[Bool.eq_iff_iff]
 cases i
 cases j
 simp
section
variable {X:Cx}{a b c:Expr}{ta tb tc:TE}{pos:Pos}
theorem fJ {pins:List (Addr×Obj)}{σ:St}{H:Hp}{s:Shared}{Q:VK}{k k':Bool}(I:Inv X pins σ H s)(q:Q (.bl k) H)(e:k=k'):EP X pins σ Q (.bool k') s:=by
 subst e
 exact⟨.bl k,H,I,rfl,q⟩
theorem jz:cL X (compareOp .Eq) Lk:=by
 intro pins s σ H x y v u Q I rx ry h
 obtain⟨hs,q⟩:=h
 cases x with
 |non=>
  cases rx
  cases y with
  |non=>cases ry;exact PySem.EqNone.eq_none_none (fJ I q (by simp))
  |bl j=>cases ry;exact PySem.EqNone.eq_none_bool (fJ I q (by simp))
  |int j=>obtain⟨t',rfl⟩:=ry;exact PySem.EqNone.eq_none_int (fJ I q (by simp))
  |str j=>obtain⟨t',rfl⟩:=ry;exact PySem.EqNone.eq_none_str (fJ I q (by simp))
  |_=>exact absurd (show false=true from hs) Bool.false_ne_true
 |bl i=>
  cases rx
  cases y with
  |non=>cases ry;exact PySem.EqNone.eq_bool_none (fJ I q (by simp))
  |bl j=>cases ry;exact eq_bool (fJ I q Y9)
  |str j=>obtain⟨t',rfl⟩:=ry;exact PySem.EqMixed.eq_bool_str (fJ I q (by simp))
  |_=>exact absurd (show false=true from hs) Bool.false_ne_true
 |int i=>
  obtain⟨t,rfl⟩:=rx
  cases y with
  |non=>cases ry;exact PySem.EqNone.eq_int_none (fJ I q (by simp))
  |int j=>obtain⟨t',rfl⟩:=ry;exact eq_int (fJ I q G6)
  |str j=>obtain⟨t',rfl⟩:=ry;exact PySem.EqMixed.eq_int_str (fJ I q (by simp))
  |_=>exact absurd (show false=true from hs) Bool.false_ne_true
 |str i=>
  obtain⟨t,rfl⟩:=rx
  cases y with
  |non=>cases ry;exact PySem.EqNone.eq_str_none (fJ I q (by simp))
  |bl j=>cases ry;exact PySem.EqMixed.eq_str_bool (fJ I q (by simp))
  |int j=>obtain⟨t',rfl⟩:=ry;exact PySem.EqMixed.eq_str_int (fJ I q (by simp))
  |str j=>obtain⟨t',rfl⟩:=ry;exact eq_str (fJ I q Wy)
  |_=>exact absurd (show false=true from hs) Bool.false_ne_true
 |uz i=>
  obtain⟨t,rfl⟩:=rx
  cases y with
  |uz j=>obtain⟨t',rfl⟩:=ry;exact PySem.W.eq_bytes (fJ I q Wz)
  |_=>exact absurd (show false=true from hs) Bool.false_ne_true
 |_=>cases y<;>exact absurd (show false=true from hs) Bool.false_ne_true
theorem afO:cL X (compareOp .Lt) (Ae λi j=>.bl (decide (i<j))):=Qa λ_ _ _ _ _ _ _ q=>lt_int q
theorem afP:cL X (compareOp .LtE) (Ae λi j=>.bl (decide (i<=j))):=Qa λ_ _ _ _ _ _ _ q=>le_int q
theorem afQ:cL X (compareOp .Gt) (Ae λi j=>.bl (decide (j<i))):=Qa λ_ _ _ _ _ _ _ q=>gt_int q
theorem Za:cL X (compareOp .Is) (λx y H Q=>y=.non/\Q (.bl (decide (x=.non))) H):=by
 intro pins s σ H x y v u Q I rx ry h
 obtain⟨rfl,q⟩:=h
 cases ry
 refine is_none_gen (fJ I q ?_)
 cases x<;>first
  |(cases rx;rfl)
  |(obtain⟨t,rfl⟩:=rx;rfl)
theorem WD:cL X (compareOp .IsNot) (λx y H Q=>y=.non/\Q (.bl (!decide (x=.non))) H):=by
 intro pins s σ H x y v u Q I rx ry h
 obtain⟨rfl,q⟩:=h
 cases ry
 refine isnot_none_gen (fJ I q ?_)
 cases x<;>first
  |(cases rx;rfl)
  |(obtain⟨t,rfl⟩:=rx;rfl)
theorem xQ (b:Expr){op:CmpOp}(h:op≠ .In:=by decide)(h2:op≠ .NotIn:=by decide):behindInMarks op b=false:=by
 have e1:(op==CmpOp.In)=false:=by cases op<;>first|rfl|exact absurd rfl h
 have e2:(op==CmpOp.NotIn)=false:=by cases op<;>first|rfl|exact absurd rfl h2
 cases b<;>simp[behindInMarks,e1,e2]
theorem WK {op:CmpOp}{r:R2}(ho:cL X (compareOp op) r)(ha:PE X a ta)(hb:PE X b tb)(hm:behindInMarks op b=false):PE X (.Compare a [op] [b] pos) (dh r ta tb):=by
 intro pins s σ H Q I h
 exact wpAny_Compare1 (P0 ha hb I h λv u s2 x y H2 I2 rx ry q=>ho pins s2 σ H2 x y v u Q I2 rx ry q) hm
theorem rJ:(sizeLine:Nat)<2^63:=by rw[sizeLine_eq];decide
theorem iZ:cL X (binaryOp .Add) (λx y H Q=>∃i j,x=.str i/\y=.str j/\i.length+j.length<=sizeLine/\Q (.str (i++j)) H):=by
 intro pins s σ H x y v u Q I rx ry h
 obtain⟨i,j,rfl,rfl,hz,q⟩:=h
 obtain⟨t,rfl⟩:=rx
 obtain⟨t',rfl⟩:=ry
 exact add_str (λt' tk=>⟨.str (i++j),H,I.tok _,⟨_,rfl⟩,q⟩) hz
theorem vals1 {x:V}{us:List Value}(r:Vals [x] us):∃u,us=[u]/\RelV x u:=by
 cases r with
 |cons r1 r2=>cases r2;exact⟨_,rfl,r1⟩
theorem vals2 {x y:V}{us:List Value}(r:Vals [x,y] us):∃u w',us=[u,w']/\RelV x u/\RelV y w':=by
 cases r with
 |cons r1 r2=>
  cases r2 with
  |cons r3 r4=>cases r4;exact⟨_,_,rfl,r1,r3⟩
theorem Qc:gw X (.builtin "abs") (λxs H Q=>∃i,xs=[.int i]/\Q (.int (if i<0 then -i else i)) H):=by
 intro pins s σ H xs us Q I r h
 obtain⟨i,rfl,q⟩:=h
 obtain⟨u,rfl,t,rfl⟩:=vals1 r
 exact call_abs_int λu tk=>⟨.int (if i<0 then -i else i),H,I.tok _,⟨_,rfl⟩,q⟩
theorem Ln (hc:X.calm=true):gw X (.builtin "min") (λxs H Q=>∃i j,xs=[.int i,.int j]/\Q (.int (if j<i then j else i)) H):=by
 intro pins s σ H xs us Q I r h
 obtain⟨i,j,rfl,q⟩:=h
 obtain⟨u,w',rfl,⟨t,rfl⟩,⟨t',rfl⟩⟩:=vals2 r
 refine min_two_ints (I.ok.hd hc) λh' tk k=>⟨_,H,I.kept k,?_,q⟩
 by_cases hj:j<i
 .rw[if_pos hj,if_pos hj];exact⟨_,rfl⟩
 .rw[if_neg hj,if_neg hj];exact⟨_,rfl⟩
end
end L2
namespace L2
open PySem PySem.Spec PyProof.Rows
structure wN (h:Heap)(x dx C:Addr)(mA:Str->Option Value):Prop where
 obj:h.get? x=some (PySem.W.instObj C dx)
 ns:h.Ns1 dx mA
 ne:dx≠x
theorem Af {h:Heap}{dx:Addr}{mA:Str->Option Value}(n:h.Ns1 dx mA):∃od,h.get? dx=some od/\∀name,PySem.W.lookIn name od=some (mA name):=by
 obtain⟨o,es,ep,ho,hd,hk,_,hm⟩:=n
 refine⟨o,ho,λname=>?_⟩
 have e:=hm name
 unfold nsFind findBy at e
 rw[<-Array.find?_toList] at e
 unfold PySem.W.lookIn
 rw[hd]
 dsimp only
 split
 .rename_i y q
  rw[q] at e
  exact congrArg some e
 .rename_i q
  rw[q] at e
  have a:es.toList.any (·.refKey)=false:=by
   rw[List.any_eq_false]
   intro y hy
   obtain⟨z,t,hkey⟩:=hk y (Array.mem_toList_iff.mp hy)
   simp[DictEntry.refKey,hkey]
  have a':¬es.toList.any (·.refKey)=true:=by rw[a];exact Bool.false_ne_true
  rw[if_neg a']
  exact congrArg some e
theorem wN.look {h:Heap}{x dx C:Addr}{mA:Str->Option Value}(I:wN h x dx C mA):∃od,PySem.W.InstAt h x (PySem.W.instObj C dx) C (some od)/\∀name,PySem.W.lookIn name od=some (mA name):=
 let⟨od,ho,hl⟩:=Af I.ns
 ⟨od,⟨I.obj,rfl,rfl,ho⟩,hl⟩
section
variable {prog:Program}{w:World}{A:Around}{E:Value->Shared->Prop}{s:Shared}{K:PySem.W.Frag}{x dx C f:Addr}{mA:Str->Option Value}{name:Str}{v:Value}
theorem get_map {expr:Bool}{Q:Value->Shared->Prop}(X:K.In s.heap)(I:wN s.heap x dx C mA)(hg:PySem.W.plainGet K C name=true)(hh:PySem.W.hasDictIn K C=true)
  (ha:PySem.W.findIn K (.ref C) name=some none)(hv:mA name=some v)(hv':PySem.W.handedIn v=true)(h:Q v {s with toks:=s.toks+1}):
  wpAny (model prog w) A (getAttr (.ref x) name expr) Q E s:=by
 obtain⟨od,J,hl⟩:=I.look
 exact PySem.W.get_value X J (PySem.W.plainGet_of hg).1 (PySem.W.findObj_own hh ha rfl (by rw[hl,hv])) hv' h
theorem Qd {pl:Sem Bool}{Q:Value×List Value->Shared->Prop}(X:K.In s.heap)(I:wN s.heap x dx C mA)(hg:PySem.W.plainGet K C name=true)
  (hf:PySem.W.findIn K (.ref C) name=some (some (.ref f)))(ht:PySem.W.isFn K (.ref f)=true)(hv:mA name=none)(h:Q (.ref f,[.ref x]) s):
  wpAny (model prog w) A (getMethod (.ref x) name pl) Q E s:=by
 obtain⟨od,J,hl⟩:=I.look
 exact PySem.W.method_fn X J (PySem.W.plainGet_of hg).1 (PySem.W.plainGet_of hg).2 hf (beq_iff_eq.mp ht) (by show(PySem.W.lookIn name od).map (·.isSome)=some false;rw[hl,hv];rfl) h
theorem WL {ns:List Str}{Q:Unit->Shared->Prop}(X:K.In s.heap)(I:wN s.heap x dx C mA)
  (hs:PySem.W.findIn K (.ref C) "__setattr__"=some (some (.builtin "object.__setattr__")))(hp:PySem.W.plainOver K C=true)(ht:PySem.W.takerIn K C name=some none)(hh:PySem.W.hasDictIn K C=true)
  (hw:PySem.Within mA ns)(hsz:ns.length<=sizeLine)
  (h:∀h',wN h' x dx C (λy=>if y=name then some v else mA y)->Heap.SameBut dx s.heap h'->Q () {s with heap:=h',toks:=s.toks+2}):
  wpAny (model prog w) A (setAttr (.ref x) name v) Q E s:=by
 obtain⟨od,J,hl⟩:=I.look
 refine PySem.W.set_plain X J hs (PySem.W.osa_open (s:={s with toks:=s.toks+1}) (r:=none) X J hp ht λb=>?_)
 obtain⟨cd,hc,hd'⟩:=PySem.W.any_some hh
 have hx:s.heap.get? x=some ⟨.ref C,some dx,.plain,#[]⟩:=I.obj
 refine wpAny_bind (wpAny_pure (wpAny_bind (wpAny_bind (wpAny_loadPart hx (wpAny_bind (PySem.W.Looks.here (s:={s with toks:=s.toks+1}) (PySem.W.looks_clsIn X hc) ?_))))))
 rw[hd']
 refine wpAny_pure (a:=some dx) (wpAny_bind (wpAny_pure (wpAny_bind ?_)))
 refine wpAny_nsSet1 (s:={s with toks:=s.toks+1}) I.ns λh' hn2 hs2=>?_
 obtain⟨oD,esD,epD,hoD,hdD,hcD⟩:=hn2.count (PySem.Within.cons name v hw)
 refine wpAny_bind (wpAny_lookBehind hoD (by rw[hdD];exact pastItsLine_dict (Nat.le_trans hcD (by rw[List.length_cons];omega))) ?_)
 exact wpAny_pure (h _ ⟨(hs2.2 _ (Ne.symm I.ne)).trans I.obj,hn2,I.ne⟩ hs2)
theorem Dl {R:Result->Shared->Prop}{vs:List Value}{kw:List (Str×Value)}(X:K.In s.heap)(hm:PySem.W.makesIn K C=true)
  (hi:PySem.W.findIn K (.ref C) "__init__"=some (some (.ref f)))(hf:PySem.W.typeIn K (.ref f)=some (.type "function"))
  (h:codeAny (model prog w) (A.under (.builtin "type.__call__" ⟨.ref C::vs,kw⟩)) (.call (.ref f) ⟨.ref (s.heap.objs.size+1)::vs,kw⟩) (PySem.W.InitBack (s.heap.objs.size+1) R)
   {s with heap:=(s.heap.push PySem.W.emptyDict).push (PySem.W.instObj C s.heap.objs.size)}):
  codeAny (model prog w) A (.call (.ref C) ⟨vs,kw⟩) R s:=by
 obtain⟨hh,g,d,t,os⟩:=s
 exact PySem.W.make_core (PySem.W.makes_of X hm) (PySem.W.looks_findIn X hi) (λself=>PySem.W.bind_fn X self hf) (.inl rfl) h
end
noncomputable def jY (f:Str)(v:V):List (Str×V)->List (Str×V)
 |[]=>[(f,v)]
 |(g,x)::r=>if g=f then(g,v)::r else(g,x)::jY f v r
theorem wj (f g:Str)(v:V):∀fs:List (Str×V),(jY f v fs).lookup g=if g=f then some v else fs.lookup g
 |[]=>by
  show List.lookup g [(f,v)]=_
  by_cases h:g=f
  .have hb:(g==f)=true:=beq_iff_eq.mpr h
   simp only[List.lookup,hb,if_pos h]
  .have hb:(g==f)=false:=beq_eq_false_iff_ne.mpr h
   simp only[List.lookup,hb,if_neg h]
 |(k,x)::r=>by
  have ih:=wj f g v r
  rw[show jY f v ((k,x)::r)=(if k=f then(k,v)::r else(k,x)::jY f v r) from rfl]
  by_cases hk:k=f
  .rw[if_pos hk]
   by_cases h:g=k
   .have hb:(g==k)=true:=beq_iff_eq.mpr h
    simp only[List.lookup,hb,if_pos (h.trans hk)]
   .have hb:(g==k)=false:=beq_eq_false_iff_ne.mpr h
    simp only[List.lookup,hb,if_neg (λe:g=f=>h (e.trans hk.symm))]
  .rw[if_neg hk]
   by_cases h:g=k
   .have hb:(g==k)=true:=beq_iff_eq.mpr h
    simp only[List.lookup,hb,if_neg (λe:g=f=>hk (h.symm.trans e))]
   .have hb:(g==k)=false:=beq_eq_false_iff_ne.mpr h
    simp only[List.lookup,hb]
    exact ih
theorem uI (f:Str)(v:V):∀fs:List (Str×V),f∈(jY f v fs).map (·.1)/\∀g,g∈fs.map (·.1)->g∈(jY f v fs).map (·.1)
 |[]=>⟨by simp[jY],λg h=>by simp at h⟩
 |(k,x)::r=>by
  obtain⟨i1,i2⟩:=uI f v r
  rw[show jY f v ((k,x)::r)=(if k=f then(k,v)::r else(k,x)::jY f v r) from rfl]
  by_cases hk:k=f
  .rw[if_pos hk]
   subst hk
   exact⟨by simp,λg h=>by simpa using h⟩
  .rw[if_neg hk]
   refine⟨?_,λg h=>?_⟩
   .rw[List.map_cons]
    exact List.mem_cons_of_mem _ i1
   .rw[List.map_cons] at h ⊢
    rcases List.mem_cons.mp h with e|e
    .exact List.mem_cons.mpr (.inl e)
    .exact List.mem_cons_of_mem _ (i2 g e)
theorem wu (f:Str)(v:V):∀fs:List (Str×V),(jY f v fs).length<=fs.length+1
 |[]=>by simp[jY]
 |(k,x)::r=>by
  have ih:=wu f v r
  rw[show jY f v ((k,x)::r)=(if k=f then(k,v)::r else(k,x)::jY f v r) from rfl]
  by_cases hk:k=f
  .rw[if_pos hk,List.length_cons,List.length_cons];omega
  .rw[if_neg hk,List.length_cons,List.length_cons];omega
theorem gZ.some_of {v:V}{o:Option Value}(r:gZ (some v) o):∃u,o=some u/\RelV v u:=by
 cases o with
 |none=>exact(show False from r).elim
 |some u=>exact⟨u,rfl,r⟩
theorem gZ.none_of {o:Option Value}(r:gZ none o):o=none:=by
 cases o with
 |none=>rfl
 |some u=>exact(show False from r).elim
theorem Ag {v:V}{u:Value}(r:RelV v u):PySem.W.handedIn u=true:=by
 cases v with
 |non=>cases(show u=Value.none from r);rfl
 |bl b=>cases(show u=Value.bool b from r);rfl
 |int i=>obtain⟨t,e⟩:=(show ∃t,u=Value.int i t from r);cases e;rfl
 |str x=>obtain⟨t,e⟩:=(show ∃t,u=Value.str x t from r);cases e;rfl
 |uz b=>obtain⟨t,e⟩:=(show ∃t,u=Value.bytes b t from r);cases e;rfl
 |flt b=>obtain⟨t,e⟩:=(show ∃t,u=Value.float b t from r);cases e;rfl
 |ref a=>cases(show u=Value.ref a from r);rfl
 |ty n=>cases(show u=Value.type n from r);rfl
section
variable {P:Program}{w:World}{H H':Hp}{h h':Heap}{a C dx:Addr}{fs fs':List (Str×V)}
theorem zj (hok:fH P w H h)(e:H a=some (.ins C dx fs)):∃mA,wN h a dx C mA/\(∀f,gZ (fs.lookup f) (mA f))/\PySem.Within mA (fs.map (·.1))/\fs.length<=1000/\H dx=some (.own a):=by
 obtain⟨d,z,ne,ob,mA,n,r,q⟩:=(show dY P w H h a (.ins C dx fs) from hok a _ e)
 exact⟨mA,⟨ob,n,ne⟩,r,q,z,d⟩
end
structure Cls (K:PySem.W.Frag)(C:Addr):Prop where
 pg:PySem.W.plainGet K C Str.empty=true
 hd:PySem.W.hasDictIn K C=true
 po:PySem.W.plainOver K C=true
 sa:PySem.W.findIn K (.ref C) "__setattr__"=some (some (.builtin "object.__setattr__"))
theorem Cls.get {K:PySem.W.Frag}{C:Addr}(c:Cls K C)(f:Str):PySem.W.plainGet K C f=true:=c.pg
noncomputable def lE (K:PySem.W.Frag)(C:Addr)(f:Str):Prop:=PySem.W.findIn K (.ref C) f=some none
theorem lE.taker {K:PySem.W.Frag}{C:Addr}{f:Str}(n:lE K C f):PySem.W.takerIn K C f=some none:=by
 unfold PySem.W.takerIn
 rw[show PySem.W.findIn K (.ref C) f=some none from n]
 rfl
structure Con (K:PySem.W.Frag)(C:Addr)(f:Str)(v:V)(u:Value):Prop where
 at_:PySem.W.findIn K (.ref C) f=some (some u)
 rel:RelV v u
 get:PySem.W.specialIn K u "__get__"=some none
 cp:PySem.W.copiedNames.contains f=false
structure Meth (K:PySem.W.Frag)(C:Addr)(m:Str)(f:Addr):Prop where
 at_:PySem.W.findIn K (.ref C) m=some (some (.ref f))
 fn:PySem.W.isFn K (.ref f)=true
 kp:PySem.W.keepIn K (.ref f)=true
section
variable {X:Cx}{pins:List (Addr×Obj)}{σ:St}{H:Hp}{s:Shared}{a C dx:Addr}{fs:List (Str×V)}{f:Str}{v:V}{A:Around}{E:Value->Shared->Prop}
theorem Jh {b:Bool}{Q:Value->Shared->Prop}(I:Inv X pins σ H s)(e:H a=some (.ins C dx fs))(c:Cls X.K C)(n:lE X.K C f)(l:fs.lookup f=some v)
  (h:∀u s',Inv X pins σ H s'->RelV v u->Q u s'):wpAny (model X.prog X.w) A (getAttr (.ref a) f b) Q E s:=by
 obtain⟨mA,O,r,_,_,_⟩:=zj I.hok e
 obtain⟨u,hu,ru⟩:=gZ.some_of (v:=v) (o:=mA f) (by rw[<-l];exact r f)
 exact get_map I.gG O (c.get f) c.hd n hu (Ag ru) (h u _ (I.tok _) ru)
theorem oA {m:Str}{g:Addr}{pl:Sem Bool}{Q:Value×List Value->Shared->Prop}(I:Inv X pins σ H s)(e:H a=some (.ins C dx fs))(c:Cls X.K C)(k:Meth X.K C m g)(l:fs.lookup m=none)
  (h:Q (.ref g,[.ref a]) s):wpAny (model X.prog X.w) A (getMethod (.ref a) m pl) Q E s:=by
 obtain⟨mA,O,r,_,_,_⟩:=zj I.hok e
 have hn:mA m=none:=gZ.none_of (by rw[<-l];exact r m)
 exact Qd I.gG O (c.get m) k.at_ k.fn hn h
theorem Ji {y:V}{u:Value}{Q:Unit->Shared->Prop}(I:Inv X pins σ H s)(e:H a=some (.ins C dx fs))(c:Cls X.K C)(n:lE X.K C f)(hl:fs.length<1000)(ry:RelV y u)
  (h:∀s',Inv X pins σ (upd H a (.ins C dx (jY f y fs))) s'->Q () s'):wpAny (model X.prog X.w) A (setAttr (.ref a) f u) Q E s:=by
 obtain⟨mA,O,r,wi,_,ho⟩:=zj I.hok e
 have hz:(fs.map (·.1)).length<=sizeLine:=by rw[List.length_map,sizeLine_eq];omega
 refine WL I.gG O c.sa c.po n.taker c.hd wi hz λh' O' sb=>h _ ?_
 have hd:∃o,h'.get? dx=some o:=let⟨o,_,_,e',_⟩:=O'.ns;⟨o,e'⟩
 refine I.write (x:=a) (e:=dx) (by rw[e];exact True.intro) (.inr ho) (λb q hb z=>(sb.2 b hb).trans z) hd ?_
 refine⟨by rw[aq O.ne];exact ho,?_,O.ne,O'.obj,_,O'.ns,λg=>?_,λg hg=>?_⟩
 .have:=wu f y fs;omega
 .show gZ ((jY f y fs).lookup g) (if g=f then some u else mA g)
  rw[wj]
  by_cases q:g=f
  .rw[if_pos q,if_pos q];exact ry
  .rw[if_neg q,if_neg q];exact r g
 .by_cases q:g=f
  .rw[q];exact(uI f y fs).1
  .refine(uI f y fs).2 g (wi g λz=>hg ?_)
   show(if g=f then some u else mA g)=none
   rw[if_neg q];exact z
theorem Inv.made (I:Inv X pins σ H s):Inv X pins σ (upd (upd H s.heap.objs.size (.own (s.heap.objs.size+1))) (s.heap.objs.size+1) (.ins C s.heap.objs.size []))
  {s with heap:=(s.heap.push PySem.W.emptyDict).push (PySem.W.instObj C s.heap.objs.size)}:=by
 have e1:(s.heap.push PySem.W.emptyDict).get? s.heap.objs.size=some PySem.W.emptyDict:=Heap.get?_push_size s.heap rfl
 have e2:((s.heap.push PySem.W.emptyDict).push (PySem.W.instObj C s.heap.objs.size)).get? (s.heap.objs.size+1)=some (PySem.W.instObj C s.heap.objs.size):=by
  have:=Heap.get?_push_size (s.heap.push PySem.W.emptyDict) (o:=PySem.W.instObj C s.heap.objs.size) rfl
  rwa [Heap.size_push] at this
 have e3:(s.heap.push PySem.W.emptyDict).Ns s.heap.objs.size (λ_=>none):=⟨PySem.W.emptyDict,#[],_,e1,rfl,(λe he=>absurd he (by simp)),λ_=>rfl⟩
 have I1:=I.laid (a:=s.heap.objs.size) (o:=.own (s.heap.objs.size+1)) (h':=s.heap.push PySem.W.emptyDict) (t':=s.toks) (λb u q=>Heap.get?_push_of_some _ q) (Nat.le_refl _) ⟨_,e1⟩
 refine I1.laid (a:=s.heap.objs.size+1) (o:=.ins C s.heap.objs.size []) (t':=s.toks) (λb u q=>Heap.get?_push_of_some _ q) (Nat.le_of_eq (Heap.size_push _ _)) ?_
 have ne:s.heap.objs.size≠s.heap.objs.size+1:=Nat.ne_of_lt (Nat.lt_succ_self _)
 refine⟨by rw[aq ne,ao],Nat.zero_le _,ne,e2,λ_=>none,(Heap.Ns1.of_empty e3).at λo q=>Heap.get?_push_of_some _ q,λ_=>True.intro,λy hy=>absurd rfl hy⟩
theorem G7 {prog:Program}{w:World}{env:Env}{e:Expr}{f:Str}{pos:Pos}{s:Shared}{Q:Value->Shared->Prop}(hb:attributeBase e f env (eval e env)=eval e env)
  (h:wpAny (model prog w) A (eval e env) (λo s₁=>wpAny (model prog w) A (getAttr o f true) Q E s₁) E s):wpAny (model prog w) A (eval (.Attribute e f pos) env) Q E s:=
 Attribute_any_ h (by rw[arm_eval_Attribute,hb])
end
noncomputable def Jj (K:PySem.W.Frag)(ta:TE)(f:Str):TE:=λσ H Q=>ta σ H λx H1=>∃a C dx fs v,x=.ref a/\H1 a=some (.ins C dx fs)/\Cls K C/\lE K C f/\fs.lookup f=some v/\Q v H1
noncomputable def Zb (K:PySem.W.Frag)(ta tv:TE)(f:Str):TS:=λD σ H=>tv σ H λy H1=>ta σ H1 λx H2=>∃a C dx fs,x=.ref a/\H2 a=some (.ins C dx fs)/\Cls K C/\lE K C f/\fs.length<1000/\
 D.nx σ (upd H2 a (.ins C dx (jY f y fs)))
section
variable {X:Cx}{o e value:Expr}{f:Str}{pos pos' tpos:Pos}{ta tv:TE}
theorem gH (he:PE X e ta)(hb:attributeBase e f X.env (eval e X.env)=eval e X.env):PE X (.Attribute e f pos) (Jj X.K ta f):=by
 intro pins s σ H Q I h
 refine G7 hb (aQ (he pins s σ H _ I h) λu s1 ⟨x,H1,I1,rx,a,C,dx,fs,v,ex,ea,c,n,l,q⟩=>?_)
 subst ex
 obtain rfl:u=Value.ref a:=rx
 exact Jh I1 ea c n l λu' s2 I2 ru=>⟨v,H1,I2,ru,q⟩
theorem Lp (ha:PE X o ta)(hv:PE X value tv)(hs:swapsWith value (some (.Attribute o f pos')) pos.line X.env=pure false):PS X (.Assign [.Attribute o f pos'] value pos) (Zb X.K ta tv f):=by
 intro pins s σ H D I h
 refine plainObj_wpAny_Assign_Attribute (aQ (hv pins s σ H _ I h) λu s1 ⟨y,H1,I1,ry,q⟩=>aQ (ha pins s1 σ H1 _ I1 q) λov s2 ⟨x,H2,I2,rx,a,C,dx,fs,ex,ea,c,n,l,q2⟩=>?_) hs
 subst ex
 obtain rfl:ov=Value.ref a:=rx
 exact Ji I2 ea c n l ry λs3 I3=>⟨σ,_,I3,q2⟩
theorem afL {pl:Sem Bool}{m:Str}{apos:Pos}{args:List Expr}{pins:List (Addr×Obj)}{s:Shared}{σ:St}{H:Hp}{Q:Value->Shared->Prop}{te:TE}(he:PE X e te)(I:Inv X pins σ H s)
  (h:te σ H λx H1=>∃a C dx fs g,x=.ref a/\H1 a=some (.ins C dx fs)/\Cls X.K C/\Meth X.K C m g/\fs.lookup m=none/\
   ∀s1,Inv X pins σ H1 s1->wpAny (model X.prog X.w) X.A (callWith pos (.ref g) [.ref a] (backTo pos (starEach args X.env)) (backToKw pos (keywordEach [] X.env))) Q X.xe s1)
  (ht:eval (.Call (.Attribute e m apos) args [] pos) X.env=(do
   let ov<-eval e X.env
   standAt apos.atName
   let(f,first)<-holding [ov] (getMethod ov m pl)
   callWith pos f first (backTo pos (starEach args X.env)) (backToKw pos (keywordEach [] X.env)))):
  wpAny (model X.prog X.w) X.A (eval (.Call (.Attribute e m apos) args [] pos) X.env) Q X.xe s:=by
 refine PySem.W.methodCall_KW (pl:=pl) (aQ (he pins s σ H _ I h) λu s1 ⟨x,H1,I1,rx,a,C,dx,fs,g,ex,ea,c,k,l,q⟩=>?_) ht
 subst ex
 obtain rfl:u=Value.ref a:=rx
 exact oA I1 ea c k l (q s1 I1)
end
section
variable {X:Cx}{pins:List (Addr×Obj)}{σ:St}{H:Hp}{s:Shared}{A:Around}{E:Value->Shared->Prop}{Q:Value->Shared->Prop}{c:Value}{b:Bool}
inductive oZ (K:PySem.W.Frag)(H:Hp):V->Value->Prop where
 |non:oZ K H .non (.type "NoneType")
 |bl (x:Bool):oZ K H (.bl x) (.type "bool")
 |int (i:Int):oZ K H (.int i) (.type "int")
 |str (x:Str):oZ K H (.str x) (.type "str")
 |flt (x:UInt64):oZ K H (.flt x) (.type "float")
 |lst {a:Addr} {xs:List V} (e:H a=some (.lst xs)):oZ K H (.ref a) (.type "list")
 |eO {a:Addr} {o:Obj} {xs:List V} (e:H a=some (.eO o (.lst xs))):oZ K H (.ref a) (.type "list")
 |tup {a:Addr} {xs:List V} (e:H a=some (.tup xs)):oZ K H (.ref a) (.type "tuple")
 |dK {a:Addr} {kvs:List (Key×V)} (e:H a=some (.dK kvs)):oZ K H (.ref a) (.type "dict")
 |dT {a:Addr} {kvs:List (List Key×V)} (e:H a=some (.dT kvs)):oZ K H (.ref a) (.type "dict")
 |ins {a C dx:Addr} {fs:List (Str×V)} (e:H a=some (.ins C dx fs)) (cl:Cls K C) (ha:PySem.W.findIn K (.ref C) "__class__"=some (some (.builtin "object.__class__")))
  (hn:PySem.W.specialIn K (.builtin "object.__class__") "__get__"=some (some (.builtin "getset_descriptor.__get__"))) (htk:PySem.W.takesIn K (.builtin "object.__class__")=some true)
  (hm:PySem.W.mroIn K C (.type "object")=some true):oZ K H (.ref a) (.ref C)
end
end L2
namespace L2
open PySem PySem.Spec PyProof.Rows
structure cR (k:Nat)(A:Around):Prop where
 hd:A.handled=none
 dp:A.depth+3*k+5<recursionLimit
 un:A.units+16*k+200<cLine
theorem cR.mono {j k:Nat}{A:Around}(r:cR k A)(h:j<=k):cR j A:=⟨r.hd,by have:=r.dp;omega,by have:=r.un;omega⟩
theorem cR.deeper {k:Nat}{A:Around}(r:cR (k+1) A)(env:Env):cR k (A.deeper env):=
 ⟨r.hd,by have:=r.dp;show A.depth+1+3*k+5<_;omega,by have:=r.un;show A.units+3+16*k+200<_;omega⟩
theorem Jk {A:Around}{C:Addr}{us:List Value}{kw:List (Str×Value)}:(A.under (.builtin "type.__call__" ⟨.ref C::us,kw⟩)).depth=A.depth+1:=by
 first|rfl|simp[Around.under,Code.weight,Code.isCreation,Code.isGuard,Code.isCaller,Code.frames,Code.isFrame,guardIds]
theorem Jl {A:Around}{C:Addr}{us:List Value}{kw:List (Str×Value)}:(A.under (.builtin "type.__call__" ⟨.ref C::us,kw⟩)).units=A.units+1:=by
 first|rfl|simp[Around.under,Code.cUnits,Code.frames,Code.isFrame]
theorem cR.make {k:Nat}{A:Around}(r:cR (k+1) A)(C:Addr)(us:List Value)(kw:List (Str×Value)):cR k (A.under (.builtin "type.__call__" ⟨.ref C::us,kw⟩)):=
 ⟨r.hd,by have:=r.dp;rw[Jk];omega,by have:=r.un;rw[Jl];omega⟩
theorem cR.depth {k:Nat}{A:Around}(r:cR k A):A.depth<recursionLimit:=by have:=r.dp;omega
theorem cR.units {k:Nat}{A:Around}(r:cR k A):A.units+64<cLine:=by have:=r.un;omega
noncomputable def bA:TA:=λ_ H Q=>Q [] H
noncomputable def aN (ta:TE)(tr:TA):TA:=λσ H Q=>ta σ H λx H1=>tr σ H1 λxs H2=>Q (x::xs) H2
section
variable {X:Cx}{e:Expr}{es:List Expr}{te:TE}{t:TA}{pos:Pos}
theorem aF:PA X [] bA:=λ_ _ _ _ H Q I h=>Calls.spliced_nil ⟨[],H,I,.nil,h⟩
theorem ak (ha:PE X e te)(hr:PA X es t)(hs:starEach (e::es) X.env=(false,eval e X.env)::starEach es X.env:=by rfl):PA X (e::es) (aN te t):=by
 intro pos pins s σ H Q I h
 rw[hs]
 show wpAny _ _ (spliced ((false,eval e X.env)::backTo pos (starEach es X.env))) _ _ s
 refine Calls.spliced_cons (aQ (ha pins s σ H _ I h) λu s1 ⟨x,H1,I1,r1,q1⟩=>?_)
 exact aQ (hr pos pins s1 σ H1 _ I1 q1) λus s2 ⟨xs,H2,I2,r2,q2⟩=>⟨x::xs,H2,I2,.cons r1 r2,q2⟩
noncomputable def wO (t:TA):TE:=λσ H Q=>t σ H λxs H1=>xs.length<=sizeLine/\∀p,H1 p=none->Q (.ref p) (upd H1 p (.tup xs))
noncomputable def zm (t:TA):TE:=λσ H Q=>t σ H λxs H1=>xs.length<=sizeLine/\∀p,H1 p=none->Q (.ref p) (upd H1 p (.lst xs))
theorem iQ {x1}(h:PA X es t):PE X (.Tuple es x1 pos) (wO t):=by
 intro pins s σ H Q I hq
 refine wpAny_Tuple_spliced (aQ (h pos pins s σ H _ I hq) λus s1 ⟨xs,H1,I1,r,z,q⟩=>⟨by rw[<-r.length];exact z,?_⟩)
 have hf:H1 s1.heap.objs.size=none:=I1.hok.fresh (Nat.le_refl _)
 refine⟨.ref s1.heap.objs.size,upd H1 s1.heap.objs.size (.tup xs),I1.laid (t':=s1.toks) (λb u e=>Heap.get?_push_of_some _ e) (Nat.le_refl _) ?_,rfl,q _ hf⟩
 exact⟨z,us,r,⟨_,Heap.get?_push_size _ rfl,rfl,_,rfl⟩⟩
theorem ni (h:PA X es t):PE X (.List es pos) (zm t):=by
 intro pins s σ H Q I hq
 refine wpAny_List_spliced (aQ (h pos pins s σ H _ I hq) λus s1 ⟨xs,H1,I1,r,z,q⟩=>⟨by rw[<-r.length];exact z,?_⟩)
 have hf:H1 s1.heap.objs.size=none:=I1.hok.fresh (Nat.le_refl _)
 refine⟨.ref s1.heap.objs.size,upd H1 s1.heap.objs.size (.lst xs),I1.laid (t':=s1.toks) (λb u e=>Heap.get?_push_of_some _ e) (Nat.le_refl _) ?_,rfl,q _ hf⟩
 exact⟨z,us,0,r,Heap.get?_push_size _ rfl⟩
end
noncomputable abbrev Sp:=List V->Hp->VK->XK->Prop
noncomputable abbrev qm:=List Env->Hp->Shared->XK->Value->Shared->Prop
structure wQ (P:Program)(w:World)(K:PySem.W.Frag)(mg:Str->Option Value)(base:Heap)(A:Around)(outer:List Env)(s:Shared)(H:Hp):Prop where
 frames:A.frames=some outer
 mod:Mod K mg base
 bs:∀b o,base.get? b=some o->s.heap.get? b=some o/\H b=none
 uD:base.objs.size<=s.heap.objs.size
 lX:s.heap.FunFrames base outer
 Aa:∀b∈frs outer,H b=none
 hok:fH P w H s.heap
 bare:AllBare s.gens
noncomputable def CE (outer:List Env)(P:Program)(w:World)(H:Hp)(s:Shared)(Q:VK)(u:Value)(s':Shared):Prop:=
 ∃v H',s'.os=s.os/\AllBare s'.gens/\Un (frs outer) [] H H' s.heap s'.heap/\fH P w H' s'.heap/\RelV v u/\Q v H'
noncomputable def CR (CX:qm)(outer:List Env)(P:Program)(w:World)(H:Hp)(s:Shared)(Q:VK)(E:XK)(r:Result)(s':Shared):Prop:=
 match r with
 |.ok (.ret u)=>CE outer P w H s Q u s'
 |.ok _=>False
 |.error e=>CX outer H s E e s'
structure aW (P:Program)(w:World)(K:PySem.W.Frag)(mg:Str->Option Value)(base:Heap)(CX:qm)(k:Nat)(f:Addr)(fd:FuncData)(ps:List Str)(sp:Sp):Prop where
 len:∀vs H Q E,sp vs H Q E->vs.length=ps.length
 run:∀(A:Around) (outer:List Env) (s:Shared) (H:Hp) (args:Args) (us:List Value) (vs:List V) (Q:VK) (E:XK),cR k A->wQ P w K mg base A outer s H->BindsTo s fd args (ps.zip us)->Vals vs us->sp vs H Q E->
  codeAny (model P w) A (.call (.ref f) args) (CR CX outer P w H s Q E) s
theorem aW.imp {P:Program}{w:World}{K:PySem.W.Frag}{mg:Str->Option Value}{base:Heap}{CX:qm}{k:Nat}{f:Addr}{fd:FuncData}{ps:List Str}{sp Lq:Sp}(F:aW P w K mg base CX k f fd ps sp)
  (h:∀vs H Q E,Lq vs H Q E->sp vs H Q E):aW P w K mg base CX k f fd ps Lq:=
 ⟨λvs H Q E q=>F.len vs H Q E (h _ _ _ _ q),λA outer s H args us vs Q E hr he hb hv hs=>F.run A outer s H args us vs Q E hr he hb hv (h _ _ _ _ hs)⟩
theorem wQ.make {P:Program}{w:World}{K:PySem.W.Frag}{mg:Str->Option Value}{base:Heap}{A:Around}{outer:List Env}{s:Shared}{H:Hp}(e:wQ P w K mg base A outer s H)(C:Addr)(us:List Value)(kw:List (Str×Value)):
  wQ P w K mg base (A.under (.builtin "type.__call__" ⟨.ref C::us,kw⟩)) outer s H:=⟨by first|exact e.frames|(simpa [Around.under,Code.envs,Code.isFrame,pushEnvs] using e.frames),e.mod,e.bs,e.uD,e.lX,e.Aa,e.hok,e.bare⟩
section
variable {X:Cx}{pins:List (Addr×Obj)}{σ:St}{H:Hp}{s s':Shared}
theorem Inv.env0 (I:Inv X pins σ H s):wQ X.prog X.w X.K X.mg X.base X.A X.stack s H:=
 ⟨I.ok.frames,I.ok.mod,I.bs,Nat.le_trans I.ok.uD I.sz,I.stack,I.vm,I.hok,I.bare⟩
theorem Inv.after {Q:VK}{u:Value}(I:Inv X pins σ H s)(h:CE X.stack X.prog X.w H s Q u s'):EP X pins σ Q u s':=by
 obtain⟨v,H',os,bare,un,hok,r,q⟩:=h
 obtain⟨hh,g,d,t,os'⟩:=s'
 obtain rfl:os'=s.os:=os
 exact⟨v,H',I.call (h':=hh) (g':=g) (d':=d) (t':=t) (ch:=[]) un hok bare (λb z=>absurd z (by simp)),r,q⟩
end
noncomputable def fU (sp:Sp)(j9:List V)(E:XK)(t:TA):TE:=λσ H Q=>t σ H λvs H1=>sp (vs++j9) H1 Q E
noncomputable def jA (C:Addr)(m:Str)(sp:Sp)(j9:List V)(E:XK)(ta:TE)(t:TA):TE:=λσ H Q=>ta σ H λx H1=>∃a dx fs,x=.ref a/\H1 a=some (.ins C dx fs)/\fs.lookup m=none/\
 t σ H1 λvs H2=>sp (x::(vs++j9)) H2 Q E
noncomputable def Uz (C:Addr)(sp:Sp)(j9:List V)(E:XK)(t:TA):TE:=λσ H Q=>t σ H λvs H1=>∀x dx,H1 x=none->H1 dx=none->dx≠x->
 sp (.ref x::(vs++j9)) (upd (upd H1 dx (.own x)) x (.ins C dx [])) (λv H2=>v=.non/\Q (.ref x) H2) E
noncomputable def Binds (K:PySem.W.Frag)(fd:FuncData)(ps:List Str)(ds:List Value):Prop:=
 ∀(s:Shared) (us:List Value),K.In s.heap->(us++ds).length=ps.length->BindsTo s fd ⟨us,[]⟩ (ps.zip (us++ds))
theorem Binds.all {K:PySem.W.Frag}{fd:FuncData}{ps:List Str}(h:∀us:List Value,us.length=ps.length->bindArgs fd ⟨us,[]⟩=pure (ps.zip us)):Binds K fd ps []:=λs us _ hl=>by
 rw[List.append_nil] at hl ⊢
 exact .of_eq (h us hl)
noncomputable def Passes (CX:qm)(X:Cx)(E:XK):Prop:=∀(pins:List (Addr×Obj)) (σ:St) (H:Hp) (s:Shared) (e:Value) (s':Shared),Inv X pins σ H s->CX X.stack H s E e s'->X.xe e s'
section
variable {X:Cx}{CX:qm}{k:Nat}{f C:Addr}{fd:FuncData}{ps:List Str}{sp:Sp}{j9:List V}{ds:List Value}{E:XK}{x m:Str}{p pos apos:Pos}{e o:Expr}{es:List Expr}{ta:TE}{t:TA}
theorem Dm {pins:List (Addr×Obj)}{σ:St}{H:Hp}{s:Shared}{Q:VK}{us:List Value}{vs:List V}(F:aW X.prog X.w X.K X.mg X.base CX k f fd ps sp)(hr:cR k X.A)(hb:Binds X.K fd ps ds)(hd:Vals j9 ds)(hx:Passes CX X E)
  (I:Inv X pins σ H s)(r:Vals vs us)(h:sp (vs++j9) H Q E):wpAny (model X.prog X.w) X.A (call (.ref f) us) (EP X pins σ Q) X.xe s:=by
 have r2:Vals (vs++j9) (us++ds):=r.append hd
 have hl:(us++ds).length=ps.length:=by rw[<-r2.length];exact F.len _ _ _ _ h
 refine wpAny_call (codeAny_mono (F.run X.A X.stack s H ⟨us,[]⟩ (us++ds) (vs++j9) Q E hr I.env0 (hb s us I.gG hl) r2 h) λr s' hq=>?_)
 cases r with
 |error e=>exact hx pins σ H s e s' I hq
 |ok fl=>
  cases fl with
  |ret u=>exact I.after hq
  |next=>exact False.elim hq
  |brk=>exact False.elim hq
  |cont=>exact False.elim hq
theorem WM (F:aW X.prog X.w X.K X.mg X.base CX k f fd ps sp)(hr:cR k X.A)(hg:Gl X x)(hm:X.mg x=some (.ref f))(hk:PySem.W.keepIn X.K (.ref f)=true)(hb:Binds X.K fd ps ds)(hd:Vals j9 ds)(hx:Passes CX X E)
  (ha:PA X (e::es) t)(hdb:(x==("__debug__":Str))=false:=by decide)(he:starEach (e::es) X.env=(false,eval e X.env)::starEach es X.env:=by rfl)(hpl:(backTo pos (starEach es X.env)).any (·.1)=false:=by rfl):
  PE X (.Call (.Name x p) (e::es) [] pos) (fU sp j9 E t):=by
 intro pins s σ H Q I h
 refine wpAny_Call_Name_kw (jO I hg hm ?_ hdb)
 refine PySem.W.callWith_K (h₀:=X.base) I.ok.mod.v8 hk (aQ (ha pos pins s σ H _ I h) λus s1 ⟨vs,H1,I1,r,q⟩=>⟨I1.gG,?_⟩) he hpl
 exact Dm F hr hb hd hx I1 r q
theorem lq {pl:Sem Bool}(he:PE X o ta)(c:Cls X.K C)(hm:Meth X.K C m f)(F:aW X.prog X.w X.K X.mg X.base CX k f fd ps sp)(hr:cR k X.A)(hb:Binds X.K fd ps ds)(hd:Vals j9 ds)(hx:Passes CX X E)(ha:PA X (e::es) t)
  (hst:starEach (e::es) X.env=(false,eval e X.env)::starEach es X.env:=by rfl)(hpl:(backTo pos (starEach es X.env)).any (·.1)=false:=by rfl)
  (ht:eval (.Call (.Attribute o m apos) (e::es) [] pos) X.env=(do
   let ov<-eval o X.env
   standAt apos.atName
   let(f,first)<-holding [ov] (getMethod ov m pl)
   callWith pos f first (backTo pos (starEach (e::es) X.env)) (backToKw pos (keywordEach [] X.env))):=by rfl):
  PE X (.Call (.Attribute o m apos) (e::es) [] pos) (jA C m sp j9 E ta t):=by
 intro pins s σ H Q I h
 refine PySem.W.methodCall_KW (pl:=pl) (aQ (he pins s σ H _ I h) λu s1 ⟨x,H1,I1,rx,a,dx,fs,ex,ea,l,q⟩=>?_) ht
 subst ex
 obtain rfl:u=Value.ref a:=rx
 refine oA I1 ea c hm l ?_
 refine PySem.W.callWith_K (first:=[.ref a]) (h₀:=X.base) I.ok.mod.v8 hm.kp (aQ (ha pos pins s1 σ H1 _ I1 q) λus s2 ⟨vs,H2,I2,r,q2⟩=>⟨I2.gG,?_⟩) hst hpl
 exact Dm (us:=.ref a::us) (vs:=.ref a::vs) F hr hb hd hx I2 (.cons rfl r) q2
theorem sY {pl:Sem Bool}(he:PE X o ta)(c:Cls X.K C)(hm:Meth X.K C m f)(F:aW X.prog X.w X.K X.mg X.base CX k f fd ps sp)(hr:cR k X.A)(hb:Binds X.K fd ps ds)(hd:Vals j9 ds)(hx:Passes CX X E)
  (ht:eval (.Call (.Attribute o m apos) [] [] pos) X.env=(do
   let ov<-eval o X.env
   standAt apos.atName
   let(f,first)<-holding [ov] (getMethod ov m pl)
   callWith pos f first (backTo pos (starEach [] X.env)) (backToKw pos (keywordEach [] X.env))):=by rfl):
  PE X (.Call (.Attribute o m apos) [] [] pos) (jA C m sp j9 E ta bA):=by
 intro pins s σ H Q I h
 refine PySem.W.methodCall_KW (pl:=pl) (aQ (he pins s σ H _ I h) λu s1 ⟨x,H1,I1,rx,a,dx,fs,ex,ea,l,q⟩=>?_) ht
 subst ex
 obtain rfl:u=Value.ref a:=rx
 refine oA I1 ea c hm l ?_
 exact PySem.W.callWith_K0 (first:=[.ref a]) I1.gG hm.kp (Dm (us:=[.ref a]) (vs:=[.ref a]) F hr hb hd hx I1 (.cons rfl .nil) q)
structure Mk (K:PySem.W.Frag)(C f:Addr):Prop where
 makes:PySem.W.makesIn K C=true
 init:PySem.W.findIn K (.ref C) "__init__"=some (some (.ref f))
 fn:PySem.W.isFn K (.ref f)=true
 kp:PySem.W.keepIn K (.ref C)=true
theorem Qe {pins:List (Addr×Obj)}{σ:St}{H:Hp}{s:Shared}{Q:VK}{us:List Value}{vs:List V}(M:Mk X.K C f)(F:aW X.prog X.w X.K X.mg X.base CX k f fd ps sp)(hr:cR (k+1) X.A)(hb:Binds X.K fd ps ds)(hd:Vals j9 ds)
  (hx:Passes CX X E)(I:Inv X pins σ H s)(r:Vals vs us)
  (h:∀x dx,H x=none->H dx=none->dx≠x->sp (.ref x::(vs++j9)) (upd (upd H dx (.own x)) x (.ins C dx [])) (λv H2=>v=.non/\Q (.ref x) H2) E):
  wpAny (model X.prog X.w) X.A (call (.ref C) us) (EP X pins σ Q) X.xe s:=by
 have hq:=h (s.heap.objs.size+1) s.heap.objs.size (I.hok.fresh (Nat.le_succ _)) (I.hok.fresh (Nat.le_refl _)) (Nat.ne_of_lt (Nat.lt_succ_self _))
 have I2:=Inv.made (C:=C) I
 have r2:Vals (V.ref (s.heap.objs.size+1)::(vs++j9)) (Value.ref (s.heap.objs.size+1)::(us++ds)):=.cons rfl (r.append hd)
 have hl:(Value.ref (s.heap.objs.size+1)::us++ds).length=ps.length:=by
  have e:=r2.length
  rw[F.len _ _ _ _ hq] at e
  exact e.symm
 refine wpAny_call (Dl (f:=f) I.gG M.makes M.init (beq_iff_eq.mp M.fn) (codeAny_mono (F.run _ X.stack _ _ ⟨Value.ref (s.heap.objs.size+1)::us,[]⟩ (Value.ref (s.heap.objs.size+1)::(us++ds)) _ _ E (hr.make C us [])
  (I2.env0.make C us []) (hb _ (Value.ref (s.heap.objs.size+1)::us) I2.gG hl) r2 hq) λr s' hq'=>?_))
 cases r with
 |error e=>exact hx pins σ _ _ e s' I2 hq'
 |ok fl=>
  cases fl with
  |ret u=>
   obtain⟨v,H',I3,rv,ev,q3⟩:=I2.after hq'
   subst ev
   exact⟨rv,⟨V.ref (s.heap.objs.size+1),H',I3,rfl,q3⟩⟩
  |next=>exact False.elim hq'
  |brk=>exact False.elim hq'
  |cont=>exact False.elim hq'
theorem WQ (M:Mk X.K C f)(F:aW X.prog X.w X.K X.mg X.base CX k f fd ps sp)(hr:cR (k+1) X.A)(hg:Gl X x)(hm:X.mg x=some (.ref C))(hb:Binds X.K fd ps ds)(hd:Vals j9 ds)(hx:Passes CX X E)
  (ha:PA X (e::es) t)(hdb:(x==("__debug__":Str))=false:=by decide)(he:starEach (e::es) X.env=(false,eval e X.env)::starEach es X.env:=by rfl)(hpl:(backTo pos (starEach es X.env)).any (·.1)=false:=by rfl):
  PE X (.Call (.Name x p) (e::es) [] pos) (Uz C sp j9 E t):=by
 intro pins s σ H Q I h
 refine wpAny_Call_Name_kw (jO I hg hm ?_ hdb)
 refine PySem.W.callWith_K (h₀:=X.base) I.ok.mod.v8 M.kp (aQ (ha pos pins s σ H _ I h) λus s1 ⟨vs,H1,I1,r,q⟩=>⟨I1.gG,?_⟩) he hpl
 exact Qe M F hr hb hd hx I1 r q
end
section
variable {X:Cx}{CX:qm}{k:Nat}{f C:Addr}{fd:FuncData}{ps ks:List Str}{sp:Sp}{E:XK}{x m:Str}{p pos apos kpos:Pos}{e o:Expr}{es:List Expr}{kws:List Keyword}{te ta:TE}{t tk:TA}{nm:Option Str}
structure amA (K:PySem.W.Frag)(fd:FuncData)(ps ks:List Str)(g:List Value->List Value->List Value)(gV:List V->List V->List V):Prop where
 to:∀(s:Shared) (us ws:List Value),K.In s.heap->(g us ws).length=ps.length->BindsTo s fd ⟨us,ks.zip ws⟩ (ps.zip (g us ws))
 rel:∀{vs:List V}{us:List Value} {zs:List V} {ws:List Value},Vals vs us->Vals zs ws->Vals (gV vs zs) (g us ws)
variable {g:List Value->List Value->List Value}{gV:List V->List V->List V}
end
structure bF (N P:List Str)(sc:Scope):Prop where
 kind:sc.kind=.function
 co:sc.isCoroutine=false
 gen:sc.isGenerator=false
 nd:N.Nodup
 pre:N.take P.length=P
 par:∀x∈P,sc.names.lookup x=some .local\/sc.names.lookup x=some .cell
 Zc:∀y∈sc.names,y.2≠ .free
theorem Ah {kindOf:Str->Option NameKind}{x:Str}:∀{binds:List (Str×Value)}{m:Str->Option Value},(∀v,(x,v)∉binds)->bindL kindOf binds m x=m x
 |[],_,_=>rfl
 |(n,v)::r,m,h=>by
  unfold bindL
  rw[Ah λw hw=>h w (List.mem_cons_of_mem _ hw)]
  split
  .have:x≠n:=by rintro rfl;exact h v List.mem_cons_self
   simp[this]
  .rfl
theorem Ai {kindOf:Str->Option NameKind}{x:Str}:∀{binds:List (Str×Value)}{m:Str->Option Value},(∀v,(x,v)∉binds)->bindC kindOf binds m x=m x
 |[],_,_=>rfl
 |(n,v)::r,m,h=>by
  unfold bindC
  rw[Ai λw hw=>h w (List.mem_cons_of_mem _ hw)]
  split
  .rfl
  .have:x≠n:=by rintro rfl;exact h v List.mem_cons_self
   simp[this]
theorem Aj {kindOf:Str->Option NameKind}{x:Str}{v:Value}:∀{P:List Str}{vs:List Value} {i:Nat} {m:Str->Option Value},P.Nodup->P[i]? =some x->vs[i]? =some v->kindOf x=some .local->
  bindL kindOf (P.zip vs) m x=some v
 |[],_,_,_,_,h,_,_=>by simp at h
 |_::_,[],_,_,_,_,h,_=>by simp at h
 |p::P,w::vs,0,m,nd,h1,h2,hk=>by
  simp at h1 h2;subst h1;subst h2
  show bindL kindOf ((p,w)::P.zip vs) m p=_
  unfold bindL
  rw[Ah λv hv=>(List.nodup_cons.mp nd).1 (List.of_mem_zip hv).1,if_pos hk]
  simp
 |p::P,w::vs,i+1,m,nd,h1,h2,hk=>by
  show bindL kindOf ((p,w)::P.zip vs) m x=_
  unfold bindL
  exact Aj (i:=i) (List.nodup_cons.mp nd).2 (by simpa using h1) (by simpa using h2) hk
theorem Ak {kindOf:Str->Option NameKind}{x:Str}{v:Value}:∀{P:List Str}{vs:List Value} {i:Nat} {m:Str->Option Value},P.Nodup->P[i]? =some x->vs[i]? =some v->kindOf x≠some .local->
  bindC kindOf (P.zip vs) m x=some v
 |[],_,_,_,_,h,_,_=>by simp at h
 |_::_,[],_,_,_,_,h,_=>by simp at h
 |p::P,w::vs,0,m,nd,h1,h2,hk=>by
  simp at h1 h2;subst h1;subst h2
  show bindC kindOf ((p,w)::P.zip vs) m p=_
  unfold bindC
  rw[Ai λv hv=>(List.nodup_cons.mp nd).1 (List.of_mem_zip hv).1,if_neg hk]
  simp
 |p::P,w::vs,i+1,m,nd,h1,h2,hk=>by
  show bindC kindOf ((p,w)::P.zip vs) m x=_
  unfold bindC
  exact Ak (i:=i) (List.nodup_cons.mp nd).2 (by simpa using h1) (by simpa using h2) hk
noncomputable def start (N:List Str)(vs:List V):St:=vs.map some++List.replicate (N.length - vs.length) none
noncomputable def fW (CX:qm)(P:Program)(w:World)(K:PySem.W.Frag)(mg:Str->Option Value)(base:Heap)(N:List Str)(qual:Str)(scope:Scope)(f:Addr)(cd:Value)(A:Around)(outer:List Env)(s:Shared)(H:Hp)(E:XK):Cx where
 prog:=P
 w:=w
 K:=K
 mg:=mg
 base:=base
 A:=A.deeper (envOfC qual scope s.heap.objs.size f cd)
 N:=N
 s₀:=s
 H₀:=H
 env:=envOfC qual scope s.heap.objs.size f cd
 outer:=outer
 stack:=envOfC qual scope s.heap.objs.size f cd::outer
 ex:=[]
 calm:=true
 fn:=λ_=>true
 pn:=[]
 xe:=λe s'=>wpAny (model P w) (A.deeper (envOfC qual scope s.heap.objs.size f cd)) (leaving (envOfC qual scope s.heap.objs.size f cd) e) (λ_ s''=>CX outer H s E e s'') (λe' s''=>CX outer H s E e' s'') s'
theorem Dp {sc:Scope}{n:Nat}{x:Str}(h:sc.names.lookup x=some .cell):∃c,(cellsFrom n sc.names []).lookup x=some c:=by
 have q:=PySem.W.cellsFrom_some sc.names n [] (.inl h)
 exact Option.isSome_iff_exists.mp q
theorem Lr {CX:qm}{P:Program}{w:World}{K:PySem.W.Frag}{mg:Str->Option Value}{base:Heap}{N ps:List Str}{qual:Str}{scope:Scope}{f:Addr}{cd:Value}{A:Around}{outer:List Env}{s s1:Shared}{H:Hp}{E:XK}{us:List Value}{vs:List V}
  (S:bF N ps scope)(hd:A.handled=none)(e0:wQ P w K mg base A outer s H)(hl:vs.length=ps.length)(r:Vals vs us)
  (x:InCallC s s.heap.objs.size (bindL (envOfC qual scope s.heap.objs.size f cd).kindOf (ps.zip us) λ_=>none) (cellsFrom (s.heap.objs.size+1) scope.names []) (bindC (envOfC qual scope s.heap.objs.size f cd).kindOf (ps.zip us) λ_=>none) s1):
  Inv (fW CX P w K mg base N qual scope f cd A outer s H E) [] (start N vs) H s1:=by
 have hpl:ps.length<=N.length:=by have:=congrArg List.length S.pre;rw[List.length_take] at this;omega
 obtain⟨h1,tk,rfl,hk⟩:=x.done
 have Ls:∀b:Addr,b∉(fW CX P w K mg base N qual scope f cd A outer s H E).ex:=λb z=>absurd (show b∈([]:List Addr) from z) (by simp)
 refine⟨⟨e0.mod,S.kind,rfl,rfl,Nat.le_refl _,λy z c h1 h2=>?_,λy hy=>?_,λy c _ h=>?_,λ_=>hd,Around.frames_deeper e0.frames,.inr ⟨rfl,rfl⟩,λb z=>absurd z (Ls b),e0.bs,e0.uD,λb _ _=>Ls b,λb z=>absurd z (Ls b),e0.lX,e0.Aa⟩,
  rfl,e0.bare,Un.kept hk,⟨_,x.toInCall.ns,λi y v h1 h2 h3=>?_⟩,λy c h=>⟨_,x.cell y c h⟩,e0.hok.fresh (Nat.le_refl _),λy c h=>?_,λp hp=>absurd (show p∈([]:List (Addr×Obj)) from hp) (by simp),e0.hok.kept hk,?_⟩
 .exact name_of_addr x.apart (PySem.mem_of_lookup h1) (PySem.mem_of_lookup h2)
 .have hy:scope.names.lookup y=some .cell\/scope.names.lookup y=some .free:=hy
  rcases hy with hy|hy
  .exact Dp hy
  .exact absurd rfl (S.Zc _ (PySem.mem_of_lookup hy))
 .exact Nat.le_of_lt (x.above y c (PySem.mem_of_lookup h))
 .have hi:i<vs.length:=by
   unfold start at h2
   by_cases hi:i<vs.length
   .exact hi
   .rw[List.getElem?_append_right (by simpa using hi)] at h2
    rw[List.getElem?_replicate] at h2
    split at h2<;>cases h2
  have ha:vs[i]? =some v:=by
   unfold start at h2
   rw[List.getElem?_append_left (by simpa using hi),List.getElem?_map] at h2
   cases e:vs[i]? with
   |none=>rw[e] at h2;cases h2
   |some a=>rw[e] at h2;cases h2;rfl
  obtain⟨u,hu,rv⟩:=r.get ha
  have hp:ps[i]? =some y:=by
   rw[<-S.pre,List.getElem?_take_of_lt (by omega)];exact h1
  have ndP:ps.Nodup:=by rw[<-S.pre];exact S.nd.sublist (List.take_sublist _ _)
  refine⟨u,rv,?_⟩
  rcases S.par y (List.mem_of_getElem? hp) with k|k
  .exact .inl ⟨k,Aj ndP hp hu k⟩
  .obtain⟨c,e⟩:=Dp (n:=s.heap.objs.size+1) k
   refine .inr ⟨.inl k,c,e,?_⟩
   have q:=x.cell y c e
   rw[Ak ndP hp hu (by show scope.names.lookup y≠_;rw[k];decide)] at q
   exact q
 .exact e0.hok.fresh (Nat.le_of_lt (x.above y c (PySem.mem_of_lookup h)))
 .unfold start
  show _=N.length
  rw[List.length_append,List.length_map,List.length_replicate]
  omega
theorem Jm {CX:qm}{P:Program}{w:World}{K:PySem.W.Frag}{mg:Str->Option Value}{base:Heap}{k:Nat}{f:Addr}{name qual:Str}{params:Arguments}{body:List Stmt}{scope:Scope}{dV kV doc pm cdv ct oc:Value}{an od:Option Addr}
  {osl:Array (Option Value)}{N ps:List Str}{sp:Sp}(lk:K.lookup f=some ⟨oc,od,.func (PySem.W.fnOf name qual params body scope dV kV doc pm an cdv ct),osl⟩)(hcd:PySem.W.codeIn K cdv qual=true)(S:bF N ps scope)
  (len:∀vs H Q E,sp vs H Q E->vs.length=ps.length)
  (hbody:∀(A:Around) (outer:List Env) (s:Shared) (H:Hp) (vs:List V) (Q:VK) (E:XK),cR k (A.deeper (envOfC qual scope s.heap.objs.size f cdv))->sp vs H Q E->
   ∃t,gW (fW CX P w K mg base N qual scope f cdv A outer s H E) body t/\t {nx:=λ_ H'=>Q .non H',rt:=Q} (start N vs) H):
  aW P w K mg base CX (k+1) f (PySem.W.fnOf name qual params body scope dV kV doc pm an cdv ct) ps sp:=by
 refine⟨len,λA outer s H args us vs Q E hr e0 hb r hsp=>?_⟩
 have hl:=len _ _ _ _ hsp
 have KX:K.In s.heap:=e0.mod.v8.keeps λb o e=>(e0.bs b o e).1
 have lim:s.heap.NoLimit:=e0.mod.nolimit.keeps λb o e=>(e0.bs b o e).1
 have hkind:∀y∈ps.zip us,scope.names.lookup y.1=some .local\/(scope.names.lookup y.1=some .cell/\((cellsFrom (s.heap.objs.size+1) scope.names []).lookup y.1).isSome=true):=λ⟨n,v⟩ hy=>by
  rcases S.par n (List.of_mem_zip hy).1 with q|q
  .exact .inl q
  .exact .inr ⟨q,PySem.W.cellsFrom_some _ _ _ (.inl q)⟩
 refine codeAny_call_function hr.depth (KX _ _ lk) rfl S.co S.gen rfl (PySem.W.codeRec_of KX hcd) (hb _ _ _ _ ?_)
 refine wpAny_newFunctionEnv_cells S.kind hkind λenv he s1 x=>?_
 subst he
 refine⟨lim.keeps x.toInCall.keep,codeAny_func ?_⟩
 obtain⟨t,ht,hq⟩:=hbody A outer s H vs Q E (hr.deeper _) hsp
 have I:Inv (fW CX P w K mg base N qual scope f cdv A outer s H E) [] (start N vs) H s1:=Lr S hr.hd e0 hl r x
 refine wpAny_mono (ht [] s1 (start N vs) H _ I hq) (λfl s' hs=>?_) λe s' hs=>hs
 have fin:∀{σ':St}{H':Hp} {v:V} {u:Value},Inv (fW CX P w K mg base N qual scope f cdv A outer s H E) [] σ' H' s'->RelV v u->Q v H'->CE outer P w H s Q u s':=
  λ{σ' H' v u} J rv q=>⟨v,H',J.os,J.bare,J.base,J.hok,rv,q⟩
 cases fl with
 |ret u=>
  obtain⟨v,σ',H',J,rv,q⟩:=hs
  exact fin J rv q
 |next=>
  obtain⟨σ',H',J,q⟩:=hs
  exact fin (v:=V.non) (u:=Value.none) J rfl q
 |brk=>
  obtain⟨_,_,_,q⟩:=hs
  exact False.elim q
 |cont=>
  obtain⟨_,_,_,q⟩:=hs
  exact False.elim q
end L2
namespace L2
open PySem PySem.Spec PyProof.Rows
section
variable {X:Cx}{x:Str}{p pos:Pos}{e:Expr}{es:List Expr}{t:TA}{id T:String}{r:List V->Hp->VK->Prop}
noncomputable def nq (r:List V->Hp->VK->Prop)(t:TA):TE:=λσ H Q=>t σ H λvs H1=>r vs H1 Q
theorem bZ (hc:gw X (.builtin id) r)(hg:Gl X x)(hm:X.mg x=none)(hv:bootBuiltins x=some (.builtin id))(ha:PA X (e::es) t)(hn:x≠"__name__":=by decide)(hdb:(x==("__debug__":Str))=false:=by decide)
  (he:starEach (e::es) X.env=(false,eval e X.env)::starEach es X.env:=by rfl)(hpl:(backTo pos (starEach es X.env)).any (·.1)=false:=by rfl):PE X (.Call (.Name x p) (e::es) [] pos) (nq r t):=by
 intro pins s σ H Q I h
 refine wpAny_Call_Name_kw (xK I hg hm hv ?_ hn hdb)
 exact PyProof.Rows.callWith_builtin1 (aQ (ha pos pins s σ H _ I h) λus s1 ⟨vs,H1,I1,r1,q1⟩=>hc pins s1 σ H1 vs us Q I1 r1 q1) he hpl
theorem uJ (hc:gw X (.type T) r)(hg:Gl X x)(hm:X.mg x=none)(hv:bootBuiltins x=some (.type T))(ha:PA X (e::es) t)(hn:x≠"__name__":=by decide)(hdb:(x==("__debug__":Str))=false:=by decide)
  (he:starEach (e::es) X.env=(false,eval e X.env)::starEach es X.env:=by rfl)(hpl:(backTo pos (starEach es X.env)).any (·.1)=false:=by rfl):PE X (.Call (.Name x p) (e::es) [] pos) (nq r t):=by
 intro pins s σ H Q I h
 refine wpAny_Call_Name_kw (xK I hg hm hv ?_ hn hdb)
 exact PyProof.Rows.callWith_type1 (aQ (ha pos pins s σ H _ I h) λus s1 ⟨vs,H1,I1,r1,q1⟩=>hc pins s1 σ H1 vs us Q I1 r1 q1) he hpl
end
end L2
namespace HT
open PySem PyProof.Rows
section
open PySem.SeqAt
open PySem.AutoSeq1 (wpAny_loadPart')
open PySem.MeetsSeq PySem.MeetsSeq2 PySem.MeetsSeq3
end
section
variable {prog:Program}{w:World}{A:Around}{E:Value->Shared->Prop}{s:Shared}
theorem WR {t b:Addr}{vs ws:List Value}{Q:Value->Shared->Prop}(ht:IsTup s.heap t vs.toArray)(hb:IsTup s.heap b ws.toArray)(hv:vs≠[])
  (h1:ws=[]->Q (.ref t) s)(h2:ws≠[]->Q (.ref s.heap.objs.size) {s with heap:=s.heap.push {cls:=.type "tuple",data:=.seq (vs++ws).toArray}})
  (hsz:vs.length+ws.length<=sizeLine):wpAny (model prog w) A (binaryOp .Add (.ref t) (.ref b)) Q E s:=by
 obtain⟨⟨cls,dd,data,sl⟩,ho,hc,n,hd⟩:=id ht
 obtain⟨⟨cls2,dd2,data2,sl2⟩,ho2,hc2,n2,hd2⟩:=id hb
 simp only at hc hd hc2 hd2
 subst hc hd hc2 hd2
 have e:vs.toArray++ws.toArray=(vs++ws).toArray:=by simp
 by_cases hw:ws=[]
 .exact concat_meets ⟨_,ho,rfl⟩ ⟨_,ho2,rfl⟩ noFill_tuple_add seq_tuple_add PySem.F.slot_tuple_add PySem.F.entry_tuple_add (PySem.F.args_tuple_add_2 _ _)
   (tuple_addW1 t b vs.toArray ws.toArray n n2 dd dd2 sl sl2 (by simpa using hv) (by simp[hw])) ⟨ho,ho2,h1 hw⟩
 .refine concat_meets ⟨_,ho,rfl⟩ ⟨_,ho2,rfl⟩ noFill_tuple_add seq_tuple_add PySem.F.slot_tuple_add PySem.F.entry_tuple_add (PySem.F.args_tuple_add_2 _ _)
   (tuple_addW2 t b vs.toArray ws.toArray n n2 dd dd2 sl sl2 (by simpa using hv) (by simpa using hw) (by rw[List.size_toArray,List.size_toArray];exact hsz)) ⟨ho,ho2,?_⟩
  rw[e]
  exact h2 hw
noncomputable def bT (n d:Nat):Option Int->Nat
 |none=>d
 |some v=>if v<0 then(v+(n:Int)).toNat else min v.toNat n
theorem Dq (n d:Nat)(hd:d<=n)(o:Option Int):bT n d o<=n:=by
 cases o with
 |none=>exact hd
 |some v=>
  show(if v<0 then(v+(n:Int)).toNat else min v.toNat n)<=n
  by_cases hv:v<0
  .rw[if_pos hv];omega
  .rw[if_neg hv];exact Nat.min_le_right _ _
theorem G8 (v:Int)(n d:Nat):(if v<0 then max (v+(n:Int)) 0 else min v (n:Int))=((bT n d (some v):Nat):Int):=by
 show(if v<0 then max (v+(n:Int)) 0 else min v (n:Int))=(((if v<0 then(v+(n:Int)).toNat else min v.toNat n):Nat):Int)
 by_cases hv:v<0
 .simp only[if_pos hv];omega
 .simp only[if_neg hv];omega
theorem Jo (lo hi:Option Int)(n:Nat):Builtin.Slice.sliceAdjust lo hi 1 (n:Int)=(((bT n 0 lo:Nat):Int),((bT n n hi:Nat):Int)):=by
 have h1:¬((1:Int)<0):=by omega
 unfold Builtin.Slice.sliceAdjust
 simp only[h1,if_false]
 refine Prod.ext ?_ ?_
 .cases lo with
  |none=>rfl
  |some v=>exact G8 v n 0
 .cases hi with
  |none=>rfl
  |some v=>exact G8 v n n
theorem Jp (i j:Nat):Builtin.Slice.slicePlaces (i:Int) (j:Int) 1=j - i:=by
 unfold Builtin.Slice.slicePlaces
 have h1:(1:Int)>0:=by omega
 simp only[h1,if_true,Int.ediv_one]
 split<;>omega
theorem xR {v:Value}{o:Option Int}{Q:Option Int->Shared->Prop}(p:IsPart v o)(h:Q o s):wpAny (model prog w) A (Builtin.Slice.slicePartIndex v) Q E s:=by
 cases p with
 |none=>exact slicePart_none h
 |int i t=>exact slicePart_int h
theorem wR {sl:Addr}{vl vu:Value}{lo hi:Option Int}{n:Nat}{Q:Int×Int×Nat->Shared->Prop}(hs:s.heap.IsSliceOf sl vl vu .none)(pl:IsPart vl lo)(pu:IsPart vu hi)
  (h:Q (((bT n 0 lo:Nat):Int),1,bT n n hi - bT n 0 lo) s):wpAny (model prog w) A (Builtin.Slice.sliceApplied (.ref sl) (pure (n:Int))) Q E s:=by
 obtain⟨os,hos,hcs,hds⟩:=id hs
 unfold Builtin.Slice.sliceApplied Builtin.Slice.sliceFields
 refine wpAny_bind (wpAny_bind (wpAny_field hos hds (x:=vl) rfl (wpAny_bind (wpAny_field hos hds (x:=vu) rfl (wpAny_bind (wpAny_field hos hds (x:=.none) rfl (wpAny_pure ?_)))))))
 refine wpAny_bind (slicePart_none ?_)
 show wpAny _ _ (if((1:Int)==0)=true then _ else _) _ _ s
 rw[if_neg (by decide)]
 refine wpAny_bind (xR pl (wpAny_bind (xR pu (wpAny_bind (wpAny_pure ?_)))))
 show wpAny _ _ (match Builtin.Slice.sliceAdjust lo hi 1 (n:Int) with|(lo,hi)=>pure (lo,(1:Int),Builtin.Slice.slicePlaces lo hi 1)) _ _ s
 rw[Jo lo hi n]
 show wpAny _ _ (pure (((bT n 0 lo:Nat):Int),(1:Int),Builtin.Slice.slicePlaces ((bT n 0 lo:Nat):Int) ((bT n n hi:Nat):Int) 1)) _ _ s
 rw[Jp]
 exact wpAny_pure h
theorem Qf (xs:Array Value)(i k:Nat):((List.range k).filterMap λ(m:Nat)=>xs[((i:Int)+(m:Int)*1).toNat]?).toArray=((xs.toList.drop i).take k).toArray:=by
 have e:(λ(m:Nat)=>xs[((i:Int)+(m:Int)*1).toNat]?)= λm=>xs[i+m]?:=by
  funext m
  have:((i:Int)+(m:Int)*1).toNat=i+m:=by omega
  rw[this]
 rw[e]
 have:=pick_run xs i k
 rw[List.filterMap_map] at this
 have e2:((λx=>xs[x]?) ∘ λx=>i+x)= λm=>xs[i+m]?:=rfl
 rw[e2] at this
 rw[this]
theorem v7 {t sl:Addr}{items:Array Value}{vl vu:Value}{lo hi:Option Int}{Q:Value->Shared->Prop}(ht:IsTup s.heap t items)(hs:s.heap.IsSliceOf sl vl vu .none)(pl:IsPart vl lo)(pu:IsPart vu hi)
  (hw:¬(bT items.size 0 lo=0/\bT items.size items.size hi=items.size))
  (h:Q (.ref s.heap.objs.size) {s with heap:=s.heap.push {cls:=.type "tuple",data:=.seq ((items.toList.drop (bT items.size 0 lo)).take (bT items.size items.size hi - bT items.size 0 lo)).toArray}})
  (hsz:items.size<=sizeLine):wpAny (model prog w) A (getItem (.ref t) (.ref sl)) Q E s:=by
 have Cd:sizeOk (.seq ((items.toList.drop (bT items.size 0 lo)).take (bT items.size items.size hi - bT items.size 0 lo)).toArray):=by
  show((items.toList.drop (bT items.size 0 lo)).take (bT items.size items.size hi - bT items.size 0 lo)).toArray.size<=sizeLine
  rw[List.size_toArray,List.length_take,List.length_drop,Array.length_toList]
  omega
 have hj:bT items.size items.size hi<=items.size:=Dq _ _ (Nat.le_refl _) hi
 obtain⟨os,hos,hcs,hds⟩:=id hs
 have hTs:s.TypeIs (.ref sl) "slice":=⟨os,hos,hcs⟩
 unfold getItem
 try with_reducible refine wpAny_holding ?_
 first|refine wpAny_bind (wpAny_pure ?_)|skip
 refine wpAny_bind (wpAny_sequenceKey ht.typeIs (by decide) ?_)
 refine wpAny_bind (wpAny_callSpecial?_slot (name:=Str.ofString "__getitem__") ht.typeIs PyProof.Rows.slot_tuple_getitem
  (wpAny_call_entry PyProof.Rows.slot_tuple_getitem ht.typeIs entry_tuple_getitem ?_ (args_tuple_getitem _ _)))
 show wpAny _ _ (Builtin.Tuple.tupleItemsOf (.ref t)>>=_) _ _ s
 refine wpAny_bind (tupleItemsOf_ ht ?_)
 refine wpAny_bind (wpAny_typeOf hTs ?_)
 rw[if_pos (by decide)]
 refine wpAny_bind (wR hs pl pu ?_)
 have hno:¬((((bT items.size 0 lo:Nat):Int)==0 && (1:Int)==1 && (bT items.size items.size hi - bT items.size 0 lo)==items.size)=true):=by
  intro q
  rw[Bool.and_eq_true,Bool.and_eq_true] at q
  have q1:((bT items.size 0 lo:Nat):Int)=0:=eq_of_beq q.1.1
  have q2:bT items.size items.size hi - bT items.size 0 lo=items.size:=eq_of_beq q.2
  exact hw ⟨by omega,by omega⟩
 show wpAny _ _ (if(((bT items.size 0 lo:Nat):Int)==0 && (1:Int)==1 && (bT items.size items.size hi - bT items.size 0 lo)==items.size)=true then _ else _) _ _ s
 rw[if_neg hno,Qf]
 first
  |exact wpAny_bind (m:=Builtin.Tuple.tupleExact _) (wpAny_newObj_type (wpAny_pure ⟨_,rfl,wpAny_pure h⟩) Cd)
  |exact wpAny_bind (m:=Builtin.Tuple.tupleExact _) (wpAny_newObj_type (wpAny_bind (wpAny_pure (wpAny_pure ⟨_,rfl,wpAny_pure h⟩))) Cd)
  |exact wpAny_bind (wpAny_bind (m:=Builtin.Tuple.tupleExact _) (wpAny_newObj_type (wpAny_pure (wpAny_pure ⟨_,rfl,wpAny_pure h⟩)) Cd))
  |exact wpAny_bind (wpAny_bind (m:=Builtin.Tuple.tupleExact _) (wpAny_newObj_type (wpAny_pure ⟨_,rfl,wpAny_pure h⟩) Cd))
end
end HT
namespace L2
open PySem PySem.Spec PyProof.Rows
noncomputable abbrev TO:=St->Hp->(Option Int->Hp->Prop)->Prop
noncomputable def PO (X:Cx)(e:Option Expr)(t:TO):Prop:=
 ∀(pins:List (Addr×Obj)) (s:Shared) (σ:St) (H:Hp) (Q:Option Int->Hp->Prop),Inv X pins σ H s->t σ H Q->
  wpAny (model X.prog X.w) X.A (evalPart e X.env) (λu s'=>∃o H',Inv X pins σ H' s'/\IsPart u o/\Q o H') X.xe s
noncomputable def oH:TO:=λ_ H Q=>Q none H
noncomputable def sZ (t:TE):TO:=λσ H Q=>t σ H λx H1=>∃i,x=.int i/\Q (some i) H1
section
variable {X:Cx}{e:Expr}{te:TE}{lo hi:Option Expr}{tl th:TO}{pos p2:Pos}
theorem oJ:PO X none oH:=by
 intro pins s σ H Q I h
 rw[evalPart_none]
 exact wpAny_pure ⟨none,H,I,.none,h⟩
theorem jo (h:PE X e te):PO X (some e) (sZ te):=by
 intro pins s σ H Q I hw
 rw[evalPart_some]
 refine aQ (h pins s σ H _ I hw) λu s1 ⟨x,H1,I1,r1,q1⟩=>?_
 obtain⟨i,rfl,q⟩:=q1
 obtain⟨t,rfl⟩:=r1
 exact⟨some i,H1,I1,.int i t,q⟩
noncomputable def UG (X:Cx)(r:V->Option Int->Option Int->Hp->VK->Prop):Prop:=
 ∀(pins:List (Addr×Obj)) (s:Shared) (σ:St) (H:Hp) (x:V) (v vl vu:Value) (lo hi:Option Int) (sl:Addr) (Q:VK),Inv X pins σ H s->RelV x v->s.heap.IsSliceOf sl vl vu .none->IsPart vl lo->IsPart vu hi->r x lo hi H Q->
  ∃T id,typeLookup (.type T) "__getitem__"=pure (some (.builtin id))/\s.TypeIs v T/\wpAny (model X.prog X.w) X.A (getItem v (.ref sl)) (EP X pins σ Q) X.xe s
noncomputable def Dr (r:V->Option Int->Option Int->Hp->VK->Prop)(te:TE)(tl th:TO):TE:=λσ H Q=>te σ H λx H1=>tl σ H1 λl H2=>th σ H2 λu H3=>r x l u H3 Q
theorem jc {r:V->Option Int->Option Int->Hp->VK->Prop}(hr:UG X r)(he:PE X e te)(hl:PO X lo tl)(hu:PO X hi th):PE X (.Subscript e (.Slice lo hi none p2) pos) (Dr r te tl th):=by
 intro pins s σ H Q I h
 refine Subscript_ (aQ (he pins s σ H _ I h) λv s1 ⟨x,H1,I1,r1,q1⟩=>?_)
 refine wpAny_Slice (aQ (hl pins s1 σ H1 _ I1 q1) λvl s2 ⟨l,H2,I2,pl,q2⟩=>aQ (hu pins s2 σ H2 _ I2 q2) λvu s3 ⟨u,H3,I3,pu,q3⟩=>?_)
 rw[evalPart_none]
 refine wpAny_pure ?_
 have I4:Inv X pins σ H3 {s3 with heap:=s3.heap.push {cls:=.type "slice",data:=.fields #[vl,vu,.none]}}:=I3.kept (t':=s3.toks) λb ob q=>Heap.get?_push_of_some _ q
 obtain⟨T,id,hT,ht,hg⟩:=hr pins {s3 with heap:=s3.heap.push {cls:=.type "slice",data:=.fields #[vl,vu,.none]}} σ H3 x v vl vu l u s3.heap.objs.size Q I4 r1 (Heap.IsSliceOf.new ..) pl pu q3
 show wpAny (model X.prog X.w) X.A (subscriptTail e (.Slice lo hi none p2) v (.ref s3.heap.objs.size)) (EP X pins σ Q) X.xe {s3 with heap:=s3.heap.push {cls:=.type "slice",data:=.fields #[vl,vu,.none]}}
 exact tail_any (ops:=[.ref s3.heap.objs.size,v]) ht hT hg (by with_unfolding_all rfl)
noncomputable def lF (xs:List V)(lo hi:Option Int):List V:=(xs.drop (HT.bT xs.length 0 lo)).take (HT.bT xs.length xs.length hi - HT.bT xs.length 0 lo)
theorem wz (xs:List V)(lo hi:Option Int):(lF xs lo hi).length<=xs.length:=by
 unfold lF
 rw[List.length_take,List.length_drop]
 omega
noncomputable def ai2 (K:PySem.W.Frag):V->Option Int->Option Int->Hp->VK->Prop:=λx lo hi H Q=>∃a xs,x=.ref a/\bM K H a xs/\
 ¬(HT.bT xs.length 0 lo=0/\HT.bT xs.length xs.length hi=xs.length)/\∀p,H p=none->Q (.ref p) (upd H p (.tup (lF xs lo hi)))
theorem Lw:UG X (ai2 X.K):=by
 intro pins s σ H x v vl vu lo hi sl Q I rx hs pl pu h
 obtain⟨a,xs,rfl,hx,hw,q⟩:=h
 cases rx
 obtain⟨its,r,ht,hz⟩:=I.tuple hx
 have hlen:its.toArray.size=xs.length:=by rw[List.size_toArray];exact r.length.symm
 refine⟨"tuple",_,PyProof.Rows.slot_tuple_getitem.lookup,ht.typeIs,?_⟩
 refine HT.v7 ht hs pl pu (by rw[hlen];exact hw) ?_ (by rw[hlen];exact hz)
 rw[hlen]
 refine⟨.ref s.heap.objs.size,_,I.laid (t':=s.toks) (o:=.tup (lF xs lo hi)) (λb ob q=>Heap.get?_push_of_some _ q) (Nat.le_refl _) ?_,rfl,q _ (I.hok.fresh (Nat.le_refl _))⟩
 exact⟨Nat.le_trans (wz xs lo hi) hz,_,(r.drop (HT.bT xs.length 0 lo)).take (HT.bT xs.length xs.length hi - HT.bT xs.length 0 lo),IsTup.new _ _⟩
noncomputable def afR (K:PySem.W.Frag):R2:=λx y H Q=>∃a b xs ys,x=.ref a/\y=.ref b/\bM K H a xs/\bM K H b ys/\xs≠[]/\xs.length+ys.length<=sizeLine/\
 (ys=[]->Q (.ref a) H)/\(ys≠[]->∀p,H p=none->Q (.ref p) (upd H p (.tup (xs++ys))))
theorem Vals.zp {xs:List V}{us:List Value}(r:Vals xs us):us=[]↔xs=[]:=by
 cases r with
 |nil=>simp
 |cons _ _=>simp
theorem WT:cL X (binaryOp .Add) (afR X.K):=by
 intro pins s σ H x y v u Q I rx ry h
 obtain⟨a,b,xs,ys,rfl,rfl,ha,hb,hx,hz,q1,q2⟩:=h
 cases rx
 cases ry
 obtain⟨its,r1,p1,_⟩:=I.tuple ha
 obtain⟨its2,r2,p2,_⟩:=I.tuple hb
 refine HT.WR p1 p2 (λz=>hx (r1.zp.mp z)) (λz=>⟨.ref a,H,I,rfl,q1 (r2.zp.mp z)⟩) (λz=>?_) (by rw[<-r1.length,←r2.length];exact hz)
 refine⟨.ref s.heap.objs.size,_,I.laid (t':=s.toks) (o:=.tup (xs++ys)) (λb ob q=>Heap.get?_push_of_some _ q) (Nat.le_refl _) ?_,rfl,q2 (λw=>z (r2.zp.mpr w)) _ (I.hok.fresh (Nat.le_refl _))⟩
 exact⟨by rw[List.length_append];exact hz,_,r1.append r2,IsTup.new _ _⟩
end
end L2
namespace L2
open PySem PySem.Spec PyProof.Rows
noncomputable def nu (n:Nat)(i:Int):Option Nat:=if 0<=i then(if i<n then some i.toNat else none) else if -(n:Int)<=i then some (i+n).toNat else none
noncomputable def cT {α:Type}(xs:List α)(i:Int):Option α:=(nu xs.length i).bind λj=>xs[j]?
theorem G9 {n:Nat}{i:Int}{j:Nat}(h:nu n i=some j):seqIndex? i n=some j/\j<n∧-(n:Int)<=i/\i<n:=by
 unfold nu at h
 by_cases h0:0<=i
 .rw[if_pos h0] at h
  by_cases h1:i<n
  .rw[if_pos h1] at h
   have e:i.toNat=j:=Option.some.inj h
   exact⟨by rw[seqIndex_of h0 h1,e],by omega,by omega,h1⟩
  .rw[if_neg h1] at h;cases h
 .rw[if_neg h0] at h
  by_cases h1: -(n:Int)<=i
  .rw[if_pos h1] at h
   have e:(i+n).toNat=j:=Option.some.inj h
   exact⟨by rw[seqIndex_neg (by omega) h1,e],by omega,h1,by omega⟩
  .rw[if_neg h1] at h;cases h
theorem vo {α:Type}{xs:List α}{i:Int}{v:α}(h:cT xs i=some v):∃j,seqIndex? i xs.length=some j/\xs[j]? =some v/\j<xs.length∧-(xs.length:Int)<=i/\i<xs.length:=by
 unfold cT at h
 cases e:nu xs.length i with
 |none=>rw[e] at h;cases h
 |some j=>
  rw[e] at h
  obtain⟨h1,h2,h3,h4⟩:=G9 e
  exact⟨j,h1,h,h2,h3,h4⟩
theorem dz {α:Type}{xs:List α}{j:Nat}{v:α}(h:xs[j]? =some v):cT xs (j:Int)=some v:=by
 have hj:j<xs.length:=(List.getElem?_eq_some_iff.mp h).1
 have e:nu xs.length (j:Int)=some j:=by
  unfold nu
  rw[if_pos (by omega),if_pos (by omega)];simp
 unfold cT;rw[e];exact h
theorem Ds {α:Type}(xs:List α)(v:α):cT (xs++[v]) (-1)=some v:=by
 have hl:(xs++[v]).length=xs.length+1:=by simp
 have e:nu (xs++[v]).length (-1)=some xs.length:=by
  unfold nu
  rw[hl,if_neg (by decide),if_pos (by omega)]
  congr 1
  omega
 unfold cT
 rw[e]
 show(xs++[v])[xs.length]? =some v
 simp
noncomputable def vp (b:Expr):Prop:=∀o i,subscripted b false o i=operate [o,i] (getItem o i)
noncomputable def o7 (X:Cx)(r:R2):Prop:=
 ∀(value slice:Expr) (pins:List (Addr×Obj)) (s:Shared) (σ:St) (H:Hp) (x y:V) (v u:Value) (Q:VK),Inv X pins σ H s->RelV x v->RelV y u->r x y H Q->
  subscripted slice false v u=operate [v,u] (getItem v u)->wpAny (model X.prog X.w) X.A (subscriptTail value slice v u) (EP X pins σ Q) X.xe s
noncomputable def Hl (X:Cx)(id:String)(r:V->List V->Hp->VK->Prop):Prop:=
 ∀(pins:List (Addr×Obj)) (s:Shared) (σ:St) (H:Hp) (x:V) (xs:List V) (v:Value) (us:List Value) (Q:VK),Inv X pins σ H s->RelV x v->Vals xs us->r x xs H Q->
  wpAny (model X.prog X.w) X.A (call (.builtin id) (v::us)) (EP X pins σ Q) X.xe s
section
variable {X:Cx}{a b:Expr}{ta tb:TE}{pos:Pos}
theorem o7.or {r r':R2}(h:o7 X r)(h':o7 X r'):o7 X (λx y H Q=>r x y H Q\/r' x y H Q):=by
 intro value slice pins s σ H x y v u Q I rx ry q hs
 rcases q with q|q
 .exact h value slice pins s σ H x y v u Q I rx ry q hs
 .exact h' value slice pins s σ H x y v u Q I rx ry q hs
theorem Jq {r:R2}(hr:o7 X r)(ha:PE X a ta)(hb:PE X b tb)(hs:vp b):PE X (.Subscript a b pos) (dh r ta tb):=by
 intro pins s σ H Q I h
 exact Subscript_ (P0 ha hb I h λv u s2 x y H2 I2 rx ry q=>hr a b pins s2 σ H2 x y v u Q I2 rx ry q (hs _ _))
noncomputable def ai3 (K:PySem.W.Frag):R2:=λx y H Q=>∃p xs i v,x=.ref p/\y=.int i/\bQ K H p xs/\cT xs i=some v/\Q v H
noncomputable def ai4 (K:PySem.W.Frag):R2:=λx y H Q=>∃p xs i v,x=.ref p/\y=.int i/\bM K H p xs/\cT xs i=some v/\Q v H
noncomputable def ai5:R2:=λx y H Q=>∃z i c,x=.str z/\y=.int i/\z.length<=sizeLine/\cT z.cps.toList i=some c/\Q (.str ⟨#[c]⟩) H
theorem Ho:o7 X (ai3 X.K):=by
 intro value slice pins s σ H x y v u Q I rx ry h hs
 obtain⟨p,xs,i,z,rfl,rfl,hq,he,q⟩:=h
 cases rx
 obtain⟨t,rfl⟩:=ry
 obtain⟨its,r,pl,hz⟩:=I.list hq
 obtain⟨j,h1,h2,h3,h4,h5⟩:=vo he
 obtain⟨w,ew,rK⟩:=r.get h2
 have hl:=r.length
 have hn:=rJ
 have fin:EP X pins σ Q w s:=⟨z,H,I,rK,q⟩
 by_cases h0:0<=i
 .have hj:i.toNat=j:=by
   rw[seqIndex_of h0 h5] at h1
   exact Option.some.inj h1
  exact item_listR pl.isList h0 (by omega) (by rw[hj];simpa using ew) fin hs
 .have hj:(i+(its.toArray.size:Int)).toNat=j:=by
   rw[seqIndex_neg (by omega) h4] at h1
   rw[List.size_toArray,←hl]
   exact Option.some.inj h1
  exact subscriptTail_builtinR (x:=w) pl.isList.typeIs slot_list_getitem.lookup
   (wpAny_getItem_list_neg (Q:=λr s'=>r=w/\EP X pins σ Q r s') pl.isList (by omega) (by rw[List.size_toArray]<;>omega) (by omega) (by rw[hj];simpa using ew) ⟨rfl,fin⟩) hs
theorem Lx:o7 X (ai4 X.K):=by
 intro value slice pins s σ H x y v u Q I rx ry h hs
 obtain⟨p,xs,i,z,rfl,rfl,hq,he,q⟩:=h
 cases rx
 obtain⟨t,rfl⟩:=ry
 obtain⟨its,r,pl,hz⟩:=I.tuple hq
 obtain⟨j,h1,h2,h3,h4,h5⟩:=vo he
 obtain⟨w,ew,rK⟩:=r.get h2
 have hl:=r.length
 have hn:=rJ
 have fin:EP X pins σ Q w s:=⟨z,H,I,rK,q⟩
 exact subscriptTail_builtinR (x:=w) pl.typeIs slot_tuple_getitem.lookup
  (getItem_tuple (j:=j) (Q:=λr s'=>r=w/\EP X pins σ Q r s') pl (by omega) (by omega) (by rw[List.size_toArray,←hl];exact h1) (by simpa using ew) ⟨rfl,fin⟩) hs
theorem Zd:o7 X ai5:=by
 intro value slice pins s σ H x y v u Q I rx ry h hs
 obtain⟨z,i,c,rfl,rfl,hz,he,q⟩:=h
 obtain⟨t,rfl⟩:=rx
 obtain⟨t',rfl⟩:=ry
 obtain⟨j,h1,h2,h3,h4,h5⟩:=vo he
 have hl:z.cps.toList.length=z.length:=by simp[Str.length]
 rw[hl] at h1 h4 h5
 have hn:=rJ
 exact tail_any (typeIs_str s z t) slot_str_getitem.lookup (getItem_str (c:=c) (by
  have e1:decide (i< -(2^63:Int))=false:=decide_eq_false (by omega)
  have e2:decide (i≥2^63)=false:=decide_eq_false (by omega)
  rw[e1,e2,Bool.or_false]) (by rw[h1];simpa using h2) ⟨.str ⟨#[c]⟩,H,I.tok _,⟨_,rfl⟩,q⟩) hs
theorem Jr (its:List Value)(n j:Nat)(u:Value):Obj.mapSeq (·.setIfInBounds j u) {cls:=.type "list",data:=.seq its.toArray n}={cls:=.type "list",data:=.seq (its.set j u).toArray n}:=by
 simp[Obj.mapSeq]
theorem Inv.lst {pins:List (Addr×Obj)}{σ:St}{H:Hp}{s:Shared}{p:Addr}{xs:List V}(I:Inv X pins σ H s)(h:H p=some (.lst xs)):
  ∃(its:List Value) (n:Nat),Vals xs its/\s.heap.get? p=some {cls:=.type "list",data:=.seq its.toArray n}/\xs.length<=sizeLine:=by
 obtain⟨z,its,n,r,e⟩:=I.hok p _ h
 exact⟨its,n,r,e,z⟩
theorem Inv.Ze {pins:List (Addr×Obj)}{σ:St}{H:Hp}{s:Shared}{p:Addr}{xs ys:List V}{its its':List Value}{n n':Nat}{f:Obj->Obj}(I:Inv X pins σ H s)(h:H p=some (.lst xs))
  (ho:s.heap.get? p=some {cls:=.type "list",data:=.seq its.toArray n})(hf:f {cls:=.type "list",data:=.seq its.toArray n}={cls:=.type "list",data:=.seq its'.toArray n'})(r:Vals ys its')(hz:ys.length<=sizeLine)(t:Nat):
  Inv X pins σ (upd H p (.lst ys)) {s with heap:=s.heap.update p f,toks:=t}:=by
 have e:(s.heap.update p f).get? p=some {cls:=.type "list",data:=.seq its'.toArray n'}:=by
  rw[Heap.get?_update_self f ho (by rw[hf]<;>rfl),hf]
 refine I.write (x:=p) (e:=p) (by rw[h];trivial) (.inl rfl) (λb u hb q=>(Heap.get?_update_other _ _ (Ne.symm hb)).trans q) ⟨_,e⟩ ?_
 exact⟨hz,its',n',r,e⟩
noncomputable def afS:V->V->V->Hp->(Hp->Prop)->Prop:=λo i v H Q=>∃p xs k j,o=.ref p/\i=.int k/\H p=some (.lst xs)/\nu xs.length k=some j/\Q (upd H p (.lst (xs.set j v)))
theorem set_list:wM X afS:=by
 intro pins s σ H o i v ov iv u Q I ro ri rv h
 obtain⟨p,xs,k,j,rfl,rfl,hp,hj,q⟩:=h
 cases ro
 obtain⟨t,rfl⟩:=ri
 obtain⟨its,n,r,ho,hz⟩:=I.lst hp
 obtain⟨h1,h2,h3,h4⟩:=G9 hj
 have hl:=r.length
 have hn:=rJ
 have I':Inv X pins σ (upd H p (.lst (xs.set j v))) {s with heap:=s.heap.update p (Obj.mapSeq (·.setIfInBounds j u))}:=
  I.Ze hp ho (Jr its n j u) (r.set rv j) (by rw[List.length_set];exact hz) s.toks
 by_cases h0:0<=k
 .have hk:k.toNat=j:=by
   rw[seqIndex_of h0 h4] at h1
   exact Option.some.inj h1
  exact PySem.W.ki_setAt ho h0 (by omega) (by rw[List.size_toArray,←hl];exact h4) (by rw[hk];exact⟨_,I',q⟩)
 .have hk:(k+(its.toArray.size:Int)).toNat=j:=by
   rw[seqIndex_neg (by omega) h3] at h1
   rw[List.size_toArray,←hl]
   exact Option.some.inj h1
  exact PySem.W.ki_setBack ho (by omega) (by rw[List.size_toArray,←hl];exact h3) (by omega) (by rw[hk];exact⟨_,I',q⟩)
theorem Dt (lo hi:Option Int)(n:Nat):(sliceBounds lo hi none n).1=((HT.bT n 0 lo:Nat):Int)/\(sliceBounds lo hi none n).2.1=((HT.bT n n hi:Nat):Int)/\(sliceBounds lo hi none n).2.2=1:=by
 refine⟨?_,?_,rfl⟩
 .cases lo with
  |none=>simp[sliceBounds,HT.bT]
  |some i=>
   simp only[sliceBounds,HT.bT,Option.getD_none,show(1:Int)>0 by decide,if_true]
   by_cases h:i<0
   .simp only[h,if_true]<;>omega
   .simp only[h,if_false]<;>omega
 .cases hi with
  |none=>simp[sliceBounds,HT.bT]
  |some i=>
   simp only[sliceBounds,HT.bT,Option.getD_none,show(1:Int)>0 by decide,if_true]
   by_cases h:i<0
   .simp only[h,if_true]<;>omega
   .simp only[h,if_false]<;>omega
theorem Bt (its:List Value)(lo hi:Option Int):slicePick its.toArray lo hi none=((its.drop (HT.bT its.length 0 lo)).take (HT.bT its.length its.length hi - HT.bT its.length 0 lo)).toArray:=by
 obtain⟨h1,h2,h3⟩:=Dt lo hi its.toArray.size
 unfold slicePick
 rw[h1,h2,h3]
 simp only[sliceRange_one,pick_run,List.size_toArray]<;>rfl
noncomputable def Qg (K:PySem.W.Frag):V->Option Int->Option Int->Hp->VK->Prop:=λx lo hi H Q=>∃a xs,x=.ref a/\bQ K H a xs/\∀p,H p=none->Q (.ref p) (upd H p (.lst (lF xs lo hi)))
theorem oK:UG X (Qg X.K):=by
 intro pins s σ H x v vl vu lo hi sl Q I rx hs pl pu h
 obtain⟨a,xs,rfl,hx,q⟩:=h
 cases rx
 obtain⟨its,r,ht,hz⟩:=I.list hx
 have hlen:=r.length
 refine⟨"list",_,slot_list_getitem.lookup,ht.isList.typeIs,?_⟩
 refine wpAny_getItem_list_slice ht.isList hs pl pu .none (by simp) ?_ (by rw[List.size_toArray]<;>omega)
 rw[Bt,←hlen]
 refine⟨.ref s.heap.objs.size,_,I.laid (t':=s.toks) (o:=.lst (lF xs lo hi)) (λb ob q=>Heap.get?_push_of_some _ q) (Nat.le_refl _) ?_,rfl,q _ (I.hok.fresh (Nat.le_refl _))⟩
 exact⟨Nat.le_trans (wz xs lo hi) hz,_,0,(r.drop (HT.bT xs.length 0 lo)).take (HT.bT xs.length xs.length hi - HT.bT xs.length 0 lo),Heap.get?_push_size _ rfl⟩
noncomputable def mV:V->Bool
 |.non=>true
 |.bl _=>true
 |.int _=>true
 |.str _=>true
 |_=>false
noncomputable def Al:V->V->Bool
 |.non,.non=>true
 |.bl a,.bl b=>a==b
 |.bl a,.int b=>(if a then 1 else 0)==b
 |.int a,.bl b=>a==(if b then 1 else 0)
 |.int a,.int b=>a==b
 |.str a,.str b=>a==b
 |_,_=>false
theorem Zf {A:Around}{s:Shared}{y x:V}{u v:Value}(ry:RelV y u)(rx:RelV x v)(fy:mV y=true)(fx:mV x=true):SeqAt.EqAt A s u v (Al y x):=by
 cases y with
 |non=>
  cases ry
  cases x with
  |non=>cases rx;exact SeqAt.EqAt.same _
  |bl b=>cases rx;exact SeqAt.EqAt.none_bool b
  |int b=>obtain⟨t,rfl⟩:=rx;exact SeqAt.EqAt.none_int b t
  |str b=>obtain⟨t,rfl⟩:=rx;exact SeqAt.EqAt.none_str b t
  |_=>exact absurd (show false=true from fx) Bool.false_ne_true
 |bl a=>
  cases ry
  cases x with
  |non=>cases rx;exact SeqAt.EqAt.bool_none a
  |bl b=>cases rx;exact SeqAt.EqAt.bool_bool a b
  |int b=>obtain⟨t,rfl⟩:=rx;exact SeqAt.EqAt.bool_int a b t
  |str b=>obtain⟨t,rfl⟩:=rx;exact SeqAt.EqAt.bool_str a b t
  |_=>exact absurd (show false=true from fx) Bool.false_ne_true
 |int a=>
  obtain⟨t',rfl⟩:=ry
  cases x with
  |non=>cases rx;exact SeqAt.EqAt.int_none a t'
  |bl b=>cases rx;exact SeqAt.EqAt.int_bool a t' b
  |int b=>obtain⟨t,rfl⟩:=rx;exact SeqAt.EqAt.int_int a t' b t
  |str b=>obtain⟨t,rfl⟩:=rx;exact SeqAt.EqAt.int_str a t' b t
  |_=>exact absurd (show false=true from fx) Bool.false_ne_true
 |str a=>
  obtain⟨t',rfl⟩:=ry
  cases x with
  |non=>cases rx;exact SeqAt.EqAt.str_none a t'
  |bl b=>cases rx;exact SeqAt.EqAt.str_bool a t' b
  |int b=>obtain⟨t,rfl⟩:=rx;exact SeqAt.EqAt.str_int a t' b t
  |str b=>obtain⟨t,rfl⟩:=rx;exact SeqAt.EqAt.str_str a t' b t
  |_=>exact absurd (show false=true from fx) Bool.false_ne_true
 |_=>exact absurd (show false=true from fy) Bool.false_ne_true
noncomputable def xT (x:V)(u:Value):Bool:=match u with
 |.none=>Al .non x
 |.bool b=>Al (.bl b) x
 |.int i _=>Al (.int i) x
 |.str z _=>Al (.str z) x
 |_=>false
theorem Ly {x y:V}{u:Value}(r:RelV y u)(f:mV y=true):xT x u=Al y x:=by
 cases y with
 |non=>cases r;rfl
 |bl b=>cases r;rfl
 |int i=>obtain⟨t,rfl⟩:=r;rfl
 |str z=>obtain⟨t,rfl⟩:=r;rfl
 |_=>exact absurd (show false=true from f) Bool.false_ne_true
theorem zq {x:V}:∀{xs:List V}{us:List Value},Vals xs us->xs.all mV=true->us.any (xT x)=xs.any λy=>Al y x
 |_,_,.nil,_=>rfl
 |y::xs,u::us,.cons r t,f=>by
  rw[List.all_cons,Bool.and_eq_true] at f
  rw[List.any_cons,List.any_cons,Ly r f.1,zq t f.2]
theorem wU {A:Around}{s:Shared}{x:V}{v:Value}(rx:RelV x v)(fx:mV x=true):∀{xs:List V}{us:List Value},Vals xs us->xs.all mV=true->∀u∈us,SeqAt.EqAt A s u v (xT x u)
 |_,_,.nil,_=>λu hu=>by cases hu
 |y::xs,u::us,.cons r t,f=>λu' hu=>by
  rw[List.all_cons,Bool.and_eq_true] at f
  rcases List.mem_cons.mp hu with rfl|hu
  .rw[Ly r f.1];exact Zf r rx f.1 fx
  .exact wU rx fx t f.2 u' hu
noncomputable def inV (x:V)(xs:List V):Bool:=xs.any λy=>Al y x
noncomputable def Zg (K:PySem.W.Frag)(neg:Bool):R2:=λx y H Q=>∃p xs,y=.ref p/\(bQ K H p xs\/bM K H p xs)/\mV x=true/\xs.all mV=true/\Q (.bl (if neg then !inV x xs else inV x xs)) H
theorem o8:cL X (compareOp .NotIn) (Zg X.K true):=by
 intro pins s σ H x y v u Q I rx ry h
 obtain⟨p,xs,rfl,hq,fx,fs,q⟩:=h
 cases ry
 rcases hq with hq|hq
 .obtain⟨its,r,pl,hz⟩:=I.list hq
  refine SeqAt.notIn_listAt (xT x) pl.isList (λw hw=>wU rx fx r fs w (by simpa using hw)) ⟨.bl _,H,I,rfl,?_⟩
  rw[show its.toArray.any (xT x)=its.any (xT x) by simp,zq r fs]
  exact q
 .obtain⟨its,r,pl,hz⟩:=I.tuple hq
  refine SeqAt.notIn_tupleAt (xT x) pl (λw hw=>wU rx fx r fs w (by simpa using hw)) ⟨.bl _,H,I,rfl,?_⟩
  rw[show its.toArray.any (xT x)=its.any (xT x) by simp,zq r fs]
  exact q
theorem Du:gw X (.builtin "len") (λxs H Q=>∃p ys,xs=[.ref p]/\(bQ X.K H p ys\/bM X.K H p ys)/\Q (.int ys.length) H):=by
 intro pins s σ H xs us Q I r h
 obtain⟨p,ys,rfl,hq,q⟩:=h
 obtain⟨u,rfl,rx⟩:=vals1 r
 cases rx
 have hn:=rJ
 rcases hq with hq|hq
 .obtain⟨its,r',pl,hz⟩:=I.list hq
  have hlen:=r'.length
  exact Calls.call_len_list pl.isList (by simp only[List.size_toArray]<;>omega) ⟨.int ys.length,H,I.tok _,⟨s.toks+1,by rw[List.size_toArray,hlen]⟩,q⟩
 .obtain⟨its,r',pl,hz⟩:=I.tuple hq
  have hlen:=r'.length
  exact len_tuple pl (by simp only[List.size_toArray]<;>omega) ⟨.int ys.length,H,I.tok _,⟨s.toks+1,by rw[List.size_toArray,hlen]⟩,q⟩
theorem uK:gw X (.builtin "len") (λxs H Q=>∃z,xs=[.str z]/\z.length<=sizeLine/\Q (.int z.length) H):=by
 intro pins s σ H xs us Q I r h
 obtain⟨z,rfl,hz,q⟩:=h
 obtain⟨u,rfl,t,rfl⟩:=vals1 r
 have hn:=rJ
 exact len_str (by omega) ⟨.int z.length,H,I.tok _,⟨_,rfl⟩,q⟩
theorem Dv:gw X (.type "list") (λxs H Q=>∃p ys,xs=[.ref p]/\(bQ X.K H p ys\/bM X.K H p ys)/\∀l,H l=none->Q (.ref l) (upd H l (.lst ys))):=by
 intro pins s σ H xs us Q I r h
 obtain⟨p,ys,rfl,hq,q⟩:=h
 obtain⟨u,rfl,rx⟩:=vals1 r
 cases rx
 have fin:∀(its:List Value),Vals ys its->ys.length<=sizeLine->∀(h':Heap) (c':Nat),(∀b o',s.heap.get? b=some o'->h'.get? b=some o')->
   h'.get? s.heap.objs.size=some {cls:=.type "list",dict:=none,data:=.seq its.toArray c',slots:=#[]}->EP X pins σ Q (.ref s.heap.objs.size) {s with heap:=h'}:=λits r' hz h' c' kp e=>
  ⟨.ref s.heap.objs.size,_,I.laid (t':=s.toks) kp (Nat.le_refl _) (show dY X.prog X.w _ h' _ (.lst ys) from⟨hz,its,c',r',e⟩),rfl,q _ (I.hok.fresh (Nat.le_refl _))⟩
 rcases hq with hq|hq
 .obtain⟨its,r',pl,hz⟩:=I.list hq
  have hlen:=r'.length
  obtain⟨o,ho,hc,n,hd⟩:=pl.isList
  exact call_list_seq p (.inl rfl) ho hc hd (λh' c' kp e=>fin its r' hz h' c' kp e) (by simp only[List.size_toArray]<;>omega)
 .obtain⟨its,r',pl,hz⟩:=I.tuple hq
  have hlen:=r'.length
  obtain⟨o,ho,hc,n,hd⟩:=pl
  exact call_list_seq p (.inr rfl) ho hc hd (λh' c' kp e=>fin its r' hz h' c' kp e) (by simp only[List.size_toArray]<;>omega)
theorem Bu:gw X (.type "tuple") (λxs H Q=>∃p ys,xs=[.ref p]/\((bQ X.K H p ys/\∀l,H l=none->Q (.ref l) (upd H l (.tup ys)))\/(bM X.K H p ys/\Q (.ref p) H))):=by
 intro pins s σ H xs us Q I r h
 obtain⟨p,ys,rfl,h⟩:=h
 obtain⟨u,rfl,rx⟩:=vals1 r
 cases rx
 rcases h with⟨hq,q⟩|⟨hq,q⟩
 .obtain⟨its,r',pl,hz⟩:=I.list hq
  have hlen:=r'.length
  refine call_tuple_list pl.isList (λh' kp=>?_) (by simp only[List.size_toArray]<;>omega)
  have I1:Inv X pins σ H {s with heap:=h'}:=I.kept (t':=s.toks) kp
  have I2:Inv X pins σ (upd H h'.objs.size (.tup ys)) {s with heap:=h'.push {cls:=.type "tuple",data:=.seq its.toArray}}:=
   I1.laid (t':=s.toks) (λb o e=>Heap.get?_push_of_some _ e) (Nat.le_refl _) (show dY X.prog X.w _ _ _ (.tup ys) from⟨hz,its,r',IsTup.new _ _⟩)
  exact⟨.ref h'.objs.size,_,I2,rfl,q _ (I1.hok.fresh (Nat.le_refl _))⟩
 .obtain⟨its,r',pl,hz⟩:=I.tuple hq
  exact call_tuple_same pl ⟨.ref p,H,I,rfl,q⟩
noncomputable def Zh (K:PySem.W.Frag)(T:String)(x:V)(H:Hp):Prop:=match x with
 |.str _=>T="str"
 |.int _=>T="int"
 |.ref p=>(T="list"/\∃xs,bQ K H p xs)\/(T="tuple"/\∃o,K.lookup p=some o/\o.cls=.type "tuple"/\o.dict=none)\/
  (T="dict"/\((∃kvs,H p=some (.dK kvs))\/∃kvs,H p=some (.dT kvs)))\/(T="set"/\∃S n,H p=some (.set S n))
 |_=>False
theorem Lz {pins:List (Addr×Obj)}{σ:St}{H:Hp}{s:Shared}{T:String}{x:V}{v:Value}(I:Inv X pins σ H s)(r:RelV x v)(ty:Zh X.K T x H):
  s.TypeIs v T/\∀a,v=.ref a->∃ob,s.heap.get? a=some ob/\ob.dict=none:=by
 cases x with
 |str z=>
  obtain⟨t,rfl⟩:=r
  cases(show T="str" from ty)
  exact⟨typeIs_str s z t,λ_ e=>nomatch e⟩
 |int i=>
  obtain⟨t,rfl⟩:=r
  cases(show T="int" from ty)
  exact⟨typeIs_int s i t,λ_ e=>nomatch e⟩
 |ref p=>
  cases r
  rcases ty with⟨rfl,xs,hq⟩|⟨rfl,o,hk,hc,hd⟩|⟨rfl,hk⟩|⟨rfl,S,n,hk⟩
  .obtain⟨its,_,pl,_⟩:=I.list hq
   refine⟨pl.isList.typeIs,λa e=>?_⟩
   cases e
   obtain⟨o,n,e,c,hd,_⟩:=pl
   exact⟨o,e,hd⟩
  .refine⟨⟨o,I.gG p o hk,hc⟩,λa e=>?_⟩
   cases e
   exact⟨o,I.gG _ o hk,hd⟩
  .have z:∃o,s.heap.get? p=some o/\o.ExactDict:=by
    rcases hk with⟨kvs,hk⟩|⟨kvs,hk⟩
    .obtain⟨_,_,_,_,o,_,_,e,ex,_⟩:=I.hok p _ hk
     exact⟨o,e,ex⟩
    .obtain⟨_,_,_,_,o,_,_,e,ex,_⟩:=I.hok p _ hk
     exact⟨o,e,ex⟩
   obtain⟨o,e,ex⟩:=z
   refine⟨⟨o,e,ex.1⟩,λa e2=>?_⟩
   cases e2
   exact⟨o,e,ex.2.1⟩
  .obtain⟨o,_,_,_,e,ex,_⟩:=I.hok p _ hk
   refine⟨⟨o,e,ex.1⟩,λa e2=>?_⟩
   cases e2
   exact⟨o,e,ex.2.1⟩
 |_=>exact False.elim ty
noncomputable def Qh (K:PySem.W.Frag)(T:String)(r:V->List V->Hp->VK->Prop)(to:TE):TE:=λσ H Q=>to σ H λx H1=>Zh K T x H1/\r x [] H1 Q
noncomputable def wA (K:PySem.W.Frag)(T:String)(r:V->List V->Hp->VK->Prop)(to:TE)(t:TA):TE:=λσ H Q=>to σ H λx H1=>Zh K T x H1/\t σ H1 λxs H2=>r x xs H2 Q
variable {o e:Expr}{es:List Expr}{to:TE}{t:TA}{name:Str}{apos cpos:Pos}{T id:String}{r:V->List V->Hp->VK->Prop}
theorem Zi (pa:PlainAttrs T)(slot:Slot T name id)(hty:typeOf (.builtin id)=pure (.type "method_descriptor"))(hm:Hl X id r)(ho:PE X o to)
  (hbase:attributeBase o name X.env (eval o X.env)=eval o X.env:=by rfl)(hline:(apos.endLine==cpos.line)=true:=by rfl):PE X (.Call (.Attribute o name apos) [] [] cpos) (Qh X.K T r to):=by
 intro pins s σ H Q I h
 refine wpAny_Call_method0_late hbase hline (aQ (ho pins s σ H _ I h) λv s1 ⟨x,H1,I1,r1,ty,q1⟩=>?_)
 obtain⟨h1,h2⟩:=Lz I1 r1 ty
 exact⟨T,id,pa,slot,hty,h1,h2,Calls.callWith_builtin rfl (PySem.evalArgs_none (hm pins s1 σ H1 x [] v [] Q I1 r1 .nil q1))⟩
theorem UJ (pa:PlainAttrs T)(slot:Slot T name id)(hty:typeOf (.builtin id)=pure (.type "method_descriptor"))(hm:Hl X id r)(ho:PE X o to)(ha:PA X (e::es) t)
  (hbase:attributeBase o name X.env (eval o X.env)=eval o X.env:=by rfl)
  (hfew:((backTo cpos (starEach (e::es) X.env)).all (λx=>!x.1) && (backToKw cpos (keywordEach [] X.env)).all (λx=>x.1.isSome)
   && decide ((e::es).length+([]:List Keyword).length+(if([]:List Keyword).isEmpty then 0 else 1)<30))=true:=by rfl)
  (hline:(apos.endLine==cpos.line)=true:=by rfl)(hs:starEach (e::es) X.env=(false,eval e X.env)::starEach es X.env:=by rfl)(hplain:(backTo cpos (starEach es X.env)).any (·.1)=false:=by rfl):
  PE X (.Call (.Attribute o name apos) (e::es) [] cpos) (wA X.K T r to t):=by
 intro pins s σ H Q I h
 refine wpAny_Call_method_late hbase hfew hline rfl (aQ (ho pins s σ H _ I h) λv s1 ⟨x,H1,I1,r1,ty,q1⟩=>?_)
 obtain⟨h1,h2⟩:=Lz I1 r1 ty
 refine⟨T,id,pa,slot,hty,h1,h2,?_⟩
 have hA:=ha cpos pins s1 σ H1 _ I1 q1
 rw[hs] at hA ⊢
 refine Calls.callWith_builtin (by show(false||(backTo cpos (starEach es X.env)).any (·.1))=false;rw[hplain]<;>rfl) (Calls.evalArgs_plain ?_)
 exact aQ hA λus s2 ⟨vs,H2,I2,r2,q2⟩=>hm pins s2 σ H2 x vs v us Q I2 r1 r2 q2
end
end L2
namespace L2
open PySem PySem.Spec PyProof.Rows
noncomputable def MtM (X:Cx)(id:String)(r:V->List V->Hp->VK->Prop):Prop:=
 ∀(pins:List (Addr×Obj)) (s:Shared) (σ:St) (H:Hp) (x:V) (xs:List V) (v:Value) (us:List Value) (Q:VK),Inv X pins σ H s->RelV x v->Vals xs us->r x xs H Q->
  wpAny (model X.prog X.w) X.A (call (.builtin id) (v::us)) (EP X pins σ Q) X.xe s
theorem Vals.one:∀{x:V}{us:List Value},Vals [x] us->∃u,us=[u]/\RelV x u
 |_,_,.cons r .nil=>⟨_,rfl,r⟩
theorem Vals.zero:∀{us:List Value},Vals [] us->us=[]
 |_,.nil=>rfl
theorem Vals.dropLast {xs:List V}{us:List Value}(h:Vals xs us):Vals xs.dropLast us.dropLast:=by
 induction h with
 |nil=>exact .nil
 |cons r t ih=>
  cases t with
  |nil=>exact .nil
  |cons q t'=>exact .cons r ih
theorem Vals.eraseIdx:∀{xs:List V}{us:List Value} (i:Nat),Vals xs us->Vals (xs.eraseIdx i) (us.eraseIdx i)
 |_,_,_,.nil=>.nil
 |_,_,0,.cons _ t=>t
 |_,_,i+1,.cons r t=>.cons r (Vals.eraseIdx i t)
theorem Vals.reverse {xs:List V}{us:List Value}(h:Vals xs us):Vals xs.reverse us.reverse:=by
 induction h with
 |nil=>exact .nil
 |cons r t ih=>rw[List.reverse_cons,List.reverse_cons];exact Vals.append ih (.cons r .nil)
theorem Am {α:Type}:∀(l:List α) (i:Nat),(l.eraseIdx i).length<=l.length
 |[],_=>Nat.le_refl _
 |_::_,0=>Nat.le_succ _
 |_::r,i+1=>Nat.succ_le_succ (Am r i)
section
variable {X:Cx}{pins:List (Addr×Obj)}{σ:St}{H:Hp}{s:Shared}{l b:Addr}{xs ys zs:List V}
theorem Inv.Zj {its its':List Value}{n:Nat}{f:Array Value->Array Value}{t':Nat}(I:Inv X pins σ H s)(hH:H l=some (.lst xs))
  (e:s.heap.get? l=some {cls:=.type "list",data:=.seq its.toArray n})(hf:f its.toArray=its'.toArray)(hv:Vals ys its')(hz:ys.length<=sizeLine):
  Inv X pins σ (upd H l (.lst ys)) {s with heap:=s.heap.update l (Obj.mapSeq f),toks:=t'}:=by
 have q:=PySem.IsL.update e f
 rw[hf] at q
 refine I.write (x:=l) (e:=l) (by rw[hH];exact trivial) (.inl rfl) (λb' u hb hu=>(Heap.get?_update_other s.heap (Obj.mapSeq f) (Ne.symm hb)).trans hu) ⟨_,q⟩ ?_
 exact⟨hz,its',_,hv,q⟩
theorem Inv.Zk {its:List Value}{t':Nat}(I:Inv X pins σ H s)(hv:Vals ys its)(hz:ys.length<=sizeLine):
  Inv X pins σ (upd H s.heap.objs.size (.lst ys)) {s with heap:=s.heap.push {cls:=.type "list",data:=.seq its.toArray},toks:=t'}:=
 I.laid (λ_ _ q=>Heap.get?_push_of_some _ q) (Nat.le_refl _) ⟨hz,its,0,hv,Heap.get?_push_size _ rfl⟩
theorem Inv.fresh (I:Inv X pins σ H s):H s.heap.objs.size=none:=I.hok.fresh (Nat.le_refl _)
theorem Inv.Zm (I:Inv X pins σ H s)(hH:H l=some (.lst xs)):xs.length<=sizeLine/\∃(its:List Value) (n:Nat),Vals xs its/\xs.length=its.length/\s.heap.get? l=some {cls:=.type "list",data:=.seq its.toArray n}:=by
 obtain⟨z,its,n,r,e⟩:=I.hok l _ hH
 exact⟨z,its,n,r,r.length,e⟩
end
section
variable {X:Cx}
noncomputable def WW:V->List V->Hp->VK->Prop:=λx vs H Q=>∃l xs y,x=.ref l/\vs=[y]/\H l=some (.lst xs)/\xs.length<sizeLine/\Q .non (upd H l (.lst (xs++[y])))
theorem Ao:MtM X "list.append" WW:=by
 intro pins s σ H x vs v us Q I rx rv h
 obtain⟨l,xs,y,rfl,rfl,hH,hz,q⟩:=h
 cases rx
 obtain⟨u,rfl,ru⟩:=rv.one
 obtain⟨z,its,n,r,hl,e⟩:=I.Zm hH
 refine call_meets F.slot_list_append ⟨_,e,rfl⟩ F.entry_list_append (F.args_list_append_2 _ _) (PySem.list_append l its.toArray n u (by rw[List.size_toArray];omega)) ⟨e,?_⟩
 refine⟨.non,_,I.Zj (its':=its++[u]) hH e (by simp) (r.append (.cons ru .nil)) ?_,rfl,q⟩
 rw[List.length_append,List.length_singleton]
 omega
end
section
variable {prog:Program}{w:World}{A:Around}{E:Value->Shared->Prop}{s:Shared}
end
section
variable {X:Cx}
end
end L2
namespace Att
open PySem PySem.W PySem.Calls PyProof.Rows
theorem xU {P:Params}{h:Heap}:∀(ns:List Int) (vs:List Value),WellAll P h vs (ns.map WData.int)->IntsAre vs ns:=by
 intro ns
 induction ns with
 |nil=>
  intro vs w
  rw[List.map_nil] at w
  cases w
  exact .nil
 |cons n ns ih=>
  intro vs w
  rw[List.map_cons] at w
  cases w with
  |cons a b=>
   cases a
   exact .cons _ _ (ih _ b)
theorem LC {l:OpenLaw}{n:Nat}(hn:l.most=some n){P:Params}{h:Heap}{args:List WData}{vals:List Value}
  (hpre:l.row.toRowW.claim.pre args=true)(hwl:WellAll P h vals args):
  ∃a vs ns,vals=[Value.ref a]/\args=[WData.list (ns.map WData.int)]/\h.get? a=some {cls:=.type "list",data:=.seq vs.toArray}/\IntsAre vs ns/\ns.length<=n:=by
 have hsh:WShape.hasAll [] args [.list .int]=true:=(pre_splitW hpre).1
 have hc:l.pre.holds [] {args:=args}=true:=(pre_splitW hpre).2
 obtain⟨d,r,rfl,h1,h2⟩:=hasAllW_cons hsh
 obtain rfl:=hasAllW_nil h2
 obtain⟨xs,rfl,h3⟩:=hasW_list h1
 obtain⟨ns,rfl⟩:=items_int h3
 have hlen:ns.length<=n:=by
  unfold OpenLaw.pre at hc
  have h4:(WTm.not (.lt (.lit (.int (n:Int))) (.len (.arg 0)))).holds [] {args:=[.list (ns.map .int)]}=true:=by
   have h4:=(holds_andW hc).1
   rw[hn] at h4
   exact h4
  have h5:=condW_of h4 (w_not (w_lt w_lit (w_len_list (w_arg rfl))))
  rw[List.length_map] at h5
  refine Nat.le_of_not_lt λq=>?_
  have q':(n:Int)<((ns.length:Nat):Int):=by omega
  first
   |(rw[decide_eq_true q'] at h5;exact absurd h5 (by decide))
   |(simp at h5;omega)
 cases hwl with
 |cons w1 w2=>
  cases w2
  cases w1 with
  |list ho hall=>exact⟨_,_,ns,rfl,rfl,ho,xU ns _ hall,hlen⟩
theorem LK (l:OpenLaw)(args:List WData):l.row.toRowW.claim.post args (.bool true) args=true:=
 postW_of (r:=l.row.toRowW) (X:=(true==true))
  (show WShape.has [] (.bool true) .bool=true by first|rfl|decide|simp[WShape.has,WShape.arms,WShape.armsAll])
  (show(WTm.eq .res (.lit (.bool true))).value [] {args:=args,res:=some (.bool true),after:=args}=some (.bool (true==true)) from w_eq_bool (w_res rfl) w_lit) rfl
theorem GJ {l:OpenLaw}{n:Nat}{q:Program}{loose:List Str}{XP:(Str->Option Value)->Heap->Prop}{YP:World->Heap->Prop}{d:DefRec}
  (hn:l.most=some n)(hdf:d.params.defaults=[])
  (call:∀(w:World) (s₀ s₁:Shared) (mg mb:Str->Option Value) (fa:Addr) (o:Obj) (pm cd doc:Value) (a:Addr) (vs:List Value) (ns:List Int),
   Ground q loose [] XP w s₀ mg mb s₁.heap->YP w s₁.heap->
   s₁.heap.get? fa=some o->o.data=.func (docDef d.name d.params d.body d.scope pm cd doc)->s₁.heap.CodeRec cd d.name->mg d.name=some (.ref fa)->
   s₁.heap.get? a=some {cls:=.type "list",data:=.seq vs.toArray}->IntsAre vs ns->ns.length<=n->s₁.gens= #[]->
   codeAny (model l.prog w) callerA (.call (.ref fa) ⟨[.ref a],[]⟩) (λr s'=>r=.ok (.ret (.bool true))/\OldK s₁.heap s'.heap/\s'.os=s₁.os/\AllBare s'.gens) s₁):
  WalkO q loose XP YP l.row.toRowW d [] (λf vs=>PySem.call f vs):=by
 intro w s₀ s₁ mg mb G Y fa o pm cd doc dV kV ho hd hcd hD hmg hg args vals as hpre hlay hrd hwl hlo
 obtain rfl:dV=.none:=Dflts.none hD hdf
 obtain rfl:kV=.none:=Dflts.noKw hD
 obtain⟨a,vs,ns,rfl,rfl,hobj,hints,hlen⟩:=LC hn hpre hwl
 refine enter_call (codeAny_mono (call w s₀ s₁ mg mb fa o pm cd doc a vs ns G Y ho (fd_plain hd) hcd hmg hobj hints hlen hg) λr s' hq=>?_)
 obtain⟨rfl,h2,h3,h4⟩:=hq
 exact⟨.inl ⟨.bool true,.bool true,[],rfl,λ_=>rfl,.bool true,LK l _,λ_=>⟨List.Pairwise.nil,λ_ hm=>(nomatch hm)⟩⟩,h2,h3,h4⟩
section
variable {prog:Program}{w:World}{A:Around}{E:Value->Shared->Prop}{s:Shared}{K:Frag}
end
end Att
namespace L2
open PySem PySem.Spec PyProof.Rows
theorem Aq:∀{vs:List Value}{ns:List Int},IntsAre vs ns->Vals (ns.map V.int) vs
 |_,_,.nil=>.nil
 |_,_,.cons n t h=>.cons ⟨t,rfl⟩ (Aq h)
noncomputable def Only (H:Hp):Prop:=∀b,H b=none\/∃o xs,H b=some (.eO o (.lst xs))
theorem Qi {P:Program}{w:World}{K:PySem.W.Frag}{mg mb:Str->Option Value}{CX:qm}{k:Nat}{fa a:Addr}{fd:FuncData}{x:Str}{sp:Sp}{s₁:Shared}{vs:List Value}{ns:List Int}
  (KX:K.In s₁.heap)(hns:s₁.heap.Ns mainGlobals mg)(hb:s₁.heap.Ns builtinsNs mb)(hbb:∀x:Str,x≠"__name__"->mb x=bootBuiltins x)(hlim:s₁.heap.NoLimit)(hg:s₁.gens= #[])
  (ha:s₁.heap.get? a=some {cls:=.type "list",data:=.seq vs.toArray})(hi:IntsAre vs ns)(hl:ns.length<=sizeLine)(hr:cR k callerA)
  (F:∀base:Heap,K.In base->base.Ns mainGlobals mg->aW P w K mg base CX k fa fd [x] sp)(hbind:∀(s:Shared) (u:Value),BindsTo s fd ⟨[u],[]⟩ [(x,u)])
  (hsp:∀H:Hp,Only H->bQ K H a (ns.map V.int)->sp [.ref a] H (λv _=>v=.bl true) λ_ _ _=>False)
  (Zn:∀H e s',CX [] H s₁ (λ_ _ _=>False) e s'->False):
  codeAny (model P w) callerA (.call (.ref fa) ⟨[.ref a],[]⟩) (λr s'=>r=.ok (.ret (.bool true))/\OldK s₁.heap s'.heap/\s'.os=s₁.os/\AllBare s'.gens) s₁:=by
 have rv:=Aq hi
 have lenV:=hi.length
 have core:∀H:Hp,Only H->bQ K H a (ns.map V.int)->fH P w H s₁.heap->(∀b,H b≠none->b=a)->(H a≠none->K.lookup a=none)->
   codeAny (model P w) callerA (.call (.ref fa) ⟨[.ref a],[]⟩) (λr s'=>r=.ok (.ret (.bool true))/\OldK s₁.heap s'.heap/\s'.os=s₁.os/\AllBare s'.gens) s₁:=by
  intro H hO hS hok hA hK
  have Hq:∀{b:Addr}{o:Obj},s₁.heap.get? b=some o->H b=none->(sS s₁.heap H).get? b=some o:=λe n=>Py e n
  have Ls:∀{b:Addr}{o:Obj} {es:Array DictEntry} {ep:Nat},s₁.heap.get? b=some o->o.data=.dict es ep->H b=none:=λ{b o es ep} e d=>by
   cases q:H b with
   |none=>rfl
   |some u=>
    have e':b=a:=hA b (by rw[q];simp)
    subst e'
    rw[ha] at e;cases e
    have d':Data.seq vs.toArray _=Data.dict es ep:=d
    cases d'
  have UL:∀{b:Addr}{m:Str->Option Value},s₁.heap.Ns b m->(sS s₁.heap H).Ns b m:=λ{b m} ⟨o,es,ep,e,d,r⟩=>⟨o,es,ep,Hq e (Ls e d),d,r⟩
  have hKb:K.In (sS s₁.heap H):=λb o e=>Hq (KX b o e) (by
   cases q:H b with
   |none=>rfl
   |some u=>
    have e':b=a:=hA b (by rw[q];simp)
    subst e'
    rw[hK (by rw[q];simp)] at e;cases e)
  have hM:Mod K mg (sS s₁.heap H):=⟨hKb,UL hns,⟨mb,UL hb,hbb⟩,let⟨mc,h1,h2⟩:=hlim;⟨mc,UL h1,h2⟩⟩
  have e0:wQ P w K mg (sS s₁.heap H) callerA [] s₁ H:=⟨rfl,hM,λb o e=>Wu e,Nat.le_of_eq (La _ _),trivial,λb hb=>absurd (show b∈([]:List Addr) from hb) (by simp),hok,.of_eq hg⟩
  refine codeAny_mono ((F _ hKb (UL hns)).run callerA [] s₁ H ⟨[.ref a],[]⟩ [.ref a] [.ref a] _ _ hr e0 (hbind s₁ (.ref a)) (.cons rfl .nil) (hsp H hO hS)) λr s' h=>?_
  cases r with
  |error e=>exact(Zn H e s' h).elim
  |ok fl=>
   cases fl with
   |next=>exact False.elim h
   |brk=>exact False.elim h
   |cont=>exact False.elim h
   |ret u=>
    obtain⟨v,H',os,bare,un,hok',r',q⟩:=h
    have q':v=.bl true:=q
    subst q'
    obtain rfl:u=Value.bool true:=r'
    refine⟨rfl,OldK.of_keep λb o e=>?_,os,bare⟩
    cases q:H b with
    |none=>exact un.keep b o e q (by intro z;exact absurd (show b∈([]:List Addr) from z) (by simp)) (by simp)
    |some u=>
     rcases hO b with z|⟨ob,xs,z⟩
     .rw[q] at z;cases z
     .have z2:=un.jX b ob _ z
      obtain⟨e1,_⟩:=hok b _ z
      obtain⟨e2,_⟩:=hok' b _ z2
      rw[e] at e1;cases e1
      exact e2
 cases hk:K.lookup a with
 |some o=>
  have e:=KX a o hk
  rw[ha] at e
  cases e
  refine core (λ_=>none) (λ_=>.inl rfl) (.inr ⟨_,vs.toArray,_,hk,rfl,rfl,rfl,by rw[List.size_toArray,lenV];exact hl,by simpa using rv⟩) (λb u z=>by have z':(none:Option HO)=some u:=z;cases z') (λb z=>absurd rfl z) λz=>absurd rfl z
 |none=>
  refine core (λb=>if b=a then some (.eO {cls:=.type "list",data:=.seq vs.toArray} (.lst (ns.map V.int))) else none) (λb=>?_) (.inl (.inr ⟨{cls:=.type "list",data:=.seq vs.toArray},if_pos rfl⟩)) (λb u z=>?_) (λb z=>?_) λ_=>hk
  .by_cases hb:b=a
   .exact .inr ⟨_,_,if_pos hb⟩
   .exact .inl (if_neg hb)
  .by_cases hb:b=a
   .have z':=(if_pos hb).symm.trans z
    cases z'
    subst hb
    exact⟨ha,by rw[List.length_map];exact hl,vs,_,rv,ha⟩
   .have z':=(if_neg hb).symm.trans z
    cases z'
  .by_cases hb:b=a
   .exact hb
   .exact absurd (if_neg hb) z
end L2
namespace L2
open PySem PySem.Spec PyProof.Rows
theorem WX {l:PySem.W.OpenLaw}{n k:Nat}{q:Program}{loose:List Str}{XP:(Str->Option Value)->Heap->Prop}{YP:World->Heap->Prop}{d:DefRec}{K:Params->PySem.W.Frag}{CX:World->qm}{sp:World->Sp}{x:Str}
  (hn:l.most=some n)(hn2:n<=sizeLine)(hdf:d.params.defaults=[])(hr:cR k callerA)
  (hY:∀(w:World) (h:Heap),YP w h->(K w.params).In h)
  (F:∀(w:World) (mg:Str->Option Value) (fa:Addr) (h:Heap),(K w.params).In h->h.Ns mainGlobals mg->mg d.name=some (.ref fa)->
   ∃fd:FuncData,(∀(s:Shared) (u:Value),BindsTo s fd ⟨[u],[]⟩ [(x,u)])/\
    ∀base:Heap,(K w.params).In base->base.Ns mainGlobals mg->aW l.prog w (K w.params) mg base (CX w) k fa fd [x] (sp w))
  (hsp:∀(w:World) (H:Hp) (a:Addr) (ns:List Int),ns.length<=n->Only H->bQ (K w.params) H a (ns.map V.int)->sp w [.ref a] H (λv _=>v=.bl true) λ_ _ _=>False)
  (Zn:∀(w:World) (H:Hp) (s:Shared) (e:Value) (s':Shared),CX w [] H s (λ_ _ _=>False) e s'->False):
  PySem.W.WalkO q loose XP YP l.row.toRowW d [] (λf vs=>PySem.call f vs):=by
 refine Att.GJ hn hdf λw s₀ s₁ mg mb fa o pm cd doc a vs ns G Y ho hd hcd hmg hobj hints hlen hg=>?_
 have KX:=hY w _ Y
 obtain⟨fd,hb,hF⟩:=F w mg fa _ KX G.T.g hmg
 exact Qi KX G.T.g G.T.b G.T.builtins G.T.nolimit hg hobj hints (Nat.le_trans hlen hn2) hr hF hb (λH hO hS=>hsp w H a ns hlen hO hS) λH e s'=>Zn w H s₁ e s'
end L2
namespace L2
open PySem PySem.Spec PyProof.Rows
noncomputable def inClass (s:Stmt)(j:Nat):Stmt:=match s with
 |.ClassDef _ _ _ body _ _ _ _ _ _ _=>body.getD j (.Pass ⟨0,0,0,0⟩)
 |_=>.Pass ⟨0,0,0,0⟩
noncomputable def bH (s:Stmt):Arguments:=match s with
 |.FunctionDef _ a _ _ _ _ _ _ _ _=>a
 |_=>{posonlyargs:=[],args:=[],vararg:=none,kwonlyargs:=[],kw_defaults:=[],kwarg:=none,defaults:=[]}
noncomputable def aU (s:Stmt):List Stmt:=match s with
 |.FunctionDef _ _ b _ _ _ _ _ _ _=>b
 |_=>[]
noncomputable def aj (s:Stmt):Scope:=match s with
 |.FunctionDef _ _ _ _ _ _ sc _ _ _=>sc
 |_=>{kind:=.function,names:=[],isGenerator:=false,isCoroutine:=false}
noncomputable abbrev dG:qm:=λ_ _ _ _ _ _=>False
noncomputable abbrev E0:XK:=λ_ _ _=>False
theorem jB {X:Cx}:Passes dG X E0:=λ_ _ _ _ _ _ _ h=>h.elim
structure dB (K:PySem.W.Frag)(x qual:Str)(st:Stmt)(f:Addr)(fd:FuncData):Prop where
 ex:∃(oc:Value) (od:Option Addr) (kV doc pm:Value) (an:Option Addr) (cdv ct:Value) (osl:Array (Option Value)),
  fd=PySem.W.fnOf x qual (bH st) (aU st) (aj st) .none kV doc pm an cdv ct/\K.lookup f=some ⟨oc,od,.func fd,osl⟩/\PySem.W.codeIn K cdv qual=true
 kp:PySem.W.keepIn K (.ref f)=true
section
variable {P:Program}{w:World}{K:PySem.W.Frag}{mg:Str->Option Value}{base:Heap}
theorem dB.ok {x qual:Str}{st:Stmt}{f:Addr}{fd:FuncData}{N ps:List Str}{k:Nat}{sp:Sp}(F:dB K x qual st f fd)(S:bF N ps (aj st))(len:∀vs H Q E,sp vs H Q E->vs.length=ps.length)
  (hbody:∀(cdv:Value) (A:Around) (outer:List Env) (s:Shared) (H:Hp) (vs:List V) (Q:VK) (E:XK),cR k (A.deeper (envOfC qual (aj st) s.heap.objs.size f cdv))->sp vs H Q E->
   ∃t,gW (fW dG P w K mg base N qual (aj st) f cdv A outer s H E).oY (aU st) t/\t {nx:=λ_ H'=>Q .non H',rt:=Q} (start N vs) H):aW P w K mg base dG (k+1) f fd ps sp:=by
 obtain⟨oc,od,kV,doc,pm,an,cdv,ct,osl,rfl,lk,hcd⟩:=F.ex
 refine Jm lk hcd S len λA outer s H vs Q E hr hsp=>?_
 obtain⟨t,h,q⟩:=hbody cdv A outer s H vs Q E hr hsp
 exact⟨t,h.oY,q⟩
theorem dB.binds {x qual:Str}{st:Stmt}{f:Addr}{fd:FuncData}{ps:List Str}(F:dB K x qual st f fd)
  (h:∀(kV doc pm:Value) (an:Option Addr) (cdv ct:Value) (us:List Value),us.length=ps.length->bindArgs (PySem.W.fnOf x qual (bH st) (aU st) (aj st) .none kV doc pm an cdv ct) ⟨us,[]⟩=pure (ps.zip us)):Binds K fd ps []:=by
 obtain⟨oc,od,kV,doc,pm,an,cdv,ct,osl,rfl,lk,hcd⟩:=F.ex
 exact .all (h kV doc pm an cdv ct)
theorem cI {x qual:Str}{st:Stmt}{f:Addr}{oc:Value}{od an:Option Addr}{osl:Array (Option Value)}{kV doc pm cdv ct:Value}(l:K.lookup f=some ⟨oc,od,.func (PySem.W.fnOf x qual (bH st) (aU st) (aj st) .none kV doc pm an cdv ct),osl⟩)
  (c:PySem.W.codeIn K cdv qual=true)(k:PySem.W.keepIn K (.ref f)=true):dB K x qual st f (PySem.W.fnOf x qual (bH st) (aU st) (aj st) .none kV doc pm an cdv ct):=⟨⟨oc,od,kV,doc,pm,an,cdv,ct,osl,rfl,l,c⟩,k⟩
end
theorem mW {A:Around}{k:Nat}(hr:cR k A):A.units+1<cLine:=Nat.lt_of_le_of_lt (Nat.add_le_add_left (by decide:1<=64) _) hr.units
theorem Ar {n:Nat}(h:n<=1000):n<sizeLine:=Nat.lt_of_le_of_lt h (by decide)
section
variable {X:Cx}
end
noncomputable def Same (H H':Hp):Prop:=∀b o,H b=some o->H' b=some o
theorem Same.refl (H:Hp):Same H H:=λ_ _ h=>h
theorem Same.trans {H H1 H2:Hp}(a:Same H H1)(b:Same H1 H2):Same H H2:=λc o h=>b c o (a c o h)
theorem Same.free {H H':Hp}(e:Same H H'){l:Addr}(h:H' l=Option.none):H l=Option.none:=by
 cases q:H l with
 |none=>rfl
 |some o=>
  rw[e l o q] at h
  cases h
theorem Same.seq {K:PySem.W.Frag}{H H':Hp}{a:Addr}{xs:List V}(e:Same H H')(h:bQ K H a xs):bQ K H' a xs:=by
 rcases h with(h|⟨o,h⟩)|h
 .exact .inl (.inl (e _ _ h))
 .exact .inl (.inr ⟨o,e _ _ h⟩)
 .exact .inr h
end L2
namespace L2
open PySem PySem.Spec PyProof.Rows
theorem PE.imp {X:Cx}{e:Expr}{t t':TE}(h:PE X e t)(ht:∀σ H Q,t' σ H Q->t σ H Q):PE X e t':=λpins s σ H Q I q=>h pins s σ H Q I (ht σ H Q q)
section
variable {X:Cx}{pins:List (Addr×Obj)}{σ:List (Option V)}{H:Hp}{s:Shared}{h':Heap}
theorem Inv.turns {fp:List Addr}{t':Nat}(I:Inv X pins σ H s)(k:∀b o,b∉fp->s.heap.get? b=some o->h'.get? b=some o)(hf:∀b∈fp,lY X pins H b):Inv X pins σ H {s with heap:=h',toks:=t'}:=by
 have Ab:∀b u,H b=some u->b∉fp:=λb u e z=>by rw[(hf b z).1] at e;cases e
 refine I.step (g':=s.gens) (d':=s.drawn) (ch:=fp) (λb hb=>⟨(hf b hb).2.2.2.1,(hf b hb).2.1,(hf b hb).2.2.2.2.1,(hf b hb).2.2.2.2.2⟩) (λb o _ _ hc e _=>k b o hc e) (λb o _ _ hc e _=>⟨o.slots,k b o hc e⟩) (λ_ _ _ _ n=>n)
  (λb o hc e=>⟨o,k b o hc e⟩) (λ_ _ e=>e) (λ_ _ _ e=>e) (λb ps e=>⟨#[],by rw[e];simp⟩) (λm hm=>?_) (λb u e=>?_) I.bare
 .obtain⟨o,es,ep,ho,r⟩:=hm
  exact⟨o,es,ep,k _ o (λz=>(hf _ z).2.1 rfl) ho,r⟩
 .refine(I.hok b u e).stay (λc v hc q=>k c v ?_ q) (λ_ q=>q) λ_ _ q=>q
  rcases hc with z|z
  .rw[z];exact Ab b u e
  .exact Ab c _ z
theorem Inv.WY {fp:List Addr}{T:Addr}{o:HO}{t':Nat}(I:Inv X pins σ H s)(k:∀b o,b∉fp->s.heap.get? b=some o->h'.get? b=some o)(hf:∀b∈fp,lY X pins H b)(hT:s.heap.objs.size<=T)
  (new:dY X.prog X.w (upd H T o) h' T o):Inv X pins σ (upd H T o) {s with heap:=h',toks:=t'}:=by
 have hn:H T=none:=I.hok.fresh hT
 have Ab:∀b u,H b=some u->b∉fp:=λb u e z=>by rw[(hf b z).1] at e;cases e
 have neT:∀{b:Addr}{u:Obj},s.heap.get? b=some u->b≠T:=λe=>Nat.ne_of_lt (Nat.lt_of_lt_of_le (Heap.lt_size e) hT)
 refine I.step (g':=s.gens) (d':=s.drawn) (ch:=fp) (λb hb=>⟨(hf b hb).2.2.2.1,(hf b hb).2.1,(hf b hb).2.2.2.2.1,(hf b hb).2.2.2.2.2⟩) (λb o _ _ hc e _=>k b o hc e) (λb o _ _ hc e _=>⟨o.slots,k b o hc e⟩)
  (λb o _ e n=>by rw[aq (neT e)];exact n)
  (λb o hc e=>⟨o,k b o hc e⟩) (λb xs e=>by rw[aq (aR e hn)];exact e) (λb _ _ e=>by rw[aq (aR e hn)];exact e) (λb ps e=>⟨#[],by rw[aq (aR e hn),e];simp⟩) (λm hm=>?_) (λb u e=>?_) I.bare
 .obtain⟨o,es,ep,ho,r⟩:=hm
  exact⟨o,es,ep,k _ o (λz=>(hf _ z).2.1 rfl) ho,r⟩
 .by_cases hb:b=T
  .subst hb;rw[ao] at e;cases e;exact new
  .rw[aq hb] at e
   refine(I.hok b u e).stay (λc v hc q=>k c v ?_ q) (λc q=>by rw[aq (aR q hn)];exact q) λc xs q=>by rw[aq (aR q hn)];exact q
   rcases hc with z|z
   .rw[z];exact Ab b u e
   .exact Ab c _ z
end
section
variable {X:Cx}
end
structure amC (z TI TO i1 i2:Addr):Prop where
 TIz:TI≠z
 TOz:TO≠z
 i1z:i1≠z
 i2z:i2≠z
 TITO:TI≠TO
 TIi1:TI≠i1
 TIi2:TI≠i2
 TOi1:TO≠i1
 TOi2:TO≠i2
 i12:i1≠i2
section
variable {X:Cx}
end
end L2
namespace L2
open PySem PySem.Spec PyProof.Rows
theorem tu {env:Env}:∀(names:List (Str×NameKind)) (acc:List (Str×Addr)),(∀y∈names,y.2=.free->∃c,env.cells.lookup y.1=some c)->(∀x c,acc.lookup x=some c->env.cells.lookup x=some c)->
  ∃cl:List (Str×Addr),(forIn names acc λ(x:Str×NameKind) (r:List (Str×Addr))=>(match x with|(name,kind)=>if(kind==NameKind.free)=true then do let c<-cellOf env name;pure (ForInStep.yield ((name,c)::r)) else pure (ForInStep.yield r):Sem (ForInStep (List (Str×Addr)))):Sem (List (Str×Addr)))=pure cl/\
   (∀x c,cl.lookup x=some c->env.cells.lookup x=some c)/\(∀x,(x,NameKind.free)∈names->∃c,cl.lookup x=some c)/\∀x c,acc.lookup x=some c->∃c',cl.lookup x=some c'
 |[],acc,_,ha=>⟨acc,rfl,ha,λ_ h=>(nomatch h),λx c h=>⟨c,h⟩⟩
 |(n,k)::r,acc,hf,ha=>by
  by_cases hk:k=.free
  .subst hk
   obtain⟨c,hc⟩:=hf (n,.free) List.mem_cons_self rfl
   have ha':∀x c',((n,c)::acc).lookup x=some c'->env.cells.lookup x=some c':=λx c' h=>by
    rw[List.lookup_cons] at h
    cases hx:x==n with
    |true=>
     rw[hx] at h
     cases h
     rw[eq_of_beq hx];exact hc
    |false=>
     rw[hx] at h
     exact ha x c' h
   obtain⟨cl,e,h1,h2,h3⟩:=tu r ((n,c)::acc) (λy hy=>hf y (List.mem_cons_of_mem _ hy)) ha'
   refine⟨cl,?_,h1,λx hx=>?_,λx c' hx=>?_⟩
   .rw[List.forIn_cons]
    have ec:cellOf env n=pure c:=by unfold cellOf;rw[hc]
    simp only[beq_self_eq_true,if_true,ec]
    exact e
   .rcases List.mem_cons.mp hx with z|z
    .cases z
     exact h3 n c (by rw[List.lookup_cons,beq_self_eq_true])
    .exact h2 x z
   .by_cases hxn:(x==n)=true
    .exact h3 x c (by rw[List.lookup_cons,hxn])
    .exact h3 x c' (by rw[List.lookup_cons];simp only[hxn];exact hx)
  .obtain⟨cl,e,h1,h2,h3⟩:=tu r acc (λy hy=>hf y (List.mem_cons_of_mem _ hy)) ha
   refine⟨cl,?_,h1,λx hx=>?_,h3⟩
   .rw[List.forIn_cons]
    have eb:(k==NameKind.free)=false:=by simpa using hk
    simp only[eb,Bool.false_eq_true,if_false]
    exact e
   .rcases List.mem_cons.mp hx with z|z
    .cases z;exact absurd rfl hk
    .exact h2 x z
theorem Bv {scope:Scope}{env:Env}(hf:∀y∈scope.names,y.2=.free->∃c,env.cells.lookup y.1=some c):
  ∃cl:List (Str×Addr),closureFor scope env=pure cl/\(∀x c,cl.lookup x=some c->env.cells.lookup x=some c)/\∀x,(x,NameKind.free)∈scope.names->∃c,cl.lookup x=some c:=by
 obtain⟨cl,e,h1,h2,_⟩:=tu (env:=env) scope.names [] hf (λx c h=>by simp at h)
 refine⟨cl,?_,h1,h2⟩
 unfold closureFor
 show(forIn scope.names ([]:List (Str×Addr)) _>>= λc=>pure c)=pure cl
 refine Eq.trans (congrArg (λ(q:Sem (List (Str×Addr)))=>q>>= λc=>pure c) e) ?_
 rfl
theorem o9 {scope:Scope}{env:Env}{x:Str}{k:NameKind}:∀{names:List (Str×NameKind)},(names.map λ(n,k)=>if(k==NameKind.free && env.scope.kind==.function && env.kindOf n==some .cell) then(n,NameKind.cell) else(n,k)).lookup x=some k->
  ∃k',(x,k')∈names/\(k=k'\/(k'=.free/\k=.cell))
 |[],h=>by simp at h
 |(n,j)::r,h=>by
  have h':List.lookup x ((if(j==NameKind.free && env.scope.kind==.function && env.kindOf n==some .cell)=true then(n,NameKind.cell) else(n,j))::(r.map λ(n,k)=>if(k==NameKind.free && env.scope.kind==.function && env.kindOf n==some .cell) then(n,NameKind.cell) else(n,k)))=some k:=h
  by_cases hc:(j==NameKind.free && env.scope.kind==.function && env.kindOf n==some .cell)=true
  .rw[if_pos hc,List.lookup_cons] at h'
   cases hx:x==n with
   |true=>
    rw[hx] at h'
    cases h'
    have ej:j=.free:=by
     simp only[Bool.and_eq_true] at hc
     exact eq_of_beq hc.1.1
    rw[eq_of_beq hx]
    exact⟨.free,by rw[ej];exact List.mem_cons_self,.inr ⟨rfl,rfl⟩⟩
   |false=>
    rw[hx] at h'
    obtain⟨k',hm,q⟩:=o9 (scope:=scope) (env:=env) (names:=r) h'
    exact⟨k',List.mem_cons_of_mem _ hm,q⟩
  .rw[if_neg hc,List.lookup_cons] at h'
   cases hx:x==n with
   |true=>
    rw[hx] at h'
    cases h'
    rw[eq_of_beq hx]
    exact⟨_,List.mem_cons_self,.inl rfl⟩
   |false=>
    rw[hx] at h'
    obtain⟨k',hm,q⟩:=o9 (scope:=scope) (env:=env) (names:=r) h'
    exact⟨k',List.mem_cons_of_mem _ hm,q⟩
theorem pq {env:Env}{x:Str}:∀{names:List (Str×NameKind)},names.lookup x=some .free->
  (names.map λ(n,k)=>if(k==NameKind.free && env.scope.kind==.function && env.kindOf n==some .cell) then(n,NameKind.cell) else(n,k)).lookup x=some .cell\/
  (names.map λ(n,k)=>if(k==NameKind.free && env.scope.kind==.function && env.kindOf n==some .cell) then(n,NameKind.cell) else(n,k)).lookup x=some .free
 |[],h=>by simp at h
 |(n,j)::r,h=>by
  have ih:=@pq env x r
  show List.lookup x ((if(j==NameKind.free && env.scope.kind==.function && env.kindOf n==some .cell)=true then(n,NameKind.cell) else(n,j))::_)=_\/List.lookup x ((if(j==NameKind.free && env.scope.kind==.function && env.kindOf n==some .cell)=true then(n,NameKind.cell) else(n,j))::_)=_
  by_cases hc:(j==NameKind.free && env.scope.kind==.function && env.kindOf n==some .cell)=true
  .rw[if_pos hc,List.lookup_cons]
   cases hx:x==n with
   |true=>exact .inl rfl
   |false=>
    rw[List.lookup_cons,hx] at h
    exact ih h
  .rw[if_neg hc,List.lookup_cons]
   cases hx:x==n with
   |true=>
    rw[List.lookup_cons,hx] at h
    exact .inr h
   |false=>
    rw[List.lookup_cons,hx] at h
    exact ih h
noncomputable def nQ (N:List Str)(sc scope:Scope):List Str->List (Option Nat)->Bool
 |[],[]=>true
 |_::xs,none::cs=>nQ N sc scope xs cs
 |x::xs,some j::cs=>(match N[j]? with|some y=>y==x|none=>false) && (match sc.names.lookup x with|some .cell=>true|some .free=>true|_=>false) &&
  (match scope.names.lookup x with|some .free=>true|_=>false) && nQ N sc scope xs cs
 |_,_=>false
theorem tE {N:List Str}{sc scope:Scope}:∀{xs:List Str}{cs:List (Option Nat)},nQ N sc scope xs cs=true->cs.length=xs.length
 |[],[],_=>rfl
 |_::xs,none::cs,h=>congrArg (· +1) (tE (xs:=xs) (cs:=cs) h)
 |x::xs,some j::cs,h=>by
  simp only[nQ,Bool.and_eq_true] at h
  exact congrArg (· +1) (tE (xs:=xs) (cs:=cs) h.2)
 |[],_::_,h=>by simp[nQ] at h
 |_::_,[],h=>by simp[nQ] at h
theorem zu {N:List Str}{sc scope:Scope}:∀{xs:List Str}{cs:List (Option Nat)},nQ N sc scope xs cs=true->∀(i:Nat) (x:Str) (j:Nat),xs[i]? =some x->cs[i]? =some (some j)->
  N[j]? =some x/\(sc.names.lookup x=some .cell\/sc.names.lookup x=some .free)/\scope.names.lookup x=some .free
 |[],[],_,i,x,j,h,_=>by simp at h
 |_::xs,none::cs,h,0,x,j,_,h2=>by simp at h2
 |_::xs,none::cs,h,i+1,x,j,h1,h2=>zu (xs:=xs) (cs:=cs) h i x j (by simpa using h1) (by simpa using h2)
 |y::xs,some k::cs,h,0,x,j,h1,h2=>by
  simp only[nQ,Bool.and_eq_true] at h
  obtain⟨⟨⟨a,b⟩,c⟩,_⟩:=h
  have e1:y=x:=by simpa using h1
  have e2:k=j:=by simpa using h2
  subst e1 e2
  refine⟨?_,?_,?_⟩
  .cases q:N[k]? with
   |none=>rw[q] at a;simp at a
   |some z=>rw[q] at a;rw[eq_of_beq a]
  .cases q:sc.names.lookup y with
   |none=>rw[q] at b;simp at b
   |some z=>rw[q] at b;cases z<;>first|exact .inl rfl|exact .inr rfl|simp at b
  .cases q:scope.names.lookup y with
   |none=>rw[q] at c;simp at c
   |some z=>rw[q] at c;cases z<;>first|rfl|simp at c
 |y::xs,some k::cs,h,i+1,x,j,h1,h2=>by
  simp only[nQ,Bool.and_eq_true] at h
  exact zu (xs:=xs) (cs:=cs) h.2 i x j (by simpa using h1) (by simpa using h2)
 |[],_::_,h,_,_,_,_,_=>by simp[nQ] at h
 |_::_,[],h,_,_,_,_,_=>by simp[nQ] at h
noncomputable def qp (N:List Str)(sc scope:Scope)(N':List Str)(cap:List (Option Nat)):Bool:=
 nQ N sc scope N' cap && (scope.kind==.function) && (scope.names.all λy=>y.2 !=.cell) &&
 (scope.names.all λy=>y.2 !=.local||scope.names.lookup y.1==some .local) &&
 (scope.names.all λy=>y.2 !=.free||sc.names.lookup y.1==some .cell||sc.names.lookup y.1==some .free)
noncomputable def dj (cap:List (Option Nat))(σ:St):St:=cap.map λo=>match o with
 |none=>none
 |some j=>match σ[j]? with
  |some v=>v
  |none=>none
noncomputable def ig (X:Cx)(scope:Scope)(N':List Str)(cl:List (Str×Addr))(C:Addr)(s:Shared)(H:Hp)(ex:List Addr):Cx:=
 {X with N:=N',s₀:=s,H₀:=H,env:=compEnvC scope cl C X.env,outer:=X.stack,ex:=ex,fn:=λ_=>false,pn:=[],xe:=λ_ _=>False}
section
variable {X:Cx}{pins:List (Addr×Obj)}{σ:St}{H:Hp}{s:Shared}
theorem Zo {scope:Scope}{N':List Str}{cap:List (Option Nat)}{cl:List (Str×Addr)}{ex:List Addr}{h₁:Heap}{m:Str->Option Value}(hB:qp X.N X.env.scope scope N' cap=true)(I:Inv X pins σ H s)
  (c1:∀x c,cl.lookup x=some c->X.env.cells.lookup x=some c)(c2:∀x,(x,NameKind.free)∈scope.names->∃c,cl.lookup x=some c)(hf:∀b∈ex,lY X pins H b)(hex:∀b∈ex,b<s.heap.objs.size)
  (hn:h₁.Ns s.heap.objs.size m)(hk:∀b o,s.heap.get? b=some o->h₁.get? b=some o){t':Nat}:
  Inv (ig X scope N' cl s.heap.objs.size s H ex) [] (dj cap σ) H {s with heap:=h₁,toks:=t'}:=by
 simp only[qp,Bool.and_eq_true] at hB
 obtain⟨⟨⟨⟨b1,b2⟩,b3⟩,b4⟩,b5⟩:=hB
 have kind:scope.kind=.function:=eq_of_beq b2
 have Dw:∀y∈scope.names,y.2≠ .cell:=λy hy=>by
  have:=List.all_eq_true.mp b3 y hy
  simpa using this
 have ok:(ig X scope N' cl s.heap.objs.size s H ex).Ok:=by
  refine⟨I.ok.mod,kind,I.ok.glob,I.ok.blt,Nat.le_refl _,λx y c e1 e2=>I.ok.inj x y c (c1 x c e1) (c1 y c e2),λx hx=>?_,λx c e _=>(by cases e),I.ok.hd,I.ok.frames,.inl rfl,λb hb=>⟨Nat.ne_of_lt (hex b hb),λx c e=>(hf b hb).2.2.2.2.1 x c (c1 x c e)⟩,
   I.bs,Nat.le_trans I.ok.uD I.sz,λb o e hb=>?_,λb hb hb2=>?_,I.stack,I.vm⟩
  .have hx':∃k,(relabel scope X.env).names.lookup x=some k/\(k=.cell\/k=.free):=by
    rcases hx with z|z
    .exact⟨.cell,z,.inl rfl⟩
    .exact⟨.free,z,.inr rfl⟩
   obtain⟨k,e,hkk⟩:=hx'
   obtain⟨k',hm,q⟩:=o9 (scope:=scope) (env:=X.env) (names:=scope.names) e
   have ek:k'=.free:=by
    rcases q with q|q
    .rw[<-q]
     rcases hkk with z|z
     .exact absurd (q.symm.trans z) (Dw _ hm)
     .exact z
    .exact q.1
   rw[ek] at hm
   exact c2 x hm
  .rcases(hf b hb).2.2.2.1 with z|z
   .exact I.ok.za b o e z
   .exact absurd (Nat.lt_of_lt_of_le (Nat.lt_of_lt_of_le (Heap.lt_size e) I.ok.uD) z) (Nat.lt_irrefl _)
  .rcases List.mem_cons.mp (I.xJ b hb2) with z|z
   .exact(hf b hb).2.1 z
   .exact(hf b hb).2.2.1 z
 refine⟨ok,rfl,I.bare,Un.kept hk,⟨m,hn,λi x v e1 e2 e3=>?_⟩,λx c e=>?_,I.hok.fresh (Nat.le_refl _),λx c e=>I.iJ x c (c1 x c e),λp hp=>absurd (show p∈([]:List (Addr×Obj)) from hp) (by simp),I.hok.kept hk,?_⟩
 .have e2':(dj cap σ)[i]? =some (some v):=e2
  unfold dj at e2'
  rw[List.getElem?_map] at e2'
  cases ec:cap[i]? with
  |none=>rw[ec] at e2';simp at e2'
  |some o=>
   rw[ec] at e2'
   cases o with
   |none=>simp at e2'
   |some j=>
    simp only[Option.map_some,Option.some.injEq] at e2'
    have ej:σ[j]? =some (some v):=by
     cases q:σ[j]? with
     |none=>rw[q] at e2';simp at e2'
     |some z=>rw[q] at e2';simp only at e2';rw[e2']
    obtain⟨q1,q2,q3⟩:=zu b1 i x j e1 ec
    obtain⟨m0,hn0,hl0⟩:=I.loc
    obtain⟨u,r,l⟩:=hl0 j x v q1 ej (by rcases q2 with z|z;exact .inr (.inl z);exact .inr (.inr z))
    refine⟨u,r,?_⟩
    rcases l with⟨kl,_⟩|⟨_,c,hc,z⟩
    .have kl':X.env.scope.names.lookup x=some .local:=kl
     rcases q2 with q2|q2<;>(rw[q2] at kl';cases kl')
    .obtain⟨o,ho,hd⟩:=z
     obtain⟨c',hc'⟩:=c2 x (PySem.mem_of_lookup q3)
     have:c'=c:=by
      have:=c1 x c' hc'
      rw[hc] at this
      exact(Option.some.inj this).symm
     subst this
     exact .inr ⟨pq q3,c',hc',o,hk _ _ ho,hd⟩
 .obtain⟨v,o,ho,hd⟩:=I.cell x c (c1 x c e)
  exact⟨v,o,hk _ _ ho,hd⟩
 .show(dj cap σ).length=N'.length
  unfold dj
  rw[List.length_map]
  exact tE b1
end
noncomputable def afT:TT:=λ_ H Q=>Q true H
noncomputable def pA (X:Cx)(ifs:List Expr)(t:TT):Prop:=
 ∀(pins:List (Addr×Obj)) (s:Shared) (σ:St) (H:Hp) (Q:Bool->Hp->Prop),Inv X pins σ H s->t σ H Q->
  wpAny (model X.prog X.w) X.A (forIn ifs true λc r=>if r=true then do let ok<-isTrue c X.env (eval c X.env);pure (ForInStep.yield ok) else pure (ForInStep.yield r)) (TP X pins σ Q) X.xe s
theorem W0 {X:Cx}:pA X [] afT:=λ_ _ _ H _ I h=>wpAny_tests_nil ⟨H,I,h⟩
theorem Hr {X:Cx}{c:Expr}{t:TT}(h:PT X c t):pA X [c] t:=λpins s σ H Q I q=>wpAny_tests_one (h pins s σ H Q I q)
section
variable {prog:Program}{w:World}{A:Around}{R:Result->Shared->Prop}{s:Shared}
theorem GK {elt target iter:Expr}{ifs:List Expr}{scope:Scope}{pos:Pos}{it acc:Value}{env:Env}(I:Nat->Shared->Prop)
  (turn:∀n s,I n s->wpAny (model prog w) A (pyNext it) (λr s₁=>match r with
   |none=>R (.ok .next) s₁
   |some v=>wpAny (model prog w) A (letOwnedTupleGo target it v) (λ_ s₁'=>wpAny (model prog w) A (assign target env v) (λ_ s₂=>
    wpAny (model prog w) A (forIn ifs true λc r=>if r=true then do let ok<-isTrue c env (eval c env);pure (ForInStep.yield ok) else pure (ForInStep.yield r)) (λok s₃=>
     if ok=true then wpAny (model prog w) A (eval elt env) (λx s₄=>
      wpAny (model prog w) A (call (.builtin "list.append") [acc,x]) (λ_ s₅=>∃m,m<n/\I m s₅) (λ_ _=>False) s₄) (λ_ _=>False) s₃
     else ∃m,m<n/\I m s₃) (λ_ _=>False) s₂) (λ_ _=>False) s₁') (λ_ _=>False) s₁) (λ_ _=>False) s)
  (n:Nat)(h:I n s):
  codeAny (model prog w) A (.compLoop (.ListComp elt [⟨target,iter,ifs,0⟩] scope pos) 0 it acc env) R s:=by
 refine codeAny_loop rfl I (λn s hI=>?_) n h
 show wpAny _ A ((compTurn (.ListComp elt [⟨target,iter,ifs,0⟩] scope pos) 0 it acc env).onRaise (λx=>do noteFrame x env;theTreesLotGoes x)) _ _ s
 refine wpAny_noted ?_
 rw[compTurn_list]
 refine wpAny_bind (wpAny_standAt (wpAny_bind (wpAny_mono (turn n s hI) (λr s₁ h₁=>?_) λ_ _ h'=>h'.elim)))
 cases r with
 |none=>exact wpAny_pure h₁
 |some v=>
  refine wpAny_bind (wpAny_mono h₁ (λ_ s₁' h₁'=>wpAny_bind (wpAny_mono h₁' (λ_ s₂ h₂=>wpAny_bind (wpAny_mono h₂ (λok s₃ h₃=>?_) λ_ _ h'=>h'.elim)) λ_ _ h'=>h'.elim)) λ_ _ h'=>h'.elim)
  cases ok with
  |false=>exact wpAny_pure ⟨rfl,h₃⟩
  |true=>
   exact wpAny_bind (wpAny_bind (wpAny_mono h₃ (λx s₄ h₄=>wpAny_bind (wpAny_mono h₄ (λ_ s₅ h₅=>wpAny_pure (wpAny_pure ⟨rfl,h₅⟩)) λ_ _ h'=>h'.elim)) λ_ _ h'=>h'.elim))
end
noncomputable def lG (a b:St):Prop:=∀(j:Nat) v,a[j]? =some (some v)->b[j]? =some (some v)
theorem lG.refl {a:St}:lG a a:=λ_ _ h=>h
theorem lG.set {a b:St}{i:Nat}{v:Option V}(h:lG a b)(hi:a[i]? =some none):lG a (b.set i v):=λj u e=>by
 by_cases hj:j=i
 .subst hj;rw[hi] at e;cases e
 .rw[List.getElem?_set_ne (Ne.symm hj)];exact h j u e
noncomputable def Qj (J:It)(cap:List (Option Nat))(g:TG)(tc:TT)(te:TE)(σ:St)(H1:Hp)(Q:VK):Prop:=
 ∀D,H1 D=none->∃W:Nat->Nat->Hp->Prop,(∃m,W 0 m (upd H1 D (.lst [])))/\∀i m H,W i m H->
  (J.stop i H/\Q (.ref D) H)\/(J.go i H/\∀x H',J.Df i H x H'->g x (dj cap σ) H' λσ2 H2=>lG (dj cap σ) σ2/\tc σ2 H2 λb H3=>
   if b=true then te σ2 H3 λy H4=>∃xs,H4 D=some (.lst xs)/\xs.length<sizeLine/\∃m',m'<m/\W (i+1) m' (upd H4 D (.lst (xs++[y])))
   else ∃m',m'<m/\W (i+1) m' H3)
noncomputable def Hs (wi:TI)(cap:List (Option Nat))(g:TG)(tc:TT)(te:TE):TE:=λσ H Q=>wi σ H λJ H1=>Qj J cap g tc te σ H1 Q
section
variable {X:Cx}{pins:List (Addr×Obj)}{σ:St}{H:Hp}{s:Shared}{tg elt iter:Expr}{ifs:List Expr}{scope:Scope}{pos:Pos}{N':List Str}{cap:List (Option Nat)}{g:TG}{tc:TT}{te:TE}
theorem Dy {E:Value->Shared->Prop}{J:It}{fp:List Addr}{it:Addr}{tn:Nat->Heap->Prop}{Q:VK}{cl:List (Str×Addr)}{RR:Value->Addr->Result->Shared->Prop}(hc:X.calm=true)(hB:qp X.N X.env.scope scope N' cap=true)
  (hg:∀cl C s₀ H₀ ex,PG (ig X scope N' cl C s₀ H₀ ex) tg g)(hi:∀cl C s₀ H₀ ex,pA (ig X scope N' cl C s₀ H₀ ex) ifs tc)(he:∀cl C s₀ H₀ ex,PE (ig X scope N' cl C s₀ H₀ ex) elt te)
  (c1:∀x c,cl.lookup x=some c->X.env.cells.lookup x=some c)(c2:∀x,(x,NameKind.free)∈scope.names->∃c,cl.lookup x=some c)
  (I:Inv X pins σ H s)(T:Turn X.prog X.w X.K tg J fp it tn)(st:tn 0 s.heap)(hf:∀b∈fp,lY X pins H b)(rd:Qj J cap g tc te σ H Q)
  (hRR:∀D C s' m H',Inv X pins σ H' s'->s'.heap.Ns C m->lY X pins H' C->Q (.ref D) H'->RR (.ref D) C (.ok .next) s'):
  wpAny (model X.prog X.w) X.A (newList []) (λacc s₃=>wpAny (model X.prog X.w) X.A (newFunctionEnv scope X.env.globals cl [] X.env.qual none .none (some X.env)) (λcenv s₄=>
   codeAny (model X.prog X.w) X.A (.compStart (.ListComp elt [⟨tg,iter,ifs,0⟩] scope pos) 0 (.ref it) acc {cenv with scope:=relabel scope X.env}) (RR acc cenv.locals) s₄) E s₃) E s:=by
 have hB':=hB
 simp only[qp,Bool.and_eq_true] at hB'
 obtain⟨⟨⟨⟨b1,b2⟩,b3⟩,b4⟩,b5⟩:=hB'
 have kind:scope.kind=.function:=eq_of_beq b2
 have Dw:∀y∈scope.names,y.2≠ .cell:=λy hy=>by
  have:=List.all_eq_true.mp b3 y hy
  simpa using this
 have hfp:∀b∈fp,b<s.heap.objs.size:=λb hb=>let⟨o,e,_⟩:=T.obj 0 _ st b hb;Heap.lt_size e
 refine wpAny_newObj_type (wpAny_newFunctionEnv Dw (by intro y hy;simp at hy) (λh₁ hns₁ hsb₁=>?_) kind)
 dsimp only at hns₁ hsb₁ ⊢
 have I3:Inv X pins σ (upd H s.heap.objs.size (.lst [])) {s with heap:=s.heap.push {cls:=.type "list",data:=.seq ([]:List Value).toArray},toks:=s.toks}:=I.Zk (ys:=[]) (its:=[]) .nil (Nat.zero_le _)
 generalize hs3:({s with heap:=s.heap.push {cls:=.type "list",data:=.seq ([]:List Value).toArray},toks:=s.toks}:Shared)=s3 at I3
 have eh:s3.heap=s.heap.push {cls:=.type "list",data:=.seq ([]:List Value).toArray}:=by rw[<-hs3]
 have sz3:s3.heap.objs.size=s.heap.objs.size+1:=by rw[eh,Heap.size_push]
 obtain⟨W,⟨m0,w0⟩,turn⟩:=rd s.heap.objs.size (I.hok.fresh (Nat.le_refl _))
 have hf3:∀b∈fp,lY X pins (upd H s.heap.objs.size (.lst [])) b:=λb hb=>⟨by rw[aq (Nat.ne_of_lt (hfp b hb))];exact(hf b hb).1,(hf b hb).2⟩
 have Zq:∀b∈fp,b<s3.heap.objs.size:=λb hb=>by rw[sz3];exact Nat.lt_succ_of_lt (hfp b hb)
 have W2:h₁.Ns s3.heap.objs.size (λx=>([]:List (Str×Value)).reverse.lookup x):=by rw[eh];exact hns₁
 have old:∀b o,s3.heap.get? b=some o->h₁.get? b=some o:=λb o e=>by
  refine hsb₁.extBut b o ?_ (Heap.get?_push_of_some _ (by rw[<-eh];exact e))
  rw[<-eh]
  exact Nat.ne_of_lt (Heap.lt_size e)
 have I4:=Zo (t':=s.toks) hB I3 c1 c2 hf3 Zq W2 old
 have ai6:∀b o,s.heap.get? b=some o->h₁.get? b=some o:=λb o e=>old b o (by rw[eh];exact Heap.get?_push_of_some _ e)
 have st4:tn 0 h₁:=T.keep _ _ _ st λb _ o e=>ai6 b o e
 have eC:(s.heap.push {cls:=.type "list",data:=.seq ([]:List Value).toArray}).objs.size=s3.heap.objs.size:=by rw[eh]
 have stat:∀{H':Hp},(∀b∈fp,H' b=none)->∀b∈fp,lY (ig X scope N' cl s3.heap.objs.size s3 (upd H s.heap.objs.size (.lst [])) fp) [] H' b:=λhn b hb=>
  ⟨hn b hb,Nat.ne_of_lt (Zq b hb),λz=>by
   rcases List.mem_cons.mp (I3.xJ b z) with q|q
   .exact(hf b hb).2.1 q
   .exact(hf b hb).2.2.1 q,.inl hb,λx c e=>(hf b hb).2.2.2.2.1 x c (c1 x c e),λp hp=>absurd (show p∈([]:List (Addr×Obj)) from hp) (by simp)⟩
 have loop:∀s₃:Shared,s₃={s with heap:=h₁,toks:=s.toks+([]:List (Str×Value)).length}->
   codeAny (model X.prog X.w) X.A (.compLoop (.ListComp elt [⟨tg,iter,ifs,0⟩] scope pos) 0 (.ref it) (.ref s.heap.objs.size) (compEnvC scope cl s3.heap.objs.size X.env)) (RR (.ref s.heap.objs.size) s3.heap.objs.size) s₃:=by
  rintro s₃ rfl
  refine GK (λn s'=>∃i σ' H',Inv (ig X scope N' cl s3.heap.objs.size s3 (upd H s.heap.objs.size (.lst [])) fp) [] σ' H' s'/\(∀(j:Nat) v,(dj cap σ)[j]? =some (some v)->σ'[j]? =some (some v))/\tn i s'.heap/\(∀b∈fp,H' b=none)/\W i n H') ?_ m0 ?_
  .rintro n s' ⟨i,σ',H',I',wk,st',fr',w'⟩
   have UW:=I'.weak (σ':=dj cap σ) (by rw[I'.len];show(dj cap σ).length=N'.length;unfold dj;rw[List.length_map];exact tE b1) wk
   rcases turn i n H' w' with⟨stop,q⟩|⟨go,step⟩
   .refine aQ (T.done (ig X scope N' cl s3.heap.objs.size s3 (upd H s.heap.objs.size (.lst [])) fp) rfl rfl rfl hc i [] s' (dj cap σ) H' _ UW (stat fr') st' stop) λr s4 ⟨hr,Ht⟩=>?_
    subst hr
    have u:Un (frs X.stack) fp H H' s.heap s4.heap:=(Un.laid (o:=.lst []) (λb o e=>by show s3.heap.get? b=some o;rw[eh];exact Heap.get?_push_of_some _ e) (Nat.le_refl _) (I.hok.fresh (Nat.le_refl _))).trans Ht.base
    have IX:Inv X pins σ H' s4:=I.call' (Ht.os.trans (by show s3.os=s.os;rw[<-hs3])) u Ht.hok Ht.bare λb hb=>⟨(hf b hb).2.2.2.1,(hf b hb).2.1,(hf b hb).2.2.2.2.1,(hf b hb).2.2.2.2.2⟩
    obtain⟨m',hm',_⟩:=Ht.loc
    exact hRR _ _ s4 m' H' IX hm' (I.zf (by rw[sz3];exact Nat.le_succ _) Ht.free) q
   .refine aQ (T.item (ig X scope N' cl s3.heap.objs.size s3 (upd H s.heap.objs.size (.lst [])) fp) rfl rfl rfl hc i [] s' (dj cap σ) H' _ UW (stat fr') st' go) λr s4 ⟨v,hr,h4⟩=>?_
    subst hr
    refine aQ h4 λ_ s5 ⟨x,H5,I5,r5,y5,Di,YW⟩=>?_
    have YX:=I5.pinned (stat YW) (T.obj _ _ Di)
    refine aQ (hg _ _ _ _ _ _ s5 (dj cap σ) H5 x v _ YX r5 (step x H5 y5)) λ_ s6 ⟨Dj,H6,I6,kc6,q6⟩=>?_
    refine aQ (hi _ _ _ _ _ _ s6 Dj H6 _ I6 q6) λok s7 ⟨H7,I7,q7⟩=>?_
    have afU:∀{s8:Shared}{σ8:St} {H8:Hp},Inv (ig X scope N' cl s3.heap.objs.size s3 (upd H s.heap.objs.size (.lst [])) fp) ([]++rH fp s5.heap) σ8 H8 s8->tn (i+1) s8.heap/\∀b∈fp,H8 b=none:=λ{s8 σ8 H8} I8=>
     ⟨T.keep _ _ _ Di λb hb o e=>(I8.pin (b,o) (List.mem_append_right _ (List.mem_append_right _ (ou hb e)))).1,λb hb=>by
      obtain⟨o,e,d⟩:=T.obj _ _ Di b hb
      exact(I8.pin (b,o) (List.mem_append_right _ (List.mem_append_right _ (ou hb e)))).2.1⟩
    have again:∀{s8:Shared}{H8:Hp} {m':Nat},Inv (ig X scope N' cl s3.heap.objs.size s3 (upd H s.heap.objs.size (.lst [])) fp) ([]++rH fp s5.heap) Dj H8 s8->m'<n->W (i+1) m' H8->
      ∃m,m<n/\∃i σ' H',Inv (ig X scope N' cl s3.heap.objs.size s3 (upd H s.heap.objs.size (.lst [])) fp) [] σ' H' s8/\(∀(j:Nat) v,(dj cap σ)[j]? =some (some v)->σ'[j]? =some (some v))/\tn i s8.heap/\(∀b∈fp,H' b=none)/\W i m H':=λ{s8 H8 m'} I8 lt w8=>by
     obtain⟨k1,k2⟩:=afU I8
     exact⟨m',lt,i+1,Dj,H8,I8.sX,kc6,k1,k2,w8⟩
    cases ok with
    |false=>
     rw[if_neg Bool.false_ne_true] at q7 ⊢
     obtain⟨m',lt,w8⟩:=q7
     exact again I7 lt w8
    |true=>
     rw[if_pos rfl] at q7 ⊢
     refine aQ (he _ _ _ _ _ _ s7 Dj H7 _ I7 q7) λy s8 ⟨vy,H8,I8,ry,xs,hD,hz,m',lt,w8⟩=>?_
     refine aQ (Ao (X:=ig X scope N' cl s3.heap.objs.size s3 (upd H s.heap.objs.size (.lst [])) fp) _ s8 Dj H8 (.ref s.heap.objs.size) [vy] _ _ (λ_ H'=>H'=upd H8 s.heap.objs.size (.lst (xs++[vy]))) I8 rfl (.cons ry .nil) ⟨_,xs,vy,rfl,rfl,hD,hz,rfl⟩) λ_ s9 ⟨_,H9,I9,_,e9⟩=>?_
     subst e9
     exact again I9 lt w8
  .have eS:({s3 with heap:=h₁,toks:=s.toks}:Shared)={s with heap:=h₁,toks:=s.toks+([]:List (Str×Value)).length}:=by rw[<-hs3];rfl
   exact⟨0,dj cap σ,upd H s.heap.objs.size (.lst []),eS▸I4,λ_ _ h=>h,st4,λb hb=>(hf3 b hb).1,w0⟩
 rw[eC]
 exact codeAny_compStart_list (loop _ rfl) (T.self _ 0 _ _ _ st4 (loop _ rfl))
theorem Av (hB:qp X.N X.env.scope scope N' cap=true):∀x∈scope.names,x.2=.local->scope.names.lookup x.1=some .local:=λy hy e=>by
 simp only[qp,Bool.and_eq_true] at hB
 have:=List.all_eq_true.mp hB.1.2 y hy
 rw[e] at this
 simpa using this
theorem Dz (hB:qp X.N X.env.scope scope N' cap=true)(ok:X.Ok):∃cl:List (Str×Addr),closureFor scope X.env=pure cl/\(∀x c,cl.lookup x=some c->X.env.cells.lookup x=some c)/\∀x,(x,NameKind.free)∈scope.names->∃c,cl.lookup x=some c:=by
 refine Bv λy hy e=>ok.has y.1 ?_
 simp only[qp,Bool.and_eq_true] at hB
 have:=List.all_eq_true.mp hB.2 y hy
 rw[e] at this
 simp only[bne_self_eq_false,Bool.false_or,Bool.or_eq_true] at this
 rcases this with z|z
 .exact .inl (eq_of_beq z)
 .exact .inr (eq_of_beq z)
theorem vq {wi:TI}(N:List Str)(sc:Scope)(hc:X.calm=true)(Zr:qp N sc scope N' cap=true)(Zt:X.N=N)(hsc:X.env.scope=sc)(hit:PI X tg iter wi)
  (hg:∀cl C s₀ H₀ ex,PG (ig X scope N' cl C s₀ H₀ ex) tg g)(hi:∀cl C s₀ H₀ ex,pA (ig X scope N' cl C s₀ H₀ ex) ifs tc)(he:∀cl C s₀ H₀ ex,PE (ig X scope N' cl C s₀ H₀ ex) elt te)
  (hs:∀x,foldedSetIterable iter X.env x=pure x:=by intro _;rfl):PE X (.ListComp elt [⟨tg,iter,ifs,0⟩] scope pos) (Hs wi cap g tc te):=by
 intro pins s σ H Q I h
 have hB:qp X.N X.env.scope scope N' cap=true:=by rw[Zt,hsc];exact Zr
 have kind:scope.kind=.function:=by
  simp only[qp,Bool.and_eq_true] at hB
  exact eq_of_beq hB.1.1.1.2
 obtain⟨cl,Zu,c1,c2⟩:=Dz hB I.ok
 rw[eval_ListComp]
 refine wpAny_comprehension_free (use:=none) rfl hs Zu kind (Av hB) (aQ (hit pins s σ H _ I h) λv s1 h1=>aQ h1 λitv s2 h2=>?_)
 obtain⟨it,fp,tn,J,H2,e,I2,T,st2,f2,rd⟩:=h2
 subst e
 refine Dy (RR:=λacc C=>compPost (model X.prog X.w) X.A X.xe none (EP X pins σ Q) acc C) hc hB hg hi he c1 c2 I2 T st2 f2 rd λD C s' m H' I' hm fC q=>?_
 exact⟨m,hm,λh' hs'=>⟨.ref D,H',I'.turned (t':=s'.toks) (it:=C) (λb o hb e=>(hs'.2 b hb).trans e) fC.1 fC.2.1 fC.2.2.2.1 fC.2.2.2.2.1 fC.2.2.2.2.2,rfl,q⟩⟩
theorem DG {wi:TI}{i:Nat}{y:Str}{ypos spos:Pos}(hN:X.N.Nodup)(hiy:X.N[i]? =some y)(hy:Loc X.env.scope y)(N:List Str)(sc:Scope)(hc:X.calm=true)(Zr:qp N sc scope N' cap=true)(Zt:X.N=N)(hsc:X.env.scope=sc)(hit:PI X tg iter wi)
  (hg:∀cl C s₀ H₀ ex,PG (ig X scope N' cl C s₀ H₀ ex) tg g)(hi:∀cl C s₀ H₀ ex,pA (ig X scope N' cl C s₀ H₀ ex) ifs tc)(he:∀cl C s₀ H₀ ex,PE (ig X scope N' cl C s₀ H₀ ex) elt te)
  (hsw:swapsWith (.ListComp elt [⟨tg,iter,ifs,0⟩] scope pos) (some (.Name y ypos)) spos.line X.env=pure true:=by rfl)
  (hs:∀x,foldedSetIterable iter X.env x=pure x:=by intro _;rfl)(hf:X.fn y=true\/X.env.scope.names.lookup y=some .local:=by first|exact .inl rfl|exact .inr rfl|assumption):
  PS X (.Assign [.Name y ypos] (.ListComp elt [⟨tg,iter,ifs,0⟩] scope pos) spos) (g8 (Hs wi cap g tc te) (fG i)):=by
 intro pins s σ H D I h
 have hB:qp X.N X.env.scope scope N' cap=true:=by rw[Zt,hsc];exact Zr
 have kind:scope.kind=.function:=by
  simp only[qp,Bool.and_eq_true] at hB
  exact eq_of_beq hB.1.1.1.2
 obtain⟨cl,Zu,c1,c2⟩:=Dz hB I.ok
 rw[exec_Assign_Name_used _ _ _ _ hsw]
 refine wpAny_bind (wpAny_standAt (wpAny_bind ?_))
 show wpAny _ X.A (do let _<-comprehension (.ListComp elt [⟨tg,iter,ifs,0⟩] scope pos) scope X.env _ (newList []) false (eval iter X.env) (some (assign (.Name y ypos) X.env))) _ _ s
 refine wpAny_bind (wpAny_mono (wpAny_comprehension_free (use:=some (assign (.Name y ypos) X.env)) (Q:=λ_ s'=>SP X pins D .next s') rfl hs Zu kind (Av hB)
  (aQ (hit pins s σ H _ I h) λv s1 h1=>aQ h1 λitv s2 h2=>?_)) (λ_ s' hq=>wpAny_pure (wpAny_pure hq)) λ_ _ e=>e)
 obtain⟨it,fp,tn,J,H2,e,I2,T,st2,f2,rd⟩:=h2
 subst e
 refine Dy (RR:=λacc C=>compPost (model X.prog X.w) X.A X.xe (some (assign (.Name y ypos) X.env)) (λ_ s'=>SP X pins D .next s') acc C) hc hB hg hi he c1 c2 I2 T st2 f2 rd λDa C s' m H' I' hm fC q=>?_
 show wpAny _ X.A (assign (.Name y ypos) X.env (.ref Da)) _ _ _
 refine wpAny_assign_Name (Ac (v:=.ref Da) I' hN hiy hy rfl (λs'' UW ⟨a,hsa,hav⟩=>?_) hf)
 have haC:C≠a:=by
  rcases hav with z|z
  .rw[z];exact fC.2.1
  .exact(fC.2.2.2.2.1 y a z).symm
 refine⟨m,hm.sameBut hsa haC,λh' hs'=>⟨σ.set i (some (.ref Da)),H',UW.turned (t':=s''.toks) (it:=C) (λb o hb e=>(hs'.2 b hb).trans e) fC.1 fC.2.1 fC.2.2.2.1 fC.2.2.2.2.1 fC.2.2.2.2.2,q⟩⟩
end
end L2
namespace L2
open PySem PySem.Spec PyProof.Rows
noncomputable def Ce (_ j:Int):Prop:=0<j/\j.natAbs.log2<9000
noncomputable def Cg (i j:Int):Prop:=i.natAbs<2^8000/\j.natAbs<2^8000
theorem bits_le {i:Int}(h:i.natAbs<2^8000):Builtin.Int.intBits i<=2^20:=by
 unfold Builtin.Int.intBits
 split
 .exact Nat.zero_le _
 .rename_i h0
  have hz:i.natAbs≠0:=by
   intro z
   apply h0
   have:i=0:=by omega
   rw[this];rfl
  have:i.natAbs.log2<8000:=(Nat.log2_lt hz).mpr h
  have e:(2:Nat)^20=1048576:=by decide
  omega
section
variable {X:Cx}
theorem Qk:cL X (binaryOp .FloorDiv) (rI Ce λi j=>.int (i/j)):=Uy λi j _ _ _ _ _ hc q=>by
 have e:i.fdiv j=i/j:=by rw[Int.fdiv_eq_ediv_of_nonneg _ (Int.le_of_lt hc.1)]
 exact floordiv_int (Int.ne_of_gt hc.1) (by rw[e];exact q) (.inl (PyProof.noPylong_of_log2 hc.2))
theorem W3:cL X (binaryOp .Mult) (rI Cg λi j=>.int (i*j)):=Uy λ_ _ _ _ _ _ _ hc q=>mul_int q (IntMulOk.of_bits (bits_le hc.1) (bits_le hc.2))
end
section
variable {X:Cx}
end
section
variable {X:Cx}{e:Expr}{te:TE}{pos p2 p3 p4:Pos}{j:Nat}
end
mutual
noncomputable def Has (K:PySem.W.Frag)(H:Hp):PyData->V->Prop
 |.none,v=>v=.non
 |.bool b,v=>v=.bl b
 |.int i,v=>v=.int i
 |.str x,v=>v=.str x/\(PyData.str x).canLay0=true
 |.list ds,v=>∃a xs,v=.ref a/\bQ K H a xs/\aJ K H ds xs
 |.tuple ds,v=>∃a xs,v=.ref a/\bM K H a xs/\aJ K H ds xs
 |.dict _,_=>False
noncomputable def aJ (K:PySem.W.Frag)(H:Hp):List PyData->List V->Prop
 |[],vs=>vs=[]
 |d::ds,vs=>∃v r,vs=v::r/\Has K H d v/\aJ K H ds r
end
theorem Same.wV {K:PySem.W.Frag}{H H':Hp}{a:Addr}{xs:List V}(e:Same H H')(h:bM K H a xs):bM K H' a xs:=by
 rcases h with(h|⟨o,h⟩)|h
 .exact .inl (.inl (e _ _ h))
 .exact .inl (.inr ⟨o,e _ _ h⟩)
 .exact .inr h
mutual
theorem Has.same {K:PySem.W.Frag}{H H':Hp}(e:Same H H'):∀{d:PyData}{v:V},Has K H d v->Has K H' d v
 |.none,_,h=>h
 |.bool _,_,h=>h
 |.int _,_,h=>h
 |.str _,_,h=>h
 |.list _,_,⟨a,xs,h1,h2,h3⟩=>⟨a,xs,h1,e.seq h2,aJ.same e h3⟩
 |.tuple _,_,⟨a,xs,h1,h2,h3⟩=>⟨a,xs,h1,e.wV h2,aJ.same e h3⟩
theorem aJ.same {K:PySem.W.Frag}{H H':Hp}(e:Same H H'):∀{ds:List PyData}{vs:List V},aJ K H ds vs->aJ K H' ds vs
 |[],_,h=>h
 |_::_,_,⟨v,r,h1,h2,h3⟩=>⟨v,r,h1,Has.same e h2,aJ.same e h3⟩
end
theorem aJ.length {K:PySem.W.Frag}{H:Hp}:∀{ds:List PyData}{vs:List V},aJ K H ds vs->ds.length=vs.length
 |[],vs,h=>by
  have h':vs=[]:=h
  rw[h'];rfl
 |_::_,_,⟨v,r,h1,_,h3⟩=>by rw[h1];exact congrArg (· +1) (aJ.length h3)
theorem aJ.get {K:PySem.W.Frag}{H:Hp}:∀{ds:List PyData}{vs:List V} {i:Nat} {v:V},aJ K H ds vs->vs[i]? =some v->∃d,ds[i]? =some d/\Has K H d v
 |[],vs,i,v,h,e=>by
  have h':vs=[]:=h
  rw[h'] at e;simp at e
 |d::_,_,0,v,⟨u,r,h1,h2,h3⟩,e=>by
  rw[h1] at e
  have:u=v:=by simpa using e
  subst this;exact⟨d,rfl,h2⟩
 |_::ds,_,i+1,v,⟨u,r,h1,h2,h3⟩,e=>by
  rw[h1] at e
  obtain⟨d,q1,q2⟩:=aJ.get (i:=i) (v:=v) h3 (by simpa using e)
  exact⟨d,by simpa using q1,q2⟩
theorem aJ.at {K:PySem.W.Frag}{H:Hp}:∀{ds:List PyData}{vs:List V} {i:Nat} {d:PyData},aJ K H ds vs->ds[i]? =some d->∃v,vs[i]? =some v/\Has K H d v
 |[],_,i,d,_,e=>by simp at e
 |d'::_,_,0,d,⟨u,r,h1,h2,h3⟩,e=>by
  have:d'=d:=by simpa using e
  subst this;rw[h1];exact⟨u,rfl,h2⟩
 |_::ds,_,i+1,d,⟨u,r,h1,h2,h3⟩,e=>by
  obtain⟨v,q1,q2⟩:=aJ.at (i:=i) (d:=d) h3 (by simpa using e)
  rw[h1];exact⟨v,by simpa using q1,q2⟩
theorem aJ.snoc {K:PySem.W.Frag}{H:Hp}{d:PyData}{v:V}(hv:Has K H d v):∀{ds:List PyData}{vs:List V},aJ K H ds vs->aJ K H (ds++[d]) (vs++[v])
 |[],vs,h=>by
  have h':vs=[]:=h
  rw[h'];exact⟨v,[],rfl,hv,rfl⟩
 |_::_,_,⟨u,r,h1,h2,h3⟩=>by rw[h1];exact⟨u,r++[v],rfl,h2,aJ.snoc hv h3⟩
theorem aJ.append {K:PySem.W.Frag}{H:Hp}{es:List PyData}{us:List V}(h2:aJ K H es us):∀{ds:List PyData}{vs:List V},aJ K H ds vs->aJ K H (ds++es) (vs++us)
 |[],vs,h=>by
  have h':vs=[]:=h
  rw[h'];exact h2
 |_::_,_,⟨u,r,g1,g2,g3⟩=>by rw[g1];exact⟨u,r++us,rfl,g2,aJ.append h2 g3⟩
theorem aJ.reverse {K:PySem.W.Frag}{H:Hp}:∀{ds:List PyData}{vs:List V},aJ K H ds vs->aJ K H ds.reverse vs.reverse
 |[],vs,h=>by
  have h':vs=[]:=h
  rw[h'];rfl
 |_::_,_,⟨u,r,g1,g2,g3⟩=>by rw[g1,List.reverse_cons,List.reverse_cons];exact aJ.snoc g2 (aJ.reverse g3)
theorem aJ.set {K:PySem.W.Frag}{H:Hp}{d:PyData}{v:V}(hv:Has K H d v):∀{ds:List PyData}{vs:List V} (i:Nat),aJ K H ds vs->aJ K H (ds.set i d) (vs.set i v)
 |[],vs,_,h=>by
  have h':vs=[]:=h
  rw[h'];rfl
 |_::_,_,0,⟨u,r,g1,g2,g3⟩=>by rw[g1];exact⟨v,r,rfl,hv,g3⟩
 |_::_,_,i+1,⟨u,r,g1,g2,g3⟩=>by rw[g1];exact⟨u,r.set i v,rfl,g2,aJ.set hv i g3⟩
theorem aJ.ints {K:PySem.W.Frag}{H:Hp}:∀{ns:List Int}{vs:List V},aJ K H (ns.map PyData.int) vs↔vs=ns.map V.int
 |[],_=>Iff.rfl
 |n::ns,vs=>by
  constructor
  .rintro⟨v,r,h1,h2,h3⟩
   have h2':v=.int n:=h2
   rw[h1,h2',aJ.ints.mp h3];rfl
  .rintro rfl
   exact⟨.int n,ns.map V.int,rfl,rfl,aJ.ints.mpr rfl⟩
section
variable {X:Cx}{pins:List (Addr×Obj)}{σ:St}{H:Hp}{s:Shared}
mutual
theorem Has.reads (I:Inv X pins σ H s):∀{d:PyData}{v:V} {u:Value},Has X.K H d v->RelV v u->∃as,Reads s.heap u d as
 |.none,v,u,h,r=>by
  have h':v=.non:=h
  subst h';cases r;exact⟨_,.none⟩
 |.bool b,v,u,h,r=>by
  have h':v=.bl b:=h
  subst h';cases r;exact⟨_,.bool b⟩
 |.int i,v,u,h,r=>by
  have h':v=.int i:=h
  subst h';obtain⟨t,rfl⟩:=r;exact⟨_,.int i t⟩
 |.str x,v,u,h,r=>by
  have h':v=.str x:=h.1
  subst h';obtain⟨t,rfl⟩:=r;exact⟨_,.str x t⟩
 |.list ds,v,u,h,r=>by
  obtain⟨a,xs,rfl,hq,hl⟩:=h
  cases r
  obtain⟨its,rv,⟨o,n,e,c,_,d⟩,hz⟩:=I.list hq
  obtain⟨as,ra⟩:=aJ.reads I hl rv
  exact⟨_,.list e c d (by simpa using ra)⟩
 |.tuple ds,v,u,h,r=>by
  obtain⟨a,xs,rfl,hq,hl⟩:=h
  cases r
  obtain⟨its,rv,⟨o,e,c,n,d⟩,hz⟩:=I.tuple hq
  obtain⟨as,ra⟩:=aJ.reads I hl rv
  exact⟨_,.tuple e c d (by simpa using ra)⟩
 |.dict _,_,_,h,_=>False.elim h
theorem aJ.reads (I:Inv X pins σ H s):∀{ds:List PyData}{vs:List V} {us:List Value},aJ X.K H ds vs->Vals vs us->∃as,ReadsAll s.heap us ds as
 |[],vs,us,h,r=>by
  have h':vs=[]:=h
  subst h';cases r;exact⟨_,.nil⟩
 |d::ds,vs,us,h,r=>by
  obtain⟨v,rr,rfl,h1,h2⟩:=h
  cases r with
  |cons r1 r2=>
   obtain⟨as,a1⟩:=Has.reads I h1 r1
   obtain⟨bs,a2⟩:=aJ.reads I h2 r2
   exact⟨_,.cons a1 a2⟩
end
end
mutual
theorem Has.can {K:PySem.W.Frag}{H:Hp}:∀{d:PyData}{v:V},Has K H d v->d.canLay0=true
 |.none,_,_=>rfl
 |.bool _,_,_=>rfl
 |.int _,_,_=>rfl
 |.str _,_,h=>h.2
 |.list ds,_,⟨_,_,_,_,h⟩=>by simp only[PyData.canLay0];exact aJ.can h
 |.tuple ds,_,⟨_,_,_,_,h⟩=>by simp only[PyData.canLay0];exact aJ.can h
theorem aJ.can {K:PySem.W.Frag}{H:Hp}:∀{ds:List PyData}{vs:List V},aJ K H ds vs->PyData.canLayAll0 ds=true
 |[],_,_=>rfl
 |d::ds,_,⟨_,_,_,h1,h2⟩=>by simp only[PyData.canLayAll0,Bool.and_eq_true];exact⟨Has.can h1,aJ.can h2⟩
end
noncomputable def Zv (K:PySem.W.Frag):R2:=λx y H Q=>∃d e,Has K H d x/\Has K H e y/\d.depth<=60/\Q (.bl (PyData.eqv d e)) H
noncomputable def Js (K:PySem.W.Frag):R2:=λx y H Q=>∃d e,Has K H d x/\Has K H e y/\d.depth<=60/\Q (.bl (!PyData.eqv d e)) H
section
variable {X:Cx}
theorem kh (hu:X.A.units+64<cLine):cL X (compareOp .Eq) (Zv X.K):=by
 intro pins s σ H x y v u Q I rx ry h
 obtain⟨d,e,hd,he,hk,q⟩:=h
 obtain⟨as,ra⟩:=hd.reads I rx
 obtain⟨bs,rb⟩:=he.reads I ry
 exact SeqAt.compareEq_reads ra rb hd.can he.can (by have:=Nat.min_le_left d.depth e.depth;omega) ⟨.bl _,H,I,rfl,q⟩
theorem uL (hu:X.A.units+64<cLine):cL X (compareOp .NotEq) (Js X.K):=by
 intro pins s σ H x y v u Q I rx ry h
 obtain⟨d,e,hd,he,hk,q⟩:=h
 obtain⟨as,ra⟩:=hd.reads I rx
 obtain⟨bs,rb⟩:=he.reads I ry
 exact SeqAt.compareNe_reads ra rb hd.can he.can (by have:=Nat.min_le_left d.depth e.depth;omega) ⟨.bl _,H,I,rfl,q⟩
end
end L2
namespace L2
open PySem PySem.Spec PyProof.Rows
noncomputable def vR (i:Nat):TE:=λσ H Q=>match σ[i]? with
 |some (some v)=>Q v H
 |_=>False
noncomputable def dW (sc:Scope)(x:Str):Bool:=match sc.names.lookup x with
 |some .local=>true
 |some .cell=>true
 |some .free=>true
 |_=>false
noncomputable def Zw (sc:Scope)(x:Str):Bool:=match sc.names.lookup x with
 |some .local=>true
 |some .cell=>true
 |_=>false
noncomputable def U0 (sc:Scope)(x:Str):Bool:=match sc.names.lookup x with
 |some .globalImplicit=>true
 |_=>false
noncomputable def Jt (sc:Scope)(x:Str):Bool:=match sc.names.lookup x with
 |some .local=>true
 |some .free=>true
 |_=>false
noncomputable def plain (x:Str):Bool:=!(x==("__debug__":Str)) && !(x==("__classdict__":Str))
theorem Zx {sc:Scope}{x:Str}(h:dW sc x=true):Uq sc x:=by
 unfold dW at h
 split at h
 .rename_i e;exact .inl e
 .rename_i e;exact .inr (.inl e)
 .rename_i e;exact .inr (.inr e)
 .cases h
theorem lo {sc:Scope}{x:Str}(h:Zw sc x=true):Loc sc x:=by
 unfold Zw at h
 split at h
 .rename_i e;exact .inl e
 .rename_i e;exact .inr e
 .cases h
theorem W4 {sc:Scope}{env:Env}{x:Str}(h:Jt sc x=true):Uq (relabel sc env) x:=by
 unfold Jt at h
 split at h
 .rename_i e;exact .inl (lookup_relabel_local e)
 .rename_i e;exact .inr (pq e)
 .cases h
noncomputable def Ql (sc:Scope)(x:Str):Bool:=match sc.names.lookup x with
 |some .local=>true
 |_=>false
theorem loC {sc:Scope}{env:Env}{x:Str}(h:Ql sc x=true):(relabel sc env).names.lookup x=some .local:=by
 unfold Ql at h
 split at h
 .rename_i e;exact lookup_relabel_local e
 .cases h
theorem uM {env:Env}{x:Str}:∀{names:List (Str×NameKind)},names.lookup x=some .globalImplicit->
  (names.map λ(n,k)=>if(k==NameKind.free && env.scope.kind==.function && env.kindOf n==some .cell) then(n,NameKind.cell) else(n,k)).lookup x=some .globalImplicit
 |[],h=>by simp at h
 |(n,j)::r,h=>by
  have ih:=@uM env x r
  show List.lookup x ((if(j==NameKind.free && env.scope.kind==.function && env.kindOf n==some .cell)=true then(n,NameKind.cell) else(n,j))::_)=_
  by_cases hc:(j==NameKind.free && env.scope.kind==.function && env.kindOf n==some .cell)=true
  .rw[if_pos hc,List.lookup_cons]
   rw[List.lookup_cons] at h
   cases hx:x==n with
   |true=>
    rw[hx] at h
    simp only[Bool.and_eq_true] at hc
    have ej:j=.free:=eq_of_beq hc.1.1
    rw[ej] at h;cases h
   |false=>rw[hx] at h;exact ih h
  .rw[if_neg hc,List.lookup_cons]
   rw[List.lookup_cons] at h
   cases hx:x==n with
   |true=>rw[hx] at h;exact h
   |false=>rw[hx] at h;exact ih h
section
variable {X:Cx}
theorem gl {sc:Scope}{x:Str}(h:U0 sc x=true)(hs:X.env.scope=sc:=by rfl):Gl X x:=by
 unfold U0 at h
 split at h
 .rename_i e;show X.env.scope.names.lookup x=_;rw[hs];exact e
 .cases h
theorem U3 {e:Expr}{i:Nat}(h:PE X e (Pz i)):PE X e (vR i):=h.imp λσ H Q h=>by
 unfold vR at h
 unfold Pz
 split at h
 .rename_i v e;exact⟨v,e,h⟩
 .exact h.elim
theorem tG {x:Str}(h:plain x=true):(x==("__debug__":Str))=false/\(x==("__classdict__":Str))=false:=by
 unfold plain at h
 simpa using h
theorem pV {N:List Str}{sc:Scope}(vt:N.all (λx=>dW sc x && plain x)=true)(i:Nat){x:Str}{pos:Pos}(hN:X.N[i]? =some x:=by rfl)(hXN:X.N=N:=by rfl)(hXs:X.env.scope=sc:=by rfl):PE X (.Name x pos) (vR i):=by
 have h:=List.all_eq_true.mp vt x (by rw[<-hXN];exact List.mem_of_getElem? hN)
 rw[Bool.and_eq_true] at h
 exact U3 (Ld hN (by rw[hXs];exact Zx h.1) (tG h.2).1 (tG h.2).2)
end
section
variable {X:Cx}{scope:Scope}{N':List Str}{cl:List (Str×Addr)}{C:Addr}{s₀:Shared}{H₀:Hp}{ex:List Addr}{x:Str}{pos:Pos}
theorem lH (vt:N'.all (λx=>Jt scope x && plain x)=true)(i:Nat)(hN:N'[i]? =some x:=by rfl):PE (ig X scope N' cl C s₀ H₀ ex) (.Name x pos) (vR i):=by
 have h:=List.all_eq_true.mp vt x (List.mem_of_getElem? hN)
 rw[Bool.and_eq_true] at h
 exact U3 (Ld hN (W4 (env:=X.env) h.1) (tG h.2).1 (tG h.2).2)
theorem Aw {i:Nat}(hN:N'.Nodup)(h:Ql scope x=true)(hi:N'[i]? =some x:=by rfl):PG (ig X scope N' cl C s₀ H₀ ex) (.Name x pos) (fG i):=
 aO hN hi (.inl (loC (env:=X.env) h)) (.inr (loC (env:=X.env) h))
theorem glC (h:U0 scope x=true):Gl (ig X scope N' cl C s₀ H₀ ex) x:=by
 unfold U0 at h
 split at h
 .rename_i e;show(relabel scope X.env).names.lookup x=_;exact uM e
 .cases h
end
section
variable {X:Cx}
theorem cL.imp {f:Value->Value->Sem Value}{r r':R2}(h:cL X f r)(hi:∀x y H Q,r' x y H Q->r x y H Q):cL X f r':=λpins s σ H x y v u Q I rx ry q=>h pins s σ H x y v u Q I rx ry (hi x y H Q q)
theorem o7.imp {r r':R2}(h:o7 X r)(hi:∀x y H Q,r' x y H Q->r x y H Q):o7 X r':=λa b pins s σ H x y v u Q I rx ry q=>h a b pins s σ H x y v u Q I rx ry (hi x y H Q q)
theorem Ad.imp {f:Value->Sem Value}{r r':V->Hp->VK->Prop}(h:Ad X f r)(hi:∀x H Q,r' x H Q->r x H Q):Ad X f r':=λpins s σ H x v Q I rx q=>h pins s σ H x v Q I rx (hi x H Q q)
theorem gw.imp {f:Value}{r r':List V->Hp->VK->Prop}(h:gw X f r)(hi:∀xs H Q,r' xs H Q->r xs H Q):gw X f r':=λpins s σ H xs us Q I rx q=>h pins s σ H xs us Q I rx (hi xs H Q q)
theorem Uv.imp {op:Operator}{r r':TIp}(h:Uv X op r)(hi:∀x y H Q,r' x y H Q->r x y H Q):Uv X op r':=λpins s σ H x y v u Q I rx ry q=>h pins s σ H x y v u Q I rx ry (hi x y H Q q)
theorem wM.imp {r r':Dd}(h:wM X r)(hi:∀x y z H Q,r' x y z H Q->r x y z H Q):wM X r':=λpins s σ H x y z v u w Q I rx ry rz q=>h pins s σ H x y z v u w Q I rx ry rz (hi x y z H Q q)
end
noncomputable def rM (g:Int->Int->V):R2:=λx y H Q=>match x,y with
 |.int i,.int j=>Q (g i j) H
 |_,_=>False
noncomputable def wC (C:Int->Int->Prop)(g:Int->Int->V):R2:=λx y H Q=>match x,y with
 |.int i,.int j=>C i j/\Q (g i j) H
 |_,_=>False
noncomputable def Ci:V->Bool
 |.non=>true
 |_=>false
theorem DK (x:V):decide (x=.non)=Ci x:=by cases x<;>simp[Ci]
section
variable {X:Cx}
theorem LQ {f:Value->Value->Sem Value}{g:Int->Int->V}(h:cL X f (Ae g)):cL X f (rM g):=h.imp λx y H Q q=>by
 cases x<;>first|exact False.elim q|(cases y<;>first|exact False.elim q|exact⟨_,_,rfl,rfl,q⟩)
theorem Ju {f:Value->Value->Sem Value}{C:Int->Int->Prop}{g:Int->Int->V}(h:cL X f (rI C g)):cL X f (wC C g):=h.imp λx y H Q q=>by
 cases x<;>first|exact False.elim q|(cases y<;>first|exact False.elim q|exact⟨_,_,rfl,rfl,q.1,q.2⟩)
theorem jd:cL X (binaryOp .Add) (rM λi j=>.int (i+j)):=LQ Y5
theorem qO:cL X (binaryOp .Sub) (rM λi j=>.int (i - j)):=LQ Y6
theorem Jv:cL X (binaryOp .Mult) (wC Cg λi j=>.int (i*j)):=Ju W3
theorem oDiv:cL X (binaryOp .FloorDiv) (wC Ce λi j=>.int (i/j)):=Ju Qk
theorem oMod:cL X (binaryOp .Mod) (wC (λ_ j=>0<j) λi j=>.int (i % j)):=Ju Y7
theorem DN:cL X (binaryOp .Pow) (wC Jg λi j=>.int (i^j.toNat)):=Ju Y8
theorem oLt:cL X (compareOp .Lt) (rM λi j=>.bl (decide (i<j))):=LQ afO
theorem oLe:cL X (compareOp .LtE) (rM λi j=>.bl (decide (i<=j))):=LQ afP
theorem Zy:cL X (compareOp .Gt) (rM λi j=>.bl (decide (j<i))):=LQ afQ
theorem oEq:cL X (compareOp .Eq) (rM λi j=>.bl (decide (i=j))):=jz.imp λx y H Q q=>by
 cases x<;>first|exact False.elim q|(cases y<;>first|exact False.elim q|(refine⟨rfl,?_⟩;rw[G6,Bool.beq_eq_decide_eq];exact q))
noncomputable def Zz:R2:=λx y H Q=>match y with
 |.non=>Q (.bl (Ci x)) H
 |_=>False
noncomputable def Jw:R2:=λx y H Q=>match y with
 |.non=>Q (.bl (!Ci x)) H
 |_=>False
theorem ai7:cL X (compareOp .Is) Zz:=Za.imp λx y H Q q=>by
 cases y<;>first|exact False.elim q|(refine⟨rfl,?_⟩;rw[DK];exact q)
theorem U4:cL X (compareOp .IsNot) Jw:=WD.imp λx y H Q q=>by
 cases y<;>first|exact False.elim q|(refine⟨rfl,?_⟩;rw[DK];exact q)
noncomputable def rUM (g:Int->V):V->Hp->VK->Prop:=λx H Q=>match x with
 |.int i=>Q (g i) H
 |_=>False
theorem ai8:Ad X (unaryOp .USub) (rUM λi=>.int (-i)):=Dk.imp λx H Q q=>by
 cases x<;>first|exact False.elim q|exact⟨_,rfl,q⟩
end
noncomputable def iB (t:TE):TT:=λσ H Q=>t σ H λx H'=>match x with
 |.bl k=>Q k H'
 |_=>False
noncomputable def U5 (ta tb:TE):TE:=λσ H Q=>ta σ H λx H1=>match x with
 |.bl c=>if c=true then tb σ H1 Q else Q (.bl false) H1
 |_=>False
noncomputable def ZC (ta tb:TE):TE:=λσ H Q=>ta σ H λx H1=>match x with
 |.bl c=>if c=true then Q (.bl true) H1 else tb σ H1 Q
 |_=>False
noncomputable def Qm (r r':R2)(ta tb tc:TE):TE:=λσ H Q=>ta σ H λx H1=>tb σ H1 λy H2=>r x y H2 λz H3=>match z with
 |.bl k=>if k=true then tc σ H3 λw' H4=>r' y w' H4 Q else Q (.bl false) H3
 |_=>False
section
variable {X:Cx}{a b c e:Expr}{ta tb tc t:TE}{pos:Pos}{rest:List Expr}
theorem iW {op:CmpOp}{r:R2}(ho:cL X (compareOp op) r)(ha:PE X a ta)(hb:PE X b tb)(hm:behindInMarks op b=false:=by first|exact xQ _|rfl):PT X (.Compare a [op] [b] pos) (iB (dh r ta tb)):=by
 intro pins s σ H Q I h
 refine wpAny_isTrue_Compare1 (aQ (ha pins s σ H _ I h) λv s1 ⟨x,H1,I1,r1,q1⟩=>aQ (hb pins s1 σ H1 _ I1 q1) λu s2 ⟨y,H2,I2,r2,q2⟩=>
  aQ (ho pins s2 σ H2 x y v u _ I2 r1 r2 q2) λc s3 ⟨z,H3,I3,r3,q3⟩=>?_) hm
 cases z<;>first|exact False.elim q3|(cases r3;exact wpAny_truthy_bool ⟨H3,I3,q3⟩)
theorem ZD {op:CmpOp}{r:R2}(ho:cL X (compareOp op) r)(ha:PE X a ta)(hb:PE X b tb)(hm:behindInMarks op b=false:=by first|exact xQ _|rfl):PE X (.Compare a [op] [b] pos) (dh r ta tb):=WK ho ha hb hm
theorem rN (h:PE X e t)(he:∀whole,isTrue e X.env whole=(do let v<-whole;standAt e.pos;holding [v] (truthy v)):=by intro _;rfl):PT X e (iB t):=by
 intro pins s σ H Q I hw
 refine isTrue_plain (aQ (h pins s σ H _ I hw) λv s1 ⟨x,H1,I1,r1,q1⟩=>?_) (he _)
 cases x<;>first|exact False.elim q1|(cases r1;exact wpAny_truthy_bool ⟨H1,I1,q1⟩)
theorem afV (ha:PE X a ta)(hb:PE X (.BoolOp .And (b::rest) pos) tb):PE X (.BoolOp .And (a::b::rest) pos) (U5 ta tb):=by
 intro pins s σ H Q I h
 refine BoolOp_and (aQ (ha pins s σ H _ I h) λv s1 ⟨x,H1,I1,r1,q1⟩=>?_)
 cases x with
 |bl c=>
  cases r1
  refine wpAny_truthy_bool ?_
  cases c with
  |true=>exact hb pins s1 σ H1 Q I1 q1
  |false=>exact⟨.bl false,H1,I1,rfl,q1⟩
 |_=>exact False.elim q1
theorem ai9 (ha:PE X a ta)(hb:PE X (.BoolOp .Or (b::rest) pos) tb):PE X (.BoolOp .Or (a::b::rest) pos) (ZC ta tb):=by
 intro pins s σ H Q I h
 refine BoolOp_or (aQ (ha pins s σ H _ I h) λv s1 ⟨x,H1,I1,r1,q1⟩=>?_)
 cases x with
 |bl c=>
  cases r1
  refine wpAny_truthy_bool ?_
  cases c with
  |false=>exact hb pins s1 σ H1 Q I1 q1
  |true=>exact⟨.bl true,H1,I1,rfl,q1⟩
 |_=>exact False.elim q1
theorem aja {op op':CmpOp}{r r':R2}(ho:cL X (compareOp op) r)(ho':cL X (compareOp op') r')(ha:PE X a ta)(hb:PE X b tb)(hc:PE X c tc)
  (hm:lastMarks [op,op'] [b,c]=false:=by with_unfolding_all rfl):PE X (.Compare a [op,op'] [b,c] pos) (Qm r r' ta tb tc):=by
 intro pins s σ H Q I h
 refine Compare_chain (aQ (ha pins s σ H _ I h) λv s1 ⟨x,H1,I1,r1,q1⟩=>chain_link (aQ (hb pins s1 σ H1 _ I1 q1) λu s2 ⟨y,H2,I2,r2,q2⟩=>
  aQ (ho pins s2 σ H2 x y v u _ I2 r1 r2 q2) λd s3 ⟨z,H3,I3,r3,q3⟩=>?_)) hm
 cases z with
 |bl k=>
  cases r3
  refine wpAny_truthy_bool ?_
  cases k with
  |false=>exact ite_ff ⟨.bl false,H3,I3,rfl,q3⟩
  |true=>exact ite_tt (chain_last (aQ (hc pins s3 σ H3 _ I3 q3) λw' s4 ⟨z',H4,I4,r4,q4⟩=>ho' pins s4 σ H4 y z' u w' Q I4 r2 r4 q4))
 |_=>exact False.elim q3
end
noncomputable def qt (K:PySem.W.Frag):R2:=λx y H Q=>match x,y with
 |.ref p,.int i=>∃xs v,bQ K H p xs/\cT xs i=some v/\Q v H
 |_,_=>False
noncomputable def qu (K:PySem.W.Frag):R2:=λx y H Q=>match x,y with
 |.ref p,.int i=>∃xs v,bM K H p xs/\cT xs i=some v/\Q v H
 |_,_=>False
section
variable {X:Cx}{a b o e:Expr}{ta tb to te:TE}{pos apos cpos:Pos}
theorem gY:o7 X (qt X.K):=Ho.imp λx y H Q q=>by
 cases x<;>first|exact False.elim q|(cases y<;>first|exact False.elim q|(obtain⟨xs,v,h1,h2,h3⟩:=q;exact⟨_,xs,_,v,rfl,rfl,h1,h2,h3⟩))
theorem fP:o7 X (qu X.K):=Lx.imp λx y H Q q=>by
 cases x<;>first|exact False.elim q|(cases y<;>first|exact False.elim q|(obtain⟨xs,v,h1,h2,h3⟩:=q;exact⟨_,xs,_,v,rfl,rfl,h1,h2,h3⟩))
theorem W5 {n m:Nat}{i:Int}(h:n=m):nu n i=nu m i:=by rw[h]
theorem bB {r:R2}(hr:o7 X r)(ha:PE X a ta)(hb:PE X b tb)(hs:vp b:=by intro _ _;rfl):PE X (.Subscript a b pos) (dh r ta tb):=Jq hr ha hb hs
noncomputable def Cj:Dd:=λo i v H Q=>match o,i with
 |.ref p,.int k=>∃xs j,H p=some (.lst xs)/\nu xs.length k=some j/\Q (upd H p (.lst (xs.set j v)))
 |_,_=>False
theorem ZF:wM X Cj:=set_list.imp λx y z H Q q=>by
 cases x<;>first|exact False.elim q|(cases y<;>first|exact False.elim q|(obtain⟨xs,j,h1,h2,h3⟩:=q;exact⟨_,xs,_,j,rfl,rfl,h1,h2,h3⟩))
noncomputable def Ck (K:PySem.W.Frag):List V->Hp->VK->Prop:=λxs H Q=>match xs with
 |[.ref p]=>∃ys,(bQ K H p ys\/bM K H p ys)/\Q (.int ys.length) H
 |_=>False
theorem jZ:gw X (.builtin "len") (Ck X.K):=Du.imp λxs H Q q=>by
 match xs,q with
 |[.ref p],⟨ys,h1,h2⟩=>exact⟨p,ys,rfl,h1,h2⟩
noncomputable def U6:List V->Hp->VK->Prop:=λxs H Q=>match xs with
 |[.int i]=>Q (.int (if i<0 then -i else i)) H
 |_=>False
theorem cAbs:gw X (.builtin "abs") U6:=Qc.imp λxs H Q q=>by
 match xs,q with
 |[.int i],q=>exact⟨i,rfl,q⟩
noncomputable def Ma (K:PySem.W.Frag):List V->Hp->VK->Prop:=λxs H Q=>match xs with
 |[.ref p]=>∃ys,(bQ K H p ys\/bM K H p ys)/\∀l,H l=none->Q (.ref l) (upd H l (.lst ys))
 |_=>False
theorem afW:gw X (.type "list") (Ma X.K):=Dv.imp λxs H Q q=>by
 match xs,q with
 |[.ref p],⟨ys,h1,h2⟩=>exact⟨p,ys,rfl,h1,h2⟩
noncomputable def afX (K:PySem.W.Frag):List V->Hp->VK->Prop:=λxs H Q=>match xs with
 |[.ref p]=>∃ns:List Int,bQ K H p (ns.map V.int)/\0<ns.length/\∀M,M∈ns->(∀a,a∈ns->M<=a)->Q (.int M) H
 |_=>False
noncomputable def Cm:V->List V->Hp->VK->Prop:=λx vs H Q=>match x,vs with
 |.ref l,[y]=>∃ys,H l=some (.lst ys)/\ys.length<sizeLine/\Q .non (upd H l (.lst (ys++[y])))
 |_,_=>False
theorem ajb:Hl X "list.append" Cm:=λpins s σ H x xs v us Q I rx rv q=>Ao pins s σ H x xs v us Q I rx rv (by
 match x,xs,q with
 |.ref l,[y],⟨ys,h1,h2,h3⟩=>exact⟨l,ys,y,rfl,rfl,h1,h2,h3⟩)
theorem Jx {to:TE}{t:TA}(ho:PE X o to)(ha:PA X [e] t)
  (hbase:attributeBase o "append" X.env (eval o X.env)=eval o X.env:=by rfl)
  (hfew:((backTo cpos (starEach [e] X.env)).all (λx=>!x.1) && (backToKw cpos (keywordEach [] X.env)).all (λx=>x.1.isSome)
   && decide (([e]:List Expr).length+([]:List Keyword).length+(if([]:List Keyword).isEmpty then 0 else 1)<30))=true:=by rfl)
  (hline:(apos.endLine==cpos.line)=true:=by rfl)(hs:starEach [e] X.env=(false,eval e X.env)::starEach [] X.env:=by rfl)(hplain:(backTo cpos (starEach [] X.env)).any (·.1)=false:=by rfl):
  PE X (.Call (.Attribute o "append" apos) [e] [] cpos) (wA X.K "list" Cm to t):=UJ PySem.F.plainAttrs_list PySem.F.slot_list_append PySem.F.type_list_append ajb ho ha hbase hfew hline hs hplain
structure dM (P:Program)(w:World)(K:PySem.W.Frag)(mg:Str->Option Value)(base:Heap)(k:Nat)(x:Str)(ps:List Str)(sp:Sp):Prop where
 ex:∃f fd,aW P w K mg base dG k f fd ps sp/\mg x=some (.ref f)/\PySem.W.keepIn K (.ref f)=true/\Binds K fd ps []
theorem aZ {k:Nat}{x:Str}{ps:List Str}{sp:Sp}{p:Pos}{es:List Expr}{t:TA}(C:dM X.prog X.w X.K X.mg X.base k x ps sp)(hr:cR k X.A)(hg:Gl X x)(ha:PA X (e::es) t)
  (hdb:(x==("__debug__":Str))=false:=by decide)(he:starEach (e::es) X.env=(false,eval e X.env)::starEach es X.env:=by rfl)(hpl:(backTo pos (starEach es X.env)).any (·.1)=false:=by rfl):
  PE X (.Call (.Name x p) (e::es) [] pos) (fU sp [] E0 t):=by
 obtain⟨f,fd,F,hm,hk,hb⟩:=C.ex
 exact WM F hr hg hm hk hb .nil jB ha hdb he hpl
noncomputable def U7:v9:=λvs σ H Q=>match vs with
 |[]=>Q σ H
 |_=>False
noncomputable def Mf (t:TG)(u:v9):v9:=λvs σ H Q=>match vs with
 |v::r=>t v σ H λσ' H'=>u r σ' H' Q
 |[]=>False
noncomputable def afY (K:PySem.W.Frag)(n:Nat)(t:v9):TG:=λv σ H Q=>match v with
 |.ref a=>∃xs,bM K H a xs/\xs.length=n/\t xs σ H Q
 |_=>False
theorem Mg:xP X [] U7:=by
 intro pins s σ H vs us Q I r h
 cases vs with
 |nil=>cases r;exact assignInOrder_nil ⟨σ,H,I,h⟩
 |cons _ _=>exact False.elim h
theorem vA {es:List Expr}{t:TG}{u:v9}(h1:PG X e t)(h2:xP X es u)
  (hs:(assignEach (e::es) X.env).map (·.2)=assign e X.env::(assignEach es X.env).map (·.2):=by rfl):xP X (e::es) (Mf t u):=by
 intro pins s σ H vs us Q I r h
 cases vs with
 |nil=>exact False.elim h
 |cons v vr=>
  cases r with
  |cons r rr=>
   rw[hs]
   refine assignInOrder_cons (aQ (h1 pins s σ H _ _ _ I r h) λ_ s1 ⟨σ1,H1,I1,q1⟩=>?_)
   exact h2 pins s1 σ1 H1 _ _ Q I1 rr q1
theorem U8 {es:List Expr}{k n:Nat}{t:v9}(hc:X.calm=true)(h:xP X es t)
  (hn:(assignEach es X.env).length=n:=by rfl)(hst:(assignEach es X.env).findIdx? (·.1)=none:=by rfl):PG X (.Tuple es k pos) (afY X.K n t):=by
 intro pins s σ H v u Q I r hw
 cases v with
 |ref a=>
  obtain⟨xs,hq,hl,hw⟩:=hw
  exact YT hc h hn hst pins s σ H (.ref a) u Q I r ⟨a,xs,rfl,hq,hl,hw⟩
 |_=>exact False.elim hw
end
end L2
namespace L2
open PySem PySem.Spec PyProof.Rows
noncomputable def qw (J:It)(g:TG)(tb:TS)(D:Ends)(σ:St)(H1:Hp):Prop:=∃W:Nat->Nat->St->Hp->Prop,(∃m,W 0 m σ H1)/\∀i m σ H,W i m σ H->
 (J.stop i H/\D.nx σ H)\/(J.go i H/\∃N:St->Hp->Prop,(∀σ' H',N σ' H'->∃m',m'<m/\W (i+1) m' σ' H')/\∀x H',J.Df i H x H'->g x σ H' λσ2 H2=>tb {D with nx:=N,ct:=N,bk:=D.nx} σ2 H2)
theorem mj {wi:TI}{g:TG}{tb:TS}{D:Ends}{σ:St}{H:Hp}:Dh wi g tb D σ H=wi σ H λJ H1=>qw J g tb D σ H1:=rfl
theorem forL {K:PySem.W.Frag}{a:Addr}{xs:List V}{g:TG}{tb:TS}{D:Ends}{σ:St}{H:Hp}(Pv:Nat->St->Hp->Prop)(h0:Pv 0 σ H)(hl:∀i σ H,i<=xs.length->Pv i σ H->bQ K H a xs)
  (hs:∀i x σ H,xs[i]? =some x->Pv i σ H->g x σ H λσ2 H2=>tb {D with nx:=Pv (i+1),ct:=Pv (i+1),bk:=D.nx} σ2 H2)(hd:∀σ H,Pv xs.length σ H->D.nx σ H):qw (wg K a) g tb D σ H:=PX Pv h0 hl hs hd
theorem lG.nil:lG [] []:=lG.refl
theorem Qn {n:Nat}(h:0<n):nu n (-1)=some (n - 1):=by
 unfold nu
 rw[if_neg (by decide),if_pos (by omega)]
 congr 1
 omega
theorem aL {H:Hp}{p:Addr}{o:HO}(h:H p=none):Same H (upd H p o):=λb u e=>by rw[aq (aR e h)];exact e
end L2
namespace L2
open PySem
theorem PT.imp {X:Cx}{e:Expr}{t t':TT}(h:PT X e t)(ht:∀σ H Q,t' σ H Q->t σ H Q):PT X e t':=λpins s σ H Q I q=>h pins s σ H Q I (ht σ H Q q)
theorem PW.imp {X:Cx}{e:Expr}{t t':TT}(h:PW X e t)(ht:∀σ H Q,t' σ H Q->t σ H Q):PW X e t':=λwh pins s σ H Q I q=>h wh pins s σ H Q I (ht σ H Q q)
theorem PS.imp {X:Cx}{e:Stmt}{t t':TS}(h:PS X e t)(ht:∀D σ H,t' D σ H->t D σ H):PS X e t':=λpins s σ H Q I q=>h pins s σ H Q I (ht Q σ H q)
theorem gW.imp {X:Cx}{e:List Stmt}{t t':TS}(h:gW X e t)(ht:∀D σ H,t' D σ H->t D σ H):gW X e t':=λpins s σ H Q I q=>h pins s σ H Q I (ht Q σ H q)
theorem PA.imp {X:Cx}{e:List Expr}{t t':TA}(h:PA X e t)(ht:∀σ H Q,t' σ H Q->t σ H Q):PA X e t':=λpos pins s σ H Q I q=>h pos pins s σ H Q I (ht σ H Q q)
theorem PG.imp {X:Cx}{e:Expr}{t t':TG}(h:PG X e t)(ht:∀v σ H Q,t' v σ H Q->t v σ H Q):PG X e t':=λpins s σ H v u Q I r q=>h pins s σ H v u Q I r (ht v σ H Q q)
theorem PI.imp {X:Cx}{tg e:Expr}{t t':TI}(h:PI X tg e t)(ht:∀σ H Q,t' σ H Q->t σ H Q):PI X tg e t':=λpins s σ H Q I q=>h pins s σ H Q I (ht σ H Q q)
theorem PO.imp {X:Cx}{e:Option Expr}{t t':TO}(h:PO X e t)(ht:∀σ H Q,t' σ H Q->t σ H Q):PO X e t':=λpins s σ H Q I q=>h pins s σ H Q I (ht σ H Q q)
end L2
namespace VM
open PySem L2
noncomputable abbrev St:=L2.St
inductive Tg where
 |fr|ow|io|rf|ce
 deriving DecidableEq
noncomputable def Tg.dat:Tg->Bool
 |.rf=>false
 |.ce=>false
 |_=>true
noncomputable def Tg.own:Tg->Bool
 |.fr=>false
 |.rf=>false
 |_=>true
noncomputable abbrev GS:=List (Option (Tg×PyData))
noncomputable abbrev VE:=GS->Option PyData
noncomputable def pB:HO->Bool
 |.tup _=>true
 |.eO _ (.tup _)=>true
 |_=>false
structure bY (F H F' H':Hp):Prop where
 hh:Same H H'
 ff:Same F F'
 fh:Same F' H'
 new:∀a o,F' a=some o->F a=some o\/H a=none\/pB o=true
 pl:∀a o u,F' a=some (.eO o (.lst u))->F a=some (.eO o (.lst u))
theorem bY.refl {F H:Hp}(h:Same F H):bY F H F H:=⟨Same.refl _,Same.refl _,h,λ_ _ e=>.inl e,λ_ _ _ e=>e⟩
theorem bY.trans {F H F1 H1 F2 H2:Hp}(a:bY F H F1 H1)(b:bY F1 H1 F2 H2):bY F H F2 H2:=⟨a.hh.trans b.hh,a.ff.trans b.ff,b.fh,λp o e=>by
 rcases b.new p o e with h|h|h
 .exact a.new p o h
 .exact .inr (.inl (a.hh.free h))
 .exact .inr (.inr h),λp o u e=>a.pl p o u (b.pl p o u e)⟩
theorem bY.alloc {F H:Hp}{p:Addr}{o:HO}(h:Same F H)(hp:H p=none):bY F H F (upd H p o):=
 ⟨aL hp,Same.refl _,h.trans (aL hp),λ_ _ e=>.inl e,λ_ _ _ e=>e⟩
theorem bY.xV {F H:Hp}{p:Addr}{o:HO}(h:Same F H)(hp:H p=none)(ho:∀x u,o≠ .eO x u:=by intros;intro z;cases z):bY F H (upd F p o) (upd H p o):=by
 have hF:F p=none:=h.free hp
 refine⟨aL hp,aL hF,λb u e=>?_,λb u e=>?_,λb x u e=>?_⟩
 .by_cases hb:b=p
  .subst hb;rw[ao] at e ⊢;exact e
  .rw[aq hb] at e ⊢;exact h b u e
 .by_cases hb:b=p
  .subst hb;exact .inr (.inl hp)
  .rw[aq hb] at e;exact .inl e
 .by_cases hb:b=p
  .subst hb;rw[ao] at e;exact absurd (Option.some.inj e) (ho _ _)
  .rw[aq hb] at e;exact e
mutual
noncomputable def uN:PyData->Bool
 |.none=>true
 |.bool _=>true
 |.int _=>true
 |.str _=>true
 |.tuple ds=>tH ds
 |_=>false
noncomputable def tH:List PyData->Bool
 |[]=>true
 |d::ds=>uN d && tH ds
end
noncomputable def wide (F H:Hp):Hp:=λa=>match H a with
 |some o=>if pB o=true then some o else F a
 |none=>none
theorem DP {F H:Hp}{a:Addr}{o:HO}(h:H a=some o)(hi:pB o=true):wide F H a=some o:=by
 unfold wide;rw[h];simp only[hi,if_true]
theorem Mh {F H F1 H':Hp}(g:bY F H F1 H'):bY F H (wide F1 H') H':=by
 have key:∀a o,F1 a=some o->wide F1 H' a=some o:=λa o e=>by
  have e2:=g.fh a o e
  unfold wide;rw[e2]
  by_cases hi:pB o=true
  .simp only[hi,if_true]
  .simp only[hi];exact e
 refine⟨g.hh,λa o e=>key a o (g.ff a o e),λa o e=>?_,λa o e=>?_,λa x u e=>?_⟩
 .unfold wide at e
  cases q:H' a with
  |none=>rw[q] at e;cases e
  |some u=>
   rw[q] at e
   by_cases hi:pB u=true
   .simp only[hi,if_true] at e;exact e
   .simp only[hi] at e
    rw[<-q];exact g.fh a o e
 .unfold wide at e
  cases q:H' a with
  |none=>rw[q] at e;cases e
  |some u=>
   rw[q] at e
   by_cases hi:pB u=true
   .simp only[hi,if_true] at e
    cases e
    exact .inr (.inr hi)
   .simp only[hi] at e
    exact g.new a o e
 .unfold wide at e
  cases q:H' a with
  |none=>rw[q] at e;cases e
  |some w=>
   rw[q] at e
   by_cases hi:pB w=true
   .simp only[hi,if_true] at e
    cases e
    cases hi
   .simp only[hi] at e
    exact g.pl a x u e
theorem Qo {K:PySem.W.Frag}{F H:Hp}{a:Addr}{xs:List V}(h:bM K H a xs):bM K (wide F H) a xs:=by
 rcases h with(h|⟨o,h⟩)|h
 .exact .inl (.inl (DP h rfl))
 .exact .inl (.inr ⟨o,DP h rfl⟩)
 .exact .inr h
mutual
theorem DQ {K:PySem.W.Frag}{F H:Hp}:∀{d:PyData}{v:V},uN d=true->Has K H d v->Has K (wide F H) d v
 |.none,_,_,h=>h
 |.bool _,_,_,h=>h
 |.int _,_,_,h=>h
 |.str _,_,_,h=>h
 |.list _,_,f,_=>by simp[uN] at f
 |.tuple ds,_,f,⟨a,xs,e,hq,hl⟩=>⟨a,xs,e,Qo hq,Ax (by simpa [uN] using f) hl⟩
 |.dict _,_,f,_=>by simp[uN] at f
theorem Ax {K:PySem.W.Frag}{F H:Hp}:∀{ds:List PyData}{vs:List V},tH ds=true->aJ K H ds vs->aJ K (wide F H) ds vs
 |[],_,_,h=>h
 |d::ds,_,f,⟨v,r,h1,h2,h3⟩=>by
  simp only[tH,Bool.and_eq_true] at f
  exact⟨v,r,h1,DQ f.1 h2,Ax f.2 h3⟩
end
noncomputable def je (K:PySem.W.Frag)(H₀ F H:Hp)(d:PyData)(v:V):Prop:=∃a ds xs,d=.list ds/\v=.ref a/\H a=some (.lst xs)/\F a=none/\H₀ a=none/\aJ K F ds xs
noncomputable def pC (K:PySem.W.Frag)(F:Hp):PyData->V->Prop
 |.dict [(.int i,.none)],v=>∃a:Addr,i=(a:Int)/\v=.ref a
 |d,v=>Has K F d v
noncomputable def ItemsAre (K:PySem.W.Frag)(F:Hp):List PyData->List V->Prop
 |[],vs=>vs=[]
 |d::ds,vs=>∃v r,vs=v::r/\pC K F d v/\ItemsAre K F ds r
noncomputable def KeysAre (K:PySem.W.Frag)(F:Hp):List (PyData×PyData)->List (L2.Key×V)->Prop
 |[],vs=>vs=[]
 |(k,d)::ds,vs=>∃k' v r,vs=(k',v)::r/\(match k with|.int i=>k'=Sum.inl i|.str x=>k'=Sum.inr x|_=>False)/\pC K F d v/\KeysAre K F ds r
noncomputable def oM (K:PySem.W.Frag)(F:Hp):List (PyData×PyData)->List (Str×V)->Prop
 |[],vs=>vs=[]
 |(k,d)::ds,vs=>∃x v r,vs=(x,v)::r/\k=.str x/\pC K F d v/\oM K F ds r
noncomputable def nA (K:PySem.W.Frag)(F:Hp):PyData->HO->Prop
 |.list ds,o=>∃xs,o=.lst xs/\ItemsAre K F ds xs
 |.dict ks,o=>∃kvs,o=.dK kvs/\KeysAre K F ks kvs
 |.tuple [.int C,.int dx,.dict fs],o=>∃C' gM fvs,C=((C':Nat):Int)/\dx=((gM:Nat):Int)/\o=.ins C' gM fvs/\oM K F fs fvs
 |.tuple [.int C],o=>∃C',C=((C':Nat):Int)/\o=.own C'
 |_,_=>False
noncomputable def uO (K:PySem.W.Frag)(H₀ F H:Hp)(d:PyData)(v:V):Prop:=∃a c o,d=.tuple [.int ((a:Addr):Int),c]/\v=.ref a/\H a=some o/\F a=none/\H₀ a=none/\nA K F c o
theorem pC.same {K:PySem.W.Frag}{F F':Hp}(e:Same F F'){d:PyData}{v:V}(h:pC K F d v):pC K F' d v:=by
 unfold pC at h ⊢
 split at h
 .exact h
 .exact Has.same e h
theorem ItemsAre.same {K:PySem.W.Frag}{F F':Hp}(e:Same F F'):∀{ds:List PyData}{vs:List V},ItemsAre K F ds vs->ItemsAre K F' ds vs
 |[],_,h=>h
 |_::_,_,⟨v,r,h1,h2,h3⟩=>⟨v,r,h1,h2.same e,ItemsAre.same e h3⟩
theorem KeysAre.same {K:PySem.W.Frag}{F F':Hp}(e:Same F F'):∀{ds:List (PyData×PyData)}{vs:List (L2.Key×V)},KeysAre K F ds vs->KeysAre K F' ds vs
 |[],_,h=>h
 |(_,_)::_,_,⟨k,v,r,h1,h2,h3,h4⟩=>⟨k,v,r,h1,h2,h3.same e,KeysAre.same e h4⟩
theorem oM.same {K:PySem.W.Frag}{F F':Hp}(e:Same F F'):∀{ds:List (PyData×PyData)}{vs:List (Str×V)},oM K F ds vs->oM K F' ds vs
 |[],_,h=>h
 |(_,_)::_,_,⟨k,v,r,h1,h2,h3,h4⟩=>⟨k,v,r,h1,h2,h3.same e,oM.same e h4⟩
theorem nA.same {K:PySem.W.Frag}{F F':Hp}(e:Same F F'){c:PyData}{o:HO}(h:nA K F c o):nA K F' c o:=by
 unfold nA at h ⊢
 split at h
 .obtain⟨xs,h1,h2⟩:=h;exact⟨xs,h1,h2.same e⟩
 .obtain⟨xs,h1,h2⟩:=h;exact⟨xs,h1,h2.same e⟩
 .obtain⟨C',gM,fvs,h1,h2,h3,h4⟩:=h;exact⟨C',gM,fvs,h1,h2,h3,h4.same e⟩
 .exact h
 .exact h.elim
theorem nA.mut {K:PySem.W.Frag}{F:Hp}{c:PyData}{o:HO}(h:nA K F c o):pB o=false:=by
 unfold nA at h
 split at h
 .obtain⟨xs,rfl,_⟩:=h;rfl
 .obtain⟨xs,rfl,_⟩:=h;rfl
 .obtain⟨C',gM,fvs,_,_,rfl,_⟩:=h;rfl
 .obtain⟨C',_,rfl⟩:=h;rfl
 .exact h.elim
noncomputable def Mi (K:PySem.W.Frag)(aK:Nat->Option Addr)(H₀ F H:Hp)(i:Nat):Tg->PyData->V->Prop
 |.fr,d,v=>Has K F d v
 |.ow,d,v=>je K H₀ F H d v
 |.io,d,v=>je K H₀ F H d v/\∃a,v=.ref a/\aK i=some a
 |.rf,d,v=>∃a:Addr,d=.int (a:Int)/\v=.ref a
 |.ce,d,v=>uO K H₀ F H d v
structure VI (K:PySem.W.Frag)(aK:Nat->Option Addr)(G H₀:Hp)(S:GS)(F:Hp)(σ:St)(H:Hp):Prop where
 len:S.length=σ.length
 same:Same H₀ H
 gf:Same G F
 new:∀a o,F a=some o->G a=some o\/H₀ a=none\/pB o=true
 sub:Same F H
 slot:∀(i:Nat) t d,S[i]? =some (some (t,d))->∃v,σ[i]? =some (some v)/\Mi K aK H₀ F H i t d v
 inj:∀(i j:Nat) t t' d d' v,S[i]? =some (some (t,d))->S[j]? =some (some (t',d'))->t.own=true->t'.own=true->σ[i]? =some (some v)->σ[j]? =some (some v)->i=j
 pl:∀a o u,F a=some (.eO o (.lst u))->G a=some (.eO o (.lst u))
section
variable {K:PySem.W.Frag}{aK:Nat->Option Addr}{G H₀ F H F' H':Hp}{S:GS}{σ:St}
theorem je.grow {d:PyData}{v:V}(g:bY F H F' H')(h:je K H₀ F H d v):je K H₀ F' H' d v:=by
 obtain⟨a,ds,xs,e1,e2,e3,e4,e5,e6⟩:=h
 refine⟨a,ds,xs,e1,e2,g.hh _ _ e3,?_,e5,e6.same g.ff⟩
 cases q:F' a with
 |none=>rfl
 |some o=>
  rcases g.new a o q with z|z|z
  .rw[e4] at z;cases z
  .rw[e3] at z;cases z
  .have:=g.fh a o q
   rw[g.hh _ _ e3] at this
   cases this
   simp[pB] at z
theorem uO.grow {d:PyData}{v:V}(g:bY F H F' H')(h:uO K H₀ F H d v):uO K H₀ F' H' d v:=by
 obtain⟨a,c,o,e1,e2,e3,e4,e5,e6⟩:=h
 refine⟨a,c,o,e1,e2,g.hh _ _ e3,?_,e5,e6.same g.ff⟩
 cases q:F' a with
 |none=>rfl
 |some o'=>
  rcases g.new a o' q with z|z|z
  .rw[e4] at z;cases z
  .rw[e3] at z;cases z
  .have:=g.fh a o' q
   rw[g.hh _ _ e3] at this
   cases this
   rw[e6.mut] at z;cases z
theorem VI.grow (I:VI K aK G H₀ S F σ H)(g:bY F H F' H'):VI K aK G H₀ S F' σ H' where
 len:=I.len
 same:=I.same.trans g.hh
 gf:=I.gf.trans g.ff
 new:=λa o e=>by
  rcases g.new a o e with z|z|z
  .exact I.new a o z
  .exact .inr (.inl (I.same.free z))
  .exact .inr (.inr z)
 sub:=g.fh
 slot:=λi t d e=>by
  obtain⟨v,e1,h⟩:=I.slot i t d e
  refine⟨v,e1,?_⟩
  cases t with
  |fr=>exact Has.same g.ff h
  |ow=>exact je.grow g h
  |io=>exact⟨je.grow g h.1,h.2⟩
  |rf=>exact h
  |ce=>exact uO.grow g h
 inj:=I.inj
 pl:=λa o u e=>I.pl a o u (g.pl a o u e)
end
noncomputable abbrev Rel:=PySem.W.Frag->Hp->Hp->Hp->Hp->PyData->V->Prop
noncomputable def RW:Rel:=λK _ _ _ H' d v=>Has K H' d v
noncomputable def RS:Rel:=λK _ _ F' _ d v=>Has K F' d v
noncomputable def RM:Rel:=λK _ _ F' H' d v=>Has K F' d v\/∃ds a xs,d=.list ds/\v=.ref a/\bQ K H' a xs/\aJ K F' ds xs
noncomputable def RN:Rel:=λK _ H F' H' d v=>∃ds a xs,d=.list ds/\v=.ref a/\H a=none/\F' a=none/\H' a=some (.lst xs)/\aJ K F' ds xs
noncomputable def tV (K:PySem.W.Frag)(R:Rel)(f:VE):TE:=λσ H Q=>∃aK G H₀ S F,VI K aK G H₀ S F σ H/\∃d,f S=some d/\∀v F' H',bY F H F' H'->R K F H F' H' d v->Q v H'
theorem tV.imp {K:PySem.W.Frag}{R R':Rel}{f f':VE}{σ:St}{H:Hp}{Q:VK}(hf:∀S d,f S=some d->f' S=some d)
  (hR:∀(F F' H':Hp) S d v,f S=some d->bY F H F' H'->R' K F H F' H' d v->∃F'',bY F H F'' H'/\R K F H F'' H' d v)(h:tV K R f σ H Q):tV K R' f' σ H Q:=by
 obtain⟨aK,G,H₀,S,F,I,d,e,q⟩:=h
 refine⟨aK,G,H₀,S,F,I,d,hf S d e,λv F' H' g r=>?_⟩
 obtain⟨F'',g2,r2⟩:=hR F F' H' S d v e g r
 exact q v F'' H' g2 r2
section
variable {X:Cx}{e:Expr}{f:VE}
theorem sw (h:PE X e (tV X.K RS f)):PE X e (tV X.K RW f):=h.imp λ_ _ _ q=>tV.imp (λ_ _ h=>h) (λF F' H' S d v _ g r=>⟨F',g,Has.same g.fh r⟩) q
theorem sm (h:PE X e (tV X.K RS f)):PE X e (tV X.K RM f):=h.imp λ_ _ _ q=>tV.imp (λ_ _ h=>h) (λF F' H' S d v _ g r=>⟨F',g,.inl r⟩) q
theorem mw (h:PE X e (tV X.K RM f)):PE X e (tV X.K RW f):=h.imp λ_ _ _ q=>tV.imp (λ_ _ h=>h) (λF F' H' S d v _ g r=>⟨F',g,by
 rcases r with r|⟨ds,a,xs,rfl,rfl,h1,h2⟩
 .exact Has.same g.fh r
 .exact⟨a,xs,rfl,h1,h2.same g.fh⟩⟩) q
theorem nm (h:PE X e (tV X.K RN f)):PE X e (tV X.K RM f):=h.imp λ_ _ _ q=>tV.imp (λ_ _ h=>h) (λF F' H' S d v _ g r=>⟨F',g,by
 obtain⟨ds,a,xs,h1,h2,h3,h4,h5,h6⟩:=r
 exact .inr ⟨ds,a,xs,h1,h2,bQ.of h5,h6⟩⟩) q
theorem RN.eO {K:PySem.W.Frag}{F H F' H':Hp}{d:PyData}{v:V}(g:bY F H F' H')(r:RN K F H F' H' d v):∃F'',bY F H F'' H'/\RS K F H F'' H' d v:=by
 obtain⟨ds,a,xs,h1,h2,h3,h4,h5,h6⟩:=r
 refine⟨upd F' a (.lst xs),⟨g.hh,g.ff.trans (aL h4),λb o e=>?_,λb o e=>?_,λb x u e=>?_⟩,?_⟩
 .by_cases hb:b=a
  .subst hb;rw[ao] at e;cases e;exact h5
  .rw[aq hb] at e;exact g.fh b o e
 .by_cases hb:b=a
  .subst hb;exact .inr (.inl h3)
  .rw[aq hb] at e;exact g.new b o e
 .by_cases hb:b=a
  .subst hb;rw[ao] at e;cases e
  .rw[aq hb] at e;exact g.pl b x u e
 .rw[h1];exact⟨a,xs,h2,bQ.of ao,h6.same (aL h4)⟩
theorem ns (h:PE X e (tV X.K RN f)):PE X e (tV X.K RS f):=h.imp λ_ _ _ q=>tV.imp (λ_ _ h=>h) (λF F' H' S d v _ g r=>RN.eO g r) q
theorem nw (h:PE X e (tV X.K RN f)):PE X e (tV X.K RW f):=mw (nm h)
noncomputable def wW (f:VE):VE:=λS=>match f S with
 |some d=>if uN d=true then some d else none
 |none=>none
theorem Ay {f:VE}{S:GS}{d:PyData}(h:wW f S=some d):f S=some d/\uN d=true:=by
 unfold wW at h
 cases q:f S with
 |none=>rw[q] at h;cases h
 |some u=>
  rw[q] at h
  simp only at h
  split at h
  .cases h;exact⟨rfl,by assumption⟩
  .cases h
theorem ws (h:PE X e (tV X.K RW f)):PE X e (tV X.K RS (wW f)):=h.imp λ_ H Q q=>by
 refine tV.imp (λS d h=>(Ay h).1) (λF F' H' S d v he g r=>⟨wide F' H',Mh g,DQ (Ay he).2 r⟩) q
end
noncomputable def vN (i:Nat):VE:=λS=>match S[i]? with
 |some (some (.fr,d))=>some d
 |some (some (.ow,d))=>some d
 |some (some (.io,d))=>some d
 |_=>none
noncomputable def vF (i:Nat):VE:=λS=>match S[i]? with
 |some (some (.fr,d))=>some d
 |_=>none
noncomputable def vC (d:PyData):VE:=λ_=>some d
section
variable {X:Cx}{e:Expr}{pos:Pos}
theorem dN {i:Nat}(h:PE X e (vR i)):PE X e (tV X.K RM (vN i)):=h.imp λσ H Q q=>by
 obtain⟨aK,G,H₀,S,F,I,d,e,q⟩:=q
 unfold vN at e
 split at e
 .rename_i d' hS
  cases e
  obtain⟨v,hv,hs⟩:=I.slot i .fr d hS
  unfold vR;rw[hv]
  exact q v F H (bY.refl I.sub) (.inl hs)
 .rename_i d' hS
  cases e
  obtain⟨v,hv,hs⟩:=I.slot i .ow d hS
  unfold vR;rw[hv]
  obtain⟨a,ds,xs,e1,e2,e3,e4,e5,e6⟩:=hs
  exact q v F H (bY.refl I.sub) (.inr ⟨ds,a,xs,e1,e2,bQ.of e3,e6⟩)
 .rename_i d' hS
  cases e
  obtain⟨v,hv,hs⟩:=I.slot i .io d hS
  unfold vR;rw[hv]
  obtain⟨a,ds,xs,e1,e2,e3,e4,e5,e6⟩:=hs.1
  exact q v F H (bY.refl I.sub) (.inr ⟨ds,a,xs,e1,e2,bQ.of e3,e6⟩)
 .cases e
theorem dF {i:Nat}(h:PE X e (vR i)):PE X e (tV X.K RS (vF i)):=h.imp λσ H Q q=>by
 obtain⟨aK,G,H₀,S,F,I,d,e,q⟩:=q
 unfold vF at e
 split at e
 .rename_i d' hS
  cases e
  obtain⟨v,hv,hs⟩:=I.slot i .fr d hS
  unfold vR;rw[hv]
  exact q v F H (bY.refl I.sub) hs
 .cases e
theorem dC {v:V}{d:PyData}(h:PE X e (tC v))(hv:∀H,Has X.K H d v):PE X e (tV X.K RS (vC d)):=h.imp λσ H Q q=>by
 obtain⟨aK,G,H₀,S,F,I,d',e,q⟩:=q
 cases e
 exact q v F H (bY.refl I.sub) (hv F)
theorem aA {i j}:PE X (.Constant (.int i) j pos) (tV X.K RS (vC (.int i))):=dC au λ_=>rfl
theorem afZ {j}:PE X (.Constant .none j pos) (tV X.K RS (vC .none)):=dC oX λ_=>rfl
theorem eV {x j}(hx:(PyData.str x).canLay0=true:=by rfl):PE X (.Constant (.str x) j pos) (tV X.K RS (vC (.str x))):=dC bV λ_=>⟨rfl,hx⟩
end
noncomputable def v2 (h:PyData->PyData->Option PyData)(fa fb:VE):VE:=λS=>match fa S with
 |some x=>match fb S with
  |some y=>h x y
  |none=>none
 |none=>none
theorem rO {h:PyData->PyData->Option PyData}{fa fb:VE}{S:GS}{d:PyData}(e:v2 h fa fb S=some d):∃x y,fa S=some x/\fb S=some y/\h x y=some d:=by
 unfold v2 at e
 cases q:fa S with
 |none=>rw[q] at e;cases e
 |some x=>
  rw[q] at e
  cases q2:fb S with
  |none=>rw[q2] at e;cases e
  |some y=>rw[q2] at e;exact⟨x,y,rfl,rfl,e⟩
noncomputable def iR (K:PySem.W.Frag)(h:PyData->PyData->Option PyData)(r:R2):Prop:=∀H x y dx dy d Q,h dx dy=some d->Has K H dx x->Has K H dy y->(∀v,(∀H',Has K H' d v)->Q v H)->r x y H Q
theorem ZG {K:PySem.W.Frag}{h:PyData->PyData->Option PyData}{r:R2}{fa fb:VE}(hd:iR K h r){σ:St}{H:Hp}{Q:VK}(q:tV K RS (v2 h fa fb) σ H Q):dh r (tV K RW fa) (tV K RW fb) σ H Q:=by
 obtain⟨aK,G,H₀,S,F,I,d,e,q⟩:=q
 obtain⟨x,y,ex,ey,e⟩:=rO e
 refine⟨aK,G,H₀,S,F,I,x,ex,λv F1 H1 g1 hx=>⟨aK,G,H₀,S,F1,I.grow g1,y,ey,λu F2 H2 g2 hy=>?_⟩⟩
 exact hd H2 v u x y d Q e (Has.same g2.hh hx) hy λw hw=>q w F2 H2 (g1.trans g2) (hw F2)
section
variable {X:Cx}{a b:Expr}{fa fb:VE}{pos:Pos}{h:PyData->PyData->Option PyData}{r:R2}
theorem bK {op:Operator}(ho:cL X (binaryOp op) r)(hd:iR X.K h r)(ha:PE X a (tV X.K RW fa))(hb:PE X b (tV X.K RW fb)):PE X (.BinOp a op b pos) (tV X.K RS (v2 h fa fb)):=
 (iK ho ha hb).imp λ_ _ _ q=>ZG hd q
theorem Qp {op:CmpOp}(ho:cL X (compareOp op) r)(hd:iR X.K h r)(ha:PE X a (tV X.K RW fa))(hb:PE X b (tV X.K RW fb))(hm:behindInMarks op b=false:=by first|exact xQ _|rfl):PE X (.Compare a [op] [b] pos) (tV X.K RS (v2 h fa fb)):=
 (ZD ho ha hb hm).imp λ_ _ _ q=>ZG hd q
end
noncomputable def uP (g:Int->Int->PyData):PyData->PyData->Option PyData
 |.int a,.int b=>some (g a b)
 |_,_=>none
noncomputable def uQ (C:Int->Int->Prop)[∀a b,Decidable (C a b)](g:Int->Int->PyData):PyData->PyData->Option PyData
 |.int a,.int b=>if C a b then some (g a b) else none
 |_,_=>none
noncomputable def U9 (d:PyData)(v:V):Prop:=∀(K:PySem.W.Frag) (H:Hp),Has K H d v
theorem rP {K:PySem.W.Frag}{g:Int->Int->PyData}{gv:Int->Int->V}(hg:∀a b,U9 (g a b) (gv a b)):iR K (uP g) (rM gv):=by
 intro H x y dx dy d Q e hx hy q
 cases dx<;>first|(simp[uP] at e;done)|skip
 cases dy<;>first|(simp[uP] at e;done)|skip
 simp only[uP,Option.some.injEq] at e
 subst e
 have ex:x=_:=hx
 have ey:y=_:=hy
 subst ex ey
 exact q _ λH'=>hg _ _ K H'
theorem tK {K:PySem.W.Frag}{C:Int->Int->Prop}[∀a b,Decidable (C a b)]{C':Int->Int->Prop}{g:Int->Int->PyData}{gv:Int->Int->V}(hc:∀a b,C a b->C' a b)(hg:∀a b,U9 (g a b) (gv a b)):iR K (uQ C g) (wC C' gv):=by
 intro H x y dx dy d Q e hx hy q
 cases dx<;>first|(simp[uQ] at e;done)|skip
 cases dy<;>first|(simp[uQ] at e;done)|skip
 simp only[uQ] at e
 split at e
 .rename_i hC
  cases e
  have ex:x=_:=hx
  have ey:y=_:=hy
  subst ex ey
  exact⟨hc _ _ hC,q _ λH'=>hg _ _ K H'⟩
 .cases e
set_option exponentiation.threshold 9000
noncomputable def BMul (i j:Int):Prop:=i.natAbs<2^2000/\j.natAbs<2^2000
noncomputable instance (i j:Int):Decidable (BMul i j):=inferInstanceAs (Decidable (_/\_))
noncomputable def Jy (_ j:Int):Prop:=0<j/\j.natAbs<2^2000
noncomputable instance (i j:Int):Decidable (Jy i j):=inferInstanceAs (Decidable (_/\_))
noncomputable def BMod (_ j:Int):Prop:=0<j
noncomputable instance (i j:Int):Decidable (BMod i j):=inferInstanceAs (Decidable (_<_))
noncomputable def Jz (i j:Int):Prop:=0<=j/\j<=1000/\i.natAbs<2^60
noncomputable instance (i j:Int):Decidable (Jz i j):=inferInstanceAs (Decidable (_/\_/\_))
theorem BMul.ok {i j:Int}(h:BMul i j):Cg i j:=by
 have e:(2:Nat)^2000<=2^8000:=Nat.pow_le_pow_right (by decide) (by decide)
 exact⟨Nat.lt_of_lt_of_le h.1 e,Nat.lt_of_lt_of_le h.2 e⟩
theorem Jy.ok {i j:Int}(h:Jy i j):Ce i j:=⟨h.1,by
 have hz:j.natAbs≠0:=by have:=h.1;omega
 have:=(Nat.log2_lt hz).mpr h.2
 omega⟩
theorem Jz.ok {i j:Int}(h:Jz i j):Jg i j:=⟨h.1,by have:=h.2.1;omega,Nat.lt_trans h.2.2 (by decide)⟩
noncomputable abbrev gQ:=uP λa b=>.int (a+b)
noncomputable abbrev qP:=uP λa b=>.int (a - b)
noncomputable abbrev zx:=uQ BMul λa b=>.int (a*b)
noncomputable abbrev fD:=uQ Jy λa b=>.int (a/b)
noncomputable abbrev cC:=uQ BMod λa b=>.int (a % b)
noncomputable abbrev qQ:=uQ Jz λa b=>.int (a^b.toNat)
noncomputable abbrev DR:=uP λa b=>.bool (decide (a<b))
noncomputable abbrev wD:=uP λa b=>.bool (decide (a<=b))
noncomputable abbrev Va:=uP λa b=>.bool (decide (b<a))
noncomputable abbrev geD:=uP λa b=>.bool (decide (b<=a))
section
variable {K:PySem.W.Frag}
theorem hAdd:iR K gQ (rM λi j=>.int (i+j)):=rP λ_ _ _ _=>rfl
theorem hSub:iR K qP (rM λi j=>.int (i - j)):=rP λ_ _ _ _=>rfl
theorem hMul:iR K zx (wC Cg λi j=>.int (i*j)):=tK (λ_ _ h=>h.ok) λ_ _ _ _=>rfl
theorem hDiv:iR K fD (wC Ce λi j=>.int (i/j)):=tK (λ_ _ h=>h.ok) λ_ _ _ _=>rfl
theorem hMod:iR K cC (wC (λ_ j=>0<j) λi j=>.int (i % j)):=tK (λ_ _ h=>h) λ_ _ _ _=>rfl
theorem hPow:iR K qQ (wC Jg λi j=>.int (i^j.toNat)):=tK (λ_ _ h=>h.ok) λ_ _ _ _=>rfl
theorem hLt:iR K DR (rM λi j=>.bl (decide (i<j))):=rP λ_ _ _ _=>rfl
theorem hLe:iR K wD (rM λi j=>.bl (decide (i<=j))):=rP λ_ _ _ _=>rfl
theorem hGt:iR K Va (rM λi j=>.bl (decide (j<i))):=rP λ_ _ _ _=>rfl
end
noncomputable def lJ:PyData->PyData->Option PyData:=λx y=>if x.depth<=60 then some (.bool (PyData.eqv x y)) else none
noncomputable def xW:PyData->PyData->Option PyData:=λx y=>if x.depth<=60 then some (.bool (!PyData.eqv x y)) else none
theorem hEq {K:PySem.W.Frag}:iR K lJ (Zv K):=by
 intro H x y dx dy d Q e hx hy q
 unfold lJ at e
 split at e
 .cases e;exact⟨dx,dy,hx,hy,by assumption,q _ λ_=>rfl⟩
 .cases e
theorem hNe {K:PySem.W.Frag}:iR K xW (Js K):=by
 intro H x y dx dy d Q e hx hy q
 unfold xW at e
 split at e
 .cases e;exact⟨dx,dy,hx,hy,by assumption,q _ λ_=>rfl⟩
 .cases e
noncomputable def jP:PyData->Bool
 |.none=>true
 |_=>false
noncomputable def isD:PyData->PyData->Option PyData:=λx y=>if jP y then some (.bool (jP x)) else none
noncomputable def ajc:PyData->PyData->Option PyData:=λx y=>if jP y then some (.bool (!jP x)) else none
theorem none_of {K:PySem.W.Frag}{H:Hp}{d:PyData}{x:V}(h:Has K H d x)(e:jP d=true):x=.non:=by
 cases d<;>first|exact h|(simp[jP] at e)
noncomputable abbrev VT:=GS->Option Bool
noncomputable def gR (K:PySem.W.Frag)(f:VT):TT:=λσ H Q=>∃aK G H₀ S F,VI K aK G H₀ S F σ H/\∃b,f S=some b/\∀F' H',bY F H F' H'->Q b H'
noncomputable def vB (f:VE):VT:=λS=>match f S with
 |some (.bool b)=>some b
 |_=>none
theorem W6 {f:VE}{S:GS}{b:Bool}(h:vB f S=some b):f S=some (.bool b):=by
 unfold vB at h
 split at h
 .cases h;assumption
 .cases h
noncomputable def jQ (f g:VT):VT:=λS=>match f S with
 |some true=>g S
 |some false=>some false
 |none=>none
noncomputable def tL (f g:VT):VT:=λS=>match f S with
 |some true=>some true
 |some false=>g S
 |none=>none
noncomputable def jR (f:VT):VT:=λS=>match f S with
 |some b=>some !b
 |none=>none
noncomputable def ZJ:PyData->Option Bool
 |.none=>some false
 |.bool b=>some b
 |.int i=>some (i !=0)
 |.list ds=>some (!ds.isEmpty)
 |.tuple ds=>some (!ds.isEmpty)
 |_=>none
noncomputable def ajd (f:VE):VT:=λS=>match f S with
 |some d=>ZJ d
 |none=>none
theorem aJ.isEmpty {K:PySem.W.Frag}{H:Hp}{ds:List PyData}{vs:List V}(h:aJ K H ds vs):vs.isEmpty=ds.isEmpty:=by
 have:=h.length
 cases ds<;>cases vs<;>simp_all
section
variable {X:Cx}{a b e:Expr}{fa fb f:VE}{ta tb:VT}{pos:Pos}{h:PyData->PyData->Option PyData}{r:R2}{rest:List Expr}
theorem Qq {t:TE}{σ:St}{H:Hp}{Q:Bool->Hp->Prop}{K:PySem.W.Frag}(ht:∀Q',tV K RS f σ H Q'->t σ H Q')(q:gR K (vB f) σ H Q):iB t σ H Q:=by
 obtain⟨aK,G,H₀,S,F,I,b,e,q⟩:=q
 refine ht _ ⟨aK,G,H₀,S,F,I,.bool b,W6 e,λv F' H' g hv=>?_⟩
 have ev:v=.bl b:=hv
 subst ev
 exact q F' H' g
theorem j4 {op:CmpOp}(ho:cL X (compareOp op) r)(hd:iR X.K h r)(ha:PE X a (tV X.K RW fa))(hb:PE X b (tV X.K RW fb))(hm:behindInMarks op b=false:=by first|exact xQ _|rfl):PT X (.Compare a [op] [b] pos) (gR X.K (vB (v2 h fa fb))):=
 PT.imp (iW ho ha hb hm) λ_ _ _ q=>Qq (λ_ q=>ZG hd q) q
theorem cVal (he:PE X e (tV X.K RS f))(hp:∀whole,isTrue e X.env whole=(do let v<-whole;standAt e.pos;holding [v] (truthy v)):=by intro _;rfl):PT X e (gR X.K (vB f)):=
 PT.imp (rN he hp) λ_ _ _ q=>Qq (λ_ q=>q) q
theorem ZK (ha:PT X a (gR X.K ta)):PT X (.UnaryOp .Not a pos) (gR X.K (jR ta)):=PT.imp (iM ha) λ_ _ _ q=>by
 obtain⟨aK,G,H₀,S,F,I,b,e,q⟩:=q
 unfold jR at e
 cases q2:ta S with
 |none=>rw[q2] at e;cases e
 |some c=>
  rw[q2] at e
  cases e
  exact⟨aK,G,H₀,S,F,I,c,q2,λF' H' g=>q F' H' g⟩
theorem Vb (ha:PT X a (gR X.K ta)):PW X (.BoolOp .And [a] pos) (gR X.K ta):=rF ha
theorem Qs (ha:PT X a (gR X.K ta)):PW X (.BoolOp .Or [a] pos) (gR X.K ta):=rG ha
theorem ZL (ha:PT X a (gR X.K ta))(hb:PW X (.BoolOp .And (b::rest) pos) (gR X.K tb)):PW X (.BoolOp .And (a::b::rest) pos) (gR X.K (jQ ta tb)):=PW.imp (uF ha hb) λ_ _ _ q=>by
 obtain⟨aK,G,H₀,S,F,I,b,e,q⟩:=q
 unfold jQ at e
 cases q2:ta S with
 |none=>rw[q2] at e;cases e
 |some c=>
  rw[q2] at e
  refine⟨aK,G,H₀,S,F,I,c,q2,λF' H' g=>?_⟩
  cases c with
  |true=>rw[if_pos rfl];exact⟨aK,G,H₀,S,F',I.grow g,b,e,λF2 H2 g2=>q F2 H2 (g.trans g2)⟩
  |false=>rw[if_neg Bool.false_ne_true];cases e;exact q F' H' g
theorem ZM (ha:PT X a (gR X.K ta))(hb:PW X (.BoolOp .Or (b::rest) pos) (gR X.K tb)):PW X (.BoolOp .Or (a::b::rest) pos) (gR X.K (tL ta tb)):=PW.imp (sV ha hb) λ_ _ _ q=>by
 obtain⟨aK,G,H₀,S,F,I,b,e,q⟩:=q
 unfold tL at e
 cases q2:ta S with
 |none=>rw[q2] at e;cases e
 |some c=>
  rw[q2] at e
  refine⟨aK,G,H₀,S,F,I,c,q2,λF' H' g=>?_⟩
  cases c with
  |false=>rw[if_neg Bool.false_ne_true];exact⟨aK,G,H₀,S,F',I.grow g,b,e,λF2 H2 g2=>q F2 H2 (g.trans g2)⟩
  |true=>rw[if_pos rfl];cases e;exact q F' H' g
end
noncomputable def aje (f g:VE):VE:=λS=>match f S with
 |some (.bool true)=>g S
 |some (.bool false)=>some (.bool false)
 |_=>none
noncomputable def vOr (f g:VE):VE:=λS=>match f S with
 |some (.bool true)=>some (.bool true)
 |some (.bool false)=>g S
 |_=>none
noncomputable def ajf (f:VE):VE:=λS=>match f S with
 |some (.bool b)=>some (.bool !b)
 |_=>none
noncomputable def nC (h h':PyData->PyData->Option PyData)(fa fb fc:VE):VE:=λS=>match fa S with
 |some x=>match fb S with
  |some y=>match h x y with
   |some (.bool true)=>(match fc S with
    |some z=>h' y z
    |none=>none)
   |some (.bool false)=>some (.bool false)
   |_=>none
  |none=>none
 |none=>none
noncomputable def vIf (c:VT)(f g:VE):VE:=λS=>match c S with
 |some true=>f S
 |some false=>g S
 |none=>none
section
variable {X:Cx}{a b c e:Expr}{fa fb fc f:VE}{tc:VT}{pos:Pos}{h h':PyData->PyData->Option PyData}{r r':R2}{rest:List Expr}{R:Rel}
theorem ZP {K:PySem.W.Frag}{σ:St}{H:Hp}{Q:VK}(hd:iR K h r)(hd':iR K h' r')(q:tV K RS (nC h h' fa fb fc) σ H Q):Qm r r' (tV K RW fa) (tV K RW fb) (tV K RW fc) σ H Q:=by
 obtain⟨aK,G,H₀,S,F,I,d,e,q⟩:=q
 unfold nC at e
 cases qa:fa S with
 |none=>rw[qa] at e;cases e
 |some x=>
  rw[qa] at e
  cases qb:fb S with
  |none=>rw[qb] at e;cases e
  |some y=>
   rw[qb] at e
   simp only at e
   refine⟨aK,G,H₀,S,F,I,x,qa,λv F1 H1 g1 hx=>⟨aK,G,H₀,S,F1,I.grow g1,y,qb,λu F2 H2 g2 hy=>?_⟩⟩
   split at e
   .rename_i q3
    cases qc:fc S with
    |none=>rw[qc] at e;cases e
    |some z=>
     rw[qc] at e
     refine hd H2 v u x y _ _ q3 (Has.same g2.hh hx) hy λk hk=>?_
     have ek:k=.bl true:=hk H2
     subst ek
     simp only[if_true]
     refine⟨aK,G,H₀,S,F2,(I.grow g1).grow g2,z,qc,λw F3 H3 g3 hw=>?_⟩
     exact hd' H3 u w y z d Q e (Has.same g3.hh hy) hw λk hk=>q k F3 H3 ((g1.trans g2).trans g3) (hk F3)
   .rename_i q3
    cases e
    refine hd H2 v u x y _ _ q3 (Has.same g2.hh hx) hy λk hk=>?_
    have ek:k=.bl false:=hk H2
    subst ek
    simp only[Bool.false_eq_true,if_false]
    exact q _ F2 H2 (g1.trans g2) rfl
   .cases e
theorem dCh {op op':CmpOp}(ho:cL X (compareOp op) r)(hd:iR X.K h r)(ho':cL X (compareOp op') r')(hd':iR X.K h' r')(ha:PE X a (tV X.K RW fa))(hb:PE X b (tV X.K RW fb))(hc:PE X c (tV X.K RW fc))
  (hm:lastMarks [op,op'] [b,c]=false:=by with_unfolding_all rfl):PE X (.Compare a [op,op'] [b,c] pos) (tV X.K RS (nC h h' fa fb fc)):=(aja ho ho' ha hb hc hm).imp λ_ _ _ q=>ZP hd hd' q
end
end VM
namespace VM
open PySem L2
section
variable {K:PySem.W.Frag}{F H F' H':Hp}
theorem aJ.cT {ds:List PyData}{xs:List V}{i:Int}{d:PyData}(h:aJ K H ds xs)(e:L2.cT ds i=some d):∃v,L2.cT xs i=some v/\Has K H d v:=by
 unfold L2.cT at e ⊢
 rw[W5 h.length.symm]
 cases q:nu ds.length i with
 |none=>rw[q] at e;cases e
 |some j=>
  rw[q] at e
  exact h.at e
theorem aJ.drop:∀{ds:List PyData}{vs:List V} (n:Nat),aJ K H ds vs->aJ K H (ds.drop n) (vs.drop n)
 |_,_,0,h=>h
 |[],vs,n+1,h=>by
  have h':vs=[]:=h
  rw[h'];rfl
 |_::_,_,n+1,⟨_,_,g1,_,g3⟩=>by rw[g1];exact aJ.drop n g3
theorem aJ.take:∀{ds:List PyData}{vs:List V} (n:Nat),aJ K H ds vs->aJ K H (ds.take n) (vs.take n)
 |_,_,0,_=>by simp only[List.take_zero];rfl
 |[],vs,n+1,h=>by
  have h':vs=[]:=h
  rw[h'];rfl
 |_::_,_,n+1,⟨u,r,g1,g2,g3⟩=>by rw[g1];exact⟨u,r.take n,rfl,g2,aJ.take n g3⟩
theorem RM.list {ds:List PyData}{v:V}(fh:Same F' H')(r:RM K F H F' H' (.list ds) v):∃a xs,v=.ref a/\bQ K H' a xs/\aJ K F' ds xs:=by
 rcases r with⟨a,xs,rfl,h1,h2⟩|⟨ds',a,xs,e,rfl,h1,h2⟩
 .exact⟨a,xs,rfl,fh.seq h1,h2⟩
 .cases e;exact⟨a,xs,rfl,h1,h2⟩
theorem RM.tuple {ds:List PyData}{v:V}(fh:Same F' H')(r:RM K F H F' H' (.tuple ds) v):∃a xs,v=.ref a/\bM K H' a xs/\aJ K F' ds xs:=by
 rcases r with⟨a,xs,rfl,h1,h2⟩|⟨ds',a,xs,e,rfl,h1,h2⟩
 .exact⟨a,xs,rfl,fh.wV h1,h2⟩
 .cases e
theorem RM.grow {F2 H2:Hp}{d:PyData}{v:V}(g:bY F' H' F2 H2)(r:RM K F H F' H' d v):RM K F H F2 H2 d v:=by
 rcases r with r|⟨ds,a,xs,e,e2,h1,h2⟩
 .exact .inl (Has.same g.ff r)
 .exact .inr ⟨ds,a,xs,e,e2,g.hh.seq h1,h2.same g.ff⟩
end
noncomputable def aP:PyData->PyData->Option PyData
 |.list ds,.int i=>cT ds i
 |.tuple ds,.int i=>cT ds i
 |_,_=>none
section
variable {X:Cx}{a b e:Expr}{fa fb f:VE}{pos p2:Pos}
theorem dO (ha:PE X a (tV X.K RM fa))(hb:PE X b (tV X.K RW fb))(hs:vp b:=by intro _ _;rfl):PE X (.Subscript a b pos) (tV X.K RS (v2 aP fa fb)):=
 (Jq (Ho.or Lx) ha hb hs).imp λ_ _ Q q=>by
  obtain⟨aK,G,H₀,S,F,I,d,e,q⟩:=q
  obtain⟨x,y,ex,ey,e⟩:=rO e
  refine⟨aK,G,H₀,S,F,I,x,ex,λv F1 H1 g1 hx=>⟨aK,G,H₀,S,F1,I.grow g1,y,ey,λu F2 H2 g2 hy=>?_⟩⟩
  have hx2:=RM.grow g2 hx
  unfold aP at e
  split at e
  .rename_i ds i
   have eu:u=.int i:=hy
   obtain⟨p,xs,rfl,h1,h2⟩:=RM.list g2.fh hx2
   obtain⟨w,hw,hw2⟩:=aJ.cT h2 e
   exact .inl ⟨p,xs,i,w,rfl,eu,h1,hw,q w F2 H2 (g1.trans g2) hw2⟩
  .rename_i ds i
   have eu:u=.int i:=hy
   obtain⟨p,xs,rfl,h1,h2⟩:=RM.tuple g2.fh hx2
   obtain⟨w,hw,hw2⟩:=aJ.cT h2 e
   exact .inr ⟨p,xs,i,w,rfl,eu,h1,hw,q w F2 H2 (g1.trans g2) hw2⟩
  .cases e
noncomputable def Hu (K:PySem.W.Frag)(f:GS->Option (Option Int)):TO:=λσ H Q=>∃aK G H₀ S F,VI K aK G H₀ S F σ H/\∃o,f S=some o/\∀F' H',bY F H F' H'->Q o H'
noncomputable def oN:GS->Option (Option Int):=λ_=>some none
noncomputable def oI (f:VE):GS->Option (Option Int):=λS=>match f S with
 |some (.int i)=>some (some i)
 |_=>none
theorem DW:PO X none (Hu X.K oN):=PO.imp oJ λ_ H Q q=>by
 obtain⟨aK,G,H₀,S,F,I,o,e,q⟩:=q
 cases e
 exact q F H (bY.refl I.sub)
theorem xX (h:PE X e (tV X.K RW f)):PO X (some e) (Hu X.K (oI f)):=PO.imp (jo h) λ_ H Q q=>by
 obtain⟨aK,G,H₀,S,F,I,o,e,q⟩:=q
 unfold oI at e
 split at e
 .rename_i i q2
  cases e
  refine⟨aK,G,H₀,S,F,I,_,q2,λv F' H' g hv=>⟨i,hv,q F' H' g⟩⟩
 .cases e
noncomputable def cutD (xs:List PyData)(lo hi:Option Int):List PyData:=(xs.drop (HT.bT xs.length 0 lo)).take (HT.bT xs.length xs.length hi - HT.bT xs.length 0 lo)
theorem aJ.cut {K:PySem.W.Frag}{H:Hp}{ds:List PyData}{vs:List V}{lo hi:Option Int}(h:aJ K H ds vs):aJ K H (cutD ds lo hi) (lF vs lo hi):=by
 unfold cutD lF
 rw[h.length]
 exact aJ.take _ (aJ.drop _ h)
noncomputable def ajg (f:VE)(l u:GS->Option (Option Int)):VE:=λS=>match f S,l S,u S with
 |some (.list ds),some lo,some hi=>some (.list (cutD ds lo hi))
 |_,_,_=>none
noncomputable def DX (f:VE)(l u:GS->Option (Option Int)):VE:=λS=>match f S,l S,u S with
 |some (.tuple ds),some lo,some hi=>if HT.bT ds.length 0 lo=0/\HT.bT ds.length ds.length hi=ds.length then none else some (.tuple (cutD ds lo hi))
 |_,_,_=>none
variable {lo hi:Option Expr}{fl fu:GS->Option (Option Int)}
theorem ajh (he:PE X e (tV X.K RM f))(hl:PO X lo (Hu X.K fl))(hu:PO X hi (Hu X.K fu)):PE X (.Subscript e (.Slice lo hi none p2) pos) (tV X.K RS (DX f fl fu)):=
 (jc Lw he hl hu).imp λ_ H Q q=>by
  obtain⟨aK,G,H₀,S,F,I,d,e,q⟩:=q
  unfold DX at e
  split at e
  .rename_i ds l u q1 q2 q3
   split at e
   .cases e
   .rename_i hw
    cases e
    refine⟨aK,G,H₀,S,F,I,_,q1,λv F1 H1 g1 hx=>⟨aK,G,H₀,S,F1,I.grow g1,l,q2,λF2 H2 g2=>⟨aK,G,H₀,S,F2,(I.grow g1).grow g2,u,q3,λF3 H3 g3=>?_⟩⟩⟩
    obtain⟨p,xs,rfl,h1,h2⟩:=RM.tuple g3.fh (RM.grow (g2.trans g3) hx)
    have g:=(g1.trans g2).trans g3
    refine⟨p,xs,rfl,h1,by rw[<-h2.length];exact hw,λz hz=>q _ _ _ (g.trans (bY.xV g3.fh hz)) ⟨z,_,rfl,bM.of ao,aJ.same (aL (g3.fh.free hz)) (aJ.cut h2)⟩⟩
  .cases e
noncomputable def aji (f:VE):VE:=λS=>match f S with
 |some (.list ds)=>some (.list ds.reverse)
 |_=>none
noncomputable def pD:PyData->Option PyData
 |.int i=>some (.int (-i))
 |_=>none
noncomputable def v1 (h:PyData->Option PyData)(f:VE):VE:=λS=>match f S with
 |some x=>h x
 |none=>none
theorem JB (ha:PE X a (tV X.K RW f)):PE X (.UnaryOp .USub a pos) (tV X.K RS (v1 pD f)):=(Jf ai8 ha).imp λ_ H Q q=>by
 obtain⟨aK,G,H₀,S,F,I,d,e,q⟩:=q
 unfold v1 at e
 split at e
 .rename_i x q1
  unfold pD at e
  split at e
  .rename_i i
   cases e
   refine⟨aK,G,H₀,S,F,I,_,q1,λv F1 H1 g1 hx=>?_⟩
   have ev:v=.int i:=hx
   subst ev
   exact q _ F1 H1 g1 rfl
  .cases e
 .cases e
end
noncomputable abbrev VA:=GS->Option (List PyData)
noncomputable def DY (K:PySem.W.Frag)(f:VA):TA:=λσ H Q=>∃aK G H₀ S F,VI K aK G H₀ S F σ H/\∃ds,f S=some ds/\∀vs F' H',bY F H F' H'->aJ K F' ds vs->Q vs H'
noncomputable def Ea (K:PySem.W.Frag)(f:VA):TA:=λσ H Q=>∃aK G H₀ S F,VI K aK G H₀ S F σ H/\∃ds,f S=some ds/\∀vs F' H',bY F H F' H'->aJ K H' ds vs->Q vs H'
noncomputable def a0:VA:=λ_=>some []
noncomputable def aC (f:VE)(fs:VA):VA:=λS=>match f S with
 |some d=>match fs S with
  |some ds=>some (d::ds)
  |none=>none
 |none=>none
theorem Hv {f:VE}{fs:VA}{S:GS}{ds:List PyData}(h:aC f fs S=some ds):∃d r,f S=some d/\fs S=some r/\ds=d::r:=by
 unfold aC at h
 cases q:f S with
 |none=>rw[q] at h;cases h
 |some d=>
  rw[q] at h
  cases q2:fs S with
  |none=>rw[q2] at h;cases h
  |some r=>rw[q2] at h;cases h;exact⟨d,r,rfl,rfl,rfl⟩
section
variable {X:Cx}{e:Expr}{es:List Expr}{f:VE}{fs:VA}{pos:Pos}
theorem bO:PA X [] (DY X.K a0):=PA.imp aF λ_ H Q q=>by
 obtain⟨aK,G,H₀,S,F,I,d,e,q⟩:=q
 cases e
 exact q [] F H (bY.refl I.sub) rfl
theorem lW:PA X [] (Ea X.K a0):=PA.imp aF λ_ H Q q=>by
 obtain⟨aK,G,H₀,S,F,I,d,e,q⟩:=q
 cases e
 exact q [] F H (bY.refl I.sub) rfl
theorem aG (he:PE X e (tV X.K RS f))(hr:PA X es (DY X.K fs))(hs:starEach (e::es) X.env=(false,eval e X.env)::starEach es X.env:=by rfl):PA X (e::es) (DY X.K (aC f fs)):=PA.imp (ak he hr hs) λ_ H Q q=>by
 obtain⟨aK,G,H₀,S,F,I,ds,e,q⟩:=q
 obtain⟨d,r,e1,e2,rfl⟩:=Hv e
 exact⟨aK,G,H₀,S,F,I,d,e1,λv F1 H1 g1 hx=>⟨aK,G,H₀,S,F1,I.grow g1,r,e2,λvs F2 H2 g2 hy=>q _ F2 H2 (g1.trans g2) ⟨v,vs,rfl,Has.same g2.ff hx,hy⟩⟩⟩
theorem lK (he:PE X e (tV X.K RW f))(hr:PA X es (Ea X.K fs))(hs:starEach (e::es) X.env=(false,eval e X.env)::starEach es X.env:=by rfl):PA X (e::es) (Ea X.K (aC f fs)):=PA.imp (ak he hr hs) λ_ H Q q=>by
 obtain⟨aK,G,H₀,S,F,I,ds,e,q⟩:=q
 obtain⟨d,r,e1,e2,rfl⟩:=Hv e
 exact⟨aK,G,H₀,S,F,I,d,e1,λv F1 H1 g1 hx=>⟨aK,G,H₀,S,F1,I.grow g1,r,e2,λvs F2 H2 g2 hy=>q _ F2 H2 (g1.trans g2) ⟨v,vs,rfl,Has.same g2.hh hx,hy⟩⟩⟩
noncomputable def aY (fs:VA):VE:=λS=>match fs S with
 |some ds=>if ds.length<=1000 then some (.tuple ds) else none
 |none=>none
noncomputable def cX (fs:VA):VE:=λS=>match fs S with
 |some ds=>if ds.length<=1000 then some (.list ds) else none
 |none=>none
theorem Mj {S:GS}{d:PyData}(h:aY fs S=some d):∃ds,fs S=some ds/\ds.length<=1000/\d=.tuple ds:=by
 unfold aY at h
 split at h
 .split at h
  .cases h;exact⟨_,by assumption,by assumption,rfl⟩
  .cases h
 .cases h
theorem Mq {S:GS}{d:PyData}(h:cX fs S=some d):∃ds,fs S=some ds/\ds.length<=1000/\d=.list ds:=by
 unfold cX at h
 split at h
 .split at h
  .cases h;exact⟨_,by assumption,by assumption,rfl⟩
  .cases h
 .cases h
theorem dTup {x1}(h:PA X es (DY X.K fs)):PE X (.Tuple es x1 pos) (tV X.K RS (aY fs)):=(iQ h).imp λ_ H Q q=>by
 obtain⟨aK,G,H₀,S,F,I,d,e,q⟩:=q
 obtain⟨ds,e1,hl,rfl⟩:=Mj e
 refine⟨aK,G,H₀,S,F,I,ds,e1,λvs F1 H1 g1 hx=>⟨by rw[<-hx.length];exact Nat.le_of_lt (Ar hl),λp hp=>?_⟩⟩
 exact q _ _ _ (g1.trans (bY.xV g1.fh hp)) ⟨p,vs,rfl,bM.of ao,aJ.same (aL (g1.fh.free hp)) hx⟩
theorem jE (h:PA X es (DY X.K fs)):PE X (.List es pos) (tV X.K RN (cX fs)):=(ni h).imp λ_ H Q q=>by
 obtain⟨aK,G,H₀,S,F,I,d,e,q⟩:=q
 obtain⟨ds,e1,hl,rfl⟩:=Mq e
 refine⟨aK,G,H₀,S,F,I,ds,e1,λvs F1 H1 g1 hx=>⟨by rw[<-hx.length];exact Nat.le_of_lt (Ar hl),λp hp=>?_⟩⟩
 exact q _ _ _ (g1.trans (bY.alloc g1.fh hp)) ⟨ds,p,vs,rfl,rfl,g1.hh.free hp,g1.fh.free hp,ao,hx⟩
end
noncomputable def CallD (K:PySem.W.Frag)(h:List PyData->Option PyData)(r:List V->Hp->VK->Prop):Prop:=∀H vs ds d Q,h ds=some d->aJ K H ds vs->(∀v,(∀H',Has K H' d v)->Q v H)->r vs H Q
noncomputable def fQ (h:List PyData->Option PyData)(fs:VA):VE:=λS=>match fs S with
 |some ds=>h ds
 |none=>none
theorem pF {X:Cx}{e:Expr}{h:List PyData->Option PyData}{r:List V->Hp->VK->Prop}{fs:VA}(he:PE X e (nq r (Ea X.K fs)))(hd:CallD X.K h r):PE X e (tV X.K RS (fQ h fs)):=he.imp λ_ H Q q=>by
 obtain⟨aK,G,H₀,S,F,I,d,e,q⟩:=q
 unfold fQ at e
 split at e
 .rename_i ds q1
  exact⟨aK,G,H₀,S,F,I,ds,q1,λvs F1 H1 g1 hx=>hd H1 vs ds d Q e hx λv hv=>q v F1 H1 g1 (hv F1)⟩
 .cases e
noncomputable def iu:List PyData->Option PyData
 |[.list ds]=>some (.int ds.length)
 |[.tuple ds]=>some (.int ds.length)
 |_=>none
noncomputable def JC:List PyData->Option PyData
 |[.int i]=>some (.int (if i<0 then -i else i))
 |_=>none
noncomputable def intsOf:List PyData->Option (List Int)
 |[]=>some []
 |.int i::r=>match intsOf r with
  |some ns=>some (i::ns)
  |none=>none
 |_=>none
theorem wF:∀{ds:List PyData}{ns:List Int},intsOf ds=some ns->ds=ns.map PyData.int
 |[],_,h=>by cases h;rfl
 |.int i::r,ns,h=>by
  unfold intsOf at h
  cases q:intsOf r with
  |none=>rw[q] at h;cases h
  |some ms=>rw[q] at h;cases h;rw[wF q];rfl
 |.none::_,_,h=>by cases h
 |.bool _::_,_,h=>by cases h
 |.str _::_,_,h=>by cases h
 |.list _::_,_,h=>by cases h
 |.tuple _::_,_,h=>by cases h
 |.dict _::_,_,h=>by cases h
noncomputable def jT:List Int->Int
 |[]=>0
 |[n]=>n
 |n::r=>min n (jT r)
theorem uR:∀{ns:List Int},ns≠[]->jT ns∈ns/\∀a∈ns,jT ns<=a
 |[n],_=>by simp[jT]
 |n::m::r,_=>by
  obtain⟨h1,h2⟩:=uR (ns:=m::r) (by simp)
  have e:jT (n::m::r)=min n (jT (m::r)):=rfl
  rw[e]
  refine⟨?_,λa ha=>?_⟩
  .by_cases hle:n<=jT (m::r)
   .rw[Int.min_eq_left hle];exact List.mem_cons_self
   .rw[Int.min_eq_right (by omega)];exact List.mem_cons_of_mem _ h1
  .rcases List.mem_cons.mp ha with rfl|ha
   .exact Int.min_le_left ..
   .exact Int.le_trans (Int.min_le_right ..) (h2 a ha)
noncomputable def minD:List PyData->Option PyData
 |[.list ds]=>match intsOf ds with
  |some (n::r)=>some (.int (jT (n::r)))
  |_=>none
 |_=>none
noncomputable def xY:List PyData->Option PyData
 |[.int i,.int j]=>some (.int (if j<i then j else i))
 |_=>none
noncomputable def af0:List PyData->Option PyData
 |[.int i,.int j]=>some (.int (if j>i then j else i))
 |_=>none
noncomputable def af2:List PyData->Option PyData
 |[.int i]=>some (.int i)
 |[.bool k]=>some (.int (if k then 1 else 0))
 |_=>none
section
variable {K:PySem.W.Frag}
theorem aJ.one {H:Hp}{d:PyData}{vs:List V}(h:aJ K H [d] vs):∃v,vs=[v]/\Has K H d v:=by
 obtain⟨v,r,rfl,h1,h2⟩:=h
 have h2':r=[]:=h2
 rw[h2'];exact⟨v,rfl,h1⟩
theorem aJ.two {H:Hp}{d e:PyData}{vs:List V}(h:aJ K H [d,e] vs):∃v u,vs=[v,u]/\Has K H d v/\Has K H e u:=by
 obtain⟨v,r,rfl,h1,h2⟩:=h
 obtain⟨u,rfl,h3⟩:=aJ.one h2
 exact⟨v,u,rfl,h1,h3⟩
theorem hLen:CallD K iu (Ck K):=by
 intro H vs ds d Q e hx q
 unfold iu at e
 split at e
 .obtain⟨v,rfl,a,xs,rfl,h1,h2⟩:=aJ.one hx
  cases e
  exact⟨xs,.inl h1,by rw[<-h2.length];exact q _ λ_=>rfl⟩
 .obtain⟨v,rfl,a,xs,rfl,h1,h2⟩:=aJ.one hx
  cases e
  exact⟨xs,.inr h1,by rw[<-h2.length];exact q _ λ_=>rfl⟩
 .cases e
theorem ajj:CallD K JC U6:=by
 intro H vs ds d Q e hx q
 unfold JC at e
 split at e
 .obtain⟨v,rfl,h1⟩:=aJ.one hx
  have ev:v=.int _:=h1
  subst ev
  cases e
  exact q _ λ_=>rfl
 .cases e
theorem JD:CallD K minD (afX K):=by
 intro H vs ds d Q e hx q
 unfold minD at e
 split at e
 .split at e
  .rename_i n r hn
   obtain⟨v,rfl,a,xs,rfl,h1,h2⟩:=aJ.one hx
   cases e
   rw[wF hn] at h2
   rw[aJ.ints.mp h2] at h1
   refine⟨n::r,h1,by simp,λM hM hA=>?_⟩
   obtain⟨g1,g2⟩:=uR (ns:=n::r) (by simp)
   have:M=jT (n::r):=Int.le_antisymm (hA _ g1) (g2 _ hM)
   rw[this]
   exact q _ λ_=>rfl
  .cases e
 .cases e
theorem af3:CallD K xY (λxs H Q=>∃i j,xs=[.int i,.int j]/\Q (.int (if j<i then j else i)) H):=by
 intro H vs ds d Q e hx q
 unfold xY at e
 split at e
 .rename_i i j
  obtain⟨v,u,rfl,h1,h2⟩:=aJ.two hx
  have ev:v=.int i:=h1
  have eu:u=.int j:=h2
  subst ev eu
  cases e
  exact⟨i,j,rfl,q _ λ_=>rfl⟩
 .cases e
end
noncomputable def Eb:PyData->String
 |.none=>"NoneType"
 |.bool _=>"bool"
 |.int _=>"int"
 |.str _=>"str"
 |.list _=>"list"
 |.tuple _=>"tuple"
 |.dict _=>"dict"
noncomputable def qR (T:String)(d:PyData):Option PyData:=match d with
 |.dict _=>none
 |_=>some (.bool (Eb d==T||(Eb d=="bool" && T=="int")))
structure uT (K:PySem.W.Frag)(T:String):Prop where
 ok:∀d d',qR T d=some (.bool d')->PySem.W.kitOne K (.type (Eb d)) (.type T)=some d'
noncomputable def ajk (T:String)(f:VE):VE:=v1 (qR T) f
noncomputable def W7 (f:VE):VE:=λS=>match f S with
 |some (.list ds)=>some (.list ds)
 |some (.tuple ds)=>some (.list ds)
 |_=>none
end VM
namespace VM
open PySem L2
noncomputable abbrev jF:=List PyData->Option (Bool×PyData)
noncomputable def RB:Bool->Rel
 |true=>RN
 |false=>RS
noncomputable def d9 (K:PySem.W.Frag)(m:jF):Sp:=λvs H Q _=>∃G ds,Same G H/\aJ K G ds vs/\∃b d,m ds=some (b,d)/\∀v F' H',bY G H F' H'->RB b K G H F' H' d v->Q v H'
noncomputable def cj (m:jF)(fs:VA):VE:=λS=>match fs S with
 |some ds=>match m ds with
  |some (_,d)=>some d
  |none=>none
 |none=>none
noncomputable def pG (m:jF)(fs:VA):VE:=λS=>match fs S with
 |some ds=>match m ds with
  |some (true,d)=>some d
  |_=>none
 |none=>none
noncomputable def JF:Bool->PyData->Bool
 |true,.list ds=>tH ds
 |true,_=>false
 |false,d=>uN d
noncomputable def Mt (m:jF)(fs:VA):VE:=λS=>match fs S with
 |some ds=>match m ds with
  |some (b,d)=>if JF b d=true then some d else none
  |none=>none
 |none=>none
noncomputable def Hw (m:jF)(fs:VA):VE:=λS=>match fs S with
 |some ds=>match m ds with
  |some (true,.list es)=>if tH es=true then some (.list es) else none
  |_=>none
 |none=>none
section
variable {X:Cx}{e:Expr}{m:jF}{fs:VA}
theorem gK (he:PE X e (fU (d9 X.K m) [] E0 (DY X.K fs))):PE X e (tV X.K RS (cj m fs)):=he.imp λ_ H Q q=>by
 obtain⟨aK,G,H₀,S,F,I,d,e,q⟩:=q
 unfold cj at e
 split at e
 .rename_i ds q1
  split at e
  .rename_i b d' q2
   cases e
   refine⟨aK,G,H₀,S,F,I,ds,q1,λvs F1 H1 g1 hx=>?_⟩
   show d9 X.K m (vs++[]) H1 Q E0
   rw[List.append_nil]
   refine⟨F1,ds,g1.fh,hx,b,_,q2,λv F' H' g hv=>?_⟩
   cases b with
   |false=>exact q v F' H' (g1.trans g) hv
   |true=>
    obtain⟨F'',g2,r2⟩:=RN.eO g hv
    exact q v F'' H' (g1.trans g2) r2
  .cases e
 .cases e
theorem Vc (he:PE X e (fU (d9 X.K m) [] E0 (DY X.K fs))):PE X e (tV X.K RN (pG m fs)):=he.imp λ_ H Q q=>by
 obtain⟨aK,G,H₀,S,F,I,d,e,q⟩:=q
 unfold pG at e
 split at e
 .rename_i ds q1
  split at e
  .rename_i d' q2
   cases e
   refine⟨aK,G,H₀,S,F,I,ds,q1,λvs F1 H1 g1 hx=>?_⟩
   show d9 X.K m (vs++[]) H1 Q E0
   rw[List.append_nil]
   refine⟨F1,ds,g1.fh,hx,true,_,q2,λv F' H' g hv=>?_⟩
   obtain⟨es,a,xs,h1,h2,h3,h4,h5,h6⟩:=hv
   exact q v F' H' (g1.trans g) ⟨es,a,xs,h1,h2,g1.hh.free h3,h4,h5,h6⟩
  .cases e
 .cases e
end
structure Qt (K:PySem.W.Frag)(F:Hp)(J:It)(ds:List PyData):Prop where
 go:∀(i:Nat) d F' H',ds[i]? =some d->Same F F'->Same F' H'->J.go i H'/\∀x xZ,J.Df i H' x xZ->∃F'',bY F' H' F'' xZ/\Has K F'' d x
 stop:∀(i:Nat) F' H',ds.length<=i->Same F F'->Same F' H'->J.stop i H'
noncomputable def Ec (K:PySem.W.Frag)(f:VA):TI:=λσ H R=>∃aK G H₀ S F,VI K aK G H₀ S F σ H/\∃ds,f S=some ds/\∀J F' H',bY F H F' H'->Qt K F' J ds->R J H'
noncomputable def nD (f:VE):VA:=λS=>match f S with
 |some (.list ds)=>some ds
 |_=>none
noncomputable def W8 (f:VE):VA:=λS=>match f S with
 |some (.tuple ds)=>some ds
 |_=>none
noncomputable def iT (lo:Int)(n:Nat):List PyData:=(List.range n).map λ(i:Nat)=>PyData.int (lo+i)
noncomputable def yc (fs:VA):VA:=λS=>match fs S with
 |some [.int j]=>@ite _ (-(2^62)<=j/\j<2^62) (Classical.propDecidable _) (some (iT 0 j.toNat)) none
 |_=>none
noncomputable def af4 (fs:VA):VA:=λS=>match fs S with
 |some [.int i,.int j]=>@ite _ ((-(2^62)<=i/\i<2^62)∧-(2^62)<=j/\j<2^62) (Classical.propDecidable _) (some (iT i (j - i).toNat)) none
 |_=>none
noncomputable def Vd:Nat->List PyData->List PyData
 |_,[]=>[]
 |i,d::r=>.tuple [.int i,d]::Vd (i+1) r
noncomputable def ajl (ds es:List PyData):List PyData:=List.zipWith (λa b=>PyData.tuple [a,b]) ds es
noncomputable def af5 (fs:VA):VA:=λS=>match fs S with
 |some [.list ds]=>some (Vd 0 ds)
 |_=>none
noncomputable def ajm (fs:VA):VA:=λS=>match fs S with
 |some [.list ds,.list es]=>some (ajl ds es)
 |_=>none
section
variable {X:Cx}{tg l:Expr}{f:VE}{fs:VA}{p pos tpos:Pos}{elts:List Expr}{k:Nat}
theorem Mu {K:PySem.W.Frag}{F:Hp}{a:Addr}{xs:List V}{ds:List PyData}(h1:bQ K F a xs)(h2:aJ K F ds xs):Qt K F (wg K a) ds where
 go:=λi d F' H' e f1 f2=>by
  obtain⟨v,ev,hv⟩:=h2.at e
  have hq:=(f1.trans f2).seq h1
  refine⟨⟨xs,v,hq,ev⟩,λx xZ y=>?_⟩
  obtain⟨e1,y⟩:=y
  subst e1
  have:=y xs hq
  rw[ev] at this
  cases this
  exact⟨F',bY.refl f2,Has.same f1 hv⟩
 stop:=λi F' H' e f1 f2=>⟨xs,(f1.trans f2).seq h1,by rw[<-h2.length];exact e⟩
theorem Qu {K:PySem.W.Frag}{F:Hp}{lo:Int}{n:Nat}:Qt K F (Uw lo n) (iT lo n) where
 go:=λi d F' H' e f1 f2=>by
  unfold iT at e
  rw[List.getElem?_map] at e
  by_cases hi:i<n
  .rw[List.getElem?_range hi] at e
   cases e
   refine⟨hi,λx xZ y=>?_⟩
   obtain⟨e1,e2⟩:=y
   subst e1 e2
   exact⟨F',bY.refl f2,rfl⟩
  .rw[List.getElem?_eq_none (by simp;omega)] at e
   cases e
 stop:=λi F' H' e f1 f2=>by
  unfold iT at e
  show n<=i
  simpa using e
theorem Ve (hl:PE X l (tV X.K RS f)):PI X tg l (Ec X.K (nD f)):=PI.imp (lZ hl) λ_ H Q q=>by
 obtain⟨aK,G,H₀,S,F,I,ds,e,q⟩:=q
 unfold nD at e
 split at e
 .rename_i q1
  cases e
  refine⟨aK,G,H₀,S,F,I,_,q1,λv F' H' g hv=>?_⟩
  obtain⟨a,xs,rfl,h1,h2⟩:=hv
  exact⟨a,rfl,⟨xs,g.fh.seq h1⟩,q _ F' H' g (Mu h1 h2)⟩
 .cases e
theorem Qv (h:PI X tg l (Ux (Ea X.K fs))):PI X tg l (Ec X.K (yc fs)):=PI.imp h λ_ H Q q=>by
 obtain⟨aK,G,H₀,S,F,I,ds,e,q⟩:=q
 unfold yc at e
 split at e
 .rename_i j q1
  split at e
  .rename_i hj
   cases e
   refine⟨aK,G,H₀,S,F,I,_,q1,λvs F' H' g hv=>?_⟩
   obtain⟨v,rfl,hv'⟩:=aJ.one hv
   have ev:v=.int j:=hv'
   exact⟨j,by rw[ev],hj.1,hj.2,q _ F' H' g Qu⟩
  .cases e
 .cases e
end
section
variable {K:PySem.W.Frag}{aK:Nat->Option Addr}{G H₀ F H:Hp}{S:GS}{σ:St}
theorem VI.set (I:VI K aK G H₀ S F σ H){i:Nat}{d:PyData}{v:V}(hd:Has K F d v):VI K aK G H₀ (S.set i (some (.fr,d))) F (σ.set i (some v)) H where
 pl:=I.pl
 len:=by rw[List.length_set,List.length_set];exact I.len
 same:=I.same
 gf:=I.gf
 new:=I.new
 sub:=I.sub
 slot:=λj t d' e=>by
  by_cases hj:j=i
  .subst hj
   by_cases hl:j<S.length
   .rw[List.getElem?_set_self hl] at e
    cases e
    exact⟨v,List.getElem?_set_self (by rw[<-I.len];exact hl),hd⟩
   .rw[List.getElem?_eq_none (by rw[List.length_set];omega)] at e
    cases e
  .rw[List.getElem?_set_ne (Ne.symm hj)] at e ⊢
   exact I.slot j t d' e
 inj:=λj k t t' d1 d2 u e1 e2 n1 n2 v1 v2=>by
  have h1:j≠i:=λz=>by
   subst z
   by_cases hl:j<S.length
   .rw[List.getElem?_set_self hl] at e1;cases e1;exact(Bool.false_ne_true n1)
   .rw[List.getElem?_eq_none (by rw[List.length_set];omega)] at e1;cases e1
  have h2:k≠i:=λz=>by
   subst z
   by_cases hl:k<S.length
   .rw[List.getElem?_set_self hl] at e2;cases e2;exact(Bool.false_ne_true n2)
   .rw[List.getElem?_eq_none (by rw[List.length_set];omega)] at e2;cases e2
  rw[List.getElem?_set_ne (Ne.symm h1)] at e1 v1
  rw[List.getElem?_set_ne (Ne.symm h2)] at e2 v2
  exact I.inj j k t t' d1 d2 u e1 e2 n1 n2 v1 v2
end
noncomputable abbrev VG:=PyData->GS->Option GS
noncomputable abbrev Ed:=List PyData->GS->Option GS
noncomputable def zy (S:GS)(i:Nat):Bool:=match S[i]? with
 |some (some (.io,_))=>false
 |_=>true
noncomputable def gN (i:Nat):VG:=λd S=>if zy S i=true then some (S.set i (some (.fr,d))) else none
noncomputable def g0:Ed:=λds S=>match ds with
 |[]=>some S
 |_=>none
noncomputable def gC (t:VG)(u:Ed):Ed:=λds S=>match ds with
 |d::r=>match t d S with
  |some S1=>u r S1
  |none=>none
 |[]=>none
noncomputable def gT (n:Nat)(u:Ed):VG:=λd S=>match d with
 |.tuple ds=>if ds.length=n then u ds S else none
 |_=>none
noncomputable def rQ (K:PySem.W.Frag)(t:VG)(js:List Nat):TG:=λv σ H Q=>∃aK G H₀ S F,VI K aK G H₀ S F σ H/\∃d S',Has K F d v/\t d S=some S'/\∀σ',(∀(j:Nat),j∉js->σ'[j]? =σ[j]?)->VI K aK G H₀ S' F σ' H->Q σ' H
section
variable {X:Cx}{e:Expr}{es:List Expr}{t:VG}{u:Ed}{js ks:List Nat}{pos:Pos}
theorem dZ {i:Nat}(h:PG X e (fG i)):PG X e (rQ X.K (gN i) [i]):=PG.imp h λv σ H Q q=>by
 obtain⟨aK,G,H₀,S,F,I,d,S',hd,e,q⟩:=q
 unfold gN at e
 split at e
 .cases e
  exact q _ (λj hj=>List.getElem?_set_ne (λz=>hj (by simp[z]))) (I.set hd)
 .cases e
theorem xP.imp {t t':v9}(h:xP X es t)(ht:∀v σ H Q,t' v σ H Q->t v σ H Q):xP X es t':=λpins s σ H v u Q I r q=>h pins s σ H v u Q I r (ht v σ H Q q)
end
noncomputable def yd (S:GS):Option Nat->Option (Tg×PyData)
 |none=>none
 |some j=>match S[j]? with
  |some (some (.fr,d))=>some (.fr,d)
  |some (some (.ow,d))=>some (.fr,d)
  |some (some (.io,d))=>some (.fr,d)
  |_=>none
noncomputable def mX (S:GS):List (Option Nat)->Bool
 |[]=>true
 |none::r=>mX S r
 |some j::r=>(match S[j]? with
  |some (some (.fr,_))=>true
  |some (some _)=>false
  |_=>true) && mX S r
noncomputable def jG (cap:List (Option Nat))(S:GS):GS:=cap.map (yd S)
noncomputable def n6 (t:VG)(fc:VT)(fe:VE)(S:GS):List PyData->Option (List PyData)
 |[]=>some []
 |d::r=>match t d S with
  |none=>none
  |some S2=>match fc S2 with
   |none=>none
   |some false=>n6 t fc fe S r
   |some true=>match fe S2 with
    |none=>none
    |some e=>match n6 t fc fe S r with
     |none=>none
     |some es=>some (e::es)
noncomputable def nF (fi:VA)(cap:List (Option Nat))(t:VG)(fc:VT)(fe:VE):VE:=λS=>match fi S with
 |some ds=>@ite _ (mX S cap=true/\ds.length<sizeLine) (Classical.propDecidable _) (match n6 t fc fe (jG cap S) ds with
  |some es=>some (.list es)
  |none=>none) none
 |none=>none
noncomputable def ZQ (fi:VA)(cap:List (Option Nat))(t:VG)(fc:VT)(fe:VE):VE:=λS=>match fi S with
 |some ds=>@ite _ (ds.length<sizeLine) (Classical.propDecidable _) (match n6 t fc (wW fe) (jG cap S) ds with
  |some es=>some (.list es)
  |none=>none) none
 |none=>none
theorem Ef {cap:List (Option Nat)}{S:GS}{i:Nat}{t:Tg}{d:PyData}(h:(jG cap S)[i]? =some (some (t,d))):∃j t',cap[i]? =some (some j)/\S[j]? =some (some (t',d))/\t'.dat=true/\t=.fr:=by
 unfold jG at h
 rw[List.getElem?_map] at h
 cases q:cap[i]? with
 |none=>rw[q] at h;cases h
 |some o=>
  rw[q] at h
  cases o with
  |none=>simp[yd] at h
  |some j=>
   simp only[Option.map_some,yd,Option.some.injEq] at h
   split at h
   .rename_i d' hS
    cases h
    exact⟨j,.fr,rfl,hS,rfl,rfl⟩
   .rename_i d' hS
    cases h
    exact⟨j,.ow,rfl,hS,rfl,rfl⟩
   .rename_i d' hS
    cases h
    exact⟨j,.io,rfl,hS,rfl,rfl⟩
   .cases h
theorem uU {S:GS}:∀{cap:List (Option Nat)}{i j:Nat} {t:Tg} {d:PyData},mX S cap=true->cap[i]? =some (some j)->S[j]? =some (some (t,d))->t=.fr
 |[],i,j,t,d,_,h,_=>by simp at h
 |none::r,0,j,t,d,_,h,_=>by simp at h
 |none::r,i+1,j,t,d,hc,h,hs=>uU (cap:=r) (i:=i) hc (by simpa using h) hs
 |some k::r,0,j,t,d,hc,h,hs=>by
  have e:k=j:=by simpa using h
  subst e
  unfold mX at hc
  rw[hs] at hc
  cases t<;>simp at hc ⊢
 |some k::r,i+1,j,t,d,hc,h,hs=>by
  unfold mX at hc
  rw[Bool.and_eq_true] at hc
  exact uU (cap:=r) (i:=i) hc.2 (by simpa using h) hs
theorem Mv {cap:List (Option Nat)}{σ:St}{i j:Nat}{v:V}(h:cap[i]? =some (some j))(hs:σ[j]? =some (some v)):(dj cap σ)[i]? =some (some v):=by
 unfold dj
 rw[List.getElem?_map,h]
 simp only[Option.map_some,hs]
section
variable {K:PySem.W.Frag}{aK:Nat->Option Addr}{G H₀ F H:Hp}{S:GS}{σ:St}{cap:List (Option Nat)}
theorem VI.block (I:VI K aK G H₀ S F σ H){R:Hp}(hR:Same R H)(hv:∀(i j:Nat) t d v,cap[i]? =some (some j)->S[j]? =some (some (t,d))->σ[j]? =some (some v)->t.dat=true->Mi K aK H₀ F H j t d v->Has K R d v):
  VI K (λ_=>none) R H (jG cap S) R (dj cap σ) H where
 pl:=λ_ _ _ e=>e
 len:=by unfold jG dj;rw[List.length_map,List.length_map]
 same:=Same.refl _
 gf:=Same.refl _
 new:=λ_ _ e=>.inl e
 sub:=hR
 slot:=λi t d e=>by
  obtain⟨j,t',h1,h2,h3,rfl⟩:=Ef e
  obtain⟨v,hv1,hs⟩:=I.slot j t' d h2
  exact⟨v,Mv h1 hv1,hv i j t' d v h1 h2 hv1 h3 hs⟩
 inj:=λi j t t' d d' v e1 _ n1=>by
  obtain⟨_,_,_,_,_,rfl⟩:=Ef e1
  exact absurd n1 Bool.false_ne_true
theorem VI.Qw (I:VI K aK G H₀ S F σ H)(hc:mX S cap=true):VI K (λ_=>none) F H (jG cap S) F (dj cap σ) H:=
 I.block I.sub λi j t d v h1 h2 _ _ hs=>by
  have:=uU hc h1 h2
  subst this
  exact hs
end
theorem W9 {cap:List (Option Nat)}{σ σ':St}{js:List Nat}(hjs:(js.all λj=>cap[j]? ==some none)=true)(k:∀(j:Nat),j∉js->σ'[j]? =(dj cap σ)[j]?):lG (dj cap σ) σ':=λj v e=>by
 by_cases hj:j∈js
 .have:=List.all_eq_true.mp hjs j hj
  have hc:cap[j]? =some none:=by simpa using this
  unfold dj at e
  rw[List.getElem?_map,hc] at e
  simp at e
 .rw[k j hj];exact e
theorem af6 {K:PySem.W.Frag}{fi:VA}{cap:List (Option Nat)}{t:VG}{js:List Nat}{fc:VT}{fe fe':VE}(hjs:(js.all λj=>cap[j]? ==some none)=true){σ:St}{H:Hp}{Q:VK}{aK:Nat->Option Addr}{G H₀ F:Hp}{S:GS}{ds es:List PyData}
  (I:VI K aK G H₀ S F σ H)(e1:fi S=some ds)(hlen:ds.length<sizeLine)(e2:n6 t fc fe (jG cap S) ds=some es)
  (Rf:Hp->Hp->Hp)(hb:∀F' H',bY F H F' H'->VI K (λ_=>none) (Rf F' H') H' (jG cap S) (Rf F' H') (dj cap σ) H'/\Same F' (Rf F' H'))
  (hr:∀(F' H' F2 H2:Hp) S2 d v,fe S2=some d->Same F' H'->bY (Rf F' H') H' F2 H2->Has K F2 d v->∃F3,bY F' H' F3 H2/\Has K F3 d v)(hfe:∀S d,fe S=some d->fe' S=some d)
  (q:∀v F' H',bY F H F' H'->RN K F H F' H' (.list es) v->Q v H'):Hs (Ec K fi) cap (rQ K t js) (gR K fc) (tV K RS fe') σ H Q:=by
 refine⟨aK,G,H₀,S,F,I,ds,e1,λJ F1 H1 g1 it D hD=>?_⟩
 refine⟨λi m H'=>∃F' es1 es2 ys,m=ds.length - i/\i<=ds.length/\H' D=some (.lst ys)/\F' D=none/\aJ K F' es1 ys/\bY F1 H1 F' H'/\es1.length<=i/\n6 t fc fe (jG cap S) (ds.drop i)=some es2/\es1++es2=es,?_,?_⟩
 .exact⟨_,F1,[],es,[],rfl,Nat.zero_le _,ao,g1.fh.free hD,rfl,bY.alloc g1.fh hD,Nat.zero_le _,e2,rfl⟩
 .rintro i m H' ⟨F',es1,es2,ys,rfl,hi,Vf,ZR,hh,g,hle,hr2,happ⟩
  by_cases hlt:i<ds.length
  .have hd:ds[i]? =some ds[i]:=by simp[hlt]
   rw[List.drop_eq_getElem_cons hlt] at hr2
   obtain⟨go,yl⟩:=it.go i ds[i] F' H' hd g.ff g.fh
   refine .inr ⟨go,λx H2 y=>?_⟩
   obtain⟨F2,g2,hx⟩:=yl x H2 y
   obtain⟨IB,hR⟩:=hb F2 H2 ((g1.trans g).trans g2)
   have hr':=hr F2 H2
   generalize Rf F2 H2=R at*
   generalize ds[i]=d0 at*
   unfold n6 at hr2
   cases q1:t d0 (jG cap S) with
   |none=>rw[q1] at hr2;cases hr2
   |some S2=>
    rw[q1] at hr2
    simp only at hr2
    refine⟨λ_=>none,R,H2,jG cap S,R,IB,d0,S2,Has.same hR hx,q1,λσ2 k2 I2=>⟨W9 hjs k2,?_⟩⟩
    have D2:H2 D=some (.lst ys):=g2.hh _ _ Vf
    cases q2:fc S2 with
    |none=>rw[q2] at hr2;cases hr2
    |some b=>
     rw[q2] at hr2
     refine⟨λ_=>none,R,H2,S2,R,I2,b,q2,λF3 H3 g3=>?_⟩
     cases b with
     |false=>
      simp only[Bool.false_eq_true,if_false]
      have gg:bY F' H' F2 H3:=⟨g2.hh.trans g3.hh,g2.ff,hR.trans (g3.ff.trans g3.fh),g2.new,g2.pl⟩
      have hF2:F2 D=none:=by
       cases z:F2 D with
       |none=>rfl
       |some o=>
        rcases g2.new D o z with w|w|w
        .rw[ZR] at w;cases w
        .rw[Vf] at w;cases w
        .have:=g2.fh D o z
         rw[D2] at this;cases this;simp[pB] at w
      exact⟨ds.length - (i+1),by omega,F2,es1,es2,ys,rfl,hlt,g3.hh _ _ D2,hF2,hh.same g2.ff,g.trans gg,by omega,hr2,happ⟩
     |true=>
      simp only[if_true] at hr2 ⊢
      cases q3:fe S2 with
      |none=>rw[q3] at hr2;cases hr2
      |some e0=>
       rw[q3] at hr2
       simp only at hr2
       cases q4:n6 t fc fe (jG cap S) (ds.drop (i+1)) with
       |none=>rw[q4] at hr2;cases hr2
       |some es3=>
        rw[q4] at hr2
        cases hr2
        refine⟨λ_=>none,R,H2,S2,F3,I2.grow g3,e0,hfe _ _ q3,λv F4 H4 g4 hv=>?_⟩
        obtain⟨F5,g5,hv5⟩:=hr' F4 H4 S2 e0 v q3 g2.fh (g3.trans g4) hv
        have D4:H4 D=some (.lst ys):=g5.hh _ _ D2
        have Vg:=g2.trans g5
        have hF5:F5 D=none:=by
         cases z:F5 D with
         |none=>rfl
         |some o=>
          rcases Vg.new D o z with w|w|w
          .rw[ZR] at w;cases w
          .rw[Vf] at w;cases w
          .have:=Vg.fh D o z
           rw[D4] at this;cases this;simp[pB] at w
        have hly:=hh.length
        refine⟨ys,D4,by omega,ds.length - (i+1),by omega,F5,es1++[e0],es3,ys++[v],rfl,hlt,ao,hF5,aJ.snoc hv5 (hh.same Vg.ff),?_,by simp;omega,rfl,by simpa using happ⟩
        have Mx:=g.trans Vg
        refine⟨λb o e=>?_,Mx.ff,λb o e=>?_,Mx.new,Mx.pl⟩
        .rw[aq (aR e hD)];exact Mx.hh b o e
        .rw[aq (aR e hF5)];exact Mx.fh b o e
  .have hie:i=ds.length:=by omega
   subst hie
   rw[List.drop_eq_nil_of_le (Nat.le_refl _)] at hr2
   cases hr2
   rw[List.append_nil] at happ
   subst happ
   refine .inl ⟨it.stop _ F' H' (Nat.le_refl _) g.ff g.fh,q _ F' H' (g1.trans g) ⟨_,D,ys,rfl,rfl,g1.hh.free hD,ZR,Vf,hh⟩⟩
theorem ZS {K:PySem.W.Frag}{fi:VA}{cap:List (Option Nat)}{t:VG}{js:List Nat}{fc:VT}{fe:VE}(hjs:(js.all λj=>cap[j]? ==some none)=true){σ:St}{H:Hp}{Q:VK}(q:tV K RN (nF fi cap t fc fe) σ H Q):
  Hs (Ec K fi) cap (rQ K t js) (gR K fc) (tV K RS fe) σ H Q:=by
 obtain⟨aK,G,H₀,S,F,I,d,e,q⟩:=q
 unfold nF at e
 split at e
 .rename_i ds e1
  split at e
  .rename_i hc
   split at e
   .rename_i es e2
    cases e
    exact af6 hjs I e1 hc.2 e2 (λF' _=>F') (λF' H' g=>⟨(I.grow g).Qw hc.1,Same.refl _⟩) (λF' H' F2 H2 S2 d v _ _ g2 hv=>⟨F2,g2,hv⟩) (λ_ _ h=>h) q
   .cases e
  .cases e
 .cases e
noncomputable def jU:VT:=λ_=>some true
theorem pA.imp {X:Cx}{ifs:List Expr}{t t':TT}(h:pA X ifs t)(ht:∀σ H Q,t' σ H Q->t σ H Q):pA X ifs t':=λpins s σ H Q I q=>h pins s σ H Q I (ht σ H Q q)
theorem HB {X:Cx}:pA X [] (gR X.K jU):=pA.imp W0 λ_ H Q q=>by
 obtain⟨aK,G,H₀,S,F,I,b,e,q⟩:=q
 cases e
 exact q F H (bY.refl I.sub)
theorem HD {X:Cx}{e:Expr}{fi:VA}{cap:List (Option Nat)}{t:VG}{js:List Nat}{fc:VT}{fe:VE}(he:PE X e (Hs (Ec X.K fi) cap (rQ X.K t js) (gR X.K fc) (tV X.K RS fe)))(hjs:(js.all λj=>cap[j]? ==some none)=true:=by rfl):PE X e (tV X.K RN (nF fi cap t fc fe)):=
 he.imp λ_ _ _ q=>ZS hjs q
end VM
namespace VM
open PySem L2
inductive Out where
 |fail
 |nxt (S:GS)
 |ret (S:GS) (b:Bool) (d:PyData)
 |brk (S:GS)
 |cnt (S:GS)
noncomputable abbrev VS:=GS->Out
noncomputable def RR (K:PySem.W.Frag)(H₀:Hp)(S:GS)(σ:St)(F H:Hp):Bool->PyData->V->Prop
 |false,d,v=>Has K F d v
 |true,d,v=>je K H₀ F H d v/\∀(i:Nat) t d',S[i]? =some (some (t,d'))->t.own=true->σ[i]? ≠some (some v)
noncomputable def JG (K:PySem.W.Frag)(aK:Nat->Option Addr)(G H₀:Hp)(D:Ends):Out->Prop
 |.fail=>False
 |.nxt S=>∀F σ H,VI K aK G H₀ S F σ H->D.nx σ H
 |.brk S=>∀F σ H,VI K aK G H₀ S F σ H->D.bk σ H
 |.cnt S=>∀F σ H,VI K aK G H₀ S F σ H->D.ct σ H
 |.ret S b d=>∀v F σ H,VI K aK G H₀ S F σ H->RR K H₀ S σ F H b d v->D.rt v H
noncomputable def lM (K:PySem.W.Frag)(g:VS):TS:=λD σ H=>∃aK G H₀ S F,VI K aK G H₀ S F σ H/\JG K aK G H₀ D (g S)
section
variable {K:PySem.W.Frag}{aK:Nat->Option Addr}{G H₀ F H F' H':Hp}{S:GS}{σ:St}{D:Ends}
theorem VI.self (I:VI K aK G H₀ S F σ H):VI K aK F H₀ S F σ H:=⟨I.len,I.same,Same.refl _,λ_ _ e=>.inl e,I.sub,I.slot,I.inj,λ_ _ _ e=>e⟩
theorem VI.rebase {S':GS}{σ':St}(I:VI K aK G H₀ S F σ H)(J:VI K aK F H₀ S' F' σ' H'):VI K aK G H₀ S' F' σ' H':=⟨J.len,J.same,I.gf.trans J.gf,λa o e=>by
 rcases J.new a o e with z|z|z
 .exact I.new a o z
 .exact .inr (.inl z)
 .exact .inr (.inr z),J.sub,J.slot,J.inj,λa o u e=>I.pl a o u (J.pl a o u e)⟩
end
noncomputable def jr:VS:=λS=>.nxt S
noncomputable def aV (g1 g2:VS):VS:=λS=>match g1 S with
 |.nxt S1=>g2 S1
 |o=>o
noncomputable def lN (c:VT)(g1 g2:VS):VS:=λS=>match c S with
 |some true=>g1 S
 |some false=>g2 S
 |none=>.fail
section
variable {X:Cx}{s:Stmt}{rest a b:List Stmt}{g g1 g2:VS}{c:Expr}{tc:VT}{pos:Pos}
theorem qT:gW X [] (lM X.K jr):=gW.imp bR λD σ H q=>by
 obtain⟨aK,G,H₀,S,F,I,q⟩:=q
 exact q F σ H I
theorem iy (h:PS X s (lM X.K g)):gW X [s] (lM X.K g):=aM h
theorem cG (h1:PS X s (lM X.K g1))(h2:gW X rest (lM X.K g2)):gW X (s::rest) (lM X.K (aV g1 g2)):=gW.imp (aH h1 h2) λD σ H q=>by
 obtain⟨aK,G,H₀,S,F,I,q⟩:=q
 refine⟨aK,G,H₀,S,F,I,?_⟩
 unfold aV at q
 cases e:g1 S with
 |fail=>rw[e] at q;exact q
 |brk S1=>rw[e] at q;exact q
 |cnt S1=>rw[e] at q;exact q
 |ret S1 b d=>rw[e] at q;exact q
 |nxt S1=>rw[e] at q;exact λF' σ' H' I'=>⟨aK,G,H₀,S1,F',I',q⟩
theorem wG (hc:PT X c (gR X.K tc))(ha:gW X a (lM X.K g1))(hb:gW X b (lM X.K g2)):PS X (.If c a b pos) (lM X.K (lN tc g1 g2)):=PS.imp (cM hc ha hb) λD σ H q=>by
 obtain⟨aK,G,H₀,S,F,I,q⟩:=q
 unfold lN at q
 cases e:tc S with
 |none=>rw[e] at q;exact q.elim
 |some k=>
  rw[e] at q
  refine⟨aK,G,H₀,S,F,I,k,e,λF' H' g=>?_⟩
  cases k with
  |true=>simp only[if_true];exact⟨aK,G,H₀,S,F',I.grow g,q⟩
  |false=>simp only[Bool.false_eq_true,if_false];exact⟨aK,G,H₀,S,F',I.grow g,q⟩
noncomputable def af7:VS:=λ_=>.fail
end
noncomputable def fX (f:VE):VS:=λS=>match f S with
 |some d=>.ret S false d
 |none=>.fail
noncomputable def Cp (f:VE):VS:=λS=>match f S with
 |some d=>.ret S true d
 |none=>.fail
noncomputable def vD (i:Nat):VS:=λS=>match S[i]? with
 |some (some (.ow,d))=>.ret (S.set i none) true d
 |some (some (.fr,d))=>.ret S false d
 |_=>.fail
section
variable {K:PySem.W.Frag}{aK:Nat->Option Addr}{G H₀ F H F' H':Hp}{S:GS}{σ:St}
theorem lO {S:GS}{i j:Nat}{x:Tg×PyData}(h:(S.set i none)[j]? =some (some x)):j≠i/\S[j]? =some (some x):=by
 by_cases hj:j=i
 .subst hj
  by_cases hl:j<S.length
  .rw[List.getElem?_set_self hl] at h;cases h
  .rw[List.getElem?_eq_none (by rw[List.length_set];omega)] at h;cases h
 .rw[List.getElem?_set_ne (Ne.symm hj)] at h;exact⟨hj,h⟩
theorem VI.drop (I:VI K aK G H₀ S F σ H)(i:Nat):VI K aK G H₀ (S.set i none) F σ H where
 pl:=I.pl
 len:=by rw[List.length_set];exact I.len
 same:=I.same
 gf:=I.gf
 new:=I.new
 sub:=I.sub
 slot:=λj t d e=>I.slot j t d (lO e).2
 inj:=λj k t t' d d' v e1 e2=>I.inj j k t t' d d' v (lO e1).2 (lO e2).2
theorem Mz (I:VI K aK G H₀ S F σ H){i:Nat}{t:Tg}{d:PyData}{a:Addr}(e:S[i]? =some (some (t,d)))(ht:t.own=true)(hv:σ[i]? =some (some (.ref a))):∃xs,H a=some xs:=by
 obtain⟨v,hv',hs⟩:=I.slot i t d e
 rw[hv] at hv'
 cases hv'
 cases t with
 |fr=>cases ht
 |rf=>cases ht
 |ow=>obtain⟨a',ds,xs,_,e2,e3,_⟩:=hs;cases e2;exact⟨_,e3⟩
 |io=>obtain⟨a',ds,xs,_,e2,e3,_⟩:=hs.1;cases e2;exact⟨_,e3⟩
 |ce=>obtain⟨a',c,o,_,e2,e3,_⟩:=hs;cases e2;exact⟨_,e3⟩
theorem RN.own {d:PyData}{v:V}(I:VI K aK G H₀ S F σ H)(r:RN K F H F' H' d v):je K H₀ F' H' d v/\∀(i:Nat) t d',S[i]? =some (some (t,d'))->t.own=true->σ[i]? ≠some (some v):=by
 obtain⟨ds,a,xs,h1,h2,h3,h4,h5,h6⟩:=r
 refine⟨⟨a,ds,xs,h1,h2,h5,h4,I.same.free h3,h6⟩,λi t d' e ht hv=>?_⟩
 rw[h2] at hv
 obtain⟨ys,hy⟩:=Mz I e ht hv
 rw[h3] at hy;cases hy
end
section
variable {X:Cx}{e:Expr}{f:VE}{pos:Pos}{s:Stmt}
theorem j5 (he:PE X e (tV X.K RS f)):PS X (.Return (some e) pos) (lM X.K (fX f)):=PS.imp (cN he) λD σ H q=>by
 obtain⟨aK,G,H₀,S,F,I,q⟩:=q
 unfold fX at q
 cases e:f S with
 |none=>rw[e] at q;exact q.elim
 |some d=>rw[e] at q;exact⟨aK,G,H₀,S,F,I,d,e,λv F' H' g hv=>q v F' σ H' (I.grow g) hv⟩
theorem af8 (he:PE X e (tV X.K RN f)):PS X (.Return (some e) pos) (lM X.K (Cp f)):=PS.imp (cN he) λD σ H q=>by
 obtain⟨aK,G,H₀,S,F,I,q⟩:=q
 unfold Cp at q
 cases e:f S with
 |none=>rw[e] at q;exact q.elim
 |some d=>rw[e] at q;exact⟨aK,G,H₀,S,F,I,d,e,λv F' H' g hv=>q v F' σ H' (I.grow g) (RN.own I hv)⟩
theorem Vh {i:Nat}(he:PE X e (vR i)):PS X (.Return (some e) pos) (lM X.K (vD i)):=PS.imp (cN he) λD σ H q=>by
 obtain⟨aK,G,H₀,S,F,I,q⟩:=q
 unfold vD at q
 split at q
 .rename_i d hS
  obtain⟨v,hv,hs⟩:=I.slot i .ow d hS
  show vR i σ H D.rt
  unfold vR;rw[hv]
  refine q v F σ H (I.drop i) ⟨hs,λj t d' e ht hv'=>?_⟩
  obtain⟨hj,e⟩:=lO e
  exact hj (I.inj j i t .ow d' d v e hS ht rfl hv' hv)
 .rename_i d hS
  obtain⟨v,hv,hs⟩:=I.slot i .fr d hS
  show vR i σ H D.rt
  unfold vR;rw[hv]
  exact q v F σ H I hs
 .exact q.elim
noncomputable def gEx (f:VE):VS:=λS=>match f S with
 |some _=>.nxt S
 |none=>.fail
noncomputable def cD (f:VE)(t:VG):VS:=λS=>match f S with
 |some d=>match t d S with
  |some S'=>.nxt S'
  |none=>.fail
 |none=>.fail
theorem fY {t:VG}{js:List Nat}(h:PS X s (g8 (tV X.K RS f) (rQ X.K t js))):PS X s (lM X.K (cD f t)):=PS.imp h λD σ H q=>by
 obtain⟨aK,G,H₀,S,F,I,q⟩:=q
 unfold cD at q
 cases e:f S with
 |none=>rw[e] at q;exact q.elim
 |some d=>
  rw[e] at q
  simp only at q
  cases e2:t d S with
  |none=>rw[e2] at q;exact q.elim
  |some S'=>
   rw[e2] at q
   exact⟨aK,G,H₀,S,F,I,d,e,λv F' H' g hv=>⟨aK,G,H₀,S,F',I.grow g,d,S',hv,e2,λσ' _ I'=>q F' σ' H' I'⟩⟩
noncomputable def gOw (i:Nat)(f:VE):VS:=λS=>match f S with
 |some d=>if zy S i=true then .nxt (S.set i (some (.ow,d))) else .fail
 |none=>.fail
theorem Qx {te te':TE}{g:TG}(h:PS X s (g8 te g))(hi:∀σ H Q,te' σ H Q->te σ H Q):PS X s (g8 te' g):=PS.imp h λD σ H q=>hi σ H _ q
noncomputable def eO (i:Nat)(S:GS):GS:=match S[i]? with
 |some (some (.ow,d))=>S.set i (some (.fr,d))
 |_=>S
noncomputable def gFz (i:Nat)(g:VS):VS:=λS=>g (eO i S)
theorem VI.eO {K:PySem.W.Frag}{aK:Nat->Option Addr}{G H₀ F H:Hp}{S:GS}{σ:St}(I:VI K aK G H₀ S F σ H)(i:Nat):∃F',VI K aK G H₀ (eO i S) F' σ H:=by
 unfold VM.eO
 split
 .rename_i d hS
  obtain⟨v,hv,a,ds,xs,rfl,rfl,e3,e4,e5,e6⟩:=I.slot i .ow d hS
  have hl:i<S.length:=by
   by_cases h:i<S.length
   .exact h
   .rw[List.getElem?_eq_none (by omega)] at hS;cases hS
  have s1:Same F (upd F a (.lst xs)):=aL e4
  have s2:Same (upd F a (.lst xs)) H:=λb o e=>by
   by_cases hb:b=a
   .subst hb;rw[ao] at e;cases e;exact e3
   .rw[aq hb] at e;exact I.sub b o e
  refine⟨upd F a (.lst xs),⟨by rw[List.length_set];exact I.len,I.same,I.gf.trans s1,λb o e=>?_,s2,λj t d' e=>?_,λj k t t' d1 d2 u g1 g2 n1 n2 v1 v2=>?_,λb x u e=>by
   by_cases hb:b=a
   .subst hb;rw[ao] at e;cases e
   .rw[aq hb] at e;exact I.pl b x u e⟩⟩
  .by_cases hb:b=a
   .subst hb;exact .inr (.inl e5)
   .rw[aq hb] at e;exact I.new b o e
  .by_cases hj:j=i
   .subst hj
    rw[List.getElem?_set_self hl] at e
    cases e
    exact⟨_,hv,a,xs,rfl,bQ.of ao,e6.same s1⟩
   .rw[List.getElem?_set_ne (Ne.symm hj)] at e
    obtain⟨u,hu,hs⟩:=I.slot j t d' e
    have ow:t.own=true->je K H₀ F H d' u->je K H₀ (upd F a (.lst xs)) H d' u:=λht ⟨b,ds',ys,h1,h2,h3,h4,h5,h6⟩=>by
     refine⟨b,ds',ys,h1,h2,h3,?_,h5,h6.same s1⟩
     have:b≠a:=λz=>by
      subst z
      exact hj (I.inj j i t .ow d' _ _ e hS ht rfl hu (by rw[h2];exact hv))
     rw[aq this];exact h4
    refine⟨u,hu,?_⟩
    cases t with
    |fr=>exact Has.same s1 hs
    |ow=>exact ow rfl hs
    |io=>exact⟨ow rfl hs.1,hs.2⟩
    |rf=>exact hs
    |ce=>
     obtain⟨b,c,o,h1,h2,h3,h4,h5,h6⟩:=hs
     refine⟨b,c,o,h1,h2,h3,?_,h5,h6.same s1⟩
     have:b≠a:=λz=>by
      subst z
      exact hj (I.inj j i .ce .ow d' _ _ e hS rfl rfl hu (by rw[h2];exact hv))
     rw[aq this];exact h4
  .have nj:∀{j:Nat}{t:Tg} {d1:PyData},(S.set i (some (.fr,.list ds)))[j]? =some (some (t,d1))->t.own=true->S[j]? =some (some (t,d1)):=λ{j t d1} g1 n1=>by
    by_cases hj:j=i
    .subst hj;rw[List.getElem?_set_self hl] at g1;cases g1;exact absurd n1 Bool.false_ne_true
    .rw[List.getElem?_set_ne (Ne.symm hj)] at g1;exact g1
   exact I.inj j k t t' d1 d2 u (nj g1 n1) (nj g2 n2) n1 n2 v1 v2
 .exact⟨F,I⟩
end
section
variable {K:PySem.W.Frag}{aK:Nat->Option Addr}{G H₀ F H:Hp}{S:GS}{σ:St}
noncomputable def lQ (S:GS)(i:Nat):Option (Tg×List PyData):=match S[i]? with
 |some (some (.ow,.list ds))=>some (.ow,ds)
 |some (some (.io,.list ds))=>some (.io,ds)
 |_=>none
theorem MF {i:Nat}{t:Tg}{ds:List PyData}(h:lQ S i=some (t,ds)):S[i]? =some (some (t,.list ds))/\t.own=true:=by
 unfold lQ at h
 split at h
 .cases h;exact⟨by assumption,rfl⟩
 .cases h;exact⟨by assumption,rfl⟩
 .cases h
theorem Eh {i:Nat}{t:Tg}{ds:List PyData}(h:lQ S i=some (t,ds)):t=.ow\/t=.io:=by
 unfold lQ at h
 split at h
 .cases h;exact .inl rfl
 .cases h;exact .inr rfl
 .cases h
theorem VI.own (I:VI K aK G H₀ S F σ H){i:Nat}{t:Tg}{ds:List PyData}(h:lQ S i=some (t,ds)):∃a xs,σ[i]? =some (some (.ref a))/\H a=some (.lst xs)/\aJ K F ds xs/\
  ∀(ds':List PyData) (xs':List V) (F' H':Hp),bY F H F' H'->aJ K F' ds' xs'->VI K aK G H₀ (S.set i (some (t,.list ds'))) F' σ (upd H' a (.lst xs')):=by
 obtain⟨hS,ht⟩:=MF h
 obtain⟨v,hv,hs⟩:=I.slot i t _ hS
 have ho:je K H₀ F H (.list ds) v:=by
  rcases Eh h with rfl|rfl
  .exact hs
  .exact hs.1
 obtain⟨a,ds0,xs,e1,rfl,e3,e4,e5,e6⟩:=ho
 cases e1
 have hl:i<S.length:=by
  by_cases h:i<S.length
  .exact h
  .rw[List.getElem?_eq_none (by omega)] at hS;cases hS
 refine⟨a,xs,hv,e3,e6,λds' xs' F' H' g hx=>?_⟩
 have J:=I.grow g
 have hF':F' a=none:=by
  cases q:F' a with
  |none=>rfl
  |some o=>
   rcases g.new a o q with z|z|z
   .rw[e4] at z;cases z
   .rw[e3] at z;cases z
   .have:=g.fh a o q
    rw[g.hh _ _ e3] at this;cases this;simp[pB] at z
 refine⟨by rw[List.length_set];exact I.len,λb o e=>?_,J.gf,J.new,λb o e=>?_,λj t' d' e=>?_,λj k t1 t2 d1 d2 u g1 g2 n1 n2 v1 v2=>?_,J.pl⟩
 .rw[aq (aR e e5)];exact J.same b o e
 .rw[aq (aR e hF')];exact J.sub b o e
 .by_cases hj:j=i
  .subst hj
   rw[List.getElem?_set_self hl] at e
   cases e
   refine⟨_,hv,?_⟩
   have o:je K H₀ F' (upd H' a (.lst xs')) (.list ds') (.ref a):=⟨a,ds',xs',rfl,rfl,ao,hF',e5,hx⟩
   rcases Eh h with rfl|rfl
   .exact o
   .exact⟨o,hs.2⟩
  .rw[List.getElem?_set_ne (Ne.symm hj)] at e
   obtain⟨u,hu,hs'⟩:=J.slot j t' d' e
   have ow:t'.own=true->je K H₀ F' H' d' u->je K H₀ F' (upd H' a (.lst xs')) d' u:=λht' ⟨b,ds1,ys,h1,h2,h3,h4,h5,h6⟩=>by
    refine⟨b,ds1,ys,h1,h2,?_,h4,h5,h6⟩
    have:b≠a:=λz=>by
     subst z
     exact hj (I.inj j i t' t d' _ _ e hS ht' ht hu (by rw[h2];exact hv))
    rw[aq this];exact h3
   refine⟨u,hu,?_⟩
   cases t' with
   |fr=>exact hs'
   |ow=>exact ow rfl hs'
   |io=>exact⟨ow rfl hs'.1,hs'.2⟩
   |rf=>exact hs'
   |ce=>
    obtain⟨b,c,o,h1,h2,h3,h4,h5,h6⟩:=hs'
    refine⟨b,c,o,h1,h2,?_,h4,h5,h6⟩
    have:b≠a:=λz=>by
     subst z
     exact hj (I.inj j i .ce t d' _ _ e hS rfl ht hu (by rw[h2];exact hv))
    rw[aq this];exact h3
 .have nj:∀{j:Nat}{t1:Tg} {d1:PyData},(S.set i (some (t,.list ds')))[j]? =some (some (t1,d1))->t1.own=true->∃d2,S[j]? =some (some (t1,d2)):=λ{j t1 d1} g1 n1=>by
   by_cases hj:j=i
   .subst hj;rw[List.getElem?_set_self hl] at g1;cases g1;exact⟨_,hS⟩
   .rw[List.getElem?_set_ne (Ne.symm hj)] at g1;exact⟨_,g1⟩
  obtain⟨d3,q1⟩:=nj g1 n1
  obtain⟨d4,q2⟩:=nj g2 n2
  exact I.inj j k t1 t2 d3 d4 u q1 q2 n1 n2 v1 v2
end
noncomputable def ajn (i:Nat)(fs:VA):VS:=λS=>match lQ S i,fs S with
 |some (t,ds),some [d]=>@ite _ (ds.length<sizeLine) (Classical.propDecidable _) (.nxt (S.set i (some (t,.list (ds++[d]))))) .fail
 |_,_=>.fail
noncomputable def Qy (i:Nat)(fk f:VE):VS:=λS=>match f S,fk S,lQ S i with
 |some d,some (.int k),some (t,ds)=>(match nu ds.length k with
  |some j=>.nxt (S.set i (some (t,.list (ds.set j d))))
  |none=>.fail)
 |_,_,_=>.fail
noncomputable def af9 (h:PyData->PyData->Option PyData)(i:Nat)(fk f:VE):VS:=λS=>match lQ S i,fk S,f S with
 |some (t,ds),some (.int k),some y=>(match nu ds.length k with
  |some j=>(match ds[j]? with
   |some x=>(match h x y with
    |some z=>.nxt (S.set i (some (t,.list (ds.set j z))))
    |none=>.fail)
   |none=>.fail)
  |none=>.fail)
 |_,_,_=>.fail
noncomputable def ajo (h:PyData->PyData->Option PyData)(i:Nat)(f:VE):VS:=λS=>match S[i]?,f S with
 |some (some (.fr,x)),some y=>(match h x y with
  |some z=>.nxt (S.set i (some (.fr,z)))
  |none=>.fail)
 |_,_=>.fail
section
variable {X:Cx}{s:Stmt}{fs:VA}{f fk:VE}{h:PyData->PyData->Option PyData}
theorem Qz {i:Nat}(hp:PS X s (g8 (tV X.K RS f) (zc (vR i) (tV X.K RW fk) Cj))):PS X s (lM X.K (Qy i fk f)):=PS.imp hp λD σ H q=>by
 obtain⟨aK,G,H₀,S,F,I,q⟩:=q
 unfold Qy at q
 split at q
 .rename_i d k t ds q1 q2 q3
  split at q
  .rename_i j q4
   refine⟨aK,G,H₀,S,F,I,d,q1,λv F1 H1 g1 hv=>?_⟩
   obtain⟨a,xs,hv',hH,hx,nx⟩:=(I.grow g1).own q3
   show vR i σ H1 _
   unfold vR;rw[hv']
   refine⟨aK,G,H₀,S,F1,I.grow g1,_,q2,λu F2 H2 g2 hu=>?_⟩
   have eu:u=.int k:=hu
   subst eu
   refine⟨xs,j,g2.hh _ _ hH,by rw[<-hx.length];exact q4,q F2 σ _ (nx _ _ F2 H2 g2 (aJ.set (Has.same g2.ff hv) j (hx.same g2.ff)))⟩
  .exact q.elim
 .exact q.elim
end
noncomputable def kO (t:VG)(g:VS):List PyData->GS->Out
 |[],S=>.nxt S
 |d::r,S=>match t d S with
  |none=>.fail
  |some S1=>match g S1 with
   |.nxt S2=>kO t g r S2
   |.cnt S2=>kO t g r S2
   |.brk S2=>.nxt S2
   |.ret S2 b e=>.ret S2 b e
   |.fail=>.fail
noncomputable def Ei (fi:VA)(t:VG)(g:VS):VS:=λS=>match fi S with
 |some ds=>kO t g ds S
 |none=>.fail
section
variable {X:Cx}{s:Stmt}{t:VG}{js:List Nat}{g:VS}{fi:VA}{tc:VT}
theorem ZV (hp:PS X s (Dh (Ec X.K fi) (rQ X.K t js) (lM X.K g))):PS X s (lM X.K (Ei fi t g)):=PS.imp hp λD σ H q=>by
 obtain⟨aK,G,H₀,S,F,I,q⟩:=q
 unfold Ei at q
 split at q
 .rename_i ds q1
  refine⟨aK,G,H₀,S,F,I,ds,q1,λJ F1 H1 g1 it=>?_⟩
  have I1:=I.grow g1
  refine⟨λi m σ' H'=>∃S' F',m=ds.length - i/\i<=ds.length/\VI X.K aK F1 H₀ S' F' σ' H'/\JG X.K aK G H₀ D (kO t g (ds.drop i) S'),⟨_,S,F1,rfl,Nat.zero_le _,I1.self,q⟩,?_⟩
  rintro i m σ' H' ⟨S',F',rfl,hi,I',q'⟩
  by_cases hlt:i<ds.length
  .have hd:ds[i]? =some ds[i]:=by simp[hlt]
   rw[List.drop_eq_getElem_cons hlt] at q'
   obtain⟨go,yl⟩:=it.go i ds[i] F' H' hd I'.gf I'.sub
   generalize ds[i]=d0 at*
   unfold kO at q'
   cases q2:t d0 S' with
   |none=>rw[q2] at q';exact q'.elim
   |some S1=>
    rw[q2] at q'
    simp only at q'
    refine .inr ⟨go,λσ2 H2=>∃m',m'<ds.length - i/\∃S2 F2,m'=ds.length - (i+1)/\i+1<=ds.length/\VI X.K aK F1 H₀ S2 F2 σ2 H2/\JG X.K aK G H₀ D (kO t g (ds.drop (i+1)) S2),λ_ _ h=>h,λx H2 y=>?_⟩
    obtain⟨F2,g2,hx⟩:=yl x H2 y
    refine⟨aK,F1,H₀,S',F2,I'.grow g2,d0,S1,hx,q2,λσ3 _ I3=>⟨aK,F1,H₀,S1,F2,I3,?_⟩⟩
    cases q3:g S1 with
    |fail=>rw[q3] at q';exact q'.elim
    |nxt S2=>rw[q3] at q';exact λF4 MJ H4 I4=>⟨_,by omega,S2,F4,rfl,hlt,I4,q'⟩
    |cnt S2=>rw[q3] at q';exact λF4 MJ H4 I4=>⟨_,by omega,S2,F4,rfl,hlt,I4,q'⟩
    |brk S2=>rw[q3] at q';exact λF4 MJ H4 I4=>q' F4 MJ H4 (I1.rebase I4)
    |ret S2 b e=>rw[q3] at q';exact λv F4 MJ H4 I4 r=>q' v F4 MJ H4 (I1.rebase I4) r
  .have e:i=ds.length:=by omega
   subst e
   rw[List.drop_eq_nil_of_le (Nat.le_refl _)] at q'
   exact .inl ⟨it.stop _ F' H' (Nat.le_refl _) I'.gf I'.sub,q' F' σ' H' (I1.rebase I')⟩
 .exact q.elim
end
noncomputable def ini (nN:Nat)(ds:List PyData):GS:=ds.map (λd=>some (.fr,d))++List.replicate (nN - ds.length) none
noncomputable def oh (n nN:Nat)(g:VS):jF:=λds=>if ds.length=n then(match g (ini nN ds) with
 |.ret _ b d=>some (b,d)
 |.nxt _=>some (false,.none)
 |_=>none) else none
theorem HF {nN:Nat}{ds:List PyData}{i:Nat}{t:Tg}{d:PyData}(h:(ini nN ds)[i]? =some (some (t,d))):ds[i]? =some d/\t=.fr:=by
 unfold ini at h
 by_cases hi:i<ds.length
 .rw[List.getElem?_append_left (by simpa using hi),List.getElem?_map] at h
  cases q:ds[i]? with
  |none=>rw[q] at h;cases h
  |some d'=>rw[q] at h;simp at h;exact⟨by rw[h.2],h.1.symm⟩
 .rw[List.getElem?_append_right (by simpa using hi),List.getElem?_replicate] at h
  split at h
  .cases h
  .cases h
section
variable {P:Program}{w:World}{K:PySem.W.Frag}{mg:Str->Option Value}{base:Heap}
theorem ZW {G H:Hp}{N:List Str}{ds:List PyData}{vs:List V}(hs:Same G H)(h:aJ K G ds vs):VI K (λ_=>none) G H (ini N.length ds) G (L2.start N vs) H where
 pl:=λ_ _ _ e=>e
 len:=by unfold ini L2.start;simp[h.length]
 same:=Same.refl _
 gf:=Same.refl _
 new:=λ_ _ e=>.inl e
 sub:=hs
 slot:=λi t d e=>by
  obtain⟨e1,rfl⟩:=HF e
  obtain⟨v,hv,hh⟩:=h.at e1
  refine⟨v,?_,hh⟩
  have hl:i<vs.length:=by
   by_cases z:i<vs.length
   .exact z
   .rw[List.getElem?_eq_none (by omega)] at hv;cases hv
  unfold L2.start
  rw[List.getElem?_append_left (by simpa using hl),List.getElem?_map,hv]
  rfl
 inj:=λi j t t' d d' v e1 _ n1=>by
  rw[(HF e1).2] at n1;exact absurd n1 Bool.false_ne_true
theorem ajp {x qual:Str}{st:Stmt}{f:Addr}{fd:FuncData}{N ps:List Str}{k:Nat}{g:VS}(F:dB K x qual st f fd)(S:bF N ps (aj st))
  (hb:∀(cdv:Value) (A:Around) (outer:List Env) (s:Shared) (H:Hp) (E:XK),cR k (A.deeper (PyProof.Rows.envOfC qual (aj st) s.heap.objs.size f cdv))->gW (fW dG P w K mg base N qual (aj st) f cdv A outer s H E).oY (aU st) (lM K g)):
  aW P w K mg base dG (k+1) f fd ps (d9 K (oh ps.length N.length g)):=by
 refine F.ok S (λvs H Q E h=>?_) (λcdv A outer s H vs Q E hr h=>⟨_,hb cdv A outer s H E hr,?_⟩)
 .obtain⟨G,ds,_,hx,b,d,e,_⟩:=h
  unfold oh at e
  split at e
  .rename_i hl;rw[<-hx.length];exact hl
  .cases e
 .obtain⟨G,ds,hs,hx,b,d,e,q⟩:=h
  unfold oh at e
  split at e
  .refine⟨λ_=>none,G,H,ini N.length ds,G,ZW hs hx,?_⟩
   split at e
   .rename_i S' b' d' e2
    cases e
    rw[e2]
    intro v F' σ' H' I r
    refine q v F' H' ⟨I.same,I.gf,I.sub,I.new,I.pl⟩ ?_
    cases b with
    |false=>exact r
    |true=>
     obtain⟨⟨a,es,xs,h1,h2,h3,h4,h5,h6⟩,_⟩:=r
     exact⟨es,a,xs,h1,h2,h5,h4,h3,h6⟩
   .rename_i S' e2
    cases e
    rw[e2]
    intro F' σ' H' I
    exact q .non F' H' ⟨I.same,I.gf,I.sub,I.new,I.pl⟩ rfl
   .cases e
  .cases e
theorem wH {x qual:Str}{st:Stmt}{f:Addr}{fd:FuncData}{N ps:List Str}{k n nN:Nat}{g:VS}(F:dB K x qual st f fd)(S:bF N ps (aj st))(hn:ps.length=n)(hN:N.length=nN)
  (hb:∀(cdv:Value) (A:Around) (outer:List Env) (s:Shared) (H:Hp) (E:XK),cR k (A.deeper (PyProof.Rows.envOfC qual (aj st) s.heap.objs.size f cdv))->gW (fW dG P w K mg base N qual (aj st) f cdv A outer s H E).oY (aU st) (lM K g)):
  aW P w K mg base dG (k+1) f fd ps (d9 K (oh n nN g)):=by
 subst hn hN
 exact ajp F S hb
end
end VM
namespace VM
open PySem L2
open PyProof.Rows (list_addW)
noncomputable def aga (K:PySem.W.Frag):R2:=λx y H Q=>∃l b xs zs,x=.ref l/\y=.ref b/\bQ K H l xs/\bQ K H b zs/\xs.length+zs.length<=sizeLine/\∀p,H p=none->Q (.ref p) (upd H p (.lst (xs++zs)))
theorem zA {X:Cx}:cL X (binaryOp .Add) (aga X.K):=by
 intro pins s σ H x y v u Q I rx ry h
 obtain⟨l,b,xs,zs,rfl,rfl,hH,hB,hz,q⟩:=h
 cases rx
 cases ry
 obtain⟨its,r,pl,z⟩:=I.list hH
 obtain⟨its2,r2,pl2,z2⟩:=I.list hB
 have hl:=r.length
 have hl2:=r2.length
 obtain⟨⟨cls,dd,data,sl⟩,n,ho,hc,hdd,hd⟩:=pl
 obtain⟨⟨cls2,dd2,data2,sl2⟩,n2,ho2,hc2,apG,hd2⟩:=pl2
 simp only at hc hd hc2 hd2
 subst hc hd hc2 hd2
 have e:its.toArray++its2.toArray=(its++its2).toArray:=by simp
 refine concat_meets ⟨_,ho,rfl⟩ ⟨_,ho2,rfl⟩ noFill_list_add seq_list_add PySem.F.slot_list_add PySem.F.entry_list_add (PySem.F.args_list_add_2 _ _) (list_addW l b its.toArray its2.toArray n n2 dd dd2 sl sl2 (by rw[List.size_toArray,List.size_toArray];omega)) ⟨ho,ho2,?_⟩
 rw[e]
 exact⟨.ref _,_,I.Zk (t':=s.toks) (r.append r2) (by rw[List.length_append];omega),rfl,q _ I.fresh⟩
noncomputable def fZ:PyData->PyData->Option PyData
 |.list xs,.list ys=>@ite _ (xs.length+ys.length<=sizeLine) (Classical.propDecidable _) (some (.list (xs++ys))) none
 |_,_=>none
noncomputable def yg:PyData->PyData->Option PyData
 |.tuple xs,.tuple ys=>@ite _ (xs≠[]/\xs.length+ys.length<=sizeLine) (Classical.propDecidable _) (some (.tuple (xs++ys))) none
 |_,_=>none
section
variable {X:Cx}{a b e:Expr}{fa fb f:VE}{pos:Pos}{s:Stmt}{fs:VA}
theorem dCat (ha:PE X a (tV X.K RM fa))(hb:PE X b (tV X.K RM fb)):PE X (.BinOp a .Add b pos) (tV X.K RN (v2 fZ fa fb)):=(iK zA ha hb).imp λ_ H Q q=>by
 obtain⟨aK,G,H₀,S,F,I,d,e,q⟩:=q
 obtain⟨x,y,ex,ey,e⟩:=rO e
 refine⟨aK,G,H₀,S,F,I,x,ex,λv F1 H1 g1 hx=>⟨aK,G,H₀,S,F1,I.grow g1,y,ey,λu F2 H2 g2 hy=>?_⟩⟩
 unfold fZ at e
 split at e
 .split at e
  .rename_i hz
   cases e
   obtain⟨p,xs,rfl,h1,h2⟩:=RM.list g2.fh (RM.grow g2 hx)
   obtain⟨p',ys,rfl,h3,h4⟩:=RM.list g2.fh hy
   have g:=g1.trans g2
   refine⟨p,p',xs,ys,rfl,rfl,h1,h3,by rw[<-h2.length,←h4.length];exact hz,λz hz=>q _ F2 _ (g.trans (bY.alloc g2.fh hz)) ⟨_,z,_,rfl,rfl,g.hh.free hz,g2.fh.free hz,ao,aJ.append h4 h2⟩⟩
  .cases e
 .cases e
theorem agb (ha:PE X a (tV X.K RS fa))(hb:PE X b (tV X.K RS fb)):PE X (.BinOp a .Add b pos) (tV X.K RS (v2 yg fa fb)):=(iK WT ha hb).imp λ_ H Q q=>by
 obtain⟨aK,G,H₀,S,F,I,d,e,q⟩:=q
 obtain⟨x,y,ex,ey,e⟩:=rO e
 refine⟨aK,G,H₀,S,F,I,x,ex,λv F1 H1 g1 hx=>⟨aK,G,H₀,S,F1,I.grow g1,y,ey,λu F2 H2 g2 hy=>?_⟩⟩
 unfold yg at e
 split at e
 .rename_i dx dy
  split at e
  .rename_i hz
   cases e
   obtain⟨p,xs,rfl,h1,h2⟩:=Has.same g2.ff hx
   obtain⟨p',ys,rfl,h3,h4⟩:=hy
   have g:=g1.trans g2
   have hl:=h2.length
   have hl4:=h4.length
   refine⟨p,p',xs,ys,rfl,rfl,g2.fh.wV h1,g2.fh.wV h3,λz=>hz.1 ?_,by rw[<-h2.length,←h4.length];exact hz.2,λz=>?_,λ_ z hz=>q _ _ _ (g.trans (bY.xV g2.fh hz)) ⟨z,_,rfl,bM.of ao,aJ.same (aL (g2.fh.free hz)) (aJ.append h4 h2)⟩⟩
   .rw[z] at hl;exact List.eq_nil_of_length_eq_zero hl
   .rw[z] at hl4
    have:dy=[]:=List.eq_nil_of_length_eq_zero hl4
    subst this
    rw[List.append_nil] at q
    exact q _ F2 H2 g ⟨p,xs,rfl,h1,h2⟩
  .cases e
 .cases e
end
noncomputable abbrev ajq:=uP λa b=>.int (Builtin.bitXor a b)
noncomputable def JH (i:Nat)(f:VE):VS:=λS=>match f S with
 |some d=>if zy S i=true then .nxt (S.set i (some (.fr,d))) else .fail
 |none=>.fail
section
variable {X:Cx}{e:Expr}{f:VE}{pos:Pos}{s:Stmt}
theorem ajr {i:Nat}(h:PS X s (g8 (tV X.K RN f) (fG i))):PS X s (lM X.K (JH i f)):=PS.imp h λD σ H q=>by
 obtain⟨aK,G,H₀,S,F,I,q⟩:=q
 unfold JH at q
 cases e:f S with
 |none=>rw[e] at q;exact q.elim
 |some d=>
  rw[e] at q
  simp only at q
  split at q
  .refine⟨aK,G,H₀,S,F,I,d,e,λv F' H' g hv=>?_⟩
   obtain⟨F'',g2,r2⟩:=RN.eO g hv
   exact q F'' _ H' ((I.grow g2).set r2)
  .exact q.elim
noncomputable def ajs (i:Nat):VS:=λS=>match lQ S i with
 |some (t,_)=>.nxt (S.set i (some (t,.list [])))
 |none=>.fail
noncomputable def ajt (i:Nat):VS:=λS=>match lQ S i with
 |some (t,ds)=>if ds=[] then .fail else .nxt (S.set i (some (t,.list ds.dropLast)))
 |none=>.fail
theorem aJ.dropLast {K:PySem.W.Frag}{H:Hp}{ds:List PyData}{vs:List V}(h:aJ K H ds vs):aJ K H ds.dropLast vs.dropLast:=by
 rw[List.dropLast_eq_take,List.dropLast_eq_take,h.length]
 exact aJ.take _ h
end
structure Bl (mg:Str->Option Value):Prop where
 len:mg "len"=none
 list:mg "list"=none
 range:mg "range"=none
 enumerate:mg "enumerate"=none
 zip:mg "zip"=none
 abs:mg "abs"=none
 sum:mg "sum"=none
 min:mg "min"=none
 max:mg "max"=none
 int:mg "int"=none
 bool:mg "bool"=none
 tuple:mg "tuple"=none
 str:mg "str"=none
 sorted:mg "sorted"=none
 set:mg "set"=none
 isinstance:mg "isinstance"=none
structure kW (K:PySem.W.Frag):Prop where
 int:uT K "int"
 bool:uT K "bool"
 list:uT K "list"
 tuple:uT K "tuple"
end VM
namespace VM
open PySem L2
theorem Xa {K:PySem.W.Frag}:uT K "int":=⟨λd d' h=>by
 cases d with
 |none=>cases h;kernel_rfl
 |bool _=>cases h;kernel_rfl
 |int _=>cases h;kernel_rfl
 |str _=>cases h;kernel_rfl
 |list _=>cases h;kernel_rfl
 |tuple _=>cases h;kernel_rfl
 |dict _=>cases h⟩
theorem QB {K:PySem.W.Frag}:uT K "bool":=⟨λd d' h=>by
 cases d with
 |none=>cases h;kernel_rfl
 |bool _=>cases h;kernel_rfl
 |int _=>cases h;kernel_rfl
 |str _=>cases h;kernel_rfl
 |list _=>cases h;kernel_rfl
 |tuple _=>cases h;kernel_rfl
 |dict _=>cases h⟩
theorem QC {K:PySem.W.Frag}:uT K "list":=⟨λd d' h=>by
 cases d with
 |none=>cases h;kernel_rfl
 |bool _=>cases h;kernel_rfl
 |int _=>cases h;kernel_rfl
 |str _=>cases h;kernel_rfl
 |list _=>cases h;kernel_rfl
 |tuple _=>cases h;kernel_rfl
 |dict _=>cases h⟩
theorem kit_tuple {K:PySem.W.Frag}:uT K "tuple":=⟨λd d' h=>by
 cases d with
 |none=>cases h;kernel_rfl
 |bool _=>cases h;kernel_rfl
 |int _=>cases h;kernel_rfl
 |str _=>cases h;kernel_rfl
 |list _=>cases h;kernel_rfl
 |tuple _=>cases h;kernel_rfl
 |dict _=>cases h⟩
theorem lR (K:PySem.W.Frag):kW K:=⟨Xa,QB,QC,kit_tuple⟩
noncomputable def Cq (K:PySem.W.Frag):Sp:=λvs H Q _=>∃(a:Addr) (ns:List Int),vs=[.ref a]/\bQ K H a (ns.map V.int)/\ns.length<=63/\∀H',Q (.bl true) H'
theorem walk {k:Nat}{x:Str}{l:PySem.W.OpenLaw}{q:Program}{loose:List Str}{XP:(Str->Option Value)->Heap->Prop}{YP:World->Heap->Prop}{d:DefRec}{K:Params->PySem.W.Frag}(hn:l.most=some 63)(hdf:d.params.defaults=[])(hr:cR k callerA)
  (hY:∀(w:World) (h:Heap),YP w h->(K w.params).In h)
  (F:∀(w:World) (mg:Str->Option Value) (fa:Addr) (h:Heap),(K w.params).In h->h.Ns mainGlobals mg->mg d.name=some (.ref fa)->
   ∃fd:FuncData,(∀(s:Shared) (u:Value),BindsTo s fd ⟨[u],[]⟩ [(x,u)])/\∀base:Heap,(K w.params).In base->base.Ns mainGlobals mg->aW l.prog w (K w.params) mg base dG k fa fd [x] (Cq (K w.params))):
  PySem.W.WalkO q loose XP YP l.row.toRowW d [] (λf vs=>PySem.call f vs):=
 L2.WX (n:=63) (k:=k) (x:=x) (CX:=λ_=>dG) (sp:=λw=>Cq (K w.params)) hn (by decide) hdf hr hY F (λ_ _ a ns hl _ hS=>⟨a,ns,rfl,hS,hl,λ_=>rfl⟩) λ_ _ _ _ _ z=>z
end VM
namespace VM
open PySem L2
noncomputable def jf (K:PySem.W.Frag)(F:Hp)(v0:V):List (Option PyData)->List V->Prop
 |[],vs=>vs=[]
 |some d::r,vs=>∃v us,vs=v::us/\Has K F d v/\jf K F v0 r us
 |none::r,vs=>∃us,vs=v0::us/\jf K F v0 r us
theorem jf.same {K:PySem.W.Frag}{F F':Hp}{v0:V}(e:Same F F'):∀{os:List (Option PyData)}{vs:List V},jf K F v0 os vs->jf K F' v0 os vs
 |[],_,h=>h
 |some _::_,_,⟨v,us,h1,h2,h3⟩=>⟨v,us,h1,Has.same e h2,jf.same e h3⟩
 |none::_,_,⟨us,h1,h3⟩=>⟨us,h1,jf.same e h3⟩
theorem jf.length {K:PySem.W.Frag}{F:Hp}{v0:V}:∀{os:List (Option PyData)}{vs:List V},jf K F v0 os vs->os.length=vs.length
 |[],vs,h=>by have h':vs=[]:=h;rw[h'];rfl
 |some _::_,_,⟨v,us,h1,_,h3⟩=>by rw[h1];exact congrArg (· +1) (jf.length h3)
 |none::_,_,⟨us,h1,h3⟩=>by rw[h1];exact congrArg (· +1) (jf.length h3)
theorem jf.at {K:PySem.W.Frag}{F:Hp}{v0:V}:∀{os:List (Option PyData)}{vs:List V} {i:Nat} {o:Option PyData},jf K F v0 os vs->os[i]? =some o->∃v,vs[i]? =some v/\match o with|some d=>Has K F d v|none=>v=v0
 |[],_,i,o,_,e=>by simp at e
 |some d::_,_,0,o,⟨v,us,h1,h2,h3⟩,e=>by
  have e':some d=o:=by simpa using e
  subst e';rw[h1];exact⟨v,rfl,h2⟩
 |none::_,_,0,o,⟨us,h1,h3⟩,e=>by
  have e':none=o:=by simpa using e
  subst e';rw[h1];exact⟨v0,rfl,rfl⟩
 |some _::r,_,i+1,o,⟨v,us,h1,h2,h3⟩,e=>by
  obtain⟨u,q1,q2⟩:=jf.at (i:=i) (o:=o) h3 (by simpa using e)
  rw[h1];exact⟨u,by simpa using q1,q2⟩
 |none::r,_,i+1,o,⟨us,h1,h3⟩,e=>by
  obtain⟨u,q1,q2⟩:=jf.at (i:=i) (o:=o) h3 (by simpa using e)
  rw[h1];exact⟨u,by simpa using q1,q2⟩
noncomputable abbrev VIO:=GS->Option (List (Option PyData))
section
variable {X:Cx}{e:Expr}{es:List Expr}{f:VE}{fs:VIO}{j:Nat}
end
noncomputable abbrev aju:=List (Option PyData)->List PyData->Option (Bool×PyData×List PyData)
section
variable {X:Cx}{s:Stmt}{m:aju}{j:Nat}{fs:VIO}
end
section
variable {P:Program}{w:World}{K:PySem.W.Frag}{mg:Str->Option Value}{base:Heap}
end
end VM
namespace VM
open PySem L2
section
variable {X:Cx}{o e1 e2:Expr}{apos cpos:Pos}
noncomputable def gRv (i:Nat):VS:=λS=>match lQ S i with
 |some (t,ds)=>.nxt (S.set i (some (t,.list ds.reverse)))
 |none=>.fail
noncomputable def agc {α:Type}(k:Nat)(y:α)(xs:List α):List α:=xs.take k++y::xs.drop k
noncomputable def ajv (i:Nat)(fs:VA):VS:=λS=>match lQ S i,fs S with
 |some (t,ds),some [.int k,d]=>@ite _ (ds.length<sizeLine/\0<=k/\k<2^62) (Classical.propDecidable _) (.nxt (S.set i (some (t,.list (agc k.toNat d ds))))) .fail
 |_,_=>.fail
noncomputable def ZX (i:Nat)(fs:VA):VS:=λS=>match lQ S i,fs S with
 |some (t,ds),some [.int k]=>@ite _ (k.toNat<ds.length/\0<=k/\k<2^62) (Classical.propDecidable _) (.nxt (S.set i (some (t,.list (ds.eraseIdx k.toNat))))) .fail
 |_,_=>.fail
end
end VM
namespace VM
open PySem L2
noncomputable def unlike (ns:List Int):List Int:=PyProof.Rows.firstMet (λi=>ns.getD i 0) ns.length
section
variable {X:Cx}
noncomputable def Xb:PyData->Option PyData
 |.list ds=>match intsOf ds with
  |some ns=>@ite _ (ns.length<=4000) (Classical.propDecidable _) (some (.int (unlike ns).length)) none
  |none=>none
 |_=>none
noncomputable def Xc (f:VE):VE:=v1 Xb f
end
end VM
namespace VM
open PySem PyProof PyProof.Rows L2
section
variable {X:Cx}{a b c:Expr}{ta tb tc:TE}{fa fb fc:VE}{pos:Pos}{h h':PyData->PyData->Option PyData}{r r':R2}
theorem ajw {op op':CmpOp}(ho:cL X (compareOp op) r)(ho':cL X (compareOp op') r')(ha:PE X a ta)(hb:PE X b tb)(hc:PE X c tc)
  (hm:lastMarks [op,op'] [b,c]=false:=by with_unfolding_all rfl):PT X (.Compare a [op,op'] [b,c] pos) (iB (Qm r r' ta tb tc)):=by
 intro pins s σ H Q I q
 refine isTrue_chain (aQ (ha pins s σ H _ I q) λv s1 ⟨x,H1,I1,r1,q1⟩=>test_link (aQ (hb pins s1 σ H1 _ I1 q1) λu s2 ⟨y,H2,I2,r2,q2⟩=>
  aQ (ho pins s2 σ H2 x y v u _ I2 r1 r2 q2) λd s3 ⟨z,H3,I3,r3,q3⟩=>?_)) hm
 cases z with
 |bl k=>
  cases r3
  refine wpAny_truthy_bool ?_
  cases k with
  |false=>exact ite_ff ⟨H3,I3,q3⟩
  |true=>
   refine ite_tt (test_last (aQ (hc pins s3 σ H3 _ I3 q3) λw' s4 ⟨z',H4,I4,r4,q4⟩=>aQ (ho' pins s4 σ H4 y z' u w' _ I4 r2 r4 q4) λd' s5 ⟨z2,H5,I5,r5,q5⟩=>?_))
   cases z2 with
   |bl k2=>cases r5;exact wpAny_truthy_bool ⟨H5,I5,q5⟩
   |_=>exact False.elim q5
 |_=>exact False.elim q3
theorem cCh {op op':CmpOp}(ho:cL X (compareOp op) r)(hd:iR X.K h r)(ho':cL X (compareOp op') r')(hd':iR X.K h' r')(ha:PE X a (tV X.K RW fa))(hb:PE X b (tV X.K RW fb))(hc:PE X c (tV X.K RW fc))
  (hm:lastMarks [op,op'] [b,c]=false:=by with_unfolding_all rfl):PT X (.Compare a [op,op'] [b,c] pos) (gR X.K (vB (nC h h' fa fb fc))):=
 PT.imp (ajw ho ho' ha hb hc hm) λ_ _ _ q=>Qq (λ_ q=>ZP hd hd' q) q
end
end VM
namespace VM
open PySem PySem.Spec PyProof.Rows L2
section
variable {X:Cx}{tg:Expr}
end
end VM
namespace VM
open PySem L2
set_option exponentiation.threshold 3000
theorem Ej {j:Int}(h1: -10000000000000000000000000000000000000000000000000000000000000000000000000000000000000000000000000000<j)(h2:j<10000000000000000000000000000000000000000000000000000000000000000000000000000000000000000000000000000):j.natAbs<2^2000:=by
 have e:(10000000000000000000000000000000000000000000000000000000000000000000000000000000000000000000000000000:Nat)<=2^2000:=Nat.le_trans (show(10000000000000000000000000000000000000000000000000000000000000000000000000000000000000000000000000000:Nat)<=2^340 by decide +kernel) (Nat.pow_le_pow_right (by decide) (by decide))
 omega
theorem yh {a b:Int}(h1: -10000000000000000000000000000000000000000000000000000000000000000000000000000000000000000000000000000<a)(h2:a<10000000000000000000000000000000000000000000000000000000000000000000000000000000000000000000000000000)(h3: -10000000000000000000000000000000000000000000000000000000000000000000000000000000000000000000000000000<b)(h4:b<10000000000000000000000000000000000000000000000000000000000000000000000000000000000000000000000000000):zx (.int a) (.int b)=some (.int (a*b)):=if_pos ⟨Ej h1 h2,Ej h3 h4⟩
theorem eZ {a b:Int}(h0:0<b)(h1:b<10000000000000000000000000000000000000000000000000000000000000000000000000000000000000000000000000000):fD (.int a) (.int b)=some (.int (a/b)):=if_pos ⟨h0,Ej (by omega) h1⟩
theorem cg {a b:Int}(h0:0<b):cC (.int a) (.int b)=some (.int (a % b)):=if_pos h0
theorem uV {a b:Int}(h0:0<=b)(h1:b<=1000)(h2:0<=a)(h3:a<1152921504606846976):qQ (.int a) (.int b)=some (.int (a^b.toNat)):=if_pos ⟨h0,h1,by omega⟩
theorem Cr (a b:Int):lJ (.int a) (.int b)=some (.bool (decide (a=b))):=by
 have:PyData.depth (.int a)<=60:=by simp[PyData.depth]
 unfold lJ
 rw[if_pos this]
 simp only[PyData.eqv,Bool.beq_eq_decide_eq]
theorem agd (a b:Int):xW (.int a) (.int b)=some (.bool (!decide (a=b))):=by
 have:PyData.depth (.int a)<=60:=by simp[PyData.depth]
 unfold xW
 rw[if_pos this]
 simp only[PyData.eqv,Bool.beq_eq_decide_eq]
theorem agf (x:PyData):isD x .none=some (.bool (jP x)):=rfl
theorem Z0 (x:PyData):ajc x .none=some (.bool (!jP x)):=rfl
theorem Xd {t:VG}{g:VS}(P:Nat->GS->Prop):∀(ds:List PyData) (i:Nat) (S:GS),P i S->
    (∀(j:Nat) d S,ds[j]? =some d->P (i+j) S->∃S1,t d S=some S1/\∃S2,(g S1=.nxt S2\/g S1=.cnt S2)/\P (i+j+1) S2)->∃S',kO t g ds S=.nxt S'/\P (i+ds.length) S'
  |[],i,S,h,_=>⟨S,rfl,h⟩
  |d::r,i,S,h,st=>by
   obtain⟨S1,e1,S2,e2,p2⟩:=st 0 d S rfl h
   obtain⟨S',e3,p3⟩:=Xd P r (i+1) S2 p2 λj d' S' e p=>by
     have e':i+1+j=i+(j+1):=by omega
     rw[e'] at p ⊢
     exact st (j+1) d' S' (by simpa using e) p
   refine⟨S', ?_,by rw[List.length_cons];have e':i+1+r.length=i+(r.length+1):=by omega
                    rw[<-e'];exact p3⟩
   simp only[kO,e1]
   rcases e2 with e2|e2<;>(rw[e2];exact e3)
theorem Ek {t:VG}{g:VS}(f:Nat->GS):∀(ds:List PyData) (i:Nat),
  (∀(j:Nat) d,ds[j]? =some d->∃S1,t d (f (i+j))=some S1/\g S1=.nxt (f (i+j+1)))->kO t g ds (f i)=.nxt (f (i+ds.length))
 |[],i,_=>rfl
 |d::r,i,st=>by
  obtain⟨S1,e1,e2⟩:=st 0 d rfl
  have e3:=Ek f r (i+1) λj d' e=>by
   have e':i+1+j=i+(j+1):=by omega
   rw[e']
   exact st (j+1) d' (by simpa using e)
  simp only[kO]
  rw[show i+0=i from rfl] at e1
  rw[e1]
  simp only
  rw[e2]
  simp only
  rw[show i+0+1=i+1 from rfl,e3,List.length_cons]
  have e':i+1+r.length=i+(r.length+1):=by omega
  rw[e']
theorem lu {t:VG}{fc:VT}{fe:VE}{S:GS}{f:PyData->PyData}:∀{ds:List PyData},(∀d∈ds,∃S2,t d S=some S2/\fc S2=some true/\fe S2=some (f d))->n6 t fc fe S ds=some (ds.map f)
 |[],_=>rfl
 |d::r,h=>by
  obtain⟨S2,e1,e2,e3⟩:=h d List.mem_cons_self
  have ih:=lu (ds:=r) (f:=f) λx hx=>h x (List.mem_cons_of_mem _ hx)
  simp only[n6,e1,e2,e3,ih,List.map_cons]
theorem yj {t:VG}{fc:VT}{fe:VE}{S:GS}{p:PyData->Bool}{f:PyData->PyData}:∀{ds:List PyData},(∀d∈ds,∃S2,t d S=some S2/\fc S2=some (p d)/\(p d=true->fe S2=some (f d)))->n6 t fc fe S ds=some ((ds.filter p).map f)
 |[],_=>rfl
 |d::r,h=>by
  obtain⟨S2,e1,e2,e3⟩:=h d List.mem_cons_self
  have ih:=yj (ds:=r) (f:=f) (p:=p) λx hx=>h x (List.mem_cons_of_mem _ hx)
  cases q:p d with
  |true=>simp only[n6,e1,e2,q,e3 q,ih,List.filter_cons,if_true,List.map_cons]
  |false=>simp only[n6,e1,e2,q,ih,List.filter_cons,Bool.false_eq_true,if_false]
theorem yp {lo:Int}{n j:Nat}{d:PyData}(h:(iT lo n)[j]? =some d):j<n/\d=.int (lo+j):=by
 unfold iT at h
 rw[List.getElem?_map] at h
 by_cases hj:j<n
 .rw[List.getElem?_range hj] at h
  cases h
  exact⟨hj,rfl⟩
 .rw[List.getElem?_eq_none (by simp;omega)] at h
  cases h
theorem nR (lo:Int)(n:Nat):(iT lo n).length=n:=by simp[iT]
end VM
namespace VM
open PySem L2
noncomputable def El (o:Out)(g:VS):Out:=match o with
 |.nxt S=>g S
 |o=>o
noncomputable def Z1 (o:Option Bool)(g1 g2:VS)(S:GS):Out:=match o with
 |some true=>g1 S
 |some false=>g2 S
 |none=>.fail
noncomputable def QD (o:Option Bool)(g:VT)(S:GS):Option Bool:=match o with
 |some true=>g S
 |some false=>some false
 |none=>none
noncomputable def Z2 (o:Option Bool)(g:VT)(S:GS):Option Bool:=match o with
 |some true=>some true
 |some false=>g S
 |none=>none
noncomputable def JK (o:Option PyData)(g:VE)(S:GS):Option PyData:=match o with
 |some (.bool true)=>g S
 |some (.bool false)=>some (.bool false)
 |_=>none
noncomputable def QF (o:Option PyData)(g:VE)(S:GS):Option PyData:=match o with
 |some (.bool true)=>some (.bool true)
 |some (.bool false)=>g S
 |_=>none
noncomputable def QG (o:Option Bool)(f g:VE)(S:GS):Option PyData:=match o with
 |some true=>f S
 |some false=>g S
 |none=>none
noncomputable def b2 (h:PyData->PyData->Option PyData)(o:Option PyData)(fb:VE)(S:GS):Option PyData:=match o with
 |some x=>(match fb S with
  |some y=>h x y
  |none=>none)
 |none=>none
noncomputable def b1 (h:PyData->Option PyData)(o:Option PyData):Option PyData:=match o with
 |some y=>h y
 |none=>none
noncomputable def bC (o:Option PyData)(fs:VA)(S:GS):Option (List PyData):=match o with
 |some d=>(match fs S with
  |some ds=>some (d::ds)
  |none=>none)
 |none=>none
noncomputable def bC1 (d:PyData)(o:Option (List PyData)):Option (List PyData):=match o with
 |some ds=>some (d::ds)
 |none=>none
noncomputable def bAs (o:Option PyData)(t:VG)(S:GS):Out:=match o with
 |some d=>(match t d S with
  |some S'=>.nxt S'
  |none=>.fail)
 |none=>.fail
noncomputable def bNx (o:Option GS):Out:=match o with
 |some S'=>.nxt S'
 |none=>.fail
noncomputable def bG (o:Option GS)(u:Ed)(r:List PyData):Option GS:=match o with
 |some S1=>u r S1
 |none=>none
noncomputable def JL (o:Option (Bool×PyData)):Option PyData:=match o with
 |some (_,d)=>some d
 |none=>none
noncomputable def Cu (o:Option (Bool×PyData)):Option PyData:=match o with
 |some (true,d)=>some d
 |_=>none
noncomputable def Az:Bool->PyData->Option PyData
 |true,d=>some d
 |false,_=>none
theorem Em (b:Bool)(d:PyData):Az b d=if b=true then some d else none:=by cases b<;>rfl
theorem agg (d:PyData):Az true d=some d:=rfl
noncomputable def Cv (o:Option (Bool×PyData)):Option PyData:=match o with
 |some (b,d)=>Az (JF b d) d
 |none=>none
noncomputable def yq (o:Option (Bool×PyData)):Option PyData:=match o with
 |some (true,.list es)=>Az (tH es) (.list es)
 |_=>none
noncomputable def JM (m:jF)(o:Option (List PyData)):Option PyData:=match o with
 |some ds=>JL (m ds)
 |none=>none
noncomputable def En (m:jF)(o:Option (List PyData)):Option PyData:=match o with
 |some ds=>Cu (m ds)
 |none=>none
noncomputable def Eo (m:jF)(o:Option (List PyData)):Option PyData:=match o with
 |some ds=>Cv (m ds)
 |none=>none
noncomputable def zB (m:jF)(o:Option (List PyData)):Option PyData:=match o with
 |some ds=>yq (m ds)
 |none=>none
noncomputable def Z4 (o:Option (List PyData))(t:VG)(g:VS)(S:GS):Out:=match o with
 |some ds=>kO t g ds S
 |none=>.fail
noncomputable def bFn (o:Out):Option (Bool×PyData):=match o with
 |.ret _ b d=>some (b,d)
 |.nxt _=>some (false,.none)
 |_=>none
noncomputable def Z5 (h':PyData->PyData->Option PyData)(y:PyData)(o:Option PyData)(fc:VE)(S:GS):Option PyData:=match o with
 |some (.bool true)=>(match fc S with
  |some z=>h' y z
  |none=>none)
 |some (.bool false)=>some (.bool false)
 |_=>none
section
variable {g g1 g2:VS}{S:GS}{t:VG}{u:Ed}{f fa fb fc:VE}{c c2:VT}{fs:VA}{h h':PyData->PyData->Option PyData}{d x y:PyData}{r:List PyData}{m:jF}{b:Bool}
theorem HJ:aV g1 g2 S=El (g1 S) g2:=rfl
theorem Z6:El (.nxt S) g=g S:=rfl
theorem Z7:El (.ret S b d) g=.ret S b d:=rfl
theorem Z8:El (.brk S) g=.brk S:=rfl
theorem Z9:El (.cnt S) g=.cnt S:=rfl
theorem aac:lN c g1 g2 S=Z1 (c S) g1 g2 S:=rfl
theorem agh:Z1 (some true) g1 g2 S=g1 S:=rfl
theorem agi:Z1 (some false) g1 g2 S=g2 S:=rfl
theorem Xe:jQ c c2 S=QD (c S) c2 S:=rfl
theorem aad:QD (some true) c S=c S:=rfl
theorem aae:QD (some false) c S=some false:=rfl
theorem Ep:tL c c2 S=Z2 (c S) c2 S:=rfl
theorem Vi:Z2 (some true) c S=some true:=rfl
theorem JN:Z2 (some false) c S=c S:=rfl
theorem Xf:aje fa fb S=JK (fa S) fb S:=rfl
theorem Xg:JK (some (.bool true)) f S=f S:=rfl
theorem Xh:JK (some (.bool false)) f S=some (.bool false):=rfl
theorem aaf:vOr fa fb S=QF (fa S) fb S:=rfl
theorem aag:QF (some (.bool true)) f S=some (.bool true):=rfl
theorem aah:QF (some (.bool false)) f S=f S:=rfl
theorem aai:vIf c fa fb S=QG (c S) fa fb S:=rfl
theorem aaj:QG (some true) fa fb S=fa S:=rfl
theorem aak:QG (some false) fa fb S=fb S:=rfl
theorem JQ:v2 h fa fb S=b2 h (fa S) fb S:=rfl
theorem QH:b2 h (some x) fb S=b1 (h x) (fb S):=rfl
theorem QJ {k:PyData->Option PyData}:b1 k (some y)=k y:=rfl
theorem agj {k:PyData->Option PyData}:v1 k f S=b1 k (f S):=rfl
theorem JR:aC f fs S=bC (f S) fs S:=rfl
theorem ajx:bC (some d) fs S=bC1 d (fs S):=rfl
theorem agk:bC1 d (some r)=some (d::r):=rfl
theorem aal:cD f t S=bAs (f S) t S:=rfl
theorem agl:bAs (some d) t S=bNx (t d S):=rfl
theorem agm:bNx (some S)=.nxt S:=rfl
theorem agn:gC t u (d::r) S=bG (t d S) u r:=rfl
theorem ajy:bG (some S) u r=u r S:=rfl
theorem QK:cj m fs S=JM m (fs S):=by unfold cj JM JL;rfl
theorem Xi {ds:List PyData}:JM m (some ds)=JL (m ds):=rfl
theorem MK:pG m fs S=En m (fs S):=by unfold pG En Cu;rfl
theorem QL {ds:List PyData}:En m (some ds)=Cu (m ds):=rfl
theorem MN:Mt m fs S=Eo m (fs S):=by unfold Mt Eo Cv;simp only[Em]<;>rfl
theorem QM {ds:List PyData}:Eo m (some ds)=Cv (m ds):=rfl
theorem Xj:Cv (some (b,d))=Az (JF b d) d:=rfl
theorem JT:Hw m fs S=zB m (fs S):=by unfold Hw zB yq;simp only[Em]<;>rfl
theorem MP {ds:List PyData}:zB m (some ds)=yq (m ds):=rfl
theorem QS:yq (some (true,.list r))=Az (tH r) (.list r):=rfl
theorem aam:JL (some (b,d))=some d:=rfl
theorem Xk:Cu (some (true,d))=some d:=rfl
theorem M4 {n nN:Nat}{ds:List PyData}(e:ds.length=n):oh n nN g ds=bFn (g (ini nN ds)):=by unfold oh;rw[if_pos e];rfl
theorem ago:bFn (.ret S b d)=some (b,d):=rfl
theorem agp:bFn (.nxt S)=some (false,.none):=rfl
theorem aan:nC h h' fa fb fc S=(match fa S with
 |some x=>(match fb S with
  |some y=>Z5 h' y (h x y) fc S
  |none=>none)
 |none=>none):=rfl
theorem agq:Z5 h' y (some (.bool true)) fc S=b1 (h' y) (fc S):=rfl
theorem agr:Z5 h' y (some (.bool false)) fc S=some (.bool false):=rfl
theorem ags {α:Type}(x:α)(r:List α):cT (x::r) 0=some x:=dz (j:=0) rfl
theorem agt {α:Type}(x y:α)(r:List α):cT (x::y::r) 1=some y:=dz (j:=1) rfl
theorem agu {α:Type}(x y z:α)(r:List α):cT (x::y::z::r) 2=some z:=dz (j:=2) rfl
theorem agv {α:Type}(x y z w:α)(r:List α):cT (x::y::z::w::r) 3=some w:=dz (j:=3) rfl
theorem Xl {fi:VA}:Ei fi t g S=Z4 (fi S) t g S:=rfl
theorem aao {ds:List PyData}:Z4 (some ds) t g S=kO t g ds S:=rfl
end
end VM
namespace VM
open PySem L2
noncomputable def bL (o:Option (List PyData)):Option PyData:=match o with
 |some es=>some (.list es)
 |none=>none
noncomputable def bLC (o:Option (List PyData))(cap:List (Option Nat))(t:VG)(fc:VT)(fe:VE)(S:GS):Option PyData:=match o with
 |some ds=>@ite _ (mX S cap=true/\ds.length<sizeLine) (Classical.propDecidable _) (bL (n6 t fc fe (jG cap S) ds)) none
 |none=>none
noncomputable def aaq (o:Option (List PyData))(cap:List (Option Nat))(t:VG)(fc:VT)(fe:VE)(S:GS):Option PyData:=match o with
 |some ds=>@ite _ (ds.length<sizeLine) (Classical.propDecidable _) (bL (n6 t fc (wW fe) (jG cap S) ds)) none
 |none=>none
noncomputable def bOw (o:Option PyData)(b:Bool)(i:Nat)(t:Tg)(S:GS):Out:=match o with
 |some d=>if b=true then .nxt (S.set i (some (t,d))) else .fail
 |none=>.fail
section
variable {S:GS}{cap:List (Option Nat)}{t:VG}{fc:VT}{fe f:VE}{fi:VA}{ds es:List PyData}{i:Nat}{d:PyData}{T:Tg}{b:Bool}
theorem Er:nF fi cap t fc fe S=bLC (fi S) cap t fc fe S:=by unfold nF bLC bL;rfl
theorem qx (h1:mX S cap=true)(h2:ds.length<sizeLine):bLC (some ds) cap t fc fe S=bL (n6 t fc fe (jG cap S) ds):=if_pos ⟨h1,h2⟩
theorem Xm:ZQ fi cap t fc fe S=aaq (fi S) cap t fc fe S:=by unfold ZQ aaq bL;rfl
theorem ajz:bL (some es)=some (.list es):=rfl
theorem aas:gOw i f S=bOw (f S) (zy S i) i .ow S:=rfl
theorem HS:JH i f S=bOw (f S) (zy S i) i .fr S:=rfl
theorem agw:bOw (some d) true i T S=.nxt (S.set i (some (T,d))):=rfl
noncomputable def QT (o:Option PyData):Option PyData:=match o with
 |some d=>Az (uN d) d
 |none=>none
theorem Xn:wW f S=QT (f S):=by unfold wW QT;simp only[Em]<;>rfl
theorem aat:QT (some d)=Az (uN d) d:=rfl
theorem dX {n:Nat}(h:n<=16000000):n<sizeLine:=by have e:sizeLine=16777216:=rfl;omega
end
end VM
namespace VM
open PySem L2
noncomputable def ob (v:Option PyData):Option (Tg×PyData):=v.map λd=>(Tg.fr,d)
theorem Xo (d:PyData):ob (some d)=some (Tg.fr,d):=rfl
theorem Xp:ob none=none:=rfl
theorem amx (o:Option PyData):(match ob o with|some (.io,_)=>false|_=>true)=true:=by cases o<;>rfl
end VM
namespace VM
open PySem L2
theorem aau (a b:Int):gQ (.int a) (.int b)=some (.int (a+b)):=rfl
theorem aav (a b:Int):qP (.int a) (.int b)=some (.int (a - b)):=rfl
theorem agx (a b:Int):DR (.int a) (.int b)=some (.bool (decide (a<b))):=rfl
theorem agy (a b:Int):wD (.int a) (.int b)=some (.bool (decide (a<=b))):=rfl
theorem agz (a b:Int):Va (.int a) (.int b)=some (.bool (decide (b<a))):=rfl
theorem agA (a b:Int):geD (.int a) (.int b)=some (.bool (decide (b<=a))):=rfl
theorem aaw (a b:Int):ajq (.int a) (.int b)=some (.int (Builtin.bitXor a b)):=rfl
noncomputable def HW:Option (Option (Tg×PyData))->Bool
 |some (some (.io,_))=>false
 |_=>true
theorem Xq (S:GS)(i:Nat):zy S i=HW (S[i]?):=rfl
theorem aax (o:Option PyData):HW (some (ob o))=true:=by cases o<;>rfl
theorem agB:HW (some none)=true:=rfl
theorem aay (d:PyData):HW (some (some (.fr,d)))=true:=rfl
theorem aaz (d:PyData):HW (some (some (.ow,d)))=true:=rfl
end VM
namespace VM
open PySem L2
theorem QV (ds:List PyData):qR "list" (.list ds)=some (.bool true):=by simp[qR,Eb]
theorem Xr (i:Int):qR "int" (.int i)=some (.bool true):=by simp[qR,Eb]
theorem JV (i:Int):qR "bool" (.int i)=some (.bool false):=by simp[qR,Eb]
theorem M5 (ds:List PyData):qR "tuple" (.tuple ds)=some (.bool true):=by simp[qR,Eb]
end VM
namespace L2
open PySem PySem.Spec PyProof.Rows
section
variable {κ:Type}[DecidableEq κ]
noncomputable def iU (kvs:List (κ×V))(k:κ):Option V:=(kvs.find? λkv=>decide (kv.1=k)).map (·.2)
noncomputable def putK (kvs:List (κ×V))(k:κ)(v:V):List (κ×V):=
 if(kvs.any λkv=>decide (kv.1=k))=true then kvs.map (λkv=>if kv.1=k then(kv.1,v) else kv) else kvs++[(k,v)]
noncomputable def qy (kvs:List (κ×V))(k:κ):List (κ×V):=kvs.filter λkv=>decide (kv.1≠k)
theorem pH {p:κ×V}{r:List (κ×V)}{k:κ}(e:p.1=k):iU (p::r) k=some p.2:=by simp[iU,List.find?_cons,e]
theorem pI {p:κ×V}{r:List (κ×V)}{k:κ}(e:¬p.1=k):iU (p::r) k=iU r k:=by simp[iU,List.find?_cons,e]
theorem Es (k:κ):∀kvs:List (κ×V),(kvs.any λkv=>decide (kv.1=k))=(iU kvs k).isSome
 |[]=>rfl
 |p::r=>by
  rw[List.any_cons]
  by_cases e:p.1=k
  .simp only[pH e,decide_eq_true e,Bool.true_or,Option.isSome_some]
  .rw[pI e,decide_eq_false e,Bool.false_or];exact Es k r
theorem qU (kvs:List (κ×V))(k:κ)(v:V):(putK kvs k v).length<=kvs.length+1:=by
 unfold putK
 split
 .rw[List.length_map];omega
 .rw[List.length_append,List.length_cons,List.length_nil];omega
theorem gZ.lA {o:Option V}{u:Option Value}(r:gZ o u):o.isSome=u.isSome:=by
 cases o with
 |none=>cases u with
  |none=>rfl
  |some _=>exact(show False from r).elim
 |some _=>cases u with
  |none=>exact(show False from r).elim
  |some _=>rfl
theorem gZ.getD {o:Option V}{u:Option Value}{d:V}{d':Value}(r:gZ o u)(rd:RelV d d'):RelV (o.getD d) (u.getD d'):=by
 cases o with
 |none=>cases u with
  |none=>exact rd
  |some _=>exact(show False from r).elim
 |some _=>cases u with
  |none=>exact(show False from r).elim
  |some _=>exact r
theorem KV.val {kvs:List (κ×V)}{vs:List (κ×Value)}(r:KV kvs vs)(k:κ):gZ (iU kvs k) (valueAt vs k):=by
 unfold KV at r
 induction r with
 |nil=>exact True.intro
 | @cons p q ps qs h t ih=>
  obtain⟨h1,h2⟩:=h
  by_cases e:p.1=k
  .have e':q.1=k:=h1.symm.trans e
   have b:valueAt (q::qs) k=some q.2:=by simp[valueAt,List.find?_cons,e']
   rw[pH e,b];exact h2
  .have e':¬q.1=k:=λz=>e (h1.trans z)
   have b:valueAt (q::qs) k=valueAt qs k:=by simp[valueAt,List.find?_cons,e']
   rw[pI e,b];exact ih
theorem KV.any {kvs:List (κ×V)}{vs:List (κ×Value)}(r:KV kvs vs)(k:κ):(kvs.any λkv=>decide (kv.1=k))=vs.any λkv=>decide (kv.1=k):=by
 unfold KV at r
 induction r with
 |nil=>rfl
 |cons h t ih=>rw[List.any_cons,List.any_cons,ih,h.1]
theorem KV.repl {kvs:List (κ×V)}{vs:List (κ×Value)}(r:KV kvs vs)(k:κ){y:V}{u:Value}(ry:RelV y u):
  KV (kvs.map λkv=>if kv.1=k then(kv.1,y) else kv) (vs.map λkv=>if kv.1=k then(kv.1,u) else kv):=by
 unfold KV at r ⊢
 induction r with
 |nil=>exact .nil
 | @cons p q ps qs h t ih=>
  rw[List.map_cons,List.map_cons]
  refine .cons ?_ ih
  obtain⟨h1,h2⟩:=h
  by_cases e:p.1=k
  .rw[if_pos e,if_pos (h1.symm.trans e)];exact⟨h1,ry⟩
  .rw[if_neg e,if_neg (λz=>e (h1.trans z))];exact⟨h1,h2⟩
theorem KV.put {kvs:List (κ×V)}{vs:List (κ×Value)}(r:KV kvs vs)(k:κ){y:V}{u:Value}(ry:RelV y u):KV (putK kvs k y) (stored vs k u):=by
 unfold putK stored
 rw[r.any k]
 by_cases e:(vs.any λkv=>decide (kv.1=k))=true
 .rw[if_pos e,if_pos e];exact r.repl k ry
 .rw[if_neg e,if_neg e];exact Paired.snoc r ⟨rfl,ry⟩
theorem KV.drop {kvs:List (κ×V)}{vs:List (κ×Value)}(r:KV kvs vs)(k:κ):KV (qy kvs k) (without vs k):=by
 unfold KV at r ⊢
 unfold qy without
 induction r with
 |nil=>exact .nil
 | @cons p q ps qs h t ih=>
  obtain⟨h1,h2⟩:=h
  rw[List.filter_cons,List.filter_cons]
  by_cases e:p.1=k
  .have a:¬decide (p.1≠k)=true:=by simp[e]
   have b:¬decide (q.1≠k)=true:=by simp[h1.symm.trans e]
   rw[if_neg a,if_neg b];exact ih
  .have e':¬q.1=k:=λz=>e (h1.trans z)
   have a:decide (p.1≠k)=true:=by simp[e]
   have b:decide (q.1≠k)=true:=by simp[e']
   rw[if_pos a,if_pos b];exact .cons ⟨h1,h2⟩ ih
theorem KV.length {kvs:List (κ×V)}{vs:List (κ×Value)}(r:KV kvs vs):kvs.length=vs.length:=Paired.length r
theorem Et (kvs:List (κ×V))(k:κ):(qy kvs k).length<=kvs.length:=List.length_filter_le _ _
end
theorem qC {P:Program}{w:World}{k:Key}{u:Value}(r:RelV (kV k) u):(cJ P w).is k u=true:=by
 cases k with
 |inl i=>obtain⟨t,e⟩:=(show ∃t,u=Value.int i t from r);subst e;exact GD P w i t
 |inr x=>obtain⟨t,e⟩:=(show ∃t,u=Value.str x t from r);subst e;exact GF P w x t
theorem Ba {P:Program}{w:World}:∀{ks:List Key}{us:List Value},Vals (ks.map kV) us->ItemsAre (cJ P w) ks us
 |[],_,r=>by rw[List.map_nil] at r;cases r;exact .nil
 |k::ks,_,r=>by
  rw[List.map_cons] at r
  cases r with
  |cons h t=>exact .cons (qC h) (Ba t)
noncomputable abbrev KT (H:Hp):List (List Key×V)->List (List Key×Addr×Value)->Prop:=Paired λp q=>p.1=q.1/\H q.2.1=some (.tup (p.1.map kV))/\RelV p.2 q.2.2
theorem KT.val {H:Hp}{kvs:List (List Key×V)}{xs:List (List Key×Addr×Value)}(r:KT H kvs xs)(k:List Key):gZ (iU kvs k) ((atKey xs k).map (·.2)):=by
 induction r with
 |nil=>exact True.intro
 | @cons p q ps qs h t ih=>
  obtain⟨h1,_,h2⟩:=h
  by_cases e:p.1=k
  .have e':q.1=k:=h1.symm.trans e
   have b:atKey (q::qs) k=some q.2:=by simp[atKey,List.find?_cons,e']
   rw[pH e,b];exact h2
  .have e':¬q.1=k:=λz=>e (h1.trans z)
   have b:atKey (q::qs) k=atKey qs k:=by simp[atKey,List.find?_cons,e']
   rw[pI e,b];exact ih
theorem KT.repl {H:Hp}{kvs:List (List Key×V)}{xs:List (List Key×Addr×Value)}(r:KT H kvs xs)(k:List Key){y:V}{u:Value}(ry:RelV y u):
  KT H (kvs.map λkv=>if kv.1=k then(kv.1,y) else kv) (xs.map (putAt k u)):=by
 induction r with
 |nil=>exact .nil
 | @cons p q ps qs h t ih=>
  rw[List.map_cons,List.map_cons]
  refine .cons ?_ ih
  obtain⟨h1,h2,h3⟩:=h
  unfold putAt
  by_cases e:p.1=k
  .rw[if_pos e,if_pos (h1.symm.trans e)];exact⟨h1,h2,ry⟩
  .rw[if_neg e,if_neg (λz=>e (h1.trans z))];exact⟨h1,h2,h3⟩
theorem KT.put {H:Hp}{kvs:List (List Key×V)}{xs:List (List Key×Addr×Value)}(r:KT H kvs xs)(k:List Key){b:Addr}{y:V}{u:Value}(hb:H b=some (.tup (k.map kV)))(ry:RelV y u):
  KT H (putK kvs k y) (storedH xs k b u):=by
 have e:(kvs.any λkv=>decide (kv.1=k))=(atKey xs k).isSome:=by
  rw[Es,(r.val k).lA,Option.isSome_map]
 unfold putK storedH
 rw[e]
 by_cases q:(atKey xs k).isSome=true
 .rw[if_pos q,if_pos q];exact r.repl k ry
 .rw[if_neg q,if_neg q];exact Paired.snoc r ⟨rfl,hb,ry⟩
theorem KT.keeps {H H':Hp}{kvs:List (List Key×V)}{xs:List (List Key×Addr×Value)}(r:KT H kvs xs)(ht:∀b ys,H b=some (.tup ys)->H' b=some (.tup ys)):KT H' kvs xs:=
 Paired.Px r λ_ _ z=>⟨z.1,ht _ _ z.2.1,z.2.2⟩
section
variable {P:Program}{w:World}{H:Hp}{h:Heap}{a:Addr}
theorem Vj {u:HO}(ok:fH P w H h)(e:Rd H a u):dY P w H h a u:=e.ok ok
theorem tM {kvs:List (Key×V)}(ok:fH P w H h)(e:Rd H a (.dK kvs)):kvs.length<=sizeLine/\(a==sysModules)=false/\∃vs,KV kvs vs/\h.DictOf (cJ P w) a vs:=
 show dY P w H h a (.dK kvs) from Vj ok e
theorem tO {kvs:List (Key×V)}(ok:fH P w H h)(e:H a=some (.dK kvs)):kvs.length<=sizeLine/\(a==sysModules)=false/\∃vs,KV kvs vs/\h.DictOf (cJ P w) a vs:=tM ok (.inl e)
theorem uW {ks:List Key}(ok:fH P w H h)(e:H a=some (.tup (ks.map kV))):(tupleKind (cJ P w)).is h ks a:=by
 obtain⟨_,its,r,o,h1,h2,n,h3⟩:=(show dY P w H h a (.tup (ks.map kV)) from ok a _ e)
 exact⟨o,its.toArray,n,h1,h2,h3,by simpa using Ba r⟩
theorem vG {kvs:List (List Key×V)}(ok:fH P w H h)(e:Rd H a (.dT kvs)):kvs.length<=sizeLine/\(a==sysModules)=false/\
  ∃xs,KT H kvs xs/\h.DictOfH (tupleKind (cJ P w)) a xs:=by
 obtain⟨z,y,xs,r,o,es,ep,h1,h2,h3,h4,h5⟩:=(show dY P w H h a (.dT kvs) from Vj ok e)
 refine⟨z,y,xs,r,o,es,ep,h1,h2,h3,h4,λx hx=>?_,h5⟩
 have all:∀{l:List (List Key×V)}{m:List (List Key×Addr×Value)},KT H l m->∀x∈m,(tupleKind (cJ P w)).is h x.1 x.2.1:=by
  intro l m q
  induction q with
  |nil=>intro x hx;exact nomatch hx
  | @cons p q ps qs hq t ih=>
   intro x hx
   rcases List.mem_cons.mp hx with e|hx
   .subst e
    exact uW ok (by rw[<-hq.1];exact hq.2.1)
   .exact ih x hx
 exact all r x hx
theorem agC {kvs:List (List Key×V)}(ok:fH P w H h)(e:H a=some (.dT kvs)):kvs.length<=sizeLine/\(a==sysModules)=false/\
  ∃xs,KT H kvs xs/\h.DictOfH (tupleKind (cJ P w)) a xs:=vG ok (.inl e)
end
noncomputable def jt (H:Hp)(a:Addr)(y:V)(r:Option V):Prop:=
 (∃kvs k,Rd H a (.dK kvs)/\y=kV k/\r=iU kvs k)\/∃kvs k b,Rd H a (.dT kvs)/\y=.ref b/\H b=some (.tup (k.map kV))/\r=iU kvs k
noncomputable def tQ (H:Hp)(a:Addr)(y v:V)(H':Hp):Prop:=
 (∃kvs k,H a=some (.dK kvs)/\y=kV k/\kvs.length<sizeLine/\H'=upd H a (.dK (putK kvs k v)))\/
 ∃kvs k b,H a=some (.dT kvs)/\y=.ref b/\H b=some (.tup (k.map kV))/\kvs.length<sizeLine/\H'=upd H a (.dT (putK kvs k v))
theorem jt.k {H:Hp}{a:Addr}{kvs:List (Key×V)}{k:Key}(e:H a=some (.dK kvs)):jt H a (kV k) (iU kvs k):=.inl ⟨kvs,k,.inl e,rfl,rfl⟩
theorem jt.t {H:Hp}{a b:Addr}{kvs:List (List Key×V)}{k:List Key}(e:H a=some (.dT kvs))(eb:H b=some (.tup (k.map kV))):jt H a (.ref b) (iU kvs k):=.inr ⟨kvs,k,b,.inl e,rfl,eb,rfl⟩
theorem tQ.k {H:Hp}{a:Addr}{kvs:List (Key×V)}{k:Key}{v:V}(e:H a=some (.dK kvs))(hl:kvs.length<sizeLine):tQ H a (kV k) v (upd H a (.dK (putK kvs k v))):=.inl ⟨kvs,k,e,rfl,hl,rfl⟩
theorem tQ.t {H:Hp}{a b:Addr}{kvs:List (List Key×V)}{k:List Key}{v:V}(e:H a=some (.dT kvs))(eb:H b=some (.tup (k.map kV)))(hl:kvs.length<sizeLine):
  tQ H a (.ref b) v (upd H a (.dT (putK kvs k v))):=.inr ⟨kvs,k,b,e,rfl,eb,hl,rfl⟩
section
variable {X:Cx}{pins:List (Addr×Obj)}{σ:St}{H:Hp}{s:Shared}{a:Addr}{y v:V}{u r:Value}{o:Option V}{A:Around}{E:Value->Shared->Prop}
theorem Inv.big (I:Inv X pins σ H s):sysModules<s.heap.objs.size:=by
 have h:mainGlobals<s.heap.objs.size:=(I.mod.glob.keeps I.bk).lt
 exact Nat.lt_trans (by decide) h
theorem M6 {Q:Value->Shared->Prop}(hu:A.units+1<cLine)(I:Inv X pins σ H s)(g:jt H a y (some v))(ry:RelV y u)(h:∀w' s',Inv X pins σ H s'->RelV v w'->Q w' s'):
  wpAny (model X.prog X.w) A (getItem (.ref a) u) Q E s:=by
 rcases g with⟨kvs,k,e,ey,l⟩|⟨kvs,k,b,e,ey,eb,l⟩
 .subst ey
  obtain⟨z,hd,vs,rel,dd⟩:=tM I.hok e
  obtain⟨w',hw,rK⟩:=gZ.some_of (v:=v) (o:=valueAt vs k) (by rw[l];exact rel.val k)
  exact wpAny_getItem_of (qC ry) dd.mapOf hw (h w' _ (I.tok _) rK)
 .subst ey
  cases(show u=Value.ref b from ry)
  obtain⟨z,hd,xs,rel,dd⟩:=vG I.hok e
  obtain⟨w',hw,rK⟩:=gZ.some_of (v:=v) (o:=(atKey xs k).map (·.2)) (by rw[l];exact rel.val k)
  obtain⟨p,hp,hp2⟩:=Option.map_eq_some_iff.mp hw
  refine wpAny_getItem_heap (tupleKind_room_in1 hu) (uW I.hok eb) dd hp ?_
  rw[hp2]
  exact h w' _ (I.tok _) rK
theorem ajA {Q:Value->Shared->Prop}(hu:A.units+1<cLine)(I:Inv X pins σ H s)(g:jt H a y o)(ry:RelV y u)(h:∀s',Inv X pins σ H s'->Q (.bool o.isSome) s'):
  wpAny (model X.prog X.w) A (compareOp .In u (.ref a)) Q E s:=by
 rcases g with⟨kvs,k,e,ey,l⟩|⟨kvs,k,b,e,ey,eb,l⟩
 .subst ey
  obtain⟨z,hd,vs,rel,dd⟩:=tM I.hok e
  refine wpAny_in_of (qC ry) hd dd.mapOf ?_
  rw[<-(rel.val k).lA,←l]
  exact h _ (I.tok _)
 .subst ey
  cases(show u=Value.ref b from ry)
  obtain⟨z,hd,xs,rel,dd⟩:=vG I.hok e
  refine wpAny_in_heap (tupleKind_room_in1 hu) (uW I.hok eb) hd dd ?_
  have q:=(rel.val k).lA
  rw[Option.isSome_map] at q
  rw[<-q,←l]
  exact h _ (I.tok _)
theorem Xu {Q:Value->Shared->Prop}(hu:A.units+1<cLine)(I:Inv X pins σ H s)(g:jt H a y o)(ry:RelV y u)(h:∀s',Inv X pins σ H s'->Q (.bool (!o.isSome)) s'):
  wpAny (model X.prog X.w) A (compareOp .NotIn u (.ref a)) Q E s:=by
 rcases g with⟨kvs,k,e,ey,l⟩|⟨kvs,k,b,e,ey,eb,l⟩
 .subst ey
  obtain⟨z,hd,vs,rel,dd⟩:=tM I.hok e
  refine wpAny_notIn_of (qC ry) hd dd.mapOf ?_
  rw[<-(rel.val k).lA,←l]
  exact h _ (I.tok _)
 .subst ey
  cases(show u=Value.ref b from ry)
  obtain⟨z,hd,xs,rel,dd⟩:=vG I.hok e
  refine wpAny_notIn_heap (tupleKind_room_in1 hu) (uW I.hok eb) hd dd ?_
  have q:=(rel.val k).lA
  rw[Option.isSome_map] at q
  rw[<-q,←l]
  exact h _ (I.tok _)
theorem rR {h':Heap}{t':Nat}{ob:HO}(I:Inv X pins σ H s)(mu:K9 (H a))(hs:Heap.SameBut a s.heap h')(he:∃q,h'.get? a=some q)(new:dY X.prog X.w (upd H a ob) h' a ob):
  Inv X pins σ (upd H a ob) {s with heap:=h',toks:=t'}:=
 I.write (x:=a) (e:=a) mu (.inl rfl) (λb q hb z=>(hs.2 b hb).trans z) he new
theorem yr {P:Program}{w:World}{H':Hp}{h':Heap}{kvs:List (Key×V)}{vs:List (Key×Value)}(z:kvs.length<=sizeLine)(hd:(a==sysModules)=false)(rel:KV kvs vs)(dd:h'.DictOf (cJ P w) a vs):
  dY P w H' h' a (.dK kvs):=⟨z,hd,vs,rel,dd⟩
theorem M7 {H':Hp}{Q:Unit->Shared->Prop}(hu:A.units+1<cLine)(I:Inv X pins σ H s)(g:tQ H a y v H')(ry:RelV y u)(rv:RelV v r)(h:∀s',Inv X pins σ H' s'->Q () s'):
  wpAny (model X.prog X.w) A (setItem (.ref a) u r) Q E s:=by
 rcases g with⟨kvs,k,e,ey,l,eH⟩|⟨kvs,k,b,e,ey,eb,l,eH⟩
 .subst ey eH
  obtain⟨z,hd,vs,rel,dd⟩:=tO I.hok e
  have hz:vs.length<=sizeLine:=by rw[<-rel.length];exact z
  have hl:(putK kvs k v).length<=sizeLine:=by have:=qU kvs k v;omega
  refine wpAny_setItem_pairs (hsz:=hz) (qC ry) dd λh' rT hs=>h _ ?_
  have he:∃q,h'.get? a=some q:=let⟨q,_,_,hq,_⟩:=rT;⟨q,hq⟩
  exact rR I (by rw[e];exact True.intro) hs he (yr hl hd (rel.put k rv) rT)
 .subst ey eH
  cases(show u=Value.ref b from ry)
  obtain⟨z,hd,xs,rel,dd⟩:=agC I.hok e
  have hz:xs.length<=sizeLine:=by rw[<-Paired.length rel];exact z
  have hl:(putK kvs k v).length<=sizeLine:=by have:=qU kvs k v;omega
  refine wpAny_setItem_heap (hsz:=hz) (tupleKind_room_in1 hu) (uW I.hok eb) dd λh' rT hs=>h _ ?_
  obtain⟨q,es,ep,hq,h2,h3,h4,_,h5⟩:=rT
  refine rR I (by rw[e];exact True.intro) hs ⟨q,hq⟩ ⟨hl,hd,_,(rel.put k eb rv).keeps λc ys ec=>?_,q,es,ep,hq,h2,h3,h4,h5⟩
  rw[aq (afM ec e (λz=>nomatch z))]
  exact ec
end
section
variable {X:Cx}{pins:List (Addr×Obj)}{σ:St}{H:Hp}{s:Shared}{a:Addr}{kvs:List (Key×V)}{k:Key}{u:Value}{A:Around}{E:Value->Shared->Prop}
theorem ahs {Q:Unit->Shared->Prop}(I:Inv X pins σ H s)(e:H a=some (.dK kvs))(ry:RelV (kV k) u)(l:(iU kvs k).isSome=true)(h:∀s',Inv X pins σ (upd H a (.dK (qy kvs k))) s'->Q () s'):
  wpAny (model X.prog X.w) A (delItem (.ref a) u) Q E s:=by
 obtain⟨z,hd,vs,rel,dd⟩:=tO I.hok e
 refine wpAny_delItem_slot dd.typeIs (by decide) PySem.F.slot_dict_delitem
  (call_meetsIn PySem.F.slot_dict_delitem dd.typeIs PySem.F.entry_dict_delitem (PySem.F.args_dict_delitem_2 _ _) (meets_dict_delitem_pairs (cJ X.prog X.w) a (qC ry)) ⟨vs,dd,by rw[<-rel.length];exact z,by rw[<-(rel.val k).lA];exact l,λh' rT hs=>h _ ?_⟩)
 have he:∃q,h'.get? a=some q:=let⟨q,_,_,hq,_⟩:=rT;⟨q,hq⟩
 exact rR I (by rw[e];exact True.intro) hs he (yr (Nat.le_trans (Et kvs k) z) hd (rel.drop k) rT)
theorem agD {v:V}{more:List Value}{Q:Value->Shared->Prop}(I:Inv X pins σ H s)(e:H a=some (.dK kvs))(ry:RelV (kV k) u)(l:iU kvs k=some v)(hm:more=[]\/∃x,more=[x])
  (h:∀w' s',Inv X pins σ (upd H a (.dK (qy kvs k))) s'->RelV v w'->Q w' s'):wpAny (model X.prog X.w) A (call (.builtin "dict.pop") (.ref a::u::more)) Q E s:=by
 obtain⟨z,hd,vs,rel,dd⟩:=tO I.hok e
 obtain⟨w',hw,rK⟩:=gZ.some_of (v:=v) (o:=valueAt vs k) (by rw[<-l];exact rel.val k)
 have hp:(keyPart u).isSome=true:=by
  cases k with
  |inl i=>obtain⟨t,q⟩:=(show ∃t,u=Value.int i t from ry);subst q;rfl
  |inr x=>obtain⟨t,q⟩:=(show ∃t,u=Value.str x t from ry);subst q;rfl
 have ha:argsOk "dict.pop" ⟨.ref a::u::more,[]⟩:=by
  rcases hm with q|⟨x,q⟩
  .subst q;exact PySem.F.args_dict_pop_2 _ _
  .subst q;exact PySem.F.args_dict_pop_3 _ _ _
 refine call_meetsIn PySem.F.slot_dict_pop dd.typeIs PySem.F.entry_dict_pop ha (meets_dict_pop_there (cJ X.prog X.w) a (qC ry) more hm hp)
  ⟨vs,w',dd,by rw[<-rel.length];exact z,hw,λh' rT hs=>h w' _ ?_ rK⟩
 have he:∃q,h'.get? a=some q:=let⟨q,_,_,hq,_⟩:=rT;⟨q,hq⟩
 exact rR I (by rw[e];exact True.intro) hs he (yr (Nat.le_trans (Et kvs k) z) hd (rel.drop k) rT)
theorem agE {Q:Value->Shared->Prop}(I:Inv X pins σ H s)(e:Rd H a (.dK kvs))(h:∀t s',Inv X pins σ H s'->Q (.int kvs.length t) s'):wpAny (model X.prog X.w) A (call (.builtin "len") [.ref a]) Q E s:=by
 obtain⟨z,hd,vs,rel,dd⟩:=tM I.hok e
 refine call_len_dict hd dd (by rw[<-rel.length];rw[sizeLine_eq] at z;omega) ?_
 rw[<-rel.length]
 exact h _ _ (I.tok _)
end
noncomputable def aaA (i:Expr):Prop:=∀ov iv,subscripted i false ov iv=operate [ov,iv] (getItem ov iv)
theorem Xv {prog:Program}{w:World}{A:Around}{E:Value->Shared->Prop}{s:Shared}{env:Env}{value slice:Expr}{pos:Pos}{T id:String}{Q:Value->Shared->Prop}
  (hl:typeLookup (.type T) "__getitem__"=pure (some (.builtin id)))(hs:aaA slice)
  (h:wpAny (model prog w) A (eval value env) (λo s₁=>wpAny (model prog w) A (eval slice env) (λi s₂=>s₂.TypeIs o T/\wpAny (model prog w) A (getItem o i) Q E s₂) E s₁) E s):
  wpAny (model prog w) A (eval (.Subscript value slice pos) env) Q E s:=by
 refine Subscript_ (wpAny_mono h (λo s₁ h₁=>wpAny_mono h₁ (λi s₂ h₂=>?_) λ_ _ x=>x) λ_ _ x=>x)
 obtain⟨hT,h₂⟩:=h₂
 unfold subscriptTail
 refine wpAny_bind ?_
 rw[getitemInPython_of_ne hT.not_modules]
 refine wpAny_bind (wpAny_specialOf hT hl ?_)
 have fin:wpAny (model prog w) A (subscripted slice false o i) (λr s₃=>wpAny (model prog w) A (letTemporaryGo value o r>>= λ_=>pure r) Q E s₃) E s₂:=by
  rw[hs o i]
  exact wpAny_operating (wpAny_mono h₂ (λr s₃ h₃=>wpAny_bind (wpAny_letTemporaryGo (wpAny_pure h₃))) λ_ _ x=>x)
 first
  |exact wpAny_pure (wpAny_bind fin)
  |exact wpAny_bind (wpAny_pure (wpAny_bind fin))
  |exact wpAny_bind fin
theorem GP {X:Cx}{pins:List (Addr×Obj)}{σ:St}{H:Hp}{s:Shared}{a:Addr}{y:V}{o:Option V}(I:Inv X pins σ H s)(g:jt H a y o):s.TypeIs (.ref a) "dict":=by
 rcases g with⟨kvs,k,e,_,_⟩|⟨kvs,k,b,e,_,_,_⟩
 .obtain⟨_,_,vs,_,dd⟩:=tM I.hok e
  exact dd.typeIs
 .obtain⟨_,_,xs,_,dd⟩:=vG I.hok e
  exact dd.typeIs
noncomputable def Cw (td ty:TE):TE:=λσ H Q=>td σ H λx H1=>ty σ H1 λy H2=>∃a v,x=.ref a/\jt H2 a y (some v)/\Q v H2
noncomputable def aaB (ty td:TE):TE:=λσ H Q=>ty σ H λy H1=>td σ H1 λx H2=>∃a o,x=.ref a/\jt H2 a y o/\Q (.bl o.isSome) H2
noncomputable def zE (ty td:TE):TE:=λσ H Q=>ty σ H λy H1=>td σ H1 λx H2=>∃a o,x=.ref a/\jt H2 a y o/\Q (.bl (!o.isSome)) H2
noncomputable def Cy (td ty tv:TE):TS:=λD σ H=>tv σ H λv H1=>td σ H1 λx H2=>ty σ H2 λy H3=>∃a H4,x=.ref a/\tQ H3 a y v H4/\D.nx σ H4
section
variable {X:Cx}{o i e value:Expr}{pos pos' tpos:Pos}{td ty tv:TE}
theorem vH (hu:X.A.units+1<cLine)(ho:PE X o td)(hi:PE X i ty)(hs:aaA i):PE X (.Subscript o i pos) (Cw td ty):=by
 intro pins s σ H Q I h
 refine Xv PySem.F.slot_dict_getitem.lookup hs (aQ (ho pins s σ H _ I h) λu s1 ⟨x,H1,I1,rx,q1⟩=>aQ (hi pins s1 σ H1 _ I1 q1) λiv s2 ⟨y,H2,I2,ry,a,v,ex,g,q2⟩=>?_)
 subst ex
 obtain rfl:u=Value.ref a:=rx
 exact⟨GP I2 g,M6 hu I2 g ry λw' s3 I3 rK=>⟨v,H2,I3,rK,q2⟩⟩
theorem aaC (hu:X.A.units+1<cLine)(hi:PE X i ty)(ho:PE X o td):PC X .In i o (aaB ty td):=by
 intro pins s σ H Q I h
 refine aQ (hi pins s σ H _ I h) λiv s1 ⟨y,H1,I1,ry,q1⟩=>aQ (ho pins s1 σ H1 _ I1 q1) λu s2 ⟨x,H2,I2,rx,a,ov,ex,g,q2⟩=>?_
 subst ex
 obtain rfl:u=Value.ref a:=rx
 exact ajA hu I2 g ry λs3 I3=>⟨.bl ov.isSome,H2,I3,rfl,q2⟩
theorem Bb (hu:X.A.units+1<cLine)(hi:PE X i ty)(ho:PE X o td):PC X .NotIn i o (zE ty td):=by
 intro pins s σ H Q I h
 refine aQ (hi pins s σ H _ I h) λiv s1 ⟨y,H1,I1,ry,q1⟩=>aQ (ho pins s1 σ H1 _ I1 q1) λu s2 ⟨x,H2,I2,rx,a,ov,ex,g,q2⟩=>?_
 subst ex
 obtain rfl:u=Value.ref a:=rx
 exact Xu hu I2 g ry λs3 I3=>⟨.bl (!ov.isSome),H2,I3,rfl,q2⟩
theorem zF (hu:X.A.units+1<cLine)(ho:PE X o td)(hi:PE X i ty)(hv:PE X value tv)(hs:swapsWith value (some (.Subscript o i pos')) pos.line X.env=pure false):
  PS X (.Assign [.Subscript o i pos'] value pos) (Cy td ty tv):=by
 intro pins s σ H D I h
 refine wpAny_Assign_Subscript (aQ (hv pins s σ H _ I h) λr s1 ⟨v,H1,I1,rv,q1⟩=>aQ (ho pins s1 σ H1 _ I1 q1) λu s2 ⟨x,H2,I2,rx,q2⟩=>aQ (hi pins s2 σ H2 _ I2 q2) λiv s3 ⟨y,H3,I3,ry,a,H4,ex,g,q3⟩=>?_) hs
 subst ex
 obtain rfl:u=Value.ref a:=rx
 exact M7 hu I3 g ry rv λs4 I4=>⟨σ,H4,I4,q3⟩
end
theorem Eu {P:Program}{w:World}{H:Hp}(h:Heap)(hb:sysModules<h.objs.size):dY P w H (h.push {cls:=.type "dict",data:=.dict #[]}) h.objs.size (.dK []):=
 ⟨Nat.zero_le _,beq_eq_false_iff_ne.mpr (Ne.symm (Nat.ne_of_lt hb)),[],.nil,Heap.DictOf.new h⟩
noncomputable def aaD:TE:=λ_ H Q=>∀p,H p=none->Q (.ref p) (upd H p (.dK []))
section
variable {X:Cx}{pos:Pos}
theorem QW:PE X (.Dict [] [] pos) aaD:=λpins s σ H Q I h=>
 wpAny_Dict_empty ⟨.ref s.heap.objs.size,_,I.laid (a:=s.heap.objs.size) (o:=.dK []) (t':=s.toks) (λ_ _ q=>Heap.get?_push_of_some _ q) (Nat.le_refl _) (Eu s.heap I.big),rfl,h _ (I.hok.fresh (Nat.le_refl _))⟩
end
noncomputable def rW:List (TE×TE)->St->Hp->(List (V×V)->Hp->Prop)->Prop
 |[],_,H,Q=>Q [] H
 |(tk,tv)::r,σ,H,Q=>tk σ H λx H1=>tv σ H1 λy H2=>rW r σ H2 λps H3=>Q ((x,y)::ps) H3
noncomputable abbrev VV:List (V×V)->List (Value×Value)->Prop:=Paired λp q=>RelV p.1 q.1/\RelV p.2 q.2
noncomputable def yt (X:Cx)(pos:Pos)(keys:List (Option Expr))(values:List Expr)(yu:List (TE×TE)):Prop:=
 ∀(pins:List (Addr×Obj)) (s:Shared) (σ:St) (H:Hp) (Q:List (V×V)->Hp->Prop),Inv X pins σ H s->rW yu σ H Q->
  wpAny (model X.prog X.w) X.A (evalPairs (pairTrees keys values X.env pos)) (λvs s'=>∃ps H',Inv X pins σ H' s'/\VV ps vs/\Q ps H') X.xe s
theorem lB {X:Cx}{pos:Pos}:yt X pos [] [] []:=λpins s σ H Q I h=>pairTrees_nil_walk ⟨[],H,I,.nil,h⟩
theorem dH {X:Cx}{pos:Pos}{k v:Expr}{ks:List (Option Expr)}{vs:List Expr}{tk tv:TE}{yu:List (TE×TE)}(hk:PE X k tk)(hv:PE X v tv)(hr:yt X pos ks vs yu):
  yt X pos (some k::ks) (v::vs) ((tk,tv)::yu):=λpins s σ H Q I h=>
 pairTrees_cons_walk (aQ (hk pins s σ H _ I h) λu s1 ⟨x,H1,I1,rx,q1⟩=>aQ (hv pins s1 σ H1 _ I1 q1) λw2 s2 ⟨y,H2,I2,ry,q2⟩=>
  aQ (hr pins s2 σ H2 _ I2 q2) λws s3 ⟨ps,H3,I3,rel,q3⟩=>⟨(x,y)::ps,H3,I3,.cons ⟨rx,ry⟩ rel,q3⟩)
noncomputable def pJ (kvs more:List (Key×V)):List (Key×V):=more.foldl (λacc kv=>putK acc kv.1 kv.2) kvs
theorem KV.merge:∀{more:List (Key×V)}{rs:List (Key×Value)} {kvs:List (Key×V)} {vs:List (Key×Value)},KV more rs->KV kvs vs->KV (pJ kvs more) (merged vs rs):=by
 intro more rs kvs vs r
 unfold KV at r
 induction r generalizing kvs vs with
 |nil=>intro q;exact q
 | @cons p q ps qs h t ih=>
  intro r0
  have e:KV (putK kvs p.1 p.2) (stored vs q.1 q.2):=by
   have:=r0.put p.1 h.2
   rw[<-h.1];exact this
  exact ih e
theorem uo:∀(more kvs:List (Key×V)),(pJ kvs more).length<=kvs.length+more.length
 |[],kvs=>by show kvs.length<=kvs.length+0;omega
 |p::r,kvs=>by
  have h1:=uo r (putK kvs p.1 p.2)
  have h2:=qU kvs p.1 p.2
  show(pJ (putK kvs p.1 p.2) r).length<=_
  rw[List.length_cons];omega
theorem yw {P:Program}{w:World}:∀{kvs:List (Key×V)}{ws:List (Value×Value)},VV (kvs.map λkv=>(kV kv.1,kv.2)) ws->∃rs,Carries (cJ P w) ws rs/\KV kvs rs
 |[],_,r=>by rw[List.map_nil] at r;cases r;exact⟨[],True.intro,.nil⟩
 |p::kvs,_,r=>by
  rw[List.map_cons] at r
  cases r with
  | @cons a b as bs h t=>
   obtain⟨rs,c,q⟩:=yw (P:=P) (w:=w) t
   obtain⟨b1,b2⟩:=b
   exact⟨(p.1,b2)::rs,⟨qC h.1,rfl,c⟩,.cons ⟨rfl,h.2⟩ q⟩
noncomputable def Vk (yu:List (TE×TE)):TE:=λσ H Q=>∀p,H p=none->rW yu σ (upd H p (.dK [])) λps H2=>H2 p=some (.dK [])/\∃kvs:List (Key×V),ps=kvs.map (λkv=>(kV kv.1,kv.2))/\kvs.length<=15/\Q (.ref p) (upd H2 p (.dK (pJ [] kvs)))
theorem Xw {X:Cx}{pos:Pos}{keys:List (Option Expr)}{values:List Expr}{yu:List (TE×TE)}(h:yt X pos keys values yu)(hall:keys.all (·.isSome)=true)(hl:keys.length=values.length)(h0:keys≠[])
  (h15:keys.length<=15):PE X (.Dict keys values pos) (Vk yu):=by
 intro pins s σ H Q I q
 have hn:=I.hok.fresh (Nat.le_refl s.heap.objs.size)
 have I1:=I.laid (a:=s.heap.objs.size) (o:=.dK []) (h':=s.heap.push {cls:=.type "dict",data:=.dict #[]}) (t':=s.toks) (λ_ _ q=>Heap.get?_push_of_some _ q) (Nat.le_refl _) (Eu s.heap I.big)
 refine wpAny_Dict_walk (knd:=cJ X.prog X.w) hall hl h0 h15 (aQ (h pins _ σ _ _ I1 (q _ hn)) λws s2 ⟨ps,H2,I2,rel,e,kvs,ep,lk,q2⟩=>?_)
 subst ep
 obtain⟨rs,c,rk⟩:=yw (P:=X.prog) (w:=X.w) rel
 obtain⟨z,hd,vs0,r0,dd⟩:=tO I2.hok e
 cases r0
 refine⟨rs,c,dd,λh' rT hs=>⟨.ref s.heap.objs.size,_,?_,rfl,q2⟩⟩
 have hz:(pJ [] kvs).length<=sizeLine:=by
  have h1:=uo kvs []
  rw[List.length_nil] at h1
  rw[sizeLine_eq];omega
 have he:∃q,h'.get? s.heap.objs.size=some q:=let⟨q,_,_,hq,_⟩:=rT;⟨q,hq⟩
 exact rR I2 (by rw[e];exact True.intro) hs he (yr hz hd (rk.merge .nil) rT)
structure M1 (X:Cx)(o:Expr)(m:Str)(apos:Pos)(e:Expr)(cpos:Pos):Prop where
 base:attributeBase o m X.env (eval o X.env)=eval o X.env
 few:((backTo cpos (starEach [e] X.env)).all (λx=>!x.1) && (backToKw cpos (keywordEach [] X.env)).all (λx=>x.1.isSome)
  && decide (([e]:List Expr).length+([]:List Keyword).length+(if([]:List Keyword).isEmpty then 0 else 1)<30))=true
 line:(apos.endLine==cpos.line)=true
 trees:backTo cpos (starEach [e] X.env)=[(false,eval e X.env)]
structure M2 (X:Cx)(o:Expr)(m:Str)(apos:Pos)(e f:Expr)(cpos:Pos):Prop where
 base:attributeBase o m X.env (eval o X.env)=eval o X.env
 few:((backTo cpos (starEach [e,f] X.env)).all (λx=>!x.1) && (backToKw cpos (keywordEach [] X.env)).all (λx=>x.1.isSome)
  && decide (([e,f]:List Expr).length+([]:List Keyword).length+(if([]:List Keyword).isEmpty then 0 else 1)<30))=true
 line:(apos.endLine==cpos.line)=true
 trees:backTo cpos (starEach [e,f] X.env)=[(false,eval e X.env),(false,eval f X.env)]
noncomputable def IsD (H:Hp)(a:Addr):Prop:=(∃kvs,Rd H a (.dK kvs))\/∃kvs,Rd H a (.dT kvs)
theorem aaE {X:Cx}{pins:List (Addr×Obj)}{σ:St}{H:Hp}{s:Shared}{a:Addr}(I:Inv X pins σ H s)(d:IsD H a):
  s.TypeIs (.ref a) "dict"/\(∀b,Value.ref a=.ref b->∃ob,s.heap.get? b=some ob/\ob.dict=none)/\(a==sysModules)=false:=by
 rcases d with⟨kvs,e⟩|⟨kvs,e⟩
 .obtain⟨_,hd,vs,_,dd⟩:=tM I.hok e
  refine⟨dd.typeIs,λb q=>?_,hd⟩
  cases q
  obtain⟨ob,_,_,h1,h2,_⟩:=dd
  exact⟨ob,h1,h2.2.1⟩
 .obtain⟨_,hd,xs,_,dd⟩:=vG I.hok e
  refine⟨dd.typeIs,λb q=>?_,hd⟩
  cases q
  obtain⟨ob,_,_,h1,h2,_⟩:=dd
  exact⟨ob,h1,h2.2.1⟩
section
variable {X:Cx}{pins:List (Addr×Obj)}{σ:St}{H:Hp}{s:Shared}{a:Addr}{y d:V}{u r:Value}{o:Option V}{A:Around}{E:Value->Shared->Prop}
end
noncomputable def M8 (td ty:TE):TE:=λσ H Q=>td σ H λx H1=>∃a,x=.ref a/\IsD H1 a/\ty σ H1 λy H2=>∃kvs k v,H2 a=some (.dK kvs)/\y=kV k/\iU kvs k=some v/\Q v (upd H2 a (.dK (qy kvs k)))
section
variable {X:Cx}{o e f:Expr}{apos cpos:Pos}{td ty tx:TE}
theorem QX (ho:PE X o td)(he:PE X e ty)(m:M1 X o "pop" apos e cpos):PE X (.Call (.Attribute o "pop" apos) [e] [] cpos) (M8 td ty):=by
 intro pins s σ H Q I h
 refine wpAny_Call_method m.base m.few m.line PySem.F.plainAttrs_dict PySem.F.slot_dict_pop PySem.F.type_dict_pop (aQ (ho pins s σ H _ I h) λu s1 ⟨x,H1,I1,rx,a,ex,d,q1⟩=>?_)
 subst ex
 obtain rfl:u=Value.ref a:=rx
 obtain⟨t1,t2,_⟩:=aaE I1 d
 refine⟨t1,t2,?_⟩
 rw[m.trees]
 refine Calls.callWith_builtin rfl (Calls.evalArgs_plain (Calls.spliced_cons (aQ (he pins s1 σ H1 _ I1 q1) λiv s2 ⟨y,H2,I2,ry,kvs,k,v,ea,ey,l,q2⟩=>Calls.spliced_nil ?_)))
 subst ey
 exact agD I2 ea ry l (.inl rfl) λw' s3 I3 rK=>⟨v,_,I3,rK,q2⟩
end
section
variable {X:Cx}{pins:List (Addr×Obj)}{σ:St}{H:Hp}{s:Shared}{a:Addr}{kvs:List (Key×V)}{A:Around}{E:Value->Shared->Prop}
end
section
variable {X:Cx}{pins:List (Addr×Obj)}{σ:St}{H:Hp}{s:Shared}{a:Addr}{y:V}{u:Value}{A:Around}{E:Value->Shared->Prop}
end
end L2
namespace VM
theorem len1 {α:Type}:∀{us:List α},us.length=1->∃x0,us=[x0]
 |[x0],_=>⟨x0,rfl⟩
 |[],h=>by cases h
 |_::_::_,h=>by cases h
theorem len2 {α:Type}:∀{us:List α},us.length=2->∃x0 x1,us=[x0,x1]
 |[],h=>by cases h
 |x0::r,h=>by
  obtain⟨x1,rfl⟩:=len1 (us:=r) (by simpa using h)
  exact⟨x0,x1,rfl⟩
theorem qW {α:Type}:∀{us:List α},us.length=3->∃x0 x1 x2,us=[x0,x1,x2]
 |[],h=>by cases h
 |x0::r,h=>by
  obtain⟨x1,x2,rfl⟩:=len2 (us:=r) (by simpa using h)
  exact⟨x0,x1,x2,rfl⟩
theorem aaF {α:Type}:∀{us:List α},us.length=4->∃x0 x1 x2 x3,us=[x0,x1,x2,x3]
 |[],h=>by cases h
 |x0::r,h=>by
  obtain⟨x1,x2,x3,rfl⟩:=qW (us:=r) (by simpa using h)
  exact⟨x0,x1,x2,x3,rfl⟩
theorem ajB {α:Type}:∀{us:List α},us.length=5->∃x0 x1 x2 x3 x4,us=[x0,x1,x2,x3,x4]
 |[],h=>by cases h
 |x0::r,h=>by
  obtain⟨x1,x2,x3,x4,rfl⟩:=aaF (us:=r) (by simpa using h)
  exact⟨x0,x1,x2,x3,x4,rfl⟩
theorem ajC {α:Type}:∀{us:List α},us.length=6->∃x0 x1 x2 x3 x4 x5,us=[x0,x1,x2,x3,x4,x5]
 |[],h=>by cases h
 |x0::r,h=>by
  obtain⟨x1,x2,x3,x4,x5,rfl⟩:=ajB (us:=r) (by simpa using h)
  exact⟨x0,x1,x2,x3,x4,x5,rfl⟩
end VM
namespace VM
open PySem L2 PySem.W PySem.Calls PyProof.Rows
section
variable {X:Cx}
end
end VM
namespace VM
open PySem L2
structure MI (K:PySem.W.Frag)(G H₀:Hp)(D:Addr)(bs:List Addr)(f:Nat->List PyData)(H:Hp):Prop where
 ex:∃F,Same H₀ H/\Same G F/\Same F H/\(∀a o,F a=some o->G a=some o\/pB o=true)/\F D=none/\H₀ D=none/\H D=some (.lst (bs.map V.ref))/\D∉bs/\bs.Nodup/\
  (∀b∈bs,F b=none/\H₀ b=none)/\∀(u:Nat) b,bs[u]? =some b->∃ys,H b=some (.lst ys)/\aJ K F (f u) ys
section
variable {K:PySem.W.Frag}{G H₀ H:Hp}{D:Addr}{bs:List Addr}{f f':Nat->List PyData}
theorem MI.congr (I:MI K G H₀ D bs f H)(h:∀u,u<bs.length->f u=f' u):MI K G H₀ D bs f' H:=by
 obtain⟨F,h1,h2,h3,h4,h5,h6,h7,h8,h9,h10,h11⟩:=I.ex
 refine⟨F,h1,h2,h3,h4,h5,h6,h7,h8,h9,h10,λu b e=>?_⟩
 have hu:u<bs.length:=by
  by_cases z:u<bs.length
  .exact z
  .rw[List.getElem?_eq_none (by omega)] at e;cases e
 obtain⟨ys,q1,q2⟩:=h11 u b e
 exact⟨ys,q1,by rw[<-h u hu];exact q2⟩
end
end VM
namespace VM
open PySem PySem.Spec PyProof.Rows L2
section
variable {K:PySem.W.Frag}{aK:Nat->Option Addr}{G H₀ F H:Hp}{S:GS}{σ σ':St}
end
theorem aB {i:Nat}{σ:St}{H:Hp}{Q:VK}{v:V}(e:σ[i]? =some (some v))(q:Q v H):vR i σ H Q:=by unfold vR;rw[e];exact q
section
variable {X:Cx}{s1 s2 s3:Stmt}{rest:List Stmt}{g:VS}{ip is_ iw ia ib iwd il apH:Nat}
end
end VM
namespace L2
open PySem PySem.Spec PyProof.Rows
noncomputable def mq (l:List Nat)(lo hi:Option Int):List Nat:=(l.drop (HT.bT l.length 0 lo)).take (HT.bT l.length l.length hi - HT.bT l.length 0 lo)
noncomputable def eG (z:Str)(lo hi:Option Int):Str:=⟨(mq z.cps.toList lo hi).toArray⟩
theorem Vl (o:Option Int)(n d:Nat)(hd:d<=n):(match o with
  |none=>(d:Int)
  |some i=>max 0 (min (if i<0 then i+(n:Int) else i) (n:Int)))=((HT.bT n d o:Nat):Int):=by
 cases o with
 |none=>rfl
 |some v=>
  show max (0:Int) (min (if v<0 then v+(n:Int) else v) (n:Int))=(((if v<0 then(v+(n:Int)).toNat else min v.toNat n:Nat)):Int)
  split<;>omega
open PySem.Builtin.Str in
theorem Xx (lo hi:Option Int)(n:Nat):strSliceIndices lo hi 1 n=(List.range (HT.bT n n hi - HT.bT n 0 lo)).map λk=>HT.bT n 0 lo+k:=by
 have e1:=Vl lo n 0 (Nat.zero_le _)
 have e2:=Vl hi n n (Nat.le_refl _)
 have key:strSliceIndices lo hi 1 n=sliceRange ((HT.bT n 0 lo:Nat):Int) ((HT.bT n n hi:Nat):Int) 1:=by
  rw[<-e1,←e2]
  unfold strSliceIndices
  cases lo<;>cases hi<;>rfl
 rw[key]
 generalize HT.bT n 0 lo=a
 generalize HT.bT n n hi=b
 unfold sliceRange
 simp only[show((1:Int)>0)=True by simp,if_true]
 have e3:(if(a:Int)<(b:Int) then((b:Int) - (a:Int)+1 - 1)/1 else 0).toNat=b - a:=by
  by_cases h:(a:Int)<b
  .rw[if_pos h,Int.ediv_one];omega
  .rw[if_neg h];omega
 rw[e3]
 exact List.map_congr_left λk _=>by omega
open PySem.Builtin.Str in
theorem QZ (z:Str)(t:Tok)(l u:Option (Int×Tok)){Q:Value->Shared->Prop}{s:Shared}(hz:z.length<=sizeLine)(q:∀t' k,Q (.str (eG z (l.map (·.1)) (u.map (·.1))) t') {s with toks:=k}):
  (sliceMade z t l u none).post Q s:=by
 unfold sliceMade slicePicked
 have hl:z.cps.toList.length=z.length:=by simp[Str.length]
 have a1:=HT.Dq z.length 0 (Nat.zero_le _) (l.map (·.1))
 have a2:=HT.Dq z.length z.length (Nat.le_refl _) (u.map (·.1))
 have ei:strSliceIndices (l.map (·.1)) (u.map (·.1)) (((none:Option (Int×Tok)).map (·.1)).getD 1) z.length=_:=Xx (l.map (·.1)) (u.map (·.1)) z.length
 have ep:(strSliceIndices (l.map (·.1)) (u.map (·.1)) (((none:Option (Int×Tok)).map (·.1)).getD 1) z.length).filterMap (z.cps[·]?)=mq z.cps.toList (l.map (·.1)) (u.map (·.1)):=by
  rw[ei]
  unfold mq
  rw[hl]
  generalize hA:HT.bT z.length 0 (l.map (·.1))=a at*
  generalize hB:HT.bT z.length z.length (u.map (·.1))=b at*
  by_cases c:a<=b
  .have:=StrLaws.picks z.cps.toList (b - a) a (by omega)
   simpa using this
  .rw[show b - a=0 by omega];simp
 split
 .rename_i c
  have c':(strSliceIndices (l.map (·.1)) (u.map (·.1)) (((none:Option (Int×Tok)).map (·.1)).getD 1) z.length).length=z.length:=by
   simp only[Bool.and_eq_true,beq_iff_eq] at c
   exact c.2
  rw[ei,List.length_map,List.length_range] at c'
  have:eG z (l.map (·.1)) (u.map (·.1))=z:=by
   unfold eG mq
   rw[hl,show HT.bT z.length 0 (l.map (·.1))=0 by omega,List.drop_zero,List.take_of_length_le (by rw[hl];omega)]
  have q':=q t s.toks
  rw[this] at q'
  exact q'
 .rw[ep]
  refine⟨?_,q _ _⟩
  show(mq z.cps.toList (l.map (·.1)) (u.map (·.1))).toArray.size<=sizeLine
  rw[List.size_toArray]
  unfold mq
  rw[List.length_take,List.length_drop,hl]
  omega
section
variable {X:Cx}
noncomputable def ajD:V->Option Int->Option Int->Hp->VK->Prop:=λx lo hi H Q=>∃z,x=.str z/\z.length<=sizeLine/\Q (.str (eG z lo hi)) H
theorem aaG:UG X ajD:=by
 intro pins s σ H x v vl vu lo hi sl Q I rx hs pl pu h
 obtain⟨z,rfl,hz,q⟩:=h
 obtain⟨t,rfl⟩:=rx
 refine⟨"str",_,F.slot_str_getitem.lookup,typeIs_str s z t,?_⟩
 obtain⟨o,ho,hc,hd⟩:=hs
 have part:∀{v:Value}{o:Option Int},IsPart v o->∃p:Option (Int×Tok),v=partValue p/\p.map (·.1)=o:=λh=>by
  cases h with
  |none=>exact⟨none,rfl,rfl⟩
  |int i t=>exact⟨some (i,t),rfl,rfl⟩
 obtain⟨pl',rfl,rfl⟩:=part pl
 obtain⟨pu',rfl,rfl⟩:=part pu
 refine wpAny_getItem_str_slice (l:=pl') (u:=pu') (st:=none) ⟨o,ho,hc,hd⟩ rfl (QZ z t pl' pu' hz λt' k=>?_)
 exact⟨.str _,H,I.kept (t':=k) λ_ _ e=>e,⟨t',rfl⟩,q⟩
theorem Bc:cL X (compareOp .LtE) (λx y H Q=>∃i j,x=.str i/\y=.str j/\Q (.bl (!decide (j.cps.toList<i.cps.toList))) H):=by
 intro pins s σ H x y v u Q I rx ry h
 obtain⟨i,j,rfl,rfl,q⟩:=h
 obtain⟨t,rfl⟩:=rx
 obtain⟨t',rfl⟩:=ry
 exact PySem.P.le_str (fJ I q rfl)
end
end L2
namespace VM
open PySem PySem.Spec PyProof.Rows L2
theorem rY {x:Str}:(PyData.str x).canLay0=true↔∀c∈x.cps.toList,c<0x110000:=by
 show x.cps.all (· <0x110000)=true↔_
 rw[Array.all_eq_true']
 simp
theorem Xy {x:Str}{lo hi:Option Int}(h:(PyData.str x).canLay0=true):(PyData.str (eG x lo hi)).canLay0=true:=by
 rw[rY] at h ⊢
 intro c hc
 exact h c (List.mem_of_mem_drop (List.mem_of_mem_take hc))
theorem rZ (x y:Str):(x++y).cps.toList=x.cps.toList++y.cps.toList:=by
 show(x.cps++y.cps).toList=_
 simp
theorem Xz {x y:Str}(h:(PyData.str x).canLay0=true)(g:(PyData.str y).canLay0=true):(PyData.str (x++y)).canLay0=true:=by
 rw[rY] at h g ⊢
 intro c hc
 rw[rZ] at hc
 rcases List.mem_append.mp hc with z|z
 .exact h c z
 .exact g c z
noncomputable def jV:PyData->PyData->Option PyData
 |.str x,.str y=>if x.length+y.length<=1000 then some (.str (x++y)) else none
 |_,_=>none
theorem tR {K:PySem.W.Frag}:iR K jV (λx y H Q=>∃i j,x=.str i/\y=.str j/\i.length+j.length<=sizeLine/\Q (.str (i++j)) H):=by
 intro H x y dx dy d Q e hx hy q
 unfold jV at e
 split at e
 .split at e
  .rename_i i j hz
   cases e
   obtain⟨rfl,c1⟩:=hx
   obtain⟨rfl,c2⟩:=hy
   exact⟨_,_,rfl,rfl,Nat.le_trans hz (by decide),q _ λ_=>⟨rfl,Xz c1 c2⟩⟩
  .cases e
 .cases e
noncomputable def iz:PyData->PyData->Option PyData
 |.str x,.str y=>some (.bool (!decide (y.cps.toList<x.cps.toList)))
 |_,_=>none
theorem aaH {K:PySem.W.Frag}:iR K iz (λx y H Q=>∃i j,x=.str i/\y=.str j/\Q (.bl (!decide (j.cps.toList<i.cps.toList))) H):=by
 intro H x y dx dy d Q e hx hy q
 unfold iz at e
 split at e
 .cases e
  obtain⟨rfl,c1⟩:=hx
  obtain⟨rfl,c2⟩:=hy
  exact⟨_,_,rfl,rfl,q _ λ_=>rfl⟩
 .cases e
noncomputable def mY:List PyData->Option PyData
 |[.str x]=>if x.length<=1000 then some (.int x.length) else none
 |_=>none
theorem Vm {K:PySem.W.Frag}:CallD K mY (λxs H Q=>∃z,xs=[.str z]/\z.length<=sizeLine/\Q (.int z.length) H):=by
 intro H vs ds d Q e hx q
 unfold mY at e
 split at e
 .split at e
  .rename_i x hz
   cases e
   obtain⟨v,rfl,rfl,_⟩:=aJ.one hx
   exact⟨_,rfl,Nat.le_trans hz (by decide),q _ λ_=>rfl⟩
  .cases e
 .cases e
noncomputable def Ew:PyData->PyData->Option PyData
 |.str x,.int i=>if x.length<=1000 then(cT x.cps.toList i).map λc=>.str ⟨#[c]⟩ else none
 |_,_=>none
noncomputable def strsOf:List PyData->Option (List Str)
 |[]=>some []
 |.str x::r=>(strsOf r).map λl=>x::l
 |_=>none
theorem wI:∀{ds:List PyData}{xs:List Str},strsOf ds=some xs->ds=xs.map PyData.str
 |[],xs,h=>by cases h;rfl
 |d::r,xs,h=>by
  unfold strsOf at h
  split at h
  .rename_i e;cases e
  .rename_i x r' e
   cases e
   cases q:strsOf r with
   |none=>rw[q] at h;cases h
   |some l=>rw[q] at h;cases h;rw[wI q];rfl
  .cases h
theorem yx:∀(xs:List Str),strsOf (xs.map PyData.str)=some xs
 |[]=>rfl
 |x::r=>by show(strsOf (r.map PyData.str)).map _=_;rw[yx r];rfl
theorem oO {K:PySem.W.Frag}{H:Hp}:∀{xs:List Str}{vs:List V},aJ K H (xs.map PyData.str) vs->vs=xs.map V.str
 |[],vs,h=>h
 |x::xs,vs,h=>by
  obtain⟨v,r,rfl,⟨rfl,_⟩,h3⟩:=h
  rw[oO h3];rfl
noncomputable def zG (neg:Bool):PyData->PyData->Option PyData
 |.str x,.list ds=>match strsOf ds with
  |some xs=>some (.bool (if neg then !(xs.any λy=>y==x) else xs.any λy=>y==x))
  |none=>none
 |_,_=>none
theorem aaI {K:PySem.W.Frag}{neg:Bool}:iR K (zG neg) (Zg K neg):=by
 intro H x y dx dy d Q e hx hy q
 unfold zG at e
 split at e
 .split at e
  .rename_i xs hn
   cases e
   obtain⟨rfl,_⟩:=hx
   obtain⟨p,vs,rfl,h1,h2⟩:=hy
   rw[wI hn] at h2
   rw[oO h2] at h1
   have e1:∀x:Str,inV (.str x) (xs.map V.str)=xs.any λy=>y==x:=λx=>by
    unfold inV
    rw[List.any_map]
    rfl
   refine⟨p,_,rfl,.inl h1,rfl,by rw[List.all_map];simp[mV],?_⟩
   rw[e1]
   exact q _ λ_=>rfl
  .cases e
 .cases e
section
variable {X:Cx}{a b e:Expr}{fa fb f:VE}{pos p2:Pos}{lo hi:Option Expr}{fl fu:GS->Option (Option Int)}
theorem ajE (ha:PE X a (tV X.K RW fa))(hb:PE X b (tV X.K RW fb))(hs:vp b:=by intro _ _;rfl):PE X (.Subscript a b pos) (tV X.K RS (v2 Ew fa fb)):=
 (Jq Zd ha hb hs).imp λ_ _ Q q=>by
  obtain⟨aK,G,H₀,S,F,I,d,e,q⟩:=q
  obtain⟨x,y,ex,ey,e⟩:=rO e
  refine⟨aK,G,H₀,S,F,I,x,ex,λv F1 H1 g1 hx=>⟨aK,G,H₀,S,F1,I.grow g1,y,ey,λu F2 H2 g2 hy=>?_⟩⟩
  unfold Ew at e
  split at e
  .rename_i z i
   split at e
   .rename_i hz
    cases ec:cT z.cps.toList i with
    |none=>rw[ec] at e;cases e
    |some c=>
     rw[ec] at e
     cases e
     obtain⟨rfl,cz⟩:=hx
     have eu:u=.int i:=hy
     refine⟨z,i,c,rfl,eu,Nat.le_trans hz (by decide),ec,q _ F2 H2 (g1.trans g2) ⟨rfl,?_⟩⟩
     rw[rY] at cz ⊢
     intro c' hc'
     have:c'=c:=by simpa using hc'
     subst this
     obtain⟨j,_,h2,_⟩:=vo ec
     exact cz c' (List.mem_of_getElem? h2)
   .cases e
  .cases e
noncomputable def j6 (f:VE)(l u:GS->Option (Option Int)):VE:=λS=>match f S,l S,u S with
 |some (.str x),some lo,some hi=>if x.length<=1000 then some (.str (eG x lo hi)) else none
 |_,_,_=>none
theorem wX (he:PE X e (tV X.K RW f))(hl:PO X lo (Hu X.K fl))(hu:PO X hi (Hu X.K fu)):PE X (.Subscript e (.Slice lo hi none p2) pos) (tV X.K RS (j6 f fl fu)):=
 (jc aaG he hl hu).imp λ_ H Q q=>by
  obtain⟨aK,G,H₀,S,F,I,d,e,q⟩:=q
  unfold j6 at e
  split at e
  .rename_i x l u q1 q2 q3
   split at e
   .rename_i hz
    cases e
    refine⟨aK,G,H₀,S,F,I,_,q1,λv F1 H1 g1 hx=>⟨aK,G,H₀,S,F1,I.grow g1,l,q2,λF2 H2 g2=>⟨aK,G,H₀,S,F2,(I.grow g1).grow g2,u,q3,λF3 H3 g3=>?_⟩⟩⟩
    obtain⟨rfl,cx⟩:=hx
    exact⟨x,rfl,Nat.le_trans hz (by decide),q _ F3 H3 ((g1.trans g2).trans g3) ⟨rfl,Xy cx⟩⟩
   .cases e
  .cases e
end
end VM
namespace L2
open PySem PySem.Spec PyProof.Rows
noncomputable def sgn (z:Str)(i:Nat):Option Str:=(z.cps[i]?).map λc=>⟨#[c]⟩
noncomputable def Its (z:Str):It:=⟨λi _=>i<z.length,λi H x H'=>H'=H/\∃y,sgn z i=some y/\x=.str y,λi _=>z.length<=i⟩
theorem JW {P:Program}{w:World}{K:PySem.W.Frag}{tg:Expr}(z:Str)(t:Tok)(it:Addr):Turn P w K tg (Its z) [it] it (λi h=>h.IsStrIter it "str_ascii_iterator" z t i) where
 mem:=by simp
 obj:=λi h st b hb=>by
  obtain rfl:b=it:=by simpa using hb
  obtain⟨o,e,c,d⟩:=st
  exact⟨o,e,λv y=>by rw[d] at y;cases y⟩
 keep:=λi h h' st k=>let⟨o,e,r⟩:=st;⟨o,k it (by simp) o e,r⟩
 item:=by
  intro X hP hw hK hc i pins s σ H E I hf st hg
  subst hP hw hK
  obtain⟨f0,f1,f2,f3,f4,f5⟩:=hf it (by simp)
  have hi:i<z.cps.size:=hg
  have ec:z.cps[i]? =some z.cps[i]:=by simp[hi]
  refine wpAny_pyNext_ascii_item st ec λh' st' sb=>?_
  have I1:Inv X pins σ H {s with heap:=h',toks:=s.toks+1}:=I.turned (λb o hb e=>(sb.2 b hb).trans e) f0 f1 f3 f4 f5
  obtain⟨o,e,c,d⟩:=id st'
  exact⟨_,rfl,Ca (s:={s with heap:=h',toks:=s.toks+1}) e c d (by decide) ⟨.str ⟨#[z.cps[i]]⟩,H,I1,⟨_,rfl⟩,⟨rfl,_,by unfold sgn;rw[ec];rfl,rfl⟩,st',λb hb=>(hf b hb).1⟩⟩
 done:=by
  intro X hP hw hK hc i pins s σ H E I hf st hg
  subst hP hw hK
  obtain⟨f0,f1,f2,f3,f4,f5⟩:=hf it (by simp)
  have hi:z.cps.size<=i:=hg
  exact wpAny_pyNext_ascii_end (I.ok.hd hc) st (by simp[hi]) λh' eb=>⟨rfl,I.turned (t':=s.toks) (λb o hb e=>eb b o hb e) f0 f1 f3 f4 f5⟩
 self:=λ_ _ _ _ _ st h=>wpAny_pyIter_striter_ascii st h
section
variable {X:Cx}{tg:Expr}
noncomputable def ascii (z:Str):Bool:=z.cps.all (· <128)
noncomputable def aaJ (tl:TE):TI:=λσ H R=>tl σ H λx H1=>∃z,x=.str z/\ascii z=true/\R (Its z) H1
theorem M9 {l:Expr}{tl:TE}(hl:PE X l tl):PI X tg l (aaJ tl):=by
 intro pins s σ H R I h
 refine aQ (hl pins s σ H _ I h) λv s1 ⟨x,H1,I1,r1,q1⟩=>?_
 obtain⟨z,e,ha,q⟩:=q1
 subst e
 obtain⟨t,rfl⟩:=r1
 refine wpAny_pyIter_ascii ha ?_
 refine⟨s1.heap.objs.size,[s1.heap.objs.size],_,_,H1,rfl,I1.kept (t':=s1.toks) λb o e=>Heap.get?_push_of_some _ e,JW z t _,⟨_,Heap.get?_push_size _ rfl,rfl,rfl⟩,λb hb=>?_,q⟩
 obtain rfl:b=s1.heap.objs.size:=by simpa using hb
 exact I1.zf (Nat.le_refl _) (I1.hok.fresh (Nat.le_refl _))
noncomputable def Vn (K:PySem.W.Frag):List V->Hp->VK->Prop:=λxs H Q=>∃(p:Addr) (bs:List Bool),xs=[.ref p]/\bQ K H p (bs.map V.bl)/\Q (.bl (bs.all id)) H
theorem ajF (hc:X.calm=true):gw X (.builtin "all") (Vn X.K):=by
 intro pins s σ H xs us Q I r h
 obtain⟨p,bs,rfl,hq,q⟩:=h
 obtain⟨u,rfl,rx⟩:=vals1 r
 cases rx
 obtain⟨its,rv,pl,hz⟩:=I.list hq
 have hl:=rv.length
 rw[List.length_map] at hl
 have hb:∀(i:Nat) v,its[i]? =some v->v=.bool (bs.getD i true):=λi v e=>by
  have hi:i<bs.length:=by
   rcases Nat.lt_or_ge i bs.length with z|z
   .exact z
   .rw[List.getElem?_eq_none (by omega)] at e;cases e
  obtain⟨u,e2,r2⟩:=rv.get (i:=i) (x:=.bl bs[i]) (by simp[hi])
  rw[e] at e2
  cases e2
  have r2':v=.bool bs[i]:=r2
  rw[r2'];simp[List.getD,hi]
 refine call_all_walk (wpAny_pyIter_list pl.isList ?_)
 have hne:p≠s.heap.objs.size:=by
  obtain⟨o,n,e,_⟩:=pl
  exact Nat.ne_of_lt (Heap.lt_size e)
 refine⟨s.heap.objs.size,_,_,_,_,_,λi=>bs.getD i true,rfl,Walks.list (show X.A.in1.handled=none from I.ok.hd hc) s.heap.objs.size p hne its.toArray,⟨⟨_,Heap.get?_push_size _ rfl,rfl,rfl⟩,?_⟩,?_,λh' tk hk=>?_⟩
 .obtain⟨o,n,e,c1,c2,c3⟩:=pl
  exact⟨o,Heap.get?_push_of_some _ e,c1,n,c3⟩
 .intro i v s Q E hv hQ
  rw[hb i v (by simpa using hv)]
  exact wpAny_truthy_bool hQ
 .have e:(List.range its.toArray.size).all (λi=>bs.getD i true)=bs.all id:=by
   rw[List.size_toArray,←hl]
   rw[Bool.eq_iff_iff,List.all_eq_true,List.all_eq_true]
   constructor
   .intro h b hb
    obtain⟨i,hi,rfl⟩:=List.getElem_of_mem hb
    have:=h i (List.mem_range.mpr hi)
    simpa [List.getD,hi] using this
   .intro h i hi
    have hi:=List.mem_range.mp hi
    have:=h bs[i] (List.getElem_mem hi)
    simpa [List.getD,hi] using this
  rw[e]
  refine⟨.bl _,H,I.kept (t':=tk) λb o eb=>hk b o ?_ (Heap.get?_push_of_some _ eb),rfl,q⟩
  intro z
  have z':b=s.heap.objs.size:=by simpa using z
  exact absurd (Heap.lt_size eb) (by rw[z'];exact Nat.lt_irrefl _)
end
end L2
namespace VM
open PySem PySem.Spec PyProof.Rows L2
noncomputable def tU (z:Str):List PyData:=z.cps.toList.map λc=>.str ⟨#[c]⟩
noncomputable def gO (f:VE):VA:=λS=>match f S with
 |some (.str z)=>if ascii z=true then some (tU z) else none
 |_=>none
section
variable {X:Cx}{tg l e:Expr}{f:VE}{fs:VA}
theorem itS (he:PE X l (tV X.K RW f)):PI X tg l (Ec X.K (gO f)):=PI.imp (M9 he) λ_ H R q=>by
 obtain⟨aK,G,H₀,S,F,I,ds,e,q⟩:=q
 unfold gO at e
 split at e
 .rename_i z q1
  split at e
  .rename_i ha
   cases e
   refine⟨aK,G,H₀,S,F,I,_,q1,λv F1 H1 g1 hx=>?_⟩
   obtain⟨rfl,cz⟩:=hx
   refine⟨z,rfl,ha,q _ F1 H1 g1 ⟨λi d F' H' hd s1 s2=>⟨?_,λx xZ hy=>?_⟩,λi F' H' hi _ _=>?_⟩⟩
   .have:=(List.getElem?_eq_some_iff.mp hd).1
    rw[tU,List.length_map] at this
    show i<z.cps.size
    simpa using this
   .obtain⟨rfl,y,hy,rfl⟩:=hy
    refine⟨F',bY.refl s2,?_⟩
    rw[tU,List.getElem?_map] at hd
    obtain⟨c,ec,rfl⟩:=Option.map_eq_some_iff.mp hd
    have ec':z.cps[i]? =some c:=by simpa using ec
    unfold sgn at hy
    rw[ec'] at hy
    cases hy
    refine⟨rfl,?_⟩
    rw[rY] at cz ⊢
    intro c' hc'
    have:c'=c:=by simpa using hc'
    subst this
    exact cz c' (List.mem_of_getElem? ec)
   .rw[tU,List.length_map] at hi
    show z.cps.size<=i
    simpa using hi
  .cases e
 .cases e
noncomputable def boolsOf:List PyData->Option (List Bool)
 |[]=>some []
 |.bool b::r=>(boolsOf r).map λl=>b::l
 |_=>none
theorem uX:∀{ds:List PyData}{xs:List Bool},boolsOf ds=some xs->ds=xs.map PyData.bool
 |[],xs,h=>by cases h;rfl
 |d::r,xs,h=>by
  unfold boolsOf at h
  split at h
  .rename_i e;cases e
  .rename_i x r' e
   cases e
   cases q:boolsOf r with
   |none=>rw[q] at h;cases h
   |some l=>rw[q] at h;cases h;rw[uX q];rfl
  .cases h
theorem qX:∀(xs:List Bool),boolsOf (xs.map PyData.bool)=some xs
 |[]=>rfl
 |x::r=>by show(boolsOf (r.map PyData.bool)).map _=_;rw[qX r];rfl
theorem Ey {K:PySem.W.Frag}{H:Hp}:∀{xs:List Bool}{vs:List V},aJ K H (xs.map PyData.bool) vs->vs=xs.map V.bl
 |[],vs,h=>h
 |x::xs,vs,h=>by
  obtain⟨v,r,rfl,h2,h3⟩:=h
  have h2':v=.bl x:=h2
  rw[h2',Ey h3];rfl
noncomputable def qY:List PyData->Option PyData
 |[.list ds]=>(boolsOf ds).map λbs=>.bool (bs.all id)
 |_=>none
theorem ajG {K:PySem.W.Frag}:CallD K qY (Vn K):=by
 intro H vs ds d Q e hx q
 unfold qY at e
 split at e
 .rename_i ds
  cases eb:boolsOf ds with
  |none=>rw[eb] at e;cases e
  |some bs=>
   rw[eb] at e
   cases e
   obtain⟨v,rfl,a,xs,rfl,h1,h2⟩:=aJ.one hx
   rw[uX eb] at h2
   rw[Ey h2] at h1
   exact⟨a,bs,rfl,h1,q _ λ_=>rfl⟩
 .cases e
end
end VM
namespace L2
open PySem PySem.Spec PyProof.Rows
section
variable {X:Cx}{pins:List (Addr×Obj)}{σ:List (Option V)}{H:Hp}{s:Shared}{a:Addr}{kvs:List (Key×V)}{o:Obj}
theorem Inv.still (I:Inv X pins σ H s)(h:H a=some (.dK kvs))(ho:s.heap.get? a=some o):Inv X pins σ (upd H a (.eO o (.dK kvs))) s:=by
 have new:dY X.prog X.w (upd H a (.eO o (.dK kvs))) s.heap a (.eO o (.dK kvs)):=⟨ho,I.hok a _ h⟩
 exact I.write (h':=s.heap) (t':=s.toks) (e:=a) (by rw[h];exact True.intro) (.inl rfl) (λ_ _ _ e=>e) ⟨o,ho⟩ new
theorem Inv.loose {σ':List (Option V)}{H':Hp}{s':Shared}(Q0:Inv X pins σ H s)(h₀:H a=some (.dK kvs))(I:Inv X pins σ' H' s')(h:H' a=some (.eO o (.dK kvs))):Inv X pins σ' (upd H' a (.dK kvs)) s':=by
 have ht:H' a≠none:=by rw[h];simp
 have nf:∀ob u,X.H₀ a≠some (.eO ob u):=λob u e=>by
  have:=Q0.base.jX a ob u e
  rw[h₀] at this;cases this
 have nt:∀xs,X.H₀ a≠some (.tup xs):=λxs e=>by
  have:=Q0.base.tups a xs e
  rw[h₀] at this;cases this
 have nb:∀ps,X.H₀ a≠some (.z9 ps):=λps e=>by
  obtain⟨more,this⟩:=Q0.base.kJ a ps e
  rw[h₀] at this;cases this
 have ajH:=I.hok a _ h
 refine⟨I.ok,I.os,I.bare,⟨I.base.keep,I.base.slot,λb ob e n hx=>?_,I.base.there,λb xs e=>?_,λb ob u e=>?_,λb ps e=>?_⟩,I.loc,I.cell,?_,λx c e=>?_,λp hp=>?_,λb u e=>?_,I.len⟩
 .have z:=I.base.free b ob e n hx
  rw[aq λy=>by subst y;exact ht z];exact z
 .rw[aq λy=>by subst y;exact nt xs e];exact I.base.tups b xs e
 .rw[aq λy=>by subst y;exact nf ob u e];exact I.base.jX b ob u e
 .obtain⟨more,z⟩:=I.base.kJ b ps e
  exact⟨more,by rw[aq λy=>by subst y;exact nb ps e];exact z⟩
 .rw[aq λy=>ht (by rw[<-y];exact I.free)];exact I.free
 .rw[aq λy=>ht (by rw[<-y];exact I.iJ x c e)];exact I.iJ x c e
 .obtain⟨p1,p2,p3⟩:=I.pin p hp
  exact⟨p1,by rw[aq λy=>ht (by rw[<-y];exact p2)];exact p2,p3⟩
 .by_cases hb:b=a
  .subst hb
   rw[ao] at e
   cases e
   exact ajH.2
  .rw[aq hb] at e
   refine(I.hok b u e).stay (λc v _ q=>q) (λc q=>?_) λc xs q=>?_
   .rw[aq λy=>by subst y;rw[h] at q;cases q];exact q
   .rw[aq λy=>by subst y;rw[h] at q;cases q];exact q
end
noncomputable def Iti (a:Addr)(o:Obj)(kvs:List (Key×V)):It:=
  ⟨λi H=>H a=some (.eO o (.dK kvs))/\i<kvs.length,
   λi H v H'=>∃p kv,kvs[i]? =some kv/\H p=none/\v=.ref p/\H'=upd H p (.tup [kV kv.1,kv.2]),
   λi H=>H a=some (.eO o (.dK kvs))/\kvs.length<=i⟩
theorem HX {P:Program}{w:World}{k:Key}{v:Value}(h:(cJ P w).is k v=true):RelV (kV k) v:=by
 rw[Jc] at h
 rcases eY h with⟨j,t,e,e2⟩|⟨x,t,e,e2⟩
 .subst e;exact⟨t,e2⟩
 .subst e;exact⟨t,e2⟩
theorem Ez {P:Program}{w:World}{H:Hp}{h:Heap}{a:Addr}{o:Obj}{kvs:List (Key×V)}(ok:fH P w H h)(e:H a=some (.eO o (.dK kvs))){es:Array DictEntry}{ep:Nat}(ho:o.data=.dict es ep):
  ∃vs,KV kvs vs/\h.DictAt (cJ P w) a vs ep:=by
 obtain⟨g,_,_,vs,kv,o',es',ep',g',x1,x2,x3,x4,x5⟩:=(show dY P w H h a (.eO o (.dK kvs)) from ok a _ e)
 rw[g] at g'
 cases g'
 rw[ho] at x2
 cases x2
 exact⟨vs,kv,o,es,g,x1,ho,x3,x4,x5⟩
theorem JX {P:Program}{w:World}{K:PySem.W.Frag}{elts:List Expr}{k:Nat}{pos:Pos}(a it:Addr)(o:Obj)(kvs:List (Key×V))(es:Array DictEntry)(ep:Nat)(ho:o.data=.dict es ep):
  Turn P w K (.Tuple elts k pos) (Iti a o kvs) [it] it (λi h=>∃ok ov,IsItemIter h it a i kvs.length ep ok ov) where
 mem:=by simp
 obj:=λi h st b hb=>by
  obtain⟨_,_,he⟩:=st
  rw[List.mem_singleton.mp hb]
  exact⟨_,he,λv z=>by have z':Data.fields _=Data.cell v:=z;cases z'⟩
 keep:=λi h h' st k=>by
  obtain⟨ok,ov,he⟩:=st
  exact⟨ok,ov,k it (by simp) _ he⟩
 item:=by
  intro X hP hw hK hc i pins s σ H E I hf st hg
  subst hP hw hK
  obtain⟨ok,ov,he⟩:=st
  obtain⟨hd,hi⟩:=hg
  obtain⟨vs,kv,dat⟩:=Ez I.hok hd ho
  have hl:=kv.length
  have ex:kvs[i]? =some kvs[i]:=by simp[hi]
  obtain⟨⟨k',v'⟩,e2,r1,r2⟩:∃y,vs[i]? =some y/\kvs[i].1=y.1/\RelV kvs[i].2 y.2:=by
   have key:∀{l:List (Key×V)}{r:List (Key×Value)} {j:Nat} {x:Key×V},KV l r->l[j]? =some x->∃y,r[j]? =some y/\x.1=y.1/\RelV x.2 y.2:=λ{l r}=>by
    intro j x h
    induction h generalizing j with
    |nil=>intro e;cases e
    |cons h _ ih=>
     cases j with
     |zero=>intro e;cases e;exact⟨_,rfl,h⟩
     |succ j=>intro e;exact ih e
   exact key kv ex
  rw[hl] at he
  refine wpAny_pyNext_items_item he dat e2 λkey h' hk hO hT hsz hkp=>?_
  refine⟨_,rfl,wpAny_letOwnedTupleGo_items hO λh2 he2 hs2=>?_⟩
  have hlt:it<s.heap.objs.size:=Heap.lt_size he
  have hT2:h2.get? s.heap.objs.size=some {cls:=.type "tuple",data:=.seq #[key,v']}:=(hs2.2 _ (Nat.ne_of_gt hlt)).trans hT
  have rk:RelV (kV kvs[i].1) key:=by rw[r1];exact HX hk
  refine⟨.ref s.heap.objs.size,upd H s.heap.objs.size (.tup [kV kvs[i].1,kvs[i].2]),?_,rfl,⟨_,kvs[i],ex,I.hok.fresh (Nat.le_refl _),rfl,rfl⟩,⟨key,v',by rw[hl];exact he2⟩,λb hb=>?_⟩
  .refine I.WY (fp:=[it]) (λb ob hb q=>?_) hf (Nat.le_refl _) ⟨by show 2<=sizeLine;decide,[key,v'],.cons rk (.cons r2 .nil),⟨_,hT2,rfl,_,rfl⟩⟩
   have h1:b≠it:=λz=>hb (by simp[z])
   exact(hs2.2 b h1).trans (hkp b ob h1 q)
  .rw[List.mem_singleton.mp hb,aq (Nat.ne_of_lt hlt)]
   exact(hf it (by simp)).1
 done:=by
  intro X hP hw hK hc i pins s σ H E I hf st hg
  subst hP hw hK
  obtain⟨ok,ov,he⟩:=st
  obtain⟨hd,hi⟩:=hg
  obtain⟨vs,kv,dat⟩:=Ez I.hok hd ho
  have hl:=kv.length
  rw[hl] at he
  refine wpAny_pyNext_items_end (I.ok.hd hc) he dat (List.getElem?_eq_none (by omega)) λh' eb=>⟨rfl,I.turns (t':=s.toks) (fp:=[it]) (λb ob hb q=>eb b ob (λz=>hb (by simp[z])) q) hf⟩
 self:=λ_ _ _ _ _ st h=>by
  obtain⟨ok,ov,he⟩:=st
  exact PySem.W.kcp_self he h
section
variable {X:Cx}{elts:List Expr}{k:Nat}{tpos:Pos}
noncomputable def jg (d:Addr):Obj:={cls:=.type "dict_items",data:=.fields #[.ref d]}
noncomputable def HY:V->List V->Hp->VK->Prop:=λx vs H Q=>match x,vs with
 |.ref d,[]=>∃kvs,H d=some (.dK kvs)/\∀z,H z=none->Q (.ref z) (upd H z (HO.ext λh=>h.get? z=some (jg d)))
 |_,_=>False
theorem aaL:Hl X "dict.items" HY:=by
 intro pins s σ H x vs v us Q I rx rv q
 match x,vs,q with
 |.ref d,[],⟨kvs,hH,q⟩=>
  cases rx
  have hus:=rv.zero
  subst hus
  obtain⟨z,hS,ws,rel,dd⟩:=tO I.hok hH
  refine call_meetsIn PySem.F.slot_dict_items dd.typeIs PySem.F.entry_dict_items (PySem.F.args_dict_items_1 _) (meets_dict_items (cJ X.prog X.w) d hS) ⟨⟨ws,dd⟩,?_⟩
  have e:(s.heap.push (jg d)).get? s.heap.objs.size=some (jg d):=Heap.get?_push_size _ rfl
  exact⟨.ref _,_,I.laid (a:=s.heap.objs.size) (o:=HO.ext λh=>h.get? s.heap.objs.size=some (jg d)) (h':=s.heap.push (jg d)) (t':=s.toks) (λ_ _ q=>Heap.get?_push_of_some _ q) (Nat.le_refl _) ⟨e,⟨_,e⟩,λh1 h2 a b=>b _ a⟩,rfl,q _ I.fresh⟩
noncomputable def Nb (K:PySem.W.Frag)(td:TE):TI:=λσ H R=>Qh K "dict" HY td σ H λv H2=>∃z a kvs H1,v=.ref z/\H2=upd H1 z (HO.ext λh=>h.get? z=some (jg a))/\H1 z=none/\H1 a=some (.dK kvs)/\∀o,R (Iti a o kvs) (upd H2 a (.eO o (.dK kvs)))
theorem Q5 {d:Expr}{td:TE}{apos cpos:Pos}(hd:PE X d td)(hbase:attributeBase d "items" X.env (eval d X.env)=eval d X.env:=by rfl)(hline:(apos.endLine==cpos.line)=true:=by rfl):
  PI X (.Tuple elts k tpos) (.Call (.Attribute d "items" apos) [] [] cpos) (Nb X.K td):=by
 intro pins s σ H R I h
 have pe:=Zi (X:=X) (apos:=apos) (cpos:=cpos) PySem.F.plainAttrs_dict PySem.F.slot_dict_items PySem.F.type_dict_items aaL hd hbase hline
 refine aQ (pe pins s σ H _ I h) λv s1 ⟨x,H2,I2,r2,z,a,kvs,H1,ex,eH,hz,ha,q⟩=>?_
 subst ex
 cases r2
 subst eH
 have hza:a≠z:=aR ha hz
 have ha2:upd H1 z (HO.ext λh=>h.get? z=some (jg a)) a=some (.dK kvs):=by rw[aq hza];exact ha
 have hv:s1.heap.get? z=some (jg a):=(I2.hok z _ ao).1
 obtain⟨_,hS,ws,rel,dd⟩:=tO I2.hok ha2
 obtain⟨o,es,ep,d1,d2,d3,d4,d5,d6⟩:=id dd
 have hl:=rel.length
 refine wpAny_pyIter_items (knd:=cJ X.prog X.w) ⟨_,hv,rfl,rfl⟩ ⟨o,es,d1,d2,d3,d4,d5,d6⟩ ?_
 have I3:=I2.kept (t':=s1.toks) (h':=s1.heap.push {cls:=.type "dict_itemiterator",data:=.fields #[.none,.bool false,.ref a,.int 0 0,.int ws.length 0,.int ep 0,.none,.none]}) λb ob e=>Heap.get?_push_of_some _ e
 refine⟨s1.heap.objs.size,[s1.heap.objs.size],_,_,_,rfl,I3.still ha2 (Heap.get?_push_of_some _ d1),JX a _ o kvs es ep d3,⟨.none,.none,by rw[hl];exact Heap.get?_push_size _ rfl⟩,λb hb=>?_,q o⟩
 rw[List.mem_singleton.mp hb]
 have fr:=I2.hok.fresh (Nat.le_refl s1.heap.objs.size)
 refine I2.zf (Nat.le_refl _) ?_
 rw[aq λy=>by rw[y,ha2] at fr;cases fr]
 exact fr
theorem Q6 {st:Stmt}{t:TS}(h:PS X st t):PS X st (λD σ H=>∃a kvs,H a=some (.dK kvs)/\t {D with nx:=λσ' H'=>∃o,H' a=some (.eO o (.dK kvs))/\D.nx σ' (upd H' a (.dK kvs))} σ H):=by
 intro pins s σ H D I q
 obtain⟨a,kvs,ha,q⟩:=q
 refine aQ (h pins s σ H _ I q) λf s' hf=>?_
 cases f with
 |next=>
  obtain⟨σ',H',I',o,h1,h2⟩:=hf
  exact⟨σ',_,Inv.loose I ha I' h1,h2⟩
 |brk=>exact hf
 |cont=>exact hf
 |ret u=>exact hf
theorem aaM (hc:X.calm=true):gw X (.type "list") (λxs H Q=>∃a kvs,xs=[.ref a]/\H a=some (.dK kvs)/\∀z,H z=none->Q (.ref z) (upd H z (.lst (kvs.map λkv=>kV kv.1)))):=by
 intro pins s σ H xs us Q I r h
 obtain⟨a,kvs,rfl,ha,q⟩:=h
 obtain⟨u,rfl,rx⟩:=vals1 r
 cases rx
 obtain⟨hz,hS,ws,rel,dd⟩:=tO I.hok ha
 obtain⟨ep,dat⟩:=dd.dictAt
 have hl:=rel.length
 refine PySem.W.kdl_call (PySem.W.kdl_dict (knd:=cJ X.prog X.w) (kvs:=ws) (ep:=ep) hS) (I.ok.hd hc) dat (by omega) λh' tk acc c hk hD hacc=>?_
 have hv:Vals (kvs.map λkv=>kV kv.1) acc.toList:=by
  have key:∀{l:List (Key×V)}{r:List (Key×Value)} {us:List Value},KV l r->us.length=r.length->(∀(j:Nat) v,us[j]? =some v->∃k x,r[j]? =some (k,x)/\(cJ X.prog X.w).is k v=true)->Vals (l.map λkv=>kV kv.1) us:=λ{l r us} h=>by
   induction h generalizing us with
   |nil=>intro hl _;cases us with
    |nil=>exact .nil
    |cons _ _=>cases hl
   | @cons x y l r h _ ih=>
    intro hl hv
    cases us with
    |nil=>cases hl
    |cons u us=>
     refine .cons ?_ (ih (by simpa using hl) λj v e=>hv (j+1) v e)
     obtain⟨k,x',e,hk⟩:=hv 0 u rfl
     have e':y=(k,x'):=by simpa using e
     show RelV (kV x.1) u
     rw[h.1,e']
     exact HX hk
  refine key rel (by rw[Array.length_toList];exact hacc.1) λj v e=>hacc.2 j v (by rw[<-Array.getElem?_toList];exact e)
 exact⟨.ref s.heap.objs.size,_,I.laid (t':=tk) (h':=h') (o:=.lst (kvs.map λkv=>kV kv.1)) hk (Nat.le_refl _) ⟨by rw[List.length_map];exact hz,acc.toList,c,hv,by rw[hD]⟩,rfl,q _ (I.hok.fresh (Nat.le_refl _))⟩
end
end L2
namespace L2
open PySem PySem.Spec PyProof.Rows PySem.SeqAt
open PySem.MeetsSeq (size_erased plain_remove_loop entry_remove_loop)
open PySem.AutoSeq1 (wpAny_loadPart')
theorem Bw (l:Addr)(items:Array Value)(n:Nat)(x:Value)(j:Nat)(hj:j<items.size)(k:Nat)(hs1:items.size<=sizeLine):
  ∀i:Nat,j - i=k->i<=j->Meets (Builtin.«list.remove.loop» ⟨[.ref l,x,rawInt i],[]⟩)
   (λA R s=>s.heap.get? l=some {cls:=.type "list",dict:=none,data:=.seq items n,slots:=#[]}/\(∀m (hm:m<items.size),m<=j->EqAt A.in1 s items[m] x (decide (m=j)))/\R (.ok (.ret .none)) {s with heap:=s.heap.update l (Obj.mapSeq λxs=>xs.eraseIdxIfInBounds j)}):=by
 induction k with
 |zero=>
  intro i hk hij prog w A R s h
  obtain⟨hp,g,d,tk,os⟩:=s;obtain⟨hl,he,h⟩:=h
  have hij':i=j:=by omega
  subst hij'
  wp_walk using wpAny_loadPart' hl
  have hi:items[((i:Nat):Int).toNat]? =some items[i]:=by simp[hj]
  rw[hi]
  refine wpAny_bind (he i hj (Nat.le_refl _) prog w _ _ ?_)
  rw[decide_eq_true rfl]
  have hz':(items.eraseIdxIfInBounds i).size<=sizeLine+1:=Nat.le_trans (size_erased items _) (Nat.le_succ_of_le hs1)
  wp_walk using(wpAny_updateSeq hl rfl (hz:=hs1) (_hz':=hz')),wpAny_loadPart' hl
  simpa using h
 |succ k ih=>
  intro i hk hij prog w A R s h
  obtain⟨hp,g,d,tk,os⟩:=s;obtain⟨hl,he,h⟩:=h
  have hlt:i<items.size:=by omega
  wp_walk using wpAny_loadPart' hl
  have hi:items[((i:Nat):Int).toNat]? =some items[i]:=by simp[hlt]
  have hc:((i:Int)+1)=((i+1:Nat):Int):=by push_cast;rfl
  rw[hi]
  refine wpAny_bind (he i hlt (by omega) prog w _ _ ?_)
  rw[decide_eq_false (by omega)]
  wp_walk
  rw[hc]
  exact⟨plainId_quiet plain_remove_loop _,codeAny_builtin entry_remove_loop (by
   rw[Around.under_plainId plain_remove_loop _]
   exact ih (i+1) (by omega) (by omega) prog w A R _ ⟨hl,he,h⟩)⟩
theorem Bx (l:Addr)(items:Array Value)(n:Nat)(x:Value)(j:Nat)(hj:j<items.size)(hs1:items.size<=sizeLine):
  Meets (Builtin.«list.remove» ⟨[.ref l,x],[]⟩)
   (λA R s=>s.heap.get? l=some {cls:=.type "list",dict:=none,data:=.seq items n,slots:=#[]}/\(∀m (hm:m<items.size),m<=j->EqAt A.in1 s items[m] x (decide (m=j)))/\R (.ok (.ret .none)) {s with heap:=s.heap.update l (Obj.mapSeq λxs=>xs.eraseIdxIfInBounds j)}):=by
 intro prog w A R s h
 obtain⟨hp,g,d,tk,os⟩:=s;obtain⟨hl,he,h⟩:=h
 wp_walk using wpAny_loadPart' hl
 exact⟨plainId_quiet plain_remove_loop _,codeAny_builtin entry_remove_loop (by
  rw[Around.under_plainId plain_remove_loop _]
  exact Bw l items n x j hj _ hs1 0 rfl (Nat.zero_le _) prog w A R _ ⟨hl,he,h⟩)⟩
section
variable {X:Cx}
noncomputable def JZ (K:PySem.W.Frag):V->List V->Hp->VK->Prop:=λx vs H Q=>∃l y xs ds dy j,x=.ref l/\vs=[y]/\H l=some (.lst xs)/\aJ K H ds xs/\Has K H dy y/\dy.depth<=60/\j<xs.length/\(∀m d,m<=j->ds[m]? =some d->PyData.eqv d dy=decide (m=j))/\Q .non (upd H l (.lst (xs.eraseIdx j)))
theorem ajI (hu:X.A.units+64<cLine):Hl X "list.remove" (JZ X.K):=by
 intro pins s σ H x vs v us Q I rx rv h
 obtain⟨l,y,xs,ds,dy,j,rfl,rfl,hH,hd,hy,apI,hj,heq,q⟩:=h
 cases rx
 obtain⟨u,rfl,ru⟩:=rv.one
 obtain⟨z,its,n,r,hl,e⟩:=I.Zm hH
 obtain⟨bs,rb⟩:=hy.reads I ru
 refine call_meets F.slot_list_remove ⟨_,e,rfl⟩ F.entry_list_remove (F.args_list_remove_2 _ _) (Bx l its.toArray n u j (by rw[List.size_toArray];omega) (by rw[List.size_toArray];omega)) ⟨e,λm hm Vo=>?_,?_⟩
 .have hm':m<xs.length:=by rw[List.size_toArray] at hm;omega
  have ex:xs[m]? =some xs[m]:=by simp[hm']
  obtain⟨d,ed,hdv⟩:=hd.get ex
  obtain⟨u',eu,ru'⟩:=r.get ex
  have e2:its.toArray[m]=u':=by
   have:its[m]? =some its.toArray[m]:=by simp
   rw[eu] at this
   exact(Option.some.inj this).symm
  rw[e2,←heq m d Vo ed]
  obtain⟨as,ra⟩:=hdv.reads I ru'
  refine eqAt_reads d dy _ s u' u as bs ra rb hdv.can hy.can ?_
  show X.A.units+1+_<cLine
  have:=Nat.min_le_right d.depth dy.depth
  omega
 .refine⟨.non,_,I.Zj (its':=its.eraseIdx j) hH e ?_ (r.eraseIdx j) ?_,rfl,q⟩
  .show its.toArray.eraseIdxIfInBounds j=(its.eraseIdx j).toArray
   rw[List.eraseIdxIfInBounds_toArray]
  .have:=Am xs j
   omega
theorem agF {o e:Expr}{apos cpos:Pos}{to:TE}{t:TA}(hu:X.A.units+64<cLine)(ho:PE X o to)(ha:PA X [e] t)
  (hbase:attributeBase o "remove" X.env (eval o X.env)=eval o X.env:=by rfl)
  (hfew:((backTo cpos (starEach [e] X.env)).all (λx=>!x.1) && (backToKw cpos (keywordEach [] X.env)).all (λx=>x.1.isSome)
   && decide (([e]:List Expr).length+([]:List Keyword).length+(if([]:List Keyword).isEmpty then 0 else 1)<30))=true:=by rfl)
  (hline:(apos.endLine==cpos.line)=true:=by rfl)(hs:starEach [e] X.env=(false,eval e X.env)::starEach [] X.env:=by rfl)(hplain:(backTo cpos (starEach [] X.env)).any (·.1)=false:=by rfl):
  PE X (.Call (.Attribute o "remove" apos) [e] [] cpos) (wA X.K "list" (JZ X.K) to t):=UJ PySem.F.plainAttrs_list PySem.F.slot_list_remove PySem.F.type_list_remove (ajI hu) ho ha hbase hfew hline hs hplain
end
end L2
namespace EX
open PySem
theorem aaN {o:Obj}{vs:Array Value}(f:Array Value->Array Value)(hd:o.data=.fields vs):o.mapFields f={o with data:=.fields (f vs)}:=by
 obtain⟨c,d,dt,sl⟩:=o
 cases hd
 rfl
structure Fly (fr:List Addr)(e T:Addr)(h h':Heap):Prop where
 keep:∀b o,b∉fr->b≠e->h.get? b=some o->h'.get? b=some o
 slot:∀b o,b≠e->h.get? b=some o->∃sl,h'.get? b=some {o with slots:=sl}
 self:∀o vs,h.get? e=some o->o.data=.fields vs->∃ws,h'.get? e=some {o with data:=.fields ws}/\ws[0]? =vs[0]?∧ws[1]? =some (.ref T)
 new:h.objs.size<=T
 ent:∃oT ts,h'.get? T=some oT/\oT.data=.fields ts/\ts[3]? =some .none
 ne:T≠e
section
variable {M:Model}{A:Around}{E:Value->Shared->Prop}{s:Shared}{base:Heap}{env:Env}{outer:List Env}{L e:Addr}{oe:Obj}{vs:Array Value}{Q:Unit->Shared->Prop}
theorem entry {head:Value}{had:Bool}(hfr:A.frames=some (env::outer))(hl:s.heap.FunFrames base (env::outer))(hf:env.frame=some L)(he:s.heap.get? e=some oe)(hd:oe.data=.fields vs)(hz:1<vs.size)
  (k:∀h' T,Fly ((env::outer).filterMap (·.frame)) e T s.heap h'->Q () {s with heap:=h'}):
  wpAny M A (do let fo<-frameOf env;let pl<-entryPlaceOf L had;let nw<-EntryCells.newEntry head fo .none (rawInt L) .none pl;setField (.ref e) 1 nw)
   (λ_ s'=>wpAny M A (setFlight (.ref e) none) Q E s') E s:=by
 have nfr:e∉(env::outer).filterMap (·.frame):=λz=>by
  obtain⟨_,o,ho,no⟩:=hl.mem z
  rw[he] at ho
  cases ho
  exact no vs hd
 refine wpAny_bind (wpAny_frameOf_fun hfr hl hf λg1 so=>?_)
 refine wpAny_bind (wpAny_entryPlaceOf λpl hpl=>?_)
 unfold EntryCells.newEntry newFields
 refine wpAny_bind (wpAny_newObj_type ?_ (hpl.sizeOk5 _ _ _ _ _))
 generalize hts:([head,.ref L,.none,rawInt L,.none]++(if pl.isEmpty then List.replicate 6 Value.none else pl)).toArray=ts
 have z3:3<ts.size:=by rw[<-hts];simp only[List.size_toArray,List.length_append,List.length_cons,List.length_nil];omega
 generalize hob:({cls:=.type "traceback",dict:=none,data:=.fields ts}:Obj)=ob
 have J0:ob.data=.fields ts:=by rw[<-hob]
 have ajJ:ob.isFreed=false:=Obj.isFreed_of_fields J0
 have e1:g1.get? e=some oe:=(so.2.1 e nfr).trans he
 have lt:e<g1.objs.size:=Heap.lt_size e1
 have ne:g1.objs.size≠e:=Nat.ne_of_gt lt
 have e2:(g1.push ob).get? e=some oe:=Heap.get?_push_of_some _ e1
 refine wpAny_setField e2 hd hz ?_
 have d3:=Obj.data_mapFields hd (·.setIfInBounds 1 (Value.ref g1.objs.size))
 have e3:=Heap.get?_update_self (Obj.mapFields (·.setIfInBounds 1 (Value.ref g1.objs.size))) e2 (Obj.isFreed_of_fields d3)
 have t3:=(Heap.get?_update_other (g1.push ob) (Obj.mapFields (·.setIfInBounds 1 (Value.ref g1.objs.size))) ne.symm).trans (Heap.get?_push_size g1 ajJ)
 unfold setFlight
 refine wpAny_bind (wpAny_field e3 d3 (x:=.ref g1.objs.size) (by simp[hz]) ?_)
 rw[if_pos (show(Value.ref g1.objs.size !=Value.none)=true from by simp)]
 refine wpAny_setField t3 J0 z3 (k _ g1.objs.size ?_)
 have kp:∀b o,b≠e->g1.get? b=some o->((((g1.push ob).update e (Obj.mapFields (·.setIfInBounds 1 (Value.ref g1.objs.size)))).update g1.objs.size (Obj.mapFields (·.setIfInBounds 3 ((none:Option Addr).elim Value.none λf=>rawInt f))))).get? b=some o:=λb o hb q=>by
  rw[Heap.get?_update_other _ _ (Nat.ne_of_gt (Heap.lt_size q)),Heap.get?_update_other _ _ hb.symm]
  exact Heap.get?_push_of_some _ q
 refine⟨λb o hb hbe q=>kp b o hbe ((so.2.1 b hb).trans q),λb o hbe q=>?_,λo ws q qd=>?_,?_,?_,ne⟩
 .obtain⟨sl,q1⟩:=so.2.2 b o q
  exact⟨sl,kp b _ hbe q1⟩
 .rw[he] at q
  cases q
  rw[hd] at qd
  cases qd
  refine⟨vs.setIfInBounds 1 (Value.ref g1.objs.size),?_,by rw[Array.getElem?_setIfInBounds_ne (by decide)],by simp[hz]⟩
  rw[Heap.get?_update_other _ _ ne,e3,aaN _ hd]
 .exact Nat.le_of_eq so.1.symm
 .refine⟨_,_,Heap.get?_update_self _ t3 (Obj.isFreed_of_fields (Obj.data_mapFields J0 _)),Obj.data_mapFields J0 _,?_⟩
  simp[z3]
theorem leave (hfr:A.frames=some (env::outer))(hl:s.heap.FunFrames base (env::outer))(hf:env.frame=some L)(he:s.heap.get? e=some oe)(hd:oe.data=.fields vs)(h1:vs[1]? =some .none)
  (k:∀h' T,Fly ((env::outer).filterMap (·.frame)) e T s.heap h'->Q () {s with heap:=h'}):wpAny M A (leaving env (.ref e)) Q E s:=by
 unfold leaving noteFrame
 simp only[hf]
 refine wpAny_bind (wpAny_bind (wpAny_field he hd h1 ?_))
 rw[if_neg (by decide)]
 exact entry hfr hl hf he hd (Array.getElem?_eq_some_iff.mp h1).1 k
theorem land {T0:Addr}{o0:Obj}{ts:Array Value}(hfr:A.frames=some (env::outer))(hl:s.heap.FunFrames base (env::outer))(hf:env.frame=some L)(he:s.heap.get? e=some oe)(hd:oe.data=.fields vs)(h1:vs[1]? =some (.ref T0))
  (ne:T0≠e)(h0:s.heap.get? T0=some o0)(d0:o0.data=.fields ts)(h3:ts[3]? =some .none)
  (k:∀h1 h' T,(∀b o,b≠T0->s.heap.get? b=some o->h1.get? b=some o)->h1.objs.size=s.heap.objs.size->Fly ((env::outer).filterMap (·.frame)) e T h1 h'->Q () {s with heap:=h'}):
  wpAny M A (noteFrame (.ref e) env) (λ_ s'=>wpAny M A (setFlight (.ref e) none) Q E s') E s:=by
 unfold noteFrame
 simp only[hf]
 refine wpAny_bind (wpAny_field he hd h1 ?_)
 rw[if_pos (show(Value.ref T0 !=Value.none)=true from by simp)]
 refine wpAny_bind (wpAny_field h0 d0 h3 ?_)
 rw[if_neg (by simp[rawInt])]
 have z3:=(Array.getElem?_eq_some_iff.mp h3).1
 refine wpAny_bind (wpAny_setField h0 d0 z3 ?_)
 have nT:T0∉(env::outer).filterMap (·.frame):=λz=>by
  obtain⟨_,o,ho,no⟩:=hl.mem z
  rw[h0] at ho
  cases ho
  exact no ts d0
 have kp:∀b o,b≠T0->s.heap.get? b=some o->(s.heap.update T0 (Obj.mapFields (·.setIfInBounds 3 Value.none))).get? b=some o:=λb o hb q=>(Heap.get?_update_other _ _ hb.symm).trans q
 refine entry (base:=base) hfr ?_ hf (kp e oe ne.symm he) hd (Array.getElem?_eq_some_iff.mp h1).1 λh' T fl=>k _ h' T kp (Heap.size_after_update ..) fl
 exact hl.of_keeps λb o ho no=>⟨o,kp b o (λz=>by subst z;rw[h0] at ho;cases ho;exact no ts d0) ho,rfl⟩
end
end EX
namespace EX
open PySem PySem.W
open Builtin Builtin.ObjectAttr
set_option maxHeartbeats 1000000
noncomputable abbrev iH:List Value:=[.type "ValueError",.type "Exception",.type "BaseException",.type "object"]
structure XC (K:Frag)(C D:Addr):Prop where
 obj:∃(nm q:Str) (N:Addr) (bs:List Value) (sn:List Str) (sub:List Value) (ab:Bool) (col:Option Bool) (dd:Option Addr) (k0 k1 k2 k3 k5:Option Value),
  K.lookup C=some (excClassObj nm q C N bs (.ref D::iH) true sn sub ab col dd k0 k1 k2 k3 k5 "ValueError.__new__")
 tl:tailIn K iH (.ref D::iH)=true
section
variable {prog:Program}{w:World}{A:Around}{E:Value->Shared->Prop}{h:Heap}{g:Array GenState}{d:Drawn}{t:Nat}{os:OsState}{K:Frag}{C D fI x:Addr}
theorem Nf {rest:List Value}{Q:Fin->Shared->Prop}(X:K.In h)(c:XC K C D)(hi:findIn K (.ref C) "__init__"=some (some (.ref fI)))(hf:isFn K (.ref fI)=true)
  (hq:∀h' e,h.objs.size<=e->Heap.MadeExcOf h h' e (.ref C) rest->wpAny (model prog w) A (call (.ref fI) (.ref e::rest)) (λr s'=>r=.none/\Q (.done (.ret (.ref e))) s') E ⟨h',g,d,t,os⟩)(hrest:rest.length<=sizeLine):
  wpAny (model prog w) A (Builtin.«type.__call__» ⟨.ref C::rest,[]⟩) Q E ⟨h,g,d,t,os⟩:=by
 obtain⟨nm,q,N,bs,sn,sub,ab,col,dd,k0,k1,k2,k3,k5,lk⟩:=c.obj
 have hC:=X _ _ lk
 have T:=tail_of_in X c.tl
 have FV:=PySem.F.excBase_ValueError
 repeat (first|with_reducible refine wpAny_loadPart_at hC ?_|with_reducible refine wpAny_madeBy_exc hC ?_|wp_step)
 refine codeAny_call_builtin_code (Code.quiet_builtin _ FV.quiet) (wpAny_check_new_subU FV FV.hasB T hC ?_)
 refine codeAny_exc_new_subU FV FV.hasB FV T hC ?_ hrest
 show wpAny _ _ _ _ _ _
 generalize hot:({cls:=.type "tuple",data:=.seq rest.toArray}:Obj)=ot
 generalize hoe:({cls:=.ref C,data:=.fields #[.ref h.objs.size,.none,.none,.none,.bool false,.none]}:Obj)=oe
 have kp:∀b o,h.get? b=some o->((h.push ot).push oe).get? b=some o:=λb o z=>Heap.get?_push_of_some _ (Heap.get?_push_of_some _ z)
 have X1:K.In ((h.push ot).push oe):=X.keeps kp
 have hC1:=kp _ _ hC
 have EY:((h.push ot).push oe).get? (h.objs.size+1)=some oe:=by
  have z:=Heap.get?_push_size (h.push ot) (o:=oe) (by rw[<-hoe];rfl)
  rwa [Heap.size_push] at z
 have hcl:oe.cls=.ref C:=by rw[<-hoe]
 have hcC:(Value.ref C::(.ref D::iH)).contains (.ref C)=true:=by simp
 unfold isInstance
 repeat (first|(with_reducible refine wpAny_loadPart_at EY ?_;rw[hcl])|(with_reducible refine wpAny_isSubtype_exc hC1 ?_;rw[hcC])|wp_step)
 show wpAny _ _ (typeLookup (.ref C) _) _ _ _
 refine(looks_findIn X1 hi).at ?_
 refine wpAny_holding (wpAny_bind ?_)
 unfold bindSpecial
 refine wpAny_bind ((looks_typeIn X1 (beq_iff_eq.mp hf)).at ?_)
 rw[if_pos (by decide)]
 refine wpAny_pure (wpAny_bind (wpAny_mono (hq _ (h.objs.size+1) (Nat.le_succ _) ⟨kp,Heap.get?_none_of_le (Nat.le_succ _),h.objs.size,by rw[EY,←hoe],Heap.get?_none_of_le (Nat.le_refl _),?_⟩) (λr s' hr=>?_) λ_ _ z=>z))
 .rw[<-hot]
  exact Heap.get?_push_of_some _ (Heap.get?_push_at rfl rfl)
 .obtain⟨rfl,hQ⟩:=hr
  wp_walk
  exact hQ
theorem made {rest:List Value}{Q:Value->Shared->Prop}(X:K.In h)(c:XC K C D)(hi:findIn K (.ref C) "__init__"=some (some (.ref fI)))(hf:isFn K (.ref fI)=true)
  (hq:∀h' e,h.objs.size<=e->Heap.MadeExcOf h h' e (.ref C) rest->wpAny (model prog w) (A.under (.builtin "type.__call__" ⟨.ref C::rest,[]⟩)) (call (.ref fI) (.ref e::rest)) (λr s'=>r=.none/\Q (.ref e) s') E ⟨h',g,d,t,os⟩)
  (hrest:rest.length<=sizeLine):wpAny (model prog w) A (call (.ref C) rest) Q E ⟨h,g,d,t,os⟩:=by
 obtain⟨nm,q,N,bs,sn,sub,ab,col,dd,k0,k1,k2,k3,k5,lk⟩:=c.obj
 have hC:=X _ _ lk
 have f1:=tc_lookup
 have f2:=tc_bind (.ref C)
 have hT:(⟨h,g,d,t,os⟩:Shared).TypeIs (.ref C) "type":=⟨_,hC,rfl⟩
 refine wpAny_call (codeAny_of_tree ?_)
 show wpAny _ _ (callAny (.ref C) _) _ _ _
 repeat (any_goals (first|assumption|with_reducible refine wpAny_loadPart_at hC ?_|wp_step))
 refine⟨rfl,codeAny_call_builtin_at (Code.quiet_builtin _ (by decide +kernel)) entry_typeCall (wpAny_check_type_call_sub hC (Nf X c hi hf (λh' e hz hm=>hq h' e hz hm) hrest))⟩
theorem Bd {e:Addr}{oe:Obj}{vs:Array Value}{v:Value}{Q:Value->Shared->Prop}(X:K.In h)(c:XC K C D)(he:h.get? e=some oe)(hcl:oe.cls=.ref C)(hd:oe.data=.fields vs){t0:Addr}(h0:vs[0]? =some (.ref t0))
  (hq:∀h',(∀b o,b≠e->h.get? b=some o->h'.get? b=some o)->h'.get? e=some {oe with data:=.fields (vs.setIfInBounds 0 (.ref h.objs.size))}->Q .none ⟨h',g,d,t,os⟩):
  wpAny (model prog w) A (call (.builtin "ValueError.__init__") [.ref e,v]) Q E ⟨h,g,d,t,os⟩:=by
 obtain⟨nm,q,N,bs,sn,sub,ab,col,dd,k0,k1,k2,k3,k5,lk⟩:=c.obj
 have hC:=X _ _ lk
 have T:=tail_of_in X c.tl
 have FV:=PySem.F.excBase_ValueError
 have hz:=(Array.getElem?_eq_some_iff.mp h0).1
 refine wpAny_call (codeAny_call_builtin FV.init.plain FV.initEntry (wpAny_check_init_subU FV T hC he hcl ?_))
 unfold Builtin.«BaseException.__init__»
 have e1:(h.push {cls:=.type "tuple",data:=.seq #[v]}).get? e=some oe:=Heap.get?_push_of_some _ he
 have nd:(Value.ref t0==doubtfulMember)=false:=by simp[doubtfulMember,rawInt]
 repeat (first|with_reducible refine wpAny_field e1 hd h0 ?_|with_reducible refine wpAny_setField e1 hd hz ?_|wp_step)
 refine hq _ (λb o hb z=>(Heap.get?_update_other _ _ hb.symm).trans (Heap.get?_push_of_some _ z)) ?_
 rw[Heap.get?_update_self _ e1 (Obj.isFreed_of_fields (Obj.data_mapFields hd _)),aaN _ hd]
theorem Ng {o:Obj}{f:Str}{v:Value}{Q:Unit->Shared->Prop}(X:K.In h)(c:XC K C D)(hs:findIn K (.ref C) "__setattr__"=some (some (.builtin "object.__setattr__")))(hf:findIn K (.ref C) f=some none)
  (hx:h.get? x=some o)(hcl:o.cls=.ref C){vs:Array Value}(hd:o.data=.fields vs)(hdn:o.dict=none)
  (hq:∀h' tk,(∀b ob,b≠x->h.get? b=some ob->h'.get? b=some ob)->h'.get? x=some {o with dict:=some h.objs.size}->h'.Ns1 h.objs.size (λy=>if y=f then some v else none)->Q () ⟨h',g,d,tk,os⟩):
  wpAny (model prog w) A (setAttr (.ref x) f v) Q E ⟨h,g,d,t,os⟩:=by
 obtain⟨nm,q,N,bs,sn,sub,ab,col,dd,k0,k1,k2,k3,k5,lk⟩:=c.obj
 have hC:=X _ _ lk
 have SF:=PySem.F.store_ValueError
 have f3:=SF.slot.bind (.ref x)
 have L1:=looks_findIn (M:=model prog w) X hs
 have L2:=looks_findIn (M:=model prog w) X hf
 unfold setAttr callSpecial? specialOf
 repeat (any_goals (first|assumption|(with_reducible refine wpAny_loadPart_at hx ?_;rw[hcl])|with_reducible refine L1.at ?_|wp_step))
 have hco:(Value.ref C::(.ref D::iH)).contains (.type "object")=true:=by simp[iH]
 have ck:=SF.args (.ref x) (.str f t) v
 refine codeAny_call_builtin SF.slot.plain SF.entry ?_
 refine @check_slot (model prog w) _ _ ⟨h,g,d,t+1,os⟩ "object.__setattr__" "object" "__setattr__" (.ref x) [.str f t,v] [] _ SF.kind SF.split ?_ ck ?_
 .refine Looks.andThen (a:=.ref C) (hcl▸(Looks.ld hx).andThen .now) ?_
  intro A' Q' E' s' k z
  obtain⟨h2,g2,d2,t2,o2⟩:=s'
  refine wpAny_isSubtype_exc (k _ _ hC) ?_
  rw[hco]
  exact z
 have hpass:=SF.passes (.ref x)
 unfold Builtin.«object.__setattr__»
 repeat (first|rw[refuse_eq]|(rw[refuseLoop_ref,refuseLoop_ref,hpass])|(with_reducible refine wpAny_loadPart_at hx ?_;rw[hcl])|with_reducible refine wpAny_mroOf_exc hC ?_|with_reducible refine L2.at ?_|wp_step)
 rw[hdn,hd,if_neg (by simp[typeHasDict])]
 have hx1:(h.push {cls:=.type "dict",data:=.dict #[]}).get? x=some o:=Heap.get?_push_of_some _ hx
 have hxs:x≠h.objs.size:=Nat.ne_of_lt (Heap.lt_size hx)
 refine wpAny_bind (wpAny_alloc' (wpAny_bind (wpAny_update' hx1 (wpAny_pure ?_))))
 generalize hg:((h.push {cls:=.type "dict",data:=.dict #[]}).update x λo=>{cls:=o.cls,dict:=some h.objs.size,data:=o.data,slots:=o.slots})=g1
 have gd:g1.get? h.objs.size=some {cls:=.type "dict",data:=.dict #[]}:=by rw[<-hg];exact(Heap.get?_update_ne _ _ _ _ hxs.symm).trans (Heap.get?_push_at rfl rfl)
 have gx:g1.get? x=some {o with dict:=some h.objs.size}:=by
  rw[<-hg]
  refine Heap.get?_update_self _ hx1 (Obj.isFreed_of_fields (vs:=vs) hd)
 have gk:∀b ob,b≠x->h.get? b=some ob->g1.get? b=some ob:=λb ob hb z=>by rw[<-hg];exact(Heap.get?_update_ne _ _ _ _ hb).trans (Heap.get?_push_of_some _ z)
 have nd:g1.Ns h.objs.size (λ_=>none):=⟨_,#[],_,gd,rfl,λe he=>absurd he (by simp),λ_=>rfl⟩
 show wpAny _ _ (storeInDict h.objs.size (.str f t) f v) _ _ _
 unfold storeInDict newKeyGuard
 refine wpAny_bind (wpAny_pure (wpAny_bind (wpAny_nsSet1 (Heap.Ns1.of_empty nd) λh' hn' sb=>?_)))
 obtain⟨oD,esD,epD,hoD,hdD,hcD⟩:=hn'.count (Within.cons f v Within.nil)
 refine wpAny_bind (wpAny_lookBehind hoD (by rw[hdD];exact pastItsLine_dict (Nat.le_trans hcD (by rw[List.length_cons,List.length_nil,sizeLine_eq];omega))) ?_)
 wp_walk
 refine hq h' _ (λb ob hb z=>(sb.2 b (Nat.ne_of_lt (Heap.lt_size z))).trans (gk b ob hb z)) ((sb.2 x hxs).trans gx) ?_
 exact hn'
end
end EX
namespace EX
open PySem PySem.W
open Builtin Builtin.ObjectAttr
set_option maxHeartbeats 1000000
structure XR (K:Frag)(C:Addr):Prop where
 ga:findIn K (.ref C) "__getattribute__"=some (some (.builtin "BaseException.__getattribute__"))
 gt:findIn K (.ref C) "__getattr__"=some none
 hd:hasDictIn K C=true
 sub:mroIn K C (.type "BaseException")=some true
 ob:mroIn K C (.type "object")=some true
section
variable {prog:Program}{w:World}{A:Around}{E:Value->Shared->Prop}{h:Heap}{g:Array GenState}{d:Drawn}{t:Nat}{os:OsState}{K:Frag}{C D x:Addr}{ox:Obj}{od:Option Obj}{f:Str}
theorem Nh {tk:Tok}{fo:Found}{R:Result->Shared->Prop}(X:K.In h)(c:XR K C)(I:InstAt h x ox C od)(hf:findObj K C od f=some fo)
  (hq:match fo with|.value v=>R (.ok (.ret v)) ⟨h,g,d,t,os⟩|.bind gg a=>wpAny (model prog w) A.in1 (call gg [a,.ref x,.ref C]) (λv s'=>R (.ok (.ret v)) s') (λe s'=>R (.error e) s') ⟨h,g,d,t,os⟩|_=>False):
  codeAny (model prog w) A (.call (.builtin "BaseException.__getattribute__") ⟨[.ref x,.str f tk],[]⟩) R ⟨h,g,d,t,os⟩:=by
 have FA:=PySem.F.excAttr_ValueError
 have L0:=I.type (M:=model prog w)
 have L1:=looks_find (M:=model prog w) X I hf
 refine codeAny_call_builtin FA.ga.plain PySem.F.entry_bexc_ga ?_
 refine @check_slot (model prog w) _ _ ⟨h,g,d,t,os⟩ "BaseException.__getattribute__" "BaseException" "__getattribute__" (.ref x) [.str f tk] [] _ (by decide +kernel) (by decide +kernel) (L0.andThen (looks_mroIn X c.sub)) (PySem.F.args_bexc_ga _ _) ?_
 unfold Builtin.«object.__getattribute__»
 repeat lk
 cases fo with
 |value v=>exact wpAny_pure hq
 |bind gg a=>exact wpAny_bind (wpAny_holding (wpAny_mono hq (λ_ _ z=>wpAny_pure z) λ_ _ z=>z))
 |_=>exact hq.elim
theorem Ni {tk:Tok}{fill expr:Bool}{fo:Found}{v:Value}{Q:Value->Shared->Prop}(X:K.In h)(c:XR K C)(I:InstAt h x ox C od)(hf:findObj K C od f=some fo)(hv:handedIn v=true)
  (hq:match fo with|.value u=>u=v|.bind gg a=>∀A' (R:Result->Shared->Prop),R (.ok (.ret v)) ⟨h,g,d,t,os⟩->codeAny (model prog w) A' (.call gg ⟨[a,.ref x,.ref C],[]⟩) R ⟨h,g,d,t,os⟩|_=>False)(q:Q v ⟨h,g,d,t,os⟩):
  wpAny (model prog w) A (getAttrBy (.ref x) (.str f tk) fill expr) Q E ⟨h,g,d,t,os⟩:=by
 have FA:=PySem.F.excAttr_ValueError
 have L0:=I.type (M:=model prog w)
 have L1:=looks_findIn (M:=model prog w) X c.ga
 have L2:=looks_findIn (M:=model prog w) X c.gt
 have f3:=FA.ga.bind (.ref x)
 have hx0:(expr && onTheHeap (Value.builtin "BaseException.__getattribute__"))=false:=by cases expr<;>rfl
 have hx2:(Value.builtin "BaseException.__getattribute__"==Value.builtin "object.__getattribute__")=false:=by decide +kernel
 have hx1:(onTheHeap (Value.ref C) && Value.builtin "BaseException.__getattribute__"==Value.builtin "object.__getattribute__")=false:=by rw[hx2];rfl
 unfold getAttrBy
 repeat (any_goals (first|assumption|with_reducible refine Looks.at (by assumption) ?_|wp_step))
 refine Nh X c I hf ?_
 have fin:wpAny (model prog w) A (handedOut v) Q E ⟨h,g,d,t,os⟩:=by rw[handedOut_of hv];exact wpAny_pure q
 cases fo with
 |value u=>cases(show u=v from hq);exact fin
 |bind gg a=>exact wpAny_call (hq _ _ fin)
 |_=>exact hq.elim
theorem get_own {expr:Bool}{od:Obj}{v:Value}{Q:Value->Shared->Prop}(X:K.In h)(c:XR K C)(I:InstAt h x ox C (some od))(hf:findIn K (.ref C) f=some none)(hl:lookIn f od=some (some v))(hv:handedIn v=true)
  (q:Q v ⟨h,g,d,t+1,os⟩):wpAny (model prog w) A (getAttr (.ref x) f expr) Q E ⟨h,g,d,t,os⟩:=by
 unfold getAttr
 exact wpAny_bind (wpAny_mkText (Ni X c I (findObj_own c.hd hf rfl hl) hv rfl q))
structure XI (K:Frag)(C:Addr):Prop extends XR K C where
 ca:findIn K (.ref C) "__class__"=some (some (.builtin "object.__class__"))
 gg:specialIn K (.builtin "object.__class__") "__get__"=some (some (.builtin "getset_descriptor.__get__"))
 tk:takesIn K (.builtin "object.__class__")=some true
theorem raise {s:Shared}{env:Env}{ex:Expr}{pos:Pos}{Q:Flow->Shared->Prop}(hh:A.handled=none)
  (hw:wpAny (model prog w) A (eval ex env) (λv s1=>∃e oe vs D C,v=.ref e/\K.In s1.heap/\XC K C D/\s1.heap.get? e=some oe/\oe.cls=.ref C/\oe.data=.fields vs/\vs[1]? =some .none/\E (.ref e) s1) E s):
  wpAny (model prog w) A (exec (.Raise (some ex) none pos) env) Q E s:=by
 rw[arm_exec_Raise]
 have go:wpAny (model prog w) A (raiseStmt env (some (do let v<-eval ex env;standAt pos;pure v)) none) Q E s:=by
  unfold raiseStmt
  refine wpAny_bind (wpAny_bind (wpAny_mono hw (λv s1 h1=>wpAny_bind (wpAny_standAt (wpAny_pure ?_))) λ_ _ z=>z))
  obtain⟨e,oe,vs,D,C,rfl,X,c,he,hcl,hd,h1,hE⟩:=h1
  obtain⟨nm,q,N,bs,sn,sub,ab,col,dd,k0,k1,k2,k3,k5,lk⟩:=c.obj
  have hC:=X _ _ lk
  obtain⟨hp,g1,d1,t1,os1⟩:=s1
  have hcB:(Value.ref C::(.ref D::iH)).contains (.type "BaseException")=true:=by simp[iH]
  repeat (first|(with_reducible refine wpAny_loadPart_at he ?_;first|rw[hcl]|rw[hd])|with_reducible refine wpAny_loadPart_at hC ?_|(with_reducible refine wpAny_isSubtype_exc hC ?_;rw[hcB])|with_reducible refine wpAny_field he hd h1 ?_|wp_step)
  exact wpAny_raiseNew_none hh hE
 first
  |exact wpAny_bind (wpAny_standAt go)
  |(simp only[evalOpt,Option.map];exact wpAny_bind (wpAny_standAt go))
theorem catches {e:Addr}{cl:Addr}{b:Bool}{oe:Obj}{Q:Bool->Shared->Prop}(X:K.In h)(he:h.get? e=some oe)(hcl:oe.cls=.ref C)(hx:mroIn K cl (.type "BaseException")=some true)(ht:typeIn K (.ref cl)=some (.type "type"))(hm:mroIn K C (.ref cl)=some b)(q:Q b ⟨h,g,d,t,os⟩):
  wpAny (model prog w) A (excMatches (.ref e) (.ref cl)) Q E ⟨h,g,d,t,os⟩:=by
 have L0:Looks (model prog w) h (typeOf (.ref e)) (.ref C):=hcl▸(Looks.ld he).andThen .now
 have L1:=looks_mroIn (M:=model prog w) X hx
 have L2:=looks_mroIn (M:=model prog w) X hm
 have L3:=looks_typeIn (M:=model prog w) X ht
 have f:=tc_notTuple
 obtain⟨ocl,lk,hcd⟩:∃ocl,h.get? cl=some ocl/\∃cd,ocl.data=.cls cd:=by
  unfold mroIn clsIn at hx
  split at hx
  .rename_i ho
   exact⟨_,X _ _ ho,_,rfl⟩
  .cases hx
 obtain⟨cd,hcd⟩:=hcd
 unfold excMatches isExcClass isInstance isType loadHead
 repeat (any_goals (first|assumption|with_reducible refine Looks.at (by assumption) ?_|(with_reducible refine wpAny_loadPart_at lk ?_;rw[hcd])|wp_step))
 cases b<;>(wp_walk;exact q)
end
end EX
namespace EX
open PySem PySem.Spec PyProof.Rows L2
set_option maxHeartbeats 1000000
noncomputable def cB (e C:Addr)(dx:Option Addr)(tb:Value):HO:=.ext λh=>∃oe vs t0,h.get? e=some oe/\oe.cls=.ref C/\oe.dict=dx/\oe.data=.fields vs/\vs[0]? =some (.ref t0)/\vs[1]? =some tb
section
variable {P:Program}{w:World}{H:Hp}{h:Heap}{e C:Addr}{dx:Option Addr}{tb:Value}{oe:Obj}{vs:Array Value}{t0:Addr}
theorem su (he:h.get? e=some oe)(hc:oe.cls=.ref C)(hd:oe.dict=dx)(hv:oe.data=.fields vs)(h0:vs[0]? =some (.ref t0))(h1:vs[1]? =some tb):dY P w H h e (cB e C dx tb):=
 ⟨⟨oe,vs,t0,he,hc,hd,hv,h0,h1⟩,⟨oe,he⟩,λ_ _ ⟨o,ws,u,a,b⟩ k=>⟨o,ws,u,k o a,b⟩⟩
theorem kj (ok:fH P w H h)(x:H e=some (cB e C dx tb)):∃oe vs t0,h.get? e=some oe/\oe.cls=.ref C/\oe.dict=dx/\oe.data=.fields vs/\vs[0]? =some (.ref t0)/\vs[1]? =some tb:=(ok e _ x).1
end
section
variable {X:Cx}{k:Nat}{f C D:Addr}{fd:FuncData}{ps:List Str}{sp:Sp}{x:Str}{p pos apos:Pos}{e:Expr}{es:List Expr}{t:TA}{te:TE}
theorem run_mk {pins:List (Addr×Obj)}{σ:L2.St}{H:Hp}{s:Shared}{Q:VK}{us:List Value}{vs:List V}(c:XC X.K C D)(hi:PySem.W.findIn X.K (.ref C) "__init__"=some (some (.ref f)))(hf:PySem.W.isFn X.K (.ref f)=true)
  (F:aW X.prog X.w X.K X.mg X.base dG k f fd ps sp)(hr:cR (k+1) X.A)(hb:Binds X.K fd ps [])(I:Inv X pins σ H s)(r:Vals vs us)(hz:us.length<=sizeLine)
  (h:∀e,H e=none->sp (.ref e::vs) (upd H e (cB e C none .none)) (λv H2=>v=.non/\Q (.ref e) H2) E0):wpAny (model X.prog X.w) X.A (call (.ref C) us) (EP X pins σ Q) X.xe s:=by
 obtain⟨hp,gs,dr,tk,os⟩:=s
 refine made I.gG c hi hf (λh' e hle m=>?_) hz
 obtain⟨t0,he,_,_⟩:=m.there
 have I2:=I.laid (a:=e) (o:=cB e C none .none) (h':=h') (t':=tk) m.keeps hle (su he rfl rfl rfl (t0:=t0) rfl rfl)
 have hq:=h e (I.hok.fresh hle)
 have r2:Vals (V.ref e::vs) (Value.ref e::us):=.cons rfl r
 have hl:(Value.ref e::us++[]).length=ps.length:=by
  have z:=r2.length
  rw[F.len _ _ _ _ hq] at z
  rw[List.append_nil]
  exact z.symm
 have bb:=hb ⟨h',gs,dr,tk,os⟩ (Value.ref e::us) I2.gG hl
 rw[List.append_nil] at bb
 refine wpAny_call (codeAny_mono (F.run _ X.stack _ _ ⟨Value.ref e::us,[]⟩ (Value.ref e::us) _ _ E0 (hr.make C us []) (I2.env0.make C us []) bb r2 hq) λr s' hq'=>?_)
 cases r with
 |error e=>exact hq'.elim
 |ok fl=>
  cases fl with
  |ret u=>
   obtain⟨v,H',I3,rv,ev,q3⟩:=I2.after hq'
   subst ev
   exact⟨rv,V.ref e,H',I3,rfl,q3⟩
  |next=>exact False.elim hq'
  |brk=>exact False.elim hq'
  |cont=>exact False.elim hq'
noncomputable def Vp (C:Addr)(sp:Sp)(t:TA):TE:=λσ H Q=>t σ H λvs H1=>vs.length<=sizeLine/\∀e,H1 e=none->sp (.ref e::vs) (upd H1 e (cB e C none .none)) (λv H2=>v=.non/\Q (.ref e) H2) E0
theorem agG (c:XC X.K C D)(hi:PySem.W.findIn X.K (.ref C) "__init__"=some (some (.ref f)))(hf:PySem.W.isFn X.K (.ref f)=true)(kp:PySem.W.keepIn X.K (.ref C)=true)
  (F:aW X.prog X.w X.K X.mg X.base dG k f fd ps sp)(hr:cR (k+1) X.A)(hb:Binds X.K fd ps [])(hg:Gl X x)(hm:X.mg x=some (.ref C))
  (ha:PA X (e::es) t)(hdb:(x==("__debug__":Str))=false:=by decide)(he:starEach (e::es) X.env=(false,eval e X.env)::starEach es X.env:=by rfl)(hpl:(backTo pos (starEach es X.env)).any (·.1)=false:=by rfl):
  PE X (.Call (.Name x p) (e::es) [] pos) (Vp C sp t):=by
 intro pins s σ H Q I h
 refine wpAny_Call_Name_kw (jO I hg hm ?_ hdb)
 refine PySem.W.callWith_K (h₀:=X.base) I.ok.mod.v8 kp (aQ (ha pos pins s σ H _ I h) λus s1 ⟨vs,H1,I1,r,q⟩=>⟨I1.gG,?_⟩) he hpl
 have z:us.length<=sizeLine:=by rw[<-r.length];exact q.1
 exact run_mk c hi hf F hr hb I1 r z q.2
noncomputable def tBase (C:Addr)(t:TA):TE:=λσ H Q=>t σ H λvs H1=>∃e y dx tb,vs=[.ref e,y]/\H1 e=some (cB e C dx tb)/\Q .non H1
structure XD (K:PySem.W.Frag)(D:Addr):Prop where
 ga:PySem.W.specialIn K (.ref D) "__getattribute__"=some (some (.builtin "type.__getattribute__"))
 rd:PySem.W.readsIn K D (.type "type")=true
 fi:PySem.W.findCls K (.ref D) (.type "type") "__init__"=some (.val (.builtin "ValueError.__init__"))
theorem Ia {pl:Sem Bool}(c:XC X.K C D)(cd:XD X.K D)(hg:Gl X x)(hm:X.mg x=some (.ref D))(ha:PA X (e::es) t)(hdb:(x==("__debug__":Str))=false:=by decide)
  (he:starEach (e::es) X.env=(false,eval e X.env)::starEach es X.env:=by rfl)(hpl:(backTo pos (starEach es X.env)).any (·.1)=false:=by rfl)
  (ht:eval (.Call (.Attribute (.Name x p) "__init__" apos) (e::es) [] pos) X.env=(do
   let ov<-eval (.Name x p) X.env
   standAt apos.atName
   let(f,first)<-holding [ov] (getMethod ov "__init__" pl)
   callWith pos f first (backTo pos (starEach (e::es) X.env)) (backToKw pos (keywordEach [] X.env))):=by rfl):
  PE X (.Call (.Attribute (.Name x p) "__init__" apos) (e::es) [] pos) (tBase C t):=by
 intro pins s σ H Q I h
 refine PySem.W.methodCall_KW (pl:=pl) (jO I hg hm ?_ hdb) ht
 refine PySem.W.method_cls I.gG cd.ga (PySem.W.cls_value I.gG cd.rd cd.fi rfl ?_)
 have I0:=I.tok (s.toks+1)
 refine callWith_builtin1 (aQ (ha pos pins _ σ H _ I0 h) λus s1 ⟨vs,H1,I1,r,e,y,dx,tb,ev,hE,q⟩=>?_) he hpl
 subst ev
 cases r with
 |cons r1 r2=>
  cases r2 with
  |cons r2 r3=>
   cases r3
   cases r1
   obtain⟨oe,ws,t0,g1,g2,g3,g4,g5,g6⟩:=kj I1.hok hE
   obtain⟨hp,gs,dr,tk,os⟩:=s1
   refine Bd I1.gG c g1 g2 g4 g5 λh' kp ge=>?_
   have z0:=(Array.getElem?_eq_some_iff.mp g5).1
   have I2:Inv X pins σ (upd H1 e (cB e C dx tb)) ⟨h',gs,dr,tk,os⟩:=I1.write (x:=e) (e:=e) (h':=h') (t':=tk) (by rw[hE];exact True.intro) (.inl rfl) (λb u hb z=>kp b u hb z) ⟨_,ge⟩
    (su ge g2 g3 rfl (t0:=hp.objs.size) (by simp[z0]) (by rw[Array.getElem?_setIfInBounds_ne (by decide)];exact g6))
   have eq:upd H1 e (cB e C dx tb)=H1:=by
    funext b
    by_cases hb:b=e
    .subst hb;rw[ao,hE]
    .rw[aq hb]
   rw[eq] at I2
   exact⟨.non,H1,I2,rfl,q⟩
noncomputable def Qz (C:Addr)(ta tv:TE)(f:Str):TS:=λD σ H=>tv σ H λy H1=>ta σ H1 λx H2=>∃a tb,x=.ref a/\H2 a=some (cB a C none tb)/\
 ∀dx,H2 dx=none->D.nx σ (upd (upd H2 dx (.xd [(f,y)])) a (cB a C (some dx) tb))
theorem aaR {o value:Expr}{fl:Str}{pos':Pos}{ta tv:TE}(c:XC X.K C D)(hs0:PySem.W.findIn X.K (.ref C) "__setattr__"=some (some (.builtin "object.__setattr__")))(hf:PySem.W.findIn X.K (.ref C) fl=some none)
  (ha:PE X o ta)(hv:PE X value tv)(hs:swapsWith value (some (.Attribute o fl pos')) pos.line X.env=pure false):PS X (.Assign [.Attribute o fl pos'] value pos) (Qz C ta tv fl):=by
 intro pins s σ H Dn I h
 refine plainObj_wpAny_Assign_Attribute (aQ (hv pins s σ H _ I h) λu s1 ⟨y,H1,I1,ry,q⟩=>aQ (ha pins s1 σ H1 _ I1 q) λov s2 ⟨x,H2,I2,rx,a,tb,ex,ea,q2⟩=>?_) hs
 subst ex
 obtain rfl:ov=Value.ref a:=rx
 obtain⟨oe,ws,t0,g1,g2,g3,g4,g5,g6⟩:=kj I2.hok ea
 obtain⟨hp,gs,dr,tk,os⟩:=s2
 refine Ng I2.gG c hs0 hf g1 g2 g4 g3 λh' tk' kp gx ns=>?_
 have fr:=I2.hok.fresh (Nat.le_refl _)
 have hne:hp.objs.size≠a:=Nat.ne_of_gt (Heap.lt_size g1)
 refine⟨σ,_,?_,q2 hp.objs.size fr⟩
 have na:∀b,H2 b=none->b≠a:=λb z z'=>by rw[z',ea] at z;cases z
 have nd:∀b o,hp.get? b=some o->b≠hp.objs.size:=λb o z=>Nat.ne_of_lt (Heap.lt_size z)
 have nt:∀b o,H2 b=some o->b≠hp.objs.size:=λb o z z'=>by rw[z',fr] at z;cases z
 have up:∀b o,H2 b=some o->b≠a->upd (upd H2 hp.objs.size (.xd [(fl,y)])) a (cB a C (some hp.objs.size) tb) b=some o:=λb o z hb=>by rw[aq hb,aq (nt b o z)];exact z
 refine I2.un (h':=h') (t':=tk') ⟨λb o z n _ _=>kp b o (na b n) z,λb o z n _ _=>⟨o.slots,kp b o (na b n) z⟩,λb o z n _=>?_,λb o z _=>?_,λb xs z=>up b _ z (λz'=>by rw[z',ea] at z;cases z),λb o u z=>up b _ z (λz'=>by rw[z',ea] at z;cases z),
  λb ps z=>⟨#[],by rw[Array.append_empty];exact up b _ z (λz'=>by rw[z',ea] at z;cases z)⟩⟩ λb o z=>?_
 .rw[aq (na b n),aq (nd b o z)];exact n
 .by_cases hb:b=a
  .subst hb;exact⟨_,gx⟩
  .exact⟨o,kp b o hb z⟩
 .by_cases hb:b=a
  .subst hb
   rw[ao] at z
   cases z
   exact su gx g2 rfl g4 g5 g6
  .rw[aq hb] at z
   by_cases hd:b=hp.objs.size
   .subst hd
    rw[ao] at z
    cases z
    refine⟨_,ns,λg=>?_⟩
    by_cases hg:g=fl
    .subst hg
     rw[if_pos rfl]
     have l:List.lookup g [(g,y)]=some y:=by simp[List.lookup]
     rw[l]
     exact ry
    .rw[if_neg hg]
     have l:List.lookup g [(fl,y)]=none:=by
      have:(g==fl)=false:=by simpa using hg
      simp[List.lookup,this]
     rw[l]
     exact True.intro
   .rw[aq hd] at z
    refine(I2.hok b o z).stay (λb' u hb' z'=>kp b' u ?_ z') (λb' z'=>up b' _ z' (λz''=>by rw[z'',ea] at z';cases z')) (λb' xs z'=>up b' _ z' (λz''=>by rw[z'',ea] at z';cases z'))
    rcases hb' with rfl|hb'
    .exact hb
    .intro z''
     rw[z'',ea] at hb'
     cases hb'
end
end EX
namespace EX
open PySem PySem.Spec PyProof.Rows L2
set_option maxHeartbeats 1000000
noncomputable def eE (P:Program)(w:World):qm:=λouter H s E ev s'=>∃e C dx T H',ev=.ref e/\s'.os=s.os/\AllBare s'.gens/\Un (frs outer) [] H H' s.heap s'.heap/\fH P w H' s'.heap/\H' e=some (cB e C dx (.ref T))/\
 (∃oT ts,s'.heap.get? T=some oT/\oT.data=.fields ts/\ts[3]? =some .none)/\H' T=none/\s.heap.objs.size<=T/\T≠e/\E (.ref e) dx H'
theorem XF {env:Env}{outer:List Env}{L b:Addr}(hf:env.frame=some L)(h:b∈(env::outer).filterMap (·.frame)):b=L\/b∈frs outer:=by
 rw[List.filterMap_cons,hf] at h
 exact List.mem_cons.mp h
theorem jk {H:Hp}{e C b:Addr}{dx:Option Addr}{tb:Value}(ea:H e=some (cB e C dx tb)){o:HO}(z:H b=some o)(n:∀φ,o≠ .ext φ):b≠e:=λq=>by
 rw[q,ea] at z
 exact n _ (Option.some.inj z).symm
theorem aaS {P:Program}{w:World}{K:PySem.W.Frag}{mg:Str->Option Value}{base:Heap}{N:List Str}{qual:Str}{scope:Scope}{f:Addr}{cdv:Value}{A:Around}{outer:List Env}{s s1:Shared}{H H1:Hp}{E:XK}{pins:List (Addr×Obj)}{σ:L2.St}{e C:Addr}{dx:Option Addr}
  (I:Inv (fW (eE P w) P w K mg base N qual scope f cdv A outer s H E) pins σ H1 s1)(hE:H1 e=some (cB e C dx .none))(q:∀T,E (.ref e) dx (upd H1 e (cB e C dx (.ref T)))):
  (fW (eE P w) P w K mg base N qual scope f cdv A outer s H E).xe (.ref e) s1:=by
 obtain⟨oe,vs,t0,g1,g2,g3,g4,g5,g6⟩:=kj I.hok hE
 have ub:Un (frs outer) [] H H1 s.heap s1.heap:=I.base
 have stk:=I.vm
 refine leave (base:=base) I.ok.frames I.stack rfl g1 g4 g6 λh' T fl=>?_
 have nT:∀b o,s1.heap.get? b=some o->b≠T:=λb o z=>Nat.ne_of_lt (Nat.lt_of_lt_of_le (Heap.lt_size z) fl.new)
 have hT1:H1 T=none:=I.hok.fresh fl.new
 have no:∀b:Addr,b∉([]:List Addr):=λb z=>absurd z (by simp)
 obtain⟨ws,x1,x2,x3⟩:=fl.self oe vs g1 g4
 have up:∀b o,H1 b=some o->b≠e->upd H1 e (cB e C dx (.ref T)) b=some o:=λb o z n=>by rw[aq n];exact z
 refine⟨e,C,dx,T,upd H1 e (cB e C dx (.ref T)),rfl,I.os,I.bare,⟨λb o z n hb _=>?_,λb o z n hb _=>?_,λb o z n _=>?_,λb o z _=>?_,λb xs z=>?_,λb o u z=>?_,λb ps z=>?_⟩,λb o z=>?_,ao,fl.ent,by rw[aq fl.ne];exact hT1,?_,fl.ne,q T⟩
 .have n1:=ub.free b o z n (no b)
  refine fl.keep b o (λm=>?_) (λy=>by rw[y,hE] at n1;cases n1) (ub.keep b o z n hb (no b))
  rcases XF (L:=s.heap.objs.size) rfl m with y|y
  .rw[y] at z;exact absurd (Heap.lt_size z) (Nat.lt_irrefl _)
  .exact hb y
 .have n1:=ub.free b o z n (no b)
  obtain⟨sl,z1⟩:=ub.any z n (no b)
  obtain⟨sl',z2⟩:=fl.slot b _ (λy=>by rw[y,hE] at n1;cases n1) z1
  exact⟨sl',z2⟩
 .have n1:=ub.free b o z n (no b)
  rw[aq λy=>by rw[y,hE] at n1;cases n1]
  exact n1
 .obtain⟨o',z1⟩:=ub.there b o z (no b)
  by_cases hb:b=e
  .subst hb;exact⟨_,x1⟩
  .obtain⟨sl,z2⟩:=fl.slot b _ hb z1
   exact⟨_,z2⟩
 .have z1:=ub.tups b xs z
  exact up b _ z1 (jk hE z1 λφ y=>by cases y)
 .have z1:=ub.jX b o u z
  exact up b _ z1 (jk hE z1 λφ y=>by cases y)
 .obtain⟨m,z1⟩:=ub.kJ b ps z
  exact⟨m,up b _ z1 (jk hE z1 λφ y=>by cases y)⟩
 .by_cases hb:b=e
  .subst hb
   rw[ao] at z
   cases z
   exact su x1 g2 g3 rfl (x2.trans g5) x3
  .rw[aq hb] at z
   refine(I.hok b o z).stay (λb' u hb' z'=>?_) (λb' z'=>up b' _ z' (jk hE z' λφ y=>by cases y)) (λb' xs z'=>up b' _ z' (jk hE z' λφ y=>by cases y))
   have tr:∃o',H1 b'=some o'/\b'≠e:=by
    rcases hb' with rfl|hb'
    .exact⟨o,z,hb⟩
    .exact⟨_,hb',jk hE hb' λφ y=>by cases y⟩
   obtain⟨o',y1,y2⟩:=tr
   refine fl.keep b' u (λm=>?_) y2 z'
   rw[stk b' m] at y1
   cases y1
 .exact Nat.le_trans I.sz fl.new
noncomputable def nG (K:PySem.W.Frag)(E:XK)(te:TE):TS:=λ_ σ H=>te σ H λx H1=>∃e C D dx,x=.ref e/\XC K C D/\H1 e=some (cB e C dx .none)/\∀T,E (.ref e) dx (upd H1 e (cB e C dx (.ref T)))
theorem jH {P:Program}{w:World}{K:PySem.W.Frag}{mg:Str->Option Value}{base:Heap}{N:List Str}{qual:Str}{scope:Scope}{f:Addr}{cdv:Value}{A:Around}{outer:List Env}{s:Shared}{H:Hp}{E:XK}{ex:Expr}{pos:Pos}{te:TE}
  (he:PE (fW (eE P w) P w K mg base N qual scope f cdv A outer s H E) ex te):PS (fW (eE P w) P w K mg base N qual scope f cdv A outer s H E) (.Raise (some ex) none pos) (nG K E te):=by
 intro pins s0 σ H0 D I h
 refine raise (K:=K) (I.ok.hd rfl) (aQ (he pins s0 σ H0 _ I h) λv s1 ⟨x,H1,I1,rx,e,C,D',dx,ex,c,hE,q⟩=>?_)
 subst ex
 obtain rfl:v=Value.ref e:=rx
 obtain⟨oe,vs,t0,g1,g2,g3,g4,g5,g6⟩:=kj I1.hok hE
 exact⟨e,oe,vs,D',C,rfl,I1.gG,c,g1,g2,g4,g6,aaS I1 hE q⟩
end EX
namespace EX
open PySem PySem.Spec PyProof.Rows L2
set_option maxHeartbeats 1000000
noncomputable abbrev inX (X:Cx)(e:Addr):Cx:={X with A:=X.A.mark (some (.ref e)),calm:=false,xe:=λ_ _=>False}
section
variable {X:Cx}{pins:List (Addr×Obj)}{σ:L2.St}{H:Hp}{s:Shared}{e:Addr}
theorem aaT (ok:X.Ok):(inX X e).Ok:=⟨ok.mod,ok.kind,ok.glob,ok.blt,ok.above,ok.inj,ok.has,ok.cab,(λz=>by cases z),ok.frames,ok.stk,ok.YL,ok.bs,ok.uD,ok.za,ok.CQ,ok.lX,ok.Aa⟩
theorem Ib (I:Inv X pins σ H s):Inv (inX X e) pins σ H s:=⟨aaT I.ok,I.os,I.bare,I.base,I.loc,I.cell,I.free,I.iJ,I.pin,I.hok,I.len⟩
theorem XH (ok:X.Ok)(I:Inv (inX X e) pins σ H s):Inv X pins σ H s:=⟨ok,I.os,I.bare,I.base,I.loc,I.cell,I.free,I.iJ,I.pin,I.hok,I.len⟩
structure Rec (X:Cx)(pins:List (Addr×Obj))(H:Hp)(s:Shared)(T:Addr):Prop where
 ent:∃oT ts,s.heap.get? T=some oT/\oT.data=.fields ts/\ts[3]? =some .none
 no:H T=none
 ne:T≠X.env.locals
 ab:X.s₀.heap.objs.size<=T
 cl:∀x c,X.env.cells.lookup x=some c->c≠T
 pn:∀p∈X.pn++pins,p.1≠T
theorem rec_of {s1:Shared}{H1:Hp}{T:Addr}(I:Inv X pins σ H1 s1)(z:s1.heap.objs.size<=T)(ent:∃oT ts,s.heap.get? T=some oT/\oT.data=.fields ts/\ts[3]? =some .none)(no:H T=none):Rec X pins H s T:=
 ⟨ent,no,λy=>absurd I.lt (by rw[<-y];exact Nat.not_lt.mpr z),Nat.le_trans I.sz z,λx c hc y=>by
  obtain⟨v,o,ho,_⟩:=I.cell x c hc
  exact absurd (Heap.lt_size ho) (by rw[y];exact Nat.not_lt.mpr z),λp hp y=>absurd (Heap.lt_size (I.pin p hp).1) (by rw[y];exact Nat.not_lt.mpr z)⟩
theorem Ie {M:Model}{A:Around}{E:Value->Shared->Prop}{EE:XK}{ev:Value}{s':Shared}{R:Shared->Prop}(hA:A.frames=some X.stack)(I:Inv X pins σ H s)(hq:eE X.prog X.w X.stack H s EE ev s')(hst:X.stack=X.env::X.outer)(hfr:X.env.frame=some X.env.locals)
  (go:∀e C dx T H' T2 s3,ev=.ref e->EE (.ref e) dx H'->H' e=some (cB e C dx (.ref T))->fH X.prog X.w H' s'.heap->Inv X pins σ (upd H' e (cB e C dx (.ref T2))) s3->Rec X pins (upd H' e (cB e C dx (.ref T2))) s3 T2->R s3):
  wpAny M A (noteFrame ev X.env) (λ_ s2=>wpAny M A (setFlight ev none) (λ_ s3=>R s3) E s2) E s':=by
 obtain⟨e,C,dx,T,H',rfl,os,bare,un,hok,hE,⟨oT,ts,t1,t2,t3⟩,hT,hz,hne,q⟩:=hq
 have I':Inv X pins σ H' s':=I.call' (ch:=[]) os un hok bare (λb z=>absurd z (by simp))
 have RT:Rec X pins H' s' T:=rec_of I hz ⟨oT,ts,t1,t2,t3⟩ hT
 obtain⟨oe,vs,t0,g1,g2,g3,g4,g5,g6⟩:=kj I'.hok hE
 have stk:=I'.vm
 have fs:=I'.stack
 rw[hst] at fs hA
 refine land (base:=X.base) hA fs hfr g1 g4 g6 hne t1 t2 t3 λh1 h2 T2 kp sz fl=>?_
 have ajK:∀b∈(X.env::X.outer).filterMap (·.frame),H' b=none:=by rw[<-hst];exact stk
 obtain⟨ws,x1,x2,x3⟩:=fl.self oe vs (kp e oe hne.symm g1) g4
 have up:∀b o,H' b=some o->b≠e->upd H' e (cB e C dx (.ref T2)) b=some o:=λb o z n=>by rw[aq n];exact z
 have z2:s'.heap.objs.size<=T2:=by rw[<-sz];exact fl.new
 have nm:∀b,b∉([T]:List Addr)->b≠T:=λb z y=>z (by rw[y];exact List.mem_cons_self)
 have ne2:T2≠e:=fl.ne
 have I3:Inv X pins σ (upd H' e (cB e C dx (.ref T2))) {s' with heap:=h2}:=by
  refine I'.call (ch:=[T]) (h':=h2) (g':=s'.gens) (d':=s'.drawn) (t':=s'.toks) ⟨λb o z n hb hc=>?_,λb o z n hb hc=>?_,λb o z n hc=>?_,λb o z hc=>?_,λb xs z=>up b _ z (jk hE z λφ y=>by cases y),λb o u z=>up b _ z (jk hE z λφ y=>by cases y),
   λb ps z=>⟨#[],by rw[Array.append_empty];exact up b _ z (jk hE z λφ y=>by cases y)⟩⟩ (λb o z=>?_) I'.bare (λb hb=>?_)
  .exact fl.keep b o (by rw[<-hst];exact hb) (λy=>by rw[y,hE] at n;cases n) (kp b o (nm b hc) z)
  .exact fl.slot b o (λy=>by rw[y,hE] at n;cases n) (kp b o (nm b hc) z)
  .rw[aq λy=>by rw[y,hE] at n;cases n];exact n
  .by_cases hb:b=e
   .subst hb;exact⟨_,x1⟩
   .obtain⟨sl,y⟩:=fl.slot b o hb (kp b o (nm b hc) z)
    exact⟨_,y⟩
  .by_cases hb:b=e
   .subst hb
    rw[ao] at z
    cases z
    exact su x1 g2 g3 rfl (x2.trans g5) x3
   .rw[aq hb] at z
    refine(I'.hok b o z).stay (λb' u hb' z'=>?_) (λb' z'=>up b' _ z' (jk hE z' λφ y=>by cases y)) (λb' xs z'=>up b' _ z' (jk hE z' λφ y=>by cases y))
    have tr:∃o',H' b'=some o'/\b'≠e:=by
     rcases hb' with rfl|hb'
     .exact⟨o,z,hb⟩
     .exact⟨_,hb',jk hE hb' λφ y=>by cases y⟩
    obtain⟨o',y1,y2⟩:=tr
    refine fl.keep b' u (λm=>?_) y2 (kp b' u (λy=>by rw[y,hT] at y1;cases y1) z')
    rw[ajK b' m] at y1
    cases y1
  .obtain rfl:b=T:=by simpa using hb
   exact⟨.inr RT.ab,RT.ne,RT.cl,RT.pn⟩
 exact go e C dx T H' T2 _ rfl q hE hok I3 (rec_of I' z2 fl.ent (by rw[aq ne2];exact I'.hok.fresh z2))
theorem goes {M:Model}{A:Around}{E:Value->Shared->Prop}{i:Nat}{n:Str}{pos:Pos}{Q:Unit->Shared->Prop}(I:Inv X pins σ H s)(hN:X.N.Nodup)(hi:X.N[i]? =some n)(hl:X.env.scope.names.lookup n=some .local)
  (h:∀s',Inv X pins (σ.set i none) H s'->Q () s'):wpAny M A (do bindName X.env n .none;unbindBehindTheSuite X.env n pos) Q E s:=by
 refine wpAny_bind (wpAny_bindName (sU (v:=.non) I hN hi (.inl hl) rfl (λs1 I1=>?_) (.inr hl)))
 obtain⟨m,hn,hlk⟩:=id I1.loc
 have CV:i<σ.length:=by rw[I.len];exact(List.getElem?_eq_some_iff.mp hi).1
 have hk:X.env.kindOf n=some .local:=hl
 have hp:(X.env.scope.kind==.class||(X.env.scope.kind==.module && X.env.locals !=X.env.globals))=false:=by rw[I.ok.kind];rfl
 obtain⟨u,_,lk⟩:=hlk i n .non hi (by rw[List.getElem?_set_self CV]) (.inl hl)
 have hm:m n=some u:=by
  rcases lk with⟨_,z⟩|⟨z,_⟩
  .exact z
  .rw[hk] at z
   rcases z with z|z<;>cases z
 unfold unbindBehindTheSuite
 refine wpAny_onRaise ?_
 unfold unbindName
 refine wpAny_bind (wpAny_point (wpAny_bind ?_))
 unfold deleteName
 simp only[hk,hp]
 rw[if_neg (by decide)]
 refine wpAny_bind (wpAny_nsDel_keeps hn λh2 v hn2 sb=>?_)
 rw[hm]
 simp only[if_true,Option.isSome_some,Bool.not_true,Bool.false_eq_true,if_false]
 refine wpAny_pure (wpAny_point (h _ ?_))
 have ne0:∀b o,X.s₀.heap.get? b=some o->b≠X.env.locals:=λb o z y=>absurd (Heap.lt_size z) (by rw[y];exact Nat.not_lt.mpr I.ok.above)
 have cell:∀c v,c≠X.env.locals->s1.heap.IsCell c v->h2.IsCell c v:=λc v y ⟨o,z,r⟩=>⟨o,(sb.2 c y).trans z,r⟩
 have B:=I1.base
 refine⟨I.ok,I1.os,I1.bare,⟨λb o z n hf hx=>(sb.2 b (ne0 b o z)).trans (B.keep b o z n hf hx),λb o z n hf hx=>?_,λb o z n hx=>B.free b o z n hx,λb o z hx=>?_,B.tups,B.jX,B.kJ⟩,⟨_,hn2,λj x w hj hσ hv=>?_⟩,λx c hc=>?_,I1.free,I1.iJ,λp hp'=>?_,λb o z=>?_,by rw[List.length_set];exact I.len⟩
 .obtain⟨sl,y⟩:=B.slot b o z n hf hx
  exact⟨sl,(sb.2 b (ne0 b o z)).trans y⟩
 .obtain⟨o',y⟩:=B.there b o z hx
  exact⟨o',(sb.2 b (ne0 b o z)).trans y⟩
 .have hji:j≠i:=λy=>by subst y;rw[List.getElem?_set_self CV] at hσ;cases hσ
  have hxn:x≠n:=λy=>by
   subst y
   have q:=(List.getElem?_inj (List.getElem?_eq_some_iff.mp hj).1 hN).mp (hj.trans hi.symm)
   exact hji q
  obtain⟨u',r',lk'⟩:=hlk j x w hj (by rw[List.getElem?_set_ne hji.symm] at hσ ⊢;exact hσ) hv
  refine⟨u',r',?_⟩
  rcases lk' with⟨a,b⟩|⟨a,c,b1,b2⟩
  .exact .inl ⟨a,(if_neg hxn).trans b⟩
  .exact .inr ⟨a,c,b1,cell c _ (I.xH x c b1) b2⟩
 .obtain⟨w,hw⟩:=I1.cell x c hc
  exact⟨w,cell c _ (I.xH x c hc) hw⟩
 .obtain⟨a,b,c,d1,d2⟩:=I1.pin p hp'
  exact⟨(sb.2 p.1 c).trans a,b,c,d1,d2⟩
 .refine(I1.hok b o z).stay (λc w hc q=>(sb.2 c ?_).trans q) (λ_ q=>q) λ_ _ q=>q
  rintro rfl
  rcases hc with rfl|hc
  .rw[I1.free] at z;cases z
  .rw[I1.free] at hc;cases hc
end
end EX
namespace EX
open PySem PySem.Spec PyProof.Rows L2
set_option maxHeartbeats 1000000
section
variable {X:Cx}{k i:Nat}{f Y:Addr}{fd:FuncData}{ps:List Str}{sp:Sp}{x y n:Str}{p pos cpos epos hpos np:Pos}{e:Expr}{es:List Expr}{b0:Stmt}{suite:List Stmt}{t:TA}{tS:TS}
theorem Bf {P:Program}{w:World}{H:Hp}{h:Heap}{e C C':Addr}{dx gM:Option Addr}{tb tb':Value}(ok:fH P w H h)(a:H e=some (cB e C dx tb))(b:H e=some (cB e C' gM tb')):C=C':=by
 obtain⟨o1,_,_,a1,a2,_⟩:=kj ok a
 obtain⟨o2,_,_,b1,b2,_⟩:=kj ok b
 rw[a1] at b1
 cases b1
 rw[a2] at b2
 cases b2
 rfl
theorem Fb {CX:qm}{outer:List Env}{P:Program}{w:World}{H:Hp}{s s':Shared}{Q:VK}{E:XK}{ev:Value}(h:CR CX outer P w H s Q E (.error ev) s'):CX outer H s E ev s':=h
end
end EX
namespace EX
open PySem PySem.Spec PyProof.Rows L2 VM
set_option maxHeartbeats 1000000
section
variable {K:PySem.W.Frag}{S:GS}{σ:L2.St}{H:Hp}
noncomputable def cY (K:PySem.W.Frag)(H:Hp):GS->L2.St->Prop
 |[],σ=>σ=[]
 |none::S,σ=>∃x r,σ=x::r/\cY K H S r
 |some (t,d)::S,σ=>∃v r,σ=some v::r/\t=.fr/\Has K H d v/\cY K H S r
theorem cY.len:∀{S:GS}{σ:L2.St},cY K H S σ->S.length=σ.length
 |[],σ,h=>by rw[show σ=[] from h];rfl
 |none::S,σ,⟨x,r,e,h⟩=>by rw[e,List.length_cons,List.length_cons,cY.len h]
 |some (t,d)::S,σ,⟨v,r,e,_,_,h⟩=>by rw[e,List.length_cons,List.length_cons,cY.len h]
theorem cY.slot:∀{S:GS}{σ:L2.St},cY K H S σ->∀(i:Nat) t d,S[i]? =some (some (t,d))->t=.fr/\∃v,σ[i]? =some (some v)/\Has K H d v
 |[],σ,_,i,t,d,e=>by simp at e
 |none::S,σ,⟨x,r,e,h⟩,i,t,d,e2=>by
  subst e
  cases i with
  |zero=>cases e2
  |succ i=>exact cY.slot h i t d e2
 |some (t0,d0)::S,σ,⟨v,r,e,h1,h2,h⟩,i,t,d,e2=>by
  subst e
  cases i with
  |zero=>cases e2;exact⟨h1,v,rfl,h2⟩
  |succ i=>exact cY.slot h i t d e2
theorem cY.grow {H':Hp}(k:Same H H'):∀{S:GS}{σ:L2.St},cY K H S σ->cY K H' S σ
 |[],_,h=>h
 |none::_,_,⟨x,r,e,h⟩=>⟨x,r,e,cY.grow k h⟩
 |some (_,_)::_,_,⟨v,r,e,h1,h2,h⟩=>⟨v,r,e,h1,Has.same k h2,cY.grow k h⟩
theorem cY.vi (h:cY K H S σ):VI K (λ_=>none) H H S H σ H where
 len:=h.len
 same:=Same.refl _
 gf:=Same.refl _
 new:=λ_ _ e=>.inl e
 sub:=Same.refl _
 slot:=λi t d e=>by
  obtain⟨rfl,v,e1,e2⟩:=h.slot i t d e
  exact⟨v,e1,e2⟩
 inj:=λi j t t' d d' v e1 _ o1 _ _ _=>by
  obtain⟨rfl,_⟩:=h.slot i t d e1
  cases o1
 pl:=λ_ _ _ e=>e
theorem Fd {f:VT}{b:Bool}{Q:Bool->Hp->Prop}(h:cY K H S σ)(e:f S=some b)(q:∀H',Same H H'->Q b H'):gR K f σ H Q:=
 ⟨_,_,_,S,H,h.vi,b,e,λ_ H' g=>q H' g.hh⟩
theorem vI {f:VE}{d:PyData}{Q:VK}(h:cY K H S σ)(e:f S=some d)(q:∀v H',Same H H'->Has K H' d v->Q v H'):tV K RS f σ H Q:=
 ⟨_,_,_,S,H,h.vi,d,e,λv _ H' g hv=>q v H' g.hh (Has.same g.fh hv)⟩
end
section
variable {P:Program}{w:World}{K:PySem.W.Frag}{mg:Str->Option Value}{base:Heap}
theorem Bg {x qual:Str}{st:Stmt}{f:Addr}{fd:FuncData}{N ps:List Str}{k:Nat}{sp:Sp}(F:dB K x qual st f fd)(S:bF N ps (aj st))(len:∀vs H Q E,sp vs H Q E->vs.length=ps.length)
  (hbody:∀(cdv:Value) (A:Around) (outer:List Env) (s:Shared) (H:Hp) (vs:List V) (Q:VK) (E:XK),cR k (A.deeper (envOfC qual (aj st) s.heap.objs.size f cdv))->sp vs H Q E->
   ∃t,gW (fW (eE P w) P w K mg base N qual (aj st) f cdv A outer s H E) (aU st) t/\t {nx:=λ_ H'=>Q .non H',rt:=Q} (start N vs) H):aW P w K mg base (eE P w) (k+1) f fd ps sp:=by
 obtain⟨oc,od,kV,doc,pm,an,cdv,ct,osl,rfl,lk,hcd⟩:=F.ex
 exact Jm lk hcd S len λA outer s H vs Q E hr hsp=>hbody cdv A outer s H vs Q E hr hsp
theorem calm {f:Addr}{fd:FuncData}{ps:List Str}{k:Nat}{sp Lq:Sp}(F:aW P w K mg base (eE P w) k f fd ps sp)(h:∀vs H Q E,Lq vs H Q E->sp vs H Q E0):aW P w K mg base dG k f fd ps Lq:=
 ⟨λvs H Q E q=>F.len vs H Q E0 (h _ _ _ _ q),λA outer s H args us vs Q E hr he hb hv hs=>codeAny_mono (F.run A outer s H args us vs Q E0 hr he hb hv (h _ _ _ _ hs)) λr s' q=>by
  cases r with
  |ok fl=>cases fl<;>exact q
  |error ev=>
   obtain⟨_,_,_,_,_,_,_,_,_,_,_,_,_,_,_,z⟩:=Fb q
   exact z.elim⟩
structure Fe (K:PySem.W.Frag)(x qual:Str)(st:Stmt)(f:Addr)(fd:FuncData):Prop where
 ex:∃(oc:Value) (od:Option Addr) (dV kV doc pm:Value) (an:Option Addr) (cdv ct:Value) (osl:Array (Option Value)),
  fd=PySem.W.fnOf x qual (bH st) (aU st) (aj st) dV kV doc pm an cdv ct/\K.lookup f=some ⟨oc,od,.func fd,osl⟩/\PySem.W.codeIn K cdv qual=true
theorem Fe.ok {x qual:Str}{st:Stmt}{f:Addr}{fd:FuncData}{N ps:List Str}{k:Nat}{sp:Sp}(F:Fe K x qual st f fd)(S:bF N ps (aj st))(len:∀vs H Q E,sp vs H Q E->vs.length=ps.length)
  (hbody:∀(cdv:Value) (A:Around) (outer:List Env) (s:Shared) (H:Hp) (vs:List V) (Q:VK) (E:XK),cR k (A.deeper (envOfC qual (aj st) s.heap.objs.size f cdv))->sp vs H Q E->
   ∃t,gW (fW dG P w K mg base N qual (aj st) f cdv A outer s H E).oY (aU st) t/\t {nx:=λ_ H'=>Q .non H',rt:=Q} (start N vs) H):aW P w K mg base dG (k+1) f fd ps sp:=by
 obtain⟨oc,od,dV,kV,doc,pm,an,cdv,ct,osl,rfl,lk,hcd⟩:=F.ex
 refine Jm lk hcd S len λA outer s H vs Q E hr hsp=>?_
 obtain⟨t,h,q⟩:=hbody cdv A outer s H vs Q E hr hsp
 exact⟨t,h.oY,q⟩
end
section
variable {X:Cx}{e:Expr}{te:TE}{C:Addr}
noncomputable def aaU (a b:Str)(te:TE):TE:=λσ H Q=>te σ H λx H1=>∃n:Int,x=.int n/\n.natAbs.log2<1920/\(Str.empty++a++toString n).length<=sizeLine/\(Str.empty++a++toString n++b).length<=sizeLine/\∀y,Q (.str y) H1
theorem aaV {a b:Str}{j1 j2:Nat}{p1 p2 p3 pos:Pos}(he:PE X e te)(h0:(Str.empty++a).length<=sizeLine:=by decide):PE X (.JoinedStr [.Constant (.str a) j1 p1,.FormattedValue e (-1) none p2,.Constant (.str b) j2 p3] pos) (aaU a b te):=by
 intro pins s σ H Q I h
 refine JoinedStr_many (joinParts_cons (Calls.Constant_str ?_))
 dsimp only
 refine⟨h0,joinParts_cons (FormattedValue_plain (aQ (he pins _ σ H _ (I.tok _) h) λu s1 ⟨x,H1,I1,rx,n,ex,hn,z1,z2,q⟩=>?_))⟩
 subst ex
 obtain⟨t,rfl⟩:=rx
 refine formatField_int_small hn ⟨z1,joinParts_cons (Calls.Constant_str ⟨z2,joinParts_nil ?_ z2⟩)⟩
 exact⟨.str (Str.empty++a++toString n++b),H1,I1.tok _,⟨_,rfl⟩,q _⟩
noncomputable def J1 (K:PySem.W.Frag)(ta:TE)(f:Str):TE:=λσ H Q=>ta σ H λx H1=>∃a C dx tb fs v,x=.ref a/\H1 a=some (cB a C (some dx) tb)/\H1 dx=some (.xd fs)/\XR K C/\PySem.W.findIn K (.ref C) f=some none/\fs.lookup f=some v/\Q v H1
theorem Ig {P:Program}{w:World}{H:Hp}{h:Heap}{a dx:Addr}{tb:Value}{fs:List (Str×V)}(ok:fH P w H h)(ea:H a=some (cB a C (some dx) tb))(ed:H dx=some (.xd fs)):
  ∃(oe od:Obj) (mA:Str->Option Value),PySem.W.InstAt h a oe C (some od)/\(∀name,PySem.W.lookIn name od=some (mA name))/\∀f,gZ (fs.lookup f) (mA f):=by
 obtain⟨oe,vs,t0,g1,g2,g3,g4,g5,g6⟩:=kj ok ea
 obtain⟨mA,ns,rl⟩:=(show ∃mA,h.Ns1 dx mA/\∀f,gZ (fs.lookup f) (mA f) from ok dx _ ed)
 obtain⟨od,ho,hl⟩:=Af ns
 refine⟨oe,od,mA,⟨g1,g2,?_,?_⟩,hl,rl⟩
 .unfold PySem.W.notCls
  rw[g4]
 .rw[g3]
  exact ho
theorem XJ {f:Str}{pos:Pos}(he:PE X e te)(hb:attributeBase e f X.env (eval e X.env)=eval e X.env:=by rfl):PE X (.Attribute e f pos) (J1 X.K te f):=by
 intro pins s σ H Q I h
 refine G7 hb (aQ (he pins s σ H _ I h) λu s1 ⟨x,H1,I1,rx,a,C,dx,tb,fs,v,ex,ea,ed,c,n,l,q⟩=>?_)
 subst ex
 obtain rfl:u=Value.ref a:=rx
 obtain⟨oe,od,mA,IA,hl,rl⟩:=Ig I1.hok ea ed
 obtain⟨u,hu,ru⟩:=gZ.some_of (v:=v) (o:=mA f) (by rw[<-l];exact rl f)
 obtain⟨hp,gs,dr,tk,os⟩:=s1
 exact get_own I1.gG c IA n (by rw[hl,hu]) (Ag ru) ⟨v,H1,I1.tok _,ru,q⟩
end
end EX
namespace EX
open PySem PySem.W
theorem iC {K:Frag}{D:Addr}{newId:String}(h:excIn K D iH newId=true):tailIn K iH (.ref D::iH)=true:=by
 unfold excIn at h
 split at h
 .rename_i dd cd sl ho
  split at h
  .rename_i C' bm k0 k1 k2 k3 n k5 hm hs
   simp only[Bool.and_eq_true] at h
   have t0:tailIn K iH iH=true:=by
    show tailIn K iH (.type "ValueError"::[.type "Exception",.type "BaseException",.type "object"])=true
    unfold tailIn
    simp
   have t1:tailIn K iH (.ref D::iH)=((.ref D::iH)==iH||match K.lookup D with
     |some ⟨_,_,.cls cd,_⟩=>nsOkIn K cd.ns && nsIn K cd.ns "__init__"==some none && tailIn K iH iH
     |_=>false):=rfl
   rw[t1,ho]
   dsimp only
   rw[h.1.2,h.2,t0]
   simp
  .cases h
 .cases h
end EX
namespace EX
open PySem PySem.W
open Builtin Builtin.ObjectAttr
set_option maxHeartbeats 1000000
section
variable {prog:Program}{w:World}{A:Around}{E:Value->Shared->Prop}{h:Heap}{g:Array GenState}{d:Drawn}{t:Nat}{os:OsState}{K:Frag}{C D:Addr}
theorem J2 {v:Value}{Q:Fin->Shared->Prop}(X:K.In h)(c:XC K C D)(hi:findIn K (.ref C) "__init__"=some (some (.builtin "ValueError.__init__")))
  (hq:∀h' e t0,h.objs.size<=e->(∀b o,h.get? b=some o->h'.get? b=some o)->h'.get? e=some {cls:=.ref C,data:=.fields #[.ref t0,.none,.none,.none,.bool false,.none]}->Q (.done (.ret (.ref e))) ⟨h',g,d,t,os⟩):
  wpAny (model prog w) A (Builtin.«type.__call__» ⟨[.ref C,v],[]⟩) Q E ⟨h,g,d,t,os⟩:=by
 obtain⟨nm,q,N,bs,sn,sub,ab,col,dd,k0,k1,k2,k3,k5,lk⟩:=c.obj
 have hC:=X _ _ lk
 have T:=tail_of_in X c.tl
 have FV:=PySem.F.excBase_ValueError
 repeat (first|with_reducible refine wpAny_loadPart_at hC ?_|with_reducible refine wpAny_madeBy_exc hC ?_|wp_step)
 refine codeAny_call_builtin_code (Code.quiet_builtin _ FV.quiet) (wpAny_check_new_subU FV FV.hasB T hC ?_)
 refine codeAny_exc_new_subU (rest:=[v]) FV FV.hasB FV T hC ?_ (by show 1<=sizeLine;decide)
 show wpAny _ _ _ _ _ _
 generalize hot:({cls:=.type "tuple",data:=.seq [v].toArray}:Obj)=ot
 generalize hoe:({cls:=.ref C,data:=.fields #[.ref h.objs.size,.none,.none,.none,.bool false,.none]}:Obj)=oe
 have kp:∀b o,h.get? b=some o->((h.push ot).push oe).get? b=some o:=λb o z=>Heap.get?_push_of_some _ (Heap.get?_push_of_some _ z)
 have X1:K.In ((h.push ot).push oe):=X.keeps kp
 have hC1:=kp _ _ hC
 have EY:((h.push ot).push oe).get? (h.objs.size+1)=some oe:=by
  have z:=Heap.get?_push_size (h.push ot) (o:=oe) (by rw[<-hoe];rfl)
  rwa [Heap.size_push] at z
 have hcl:oe.cls=.ref C:=by rw[<-hoe]
 have hcC:(Value.ref C::(.ref D::iH)).contains (.ref C)=true:=by simp
 unfold isInstance
 repeat (first|(with_reducible refine wpAny_loadPart_at EY ?_;rw[hcl])|(with_reducible refine wpAny_isSubtype_exc hC1 ?_;rw[hcC])|wp_step)
 show wpAny _ _ (typeLookup (.ref C) _) _ _ _
 refine(looks_findIn X1 hi).at ?_
 refine wpAny_holding (wpAny_bind (wpAny_of_eq (FV.init.bind _) ?_))
 refine wpAny_bind (Bd (vs:=#[.ref h.objs.size,.none,.none,.none,.bool false,.none]) X1 c EY hcl (by rw[<-hoe]) rfl λh' k1' ge=>?_)
 wp_walk
 refine hq h' (h.objs.size+1) ((h.push ot).push oe).objs.size (Nat.le_succ _) (λb o z=>k1' b o (Nat.ne_of_lt (Nat.lt_succ_of_lt (Heap.lt_size z))) (kp b o z)) (ge.trans ?_)
 rw[<-hoe]
 rfl
theorem agH {v:Value}{Q:Value->Shared->Prop}(X:K.In h)(c:XC K C D)(hi:findIn K (.ref C) "__init__"=some (some (.builtin "ValueError.__init__")))
  (hq:∀h' e t0,h.objs.size<=e->(∀b o,h.get? b=some o->h'.get? b=some o)->h'.get? e=some {cls:=.ref C,data:=.fields #[.ref t0,.none,.none,.none,.bool false,.none]}->Q (.ref e) ⟨h',g,d,t,os⟩):
  wpAny (model prog w) A (call (.ref C) [v]) Q E ⟨h,g,d,t,os⟩:=by
 obtain⟨nm,q,N,bs,sn,sub,ab,col,dd,k0,k1,k2,k3,k5,lk⟩:=c.obj
 have hC:=X _ _ lk
 have f1:=tc_lookup
 have f2:=tc_bind (.ref C)
 have hT:(⟨h,g,d,t,os⟩:Shared).TypeIs (.ref C) "type":=⟨_,hC,rfl⟩
 refine wpAny_call (codeAny_of_tree ?_)
 show wpAny _ _ (callAny (.ref C) _) _ _ _
 repeat (any_goals (first|assumption|with_reducible refine wpAny_loadPart_at hC ?_|wp_step))
 refine⟨rfl,codeAny_call_builtin_at (Code.quiet_builtin _ (by decide +kernel)) entry_typeCall (wpAny_check_type_call_sub hC (J2 X c hi λh' e t0 a b z=>?_))⟩
 exact hq h' e t0 a b z
end
end EX
namespace EX
open PySem PySem.Spec PyProof.Rows L2
set_option maxHeartbeats 1000000
noncomputable def J3 (X:Cx)(pins:List (Addr×Obj))(σ:L2.St)(E:XK)(ev:Value)(s':Shared):Prop:=∃H s,Inv X pins σ H s/\eE X.prog X.w X.stack H s E ev s'
noncomputable abbrev TX:=L2.St->Hp->VK->XK->Prop
noncomputable def Ih (X:Cx)(e:Expr)(t:TX):Prop:=∀(pins:List (Addr×Obj)) (s:Shared) (σ:L2.St) (H:Hp) (Q:VK) (E:XK),Inv X pins σ H s->t σ H Q E->wpAny (model X.prog X.w) X.A (eval e X.env) (EP X pins σ Q) (J3 X pins σ E) s
section
variable {X:Cx}{k:Nat}{f C:Addr}{fd:FuncData}{ps:List Str}{sp:Sp}{x m:Str}{p pos apos:Pos}{e o:Expr}{es:List Expr}{t:TA}{ta:TE}
theorem Ii {pins:List (Addr×Obj)}{σ:L2.St}{H:Hp}{s:Shared}{Q:VK}{E:XK}{us:List Value}{vs:List V}(F:aW X.prog X.w X.K X.mg X.base (eE X.prog X.w) k f fd ps sp)(hr:cR k X.A)(hb:Binds X.K fd ps [])(I:Inv X pins σ H s)(r:Vals vs us)(h:sp vs H Q E):
  wpAny (model X.prog X.w) X.A (call (.ref f) us) (EP X pins σ Q) (J3 X pins σ E) s:=by
 have hl:us.length=ps.length:=by rw[<-r.length];exact F.len _ _ _ _ h
 have bb:=hb s us I.gG (by rw[List.append_nil];exact hl)
 rw[List.append_nil] at bb
 refine wpAny_call (codeAny_mono (F.run X.A X.stack s H ⟨us,[]⟩ us vs Q E hr I.env0 bb r h) λr s' hq=>?_)
 cases r with
 |error ev=>exact⟨H,s,I,Fb hq⟩
 |ok fl=>
  cases fl with
  |ret u=>exact I.after hq
  |next=>exact False.elim hq
  |brk=>exact False.elim hq
  |cont=>exact False.elim hq
noncomputable def tW (sp:Sp)(t:TA):TX:=λσ H Q E=>t σ H λvs H1=>sp vs H1 Q E
theorem mC (F:aW X.prog X.w X.K X.mg X.base (eE X.prog X.w) k f fd ps sp)(hr:cR k X.A)(hg:Gl X x)(hm:X.mg x=some (.ref f))(hk:PySem.W.keepIn X.K (.ref f)=true)(hb:Binds X.K fd ps [])(ha:PA X.oY (e::es) t)
  (hdb:(x==("__debug__":Str))=false:=by decide)(he:starEach (e::es) X.env=(false,eval e X.env)::starEach es X.env:=by rfl)(hpl:(backTo pos (starEach es X.env)).any (·.1)=false:=by rfl):
  Ih X (.Call (.Name x p) (e::es) [] pos) (tW sp t):=by
 intro pins s σ H Q E I h
 refine wpAny_Call_Name_kw (jO I hg hm ?_ hdb)
 refine PySem.W.callWith_K (h₀:=X.base) I.ok.mod.v8 hk (wpAny_mono (ha pos pins s σ H _ (I.wish _) h) (λus s1 ⟨vs,H1,I1,r,q⟩=>⟨I1.gP.gG,?_⟩) λ_ _ z=>z.elim) he hpl
 exact Ii F hr hb I1.gP r q
noncomputable def qD (C:Addr)(m:Str)(sp:Sp)(ta:TE)(t:TA):TX:=λσ H Q E=>ta σ H λx H1=>∃a dx fs,x=.ref a/\H1 a=some (.ins C dx fs)/\fs.lookup m=none/\t σ H1 λvs H2=>sp (x::vs) H2 Q E
theorem mD {pl:Sem Bool}(he:PE X.oY o ta)(c:Cls X.K C)(hm:Meth X.K C m f)(F:aW X.prog X.w X.K X.mg X.base (eE X.prog X.w) k f fd ps sp)(hr:cR k X.A)(hb:Binds X.K fd ps [])(ha:PA X.oY (e::es) t)
  (hst:starEach (e::es) X.env=(false,eval e X.env)::starEach es X.env:=by rfl)(hpl:(backTo pos (starEach es X.env)).any (·.1)=false:=by rfl)
  (ht:eval (.Call (.Attribute o m apos) (e::es) [] pos) X.env=(do
   let ov<-eval o X.env
   standAt apos.atName
   let(f,first)<-holding [ov] (getMethod ov m pl)
   callWith pos f first (backTo pos (starEach (e::es) X.env)) (backToKw pos (keywordEach [] X.env))):=by rfl):
  Ih X (.Call (.Attribute o m apos) (e::es) [] pos) (qD C m sp ta t):=by
 intro pins s σ H Q E I h
 refine PySem.W.methodCall_KW (pl:=pl) (wpAny_mono (he pins s σ H _ (I.wish _) h) (λu s1 ⟨x,H1,I1,rx,a,dx,fs,ex,ea,l,q⟩=>?_) λ_ _ z=>z.elim) ht
 subst ex
 obtain rfl:u=Value.ref a:=rx
 refine oA I1.gP ea c hm l ?_
 refine PySem.W.callWith_K (first:=[.ref a]) (h₀:=X.base) I.ok.mod.v8 hm.kp (wpAny_mono (ha pos pins s1 σ H1 _ I1 q) (λus s2 ⟨vs,H2,I2,r,q2⟩=>⟨I2.gP.gG,?_⟩) λ_ _ z=>z.elim) hst hpl
 exact Ii (us:=.ref a::us) (vs:=.ref a::vs) F hr hb I2.gP (.cons rfl r) q2
end
theorem Vq {P:Program}{w:World}{K:PySem.W.Frag}{mg:Str->Option Value}{base:Heap}{N:List Str}{qual:Str}{scope:Scope}{f:Addr}{cdv:Value}{A:Around}{outer:List Env}{s s':Shared}{H:Hp}{E:XK}{pins:List (Addr×Obj)}{σ:L2.St}{ev:Value}{E1:XK}
  (hc:J3 (fW (eE P w) P w K mg base N qual scope f cdv A outer s H E) pins σ E1 ev s')(q:∀e C dx T H',ev=.ref e->H' e=some (cB e C dx (.ref T))->(∀C' tb,H' e=some (cB e C' dx tb)->C'=C)->E1 (.ref e) dx H'->∀T2,E (.ref e) dx (upd H' e (cB e C dx (.ref T2)))):
  (fW (eE P w) P w K mg base N qual scope f cdv A outer s H E).xe ev s':=by
 obtain⟨H1,s1,I,hq⟩:=hc
 have fr:∀(X:Cx),X.A.frames=some X.stack->X.A.frames=some X.stack:=λ_ z=>z
 show wpAny (model P w) (A.deeper (envOfC qual scope s.heap.objs.size f cdv)) (leaving (envOfC qual scope s.heap.objs.size f cdv) ev) _ _ s'
 unfold leaving
 refine wpAny_bind (Ie (X:=fW (eE P w) P w K mg base N qual scope f cdv A outer s H E) I.ok.frames I hq rfl rfl λe C dx T H' T2 s3 hev qE hE hok I3 R3=>?_)
 subst hev
 have ub:Un (frs outer) [] H (upd H' e (cB e C dx (.ref T2))) s.heap s3.heap:=I3.base
 exact⟨e,C,dx,T2,_,rfl,I3.os,I3.bare,ub,I3.hok,ao,R3.ent,R3.no,R3.ab,(λz=>by have:=R3.no;rw[z,ao] at this;cases this),q e C dx T H' rfl hE (λC' tb z=>Bf hok z hE) qE T2⟩
theorem jJ {P:Program}{w:World}{K:PySem.W.Frag}{mg:Str->Option Value}{base:Heap}{N:List Str}{qual:Str}{scope:Scope}{f:Addr}{cdv:Value}{A:Around}{outer:List Env}{s:Shared}{H:Hp}{E:XK}{ex:Expr}{pos:Pos}{t:TX}
  (he:Ih (fW (eE P w) P w K mg base N qual scope f cdv A outer s H E) ex t)(hs:swapsWith ex none pos.line (fW (eE P w) P w K mg base N qual scope f cdv A outer s H E).env=pure false:=by rfl):
  PS (fW (eE P w) P w K mg base N qual scope f cdv A outer s H E) (.Expr ex pos) (λD σ H0=>t σ H0 (λ_ H'=>D.nx σ H') λev dx H'=>∀e C T T2,ev=.ref e->H' e=some (cB e C dx (.ref T))->(∀C' tb,H' e=some (cB e C' dx tb)->C'=C)->E (.ref e) dx (upd H' e (cB e C dx (.ref T2)))):=by
 intro pins s0 σ H0 D I h
 refine wpAny_Expr_any (wpAny_mono (he pins s0 σ H0 _ _ I h) (λv s1 ⟨x,H1,I1,r1,q1⟩=>⟨σ,H1,I1,q1⟩) λev s1 z=>?_) I.quiet hs
 exact Vq z λe C dx T H' hev hE u q T2=>q e C T T2 rfl hE u
end EX
namespace EX
open PySem PySem.Spec PyProof.Rows L2
set_option maxHeartbeats 1000000
section
variable {X:Cx}{k i:Nat}{f Y C D:Addr}{fd:FuncData}{ps:List Str}{sp:Sp}{x y n:Str}{p pos cpos epos hpos np:Pos}{e ex:Expr}{es:List Expr}{b0:Stmt}{suite:List Stmt}{t:TX}{ta:TA}{tS:TS}{te:TE}
noncomputable def Cz (K:PySem.W.Frag)(Y:Addr)(i:Nat)(t:TX)(tS:TS):TS:=λD σ H=>t σ H (λ_ H2=>D.nx σ H2) λev dx H2=>∃e C tb,ev=.ref e/\H2 e=some (cB e C dx tb)/\PySem.W.mroIn K C (.ref Y)=some true/\
 ∀T,tS {nx:=λσ' H'=>D.nx (σ'.set i none) H',rt:=λ_ _=>False} (σ.set i (some (.ref e))) (upd H2 e (cB e C dx (.ref T)))
theorem zH (hex:Ih X ex t)(hst:X.stack=X.env::X.outer)(hfr:X.env.frame=some X.env.locals)(hgy:Gl X y)(hmy:X.mg y=some (.ref Y))(hY1:PySem.W.mroIn X.K Y (.type "BaseException")=some true)(hY2:PySem.W.typeIn X.K (.ref Y)=some (.type "type"))
  (hN:X.N.Nodup)(hi:X.N[i]? =some n)(hl:X.env.scope.names.lookup n=some .local)(hS:∀e,gW (inX X e) (b0::suite) tS)(hdy:(y==("__debug__":Str))=false:=by decide)
  (hs:swapsWith ex none epos.line X.env=pure false:=by rfl):
  PS X (.Try [.Expr ex epos] [.ExceptHandler (some (.Name y np)) (some n) (b0::suite) hpos] [] [] pos) (Cz X.K Y i t tS):=by
 intro pins s σ H D I h
 refine wpAny_Try_except (wpAny_execs_cons (wpAny_Expr_any (wpAny_mono (hex pins s σ H _ _ I h) (λv s1 ⟨_,H1,I1,_,q1⟩=>wpAny_execs_nil (wpAny_execs_nil ⟨σ,H1,I1,q1⟩)) λev s' ⟨H1,s1,I1,hq⟩=>?_) I.quiet hs))
 refine Ie I.ok.frames I1 hq hst hfr λe C dx T H' T2 s3 hev qE hE hok I3 R3=>?_
 subst hev
 obtain⟨e',C',tb,z,hE',hm1,qS⟩:=qE
 cases z
 have hc:=Bf hok hE' hE
 subst hc
 obtain⟨oe,vs,t0,g1,g2,g3,g4,g5,g6⟩:=kj I3.hok (ao (H:=H') (a:=e) (o:=cB e C' dx (.ref T2)))
 obtain⟨oT,ts,t1,t2,t3⟩:=R3.ent
 refine wpAny_handleBy_cons (codeAny_handlers_test (jO (X:=inX X e) (Ib I3) hgy hmy ?_ hdy)) (by intro z;cases z)
 obtain⟨hp,gs,dr,tk,os⟩:=s3
 refine catches I3.gG g1 g2 hY1 hY2 hm1 (codeAny_handlers_suite_as ?_)
 unfold setFlight
 refine wpAny_bind (wpAny_field g1 g4 g6 ?_)
 rw[if_pos (show(Value.ref T2 !=Value.none)=true from by simp)]
 refine wpAny_setField t1 t2 (Array.getElem?_eq_some_iff.mp t3).1 ?_
 have I4:=I3.turned (t':=tk) (it:=T2) (h':=hp.update T2 (Obj.mapFields (·.setIfInBounds 3 Value.none))) (λb o hb z=>(Heap.get?_update_other _ _ hb.symm).trans z) R3.no R3.ne (.inr R3.ab) R3.cl R3.pn
 refine sU (v:=.ref e) I4 hN hi (.inl hl) rfl (λs5 I5=>?_) (.inr hl)
 refine wpAny_mono (hS e pins s5 _ _ _ (Ib I5) (qS T2)) (λfl s6 q6=>?_) λ_ _ z=>z.elim
 cases fl with
 |next=>
  obtain⟨σ',H6,I6,dn⟩:=q6
  exact goes (XH I.ok I6) hN hi hl λs7 I7=>⟨σ'.set i none,H6,I7,dn⟩
 |brk=>obtain⟨_,_,_,z⟩:=q6;exact z.elim
 |cont=>obtain⟨_,_,_,z⟩:=q6;exact z.elim
 |ret u=>obtain⟨_,_,_,_,_,z⟩:=q6;exact z.elim
noncomputable def Fg (C:Addr)(t:TA):TE:=λσ H Q=>t σ H λvs H1=>∃v,vs=[v]/\∀e,H1 e=none->Q (.ref e) (upd H1 e (cB e C none .none))
theorem pK (c:XC X.K C D)(hi:PySem.W.findIn X.K (.ref C) "__init__"=some (some (.builtin "ValueError.__init__")))(kp:PySem.W.keepIn X.K (.ref C)=true)(hg:Gl X x)(hm:X.mg x=some (.ref C))
  (ha:PA X (e::es) ta)(hdb:(x==("__debug__":Str))=false:=by decide)(he:starEach (e::es) X.env=(false,eval e X.env)::starEach es X.env:=by rfl)(hpl:(backTo pos (starEach es X.env)).any (·.1)=false:=by rfl):
  PE X (.Call (.Name x p) (e::es) [] pos) (Fg C ta):=by
 intro pins s σ H Q I h
 refine wpAny_Call_Name_kw (jO I hg hm ?_ hdb)
 refine PySem.W.callWith_K (h₀:=X.base) I.ok.mod.v8 kp (aQ (ha pos pins s σ H _ I h) λus s1 ⟨vs,H1,I1,r,v,ev,q⟩=>⟨I1.gG,?_⟩) he hpl
 subst ev
 obtain⟨u,rfl,ru⟩:=vals1 r
 obtain⟨hp,gs,dr,tk,os⟩:=s1
 refine agH I1.gG c hi λh' e t0 hle kp' ge=>?_
 exact⟨.ref e,_,I1.laid (a:=e) (o:=cB e C none .none) (h':=h') (t':=tk) kp' hle (su ge rfl rfl rfl (t0:=t0) rfl rfl),rfl,q e (I1.hok.fresh hle)⟩
theorem agI {P:Program}{w:World}{H:Hp}{h:Heap}{a:Addr}{tb:Value}(ok:fH P w H h)(ea:H a=some (cB a C none tb)):∃oe,PySem.W.InstAt h a oe C none:=by
 obtain⟨oe,vs,t0,g1,g2,g3,g4,g5,g6⟩:=kj ok ea
 refine⟨oe,g1,g2,?_,?_⟩
 .unfold PySem.W.notCls
  rw[g4]
 .rw[g3]
  exact True.intro
end
end EX
namespace EX
open PySem PySem.Spec PyProof.Rows L2
set_option maxHeartbeats 1000000
section
variable {X:Cx}{k:Nat}{f C:Addr}{fd:FuncData}{ps:List Str}{sp:Sp}{x:Str}{p pos:Pos}{e:Expr}{es:List Expr}{t:TA}
noncomputable def Vr (C:Addr)(sp:Sp)(t:TA):TX:=λσ H Q E=>t σ H λvs H1=>∀x dx,H1 x=none->H1 dx=none->dx≠x->sp (.ref x::vs) (upd (upd H1 dx (.own x)) x (.ins C dx [])) (λv H2=>v=.non/\Q (.ref x) H2) E
theorem Nj {pins:List (Addr×Obj)}{σ:L2.St}{H:Hp}{s:Shared}{Q:VK}{E:XK}{us:List Value}{vs:List V}(M:Mk X.K C f)(F:aW X.prog X.w X.K X.mg X.base (eE X.prog X.w) k f fd ps sp)(hr:cR (k+1) X.A)(hb:Binds X.K fd ps [])(I:Inv X pins σ H s)(r:Vals vs us)
  (h:∀x dx,H x=none->H dx=none->dx≠x->sp (.ref x::vs) (upd (upd H dx (.own x)) x (.ins C dx [])) (λv H2=>v=.non/\Q (.ref x) H2) E):
  wpAny (model X.prog X.w) X.A (call (.ref C) us) (EP X pins σ Q) (J3 X pins σ E) s:=by
 have hq:=h (s.heap.objs.size+1) s.heap.objs.size (I.hok.fresh (Nat.le_succ _)) (I.hok.fresh (Nat.le_refl _)) (Nat.ne_of_lt (Nat.lt_succ_self _))
 have I2:=Inv.made (C:=C) I
 have r2:Vals (V.ref (s.heap.objs.size+1)::vs) (Value.ref (s.heap.objs.size+1)::us):=.cons rfl r
 have hl:(Value.ref (s.heap.objs.size+1)::us++[]).length=ps.length:=by
  have z:=r2.length
  rw[F.len _ _ _ _ hq] at z
  rw[List.append_nil]
  exact z.symm
 have bb:=hb {s with heap:=(s.heap.push PySem.W.emptyDict).push (PySem.W.instObj C s.heap.objs.size)} (Value.ref (s.heap.objs.size+1)::us) I2.gG hl
 rw[List.append_nil] at bb
 refine wpAny_call (Dl (f:=f) I.gG M.makes M.init (beq_iff_eq.mp M.fn) (codeAny_mono (F.run _ X.stack _ _ ⟨Value.ref (s.heap.objs.size+1)::us,[]⟩ (Value.ref (s.heap.objs.size+1)::us) _ _ E (hr.make C us []) (I2.env0.make C us []) bb r2 hq) λr s' hq'=>?_))
 cases r with
 |error ev=>exact⟨_,_,I2,Fb hq'⟩
 |ok fl=>
  cases fl with
  |ret u=>
   obtain⟨v,H',I3,rv,ev,q3⟩:=I2.after hq'
   subst ev
   exact⟨rv,⟨V.ref (s.heap.objs.size+1),H',I3,rfl,q3⟩⟩
  |next=>exact False.elim hq'
  |brk=>exact False.elim hq'
  |cont=>exact False.elim hq'
theorem XM (M:Mk X.K C f)(F:aW X.prog X.w X.K X.mg X.base (eE X.prog X.w) k f fd ps sp)(hr:cR (k+1) X.A)(hg:Gl X x)(hm:X.mg x=some (.ref C))(hb:Binds X.K fd ps [])(ha:PA X.oY (e::es) t)
  (hdb:(x==("__debug__":Str))=false:=by decide)(he:starEach (e::es) X.env=(false,eval e X.env)::starEach es X.env:=by rfl)(hpl:(backTo pos (starEach es X.env)).any (·.1)=false:=by rfl):
  Ih X (.Call (.Name x p) (e::es) [] pos) (Vr C sp t):=by
 intro pins s σ H Q E I h
 refine wpAny_Call_Name_kw (jO I hg hm ?_ hdb)
 refine PySem.W.callWith_K (h₀:=X.base) I.ok.mod.v8 M.kp (wpAny_mono (ha pos pins s σ H _ (I.wish _) h) (λus s1 ⟨vs,H1,I1,r,q⟩=>⟨I1.gP.gG,?_⟩) λ_ _ z=>z.elim) he hpl
 exact Nj M F hr hb I1.gP r q
end
end EX
namespace EX
open PySem PySem.Spec PyProof.Rows L2
set_option maxHeartbeats 1000000
noncomputable abbrev Fj:=L2.St->Hp->(Hp->Prop)->Prop
noncomputable def Nk (X:Cx)(e:Expr)(t:Fj):Prop:=∀(pins:List (Addr×Obj)) (s:Shared) (σ:L2.St) (H:Hp) (Q:Hp->Prop),Inv X pins σ H s->t σ H Q->
 wpAny (model X.prog X.w) X.A (eval e X.env) (λu s'=>∃y tk H',u=.str y tk/\y.length<=20000/\Inv X pins σ H' s'/\Q H') X.xe s
section
variable {X:Cx}{e:Expr}{es:List Expr}{te:TE}{t:Fj}
theorem pL {a:Str}{j:Nat}{pos:Pos}(h:a.length<=20000:=by decide):Nk X (.Constant (.str a) j pos) (λ_ H Q=>Q H):=λ_ _ _ H _ I q=>Calls.Constant_str ⟨_,_,H,rfl,h,I.tok _,q⟩
noncomputable def Vs (te:TE):Fj:=λσ H Q=>te σ H λx H1=>∃n:Int,x=.int n/\n.natAbs.log2<1920/\Q H1
theorem XQ {n:Int}(h:n.natAbs.log2<1920):(Str.ofString (toString n)).length<=20000:=by
 have e:=int_text_length_le (k:=1920) (by decide) h
 rw[PySem.ofString_length]
 omega
theorem Nm {pos:Pos}(he:PE X e te):Nk X (.FormattedValue e (-1) none pos) (Vs te):=by
 intro pins s σ H Q I h
 refine FormattedValue_plain (aQ (he pins s σ H _ I h) λu s1 ⟨x,H1,I1,rx,n,ex,hn,q⟩=>?_)
 subst ex
 obtain⟨t,rfl⟩:=rx
 exact formatField_int_small hn ⟨_,_,H1,rfl,XQ hn,I1.tok _,q⟩
noncomputable def Fo (te:TE):Fj:=λσ H Q=>te σ H λx H1=>∃y:Str,x=.str y/\y.length<=1000/\Q H1
theorem yC {pos:Pos}(he:PE X e te):Nk X (.FormattedValue e (-1) none pos) (Fo te):=by
 intro pins s σ H Q I h
 refine FormattedValue_plain (aQ (he pins s σ H _ I h) λu s1 ⟨x,H1,I1,rx,y,ex,hn,q⟩=>?_)
 subst ex
 obtain⟨t,rfl⟩:=rx
 exact formatField_str (λt' tk=>⟨y,t',H1,rfl,by omega,I1.tok _,q⟩) (by rw[sizeLine_eq];omega)
noncomputable def tPR (te:TE):Fj:=λσ H Q=>te σ H λx H1=>∃y:Str,x=.str y/\y.length<=1000/\(∀c∈y.cps.toList,c<16^8)/\Q H1
theorem XS {pos:Pos}(he:PE X e te):Nk X (.FormattedValue e 114 none pos) (tPR te):=by
 intro pins s σ H Q I h
 refine wpAny_FormattedValue_repr (aQ (he pins s σ H _ I h) λu s1 ⟨x,H1,I1,rx,y,ex,hn,hc,q⟩=>?_)
 subst ex
 obtain⟨t,rfl⟩:=rx
 have hl:=PySem.StrLaws.reprText_len y hc
 exact wpAny_pyReprObj_str (formatField_str (λt' tk=>⟨reprText y,t',H1,rfl,by omega,I1.tok _,q⟩) (by rw[sizeLine_eq];omega)) (by rw[sizeLine_eq];omega)
noncomputable def yt (X:Cx)(es:List Expr)(t:Fj):Prop:=∀(out:Str) (n:Nat) (pins:List (Addr×Obj)) (s:Shared) (σ:L2.St) (H:Hp) (Q:VK),out.length<=20000*n->n+es.length<=100->Inv X pins σ H s->t σ H (λH1=>∀y,Q (.str y) H1)->
 wpAny (model X.prog X.w) X.A (joinParts out (evalEach es X.env)) (EP X pins σ Q) X.xe s
theorem lB:yt X [] (λ_ H Q=>Q H):=by
 intro out n pins s σ H Q hn hz I q
 refine joinParts_nil ⟨.str out,H,I.tok _,⟨_,rfl⟩,q out⟩ ?_
 rw[sizeLine_eq]
 simp only[List.length_nil] at hz
 omega
theorem dH {u:Fj}(h1:Nk X e t)(h2:yt X es u)(he:evalEach (e::es) X.env=eval e X.env::evalEach es X.env:=by rfl):yt X (e::es) (λσ H Q=>t σ H λH1=>u σ H1 Q):=by
 intro out n pins s σ H Q hn hz I q
 rw[he]
 refine joinParts_cons (aQ (h1 pins s σ H _ I q) λv s1 ⟨y,tk,H1,ev,hy,I1,q1⟩=>?_)
 subst ev
 have hl:(out++y).length<=20000*(n+1):=by rw[strLen_append];omega
 simp only[List.length_cons] at hz
 refine⟨?_,h2 (out++y) (n+1) pins s1 σ H1 Q hl (by omega) I1 q1⟩
 rw[sizeLine_eq]
 omega
theorem oR {e2:Expr}{pos:Pos}(h:yt X (e::e2::es) t)(hz:es.length<=90:=by decide):PE X (.JoinedStr (e::e2::es) pos) (λσ H Q=>t σ H λH1=>∀y,Q (.str y) H1):=by
 intro pins s σ H Q I q
 refine JoinedStr_many ?_
 exact h Str.empty 0 pins s σ H Q (by decide) (by simp only[List.length_cons];omega) I q
end
end EX
namespace EX
open PySem PySem.Spec PyProof.Rows L2
set_option maxHeartbeats 1000000
theorem vJ {P:Program}{w:World}{K:PySem.W.Frag}{mg:Str->Option Value}{base:Heap}{N:List Str}{qual:Str}{scope:Scope}{f:Addr}{cdv:Value}{A:Around}{outer:List Env}{s:Shared}{H:Hp}{E:XK}{ex:Expr}{pos:Pos}{t:TX}
  (he:Ih (fW (eE P w) P w K mg base N qual scope f cdv A outer s H E) ex t):
  PS (fW (eE P w) P w K mg base N qual scope f cdv A outer s H E) (.Return (some ex) pos) (λD σ H0=>t σ H0 D.rt λev dx H'=>∀e C T T2,ev=.ref e->H' e=some (cB e C dx (.ref T))->(∀C' tb,H' e=some (cB e C' dx tb)->C'=C)->E (.ref e) dx (upd H' e (cB e C dx (.ref T2)))):=by
 intro pins s0 σ H0 D I h
 refine wpAny_Return_some (wpAny_mono (he pins s0 σ H0 _ _ I h) (λv s1 ⟨x,H1,I1,r1,q1⟩=>⟨x,σ,H1,I1,r1,q1⟩) λev s1 z=>?_)
 exact Vq z λe C dx T H' hev hE u q T2=>q e C T T2 rfl hE u
end EX
namespace EX
open PySem PySem.W
open Builtin Builtin.ObjectAttr
set_option maxHeartbeats 1000000
section
variable {K:Frag}{C x:Addr}{ox:Obj}{name:Str}{od:Option Obj}
theorem Np {a gg:Value}(X3:(clsIn K C).isSome=true)(fa:findIn K (.ref C) name=some (some a))(sg:specialIn K a "__get__"=some (some gg))(tk:takesIn K a=some true):findObj K C od name=some (.bind gg a):=by
 obtain⟨cd,ec⟩:=Option.isSome_iff_exists.mp X3
 unfold findObj
 simp only[ec,fa,Option.bind_some,sg,tk]
theorem Q7 (c:XI K C):KitX K (.ref x) (.ref C) (λh=>InstAt h x ox C od) where
 ty:=λ_ _ _ I=>I.type
 it:=λ_ _ X _=>by
  obtain⟨cd,ec,_⟩:=any_some c.hd
  unfold clsIn at ec
  split at ec
  .rename_i lo
   intro A' Q' E' s' k q
   unfold isType loadHead
   exact wpAny_bind (wpAny_loadPart (k _ _ (X _ _ lo)) (wpAny_pure q))
  .cases ec
 ne:=λh tp dd its n sl X htp=>by
  obtain⟨cd,ec,_⟩:=any_some c.hd
  refine Bool.eq_false_iff.mpr λq=>?_
  have e:C=tp:=Value.ref.inj (beq_iff_eq.mp q)
  subst e
  unfold clsIn at ec
  split at ec
  .rename_i lo
   cases(X _ _ lo).symm.trans htp
  .cases ec
 ca:=λ{prog w A E Q s} X I k=>by
  obtain⟨h,g,d,t,os⟩:=s
  unfold getAttr? getAttrBy?
  refine wpAny_bind (wpAny_mkText (wpAny_bind (wpAny_attempt ?_)))
  refine Ni X c.toXR I (Np (by obtain⟨cd,ec,_⟩:=any_some c.hd;rw[ec];rfl) c.ca c.gg c.tk) rfl (λA' R r=>?_) (wpAny_pure k)
  exact class_get (s:=⟨h,g,d,t+1,os⟩) X I c.ob r
end
end EX
namespace EX
open PySem PySem.Spec PyProof.Rows L2
section
variable {X:Cx}
noncomputable def J4 (K:PySem.W.Frag):List V->Hp->VK->Prop:=λxs H Q=>∃a C dx tb cv cl b,xs=[.ref a,cv]/\(∀u,RelV cv u->u=cl)/\H a=some (cB a C dx tb)/\(∀d,dx=some d->∃fs,H d=some (.xd fs))/\XI K C/\PySem.W.kitOne K (.ref C) cl=some b/\Q (.bl b) H
theorem aaW:gw X (.builtin "isinstance") (J4 X.K):=by
 intro pins s σ H xs us Q I r h
 obtain⟨a,C,dx,tb,cv,cl,b,rfl,hcv,ea,ed,c,hk,q⟩:=h
 cases r with
 |cons r1 r2=>
  cases r2 with
  |cons r2 r3=>
   cases r3
   cases r1
   cases hcv _ r2
   have fin:∀oe od,PySem.W.InstAt s.heap a oe C od->wpAny (model X.prog X.w) X.A (call (.builtin "isinstance") [.ref a,cl]) (EP X pins σ Q) X.xe s:=λoe od IA=>
    PySem.W.kia_one (Q7 c) I.gG IA hk (λz=>nomatch z) λtk=>⟨.bl b,H,I.tok tk,rfl,q⟩
   cases dx with
   |none=>
    obtain⟨oe,IA⟩:=agI I.hok ea
    exact fin oe none IA
   |some d=>
    obtain⟨fs,hf⟩:=ed d rfl
    obtain⟨oe,od,mA,IA,_,_⟩:=Ig I.hok ea hf
    exact fin oe (some od) IA
end
end EX
namespace bW
open PySem PySem.Spec PyProof.Rows L2 VM
set_option maxHeartbeats 4000000
noncomputable def top (i:Nat):Stmt:=PySem.Challenge.pw_leavehall_k62_deeds_refused.main.body.getD i (.Pass ⟨0,0,0,0⟩)
noncomputable abbrev bf (j:Nat):Stmt:=inClass (top 16) j
noncomputable abbrev Q4:=Int×Int×Int×Int
noncomputable def iV (x:Str×Int):Key×V:=(.inr x.1,.int x.2)
noncomputable def uq (H:Hp)(kv:Key×V)(x:Str×Q4):Prop:=kv.1=.inr x.1/\∃t,kv.2=.ref t/\H t=some (.tup [.int x.2.1,.int x.2.2.1,.int x.2.2.2.1,.int x.2.2.2.2])
structure cU (H:Hp)(C p dx nn ll:Addr)(nums:List (Str×Int))(ls:List (Str×Q4)):Prop where
 ins:H p=some (.ins C dx [("numbers",.ref nn),("laid",.ref ll)])
 num:H nn=some (.dK (nums.map iV))
 laid:∃kvs,H ll=some (.dK kvs)/\Paired (uq H) kvs ls
 ne:nn≠ll
theorem uq.same {H H':Hp}(k:∀t xs,H t=some (.tup xs)->H' t=some (.tup xs)){kv:Key×V}{x:Str×Q4}(h:uq H kv x):uq H' kv x:=let⟨a,t,b,c⟩:=h;⟨a,t,b,k t _ c⟩
theorem cU.grow {H H':Hp}{C p dx nn ll:Addr}{nums:List (Str×Int)}{ls:List (Str×Q4)}(h:cU H C p dx nn ll nums ls)(k:Same H H'):cU H' C p dx nn ll nums ls:=by
 obtain⟨a,b,⟨kvs,c,d⟩,n⟩:=h
 exact⟨k _ _ a,k _ _ b,⟨kvs,k _ _ c,d.mono λ_ _ z=>z.same λt xs e=>k _ _ e⟩,n⟩
noncomputable def cF {α:Type}(nm:Str):List (Str×α)->Option α
 |[]=>none
 |x::r=>if x.1=nm then some x.2 else cF nm r
noncomputable def iD {α:Type}(nm:Str)(v:α)(l:List (Str×α)):List (Str×α):=if(l.any λx=>decide (x.1=nm))=true then l.map (λx=>if x.1=nm then(x.1,v) else x) else l++[(nm,v)]
noncomputable def yD {α:Type}(nm:Str)(l:List (Str×α)):List (Str×α):=l.filter λx=>!decide (x.1=nm)
theorem yE {a b:Str}:((Sum.inr a:Key)=Sum.inr b)↔a=b:=⟨λh=>Sum.inr.inj h,λh=>by rw[h]⟩
theorem vK (nm:Str):∀nums:List (Str×Int),iU (nums.map iV) (.inr nm)=(cF nm nums).map V.int
 |[]=>rfl
 |x::r=>by
  rw[List.map_cons,cF]
  by_cases e:x.1=nm
  .rw[if_pos e,pH (by show Sum.inr x.1=_;rw[e])];rfl
  .rw[if_neg e,pI (by intro z;exact e (Sum.inr.inj z)),vK nm r]
theorem sE {H:Hp}(nm:Str):∀{kvs:List (Key×V)}{ls:List (Str×Q4)},Paired (uq H) kvs ls->match cF nm ls with
  |none=>iU kvs (.inr nm)=none
  |some q=>∃t,iU kvs (.inr nm)=some (.ref t)/\H t=some (.tup [.int q.1,.int q.2.1,.int q.2.2.1,.int q.2.2.2])
 |_,_,.nil=>rfl
 |_,_,.cons (a:=kv) (b:=x) h r=>by
  obtain⟨h1,t,h2,h3⟩:=h
  rw[cF]
  by_cases e:x.1=nm
  .rw[if_pos e]
   exact⟨t,by rw[pH (by rw[h1,e]),h2],h3⟩
  .rw[if_neg e]
   have ih:=sE nm r
   rw[pI (by intro z;rw[h1] at z;exact e (Sum.inr.inj z))]
   exact ih
theorem aaX {H:Hp}(nm:Str){kvs:List (Key×V)}{ls:List (Str×Q4)}(h:Paired (uq H) kvs ls):(kvs.any λkv=>decide (kv.1=.inr nm))=ls.any λx=>decide (x.1=nm):=by
 induction h with
 |nil=>rfl
 |cons h _ ih=>
  rw[List.any_cons,List.any_cons,ih,h.1]
  congr 1
  exact decide_eq_decide.mpr yE
theorem Nq {H:Hp}{nm:Str}{t:Addr}{q:Q4}(ht:H t=some (.tup [.int q.1,.int q.2.1,.int q.2.2.1,.int q.2.2.2])){kvs:List (Key×V)}{ls:List (Str×Q4)}(h:Paired (uq H) kvs ls):
  Paired (uq H) (putK kvs (.inr nm) (.ref t)) (iD nm q ls):=by
 unfold putK iD
 rw[aaX nm h]
 split
 .rename_i c
  clear c
  induction h with
  |nil=>exact .nil
  | @cons a b _ _ h _ ih=>
   rw[List.map_cons,List.map_cons]
   refine .cons ?_ ih
   by_cases e:b.1=nm
   .rw[if_pos (by rw[h.1,e]),if_pos e];exact⟨h.1,t,rfl,ht⟩
   .rw[if_neg (by intro z;rw[h.1] at z;exact e (Sum.inr.inj z)),if_neg e];exact h
 .rename_i c
  clear c
  induction h with
  |nil=>exact .cons ⟨rfl,t,rfl,ht⟩ .nil
  |cons h _ ih=>exact .cons h ih
theorem X4 {H:Hp}{nm:Str}{kvs:List (Key×V)}{ls:List (Str×Q4)}(h:Paired (uq H) kvs ls):Paired (uq H) (qy kvs (.inr nm)) (yD nm ls):=by
 unfold qy yD
 induction h with
 |nil=>exact .nil
 | @cons a b _ _ h _ ih=>
  rw[List.filter_cons,List.filter_cons]
  by_cases e:b.1=nm
  .rw[if_neg (by rw[h.1,e];simp),if_neg (by simp[e])];exact ih
  .have ne:a.1≠Sum.inr nm:=λz=>by rw[h.1] at z;exact e (Sum.inr.inj z)
   rw[if_pos (decide_eq_true ne),if_pos (by simp[e])];exact .cons h ih
theorem X5 (nm:Str)(v:Int)(nums:List (Str×Int)):putK (nums.map iV) (.inr nm) (.int v)=(iD nm v nums).map iV:=by
 unfold putK iD
 have ea:((nums.map iV).any λkv=>decide (kv.1=.inr nm))=nums.any λx=>decide (x.1=nm):=by
  rw[List.any_map]
  congr 1
  funext x
  exact decide_eq_decide.mpr yE
 rw[ea]
 split
 .rw[List.map_map,List.map_map]
  refine List.map_congr_left λx _=>?_
  by_cases e:x.1=nm
  .show(if(iV x).1=Sum.inr nm then((iV x).1,V.int v) else iV x)=iV (if x.1=nm then(x.1,v) else x)
   rw[if_pos (show(iV x).1=Sum.inr nm from yE.mpr e),if_pos e];rfl
  .show(if(iV x).1=Sum.inr nm then((iV x).1,V.int v) else iV x)=iV (if x.1=nm then(x.1,v) else x)
   rw[if_neg (show ¬(iV x).1=Sum.inr nm from λz=>e (yE.mp z)),if_neg e]
 .rw[List.map_append];rfl
noncomputable def dw (nn ll:Addr)(H H':Hp):Prop:=∀b o,b≠nn->b≠ll->H b=some o->H' b=some o
theorem dw.same {nn ll:Addr}{H H':Hp}(h:Same H H'):dw nn ll H H':=λb o _ _ e=>h b o e
theorem dw.trans {nn ll:Addr}{H H' xZ:Hp}(a:dw nn ll H H')(b:dw nn ll H' xZ):dw nn ll H xZ:=λc o h1 h2 e=>b c o h1 h2 (a c o h1 h2 e)
section
variable {H:Hp}{C p dx nn ll:Addr}{nums:List (Str×Int)}{ls ls':List (Str×Q4)}{kvs kvs':List (Key×V)}
theorem Fp {a:Addr}{o:HO}{ks:List (Key×V)}(h:H a=some (.dK ks)):∀t xs,H t=some (.tup xs)->upd H a o t=some (.tup xs):=λt xs e=>by
 rw[aq λz=>by subst z;rw[h] at e;cases e];exact e
theorem cU.put (h:cU H C p dx nn ll nums ls)(hk:H ll=some (.dK kvs))(hl:Paired (uq H) kvs' ls'):cU (upd H ll (.dK kvs')) C p dx nn ll nums ls':=by
 refine⟨?_,?_,⟨kvs',ao,hl.mono λ_ _ z=>z.same (Fp hk)⟩,h.ne⟩
 .rw[aq λz=>by have:=h.ins;rw[z,hk] at this;cases this];exact h.ins
 .rw[aq h.ne];exact h.num
theorem dw.put (hk:H ll=some (.dK kvs)):dw nn ll H (upd H ll (.dK kvs')):=λb o _ h2 e=>by rw[aq h2];exact e
theorem cU.ajL {vL:List (Str×Int)}(h:cU H C p dx nn ll nums ls):cU (upd H nn (.dK (vL.map iV))) C p dx nn ll vL ls:=by
 obtain⟨kvs,hk,hl⟩:=h.laid
 refine⟨?_,ao,⟨kvs,?_,hl.mono λ_ _ z=>z.same (Fp h.num)⟩,h.ne⟩
 .rw[aq λz=>by have:=h.ins;rw[z,h.num] at this;cases this];exact h.ins
 .rw[aq h.ne.symm];exact hk
theorem dw.num {ks:List (Key×V)}:dw nn ll H (upd H nn (.dK ks)):=λb o h1 _ e=>by rw[aq h1];exact e
end
end bW
namespace bW
open PySem L2 VM
seal L2.PE L2.PT L2.PW L2.PA L2.PS L2.gW L2.PG L2.xP L2.PI L2.pA L2.PO L2.cL L2.Ad L2.gw L2.o7 L2.Hl L2.wM L2.Uv VM.iR VM.CallD
set_option maxHeartbeats 4000000
noncomputable def mF:VS:=
 (aV (lN (vB (v2 DR (vN 1) (fQ iu (aC (vN 0) a0))))
 (fX (v2 aP (vN 0) (vN 1)))
 jr)
 (fX (vC (.int 0))))
noncomputable def cH:jF:=oh 2 2 mF
theorem qF:bF ["_law_script","_law_k"] ["_law_script","_law_k"] (aj (top 19)):=⟨rfl,rfl,rfl,by decide +kernel,rfl,by decide +kernel,by decide +kernel⟩
theorem yF {P:Program}{w:World}{K:PySem.W.Frag}{mg:Str->Option Value}{base:Heap}{f:Addr}{fd:FuncData}(F:dB K "_law_cell_at" "_law_cell_at" (top 19) f fd)(B:Bl mg)(KT:kW K) :aW P w K mg base dG 1 f fd ["_law_script","_law_k"] (d9 K cH):=by
  have nd:=qF.nd
  have vt:=(show(["_law_script","_law_k"]:List Str).all (λx=>dW (aj (top 19)) x && plain x)=true by decide +kernel)
  refine wH (k:=0) (n:=2) (nN:=2) (g:=mF) F qF rfl rfl λcdv A outer s H E hr=> ?_
  exact(cG (wG (j4 oLt hLt (mw (dN (pV vt 1))) (sw (pF (bZ jZ (gl (sc:=(aj (top 19))) (by decide +kernel)) B.len PySem.boot_len (lK (mw (dN (pV vt 0))) lW)) hLen)))
 (iy (j5 (dO (dN (pV vt 0)) (mw (dN (pV vt 1))))))
 qT)
 (iy (j5 aA)))
noncomputable def pN:VS:=
 (aV (lN (vB (v2 lJ (v2 cC (vN 0) (vC (.int 2))) (vC (.int 0))))
 (aV (cD (v2 fD (fQ JC (aC (vN 0) a0)) (vC (.int 2))) (gN 2))
 (aV (Ei (yc (aC (vN 1) a0)) (gN 3)
 (cD (v2 fD (vN 2) (v2 qQ (vC (.int 10)) (vC (.int 12)))) (gN 2)))
 (vD 2)))
 jr)
 (aV (cD (v2 cC (v2 gQ (vN 0) (v2 zx (vC (.int 7919)) (vN 1))) (vC (.int 2147483629))) (gN 2))
 (aV (cD (v2 cC (v2 gQ (v2 gQ (v2 zx (vN 2) (vN 2)) (v2 zx (vC (.int 16807)) (vN 2))) (vN 1)) (vC (.int 2147483629))) (gN 2))
 (fX (v2 cC (v2 zx (vN 2) (vN 2)) (vC (.int 2147483587)))))))
noncomputable def bJ:jF:=oh 2 4 pN
theorem ur:bF ["_law_cell","_law_k","_law_number","_law_time"] ["_law_cell","_law_k"] (aj (top 20)):=⟨rfl,rfl,rfl,by decide +kernel,rfl,by decide +kernel,by decide +kernel⟩
theorem BJ {P:Program}{w:World}{K:PySem.W.Frag}{mg:Str->Option Value}{base:Heap}{f:Addr}{fd:FuncData}(F:dB K "_law_mixed" "_law_mixed" (top 20) f fd)(B:Bl mg)(KT:kW K) :aW P w K mg base dG 1 f fd ["_law_cell","_law_k"] (d9 K bJ):=by
  have nd:=ur.nd
  have vt:=(show(["_law_cell","_law_k","_law_number","_law_time"]:List Str).all (λx=>dW (aj (top 20)) x && plain x)=true by decide +kernel)
  refine wH (k:=0) (n:=2) (nN:=4) (g:=pN) F ur rfl rfl λcdv A outer s H E hr=> ?_
  exact(cG (wG (j4 (kh hr.units) hEq (sw (bK oMod hMod (mw (dN (pV vt 0))) (sw aA))) (sw aA))
 (cG (fY (bI (bK oDiv hDiv (sw (pF (bZ cAbs (gl (sc:=(aj (top 20))) (by decide +kernel)) B.abs PyProof.Rows.boot_abs (lK (mw (dN (pV vt 0))) lW)) ajj)) (sw aA)) (dZ (aO (i:=2) nd rfl (lo (sc:=(aj (top 20))) (by decide +kernel))))))
 (cG (ZV (jD PassesOwn.never rfl (Qv (uG (gl (sc:=(aj (top 20))) (by decide +kernel)) B.range (lK (mw (dN (pV vt 1))) lW))) (dZ (aO (i:=3) nd rfl (lo (sc:=(aj (top 20))) (by decide +kernel))))
 (iy (fY (bI (bK oDiv hDiv (mw (dN (pV vt 2))) (sw (bK DN hPow (sw aA) (sw aA)))) (dZ (aO (i:=2) nd rfl (lo (sc:=(aj (top 20))) (by decide +kernel)))))))))
 (iy (Vh (pV vt 2)))))
 qT)
 (cG (fY (bI (bK oMod hMod (sw (bK jd hAdd (mw (dN (pV vt 0))) (sw (bK Jv hMul (sw aA) (mw (dN (pV vt 1))))))) (sw aA)) (dZ (aO (i:=2) nd rfl (lo (sc:=(aj (top 20))) (by decide +kernel))))))
 (cG (fY (bI (bK oMod hMod (sw (bK jd hAdd (sw (bK jd hAdd (sw (bK Jv hMul (mw (dN (pV vt 2))) (mw (dN (pV vt 2))))) (sw (bK Jv hMul (sw aA) (mw (dN (pV vt 2))))))) (mw (dN (pV vt 1))))) (sw aA)) (dZ (aO (i:=2) nd rfl (lo (sc:=(aj (top 20))) (by decide +kernel))))))
 (iy (j5 (bK oMod hMod (sw (bK Jv hMul (mw (dN (pV vt 2))) (mw (dN (pV vt 2))))) (sw aA)))))))
noncomputable def pO:VS:=
 (aV (cD (vC (.str "abcdefghijklmnopqrstuvwxyz")) (gN 3))
 (aV (cD (cj bJ (aC (vF 0) (aC (vF 2) a0))) (gN 4))
 (aV (cD (j6 (vN 3) (oI (v2 cC (vN 4) (vC (.int 26)))) (oI (v2 gQ (v2 cC (vN 4) (vC (.int 26))) (v2 cC (v2 fD (vN 4) (vC (.int 26))) (vC (.int 12)))))) (gN 5))
 (aV (cD (j6 (vN 5) oN (oI (vC (.int 11)))) (gN 5))
 (aV (cD (v2 cC (v2 fD (vN 4) (vC (.int 312))) (v2 gQ (fQ mY (aC (vN 5) a0)) (vC (.int 1)))) (gN 6))
 (Cp (nF (yc (aC (vN 1) a0)) [none,some 5,some 3,some 6] (gN 0) jU (v2 jV (v2 jV (j6 (vN 1) oN (oI (vN 3))) (v2 Ew (vN 2) (vN 0))) (j6 (vN 1) (oI (vN 3)) oN)))))))))
noncomputable def gj:jF:=oh 3 7 pO
theorem uw:bF ["_law_cell","_law_many","_law_k","_law_letters","_law_number","_law_base","_law_at"] ["_law_cell","_law_many","_law_k"] (aj (top 21)):=⟨rfl,rfl,rfl,by decide +kernel,rfl,by decide +kernel,by decide +kernel⟩
theorem BK {P:Program}{w:World}{K:PySem.W.Frag}{mg:Str->Option Value}{base:Heap}{f:Addr}{fd:FuncData}(F:dB K "_law_words" "_law_words" (top 21) f fd)(B:Bl mg)(KT:kW K)(bU:dM P w K mg base 1 "_law_mixed" ["_law_cell","_law_k"] (d9 K bJ)):aW P w K mg base dG 2 f fd ["_law_cell","_law_many","_law_k"] (d9 K gj):=by
  have nd:=uw.nd
  have vt:=(show(["_law_cell","_law_many","_law_k","_law_letters","_law_number","_law_base","_law_at"]:List Str).all (λx=>dW (aj (top 21)) x && plain x)=true by decide +kernel)
  refine wH (k:=1) (n:=3) (nN:=7) (g:=pO) F uw rfl rfl λcdv A outer s H E hr=> ?_
  exact(cG (fY (bI (eV (by decide +kernel)) (dZ (aO (i:=3) nd rfl (lo (sc:=(aj (top 21))) (by decide +kernel))))))
 (cG (fY (bI (gK (aZ bU (hr.mono (by decide)) (gl (sc:=(aj (top 21))) (by decide +kernel)) (aG (dF (pV vt 0)) (aG (dF (pV vt 2)) bO)))) (dZ (aO (i:=4) nd rfl (lo (sc:=(aj (top 21))) (by decide +kernel))))))
 (cG (fY (bI (wX (mw (dN (pV vt 3))) (xX (sw (bK oMod hMod (mw (dN (pV vt 4))) (sw aA)))) (xX (sw (bK jd hAdd (sw (bK oMod hMod (mw (dN (pV vt 4))) (sw aA))) (sw (bK oMod hMod (sw (bK oDiv hDiv (mw (dN (pV vt 4))) (sw aA))) (sw aA))))))) (dZ (aO (i:=5) nd rfl (lo (sc:=(aj (top 21))) (by decide +kernel))))))
 (cG (fY (bI (wX (mw (dN (pV vt 5))) DW (xX (sw aA))) (dZ (aO (i:=5) nd rfl (lo (sc:=(aj (top 21))) (by decide +kernel))))))
 (cG (fY (bI (bK oMod hMod (sw (bK oDiv hDiv (mw (dN (pV vt 4))) (sw aA))) (sw (bK jd hAdd (sw (pF (bZ uK (gl (sc:=(aj (top 21))) (by decide +kernel)) B.len PySem.boot_len (lK (mw (dN (pV vt 5))) lW)) Vm)) (sw aA)))) (dZ (aO (i:=6) nd rfl (lo (sc:=(aj (top 21))) (by decide +kernel))))))
 (iy (af8 (HD (vq (te:=tV K RS _) (tc:=gR K _) (g:=rQ K _ _) (N':=["_law_j","_law_base","_law_letters","_law_at"]) (cap:=[none,some 5,some 3,some 6]) ["_law_cell","_law_many","_law_k","_law_letters","_law_number","_law_base","_law_at"] (aj (top 21)) rfl (by decide +kernel) rfl rfl (Qv (uG (gl (sc:=(aj (top 21))) (by decide +kernel)) B.range (lK (mw (dN (pV vt 1))) lW))) (λ_ _ _ _ _=>(dZ (Aw (i:=0) (show(["_law_j","_law_base","_law_letters","_law_at"]:List Str).Nodup by decide +kernel) (by decide +kernel)))) (λ_ _ _ _ _=>HB) (λ_ _ _ _ _=>(bK iZ tR (sw (bK iZ tR (sw (wX (mw (dN (lH (by decide +kernel) 1))) DW (xX (mw (dN (lH (by decide +kernel) 3)))))) (sw (ajE (mw (dN (lH (by decide +kernel) 2))) (mw (dN (lH (by decide +kernel) 0))))))) (sw (wX (mw (dN (lH (by decide +kernel) 1))) (xX (mw (dN (lH (by decide +kernel) 3)))) DW)))))))))))))
noncomputable def nU:VS:=
 (aV (cD (cj bJ (aC (vF 0) (aC (vC (.int 2)) a0))) (gN 1))
 (aV (lN (vB (v2 lJ (v2 cC (vN 1) (vC (.int 6))) (vC (.int 0))))
 (fX (v2 gQ (vC (.int 1)) (v2 cC (vN 0) (v2 qQ (vC (.int 10)) (vC (.int 58))))))
 jr)
 (fX (v2 gQ (vC (.int 1)) (v2 cC (v2 fD (vN 1) (vC (.int 6))) (vC (.int 5)))))))
noncomputable def gB:jF:=oh 1 2 nU
theorem sG:bF ["_law_cell","_law_number"] ["_law_cell"] (aj (top 22)):=⟨rfl,rfl,rfl,by decide +kernel,rfl,by decide +kernel,by decide +kernel⟩
theorem zJ {P:Program}{w:World}{K:PySem.W.Frag}{mg:Str->Option Value}{base:Heap}{f:Addr}{fd:FuncData}(F:dB K "_law_length" "_law_length" (top 22) f fd)(B:Bl mg)(KT:kW K)(bU:dM P w K mg base 1 "_law_mixed" ["_law_cell","_law_k"] (d9 K bJ)):aW P w K mg base dG 2 f fd ["_law_cell"] (d9 K gB):=by
  have nd:=sG.nd
  have vt:=(show(["_law_cell","_law_number"]:List Str).all (λx=>dW (aj (top 22)) x && plain x)=true by decide +kernel)
  refine wH (k:=1) (n:=1) (nN:=2) (g:=nU) F sG rfl rfl λcdv A outer s H E hr=> ?_
  exact(cG (fY (bI (gK (aZ bU (hr.mono (by decide)) (gl (sc:=(aj (top 22))) (by decide +kernel)) (aG (dF (pV vt 0)) (aG aA bO)))) (dZ (aO (i:=1) nd rfl (lo (sc:=(aj (top 22))) (by decide +kernel))))))
 (cG (wG (j4 (kh hr.units) hEq (sw (bK oMod hMod (mw (dN (pV vt 1))) (sw aA))) (sw aA))
 (iy (j5 (bK jd hAdd (sw aA) (sw (bK oMod hMod (mw (dN (pV vt 0))) (sw (bK DN hPow (sw aA) (sw aA))))))))
 qT)
 (iy (j5 (bK jd hAdd (sw aA) (sw (bK oMod hMod (sw (bK oDiv hDiv (mw (dN (pV vt 1))) (sw aA))) (sw aA))))))))
noncomputable def pP:VS:=
 (aV (cD (cj bJ (aC (vF 0) (aC (vC (.int 1)) a0))) (gN 1))
 (aV (lN (vB (v2 lJ (v2 cC (vN 1) (vC (.int 4))) (vC (.int 0))))
 (fX (v2 gQ (vC (.int 1)) (v2 cC (vN 0) (v2 qQ (vC (.int 10)) (vC (.int 58))))))
 jr)
 (fX (v2 gQ (vC (.int 1)) (v2 cC (v2 fD (vN 1) (vC (.int 4))) (vC (.int 6)))))))
noncomputable def fj:jF:=oh 1 2 pP
theorem ux:bF ["_law_cell","_law_number"] ["_law_cell"] (aj (top 23)):=⟨rfl,rfl,rfl,by decide +kernel,rfl,by decide +kernel,by decide +kernel⟩
theorem BL {P:Program}{w:World}{K:PySem.W.Frag}{mg:Str->Option Value}{base:Heap}{f:Addr}{fd:FuncData}(F:dB K "_law_width" "_law_width" (top 23) f fd)(B:Bl mg)(KT:kW K)(bU:dM P w K mg base 1 "_law_mixed" ["_law_cell","_law_k"] (d9 K bJ)):aW P w K mg base dG 2 f fd ["_law_cell"] (d9 K fj):=by
  have nd:=ux.nd
  have vt:=(show(["_law_cell","_law_number"]:List Str).all (λx=>dW (aj (top 23)) x && plain x)=true by decide +kernel)
  refine wH (k:=1) (n:=1) (nN:=2) (g:=pP) F ux rfl rfl λcdv A outer s H E hr=> ?_
  exact(cG (fY (bI (gK (aZ bU (hr.mono (by decide)) (gl (sc:=(aj (top 23))) (by decide +kernel)) (aG (dF (pV vt 0)) (aG aA bO)))) (dZ (aO (i:=1) nd rfl (lo (sc:=(aj (top 23))) (by decide +kernel))))))
 (cG (wG (j4 (kh hr.units) hEq (sw (bK oMod hMod (mw (dN (pV vt 1))) (sw aA))) (sw aA))
 (iy (j5 (bK jd hAdd (sw aA) (sw (bK oMod hMod (mw (dN (pV vt 0))) (sw (bK DN hPow (sw aA) (sw aA))))))))
 qT)
 (iy (j5 (bK jd hAdd (sw aA) (sw (bK oMod hMod (sw (bK oDiv hDiv (mw (dN (pV vt 1))) (sw aA))) (sw aA))))))))
noncomputable def pQ:VS:=
 (aV (JH 2 (nF (nD (vF 1)) [none] (gN 0) jU (v2 aP (vN 0) (vC (.int 0)))))
 (aV (Ei (nD (vF 0)) (gN 3)
 (lN (vB (v2 (zG true) (vN 3) (vN 2)))
 (vD 3)
 jr))
 (fX (vC .none))))
noncomputable def gU:jF:=oh 2 4 pQ
theorem uy:bF ["_law_words_here","_law_held","_law_names","_law_word"] ["_law_words_here","_law_held"] (aj (top 24)):=⟨rfl,rfl,rfl,by decide +kernel,rfl,by decide +kernel,by decide +kernel⟩
theorem BP {P:Program}{w:World}{K:PySem.W.Frag}{mg:Str->Option Value}{base:Heap}{f:Addr}{fd:FuncData}(F:dB K "_law_fresh" "_law_fresh" (top 24) f fd)(B:Bl mg)(KT:kW K) :aW P w K mg base dG 1 f fd ["_law_words_here","_law_held"] (d9 K gU):=by
  have nd:=uy.nd
  have vt:=(show(["_law_words_here","_law_held","_law_names","_law_word"]:List Str).all (λx=>dW (aj (top 24)) x && plain x)=true by decide +kernel)
  refine wH (k:=0) (n:=2) (nN:=4) (g:=pQ) F uy rfl rfl λcdv A outer s H E hr=> ?_
  exact(cG (ajr (Qx (DG (i:=2) nd rfl (lo (sc:=(aj (top 24))) (by decide +kernel)) (te:=tV K RS _) (tc:=gR K _) (g:=rQ K _ _) (N':=["_law_row"]) (cap:=[none]) ["_law_words_here","_law_held","_law_names","_law_word"] (aj (top 24)) rfl (by decide +kernel) rfl rfl (Ve (dF (pV vt 1))) (λ_ _ _ _ _=>(dZ (Aw (i:=0) (show(["_law_row"]:List Str).Nodup by decide +kernel) (by decide +kernel)))) (λ_ _ _ _ _=>HB) (λ_ _ _ _ _=>(dO (dN (lH (by decide +kernel) 0)) (sw aA)))) λ_ _ _ q=>ZS rfl q))
 (cG (ZV (jD PassesOwn.never rfl (Ve (dF (pV vt 0))) (dZ (aO (i:=3) nd rfl (lo (sc:=(aj (top 24))) (by decide +kernel))))
 (iy (wG (j4 o8 aaI (mw (dN (pV vt 3))) (mw (dN (pV vt 2))))
 (iy (Vh (pV vt 3)))
 qT))))
 (iy (j5 afZ))))
noncomputable def qZ:VS:=
 (aV (cD (cj bJ (aC (vF 0) (aC (vC (.int 0)) a0))) (gN 4))
 (aV (cD (v2 cC (vN 4) (vC (.int 9))) (gN 5))
 (aV (lN (tL (vB (v2 lJ (vN 1) (cX a0))) (jQ (vB (v2 DR (vN 5) (vC (.int 5)))) (vB (v2 DR (fQ iu (aC (vN 1) a0)) (fQ iu (aC (vN 3) a0))))))
 (aV (cD (v2 cC (v2 fD (vN 4) (vC (.int 9))) (fQ iu (aC (vN 2) a0))) (gN 6))
 (aV (cD (v2 cC (v2 gQ (v2 gQ (vN 6) (vC (.int 1))) (v2 cC (v2 fD (vN 4) (vC (.int 90))) (v2 qP (fQ iu (aC (vN 2) a0)) (vC (.int 1))))) (fQ iu (aC (vN 2) a0))) (gN 7))
 (fX (aY (aC (vC (.str "lay")) (aC (cj gU (aC (vF 3) (aC (vF 1) a0))) (aC (v2 aP (vN 2) (vN 6)) (aC (v2 aP (vN 2) (vN 7)) (aC (cj fj (aC (vF 0) a0)) (aC (cj gB (aC (vF 0) a0)) a0))))))))))
 jr)
 (aV (cD (v2 aP (vN 1) (v2 cC (v2 fD (vN 4) (vC (.int 9))) (fQ iu (aC (vN 1) a0)))) (gN 8))
 (aV (lN (vB (v2 lJ (vN 5) (vC (.int 5))))
 (fX (aY (aC (vC (.str "shut")) (aC (v2 aP (vN 8) (vC (.int 0))) a0))))
 jr)
 (aV (lN (jQ (vB (v2 lJ (vN 5) (vC (.int 6)))) (vB (v2 Va (v2 aP (vN 8) (vC (.int 3))) (vC (.int 1)))))
 (fX (aY (aC (vC (.str "narrow")) (aC (v2 aP (vN 8) (vC (.int 0))) (aC (v2 gQ (vC (.int 1)) (v2 cC (v2 fD (vN 4) (vC (.int 90))) (fQ xY (aC (v2 qP (v2 aP (vN 8) (vC (.int 3))) (vC (.int 1))) (aC (vC (.int 3)) a0))))) a0)))))
 jr)
 (fX (aY (aC (vC (.str "widen")) (aC (v2 aP (vN 8) (vC (.int 0))) (aC (cj fj (aC (vF 0) a0)) a0)))))))))))
noncomputable def iG:jF:=oh 4 9 qZ
theorem uY:bF ["_law_cell","_law_held","_law_rooms","_law_names","_law_number","_law_way","_law_a","_law_b","_law_row"] ["_law_cell","_law_held","_law_rooms","_law_names"] (aj (top 25)):=⟨rfl,rfl,rfl,by decide +kernel,rfl,by decide +kernel,by decide +kernel⟩
theorem Fq {P:Program}{w:World}{K:PySem.W.Frag}{mg:Str->Option Value}{base:Heap}{f:Addr}{fd:FuncData}(F:dB K "_law_deed" "_law_deed" (top 25) f fd)(B:Bl mg)(KT:kW K)(bU:dM P w K mg base 1 "_law_mixed" ["_law_cell","_law_k"] (d9 K bJ))(mZ:dM P w K mg base 2 "_law_width" ["_law_cell"] (d9 K fj))(rA:dM P w K mg base 1 "_law_fresh" ["_law_words_here","_law_held"] (d9 K gU))(pR:dM P w K mg base 2 "_law_length" ["_law_cell"] (d9 K gB)):aW P w K mg base dG 3 f fd ["_law_cell","_law_held","_law_rooms","_law_names"] (d9 K iG):=by
  have nd:=uY.nd
  have vt:=(show(["_law_cell","_law_held","_law_rooms","_law_names","_law_number","_law_way","_law_a","_law_b","_law_row"]:List Str).all (λx=>dW (aj (top 25)) x && plain x)=true by decide +kernel)
  refine wH (k:=2) (n:=4) (nN:=9) (g:=qZ) F uY rfl rfl λcdv A outer s H E hr=> ?_
  exact(cG (fY (bI (gK (aZ bU (hr.mono (by decide)) (gl (sc:=(aj (top 25))) (by decide +kernel)) (aG (dF (pV vt 0)) (aG aA bO)))) (dZ (aO (i:=4) nd rfl (lo (sc:=(aj (top 25))) (by decide +kernel))))))
 (cG (fY (bI (bK oMod hMod (mw (dN (pV vt 4))) (sw aA)) (dZ (aO (i:=5) nd rfl (lo (sc:=(aj (top 25))) (by decide +kernel))))))
 (cG (wG (PW.pt (ZM (j4 (kh hr.units) hEq (mw (dN (pV vt 1))) (nw (jE bO))) (Qs (PW.pt (ZL (j4 oLt hLt (mw (dN (pV vt 5))) (sw aA)) (Vb (j4 oLt hLt (sw (pF (bZ jZ (gl (sc:=(aj (top 25))) (by decide +kernel)) B.len PySem.boot_len (lK (mw (dN (pV vt 1))) lW)) hLen)) (sw (pF (bZ jZ (gl (sc:=(aj (top 25))) (by decide +kernel)) B.len PySem.boot_len (lK (mw (dN (pV vt 3))) lW)) hLen)))))))))
 (cG (fY (bI (bK oMod hMod (sw (bK oDiv hDiv (mw (dN (pV vt 4))) (sw aA))) (sw (pF (bZ jZ (gl (sc:=(aj (top 25))) (by decide +kernel)) B.len PySem.boot_len (lK (mw (dN (pV vt 2))) lW)) hLen))) (dZ (aO (i:=6) nd rfl (lo (sc:=(aj (top 25))) (by decide +kernel))))))
 (cG (fY (bI (bK oMod hMod (sw (bK jd hAdd (sw (bK jd hAdd (mw (dN (pV vt 6))) (sw aA))) (sw (bK oMod hMod (sw (bK oDiv hDiv (mw (dN (pV vt 4))) (sw aA))) (sw (bK qO hSub (sw (pF (bZ jZ (gl (sc:=(aj (top 25))) (by decide +kernel)) B.len PySem.boot_len (lK (mw (dN (pV vt 2))) lW)) hLen)) (sw aA))))))) (sw (pF (bZ jZ (gl (sc:=(aj (top 25))) (by decide +kernel)) B.len PySem.boot_len (lK (mw (dN (pV vt 2))) lW)) hLen))) (dZ (aO (i:=7) nd rfl (lo (sc:=(aj (top 25))) (by decide +kernel))))))
 (iy (j5 (dTup (aG (eV (by decide +kernel)) (aG (gK (aZ rA (hr.mono (by decide)) (gl (sc:=(aj (top 25))) (by decide +kernel)) (aG (dF (pV vt 3)) (aG (dF (pV vt 1)) bO)))) (aG (dO (dN (pV vt 2)) (mw (dN (pV vt 6)))) (aG (dO (dN (pV vt 2)) (mw (dN (pV vt 7)))) (aG (gK (aZ mZ (hr.mono (by decide)) (gl (sc:=(aj (top 25))) (by decide +kernel)) (aG (dF (pV vt 0)) bO))) (aG (gK (aZ pR (hr.mono (by decide)) (gl (sc:=(aj (top 25))) (by decide +kernel)) (aG (dF (pV vt 0)) bO))) bO)))))))))))
 qT)
 (cG (fY (bI (dO (dN (pV vt 1)) (sw (bK oMod hMod (sw (bK oDiv hDiv (mw (dN (pV vt 4))) (sw aA))) (sw (pF (bZ jZ (gl (sc:=(aj (top 25))) (by decide +kernel)) B.len PySem.boot_len (lK (mw (dN (pV vt 1))) lW)) hLen))))) (dZ (aO (i:=8) nd rfl (lo (sc:=(aj (top 25))) (by decide +kernel))))))
 (cG (wG (j4 (kh hr.units) hEq (mw (dN (pV vt 5))) (sw aA))
 (iy (j5 (dTup (aG (eV (by decide +kernel)) (aG (dO (dN (pV vt 8)) (sw aA)) bO)))))
 qT)
 (cG (wG (PW.pt (ZL (j4 (kh hr.units) hEq (mw (dN (pV vt 5))) (sw aA)) (Vb (j4 Zy hGt (sw (dO (dN (pV vt 8)) (sw aA))) (sw aA)))))
 (iy (j5 (dTup (aG (eV (by decide +kernel)) (aG (dO (dN (pV vt 8)) (sw aA)) (aG (bK jd hAdd (sw aA) (sw (bK oMod hMod (sw (bK oDiv hDiv (mw (dN (pV vt 4))) (sw aA))) (sw (pF (bZ (Ln rfl) (gl (sc:=(aj (top 25))) (by decide +kernel)) B.min PyProof.Rows.boot_min (lK (sw (bK qO hSub (sw (dO (dN (pV vt 8)) (sw aA))) (sw aA))) (lK (sw aA) lW))) af3))))) bO))))))
 qT)
 (iy (j5 (dTup (aG (eV (by decide +kernel)) (aG (dO (dN (pV vt 8)) (sw aA)) (aG (gK (aZ mZ (hr.mono (by decide)) (gl (sc:=(aj (top 25))) (by decide +kernel)) (aG (dF (pV vt 0)) bO))) bO))))))))))))
noncomputable def mG:VS:=
 (fX (v2 aP (cX (aC (vC (.str "")) (aC (vC (.str "abcdefghijklm")) (aC (vC (.str "Ann")) (aC (vC (.str "a1")) (aC (vC (.str "a b")) (aC (vC (.str "a-b")) (aC (vC (.str "_")) a0)))))))) (v2 cC (vN 0) (vC (.int 7)))))
noncomputable def cu:jF:=oh 1 1 mG
theorem qG:bF ["_law_number"] ["_law_number"] (aj (top 31)):=⟨rfl,rfl,rfl,by decide +kernel,rfl,by decide +kernel,by decide +kernel⟩
theorem yG {P:Program}{w:World}{K:PySem.W.Frag}{mg:Str->Option Value}{base:Heap}{f:Addr}{fd:FuncData}(F:dB K "_law_no_name" "_law_no_name" (top 31) f fd)(B:Bl mg)(KT:kW K) :aW P w K mg base dG 1 f fd ["_law_number"] (d9 K cu):=by
 have nd:=qG.nd
 have vt:=(show(["_law_number"]:List Str).all (λx=>dW (aj (top 31)) x && plain x)=true by decide +kernel)
 refine wH (k:=0) (n:=1) (nN:=1) (g:=mG) F qG rfl rfl λcdv A outer s H E hr=>?_
 exact(iy (j5 (dO (nm (jE (aG (eV (by decide +kernel)) (aG (eV (by decide +kernel)) (aG (eV (by decide +kernel)) (aG (eV (by decide +kernel)) (aG (eV (by decide +kernel)) (aG (eV (by decide +kernel)) (aG (eV (by decide +kernel)) bO))))))))) (sw (bK oMod hMod (mw (dN (pV vt 0))) (sw aA))))))
noncomputable def mH:VS:=
 (aV (cD (v2 jV (vC (.str "zz")) (j6 (v2 aP (vN 2) (vC (.int 0))) oN (oI (vC (.int 9))))) (gN 3))
 (aV (cD (cX (aC (aY (aC (vC (.int 1)) (aC (cj cu (aC (vF 0) a0)) (aC (v2 aP (vN 2) (vC (.int 0))) (aC (v2 aP (vN 2) (vC (.int 0))) (aC (vC (.int 0)) (aC (vC (.int 1)) a0))))))) a0)) (gN 4))
 (aV (cD (v2 fZ (vN 4) (cX (aC (aY (aC (vC (.int 1)) (aC (vF 3) (aC (cj cu (aC (vF 0) a0)) (aC (v2 aP (vN 2) (vC (.int 1))) (aC (vC (.int 0)) (aC (vC (.int 1)) a0))))))) a0))) (gN 4))
 (aV (cD (v2 fZ (vN 4) (cX (aC (aY (aC (vC (.int 1)) (aC (vF 3) (aC (v2 aP (vN 2) (vC (.int 0))) (aC (cj cu (aC (vF 0) a0)) (aC (vC (.int 1)) (aC (vC (.int 1)) a0))))))) (aC (aY (aC (vC (.int 0)) (aC (vF 3) (aC (v2 aP (vN 2) (vC (.int 0))) (aC (v2 aP (vN 2) (vC (.int 0))) (aC (vC (.int 1)) (aC (vC (.int 1)) a0))))))) a0)))) (gN 4))
 (aV (cD (v2 fZ (vN 4) (cX (aC (aY (aC (vC (.int 0)) (aC (vF 3) (aC (v2 aP (vN 2) (vC (.int 0))) (aC (v2 aP (vN 2) (vC (.int 1))) (aC (vC (.int 0)) (aC (vC (.int 1)) a0))))))) (aC (aY (aC (vC (.int 0)) (aC (vF 3) (aC (v2 aP (vN 2) (vC (.int 1))) (aC (v2 aP (vN 2) (vC (.int 0))) (aC (vC (.int 1)) (aC (vC (.int 0)) a0))))))) a0)))) (gN 4))
 (aV (cD (v2 fZ (vN 4) (cX (aC (aY (aC (vC (.int 0)) (aC (vF 3) (aC (v2 aP (vN 2) (vC (.int 0))) (aC (v2 aP (vN 2) (vC (.int 1))) (aC (v2 qP (vC (.int 0)) (v2 cC (vN 0) (v2 qQ (vC (.int 10)) (vC (.int 59))))) (aC (vC (.int 1)) a0))))))) (aC (aY (aC (vC (.int 0)) (aC (vF 3) (aC (v2 aP (vN 2) (vC (.int 0))) (aC (v2 aP (vN 2) (vC (.int 1))) (aC (vC (.int 5)) (aC (v1 pD (vC (.int 1))) a0))))))) a0)))) (gN 4))
 (aV (lN (vB (v2 xW (vN 1) (cX a0)))
 (aV (cD (v2 fZ (vN 4) (cX (aC (aY (aC (vC (.int 2)) (aC (v2 aP (v2 aP (vN 1) (vC (.int 0))) (vC (.int 0))) (aC (v2 aP (vN 2) (vC (.int 0))) (aC (v2 aP (vN 2) (vC (.int 0))) (aC (vC (.int 0)) (aC (vC (.int 0)) a0))))))) a0))) (gN 4))
 (aV (cD (v2 fZ (vN 4) (cX (aC (aY (aC (vC (.int 2)) (aC (v2 aP (v2 aP (vN 1) (v1 pD (vC (.int 1)))) (vC (.int 0))) (aC (v2 aP (vN 2) (vC (.int 0))) (aC (v2 aP (vN 2) (vC (.int 1))) (aC (vC (.int 1)) (aC (vC (.int 1)) a0))))))) a0))) (gN 4))
 (cD (v2 fZ (vN 4) (cX (aC (aY (aC (vC (.int 1)) (aC (v2 aP (v2 aP (vN 1) (vC (.int 0))) (vC (.int 0))) (aC (v2 aP (vN 2) (vC (.int 0))) (aC (cj cu (aC (vF 0) a0)) (aC (vC (.int 1)) (aC (vC (.int 1)) a0))))))) a0))) (gN 4))))
 jr)
 (aV (cD (v2 aP (vN 4) (v2 cC (v2 fD (vN 0) (vC (.int 7))) (fQ iu (aC (vN 4) a0)))) (gN 5))
 (fX (aY (aC (v2 aP (vN 5) (vC (.int 0))) (aC (v2 yg (aY (aC (vC (.str "lay")) a0)) (DX (vN 5) (oI (vC (.int 1))) oN)) a0))))))))))))
noncomputable def fL:jF:=oh 3 6 mH
theorem qH:bF ["_law_number","_law_held","_law_rooms","_law_name","_law_some","_law_one"] ["_law_number","_law_held","_law_rooms"] (aj (top 32)):=⟨rfl,rfl,rfl,by decide +kernel,rfl,by decide +kernel,by decide +kernel⟩
theorem yH {P:Program}{w:World}{K:PySem.W.Frag}{mg:Str->Option Value}{base:Heap}{f:Addr}{fd:FuncData}(F:dB K "_law_bad_lay" "_law_bad_lay" (top 32) f fd)(B:Bl mg)(KT:kW K)(dJ:dM P w K mg base 1 "_law_no_name" ["_law_number"] (d9 K cu)):aW P w K mg base dG 2 f fd ["_law_number","_law_held","_law_rooms"] (d9 K fL):=by
  have nd:=qH.nd
  have vt:=(show(["_law_number","_law_held","_law_rooms","_law_name","_law_some","_law_one"]:List Str).all (λx=>dW (aj (top 32)) x && plain x)=true by decide +kernel)
  refine wH (k:=1) (n:=3) (nN:=6) (g:=mH) F qH rfl rfl λcdv A outer s H E hr=> ?_
  exact(cG (fY (bI (bK iZ tR (sw (eV (by decide +kernel))) (sw (wX (sw (dO (dN (pV vt 2)) (sw aA))) DW (xX (sw aA))))) (dZ (aO (i:=3) nd rfl (lo (sc:=(aj (top 32))) (by decide +kernel))))))
 (cG (fY (bI (ns (jE (aG (dTup (aG aA (aG (gK (aZ dJ (hr.mono (by decide)) (gl (sc:=(aj (top 32))) (by decide +kernel)) (aG (dF (pV vt 0)) bO))) (aG (dO (dN (pV vt 2)) (sw aA)) (aG (dO (dN (pV vt 2)) (sw aA)) (aG aA (aG aA bO))))))) bO))) (dZ (aO (i:=4) nd rfl (lo (sc:=(aj (top 32))) (by decide +kernel))))))
 (cG (fY (bI (ns (dCat (dN (pV vt 4)) (nm (jE (aG (dTup (aG aA (aG (dF (pV vt 3)) (aG (gK (aZ dJ (hr.mono (by decide)) (gl (sc:=(aj (top 32))) (by decide +kernel)) (aG (dF (pV vt 0)) bO))) (aG (dO (dN (pV vt 2)) (sw aA)) (aG aA (aG aA bO))))))) bO))))) (dZ (aO (i:=4) nd rfl (lo (sc:=(aj (top 32))) (by decide +kernel))))))
 (cG (fY (bI (ns (dCat (dN (pV vt 4)) (nm (jE (aG (dTup (aG aA (aG (dF (pV vt 3)) (aG (dO (dN (pV vt 2)) (sw aA)) (aG (gK (aZ dJ (hr.mono (by decide)) (gl (sc:=(aj (top 32))) (by decide +kernel)) (aG (dF (pV vt 0)) bO))) (aG aA (aG aA bO))))))) (aG (dTup (aG aA (aG (dF (pV vt 3)) (aG (dO (dN (pV vt 2)) (sw aA)) (aG (dO (dN (pV vt 2)) (sw aA)) (aG aA (aG aA bO))))))) bO)))))) (dZ (aO (i:=4) nd rfl (lo (sc:=(aj (top 32))) (by decide +kernel))))))
 (cG (fY (bI (ns (dCat (dN (pV vt 4)) (nm (jE (aG (dTup (aG aA (aG (dF (pV vt 3)) (aG (dO (dN (pV vt 2)) (sw aA)) (aG (dO (dN (pV vt 2)) (sw aA)) (aG aA (aG aA bO))))))) (aG (dTup (aG aA (aG (dF (pV vt 3)) (aG (dO (dN (pV vt 2)) (sw aA)) (aG (dO (dN (pV vt 2)) (sw aA)) (aG aA (aG aA bO))))))) bO)))))) (dZ (aO (i:=4) nd rfl (lo (sc:=(aj (top 32))) (by decide +kernel))))))
 (cG (fY (bI (ns (dCat (dN (pV vt 4)) (nm (jE (aG (dTup (aG aA (aG (dF (pV vt 3)) (aG (dO (dN (pV vt 2)) (sw aA)) (aG (dO (dN (pV vt 2)) (sw aA)) (aG (bK qO hSub (sw aA) (sw (bK oMod hMod (mw (dN (pV vt 0))) (sw (bK DN hPow (sw aA) (sw aA)))))) (aG aA bO))))))) (aG (dTup (aG aA (aG (dF (pV vt 3)) (aG (dO (dN (pV vt 2)) (sw aA)) (aG (dO (dN (pV vt 2)) (sw aA)) (aG aA (aG (JB (sw aA)) bO))))))) bO)))))) (dZ (aO (i:=4) nd rfl (lo (sc:=(aj (top 32))) (by decide +kernel))))))
 (cG (wG (j4 (uL hr.units) hNe (mw (dN (pV vt 1))) (nw (jE bO)))
 (cG (fY (bI (ns (dCat (dN (pV vt 4)) (nm (jE (aG (dTup (aG aA (aG (dO (sm (dO (dN (pV vt 1)) (sw aA))) (sw aA)) (aG (dO (dN (pV vt 2)) (sw aA)) (aG (dO (dN (pV vt 2)) (sw aA)) (aG aA (aG aA bO))))))) bO))))) (dZ (aO (i:=4) nd rfl (lo (sc:=(aj (top 32))) (by decide +kernel))))))
 (cG (fY (bI (ns (dCat (dN (pV vt 4)) (nm (jE (aG (dTup (aG aA (aG (dO (sm (dO (dN (pV vt 1)) (sw (JB (sw aA))))) (sw aA)) (aG (dO (dN (pV vt 2)) (sw aA)) (aG (dO (dN (pV vt 2)) (sw aA)) (aG aA (aG aA bO))))))) bO))))) (dZ (aO (i:=4) nd rfl (lo (sc:=(aj (top 32))) (by decide +kernel))))))
 (iy (fY (bI (ns (dCat (dN (pV vt 4)) (nm (jE (aG (dTup (aG aA (aG (dO (sm (dO (dN (pV vt 1)) (sw aA))) (sw aA)) (aG (dO (dN (pV vt 2)) (sw aA)) (aG (gK (aZ dJ (hr.mono (by decide)) (gl (sc:=(aj (top 32))) (by decide +kernel)) (aG (dF (pV vt 0)) bO))) (aG aA (aG aA bO))))))) bO))))) (dZ (aO (i:=4) nd rfl (lo (sc:=(aj (top 32))) (by decide +kernel)))))))))
 qT)
 (cG (fY (bI (dO (dN (pV vt 4)) (sw (bK oMod hMod (sw (bK oDiv hDiv (mw (dN (pV vt 0))) (sw aA))) (sw (pF (bZ jZ (gl (sc:=(aj (top 32))) (by decide +kernel)) B.len PySem.boot_len (lK (mw (dN (pV vt 4))) lW)) hLen))))) (dZ (aO (i:=5) nd rfl (lo (sc:=(aj (top 32))) (by decide +kernel))))))
 (iy (j5 (dTup (aG (dO (dN (pV vt 5)) (sw aA)) (aG (agb (dTup (aG (eV (by decide +kernel)) bO)) (ajh (dN (pV vt 5)) (xX (sw aA)) DW)) bO)))))))))))))
noncomputable def tX:VS:=
 (aV (cD (cj bJ (aC (vF 0) (aC (vC (.int 3)) a0))) (gN 3))
 (aV (cD (v2 cC (vN 3) (vC (.int 3))) (gN 4))
 (aV (lN (tL (vB (v2 lJ (vN 4) (vC (.int 0)))) (vB (v2 lJ (vN 1) (cX a0))))
 (fX (cj fL (aC (v2 fD (vN 3) (vC (.int 3))) (aC (vF 1) (aC (vF 2) a0)))))
 jr)
 (aV (cD (v2 aP (v2 aP (vN 1) (v2 cC (v2 fD (vN 3) (vC (.int 3))) (fQ iu (aC (vN 1) a0)))) (vC (.int 0))) (gN 5))
 (aV (cD (v2 aP (v2 aP (vN 1) (v2 cC (v2 fD (vN 3) (vC (.int 3))) (fQ iu (aC (vN 1) a0)))) (vC (.int 3))) (gN 6))
 (aV (cD (cX (aC (aY (aC (vC (.int 4)) (aC (aY (aC (vC (.str "shut")) (aC (v2 jV (vC (.str "zz")) (j6 (v2 aP (vN 2) (vC (.int 0))) oN (oI (vC (.int 9))))) a0))) a0))) (aC (aY (aC (vC (.int 4)) (aC (aY (aC (vC (.str "widen")) (aC (v2 jV (vC (.str "zz")) (j6 (v2 aP (vN 2) (vC (.int 0))) oN (oI (vC (.int 9))))) (aC (vC (.int 0)) a0)))) a0))) a0))) (gN 7))
 (aV (cD (v2 fZ (vN 7) (cX (aC (aY (aC (vC (.int 4)) (aC (aY (aC (vC (.str "narrow")) (aC (vC (.str "")) (aC (vC (.int 1)) a0)))) a0))) a0))) (gN 7))
 (aV (cD (v2 fZ (vN 7) (cX (aC (aY (aC (vC (.int 5)) (aC (aY (aC (vC (.str "widen")) (aC (vF 5) (aC (vC (.int 0)) a0)))) a0))) (aC (aY (aC (vC (.int 5)) (aC (aY (aC (vC (.str "widen")) (aC (vF 5) (aC (v2 qP (v1 pD (vC (.int 1))) (v2 cC (vN 3) (v2 qQ (vC (.int 10)) (vC (.int 59))))) a0)))) a0))) (aC (aY (aC (vC (.int 5)) (aC (aY (aC (vC (.str "narrow")) (aC (vF 5) (aC (vC (.int 0)) a0)))) a0))) a0))))) (gN 7))
 (aV (cD (v2 fZ (vN 7) (cX (aC (aY (aC (vC (.int 5)) (aC (aY (aC (vC (.str "narrow")) (aC (vF 5) (aC (vF 6) a0)))) a0))) (aC (aY (aC (vC (.int 5)) (aC (aY (aC (vC (.str "narrow")) (aC (vF 5) (aC (v1 pD (vC (.int 2))) a0)))) a0))) a0)))) (gN 7))
 (aV (cD (v2 fZ (vN 7) (cX (aC (aY (aC (vC (.int 5)) (aC (aY (aC (vC (.str "narrow")) (aC (vF 5) (aC (v2 gQ (v2 gQ (vN 6) (vC (.int 1))) (v2 cC (vN 3) (vC (.int 5)))) a0)))) a0))) a0))) (gN 7))
 (fX (v2 aP (vN 7) (v2 cC (v2 fD (vN 3) (vC (.int 24))) (vC (.int 9)))))))))))))))
noncomputable def jh:jF:=oh 3 8 tX
theorem wJ:bF ["_law_cell","_law_held","_law_rooms","_law_number","_law_way","_law_name","_law_width_here","_law_some"] ["_law_cell","_law_held","_law_rooms"] (aj (top 33)):=⟨rfl,rfl,rfl,by decide +kernel,rfl,by decide +kernel,by decide +kernel⟩
theorem GQ {P:Program}{w:World}{K:PySem.W.Frag}{mg:Str->Option Value}{base:Heap}{f:Addr}{fd:FuncData}(F:dB K "_law_bad" "_law_bad" (top 33) f fd)(B:Bl mg)(KT:kW K)(bU:dM P w K mg base 1 "_law_mixed" ["_law_cell","_law_k"] (d9 K bJ))(nW:dM P w K mg base 2 "_law_bad_lay" ["_law_number","_law_held","_law_rooms"] (d9 K fL)):aW P w K mg base dG 3 f fd ["_law_cell","_law_held","_law_rooms"] (d9 K jh):=by
  have nd:=wJ.nd
  have vt:=(show(["_law_cell","_law_held","_law_rooms","_law_number","_law_way","_law_name","_law_width_here","_law_some"]:List Str).all (λx=>dW (aj (top 33)) x && plain x)=true by decide +kernel)
  refine wH (k:=2) (n:=3) (nN:=8) (g:=tX) F wJ rfl rfl λcdv A outer s H E hr=> ?_
  exact(cG (fY (bI (gK (aZ bU (hr.mono (by decide)) (gl (sc:=(aj (top 33))) (by decide +kernel)) (aG (dF (pV vt 0)) (aG aA bO)))) (dZ (aO (i:=3) nd rfl (lo (sc:=(aj (top 33))) (by decide +kernel))))))
 (cG (fY (bI (bK oMod hMod (mw (dN (pV vt 3))) (sw aA)) (dZ (aO (i:=4) nd rfl (lo (sc:=(aj (top 33))) (by decide +kernel))))))
 (cG (wG (PW.pt (ZM (j4 (kh hr.units) hEq (mw (dN (pV vt 4))) (sw aA)) (Qs (j4 (kh hr.units) hEq (mw (dN (pV vt 1))) (nw (jE bO))))))
 (iy (j5 (gK (aZ nW (hr.mono (by decide)) (gl (sc:=(aj (top 33))) (by decide +kernel)) (aG (bK oDiv hDiv (mw (dN (pV vt 3))) (sw aA)) (aG (dF (pV vt 1)) (aG (dF (pV vt 2)) bO)))))))
 qT)
 (cG (fY (bI (dO (sm (dO (dN (pV vt 1)) (sw (bK oMod hMod (sw (bK oDiv hDiv (mw (dN (pV vt 3))) (sw aA))) (sw (pF (bZ jZ (gl (sc:=(aj (top 33))) (by decide +kernel)) B.len PySem.boot_len (lK (mw (dN (pV vt 1))) lW)) hLen)))))) (sw aA)) (dZ (aO (i:=5) nd rfl (lo (sc:=(aj (top 33))) (by decide +kernel))))))
 (cG (fY (bI (dO (sm (dO (dN (pV vt 1)) (sw (bK oMod hMod (sw (bK oDiv hDiv (mw (dN (pV vt 3))) (sw aA))) (sw (pF (bZ jZ (gl (sc:=(aj (top 33))) (by decide +kernel)) B.len PySem.boot_len (lK (mw (dN (pV vt 1))) lW)) hLen)))))) (sw aA)) (dZ (aO (i:=6) nd rfl (lo (sc:=(aj (top 33))) (by decide +kernel))))))
 (cG (fY (bI (ns (jE (aG (dTup (aG aA (aG (dTup (aG (eV (by decide +kernel)) (aG (bK iZ tR (sw (eV (by decide +kernel))) (sw (wX (sw (dO (dN (pV vt 2)) (sw aA))) DW (xX (sw aA))))) bO))) bO))) (aG (dTup (aG aA (aG (dTup (aG (eV (by decide +kernel)) (aG (bK iZ tR (sw (eV (by decide +kernel))) (sw (wX (sw (dO (dN (pV vt 2)) (sw aA))) DW (xX (sw aA))))) (aG aA bO)))) bO))) bO)))) (dZ (aO (i:=7) nd rfl (lo (sc:=(aj (top 33))) (by decide +kernel))))))
 (cG (fY (bI (ns (dCat (dN (pV vt 7)) (nm (jE (aG (dTup (aG aA (aG (dTup (aG (eV (by decide +kernel)) (aG (eV (by decide +kernel)) (aG aA bO)))) bO))) bO))))) (dZ (aO (i:=7) nd rfl (lo (sc:=(aj (top 33))) (by decide +kernel))))))
 (cG (fY (bI (ns (dCat (dN (pV vt 7)) (nm (jE (aG (dTup (aG aA (aG (dTup (aG (eV (by decide +kernel)) (aG (dF (pV vt 5)) (aG aA bO)))) bO))) (aG (dTup (aG aA (aG (dTup (aG (eV (by decide +kernel)) (aG (dF (pV vt 5)) (aG (bK qO hSub (sw (JB (sw aA))) (sw (bK oMod hMod (mw (dN (pV vt 3))) (sw (bK DN hPow (sw aA) (sw aA)))))) bO)))) bO))) (aG (dTup (aG aA (aG (dTup (aG (eV (by decide +kernel)) (aG (dF (pV vt 5)) (aG aA bO)))) bO))) bO))))))) (dZ (aO (i:=7) nd rfl (lo (sc:=(aj (top 33))) (by decide +kernel))))))
 (cG (fY (bI (ns (dCat (dN (pV vt 7)) (nm (jE (aG (dTup (aG aA (aG (dTup (aG (eV (by decide +kernel)) (aG (dF (pV vt 5)) (aG (dF (pV vt 6)) bO)))) bO))) (aG (dTup (aG aA (aG (dTup (aG (eV (by decide +kernel)) (aG (dF (pV vt 5)) (aG (JB (sw aA)) bO)))) bO))) bO)))))) (dZ (aO (i:=7) nd rfl (lo (sc:=(aj (top 33))) (by decide +kernel))))))
 (cG (fY (bI (ns (dCat (dN (pV vt 7)) (nm (jE (aG (dTup (aG aA (aG (dTup (aG (eV (by decide +kernel)) (aG (dF (pV vt 5)) (aG (bK jd hAdd (sw (bK jd hAdd (mw (dN (pV vt 6))) (sw aA))) (sw (bK oMod hMod (mw (dN (pV vt 3))) (sw aA)))) bO)))) bO))) bO))))) (dZ (aO (i:=7) nd rfl (lo (sc:=(aj (top 33))) (by decide +kernel))))))
 (iy (j5 (dO (dN (pV vt 7)) (sw (bK oMod hMod (sw (bK oDiv hDiv (mw (dN (pV vt 3))) (sw aA))) (sw aA))))))))))))))))
end bW
set_option hygiene false in
local macro_rules | `(tactic| walk_at "e0")=>`(tactic| (try simp only [M4,Xo,Xp,ago,agp,ini,HJ,Z6,Z7,Z8,Z9,aac,agh,agi,Xe,aad,aae,Ep,Vi,JN,jR,Xf,Xg,Xh,aaf,aag,aah,aai,aaj,aak,JQ,QH,QJ,agj,JR,ajx,agk,a0,aal,agl,agm,agn,ajy,g0,QK,Xi,MK,QL,MN,QM,Xj,JT,MP,QS,agg,Xn,aat,aam,Xk,aan,agq,agr,ags,agt,agu,agv,Xl,aao,fX,Cp,vD,gEx,gN,gT,aas,HS,agw,Er,Xm,ajz,gFz,eO,ajn,Qy,ajo,af9,jr,af7,ajs,ajt,gRv,ajv,ZX,Xc,lQ,Xq,aax,agB,aay,aaz,vN,vF,vC,vB,ajd,ZJ,ajf,uN,tH,aP,oN,oI,ajg,DX,aji,pD,aY,cX,fQ,iu,JC,xY,af0,af2,ajk,QV,Xr,JV,M5,W7,JF,nD,W8,yc,af4,af5,ajm,mX,jG,yd,jU,aau,aav,agx,agy,agz,agA,aaw,Cr,agd,Int.reduceToNat,Int.reducePow,agf,Z0,jP,List.length_cons,List.length_nil,List.map_cons,List.map_nil,List.replicate,List.cons_append,List.nil_append,List.append_nil,List.getElem?_cons_zero,List.getElem?_cons_succ,List.set_cons_zero,List.set_cons_succ,Nat.reduceAdd,Nat.reduceSub,Nat.reduceLeDiff,Nat.reduceEqDiff,Bool.and_true,Bool.true_and,Bool.not_true,Bool.not_false,Bool.false_eq_true,↓reduceIte,if_true,if_false]))
namespace bW
open PySem PySem.Spec PyProof.Rows L2 VM EX
set_option maxHeartbeats 4000000
noncomputable abbrev nY:Stmt:=inClass (top 3) 0
section
variable {P:Program}{w:World}{K:PySem.W.Frag}{mg:Str->Option Value}{base:Heap}{C D:Addr}
structure Q8 (K:PySem.W.Frag)(mg:Str->Option Value)(C D f0:Addr):Prop where
 xc:XC K C D
 xd:XD K D
 xi:XI K C
 ini:PySem.W.findIn K (.ref C) "__init__"=some (some (.ref f0))
 fn:PySem.W.isFn K (.ref f0)=true
 kp:PySem.W.keepIn K (.ref C)=true
 sa:PySem.W.findIn K (.ref C) "__setattr__"=some (some (.builtin "object.__setattr__"))
 pl:PySem.W.findIn K (.ref C) "place"=some none
 gC:mg "NoHall"=some (.ref C)
 gD:mg "HallError"=some (.ref D)
 cc:PySem.W.mroIn K C (.ref C)=some true
 cd:PySem.W.mroIn K C (.ref D)=some true
 bC:PySem.W.mroIn K C (.type "BaseException")=some true
 bD:PySem.W.mroIn K D (.type "BaseException")=some true
 tC:PySem.W.typeIn K (.ref C)=some (.type "type")
 tD:PySem.W.typeIn K (.ref D)=some (.type "type")
noncomputable def aaY (v:V):Prop:=v=.non\/∃n:Int,v=.int n/\0<=n/\n<100
noncomputable def yI (C:Addr):Sp:=λvs H Q _=>∃e v,vs=[.ref e,v]/\aaY v/\H e=some (cB e C none .none)/\∀dx,H dx=none->Q .non (upd (upd H dx (.xd [("place",v)])) e (cB e C (some dx) .none))
theorem X6:bF ["self","place"] ["self","place"] (aj nY):=⟨rfl,rfl,rfl,by decide +kernel,rfl,by decide +kernel,by decide +kernel⟩
theorem Nr:∀n:Nat,n<100->(n:Int).natAbs.log2<1920/\(Str.empty++"passage "++toString (n:Int)).length<=sizeLine/\(Str.empty++"passage "++toString (n:Int)++" is wrong").length<=sizeLine:=by decide +kernel
theorem X7 {f0:Addr}{fd:FuncData}(F:Fe K "__init__" "NoHall.__init__" nY f0 fd)(c:Q8 K mg C D f0):aW P w K mg base dG 1 f0 fd ["self","place"] (yI C):=by
 have vt:=(show(["self","place"]:List Str).all (λx=>dW (aj nY) x && plain x)=true by decide +kernel)
 refine Fe.ok (k:=0) F X6 (λvs H Q E h=>by obtain⟨_,_,rfl,_⟩:=h;rfl) λcdv A outer s H vs Q E hr hsp=>?_
 obtain⟨e,v,rfl,hv,hE,hq⟩:=hsp
 refine⟨_,aH (cM (xM (Le (pV vt 1))) (aM (fK (Ia c.xc c.xd (gl (sc:=aj nY) (by decide +kernel)) c.gD (ak (pV vt 0) (ak bV aF)))))
  (aM (fK (Ia c.xc c.xd (gl (sc:=aj nY) (by decide +kernel)) c.gD (ak (pV vt 0) (ak (aaV (pV vt 1)) aF))))))
  (aM (aaR c.xc c.sa c.pl (pV vt 0) (pV vt 1) rfl)),?_⟩
 have fin:Qz C (vR 0) (vR 1) "place" {nx:=λ_ H'=>Q .non H',rt:=Q} [some (.ref e),some v] H:=by
  refine aB (v:=v) rfl (aB (v:=.ref e) rfl ⟨e,.none,rfl,hE,λdx hd=>hq dx hd⟩)
 rcases hv with rfl|⟨n,rfl,h0,h1⟩
 .unfold gA d8 tB PB
  refine aB (v:=.non) rfl ⟨true,by simp,?_⟩
  dsimp only
  rw[if_pos rfl]
  unfold gq tBase aN bA
  exact aB (v:=.ref e) rfl ⟨e,.str "this is no hall",none,.none,rfl,hE,fin⟩
 .unfold gA d8 tB PB
  refine aB (v:=.int n) rfl ⟨false,by simp,?_⟩
  dsimp only
  rw[if_neg (by decide)]
  unfold gq tBase aN bA aaU
  obtain⟨k,rfl⟩:=Int.eq_ofNat_of_zero_le h0
  obtain⟨z1,z2,z3⟩:=Nr k (by omega)
  refine aB (v:=.ref e) rfl (aB (v:=.int k) rfl ⟨k,rfl,z1,z2,z3,λy=>⟨e,.str y,none,.none,rfl,hE,fin⟩⟩)
noncomputable def Vt:Nat->Str
 |0=>"NoHall"
 |1=>"NoName"
 |2=>"Twice"
 |3=>"TooMany"
 |4=>"NoPassage"
 |5=>"NoWidth"
 |_=>"NoLine"
structure wY (K:PySem.W.Frag)(mg:Str->Option Value)(C D:Addr)(x:Str):Prop where
 xc:XC K C D
 xi:XI K C
 ini:PySem.W.findIn K (.ref C) "__init__"=some (some (.builtin "ValueError.__init__"))
 kp:PySem.W.keepIn K (.ref C)=true
 g:mg x=some (.ref C)
 cd:PySem.W.mroIn K C (.ref D)=some true
structure ji (K:PySem.W.Frag)(mg:Str->Option Value)(R:Nat->Addr)(D f0:Addr):Prop where
 no:Q8 K mg (R 0) D f0
 one:∀k,1<=k->k<=6->wY K mg (R k) D (Vt k)
noncomputable def ju (R:Nat->Addr)(k:Nat)(H:Hp)(e:Addr)(dx:Option Addr):Prop:=(∃tb,H e=some (cB e (R k) dx tb))/\match k with
 |0=>∃d,dx=some d/\H d=some (.xd [("place",.non)])
 |_=>dx=none
theorem ju.grow {R:Nat->Addr}{k:Nat}{H H':Hp}{e:Addr}{dx:Option Addr}(h:ju R k H e dx)(s:Same H H'):ju R k H' e dx:=by
 obtain⟨⟨tb,a⟩,b⟩:=h
 refine⟨⟨tb,s _ _ a⟩,?_⟩
 cases k with
 |zero=>obtain⟨d,b1,b2⟩:=b;exact⟨d,b1,s _ _ b2⟩
 |succ k=>exact b
noncomputable def cO (R:Nat->Addr)(k:Nat)(H:Hp)(E:XK):Prop:=∀e dx H',Same H H'->H e=none->ju R k H' e dx->E (.ref e) dx H'
theorem ju.upd {R:Nat->Addr}{k:Nat}{H:Hp}{e:Addr}{dx:Option Addr}{T:Value}(h:ju R k H e dx):ju R k (upd H e (cB e (R k) dx T)) e dx:=by
 obtain⟨⟨tb,a⟩,b⟩:=h
 refine⟨⟨T,ao⟩,?_⟩
 cases k with
 |zero=>
  obtain⟨d,b1,b2⟩:=b
  refine⟨d,b1,?_⟩
  rw[aq λz=>by rw[z,a] at b2;cases b2]
  exact b2
 |succ k=>exact b
theorem fM {H H':Hp}{e:Addr}{o:HO}(s:Same H H')(h:H e=none):Same H (L2.upd H' e o):=λb ob z=>by
 rw[aq λy=>by subst y;rw[h] at z;cases z]
 exact s _ _ z
theorem agJ {ta:TA}{E:XK}{D':Ends}{σ:L2.St}{H0 H:Hp}{R:Nat->Addr}{f0:Addr}(c:ji K mg R D f0)(sm:Same H0 H)(ht:∀Q:List V->Hp->Prop,Q [.non] H->ta σ H Q)(q:cO R 0 H0 E):nG K E (Vp (R 0) (yI (R 0)) ta) D' σ H:=by
 unfold nG Vp
 refine ht _ ⟨by show 1<=sizeLine;decide,λe he=>⟨e,.non,rfl,.inl rfl,ao,λdx hd=>⟨rfl,e,R 0,D,some dx,rfl,c.no.xc,ao,λT=>?_⟩⟩⟩
 have hde:dx≠e:=λz=>by subst z;rw[ao] at hd;cases hd
 rw[aq hde] at hd
 have s1:Same H0 (L2.upd (L2.upd (L2.upd H e (cB e (R 0) none .none)) dx (.xd [("place",.non)])) e (cB e (R 0) (some dx) .none)):=fM (fM (fM sm (sm.free he)) (sm.free hd)) (sm.free he)
 exact q e (some dx) _ (fM s1 (sm.free he)) (sm.free he) (ju.upd (k:=0) ⟨⟨.none,ao⟩,dx,rfl,by rw[aq hde,ao]⟩)
theorem pU {ta:TA}{E:XK}{D':Ends}{σ:L2.St}{H0 H:Hp}{R:Nat->Addr}{f0 k:Nat}(c:ji K mg R D f0)(h1:1<=k)(h6:k<=6)(sm:Same H0 H)(ht:∀Q:List V->Hp->Prop,(∀y,Q [.str y] H)->ta σ H Q)(q:cO R k H0 E):nG K E (Fg (R k) ta) D' σ H:=by
 unfold nG Fg
 refine ht _ λy=>⟨.str y,rfl,λe he=>⟨e,R k,D,none,rfl,(c.one k h1 h6).xc,ao,λT=>?_⟩⟩
 refine q e none _ (fM (fM sm (sm.free he)) (sm.free he)) (sm.free he) (ju.upd ⟨⟨.none,ao⟩,?_⟩)
 cases k with
 |zero=>omega
 |succ k=>rfl
noncomputable def J5:VT:=(tL (jR (vB (nC wD wD (vC (.int 1)) (fQ mY (aC (vN 0) a0)) (vC (.int 12))))) (jR (vB (fQ qY (aC (nF (gO (vN 0)) [none] (gN 0) jU (nC iz iz (vC (.str "a")) (vN 0) (vC (.str "z")))) a0)))))
structure dI (nm:Str):Prop where
 lay:(PyData.str nm).canLay0=true
 len:nm.length<=100
 cps:∀c∈nm.cps.toList,c<16^8
noncomputable def cV (nm:Str)(b:Bool):Prop:=J5 [some (Tg.fr,.str nm)]=some (!b)
noncomputable def uZ (R:Nat->Addr):Sp:=λvs H Q E=>∃nm b,vs=[.str nm]/\dI nm/\cV nm b/\if b=true then ∀H',Same H H'->Q .non H' else cO R 1 H E
theorem Ij:bF ["name"] ["name"] (aj (top 17)):=⟨rfl,rfl,rfl,by decide +kernel,rfl,by decide +kernel,by decide +kernel⟩
theorem X8 {f f0:Addr}{fd:FuncData}{R:Nat->Addr}(F:dB K "look_at_name" "look_at_name" (top 17) f fd)(B:Bl mg)(KT:kW K)(c:ji K mg R D f0)(ajM:mg "all"=none){tkL:Tok}(BR:mg "LONGEST_NAME"=some (.int 12 tkL)):aW P w K mg base (eE P w) 1 f fd ["name"] (uZ R):=by
 have nd:=Ij.nd
 have vt:=(show(["name"]:List Str).all (λx=>dW (aj (top 17)) x && plain x)=true by decide +kernel)
 refine Bg (k:=0) F Ij (λvs H Q E h=>by obtain⟨_,_,rfl,_⟩:=h;rfl) λcdv A outer s H vs Q E hr hsp=>?_
 refine⟨_,aM (cM (show PT (fW (eE P w) P w K mg base ["name"] "look_at_name" (aj (top 17)) f cdv A outer s H E) _ (gR K J5) from(PW.pt (ZM (ZK (cCh oLe hLe oLe hLe (sw aA) (sw (pF (bZ uK (gl (sc:=(aj (top 17))) (by decide +kernel)) B.len PySem.boot_len (lK (mw (dN (pV vt 0))) lW)) Vm)) (sw (dC (oG (v:=.int 12) (gl (sc:=(aj (top 17))) (by decide +kernel)) BR ⟨_,rfl⟩) λ_=>rfl)))) (Qs (ZK (cVal (pF (bZ (ajF rfl) (gl (sc:=(aj (top 17))) (by decide +kernel)) ajM PyProof.Rows.boot_all (lK (nw (HD (vq (te:=tV K RS _) (tc:=gR K _) (g:=rQ K _ _) (N':=["sign"]) (cap:=[none]) ["name"] (aj (top 17)) rfl (by decide +kernel) rfl rfl (itS (mw (dN (pV vt 0)))) (λ_ _ _ _ _=>(dZ (Aw (i:=0) (show(["sign"]:List Str).Nodup by decide +kernel) (by decide +kernel)))) (λ_ _ _ _ _=>HB) (λ_ _ _ _ _=>(dCh Bc aaH Bc aaH (sw (eV (by decide +kernel))) (mw (dN (lH (by decide +kernel) 0))) (sw (eV (by decide +kernel)))))))) lW)) ajG)))))))
  (aM (jH (pK (c.one 1 (by decide) (by decide)).xc (c.one 1 (by decide) (by decide)).ini (c.one 1 (by decide) (by decide)).kp (gl (sc:=aj (top 17)) (by decide +kernel)) (c.one 1 (by decide) (by decide)).g (ak (oR (dH (XS (pV vt 0)) (dH pL lB))) aF)))) bR),?_⟩
 obtain⟨nm,b,rfl,wd,hb,hq⟩:=hsp
 have fr:cY K H [some (Tg.fr,.str nm)] [some (.str nm)]:=⟨.str nm,_,rfl,rfl,⟨rfl,wd.lay⟩,rfl⟩
 unfold d8
 refine Fd (b:=!b) fr hb λH1 s1=>?_
 cases b with
 |true=>
  try dsimp only
  rw[if_neg (by decide)]
  rw[if_pos rfl] at hq
  exact hq H1 s1
 |false=>
  try dsimp only
  rw[if_pos (by decide)]
  rw[if_neg (by decide)] at hq
  refine pU c (by decide) (by decide) s1 (λQ' r=>?_) hq
  unfold aN bA tPR
  exact aB (v:=.str nm) rfl ⟨nm,rfl,by have:=wd.len;omega,wd.cps,λy=>r y⟩
end
end bW
namespace bW
open PySem PySem.Spec PyProof.Rows L2 VM EX
set_option maxHeartbeats 4000000
structure Cl (K:PySem.W.Frag)(C:Addr):Prop where
 cl:Cls K C
 n1:lE K C "numbers"
 n2:lE K C "laid"
theorem gJ {K:PySem.W.Frag}{i:Nat}{f:Str}{σ:L2.St}{H:Hp}{Q:VK}{p C dx:Addr}{fs:List (Str×V)}{v:V}(e:σ[i]? =some (some (.ref p)))(h:H p=some (.ins C dx fs))(c:Cls K C)(n:lE K C f)(l:fs.lookup f=some v)(q:Q v H):
  Jj K (vR i) f σ H Q:=aB e ⟨p,C,dx,fs,v,rfl,h,c,n,l,q⟩
theorem qI {K:PySem.W.Frag}{i:Nat}{j:Int}{σ:L2.St}{H:Hp}{Q:VK}{t:Addr}{xs:List V}{v:V}(e:σ[i]? =some (some (.ref t)))(h:H t=some (.tup xs))(a:cT xs j=some v)(q:Q v H):dh (qu K) (vR i) (tC (.int j)) σ H Q:=
 aB e ⟨xs,v,bM.of h,a,q⟩
theorem op1 {g:Int->Int->V}{ta:TE}{j:Int}{σ:L2.St}{H:Hp}{Q:VK}:dh (rM g) ta (tC (.int j)) σ H Q=ta σ H λx H1=>rM g x (.int j) H1 Q:=rfl
theorem Vu {g:Int->Int->V}{ta:TE}{i:Nat}{σ:L2.St}{H:Hp}{Q:VK}{x y:Int}(h:∀R:VK,R (.int x) H->ta σ H R)(e:σ[i]? =some (some (.int y)))(q:Q (g x y) H):dh (rM g) ta (vR i) σ H Q:=h _ (aB e q)
section
variable {P:Program}{w:World}{K:PySem.W.Frag}{mg:Str->Option Value}{base:Heap}{C D f0:Addr}{R:Nat->Addr}{E:XK}{H H1:Hp}{k:Nat}
theorem cO.le (q:cO R k H E)(s:Same H H1):cO R k H1 E:=λe dx H' s' n r=>q e dx H' (s.trans s') (s.free n) r
theorem cO.on (q:cO R k H E):cO R k H λev dx H'=>∀e C T T2,ev=.ref e->H' e=some (cB e C dx (.ref T))->(∀C' tb,H' e=some (cB e C' dx tb)->C'=C)->E (.ref e) dx (L2.upd H' e (cB e C dx (.ref T2))):=by
 intro e dx H' s n r e' C T T2 hev hE u
 cases hev
 have hc:=u _ _ r.1.choose_spec
 subst hc
 exact q e dx _ (fM s n) n r.upd
noncomputable def yJ (C:Addr)(R:Nat->Addr):Sp:=λvs H Q E=>∃p dx nn ll nums ls nm,vs=[.ref p,.str nm]/\cU H C p dx nn ll nums ls/\dI nm/\match cF nm ls with
 |some _=>Q .non H
 |none=>cO R 4 H E
theorem Yb:bF ["self","name"] ["self","name"] (aj (bf 5)):=⟨rfl,rfl,rfl,by decide +kernel,rfl,by decide +kernel,by decide +kernel⟩
theorem Yc {f:Addr}{fd:FuncData}(F:dB K "look_for" "NamedHall.look_for" (bf 5) f fd)(c:Cl K C)(r:ji K mg R D f0):aW P w K mg base (eE P w) 1 f fd ["self","name"] (yJ C R):=by
 have vt:=(show(["self","name"]:List Str).all (λx=>dW (aj (bf 5)) x && plain x)=true by decide +kernel)
 have r4:=r.one 4 (by decide) (by decide)
 refine Bg (k:=0) F Yb (λvs H Q E h=>by obtain⟨_,_,_,_,_,_,_,rfl,_⟩:=h;rfl) λcdv A outer s H vs Q E hr hsp=>?_
 obtain⟨p,dx,nn,ll,nums,ls,nm,rfl,hh,wd,hq⟩:=hsp
 refine⟨_,aM (cM (xM (Bb (mW hr) (pV vt 1) (gH (pV vt 0) rfl))) (aM (jH (pK r4.xc r4.ini r4.kp (gl (sc:=aj (bf 5)) (by decide +kernel)) r4.g (ak (oR (dH pL (dH (yC (pV vt 1)) lB))) aF)))) bR),?_⟩
 obtain⟨kvs,hk,hl⟩:=hh.laid
 have g:=sE nm hl
 unfold d8 tB zE
 refine aB (v:=.str nm) rfl (gJ (p:=p) rfl hh.ins c.cl c.n2 rfl ⟨ll,_,rfl,jt.k (k:=.inr nm) hk,_,rfl,?_⟩)
 cases hg:cF nm ls with
 |some q=>
  rw[hg] at g hq
  obtain⟨t,gv,gt⟩:=g
  rw[gv]
  exact hq
 |none=>
  rw[hg] at g hq
  rw[show iU kvs (.inr nm)=none from g]
  try dsimp only
  rw[if_pos (by rfl)]
  refine pU r (by decide) (by decide) (Same.refl _) (λQ' z=>?_) hq
  unfold aN bA Fo
  exact aB (v:=.str nm) rfl ⟨nm,rfl,by have:=wd.len;omega,z⟩
end
end bW
namespace bW
open PySem PySem.Spec PyProof.Rows L2 VM EX
set_option maxHeartbeats 4000000
section
variable {P:Program}{w:World}{K:PySem.W.Frag}{mg:Str->Option Value}{base:Heap}{C D f0:Addr}{R:Nat->Addr}
noncomputable def J6 (C:Addr):Sp:=λvs H Q _=>∃p dx nn ll nums ls nm q ch,vs=[.ref p,.str nm,.int ch]/\cU H C p dx nn ll nums ls/\cF nm ls=some q/\ls.length<100/\
 ∀H',cU H' C p dx nn ll nums (iD nm (q.1,q.2.1,q.2.2.1+ch,q.2.2.2) ls)->dw nn ll H H'->Q .non H'
theorem Nt:bF ["self","name","change","passage"] ["self","name","change"] (aj (bf 6)):=⟨rfl,rfl,rfl,by decide +kernel,rfl,by decide +kernel,by decide +kernel⟩
theorem aaZ {f:Addr}{fd:FuncData}(F:dB K "change_width" "NamedHall.change_width" (bf 6) f fd)(c:Cl K C):aW P w K mg base dG 1 f fd ["self","name","change"] (J6 C):=by
 have nd:=Nt.nd
 have vt:=(show(["self","name","change","passage"]:List Str).all (λx=>dW (aj (bf 6)) x && plain x)=true by decide +kernel)
 refine dB.ok (k:=0) F Nt (λvs H Q E h=>by obtain⟨_,_,_,_,_,_,_,_,_,rfl,_⟩:=h;rfl) λcdv A outer s H vs Q E hr hsp=>?_
 obtain⟨p,dx,nn,ll,nums,ls,nm,q,ch,rfl,hh,hg,hn,hq⟩:=hsp
 refine⟨_,aH (fV (i:=3) nd rfl (lo (sc:=aj (bf 6)) (by decide +kernel)) (vH (mW hr) (gH (pV vt 0) rfl) (pV vt 1) (λ_ _=>rfl)))
  (aM (zF (mW hr) (gH (pV vt 0) rfl) (pV vt 1) (iQ (ak (bB fP (pV vt 3) au) (ak (bB fP (pV vt 3) au) (ak (iK jd (bB fP (pV vt 3) au) (pV vt 2)) (ak (bB fP (pV vt 3) au) aF))))) rfl)),?_⟩
 obtain⟨kvs,hk,hl⟩:=hh.laid
 have g:=sE nm hl
 rw[hg] at g
 obtain⟨t,gv,gt⟩:=g
 have hkl:=hl.length
 unfold gA g8 Cw fG Cy wO aN
 refine gJ (p:=p) rfl hh.ins c.cl c.n2 rfl (aB (v:=.str nm) rfl ⟨ll,.ref t,rfl,by rw[<-gv];exact jt.k (k:=.inr nm) hk,?_⟩)
 dsimp only
 refine qI (t:=t) rfl gt rfl (qI (t:=t) rfl gt rfl (Vu (x:=q.2.2.1) (y:=ch) (λR r=>qI (t:=t) rfl gt rfl r) rfl (qI (t:=t) rfl gt rfl ⟨by show 4<=sizeLine;decide,λt' ht'=>?_⟩)))
 have hne:ll≠t':=aR hk ht'
 have same:=aL (o:=.tup [.int q.1,.int q.2.1,.int (q.2.2.1+ch),.int q.2.2.2]) ht'
 have hh1:=hh.grow same
 have hk1:=same _ _ hk
 refine gJ (p:=p) rfl hh1.ins c.cl c.n2 rfl (aB (v:=.str nm) rfl ⟨ll,_,rfl,tQ.k (k:=.inr nm) hk1 (dX (by omega)),?_⟩)
 refine hq _ (hh1.put hk1 (Nq (q:=(q.1,q.2.1,q.2.2.1+ch,q.2.2.2)) ao (hl.mono λ_ _ z=>z.same λu xs e=>same _ _ e))) ((dw.same same).trans (dw.put hk1))
noncomputable def pW (C:Addr)(R:Nat->Addr):Sp:=λvs H Q E=>∃p dx nn ll nums ls nm,vs=[.ref p,.str nm]/\cU H C p dx nn ll nums ls/\dI nm/\match cF nm ls with
 |some _=>∀H',cU H' C p dx nn ll nums (yD nm ls)->dw nn ll H H'->Q .non H'
 |none=>cO R 4 H E
theorem Yd:bF ["self","name"] ["self","name"] (aj (bf 2)):=⟨rfl,rfl,rfl,by decide +kernel,rfl,by decide +kernel,by decide +kernel⟩
theorem Ye {f:Addr}{fd:FuncData}(F:dB K "shut" "NamedHall.shut" (bf 2) f fd)(c:Cl K C){f5:Addr}{Bh:FuncData}(F5:aW P w K mg base (eE P w) 1 f5 Bh ["self","name"] (yJ C R))(m5:Meth K C "look_for" f5)(b5:Binds K Bh ["self","name"] []):
  aW P w K mg base (eE P w) 2 f fd ["self","name"] (pW C R):=by
 have vt:=(show(["self","name"]:List Str).all (λx=>dW (aj (bf 2)) x && plain x)=true by decide +kernel)
 refine Bg (k:=1) F Yd (λvs H Q E h=>by obtain⟨_,_,_,_,_,_,_,rfl,_⟩:=h;rfl) λcdv A outer s H vs Q E hr hsp=>?_
 obtain⟨p,dx,nn,ll,nums,ls,nm,rfl,hh,wd,hq⟩:=hsp
 refine⟨_,aH (jJ (mD (pV vt 0) c.cl m5 F5 hr b5 (ak (pV vt 1) aF))) (aM (fK (QX (gH (pV vt 0) rfl) (pV vt 1) ⟨rfl,rfl,rfl,rfl⟩))),?_⟩
 obtain⟨kvs,hk,hl⟩:=hh.laid
 have g:=sE nm hl
 unfold gA gq qD M8 aN bA
 refine aB (v:=.ref p) rfl ⟨p,dx,_,rfl,hh.ins,rfl,aB (v:=.str nm) rfl ⟨p,dx,nn,ll,nums,ls,nm,rfl,hh,wd,?_⟩⟩
 cases hg:cF nm ls with
 |none=>
  rw[hg] at hq
  exact hq.on
 |some q=>
  rw[hg] at hq g
  obtain⟨t,gv,gt⟩:=g
  dsimp only
  refine gJ (p:=p) rfl hh.ins c.cl c.n2 rfl ⟨ll,rfl,.inl ⟨_,.inl hk⟩,aB (v:=.str nm) rfl ⟨kvs,.inr nm,.ref t,hk,rfl,gv,?_⟩⟩
  exact hq _ (hh.put hk (X4 hl)) (dw.put hk)
noncomputable def wK (n:Int):Prop:=n.natAbs.log2<1920
noncomputable def vM (C:Addr)(R:Nat->Addr):Sp:=λvs H Q E=>∃p dx nn ll nums ls nm ch,vs=[.ref p,.str nm,.int ch]/\cU H C p dx nn ll nums ls/\dI nm/\wK ch/\ls.length<100/\match cF nm ls with
 |none=>cO R 4 H E
 |some q=>if ch<1 then cO R 5 H E else ∀H',cU H' C p dx nn ll nums (iD nm (q.1,q.2.1,q.2.2.1+ch,q.2.2.2) ls)->dw nn ll H H'->Q .non H'
theorem Q9:bF ["self","name","more"] ["self","name","more"] (aj (bf 3)):=⟨rfl,rfl,rfl,by decide +kernel,rfl,by decide +kernel,by decide +kernel⟩
theorem Ra {f:Addr}{fd:FuncData}(F:dB K "widen" "NamedHall.widen" (bf 3) f fd)(c:Cl K C)(r:ji K mg R D f0){f5 f6:Addr}{Bh Nu:FuncData}(F5:aW P w K mg base (eE P w) 1 f5 Bh ["self","name"] (yJ C R))(m5:Meth K C "look_for" f5)(b5:Binds K Bh ["self","name"] [])
  (F6:aW P w K mg base dG 1 f6 Nu ["self","name","change"] (J6 C))(m6:Meth K C "change_width" f6)(b6:Binds K Nu ["self","name","change"] []):
  aW P w K mg base (eE P w) 2 f fd ["self","name","more"] (vM C R):=by
 have vt:=(show(["self","name","more"]:List Str).all (λx=>dW (aj (bf 3)) x && plain x)=true by decide +kernel)
 have r5:=r.one 5 (by decide) (by decide)
 refine Bg (k:=1) F Q9 (λvs H Q E h=>by obtain⟨_,_,_,_,_,_,_,_,rfl,_⟩:=h;rfl) λcdv A outer s H vs Q E hr hsp=>?_
 obtain⟨p,dx,nn,ll,nums,ls,nm,ch,rfl,hh,wd,fw,hn,hq⟩:=hsp
 refine⟨_,aH (jJ (mD (pV vt 0) c.cl m5 F5 hr b5 (ak (pV vt 1) aF))) (aH (cM (iW oLt (pV vt 2) au) (aM (jH (pK r5.xc r5.ini r5.kp (gl (sc:=aj (bf 3)) (by decide +kernel)) r5.g (ak (oR (dH (Nm (pV vt 2)) (dH pL lB))) aF)))) bR)
  (aM (fK (lq (pV vt 0) c.cl m6 F6 hr b6 .nil jB (ak (pV vt 1) (ak (pV vt 2) aF)))))),?_⟩
 unfold gA gq jA qD aN bA
 refine aB (v:=.ref p) rfl ⟨p,dx,_,rfl,hh.ins,rfl,aB (v:=.str nm) rfl ⟨p,dx,nn,ll,nums,ls,nm,rfl,hh,wd,?_⟩⟩
 cases hg:cF nm ls with
 |none=>
  rw[hg] at hq
  exact hq.on
 |some q=>
  rw[hg] at hq
  dsimp only at hq ⊢
  unfold d8 iB
  rw[op1]
  refine aB (v:=.int ch) rfl ?_
  show(if decide (ch<1)=true then _ else _)
  by_cases h1:ch<1
  .rw[if_pos h1] at hq
   rw[if_pos (by simp[h1])]
   refine pU r (by decide) (by decide) (Same.refl _) (λQ' z=>?_) hq
   unfold Vs
   exact aB (v:=.int ch) rfl ⟨ch,rfl,fw,z⟩
  .rw[if_neg h1] at hq
   rw[if_neg (by simp[h1])]
   unfold dR
   dsimp only
   refine aB (v:=.ref p) rfl ⟨p,dx,_,rfl,hh.ins,rfl,aB (v:=.str nm) rfl (aB (v:=.int ch) rfl ⟨p,dx,nn,ll,nums,ls,nm,q,ch,rfl,hh,hg,hn,λH' h1 h2=>?_⟩)⟩
   exact hq H' h1 h2
end
end bW
namespace bW
open PySem PySem.Spec PyProof.Rows L2 VM EX
set_option maxHeartbeats 4000000
section
variable {P:Program}{w:World}{K:PySem.W.Frag}{mg:Str->Option Value}{base:Heap}{C D f0:Addr}{R:Nat->Addr}
noncomputable def tY (C:Addr)(R:Nat->Addr):Sp:=λvs H Q E=>∃p dx nn ll nums ls nm ch,vs=[.ref p,.str nm,.int ch]/\cU H C p dx nn ll nums ls/\dI nm/\wK ch/\ls.length<100/\match cF nm ls with
 |none=>cO R 4 H E
 |some q=>if ch<1\/q.2.2.1 - ch<1 then cO R 5 H E else ∀H',cU H' C p dx nn ll nums (iD nm (q.1,q.2.1,q.2.2.1+ -ch,q.2.2.2) ls)->dw nn ll H H'->Q .non H'
theorem Nv:bF ["self","name","less"] ["self","name","less"] (aj (bf 4)):=⟨rfl,rfl,rfl,by decide +kernel,rfl,by decide +kernel,by decide +kernel⟩
theorem Nx {f:Addr}{fd:FuncData}(F:dB K "narrow" "NamedHall.narrow" (bf 4) f fd)(c:Cl K C)(r:ji K mg R D f0){f5 f6:Addr}{Bh Nu:FuncData}(F5:aW P w K mg base (eE P w) 1 f5 Bh ["self","name"] (yJ C R))(m5:Meth K C "look_for" f5)(b5:Binds K Bh ["self","name"] [])
  (F6:aW P w K mg base dG 1 f6 Nu ["self","name","change"] (J6 C))(m6:Meth K C "change_width" f6)(b6:Binds K Nu ["self","name","change"] []):
  aW P w K mg base (eE P w) 2 f fd ["self","name","less"] (tY C R):=by
 have vt:=(show(["self","name","less"]:List Str).all (λx=>dW (aj (bf 4)) x && plain x)=true by decide +kernel)
 have r5:=r.one 5 (by decide) (by decide)
 refine Bg (k:=1) F Nv (λvs H Q E h=>by obtain⟨_,_,_,_,_,_,_,_,rfl,_⟩:=h;rfl) λcdv A outer s H vs Q E hr hsp=>?_
 obtain⟨p,dx,nn,ll,nums,ls,nm,ch,rfl,hh,wd,fw,hn,hq⟩:=hsp
 refine⟨_,aH (jJ (mD (pV vt 0) c.cl m5 F5 hr b5 (ak (pV vt 1) aF)))
  (aH (cM (PW.pt (sV (iW oLt (pV vt 2) au) (rG (iW oLt (iK qO (bB fP (vH (mW hr) (gH (pV vt 0) rfl) (pV vt 1) (λ_ _=>rfl)) au) (pV vt 2)) au)))) (aM (jH (pK r5.xc r5.ini r5.kp (gl (sc:=aj (bf 4)) (by decide +kernel)) r5.g (ak (oR (dH (Nm (pV vt 2)) (dH pL (dH (yC (pV vt 1)) (dH pL lB))))) aF)))) bR)
  (aM (fK (lq (pV vt 0) c.cl m6 F6 hr b6 .nil jB (ak (pV vt 1) (ak (Jf Dk (pV vt 2)) aF)))))),?_⟩
 obtain⟨kvs,hk,hl⟩:=hh.laid
 have g:=sE nm hl
 unfold gA gq jA qD aN bA
 refine aB (v:=.ref p) rfl ⟨p,dx,_,rfl,hh.ins,rfl,aB (v:=.str nm) rfl ⟨p,dx,nn,ll,nums,ls,nm,rfl,hh,wd,?_⟩⟩
 cases hg:cF nm ls with
 |none=>
  rw[hg] at hq
  exact hq.on
 |some q=>
  rw[hg] at hq g
  obtain⟨t,gv,gt⟩:=g
  dsimp only at hq ⊢
  have no:∀D':Ends,(ch<1\/q.2.2.1 - ch<1)->nG K E (Fg (R 5) λσ H Q=>Vs (vR 2) σ H λH1=>Fo (vR 1) σ H1 λH2=>∀y,Q [.str y] H2) D' [some (.ref p),some (.str nm),some (.int ch)] H:=λD' h=>by
   rw[if_pos h] at hq
   refine pU r (by decide) (by decide) (Same.refl _) (λQ' z=>?_) hq
   unfold Vs Fo
   exact aB (v:=.int ch) rfl ⟨ch,rfl,fw,aB (v:=.str nm) rfl ⟨nm,rfl,by have:=wd.len;omega,z⟩⟩
  unfold d8 Dc iB
  rw[op1]
  refine aB (v:=.int ch) rfl ?_
  show(if decide (ch<1)=true then _ else _)
  by_cases h1:ch<1
  .rw[if_pos (by simp[h1])]
   exact no {nx:=λ_ _=>True,rt:=λ_ _=>True} (.inl h1)
  rw[if_neg (by simp[h1]),op1]
  refine Vu (x:=q.2.2.1) (y:=ch) (λR' r'=>?_) rfl ?_
  .unfold dh Cw
   exact gJ (p:=p) rfl hh.ins c.cl c.n2 rfl (aB (v:=.str nm) rfl ⟨ll,.ref t,rfl,by rw[<-gv];exact jt.k (k:=.inr nm) hk,⟨_,_,bM.of gt,rfl,r'⟩⟩)
  show(if decide (q.2.2.1 - ch<1)=true then _ else _)
  by_cases h2:q.2.2.1 - ch<1
  .rw[if_pos (by simp[h2])]
   exact no {nx:=λ_ _=>True,rt:=λ_ _=>True} (.inr h2)
  rw[if_neg (by simp[h2])]
  rw[if_neg (by omega)] at hq
  unfold dR
  dsimp only
  refine aB (v:=.ref p) rfl ⟨p,dx,_,rfl,hh.ins,rfl,aB (v:=.str nm) rfl ?_⟩
  unfold YZ
  refine aB (v:=.int ch) rfl ⟨ch,rfl,p,dx,nn,ll,nums,ls,nm,q,-ch,rfl,hh,hg,hn,λH' h1 h2=>?_⟩
  exact hq H' h1 h2
end
end bW
namespace bW
open PySem PySem.Spec PyProof.Rows L2 VM
set_option maxHeartbeats 4000000
theorem agK {a:Addr}{o:Obj}{kvs:List (Key×V)}{g:TG}{tb:TS}{D:Ends}{σ:L2.St}{H:Hp}(Pv:Nat->L2.St->Hp->Prop)(h0:Pv 0 σ H)(hl:∀i σ H,i<=kvs.length->Pv i σ H->H a=some (.eO o (.dK kvs)))
  (hs:∀i kv σ H p,kvs[i]? =some kv->Pv i σ H->H p=none->g (.ref p) σ (upd H p (.tup [kV kv.1,kv.2])) λσ2 H2=>tb {D with nx:=Pv (i+1),ct:=Pv (i+1),bk:=D.nx} σ2 H2)(hd:∀σ H,Pv kvs.length σ H->D.nx σ H):
  qw (Iti a o kvs) g tb D σ H:=by
 refine⟨λi m σ H=>m=kvs.length - i/\i<=kvs.length/\Pv i σ H,⟨kvs.length,by simp,Nat.zero_le _,h0⟩,?_⟩
 rintro i m σ H ⟨rfl,hi,p⟩
 have q:=hl i σ H hi p
 by_cases hlt:i<kvs.length
 .refine .inr ⟨⟨q,hlt⟩,Pv (i+1),λσ' H' p'=>⟨kvs.length - (i+1),by omega,rfl,hlt,p'⟩,λx H' y=>?_⟩
  obtain⟨pp,kv,hz,hn,e1,e2⟩:=y
  subst e1 e2
  exact hs i kv σ _ pp hz p hn
 .have e:i=kvs.length:=by omega
  subst e
  exact .inl ⟨⟨q,Nat.le_refl _⟩,hd σ H p⟩
theorem J7 {X:Cx}:gw X (.builtin "len") (λxs H Q=>∃a kvs,xs=[.ref a]/\H a=some (.dK kvs)/\Q (.int kvs.length) H):=by
 intro pins s σ H xs us Q I r h
 obtain⟨a,kvs,rfl,ha,q⟩:=h
 obtain⟨u,rfl,rx⟩:=vals1 r
 cases rx
 exact agE I (.inl ha) λt s' I'=>⟨.int _,H,I',⟨t,rfl⟩,q⟩
noncomputable abbrev Row:=Str×Str×Str×Int×Int
noncomputable def dU (r:Row):List V:=[.str r.1,.str r.2.1,.str r.2.2.1,.int r.2.2.2.1,.int r.2.2.2.2]
noncomputable def Ft (H:Hp)(v:V)(r:Row):Prop:=∃t,v=.ref t/\H t=some (.tup (dU r))
noncomputable def LR (seen:List Str)(x:Str×Q4)(r:Row):Prop:=x.1=r.1/\cT (seen.map V.str) x.2.1=some (.str r.2.1)/\cT (seen.map V.str) x.2.2.1=some (.str r.2.2.1)/\x.2.2.2.1=r.2.2.2.1/\x.2.2.2.2=r.2.2.2.2
noncomputable def seenOf (nums:List (Str×Int)):List Str:=nums.map (·.1)
theorem yK {α β:Type}{R:α->β->Prop}{l:List α}{r:List β}(h:Paired R l r):∀{i:Nat}{a:α},l[i]? =some a->∃b,r[i]? =some b/\R a b:=by
 induction h with
 |nil=>intro i a e;cases e
 |cons h _ ih=>
  intro i a e
  cases i with
  |zero=>cases e;exact⟨_,rfl,h⟩
  |succ i=>exact ih e
theorem rB {α β:Type}{R:α->β->Prop}:∀{l:List α}{r:List β} {a:α} {b:β},Paired R l r->R a b->Paired R (l++[a]) (r++[b])
 |_,_,_,_,.nil,h=>.cons h .nil
 |_,_,_,_,.cons x r,h=>.cons x (rB r h)
section
variable {P:Program}{w:World}{K:PySem.W.Frag}{mg:Str->Option Value}{base:Heap}{C:Addr}
noncomputable def mJ (C:Addr):Sp:=λvs H Q _=>∃p dx nn ll nums ls,vs=[.ref p]/\cU H C p dx nn ll nums ls/\∀z,H z=none->Q (.ref z) (upd H z (.lst ((seenOf nums).map V.str)))
theorem Rb:bF ["self"] ["self"] (aj (bf 7)):=⟨rfl,rfl,rfl,by decide +kernel,rfl,by decide +kernel,by decide +kernel⟩
theorem Rc {f:Addr}{fd:FuncData}(F:dB K "rooms" "NamedHall.rooms" (bf 7) f fd)(B:Bl mg)(c:Cl K C):aW P w K mg base dG 1 f fd ["self"] (mJ C):=by
 have vt:=(show(["self"]:List Str).all (λx=>dW (aj (bf 7)) x && plain x)=true by decide +kernel)
 refine dB.ok (k:=0) F Rb (λvs H Q E h=>by obtain⟨_,_,_,_,_,_,rfl,_⟩:=h;rfl) λcdv A outer s H vs Q E hr hsp=>?_
 obtain⟨p,dx,nn,ll,nums,ls,rfl,hh,hq⟩:=hsp
 refine⟨_,aM (cN (uJ (aaM rfl) (gl (sc:=aj (bf 7)) (by decide +kernel)) B.list PyProof.Rows.boot_list (ak (gH (pV vt 0) rfl) aF))),?_⟩
 unfold qN nq aN bA
 refine gJ (p:=p) rfl hh.ins c.cl c.n1 rfl ⟨nn,_,rfl,hh.num,λz hz=>?_⟩
 have e:(nums.map iV).map (λkv=>kV kv.1)=(seenOf nums).map V.str:=by
  unfold seenOf
  rw[List.map_map,List.map_map]
  rfl
 rw[e]
 exact hq z hz
noncomputable def yL (C:Addr):Sp:=λvs H Q _=>∃p dx nn ll nums ls rows,vs=[.ref p]/\cU H C p dx nn ll nums ls/\ls.length<100/\Paired (LR (seenOf nums)) ls rows/\
 ∀H' q ts,Same H H'->H q=none->H' q=some (.lst ts)->Paired (Ft H') ts rows->Q (.ref q) H'
theorem Ik:bF ["self","rooms","told","name","passage"] ["self"] (aj (bf 8)):=⟨rfl,rfl,rfl,by decide +kernel,rfl,by decide +kernel,by decide +kernel⟩
theorem kE {i:Nat}{tj:TE}{σ:L2.St}{H:Hp}{Q:VK}{t:Addr}{xs:List V}{j:Int}{v:V}(e:σ[i]? =some (some (.ref t)))(h:H t=some (.lst xs))(hj:∀R:VK,R (.int j) H->tj σ H R)(a:cT xs j=some v)(q:Q v H):dh (qt K) (vR i) tj σ H Q:=
 aB e (hj _ ⟨xs,v,bQ.of h,a,q⟩)
theorem Yg {f:Addr}{fd:FuncData}(F:dB K "passages" "NamedHall.passages" (bf 8) f fd)(c:Cl K C){f7:Addr}{Vv:FuncData}(F7:aW P w K mg base dG 1 f7 Vv ["self"] (mJ C))(m7:Meth K C "rooms" f7)(b7:Binds K Vv ["self"] []):
  aW P w K mg base dG 2 f fd ["self"] (yL C):=by
 have nd:=Ik.nd
 have vt:=(show(["self","rooms","told","name","passage"]:List Str).all (λx=>dW (aj (bf 8)) x && plain x)=true by decide +kernel)
 refine dB.ok (k:=1) F Ik (λvs H Q E h=>by obtain⟨_,_,_,_,_,_,_,rfl,_⟩:=h;rfl) λcdv A outer s H vs Q E hr hsp=>?_
 obtain⟨p,dx,nn,ll,nums,ls,rows,rfl,hh,hn,hR,hq⟩:=hsp
 refine⟨_,aH (fV (i:=1) nd rfl (lo (sc:=aj (bf 8)) (by decide +kernel)) (sY (pV vt 0) c.cl m7 F7 hr b7 .nil jB))
  (aH (fV (i:=2) nd rfl (lo (sc:=aj (bf 8)) (by decide +kernel)) (ni aF))
  (aH (Q6 (jD PassesOwn.never rfl (Q5 (gH (pV vt 0) rfl)) (U8 (n:=2) rfl (vA (aO (i:=3) nd rfl (lo (sc:=aj (bf 8)) (by decide +kernel))) (vA (aO (i:=4) nd rfl (lo (sc:=aj (bf 8)) (by decide +kernel))) Mg)))
   (aM (fK (Jx (pV vt 2) (ak (iQ (ak (pV vt 3) (ak (bB gY (pV vt 1) (bB fP (pV vt 4) au)) (ak (bB gY (pV vt 1) (bB fP (pV vt 4) au)) (ak (bB fP (pV vt 4) au) (ak (bB fP (pV vt 4) au) aF)))))) aF))))))
  (aM (cN (pV vt 2))))),?_⟩
 obtain⟨kvs,hk,hl⟩:=hh.laid
 have hkl:=hl.length
 have hrl:=hR.length
 unfold gA g8 jA bA fG zm
 refine aB (v:=.ref p) rfl ⟨p,dx,_,rfl,hh.ins,rfl,p,dx,nn,ll,nums,ls,rfl,hh,λrz Vw=>?_⟩
 dsimp only
 refine⟨Nat.zero_le _,λtz Vx=>?_⟩
 have s1:=aL (o:=.lst ((seenOf nums).map V.str)) Vw
 have s2:=aL (o:=.lst []) Vx
 have s12:=s1.trans s2
 have hz0:H tz=none:=s1.free Vx
 have hrt:rz≠tz:=λz=>by subst z;rw[ao] at Vx;cases Vx
 have Rg:ll≠tz:=aR hk hz0
 refine⟨ll,kvs,s12 _ _ hk,?_⟩
 rw[mj]
 unfold Nb Qh
 refine gJ (p:=p) rfl (s12 _ _ hh.ins) c.cl c.n2 rfl ⟨.inr (.inr (.inl ⟨rfl,.inl ⟨kvs,s12 _ _ hk⟩⟩)),kvs,s12 _ _ hk,λz hz=>?_⟩
 refine⟨z,ll,kvs,_,rfl,rfl,hz,s12 _ _ hk,λo=>?_⟩
 have s3:=aL (o:=HO.ext λh=>h.get? z=some (jg ll)) hz
 have hzt:tz≠z:=λy=>by subst y;rw[ao] at hz;cases hz
 have hzr:rz≠z:=λy=>by subst y;rw[aq hrt,ao] at hz;cases hz
 have ajN:ll≠rz:=aR hk Vw
 refine agK (λi σ' H'=>(∃x y,σ'=[some (.ref p),some (.ref rz),some (.ref tz),x,y])/\H' ll=some (.eO o (.dK kvs))/\H' rz=some (.lst ((seenOf nums).map V.str))/\(∃ts,H' tz=some (.lst ts)/\ts.length=i/\Paired (Ft H') ts (rows.take i))/\∀b ob,b≠ll->H b=some ob->H' b=some ob)
  ⟨⟨_,_,rfl⟩,ao,by rw[aq ajN.symm,aq hzr,aq hrt,ao],⟨[],by rw[aq Rg.symm,aq hzt,ao],rfl,.nil⟩,λb ob hb e=>by rw[aq hb];exact s3 _ _ (s12 _ _ e)⟩ (λ_ _ _ _ h=>h.2.1) ?_ ?_
 .rintro i kv σ' H' p' hkv ⟨⟨x,y,rfl⟩,i1,i2,⟨ts,i3,i4,i5⟩,i6⟩ hp'
  obtain⟨x1,e1,e2⟩:=yK hl hkv
  obtain⟨r,e3,e4⟩:=yK hR e1
  obtain⟨hkey,t,hv,ht⟩:=e2
  obtain⟨l1,l2,l3,l4,l5⟩:=e4
  have hi:i<kvs.length:=(List.getElem?_eq_some_iff.mp hkv).1
  rw[l1] at hkey
  have htl:t≠ll:=λz=>by subst z;rw[hk] at ht;cases ht
  have ht':=i6 _ _ htl ht
  have s4:=aL (o:=.tup [kV kv.1,kv.2]) hp'
  refine⟨_,bM.of ao,rfl,?_⟩
  rw[hkey,hv]
  show gq (wA K "list" Cm (vR 2) _) _ [some (.ref p),some (.ref rz),some (.ref tz),some (.str r.1),some (.ref t)] _
  rw[hkey,hv] at s4
  unfold gq wA
  refine aB (v:=.ref tz) rfl ⟨.inl ⟨rfl,_,bQ.of (s4 _ _ i3)⟩,?_⟩
  unfold aN wO
  refine aB (v:=.str r.1) rfl (kE (t:=rz) rfl (s4 _ _ i2) (λR r=>qI (t:=t) rfl (s4 _ _ ht') rfl r) l2 (kE (t:=rz) rfl (s4 _ _ i2) (λR r=>qI (t:=t) rfl (s4 _ _ ht') rfl r) l3 (qI (t:=t) rfl (s4 _ _ ht') rfl (qI (t:=t) rfl (s4 _ _ ht') rfl ⟨by show 5<=sizeLine;decide,λt' Bj=>?_⟩))))
  rw[l4,l5]
  have s5:=aL (o:=.tup (dU r)) Bj
  refine⟨ts,s5 _ _ (s4 _ _ i3),dX (by omega),?_⟩
  have Il:=s4.trans s5
  have nt:∀b ob,b≠tz->upd (upd H' p' (.tup [kV (Sum.inr r.1),V.ref t])) t' (.tup (dU r)) b=some ob->upd (upd (upd H' p' (.tup [kV (Sum.inr r.1),V.ref t])) t' (.tup (dU r))) tz (.lst (ts++[.ref t'])) b=some ob:=λb ob hb e=>by rw[aq hb];exact e
  have ntt:∀b xs,upd (upd H' p' (.tup [kV (Sum.inr r.1),V.ref t])) t' (.tup (dU r)) b=some (.tup xs)->b≠tz:=λb xs e z=>by subst z;rw[Il _ _ i3] at e;cases e
  refine⟨⟨_,_,rfl⟩,nt _ _ Rg (Il _ _ i1),nt _ _ hrt (Il _ _ i2),⟨_,ao,by rw[List.length_append,i4];rfl,?_⟩,λb ob hb e=>nt _ _ (λz=>by subst z;rw[hz0] at e;cases e) (Il _ _ (i6 _ _ hb e))⟩
  have etk:rows.take (i+1)=rows.take i++[r]:=by rw[List.take_succ,e3];rfl
  rw[etk]
  refine rB (i5.mono λv r' h=>?_) ⟨t',rfl,nt _ _ (ntt _ _ ao) ao⟩
  obtain⟨u,eu,hu⟩:=h
  exact⟨u,eu,nt _ _ (ntt _ _ (Il _ _ hu)) (Il _ _ hu)⟩
 .rintro σ' H' ⟨⟨x,y,rfl⟩,i1,i2,⟨ts,i3,i4,i5⟩,i6⟩
  refine⟨o,i1,?_⟩
  unfold qN
  refine aB (v:=.ref tz) rfl ?_
  refine hq _ tz ts (λb ob e=>?_) hz0 (by rw[aq Rg.symm];exact i3) ?_
  .by_cases hb:b=ll
   .subst hb;rw[hk] at e;cases e;exact ao
   .rw[aq hb];exact i6 _ _ hb e
  .rw[List.take_of_length_le (by omega)] at i5
   refine i5.mono λv r' h=>?_
   obtain⟨u,eu,hu⟩:=h
   exact⟨u,eu,by rw[aq λz=>by subst z;rw[i1] at hu;cases hu];exact hu⟩
end
end bW
namespace bW
open PySem PySem.Spec PyProof.Rows L2 VM EX
set_option maxHeartbeats 4000000
noncomputable def ajO:Stmt->Scope
 |.Assign _ (.ListComp _ _ sc _) _=>sc
 |_=>aj (.Pass ⟨0,0,0,0⟩)
noncomputable def jw (nums:List (Str×Int))(rs:List Str):List (Str×Int):=rs.foldl (λn r=>iD r (n.length:Int) n) nums
noncomputable def newOf (nums:List (Str×Int))(rs:List Str):List Str:=rs.filter λr=>(cF r nums).isNone
theorem Rh {α:Type}(nm:Str)(v:α)(l:List (Str×α)):(iD nm v l).length<=l.length+1:=by
 unfold iD
 split
 .rw[List.length_map];omega
 .rw[List.length_append];simp
theorem Ri (rs:List Str):∀nums,(jw nums rs).length<=nums.length+rs.length:=by
 induction rs with
 |nil=>intro nums;exact Nat.le_refl _
 |cons r rs ih=>
  intro nums
  have h1:=ih (iD r (nums.length:Int) nums)
  have h2:=Rh r (nums.length:Int) nums
  show(jw (iD r (nums.length:Int) nums) rs).length<=_
  rw[List.length_cons];omega
theorem lcF {K:PySem.W.Frag}{a:Addr}{xs:List V}{cap:List (Option Nat)}{tc:TT}{te:TE}{σ:L2.St}{H1:Hp}{Q:VK}(keep:V->Bool)(hq:bM K H1 a xs)(hz:xs.length<sizeLine)
  (hc:∀x∈xs,∀D ys (R:Bool->Hp->Prop),H1 D=none->R (keep x) (upd H1 D (.lst ys))->tc ((dj cap σ).set 0 (some x)) (upd H1 D (.lst ys)) R)
  (hk:∀x,lG (dj cap σ) ((dj cap σ).set 0 (some x)))(he:∀(x:V) (H:Hp) (R:VK),R x H->te ((dj cap σ).set 0 (some x)) H R)
  (hQ:∀D,H1 D=none->Q (.ref D) (upd H1 D (.lst (xs.filter keep)))):Qj (Dg K a) cap (fG 0) tc te σ H1 Q:=by
 intro D hD
 refine⟨λi m H=>m=xs.length - i/\i<=xs.length/\H=upd H1 D (.lst ((xs.take i).filter keep)),⟨_,rfl,Nat.zero_le _,rfl⟩,?_⟩
 rintro i m H ⟨rfl,hi,rfl⟩
 have hqH:bM K (upd H1 D (.lst ((xs.take i).filter keep))) a xs:=(aL hD).wV hq
 by_cases hlt:i<xs.length
 .refine .inr ⟨⟨xs,xs[i],hqH,by simp[hlt]⟩,λx H' y=>?_⟩
  obtain⟨e,y⟩:=y
  subst e
  have ex:=y xs hqH
  have etk:xs.take (i+1)=xs.take i++[x]:=by rw[List.take_succ,ex];rfl
  show lG _ _/\_
  refine⟨hk x,hc x (List.mem_of_getElem? ex) D _ _ hD ?_⟩
  by_cases hx:keep x=true
  .rw[if_pos hx]
   refine he x _ _ ⟨_,ao,?_,xs.length - (i+1),by omega,rfl,hlt,?_⟩
   .have:=List.length_filter_le keep (xs.take i)
    rw[List.length_take] at this;omega
   .rw[G4,etk,List.filter_append]
    simp[hx]
  .rw[if_neg hx]
   refine⟨xs.length - (i+1),by omega,rfl,hlt,?_⟩
   rw[etk,List.filter_append]
   simp[hx]
 .have e:i=xs.length:=by omega
  subst e
  refine .inl ⟨⟨xs,hqH,Nat.le_refl _⟩,?_⟩
  rw[List.take_of_length_le (Nat.le_refl _)]
  exact hQ D hD
section
variable {P:Program}{w:World}{K:PySem.W.Frag}{mg:Str->Option Value}{base:Heap}{C D f0:Addr}{R:Nat->Addr}
noncomputable def tZ (C:Addr)(R:Nat->Addr):Sp:=λvs H Q E=>∃p dx nn ll nums ls nm a b wd len b1 b2 b3,vs=[.ref p,.str nm,.str a,.str b,.int wd,.int len]/\cU H C p dx nn ll nums ls/\(dI nm/\dI a/\dI b)/\(cV nm b1/\cV a b2/\cV b b3)/\ls.length<100/\nums.length<100/\
 if(b1 && b2 && b3)=false then cO R 1 H E else if(cF nm ls).isSome=true then cO R 2 H E else if a=b\/wd<1\/len<1 then cO R 0 H E else if 60<ls.length+1\/40<nums.length+(newOf nums [a,b]).length then cO R 3 H E
 else ∃ia ib,cF a (jw nums (newOf nums [a,b]))=some ia/\cF b (jw nums (newOf nums [a,b]))=some ib/\∀H',cU H' C p dx nn ll (jw nums (newOf nums [a,b])) (iD nm (ia,ib,wd,len) ls)->dw nn ll H H'->Q .non H'
theorem Ny:bF ["self","name","a","b","width","length","added","room"] ["self","name","a","b","width","length"] (aj (bf 1)):=⟨rfl,rfl,rfl,by decide +kernel,rfl,by decide +kernel,by decide +kernel⟩
theorem aa2 {f:Addr}{fd:FuncData}(F:dB K "lay" "NamedHall.lay" (bf 1) f fd)(B:Bl mg)(c:Cl K C)(r:ji K mg R D f0){f1 fi:Addr}{qJ Nz:FuncData}(F1:aW P w K mg base (eE P w) 1 f1 qJ ["name"] (uZ R))(gn:mg "look_at_name"=some (.ref f1))(kn:PySem.W.keepIn K (.ref f1)=true)(bn:Binds K qJ ["name"] [])(Fi:aW P w K mg base dG 1 f0 Nz ["self","place"] (yI (R 0)))(bi:Binds K Nz ["self","place"] []){t60 t40:Tok}(g60:mg "MOST_PASSAGES"=some (.int 60 t60))(g40:mg "MOST_ROOMS"=some (.int 40 t40)):
  aW P w K mg base (eE P w) 3 f fd ["self","name","a","b","width","length"] (tZ C R):=by
 have r2:=r.one 2 (by decide) (by decide)
 have r3:=r.one 3 (by decide) (by decide)
 have nd:=Ny.nd
 have vt:=(show(["self","name","a","b","width","length","added","room"]:List Str).all (λx=>dW (aj (bf 1)) x && plain x)=true by decide +kernel)
 refine Bg (k:=2) F Ny (λvs H Q E h=>by obtain⟨_,_,_,_,_,_,_,_,_,_,_,_,_,_,rfl,_⟩:=h;rfl) λcdv A outer s H vs Q E hr hsp=>?_
 obtain⟨p,dx,nn,ll,nums,ls,nm,a,b,wd,len,b1,b2,b3,rfl,hh,⟨w1,w2,w3⟩,⟨n1,n2,n3⟩,hn1,hn2,hq⟩:=hsp
 have vc:=(show(["room","self"]:List Str).all (λx=>Jt (ajO ((aU (bf 1)).getD 5 (.Pass ⟨0,0,0,0⟩))) x && plain x)=true by decide +kernel)
 refine⟨_,aH (jJ (mC F1 (hr.mono (by decide)) (gl (sc:=aj (bf 1)) (by decide +kernel)) gn kn bn (ak (pV vt 1) aF)))
  (aH (jJ (mC F1 (hr.mono (by decide)) (gl (sc:=aj (bf 1)) (by decide +kernel)) gn kn bn (ak (pV vt 2) aF)))
  (aH (jJ (mC F1 (hr.mono (by decide)) (gl (sc:=aj (bf 1)) (by decide +kernel)) gn kn bn (ak (pV vt 3) aF)))
  (aH (cM (xM (aaC (mW hr) (pV vt 1) (gH (pV vt 0) rfl))) (aM (jH (pK r2.xc r2.ini r2.kp (gl (sc:=aj (bf 1)) (by decide +kernel)) r2.g (ak (oR (dH pL (dH (yC (pV vt 1)) lB))) aF)))) bR)
  (aH (cM (PW.pt (sV (iW jz (pV vt 2) (pV vt 3)) (sV (iW oLt (pV vt 4) au) (rG (iW oLt (pV vt 5) au))))) (aM (jH (agG r.no.xc r.no.ini r.no.fn r.no.kp Fi hr bi (gl (sc:=aj (bf 1)) (by decide +kernel)) r.no.gC (ak oX aF)))) bR)
  (aH (DG (tc:=tB (zE (vR 0) (Jj K (vR 1) "numbers"))) (te:=vR 0) (i:=6) nd rfl (lo (sc:=aj (bf 1)) (by decide +kernel)) (N':=["room","self"]) (cap:=[none,some 0]) ["self","name","a","b","width","length","added","room"] (aj (bf 1)) rfl (by decide +kernel) rfl rfl
   (Li (iQ (ak (pV vt 2) (ak (pV vt 3) aF)))) (λ_ _ _ _ _=>Aw (i:=0) (show(["room","self"]:List Str).Nodup by decide +kernel) (by decide +kernel)) (λ_ _ _ _ _=>Hr (xM (Bb (mW hr) (lH vc 0) (gH (lH vc 1) (by rfl))))) (λ_ _ _ _ _=>lH vc 0))
  (aH (cM (PW.pt (sV (iW Zy (iK jd (bZ J7 (gl (sc:=aj (bf 1)) (by decide +kernel)) B.len PySem.boot_len (ak (gH (pV vt 0) rfl) aF)) au) (oG (v:=.int 60) (gl (sc:=aj (bf 1)) (by decide +kernel)) g60 ⟨_,rfl⟩))
   (rG (iW Zy (iK jd (bZ J7 (gl (sc:=aj (bf 1)) (by decide +kernel)) B.len PySem.boot_len (ak (gH (pV vt 0) rfl) aF)) (bZ jZ (gl (sc:=aj (bf 1)) (by decide +kernel)) B.len PySem.boot_len (ak (pV vt 6) aF))) (oG (v:=.int 40) (gl (sc:=aj (bf 1)) (by decide +kernel)) g40 ⟨_,rfl⟩))))) (aM (jH (pK r3.xc r3.ini r3.kp (gl (sc:=aj (bf 1)) (by decide +kernel)) r3.g (ak (oR (dH pL (dH (yC (pV vt 1)) lB))) aF)))) bR)
  (aH (jD PassesOwn.leaving rfl (lZ (pV vt 6)) (aO (i:=7) nd rfl (lo (sc:=aj (bf 1)) (by decide +kernel))) (aM (zF (mW hr) (gH (pV vt 0) rfl) (pV vt 7) (bZ J7 (gl (sc:=aj (bf 1)) (by decide +kernel)) B.len PySem.boot_len (ak (gH (pV vt 0) rfl) aF)) rfl)))
  (aM (zF (mW hr) (gH (pV vt 0) rfl) (pV vt 1) (iQ (ak (vH (mW hr) (gH (pV vt 0) rfl) (pV vt 2) (λ_ _=>rfl)) (ak (vH (mW hr) (gH (pV vt 0) rfl) (pV vt 3) (λ_ _=>rfl)) (ak (pV vt 4) (ak (pV vt 5) aF))))) rfl))))))))),?_⟩
 have Im:∀{i:Nat}{x:Str} {bx:Bool} {σ:L2.St} {H':Hp} {Q':VK},σ[i]? =some (some (.str x))->Same H H'->dI x->cV x bx->(bx=false->cO R 1 H E)->(bx=true->∀H2,Same H' H2->Q' .non H2)->
   tW (uZ R) (aN (vR i) bA) σ H' Q' λev dx H'=>∀e C T T2,ev=.ref e->H' e=some (cB e C dx (.ref T))->(∀C' tb,H' e=some (cB e C' dx tb)->C'=C)->E (.ref e) dx (L2.upd H' e (cB e C dx (.ref T2))):=λ{i x bx σ H' Q'} e s wx hb q1 q2=>by
  unfold tW aN bA
  refine aB e ⟨x,bx,rfl,wx,hb,?_⟩
  cases bx with
  |true=>rw[if_pos rfl];exact q2 rfl
  |false=>rw[if_neg (by decide)];exact((q1 rfl).le s).on
 have q1:(b1 && b2 && b3)=false->cO R 1 H E:=λh=>by rw[if_pos h] at hq;exact hq
 unfold gA
 try dsimp only
 refine Im rfl (Same.refl _) w1 n1 (λh=>q1 (by rw[h];rfl)) λh1 H1 s1=>?_
 subst h1
 try dsimp only
 refine Im rfl s1 w2 n2 (λh=>q1 (by rw[h];rfl)) λh2 H2 s2=>?_
 subst h2
 try dsimp only
 refine Im rfl (s1.trans s2) w3 n3 (λh=>q1 (by rw[h];rfl)) λh3 H3 s3=>?_
 subst h3
 rw[if_neg (by decide)] at hq
 have Fv:=(s1.trans s2).trans s3
 have hh3:=hh.grow Fv
 obtain⟨kvs,hk,hl⟩:=hh3.laid
 have g:=sE nm hl
 have hkl:=hl.length
 try dsimp only
 unfold d8 tB aaB
 refine aB (v:=.str nm) rfl (gJ (p:=p) rfl hh3.ins c.cl c.n2 rfl ⟨ll,_,rfl,jt.k (k:=.inr nm) hk,_,rfl,?_⟩)
 cases hg:cF nm ls with
 |some q=>
  rw[hg] at g hq
  obtain⟨t,gv,gt⟩:=g
  rw[gv]
  rw[if_pos (by rfl)] at hq
  try dsimp only
  rw[if_pos (by rfl)]
  refine pU r (by decide) (by decide) Fv (λQ' z=>?_) hq
  unfold aN bA Fo
  exact aB (v:=.str nm) rfl ⟨nm,rfl,by have:=w1.len;omega,z⟩
 |none=>
 rw[hg] at g hq
 rw[if_neg (by simp)] at hq
 rw[show iU kvs (.inr nm)=none from g]
 show(if(none:Option V).isSome=true then _ else _)
 rw[if_neg (by simp)]
 unfold dR Dc iB
 try dsimp only
 have bad:∀D':Ends,(a=b\/wd<1\/len<1)->nG K E (Vp (R 0) (yI (R 0)) (aN (tC .non) bA)) D' [some (.ref p),some (.str nm),some (.str a),some (.str b),some (.int wd),some (.int len),none,none] H3:=λD' h=>by
  rw[if_pos h] at hq
  exact agJ r Fv (λQ' z=>z) hq
 refine aB (v:=.str a) rfl (aB (v:=.str b) rfl ⟨rfl,?_⟩)
 show(if decide (V.str a=V.str b)=true then _ else _)
 by_cases hab:a=b
 .rw[if_pos (by simp[hab])]
  exact bad {nx:=λ_ _=>True,rt:=λ_ _=>True} (.inl hab)
 rw[if_neg (by simp[hab])]
 rw[bW.op1]
 refine aB (v:=.int wd) rfl ?_
 show(if decide (wd<1)=true then _ else _)
 by_cases hw:wd<1
 .rw[if_pos (by simp[hw])]
  exact bad {nx:=λ_ _=>True,rt:=λ_ _=>True} (.inr (.inl hw))
 rw[if_neg (by simp[hw])]
 rw[bW.op1]
 refine aB (v:=.int len) rfl ?_
 show(if decide (len<1)=true then _ else _)
 by_cases hl1:len<1
 .rw[if_pos (by simp[hl1])]
  exact bad {nx:=λ_ _=>True,rt:=λ_ _=>True} (.inr (.inr hl1))
 rw[if_neg (by simp[hl1])]
 rw[if_neg (by rintro(z|z|z);exact hab z;exact hw z;exact hl1 z)] at hq
 unfold g8 Hs PL wO aN
 try dsimp only
 refine aB (v:=.str a) rfl (aB (v:=.str b) rfl ⟨by show 2<=sizeLine;decide,λt ht=>⟨t,rfl,⟨_,bM.of ao⟩,?_⟩⟩)
 have s4:=aL (o:=.tup [.str a,.str b]) ht
 have hh4:=hh3.grow s4
 refine lcF (λx=>match x with|.str r=>(cF r nums).isNone|_=>false) (bM.of ao) (by show 2<sizeLine;decide) ?_ (λx=>lG.set lG.refl rfl) (λx Hx R r=>aB rfl r) ?_
 .intro x hx D ys R hD r
  have sD:=aL (o:=.lst ys) hD
  obtain⟨rm,rfl⟩:∃rm,x=.str rm:=by
   rcases List.mem_cons.mp hx with rfl|hx
   .exact⟨_,rfl⟩
   .rw[List.mem_singleton.mp hx];exact⟨_,rfl⟩
  refine aB (v:=.str rm) rfl (gJ (p:=p) rfl ((hh4.grow sD).ins) c.cl c.n1 rfl ⟨nn,_,rfl,jt.k (k:=.inr rm) ((hh4.grow sD).num),_,rfl,?_⟩)
  rw[vK]
  have e:(!(Option.map V.int (cF rm nums)).isSome)=(cF rm nums).isNone:=by cases cF rm nums<;>rfl
  rw[e]
  exact r
 intro D hD
 have eN:List.filter (λx=>match x with|.str r=>(cF r nums).isNone|_=>false) [V.str a,V.str b]=(newOf nums [a,b]).map V.str:=by
  unfold newOf
  rw[show [V.str a,V.str b]=[a,b].map V.str from rfl,List.filter_map]
  rfl
 rw[eN]
 have s5:=aL (o:=.lst ((newOf nums [a,b]).map V.str)) hD
 have NK:=hh4.grow s5
 have hk5:=s5 _ _ (s4 _ _ hk)
 have Vy:upd (upd H3 t (.tup [.str a,.str b])) D (.lst ((newOf nums [a,b]).map V.str)) D=some (.lst ((newOf nums [a,b]).map V.str)):=ao
 have hl5:Paired (uq (upd (upd H3 t (.tup [.str a,.str b])) D (.lst ((newOf nums [a,b]).map V.str)))) kvs ls:=hl.mono λ_ _ z=>z.same λu xs e=>s5 _ _ (s4 _ _ e)
 have Fx:=s4.trans s5
 generalize upd (upd H3 t (.tup [.str a,.str b])) D (.lst ((newOf nums [a,b]).map V.str))=H5 at NK hk5 Vy hl5 Fx ⊢
 have nl:(newOf nums [a,b]).length<=2:=List.length_filter_le _ _
 generalize hN:newOf nums [a,b]=nw at*
 dsimp only[fG]
 rw[bW.op1,bW.op1]
 unfold nq
 refine gJ (p:=p) rfl NK.ins c.cl c.n2 rfl ⟨ll,kvs,rfl,hk5,?_⟩
 have many:∀D':Ends,(60<ls.length+1\/40<nums.length+nw.length)->nG K E (Fg (R 3) λσ H Q=>Fo (vR 1) σ H λH1=>∀y,Q [.str y] H1) D' [some (.ref p),some (.str nm),some (.str a),some (.str b),some (.int wd),some (.int len),some (.ref D),none] H5:=λD' h=>by
  rw[if_pos h] at hq
  refine pU r (by decide) (by decide) (Fv.trans Fx) (λQ' z=>?_) hq
  unfold Fo
  exact aB (v:=.str nm) rfl ⟨nm,rfl,by have:=w1.len;omega,z⟩
 show(if decide ((60:Int)<(kvs.length:Int)+1)=true then _ else _)
 by_cases NP:60<ls.length+1
 .rw[if_pos (by simp;omega)]
  exact many {nx:=λ_ _=>True,rt:=λ_ _=>True} (.inl NP)
 rw[if_neg (by simp;omega)]
 rw[bW.op1]
 unfold dh
 refine gJ (p:=p) rfl NK.ins c.cl c.n1 rfl ⟨nn,_,rfl,NK.num,aB (v:=.ref D) rfl ⟨nw.map V.str,.inl (bQ.of Vy),?_⟩⟩
 show(if decide ((40:Int)<((nums.map iV).length:Int)+((nw.map V.str).length:Int))=true then _ else _)
 by_cases Io:40<nums.length+nw.length
 .rw[if_pos (by rw[List.length_map,List.length_map];simp;omega)]
  exact many {nx:=λ_ _=>True,rt:=λ_ _=>True} (.inr Io)
 rw[if_neg (by rw[List.length_map,List.length_map];simp;omega)]
 rw[if_neg (by omega)] at hq
 obtain⟨ia,ib,ga,gb,hq⟩:=hq
 try dsimp only
 rw[mj]
 unfold sW
 refine aB (v:=.ref D) rfl ⟨D,rfl,⟨_,bQ.of Vy⟩,?_⟩
 refine forL (xs:=nw.map V.str) (λi σ' H'=>(∃y,σ'=[some (.ref p),some (.str nm),some (.str a),some (.str b),some (.int wd),some (.int len),some (.ref D),y])/\cU H' C p dx nn ll (jw nums (nw.take i)) ls/\H' D=some (.lst (nw.map V.str))/\dw nn ll H5 H') ⟨⟨_,rfl⟩,NK,Vy,dw.same (Same.refl _)⟩ (λ_ _ _ _ h=>bQ.of h.2.2.1) ?_ ?_
 .rintro i x σ' H' hx ⟨⟨y,rfl⟩,i1,i2,i3⟩
  rw[List.getElem?_map] at hx
  obtain⟨rm,er,rfl⟩:=Option.map_eq_some_iff.mp hx
  unfold fG Cy
  show Jj K (vR 0) "numbers" [some (.ref p),some (.str nm),some (.str a),some (.str b),some (.int wd),some (.int len),some (.ref D),some (.str rm)] H' _
  refine gJ (p:=p) rfl i1.ins c.cl c.n1 rfl ⟨nn,_,rfl,i1.num,gJ (p:=p) rfl i1.ins c.cl c.n1 rfl (aB (v:=.str rm) rfl ⟨nn,_,rfl,tQ.k (k:=.inr rm) i1.num (dX ?_),?_⟩)⟩
  .have:=Ri (nw.take i) nums
   have:(nw.take i).length<=nw.length:=by rw[List.length_take];omega
   rw[List.length_map];omega
  rw[List.length_map,X5]
  have e:iD rm ((jw nums (nw.take i)).length:Int) (jw nums (nw.take i))=jw nums (nw.take (i+1)):=by
   rw[List.take_succ,er]
   unfold jw
   rw[List.foldl_append]
   rfl
  rw[e]
  refine⟨⟨_,rfl⟩,i1.ajL,?_,i3.trans dw.num⟩
  rw[aq λz=>by have:=i1.num;rw[<-z,i2] at this;cases this];exact i2
 .rintro σ' H' ⟨⟨y,rfl⟩,i1,i2,i3⟩
  rw[List.length_map,List.take_of_length_le (Nat.le_refl _)] at i1
  obtain⟨kv2,hk2,hl2⟩:=i1.laid
  have apJ:=hl2.length
  dsimp only
  unfold Cy Cw
  refine gJ (p:=p) rfl i1.ins c.cl c.n1 rfl (aB (v:=.str a) rfl ⟨nn,.int ia,rfl,?_,?_⟩)
  .have:=jt.k (k:=.inr a) i1.num
   rw[vK,ga] at this
   exact this
  refine gJ (p:=p) rfl i1.ins c.cl c.n1 rfl (aB (v:=.str b) rfl ⟨nn,.int ib,rfl,?_,?_⟩)
  .have:=jt.k (k:=.inr b) i1.num
   rw[vK,gb] at this
   exact this
  refine aB (v:=.int wd) rfl (aB (v:=.int len) rfl ⟨by show 4<=sizeLine;decide,λt' ht'=>?_⟩)
  have s6:=aL (o:=.tup [.int ia,.int ib,.int wd,.int len]) ht'
  have hh6:=i1.grow s6
  have pX:=s6 _ _ hk2
  refine gJ (p:=p) rfl hh6.ins c.cl c.n2 rfl (aB (v:=.str nm) rfl ⟨ll,_,rfl,tQ.k (k:=.inr nm) pX (dX (by omega)),?_⟩)
  refine hq _ (hh6.put pX (Nq (q:=(ia,ib,wd,len)) ao (hl2.mono λ_ _ z=>z.same λu xs e=>s6 _ _ e))) ?_
  exact((((dw.same Fv).trans (dw.same Fx)).trans i3).trans (dw.same s6)).trans (dw.put pX)
end
end bW
namespace bW
open PySem PySem.Spec PyProof.Rows L2 VM EX
set_option maxHeartbeats 4000000
section
variable {P:Program}{w:World}{K:PySem.W.Frag}{mg:Str->Option Value}{base:Heap}{C D f0:Addr}{R:Nat->Addr}
noncomputable def CG (C:Addr)(R:Nat->Addr):Sp:=λvs H Q E=>∃x dx a b b1 b2,vs=[.ref x,.str a,.str b]/\H x=some (.ins C dx [])/\(dI a/\dI b)/\(cV a b1/\cV b b2)/\
 if(b1 && b2)=false then cO R 1 H E else if a=b then cO R 2 H E else ∀H' nn ll,cU H' C x dx nn ll [(a,0),(b,1)] []->(∀c o,c≠x->H c=some o->H' c=some o)->H nn=none->H ll=none->Q .non H'
theorem aa4:bF ["self","start","goal"] ["self","start","goal"] (aj (bf 0)):=⟨rfl,rfl,rfl,by decide +kernel,rfl,by decide +kernel,by decide +kernel⟩
theorem aa5 {f:Addr}{fd:FuncData}(F:dB K "__init__" "NamedHall.__init__" (bf 0) f fd)(c:Cl K C)(r:ji K mg R D f0){f1:Addr}{qJ:FuncData}(F1:aW P w K mg base (eE P w) 1 f1 qJ ["name"] (uZ R))(gn:mg "look_at_name"=some (.ref f1))(kn:PySem.W.keepIn K (.ref f1)=true)(bn:Binds K qJ ["name"] []){t0 t1:Tok}(g0:mg "START"=some (.int 0 t0))(g1:mg "GOAL"=some (.int 1 t1)):
  aW P w K mg base (eE P w) 2 f fd ["self","start","goal"] (CG C R):=by
 have r2:=r.one 2 (by decide) (by decide)
 have vt:=(show(["self","start","goal"]:List Str).all (λx=>dW (aj (bf 0)) x && plain x)=true by decide +kernel)
 refine Bg (k:=1) F aa4 (λvs H Q E h=>by obtain⟨_,_,_,_,_,_,rfl,_⟩:=h;rfl) λcdv A outer s H vs Q E hr hsp=>?_
 obtain⟨x,dx,a,b,b1,b2,rfl,hx,⟨w1,w2⟩,⟨n1,n2⟩,hq⟩:=hsp
 refine⟨_,aH (jJ (mC F1 (hr.mono (by decide)) (gl (sc:=aj (bf 0)) (by decide +kernel)) gn kn bn (ak (pV vt 1) aF)))
  (aH (jJ (mC F1 (hr.mono (by decide)) (gl (sc:=aj (bf 0)) (by decide +kernel)) gn kn bn (ak (pV vt 2) aF)))
  (aH (cM (iW jz (pV vt 1) (pV vt 2)) (aM (jH (pK r2.xc r2.ini r2.kp (gl (sc:=aj (bf 0)) (by decide +kernel)) r2.g (ak bV aF)))) bR)
  (aH (Lp (pV vt 0) (Xw (L2.dH (pV vt 1) (oG (v:=.int 0) (gl (sc:=aj (bf 0)) (by decide +kernel)) g0 ⟨_,rfl⟩) (L2.dH (pV vt 2) (oG (v:=.int 1) (gl (sc:=aj (bf 0)) (by decide +kernel)) g1 ⟨_,rfl⟩) L2.lB)) rfl rfl (by simp) (by decide)) rfl)
  (aM (Lp (pV vt 0) QW rfl))))),?_⟩
 have Im:∀{i:Nat}{x:Str} {bx:Bool} {σ:L2.St} {H':Hp} {Q':VK},σ[i]? =some (some (.str x))->Same H H'->dI x->cV x bx->(bx=false->cO R 1 H E)->(bx=true->∀H2,Same H' H2->Q' .non H2)->
   tW (uZ R) (aN (vR i) bA) σ H' Q' λev dx H'=>∀e C T T2,ev=.ref e->H' e=some (cB e C dx (.ref T))->(∀C' tb,H' e=some (cB e C' dx tb)->C'=C)->E (.ref e) dx (L2.upd H' e (cB e C dx (.ref T2))):=λ{i x bx σ H' Q'} e s wx hb q1 q2=>by
  unfold tW aN bA
  refine aB e ⟨x,bx,rfl,wx,hb,?_⟩
  cases bx with
  |true=>rw[if_pos rfl];exact q2 rfl
  |false=>rw[if_neg (by decide)];exact((q1 rfl).le s).on
 have q1:(b1 && b2)=false->cO R 1 H E:=λh=>by rw[if_pos h] at hq;exact hq
 unfold gA
 try dsimp only
 refine Im rfl (Same.refl _) w1 n1 (λh=>q1 (by rw[h];rfl)) λh1 H1 s1=>?_
 subst h1
 try dsimp only
 refine Im rfl s1 w2 n2 (λh=>q1 (by rw[h];rfl)) λh2 H2 s2=>?_
 subst h2
 rw[if_neg (by decide)] at hq
 have s12:=s1.trans s2
 have hx2:=s12 _ _ hx
 try dsimp only
 unfold d8 iB
 refine aB (v:=.str a) rfl (aB (v:=.str b) rfl ⟨rfl,?_⟩)
 show(if decide (V.str a=V.str b)=true then _ else _)
 by_cases hab:a=b
 .rw[if_pos hab] at hq
  rw[if_pos (by simp[hab])]
  exact pU r (by decide) (by decide) s12 (λQ' z=>z _) hq
 rw[if_neg hab] at hq
 rw[if_neg (by simp[hab])]
 unfold dR
 try dsimp only
 unfold Zb Vk
 intro d hd
 have hxd:x≠d:=aR hx2 hd
 unfold rW rW rW tC
 refine aB (v:=.str a) rfl (aB (v:=.str b) rfl ⟨ao,[(.inr a,.int 0),(.inr b,.int 1)],rfl,by simp,?_⟩)
 rw[G4]
 have eM:pJ [] [((Sum.inr a:Key),V.int 0),(.inr b,.int 1)]=([(a,0),(b,1)]:List (Str×Int)).map iV:=by
  have:¬(Sum.inr a:Key)=Sum.inr b:=λz=>hab (Sum.inr.inj z)
  unfold pJ
  rw[List.foldl_cons,List.foldl_cons,List.foldl_nil]
  unfold putK
  simp[this,iV]
 rw[eM]
 refine aB (v:=.ref x) rfl ⟨x,C,dx,[],rfl,by rw[aq hxd];exact hx2,c.cl,c.n1,by decide,?_⟩
 intro e he
 have hxe:x≠e:=λz=>by subst z;rw[ao] at he;cases he
 have hde:d≠e:=λz=>by subst z;rw[aq hxd.symm,ao] at he;cases he
 refine aB (v:=.ref x) rfl ⟨x,C,dx,_,rfl,by rw[aq hxe,ao],c.cl,c.n2,by show 1<1000;decide,?_⟩
 have he2:H2 e=none:=by
  rw[aq hxe.symm,aq hde.symm] at he;exact he
 refine hq _ d e ⟨?_,?_,⟨[],?_,.nil⟩,hde⟩ (λc o hc e1=>?_) (s12.free hd) (s12.free he2)
 .rw[ao];rfl
 .rw[aq hxd.symm,aq hde,aq hxd.symm,ao]
 .rw[aq hxe.symm,ao]
 .have e2:=s12 _ _ e1
  have z1:c≠e:=λz=>by subst z;rw[he2] at e2;cases e2
  have z2:c≠d:=λz=>by subst z;rw[hd] at e2;cases e2
  rw[aq hc,aq z1,aq hc,aq z2]
  exact e2
end
end bW
namespace bW
open PySem PySem.Spec PyProof.Rows L2 VM EX
set_option maxHeartbeats 4000000
inductive aX where
 |lay (nm a b:Str) (w l:Int)
 |shut (nm:Str)
 |widen (nm:Str) (k:Int)
 |narrow (nm:Str) (k:Int)
noncomputable def aX.vals:aX->List V
 |.lay nm a b w l=>[.str "lay",.str nm,.str a,.str b,.int w,.int l]
 |.shut nm=>[.str "shut",.str nm]
 |.widen nm k=>[.str "widen",.str nm,.int k]
 |.narrow nm k=>[.str "narrow",.str nm,.int k]
noncomputable def aX.nm:aX->Str
 |.lay nm _ _ _ _=>nm
 |.shut nm=>nm
 |.widen nm _=>nm
 |.narrow nm _=>nm
noncomputable def aX.word:aX->Str
 |.lay _ _ _ _ _=>"lay"
 |.shut _=>"shut"
 |.widen _ _=>"widen"
 |.narrow _ _=>"narrow"
theorem aX.at0 (d:aX):cT d.vals 0=some (.str d.word):=by cases d<;>rfl
theorem aX.at1 (d:aX):cT d.vals 1=some (.str d.nm):=by cases d<;>rfl
theorem eF {K:PySem.W.Frag}{i:Nat}{j:Int}{σ:L2.St}{H:Hp}{Q:VK}{t:Addr}{xs:List V}{v:V}(e:σ[i]? =some (some (.ref t)))(h:bM K H t xs)(a:cT xs j=some v)(q:Q v H):dh (qu K) (vR i) (tC (.int j)) σ H Q:=
 aB e ⟨xs,v,h,a,q⟩
theorem CJ {K:PySem.W.Frag}{ta tb:TE}{σ:L2.St}{H:Hp}{Q:Bool->Hp->Prop}{x y:Str}(ha:∀R:VK,R (.str x) H->ta σ H R)(hb:∀R:VK,R (.str y) H->tb σ H R)(q:Q (decide (x=y)) H):iB (dh Lk ta tb) σ H Q:=by
 unfold iB dh
 refine ha _ (hb _ ⟨rfl,?_⟩)
 have e:decide (V.str x=V.str y)=decide (x=y):=decide_eq_decide.mpr ⟨λh=>V.str.inj h,λh=>by rw[h]⟩
 rw[e]
 exact q
section
variable {P:Program}{w:World}{K:PySem.W.Frag}{mg:Str->Option Value}{base:Heap}{C:Addr}{R:Nat->Addr}
noncomputable def aX.sp (C:Addr)(R:Nat->Addr)(p:Addr):aX->Hp->VK->XK->Prop
 |.lay nm a b w l,H,Q,E=>tZ C R [.ref p,.str nm,.str a,.str b,.int w,.int l] H Q E
 |.shut nm,H,Q,E=>pW C R [.ref p,.str nm] H Q E
 |.widen nm k,H,Q,E=>vM C R [.ref p,.str nm,.int k] H Q E
 |.narrow nm k,H,Q,E=>tY C R [.ref p,.str nm,.int k] H Q E
theorem aX.on {p:Addr}{d:aX}{H:Hp}{Q:VK}{E:XK}(h:d.sp C R p H Q E):d.sp C R p H Q λev dx H'=>∀e C T T2,ev=.ref e->H' e=some (cB e C dx (.ref T))->(∀C' tb,H' e=some (cB e C' dx tb)->C'=C)->E (.ref e) dx (L2.upd H' e (cB e C dx (.ref T2))):=by
 cases d with
 |lay nm a b w l=>
  obtain⟨p',dx,nn,ll,nums,ls,nm',a',b',wd,len,b1,b2,b3,e,hh,ww,nn',h1,h2,hq⟩:=h
  refine⟨p',dx,nn,ll,nums,ls,nm',a',b',wd,len,b1,b2,b3,e,hh,ww,nn',h1,h2,?_⟩
  split at hq
  .rename_i c1;rw[if_pos c1];exact hq.on
  .rename_i c1
   rw[if_neg c1]
   split at hq
   .rename_i c2;rw[if_pos c2];exact hq.on
   .rename_i c2
    rw[if_neg c2]
    split at hq
    .rename_i c3;rw[if_pos c3];exact hq.on
    .rename_i c3
     rw[if_neg c3]
     split at hq
     .rename_i c4;rw[if_pos c4];exact hq.on
     .rename_i c4;rw[if_neg c4];exact hq
 |shut nm=>
  obtain⟨p',dx,nn,ll,nums,ls,nm',e,hh,ww,hq⟩:=h
  refine⟨p',dx,nn,ll,nums,ls,nm',e,hh,ww,?_⟩
  cases hg:cF nm' ls with
  |none=>rw[hg] at hq;exact hq.on
  |some q=>rw[hg] at hq;exact hq
 |widen nm k=>
  obtain⟨p',dx,nn,ll,nums,ls,nm',ch,e,hh,ww,fw,hn,hq⟩:=h
  refine⟨p',dx,nn,ll,nums,ls,nm',ch,e,hh,ww,fw,hn,?_⟩
  cases hg:cF nm' ls with
  |none=>rw[hg] at hq;exact hq.on
  |some q=>
   rw[hg] at hq
   dsimp only at hq ⊢
   split at hq
   .rename_i c1;rw[if_pos c1];exact hq.on
   .rename_i c1;rw[if_neg c1];exact hq
 |narrow nm k=>
  obtain⟨p',dx,nn,ll,nums,ls,nm',ch,e,hh,ww,fw,hn,hq⟩:=h
  refine⟨p',dx,nn,ll,nums,ls,nm',ch,e,hh,ww,fw,hn,?_⟩
  cases hg:cF nm' ls with
  |none=>rw[hg] at hq;exact hq.on
  |some q=>
   rw[hg] at hq
   dsimp only at hq ⊢
   split at hq
   .rename_i c1;rw[if_pos c1];exact hq.on
   .rename_i c1;rw[if_neg c1];exact hq
noncomputable def Fy (K:PySem.W.Frag)(C:Addr)(R:Nat->Addr):Sp:=λvs H Q E=>∃p dx nn ll t d,vs=[.ref p,.ref t]/\H p=some (.ins C dx [("numbers",.ref nn),("laid",.ref ll)])/\bM K H t (aX.vals d)/\d.sp C R p H Q E
theorem agL:bF ["_law_hall","_law_deed_here"] ["_law_hall","_law_deed_here"] (aj (top 26)):=⟨rfl,rfl,rfl,by decide +kernel,rfl,by decide +kernel,by decide +kernel⟩
structure Ms (P:Program)(w:World)(K:PySem.W.Frag)(mg:Str->Option Value)(base:Heap)(C:Addr)(lv:Nat)(m:Str)(ps:List Str)(sp:Sp):Prop where
 ex:∃f fd,aW P w K mg base (eE P w) lv f fd ps sp/\Meth K C m f/\Binds K fd ps []
theorem agM {f:Addr}{fd:FuncData}(F:dB K "_law_do" "_law_do" (top 26) f fd)(c:Cl K C)(Ml:Ms P w K mg base C 3 "lay" ["self","name","a","b","width","length"] (tZ C R))(Msh:Ms P w K mg base C 2 "shut" ["self","name"] (pW C R))
  (Mw:Ms P w K mg base C 2 "widen" ["self","name","more"] (vM C R))(Mn:Ms P w K mg base C 2 "narrow" ["self","name","less"] (tY C R)):aW P w K mg base (eE P w) 4 f fd ["_law_hall","_law_deed_here"] (Fy K C R):=by
 have vt:=(show(["_law_hall","_law_deed_here"]:List Str).all (λx=>dW (aj (top 26)) x && plain x)=true by decide +kernel)
 obtain⟨fl,fdl,Fl,ml,bl⟩:=Ml.ex
 obtain⟨fs,fds,Fs,ms,bs⟩:=Msh.ex
 obtain⟨fw,fdw,Fw,mw,bw⟩:=Mw.ex
 obtain⟨fn,fdn,Fn',mn,bn⟩:=Mn.ex
 refine Bg (k:=3) F agL (λvs H Q E h=>by obtain⟨_,_,_,_,_,_,rfl,_⟩:=h;rfl) λcdv A outer s H vs Q E hr hsp=>?_
 obtain⟨p,dx,nn,ll,t,d,rfl,hp,ht,hd⟩:=hsp
 refine⟨_,aH (cM (iW jz (bB fP (pV vt 1) au) bV) (aM (vJ (mD (pV vt 0) c.cl ml Fl (hr.mono (by decide)) bl (ak (bB fP (pV vt 1) au) (ak (bB fP (pV vt 1) au) (ak (bB fP (pV vt 1) au) (ak (bB fP (pV vt 1) au) (ak (bB fP (pV vt 1) au) aF)))))))) bR)
  (aH (cM (iW jz (bB fP (pV vt 1) au) bV) (aM (vJ (mD (pV vt 0) c.cl ms Fs (hr.mono (by decide)) bs (ak (bB fP (pV vt 1) au) aF)))) bR)
  (aH (cM (iW jz (bB fP (pV vt 1) au) bV) (aM (vJ (mD (pV vt 0) c.cl mw Fw (hr.mono (by decide)) bw (ak (bB fP (pV vt 1) au) (ak (bB fP (pV vt 1) au) aF))))) bR)
  (aM (vJ (mD (pV vt 0) c.cl mn Fn' (hr.mono (by decide)) bn (ak (bB fP (pV vt 1) au) (ak (bB fP (pV vt 1) au) aF))))))),?_⟩
 have word:∀(y:Str) (R:Bool->Hp->Prop),R (decide (d.word=y)) H->iB (dh Lk (dh (qu K) (vR 1) (tC (.int 0))) (tC (.str y))) (L2.start ["_law_hall","_law_deed_here"] [.ref p,.ref t]) H R:=λy R r=>CJ (K:=K) (λR r=>eF (t:=t) rfl ht d.at0 r) (λR r=>r) r
 have hd:=aX.on hd
 unfold gA d8
 refine word _ _ ?_
 cases d with
 |lay nm a b w l=>
  rw[if_pos (show decide ((aX.lay nm a b w l).word="lay")=true from(by decide +kernel:decide (("lay":Str)="lay")=true))]
  unfold qD aN bA
  exact aB (v:=.ref p) rfl ⟨p,dx,_,rfl,hp,rfl,eF (t:=t) rfl ht rfl (eF (t:=t) rfl ht rfl (eF (t:=t) rfl ht rfl (eF (t:=t) rfl ht rfl (eF (t:=t) rfl ht rfl hd))))⟩
 |shut nm=>
  rw[if_neg (show ¬decide ((aX.shut nm).word="lay")=true from(by decide +kernel:¬decide (("shut":Str)="lay")=true))]
  unfold dR
  dsimp only
  refine word _ _ ?_
  rw[if_pos (show decide ((aX.shut nm).word="shut")=true from(by decide +kernel:decide (("shut":Str)="shut")=true))]
  unfold qD aN bA
  exact aB (v:=.ref p) rfl ⟨p,dx,_,rfl,hp,rfl,eF (t:=t) rfl ht rfl hd⟩
 |widen nm k=>
  rw[if_neg (show ¬decide ((aX.widen nm k).word="lay")=true from(by decide +kernel:¬decide (("widen":Str)="lay")=true))]
  unfold dR
  dsimp only
  refine word _ _ ?_
  rw[if_neg (show ¬decide ((aX.widen nm k).word="shut")=true from(by decide +kernel:¬decide (("widen":Str)="shut")=true))]
  refine word _ _ ?_
  rw[if_pos (show decide ((aX.widen nm k).word="widen")=true from(by decide +kernel:decide (("widen":Str)="widen")=true))]
  unfold qD aN bA
  exact aB (v:=.ref p) rfl ⟨p,dx,_,rfl,hp,rfl,eF (t:=t) rfl ht rfl (eF (t:=t) rfl ht rfl hd)⟩
 |narrow nm k=>
  rw[if_neg (show ¬decide ((aX.narrow nm k).word="lay")=true from(by decide +kernel:¬decide (("narrow":Str)="lay")=true))]
  unfold dR
  dsimp only
  refine word _ _ ?_
  rw[if_neg (show ¬decide ((aX.narrow nm k).word="shut")=true from(by decide +kernel:¬decide (("narrow":Str)="shut")=true))]
  refine word _ _ ?_
  rw[if_neg (show ¬decide ((aX.narrow nm k).word="widen")=true from(by decide +kernel:¬decide (("narrow":Str)="widen")=true))]
  unfold qD aN bA
  exact aB (v:=.ref p) rfl ⟨p,dx,_,rfl,hp,rfl,eF (t:=t) rfl ht rfl (eF (t:=t) rfl ht rfl hd)⟩
end
end bW
namespace bW
open PySem PySem.Spec PyProof.Rows L2 VM EX
set_option maxHeartbeats 4000000
section
variable {P:Program}{w:World}{K:PySem.W.Frag}{mg:Str->Option Value}{base:Heap}{D f0:Addr}{R:Nat->Addr}
structure aa8 (K:PySem.W.Frag)(mg:Str->Option Value)(R:Nat->Addr):Prop where
 one:∀j k,j<=6->k<=6->PySem.W.kitOne K (.ref (R k)) (.ref (R j))=some (decide (j=k))
 val:∀k,k<=6->PySem.W.kitOne K (.ref (R k)) (.type "ValueError")=some true
 nv:mg "ValueError"=none
theorem ji.g (c:ji K mg R D f0)(k:Nat)(h:k<=6):mg (Vt k)=some (.ref (R k)):=by
 cases k with
 |zero=>exact c.no.gC
 |succ k=>exact(c.one (k+1) (by omega) h).g
theorem ji.xi (c:ji K mg R D f0)(k:Nat)(h:k<=6):XI K (R k):=by
 cases k with
 |zero=>exact c.no.xi
 |succ k=>exact(c.one (k+1) (by omega) h).xi
theorem ju.dct {k:Nat}{H:Hp}{e:Addr}{dx:Option Addr}(h:ju R k H e dx):∀d,dx=some d->∃fs,H d=some (.xd fs):=by
 obtain⟨_,b⟩:=h
 cases k with
 |zero=>obtain⟨d,b1,b2⟩:=b;intro d' z;rw[b1] at z;cases z;exact⟨_,b2⟩
 |succ k=>intro d' z;rw[show dx=none from b] at z;cases z
noncomputable def u0 (R:Nat->Addr):Sp:=λvs H Q _=>∃e dx k,vs=[.ref e,.int ((k:Nat):Int)]/\k<=6/\ju R k H e dx/\∀H',Same H H'->Q (.bl true) H'
theorem Vz:bF ["_law_caught_here","_law_at","_law_told"] ["_law_caught_here","_law_at"] (aj (top 28)):=⟨rfl,rfl,rfl,by decide +kernel,rfl,by decide +kernel,by decide +kernel⟩
theorem aa9 {te:TE}{σ:L2.St}{H:Hp}{Q:VK}{e:Addr}{dx:Option Addr}{k:Nat}{cv:V}{cl:Value}{b:Bool}(ht:∀Z:VK,Z (.ref e) H->te σ H Z)(x:ju R k H e dx)(xi:XI K (R k))(hc:∀u,RelV cv u->u=cl)(hk:PySem.W.kitOne K (.ref (R k)) cl=some b)(q:Q (.bl b) H):
  nq (J4 K) (aN te (aN (tC cv) bA)) σ H Q:=by
 unfold nq aN bA tC
 obtain⟨tb,h1⟩:=x.1
 exact ht _ ⟨e,R k,dx,tb,cv,cl,b,rfl,hc,h1,x.dct,xi,hk,q⟩
theorem agN {f f0:Addr}{fd:FuncData}(F:dB K "_law_is" "_law_is" (top 28) f fd)(B:Bl mg)(KT:kW K)(c:ji K mg R D f0)(o:aa8 K mg R):aW P w K mg base dG 2 f fd ["_law_caught_here","_law_at"] (u0 R):=by
 have nd:=Vz.nd
 have vt:=(show(["_law_caught_here","_law_at","_law_told"]:List Str).all (λx=>dW (aj (top 28)) x && plain x)=true by decide +kernel)
 have g1:=c.g 1 (by decide)
 have g2:=c.g 2 (by decide)
 have g3:=c.g 3 (by decide)
 have g4:=c.g 4 (by decide)
 have g5:=c.g 5 (by decide)
 have g6:=c.g 6 (by decide)
 refine dB.ok (k:=1) F Vz (λvs H Q E h=>by obtain⟨_,_,_,rfl,_⟩:=h;rfl) λcdv A outer s H vs Q E hr hsp=>?_
 have Fz:∀{x:Str}{a:Addr} {p p2 p3 pos:Pos},Gl (fW dG P w K mg base ["_law_caught_here","_law_at","_law_told"] "_law_is" (aj (top 28)) f cdv A outer s H E).oY x->mg x=some (.ref a)->(x==("__debug__":Str))=false->
   PE (fW dG P w K mg base ["_law_caught_here","_law_at","_law_told"] "_law_is" (aj (top 28)) f cdv A outer s H E).oY (.Call (.Name "isinstance" p) [.Name "_law_caught_here" p2,.Name x p3] [] pos) (nq (J4 K) (aN (vR 0) (aN (tC (.ref a)) bA))):=λhg hm hd=>
  bZ aaW (gl (sc:=aj (top 28)) (by decide +kernel)) B.isinstance boot_isinstance (ak (pV vt 0) (ak (oG hg hm rfl hd) aF))
 refine⟨_,aH (fV (i:=2) nd rfl (lo (sc:=aj (top 28)) (by decide +kernel)) (ni (ak (Fz (gl (sc:=aj (top 28)) (by decide +kernel)) (c.g 0 (by decide)) (by decide)) (ak (Fz (gl (sc:=aj (top 28)) (by decide +kernel)) g1 (by decide)) (ak (Fz (gl (sc:=aj (top 28)) (by decide +kernel)) g2 (by decide)) aF)))))
  (aH (fV (i:=2) nd rfl (lo (sc:=aj (top 28)) (by decide +kernel)) (iK zA (pV vt 2) (ni (ak (Fz (gl (sc:=aj (top 28)) (by decide +kernel)) g3 (by decide)) (ak (Fz (gl (sc:=aj (top 28)) (by decide +kernel)) g4 (by decide)) (ak (Fz (gl (sc:=aj (top 28)) (by decide +kernel)) g5 (by decide)) aF))))))
  (aH (fV (i:=2) nd rfl (lo (sc:=aj (top 28)) (by decide +kernel)) (iK zA (pV vt 2) (ni (ak (Fz (gl (sc:=aj (top 28)) (by decide +kernel)) g6 (by decide)) aF))))
  (aH (cM (j4 (uL hr.units) hNe (mw (dN (pV vt 2))) (nw (HD (vq (te:=tV K RS _) (tc:=gR K _) (g:=rQ K _ _) (N':=["_law_k","_law_at"]) (cap:=[none,some 1]) ["_law_caught_here","_law_at","_law_told"] (aj (top 28)) rfl (by decide +kernel) rfl rfl (Qv (uG (gl (sc:=(aj (top 28))) (by decide +kernel)) B.range (lK (sw aA) lW))) (λ_ _ _ _ _=>(dZ (Aw (i:=0) (show(["_law_k","_law_at"]:List Str).Nodup by decide +kernel) (by decide +kernel)))) (λ_ _ _ _ _=>HB) (λ_ _ _ _ _=>(Qp (kh hr.units) hEq (mw (dN (lH (by decide +kernel) 0))) (mw (dN (lH (by decide +kernel) 1)))))))))
   (aM (cN iY)) bR)
  (aM (cN (afN (YS (Qp (kh hr.units) hEq (mw (dN (pV vt 1))) (sw aA)) (xO (YM (Le (pV vt 0))))) (xO (bZ aaW (gl (sc:=aj (top 28)) (by decide +kernel)) B.isinstance boot_isinstance (ak (pV vt 0) (ak (Ww (v:=.ty "ValueError") (gl (sc:=aj (top 28)) (by decide +kernel)) o.nv (by decide +kernel) rfl) aF)))))))))),?_⟩
 obtain⟨e,dx,k,rfl,pX,ex,hq⟩:=hsp
 unfold gA g8 zm fG dh
 have go:∀{H':Hp}{x:Option V} {j:Nat} {Q':VK},j<=6->Same H H'->Q' (.bl (decide (j=k))) H'->nq (J4 K) (aN (vR 0) (aN (tC (.ref (R j))) bA)) [some (.ref e),some (.int (k:Int)),x] H' Q':=λhj sm q=>
  aa9 (λZ z=>aB (v:=.ref e) rfl z) (ex.grow sm) (c.xi k pX) (λu z=>z) (o.one _ k hj pX) q
 refine go (by decide) (Same.refl _) (go (by decide) (Same.refl _) (go (by decide) (Same.refl _) ⟨by show 3<=sizeLine;decide,λp1 hp1=>?_⟩))
 have s1:=aL (o:=.lst [.bl (decide (0=k)),.bl (decide (1=k)),.bl (decide (2=k))]) hp1
 dsimp only
 refine aB (v:=.ref p1) rfl ?_
 refine go (by decide) s1 (go (by decide) s1 (go (by decide) s1 ⟨by show 3<=sizeLine;decide,λp2 hp2=>?_⟩))
 have s2:=aL (o:=.lst [.bl (decide (3=k)),.bl (decide (4=k)),.bl (decide (5=k))]) hp2
 refine⟨p1,p2,_,_,rfl,rfl,bQ.of (s2 _ _ ao),bQ.of ao,by show 6<=sizeLine;decide,λp3 hp3=>?_⟩
 have s3:=aL (o:=.lst ([.bl (decide (0=k)),.bl (decide (1=k)),.bl (decide (2=k))]++[.bl (decide (3=k)),.bl (decide (4=k)),.bl (decide (5=k))])) hp3
 have s13:=(s1.trans s2).trans s3
 dsimp only
 refine aB (v:=.ref p3) rfl ?_
 refine go (by decide) s13 ⟨by show 1<=sizeLine;decide,λp4 hp4=>?_⟩
 have s4:=aL (o:=.lst [.bl (decide (6=k))]) hp4
 refine⟨p3,p4,_,_,rfl,rfl,bQ.of (s4 _ _ ao),bQ.of ao,by show 7<=sizeLine;decide,λp5 hp5=>?_⟩
 have s5:=aL (o:=.lst (([.bl (decide (0=k)),.bl (decide (1=k)),.bl (decide (2=k))]++[.bl (decide (3=k)),.bl (decide (4=k)),.bl (decide (5=k))])++[.bl (decide (6=k))])) hp5
 have s15:=(s13.trans s4).trans s5
 have h5:L2.upd (L2.upd (L2.upd (L2.upd (L2.upd H p1 (.lst [.bl (decide (0=k)),.bl (decide (1=k)),.bl (decide (2=k))])) p2 (.lst [.bl (decide (3=k)),.bl (decide (4=k)),.bl (decide (5=k))])) p3 (.lst ([.bl (decide (0=k)),.bl (decide (1=k)),.bl (decide (2=k))]++[.bl (decide (3=k)),.bl (decide (4=k)),.bl (decide (5=k))]))) p4 (.lst [.bl (decide (6=k))])) p5 (.lst (([.bl (decide (0=k)),.bl (decide (1=k)),.bl (decide (2=k))]++[.bl (decide (3=k)),.bl (decide (4=k)),.bl (decide (5=k))])++[.bl (decide (6=k))])) p5=some (.lst (([.bl (decide (0=k)),.bl (decide (1=k)),.bl (decide (2=k))]++[.bl (decide (3=k)),.bl (decide (4=k)),.bl (decide (5=k))])++[.bl (decide (6=k))])):=ao
 generalize L2.upd (L2.upd (L2.upd (L2.upd (L2.upd H p1 (.lst [.bl (decide (0=k)),.bl (decide (1=k)),.bl (decide (2=k))])) p2 (.lst [.bl (decide (3=k)),.bl (decide (4=k)),.bl (decide (5=k))])) p3 (.lst ([.bl (decide (0=k)),.bl (decide (1=k)),.bl (decide (2=k))]++[.bl (decide (3=k)),.bl (decide (4=k)),.bl (decide (5=k))]))) p4 (.lst [.bl (decide (6=k))])) p5 (.lst (([.bl (decide (0=k)),.bl (decide (1=k)),.bl (decide (2=k))]++[.bl (decide (3=k)),.bl (decide (4=k)),.bl (decide (5=k))])++[.bl (decide (6=k))]))=H5 at s15 h5 ⊢
 have fr:EX.cY K H5 [none,some (Tg.fr,.int (k:Int)),some (Tg.fr,.list [.bool (decide (0=k)),.bool (decide (1=k)),.bool (decide (2=k)),.bool (decide (3=k)),.bool (decide (4=k)),.bool (decide (5=k)),.bool (decide (6=k))])] [some (.ref e),some (.int (k:Int)),some (.ref p5)]:=
  ⟨some (.ref e),_,rfl,.int (k:Int),_,rfl,rfl,rfl,.ref p5,_,rfl,rfl,⟨p5,_,rfl,bQ.of h5,_,_,rfl,rfl,_,_,rfl,rfl,_,_,rfl,rfl,_,_,rfl,rfl,_,_,rfl,rfl,_,_,rfl,rfl,_,_,rfl,rfl,rfl⟩,rfl⟩
 dsimp only
 unfold d8
 refine EX.Fd (b:=false) fr ?_ λH6 s6=>?_
 .walk_at "e0"
  rw[if_pos (by decide)]
  walk_at "e0"
  rw[qx (by rfl) (by show 7<sizeLine;decide)]
  rw[lu (f:=λd=>match d with|.int j=>.bool (decide (j=(k:Int)))|d=>d)]
  .walk_at "e0"
   have hk:k=0\/k=1\/k=2\/k=3\/k=4\/k=5\/k=6:=by omega
   rcases hk with rfl|rfl|rfl|rfl|rfl|rfl|rfl<;>rfl
  .intro d hd
   have hd':d∈[PyData.int 0,.int 1,.int 2,.int 3,.int 4,.int 5,.int 6]:=hd
   simp only[List.mem_cons,List.not_mem_nil,or_false] at hd'
   rcases hd' with rfl|rfl|rfl|rfl|rfl|rfl|rfl
   all_goals
    refine⟨_,rfl,rfl,?_⟩
    walk_at "e0"
 rw[if_neg (by decide)]
 unfold dR qN YQ Uu
 refine EX.vI (fr.grow s6) (d:=.bool false) ?_ λx H7 s7 hx=>?_
 .walk_at "e0"
  have:¬(k:Int)=7:=by omega
  simp[this]
 cases(show x=.bl false from hx)
 refine⟨false,rfl,?_⟩
 rw[if_neg (by decide)]
 refine⟨false,rfl,?_⟩
 rw[if_neg (by decide)]
 have s17:=(s15.trans s6).trans s7
 exact aa9 (λZ z=>aB (v:=.ref e) rfl z) (ex.grow s17) (c.xi k pX) (λu z=>z) (o.val k pX) (hq _ s17)
end
end bW
namespace bW
open PySem PySem.Spec PyProof.Rows L2 VM EX
set_option maxHeartbeats 4000000
section
variable {P:Program}{w:World}{K:PySem.W.Frag}{mg:Str->Option Value}{base:Heap}{C D f0:Addr}{R:Nat->Addr}
noncomputable def sH (C:Addr)(R:Nat->Addr)(p:Addr)(d:aX)(k:Nat)(H:Hp):Prop:=k<=6/\∀Q E,cO R k H E->d.sp C R p H Q E
theorem ji.sub (c:ji K mg R D f0)(k:Nat)(h:k<=6):PySem.W.mroIn K (R k) (.ref D)=some true:=by
 cases k with
 |zero=>exact c.no.cd
 |succ k=>exact(c.one (k+1) (by omega) h).cd
noncomputable def mK (K:PySem.W.Frag)(C:Addr)(R:Nat->Addr):Sp:=λvs H Q _=>∃p dx nn ll t d k,vs=[.ref p,.ref t]/\H p=some (.ins C dx [("numbers",.ref nn),("laid",.ref ll)])/\bM K H t (aX.vals d)/\sH C R p d k H/\∀e gM H',Same H H'->ju R k H' e gM->Q (.ref e) H'
theorem Bk:bF ["_law_hall","_law_deed_here","_law_caught_here","e"] ["_law_hall","_law_deed_here"] (aj (top 29)):=⟨rfl,rfl,rfl,by decide +kernel,rfl,by decide +kernel,by decide +kernel⟩
theorem NQ {f f1:Addr}{fd qJ:FuncData}(F:dB K "_law_caught" "_law_caught" (top 29) f fd)(c:ji K mg R D f0)(F1:aW P w K mg base (eE P w) 4 f1 qJ ["_law_hall","_law_deed_here"] (Fy K C R))(g1:mg "_law_do"=some (.ref f1))(k1:PySem.W.keepIn K (.ref f1)=true)(b1:Binds K qJ ["_law_hall","_law_deed_here"] []):
  aW P w K mg base dG 5 f fd ["_law_hall","_law_deed_here"] (mK K C R):=by
 have nd:=Bk.nd
 have vt:=(show(["_law_hall","_law_deed_here","_law_caught_here","e"]:List Str).all (λx=>dW (aj (top 29)) x && plain x)=true by decide +kernel)
 refine dB.ok (k:=4) F Bk (λvs H Q E h=>by obtain⟨_,_,_,_,_,_,_,rfl,_⟩:=h;rfl) λcdv A outer s H vs Q E hr hsp=>?_
 refine⟨_,aH (fV (i:=2) nd rfl (lo (sc:=aj (top 29)) (by decide +kernel)) oX)
  (aH (zH (i:=3) (mC F1 hr (gl (sc:=aj (top 29)) (by decide +kernel)) g1 k1 b1 (ak (pV vt 0) (ak (pV vt 1) aF))) rfl rfl (gl (sc:=aj (top 29)) (by decide +kernel)) c.no.gD c.no.bD c.no.tD nd rfl (show(aj (top 29)).names.lookup ("e":Str)=some .local by decide +kernel)
   (λ_=>aM (fV (i:=2) nd rfl (lo (sc:=aj (top 29)) (by decide +kernel)) (pV vt 3))))
  (aM (cN (pV vt 2)))),?_⟩
 obtain⟨p,dx,nn,ll,t,d,k,rfl,hp,ht,⟨pX,hd⟩,hq⟩:=hsp
 unfold gA g8 tC fG Cz qN tW aN bA
 dsimp only
 refine aB (v:=.ref p) rfl (aB (v:=.ref t) rfl ⟨p,dx,nn,ll,t,d,rfl,hp,ht,hd _ _ λe gM H' sm n r=>?_⟩)
 obtain⟨tb,h1⟩:=r.1
 refine⟨e,R k,tb,rfl,h1,c.sub k pX,λT=>aB (v:=.ref e) rfl (show vR 2 [some (.ref p),some (.ref t),some (.ref e),none] (L2.upd H' e (cB e (R k) gM (.ref T))) Q from aB (v:=.ref e) rfl (hq e gM _ (fM sm n) r.upd))⟩
noncomputable def vO (R:Nat->Addr):Sp:=λvs H Q _=>∃a b b1 b2 k,vs=[.str a,.str b]/\(dI a/\dI b)/\(cV a b1/\cV b b2)/\(((b1 && b2)=false/\k=1)\/((b1 && b2)=true/\a=b/\k=2))/\∀e gM H',Same H H'->ju R k H' e gM->Q (.ref e) H'
theorem FJ:bF ["_law_start","_law_goal","_law_caught_here","e"] ["_law_start","_law_goal"] (aj (top 30)):=⟨rfl,rfl,rfl,by decide +kernel,rfl,by decide +kernel,by decide +kernel⟩
theorem Rj {f f1:Addr}{fd qJ:FuncData}(F:dB K "_law_begun" "_law_begun" (top 30) f fd)(c:ji K mg R D f0)(M:Mk K C f1)(F1:aW P w K mg base (eE P w) 2 f1 qJ ["self","start","goal"] (CG C R))(gC:mg "NamedHall"=some (.ref C))(b1:Binds K qJ ["self","start","goal"] []):
  aW P w K mg base dG 5 f fd ["_law_start","_law_goal"] (vO R):=by
 have nd:=FJ.nd
 have vt:=(show(["_law_start","_law_goal","_law_caught_here","e"]:List Str).all (λx=>dW (aj (top 30)) x && plain x)=true by decide +kernel)
 refine dB.ok (k:=4) F FJ (λvs H Q E h=>by obtain⟨_,_,_,_,_,rfl,_⟩:=h;rfl) λcdv A outer s H vs Q E hr hsp=>?_
 refine⟨_,aH (fV (i:=2) nd rfl (lo (sc:=aj (top 30)) (by decide +kernel)) oX)
  (aH (zH (i:=3) (XM M F1 (hr.mono (by decide)) (gl (sc:=aj (top 30)) (by decide +kernel)) gC b1 (ak (pV vt 0) (ak (pV vt 1) aF))) rfl rfl (gl (sc:=aj (top 30)) (by decide +kernel)) c.no.gD c.no.bD c.no.tD nd rfl (show(aj (top 30)).names.lookup ("e":Str)=some .local by decide +kernel)
   (λ_=>aM (fV (i:=2) nd rfl (lo (sc:=aj (top 30)) (by decide +kernel)) (pV vt 3))))
  (aM (cN (pV vt 2)))),?_⟩
 obtain⟨a,b,x1,x2,k,rfl,ww,nn,hk,hq⟩:=hsp
 have pX:k<=6:=by rcases hk with⟨_,h⟩|⟨_,_,h⟩<;>omega
 unfold gA g8 tC fG Cz qN Vr aN bA
 dsimp only
 refine aB (v:=.str a) rfl (aB (v:=.str b) rfl λx dx hx hdx hne=>⟨x,dx,a,b,x1,x2,rfl,ao,ww,nn,?_⟩)
 have s1:Same H (L2.upd (L2.upd H dx (.own x)) x (.ins C dx [])):=fM (fM (Same.refl _) hdx) hx
 have key:∀E',(∀e gM H',Same H H'->H e=none->ju R k H' e gM->E' (Value.ref e) gM H')->cO R k (L2.upd (L2.upd H dx (.own x)) x (.ins C dx [])) E':=λE' h e gM H' sm n r=>h e gM H' (s1.trans sm) (s1.free n) r
 rcases hk with⟨h1,rfl⟩|⟨h1,h2,rfl⟩
 .rw[if_pos h1]
  refine key _ λe gM H' sm n r=>?_
  obtain⟨tb,h1⟩:=r.1
  exact⟨e,R 1,tb,rfl,h1,c.sub 1 pX,λT=>aB (v:=.ref e) rfl (show vR 2 [some (.str a),some (.str b),some (.ref e),none] (L2.upd H' e (cB e (R 1) gM (.ref T))) Q from aB (v:=.ref e) rfl (hq e gM _ (fM sm n) r.upd))⟩
 .rw[if_neg (by rw[h1];decide),if_pos h2]
  refine key _ λe gM H' sm n r=>?_
  obtain⟨tb,h1⟩:=r.1
  exact⟨e,R 2,tb,rfl,h1,c.sub 2 pX,λT=>aB (v:=.ref e) rfl (show vR 2 [some (.str a),some (.str b),some (.ref e),none] (L2.upd H' e (cB e (R 2) gM (.ref T))) Q from aB (v:=.ref e) rfl (hq e gM _ (fM sm n) r.upd))⟩
end
end bW
namespace bW
open PySem PySem.Spec PyProof.Rows L2 VM EX
set_option maxHeartbeats 4000000
section
variable {P:Program}{w:World}{K:PySem.W.Frag}{mg:Str->Option Value}{base:Heap}{C D f0:Addr}{R:Nat->Addr}
noncomputable def Yh:Stmt->List Stmt
 |.Try _ [.ExceptHandler _ _ b _] _ _ _=>b
 |_=>[]
noncomputable def vP (K:PySem.W.Frag)(C:Addr)(R:Nat->Addr):Sp:=λvs H Q _=>∃p dx nn ll t d,vs=[.ref p,.ref t]/\H p=some (.ins C dx [("numbers",.ref nn),("laid",.ref ll)])/\bM K H t (aX.vals d)/\sH C R p d 0 H/\∀H',Same H H'->Q .non H'
theorem FN:bF ["_law_hall","_law_deed_here","_law_place_here","e"] ["_law_hall","_law_deed_here"] (aj (top 34)):=⟨rfl,rfl,rfl,by decide +kernel,rfl,by decide +kernel,by decide +kernel⟩
theorem Rk {f f1:Addr}{fd qJ:FuncData}(F:dB K "_law_place" "_law_place" (top 34) f fd)(c:ji K mg R D f0)(F1:aW P w K mg base (eE P w) 4 f1 qJ ["_law_hall","_law_deed_here"] (Fy K C R))(g1:mg "_law_do"=some (.ref f1))(k1:PySem.W.keepIn K (.ref f1)=true)(b1:Binds K qJ ["_law_hall","_law_deed_here"] []):
  aW P w K mg base dG 5 f fd ["_law_hall","_law_deed_here"] (vP K C R):=by
 have nd:=FN.nd
 have vt:=(show(["_law_hall","_law_deed_here","_law_place_here","e"]:List Str).all (λx=>dW (aj (top 34)) x && plain x)=true by decide +kernel)
 refine dB.ok (k:=4) F FN (λvs H Q E h=>by obtain⟨_,_,_,_,_,_,rfl,_⟩:=h;rfl) λcdv A outer s H vs Q E hr hsp=>?_
 have hS:∀e,gW (inX (fW dG P w K mg base ["_law_hall","_law_deed_here","_law_place_here","e"] "_law_place" (aj (top 34)) f cdv A outer s H E).oY e) (Yh ((aU (top 34)).getD 1 (.Pass ⟨0,0,0,0⟩))) (g8 (J1 K (vR 3) "place") (fG 2)):=λ_=>
  aM (fV (i:=2) nd rfl (lo (sc:=aj (top 34)) (by decide +kernel)) (XJ (pV vt 3)))
 refine⟨_,aH (fV (i:=2) nd rfl (lo (sc:=aj (top 34)) (by decide +kernel)) (Jf Dk au))
  (aH (zH (i:=3) (mC F1 hr (gl (sc:=aj (top 34)) (by decide +kernel)) g1 k1 b1 (ak (pV vt 0) (ak (pV vt 1) aF))) rfl rfl (gl (sc:=aj (top 34)) (by decide +kernel)) c.no.gC c.no.bC c.no.tC nd rfl (show(aj (top 34)).names.lookup ("e":Str)=some .local by decide +kernel) hS)
  (aM (cN (pV vt 2)))),?_⟩
 obtain⟨p,dx,nn,ll,t,d,rfl,hp,ht,⟨_,hd⟩,hq⟩:=hsp
 unfold gA g8 YZ tC fG Cz qN J1 tW aN bA
 dsimp only
 refine⟨1,rfl,aB (v:=.ref p) rfl (aB (v:=.ref t) rfl ⟨p,dx,nn,ll,t,d,rfl,hp,ht,hd _ _ λe gM H' sm n r=>?_⟩)⟩
 obtain⟨⟨tb,h1⟩,d',rfl,h2⟩:=r
 have hne:d'≠e:=λz=>by rw[z,h1] at h2;cases h2
 refine⟨e,R 0,tb,rfl,h1,c.no.cc,λT=>aB (v:=.ref e) rfl ⟨e,R 0,d',.ref T,[("place",.non)],.non,rfl,ao,by rw[aq hne];exact h2,c.no.xi.toXR,c.no.pl,rfl,?_⟩⟩
 exact(show vR 2 [some (.ref p),some (.ref t),some .non,none] (L2.upd H' e (cB e (R 0) (some d') (.ref T))) Q from aB (v:=.non) rfl (hq _ (fM sm n)))
end
end bW
namespace bW
open PySem PySem.Spec PyProof.Rows L2 VM
set_option maxHeartbeats 4000000
noncomputable def bN (r:Row):PyData:=.list [.str r.1,.str r.2.1,.str r.2.2.1,.int r.2.2.2.1,.int r.2.2.2.2]
noncomputable abbrev PR:=Addr×Row
structure Held (H:Hp)(D:Addr)(prs:List PR):Prop where
 top:H D=some (.lst (prs.map λx=>.ref x.1))
 row:∀x∈prs,H x.1=some (.lst (dU x.2))
 can:∀x∈prs,(bN x.2).canLay0=true
theorem Held.grow {H H':Hp}{D:Addr}{prs:List PR}(h:Held H D prs)(k:Same H H'):Held H' D prs:=⟨k _ _ h.top,λx hx=>k _ _ (h.row x hx),h.can⟩
noncomputable def j7 (seen:List Str)(rs:List Str):List Str:=rs.foldl (λs r=>if(s.any λy=>y==r)=true then s else s++[r]) seen
noncomputable def fO (nm:Str)(k:Int)(r:Row):Row:=if r.1=nm then(r.1,r.2.1,r.2.2.1,r.2.2.2.1+k,r.2.2.2.2) else r
noncomputable def J8:aX->List Row->List Row
 |.lay nm a b w l,rows=>rows++[(nm,a,b,w,l)]
 |.shut nm,rows=>rows.filter λr=>!decide (r.1=nm)
 |.widen nm k,rows=>rows.map (fO nm k)
 |.narrow nm k,rows=>rows.map (fO nm (-k))
noncomputable def J9:aX->List Str->List Str
 |.lay _ a b _ _,seen=>j7 seen [a,b]
 |_,seen=>seen
theorem Rm (rs:List Str):∀seen,(j7 seen rs).length<=seen.length+rs.length:=by
 induction rs with
 |nil=>intro seen;exact Nat.le_refl _
 |cons r rs ih=>
  intro seen
  have h1:=ih (if(seen.any λy=>y==r)=true then seen else seen++[r])
  show(j7 (if(seen.any λy=>y==r)=true then seen else seen++[r]) rs).length<=_
  have:(if(seen.any λy=>y==r)=true then seen else seen++[r]).length<=seen.length+1:=by
   split
   .omega
   .rw[List.length_append];simp
  rw[List.length_cons];omega
theorem Rn (x:Str)(xs:List Str):inV (.str x) (xs.map V.str)=xs.any λy=>y==x:=by
 unfold inV
 rw[List.any_map]
 rfl
theorem Ip {K:PySem.W.Frag}{H:Hp}{a:Addr}{r:Row}(h:H a=some (.lst (dU r)))(c:(bN r).canLay0=true):Has K H (bN r) (.ref a):=by
 simp only[bN,PyData.canLay0,PyData.canLayAll0,Bool.and_eq_true] at c
 obtain⟨c1,c2,c3,_⟩:=c
 refine⟨a,dU r,rfl,bQ.of h,?_⟩
 refine⟨_,_,rfl,⟨rfl,by simp only[PyData.canLay0];exact c1⟩,_,_,rfl,⟨rfl,by simp only[PyData.canLay0];exact c2⟩,_,_,rfl,⟨rfl,by simp only[PyData.canLay0];exact c3⟩,_,_,rfl,rfl,_,_,rfl,rfl,rfl⟩
theorem u5 {K:PySem.W.Frag}{H:Hp}:∀{prs:List PR},(∀x∈prs,H x.1=some (.lst (dU x.2)))->(∀x∈prs,(bN x.2).canLay0=true)->aJ K H (prs.map λx=>bN x.2) (prs.map λx=>V.ref x.1)
 |[],_,_=>rfl
 |x::r,h,c=>⟨_,_,rfl,Ip (h x (List.mem_cons_self ..)) (c x (List.mem_cons_self ..)),u5 (λy hy=>h y (List.mem_cons_of_mem _ hy)) (λy hy=>c y (List.mem_cons_of_mem _ hy))⟩
theorem Ka {r s:Row}(h:r.1≠s.1):PyData.eqv (bN r) (bN s)=false:=by
 simp only[bN,PyData.eqv,PyData.eqvAll]
 simp[h]
section
variable {P:Program}{w:World}{K:PySem.W.Frag}{mg:Str->Option Value}{base:Heap}
noncomputable def zK (K:PySem.W.Frag):Sp:=λvs H Q _=>∃D sA t prs seen d,vs=[.ref D,.ref sA,.ref t]/\Held H D prs/\H sA=some (.lst (seen.map V.str))/\(D::sA::prs.map (·.1)).Nodup/\bM K H t (aX.vals d)/\prs.length<100/\seen.length<100/\
 (∀nm a b w l,d=.lay nm a b w l->(bN (nm,a,b,w,l)).canLay0=true)/\
 ∀H' jx,Held H' D jx->jx.map (·.2)=J8 d (prs.map (·.2))->H' sA=some (.lst ((J9 d seen).map V.str))->(D::sA::jx.map (·.1)).Nodup->(∀b o,b∉D::sA::prs.map (·.1)->H b=some o->H' b=some o)->
  (∀b∈jx.map (·.1),b∈prs.map (·.1)\/H b=none)->Q .non H'
theorem FP:bF ["_law_held","_law_seen","_law_deed_here","_law_room","_law_row"] ["_law_held","_law_seen","_law_deed_here"] (aj (top 27)):=⟨rfl,rfl,rfl,by decide +kernel,rfl,by decide +kernel,by decide +kernel⟩
noncomputable def jQ (K:PySem.W.Frag)(y:Str):TT:=CZ (iB (dh Lk (dh (qt K) (vR 4) (tC (.int 0))) (dh (qu K) (vR 2) (tC (.int 1))))) (iB (dh Lk (dh (qu K) (vR 2) (tC (.int 0))) (tC (.str y))))
theorem nZ {y:Str}{σ:L2.St}{H:Hp}{Q:Bool->Hp->Prop}{a t:Addr}{r:Row}{d:aX}(e4:σ[4]? =some (some (.ref a)))(e2:σ[2]? =some (some (.ref t)))(ha:H a=some (.lst (dU r)))(ht:bM K H t d.vals)
  (q:Q (decide (r.1=d.nm) && decide (d.word=y)) H):jQ K y σ H Q:=by
 unfold jQ CZ
 refine CJ (K:=K) (x:=r.1) (y:=d.nm) (λR h=>kE (t:=a) e4 ha (λR h=>h) rfl h) (λR h=>eF (t:=t) e2 ht d.at1 h) ?_
 by_cases e:r.1=d.nm
 .rw[decide_eq_true e,Bool.true_and] at q
  rw[if_pos (decide_eq_true e)]
  exact CJ (K:=K) (λR h=>eF (t:=t) e2 ht d.at0 h) (λR h=>h) q
 .rw[decide_eq_false e,Bool.false_and] at q
  rw[if_neg (by simpa using e)]
  exact q
noncomputable def jC (K:PySem.W.Frag):TS:=gA (d8 (jQ K "shut") (gq (wA K "list" (JZ K) (vR 0) (aN (vR 4) bA))) dR)
 (gA (d8 (jQ K "widen") (g8 (dh (rM λi j=>.int (i+j)) (dh (qt K) (vR 4) (tC (.int 3))) (dh (qu K) (vR 2) (tC (.int 2)))) (zc (vR 4) (tC (.int 3)) Cj)) dR)
  (d8 (jQ K "narrow") (g8 (dh (rM λi j=>.int (i - j)) (dh (qt K) (vR 4) (tC (.int 3))) (dh (qu K) (vR 2) (tC (.int 2)))) (zc (vR 4) (tC (.int 3)) Cj)) dR))
theorem op2 {r:R2}{ta tb:TE}{σ:L2.St}{H:Hp}{Q:VK}:dh r ta tb σ H Q=ta σ H λx H1=>tb σ H1 λy H2=>r x y H2 Q:=rfl
theorem mL {x:Bool}{d:aX}{y:Str}(h:decide (d.word=y)=false):¬(x && decide (d.word=y))=true:=by rw[h,Bool.and_false];simp
theorem wZ {r:Row}{d:aX}{y:Str}(h:decide (d.word=y)=true)(e:r.1=d.nm):(decide (r.1=d.nm) && decide (d.word=y))=true:=by rw[h,Bool.and_true];exact decide_eq_true e
theorem Yi {r:Row}{d:aX}{y:Str}(e:r.1≠d.nm):¬(decide (r.1=d.nm) && decide (d.word=y))=true:=by rw[decide_eq_false e,Bool.false_and];simp
section
variable {Dn:Ends}{σ:L2.St}{H:Hp}{a t D:Addr}{r:Row}{d:aX}
theorem zL (e4:σ[4]? =some (some (.ref a)))(e2:σ[2]? =some (some (.ref t)))(ha:H a=some (.lst (dU r)))(ht:bM K H t d.vals)(h:r.1≠d.nm\/d.word="lay")(q:Dn.nx σ H):jC K Dn σ H:=by
 have z:∀y:Str,decide (("lay":Str)=y)=false->¬(decide (r.1=d.nm) && decide (d.word=y))=true:=λy hy=>by
  rcases h with h|h
  .exact Yi h
  .exact mL (by rw[h];exact hy)
 unfold jC gA d8
 refine nZ e4 e2 ha ht ?_
 rw[if_neg (z _ (by decide +kernel))]
 unfold dR
 dsimp only
 refine nZ e4 e2 ha ht ?_
 rw[if_neg (z _ (by decide +kernel))]
 refine nZ e4 e2 ha ht ?_
 rw[if_neg (z _ (by decide +kernel))]
 exact q
theorem Ir {nm:Str}{k:Int}{r:Row}(e:r.1=nm):(dU r).set 3 (.int (r.2.2.2.1+k))=dU (fO nm k r):=by
 unfold fO
 rw[if_pos e]
 rfl
theorem Kc {nm:Str}{k:Int}(e4:σ[4]? =some (some (.ref a)))(e2:σ[2]? =some (some (.ref t)))(ha:H a=some (.lst (dU r)))(ht:bM K H t (aX.vals (.widen nm k)))(e:r.1=nm)(q:Dn.nx σ (upd H a (.lst (dU (fO nm k r))))):jC K Dn σ H:=by
 have hn:∀xs,H a≠some (.tup xs):=λxs z=>by rw[ha] at z;cases z
 have Bj:bM K (upd H a (.lst (dU (fO nm k r)))) t (aX.vals (.widen nm k)):=by
  rcases ht with(h|⟨o,h⟩)|h
  .exact .inl (.inl (by rw[aq λz=>by subst z;rw[ha] at h;cases h];exact h))
  .exact .inl (.inr ⟨o,by rw[aq λz=>by subst z;rw[ha] at h;cases h];exact h⟩)
  .exact .inr h
 unfold jC gA d8
 refine nZ e4 e2 ha ht ?_
 rw[if_neg (mL (show decide ((aX.widen nm k).word="shut")=false from(by decide +kernel:decide (("widen":Str)="shut")=false)))]
 unfold dR
 dsimp only
 refine nZ e4 e2 ha ht ?_
 rw[if_pos (wZ (show decide ((aX.widen nm k).word="widen")=true from(by decide +kernel:decide (("widen":Str)="widen")=true)) e)]
 unfold g8 zc
 rw[op2]
 refine kE (t:=a) e4 ha (λR h=>h) (v:=.int r.2.2.2.1) rfl ?_
 refine eF (t:=t) e2 ht (v:=.int k) rfl ?_
 unfold rM
 dsimp only
 refine aB (v:=.ref a) e4 ⟨_,3,ha,rfl,?_⟩
 rw[Ir e]
 dsimp only
 refine nZ (r:=fO nm k r) e4 e2 ao Bj ?_
 rw[if_neg (mL (show decide ((aX.widen nm k).word="narrow")=false from(by decide +kernel:decide (("widen":Str)="narrow")=false)))]
 exact q
theorem GR {nm:Str}{k:Int}(e4:σ[4]? =some (some (.ref a)))(e2:σ[2]? =some (some (.ref t)))(ha:H a=some (.lst (dU r)))(ht:bM K H t (aX.vals (.narrow nm k)))(e:r.1=nm)(q:Dn.nx σ (upd H a (.lst (dU (fO nm (-k) r))))):jC K Dn σ H:=by
 unfold jC gA d8
 refine nZ e4 e2 ha ht ?_
 rw[if_neg (mL (show decide ((aX.narrow nm k).word="shut")=false from(by decide +kernel:decide (("narrow":Str)="shut")=false)))]
 unfold dR
 dsimp only
 refine nZ e4 e2 ha ht ?_
 rw[if_neg (mL (show decide ((aX.narrow nm k).word="widen")=false from(by decide +kernel:decide (("narrow":Str)="widen")=false)))]
 refine nZ e4 e2 ha ht ?_
 rw[if_pos (wZ (show decide ((aX.narrow nm k).word="narrow")=true from(by decide +kernel:decide (("narrow":Str)="narrow")=true)) e)]
 unfold g8 zc
 rw[op2]
 refine kE (t:=a) e4 ha (λR h=>h) (v:=.int r.2.2.2.1) rfl ?_
 refine eF (t:=t) e2 ht (v:=.int k) rfl ?_
 unfold rM
 dsimp only
 refine aB (v:=.ref a) e4 ⟨_,3,ha,rfl,?_⟩
 rw[Int.sub_eq_add_neg,Ir e]
 exact q
theorem NT {nm:Str}{pre post:List PR}(e0:σ[0]? =some (some (.ref D)))(e4:σ[4]? =some (some (.ref a)))(e2:σ[2]? =some (some (.ref t)))(hD:H D=some (.lst ((pre++(a,r)::post).map λx=>.ref x.1)))(hrow:∀x∈pre++(a,r)::post,H x.1=some (.lst (dU x.2)))
  (hcan:∀x∈pre++(a,r)::post,(bN x.2).canLay0=true)(haD:a≠D)(hpre:∀x∈pre,x.2.1≠nm)(ht:bM K H t (aX.vals (.shut nm)))(e:r.1=nm)(q:Dn.nx σ (upd H D (.lst ((pre++post).map λx=>.ref x.1)))):jC K Dn σ H:=by
 have ha:H a=some (.lst (dU r)):=hrow (a,r) (by simp)
 have Bj:bM K (upd H D (.lst ((pre++post).map λx=>.ref x.1))) t (aX.vals (.shut nm)):=by
  rcases ht with(h|⟨o,h⟩)|h
  .exact .inl (.inl (by rw[aq λz=>by subst z;rw[hD] at h;cases h];exact h))
  .exact .inl (.inr ⟨o,by rw[aq λz=>by subst z;rw[hD] at h;cases h];exact h⟩)
  .exact .inr h
 have ha2:upd H D (.lst ((pre++post).map λx=>.ref x.1)) a=some (.lst (dU r)):=by rw[aq haD];exact ha
 unfold jC gA d8
 refine nZ e4 e2 ha ht ?_
 rw[if_pos (wZ (show decide ((aX.shut nm).word="shut")=true from(by decide +kernel:decide (("shut":Str)="shut")=true)) e)]
 unfold gq wA aN bA
 refine aB (v:=.ref D) e0 ⟨.inl ⟨rfl,_,bQ.of hD⟩,aB (v:=.ref a) e4 ⟨D,.ref a,_,_,bN r,pre.length,rfl,rfl,hD,u5 hrow hcan,Ip ha (hcan (a,r) (by simp)),?_,?_,?_,?_⟩⟩
 .simp[bN,PyData.depth,PyData.depthAll]
 .simp
 .intro m d' hm hd'
  rw[List.getElem?_map] at hd'
  obtain⟨x,ex,rfl⟩:=Option.map_eq_some_iff.mp hd'
  by_cases Vo:m=pre.length
  .subst Vo
   rw[List.getElem?_append_right (Nat.le_refl _),Nat.sub_self] at ex
   have ex':(a,r)=x:=by simpa using ex
   subst ex'
   rw[decide_eq_true rfl,SeqAt.eqv_refl _ (hcan (a,r) (by simp))]
  .rw[List.getElem?_append_left (by omega)] at ex
   rw[decide_eq_false Vo,Ka]
   rw[e]
   exact hpre x (List.mem_of_getElem? ex)
 .have ee:((pre++(a,r)::post).map λx=>V.ref x.1).eraseIdx pre.length=(pre++post).map λx=>V.ref x.1:=by
   rw[List.map_append,List.map_cons,List.eraseIdx_append_of_length_le (by rw[List.length_map];exact Nat.le_refl _),List.length_map,Nat.sub_self,List.map_append]
   rfl
  rw[ee]
  unfold dR
  dsimp only
  refine nZ e4 e2 ha2 Bj ?_
  rw[if_neg (mL (show decide ((aX.shut nm).word="widen")=false from(by decide +kernel:decide (("shut":Str)="widen")=false)))]
  refine nZ e4 e2 ha2 Bj ?_
  rw[if_neg (mL (show decide ((aX.shut nm).word="narrow")=false from(by decide +kernel:decide (("shut":Str)="narrow")=false)))]
  exact q
end
end
end bW
namespace bW
open PySem PySem.Spec PyProof.Rows L2 VM
set_option maxHeartbeats 4000000
section
variable {P:Program}{w:World}{K:PySem.W.Frag}{mg:Str->Option Value}{base:Heap}
noncomputable def NZ:aX->List Row->List Row
 |.lay _ _ _ _ _,rows=>rows
 |.shut nm,rows=>rows.filter λr=>!decide (r.1=nm)
 |.widen nm k,rows=>rows.map (fO nm k)
 |.narrow nm k,rows=>rows.map (fO nm (-k))
theorem bM.off {H H':Hp}{t:Addr}{xs:List V}(h:bM K H t xs)(k:∀o,pB o=true->H t=some o->H' t=some o):bM K H' t xs:=by
 rcases h with(h|⟨o,h⟩)|h
 .exact .inl (.inl (k _ rfl h))
 .exact .inl (.inr ⟨o,k _ rfl h⟩)
 .exact .inr h
theorem Yj {nm:Str}{k:Int}{r:Row}(h:(bN r).canLay0=true):(bN (fO nm k r)).canLay0=true:=by
 unfold fO
 split
 .simpa only[bN,PyData.canLay0,PyData.canLayAll0] using h
 .exact h
variable {Dn:Ends}{D sA t lz:Addr}{x3 x4:Option V}{H:Hp}{prs:List PR}{d:aX}
theorem FQ {nm:Str}{k:Int}(hb:∀{Dn:Ends}{σ:L2.St} {H:Hp} {a:Addr} {r:Row},σ[4]? =some (some (.ref a))->σ[2]? =some (some (.ref t))->H a=some (.lst (dU r))->bM K H t d.vals->r.1=nm->Dn.nx σ (upd H a (.lst (dU (fO nm k r))))->jC K Dn σ H)(hnm:d.nm=nm)
  (hH:Held H D prs)(hnd:(D::prs.map (·.1)).Nodup)(hlz:H lz=some (.lst (prs.map λx=>.ref x.1)))(hz:lz∉D::prs.map (·.1))(ht:bM K H t d.vals)
  (q:∀H' jx x4,Held H' D jx->jx.map (·.2)=(prs.map (·.2)).map (fO nm k)->(jx.map (·.1)).Sublist (prs.map (·.1))->(∀b o,b∉D::prs.map (·.1)->H b=some o->H' b=some o)->Dn.nx [some (.ref D),some (.ref sA),some (.ref t),x3,x4] H'):
  qw (wg K lz) (fG 4) (jC K) Dn [some (.ref D),some (.ref sA),some (.ref t),x3,x4] H:=by
 have hnd2:=(List.nodup_cons.mp hnd).2
 have VB:=(List.nodup_cons.mp hnd).1
 have hz2:lz∉prs.map (·.1):=λz=>hz (List.mem_cons_of_mem _ z)
 refine forL (xs:=prs.map λx=>V.ref x.1) (λi σ' H'=>(∃y,σ'=[some (.ref D),some (.ref sA),some (.ref t),x3,y])/\(∀(j:Nat) (x:PR),prs[j]? =some x->H' x.1=some (.lst (dU (if j<i then fO nm k x.2 else x.2))))/\∀b o,b∉prs.map (·.1)->H b=some o->H' b=some o)
  ⟨⟨_,rfl⟩,λj x e=>by rw[if_neg (Nat.not_lt_zero _)];exact hH.row x (List.mem_of_getElem? e),λ_ _ _ e=>e⟩ (λi σ' H' _ h=>bQ.of (h.2.2 _ _ hz2 hlz)) ?_ ?_
 .rintro i v σ' H' hv ⟨⟨y,rfl⟩,i1,i2⟩
  rw[List.getElem?_map] at hv
  obtain⟨x,ex,rfl⟩:=Option.map_eq_some_iff.mp hv
  have hx:=i1 i x ex
  rw[if_neg (Nat.lt_irrefl _)] at hx
  have ht':bM K H' t d.vals:=bM.off ht λo ho e=>i2 _ _ (λz=>by
   obtain⟨p,hp,e2⟩:=List.mem_map.mp z
   rw[<-e2,hH.row p hp] at e
   cases e;cases ho) e
  show jC K _ [some (.ref D),some (.ref sA),some (.ref t),x3,some (.ref x.1)] H'
  by_cases e:x.2.1=nm
  .refine hb rfl rfl hx ht' e ⟨⟨_,rfl⟩,λj z ez=>?_,λb o hbn eo=>?_⟩
   .by_cases hj:z.1=x.1
    .have:j=i:=(List.getElem?_inj (by
      rcases Nat.lt_or_ge j (prs.map (·.1)).length with g|g
      .exact g
      .rw[List.getElem?_eq_none (by rw[List.length_map] at g;exact g)] at ez;cases ez) hnd2).mp (by rw[List.getElem?_map,List.getElem?_map,ez,ex];exact congrArg some hj)
     subst this
     rw[ex] at ez
     cases ez
     rw[ao,if_pos (Nat.lt_succ_self _)]
    .rw[aq hj,i1 j z ez]
     have:j≠i:=λg=>by subst g;rw[ex] at ez;cases ez;exact hj rfl
     by_cases g:j<i
     .rw[if_pos g,if_pos (by omega)]
     .rw[if_neg g,if_neg (by omega)]
   .rw[aq λg=>hbn (by rw[g];exact List.mem_map_of_mem (f:=λx:PR=>x.1) (List.mem_of_getElem? ex))]
    exact i2 b o hbn eo
  .refine zL rfl rfl hx ht' (.inl (by rw[hnm];exact e)) ⟨⟨_,rfl⟩,λj z ez=>?_,i2⟩
   rw[i1 j z ez]
   by_cases g:j<i
   .rw[if_pos g,if_pos (by omega)]
   .by_cases g2:j=i
    .subst g2
     rw[ex] at ez
     cases ez
     rw[if_neg g,if_pos (by omega)]
     unfold fO
     rw[if_neg e]
    .rw[if_neg g,if_neg (by omega)]
 .rintro σ' H' ⟨⟨y,rfl⟩,i1,i2⟩
  refine q H' (prs.map λx=>(x.1,fO nm k x.2)) y ⟨?_,λx hx=>?_,λx hx=>?_⟩ ?_ ?_ λb o hb e=>i2 b o (λz=>hb (List.mem_cons_of_mem _ z)) e
  .rw[List.map_map];exact i2 D _ VB hH.top
  .obtain⟨z,hz,rfl⟩:=List.mem_map.mp hx
   obtain⟨j,hj,rfl⟩:=List.getElem_of_mem hz
   rw[i1 j prs[j] (by simp[hj]),if_pos (by rw[List.length_map];exact hj)]
  .obtain⟨z,hz,rfl⟩:=List.mem_map.mp hx
   exact Yj (hH.can z hz)
  .rw[List.map_map,List.map_map];rfl
  .rw[List.map_map];exact List.Sublist.refl _
theorem N5 (hH:Held H D prs)(hnd:(D::prs.map (·.1)).Nodup)(hlz:H lz=some (.lst (prs.map λx=>.ref x.1)))(hz:lz∉D::prs.map (·.1))(ht:bM K H t d.vals)
  (q:∀H' jx x4,Held H' D jx->jx.map (·.2)=NZ d (prs.map (·.2))->(jx.map (·.1)).Sublist (prs.map (·.1))->(∀b o,b∉D::prs.map (·.1)->H b=some o->H' b=some o)->Dn.nx [some (.ref D),some (.ref sA),some (.ref t),x3,x4] H'):
  qw (wg K lz) (fG 4) (jC K) Dn [some (.ref D),some (.ref sA),some (.ref t),x3,x4] H:=by
 have VB:=(List.nodup_cons.mp hnd).1
 have hlD:lz≠D:=λz=>hz (by rw[z];exact List.mem_cons_self ..)
 cases d with
 |lay nm a b w l=>
  refine forL (xs:=prs.map λx=>V.ref x.1) (λi σ' H'=>(∃y,σ'=[some (.ref D),some (.ref sA),some (.ref t),x3,y])/\H'=H) ⟨⟨_,rfl⟩,rfl⟩ (λi σ' H' _ h=>by rw[h.2];exact bQ.of hlz) ?_ ?_
  .rintro i v σ' H' hv ⟨⟨y,rfl⟩,rfl⟩
   rw[List.getElem?_map] at hv
   obtain⟨x,ex,rfl⟩:=Option.map_eq_some_iff.mp hv
   exact zL (a:=x.1) rfl rfl (hH.row x (List.mem_of_getElem? ex)) ht (.inr rfl) ⟨⟨_,rfl⟩,rfl⟩
  .rintro σ' H' ⟨⟨y,rfl⟩,rfl⟩
   exact q _ prs y hH rfl (List.Sublist.refl _) λ_ _ _ e=>e
 |shut nm=>
  refine forL (xs:=prs.map λx=>V.ref x.1) (λi σ' H'=>(∃y,σ'=[some (.ref D),some (.ref sA),some (.ref t),x3,y])/\H' D=some (.lst (((prs.take i).filter (λx=>!decide (x.2.1=nm))++prs.drop i).map λx=>.ref x.1))/\∀b o,b≠D->H b=some o->H' b=some o)
   ⟨⟨_,rfl⟩,hH.top,λ_ _ _ e=>e⟩ (λi σ' H' _ h=>bQ.of (h.2.2 _ _ hlD hlz)) ?_ ?_
  .rintro i v σ' H' hv ⟨⟨y,rfl⟩,i1,i2⟩
   rw[List.getElem?_map] at hv
   obtain⟨x,ex,rfl⟩:=Option.map_eq_some_iff.mp hv
   have hi:i<prs.length:=(List.getElem?_eq_some_iff.mp ex).1
   have exi:prs[i]=x:=(List.getElem?_eq_some_iff.mp ex).2
   have ed:prs.drop i=x::prs.drop (i+1):=by rw[List.drop_eq_getElem_cons hi,exi]
   have et:prs.take (i+1)=prs.take i++[x]:=by rw[List.take_succ,ex];rfl
   have abb:∀z∈prs,z.1≠D:=λz hz g=>VB (by rw[<-g];exact List.mem_map_of_mem (f:=λx:PR=>x.1) hz)
   have hrow:∀z∈prs,H' z.1=some (.lst (dU z.2)):=λz hz=>i2 _ _ (abb z hz) (hH.row z hz)
   have hx:=hrow x (List.mem_of_getElem? ex)
   have ht':bM K H' t (aX.vals (.shut nm)):=bM.off ht λo ho e=>i2 _ _ (λz=>by rw[z,hH.top] at e;cases e;cases ho) e
   have hsub:∀z∈(prs.take i).filter (λx=>!decide (x.2.1=nm))++x::prs.drop (i+1),z∈prs:=λz hz=>by
    rcases List.mem_append.mp hz with g|g
    .exact List.mem_of_mem_take ((List.mem_filter.mp g).1)
    .rw[<-ed] at g;exact List.mem_of_mem_drop g
   show jC K _ [some (.ref D),some (.ref sA),some (.ref t),x3,some (.ref x.1)] H'
   by_cases e:x.2.1=nm
   .rw[ed] at i1
    refine NT (a:=x.1) (r:=x.2) (pre:=(prs.take i).filter (λx=>!decide (x.2.1=nm))) (post:=prs.drop (i+1)) rfl rfl rfl i1 (λz hz=>hrow z (hsub z hz)) (λz hz=>hH.can z (hsub z hz)) (abb x (List.mem_of_getElem? ex)) (λz hz=>?_) ht' e ⟨⟨_,rfl⟩,?_,λb o hb eo=>?_⟩
    .have:=(List.mem_filter.mp hz).2
     simpa using this
    .rw[ao,et,List.filter_append]
     simp[e]
    .rw[aq hb];exact i2 b o hb eo
   .refine zL (a:=x.1) rfl rfl hx ht' (.inl e) ⟨⟨_,rfl⟩,?_,i2⟩
    rw[i1,ed,et,List.filter_append]
    simp[e]
  .rintro σ' H' ⟨⟨y,rfl⟩,i1,i2⟩
   rw[List.length_map,List.take_of_length_le (Nat.le_refl _),List.drop_of_length_le (Nat.le_refl _),List.append_nil] at i1
   have hm:∀z∈prs.filter (λx=>!decide (x.2.1=nm)),z∈prs:=λz hz=>(List.mem_filter.mp hz).1
   refine q H' (prs.filter λx=>!decide (x.2.1=nm)) y ⟨i1,λz hz=>i2 _ _ (λg=>VB (by rw[<-g];exact List.mem_map_of_mem (f:=λx:PR=>x.1) (hm z hz))) (hH.row z (hm z hz)),λz hz=>hH.can z (hm z hz)⟩ ?_ ((List.filter_sublist).map _) λb o hb e=>i2 b o (λz=>hb (by rw[z];exact List.mem_cons_self ..)) e
   show _=(prs.map (·.2)).filter _
   rw[List.filter_map]
   rfl
 |widen nm k=>exact FQ (λe4 e2 ha ht e q=>Kc e4 e2 ha ht e q) rfl hH hnd hlz hz ht q
 |narrow nm k=>exact FQ (λe4 e2 ha ht e q=>GR e4 e2 ha ht e q) rfl hH hnd hlz hz ht q
end
end bW
namespace bW
open PySem PySem.Spec PyProof.Rows L2 VM
set_option maxHeartbeats 4000000
section
variable {P:Program}{w:World}{K:PySem.W.Frag}{mg:Str->Option Value}{base:Heap}
variable {Dn:Ends}{D sA t:Addr}{x3 x4:Option V}{H:Hp}{prs:List PR}{d:aX}{seen:List Str}
theorem N6 (hH:Held H D prs)(hnd:(D::prs.map (·.1)).Nodup)(ht:bM K H t d.vals)
  (q:∀H' jx x4,Held H' D jx->jx.map (·.2)=NZ d (prs.map (·.2))->(jx.map (·.1)).Sublist (prs.map (·.1))->(∀b o,b∉D::prs.map (·.1)->H b=some o->H' b=some o)->Dn.nx [some (.ref D),some (.ref sA),some (.ref t),x3,x4] H'):
  Dh (sW K (nq (Ma K) (aN (vR 0) bA))) (fG 4) (jC K) Dn [some (.ref D),some (.ref sA),some (.ref t),x3,x4] H:=by
 rw[mj]
 unfold sW nq aN bA
 refine aB (v:=.ref D) rfl ⟨_,.inl (bQ.of hH.top),λlz hlz=>⟨lz,rfl,⟨_,bQ.of ao⟩,?_⟩⟩
 have sm:=aL (o:=.lst (prs.map λx=>.ref x.1)) hlz
 refine N5 (d:=d) (hH.grow sm) hnd ao (λz=>?_) (sm.wV ht) λH' jx y a1 a2 a3 a4=>q H' jx y a1 a2 a3 λb o hb e=>a4 b o hb (sm _ _ e)
 rcases List.mem_cons.mp z with g|g
 .rw[g,hH.top] at hlz;cases hlz
 .obtain⟨p,hp,e⟩:=List.mem_map.mp g
  rw[<-e,hH.row p hp] at hlz;cases hlz
noncomputable def FT (K:PySem.W.Frag):TS:=d8 (iB (dh (Zg K true) (vR 3) (vR 1))) (gq (wA K "list" Cm (vR 1) (aN (vR 3) bA))) dR
theorem N7 {seen rs:List Str}{i:Nat}{r:Str}(e:rs[i]? =some r):j7 seen (rs.take (i+1))=if((j7 seen (rs.take i)).any λy=>y==r)=true then j7 seen (rs.take i) else j7 seen (rs.take i)++[r]:=by
 rw[List.take_succ,e]
 unfold j7
 rw[List.foldl_append]
 rfl
theorem N8 {a b:Str}{tt:Addr}(htt:bM K H tt [.str a,.str b])(hs:H sA=some (.lst (seen.map V.str)))(hl:seen.length<1000)
  (q:∀H' x3,H' sA=some (.lst ((j7 seen [a,b]).map V.str))->(∀c o,c≠sA->H c=some o->H' c=some o)->Dn.nx [some (.ref D),some (.ref sA),some (.ref t),x3,x4] H'):
  qw (Dg K tt) (fG 3) (FT K) Dn [some (.ref D),some (.ref sA),some (.ref t),x3,x4] H:=by
 refine Wx (xs:=[a,b].map V.str) (λi σ' H'=>(∃y,σ'=[some (.ref D),some (.ref sA),some (.ref t),y,x4])/\H' sA=some (.lst ((j7 seen ([a,b].take i)).map V.str))/\∀c o,c≠sA->H c=some o->H' c=some o) ⟨⟨_,rfl⟩,hs,λ_ _ _ e=>e⟩
  (λi σ' H' _ h=>bM.off htt λo ho e=>h.2.2 _ _ (λz=>by rw[z,hs] at e;cases e;cases ho) e) ?_ ?_
 .rintro i v σ' H' hv ⟨⟨y,rfl⟩,i1,i2⟩
  rw[List.getElem?_map] at hv
  obtain⟨r,er,rfl⟩:=Option.map_eq_some_iff.mp hv
  show FT K _ [some (.ref D),some (.ref sA),some (.ref t),some (.str r),x4] H'
  unfold FT d8 iB
  rw[op2]
  refine aB (v:=.str r) rfl (aB (v:=.ref sA) rfl ⟨sA,_,rfl,.inl (bQ.of i1),rfl,by rw[List.all_map];simp[mV],?_⟩)
  rw[Rn]
  have st:=N7 (seen:=seen) er
  show(if(!(j7 seen ([a,b].take i)).any λy=>y==r)=true then _ else _)
  have hlen:(j7 seen ([a,b].take i)).length<2000:=by
   have:=Rm ([a,b].take i) seen
   have:([a,b].take i).length<=2:=by rw[List.length_take];exact Nat.min_le_right _ _
   omega
  by_cases c:((j7 seen ([a,b].take i)).any λy=>y==r)=true
  .rw[if_neg (by rw[c];simp)]
   rw[if_pos c] at st
   exact⟨⟨_,rfl⟩,by rw[st];exact i1,i2⟩
  .rw[if_pos (by rw[Bool.eq_false_iff.mpr c];rfl)]
   rw[if_neg c] at st
   unfold gq wA aN bA
   refine aB (v:=.ref sA) rfl ⟨.inl ⟨rfl,_,bQ.of i1⟩,aB (v:=.str r) rfl ⟨_,i1,dX (by rw[List.length_map];omega),⟨_,rfl⟩,?_,λc o hc e=>?_⟩⟩
   .rw[ao,st,List.map_append];rfl
   .rw[aq hc];exact i2 c o hc e
 .rintro σ' H' ⟨⟨y,rfl⟩,i1,i2⟩
  exact q H' y i1 i2
theorem Ro {f:Addr}{fd:FuncData}(F:dB K "_law_noted" "_law_noted" (top 27) f fd)(B:Bl mg):aW P w K mg base dG 1 f fd ["_law_held","_law_seen","_law_deed_here"] (zK K):=by
 have nd:=FP.nd
 have vt:=(show(["_law_held","_law_seen","_law_deed_here","_law_room","_law_row"]:List Str).all (λx=>dW (aj (top 27)) x && plain x)=true by decide +kernel)
 refine dB.ok (k:=0) F FP (λvs H Q E h=>by obtain⟨_,_,_,_,_,_,rfl,_⟩:=h;rfl) λcdv A outer s H vs Q E hr hsp=>?_
 obtain⟨D,sA,t,prs,seen,d,rfl,hH,hs,hnd,ht,hl1,hl2,hcan,hq⟩:=hsp
 refine⟨_,aH (cM (iW jz (bB fP (pV vt 2) au) bV)
   (aH (fK (Jx (pV vt 0) (ak (ni (ak (bB fP (pV vt 2) au) (ak (bB fP (pV vt 2) au) (ak (bB fP (pV vt 2) au) (ak (bB fP (pV vt 2) au) (ak (bB fP (pV vt 2) au) aF)))))) aF)))
   (aM (jD PassesOwn.never rfl (Li (jc Lw (pV vt 2) (jo au) (jo au))) (aO (i:=3) nd rfl (lo (sc:=aj (top 27)) (by decide +kernel)))
    (aM (cM (iW o8 (pV vt 3) (pV vt 1)) (aM (fK (Jx (pV vt 1) (ak (pV vt 3) aF)))) bR))))) bR)
  (aM (jD PassesOwn.never rfl (lZ (uJ afW (gl (sc:=aj (top 27)) (by decide +kernel)) B.list PyProof.Rows.boot_list (ak (pV vt 0) aF))) (aO (i:=4) nd rfl (lo (sc:=aj (top 27)) (by decide +kernel)))
   (aH (cM (PW.pt (uF (iW jz (bB gY (pV vt 4) au) (bB fP (pV vt 2) au)) (rF (iW jz (bB fP (pV vt 2) au) bV)))) (aM (fK (agF hr.units (pV vt 0) (ak (pV vt 4) aF)))) bR)
   (aH (cM (PW.pt (uF (iW jz (bB gY (pV vt 4) au) (bB fP (pV vt 2) au)) (rF (iW jz (bB fP (pV vt 2) au) bV)))) (aM (bI (iK jd (bB gY (pV vt 4) au) (bB fP (pV vt 2) au)) (Lg (pV vt 4) au ZF))) bR)
   (aM (cM (PW.pt (uF (iW jz (bB gY (pV vt 4) au) (bB fP (pV vt 2) au)) (rF (iW jz (bB fP (pV vt 2) au) bV)))) (aM (bI (iK qO (bB gY (pV vt 4) au) (bB fP (pV vt 2) au)) (Lg (pV vt 4) au ZF))) bR)))))),?_⟩
 obtain⟨hD1,ajP⟩:=List.nodup_cons.mp hnd
 obtain⟨hs1,hnd2⟩:=List.nodup_cons.mp ajP
 have yM:D≠sA:=λz=>hD1 (by rw[z];exact List.mem_cons_self ..)
 have VD:D∉prs.map (·.1):=λz=>hD1 (List.mem_cons_of_mem _ z)
 unfold gA d8
 refine CJ (K:=K) (x:=d.word) (λR h=>eF (t:=t) rfl ht d.at0 h) (λR h=>h) ?_
 cases d with
 |lay nm a b w l=>
  rw[if_pos (show decide ((aX.lay nm a b w l).word="lay")=true from(by decide +kernel:decide (("lay":Str)="lay")=true))]
  unfold gq wA aN zm
  refine aB (v:=.ref D) rfl ⟨.inl ⟨rfl,_,bQ.of hH.top⟩,eF (t:=t) rfl ht rfl (eF (t:=t) rfl ht rfl (eF (t:=t) rfl ht rfl (eF (t:=t) rfl ht rfl (eF (t:=t) rfl ht rfl ⟨by show 5<=sizeLine;decide,λra hra=>?_⟩))))⟩
  have s1:=aL (o:=.lst (dU (nm,a,b,w,l))) hra
  have abd:D≠ra:=aR hH.top hra
  have ajQ:sA≠ra:=aR hs hra
  refine⟨_,s1 _ _ hH.top,dX (by rw[List.length_map];omega),?_⟩
  have hrp:∀x∈prs,x.1≠ra:=λx hx=>aR (hH.row x hx) hra
  have hxD:∀x∈prs,x.1≠D:=λx hx g=>VD (by rw[<-g];exact List.mem_map_of_mem (f:=λx:PR=>x.1) hx)
  have CK:Held (upd (upd H ra (.lst (dU (nm,a,b,w,l)))) D (.lst ((prs.map λx=>.ref x.1)++[.ref ra]))) D (prs++[(ra,(nm,a,b,w,l))]):=by
   refine⟨by rw[ao,List.map_append];rfl,λx hx=>?_,λx hx=>?_⟩
   .rcases List.mem_append.mp hx with g|g
    .rw[aq (hxD x g)];exact s1 _ _ (hH.row x g)
    .rw[List.mem_singleton.mp g,aq abd.symm,ao]
   .rcases List.mem_append.mp hx with g|g
    .exact hH.can x g
    .rw[List.mem_singleton.mp g];exact hcan _ _ _ _ _ rfl
  have hs2:upd (upd H ra (.lst (dU (nm,a,b,w,l)))) D (.lst ((prs.map λx=>.ref x.1)++[.ref ra])) sA=some (.lst (seen.map V.str)):=by rw[aq yM.symm];exact s1 _ _ hs
  have fr1:∀c o,c≠D->H c=some o->upd (upd H ra (.lst (dU (nm,a,b,w,l)))) D (.lst ((prs.map λx=>.ref x.1)++[.ref ra])) c=some o:=λc o hc e=>by rw[aq hc];exact s1 _ _ e
  have ht1:bM K (upd (upd H ra (.lst (dU (nm,a,b,w,l)))) D (.lst ((prs.map λx=>.ref x.1)++[.ref ra]))) t (aX.vals (.lay nm a b w l)):=bM.off ht λo ho e=>fr1 _ _ (λz=>by rw[z,hH.top] at e;cases e;cases ho) e
  have agO:∀c,upd (upd H ra (.lst (dU (nm,a,b,w,l)))) D (.lst ((prs.map λx=>.ref x.1)++[.ref ra])) c=none->H c=none:=λc e=>by
   by_cases hc:c=D
   .subst hc;rw[ao] at e;cases e
   .rw[aq hc] at e;exact s1.free e
  have eM:(prs++[(ra,(nm,a,b,w,l))]).map (·.1)=prs.map (·.1)++[ra]:=by rw[List.map_append];rfl
  have Kd:(D::sA::(prs++[(ra,(nm,a,b,w,l))]).map (·.1)).Nodup:=by
   rw[eM]
   have hra':ra∉prs.map (·.1):=λz=>by
    obtain⟨x,hx,e⟩:=List.mem_map.mp z
    exact hrp x hx e
   refine List.nodup_cons.mpr ⟨λz=>?_,List.nodup_cons.mpr ⟨λz=>?_,List.nodup_append.mpr ⟨hnd2,by simp,λx hx y hy g=>?_⟩⟩⟩
   .rcases List.mem_cons.mp z with g|g
    .exact yM g
    .rcases List.mem_append.mp g with g|g
     .exact VD g
     .exact abd (List.mem_singleton.mp g)
   .rcases List.mem_append.mp z with g|g
    .exact hs1 g
    .exact ajQ (List.mem_singleton.mp g)
   .rw[List.mem_singleton.mp hy] at g
    exact hra' (g▸hx)
  rw[show([V.str nm,V.str a,V.str b,V.int w,V.int l]:List V)=dU (nm,a,b,w,l) from rfl]
  generalize upd (upd H ra (.lst (dU (nm,a,b,w,l)))) D (.lst ((prs.map λx=>.ref x.1)++[.ref ra]))=H1 at CK hs2 fr1 ht1 agO ⊢
  dsimp only
  rw[mj]
  unfold PL Dr sZ
  refine aB (v:=.ref t) rfl ⟨2,rfl,4,rfl,t,_,rfl,ht1,by show ¬(HT.bT 6 0 (some 2)=0/\HT.bT 6 6 (some 4)=6);decide,λtt htt=>⟨tt,rfl,⟨_,bM.of ao⟩,?_⟩⟩
  have s2:=aL (o:=.tup [.str a,.str b]) htt
  refine N8 (K:=K) (a:=a) (b:=b) (bM.of ao) (s2 _ _ hs2) (by omega) λH2 x3 g1 g2=>?_
  have agP:Held H2 D (prs++[(ra,(nm,a,b,w,l))]):=by
   refine⟨g2 _ _ yM (s2 _ _ CK.top),λx hx=>g2 _ _ (λz=>?_) (s2 _ _ (CK.row x hx)),CK.can⟩
   have:=(List.nodup_cons.mp (List.nodup_cons.mp Kd).2).1
   exact this (by rw[<-z];exact List.mem_map_of_mem (f:=λx:PR=>x.1) hx)
  have Bj:bM K H2 t (aX.vals (.lay nm a b w l)):=bM.off (s2.wV ht1) λo ho e=>g2 _ _ (λz=>by rw[z,s2 _ _ hs2] at e;cases e;cases ho) e
  have Rp:(D::(prs++[(ra,(nm,a,b,w,l))]).map (·.1)).Nodup:=List.nodup_cons.mpr ⟨λz=>(List.nodup_cons.mp Kd).1 (List.mem_cons_of_mem _ z),(List.nodup_cons.mp (List.nodup_cons.mp Kd).2).2⟩
  refine N6 (K:=K) (d:=.lay nm a b w l) agP Rp Bj λH3 Rq x4 a1 a2 a3 a4=>?_
  have hsN:sA∉D::(prs++[(ra,(nm,a,b,w,l))]).map (·.1):=λz=>by
   rcases List.mem_cons.mp z with g|g
   .exact yM g.symm
   .exact(List.nodup_cons.mp (List.nodup_cons.mp Kd).2).1 g
  refine hq H3 Rq a1 ?_ (a4 _ _ hsN g1) ?_ (λc o hc e=>?_) λc hc=>?_
  .rw[a2,List.map_append];rfl
  .refine List.nodup_cons.mpr ⟨λz=>?_,List.nodup_cons.mpr ⟨λz=>?_,a3.nodup (List.nodup_cons.mp Rp).2⟩⟩
   .rcases List.mem_cons.mp z with g|g
    .exact yM g
    .exact(List.nodup_cons.mp Rp).1 (a3.subset g)
   .exact hsN (List.mem_cons_of_mem _ (a3.subset z))
  .have hcD:c≠D:=λz=>hc (by rw[z];exact List.mem_cons_self ..)
   have hcs:c≠sA:=λz=>hc (by rw[z];exact List.mem_cons_of_mem _ (List.mem_cons_self ..))
   refine a4 _ _ (λz=>?_) (g2 _ _ hcs (s2 _ _ (fr1 _ _ hcD e)))
   rcases List.mem_cons.mp z with g|g
   .exact hcD g
   .rw[eM] at g
    rcases List.mem_append.mp g with g|g
    .exact hc (List.mem_cons_of_mem _ (List.mem_cons_of_mem _ g))
    .rw[List.mem_singleton.mp g,hra] at e;cases e
  .have:=a3.subset hc
   rw[eM] at this
   rcases List.mem_append.mp this with g|g
   .exact .inl g
   .rw[List.mem_singleton.mp g];exact .inr hra
 |_=>
  rw[if_neg (by first|exact(by decide +kernel:¬decide (("shut":Str)="lay")=true)|exact(by decide +kernel:¬decide (("widen":Str)="lay")=true)|exact(by decide +kernel:¬decide (("narrow":Str)="lay")=true))]
  unfold dR
  refine N6 (K:=K) hH (List.nodup_cons.mpr ⟨VD,hnd2⟩) ht λH3 Rq x4 a1 a2 a3 a4=>?_
  refine hq H3 Rq a1 a2 (a4 _ _ (λz=>?_) hs) ?_ (λc o hc e=>?_) λc hc=>.inl (a3.subset hc)
  .rcases List.mem_cons.mp z with g|g
   .exact yM g.symm
   .exact hs1 g
  .refine List.nodup_cons.mpr ⟨λz=>?_,List.nodup_cons.mpr ⟨λz=>hs1 (a3.subset z),a3.nodup hnd2⟩⟩
   rcases List.mem_cons.mp z with g|g
   .exact yM g
   .exact VD (a3.subset g)
  .refine a4 _ _ (λz=>?_) e
   rcases List.mem_cons.mp z with g|g
   .exact hc (by rw[g];exact List.mem_cons_self ..)
   .exact hc (List.mem_cons_of_mem _ (List.mem_cons_of_mem _ g))
end
end bW
namespace VM
open PySem PySem.Spec PyProof.Rows L2
noncomputable def VF (K:PySem.W.Frag):List V->Hp->VK->Prop:=λxs H Q=>∃p ys,xs=[.ref p]/\((bQ K H p ys/\∀l,H l=none->Q (.ref l) (upd H l (.tup ys)))\/(bM K H p ys/\Q (.ref p) H))
theorem ajR {X:Cx}:gw X (.type "tuple") (VF X.K):=Bu
noncomputable def FW (f:VE):VE:=λS=>match f S with
 |some (.list ds)=>some (.tuple ds)
 |_=>none
theorem abf {X:Cx}{e:Expr}{f:VE}(he:PE X e (nq (VF X.K) (aN (tV X.K RM f) bA))):PE X e (tV X.K RS (FW f)):=he.imp λ_ H Q q=>by
 obtain⟨aK,G,H₀,S,F,I,d,e,q⟩:=q
 unfold FW at e
 split at e
 .rename_i ds q1
  cases e
  refine⟨aK,G,H₀,S,F,I,_,q1,λv F1 H1 g1 hx=>?_⟩
  obtain⟨p,xs,rfl,h1,h2⟩:=RM.list g1.fh hx
  refine⟨p,xs,rfl,.inl ⟨h1,λz hz=>q _ (upd F1 z (.tup xs)) _ (g1.trans (bY.xV g1.fh hz)) ⟨z,xs,rfl,bM.of ao,h2.same (aL (g1.fh.free hz))⟩⟩⟩
 .cases e
section
variable {K:PySem.W.Frag}{S:GS}{σ:St}{H:Hp}
noncomputable def cY (K:PySem.W.Frag)(H:Hp):GS->St->Prop
 |[],σ=>σ=[]
 |none::S,σ=>∃x r,σ=x::r/\cY K H S r
 |some (t,d)::S,σ=>∃v r,σ=some v::r/\t=.fr/\Has K H d v/\cY K H S r
theorem cY.len:∀{S:GS}{σ:St},cY K H S σ->S.length=σ.length
 |[],σ,h=>by rw[show σ=[] from h];rfl
 |none::S,σ,⟨x,r,e,h⟩=>by rw[e,List.length_cons,List.length_cons,cY.len h]
 |some (t,d)::S,σ,⟨v,r,e,_,_,h⟩=>by rw[e,List.length_cons,List.length_cons,cY.len h]
theorem cY.slot:∀{S:GS}{σ:St},cY K H S σ->∀(i:Nat) t d,S[i]? =some (some (t,d))->t=.fr/\∃v,σ[i]? =some (some v)/\Has K H d v
 |[],σ,_,i,t,d,e=>by simp at e
 |none::S,σ,⟨x,r,e,h⟩,i,t,d,e2=>by
  subst e
  cases i with
  |zero=>cases e2
  |succ i=>exact cY.slot h i t d e2
 |some (t0,d0)::S,σ,⟨v,r,e,h1,h2,h⟩,i,t,d,e2=>by
  subst e
  cases i with
  |zero=>cases e2;exact⟨h1,v,rfl,h2⟩
  |succ i=>exact cY.slot h i t d e2
theorem VI.at (h:cY K H S σ):VI K (λ_=>none) H H S H σ H where
 len:=h.len
 same:=Same.refl _
 gf:=Same.refl _
 new:=λ_ _ e=>.inl e
 sub:=Same.refl _
 slot:=λi t d e=>by
  obtain⟨rfl,v,e1,e2⟩:=h.slot i t d e
  exact⟨v,e1,e2⟩
 inj:=λi j t t' d d' v e1 _ o1 _ _ _=>by
  obtain⟨rfl,_⟩:=h.slot i t d e1
  cases o1
 pl:=λ_ _ _ e=>e
theorem vI {f:VE}{d:PyData}{Q:VK}(h:cY K H S σ)(e:f S=some d)(q:∀v H',Same H H'->Has K H' d v->Q v H'):tV K RS f σ H Q:=
 ⟨_,_,_,S,H,VI.at h,d,e,λv _ H' g hv=>q v H' g.hh (Has.same g.fh hv)⟩
theorem yN {f:VE}{ds:List PyData}{Q:VK}(h:cY K H S σ)(e:f S=some (.list ds))(q:∀a xs H',Same H H'->H a=none->H' a=some (.lst xs)->aJ K H' ds xs->Q (.ref a) H'):tV K RN f σ H Q:=
 ⟨_,_,_,S,H,VI.at h,_,e,λv F' H' g hv=>by
  obtain⟨ds',a,xs,e1,rfl,h1,_,h3,h4⟩:=hv
  cases e1
  exact q a xs H' g.hh h1 h3 (aJ.same g.fh h4)⟩
theorem Fd {f:VT}{b:Bool}{Q:Bool->Hp->Prop}(h:cY K H S σ)(e:f S=some b)(q:∀H',Same H H'->Q b H'):gR K f σ H Q:=
 ⟨_,_,_,S,H,VI.at h,b,e,λ_ H' g=>q H' g.hh⟩
end
end VM
namespace bW
open PySem PySem.Spec PyProof.Rows L2 VM
set_option maxHeartbeats 4000000
noncomputable def uc (r:Row):PyData:=.tuple [.str r.1,.str r.2.1,.str r.2.2.1,.int r.2.2.2.1,.int r.2.2.2.2]
noncomputable def fB (rows:List Row):PyData:=.list (rows.map bN)
noncomputable def qK (rows:List Row):PyData:=.list (rows.map uc)
noncomputable def cA (xs:List Str):PyData:=.list (xs.map .str)
theorem nH:∀(ds:List PyData) (n:Nat),(∀d∈ds,d.depth<=n)->PyData.depthAll ds<=n+1
 |[],_,_=>by simp[PyData.depthAll]
 |d::r,n,h=>by
  have h1:=h d (List.mem_cons_self ..)
  have h2:=nH r n λx hx=>h x (List.mem_cons_of_mem _ hx)
  simp only[PyData.depthAll]
  omega
theorem zM:∀(ds:List PyData),(∀d∈ds,d.canLay0=true)->PyData.canLayAll0 ds=true
 |[],_=>rfl
 |d::r,h=>by
  simp only[PyData.canLayAll0,Bool.and_eq_true]
  exact⟨h d (List.mem_cons_self ..),zM r λx hx=>h x (List.mem_cons_of_mem _ hx)⟩
theorem Ke (xs:List Str):(cA xs).depth<=60:=by
 have:=nH (xs.map PyData.str) 5 (λd hd=>by obtain⟨x,_,rfl⟩:=List.mem_map.mp hd;simp[PyData.depth])
 simp only[cA,PyData.depth]
 omega
theorem Rr {xs:List Str}(h:∀x∈xs,(PyData.str x).canLay0=true):(cA xs).canLay0=true:=by
 simp only[cA,PyData.canLay0]
 exact zM _ λd hd=>by obtain⟨x,hx,rfl⟩:=List.mem_map.mp hd;exact h x hx
theorem Kf (rows:List Row):(qK rows).depth<=60:=by
 have:=nH (rows.map uc) 10 (λd hd=>by obtain⟨x,_,rfl⟩:=List.mem_map.mp hd;simp[uc,PyData.depth,PyData.depthAll])
 simp only[qK,PyData.depth]
 omega
theorem Rt {r:Row}(h:(bN r).canLay0=true):(uc r).canLay0=true:=by
 simpa only[bN,uc,PyData.canLay0] using h
theorem Ru {rows:List Row}(h:∀r∈rows,(bN r).canLay0=true):(qK rows).canLay0=true:=by
 simp only[qK,PyData.canLay0]
 exact zM _ λd hd=>by obtain⟨x,hx,rfl⟩:=List.mem_map.mp hd;exact Rt (h x hx)
section
variable {P:Program}{w:World}{K:PySem.W.Frag}{mg:Str->Option Value}{base:Heap}{C:Addr}
theorem abg {S:GS}{σ:L2.St}{H:Hp}{f:VE}{d:PyData}{Q:VK}(h:cY K H S σ)(e:f S=some d)(q:∀v H',Same H H'->Has K H' d v->Q v H'):tV K RW f σ H Q:=
 ⟨_,_,_,S,H,VI.at h,d,e,λv _ H' g hv=>q v H' g.hh hv⟩
theorem Bm {H:Hp}:∀{xs:List Str},(∀x∈xs,(PyData.str x).canLay0=true)->aJ K H (xs.map .str) (xs.map V.str)
 |[],_=>rfl
 |x::r,h=>⟨_,_,rfl,⟨rfl,h x (List.mem_cons_self ..)⟩,Bm λy hy=>h y (List.mem_cons_of_mem _ hy)⟩
theorem jK {H:Hp}{a:Addr}{xs:List Str}(h:H a=some (.lst (xs.map V.str)))(c:∀x∈xs,(PyData.str x).canLay0=true):Has K H (cA xs) (.ref a):=⟨a,_,rfl,bQ.of h,Bm c⟩
theorem Rv {H:Hp}{v:V}{r:Row}(h:Ft H v r)(c:(bN r).canLay0=true):Has K H (uc r) v:=by
 obtain⟨t,rfl,h⟩:=h
 simp only[bN,PyData.canLay0,PyData.canLayAll0,Bool.and_eq_true] at c
 obtain⟨c1,c2,c3,_⟩:=c
 refine⟨t,dU r,rfl,bM.of h,?_⟩
 refine⟨_,_,rfl,⟨rfl,by simp only[PyData.canLay0];exact c1⟩,_,_,rfl,⟨rfl,by simp only[PyData.canLay0];exact c2⟩,_,_,rfl,⟨rfl,by simp only[PyData.canLay0];exact c3⟩,_,_,rfl,rfl,_,_,rfl,rfl,rfl⟩
theorem Bo {H:Hp}:∀{ts:List V}{rows:List Row},Paired (Ft H) ts rows->(∀r∈rows,(bN r).canLay0=true)->aJ K H (rows.map uc) ts
 |_,_,.nil,_=>rfl
 |_,_,.cons h r,c=>⟨_,_,rfl,Rv h (c _ (List.mem_cons_self ..)),Bo r λy hy=>c y (List.mem_cons_of_mem _ hy)⟩
theorem Rw {H:Hp}{a:Addr}{ts:List V}{rows:List Row}(h:H a=some (.lst ts))(p:Paired (Ft H) ts rows)(c:∀r∈rows,(bN r).canLay0=true):Has K H (qK rows) (.ref a):=⟨a,_,rfl,bQ.of h,Bo p c⟩
theorem Held.ajS {H:Hp}{D:Addr}{prs:List PR}(h:Held H D prs):∀r∈prs.map (·.2),(bN r).canLay0=true:=λr hr=>by
 obtain⟨x,hx,rfl⟩:=List.mem_map.mp hr
 exact h.can x hx
theorem Held.has {H:Hp}{D:Addr}{prs:List PR}(h:Held H D prs):Has K H (fB (prs.map (·.2))) (.ref D):=⟨D,_,rfl,bQ.of h.top,by rw[List.map_map];exact u5 h.row h.can⟩
end
end bW
namespace bW
open PySem PySem.Spec PyProof.Rows L2 VM
set_option maxHeartbeats 4000000
noncomputable def dD (ns:List Int)(k:Int):Int:=ns.getD k.toNat 0
theorem Rx {ns:List Int}{k:Int}(h0:0<=k)(h1:k<ns.length):cT (ns.map PyData.int) k=some (.int (dD ns k)):=by
 obtain⟨j,rfl⟩:∃j:Nat,k=j:=⟨k.toNat,by omega⟩
 have hj:j<ns.length:=by omega
 refine dz ?_
 simp[hj,dD]
noncomputable def zN (n:Int):Nat->Int
 |0=>n
 |k+1=>zN n k/1000000000000
noncomputable def abh (x k:Int):Int:=((x*x+16807*x+k) % 2147483629)*((x*x+16807*x+k) % 2147483629) % 2147483587
noncomputable def eX (c k:Int):Int:=if c % 2=0 then zN ((if c<0 then -c else c)/2) k.toNat else abh ((c+7919*k) % 2147483629) k
theorem cW (a:Int){b:Int}(h:0<b):0<=a % b/\a % b<b:=⟨Int.emod_nonneg a (by omega),Int.emod_lt_of_pos a h⟩
theorem pY {ns:List Int}{k:Int}(h0:0<=k):cH [.list (ns.map .int),.int k]=some (false,.int (dD ns k)):=by
 unfold cH mF
 walk_at "e0"
 simp only[List.length_map]
 by_cases h:k<ns.length
 .simp only[h,decide_true]
  walk_at "e0"
  rw[Rx h0 h]
  walk_at "e0"
 .simp only[h,decide_false]
  walk_at "e0"
  have e:dD ns k=0:=by
   unfold dD
   rw[List.getD_eq_getElem?_getD,List.getElem?_eq_none (by omega)]
   rfl
  rw[e]
theorem oE {c k:Int}(h0:0<=k)(h1:k<=100):bJ [.int c,.int k]=some (false,.int (eX c k)):=by
 unfold bJ pN eX
 walk_at "e0"
 simp only[cg (show(0:Int)<2 by decide),Cr]
 walk_at "e0"
 by_cases h:c % 2=0
 .simp only[h,decide_true]
  walk_at "e0"
  simp only[eZ (show(0:Int)<2 by decide) (by decide)]
  walk_at "e0"
  rw[if_pos (by omega)]
  walk_at "e0"
  have key:=Ek (t:=gN 3) (g:=cD (v2 fD (vN 2) (v2 qQ (vC (.int 10)) (vC (.int 12)))) (gN 2))
   (λi=>[some (Tg.fr,.int c),some (Tg.fr,.int k),some (Tg.fr,.int (zN ((if c<0 then -c else c)/2) i)),if i=0 then none else some (Tg.fr,.int ((i - 1:Nat):Int))]) (iT 0 k.toNat) 0 ?_
  .simp only[zN,↓reduceIte,Nat.zero_add,nR] at key
   rw[key]
   walk_at "e0"
  .intro j d hj
   obtain⟨hj,rfl⟩:=yp hj
   refine⟨[some (Tg.fr,.int c),some (Tg.fr,.int k),some (Tg.fr,.int (zN ((if c<0 then -c else c)/2) j)),some (Tg.fr,.int (j:Int))],?_,?_⟩
   .cases j<;>(walk_at "e0";simp[HW])
   .walk_at "e0"
    simp only[uV (show(0:Int)<=12 by decide) (by decide) (show(0:Int)<=10 by decide) (by decide)]
    walk_at "e0"
    simp only[eZ (show(0:Int)<1000000000000 by decide) (by decide)]
    walk_at "e0"
    simp[zN]
 .simp only[h,decide_false]
  walk_at "e0"
  rw[yh (by decide) (by decide) (by omega) (by omega)]
  walk_at "e0"
  simp only[cg (show(0:Int)<2147483629 by decide)]
  walk_at "e0"
  have b:=cW (c+7919*k) (show(0:Int)<2147483629 by decide)
  generalize (c+7919*k) % 2147483629=x at*
  rw[yh (by omega) (by omega) (by omega) (by omega)]
  walk_at "e0"
  rw[yh (by omega) (by omega) (by omega) (by omega)]
  walk_at "e0"
  simp only[cg (show(0:Int)<2147483629 by decide)]
  walk_at "e0"
  have b:=cW (x*x+16807*x+k) (show(0:Int)<2147483629 by decide)
  unfold abh
  generalize (x*x+16807*x+k) % 2147483629=y at*
  rw[yh (by omega) (by omega) (by omega) (by omega)]
  walk_at "e0"
  simp only[cg (show(0:Int)<2147483587 by decide)]
  walk_at "e0"
noncomputable def jy:Int:=10000000000000000000000000000000000000000000000000000000000
theorem VH (c:Int):∃w,fj [.int c]=some (false,.int w)/\1<=w/\w<=jy:=by
 unfold fj pP
 walk_at "e0"
 simp only[oE (c:=c) (k:=1) (by decide) (by decide)]
 walk_at "e0"
 simp only[cg (show(0:Int)<4 by decide),Cr]
 walk_at "e0"
 by_cases h:eX c 1 % 4=0
 .simp only[h,decide_true]
  walk_at "e0"
  simp only[uV (show(0:Int)<=58 by decide) (by decide) (show(0:Int)<=10 by decide) (by decide)]
  walk_at "e0"
  simp only[cg (show(0:Int)<10000000000000000000000000000000000000000000000000000000000 by decide)]
  walk_at "e0"
  exact⟨_,rfl,by unfold jy;have:=cW c (show(0:Int)<10000000000000000000000000000000000000000000000000000000000 by decide);omega⟩
 .simp only[h,decide_false]
  walk_at "e0"
  simp only[eZ (show(0:Int)<4 by decide) (by decide)]
  walk_at "e0"
  simp only[cg (show(0:Int)<6 by decide)]
  walk_at "e0"
  exact⟨_,rfl,by unfold jy;have:=cW (eX c 1/4) (show(0:Int)<6 by decide);omega⟩
theorem agQ (c:Int):∃w,gB [.int c]=some (false,.int w)/\1<=w:=by
 unfold gB nU
 walk_at "e0"
 simp only[oE (c:=c) (k:=2) (by decide) (by decide)]
 walk_at "e0"
 simp only[cg (show(0:Int)<6 by decide),Cr]
 walk_at "e0"
 by_cases h:eX c 2 % 6=0
 .simp only[h,decide_true]
  walk_at "e0"
  simp only[uV (show(0:Int)<=58 by decide) (by decide) (show(0:Int)<=10 by decide) (by decide)]
  walk_at "e0"
  simp only[cg (show(0:Int)<10000000000000000000000000000000000000000000000000000000000 by decide)]
  walk_at "e0"
  exact⟨_,rfl,by have:=cW c (show(0:Int)<10000000000000000000000000000000000000000000000000000000000 by decide);omega⟩
 .simp only[h,decide_false]
  walk_at "e0"
  simp only[eZ (show(0:Int)<6 by decide) (by decide)]
  walk_at "e0"
  simp only[cg (show(0:Int)<5 by decide)]
  walk_at "e0"
  exact⟨_,rfl,by have:=cW (eX c 2/6) (show(0:Int)<5 by decide);omega⟩
noncomputable def abc:Str:="abcdefghijklmnopqrstuvwxyz"
theorem zO:abc.cps.toList=(List.range 26).map (· +97):=by decide +kernel
theorem zP:abc.length=26:=by decide +kernel
noncomputable def AZ (x:Str):Prop:=∀c∈x.cps.toList,97<=c/\c<=122
theorem abj:AZ abc:=λc hc=>by
 rw[zO] at hc
 obtain⟨i,hi,rfl⟩:=List.mem_map.mp hc
 have:=List.mem_range.mp hi
 omega
theorem lC (z:Str)(lo hi:Option Int):(eG z lo hi).cps.toList=mq z.cps.toList lo hi:=by unfold eG;simp
theorem AZ.cut {z:Str}(h:AZ z)(lo hi:Option Int):AZ (eG z lo hi):=λc hc=>by
 rw[lC] at hc
 exact h c (List.mem_of_mem_drop (List.mem_of_mem_take hc))
theorem eU (z:Str):z.length=z.cps.toList.length:=by simp[Str.length]
theorem ud (z:Str)(lo hi:Option Int):(eG z lo hi).length<=z.length:=by
 rw[eU,lC,eU z]
 unfold mq
 rw[List.length_take,List.length_drop]
 omega
theorem oU {n d:Nat}(i:Int)(h:0<=i):HT.bT n d (some i)=min i.toNat n:=by
 show(if i<0 then _ else _)=_
 rw[if_neg (by omega)]
theorem Oa (z:Str):(eG z none (some 11)).length<=11:=by
 rw[eU,lC]
 unfold mq
 rw[oU 11 (by decide),List.length_take]
 show min (min 11 _ - _) _<=11
 omega
theorem Yk (z:Str)(i:Nat)(h:i<=z.length):(eG z none (some (i:Int))).cps.toList=z.cps.toList.take i:=by
 rw[lC]
 unfold mq
 rw[oU (i:Int) (by omega),Int.toNat_natCast,←eU]
 show(z.cps.toList.drop 0).take (min i z.length - 0)=_
 rw[List.drop_zero,Nat.sub_zero,Nat.min_eq_left h]
theorem Yl (z:Str)(i:Nat)(h:i<=z.length):(eG z (some (i:Int)) none).cps.toList=z.cps.toList.drop i:=by
 rw[lC]
 unfold mq
 rw[oU (i:Int) (by omega),Int.toNat_natCast,←eU,Nat.min_eq_left h]
 show(z.cps.toList.drop i).take (z.length - i)=_
 rw[List.take_of_length_le]
 rw[List.length_drop,←eU]
 exact Nat.le_refl _
noncomputable def wordOf (base:Str)(i j:Nat):Str:=(eG base none (some (i:Int))++⟨#[j+97]⟩)++eG base (some (i:Int)) none
theorem uf {base:Str}{i:Nat}(j:Nat)(h:i<=base.length):(wordOf base i j).cps.toList=base.cps.toList.take i++(j+97)::base.cps.toList.drop i:=by
 unfold wordOf
 rw[rZ,rZ,Yk base i h,Yl base i h]
 simp
theorem Ry {base:Str}{i j k:Nat}(h:i<=base.length)(e:wordOf base i j=wordOf base i k):j=k:=by
 have:=congrArg (λz:Str=>z.cps.toList) e
 simp only[uf _ h] at this
 have:=List.append_cancel_left this
 have:=(List.cons.inj this).1
 omega
theorem AZ.ascii {z:Str}(h:AZ z):ascii z=true:=by
 unfold L2.ascii
 rw[Array.all_eq_true']
 intro c hc
 have:=h c (by simpa using hc)
 simp;omega
theorem AZ.can {z:Str}(h:AZ z):(PyData.str z).canLay0=true:=by
 rw[rY]
 intro c hc
 have:=h c hc
 omega
theorem abk {c:Nat}(h:97<=c/\c<=122):(nC iz iz (vC (.str "a")) (vN 0) (vC (.str "z"))) [some (.fr,.str ⟨#[c]⟩)]=some (.bool true):=by
 have e1:iz (.str "a") (.str ⟨#[c]⟩)=some (.bool true):=by
  show some (PyData.bool (!decide ([c]<("a":Str).cps.toList)))=_
  have:(("a":Str).cps.toList)=[97]:=by decide +kernel
  rw[this,decide_eq_false (λz=>by rcases List.cons_lt_cons_iff.mp z with g|⟨_,g⟩;omega;exact absurd g (by simp))]
  rfl
 have e2:iz (.str ⟨#[c]⟩) (.str "z")=some (.bool true):=by
  show some (PyData.bool (!decide (("z":Str).cps.toList<[c])))=_
  have:(("z":Str).cps.toList)=[122]:=by decide +kernel
  rw[this,decide_eq_false (λz=>by rcases List.cons_lt_cons_iff.mp z with g|⟨_,g⟩;omega;exact absurd g (by simp))]
  rfl
 walk_at "e0"
 rw[e1]
 walk_at "e0"
 exact e2
noncomputable def bh (nm:Str):Prop:=(cV nm true/\dI nm)/\(PyData.str nm).canLay0=true
theorem AZ.word {z:Str}(h:AZ z)(h2:z.length<=12):dI z:=⟨h.can,by omega,λc hc=>by have:=h c hc;omega⟩
theorem vQ {z:Str}(h:AZ z)(h1:1<=z.length)(h2:z.length<=12):bh z:=by
 refine⟨⟨?_,h.word h2⟩,h.can⟩
 have el:mY [.str z]=some (.int (z.length:Int)):=by show(if z.length<=1000 then _ else _)=_;rw[if_pos (by omega)]
 have es:(nF (gO (vN 0)) [none] (gN 0) jU (nC iz iz (vC (.str "a")) (vN 0) (vC (.str "z")))) [some (.fr,.str z)]=some (.list (z.cps.toList.map λ_=>.bool true)):=by
  rw[Er]
  unfold gO
  have en:vN 0 [some (.fr,.str z)]=some (.str z):=by walk_at "e0"
  rw[en]
  simp only[h.ascii,if_true]
  unfold tU
  rw[qx rfl (by rw[List.length_map,←eU];exact dX (by omega))]
  rw[lu (f:=λ_=>.bool true)]
  .walk_at "e0"
   rw[List.map_map]
   rfl
  .intro d hd
   obtain⟨c,hc,rfl⟩:=List.mem_map.mp hd
   exact⟨[some (.fr,.str ⟨#[c]⟩)],by walk_at "e0",rfl,abk (h c hc)⟩
 have ea:qY [.list (z.cps.toList.map λ_=>.bool true)]=some (.bool true):=by
  show(boolsOf _).map _=_
  rw[show(z.cps.toList.map λ_=>PyData.bool true)=(z.cps.toList.map λ_=>true).map PyData.bool by rw[List.map_map];rfl,qX]
  simp
 have eB:(jR (vB (fQ qY (aC (nF (gO (vN 0)) [none] (gN 0) jU (nC iz iz (vC (.str "a")) (vN 0) (vC (.str "z")))) a0)))) [some (.fr,.str z)]=some false:=by
  unfold jR vB fQ
  rw[JR,es]
  show(match(match qY [.list (z.cps.toList.map λ_=>.bool true)] with|some (.bool b)=>some b|_=>none) with|some b=>some !b|none=>none)=_
  rw[ea]
  rfl
 have eA:(jR (vB (nC wD wD (vC (.int 1)) (fQ mY (aC (vN 0) a0)) (vC (.int 12))))) [some (.fr,.str z)]=some false:=by
  walk_at "e0"
  rw[el]
  walk_at "e0"
  have g1:decide ((1:Int)<=(z.length:Int))=true:=decide_eq_true (by omega)
  have g2:decide ((z.length:Int)<=12)=true:=decide_eq_true (by omega)
  simp only[g1,g2]
  walk_at "e0"
  simp only[g2]
  walk_at "e0"
 have eT:(tL (jR (vB (nC wD wD (vC (.int 1)) (fQ mY (aC (vN 0) a0)) (vC (.int 12))))) (jR (vB (fQ qY (aC (nF (gO (vN 0)) [none] (gN 0) jU (nC iz iz (vC (.str "a")) (vN 0) (vC (.str "z")))) a0))))) [some (.fr,.str z)]=some false:=by
  rw[Ep,eA,JN,eB]
 exact eT
noncomputable def baseOf (n:Int):Str:=eG (eG abc (some (n % 26)) (some (n % 26+n/26 % 12))) none (some 11)
noncomputable def jj (n:Int):Nat:=(n/312 % ((baseOf n).length+1:Int)).toNat
noncomputable def wordsOf (n:Int)(many:Nat):List Str:=(List.range many).map λj=>wordOf (baseOf n) (jj n) j
theorem qL (n:Int):jj n<=(baseOf n).length:=by
 unfold jj
 have:=cW (n/312) (show(0:Int)<((baseOf n).length+1:Int) by omega)
 omega
theorem vU (n:Int):AZ (baseOf n):=(abj.cut _ _).cut _ _
theorem Ym (n:Int){j:Nat}(hj:j<26):bh (wordOf (baseOf n) (jj n) j):=by
 have ec:=uf j (qL n)
 have hb:=Oa (eG abc (some (n % 26)) (some (n % 26+n/26 % 12)))
 have hb':(baseOf n).length<=11:=hb
 have hl:(wordOf (baseOf n) (jj n) j).length=(baseOf n).length+1:=by
  rw[eU,ec,List.length_append,List.length_cons,List.length_take,List.length_drop,←eU,Nat.min_eq_left (qL n)]
  have:=qL n
  omega
 refine vQ (λc hc=>?_) (by omega) (by omega)
 rw[ec] at hc
 rcases List.mem_append.mp hc with g|g
 .exact vU n c (List.mem_of_mem_take g)
 .rcases List.mem_cons.mp g with g|g
  .omega
  .exact vU n c (List.mem_of_mem_drop g)
theorem FZ (n:Int){many:Nat}(hm:many<=8):∀x∈wordsOf n many,bh x:=λx hx=>by
 obtain⟨j,hj,rfl⟩:=List.mem_map.mp hx
 have:=List.mem_range.mp hj
 exact Ym n (by omega)
theorem Ga (n:Int)(many:Nat):(wordsOf n many).Nodup:=by
 unfold wordsOf
 refine List.Pairwise.map _ (λa b h=>?_) List.nodup_range
 exact λe=>h (Ry (qL n) e)
theorem Bp (n:Int)(many:Nat):(wordsOf n many).length=many:=by unfold wordsOf;rw[List.length_map,List.length_range]
theorem mO {f:VE}{l u:GS->Option (Option Int)}{S:GS}{x:Str}{lo hi:Option Int}(h1:f S=some (.str x))(h2:l S=some lo)(h3:u S=some hi)(h:x.length<=1000):j6 f l u S=some (.str (eG x lo hi)):=by
 unfold j6
 rw[h1,h2,h3]
 exact if_pos h
theorem kY {x y:Str}(h:x.length+y.length<=1000):jV (.str x) (.str y)=some (.str (x++y)):=if_pos h
theorem Yn {x:Str}{j c:Nat}(h:x.length<=1000)(e:x.cps.toList[j]? =some c):Ew (.str x) (.int (j:Int))=some (.str ⟨#[c]⟩):=by
 show(if x.length<=1000 then _ else _)=_
 rw[if_pos h,dz e]
 rfl
theorem Rz {x:Str}(h:x.length<=1000):mY [.str x]=some (.int (x.length:Int)):=if_pos h
theorem Iu (x y:Str):(x++y).length=x.length+y.length:=by rw[eU,rZ,List.length_append,←eU,←eU]
theorem zQ {c k:Int}(h0:0<=k)(h1:k<=100){many:Nat}(hm:many<=8):gj [.int c,.int (many:Int),.int k]=some (true,cA (wordsOf (eX c k) many)):=by
 unfold gj pO
 walk_at "e0"
 simp only[oE (c:=c) (k:=k) h0 h1]
 walk_at "e0"
 generalize eX c k=n
 have hb1:(eG abc (some (n % 26)) (some (n % 26+n/26 % 12))).length<=26:=by rw[<-zP];exact ud _ _ _
 have hb2:(baseOf n).length<=11:=Oa _
 rw[mO (x:=abc) (lo:=some (n % 26)) (hi:=some (n % 26+n/26 % 12)) (by walk_at "e0";rfl) (by walk_at "e0";simp only[cg (show(0:Int)<26 by decide)])
  (by walk_at "e0";simp only[cg (show(0:Int)<26 by decide)];walk_at "e0";simp only[eZ (show(0:Int)<26 by decide) (by decide)];walk_at "e0";simp only[cg (show(0:Int)<12 by decide)];walk_at "e0") (by rw[zP];decide)]
 walk_at "e0"
 rw[mO (x:=eG abc (some (n % 26)) (some (n % 26+n/26 % 12))) (lo:=none) (hi:=some 11) (by walk_at "e0") (by walk_at "e0") (by walk_at "e0") (by omega)]
 walk_at "e0"
 rw[show eG (eG abc (some (n % 26)) (some (n % 26+n/26 % 12))) none (some 11)=baseOf n from rfl]
 simp only[eZ (show(0:Int)<312 by decide) (by decide)]
 walk_at "e0"
 rw[Rz (show(baseOf n).length<=1000 by omega)]
 walk_at "e0"
 rw[cg (show(0:Int)<((baseOf n).length:Int)+1 by omega)]
 walk_at "e0"
 have ea:n/312 % (((baseOf n).length:Int)+1)=(jj n:Int):=by
  unfold jj
  have:=cW (n/312) (show(0:Int)<((baseOf n).length+1:Int) by omega)
  omega
 rw[ea]
 rw[if_pos (by omega)]
 walk_at "e0"
 rw[qx rfl (by rw[nR];exact dX (by omega))]
 have hal:=qL n
 rw[lu (f:=λd=>match d with|.int j=>.str (wordOf (baseOf n) (jj n) j.toNat)|d=>d)]
 .walk_at "e0"
  unfold cA wordsOf iT
  rw[List.map_map,List.map_map,Int.toNat_natCast]
  refine congrArg (λl=>some (true,PyData.list l)) (List.map_congr_left λj _=>?_)
  show PyData.str (wordOf (baseOf n) (jj n) (0+(j:Int)).toNat)=_
  rw[show(0+(j:Int)).toNat=j by omega]
  rfl
 .intro d hd
  obtain⟨j,hj,rfl⟩:=List.getElem_of_mem hd
  have hj':j<many:=by rw[nR,Int.toNat_natCast] at hj;exact hj
  have ed:(iT 0 (many:Int).toNat)[j]=.int (j:Int):=by
   have:=(yp (lo:=0) (n:=(many:Int).toNat) (j:=j) (d:=(iT 0 (many:Int).toNat)[j]) (by simp[hj])).2
   rw[this]
   congr 1
   omega
  rw[ed]
  refine⟨[some (.fr,.int (j:Int)),some (.fr,.str (baseOf n)),some (.fr,.str abc),some (.fr,.int (jj n:Int))],by walk_at "e0";rfl,rfl,?_⟩
  have e1:(j6 (vN 1) oN (oI (vN 3))) [some (.fr,.int (j:Int)),some (.fr,.str (baseOf n)),some (.fr,.str abc),some (.fr,.int (jj n:Int))]=some (.str (eG (baseOf n) none (some (jj n:Int)))):=
   mO (by walk_at "e0") (by walk_at "e0") (by walk_at "e0") (by omega)
  have e2:(j6 (vN 1) (oI (vN 3)) oN) [some (.fr,.int (j:Int)),some (.fr,.str (baseOf n)),some (.fr,.str abc),some (.fr,.int (jj n:Int))]=some (.str (eG (baseOf n) (some (jj n:Int)) none)):=
   mO (by walk_at "e0") (by walk_at "e0") (by walk_at "e0") (by omega)
  have e3:Ew (.str abc) (.int (j:Int))=some (.str ⟨#[j+97]⟩):=Yn (by rw[zP];decide) (by rw[zO,List.getElem?_map,List.getElem?_range (by omega)];rfl)
  have l1:=ud (baseOf n) none (some (jj n:Int))
  have l2:=ud (baseOf n) (some (jj n:Int)) none
  have l3:(⟨#[j+97]⟩:Str).length=1:=rfl
  rw[JQ,JQ,e1,QH]
  walk_at "e0"
  rw[e3,QJ,kY (by rw[l3];omega),QH,e2,QJ,kY (by rw[Iu,l3];omega)]
  rfl
end bW
namespace bW
open PySem PySem.Spec PyProof.Rows L2 VM
set_option maxHeartbeats 4000000
theorem zR (x:Str)(xs:List Str):zG true (.str x) (.list (xs.map .str))=some (.bool (!(xs.any λy=>y==x))):=by
 show(match strsOf (xs.map .str) with|some xs=>some (PyData.bool (if true=true then !(xs.any λy=>y==x) else xs.any λy=>y==x))|none=>none)=_
 rw[yx]
 rfl
noncomputable def jW (words:List Str)(nms:List Str):Option Str:=words.find? λx=>!(nms.any λy=>y==x)
theorem yO {L1 L2:PyData}(nms:List Str):∀(words:List Str) (x3:Option (Tg×PyData)),(x3=none\/∃z,x3=some (.fr,.str z))->
  (∃w,jW words nms=some w/\kO (gN 3) (lN (vB (v2 (zG true) (vN 3) (vN 2))) (vD 3) jr) (words.map .str) [some (.fr,L1),some (.fr,L2),some (.fr,.list (nms.map .str)),x3]=.ret [some (.fr,L1),some (.fr,L2),some (.fr,.list (nms.map .str)),some (.fr,.str w)] false (.str w))
 \/jW words nms=none
 |[],_,_=>.inr rfl
 |w::ws,x3,hx=>by
  by_cases h:(nms.any λy=>y==w)=true
  .have ih:=yO (L1:=L1) (L2:=L2) nms ws (some (.fr,.str w)) (.inr ⟨w,rfl⟩)
   have e:jW (w::ws) nms=jW ws nms:=by
    unfold jW
    rw[List.find?_cons,h]
    rfl
   rw[e]
   rcases ih with⟨v,g1,g2⟩|g
   .refine .inl ⟨v,g1,?_⟩
    rw[List.map_cons,kO]
    rcases hx with rfl|⟨z,rfl⟩<;>(walk_at "e0";rw[zR,h];walk_at "e0";exact g2)
   .exact .inr g
  .have h':(nms.any λy=>y==w)=false:=Bool.eq_false_iff.mpr h
   refine .inl ⟨w,?_,?_⟩
   .unfold jW
    rw[List.find?_cons,h']
    rfl
   .rw[List.map_cons,kO]
    rcases hx with rfl|⟨z,rfl⟩<;>(walk_at "e0";rw[zR,h'];walk_at "e0")
theorem Yo {words:List Str}{rows:List Row}{w:Str}(hl:rows.length<1000)(h:jW words (rows.map (·.1))=some w):gU [cA words,fB rows]=some (false,.str w):=by
 have eL:(nF (nD (vF 1)) [none] (gN 0) jU (v2 aP (vN 0) (vC (.int 0)))) [some (.fr,cA words),some (.fr,fB rows),none,none]=some (.list ((rows.map (·.1)).map .str)):=by
  unfold fB
  walk_at "e0"
  rw[qx rfl (by rw[List.length_map];exact dX (by omega))]
  rw[lu (f:=λd=>match d with|.list (x::_)=>x|d=>d)]
  .walk_at "e0"
   rw[List.map_map,List.map_map]
   rfl
  .intro d hd
   obtain⟨r,_,rfl⟩:=List.mem_map.mp hd
   exact⟨_,rfl,rfl,rfl⟩
 rcases yO (L1:=cA words) (L2:=fB rows) (rows.map (·.1)) words none (.inl rfl) with⟨v,g1,g2⟩|g
 .rw[h] at g1
  cases g1
  unfold gU pQ
  rw[M4 (by rfl)]
  show bFn (aV _ _ [some (.fr,cA words),some (.fr,fB rows),none,none])=_
  rw[HJ,HS,eL]
  unfold cA at g2 ⊢
  walk_at "e0"
  rw[g2]
  walk_at "e0"
 .rw[h] at g;cases g
noncomputable def aX.dat:aX->PyData
 |.lay nm a b w l=>.tuple [.str "lay",.str nm,.str a,.str b,.int w,.int l]
 |.shut nm=>.tuple [.str "shut",.str nm]
 |.widen nm k=>.tuple [.str "widen",.str nm,.int k]
 |.narrow nm k=>.tuple [.str "narrow",.str nm,.int k]
structure zT (rooms names:List Str)(rows:List Row):Prop where
 r2:2<=rooms.length
 r5:rooms.length<=5
 rn:rooms.Nodup
 n8:names.length=8
 nn:(rows.map (·.1)).Nodup
 sub:∀r∈rows,r.1∈names
 wd:∀r∈rows,1<=r.2.2.2.1
noncomputable def nJ (rooms names:List Str)(rows:List Row):aX->Prop
 |.lay nm a b w l=>nm∈names/\nm∉rows.map (·.1)/\a∈rooms/\b∈rooms/\a≠b/\1<=w/\1<=l/\w<=jy
 |.shut nm=>nm∈rows.map (·.1)
 |.widen nm k=>nm∈rows.map (·.1)/\1<=k/\k<=jy
 |.narrow nm k=>∃r∈rows,r.1=nm/\1<=k/\k<r.2.2.2.1
theorem pZ {xs ys:List Str}(h:xs.Nodup)(s:∀x∈xs,x∈ys):xs.length<=ys.length:=by
 induction xs generalizing ys with
 |nil=>exact Nat.zero_le _
 |cons x xs ih=>
  obtain⟨h1,h2⟩:=List.nodup_cons.mp h
  have hx:=s x (List.mem_cons_self ..)
  have:=ih (ys:=ys.erase x) h2 λy hy=>(List.mem_erase_of_ne (λz:y=x=>h1 (by rw[<-z];exact hy))).mpr (s y (List.mem_cons_of_mem _ hy))
  rw[List.length_erase_of_mem hx] at this
  have:=List.length_pos_of_mem hx
  rw[List.length_cons];omega
theorem zT.len {rooms names:List Str}{rows:List Row}(h:zT rooms names rows):rows.length<=8:=by
 have:=pZ (ys:=names) h.nn λx hx=>by
  obtain⟨r,hr,rfl⟩:=List.mem_map.mp hx
  exact h.sub r hr
 rw[List.length_map,h.n8] at this
 exact this
theorem Kg {names nms:List Str}(hn:names.Nodup)(h:nms.length<names.length):∃w,jW names nms=some w/\w∈names/\w∉nms:=by
 cases e:jW names nms with
 |some w=>
  refine⟨w,rfl,List.mem_of_find?_eq_some e,λhw=>?_⟩
  have:=List.find?_some e
  have h2:(nms.any λy=>y==w)=true:=List.any_eq_true.mpr ⟨w,hw,by simp⟩
  rw[h2] at this
  cases this
 |none=>
  have:=List.find?_eq_none.mp e
  have:=pZ hn (ys:=nms) λx hx=>by
   have:=this x hx
   simpa using this
  omega
theorem Gb {xs:List Str}{i:Nat}(h:i<xs.length):aP (.list (xs.map .str)) (.int (i:Int))=some (.str xs[i]):=by
 show cT _ _=_
 exact dz (by simp[h])
theorem Gd {xs:List Row}{i:Nat}(h:i<xs.length):aP (.list (xs.map bN)) (.int (i:Int))=some (bN xs[i]):=by
 show cT _ _=_
 exact dz (by simp[h])
theorem eq_nil (rows:List Row):lJ (.list (rows.map bN)) (.list [])=some (.bool (decide (rows=[]))):=by
 unfold lJ
 have hd:(PyData.list (rows.map bN)).depth<=60:=by
  have:=nH (rows.map bN) 10 (λd hd=>by obtain⟨x,_,rfl⟩:=List.mem_map.mp hd;simp[bN,PyData.depth,PyData.depthAll])
  simp only[PyData.depth]
  omega
 rw[if_pos hd]
 cases rows with
 |nil=>rfl
 |cons r rs=>simp[PyData.eqv,PyData.eqvAll]
noncomputable def Kh:VS:=(aV (cD (v2 cC (v2 fD (vN 4) (vC (.int 9))) (fQ iu (aC (vN 2) a0))) (gN 6))
 (aV (cD (v2 cC (v2 gQ (v2 gQ (vN 6) (vC (.int 1))) (v2 cC (v2 fD (vN 4) (vC (.int 90))) (v2 qP (fQ iu (aC (vN 2) a0)) (vC (.int 1))))) (fQ iu (aC (vN 2) a0))) (gN 7))
 (fX (aY (aC (vC (.str "lay")) (aC (cj gU (aC (vF 3) (aC (vF 1) a0))) (aC (v2 aP (vN 2) (vN 6)) (aC (v2 aP (vN 2) (vN 7)) (aC (cj fj (aC (vF 0) a0)) (aC (cj gB (aC (vF 0) a0)) a0))))))))))
noncomputable def sI:VS:=(aV (cD (v2 aP (vN 1) (v2 cC (v2 fD (vN 4) (vC (.int 9))) (fQ iu (aC (vN 1) a0)))) (gN 8))
 (aV (lN (vB (v2 lJ (vN 5) (vC (.int 5))))
 (fX (aY (aC (vC (.str "shut")) (aC (v2 aP (vN 8) (vC (.int 0))) a0))))
 jr)
 (aV (lN (VM.jQ (vB (v2 lJ (vN 5) (vC (.int 6)))) (vB (v2 Va (v2 aP (vN 8) (vC (.int 3))) (vC (.int 1)))))
 (fX (aY (aC (vC (.str "narrow")) (aC (v2 aP (vN 8) (vC (.int 0))) (aC (v2 gQ (vC (.int 1)) (v2 cC (v2 fD (vN 4) (vC (.int 90))) (fQ xY (aC (v2 qP (v2 aP (vN 8) (vC (.int 3))) (vC (.int 1))) (aC (vC (.int 3)) a0))))) a0)))))
 jr)
 (fX (aY (aC (vC (.str "widen")) (aC (v2 aP (vN 8) (vC (.int 0))) (aC (cj fj (aC (vF 0) a0)) a0))))))))
theorem Yp:qZ=(aV (cD (cj bJ (aC (vF 0) (aC (vC (.int 0)) a0))) (gN 4))
 (aV (cD (v2 cC (vN 4) (vC (.int 9))) (gN 5))
 (aV (lN (tL (vB (v2 lJ (vN 1) (cX a0))) (VM.jQ (vB (v2 DR (vN 5) (vC (.int 5)))) (vB (v2 DR (fQ iu (aC (vN 1) a0)) (fQ iu (aC (vN 3) a0))))))
 Kh jr) sI))):=rfl
noncomputable def slot (c n:Int)(rows:List Row)(rooms names:List Str):GS:=[some (.fr,.int c),some (.fr,.list (rows.map bN)),some (.fr,.list (rooms.map .str)),some (.fr,.list (names.map .str)),some (.fr,.int n),some (.fr,.int (n % 9)),none,none,none]
theorem layB {c n:Int}{rooms names:List Str}{rows:List Row}(h:zT rooms names rows)(hnn:names.Nodup)(hlt:rows.length<names.length):∃d S',Kh (slot c n rows rooms names)=.ret S' false d.dat/\nJ rooms names rows d:=by
 have h8:=h.len
 have r2:=h.r2
 have r5:=h.r5
 have n8:=h.n8
 obtain⟨w,hw1,hw2,hw3⟩:=Kg (nms:=rows.map (·.1)) hnn (by rw[List.length_map];exact hlt)
 have hf:=Yo (rows:=rows) (by omega) hw1
 unfold fB cA at hf
 obtain⟨wd,e1,e2⟩:=VH c
 obtain⟨ln,e3,e4⟩:=agQ c
 have ma:=cW (n/9) (show(0:Int)<(rooms.length:Int) by omega)
 have ms:=cW (n/90) (show(0:Int)<(rooms.length:Int) - 1 by omega)
 obtain⟨ia,hia⟩:∃ia:Nat,n/9 % (rooms.length:Int)=ia:=⟨(n/9 % (rooms.length:Int)).toNat,by omega⟩
 have abl:ia<rooms.length:=by omega
 obtain⟨st,hst⟩:∃st:Nat,n/90 % ((rooms.length:Int) - 1)=st:=⟨(n/90 % ((rooms.length:Int) - 1)).toNat,by omega⟩
 have mb:=cW ((ia:Int)+1+st) (show(0:Int)<(rooms.length:Int) by omega)
 obtain⟨ib,hib⟩:∃ib:Nat,((ia:Int)+1+st) % (rooms.length:Int)=ib:=⟨(((ia:Int)+1+st) % (rooms.length:Int)).toNat,by omega⟩
 have abm:ib<rooms.length:=by omega
 have hne:ia≠ib:=λg=>by
  subst g
  have h1:((ia:Int)+1+st)<(rooms.length:Int)\/(rooms.length:Int)<=((ia:Int)+1+st):=by omega
  rcases h1 with h1|h1
  .rw[Int.emod_eq_of_lt (by omega) h1] at hib;omega
  .have e:((ia:Int)+1+st) % (rooms.length:Int)=((ia:Int)+1+st) - (rooms.length:Int):=by
    rw[<-Int.sub_emod_right,Int.emod_eq_of_lt (by omega) (by omega)]
   omega
 refine⟨.lay w rooms[ia] rooms[ib] wd ln,[some (.fr,.int c),some (.fr,.list (rows.map bN)),some (.fr,.list (rooms.map .str)),some (.fr,.list (names.map .str)),some (.fr,.int n),some (.fr,.int (n % 9)),some (.fr,.int (ia:Int)),some (.fr,.int (ib:Int)),none],?_,hw2,hw3,List.getElem_mem abl,List.getElem_mem abm,λg=>hne ((List.getElem_inj h.rn).mp g),e2.1,e4,e2.2⟩
 unfold Kh slot
 walk_at "e0"
 simp only[eZ (show(0:Int)<9 by decide) (by decide)]
 walk_at "e0"
 simp only[List.length_map]
 rw[cg (show(0:Int)<(rooms.length:Int) by omega),hia]
 walk_at "e0"
 simp only[eZ (show(0:Int)<90 by decide) (by decide)]
 walk_at "e0"
 simp only[List.length_map]
 rw[cg (show(0:Int)<(rooms.length:Int) - 1 by omega),hst]
 walk_at "e0"
 simp only[List.length_map]
 rw[cg (show(0:Int)<(rooms.length:Int) by omega),hib]
 walk_at "e0"
 rw[hf]
 walk_at "e0"
 rw[show cT (rooms.map PyData.str) (ia:Int)=some (.str rooms[ia]) from Gb abl]
 walk_at "e0"
 rw[show cT (rooms.map PyData.str) (ib:Int)=some (.str rooms[ib]) from Gb abm]
 walk_at "e0"
 rw[e1]
 walk_at "e0"
 rw[e3]
 walk_at "e0"
 rfl
theorem agR {c n:Int}{rooms names:List Str}{rows:List Row}(h:zT rooms names rows)(hne:rows≠[]):∃d S',sI (slot c n rows rooms names)=.ret S' false d.dat/\nJ rooms names rows d:=by
 have h8:=h.len
 have hpos:0<rows.length:=List.length_pos_iff.mpr hne
 have ma:=cW (n/9) (show(0:Int)<(rows.length:Int) by omega)
 obtain⟨i,hi⟩:∃i:Nat,n/9 % (rows.length:Int)=i:=⟨(n/9 % (rows.length:Int)).toNat,by omega⟩
 have hi':i<rows.length:=by omega
 have hm:rows[i]∈rows:=List.getElem_mem hi'
 have hwd:=h.wd _ hm
 have hat:cT (rows.map bN) (i:Int)=some (bN rows[i]):=Gd hi'
 generalize rows[i]=r at hm hwd hat
 have hmn:r.1∈rows.map (·.1):=List.mem_map_of_mem (f:=λx:Row=>x.1) hm
 by_cases c5:n % 9=5
 .refine⟨.shut r.1,[some (.fr,.int c),some (.fr,.list (rows.map bN)),some (.fr,.list (rooms.map .str)),some (.fr,.list (names.map .str)),some (.fr,.int n),some (.fr,.int (n % 9)),none,none,some (.fr,bN r)],?_,hmn⟩
  unfold sI slot
  walk_at "e0"
  simp only[eZ (show(0:Int)<9 by decide) (by decide)]
  walk_at "e0"
  simp only[List.length_map]
  rw[cg (show(0:Int)<(rows.length:Int) by omega),hi]
  walk_at "e0"
  rw[hat]
  walk_at "e0"
  simp only[c5,decide_true]
  unfold bN
  walk_at "e0"
  rfl
 .by_cases c6:n % 9=6/\1<r.2.2.2.1
  .have mm:=cW (n/90) (show(0:Int)<min (r.2.2.2.1 - 1) 3 by omega)
   refine⟨.narrow r.1 (1+n/90 % min (r.2.2.2.1 - 1) 3),[some (.fr,.int c),some (.fr,.list (rows.map bN)),some (.fr,.list (rooms.map .str)),some (.fr,.list (names.map .str)),some (.fr,.int n),some (.fr,.int (n % 9)),none,none,some (.fr,bN r)],?_,r,hm,rfl,by omega,by omega⟩
   unfold sI slot
   walk_at "e0"
   simp only[eZ (show(0:Int)<9 by decide) (by decide)]
   walk_at "e0"
   simp only[List.length_map]
   rw[cg (show(0:Int)<(rows.length:Int) by omega),hi]
   walk_at "e0"
   rw[hat]
   walk_at "e0"
   have d5:decide (n % 9=5)=false:=decide_eq_false c5
   have d6:decide (n % 9=6)=true:=decide_eq_true c6.1
   have d1:decide (r.2.2.2.1>1)=true:=decide_eq_true c6.2
   simp only[d5]
   walk_at "e0"
   simp only[d6]
   unfold bN
   walk_at "e0"
   simp only[d1]
   walk_at "e0"
   simp only[eZ (show(0:Int)<90 by decide) (by decide)]
   walk_at "e0"
   rw[show(if 3<r.2.2.2.1 - 1 then(3:Int) else r.2.2.2.1 - 1)=min (r.2.2.2.1 - 1) 3 by split<;>omega]
   rw[cg (show(0:Int)<min (r.2.2.2.1 - 1) 3 by omega)]
   walk_at "e0"
   rfl
  .obtain⟨wd,e1,e2⟩:=VH c
   refine⟨.widen r.1 wd,[some (.fr,.int c),some (.fr,.list (rows.map bN)),some (.fr,.list (rooms.map .str)),some (.fr,.list (names.map .str)),some (.fr,.int n),some (.fr,.int (n % 9)),none,none,some (.fr,bN r)],?_,hmn,e2⟩
   unfold sI slot
   walk_at "e0"
   simp only[eZ (show(0:Int)<9 by decide) (by decide)]
   walk_at "e0"
   simp only[List.length_map]
   rw[cg (show(0:Int)<(rows.length:Int) by omega),hi]
   walk_at "e0"
   rw[hat]
   walk_at "e0"
   have d5:decide (n % 9=5)=false:=decide_eq_false c5
   simp only[d5]
   unfold bN
   walk_at "e0"
   by_cases g6:n % 9=6
   .have d6:decide (n % 9=6)=true:=decide_eq_true g6
    simp only[d6]
    walk_at "e0"
    have:decide (r.2.2.2.1>1)=false:=decide_eq_false (λz=>c6 ⟨g6,z⟩)
    simp only[this]
    walk_at "e0"
    rw[e1]
    walk_at "e0"
    rfl
   .have d6:decide (n % 9=6)=false:=decide_eq_false g6
    simp only[d6]
    walk_at "e0"
    rw[e1]
    walk_at "e0"
    rfl
theorem abn {c:Int}{rooms names:List Str}{rows:List Row}(h:zT rooms names rows)(hnn:names.Nodup):∃d,iG [.int c,fB rows,cA rooms,cA names]=some (false,d.dat)/\nJ rooms names rows d:=by
 have h8:=h.len
 have n8:=h.n8
 unfold iG
 rw[Yp]
 unfold fB cA
 walk_at "e0"
 simp only[oE (c:=c) (k:=0) (by decide) (by decide)]
 walk_at "e0"
 simp only[cg (show(0:Int)<9 by decide)]
 walk_at "e0"
 generalize eX c 0=n
 rw[eq_nil]
 walk_at "e0"
 by_cases hnil:rows=[]
 .simp only[hnil,decide_true]
  walk_at "e0"
  obtain⟨d,S',g1,g2⟩:=layB (c:=c) (n:=n) h hnn (by rw[hnil,n8];decide)
  rw[hnil] at g1
  refine⟨d,?_,by rw[<-hnil];exact g2⟩
  unfold slot at g1
  rw[List.map_nil] at g1
  rw[g1]
  walk_at "e0"
 .simp only[hnil,decide_false]
  walk_at "e0"
  have fin:∃d,bFn (sI (slot c n rows rooms names))=some (false,d.dat)/\nJ rooms names rows d:=by
   obtain⟨d,S',g1,g2⟩:=agR (c:=c) (n:=n) h hnil
   exact⟨d,by rw[g1];walk_at "e0",g2⟩
  by_cases c5:n % 9<5
  .simp only[c5,decide_true]
   walk_at "e0"
   simp only[List.length_map]
   by_cases hlt:rows.length<names.length
   .have e:decide ((rows.length:Int)<(names.length:Int))=true:=decide_eq_true (by omega)
    simp only[e]
    walk_at "e0"
    obtain⟨d,S',g1,g2⟩:=layB (c:=c) (n:=n) h hnn hlt
    refine⟨d,?_,g2⟩
    unfold slot at g1
    rw[g1]
    walk_at "e0"
   .have e:decide ((rows.length:Int)<(names.length:Int))=false:=decide_eq_false (by omega)
    simp only[e]
    walk_at "e0"
    exact fin
  .simp only[c5,decide_false]
   walk_at "e0"
   exact fin
end bW
namespace bW
open PySem PySem.Spec PyProof.Rows L2 VM
set_option maxHeartbeats 4000000
noncomputable def LN (seen:List Str)(x:Str×Q4)(r:Row):Prop:=x.1=r.1/\(∃i:Nat,x.2.1=i/\seen[i]? =some r.2.1)/\(∃j:Nat,x.2.2.1=j/\seen[j]? =some r.2.2.1)/\x.2.2.2.1=r.2.2.2.1/\x.2.2.2.2=r.2.2.2.2
theorem LN.lr {seen:List Str}{x:Str×Q4}{r:Row}(h:LN seen x r):LR seen x r:=by
 obtain⟨h1,⟨i,h2,h3⟩,⟨j,h4,h5⟩,h6,h7⟩:=h
 refine⟨h1,?_,?_,h6,h7⟩
 .rw[h2];exact dz (by rw[List.getElem?_map,h3];rfl)
 .rw[h4];exact dz (by rw[List.getElem?_map,h5];rfl)
theorem Ge {seen more:List Str}{i:Nat}{x:Str}(h:seen[i]? =some x):(seen++more)[i]? =some x:=by
 rw[List.getElem?_append_left (List.getElem?_eq_some_iff.mp h).1];exact h
theorem LN.grow {seen more:List Str}{x:Str×Q4}{r:Row}(h:LN seen x r):LN (seen++more) x r:=by
 obtain⟨h1,⟨i,h2,h3⟩,⟨j,h4,h5⟩,h6,h7⟩:=h
 exact⟨h1,⟨i,h2,Ge h3⟩,⟨j,h4,Ge h5⟩,h6,h7⟩
structure Ok (rooms names:List Str)(rows:List Row)(nums:List (Str×Int))(ls:List (Str×Q4)):Prop where
 dr:zT rooms names rows
 num:∀(i:Nat) x,nums[i]? =some x->x.2=(i:Int)
 nd:(seenOf nums).Nodup
 sub:∀x∈seenOf nums,x∈rooms
 lr:Paired (LN (seenOf nums)) ls rows
theorem lU {seen:List Str}{ls:List (Str×Q4)}{rows:List Row}(h:Paired (LN seen) ls rows):ls.map (·.1)=rows.map (·.1):=by
 induction h with
 |nil=>rfl
 |cons h _ ih=>rw[List.map_cons,List.map_cons,ih,h.1]
theorem jL {α:Type}{nm:Str}:∀{l:List (Str×α)},nm∉l.map (·.1)->cF nm l=none
 |[],_=>rfl
 |x::r,h=>by
  rw[cF,if_neg λe=>h (by rw[List.map_cons,e];exact List.mem_cons_self ..)]
  exact jL λz=>h (by rw[List.map_cons];exact List.mem_cons_of_mem _ z)
theorem mQ {α:Type}{nm:Str}:∀{l:List (Str×α)},nm∈l.map (·.1)->∃v,cF nm l=some v
 |[],h=>by cases h
 |x::r,h=>by
  rw[cF]
  by_cases e:x.1=nm
  .exact⟨x.2,by rw[if_pos e]⟩
  .rw[if_neg e]
   refine mQ ?_
   rcases List.mem_cons.mp h with g|g
   .exact absurd g.symm e
   .exact g
theorem Gf {α:Type}{nm:Str}{v:α}:∀{l:List (Str×α)},cF nm l=some v->∃i:Nat,l[i]? =some (nm,v)
 |[],h=>by cases h
 |x::r,h=>by
  rw[cF] at h
  by_cases e:x.1=nm
  .rw[if_pos e] at h
   cases h
   exact⟨0,by rw[<-e];rfl⟩
  .rw[if_neg e] at h
   obtain⟨i,hi⟩:=Gf h
   exact⟨i+1,hi⟩
theorem u6 {α:Type}{nm:Str}:∀{l:List (Str×α)}{x:Str×α},(l.map (·.1)).Nodup->x∈l->x.1=nm->cF nm l=some x.2
 |[],x,_,h,_=>by cases h
 |y::r,x,hn,h,e=>by
  rw[List.map_cons] at hn
  obtain⟨h1,h2⟩:=List.nodup_cons.mp hn
  rw[cF]
  rcases List.mem_cons.mp h with g|g
  .rw[if_pos (by rw[<-g];exact e),g]
  .rw[if_neg λz=>h1 (by rw[z,←e];exact List.mem_map_of_mem (f:=λx:Str×α=>x.1) g)]
   exact u6 h2 g e
theorem w5 {α:Type}{nm:Str}{v:α}{l:List (Str×α)}(h:nm∉l.map (·.1)):iD nm v l=l++[(nm,v)]:=by
 unfold iD
 rw[if_neg]
 intro z
 obtain⟨x,hx,e⟩:=List.any_eq_true.mp z
 exact h (by rw[<-of_decide_eq_true e];exact List.mem_map_of_mem (f:=λx:Str×α=>x.1) hx)
theorem RD {α:Type}{nm:Str}{v:α}{l:List (Str×α)}(h:nm∈l.map (·.1)):iD nm v l=l.map λx=>if x.1=nm then(x.1,v) else x:=by
 unfold iD
 rw[if_pos]
 obtain⟨x,hx,e⟩:=List.mem_map.mp h
 exact List.any_eq_true.mpr ⟨x,hx,decide_eq_true e⟩
theorem u9:∀{rs:List Str}{nums:List (Str×Int)},rs.Nodup->(∀r∈rs,r∉seenOf nums)->(∀(i:Nat) x,nums[i]? =some x->x.2=(i:Int))->seenOf (jw nums rs)=seenOf nums++rs/\∀(i:Nat) x,(jw nums rs)[i]? =some x->x.2=(i:Int)
 |[],nums,_,_,hn=>⟨by rw[List.append_nil];rfl,hn⟩
 |r::rs,nums,h1,h2,hn=>by
  obtain⟨a1,a2⟩:=List.nodup_cons.mp h1
  have e:jw nums (r::rs)=jw (nums++[(r,(nums.length:Int))]) rs:=by
   show jw (iD r (nums.length:Int) nums) rs=_
   rw[w5 (h2 r (List.mem_cons_self ..))]
  have es:seenOf (nums++[(r,(nums.length:Int))])=seenOf nums++[r]:=by unfold seenOf;rw[List.map_append];rfl
  rw[e]
  obtain⟨b1,b2⟩:=u9 (rs:=rs) (nums:=nums++[(r,(nums.length:Int))]) a2 (λx hx=>by
   rw[es]
   intro z
   rcases List.mem_append.mp z with g|g
   .exact h2 x (List.mem_cons_of_mem _ hx) g
   .exact a1 (by rw[<-List.mem_singleton.mp g];exact hx)) (λi x ex=>by
   rcases Nat.lt_or_ge i nums.length with g|g
   .rw[List.getElem?_append_left g] at ex;exact hn i x ex
   .rw[List.getElem?_append_right g] at ex
    have:i - nums.length=0:=by
     rcases Nat.eq_zero_or_pos (i - nums.length) with z|z
     .exact z
     .rw[List.getElem?_eq_none (by simp;omega)] at ex;cases ex
    rw[this] at ex
    cases ex
    show(nums.length:Int)=i
    omega)
  exact⟨by rw[b1,es,List.append_assoc];rfl,b2⟩
theorem jl {nums:List (Str×Int)}{r:Str}:(cF r nums).isNone=true↔r∉seenOf nums:=by
 constructor
 .intro h z
  obtain⟨v,e⟩:=mQ z
  rw[e] at h;cases h
 .intro h
  rw[jL h];rfl
theorem vV {s:List Str}{r:Str}:(s.any λy=>y==r)=true↔r∈s:=by
 rw[List.any_eq_true]
 constructor
 .rintro⟨x,hx,e⟩
  rw[<-eq_of_beq e];exact hx
 .exact λh=>⟨r,h,beq_self_eq_true r⟩
theorem Yq {nums:List (Str×Int)}{a b:Str}(hab:a≠b):j7 (seenOf nums) [a,b]=seenOf nums++newOf nums [a,b]:=by
 have step:∀(s:List Str) (r:Str),(if(s.any λy=>y==r)=true then s else s++[r])=if r∈s then s else s++[r]:=λs r=>by
  by_cases h:r∈s
  .rw[if_pos (vV.mpr h),if_pos h]
  .rw[if_neg λz=>h (vV.mp z),if_neg h]
 show(if((if((seenOf nums).any λy=>y==a)=true then seenOf nums else seenOf nums++[a]).any λy=>y==b)=true then(if((seenOf nums).any λy=>y==a)=true then seenOf nums else seenOf nums++[a]) else(if((seenOf nums).any λy=>y==a)=true then seenOf nums else seenOf nums++[a])++[b])=_
 rw[step,step]
 unfold newOf
 by_cases ha:a∈seenOf nums
 .rw[if_pos ha]
  have na:(cF a nums).isNone=false:=Bool.eq_false_iff.mpr λz=>jl.mp z ha
  by_cases hb:b∈seenOf nums
  .rw[if_pos hb]
   have nb:(cF b nums).isNone=false:=Bool.eq_false_iff.mpr λz=>jl.mp z hb
   simp[List.filter_cons,na,nb]
  .rw[if_neg hb]
   have nb:(cF b nums).isNone=true:=jl.mpr hb
   simp[List.filter_cons,na,nb]
 .rw[if_neg ha]
  have na:(cF a nums).isNone=true:=jl.mpr ha
  by_cases hb:b∈seenOf nums
  .rw[if_pos (List.mem_append.mpr (.inl hb))]
   have nb:(cF b nums).isNone=false:=Bool.eq_false_iff.mpr λz=>jl.mp z hb
   simp[List.filter_cons,na,nb]
  .have nb:(cF b nums).isNone=true:=jl.mpr hb
   rw[if_neg λz=>by
    rcases List.mem_append.mp z with g|g
    .exact hb g
    .exact hab (List.mem_singleton.mp g).symm]
   simp[List.filter_cons,na,nb]
theorem yP {nums:List (Str×Int)}{r:Str}(hn:∀(i:Nat) x,nums[i]? =some x->x.2=(i:Int))(h:r∈seenOf nums):∃i:Nat,cF r nums=some (i:Int)/\(seenOf nums)[i]? =some r:=by
 obtain⟨v,e⟩:=mQ h
 obtain⟨i,hi⟩:=Gf e
 have:=hn i _ hi
 exact⟨i,by rw[e,←this],by unfold seenOf;rw[List.getElem?_map,hi];rfl⟩
theorem BW {R:(Str×Q4)->Row->Prop}{p:(Str×Q4)->Bool}{q:Row->Bool}{l:List (Str×Q4)}{r:List Row}(h:Paired R l r)(hpq:∀x y,R x y->p x=q y):Paired R (l.filter p) (r.filter q):=by
 induction h with
 |nil=>exact .nil
 | @cons a b _ _ h _ ih=>
  rw[List.filter_cons,List.filter_cons,hpq a b h]
  split
  .exact .cons h ih
  .exact ih
theorem Kl {R:(Str×Q4)->Row->Prop}{f:(Str×Q4)->(Str×Q4)}{g:Row->Row}{l:List (Str×Q4)}{r:List Row}(h:Paired R l r):(∀x∈l,∀y,R x y->R (f x) (g y))->Paired R (l.map f) (r.map g):=by
 induction h with
 |nil=>intro _;exact .nil
 | @cons a b _ _ h _ ih=>
  intro k
  exact .cons (k a (List.mem_cons_self ..) b h) (ih λx hx=>k x (List.mem_cons_of_mem _ hx))
theorem GX {R:(Str×Q4)->Row->Prop}{l:List (Str×Q4)}{r:List Row}(h:Paired R l r):∀{y:Row},y∈r->∃x∈l,R x y:=by
 induction h with
 |nil=>intro y hy;cases hy
 | @cons a b _ _ h _ ih=>
  intro y hy
  rcases List.mem_cons.mp hy with g|g
  .rw[g];exact⟨a,List.mem_cons_self ..,h⟩
  .obtain⟨x,hx,e⟩:=ih g
   exact⟨x,List.mem_cons_of_mem _ hx,e⟩
theorem Ob (nm:Str)(k:Int)(rows:List Row):(rows.map (fO nm k)).map (·.1)=rows.map (·.1):=by
 rw[List.map_map]
 refine List.map_congr_left λr _=>?_
 show(fO nm k r).1=r.1
 unfold fO
 split<;>rfl
theorem RG {rows:List Row}(h:(rows.map (·.1)).Nodup){r s:Row}(hr:r∈rows)(hs:s∈rows)(e:r.1=s.1):r=s:=by
 induction rows with
 |nil=>cases hr
 |cons x xs ih=>
  rw[List.map_cons] at h
  obtain⟨h1,h2⟩:=List.nodup_cons.mp h
  rcases List.mem_cons.mp hr with g|g<;>rcases List.mem_cons.mp hs with g'|g'
  .rw[g,g']
  .exact absurd (by rw[<-g,e];exact List.mem_map_of_mem (f:=λx:Row=>x.1) g') h1
  .exact absurd (by rw[<-g',←e];exact List.mem_map_of_mem (f:=λx:Row=>x.1) g) h1
  .exact ih h2 g g'
section
variable {rooms names:List Str}{rows:List Row}{nums:List (Str×Int)}{ls:List (Str×Q4)}
theorem Ok.len (h:Ok rooms names rows nums ls):ls.length<=8/\nums.length<=5:=by
 have h1:=h.lr.length
 have h2:=h.dr.len
 have h3:=pZ h.nd h.sub
 have h4:=h.dr.r5
 have h5:(seenOf nums).length=nums.length:=by unfold seenOf;rw[List.length_map]
 omega
theorem Ok.chg (h:Ok rooms names rows nums ls){nm:Str}{k:Int}(hm:nm∈rows.map (·.1))(hw:∀r∈rows,r.1=nm->1<=r.2.2.2.1+k):
  ∃q,cF nm ls=some q/\(∀r∈rows,r.1=nm->q.2.2.1=r.2.2.2.1)/\Ok rooms names (rows.map (fO nm k)) nums (iD nm (q.1,q.2.1,q.2.2.1+k,q.2.2.2) ls):=by
 have en:=lU h.lr
 have hml:nm∈ls.map (·.1):=by rw[en];exact hm
 have hnl:(ls.map (·.1)).Nodup:=by rw[en];exact h.dr.nn
 obtain⟨q,hq⟩:=mQ hml
 refine⟨q,hq,λr hr e=>?_,⟨h.dr.r2,h.dr.r5,h.dr.rn,h.dr.n8,by rw[Ob];exact h.dr.nn,λr hr=>?_,λr hr=>?_⟩,h.num,h.nd,h.sub,?_⟩
 .obtain⟨x,hx,Oc⟩:=GX h.lr hr
  have:=u6 hnl hx (Oc.1.trans e)
  rw[hq] at this
  cases this
  exact Oc.2.2.2.1
 .obtain⟨s,hs,rfl⟩:=List.mem_map.mp hr
  have:(fO nm k s).1=s.1:=by unfold fO;split<;>rfl
  rw[this];exact h.dr.sub s hs
 .obtain⟨s,hs,rfl⟩:=List.mem_map.mp hr
  unfold fO
  split
  .rename_i e;exact hw s hs e
  .exact h.dr.wd s hs
 .rw[RD hml]
  refine Kl h.lr λx hx y hxy=>?_
  unfold fO
  by_cases e:x.1=nm
  .have:=u6 hnl hx e
   rw[hq] at this
   cases this
   rw[if_pos e,if_pos (hxy.1.symm.trans e)]
   obtain⟨h1,h2,h3,h4,h5⟩:=hxy
   exact⟨h1,h2,h3,by show x.2.2.2.1+k=y.2.2.2.1+k;rw[h4],h5⟩
  .rw[if_neg e,if_neg λz=>e (hxy.1.trans z)]
   exact hxy
noncomputable def aX.few:aX->Prop
 |.widen _ k=>wK k
 |.narrow _ k=>wK k
 |_=>True
theorem step {R:Nat->Addr}{C p dx nn ll:Addr}{H:Hp}{d:aX}(hf:d.few)(h:Ok rooms names rows nums ls)(hR:∀x∈rooms,bh x)(hN:∀x∈names,bh x)(hd:nJ rooms names rows d)(hh:cU H C p dx nn ll nums ls):
  ∃vL ls',Ok rooms names (J8 d rows) vL ls'/\seenOf vL=J9 d (seenOf nums)/\∀(Q:VK) (E:XK),(∀H',cU H' C p dx nn ll vL ls'->dw nn ll H H'->Q .non H')->d.sp C R p H Q E:=by
 obtain⟨hl,hnl⟩:=h.len
 have en:=lU h.lr
 have wdn:∀nm,nm∈rows.map (·.1)->dI nm:=λnm hm=>by
  obtain⟨r,hr,e⟩:=List.mem_map.mp hm
  rw[<-e]
  exact(hN _ (h.dr.sub r hr)).1.2
 cases d with
 |lay nm a b w l=>
  obtain⟨d1,d2,d3,d4,d5,d6,d7⟩:=hd
  have VJ:(newOf nums [a,b]).Nodup:=List.Pairwise.filter _ (by simp[d5])
  have fout:∀r∈newOf nums [a,b],r∉seenOf nums:=λr hr=>jl.mp (List.mem_filter.mp hr).2
  have fin:∀r∈newOf nums [a,b],r=a\/r=b:=λr hr=>by
   have:=(List.mem_filter.mp hr).1
   simpa using this
  obtain⟨s1,s2⟩:=u9 VJ fout h.num
  have mem:∀r,r∈[a,b]->r∈seenOf (jw nums (newOf nums [a,b])):=λr hr=>by
   rw[s1]
   by_cases g:r∈seenOf nums
   .exact List.mem_append.mpr (.inl g)
   .exact List.mem_append.mpr (.inr (List.mem_filter.mpr ⟨hr,jl.mpr g⟩))
  obtain⟨ia,ga,ga2⟩:=yP s2 (mem a (by simp))
  obtain⟨ib,gb,gb2⟩:=yP s2 (mem b (by simp))
  have hnm:nm∉ls.map (·.1):=by rw[en];exact d2
  refine⟨jw nums (newOf nums [a,b]),iD nm ((ia:Int),(ib:Int),w,l) ls,⟨⟨h.dr.r2,h.dr.r5,h.dr.rn,h.dr.n8,?_,?_,?_⟩,s2,?_,?_,?_⟩,?_,?_⟩
  .show((rows++[(nm,a,b,w,l)]).map (·.1)).Nodup
   rw[List.map_append]
   refine List.nodup_append.mpr ⟨h.dr.nn,by simp,λx hx y hy z=>?_⟩
   have:y=nm:=by simpa using hy
   exact d2 (by rw[<-this,←z];exact hx)
  .intro r hr
   rcases List.mem_append.mp hr with g|g
   .exact h.dr.sub r g
   .rw[List.mem_singleton.mp g];exact d1
  .intro r hr
   rcases List.mem_append.mp hr with g|g
   .exact h.dr.wd r g
   .rw[List.mem_singleton.mp g];exact d6
  .rw[s1]
   exact List.nodup_append.mpr ⟨h.nd,VJ,λx hx y hy z=>fout y hy (z▸hx)⟩
  .intro x hx
   rw[s1] at hx
   rcases List.mem_append.mp hx with g|g
   .exact h.sub x g
   .rcases fin x g with e|e
    .rw[e];exact d3
    .rw[e];exact d4
  .rw[w5 hnm]
   refine rB ?_ ⟨rfl,⟨ia,rfl,ga2⟩,⟨ib,rfl,gb2⟩,rfl,rfl⟩
   rw[s1]
   exact h.lr.mono λx y z=>z.grow
  .rw[s1];exact(Yq d5).symm
  .intro Q E q
   refine⟨p,dx,nn,ll,nums,ls,nm,a,b,w,l,true,true,true,rfl,hh,⟨(hN nm d1).1.2,(hR a d3).1.2,(hR b d4).1.2⟩,⟨(hN nm d1).1.1,(hR a d3).1.1,(hR b d4).1.1⟩,by omega,by omega,?_⟩
   have nl:(newOf nums [a,b]).length<=2:=List.length_filter_le _ _
   rw[if_neg (by decide),jL hnm,if_neg (by decide),if_neg (by rintro(z|z|z);exact d5 z;omega;omega),if_neg (by omega)]
   exact⟨ia,ib,ga,gb,q⟩
 |shut nm=>
  obtain⟨q,hq⟩:=mQ (show nm∈ls.map (·.1) by rw[en];exact hd)
  refine⟨nums,yD nm ls,⟨⟨h.dr.r2,h.dr.r5,h.dr.rn,h.dr.n8,?_,?_,?_⟩,h.num,h.nd,h.sub,?_⟩,rfl,λQ E k=>⟨p,dx,nn,ll,nums,ls,nm,rfl,hh,wdn nm hd,by rw[hq];exact k⟩⟩
  .exact(List.Sublist.map _ List.filter_sublist).nodup h.dr.nn
  .exact λr hr=>h.dr.sub r (List.mem_filter.mp hr).1
  .exact λr hr=>h.dr.wd r (List.mem_filter.mp hr).1
  .exact BW h.lr λx y z=>by rw[z.1]
 |widen nm k=>
  obtain⟨d1,d2⟩:=hd
  obtain⟨q,g1,g2,g3⟩:=h.chg (k:=k) d1 λr hr e=>by have:=h.dr.wd r hr;omega
  exact⟨nums,_,g3,rfl,λQ E kk=>⟨p,dx,nn,ll,nums,ls,nm,k,rfl,hh,wdn nm d1,hf,by omega,by rw[g1];dsimp only;rw[if_neg (by omega)];exact kk⟩⟩
 |narrow nm k=>
  obtain⟨r,hr,e,d2,d3⟩:=hd
  have hm:nm∈rows.map (·.1):=by rw[<-e];exact List.mem_map_of_mem (f:=λx:Row=>x.1) hr
  obtain⟨q,g1,g2,g3⟩:=h.chg (k:=-k) hm λs hs es=>by
   have:=RG h.dr.nn hs hr (es.trans e.symm)
   rw[this];omega
  exact⟨nums,_,g3,rfl,λQ E kk=>⟨p,dx,nn,ll,nums,ls,nm,k,rfl,hh,wdn nm hm,hf,by omega,by rw[g1];dsimp only;rw[if_neg (by have:=g2 r hr e;omega)];exact kk⟩⟩
end
end bW
namespace bW
open PySem PySem.Spec PyProof.Rows L2 VM
set_option maxHeartbeats 4000000
noncomputable def jq (ns:List Int):List Str:=wordsOf (eX (dD ns 0) 0) (2+eX (dD ns 0) 2 % 4).toNat
noncomputable def namesOf (ns:List Int):List Str:=wordsOf (eX (dD ns 1) (eX (dD ns 1) 2 % 2)) 8
section
variable {ns:List Int}{x1 x2 x3 x4 x5 x6 x7 x8:Option (Tg×PyData)}
theorem apK:(pG gj (aC (cj cH (aC (vF 0) (aC (vC (.int 0)) a0))) (aC (v2 gQ (vC (.int 2)) (v2 cC (cj bJ (aC (cj cH (aC (vF 0) (aC (vC (.int 0)) a0))) (aC (vC (.int 2)) a0))) (vC (.int 4)))) (aC (vC (.int 0)) a0))))
  [some (.fr,.list (ns.map .int)),x1,x2,x3,x4,x5,x6,x7,x8]=some (.list ((jq ns).map .str)):=by
 have m:=cW (eX (dD ns 0) 2) (show(0:Int)<4 by decide)
 walk_at "e0"
 rw[pY (by decide)]
 walk_at "e0"
 rw[pY (by decide)]
 walk_at "e0"
 rw[oE (by decide) (by decide)]
 walk_at "e0"
 simp only[cg (show(0:Int)<4 by decide)]
 walk_at "e0"
 have e:=zQ (c:=dD ns 0) (k:=0) (by decide) (by decide) (many:=(2+eX (dD ns 0) 2 % 4).toNat) (by omega)
 rw[show(((2+eX (dD ns 0) 2 % 4).toNat:Nat):Int)=2+eX (dD ns 0) 2 % 4 by omega] at e
 rw[e]
 unfold cA jq
 walk_at "e0"
end
theorem Od (ns:List Int):∃r0 r1 rest,jq ns=r0::r1::rest/\rest.length<=3/\(r0::r1::rest).Nodup/\∀x∈r0::r1::rest,bh x:=by
 have m:=cW (eX (dD ns 0) 2) (show(0:Int)<4 by decide)
 have hl:(jq ns).length=(2+eX (dD ns 0) 2 % 4).toNat:=Bp _ _
 have hn:(jq ns).Nodup:=Ga _ _
 have hk:∀x∈jq ns,bh x:=FZ _ (by omega)
 match e:jq ns with
 |[]=>rw[e] at hl;simp at hl;omega
 |[_]=>rw[e] at hl;simp at hl;omega
 |r0::r1::rest=>
  rw[e] at hl hn hk
  refine⟨r0,r1,rest,rfl,?_,hn,hk⟩
  simp only[List.length_cons] at hl
  omega
theorem RJ (ns:List Int):(namesOf ns).length=8/\(namesOf ns).Nodup/\∀x∈namesOf ns,bh x:=⟨Bp _ _,Ga _ _,FZ _ (by decide)⟩
section
variable {K:PySem.W.Frag}{H H':Hp}{C p dx nn ll:Addr}{nums:List (Str×Int)}{ls:List (Str×Q4)}
theorem cU.off (h:cU H C p dx nn ll nums ls)(k:∀b o,(∀ys,o≠ .lst ys)->H b=some o->H' b=some o):cU H' C p dx nn ll nums ls:=by
 obtain⟨a,b,⟨kvs,c,d⟩,n⟩:=h
 exact⟨k _ _ (by intro ys z;cases z) a,k _ _ (by intro ys z;cases z) b,⟨kvs,k _ _ (by intro ys z;cases z) c,d.mono λ_ _ z=>z.same λt xs e=>k _ _ (by intro ys z;cases z) e⟩,n⟩
theorem kZ {a:Addr}{xs:List V}(h:cU H C p dx nn ll nums ls)(s:dw nn ll H H')(e:H a=some (.lst xs)):H' a=some (.lst xs):=by
 obtain⟨kvs,c,_⟩:=h.laid
 exact s _ _ (λz=>by rw[z,h.num] at e;cases e) (λz=>by rw[z,c] at e;cases e) e
theorem RK {a:Addr}{xs:List V}(h:cU H C p dx nn ll nums ls)(s:dw nn ll H H')(e:bM K H a xs):bM K H' a xs:=by
 obtain⟨kvs,c,_⟩:=h.laid
 refine bM.off e λo ho e=>s _ _ (λz=>?_) (λz=>?_) e
 .rw[z,h.num] at e;cases e;cases ho
 .rw[z,c] at e;cases e;cases ho
theorem ajT (r0 r1:Str)(rest:List Str):lF ((r0::r1::rest).map V.str) none (some 2)=[r0,r1].map V.str:=by
 unfold lF
 rw[oU 2 (by decide)]
 have:min (2:Int).toNat ((r0::r1::rest).map V.str).length=2:=by
  rw[List.length_map,List.length_cons,List.length_cons]
  show min 2 _=2
  omega
 rw[this]
 rfl
theorem Gg {d:aX}{v:V}(h:Has K H d.dat v):∃t,v=.ref t/\bM K H t d.vals:=by
 cases d with
 |lay nm a b w l=>
  obtain⟨t,xs,rfl,hq,y1,r1,rfl,⟨rfl,_⟩,y2,r2,rfl,⟨rfl,_⟩,y3,r3,rfl,⟨rfl,_⟩,y4,r4,rfl,⟨rfl,_⟩,y5,r5,rfl,h5,y6,r6,rfl,h6,hr⟩:=h
  have e5:y5=.int w:=h5
  have e6:y6=.int l:=h6
  have er:r6=[]:=hr
  subst e5 e6 er
  exact⟨t,rfl,hq⟩
 |shut nm=>
  obtain⟨t,xs,rfl,hq,y1,r1,rfl,⟨rfl,_⟩,y2,r2,rfl,⟨rfl,_⟩,hr⟩:=h
  have er:r2=[]:=hr
  subst er
  exact⟨t,rfl,hq⟩
 |widen nm k=>
  obtain⟨t,xs,rfl,hq,y1,r1,rfl,⟨rfl,_⟩,y2,r2,rfl,⟨rfl,_⟩,y5,r5,rfl,h5,hr⟩:=h
  have e5:y5=.int k:=h5
  have er:r5=[]:=hr
  subst e5 er
  exact⟨t,rfl,hq⟩
 |narrow nm k=>
  obtain⟨t,xs,rfl,hq,y1,r1,rfl,⟨rfl,_⟩,y2,r2,rfl,⟨rfl,_⟩,y5,r5,rfl,h5,hr⟩:=h
  have e5:y5=.int k:=h5
  have er:r5=[]:=hr
  subst e5 er
  exact⟨t,rfl,hq⟩
theorem RL {rooms names:List Str}{rows:List Row}{nm a b:Str}{w l:Int}(hR:∀x∈rooms,bh x)(hN:∀x∈names,bh x)(h:nJ rooms names rows (.lay nm a b w l)):(bN (nm,a,b,w,l)).canLay0=true:=by
 obtain⟨h1,_,h3,h4,_⟩:=h
 have c1:=(hN _ h1).2
 have c2:=(hR _ h3).2
 have c3:=(hR _ h4).2
 simp only[bN,PyData.canLay0,PyData.canLayAll0,Bool.and_eq_true] at c1 c2 c3 ⊢
 exact⟨c1,c2,c3,trivial,trivial,trivial⟩
end
end bW
namespace bW
open PySem L2 VM
set_option maxHeartbeats 4000000
noncomputable def wL (c:Nat):Bool:=decide (97<=c) && decide (c<=122)
theorem Yr (c:Nat):(nC iz iz (vC (.str "a")) (vN 0) (vC (.str "z"))) [some (.fr,.str ⟨#[c]⟩)]=some (.bool (wL c)):=by
 have ca:(("a":Str).cps.toList)=[97]:=by decide +kernel
 have cz:(("z":Str).cps.toList)=[122]:=by decide +kernel
 have e1:iz (.str "a") (.str ⟨#[c]⟩)=some (.bool (decide (97<=c))):=by
  show some (PyData.bool (!decide ([c]<("a":Str).cps.toList)))=_
  rw[ca]
  congr 2
  by_cases h:97<=c
  .rw[decide_eq_true h,decide_eq_false (λz=>by rcases List.cons_lt_cons_iff.mp z with g|⟨_,g⟩;omega;exact absurd g (by simp))];rfl
  .rw[decide_eq_false h,decide_eq_true (List.cons_lt_cons_iff.mpr (.inl (by omega)))];rfl
 have e2:iz (.str ⟨#[c]⟩) (.str "z")=some (.bool (decide (c<=122))):=by
  show some (PyData.bool (!decide (("z":Str).cps.toList<[c])))=_
  rw[cz]
  congr 2
  by_cases h:c<=122
  .rw[decide_eq_true h,decide_eq_false (λz=>by rcases List.cons_lt_cons_iff.mp z with g|⟨_,g⟩;omega;exact absurd g (by simp))];rfl
  .rw[decide_eq_false h,decide_eq_true (List.cons_lt_cons_iff.mpr (.inl (by omega)))];rfl
 unfold wL
 walk_at "e0"
 rw[e1]
 by_cases h:97<=c
 .simp only[h,decide_true,Bool.true_and]
  walk_at "e0"
  exact e2
 .simp only[h,decide_false,Bool.false_and]
  walk_at "e0"
theorem RP {z:Str}(ha:ascii z=true)(hl:z.length<=100):cV z (decide (1<=z.length) && decide (z.length<=12) && z.cps.toList.all wL):=by
 have el:mY [.str z]=some (.int (z.length:Int)):=by show(if z.length<=1000 then _ else _)=_;rw[if_pos (by omega)]
 have es:(nF (gO (vN 0)) [none] (gN 0) jU (nC iz iz (vC (.str "a")) (vN 0) (vC (.str "z")))) [some (.fr,.str z)]=some (.list ((z.cps.toList.map wL).map .bool)):=by
  rw[Er]
  unfold gO
  have en:vN 0 [some (.fr,.str z)]=some (.str z):=by walk_at "e0"
  rw[en]
  simp only[ha,if_true]
  unfold tU
  rw[qx rfl (by rw[List.length_map,←eU];exact dX (by omega))]
  rw[lu (f:=λd=>match d with|.str s=>.bool (wL (s.cps.toList.headD 0))|d=>d)]
  .walk_at "e0"
   rw[List.map_map,List.map_map]
   rfl
  .intro d hd
   obtain⟨c,hc,rfl⟩:=List.mem_map.mp hd
   exact⟨[some (.fr,.str ⟨#[c]⟩)],by walk_at "e0",rfl,Yr c⟩
 have ea:qY [.list ((z.cps.toList.map wL).map .bool)]=some (.bool (z.cps.toList.all wL)):=by
  show(boolsOf _).map _=_
  rw[qX]
  simp[List.all_map,Function.comp_def]
 have eB:(jR (vB (fQ qY (aC (nF (gO (vN 0)) [none] (gN 0) jU (nC iz iz (vC (.str "a")) (vN 0) (vC (.str "z")))) a0)))) [some (.fr,.str z)]=some (!z.cps.toList.all wL):=by
  unfold jR vB fQ
  rw[JR,es]
  show(match(match qY [.list ((z.cps.toList.map wL).map .bool)] with|some (.bool b)=>some b|_=>none) with|some b=>some !b|none=>none)=_
  rw[ea]
 have eA:(jR (vB (nC wD wD (vC (.int 1)) (fQ mY (aC (vN 0) a0)) (vC (.int 12))))) [some (.fr,.str z)]=some (!(decide (1<=z.length) && decide (z.length<=12))):=by
  walk_at "e0"
  rw[el]
  walk_at "e0"
  have g1:decide ((1:Int)<=(z.length:Int))=decide (1<=z.length):=decide_eq_decide.mpr (by omega)
  have g2:decide ((z.length:Int)<=12)=decide (z.length<=12):=decide_eq_decide.mpr (by omega)
  rw[g1]
  by_cases h:1<=z.length
  .simp only[h,decide_true,Bool.true_and]
   walk_at "e0"
   rw[g2]
  .simp only[h,decide_false,Bool.false_and]
   walk_at "e0"
 unfold cV J5
 rw[Ep,eA]
 cases(decide (1<=z.length) && decide (z.length<=12)) with
 |true=>
  simp only[Bool.not_true,Bool.true_and]
  rw[JN,eB]
 |false=>
  simp only[Bool.not_false,Bool.false_and]
  rw[Vi]
end bW
namespace bW
open PySem L2 VM
set_option maxHeartbeats 4000000
noncomputable def vd (z:Str):Prop:=cV z false/\dI z
theorem jM {z:Str}(ha:ascii z=true)(hw:dI z)(h:(decide (1<=z.length) && decide (z.length<=12) && z.cps.toList.all wL)=false):vd z:=⟨h▸RP ha hw.len,hw⟩
theorem w6 (n:Int):∃z,cu [.int n]=some (false,.str z)/\vd z:=by
 have q:=cW n (show(0:Int)<7 by decide)
 have wd:∀z:Str,(PyData.str z).canLay0=true->z.length<=100->(z.cps.toList.all λc=>decide (c<16^8))=true->dI z:=λz a b c=>⟨a,b,λx hx=>of_decide_eq_true (List.all_eq_true.mp c x hx)⟩
 unfold cu mG
 walk_at "e0"
 simp only[cg (show(0:Int)<7 by decide)]
 walk_at "e0"
 have h:n % 7=0\/n % 7=1\/n % 7=2\/n % 7=3\/n % 7=4\/n % 7=5\/n % 7=6:=by omega
 rcases h with h|h|h|h|h|h|h
 .exact⟨"",by rw[h];rfl,jM (by decide +kernel) (wd _ (by decide +kernel) (by decide +kernel) (by decide +kernel)) (by decide +kernel)⟩
 .exact⟨"abcdefghijklm",by rw[h];rfl,jM (by decide +kernel) (wd _ (by decide +kernel) (by decide +kernel) (by decide +kernel)) (by decide +kernel)⟩
 .exact⟨"Ann",by rw[h];rfl,jM (by decide +kernel) (wd _ (by decide +kernel) (by decide +kernel) (by decide +kernel)) (by decide +kernel)⟩
 .exact⟨"a1",by rw[h];rfl,jM (by decide +kernel) (wd _ (by decide +kernel) (by decide +kernel) (by decide +kernel)) (by decide +kernel)⟩
 .exact⟨"a b",by rw[h];rfl,jM (by decide +kernel) (wd _ (by decide +kernel) (by decide +kernel) (by decide +kernel)) (by decide +kernel)⟩
 .exact⟨"a-b",by rw[h];rfl,jM (by decide +kernel) (wd _ (by decide +kernel) (by decide +kernel) (by decide +kernel)) (by decide +kernel)⟩
 .exact⟨"_",by rw[h];rfl,jM (by decide +kernel) (wd _ (by decide +kernel) (by decide +kernel) (by decide +kernel)) (by decide +kernel)⟩
end bW
namespace bW
open PySem PySem.Spec PyProof.Rows L2 VM EX
set_option maxHeartbeats 4000000
section
variable {P:Program}{w:World}{K:PySem.W.Frag}{mg:Str->Option Value}{base:Heap}{C D f0:Addr}{R:Nat->Addr}
theorem Oe {m:jF}{ta:TA}{σ:L2.St}{H:Hp}{Q:VK}{E:XK}{ds:List PyData}{vs:List V}{z:Str}(ht:∀Z:List V->Hp->Prop,Z vs H->ta σ H Z)(hl:aJ K H ds vs)(e:m ds=some (false,.str z))(q:∀H',Same H H'->Q (.str z) H'):fU (d9 K m) [] E ta σ H Q:=
 ht _ ⟨H,ds,Same.refl _,by rw[List.append_nil];exact hl,false,_,e,λv F' H' g hv=>by
  have hv':v=.str z/\(PyData.str z).canLay0=true:=hv
  rw[hv'.1]
  exact q H' g.hh⟩
theorem yQ {te:TE}{tk:TE}{σ:L2.St}{H:Hp}{Q:VK}{E:XK}{k:Nat}(hk:k<=6)(ht:∀Z:VK,(∀e dx H',Same H H'->ju R k H' e dx->Z (.ref e) H')->te σ H Z)(hn:∀(H':Hp) (Z:VK),Z (.int (k:Int)) H'->tk σ H' Z)(q:∀H',Same H H'->Q (.bl true) H'):
  fU (u0 R) [] E (aN te (aN tk bA)) σ H Q:=by
 unfold fU aN bA
 exact ht _ λe dx H' s r=>hn H' _ ⟨e,dx,k,rfl,hk,r,λH2 s2=>q H2 (s.trans s2)⟩
theorem xg {ta tb:TE}{σ:L2.St}{H:Hp}{Z:VK}{E:XK}{a b:Str}{b1 b2:Bool}{k:Nat}(ha:∀Z:VK,(∀H',Same H H'->Z (.str a) H')->ta σ H Z)(hb:∀(H1:Hp) (Z:VK),Same H H1->(∀H',Same H1 H'->Z (.str b) H')->tb σ H1 Z)
  (hw:dI a/\dI b)(hn:cV a b1/\cV b b2)(hk:((b1 && b2)=false/\k=1)\/((b1 && b2)=true/\a=b/\k=2))(q:∀e gM H',Same H H'->ju R k H' e gM->Z (.ref e) H'):fU (vO R) [] E (aN ta (aN tb bA)) σ H Z:=by
 unfold fU aN bA
 exact ha _ λH1 s1=>hb H1 _ s1 λH2 s2=>⟨a,b,b1,b2,k,rfl,hw,hn,hk,λe dx H3 s3 r=>q e dx H3 (s1.trans (s2.trans s3)) r⟩
noncomputable def ug (R:Nat->Addr):Sp:=λvs H Q _=>∃n L r0 rest,vs=[.int n,.ref L]/\H L=some (.lst ((r0::rest).map V.str))/\bh r0/\∀H',Same H H'->Q (.bl true) H'
theorem Og:bF ["_law_number","_law_rooms"] ["_law_number","_law_rooms"] (aj (top 36)):=⟨rfl,rfl,rfl,by decide +kernel,rfl,by decide +kernel,by decide +kernel⟩
theorem Oh {f:Addr}{fd:FuncData}(F:dB K "_law_begins" "_law_begins" (top 36) f fd)(dJ:dM P w K mg base 1 "_law_no_name" ["_law_number"] (d9 K cu))(kI:dM P w K mg base 5 "_law_begun" ["_law_start","_law_goal"] (vO R))(cZ:dM P w K mg base 2 "_law_is" ["_law_caught_here","_law_at"] (u0 R)):
  aW P w K mg base dG 6 f fd ["_law_number","_law_rooms"] (ug R):=by
 have vt:=(show(["_law_number","_law_rooms"]:List Str).all (λx=>dW (aj (top 36)) x && plain x)=true by decide +kernel)
 refine dB.ok (k:=5) F Og (λvs H Q E h=>by obtain⟨_,_,_,_,rfl,_⟩:=h;rfl) λcdv A outer s H vs Q E hr hsp=>?_
 refine⟨_,aH (cM (iM (rN (aZ cZ (hr.mono (by decide)) (gl (sc:=aj (top 36)) (by decide +kernel)) (ak (aZ kI hr (gl (sc:=aj (top 36)) (by decide +kernel)) (ak (aZ dJ (hr.mono (by decide)) (gl (sc:=aj (top 36)) (by decide +kernel)) (ak (pV vt 0) aF)) (ak (bB gY (pV vt 1) au) aF))) (ak au aF))))) (aM (cN iY)) bR)
  (aH (cM (iM (rN (aZ cZ (hr.mono (by decide)) (gl (sc:=aj (top 36)) (by decide +kernel)) (ak (aZ kI hr (gl (sc:=aj (top 36)) (by decide +kernel)) (ak (bB gY (pV vt 1) au) (ak (aZ dJ (hr.mono (by decide)) (gl (sc:=aj (top 36)) (by decide +kernel)) (ak (iK oDiv (pV vt 0) au) aF)) aF))) (ak au aF))))) (aM (cN iY)) bR)
  (aM (cN (aZ cZ (hr.mono (by decide)) (gl (sc:=aj (top 36)) (by decide +kernel)) (ak (aZ kI hr (gl (sc:=aj (top 36)) (by decide +kernel)) (ak (bB gY (pV vt 1) au) (ak (bB gY (pV vt 1) au) aF))) (ak au aF)))))),?_⟩
 obtain⟨n,L,r0,rest,rfl,hL,ok0,hq⟩:=hsp
 have p7:∀{H':Hp}{Z:VK},Same H H'->Z (.str r0) H'->dh (qt K) (vR 1) (tC (.int 0)) [some (.int n),some (.ref L)] H' Z:=λsm z=>aB (v:=.ref L) rfl ⟨_,_,bQ.of (sm _ _ hL),by rw[List.map_cons];exact dz (j:=0) rfl,z⟩
 unfold gA d8 uE iB
 refine yQ (k:=1) (by decide) (λZ z=>?_) (λ_ _ z=>z) λH1 s1=>?_
 .obtain⟨x,ex,nx,wx⟩:=w6 n
  refine xg (a:=x) (b:=r0) (b1:=false) (b2:=true) (k:=1) (λZ z=>?_) (λH1 Z s1 z=>p7 s1 (z _ (Same.refl _))) ⟨wx,ok0.1.2⟩ ⟨nx,ok0.1.1⟩ (.inl ⟨rfl,rfl⟩) z
  refine Oe (ds:=[.int n]) (vs:=[.int n]) (λZ z=>?_) ⟨_,_,rfl,rfl,rfl⟩ ex λH2 s2=>z _ s2
  exact aB (v:=.int n) rfl z
 show(if(!true)=true then _ else _)
 rw[if_neg (by simp)]
 unfold dR
 try dsimp only
 refine yQ (k:=1) (by decide) (λZ z=>?_) (λ_ _ z=>z) λH2 s2=>?_
 .obtain⟨x,ex,nx,wx⟩:=w6 (n/7)
  refine xg (a:=r0) (b:=x) (b1:=true) (b2:=false) (k:=1) (λZ z=>p7 s1 (z _ (Same.refl _))) (λH2 Z s2 z=>?_) ⟨ok0.1.2,wx⟩ ⟨ok0.1.1,nx⟩ (.inl ⟨rfl,rfl⟩) z
  refine Oe (ds:=[.int (n/7)]) (vs:=[.int (n/7)]) (λZ z=>?_) ⟨_,_,rfl,rfl,rfl⟩ ex λH2 s2=>z _ s2
  unfold aN bA dh tC
  refine aB (v:=.int n) rfl ?_
  exact⟨⟨by decide,by decide +kernel⟩,z⟩
 show(if(!true)=true then _ else _)
 rw[if_neg (by simp)]
 unfold qN
 try dsimp only
 refine yQ (k:=2) (by decide) (λZ z=>?_) (λ_ _ z=>z) λH3 s3=>hq _ (s1.trans (s2.trans s3))
 exact xg (a:=r0) (b:=r0) (b1:=true) (b2:=true) (k:=2) (λZ z=>p7 (s1.trans s2) (z _ (Same.refl _))) (λH2 Z s3 z=>p7 (s1.trans (s2.trans s3)) (z _ (Same.refl _))) ⟨ok0.1.2,ok0.1.2⟩ ⟨ok0.1.1,ok0.1.1⟩ (.inr ⟨rfl,rfl,rfl⟩) z
end
end bW
namespace bW
open PySem PySem.Spec PyProof.Rows L2 VM
set_option maxHeartbeats 4000000
noncomputable def runs:List Nat->Bool
 |a::b::r=>decide (b=a+1) && runs (b::r)
 |_=>true
theorem Oj {a:Nat}:∀{l:List Nat},runs (a::l)=true->runs l=true
 |[],_=>rfl
 |b::r,h=>by
  have h':(decide (b=a+1) && runs (b::r))=true:=h
  exact(Bool.and_eq_true_iff.mp h').2
theorem Bq:∀{n:Nat}{l:List Nat},runs l=true->runs (l.drop n)=true
 |0,_,h=>by rw[List.drop_zero];exact h
 |n+1,[],h=>h
 |n+1,a::l,h=>by rw[List.drop_succ_cons];exact Bq (Oj h)
theorem Br:∀{n:Nat}{l:List Nat},runs l=true->runs (l.take n)=true
 |0,_,_=>by rw[List.take_zero];rfl
 |n+1,[],h=>h
 |1,a::l,h=>rfl
 |n+2,[a],h=>rfl
 |n+2,a::b::l,h=>by
  have h':(decide (b=a+1) && runs (b::l))=true:=h
  have g:=Bool.and_eq_true_iff.mp h'
  have ih:=Br (n:=n+1) g.2
  rw[List.take_succ_cons] at ih ⊢
  rw[List.take_succ_cons]
  show(decide (b=a+1) && runs (b::l.take n))=true
  rw[g.1,ih];rfl
theorem Gh {l:List Nat}(lo hi:Option Int)(h:runs l=true):runs (mq l lo hi)=true:=Br (Bq h)
noncomputable def near (x:Str):Bool:=(List.range x.cps.toList.length).any λi=>runs (x.cps.toList.eraseIdx i) && decide (x.cps.toList.getD i 200<=104)
theorem Ol (l:List Nat)(x:Nat):∀{i:Nat},i<=l.length->(l.take i++x::l.drop i).eraseIdx i=l/\(l.take i++x::l.drop i).getD i 200=x:=by
 induction l with
 |nil=>intro i hi;have:i=0:=Nat.le_zero.mp hi;subst this;exact⟨rfl,rfl⟩
 |cons a l ih=>
  intro i hi
  match i with
  |0=>exact⟨rfl,rfl⟩
  |i+1=>
   have:=ih (i:=i) (Nat.le_of_succ_le_succ hi)
   rw[List.take_succ_cons,List.drop_succ_cons,List.cons_append,List.eraseIdx_cons_succ,this.1]
   exact⟨rfl,by rw[List.getD_cons_succ];exact this.2⟩
theorem Om (n:Int):runs (baseOf n).cps.toList=true:=by
 unfold baseOf
 rw[lC,lC]
 exact Gh _ _ (Gh _ _ (by rw[zO];decide +kernel))
theorem Oo (n:Int){j:Nat}(hj:j<8):near (wordOf (baseOf n) (jj n) j)=true:=by
 unfold near
 rw[uf j (qL n)]
 have hl:jj n<=(baseOf n).cps.toList.length:=by rw[<-eU];exact qL n
 have e:=Ol (baseOf n).cps.toList (j+97) hl
 refine List.any_eq_true.mpr ⟨jj n,List.mem_range.mpr ?_,?_⟩
 .rw[List.length_append,List.length_cons,List.length_take,List.length_drop];omega
 .rw[e.1,e.2,Om,Bool.true_and];exact decide_eq_true (by omega)
theorem yR (n:Int){many:Nat}(hm:many<=8):∀x∈wordsOf n many,near x=true:=λx hx=>by
 obtain⟨j,hj,rfl⟩:=List.mem_map.mp hx
 exact Oo n (by have:=List.mem_range.mp hj;omega)
noncomputable def j8 (x:Str):Str:="zz"++eG x none (some 9)
theorem Gi (x:Str):(j8 x).cps.toList=122::122::(eG x none (some 9)).cps.toList:=by
 unfold j8;rw[rZ];rfl
theorem Oq (x:Str):near (j8 x)=false:=by
 unfold near
 rw[Gi]
 refine List.any_eq_false.mpr λi _=>?_
 match i with
 |0=>simp
 |1=>simp
 |i+2=>
  intro h
  have h1:=(Bool.and_eq_true_iff.mp h).1
  rw[List.eraseIdx_cons_succ,List.eraseIdx_cons_succ] at h1
  simp[runs] at h1
theorem Km (z:Str):(eG z none (some 9)).length<=9:=by
 rw[eU,lC]
 unfold mq
 rw[List.length_take,oU 9 (by decide)]
 have:(9:Int).toNat=9:=rfl
 omega
theorem agS {x:Str}(h:AZ x):AZ (j8 x):=λc hc=>by
 rw[Gi] at hc
 rcases List.mem_cons.mp hc with g|g
 .omega
 .rcases List.mem_cons.mp g with g|g
  .omega
  .exact h.cut _ _ c g
theorem Ot (x:Str):(j8 x).length=2+(eG x none (some 9)).length:=by
 rw[eU,Gi,List.length_cons,List.length_cons,←eU];omega
theorem VL {x:Str}(h:AZ x):bh (j8 x):=vQ (agS h) (by rw[Ot];omega) (by have:=Km x;rw[Ot];omega)
theorem vW {names:List Str}(hz:∀x∈names,near x=true){x:Str}(h:near x=false):x∉names:=λg=>by rw[hz x g] at h;cases h
theorem Ou {x:Int}(h:x.natAbs<2^1000):wK x:=by
 unfold wK
 by_cases g:x.natAbs=0
 .rw[g];decide
 .have:=(Nat.log2_lt g).mpr h;omega
noncomputable def Bad (rows:List Row)(k:Nat):aX->Prop
 |.lay nm a b w l=>∃b1 b2 b3,(dI nm/\dI a/\dI b)/\(cV nm b1/\cV a b2/\cV b b3)/\(((b1 && b2 && b3)=false/\k=1)\/((b1 && b2 && b3)=true/\nm∈rows.map (·.1)/\k=2)\/((b1 && b2 && b3)=true/\nm∉rows.map (·.1)/\(a=b\/w<1\/l<1)/\k=0))
 |.shut nm=>dI nm/\nm∉rows.map (·.1)/\k=4
 |.widen nm x=>dI nm/\wK x/\((nm∉rows.map (·.1)/\k=4)\/(nm∈rows.map (·.1)/\x<1/\k=5))
 |.narrow nm x=>dI nm/\wK x/\((nm∉rows.map (·.1)/\k=4)\/(∃r∈rows,r.1=nm/\(x<1\/r.2.2.2.1 - x<1)/\k=5))
theorem Bad.refuses {rooms names:List Str}{rows:List Row}{nums:List (Str×Int)}{ls:List (Str×Q4)}{R:Nat->Addr}{C p dx nn ll:Addr}{H:Hp}{d:aX}{k:Nat}(h:Ok rooms names rows nums ls)(hb:Bad rows k d)(hh:cU H C p dx nn ll nums ls):sH C R p d k H:=by
 obtain⟨hl,hnl⟩:=h.len
 have en:=lU h.lr
 have out:∀{nm},nm∉rows.map (·.1)->cF nm ls=none:=λg=>jL (by rw[en];exact g)
 have inn:∀{nm},nm∈rows.map (·.1)->∃q,cF nm ls=some q/\(∀r∈rows,r.1=nm->q.2.2.1=r.2.2.2.1):=λ{nm} g=>by
  obtain⟨q,g1,g2,_⟩:=h.chg (k:=0) g λr hr _=>by have:=h.dr.wd r hr;omega
  exact⟨q,g1,g2⟩
 cases d with
 |lay nm a b w l=>
  obtain⟨b1,b2,b3,hw,hn,hc⟩:=hb
  refine⟨by rcases hc with g|g|g<;>omega,λQ E q=>⟨p,dx,nn,ll,nums,ls,nm,a,b,w,l,b1,b2,b3,rfl,hh,hw,hn,by omega,by omega,?_⟩⟩
  rcases hc with⟨g,rfl⟩|⟨g,g2,rfl⟩|⟨g,g2,g3,rfl⟩
  .rw[if_pos g];exact q
  .obtain⟨v,gv,_⟩:=inn g2
   rw[if_neg (by rw[g];decide),gv,if_pos (show(some v).isSome=true from rfl)];exact q
  .rw[if_neg (by rw[g];decide),out g2,if_neg (by decide),if_pos g3];exact q
 |shut nm=>
  obtain⟨hw,g,rfl⟩:=hb
  exact⟨by decide,λQ E q=>⟨p,dx,nn,ll,nums,ls,nm,rfl,hh,hw,by rw[out g];exact q⟩⟩
 |widen nm x=>
  obtain⟨hw,hf,hc⟩:=hb
  refine⟨by rcases hc with g|g<;>omega,λQ E q=>⟨p,dx,nn,ll,nums,ls,nm,x,rfl,hh,hw,hf,by omega,?_⟩⟩
  rcases hc with⟨g,rfl⟩|⟨g,g2,rfl⟩
  .rw[out g];exact q
  .obtain⟨v,gv,_⟩:=inn g
   rw[gv];dsimp only;rw[if_pos g2];exact q
 |narrow nm x=>
  obtain⟨hw,hf,hc⟩:=hb
  refine⟨by rcases hc with g|⟨_,_,_,_,g⟩<;>omega,λQ E q=>⟨p,dx,nn,ll,nums,ls,nm,x,rfl,hh,hw,hf,by omega,?_⟩⟩
  rcases hc with⟨g,rfl⟩|⟨r,hr,g,g2,rfl⟩
  .rw[out g];exact q
  .obtain⟨v,gv,ge⟩:=inn (nm:=nm) (by rw[<-g];exact List.mem_map_of_mem (f:=λx:Row=>x.1) hr)
   have:=ge r hr g
   rw[gv];dsimp only;rw[if_pos (by omega)];exact q
end bW
namespace bW
open PySem PySem.Spec PyProof.Rows L2 VM
set_option maxHeartbeats 4000000
theorem jm {xs ys:List PyData}(h:xs.length+ys.length<=1000):fZ (.list xs) (.list ys)=some (.list (xs++ys)):=if_pos (Nat.le_of_lt (dX (by omega)))
theorem Ys {xs ys:List PyData}(h:xs≠[]/\xs.length+ys.length<=1000):yg (.tuple xs) (.tuple ys)=some (.tuple (xs++ys)):=if_pos ⟨h.1,Nat.le_of_lt (dX (by omega))⟩
theorem ne_nil (rows:List Row):xW (.list (rows.map bN)) (.list [])=some (.bool (!decide (rows=[]))):=by
 unfold xW
 have hd:(PyData.list (rows.map bN)).depth<=60:=by
  have:=nH (rows.map bN) 10 (λd hd=>by obtain⟨x,_,rfl⟩:=List.mem_map.mp hd;simp[bN,PyData.depth,PyData.depthAll])
  simp only[PyData.depth]
  omega
 rw[if_pos hd]
 cases rows with
 |nil=>rfl
 |cons r rs=>simp[PyData.eqv,PyData.eqvAll]
noncomputable abbrev BT:=Nat×Str×Str×Str×Int×Int
noncomputable def Ko (b:BT):PyData:=.tuple [.int (b.1:Int),.str b.2.1,.str b.2.2.1,.str b.2.2.2.1,.int b.2.2.2.2.1,.int b.2.2.2.2.2]
noncomputable def Gj (b:BT):aX:=.lay b.2.1 b.2.2.1 b.2.2.2.1 b.2.2.2.2.1 b.2.2.2.2.2
noncomputable def Kp:VS:=(aV (cD (v2 aP (vN 4) (v2 cC (v2 fD (vN 0) (vC (.int 7))) (fQ iu (aC (vN 4) a0)))) (gN 5))
 (fX (aY (aC (v2 aP (vN 5) (vC (.int 0))) (aC (v2 yg (aY (aC (vC (.str "lay")) a0)) (DX (vN 5) (oI (vC (.int 1))) oN)) a0)))))
theorem Ov {n:Int}{x1 x2 x3:Option (Tg×PyData)}{bs:List BT}(h0:bs≠[])(h1:bs.length<=100):∃b∈bs,∃S',Kp [some (.fr,.int n),x1,x2,x3,some (.fr,.list (bs.map Ko)),none]=.ret S' false (.tuple [.int (b.1:Int),(Gj b).dat]):=by
 have hp:0<bs.length:=List.length_pos_iff.mpr h0
 have ma:=cW (n/7) (show(0:Int)<(bs.length:Int) by omega)
 obtain⟨i,hi⟩:∃i:Nat,n/7 % (bs.length:Int)=i:=⟨(n/7 % (bs.length:Int)).toNat,by omega⟩
 have hi':i<bs.length:=by omega
 have hat:cT (bs.map Ko) (i:Int)=some (Ko bs[i]):=dz (by simp[hi'])
 refine⟨bs[i],List.getElem_mem hi',?_⟩
 generalize bs[i]=b at hat
 unfold Kp
 walk_at "e0"
 simp only[eZ (show(0:Int)<7 by decide) (by decide)]
 walk_at "e0"
 simp only[List.length_map]
 rw[cg (show(0:Int)<(bs.length:Int) by omega),hi]
 walk_at "e0"
 rw[hat]
 unfold Ko
 walk_at "e0"
 rw[if_neg (by decide),show VM.cutD [.int (b.1:Int),.str b.2.1,.str b.2.2.1,.str b.2.2.2.1,.int b.2.2.2.2.1,.int b.2.2.2.2.2] (some 1) none=[.str b.2.1,.str b.2.2.1,.str b.2.2.2.1,.int b.2.2.2.2.1,.int b.2.2.2.2.2] from rfl]
 walk_at "e0"
 rw[Ys ⟨by simp,by simp⟩]
 walk_at "e0"
 exact⟨_,rfl⟩
noncomputable def qM (n:Int)(x zz r0 r1:Str):List BT:=[(1,x,r0,r0,0,1),(1,zz,x,r1,0,1),(1,zz,r0,x,1,1),(0,zz,r0,r0,1,1),(0,zz,r0,r1,0,1),(0,zz,r1,r0,1,0),(0,zz,r0,r1,(0 - n % 100000000000000000000000000000000000000000000000000000000000),1),(0,zz,r0,r1,5,-1)]
noncomputable def CN (x f l r0 r1:Str):List BT:=[(2,f,r0,r0,0,0),(2,l,r0,r1,1,1),(1,f,r0,x,1,1)]
theorem Bs {n:Int}{x r0 r1:Str}{rows:List Row}(h0:bh r0)(ha0:AZ r0)(h1:bh r1)(nx:vd x)(hf:∀r∈rows,near r.1=true):∀b∈qM n x (j8 r0) r0 r1,Bad rows b.1 (Gj b):=by
 have z:=VL ha0
 have zo:j8 r0∉rows.map (·.1):=vW (λy hy=>by obtain⟨r,hr,rfl⟩:=List.mem_map.mp hy;exact hf r hr) (Oq r0)
 have m:=cW n (show(0:Int)<100000000000000000000000000000000000000000000000000000000000 by decide)
 intro b hb
 simp only[qM,List.mem_cons,List.not_mem_nil,or_false] at hb
 rcases hb with rfl|rfl|rfl|rfl|rfl|rfl|rfl|rfl
 .exact⟨false,true,true,⟨nx.2,h0.1.2,h0.1.2⟩,⟨nx.1,h0.1.1,h0.1.1⟩,.inl ⟨rfl,rfl⟩⟩
 .exact⟨true,false,true,⟨z.1.2,nx.2,h1.1.2⟩,⟨z.1.1,nx.1,h1.1.1⟩,.inl ⟨rfl,rfl⟩⟩
 .exact⟨true,true,false,⟨z.1.2,h0.1.2,nx.2⟩,⟨z.1.1,h0.1.1,nx.1⟩,.inl ⟨rfl,rfl⟩⟩
 .exact⟨true,true,true,⟨z.1.2,h0.1.2,h0.1.2⟩,⟨z.1.1,h0.1.1,h0.1.1⟩,.inr (.inr ⟨rfl,zo,.inl rfl,rfl⟩)⟩
 .exact⟨true,true,true,⟨z.1.2,h0.1.2,h1.1.2⟩,⟨z.1.1,h0.1.1,h1.1.1⟩,.inr (.inr ⟨rfl,zo,.inr (.inl (show(0:Int)<1 by decide)),rfl⟩)⟩
 .exact⟨true,true,true,⟨z.1.2,h1.1.2,h0.1.2⟩,⟨z.1.1,h1.1.1,h0.1.1⟩,.inr (.inr ⟨rfl,zo,.inr (.inr (show(0:Int)<1 by decide)),rfl⟩)⟩
 .exact⟨true,true,true,⟨z.1.2,h0.1.2,h1.1.2⟩,⟨z.1.1,h0.1.1,h1.1.1⟩,.inr (.inr ⟨rfl,zo,.inr (.inl (show(0 - n % 100000000000000000000000000000000000000000000000000000000000:Int)<1 by omega)),rfl⟩)⟩
 .exact⟨true,true,true,⟨z.1.2,h0.1.2,h1.1.2⟩,⟨z.1.1,h0.1.1,h1.1.1⟩,.inr (.inr ⟨rfl,zo,.inr (.inr (show(-1:Int)<1 by decide)),rfl⟩)⟩
theorem Ow {x r0 r1 f l:Str}{rows:List Row}(h0:bh r0)(h1:bh r1)(nx:vd x)(hf:f∈rows.map (·.1))(hl:l∈rows.map (·.1))(kf:bh f)(kl:bh l):∀b∈CN x f l r0 r1,Bad rows b.1 (Gj b):=by
 intro b hb
 simp only[CN,List.mem_cons,List.not_mem_nil,or_false] at hb
 rcases hb with rfl|rfl|rfl
 .exact⟨true,true,true,⟨kf.1.2,h0.1.2,h0.1.2⟩,⟨kf.1.1,h0.1.1,h0.1.1⟩,.inr (.inl ⟨rfl,hf,rfl⟩)⟩
 .exact⟨true,true,true,⟨kl.1.2,h0.1.2,h1.1.2⟩,⟨kl.1.1,h0.1.1,h1.1.1⟩,.inr (.inl ⟨rfl,hl,rfl⟩)⟩
 .exact⟨true,true,false,⟨kf.1.2,h0.1.2,nx.2⟩,⟨kf.1.1,h0.1.1,nx.1⟩,.inl ⟨rfl,rfl⟩⟩
theorem Ds {α:Type}{xs:List α}(h:xs≠[]):cT xs (-1)=some (xs.getLast h):=by
 unfold cT
 rw[Qn (List.length_pos_iff.mpr h)]
 simp[List.getLast?_eq_getElem?,←List.getLast?_eq_some_getLast h]
noncomputable def VN:VS:=(lN (vB (v2 xW (vN 1) (cX a0)))
 (aV (cD (v2 fZ (vN 4) (cX (aC (aY (aC (vC (.int 2)) (aC (v2 aP (v2 aP (vN 1) (vC (.int 0))) (vC (.int 0))) (aC (v2 aP (vN 2) (vC (.int 0))) (aC (v2 aP (vN 2) (vC (.int 0))) (aC (vC (.int 0)) (aC (vC (.int 0)) a0))))))) a0))) (gN 4))
 (aV (cD (v2 fZ (vN 4) (cX (aC (aY (aC (vC (.int 2)) (aC (v2 aP (v2 aP (vN 1) (v1 pD (vC (.int 1)))) (vC (.int 0))) (aC (v2 aP (vN 2) (vC (.int 0))) (aC (v2 aP (vN 2) (vC (.int 1))) (aC (vC (.int 1)) (aC (vC (.int 1)) a0))))))) a0))) (gN 4))
 (cD (v2 fZ (vN 4) (cX (aC (aY (aC (vC (.int 1)) (aC (v2 aP (v2 aP (vN 1) (vC (.int 0))) (vC (.int 0))) (aC (v2 aP (vN 2) (vC (.int 0))) (aC (cj cu (aC (vF 0) a0)) (aC (vC (.int 1)) (aC (vC (.int 1)) a0))))))) a0))) (gN 4))))
 jr)
theorem Ox:mH=(aV (cD (v2 jV (vC (.str "zz")) (j6 (v2 aP (vN 2) (vC (.int 0))) oN (oI (vC (.int 9))))) (gN 3))
 (aV (cD (cX (aC (aY (aC (vC (.int 1)) (aC (cj cu (aC (vF 0) a0)) (aC (v2 aP (vN 2) (vC (.int 0))) (aC (v2 aP (vN 2) (vC (.int 0))) (aC (vC (.int 0)) (aC (vC (.int 1)) a0))))))) a0)) (gN 4))
 (aV (cD (v2 fZ (vN 4) (cX (aC (aY (aC (vC (.int 1)) (aC (vF 3) (aC (cj cu (aC (vF 0) a0)) (aC (v2 aP (vN 2) (vC (.int 1))) (aC (vC (.int 0)) (aC (vC (.int 1)) a0))))))) a0))) (gN 4))
 (aV (cD (v2 fZ (vN 4) (cX (aC (aY (aC (vC (.int 1)) (aC (vF 3) (aC (v2 aP (vN 2) (vC (.int 0))) (aC (cj cu (aC (vF 0) a0)) (aC (vC (.int 1)) (aC (vC (.int 1)) a0))))))) (aC (aY (aC (vC (.int 0)) (aC (vF 3) (aC (v2 aP (vN 2) (vC (.int 0))) (aC (v2 aP (vN 2) (vC (.int 0))) (aC (vC (.int 1)) (aC (vC (.int 1)) a0))))))) a0)))) (gN 4))
 (aV (cD (v2 fZ (vN 4) (cX (aC (aY (aC (vC (.int 0)) (aC (vF 3) (aC (v2 aP (vN 2) (vC (.int 0))) (aC (v2 aP (vN 2) (vC (.int 1))) (aC (vC (.int 0)) (aC (vC (.int 1)) a0))))))) (aC (aY (aC (vC (.int 0)) (aC (vF 3) (aC (v2 aP (vN 2) (vC (.int 1))) (aC (v2 aP (vN 2) (vC (.int 0))) (aC (vC (.int 1)) (aC (vC (.int 0)) a0))))))) a0)))) (gN 4))
 (aV (cD (v2 fZ (vN 4) (cX (aC (aY (aC (vC (.int 0)) (aC (vF 3) (aC (v2 aP (vN 2) (vC (.int 0))) (aC (v2 aP (vN 2) (vC (.int 1))) (aC (v2 qP (vC (.int 0)) (v2 cC (vN 0) (v2 qQ (vC (.int 10)) (vC (.int 59))))) (aC (vC (.int 1)) a0))))))) (aC (aY (aC (vC (.int 0)) (aC (vF 3) (aC (v2 aP (vN 2) (vC (.int 0))) (aC (v2 aP (vN 2) (vC (.int 1))) (aC (vC (.int 5)) (aC (v1 pD (vC (.int 1))) a0))))))) a0)))) (gN 4))
 (aV VN Kp))))))):=rfl
theorem RQ {n:Int}{rows:List Row}{r0 r1:Str}{rest:List Str}(h0:bh r0)(ha0:AZ r0)(h1:bh r1)(hN:∀r∈rows,bh r.1)(hf:∀r∈rows,near r.1=true):∃(k:Nat) (d:aX),fL [.int n,fB rows,cA (r0::r1::rest)]=some (false,.tuple [.int (k:Int),d.dat])/\Bad rows k d:=by
  have hl0:=h0.1.2.len
  obtain⟨x,ex,nx,wx⟩:=w6 n
  have i0:cT (PyData.str r0::PyData.str r1::rest.map PyData.str) 0=some (.str r0):=dz (j:=0) rfl
  have i1:cT (PyData.str r0::PyData.str r1::rest.map PyData.str) 1=some (.str r1):=dz (j:=1) rfl
  have zz:("zz":Str)++eG r0 none (some 9)=j8 r0:=rfl
  have hz9:=Km r0
  unfold fL fB cA
  rw[Ox]
  walk_at "e0"
  rw[mO (x:=r0) (lo:=none) (hi:=some 9) (by walk_at "e0") rfl (by walk_at "e0") (by omega)]
  walk_at "e0"
  rw[kY (by have:("zz":Str).length=2:=by decide +kernel
            omega),zz]
  walk_at "e0"
  simp only[ex]
  walk_at "e0"
  simp only[ex]
  walk_at "e0"
  rw[jm (by simp)]
  walk_at "e0"
  simp only[ex]
  walk_at "e0"
  rw[jm (by simp)]
  walk_at "e0"
  rw[jm (by simp)]
  walk_at "e0"
  simp only[uV (show(0:Int)<=59 by decide) (by decide) (show(0:Int)<=10 by decide) (by decide)]
  walk_at "e0"
  simp only[cg (show(0:Int)<100000000000000000000000000000000000000000000000000000000000 by decide)]
  walk_at "e0"
  rw[jm (by simp)]
  walk_at "e0"
  unfold VN
  walk_at "e0"
  rw[ne_nil]
  walk_at "e0"
  by_cases hnil:rows=[]
  . subst hnil
    simp only[decide_true,Bool.not_true]
    walk_at "e0"
    obtain⟨b,hb,S',e⟩:=Ov (n:=n) (x1:=some (.fr,.list [])) (x2:=some (.fr,.list (PyData.str r0::PyData.str r1::rest.map PyData.str))) (x3:=some (.fr,.str (j8 r0))) (bs:=qM n x (j8 r0) r0 r1) (by simp[qM]) (by simp[qM])
    refine⟨b.1,Gj b, ?_,Bs h0 ha0 h1 ⟨nx,wx⟩ hf b hb⟩
    exact(congrArg bFn e).trans (by walk_at "e0")
  . obtain⟨r,rs,rfl⟩:=List.exists_cons_of_ne_nil hnil
    have il:∃s∈r::rs,cT (bN r::rs.map bN) (-1)=some (bN s):=⟨(r::rs).getLast hnil,List.getLast_mem hnil,by rw[<-List.map_cons,Ds (by simp)];rw[List.getLast_map]⟩
    obtain⟨s,hs,il⟩:=il
    simp only[hnil,decide_false,Bool.not_false]
    walk_at "e0"
    unfold bN at il ⊢
    walk_at "e0"
    rw[jm (by simp)]
    walk_at "e0"
    rw[il]
    walk_at "e0"
    rw[jm (by simp)]
    walk_at "e0"
    simp only[ex]
    walk_at "e0"
    rw[jm (by simp)]
    walk_at "e0"
    obtain⟨b,hb,S',e⟩:=Ov (n:=n) (x1:=some (.fr,.list ((r::rs).map bN))) (x2:=some (.fr,.list (PyData.str r0::PyData.str r1::rest.map PyData.str))) (x3:=some (.fr,.str (j8 r0))) (bs:=qM n x (j8 r0) r0 r1++CN x r.1 s.1 r0 r1) (by simp[qM]) (by simp[qM,CN])
    refine⟨b.1,Gj b, ?_, ?_⟩
    . exact(congrArg bFn e).trans (by walk_at "e0")
    . rcases List.mem_append.mp hb with g|g
      . exact Bs h0 ha0 h1 ⟨nx,wx⟩ hf b g
      . exact Ow h0 h1 ⟨nx,wx⟩ (List.mem_map_of_mem (f:= λx:Row=>x.1) (List.mem_cons_self ..)) (List.mem_map_of_mem (f:= λx:Row=>x.1) hs) (hN _ (List.mem_cons_self ..)) (hN _ hs) b g
end bW
namespace bW
open PySem PySem.Spec PyProof.Rows L2 VM
set_option maxHeartbeats 4000000
noncomputable abbrev BX:=Nat×aX
noncomputable def bxD (b:BX):PyData:=.tuple [.int (b.1:Int),b.2.dat]
noncomputable def Gk:VS:=(fX (v2 aP (vN 7) (v2 cC (v2 fD (vN 3) (vC (.int 24))) (vC (.int 9)))))
theorem Yt {n:Int}{x0 x1 x2 x4 x5 x6:Option (Tg×PyData)}{bs:List BX}(h9:bs.length=9):∃b∈bs,∃S',Gk [x0,x1,x2,some (.fr,.int n),x4,x5,x6,some (.fr,.list (bs.map bxD))]=.ret S' false (.tuple [.int (b.1:Int),b.2.dat]):=by
 have ma:=cW (n/24) (show(0:Int)<9 by decide)
 obtain⟨i,hi⟩:∃i:Nat,n/24 % 9=(i:Int):=⟨(n/24 % 9).toNat,by omega⟩
 have hi':i<bs.length:=by omega
 have hat:cT (bs.map bxD) (i:Int)=some (bxD bs[i]):=dz (by simp[hi'])
 refine⟨bs[i],List.getElem_mem hi',?_⟩
 generalize bs[i]=b at hat
 unfold Gk
 walk_at "e0"
 simp only[eZ (show(0:Int)<24 by decide) (by decide)]
 walk_at "e0"
 simp only[cg (show(0:Int)<9 by decide)]
 rw[hi]
 walk_at "e0"
 rw[hat]
 walk_at "e0"
 exact⟨_,rfl⟩
noncomputable def Kq (n:Int)(zz nm:Str)(w:Int):List BX:=[(4,.shut zz),(4,.widen zz 0),(4,.narrow "" 1),(5,.widen nm 0),(5,.widen nm (-1 - n % 100000000000000000000000000000000000000000000000000000000000)),(5,.narrow nm 0),(5,.narrow nm w),(5,.narrow nm (-2)),(5,.narrow nm (w+1+n % 5))]
theorem Kr:dI "":=⟨by decide +kernel,by decide +kernel,λc hc=>by cases hc⟩
theorem Oz:near ""=false:=by decide +kernel
theorem OD {n:Int}{r0:Str}{r:Row}{rows:List Row}(ha0:AZ r0)(hf:∀r∈rows,near r.1=true)(hr:r∈rows)(hk:bh r.1)(hw:1<=r.2.2.2.1/\r.2.2.2.1<=100*jy):∀b∈Kq n (j8 r0) r.1 r.2.2.2.1,Bad rows b.1 b.2:=by
 have z:=(VL ha0).1.2
 have fo:∀{x:Str},near x=false->x∉rows.map (·.1):=λh=>vW (λy hy=>by obtain⟨r,hr,rfl⟩:=List.mem_map.mp hy;exact hf r hr) h
 have zo:=fo (Oq r0)
 have m:=cW n (show(0:Int)<100000000000000000000000000000000000000000000000000000000000 by decide)
 have m5:=cW n (show(0:Int)<5 by decide)
 have hm:r.1∈rows.map (·.1):=List.mem_map_of_mem (f:=λx:Row=>x.1) hr
 have few:∀{y:Int},-1000000000000000000000000000000000000000000000000000000000000000<=y/\y<=1000000000000000000000000000000000000000000000000000000000000000->wK y:=λ{y} h=>Ou (by
  have:y.natAbs<=1000000000000000000000000000000000000000000000000000000000000000:=by omega
  exact Nat.lt_of_le_of_lt this (by decide +kernel))
 unfold jy at hw
 intro b hb
 simp only[Kq,List.mem_cons,List.not_mem_nil,or_false] at hb
 rcases hb with rfl|rfl|rfl|rfl|rfl|rfl|rfl|rfl|rfl
 .exact⟨z,zo,rfl⟩
 .exact⟨z,few (by decide),.inl ⟨zo,rfl⟩⟩
 .exact⟨Kr,few (by decide),.inl ⟨fo Oz,rfl⟩⟩
 .exact⟨hk.1.2,few (by decide),.inr ⟨hm,by decide,rfl⟩⟩
 .exact⟨hk.1.2,few (by omega),.inr ⟨hm,by omega,rfl⟩⟩
 .exact⟨hk.1.2,few (by decide),.inr ⟨r,hr,rfl,.inl (by decide),rfl⟩⟩
 .exact⟨hk.1.2,few (by omega),.inr ⟨r,hr,rfl,.inr (by omega),rfl⟩⟩
 .exact⟨hk.1.2,few (by decide),.inr ⟨r,hr,rfl,.inl (by decide),rfl⟩⟩
 .exact⟨hk.1.2,few (by omega),.inr ⟨r,hr,rfl,.inr (by omega),rfl⟩⟩
theorem abq:tX=(aV (cD (cj bJ (aC (vF 0) (aC (vC (.int 3)) a0))) (gN 3))
 (aV (cD (v2 cC (vN 3) (vC (.int 3))) (gN 4))
 (aV (lN (tL (vB (v2 lJ (vN 4) (vC (.int 0)))) (vB (v2 lJ (vN 1) (cX a0))))
 (fX (cj fL (aC (v2 fD (vN 3) (vC (.int 3))) (aC (vF 1) (aC (vF 2) a0)))))
 jr)
 (aV (cD (v2 aP (v2 aP (vN 1) (v2 cC (v2 fD (vN 3) (vC (.int 3))) (fQ iu (aC (vN 1) a0)))) (vC (.int 0))) (gN 5))
 (aV (cD (v2 aP (v2 aP (vN 1) (v2 cC (v2 fD (vN 3) (vC (.int 3))) (fQ iu (aC (vN 1) a0)))) (vC (.int 3))) (gN 6))
 (aV (cD (cX (aC (aY (aC (vC (.int 4)) (aC (aY (aC (vC (.str "shut")) (aC (v2 jV (vC (.str "zz")) (j6 (v2 aP (vN 2) (vC (.int 0))) oN (oI (vC (.int 9))))) a0))) a0))) (aC (aY (aC (vC (.int 4)) (aC (aY (aC (vC (.str "widen")) (aC (v2 jV (vC (.str "zz")) (j6 (v2 aP (vN 2) (vC (.int 0))) oN (oI (vC (.int 9))))) (aC (vC (.int 0)) a0)))) a0))) a0))) (gN 7))
 (aV (cD (v2 fZ (vN 7) (cX (aC (aY (aC (vC (.int 4)) (aC (aY (aC (vC (.str "narrow")) (aC (vC (.str "")) (aC (vC (.int 1)) a0)))) a0))) a0))) (gN 7))
 (aV (cD (v2 fZ (vN 7) (cX (aC (aY (aC (vC (.int 5)) (aC (aY (aC (vC (.str "widen")) (aC (vF 5) (aC (vC (.int 0)) a0)))) a0))) (aC (aY (aC (vC (.int 5)) (aC (aY (aC (vC (.str "widen")) (aC (vF 5) (aC (v2 qP (v1 pD (vC (.int 1))) (v2 cC (vN 3) (v2 qQ (vC (.int 10)) (vC (.int 59))))) a0)))) a0))) (aC (aY (aC (vC (.int 5)) (aC (aY (aC (vC (.str "narrow")) (aC (vF 5) (aC (vC (.int 0)) a0)))) a0))) a0))))) (gN 7))
 (aV (cD (v2 fZ (vN 7) (cX (aC (aY (aC (vC (.int 5)) (aC (aY (aC (vC (.str "narrow")) (aC (vF 5) (aC (vF 6) a0)))) a0))) (aC (aY (aC (vC (.int 5)) (aC (aY (aC (vC (.str "narrow")) (aC (vF 5) (aC (v1 pD (vC (.int 2))) a0)))) a0))) a0)))) (gN 7))
 (aV (cD (v2 fZ (vN 7) (cX (aC (aY (aC (vC (.int 5)) (aC (aY (aC (vC (.str "narrow")) (aC (vF 5) (aC (v2 gQ (v2 gQ (vN 6) (vC (.int 1))) (v2 cC (vN 3) (vC (.int 5)))) a0)))) a0))) a0))) (gN 7))
 Gk)))))))))):=rfl
theorem agT {c:Int}{rows:List Row}{r0 r1:Str}{rest:List Str}(h0:bh r0)(ha0:AZ r0)(h1:bh r1)(hl:rows.length<=100)(hN:∀r∈rows,bh r.1)(hf:∀r∈rows,near r.1=true)(hw:∀r∈rows,1<=r.2.2.2.1/\r.2.2.2.1<=100*jy):∃(k:Nat) (d:aX),jh [.int c,fB rows,cA (r0::r1::rest)]=some (false,.tuple [.int (k:Int),d.dat])/\Bad rows k d:=by
 have hl0:=h0.1.2.len
 have zz:("zz":Str)++eG r0 none (some 9)=j8 r0:=rfl
 have hz9:=Km r0
 unfold jh fB cA
 rw[abq]
 walk_at "e0"
 simp only[oE (c:=c) (k:=3) (by decide) (by decide)]
 walk_at "e0"
 simp only[cg (show(0:Int)<3 by decide)]
 walk_at "e0"
 generalize eX c 3=n
 obtain⟨k,d,e1,e2⟩:=RQ (n:=n/3) (rows:=rows) (r0:=r0) (r1:=r1) (rest:=rest) h0 ha0 h1 hN hf
 unfold fB cA at e1
 rw[List.map_cons,List.map_cons] at e1
 by_cases c0:n % 3=0
 .simp only[c0,decide_true]
  walk_at "e0"
  simp only[eZ (show(0:Int)<3 by decide) (by decide)]
  walk_at "e0"
  rw[e1]
  walk_at "e0"
  exact⟨k,d,rfl,e2⟩
 simp only[c0,decide_false]
 walk_at "e0"
 rw[eq_nil]
 walk_at "e0"
 by_cases hnil:rows=[]
 .simp only[hnil,decide_true]
  rw[hnil] at e1
  walk_at "e0"
  simp only[eZ (show(0:Int)<3 by decide) (by decide)]
  walk_at "e0"
  rw[List.map_nil] at e1
  rw[e1]
  walk_at "e0"
  exact⟨k,d,rfl,hnil▸e2⟩
 simp only[hnil,decide_false]
 walk_at "e0"
 have hpos:0<rows.length:=List.length_pos_iff.mpr hnil
 have ma:=cW (n/3) (show(0:Int)<(rows.length:Int) by omega)
 obtain⟨i,hi⟩:∃i:Nat,n/3 % (rows.length:Int)=i:=⟨(n/3 % (rows.length:Int)).toNat,by omega⟩
 have hi':i<rows.length:=by omega
 have hm:rows[i]∈rows:=List.getElem_mem hi'
 have hat:cT (rows.map bN) (i:Int)=some (bN rows[i]):=Gd hi'
 generalize rows[i]=r at hm hat
 simp only[eZ (show(0:Int)<3 by decide) (by decide)]
 walk_at "e0"
 simp only[List.length_map]
 rw[cg (show(0:Int)<(rows.length:Int) by omega),hi]
 walk_at "e0"
 rw[hat]
 rw[show bN r=.list [.str r.1,.str r.2.1,.str r.2.2.1,.int r.2.2.2.1,.int r.2.2.2.2] from rfl] at hat ⊢
 walk_at "e0"
 simp only[eZ (show(0:Int)<3 by decide) (by decide)]
 walk_at "e0"
 simp only[List.length_map]
 rw[cg (show(0:Int)<(rows.length:Int) by omega),hi]
 walk_at "e0"
 rw[hat]
 walk_at "e0"
 have h2:("zz":Str).length=2:=by decide +kernel
 rw[mO (x:=r0) (lo:=none) (hi:=some 9) (by walk_at "e0") rfl (by walk_at "e0") (by omega)]
 walk_at "e0"
 rw[kY (by omega),zz]
 walk_at "e0"
 try rw[mO (x:=r0) (lo:=none) (hi:=some 9) (by walk_at "e0") rfl (by walk_at "e0") (by omega)]
 walk_at "e0"
 try rw[kY (by omega),zz]
 walk_at "e0"
 rw[jm (by simp)]
 walk_at "e0"
 simp only[uV (show(0:Int)<=59 by decide) (by decide) (show(0:Int)<=10 by decide) (by decide)]
 walk_at "e0"
 simp only[cg (show(0:Int)<100000000000000000000000000000000000000000000000000000000000 by decide)]
 walk_at "e0"
 rw[jm (by simp)]
 walk_at "e0"
 rw[jm (by simp)]
 walk_at "e0"
 simp only[cg (show(0:Int)<5 by decide)]
 walk_at "e0"
 rw[jm (by simp)]
 walk_at "e0"
 obtain⟨b,hb,S',e⟩:=Yt (n:=n) (x0:=some (.fr,.int c)) (x1:=some (.fr,.list (rows.map bN))) (x2:=some (.fr,.list (PyData.str r0::PyData.str r1::rest.map PyData.str))) (x4:=some (.fr,.int (n % 3))) (x5:=some (.fr,.str r.1)) (x6:=some (.fr,.int r.2.2.2.1)) (bs:=Kq n (j8 r0) r.1 r.2.2.2.1) rfl
 exact⟨b.1,b.2,(congrArg bFn e).trans (by walk_at "e0"),OD ha0 hf hm (hN r hm) (hw r hm) b hb⟩
end bW
namespace bW
open PySem PySem.Spec PyProof.Rows L2 VM EX
set_option maxHeartbeats 4000000
noncomputable abbrev EF:XK:=λ_ _ _=>False
noncomputable def calm (sp:Sp):Sp:=λvs H Q _=>sp vs H Q EF
theorem nM {P:Program}{w:World}{K:PySem.W.Frag}{mg:Str->Option Value}{base:Heap}{k:Nat}{f:Addr}{fd:FuncData}{ps:List Str}{sp:Sp}(F:aW P w K mg base (eE P w) k f fd ps sp):aW P w K mg base dG k f fd ps (calm sp):=
 ⟨λvs H Q _ h=>F.len vs H Q EF h,λA outer s H args us vs Q E hr he hb hv hs=>codeAny_mono (F.run A outer s H args us vs Q EF hr he hb hv hs) λr s' z=>by
  cases r with
  |ok v=>cases v<;>exact z
  |error e=>
   have z':eE P w outer H s EF e s':=z
   obtain⟨_,_,_,_,_,_,_,_,_,_,_,_,_,_,_,q⟩:=z'
   exact q.elim⟩
theorem ajU {z:Str}{g:TG}{tb:TS}{D:Ends}{σ:L2.St}{H:Hp}(Pv:Nat->L2.St->Hp->Prop)(h0:Pv 0 σ H)
  (hs:∀i y σ H,sgn z i=some y->Pv i σ H->g (.str y) σ H λσ2 H2=>tb {D with nx:=Pv (i+1),ct:=Pv (i+1),bk:=D.nx} σ2 H2)(hd:∀σ H,Pv z.length σ H->D.nx σ H):qw (Its z) g tb D σ H:=by
 refine⟨λi m σ H=>m=z.length - i/\i<=z.length/\Pv i σ H,⟨z.length,by simp,Nat.zero_le _,h0⟩,?_⟩
 rintro i m σ H ⟨rfl,hi,p⟩
 by_cases hlt:i<z.length
 .refine .inr ⟨hlt,Pv (i+1),λσ' H' p'=>⟨z.length - (i+1),by omega,rfl,hlt,p'⟩,λx H' y=>?_⟩
  obtain⟨e,y,e1,rfl⟩:=y
  subst e
  exact hs i y σ _ e1 p
 .have e:i=z.length:=by omega
  subst e
  exact .inl ⟨Nat.le_refl _,hd σ H p⟩
section
variable {C p dx nn ll:Addr}{R:Nat->Addr}{H H':Hp}{rooms names:List Str}
structure HN (C p dx nn ll:Addr)(rooms names:List Str)(H:Hp):Prop where
 ex:∃nums ls,cU H C p dx nn ll nums ls/\seenOf nums=rooms/\ls.map (·.1)=names/\∀(i:Nat) x,nums[i]? =some x->x.2=(i:Int)
theorem HN.grow (h:HN C p dx nn ll rooms names H)(k:Same H H'):HN C p dx nn ll rooms names H':=by
 obtain⟨nums,ls,a,b⟩:=h.ex
 exact⟨nums,ls,a.grow k,b⟩
theorem HN.ins (h:HN C p dx nn ll rooms names H):H p=some (.ins C dx [("numbers",.ref nn),("laid",.ref ll)]):=by
 obtain⟨nums,ls,a,_⟩:=h.ex
 exact a.ins
theorem HN.lst {a:Addr}{xs:List V}(h:HN C p dx nn ll rooms names H)(s:dw nn ll H H')(e:H a=some (.lst xs)):H' a=some (.lst xs):=by
 obtain⟨nums,ls,g,_⟩:=h.ex
 exact kZ g s e
noncomputable def cP (rooms:List Str)(rs:List Str):List Str:=rs.filter λr=>!decide (r∈rooms)
theorem Gm {nums:List (Str×Int)}(rs:List Str):newOf nums rs=cP (seenOf nums) rs:=by
 unfold newOf cP
 refine List.filter_congr λr _=>?_
 by_cases g:r∈seenOf nums
 .have:¬(cF r nums).isNone=true:=λz=>jl.mp z g
  rw[decide_eq_true g];exact Bool.eq_false_iff.mpr this
 .rw[decide_eq_false g];exact jl.mpr g
theorem HN.lay (h:HN C p dx nn ll rooms names H){nm a b:Str}{w l:Int}{Q:VK}{E:XK}(k1:bh nm)(k2:bh a)(k3:bh b)(hn:nm∉names)(hab:a≠b)(hw:1<=w)(hl:1<=l)(NP:names.length+1<=60)(Io:rooms.length+(cP rooms [a,b]).length<=40)
  (q:∀H',HN C p dx nn ll (rooms++cP rooms [a,b]) (names++[nm]) H'->dw nn ll H H'->Q .non H'):tZ C R [.ref p,.str nm,.str a,.str b,.int w,.int l] H Q E:=by
 obtain⟨nums,ls,hh,rfl,rfl,hi⟩:=h.ex
 have hsl:(seenOf nums).length=nums.length:=List.length_map ..
 have hll:(ls.map (·.1)).length=ls.length:=List.length_map ..
 rw[hsl] at Io
 rw[hll] at NP
 rw[<-Gm] at Io q
 have VJ:(newOf nums [a,b]).Nodup:=List.Pairwise.filter _ (by simp[hab])
 have fout:∀r∈newOf nums [a,b],r∉seenOf nums:=λr hr=>jl.mp (List.mem_filter.mp hr).2
 obtain⟨s1,s2⟩:=u9 VJ fout hi
 have mem:∀r,r∈[a,b]->r∈seenOf (jw nums (newOf nums [a,b])):=λr hr=>by
  rw[s1]
  by_cases g:r∈seenOf nums
  .exact List.mem_append.mpr (.inl g)
  .exact List.mem_append.mpr (.inr (List.mem_filter.mpr ⟨hr,jl.mpr g⟩))
 obtain⟨ia,ga,_⟩:=yP s2 (mem a (by simp))
 obtain⟨ib,gb,_⟩:=yP s2 (mem b (by simp))
 refine⟨p,dx,nn,ll,nums,ls,nm,a,b,w,l,true,true,true,rfl,hh,⟨k1.1.2,k2.1.2,k3.1.2⟩,⟨k1.1.1,k2.1.1,k3.1.1⟩,by omega,by omega,?_⟩
 rw[if_neg (by decide),jL hn,if_neg (by decide),if_neg (by rintro(z|z|z);exact hab z;omega;omega),if_neg (by omega)]
 refine⟨ia,ib,ga,gb,λH' h' st=>q H' ⟨_,_,h',s1,?_,s2⟩ st⟩
 rw[w5 hn,List.map_append];rfl
theorem HN.shut (h:HN C p dx nn ll rooms names H){nm:Str}{Q:VK}{E:XK}(k1:bh nm)(hn:nm∈names)
  (q:∀H',HN C p dx nn ll rooms (names.filter λx=>!decide (x=nm)) H'->dw nn ll H H'->Q .non H'):pW C R [.ref p,.str nm] H Q E:=by
 obtain⟨nums,ls,hh,rfl,rfl,hi⟩:=h.ex
 obtain⟨v,hv⟩:=mQ hn
 refine⟨p,dx,nn,ll,nums,ls,nm,rfl,hh,k1.1.2,?_⟩
 rw[hv]
 refine λH' h' st=>q H' ⟨_,_,h',rfl,?_,hi⟩ st
 unfold yD
 rw[List.filter_map];rfl
theorem HN.refuse (h:HN C p dx nn ll rooms names H){nm a b:Str}{w l:Int}{k:Nat}{b1 b2 b3:Bool}(hw:dI nm/\dI a/\dI b)(hn:cV nm b1/\cV a b2/\cV b b3)(hl:names.length<100)(hr:rooms.length<100)
  (hk:((b1 && b2 && b3)=false/\k=1)\/((b1 && b2 && b3)=true/\nm∈names/\k=2)\/((b1 && b2 && b3)=true/\nm∉names/\(a=b\/w<1\/l<1)/\k=0)\/((b1 && b2 && b3)=true/\nm∉names/\¬(a=b\/w<1\/l<1)/\(60<names.length+1\/40<rooms.length+(cP rooms [a,b]).length)/\k=3)):
  sH C R p (.lay nm a b w l) k H:=by
 obtain⟨nums,ls,hh,rfl,rfl,hi⟩:=h.ex
 have hsl:(seenOf nums).length=nums.length:=List.length_map ..
 have hll:(ls.map (·.1)).length=ls.length:=List.length_map ..
 refine⟨by rcases hk with g|g|g|g<;>omega,λQ E q=>⟨p,dx,nn,ll,nums,ls,nm,a,b,w,l,b1,b2,b3,rfl,hh,hw,hn,by omega,by omega,?_⟩⟩
 rcases hk with⟨g,rfl⟩|⟨g,g2,rfl⟩|⟨g,g2,g3,rfl⟩|⟨g,g2,g3,g4,rfl⟩
 .rw[if_pos g];exact q
 .obtain⟨v,gv⟩:=mQ g2
  rw[if_neg (by rw[g];decide),gv,if_pos (show(some v).isSome=true from rfl)];exact q
 .rw[if_neg (by rw[g];decide),jL g2,if_neg (by decide),if_pos g3];exact q
 .rw[if_neg (by rw[g];decide),jL g2,if_neg (by decide),if_neg g3,if_pos (by rw[hll,hsl] at g4;rw[Gm];exact g4)];exact q
end
end bW
namespace bW
open PySem PySem.Spec PyProof.Rows L2 VM
set_option maxHeartbeats 4000000
noncomputable def sg (c:Nat):Str:=⟨#[c]⟩
noncomputable def yS (y:Str):List Str:=((List.range 10).map λj=>sg (107+j)).map λz=>(y++z)++"qz"
noncomputable def jN (i:Nat):List Str:=((List.range i).map λk=>yS (sg (97+k))).flatten
noncomputable def full:List Str:=jN 8
theorem GZ (i:Nat):jN (i+1)=jN i++yS (sg (97+i)):=by
 unfold jN
 rw[List.range_succ,List.map_append,List.flatten_append]
 simp
theorem RV:full.length=80:=by decide +kernel
theorem vX:full.Nodup:=by decide +kernel
theorem Ks:(full.all λx=>(x.cps.toList.all λc=>decide (97<=c) && decide (c<=122)) && decide (1<=x.length) && decide (x.length<=12) && !near x)=true:=by decide +kernel
theorem oV:∀x∈full,bh x/\near x=false:=λx hx=>by
 have h:=List.all_eq_true.mp Ks x hx
 simp only[Bool.and_eq_true,decide_eq_true_eq,Bool.not_eq_true',List.all_eq_true] at h
 exact⟨vQ (λc hc=>h.1.1.1 c hc) h.1.1.2 h.1.2,h.2⟩
theorem Ku {i:Nat}(h:i<=8):∀x∈jN i,x∈full:=λx hx=>by
 unfold full jN at*
 obtain⟨l,hl,hx⟩:=List.mem_flatten.mp hx
 obtain⟨k,hk,rfl⟩:=List.mem_map.mp hl
 exact List.mem_flatten.mpr ⟨_,List.mem_map.mpr ⟨k,List.mem_range.mpr (by have:=List.mem_range.mp hk;omega),rfl⟩,hx⟩
noncomputable def p8 (z:Str)(h:((z.cps.toList.all λc=>decide (97<=c) && decide (c<=122)) && decide (1<=z.length) && decide (z.length<=12))=true):bh z:=by
 simp only[Bool.and_eq_true,decide_eq_true_eq,List.all_eq_true] at h
 exact vQ (λc hc=>h.1.1 c hc) h.1.2 h.2
theorem oW:bh "last":=p8 _ (by decide +kernel)
theorem vf:bh "way":=p8 _ (by decide +kernel)
theorem sJ:bh "path":=p8 _ (by decide +kernel)
theorem vY:bh "newone":=p8 _ (by decide +kernel)
theorem lD:bh "newtwo":=p8 _ (by decide +kernel)
theorem Iv:vd "Last":=jM (by decide +kernel) ⟨by decide +kernel,by decide +kernel,λx hx=>of_decide_eq_true (List.all_eq_true.mp (show((("Last":Str).cps.toList.all λc=>decide (c<16^8))=true) by decide +kernel) x hx)⟩ (by decide +kernel)
theorem nO:near "last"=false/\near "way"=false/\near "path"=false/\near "newone"=false/\near "newtwo"=false:=by decide +kernel
theorem vg:("last":Str)∉full/\("newone":Str)∉full/\("newtwo":Str)∉full:=by decide +kernel
theorem abr:tU "klmnopqrst"=(List.range 10).map λj=>PyData.str (sg (107+j)):=rfl
theorem Yu {i:Nat}{y:Str}(h:sgn "abcdefgh" i=some y):i<8/\y=sg (97+i):=by
  match i with
  |0|1|2|3|4|5|6|7=>exact⟨by decide,(Option.some.inj h).symm⟩
  |i+8=>
   exfalso
   have:(("abcdefgh":Str).cps)[i+8]? =none:=Array.getElem?_eq_none (by have:("abcdefgh":Str).cps.size=8:=by decide +kernel
                                                                       omega)
   unfold sgn at h
   rw[this] at h;cases h
noncomputable def Kv:VE:=v2 fZ (vN 3) (nF (gO (vC (.str "klmnopqrst"))) [none,some 4] (gN 0) jU (v2 jV (v2 jV (vN 1) (vN 0)) (vC (.str "qz"))))
theorem abt {x0 x1 x2 x5 x6:Option (Tg×PyData)}{y:Str}{acc:List Str}(hy:y.length=1)(hl:acc.length<=100):Kv [x0,x1,x2,some (.fr,cA acc),some (.fr,.str y),x5,x6]=some (.list ((acc++yS y).map .str)):=by
 unfold Kv cA
 walk_at "e0"
 have hit:gO (vC (.str "klmnopqrst")) [x0,x1,x2,some (.fr,.list (acc.map .str)),some (.fr,.str y),x5,x6]=some ((List.range 10).map λj=>PyData.str (sg (107+j))):=by
  unfold gO vC
  dsimp only
  rw[if_pos (by decide +kernel),abr]
 rw[hit]
 rw[qx rfl (dX (by simp))]
 rw[lu (f:=λd=>match d with|.str z=>.str ((y++z)++"qz")|d=>d)]
 .walk_at "e0"
  rw[jm (by simp;omega)]
  unfold yS
  rw[List.map_append,List.map_map,List.map_map,List.map_map]
  rfl
 .intro d hd
  obtain⟨j,hj,rfl⟩:=List.mem_map.mp hd
  refine⟨[some (.fr,.str (sg (107+j))),some (.fr,.str y)],by walk_at "e0",rfl,?_⟩
  have l1:(sg (107+j)).length=1:=rfl
  have l2:("qz":Str).length=2:=by decide +kernel
  walk_at "e0"
  rw[kY (by omega)]
  walk_at "e0"
  rw[kY (by rw[Iu];omega)]
noncomputable def VP:VE:=nF (nD (vF 3)) [none,some 2] (gN 0) (vB (v2 (zG true) (vN 0) (vN 1))) (vF 0)
theorem abu {x0 x1 x4 x5 x6:Option (Tg×PyData)}{seen ns:List Str}(hl:ns.length<=100):VP [x0,x1,some (.fr,cA seen),some (.fr,cA ns),x4,x5,x6]=some (.list ((cP seen ns).map .str)):=by
 unfold VP cA
 walk_at "e0"
 rw[qx rfl (dX (by simp;omega))]
 rw[yj (p:=λd=>match d with|.str z=>!decide (z∈seen)|_=>true) (f:=λd=>d)]
 .walk_at "e0"
  unfold cP
  rw[List.filter_map,List.map_map]
  rfl
 .intro d hd
  obtain⟨z,hz,rfl⟩:=List.mem_map.mp hd
  refine⟨[some (.fr,.str z),some (.fr,.list (seen.map .str))],by walk_at "e0",?_,λ_=>by walk_at "e0"⟩
  walk_at "e0"
  rw[zR]
  walk_at "e0"
  have:(seen.any λy=>y==z)=decide (z∈seen):=by
   by_cases g:z∈seen
   .rw[decide_eq_true g];exact vV.mpr g
   .rw[decide_eq_false g];exact Bool.eq_false_iff.mpr λh=>g (vV.mp h)
  rw[this]
theorem Gn (xs:List Str)(k:Nat)(h:k<=xs.length):lF (xs.map V.str) none (some (k:Int))=(xs.take k).map V.str:=by
 unfold lF
 rw[oU (k:Int) (by omega),List.length_map]
 have e:min (k:Int).toNat xs.length=k:=by omega
 rw[e]
 show((xs.map V.str).drop 0).take (k - 0)=_
 rw[List.drop_zero,Nat.sub_zero,List.map_take]
theorem yU {A B:List Str}{x:Str}(h1:x∉A)(h2:x∉B):(A++x::B).filter (λy=>!decide (y=x))=A++B:=by
 rw[List.filter_append,List.filter_cons,if_neg (by simp)]
 have keep:∀{l:List Str},x∉l->l.filter (λy=>!decide (y=x))=l:=λ{l} h=>List.filter_eq_self.mpr λy hy=>by
  simp only[Bool.not_eq_true',decide_eq_false_iff_not]
  exact λz=>h (z▸hy)
 rw[keep h1,keep h2]
theorem zU {rooms:List Str}{a b:Str}(ha:a∈rooms)(hb:b∈rooms):cP rooms [a,b]=[]:=by
 unfold cP;simp[ha,hb]
theorem xq {rooms:List Str}{a b:Str}(ha:a∈rooms)(hb:b∉rooms):cP rooms [a,b]=[b]:=by
 unfold cP;simp[ha,hb]
theorem Gp {rooms:List Str}{a b:Str}(ha:a∉rooms)(hb:b∈rooms):cP rooms [a,b]=[a]:=by
 unfold cP;simp[ha,hb]
theorem RX {rooms:List Str}{a b:Str}(ha:a∉rooms)(hb:b∉rooms):cP rooms [a,b]=[a,b]:=by
 unfold cP;simp[ha,hb]
theorem RZ {seen ns:List Str}(hn:ns.Nodup):ns.length<=(cP seen ns).length+seen.length:=by
 have e:ns.length=(cP seen ns).length+(ns.filter λr=>decide (r∈seen)).length:=by
  unfold cP
  clear hn
  induction ns with
  |nil=>rfl
  |cons x xs ih=>
   rw[List.filter_cons,List.filter_cons]
   by_cases g:x∈seen
   .rw[if_neg (by simp[g]),if_pos (by simp[g]),List.length_cons,List.length_cons];omega
   .rw[if_pos (by simp[g]),if_neg (by simp[g]),List.length_cons,List.length_cons];omega
 have:=pZ (xs:=ns.filter λr=>decide (r∈seen)) (ys:=seen) (List.Pairwise.filter _ hn) λx hx=>of_decide_eq_true (List.mem_filter.mp hx).2
 omega
end bW
namespace bW
open PySem PySem.Spec PyProof.Rows L2 VM EX
set_option maxHeartbeats 4000000
section
variable {K:PySem.W.Frag}{C p dx nn ll:Addr}{R:Nat->Addr}{rooms names:List Str}{H:Hp}{σ:L2.St}
theorem Yv {tn ta tb:TE}{nm a b:Str}{w l:Int}{Z:VK}(hn:∀Z:VK,Z (.str nm) H->tn σ H Z)(ha:∀Z:VK,Z (.str a) H->ta σ H Z)(hb:∀Z:VK,Z (.str b) H->tb σ H Z)(z:∀t H',Same H H'->bM K H' t (aX.vals (.lay nm a b w l))->Z (.ref t) H'):
  wO (aN (tC (.str "lay")) (aN tn (aN ta (aN tb (aN (tC (.int w)) (aN (tC (.int l)) bA)))))) σ H Z:=by
 unfold wO aN bA tC
 exact hn _ (ha _ (hb _ ⟨Nat.le_of_lt (dX (by simp)),λt ht=>z t _ (aL ht) (.inl (.inl ao))⟩))
theorem nP {tn ta tb:TE}{nm a b:Str}{w l:Int}{b1 b2 b3:Bool}{tr:TS}{D:Ends}{E E':XK}(k:Nat)(h:HN C p dx nn ll rooms names H)(hp:σ[0]? =some (some (.ref p)))(hn:∀Z:VK,Z (.str nm) H->tn σ H Z)(ha:∀Z:VK,Z (.str a) H->ta σ H Z)(hb:∀Z:VK,Z (.str b) H->tb σ H Z)
  (hw:dI nm/\dI a/\dI b)(hi:cV nm b1/\cV a b2/\cV b b3)(hl:names.length<100)(hr:rooms.length<100)
  (hk:((b1 && b2 && b3)=false/\k=1)\/((b1 && b2 && b3)=true/\nm∈names/\k=2)\/((b1 && b2 && b3)=true/\nm∉names/\(a=b\/w<1\/l<1)/\k=0)\/((b1 && b2 && b3)=true/\nm∉names/\¬(a=b\/w<1\/l<1)/\(60<names.length+1\/40<rooms.length+(cP rooms [a,b]).length)/\k=3))
  (q:∀H',Same H H'->D.nx σ H'):
  d8 (uE (iB (fU (u0 R) [] E (aN (fU (mK K C R) [] E' (aN (vR 0) (aN (wO (aN (tC (.str "lay")) (aN tn (aN ta (aN tb (aN (tC (.int w)) (aN (tC (.int l)) bA))))))) bA))) (aN (tC (.int (k:Int))) bA))))) tr dR D σ H:=by
 have pX:k<=6:=by rcases hk with g|g|g|g<;>omega
 unfold d8 uE iB
 refine yQ (k:=k) pX (λZ z=>?_) (λ_ _ z=>z) λH1 s1=>?_
 .unfold fU
  unfold aN bA
  refine aB hp (Yv (K:=K) hn ha hb λt H2 s2 ht=>⟨p,dx,nn,ll,t,_,k,rfl,(h.grow s2).ins,ht,(h.grow s2).refuse hw hi hl hr hk,λe gM H3 s3 r=>z e gM H3 (s2.trans s3) r⟩)
 .show(if(!true)=true then _ else _)
  rw[if_neg (by simp)]
  exact q H1 s1
theorem yV {tn ta tb:TE}{nm a b:Str}{Q:VK}{E:XK}(h:HN C p dx nn ll rooms names H)(hp:σ[0]? =some (some (.ref p)))(hn:∀Z:VK,Z (.str nm) H->tn σ H Z)(ha:∀Z:VK,Z (.str a) H->ta σ H Z)(hb:∀Z:VK,Z (.str b) H->tb σ H Z)
  (k1:bh nm)(k2:bh a)(k3:bh b)(ho:nm∉names)(hab:a≠b)(NP:names.length+1<=60)(Io:rooms.length+(cP rooms [a,b]).length<=40)
  (q:∀H',HN C p dx nn ll (rooms++cP rooms [a,b]) (names++[nm]) H'->dw nn ll H H'->Q .non H'):
  jA C "lay" (calm (tZ C R)) [] E (vR 0) (aN tn (aN ta (aN tb (aN (tC (.int 1)) (aN (tC (.int 1)) bA))))) σ H Q:=by
 unfold jA
 refine aB hp ⟨p,dx,_,rfl,h.ins,rfl,?_⟩
 unfold aN bA tC
 exact hn _ (ha _ (hb _ (h.lay k1 k2 k3 ho hab (by decide) (by decide) NP Io q)))
theorem abv {t:TE}{tr:TS}{D:Ends}(h:∀Z:VK,(∀H',dw nn ll H H'->HN C p dx nn ll rooms names H'->Z .non H')->t σ H Z)(q:∀H',dw nn ll H H'->HN C p dx nn ll rooms names H'->D.nx σ H'):d8 (iB (dh Jw t (tC .non))) tr dR D σ H:=by
 unfold d8 iB dh tC
 refine h _ λH' st hn=>?_
 show(if false=true then tr D σ H' else dR D σ H')
 rw[if_neg (by decide)]
 exact q H' st hn
theorem abw {t:TE}{Q:VK}(h:∀Z:VK,(∀H',Z .non H')->t σ H Z)(q:∀H',Q (.bl true) H'):dh Zz t (tC .non) σ H Q:=by
 unfold dh tC
 exact h _ λH'=>q H'
theorem Iw {tn:TE}{nm:Str}{Q:VK}{E:XK}(h:HN C p dx nn ll rooms names H)(hp:σ[0]? =some (some (.ref p)))(hn:∀Z:VK,Z (.str nm) H->tn σ H Z)(k1:bh nm)(ho:nm∈names)
  (q:∀H',HN C p dx nn ll rooms (names.filter λx=>!decide (x=nm)) H'->dw nn ll H H'->Q .non H'):
  jA C "shut" (calm (pW C R)) [] E (vR 0) (aN tn bA) σ H Q:=by
 unfold jA
 refine aB hp ⟨p,dx,_,rfl,h.ins,rfl,?_⟩
 unfold aN bA
 exact hn _ (h.shut k1 ho q)
theorem Gq {te:TE}{i:Nat}{a:Addr}{xs:List Str}{n:Nat}{Q:VK}(ei:σ[i]? =some (some (.ref a)))(hx:H a=some (.lst (xs.map V.str)))(ht:∀Z:VK,Z (.int (n:Int)) H->te σ H Z)(hn:n<=xs.length)(q:∀z,H z=none->Q (.ref z) (upd H z (.lst ((xs.take n).map V.str)))):
  Dr (Qg K) (vR i) oH (sZ te) σ H Q:=by
 unfold Dr oH sZ
 refine aB ei (ht _ ⟨_,rfl,a,_,rfl,bQ.of hx,λz hz=>?_⟩)
 rw[Gn xs n hn]
 exact q z hz
theorem Yw {t0 te:TE}{xs:List Str}{n:Nat}{Q:VK}(h0:∀Z:VK,(∀a H',Same H H'->H' a=some (.lst (xs.map V.str))->Z (.ref a) H')->t0 σ H Z)(ht:∀(H':Hp) (Z:VK),Same H H'->Z (.int (n:Int)) H'->te σ H' Z)(hn:n<=xs.length)(q:∀z H',Same H H'->H' z=some (.lst ((xs.take n).map V.str))->Q (.ref z) H'):
  Dr (Qg K) t0 oH (sZ te) σ H Q:=by
 unfold Dr oH sZ
 refine h0 _ λa H1 s1 ha=>ht H1 _ s1 ⟨_,rfl,a,_,rfl,bQ.of ha,λz hz=>?_⟩
 rw[Gn xs n hn]
 exact q z _ (s1.trans (aL hz)) ao
theorem zV {j:Nat}{d:Addr}{ys:List V}{m:Int}{n:Nat}{Z:VK}(ej:σ[j]? =some (some (.ref d)))(hy:H d=some (.lst ys))(e:m - (ys.length:Int)=(n:Int))(z:Z (.int (n:Int)) H):dh (rM λi j=>V.int (i - j)) (tC (.int m)) (nq (Ck K) (aN (vR j) bA)) σ H Z:=by
 unfold dh tC nq aN bA
 refine aB ej ⟨ys,.inl (bQ.of hy),?_⟩
 show Z (.int (m - (ys.length:Int))) H
 rw[e];exact z
theorem G3 {j:Nat}{d:Addr}{ys:List V}{m:Int}{n:Nat}{Z:VK}(ej:σ[j]? =some (some (.ref d)))(hy:H d=some (.lst ys))(e:(ys.length:Int) - m=(n:Int))(z:Z (.int (n:Int)) H):dh (rM λi j=>V.int (i - j)) (nq (Ck K) (aN (vR j) bA)) (tC (.int m)) σ H Z:=by
 unfold dh tC nq aN bA
 refine aB ej ⟨ys,.inl (bQ.of hy),?_⟩
 show Z (.int ((ys.length:Int) - m)) H
 rw[e];exact z
theorem zW {te:TE}{g:TG}{tb:TS}{D:Ends}{xs:List Str}(ht:∀Z:VK,(∀z,H z=none->Z (.ref z) (upd H z (.lst (xs.map V.str))))->te σ H Z)
  (q:∀z H',Same H H'->H z=none->H' z=some (.lst (xs.map V.str))->qw (wg K z) g tb D σ H'):Dh (sW K te) g tb D σ H:=by
 rw[mj]
 unfold sW
 exact ht _ λz hz=>⟨z,rfl,⟨_,bQ.of ao⟩,q z _ (aL hz) hz ao⟩
structure Lists (D sA a:Addr)(rows:List V)(seen:List Str)(H:Hp):Prop where
 rows:H D=some (.lst rows)
 seen:H sA=some (.lst (seen.map V.str))
 full:H a=some (.lst (full.map V.str))
theorem Lists.grow {D sA a:Addr}{rows:List V}{seen:List Str}{H H':Hp}(h:Lists D sA a rows seen H)(k:Same H H'):Lists D sA a rows seen H':=⟨k _ _ h.rows,k _ _ h.seen,k _ _ h.full⟩
theorem Lists.stay {D sA a:Addr}{rows:List V}{seen:List Str}{H H':Hp}(h:Lists D sA a rows seen H)(g:HN C p dx nn ll rooms names H)(k:dw nn ll H H'):Lists D sA a rows seen H':=⟨g.lst k h.rows,g.lst k h.seen,g.lst k h.full⟩
end
end bW
namespace bW
open PySem PySem.Spec PyProof.Rows L2 VM EX
set_option maxHeartbeats 4000000
section
variable {P:Program}{w:World}{K:PySem.W.Frag}{mg:Str->Option Value}{base:Heap}{C:Addr}{R:Nat->Addr}
structure OJ (P:Program)(w:World)(K:PySem.W.Frag)(mg:Str->Option Value)(base:Heap)(C:Addr)(lv:Nat)(m:Str)(ps:List Str)(sp:Sp):Prop where
 ex:∃f fd,aW P w K mg base dG lv f fd ps sp/\Meth K C m f/\Binds K fd ps []
noncomputable def Gs (C:Addr)(R:Nat->Addr):Sp:=λvs H Q _=>∃p dx nn ll D sA rows names s0 s1 rest,vs=[.ref p,.ref D,.ref sA]/\HN C p dx nn ll (s0::s1::rest) names H/\H D=some (.lst rows)/\rows.length=names.length/\H sA=some (.lst ((s0::s1::rest).map V.str))/\(names.length<=8/\rest.length<=3)/\(s0::s1::rest).Nodup/\(∀x∈s0::s1::rest,bh x/\near x=true)/\(∀x∈names,near x=true)/\∀H',Q (.bl true) H'
theorem Iz:bF ["_law_hall","_law_held","_law_seen","_law_names","_law_one","_law_name","_law_more"] ["_law_hall","_law_held","_law_seen"] (aj (top 35)):=⟨rfl,rfl,rfl,by decide +kernel,rfl,by decide +kernel,by decide +kernel⟩
theorem Yx {f:Addr}{fd:FuncData}(F:dB K "_law_full" "_law_full" (top 35) f fd)(B:Bl mg)(KT:kW K)(c:Cl K C)(Ml:Ms P w K mg base C 3 "lay" ["self","name","a","b","width","length"] (tZ C R))(Msh:Ms P w K mg base C 2 "shut" ["self","name"] (pW C R))(Mr:OJ P w K mg base C 1 "rooms" ["self"] (mJ C))
  (cQ:dM P w K mg base 5 "_law_caught" ["_law_hall","_law_deed_here"] (mK K C R))(cZ:dM P w K mg base 2 "_law_is" ["_law_caught_here","_law_at"] (u0 R)):aW P w K mg base dG 6 f fd ["_law_hall","_law_held","_law_seen"] (Gs C R):=by
 have nd:=Iz.nd
 have vt:=(show(["_law_hall","_law_held","_law_seen","_law_names","_law_one","_law_name","_law_more"]:List Str).all (λx=>dW (aj (top 35)) x && plain x)=true by decide +kernel)
 obtain⟨f3,fd3,F3,m3,b3⟩:=Ml.ex
 obtain⟨f2,fd2,F2,m2,b2⟩:=Msh.ex
 obtain⟨f7,Vv,F7,m7,b7⟩:=Mr.ex
 refine dB.ok (k:=5) F Iz (λvs H Q E h=>by obtain⟨_,_,_,_,_,_,_,_,_,_,_,rfl,_⟩:=h;rfl) λcdv A outer s H vs Q E hr hsp=>?_
 refine⟨_,(aH (fV (i:=3) nd rfl (lo (sc:=aj (top 35)) (by decide +kernel)) (ni aF))
  (aH (jD PassesOwn.never rfl (M9 bV) (aO (i:=4) nd rfl (lo (sc:=aj (top 35)) (by decide +kernel))) (aM (bI (dCat (dN (pV vt 3)) (nm (HD (vq (te:=tV K RS _) (tc:=gR K _) (g:=rQ K _ _) (N':=["_law_other","_law_one"]) (cap:=[none,some 4]) ["_law_hall","_law_held","_law_seen","_law_names","_law_one","_law_name","_law_more"] (aj (top 35)) rfl (by decide +kernel) rfl rfl (itS (sw (eV (by decide +kernel)))) (λ_ _ _ _ _=>(dZ (Aw (i:=0) (show(["_law_other","_law_one"]:List Str).Nodup by decide +kernel) (by decide +kernel)))) (λ_ _ _ _ _=>HB) (λ_ _ _ _ _=>(bK iZ tR (sw (bK iZ tR (mw (dN (lH (by decide +kernel) 1))) (mw (dN (lH (by decide +kernel) 0))))) (sw (eV (by decide +kernel))))))))) (aO (i:=3) nd rfl (lo (sc:=aj (top 35)) (by decide +kernel))))))
  (aH (jD PassesOwn.never rfl (lZ (jc oK (pV vt 3) oJ (jo (iK qO au (bZ jZ (gl (sc:=aj (top 35)) (by decide +kernel)) B.len PySem.boot_len (ak (pV vt 1) aF)))))) (aO (i:=5) nd rfl (lo (sc:=aj (top 35)) (by decide +kernel))) (aM (fK (lq (pV vt 0) c.cl m3 (nM F3) (hr.mono (by decide)) b3 .nil jB (ak (pV vt 5) (ak (bB gY (pV vt 2) au) (ak (bB gY (pV vt 2) au) (ak au (ak au aF)))))))))
  (aH (cM (iM (rN (aZ cZ (hr.mono (by decide)) (gl (sc:=aj (top 35)) (by decide +kernel)) (ak (aZ cQ hr (gl (sc:=aj (top 35)) (by decide +kernel)) (ak (pV vt 0) (ak (iQ (ak bV (ak bV (ak (bB gY (pV vt 2) au) (ak (bB gY (pV vt 2) au) (ak au (ak au aF))))))) aF))) (ak au aF))))) (aM (cN iY)) bR)
  (aH (cM (iM (rN (aZ cZ (hr.mono (by decide)) (gl (sc:=aj (top 35)) (by decide +kernel)) (ak (aZ cQ hr (gl (sc:=aj (top 35)) (by decide +kernel)) (ak (pV vt 0) (ak (iQ (ak bV (ak (bB gY (pV vt 3) au) (ak (bB gY (pV vt 2) au) (ak (bB gY (pV vt 2) au) (ak au (ak au aF))))))) aF))) (ak au aF))))) (aM (cN iY)) bR)
  (aH (cM (iM (rN (aZ cZ (hr.mono (by decide)) (gl (sc:=aj (top 35)) (by decide +kernel)) (ak (aZ cQ hr (gl (sc:=aj (top 35)) (by decide +kernel)) (ak (pV vt 0) (ak (iQ (ak bV (ak bV (ak (bB gY (pV vt 2) au) (ak (bB gY (pV vt 2) au) (ak au (ak au aF))))))) aF))) (ak au aF))))) (aM (cN iY)) bR)
  (aH (cM (iM (rN (aZ cZ (hr.mono (by decide)) (gl (sc:=aj (top 35)) (by decide +kernel)) (ak (aZ cQ hr (gl (sc:=aj (top 35)) (by decide +kernel)) (ak (pV vt 0) (ak (iQ (ak bV (ak bV (ak (bB gY (pV vt 2) au) (ak (bB gY (pV vt 2) au) (ak au (ak au aF))))))) aF))) (ak au aF))))) (aM (cN iY)) bR)
  (aH (cM (iM (rN (aZ cZ (hr.mono (by decide)) (gl (sc:=aj (top 35)) (by decide +kernel)) (ak (aZ cQ hr (gl (sc:=aj (top 35)) (by decide +kernel)) (ak (pV vt 0) (ak (iQ (ak bV (ak bV (ak (bB gY (pV vt 2) au) (ak (bB gY (pV vt 2) au) (ak au (ak au aF))))))) aF))) (ak au aF))))) (aM (cN iY)) bR)
  (aH (jD PassesOwn.never rfl (lZ (jc oK (pV vt 3) oJ (jo (iK qO au (bZ jZ (gl (sc:=aj (top 35)) (by decide +kernel)) B.len PySem.boot_len (ak (pV vt 1) aF)))))) (aO (i:=5) nd rfl (lo (sc:=aj (top 35)) (by decide +kernel))) (aM (fK (lq (pV vt 0) c.cl m2 (nM F2) (hr.mono (by decide)) b2 .nil jB (ak (pV vt 5) aF)))))
  (aH (fV (i:=6) nd rfl (lo (sc:=aj (top 35)) (by decide +kernel)) (jc oK (HD (vq (te:=tV K RS _) (tc:=gR K _) (g:=rQ K _ _) (N':=["_law_name","_law_seen"]) (cap:=[none,some 2]) ["_law_hall","_law_held","_law_seen","_law_names","_law_one","_law_name","_law_more"] (aj (top 35)) rfl (by decide +kernel) rfl rfl (Ve (dF (pV vt 3))) (λ_ _ _ _ _=>(dZ (Aw (i:=0) (show(["_law_name","_law_seen"]:List Str).Nodup by decide +kernel) (by decide +kernel)))) (λ_ _ _ _ _=>(Hr (j4 o8 aaI (mw (dN (lH (by decide +kernel) 0))) (mw (dN (lH (by decide +kernel) 1)))))) (λ_ _ _ _ _=>(dF (lH (by decide +kernel) 0))))) oJ (jo (iK qO au (bZ jZ (gl (sc:=aj (top 35)) (by decide +kernel)) B.len PySem.boot_len (ak (pV vt 2) aF))))))
  (aH (jD PassesOwn.never rfl (lZ (jc oK (pV vt 6) oJ (jo (iK qO (bZ jZ (gl (sc:=aj (top 35)) (by decide +kernel)) B.len PySem.boot_len (ak (pV vt 6) aF)) au)))) (aO (i:=5) nd rfl (lo (sc:=aj (top 35)) (by decide +kernel))) (aH (fK (lq (pV vt 0) c.cl m3 (nM F3) (hr.mono (by decide)) b3 .nil jB (ak bV (ak (bB gY (pV vt 2) au) (ak (pV vt 5) (ak au (ak au aF))))))) (aM (fK (lq (pV vt 0) c.cl m2 (nM F2) (hr.mono (by decide)) b2 .nil jB (ak bV aF))))))
  (aH (cM (iM (rN (aZ cZ (hr.mono (by decide)) (gl (sc:=aj (top 35)) (by decide +kernel)) (ak (aZ cQ hr (gl (sc:=aj (top 35)) (by decide +kernel)) (ak (pV vt 0) (ak (iQ (ak bV (ak bV (ak bV (ak bV (ak au (ak au aF))))))) aF))) (ak au aF))))) (aM (cN iY)) bR)
  (aH (cM (iW U4 (lq (pV vt 0) c.cl m3 (nM F3) (hr.mono (by decide)) b3 .nil jB (ak bV (ak bV (ak (bB gY (pV vt 2) au) (ak au (ak au aF)))))) oX) (aM (cN iY)) bR)
  (aH (cM (iM (rN (aZ cZ (hr.mono (by decide)) (gl (sc:=aj (top 35)) (by decide +kernel)) (ak (aZ cQ hr (gl (sc:=aj (top 35)) (by decide +kernel)) (ak (pV vt 0) (ak (iQ (ak bV (ak bV (ak (bB gY (pV vt 2) au) (ak bV (ak au (ak au aF))))))) aF))) (ak au aF))))) (aM (cN iY)) bR)
  (aH (cM (iM (rN (aZ cZ (hr.mono (by decide)) (gl (sc:=aj (top 35)) (by decide +kernel)) (ak (aZ cQ hr (gl (sc:=aj (top 35)) (by decide +kernel)) (ak (pV vt 0) (ak (iQ (ak bV (ak bV (ak bV (ak bV (ak au (ak au aF))))))) aF))) (ak au aF))))) (aM (cN iY)) bR)
  (aM (cN (afV (ZD jz (bZ jZ (gl (sc:=aj (top 35)) (by decide +kernel)) B.len PySem.boot_len (ak (sY (pV vt 0) c.cl m7 F7 (hr.mono (by decide)) b7 .nil jB) aF)) au) (xO (ZD ai7 (lq (pV vt 0) c.cl m3 (nM F3) (hr.mono (by decide)) b3 .nil jB (ak bV (ak bV (ak (bB gY (pV vt 2) au) (ak au (ak au aF)))))) oX)))))))))))))))))))),?_⟩
 obtain⟨p,dx,nn,ll,D,sA,rows,names,s0,s1,rest,rfl,hn,hD,hrl,hs,⟨hn8,hr3⟩,hnd,hok,ajV,hq⟩:=hsp
 have i0:cT ((s0::s1::rest).map V.str) 0=some (.str s0):=dz (j:=0) rfl
 have i1:cT ((s0::s1::rest).map V.str) 1=some (.str s1):=dz (j:=1) rfl
 have k0:=(hok s0 (List.mem_cons_self ..)).1
 have k1:=(hok s1 (List.mem_cons_of_mem _ (List.mem_cons_self ..))).1
 have m0:s0∈s0::s1::rest:=List.mem_cons_self ..
 have m1:s1∈s0::s1::rest:=List.mem_cons_of_mem _ (List.mem_cons_self ..)
 have hab:s0≠s1:=λz=>(List.nodup_cons.mp hnd).1 (by rw[z];exact List.mem_cons_self ..)
 have hsl:(s0::s1::rest).length=rest.length+2:=rfl
 have fout:∀{x:Str},near x=false->x∉names:=λh=>vW ajV h
 have ajW:∀{x:Str},near x=false->x∉s0::s1::rest:=λh=>vW (λy hy=>(hok y hy).2) h
 have hcan:∀x∈s0::s1::rest,(PyData.str x).canLay0=true:=λx hx=>(hok x hx).1.2
 generalize yW:s0::s1::rest=seen at*
 unfold gA g8 zm fG
 show _<=_/\_
 refine⟨Nat.zero_le _,λa0 ha0=>?_⟩
 have q1:=aL (o:=.lst []) ha0
 have hl0:upd H a0 (.lst []) a0=some (.lst []):=ao
 generalize upd H a0 (.lst [])=H1 at q1 hl0 ⊢
 try dsimp only
 rw[mj]
 unfold aaJ
 refine⟨_,rfl,by decide +kernel,?_⟩
 refine ajU (z:="abcdefgh") (λi σ' H'=>∃a y4,σ'=[some (.ref p),some (.ref D),some (.ref sA),some (.ref a),y4,none,none]/\Same H1 H'/\H' a=some (.lst ((jN i).map V.str))) ⟨a0,none,rfl,Same.refl _,hl0⟩ ?_ ?_
 .rintro i y σ' H' hy ⟨a,y4,rfl,sm,ha⟩
  obtain⟨hi,rfl⟩:=Yu hy
  have hin:∀x∈jN i,(PyData.str x).canLay0=true:=λx hx=>((oV x (Ku (by omega) x hx)).1).2
  have hlen:(jN i).length<=100:=by
   have:∀j,j<8->(jN j).length<=100:=by decide +kernel
   exact this i hi
  have hsc:(PyData.str (sg (97+i))).canLay0=true:=by
   have:∀j,j<8->(PyData.str (sg (97+j))).canLay0=true:=by decide +kernel
   exact this i hi
  show tV K RN Kv [some (.ref p),some (.ref D),some (.ref sA),some (.ref a),some (.str (sg (97+i))),none,none] H' _
  refine VM.yN (S:=[none,none,none,some (.fr,cA (jN i)),some (.fr,.str (sg (97+i))),none,none]) ⟨_,_,rfl,_,_,rfl,_,_,rfl,_,_,rfl,rfl,jK ha hin,_,_,rfl,rfl,⟨rfl,hsc⟩,_,_,rfl,_,_,rfl,rfl⟩ (abt rfl hlen) λa' xs H2 s2 hn' hl hx=>?_
  rw[oO hx] at hl
  exact⟨a',_,rfl,sm.trans s2,by rw[GZ];exact hl⟩
 rintro σ' H2 ⟨a,y4,rfl,sm,ha⟩
 have ha:H2 a=some (.lst (full.map V.str)):=ha
 have hn2:=hn.grow (q1.trans sm)
 have lz2:Lists D sA a rows seen H2:=⟨(q1.trans sm) _ _ hD,(q1.trans sm) _ _ hs,ha⟩
 have p7:∀{σ:L2.St}{H':Hp} {Z:VK},σ[2]? =some (some (.ref sA))->Lists D sA a rows seen H'->Z (.str s0) H'->dh (qt K) (vR 2) (tC (.int 0)) σ H' Z:=λe l z=>kE e l.seen (λR r=>r) i0 z
 have IK:∀{σ:L2.St}{H':Hp} {Z:VK},σ[2]? =some (some (.ref sA))->Lists D sA a rows seen H'->Z (.str s1) H'->dh (qt K) (vR 2) (tC (.int 1)) σ H' Z:=λe l z=>kE e l.seen (λR r=>r) i1 z
 clear sm q1 hl0 ha0 hD hs hn
 have e60:(60:Int) - (rows.length:Int)=((60 - names.length:Nat):Int):=by omega
 have hfl:=RV
 have hnf:60 - names.length<=full.length:=by omega
 have htl:(full.take (60 - names.length)).length=60 - names.length:=by rw[List.length_take];omega
 generalize hN:60 - names.length=n at e60 hnf htl
 try dsimp only
 refine zW (xs:=full.take n) (λZ z=>Gq rfl lz2.full (λZ z=>zV rfl lz2.rows e60 z) hnf z) λcz H3 q3 hcz hz3=>?_
 refine forL (xs:=(full.take n).map V.str) (λi σ' H'=>(∃y4 y5,σ'=[some (.ref p),some (.ref D),some (.ref sA),some (.ref a),y4,y5,none])/\HN C p dx nn ll seen (names++full.take i) H'/\Lists D sA a rows seen H'/\H' cz=some (.lst ((full.take n).map V.str))) ⟨⟨_,_,rfl⟩,by rw[List.take_zero,List.append_nil];exact hn2.grow q3,lz2.grow q3,hz3⟩ (λi σ' H' _ h=>bQ.of h.2.2.2) ?_ ?_
 .rintro i v σ' Ha hv ⟨⟨y4,y5,rfl⟩,hn',l',hz'⟩
  rw[List.getElem?_map] at hv
  obtain⟨x,hx,rfl⟩:=Option.map_eq_some_iff.mp hv
  have hi:i<n:=by
   have:=(List.getElem?_eq_some_iff.mp hx).1
   omega
  rw[List.getElem?_take,if_pos hi] at hx
  have hxm:x∈full:=List.mem_of_getElem? hx
  have Gu:=oV x hxm
  have htk:full.take (i+1)=full.take i++[x]:=by rw[List.take_succ,hx];rfl
  have hxn:x∉full.take i:=λz=>by
   have g:=vX.sublist (List.take_sublist (i+1) full)
   rw[htk] at g
   exact(List.nodup_append.mp g).2.2 x z x (List.mem_singleton.mpr rfl) rfl
  have hlt:(full.take i).length=i:=by rw[List.length_take];omega
  show gq _ _ [some (.ref p),some (.ref D),some (.ref sA),some (.ref a),y4,some (.str x),none] Ha
  unfold gq
  refine yV hn' rfl (λZ z=>aB (v:=.str x) rfl z) (λZ z=>p7 rfl l' z) (λZ z=>IK rfl l' z) Gu.1 k0 k1 (λz=>?_) hab (by rw[List.length_append,hlt];omega) (by rw[zU m0 m1,List.length_nil];omega) λH' h' st=>?_
  .rcases List.mem_append.mp z with g|g
   .exact fout Gu.2 g
   .exact hxn g
  .rw[zU m0 m1,List.append_nil,List.append_assoc,←htk] at h'
   exact⟨⟨_,_,rfl⟩,h',l'.stay hn' st,hn'.lst st hz'⟩
 rintro σ' H4 ⟨⟨y4',y5',rfl⟩,VR,l4,-⟩
 rw[List.length_map,htl] at VR
 have h52:52<=n:=by omega
 have hx0:full[0]? =some full[0]:=by rw[List.getElem?_eq_getElem]
 have abB:full[0]∈full:=List.getElem_mem _
 have abC:full[0]∈full.take n:=List.mem_of_getElem? (i:=0) (by rw[List.getElem?_take,if_pos (by omega)];exact hx0)
 generalize hf0:full[0]=x0 at hx0 abB abC
 have abD:=oV x0 abB
 have j0:cT (full.map V.str) 0=some (.str x0):=dz (j:=0) (by rw[List.getElem?_map,hx0];rfl)
 have hln:(names++full.take n).length=60:=by rw[List.length_append,htl];omega
 have vZ:("last":Str)∉names++full.take n:=λz=>by
  rcases List.mem_append.mp z with g|g
  .exact fout nO.1 g
  .exact vg.1 (List.mem_of_mem_take g)
 have Gv:seen.length<100:=by omega
 try dsimp only
 refine nP (nm:="last") (a:=s0) (b:=s1) (b1:=true) (b2:=true) (b3:=true) 3 VR rfl (λZ z=>z) (λZ z=>p7 rfl l4 z) (λZ z=>IK rfl l4 z) ⟨oW.1.2,k0.1.2,k1.1.2⟩ ⟨oW.1.1,k0.1.1,k1.1.1⟩ (by omega) Gv (.inr (.inr (.inr ⟨rfl,vZ,by rintro(z|z|z);exact hab z;exact absurd z (by decide);exact absurd z (by decide),.inl (by omega),rfl⟩))) λH5 q5=>?_
 have V0:=VR.grow q5
 have l5:=l4.grow q5
 clear VR l4
 try dsimp only
 refine nP (nm:=x0) (a:=s0) (b:=s1) (b1:=true) (b2:=true) (b3:=true) 2 V0 rfl (λZ z=>kE rfl l5.full (λR r=>r) j0 z) (λZ z=>p7 rfl l5 z) (λZ z=>IK rfl l5 z) ⟨abD.1.1.2,k0.1.2,k1.1.2⟩ ⟨abD.1.1.1,k0.1.1,k1.1.1⟩ (by omega) Gv (.inr (.inl ⟨rfl,List.mem_append.mpr (.inr abC),rfl⟩)) λH6 q6=>?_
 have hn6:=V0.grow q6
 have l6:=l5.grow q6
 clear V0 l5
 try dsimp only
 refine nP (nm:="Last") (a:=s0) (b:=s1) (b1:=false) (b2:=true) (b3:=true) 1 hn6 rfl (λZ z=>z) (λZ z=>p7 rfl l6 z) (λZ z=>IK rfl l6 z) ⟨Iv.2,k0.1.2,k1.1.2⟩ ⟨Iv.1,k0.1.1,k1.1.1⟩ (by omega) Gv (.inl ⟨rfl,rfl⟩) λH7 q7=>?_
 have hn7:=hn6.grow q7
 have l7:=l6.grow q7
 clear hn6 l6
 try dsimp only
 refine nP (nm:="last") (a:=s0) (b:=s0) (b1:=true) (b2:=true) (b3:=true) 0 hn7 rfl (λZ z=>z) (λZ z=>p7 rfl l7 z) (λZ z=>p7 rfl l7 z) ⟨oW.1.2,k0.1.2,k0.1.2⟩ ⟨oW.1.1,k0.1.1,k0.1.1⟩ (by omega) Gv (.inr (.inr (.inl ⟨rfl,vZ,.inl rfl,rfl⟩))) λH8 q8=>?_
 have R0:=hn7.grow q8
 have l8:=l7.grow q8
 clear hn7 l7
 try dsimp only
 refine nP (nm:="last") (a:=s0) (b:=s1) (w:=0) (l:=1) (b1:=true) (b2:=true) (b3:=true) 0 R0 rfl (λZ z=>z) (λZ z=>p7 rfl l8 z) (λZ z=>IK rfl l8 z) ⟨oW.1.2,k0.1.2,k1.1.2⟩ ⟨oW.1.1,k0.1.1,k1.1.1⟩ (by omega) Gv (.inr (.inr (.inl ⟨rfl,vZ,.inr (.inl (by decide)),rfl⟩))) λH9 q9=>?_
 have hn9:=R0.grow q9
 have l9:=l8.grow q9
 clear R0 l8
 try dsimp only
 refine zW (xs:=full.take n) (λZ z=>Gq rfl l9.full (λZ z=>zV rfl l9.rows e60 z) hnf z) λcy Ha qa hcy hya=>?_
 refine forL (xs:=(full.take n).map V.str) (λi σ' H'=>(∃y4 y5,σ'=[some (.ref p),some (.ref D),some (.ref sA),some (.ref a),y4,y5,none])/\HN C p dx nn ll seen (names++(full.take n).drop i) H'/\Lists D sA a rows seen H'/\H' cy=some (.lst ((full.take n).map V.str))) ⟨⟨_,_,rfl⟩,by rw[List.drop_zero];exact hn9.grow qa,l9.grow qa,hya⟩ (λi σ' H' _ h=>bQ.of h.2.2.2) ?_ ?_
 .rintro i v σ' Hb hv ⟨⟨y4,y5,rfl⟩,hn',l',hz'⟩
  rw[List.getElem?_map] at hv
  obtain⟨x,hx,rfl⟩:=Option.map_eq_some_iff.mp hv
  have hxm:x∈full:=List.mem_of_mem_take (List.mem_of_getElem? hx)
  have Gu:=oV x hxm
  have hil:=(List.getElem?_eq_some_iff.mp hx).1
  have hdr:(full.take n).drop i=x::(full.take n).drop (i+1):=by rw[List.drop_eq_getElem_cons hil,(List.getElem?_eq_some_iff.mp hx).2]
  have hxn:x∉(full.take n).drop (i+1):=λz=>by
   have g:=(vX.sublist (List.take_sublist n full)).sublist (List.drop_sublist i _)
   rw[hdr] at g
   exact(List.nodup_cons.mp g).1 z
  show gq _ _ [some (.ref p),some (.ref D),some (.ref sA),some (.ref a),y4,some (.str x),none] Hb
  unfold gq
  refine Iw hn' rfl (λZ z=>aB (v:=.str x) rfl z) Gu.1 (List.mem_append.mpr (.inr (by rw[hdr];exact List.mem_cons_self ..))) λH' h' st=>?_
  rw[hdr,yU (fout Gu.2) hxn] at h'
  exact⟨⟨_,_,rfl⟩,h',l'.stay hn' st,hn'.lst st hz'⟩
 rintro σ' Hb ⟨⟨yb4,yb5,rfl⟩,hnb,lb,-⟩
 rw[List.length_map,List.drop_length,List.append_nil] at hnb
 clear vZ hn9 l9
 have hml:=RZ (seen:=seen) vX
 have ajX:seen.length<=5:=by omega
 have hs2:2<=seen.length:=by omega
 have ajY:40 - seen.length<=(cP seen full).length:=by omega
 have e40:(40:Int) - ((seen.map V.str).length:Int)=((40 - seen.length:Nat):Int):=by rw[List.length_map];omega
 have agU:∀x∈full,(PyData.str x).canLay0=true:=λx hx=>(oV x hx).1.2
 try dsimp only
 refine Yw (xs:=cP seen full) (n:=40 - seen.length) (λZ z=>?_) (λH' Z sm z=>zV rfl (sm _ _ lb.seen) e40 z) ajY λmz Hc qc V1=>?_
 .refine VM.yN (S:=[none,none,some (.fr,cA seen),some (.fr,cA full),none,none,none]) ⟨_,_,rfl,_,_,rfl,_,_,rfl,rfl,jK lb.seen hcan,_,_,rfl,rfl,jK lb.full agU,_,_,rfl,_,_,rfl,_,_,rfl,rfl⟩ (abu (by omega)) λa' xs H2 s2 hn' hl hx=>?_
  rw[oO hx] at hl
  exact z a' H2 s2 hl
 have JD:∀x∈(cP seen full).take (40 - seen.length),x∈full/\x∉seen:=λx hx=>by
  have:=List.mem_filter.mp (List.mem_of_mem_take hx)
  exact⟨this.1,by simpa using this.2⟩
 have abG:((cP seen full).take (40 - seen.length)).Nodup:=(List.Pairwise.filter _ vX).sublist (List.take_sublist _ _)
 have agV:((cP seen full).take (40 - seen.length)).length=40 - seen.length:=by rw[List.length_take];omega
 generalize (cP seen full).take (40 - seen.length)=M at V1 JD abG agV
 have hnc:=hnb.grow qc
 have lc:=lb.grow qc
 clear hnb lb
 have eM:((M.map V.str).length:Int) - 1=((39 - seen.length:Nat):Int):=by rw[List.length_map];omega
 have hMt:39 - seen.length<=M.length:=by omega
 have abH:(M.take (39 - seen.length)).length=39 - seen.length:=by rw[List.length_take];omega
 have Kw:("way":Str)∉names:=fout nO.2.1
 try dsimp only
 refine zW (xs:=M.take (39 - seen.length)) (λZ z=>Gq rfl V1 (λZ z=>G3 rfl V1 eM z) hMt z) λcx Hd qd hcx hxd=>?_
 refine forL (xs:=(M.take (39 - seen.length)).map V.str) (λi σ' H'=>(∃y4 y5,σ'=[some (.ref p),some (.ref D),some (.ref sA),some (.ref a),y4,y5,some (.ref mz)])/\HN C p dx nn ll (seen++M.take i) names H'/\Lists D sA a rows seen H'/\H' cx=some (.lst ((M.take (39 - seen.length)).map V.str))) ⟨⟨_,_,rfl⟩,by rw[List.take_zero,List.append_nil];exact hnc.grow qd,lc.grow qd,hxd⟩ (λi σ' H' _ h=>bQ.of h.2.2.2) ?_ ?_
 .rintro i v σ' Hb hv ⟨⟨y4,y5,rfl⟩,hn',l',hz'⟩
  rw[List.getElem?_map] at hv
  obtain⟨x,hx,rfl⟩:=Option.map_eq_some_iff.mp hv
  have hil:=(List.getElem?_eq_some_iff.mp hx).1
  have hi:i<39 - seen.length:=by omega
  rw[List.getElem?_take,if_pos hi] at hx
  have hxM:=JD x (List.mem_of_getElem? hx)
  have Gu:=oV x hxM.1
  have htk:M.take (i+1)=M.take i++[x]:=by rw[List.take_succ,hx];rfl
  have hxn:x∉M.take i:=λz=>by
   have g:=abG.sublist (List.take_sublist (i+1) M)
   rw[htk] at g
   exact(List.nodup_append.mp g).2.2 x z x (List.mem_singleton.mpr rfl) rfl
  have Oc:x∉seen++M.take i:=λz=>by
   rcases List.mem_append.mp z with g|g
   .exact hxM.2 g
   .exact hxn g
  have hm0:s0∈seen++M.take i:=List.mem_append.mpr (.inl m0)
  have hlt:(M.take i).length=i:=by rw[List.length_take];omega
  show gq _ _ [some (.ref p),some (.ref D),some (.ref sA),some (.ref a),y4,some (.str x),some (.ref mz)] Hb
  unfold gq
  refine yV hn' rfl (λZ z=>z) (λZ z=>p7 rfl l' z) (λZ z=>aB (v:=.str x) rfl z) vf k0 Gu.1 Kw (λz=>hxM.2 (z▸m0)) (by omega) (by rw[xq hm0 Oc,List.length_append,hlt];show _+1<=40;omega) λH' h' st=>?_
  have l2:=l'.stay hn' st
  have z2:=hn'.lst st hz'
  rw[xq hm0 Oc,List.append_assoc,←htk] at h'
  try dsimp only
  refine Iw h' rfl (λZ z=>z) vf (List.mem_append.mpr (.inr (List.mem_singleton.mpr rfl))) λxZ h'' st2=>?_
  rw[yU Kw List.not_mem_nil,List.append_nil] at h''
  exact⟨⟨_,_,rfl⟩,h'',l2.stay h' st2,h'.lst st2 z2⟩
 rintro σ' He ⟨⟨ye4,ye5,rfl⟩,hne,le,-⟩
 rw[List.length_map,abH] at hne
 clear hnc lc V1
 have V2:(seen++M.take (39 - seen.length)).length=39:=by rw[List.length_append,abH];omega
 have R4:∀{x:Str},near x=false->x∉full->x∉seen++M.take (39 - seen.length):=λh1 h2 z=>by
  rcases List.mem_append.mp z with g|g
  .exact ajW h1 g
  .exact h2 (JD _ (List.mem_of_mem_take g)).1
 have zX:∀{x:Str},x∈seen->x∈seen++M.take (39 - seen.length):=λh=>List.mem_append.mpr (.inl h)
 generalize seen++M.take (39 - seen.length)=Gw at hne V2 R4 zX
 have o1:=R4 nO.2.2.2.1 vg.2.1
 have o2:=R4 nO.2.2.2.2 vg.2.2
 have V3:("newone":Str)≠"newtwo":=by decide +kernel
 try dsimp only
 refine nP (nm:="way") (a:="newone") (b:="newtwo") (b1:=true) (b2:=true) (b3:=true) 3 hne rfl (λZ z=>z) (λZ z=>z) (λZ z=>z) ⟨vf.1.2,vY.1.2,lD.1.2⟩ ⟨vf.1.1,vY.1.1,lD.1.1⟩ (by omega) (by omega) (.inr (.inr (.inr ⟨rfl,Kw,by rintro(z|z|z);exact V3 z;exact absurd z (by decide);exact absurd z (by decide),.inr (by rw[RX o1 o2];show 40<Gw.length+2;omega),rfl⟩))) λHf qf=>?_
 have R5:=hne.grow qf
 have lf:=le.grow qf
 clear hne le
 try dsimp only
 refine abv (C:=C) (p:=p) (dx:=dx) (nn:=nn) (ll:=ll) (rooms:=Gw++[("newone":Str)]) (names:=names++[("way":Str)]) (λZ z=>yV R5 rfl (λZ z=>z) (λZ z=>z) (λZ z=>IK rfl lf z) vf vY k1 Kw (λz=>o1 (z▸zX m1)) (by omega) (by rw[Gp o1 (zX m1)];show _+1<=40;omega) λHg hg st=>?_) λHg st hg=>?_
 .rw[Gp o1 (zX m1)] at hg
  exact z Hg st hg
 have lg:=lf.stay R5 st
 clear R5 lf
 try dsimp only
 have abJ:(Gw++[("newone":Str)]).length=40:=by rw[List.length_append,V2];rfl
 have p0:s0∈Gw++[("newone":Str)]:=List.mem_append.mpr (.inl (zX m0))
 have p1:("newone":Str)∈Gw++[("newone":Str)]:=List.mem_append.mpr (.inr (List.mem_singleton.mpr rfl))
 have p2:("newtwo":Str)∉Gw++[("newone":Str)]:=λz=>by
  rcases List.mem_append.mp z with g|g
  .exact o2 g
  .exact V3 (List.mem_singleton.mp g).symm
 have V4:("path":Str)∉names++[("way":Str)]:=λz=>by
  rcases List.mem_append.mp z with g|g
  .exact fout nO.2.2.1 g
  .exact absurd (List.mem_singleton.mp g) (by decide +kernel)
 have hnw:(names++[("way":Str)]).length=names.length+1:=by rw[List.length_append];rfl
 generalize Gw++[("newone":Str)]=Gx at hg abJ p0 p1 p2
 generalize names++[("way":Str)]=nw at hg V4 hnw
 refine nP (nm:="path") (a:=s0) (b:="newtwo") (b1:=true) (b2:=true) (b3:=true) 3 hg rfl (λZ z=>z) (λZ z=>p7 rfl lg z) (λZ z=>z) ⟨sJ.1.2,k0.1.2,lD.1.2⟩ ⟨sJ.1.1,k0.1.1,lD.1.1⟩ (by omega) (by omega) (.inr (.inr (.inr ⟨rfl,V4,by rintro(z|z|z);exact p2 (z▸p0);exact absurd z (by decide);exact absurd z (by decide),.inr (by rw[xq p0 p2];show 40<Gx.length+1;omega),rfl⟩))) λHh qh=>?_
 have hh:=hg.grow qh
 have lh:=lg.grow qh
 clear hg lg
 try dsimp only
 refine nP (nm:="path") (a:="newtwo") (b:="newtwo") (b1:=true) (b2:=true) (b3:=true) 0 hh rfl (λZ z=>z) (λZ z=>z) (λZ z=>z) ⟨sJ.1.2,lD.1.2,lD.1.2⟩ ⟨sJ.1.1,lD.1.1,lD.1.1⟩ (by omega) (by omega) (.inr (.inr (.inl ⟨rfl,V4,.inl rfl,rfl⟩))) λHi qi=>?_
 have hi:=hh.grow qi
 have li:=lh.grow qi
 clear hh lh
 try dsimp only
 unfold qN U5
 rw[op2]
 unfold nq
 obtain⟨nums,ls,hall,er,en,hix⟩:=hi.ex
 show jA C "rooms" (mJ C) [] E0 (vR 0) bA _ Hi _
 unfold jA
 refine aB (v:=.ref p) rfl ⟨p,dx,_,rfl,hall.ins,rfl,p,dx,nn,ll,nums,ls,rfl,hall,λz hz=>?_⟩
 rw[er]
 have qz:=aL (o:=.lst (Gx.map V.str)) hz
 have hz1:upd Hi z (.lst (Gx.map V.str)) z=some (.lst (Gx.map V.str)):=ao
 generalize upd Hi z (.lst (Gx.map V.str))=Hj at qz hz1 ⊢
 have hj:=hi.grow qz
 have lj:=li.grow qz
 refine⟨_,.inl (bQ.of hz1),rfl,?_⟩
 have ajZ:decide (V.int ((Gx.map V.str).length:Int)=V.int 40)=true:=decide_eq_true (by rw[List.length_map,abJ];rfl)
 show(match V.bl (decide (V.int ((Gx.map V.str).length:Int)=V.int 40)) with|.bl c=>if c=true then _ else _|_=>False)
 rw[ajZ]
 show(if true=true then _ else _)
 rw[if_pos rfl]
 refine abw (λZ z=>yV hj rfl (λZ z=>z) (λZ z=>z) (λZ z=>p7 rfl lj z) sJ vY k0 V4 (λz=>o1 (z▸zX m0)) (by omega) (by rw[zU p1 p0,List.length_nil];omega) λH' _ _=>z H') hq
end
end bW
namespace bW
open PySem PySem.Spec PyProof.Rows L2 VM
set_option maxHeartbeats 4000000
section
variable {ns:List Int}{x0 x1 x2 x3 x4 x5 x6 x7 x8 x9 x10:Option (Tg×PyData)}
theorem agW:(pG gj (aC (cj cH (aC (vF 0) (aC (vC (.int 0)) a0))) (aC (v2 gQ (vC (.int 2)) (v2 cC (cj bJ (aC (cj cH (aC (vF 0) (aC (vC (.int 0)) a0))) (aC (vC (.int 2)) a0))) (vC (.int 4)))) (aC (vC (.int 0)) a0))))
  [some (.fr,.list (ns.map .int)),x1,x2,x3,x4,x5,x6,x7,x8,x9,x10]=some (.list ((jq ns).map .str)):=by
 have m:=cW (eX (dD ns 0) 2) (show(0:Int)<4 by decide)
 walk_at "e0"
 rw[pY (by decide)]
 walk_at "e0"
 rw[pY (by decide)]
 walk_at "e0"
 rw[oE (by decide) (by decide)]
 walk_at "e0"
 simp only[cg (show(0:Int)<4 by decide)]
 walk_at "e0"
 have e:=zQ (c:=dD ns 0) (k:=0) (by decide) (by decide) (many:=(2+eX (dD ns 0) 2 % 4).toNat) (by omega)
 rw[show(((2+eX (dD ns 0) 2 % 4).toNat:Nat):Int)=2+eX (dD ns 0) 2 % 4 by omega] at e
 rw[e]
 unfold cA jq
 walk_at "e0"
theorem agX:(pG gj (aC (cj cH (aC (vF 0) (aC (vC (.int 1)) a0))) (aC (vC (.int 8)) (aC (v2 cC (cj bJ (aC (cj cH (aC (vF 0) (aC (vC (.int 1)) a0))) (aC (vC (.int 2)) a0))) (vC (.int 2))) a0))))
  [some (.fr,.list (ns.map .int)),x1,x2,x3,x4,x5,x6,x7,x8,x9,x10]=some (.list ((namesOf ns).map .str)):=by
 have m:=cW (eX (dD ns 1) 2) (show(0:Int)<2 by decide)
 walk_at "e0"
 rw[pY (by decide)]
 walk_at "e0"
 rw[pY (by decide)]
 walk_at "e0"
 rw[oE (by decide) (by decide)]
 walk_at "e0"
 simp only[cg (show(0:Int)<2 by decide)]
 walk_at "e0"
 have e:=zQ (c:=dD ns 1) (k:=eX (dD ns 1) 2 % 2) (by omega) (by omega) (many:=8) (by decide)
 rw[show((8:Nat):Int)=8 from rfl] at e
 rw[e]
 unfold cA namesOf
 walk_at "e0"
theorem agY:(cj bJ (aC (cj cH (aC (vF 0) (aC (vC (.int 1)) a0))) (aC (vC (.int 4)) a0))) [some (.fr,.list (ns.map .int)),x1,x2,x3,x4,x5,x6,x7,x8,x9,x10]=some (.int (eX (dD ns 1) 4)):=by
 walk_at "e0"
 rw[pY (by decide)]
 walk_at "e0"
 rw[oE (by decide) (by decide)]
 walk_at "e0"
theorem Yy {c:Int}{rows:List Row}{rs:List Str}{d:PyData}(h:jh [.int c,fB rows,cA rs]=some (false,d)):
  (cj jh (aC (vF 7) (aC (vF 5) (aC (vF 1) a0)))) [x0,some (.fr,cA rs),x2,x3,x4,some (.fr,fB rows),x6,some (.fr,.int c),x8,x9,x10]=some d:=by
 walk_at "e0"
 rw[h]
 walk_at "e0"
theorem R6 {c:Int}{rows:List Row}{rs nms:List Str}{d:PyData}(h:iG [.int c,fB rows,cA rs,cA nms]=some (false,d)):
  (cj iG (aC (vF 7) (aC (vF 5) (aC (vF 1) (aC (vF 2) a0))))) [x0,some (.fr,cA rs),some (.fr,cA nms),x3,x4,some (.fr,fB rows),x6,some (.fr,.int c),x8,x9,x10]=some d:=by
 walk_at "e0"
 rw[h]
 walk_at "e0"
theorem aj0 {rows:List Row}(hl:rows.length<1000):(nF (nD (vF 5)) [none] (gN 0) jU (FW (vN 0))) [x0,x1,x2,x3,x4,some (.fr,fB rows),x6,x7,x8,x9,x10]=some (qK rows):=by
 unfold fB
 walk_at "e0"
 rw[qx rfl (by rw[List.length_map];exact dX (by omega))]
 rw[lu (f:=λd=>match d with|.list ds=>.tuple ds|d=>d)]
 .walk_at "e0"
  unfold qK
  rw[List.map_map]
  rfl
 .intro d hd
  obtain⟨r,_,rfl⟩:=List.mem_map.mp hd
  refine⟨_,rfl,rfl,rfl⟩
theorem abK {n:Int}:∃b,(v2 xW (v2 cC (v2 fD (vN 3) (vC (.int 49))) (vC (.int 4))) (vC (.int 0))) [x0,x1,x2,some (.fr,.int n),x4,x5,x6,x7,x8,x9,x10]=some (.bool b):=by
 walk_at "e0"
 simp only[eZ (show(0:Int)<49 by decide) (by decide)]
 walk_at "e0"
 simp only[cg (show(0:Int)<4 by decide)]
 walk_at "e0"
 exact⟨_,rfl⟩
end
theorem R7 (n:Int){many:Nat}(hm:many<=8):∀x∈wordsOf n many,AZ x:=λx hx=>by
 obtain⟨j,hj,rfl⟩:=List.mem_map.mp hx
 intro c hc
 rw[uf j (qL n)] at hc
 rcases List.mem_append.mp hc with g|g
 .exact vU n c (List.mem_of_mem_take g)
 .rcases List.mem_cons.mp g with g|g
  .have:=List.mem_range.mp hj;omega
  .exact vU n c (List.mem_of_mem_drop g)
theorem Ky (ns:List Int):∀x∈jq ns,near x=true/\AZ x:=λx hx=>by
 have m:=cW (eX (dD ns 0) 2) (show(0:Int)<4 by decide)
 exact⟨yR _ (by omega) x hx,R7 _ (by omega) x hx⟩
theorem Kz (ns:List Int):∀x∈namesOf ns,near x=true:=yR _ (by decide)
noncomputable def wB (i:Nat):Int:=(i:Int)*jy
theorem zY (i:Nat):wB (i+1)=wB i+jy:=by
 unfold wB
 rw[Int.natCast_add,Int.add_mul]
 show _+1*jy=_
 rw[Int.one_mul]
theorem V5 {i:Nat}(h:i<=100):wB i<=100*jy:=by
 unfold wB
 exact Int.mul_le_mul_of_nonneg_right (by omega) (by decide)
theorem O1 {x:Int}(h0:1<=x)(h1:x<=100*jy):wK x:=Ou (by
 unfold jy at h1
 have:x.natAbs<=1000000000000000000000000000000000000000000000000000000000000000:=by omega
 exact Nat.lt_of_le_of_lt this (by decide +kernel))
theorem R8 {rooms names:List Str}{rows:List Row}{d:aX}{i:Nat}(hd:nJ rooms names rows d)(hw:∀r∈rows,r.2.2.2.1<=wB i):∀r∈J8 d rows,r.2.2.2.1<=wB (i+1):=by
 have h0:0<=jy:=by decide
 have hi:0<=wB i:=Int.mul_nonneg (by omega) h0
 have up:∀{r:Row}{nm:Str} {k:Int},r∈rows->k<=jy->(fO nm k r).2.2.2.1<=wB (i+1):=λ{r nm k} hr hk=>by
  have:=hw r hr
  rw[zY]
  unfold fO
  split
  .show r.2.2.2.1+k<=_;omega
  .omega
 cases d with
 |lay nm a b w l=>
  obtain⟨_,_,_,_,_,_,_,h8⟩:=hd
  intro r hr
  have hr':r∈rows++[(nm,a,b,w,l)]:=hr
  rw[zY]
  rcases List.mem_append.mp hr' with g|g
  .have:=hw r g;omega
  .rw[List.mem_singleton.mp g];show w<=_;omega
 |shut nm=>
  intro r hr
  have hr':r∈rows:=(List.mem_filter.mp hr).1
  have:=hw r hr'
  rw[zY];omega
 |widen nm k=>
  obtain⟨_,_,h3⟩:=hd
  intro r hr
  obtain⟨r',hr',rfl⟩:=List.mem_map.mp hr
  exact up hr' h3
 |narrow nm k=>
  obtain⟨_,_,_,h3,_⟩:=hd
  intro r hr
  obtain⟨r',hr',rfl⟩:=List.mem_map.mp hr
  exact up hr' (by omega)
theorem R9 {rooms names:List Str}{rows:List Row}{d:aX}{i:Nat}(h100:i<=100)(hd:nJ rooms names rows d)(hw:∀r∈rows,r.2.2.2.1<=wB i):d.few:=by
 have hB:=V5 h100
 cases d with
 |lay nm a b w l=>trivial
 |shut nm=>trivial
 |widen nm k=>
  obtain⟨_,h2,h3⟩:=hd
  have h4:jy<=100*jy:=by decide
  exact O1 h2 (by omega)
 |narrow nm k=>
  obtain⟨r,hr,_,h3,h4⟩:=hd
  have:=hw r hr
  exact O1 h3 (by omega)
theorem O2 (d:aX)(r0 r1:Str)(more:List Str):∃m2,J9 d (r0::r1::more)=r0::r1::m2:=by
 have one:∀(m:List Str) (r:Str),∃m2,(if((r0::r1::m).any λy=>y==r)=true then r0::r1::m else(r0::r1::m)++[r])=r0::r1::m2:=λm r=>by
  split
  .exact⟨m,rfl⟩
  .exact⟨m++[r],rfl⟩
 cases d with
 |lay nm a b w l=>
  show ∃m2,j7 (r0::r1::more) [a,b]=r0::r1::m2
  unfold j7
  rw[List.foldl_cons,List.foldl_cons,List.foldl_nil]
  obtain⟨m1,e1⟩:=one more a
  rw[e1]
  exact one m1 b
 |shut nm=>exact⟨more,rfl⟩
 |widen nm k=>exact⟨more,rfl⟩
 |narrow nm k=>exact⟨more,rfl⟩
section
open EX
variable {K:PySem.W.Frag}{C p dx nn ll:Addr}{R:Nat->Addr}{H:Hp}{σ:L2.St}
theorem Yz {a b:Str}{t:TA}{Q:VK}{E:XK}(ha:∀Z:List V->Hp->Prop,Z [.str a,.str b] H->t σ H Z)(n1:bh a)(n2:bh b)(hab:a≠b)
  (q:∀x dx nn ll H',cU H' C x dx nn ll [(a,0),(b,1)] []->Same H H'->Q (.ref x) H'):Uz C (calm (CG C R)) [] E t σ H Q:=by
 refine ha _ λx dx hx hdx hne=>⟨x,dx,a,b,true,true,rfl,ao,⟨n1.1.2,n2.1.2⟩,⟨n1.1.1,n2.1.1⟩,?_⟩
 rw[if_neg (by decide),if_neg hab]
 refine λH' nn ll hall fr hnn hll=>⟨rfl,q x dx nn ll H' hall λc o e=>?_⟩
 have z1:c≠x:=λz=>by subst z;rw[hx] at e;cases e
 have z2:c≠dx:=λz=>by subst z;rw[hdx] at e;cases e
 exact fr c o z1 (by rw[aq z1,aq z2];exact e)
theorem O4 {n:Int}{L:Addr}{r0:Str}{rest:List Str}{tr:TS}{D:Ends}{E:XK}(h3:σ[3]? =some (some (.int n)))(h1:σ[1]? =some (some (.ref L)))(hl:H L=some (.lst ((r0::rest).map V.str)))(k0:bh r0)(q:∀H',Same H H'->D.nx σ H'):
  d8 (uE (iB (fU (ug R) [] E (aN (vR 3) (aN (vR 1) bA))))) tr dR D σ H:=by
 unfold d8 uE iB fU aN bA
 refine aB h3 (aB h1 ⟨n,L,r0,rest,rfl,hl,k0,λH4 s4=>?_⟩)
 show(if(!true)=true then _ else _)
 rw[if_neg (by simp)]
 exact q H4 s4
theorem abL {t:Addr}{d:aX}{k:Nat}{tr:TS}{D:Ends}{E E' E2:XK}(hp:σ[4]? =some (some (.ref p)))(ht9:σ[9]? =some (some (.ref t)))(hk8:σ[8]? =some (some (.int (k:Int))))(ins:H p=some (.ins C dx [("numbers",.ref nn),("laid",.ref ll)]))(ht:bM K H t (aX.vals d))
  (rf:∀H',Same H H'->sH C R p d k H')(q:∀H',Same H H'->D.nx σ H'):
  d8 (Dc (uE (iB (fU (u0 R) [] E (aN (fU (mK K C R) [] E' (aN (vR 4) (aN (vR 9) bA))) (aN (vR 8) bA))))) (CZ (iB (dh (rM λi j=>V.bl (decide (i=j))) (vR 8) (tC (.int 0)))) (iB (dh Jw (fU (vP K C R) [] E2 (aN (vR 4) (aN (vR 9) bA))) (tC .non))))) tr dR D σ H:=by
 have k6:=(rf H (Same.refl _)).1
 unfold d8 Dc uE iB
 refine yQ (k:=k) k6 (λZ z=>?_) (λH' Z z=>aB hk8 z) λH1 s1=>?_
 .unfold fU aN bA
  exact aB hp (aB ht9 ⟨p,dx,nn,ll,t,d,k,rfl,ins,ht,rf H (Same.refl _),λe gM H' s' r=>z e gM H' s' r⟩)
 .show(if(!true)=true then _ else _)
  rw[if_neg (by simp)]
  unfold CZ
  dsimp only
  rw[op1]
  refine aB hk8 ?_
  show(if decide ((k:Int)=0)=true then _ else _)
  by_cases hk:k=0
  .subst hk
   rw[if_pos (by decide)]
   unfold dh tC fU aN bA
   refine aB hp (aB ht9 ⟨p,dx,nn,ll,t,d,rfl,s1 _ _ ins,bM.off ht (λo _ e=>s1 _ _ e),rf H1 s1,λH2 s2=>?_⟩)
   show(if false=true then tr D σ H2 else dR D σ H2)
   rw[if_neg (by decide)]
   exact q H2 (s1.trans s2)
  .rw[if_neg (by simp;omega)]
   show(if false=true then tr D σ H1 else dR D σ H1)
   rw[if_neg (by decide)]
   exact q H1 s1
theorem YB {nums:List (Str×Int)}{ls:List (Str×Q4)}{D sA:Addr}{prs:List PR}{f:VE}{tr:TS}{Dn:Ends}{E E':XK}(hp:σ[4]? =some (some (.ref p)))(hs6:σ[6]? =some (some (.ref sA)))(hh:cU H C p dx nn ll nums ls)(hH:Held H D prs)(hs:H sA=some (.lst ((seenOf nums).map V.str)))
  (hcan:∀x∈seenOf nums,(PyData.str x).canLay0=true)(hR:Paired (LR (seenOf nums)) ls (prs.map (·.2)))(hl:ls.length<100)(hf:∀(H':Hp) (Z:VK),Same H H'->(∀v H2,Same H' H2->Has K H2 (qK (prs.map (·.2))) v->Z v H2)->tV K RW f σ H' Z)(q:∀H',Same H H'->Dn.nx σ H'):
  d8 (Dc (iB (dh (Js K) (jA C "rooms" (mJ C) [] E (vR 4) bA) (vR 6))) (iB (dh (Js K) (jA C "passages" (yL C) [] E' (vR 4) bA) (tV K RW f)))) tr dR Dn σ H:=by
 have hc':=hH.ajS
 unfold d8 Dc iB
 rw[op2]
 unfold jA
 refine aB hp ⟨p,dx,_,rfl,hh.ins,rfl,p,dx,nn,ll,nums,ls,rfl,hh,λrz Vw=>?_⟩
 have s1:=aL (o:=.lst ((seenOf nums).map V.str)) Vw
 have hz1:upd H rz (.lst ((seenOf nums).map V.str)) rz=some (.lst ((seenOf nums).map V.str)):=ao
 generalize upd H rz (.lst ((seenOf nums).map V.str))=H1 at s1 hz1 ⊢
 refine aB hs6 ⟨_,_,jK hz1 hcan,jK (s1 _ _ hs) hcan,Ke _,?_⟩
 rw[SeqAt.eqv_refl _ (Rr hcan)]
 show(if(!true)=true then _ else _)
 rw[if_neg (by simp),op2]
 have hh1:=hh.grow s1
 refine aB hp ⟨p,dx,_,rfl,hh1.ins,rfl,p,dx,nn,ll,nums,ls,_,rfl,hh1,hl,hR,λH2 pz ts s2 hpz hts hrw=>?_⟩
 refine hf H2 _ (s1.trans s2) λv H3 s3 hv=>⟨_,_,Rw (s3 _ _ hts) (hrw.mono λv r h=>let⟨t,a,b⟩:=h;⟨t,a,s3 _ _ b⟩) hc',hv,Kf _,?_⟩
 rw[SeqAt.eqv_refl _ (Ru hc')]
 show(if(!true)=true then _ else _)
 rw[if_neg (by simp)]
 exact q H3 ((s1.trans s2).trans s3)
end
end bW
namespace bW
open PySem PySem.Spec PyProof.Rows L2 VM EX
set_option maxHeartbeats 4000000
section
variable {P:Program}{w:World}{K:PySem.W.Frag}{mg:Str->Option Value}{base:Heap}{C:Addr}{R:Nat->Addr}
structure Stand (K:PySem.W.Frag)(C:Addr)(rs nms:List Str)(r0 r1:Str)(cells:List Int)(ra na p dx nn ll D sA cz:Addr)(i:Nat)(H:Hp):Prop where
 ex:∃nums ls prs more,Ok rs nms (prs.map (·.2)) nums ls/\cU H C p dx nn ll nums ls/\Held H D prs/\H sA=some (.lst ((seenOf nums).map V.str))/\(D::sA::prs.map (·.1)).Nodup/\ra∉D::sA::prs.map (·.1)/\na∉D::sA::prs.map (·.1)/\cz∉D::sA::prs.map (·.1)/\(∀r∈prs.map (·.2),r.2.2.2.1<=wB i)/\seenOf nums=r0::r1::more
 rooms:H ra=some (.lst (rs.map V.str))
 names:H na=some (.lst (nms.map V.str))
 cells:H cz=some (.lst (cells.map V.int))
theorem O8:bF ["_law_script","_law_rooms","_law_names","_law_number","_law_hall","_law_held","_law_seen","_law_cell","_law_at","_law_deed_here","_law_good"] ["_law_script"] (aj (top 37)):=⟨rfl,rfl,rfl,by decide +kernel,rfl,by decide +kernel,by decide +kernel⟩
theorem Sd (ns:List Int)(lo hi:Option Int):∃cs:List Int,lF (ns.map V.int) lo hi=cs.map V.int/\cs.length<=ns.length:=by
 refine⟨(ns.drop (HT.bT ns.length 0 lo)).take (HT.bT ns.length ns.length hi - HT.bT ns.length 0 lo),?_,?_⟩
 .unfold lF
  rw[List.length_map,←List.map_drop,←List.map_take]
 .rw[List.length_take,List.length_drop];omega
theorem abM {f:Addr}{fd:FuncData}(F:dB K "law" "law" (top 37) f fd)(B:Bl mg)(KT:kW K)(c:Cl K C){fi:Addr}{Nz:FuncData}(M:Mk K C fi)(Fi:aW P w K mg base (eE P w) 2 fi Nz ["self","start","goal"] (CG C R))(bi:Binds K Nz ["self","start","goal"] [])(hC:mg "NamedHall"=some (.ref C))
  (Mr:OJ P w K mg base C 1 "rooms" ["self"] (mJ C))(Mp:OJ P w K mg base C 2 "passages" ["self"] (yL C))
  (gF:dM P w K mg base 1 "_law_cell_at" ["_law_script","_law_k"] (d9 K cH))(bU:dM P w K mg base 1 "_law_mixed" ["_law_cell","_law_k"] (d9 K bJ))(m9:dM P w K mg base 2 "_law_words" ["_law_cell","_law_many","_law_k"] (d9 K gj))
  (uh:dM P w K mg base 3 "_law_deed" ["_law_cell","_law_held","_law_rooms","_law_names"] (d9 K iG))(vh:dM P w K mg base 3 "_law_bad" ["_law_cell","_law_held","_law_rooms"] (d9 K jh))
  (xr:dM P w K mg base 4 "_law_do" ["_law_hall","_law_deed_here"] (calm (Fy K C R)))(rC:dM P w K mg base 1 "_law_noted" ["_law_held","_law_seen","_law_deed_here"] (zK K))
  (cZ:dM P w K mg base 2 "_law_is" ["_law_caught_here","_law_at"] (u0 R))(cQ:dM P w K mg base 5 "_law_caught" ["_law_hall","_law_deed_here"] (mK K C R))(rD:dM P w K mg base 5 "_law_place" ["_law_hall","_law_deed_here"] (vP K C R))
  (qe:dM P w K mg base 6 "_law_begins" ["_law_number","_law_rooms"] (ug R))(um:dM P w K mg base 6 "_law_full" ["_law_hall","_law_held","_law_seen"] (Gs C R)):aW P w K mg base dG 7 f fd ["_law_script"] (Cq K):=by
 have nd:=O8.nd
 have vt:=(show(["_law_script","_law_rooms","_law_names","_law_number","_law_hall","_law_held","_law_seen","_law_cell","_law_at","_law_deed_here","_law_good"]:List Str).all (λx=>dW (aj (top 37)) x && plain x)=true by decide +kernel)
 obtain⟨f7,Vv,F7,m7,b7⟩:=Mr.ex
 obtain⟨f8,fd8,F8,m8,b8⟩:=Mp.ex
 refine dB.ok (k:=6) F O8 (λvs H Q E h=>by obtain⟨_,_,rfl,_⟩:=h;rfl) λcdv A outer s H vs Q E hr hsp=>?_
 obtain⟨sc,ns,rfl,hsc,hns,hq⟩:=hsp
 refine⟨_,(aH (bI (Vc (aZ m9 (hr.mono (by decide)) (gl (sc:=(aj (top 37))) (by decide +kernel)) (aG (gK (aZ gF (hr.mono (by decide)) (gl (sc:=(aj (top 37))) (by decide +kernel)) (aG (dF (pV vt 0)) (aG aA bO)))) (aG (bK jd hAdd (sw aA) (sw (bK oMod hMod (sw (gK (aZ bU (hr.mono (by decide)) (gl (sc:=(aj (top 37))) (by decide +kernel)) (aG (gK (aZ gF (hr.mono (by decide)) (gl (sc:=(aj (top 37))) (by decide +kernel)) (aG (dF (pV vt 0)) (aG aA bO)))) (aG aA bO))))) (sw aA)))) (aG aA bO))))) (aO (i:=1) nd rfl (lo (sc:=aj (top 37)) (by decide +kernel))))
  (aH (bI (Vc (aZ m9 (hr.mono (by decide)) (gl (sc:=(aj (top 37))) (by decide +kernel)) (aG (gK (aZ gF (hr.mono (by decide)) (gl (sc:=(aj (top 37))) (by decide +kernel)) (aG (dF (pV vt 0)) (aG aA bO)))) (aG aA (aG (bK oMod hMod (sw (gK (aZ bU (hr.mono (by decide)) (gl (sc:=(aj (top 37))) (by decide +kernel)) (aG (gK (aZ gF (hr.mono (by decide)) (gl (sc:=(aj (top 37))) (by decide +kernel)) (aG (dF (pV vt 0)) (aG aA bO)))) (aG aA bO))))) (sw aA)) bO))))) (aO (i:=2) nd rfl (lo (sc:=aj (top 37)) (by decide +kernel))))
  (aH (bI (gK (aZ bU (hr.mono (by decide)) (gl (sc:=(aj (top 37))) (by decide +kernel)) (aG (gK (aZ gF (hr.mono (by decide)) (gl (sc:=(aj (top 37))) (by decide +kernel)) (aG (dF (pV vt 0)) (aG aA bO)))) (aG aA bO)))) (aO (i:=3) nd rfl (lo (sc:=aj (top 37)) (by decide +kernel))))
  (aH (cM (iM (rN (aZ qe hr (gl (sc:=aj (top 37)) (by decide +kernel)) (ak (pV vt 3) (ak (pV vt 1) aF))))) (aM (cN iY)) bR)
  (aH (fV (i:=4) nd rfl (lo (sc:=aj (top 37)) (by decide +kernel)) (WQ M (nM Fi) (hr.mono (by decide)) (gl (sc:=aj (top 37)) (by decide +kernel)) hC bi .nil jB (ak (bB gY (pV vt 1) au) (ak (bB gY (pV vt 1) au) aF))))
  (aH (fV (i:=5) nd rfl (lo (sc:=aj (top 37)) (by decide +kernel)) (ni aF))
  (aH (fV (i:=6) nd rfl (lo (sc:=aj (top 37)) (by decide +kernel)) (jc oK (pV vt 1) oJ (jo au)))
  (aH (jD PassesOwn.never rfl (lZ (jc oK (pV vt 0) (jo au) (jo au))) (aO (i:=7) nd rfl (lo (sc:=aj (top 37)) (by decide +kernel))) (aH (bI (gK (aZ vh (hr.mono (by decide)) (gl (sc:=(aj (top 37))) (by decide +kernel)) (aG (dF (pV vt 7)) (aG (dF (pV vt 5)) (aG (dF (pV vt 1)) bO))))) (U8 (n:=2) rfl (vA (aO (i:=8) nd rfl (lo (sc:=aj (top 37)) (by decide +kernel))) (vA (aO (i:=9) nd rfl (lo (sc:=aj (top 37)) (by decide +kernel))) Mg))))
  (aH (cM (PW.pt (sV (iM (rN (aZ cZ (hr.mono (by decide)) (gl (sc:=aj (top 37)) (by decide +kernel)) (ak (aZ cQ (hr.mono (by decide)) (gl (sc:=aj (top 37)) (by decide +kernel)) (ak (pV vt 4) (ak (pV vt 9) aF))) (ak (pV vt 8) aF))))) (rG (PW.pt (uF (iW oEq (pV vt 8) au) (rF (iW U4 (aZ rD (hr.mono (by decide)) (gl (sc:=aj (top 37)) (by decide +kernel)) (ak (pV vt 4) (ak (pV vt 9) aF))) oX))))))) (aM (cN iY)) bR)
  (aH (cM (PW.pt (sV (iW (uL hr.units) (sY (pV vt 4) c.cl m7 F7 (hr.mono (by decide)) b7 .nil jB) (pV vt 6)) (rG (iW (uL hr.units) (sY (pV vt 4) c.cl m8 F8 (hr.mono (by decide)) b8 .nil jB) (nw (HD (vq (te:=tV K RS _) (tc:=gR K _) (g:=rQ K _ _) (N':=["_law_row"]) (cap:=[none]) ["_law_script","_law_rooms","_law_names","_law_number","_law_hall","_law_held","_law_seen","_law_cell","_law_at","_law_deed_here","_law_good"] (aj (top 37)) rfl (by decide +kernel) rfl rfl (Ve (dF (pV vt 5))) (λ_ _ _ _ _=>(dZ (Aw (i:=0) (show(["_law_row"]:List Str).Nodup by decide +kernel) (by decide +kernel)))) (λ_ _ _ _ _=>HB) (λ_ _ _ _ _=>(abf (uJ ajR (glC (by decide +kernel)) (by exact B.tuple) PyProof.Rows.boot_tuple (ak (dN (lH (by decide +kernel) 0)) aF))))))))))) (aM (cN iY)) bR)
  (aH (bI (gK (aZ uh (hr.mono (by decide)) (gl (sc:=(aj (top 37))) (by decide +kernel)) (aG (dF (pV vt 7)) (aG (dF (pV vt 5)) (aG (dF (pV vt 1)) (aG (dF (pV vt 2)) bO)))))) (aO (i:=10) nd rfl (lo (sc:=aj (top 37)) (by decide +kernel))))
  (aH (fK (aZ xr (hr.mono (by decide)) (gl (sc:=aj (top 37)) (by decide +kernel)) (ak (pV vt 4) (ak (pV vt 10) aF))))
  (aM (fK (aZ rC (hr.mono (by decide)) (gl (sc:=aj (top 37)) (by decide +kernel)) (ak (pV vt 5) (ak (pV vt 6) (ak (pV vt 10) aF))))))))))))
  (aM (cN (ai9 (Qp (uL hr.units) hNe (sw (bK oMod hMod (sw (bK oDiv hDiv (mw (dN (pV vt 3))) (sw aA))) (sw aA))) (sw aA)) (xO (aZ um hr (gl (sc:=aj (top 37)) (by decide +kernel)) (ak (pV vt 4) (ak (pV vt 5) (ak (pV vt 6) aF)))))))))))))))),?_⟩
 obtain⟨r0,r1,rest,ers,hrest,hrn,hrk⟩:=Od ns
 obtain⟨hn8,hnn,hnk⟩:=RJ ns
 have Sg:=Ky ns
 have Sh:=Kz ns
 rw[ers] at Sg
 have Sq:∀{H':Hp},Same H H'->Has K H' (.list (ns.map .int)) (.ref sc):=λk=>⟨sc,_,rfl,k.seq hsc,aJ.ints.mpr rfl⟩
 unfold gA g8 fG
 refine VM.yN (S:=[some (.fr,.list (ns.map .int)),none,none,none,none,none,none,none,none,none,none]) ⟨_,_,rfl,rfl,Sq (Same.refl _),_,_,rfl,_,_,rfl,_,_,rfl,_,_,rfl,_,_,rfl,_,_,rfl,_,_,rfl,_,_,rfl,_,_,rfl,_,_,rfl,rfl⟩ agW λra xs H1 s1 apL hra hx=>?_
 rw[oO hx] at hra
 try dsimp only
 refine VM.yN (S:=[some (.fr,.list (ns.map .int)),none,none,none,none,none,none,none,none,none,none]) ⟨_,_,rfl,rfl,Sq s1,_,_,rfl,_,_,rfl,_,_,rfl,_,_,rfl,_,_,rfl,_,_,rfl,_,_,rfl,_,_,rfl,_,_,rfl,_,_,rfl,rfl⟩ agX λna ys H2 s2 aj1 hna hy=>?_
 rw[oO hy] at hna
 have zZ:=s2 _ _ hra
 rw[ers] at zZ
 generalize hnm:namesOf ns=nms at hna hn8 hnn hnk Sh
 have apF:ra≠na:=aR hra aj1
 try dsimp only
 refine VM.vI (S:=[some (.fr,.list (ns.map .int)),none,none,none,none,none,none,none,none,none,none]) ⟨_,_,rfl,rfl,Sq (s1.trans s2),_,_,rfl,_,_,rfl,_,_,rfl,_,_,rfl,_,_,rfl,_,_,rfl,_,_,rfl,_,_,rfl,_,_,rfl,_,_,rfl,rfl⟩ agY λv H3 s3 hv=>?_
 have hv':v=.int (eX (dD ns 1) 4):=hv
 subst hv'
 generalize eX (dD ns 1) 4=num
 have hab:r0≠r1:=λz=>(List.nodup_cons.mp hrn).1 (by rw[z];exact List.mem_cons_self ..)
 have k0:=hrk r0 (List.mem_cons_self ..)
 have k1:=hrk r1 (List.mem_cons_of_mem _ (List.mem_cons_self ..))
 have az0:=(Sg r0 (List.mem_cons_self ..)).2
 have at0:cT ((r0::r1::rest).map V.str) 0=some (.str r0):=dz (j:=0) rfl
 have at1:cT ((r0::r1::rest).map V.str) 1=some (.str r1):=dz (j:=1) rfl
 try dsimp only
 refine O4 (n:=num) (L:=ra) rfl rfl (s3 _ _ zZ) k0 λH4 s4=>?_
 try dsimp only
 have s34:=s3.trans s4
 have abN:=s34 _ _ zZ
 refine Yz (a:=r0) (b:=r1) (λZ z=>?_) k0 k1 hab λp dx nn ll H5 agZ s5=>?_
 .exact kE (t:=ra) rfl abN (λZ z=>z) at0 (kE (t:=ra) rfl abN (λZ z=>z) at1 z)
 have Fx:=s34.trans s5
 try dsimp only
 unfold zm
 show _<=_/\_
 refine⟨Nat.zero_le _,λD hD=>?_⟩
 have s6:=aL (o:=.lst []) hD
 have hD6:upd H5 D (.lst []) D=some (.lst []):=ao
 generalize upd H5 D (.lst [])=H6 at s6 hD6 ⊢
 have s36:=Fx.trans s6
 try dsimp only
 unfold Dr oH sZ
 refine aB (v:=.ref ra) rfl ⟨2,rfl,ra,_,rfl,bQ.of (s36 _ _ zZ),λsA V6=>?_⟩
 rw[ajT]
 have s7:=aL (o:=.lst ([r0,r1].map V.str)) V6
 have hs7:upd H6 sA (.lst ([r0,r1].map V.str)) sA=some (.lst ([r0,r1].map V.str)):=ao
 generalize upd H6 sA (.lst ([r0,r1].map V.str))=H7 at s7 hs7 ⊢
 have yM:D≠sA:=aR hD6 V6
 have s37:=s36.trans s7
 have ag0:cU H7 C p dx nn ll [(r0,0),(r1,1)] []:=(agZ.grow s6).grow s7
 have hD7:=s7 _ _ hD6
 have Ss:∀x∈r0::r1::rest,(PyData.str x).canLay0=true:=λx hx=>(hrk x hx).2
 have aj2:∀x∈nms,(PyData.str x).canLay0=true:=λx hx=>(hnk x hx).2
 try dsimp only
 rw[mj]
 unfold sW
 refine aB (v:=.ref sc) rfl ⟨2,rfl,14,rfl,sc,_,rfl,((s1.trans s2).trans s37).seq hsc,λcz hcz=>⟨cz,rfl,⟨_,bQ.of ao⟩,?_⟩⟩
 obtain⟨cs,ecs,hcl⟩:=Sd ns (some 2) (some 14)
 rw[ecs]
 have s8:=aL (o:=.lst (cs.map V.int)) hcz
 have abR:upd H7 cz (.lst (cs.map V.int)) cz=some (.lst (cs.map V.int)):=ao
 generalize upd H7 cz (.lst (cs.map V.int))=H8 at s8 abR ⊢
 have abS:=Fx _ _ zZ
 have abT:=Fx _ _ hna
 have aj3:=s37 _ _ zZ
 have aj4:=s37 _ _ hna
 have ne2:∀{x:Addr},x≠D->x≠sA->x∉D::sA::([]:List PR).map (·.1):=λa b z=>by
  rcases List.mem_cons.mp z with g|g
  .exact a g
  .rcases List.mem_cons.mp g with g|g
   .exact b g
   .cases g
 have st8:Stand K C (r0::r1::rest) nms r0 r1 cs ra na p dx nn ll D sA cz 0 H8:=by
  refine⟨⟨[(r0,0),(r1,1)],[],[],[],⟨⟨by simp,by simp only[List.length_cons];omega,hrn,hn8,.nil,λ_ h=>by(cases h),λ_ h=>by(cases h)⟩,λi x e=>?_,?_,?_,.nil⟩,ag0.grow s8,⟨s8 _ _ hD7,λ_ h=>by(cases h),λ_ h=>by(cases h)⟩,s8 _ _ hs7,?_,?_,?_,?_,λ_ h=>by(cases h),rfl⟩,s8 _ _ aj3,s8 _ _ aj4,abR⟩
  .match i,e with
   |0,e=>cases e;rfl
   |1,e=>cases e;rfl
  .show [r0,r1].Nodup
   simp[hab]
  .intro x hx
   have hx':x∈[r0,r1]:=hx
   rcases List.mem_cons.mp hx' with g|g
   .rw[g];exact List.mem_cons_self ..
   .rw[List.mem_singleton.mp g];exact List.mem_cons_of_mem _ (List.mem_cons_self ..)
  .simp[yM]
  .exact ne2 (aR abS hD) (aR (s6 _ _ abS) V6)
  .exact ne2 (aR abT hD) (aR (s6 _ _ abT) V6)
  .exact ne2 (aR hD7 hcz).symm (aR hs7 hcz).symm
 refine forL (xs:=cs.map V.int) (λi σ' H'=>(∃y7 y8 y9 y10,σ'=[some (.ref sc),some (.ref ra),some (.ref na),some (.int num),some (.ref p),some (.ref D),some (.ref sA),y7,y8,y9,y10])/\Stand K C (r0::r1::rest) nms r0 r1 cs ra na p dx nn ll D sA cz i H')
  ⟨⟨_,_,_,_,rfl⟩,st8⟩ (λi σ' H' _ h=>bQ.of h.2.cells) ?_ ?_
 .rintro i v σ' Ha hv ⟨⟨y7,y8,y9,y10,rfl⟩,st⟩
  have apM:i<63:=by
   have:=(List.getElem?_eq_some_iff.mp hv).1
   rw[List.length_map] at this
   omega
  rw[List.getElem?_map] at hv
  obtain⟨cell,_,rfl⟩:=Option.map_eq_some_iff.mp hv
  obtain⟨⟨nums,ls,prs,more,ok,hall,held,yW,hnd,hra',Sv,Sw,hwid,hmore⟩,yX,hnames,hcells⟩:=st
  obtain⟨d,ed,V7⟩:=abn (c:=cell) ok.dr hnn
  have hlen:=ok.dr.len
  obtain⟨kb,db,eb,bd⟩:=agT (c:=cell) (rows:=prs.map (·.2)) (r0:=r0) (r1:=r1) (rest:=rest) k0 az0 k1 (by omega) (λr hr=>hnk _ (ok.dr.sub r hr)) (λr hr=>Sh _ (ok.dr.sub r hr)) (λr hr=>⟨ok.dr.wd r hr,Int.le_trans (hwid r hr) (V5 (by omega))⟩)
  have hsl:=ok.len
  have ag1:∀x∈seenOf nums,(PyData.str x).canLay0=true:=λx hx=>Ss x (ok.sub x hx)
  rw[List.length_map] at hlen
  show tV K RS _ [some (.ref sc),some (.ref ra),some (.ref na),some (.int num),some (.ref p),some (.ref D),some (.ref sA),some (.int cell),y8,y9,y10] Ha _
  refine VM.vI (S:=[none,some (.fr,cA (r0::r1::rest)),none,none,none,some (.fr,fB (prs.map (·.2))),none,some (.fr,.int cell),none,none,none])
   ⟨_,_,rfl,_,_,rfl,rfl,jK yX Ss,_,_,rfl,_,_,rfl,_,_,rfl,_,_,rfl,rfl,held.has,_,_,rfl,_,_,rfl,rfl,rfl,_,_,rfl,_,_,rfl,_,_,rfl,rfl⟩ (Yy eb) λv Hb sb hv=>?_
  obtain⟨t0,xs0,rfl,hq0,z1,q1,rfl,g1,z2,q2,rfl,g2,g3⟩:=hv
  have e1:z1=.int (kb:Int):=g1
  have e3:q2=[]:=g3
  subst e1 e3
  obtain⟨t,rfl,ht⟩:=Gg g2
  refine⟨_,hq0,rfl,?_⟩
  simp only[Mf,U7,List.set_cons_zero,List.set_cons_succ]
  refine abL (C:=C) (R:=R) (dx:=dx) (nn:=nn) (ll:=ll) (p:=p) (t:=t) (d:=db) (k:=kb) rfl rfl rfl (hall.grow sb).ins ht (λH' s'=>bd.refuses ok ((hall.grow sb).grow s')) λHc sc'=>?_
  have sc:=sb.trans sc'
  try dsimp only
  refine YB (dx:=dx) (nn:=nn) (ll:=ll) (nums:=nums) (ls:=ls) (D:=D) (prs:=prs) rfl rfl (hall.grow sc) (held.grow sc) (sc _ _ yW) ag1 (ok.lr.mono λ_ _ z=>z.lr) (by omega) (λH' Z s' z=>?_) λHd sd'=>?_
  .exact abg (S:=[none,none,none,none,none,some (.fr,fB (prs.map (·.2))),none,none,none,none,none]) ⟨_,_,rfl,_,_,rfl,_,_,rfl,_,_,rfl,_,_,rfl,_,_,rfl,rfl,((held.grow sc).grow s').has,_,_,rfl,_,_,rfl,_,_,rfl,_,_,rfl,_,_,rfl,rfl⟩ (aj0 (by rw[List.length_map];omega)) z
  have sd:=sc.trans sd'
  have ag2:=hall.grow sd
  have V8:=held.grow sd
  try dsimp only
  refine VM.vI (S:=[none,some (.fr,cA (r0::r1::rest)),some (.fr,cA nms),none,none,some (.fr,fB (prs.map (·.2))),none,some (.fr,.int cell),none,none,none])
   ⟨_,_,rfl,_,_,rfl,rfl,jK (sd _ _ yX) Ss,_,_,rfl,rfl,jK (sd _ _ hnames) aj2,_,_,rfl,_,_,rfl,_,_,rfl,rfl,V8.has,_,_,rfl,_,_,rfl,rfl,rfl,_,_,rfl,_,_,rfl,_,_,rfl,rfl⟩ (R6 ed) λv He se hv=>?_
  obtain⟨tg,rfl,htg⟩:=Gg hv
  have oF:=ag2.grow se
  have KC:=V8.grow se
  have V9:=sd.trans se
  obtain⟨CP,ls2,ok2,Wa,run⟩:=step (C:=C) (R:=R) (H:=He) (R9 (by omega) V7 hwid) ok hrk hnk V7 oF
  try dsimp only
  unfold gq fU aN bA
  refine aB (v:=.ref p) rfl (aB (v:=.ref tg) rfl ⟨p,dx,nn,ll,tg,d,rfl,oF.ins,htg,run _ _ λHf ag3 stay=>?_⟩)
  have KD:Held Hf D prs:=⟨kZ oF stay KC.top,λx hx=>kZ oF stay (KC.row x hx),KC.can⟩
  have O9:=kZ oF stay (V9 _ _ yW)
  have htf:bM K Hf tg d.vals:=RK oF stay htg
  have IV:=kZ oF stay (V9 _ _ yX)
  have IW:=kZ oF stay (V9 _ _ hnames)
  have Ja:=kZ oF stay (V9 _ _ hcells)
  have ajX:(seenOf nums).length<=5:=by
   have:=pZ ok.nd ok.sub
   have:=ok.dr.r5
   omega
  try dsimp only
  refine aB (v:=.ref D) rfl (aB (v:=.ref sA) rfl (aB (v:=.ref tg) rfl ⟨D,sA,tg,prs,seenOf nums,d,rfl,KD,O9,hnd,htf,by omega,by omega,λnm a b w l e=>?_,λHg KH ag4 Wb Pa hnd2 frame hnew=>?_⟩))
  .subst e
   exact RL hrk hnk V7
  have ag5:∀b o,(∀ys,o≠ .lst ys)->Hf b=some o->b∉D::sA::prs.map (·.1):=λb o ho e z=>by
   rcases List.mem_cons.mp z with g|g
   .rw[g,KD.top] at e;cases e;exact ho _ rfl
   .rcases List.mem_cons.mp g with g|g
    .rw[g,O9] at e;cases e;exact ho _ rfl
    .obtain⟨x,hx,ex⟩:=List.mem_map.mp g
     rw[<-ex,KD.row x hx] at e;cases e;exact ho _ rfl
  have ag6:cU Hg C p dx nn ll CP ls2:=ag3.off λb o ho e=>frame b o (ag5 b o ho e) e
  have out:∀{x:Addr}{xs:List V},Hf x=some (.lst xs)->x∉D::sA::prs.map (·.1)->x∉D::sA::KH.map (·.1):=λ{x xs} e h z=>by
   rcases List.mem_cons.mp z with g|g
   .exact h (by rw[g];exact List.mem_cons_self ..)
   .rcases List.mem_cons.mp g with g|g
    .exact h (by rw[g];exact List.mem_cons_of_mem _ (List.mem_cons_self ..))
    .rcases hnew x g with g|g
     .exact h (List.mem_cons_of_mem _ (List.mem_cons_of_mem _ g))
     .rw[g] at e;cases e
  rw[<-Wa] at Pa
  have okg:Ok (r0::r1::rest) nms (KH.map (·.2)) CP ls2:=by rw[Wb];exact ok2
  have hwg:∀r∈KH.map (·.2),r.2.2.2.1<=wB (i+1):=by rw[Wb];exact R8 V7 hwid
  have abV:∃m2,seenOf CP=r0::r1::m2:=by
   rw[Wa,hmore]
   exact O2 d r0 r1 more
  obtain⟨m2,em2⟩:=abV
  exact⟨⟨_,_,_,_,rfl⟩,⟨CP,ls2,KH,m2,okg,ag6,ag4,Pa,hnd2,out IV hra',out IW Sv,out Ja Sw,hwg,em2⟩,frame _ _ hra' IV,frame _ _ Sv IW,frame _ _ Sw Ja⟩
 .rintro σ' Hz ⟨⟨y7,y8,y9,y10,rfl⟩,st⟩
  obtain⟨⟨nums,ls,prs,more,ok,hall,held,yW,hnd,hra',Sv,Sw,hwid,hmore⟩,yX,hnames,hcells⟩:=st
  obtain⟨b,eb⟩:=abK (n:=num) (x0:=none) (x1:=none) (x2:=none) (x4:=none) (x5:=none) (x6:=none) (x7:=none) (x8:=none) (x9:=none) (x10:=none)
  try dsimp only
  unfold qN ZC
  refine VM.vI (S:=[none,none,none,some (.fr,.int num),none,none,none,none,none,none,none]) ⟨_,_,rfl,_,_,rfl,_,_,rfl,_,_,rfl,rfl,rfl,_,_,rfl,_,_,rfl,_,_,rfl,_,_,rfl,_,_,rfl,_,_,rfl,_,_,rfl,rfl⟩ eb λv Hy sy hv=>?_
  cases(show v=.bl b from hv)
  cases b with
  |true=>exact hq Hy
  |false=>
   show(if false=true then _ else _)
   rw[if_neg (by decide)]
   unfold fU aN bA
   have hlr:=ok.lr.length
   obtain⟨hl8,V0⟩:=ok.len
   have hsn:(seenOf nums).length=nums.length:=List.length_map ..
   have hen:=lU ok.lr
   refine aB (v:=.ref p) rfl (aB (v:=.ref D) rfl (aB (v:=.ref sA) rfl ⟨p,dx,nn,ll,D,sA,_,ls.map (·.1),r0,r1,more,rfl,⟨nums,ls,hall.grow sy,hmore,rfl,ok.num⟩,sy _ _ held.top,?_,?_,?_,?_,?_,?_,hq⟩))
   .rw[List.length_map,List.length_map,hlr,List.length_map]
   .rw[<-hmore];exact sy _ _ yW
   .rw[List.length_map]
    rw[hmore] at hsn
    simp only[List.length_cons] at hsn
    omega
   .rw[<-hmore];exact ok.nd
   .rw[<-hmore];exact λx hx=>⟨hrk x (ok.sub x hx),(Sg x (ok.sub x hx)).1⟩
   .rw[hen]
    intro x hx
    obtain⟨r,hr,rfl⟩:=List.mem_map.mp hx
    exact Sh _ (ok.dr.sub r hr)
end
end bW
namespace bW
open PySem L2 VM EX
set_option maxHeartbeats 4000000
noncomputable def mR (e0 e1 e2 e3 e4 e5 e6:Addr):Nat->Addr
 |0=>e0
 |1=>e1
 |2=>e2
 |3=>e3
 |4=>e4
 |5=>e5
 |_=>e6
theorem all_mk {l:PySem.W.OpenLaw}{w:World}{K:PySem.W.Frag}{h:Heap}{mg:Str->Option Value}{fa C D fi TT f0 f1 f2 f3 f4 f5 f6 f7 f8 f9 f10 f11 f12 f13 f14 f15 f16 f17 f18 f19 Jb Pb Pg Ph Pj Pk Pn Pq Pr e0 e1 e2 e3 e4 e5 e6 NN0 NN1 NN2 NN3 NN4 NN5 NN6:Addr}(X:K.In h)(G:h.Ns mainGlobals mg)(hfa:mg "law"=some (.ref fa)){odi odT ani dd0 dd1 dd2 dd3 dd4 dd5 dd6 od0 an0 od1 an1 od2 an2 od3 an3 od4 an4 od5 an5 od6 an6 od7 an7 od8 an8 od9 an9 aj5 aj6 aj7 aj8 aj9 akb akc akd ake akf akg akh aki akj akk akl akm akn ako acg akp akq akr aks akt aku akv akx aky akz akA akB akC akD akE akF akG akH:Option Addr}{sli slT sl0 sl1 sl2 sl3 sl4 sl5 sl6 sl7 sl8 sl9 akI akJ akK akL akM akN akO akP akQ akR akS akT akU akV akW akX akY akZ ak0:Array (Option Value)}{nT:Nat}{oci ocT kVi dci pmi Wc cti oc0 kV0 dc0 pm0 cd0 ct0 oc1 kV1 dc1 pm1 cd1 ct1 oc2 kV2 dc2 pm2 cd2 ct2 oc3 kV3 dc3 pm3 cd3 ct3 oc4 kV4 dc4 pm4 cd4 ct4 oc5 kV5 dc5 pm5 cd5 ct5 oc6 kV6 dc6 pm6 cd6 ct6 oc7 kV7 dc7 pm7 cd7 ct7 oc8 kV8 dc8 pm8 cd8 ct8 oc9 kV9 dc9 pm9 cd9 ct9 ak1 ak2 ak3 ak4 aco ak5 ak6 ak7 ak8 ak9 acp ala alb alc ald ale acq alf alg alh ali alj acr alk alm aln alo alp acs alq alr als alu alv acu alw alx aly alz alA acv alB alC alD alE alF acw alG alH alI alJ alK acy alL alM acz acA acB Sx acC alN alO alP alQ acD alR alS alT alU alV acE alW alX alY alZ al0 acF al1 al2 al3 al4 al5 acG al6 al7 al8 al9 ama acH amb amc amd ame amf acI amg amh ami amj amk acJ aml amm amn amo amq acK amr ams amt amu amv acL amw:Value}{nm0 qn0 nm1 qn1 nm2 qn2 nm3 qn3 nm4 qn4 nm5 qn5 nm6 qn6:Str}{bs0 acM bs1 acN bs2 acO bs3 acP bs4 acQ bs5 acR bs6 acS:List Value}{sn0 sn1 sn2 sn3 sn4 sn5 sn6:List Str}{ab0 ab1 ab2 ab3 ab4 ab5 ab6:Bool}{acT acU acV acW acX acY acZ:Option Bool}{ac0 ac1 ac2 ac3 ac4 ac5 ac6 ac7 ac8 ac9 ada adb ade adf adg adh adi adk adl adn ado adp adq adt adu adv adw adx ady adz adA adB adC adD adE:Option Value}{yZ xu BZ Sy YC:Tok}
  (a0:PySem.W.nsIn K mainGlobals "look_at_name"=some (some (.ref f0)))
  (l0:K.lookup f0=some ⟨oc0,od0,.func (PySem.W.fnOf "look_at_name" "look_at_name" (bH (top 17)) (aU (top 17)) (aj (top 17)) .none kV0 dc0 pm0 an0 cd0 ct0),sl0⟩)
  (c0:PySem.W.codeIn K cd0 "look_at_name"=true)
  (k0:PySem.W.keepIn K (.ref f0)=true)
  (a1:PySem.W.nsIn K mainGlobals "_law_cell_at"=some (some (.ref f1)))
  (l1:K.lookup f1=some ⟨oc1,od1,.func (PySem.W.fnOf "_law_cell_at" "_law_cell_at" (bH (top 19)) (aU (top 19)) (aj (top 19)) .none kV1 dc1 pm1 an1 cd1 ct1),sl1⟩)
  (c1:PySem.W.codeIn K cd1 "_law_cell_at"=true)
  (k1:PySem.W.keepIn K (.ref f1)=true)
  (a2:PySem.W.nsIn K mainGlobals "_law_mixed"=some (some (.ref f2)))
  (l2:K.lookup f2=some ⟨oc2,od2,.func (PySem.W.fnOf "_law_mixed" "_law_mixed" (bH (top 20)) (aU (top 20)) (aj (top 20)) .none kV2 dc2 pm2 an2 cd2 ct2),sl2⟩)
  (c2:PySem.W.codeIn K cd2 "_law_mixed"=true)
  (k2:PySem.W.keepIn K (.ref f2)=true)
  (a3:PySem.W.nsIn K mainGlobals "_law_words"=some (some (.ref f3)))
  (l3:K.lookup f3=some ⟨oc3,od3,.func (PySem.W.fnOf "_law_words" "_law_words" (bH (top 21)) (aU (top 21)) (aj (top 21)) .none kV3 dc3 pm3 an3 cd3 ct3),sl3⟩)
  (c3:PySem.W.codeIn K cd3 "_law_words"=true)
  (k3:PySem.W.keepIn K (.ref f3)=true)
  (a4:PySem.W.nsIn K mainGlobals "_law_length"=some (some (.ref f4)))
  (l4:K.lookup f4=some ⟨oc4,od4,.func (PySem.W.fnOf "_law_length" "_law_length" (bH (top 22)) (aU (top 22)) (aj (top 22)) .none kV4 dc4 pm4 an4 cd4 ct4),sl4⟩)
  (c4:PySem.W.codeIn K cd4 "_law_length"=true)
  (k4:PySem.W.keepIn K (.ref f4)=true)
  (a5:PySem.W.nsIn K mainGlobals "_law_width"=some (some (.ref f5)))
  (l5:K.lookup f5=some ⟨oc5,od5,.func (PySem.W.fnOf "_law_width" "_law_width" (bH (top 23)) (aU (top 23)) (aj (top 23)) .none kV5 dc5 pm5 an5 cd5 ct5),sl5⟩)
  (c5:PySem.W.codeIn K cd5 "_law_width"=true)
  (k5:PySem.W.keepIn K (.ref f5)=true)
  (a6:PySem.W.nsIn K mainGlobals "_law_fresh"=some (some (.ref f6)))
  (l6:K.lookup f6=some ⟨oc6,od6,.func (PySem.W.fnOf "_law_fresh" "_law_fresh" (bH (top 24)) (aU (top 24)) (aj (top 24)) .none kV6 dc6 pm6 an6 cd6 ct6),sl6⟩)
  (c6:PySem.W.codeIn K cd6 "_law_fresh"=true)
  (k6:PySem.W.keepIn K (.ref f6)=true)
  (a7:PySem.W.nsIn K mainGlobals "_law_deed"=some (some (.ref f7)))
  (l7:K.lookup f7=some ⟨oc7,od7,.func (PySem.W.fnOf "_law_deed" "_law_deed" (bH (top 25)) (aU (top 25)) (aj (top 25)) .none kV7 dc7 pm7 an7 cd7 ct7),sl7⟩)
  (c7:PySem.W.codeIn K cd7 "_law_deed"=true)
  (k7:PySem.W.keepIn K (.ref f7)=true)
  (a8:PySem.W.nsIn K mainGlobals "_law_do"=some (some (.ref f8)))
  (l8:K.lookup f8=some ⟨oc8,od8,.func (PySem.W.fnOf "_law_do" "_law_do" (bH (top 26)) (aU (top 26)) (aj (top 26)) .none kV8 dc8 pm8 an8 cd8 ct8),sl8⟩)
  (c8:PySem.W.codeIn K cd8 "_law_do"=true)
  (k8:PySem.W.keepIn K (.ref f8)=true)
  (a9:PySem.W.nsIn K mainGlobals "_law_noted"=some (some (.ref f9)))
  (l9:K.lookup f9=some ⟨oc9,od9,.func (PySem.W.fnOf "_law_noted" "_law_noted" (bH (top 27)) (aU (top 27)) (aj (top 27)) .none kV9 dc9 pm9 an9 cd9 ct9),sl9⟩)
  (c9:PySem.W.codeIn K cd9 "_law_noted"=true)
  (k9:PySem.W.keepIn K (.ref f9)=true)
  (a10:PySem.W.nsIn K mainGlobals "_law_is"=some (some (.ref f10)))
  (l10:K.lookup f10=some ⟨ak1,aj5,.func (PySem.W.fnOf "_law_is" "_law_is" (bH (top 28)) (aU (top 28)) (aj (top 28)) .none ak2 ak3 ak4 aj6 aco ak5),akI⟩)
  (c10:PySem.W.codeIn K aco "_law_is"=true)
  (k10:PySem.W.keepIn K (.ref f10)=true)
  (a11:PySem.W.nsIn K mainGlobals "_law_caught"=some (some (.ref f11)))
  (l11:K.lookup f11=some ⟨ak6,aj7,.func (PySem.W.fnOf "_law_caught" "_law_caught" (bH (top 29)) (aU (top 29)) (aj (top 29)) .none ak7 ak8 ak9 aj8 acp ala),akJ⟩)
  (c11:PySem.W.codeIn K acp "_law_caught"=true)
  (k11:PySem.W.keepIn K (.ref f11)=true)
  (a12:PySem.W.nsIn K mainGlobals "_law_begun"=some (some (.ref f12)))
  (l12:K.lookup f12=some ⟨alb,aj9,.func (PySem.W.fnOf "_law_begun" "_law_begun" (bH (top 30)) (aU (top 30)) (aj (top 30)) .none alc ald ale akb acq alf),akK⟩)
  (c12:PySem.W.codeIn K acq "_law_begun"=true)
  (k12:PySem.W.keepIn K (.ref f12)=true)
  (a13:PySem.W.nsIn K mainGlobals "_law_no_name"=some (some (.ref f13)))
  (l13:K.lookup f13=some ⟨alg,akc,.func (PySem.W.fnOf "_law_no_name" "_law_no_name" (bH (top 31)) (aU (top 31)) (aj (top 31)) .none alh ali alj akd acr alk),akL⟩)
  (c13:PySem.W.codeIn K acr "_law_no_name"=true)
  (k13:PySem.W.keepIn K (.ref f13)=true)
  (a14:PySem.W.nsIn K mainGlobals "_law_bad_lay"=some (some (.ref f14)))
  (l14:K.lookup f14=some ⟨alm,ake,.func (PySem.W.fnOf "_law_bad_lay" "_law_bad_lay" (bH (top 32)) (aU (top 32)) (aj (top 32)) .none aln alo alp akf acs alq),akM⟩)
  (c14:PySem.W.codeIn K acs "_law_bad_lay"=true)
  (k14:PySem.W.keepIn K (.ref f14)=true)
  (a15:PySem.W.nsIn K mainGlobals "_law_bad"=some (some (.ref f15)))
  (l15:K.lookup f15=some ⟨alr,akg,.func (PySem.W.fnOf "_law_bad" "_law_bad" (bH (top 33)) (aU (top 33)) (aj (top 33)) .none als alu alv akh acu alw),akN⟩)
  (c15:PySem.W.codeIn K acu "_law_bad"=true)
  (Wd:PySem.W.keepIn K (.ref f15)=true)
  (a16:PySem.W.nsIn K mainGlobals "_law_place"=some (some (.ref f16)))
  (l16:K.lookup f16=some ⟨alx,aki,.func (PySem.W.fnOf "_law_place" "_law_place" (bH (top 34)) (aU (top 34)) (aj (top 34)) .none aly alz alA akj acv alB),akO⟩)
  (c16:PySem.W.codeIn K acv "_law_place"=true)
  (Wf:PySem.W.keepIn K (.ref f16)=true)
  (a17:PySem.W.nsIn K mainGlobals "_law_full"=some (some (.ref f17)))
  (l17:K.lookup f17=some ⟨alC,akk,.func (PySem.W.fnOf "_law_full" "_law_full" (bH (top 35)) (aU (top 35)) (aj (top 35)) .none alD alE alF akl acw alG),akP⟩)
  (c17:PySem.W.codeIn K acw "_law_full"=true)
  (Wg:PySem.W.keepIn K (.ref f17)=true)
  (a18:PySem.W.nsIn K mainGlobals "_law_begins"=some (some (.ref f18)))
  (l18:K.lookup f18=some ⟨alH,akm,.func (PySem.W.fnOf "_law_begins" "_law_begins" (bH (top 36)) (aU (top 36)) (aj (top 36)) .none alI alJ alK akn acy alL),akQ⟩)
  (c18:PySem.W.codeIn K acy "_law_begins"=true)
  (Wh:PySem.W.keepIn K (.ref f18)=true)
  (a19:PySem.W.nsIn K mainGlobals "law"=some (some (.ref f19)))
  (l19:K.lookup f19=some ⟨alM,ako,.func (PySem.W.fnOf "law" "law" (bH (top 37)) (aU (top 37)) (aj (top 37)) .none acz acA acB acg Sx acC),akR⟩)
  (c19:PySem.W.codeIn K Sx "law"=true)
  (k19:PySem.W.keepIn K (.ref f19)=true)
  (aC:PySem.W.nsIn K mainGlobals "NamedHall"=some (some (.ref C)))
  (pg:PySem.W.plainGet K C Str.empty=true)
  (hd:PySem.W.hasDictIn K C=true)
  (po:PySem.W.plainOver K C=true)
  (sa:PySem.W.findIn K (.ref C) "__setattr__"=some (some (.builtin "object.__setattr__")))
  (no1:PySem.W.findIn K (.ref C) "numbers"=some none)
  (no2:PySem.W.findIn K (.ref C) "laid"=some none)
  (mk:PySem.W.makesIn K C=true)
  (kC:PySem.W.keepIn K (.ref C)=true)
  (a20:PySem.W.findIn K (.ref C) "__init__"=some (some (.ref Jb)))
  (l20:K.lookup Jb=some ⟨alN,akp,.func (PySem.W.fnOf "__init__" "NamedHall.__init__" (bH (bf 0)) (aU (bf 0)) (aj (bf 0)) .none alO alP alQ akq acD alR),akS⟩)
  (c20:PySem.W.codeIn K acD "NamedHall.__init__"=true)
  (Wi:PySem.W.keepIn K (.ref Jb)=true)
  (n20:PySem.W.isFn K (.ref Jb)=true)
  (a21:PySem.W.findIn K (.ref C) "lay"=some (some (.ref Pb)))
  (l21:K.lookup Pb=some ⟨alS,akr,.func (PySem.W.fnOf "lay" "NamedHall.lay" (bH (bf 1)) (aU (bf 1)) (aj (bf 1)) .none alT alU alV aks acE alW),akT⟩)
  (c21:PySem.W.codeIn K acE "NamedHall.lay"=true)
  (Wj:PySem.W.keepIn K (.ref Pb)=true)
  (n21:PySem.W.isFn K (.ref Pb)=true)
  (a22:PySem.W.findIn K (.ref C) "shut"=some (some (.ref Pg)))
  (l22:K.lookup Pg=some ⟨alX,akt,.func (PySem.W.fnOf "shut" "NamedHall.shut" (bH (bf 2)) (aU (bf 2)) (aj (bf 2)) .none alY alZ al0 aku acF al1),akU⟩)
  (c22:PySem.W.codeIn K acF "NamedHall.shut"=true)
  (Wk:PySem.W.keepIn K (.ref Pg)=true)
  (n22:PySem.W.isFn K (.ref Pg)=true)
  (a23:PySem.W.findIn K (.ref C) "widen"=some (some (.ref Ph)))
  (l23:K.lookup Ph=some ⟨al2,akv,.func (PySem.W.fnOf "widen" "NamedHall.widen" (bH (bf 3)) (aU (bf 3)) (aj (bf 3)) .none al3 al4 al5 akx acG al6),akV⟩)
  (c23:PySem.W.codeIn K acG "NamedHall.widen"=true)
  (Wm:PySem.W.keepIn K (.ref Ph)=true)
  (n23:PySem.W.isFn K (.ref Ph)=true)
  (a24:PySem.W.findIn K (.ref C) "narrow"=some (some (.ref Pj)))
  (l24:K.lookup Pj=some ⟨al7,aky,.func (PySem.W.fnOf "narrow" "NamedHall.narrow" (bH (bf 4)) (aU (bf 4)) (aj (bf 4)) .none al8 al9 ama akz acH amb),akW⟩)
  (c24:PySem.W.codeIn K acH "NamedHall.narrow"=true)
  (Wn:PySem.W.keepIn K (.ref Pj)=true)
  (n24:PySem.W.isFn K (.ref Pj)=true)
  (a25:PySem.W.findIn K (.ref C) "look_for"=some (some (.ref Pk)))
  (l25:K.lookup Pk=some ⟨amc,akA,.func (PySem.W.fnOf "look_for" "NamedHall.look_for" (bH (bf 5)) (aU (bf 5)) (aj (bf 5)) .none amd ame amf akB acI amg),akX⟩)
  (c25:PySem.W.codeIn K acI "NamedHall.look_for"=true)
  (Wo:PySem.W.keepIn K (.ref Pk)=true)
  (n25:PySem.W.isFn K (.ref Pk)=true)
  (a26:PySem.W.findIn K (.ref C) "change_width"=some (some (.ref Pn)))
  (l26:K.lookup Pn=some ⟨amh,akC,.func (PySem.W.fnOf "change_width" "NamedHall.change_width" (bH (bf 6)) (aU (bf 6)) (aj (bf 6)) .none ami amj amk akD acJ aml),akY⟩)
  (c26:PySem.W.codeIn K acJ "NamedHall.change_width"=true)
  (Wq:PySem.W.keepIn K (.ref Pn)=true)
  (n26:PySem.W.isFn K (.ref Pn)=true)
  (a27:PySem.W.findIn K (.ref C) "rooms"=some (some (.ref Pq)))
  (l27:K.lookup Pq=some ⟨amm,akE,.func (PySem.W.fnOf "rooms" "NamedHall.rooms" (bH (bf 7)) (aU (bf 7)) (aj (bf 7)) .none amn amo amq akF acK amr),akZ⟩)
  (c27:PySem.W.codeIn K acK "NamedHall.rooms"=true)
  (Wr:PySem.W.keepIn K (.ref Pq)=true)
  (n27:PySem.W.isFn K (.ref Pq)=true)
  (a28:PySem.W.findIn K (.ref C) "passages"=some (some (.ref Pr)))
  (l28:K.lookup Pr=some ⟨ams,akG,.func (PySem.W.fnOf "passages" "NamedHall.passages" (bH (bf 8)) (aU (bf 8)) (aj (bf 8)) .none amt amu amv akH acL amw),ak0⟩)
  (c28:PySem.W.codeIn K acL "NamedHall.passages"=true)
  (Ws:PySem.W.keepIn K (.ref Pr)=true)
  (n28:PySem.W.isFn K (.ref Pr)=true)
  (aD:PySem.W.nsIn K mainGlobals "HallError"=some (some (.ref D)))
  (gx0:PySem.W.nsIn K mainGlobals "NoHall"=some (some (.ref e0)))
  (xo0:K.lookup e0=some (excClassObj nm0 qn0 e0 NN0 bs0 (.ref D::EX.iH) true sn0 acM ab0 acT dd0 ac0 ac1 ac2 ac3 ac4 "ValueError.__new__"))
  (SJ:PySem.W.findIn K (.ref e0) "__getattribute__"=some (some (.builtin "BaseException.__getattribute__")))
  (SM:PySem.W.findIn K (.ref e0) "__getattr__"=some none)
  (SN:PySem.W.hasDictIn K e0=true)
  (KJ:PySem.W.mroIn K e0 (.type "BaseException")=some true)
  (SQ:PySem.W.mroIn K e0 (.type "object")=some true)
  (SX:PySem.W.findIn K (.ref e0) "__class__"=some (some (.builtin "object.__class__")))
  (ke0:PySem.W.keepIn K (.ref e0)=true)
  (S5:PySem.W.mroIn K e0 (.ref D)=some true)
  (gx1:PySem.W.nsIn K mainGlobals "NoName"=some (some (.ref e1)))
  (xo1:K.lookup e1=some (excClassObj nm1 qn1 e1 NN1 bs1 (.ref D::EX.iH) true sn1 acN ab1 acU dd1 ac5 ac6 ac7 ac8 ac9 "ValueError.__new__"))
  (S6:PySem.W.findIn K (.ref e1) "__getattribute__"=some (some (.builtin "BaseException.__getattribute__")))
  (S7:PySem.W.findIn K (.ref e1) "__getattr__"=some none)
  (S8:PySem.W.hasDictIn K e1=true)
  (S9:PySem.W.mroIn K e1 (.type "BaseException")=some true)
  (Tc:PySem.W.mroIn K e1 (.type "object")=some true)
  (Td:PySem.W.findIn K (.ref e1) "__class__"=some (some (.builtin "object.__class__")))
  (ke1:PySem.W.keepIn K (.ref e1)=true)
  (Te:PySem.W.mroIn K e1 (.ref D)=some true)
  (iI1:PySem.W.findIn K (.ref e1) "__init__"=some (some (.builtin "ValueError.__init__")))
  (gx2:PySem.W.nsIn K mainGlobals "Twice"=some (some (.ref e2)))
  (xo2:K.lookup e2=some (excClassObj nm2 qn2 e2 NN2 bs2 (.ref D::EX.iH) true sn2 acO ab2 acV dd2 ada adb ade adf adg "ValueError.__new__"))
  (Tf:PySem.W.findIn K (.ref e2) "__getattribute__"=some (some (.builtin "BaseException.__getattribute__")))
  (Ti:PySem.W.findIn K (.ref e2) "__getattr__"=some none)
  (Tj:PySem.W.hasDictIn K e2=true)
  (Tn:PySem.W.mroIn K e2 (.type "BaseException")=some true)
  (Tp:PySem.W.mroIn K e2 (.type "object")=some true)
  (Tq:PySem.W.findIn K (.ref e2) "__class__"=some (some (.builtin "object.__class__")))
  (ke2:PySem.W.keepIn K (.ref e2)=true)
  (Tr:PySem.W.mroIn K e2 (.ref D)=some true)
  (iI2:PySem.W.findIn K (.ref e2) "__init__"=some (some (.builtin "ValueError.__init__")))
  (gx3:PySem.W.nsIn K mainGlobals "TooMany"=some (some (.ref e3)))
  (xo3:K.lookup e3=some (excClassObj nm3 qn3 e3 NN3 bs3 (.ref D::EX.iH) true sn3 acP ab3 acW dd3 adh adi adk adl adn "ValueError.__new__"))
  (Tt:PySem.W.findIn K (.ref e3) "__getattribute__"=some (some (.builtin "BaseException.__getattribute__")))
  (Tv:PySem.W.findIn K (.ref e3) "__getattr__"=some none)
  (Tw:PySem.W.hasDictIn K e3=true)
  (Tz:PySem.W.mroIn K e3 (.type "BaseException")=some true)
  (TF:PySem.W.mroIn K e3 (.type "object")=some true)
  (TJ:PySem.W.findIn K (.ref e3) "__class__"=some (some (.builtin "object.__class__")))
  (ke3:PySem.W.keepIn K (.ref e3)=true)
  (TQ:PySem.W.mroIn K e3 (.ref D)=some true)
  (iI3:PySem.W.findIn K (.ref e3) "__init__"=some (some (.builtin "ValueError.__init__")))
  (gx4:PySem.W.nsIn K mainGlobals "NoPassage"=some (some (.ref e4)))
  (xo4:K.lookup e4=some (excClassObj nm4 qn4 e4 NN4 bs4 (.ref D::EX.iH) true sn4 acQ ab4 acX dd4 ado adp adq adt adu "ValueError.__new__"))
  (TV:PySem.W.findIn K (.ref e4) "__getattribute__"=some (some (.builtin "BaseException.__getattribute__")))
  (TY:PySem.W.findIn K (.ref e4) "__getattr__"=some none)
  (T3:PySem.W.hasDictIn K e4=true)
  (T4:PySem.W.mroIn K e4 (.type "BaseException")=some true)
  (T5:PySem.W.mroIn K e4 (.type "object")=some true)
  (T6:PySem.W.findIn K (.ref e4) "__class__"=some (some (.builtin "object.__class__")))
  (ke4:PySem.W.keepIn K (.ref e4)=true)
  (T7:PySem.W.mroIn K e4 (.ref D)=some true)
  (iI4:PySem.W.findIn K (.ref e4) "__init__"=some (some (.builtin "ValueError.__init__")))
  (gx5:PySem.W.nsIn K mainGlobals "NoWidth"=some (some (.ref e5)))
  (xo5:K.lookup e5=some (excClassObj nm5 qn5 e5 NN5 bs5 (.ref D::EX.iH) true sn5 acR ab5 acY dd5 adv adw adx ady adz "ValueError.__new__"))
  (T8:PySem.W.findIn K (.ref e5) "__getattribute__"=some (some (.builtin "BaseException.__getattribute__")))
  (T9:PySem.W.findIn K (.ref e5) "__getattr__"=some none)
  (Ua:PySem.W.hasDictIn K e5=true)
  (Ub:PySem.W.mroIn K e5 (.type "BaseException")=some true)
  (Uc:PySem.W.mroIn K e5 (.type "object")=some true)
  (Ud:PySem.W.findIn K (.ref e5) "__class__"=some (some (.builtin "object.__class__")))
  (ke5:PySem.W.keepIn K (.ref e5)=true)
  (Ue:PySem.W.mroIn K e5 (.ref D)=some true)
  (iI5:PySem.W.findIn K (.ref e5) "__init__"=some (some (.builtin "ValueError.__init__")))
  (gx6:PySem.W.nsIn K mainGlobals "NoLine"=some (some (.ref e6)))
  (xo6:K.lookup e6=some (excClassObj nm6 qn6 e6 NN6 bs6 (.ref D::EX.iH) true sn6 acS ab6 acZ dd6 adA adB adC adD adE "ValueError.__new__"))
  (Ug:PySem.W.findIn K (.ref e6) "__getattribute__"=some (some (.builtin "BaseException.__getattribute__")))
  (Uh:PySem.W.findIn K (.ref e6) "__getattr__"=some none)
  (Ui:PySem.W.hasDictIn K e6=true)
  (Uj:PySem.W.mroIn K e6 (.type "BaseException")=some true)
  (Uk:PySem.W.mroIn K e6 (.type "object")=some true)
  (Ul:PySem.W.findIn K (.ref e6) "__class__"=some (some (.builtin "object.__class__")))
  (ke6:PySem.W.keepIn K (.ref e6)=true)
  (Um:PySem.W.mroIn K e6 (.ref D)=some true)
  (iI6:PySem.W.findIn K (.ref e6) "__init__"=some (some (.builtin "ValueError.__init__")))
  (xt:PySem.W.excIn K D [.type "ValueError",.type "Exception",.type "BaseException",.type "object"] "ValueError.__new__"=true)
  (dg:PySem.W.specialIn K (.ref D) "__getattribute__"=some (some (.builtin "type.__getattribute__")))
  (dr:PySem.W.readsIn K D (.type "type")=true)
  (di:PySem.W.findCls K (.ref D) (.type "type") "__init__"=some (.val (.builtin "ValueError.__init__")))
  (x7:PySem.W.specialIn K (.builtin "object.__class__") "__get__"=some (some (.builtin "getset_descriptor.__get__")))
  (x8:PySem.W.takesIn K (.builtin "object.__class__")=some true)
  (iI:PySem.W.findIn K (.ref e0) "__init__"=some (some (.ref fi)))
  (iF:PySem.W.isFn K (.ref fi)=true)
  (sa0:PySem.W.findIn K (.ref e0) "__setattr__"=some (some (.builtin "object.__setattr__")))
  (pl:PySem.W.findIn K (.ref e0) "place"=some none)
  (cc:PySem.W.mroIn K e0 (.ref e0)=some true)
  (bD:PySem.W.mroIn K D (.type "BaseException")=some true)
  (tC:PySem.W.typeIn K (.ref e0)=some (.type "type"))
  (tD:PySem.W.typeIn K (.ref D)=some (.type "type"))
  (li:K.lookup fi=some ⟨oci,odi,.func (PySem.W.fnOf "__init__" "NoHall.__init__" (bH nY) (aU nY) (aj nY) (.ref TT) kVi dci pmi ani Wc cti),sli⟩)
  (lT:K.lookup TT=some ⟨ocT,odT,.seq #[.none] nT,slT⟩)
  (ci:PySem.W.codeIn K Wc "NoHall.__init__"=true)
  (p00:PySem.W.kitOne K (.ref e0) (.ref e0)=some true)
  (p01:PySem.W.kitOne K (.ref e1) (.ref e0)=some false)
  (p02:PySem.W.kitOne K (.ref e2) (.ref e0)=some false)
  (p03:PySem.W.kitOne K (.ref e3) (.ref e0)=some false)
  (p04:PySem.W.kitOne K (.ref e4) (.ref e0)=some false)
  (p05:PySem.W.kitOne K (.ref e5) (.ref e0)=some false)
  (p06:PySem.W.kitOne K (.ref e6) (.ref e0)=some false)
  (p10:PySem.W.kitOne K (.ref e0) (.ref e1)=some false)
  (p11:PySem.W.kitOne K (.ref e1) (.ref e1)=some true)
  (p12:PySem.W.kitOne K (.ref e2) (.ref e1)=some false)
  (p13:PySem.W.kitOne K (.ref e3) (.ref e1)=some false)
  (p14:PySem.W.kitOne K (.ref e4) (.ref e1)=some false)
  (p15:PySem.W.kitOne K (.ref e5) (.ref e1)=some false)
  (p16:PySem.W.kitOne K (.ref e6) (.ref e1)=some false)
  (p20:PySem.W.kitOne K (.ref e0) (.ref e2)=some false)
  (p21:PySem.W.kitOne K (.ref e1) (.ref e2)=some false)
  (p22:PySem.W.kitOne K (.ref e2) (.ref e2)=some true)
  (p23:PySem.W.kitOne K (.ref e3) (.ref e2)=some false)
  (p24:PySem.W.kitOne K (.ref e4) (.ref e2)=some false)
  (p25:PySem.W.kitOne K (.ref e5) (.ref e2)=some false)
  (p26:PySem.W.kitOne K (.ref e6) (.ref e2)=some false)
  (p30:PySem.W.kitOne K (.ref e0) (.ref e3)=some false)
  (p31:PySem.W.kitOne K (.ref e1) (.ref e3)=some false)
  (p32:PySem.W.kitOne K (.ref e2) (.ref e3)=some false)
  (p33:PySem.W.kitOne K (.ref e3) (.ref e3)=some true)
  (p34:PySem.W.kitOne K (.ref e4) (.ref e3)=some false)
  (p35:PySem.W.kitOne K (.ref e5) (.ref e3)=some false)
  (p36:PySem.W.kitOne K (.ref e6) (.ref e3)=some false)
  (p40:PySem.W.kitOne K (.ref e0) (.ref e4)=some false)
  (p41:PySem.W.kitOne K (.ref e1) (.ref e4)=some false)
  (p42:PySem.W.kitOne K (.ref e2) (.ref e4)=some false)
  (p43:PySem.W.kitOne K (.ref e3) (.ref e4)=some false)
  (p44:PySem.W.kitOne K (.ref e4) (.ref e4)=some true)
  (p45:PySem.W.kitOne K (.ref e5) (.ref e4)=some false)
  (p46:PySem.W.kitOne K (.ref e6) (.ref e4)=some false)
  (p50:PySem.W.kitOne K (.ref e0) (.ref e5)=some false)
  (p51:PySem.W.kitOne K (.ref e1) (.ref e5)=some false)
  (p52:PySem.W.kitOne K (.ref e2) (.ref e5)=some false)
  (p53:PySem.W.kitOne K (.ref e3) (.ref e5)=some false)
  (p54:PySem.W.kitOne K (.ref e4) (.ref e5)=some false)
  (p55:PySem.W.kitOne K (.ref e5) (.ref e5)=some true)
  (p56:PySem.W.kitOne K (.ref e6) (.ref e5)=some false)
  (p60:PySem.W.kitOne K (.ref e0) (.ref e6)=some false)
  (p61:PySem.W.kitOne K (.ref e1) (.ref e6)=some false)
  (p62:PySem.W.kitOne K (.ref e2) (.ref e6)=some false)
  (p63:PySem.W.kitOne K (.ref e3) (.ref e6)=some false)
  (p64:PySem.W.kitOne K (.ref e4) (.ref e6)=some false)
  (p65:PySem.W.kitOne K (.ref e5) (.ref e6)=some false)
  (p66:PySem.W.kitOne K (.ref e6) (.ref e6)=some true)
  (pv0:PySem.W.kitOne K (.ref e0) (.type "ValueError")=some true)
  (pv1:PySem.W.kitOne K (.ref e1) (.type "ValueError")=some true)
  (pv2:PySem.W.kitOne K (.ref e2) (.type "ValueError")=some true)
  (pv3:PySem.W.kitOne K (.ref e3) (.type "ValueError")=some true)
  (pv4:PySem.W.kitOne K (.ref e4) (.type "ValueError")=some true)
  (pv5:PySem.W.kitOne K (.ref e5) (.type "ValueError")=some true)
  (pv6:PySem.W.kitOne K (.ref e6) (.type "ValueError")=some true)
  (mU:PySem.W.nsIn K mainGlobals "LONGEST_NAME"=some (some (.int 12 yZ)))
  (lV:PySem.W.nsIn K mainGlobals "MOST_PASSAGES"=some (some (.int 60 xu)))
  (qg:PySem.W.nsIn K mainGlobals "MOST_ROOMS"=some (some (.int 40 BZ)))
  (z6:PySem.W.nsIn K mainGlobals "START"=some (some (.int 0 Sy)))
  (Gy:PySem.W.nsIn K mainGlobals "GOAL"=some (some (.int 1 YC)))
  (KN:PySem.W.nsIn K mainGlobals "len"=some none)
  (Gz:PySem.W.nsIn K mainGlobals "list"=some none)
  (z7:PySem.W.nsIn K mainGlobals "range"=some none)
  (rE:PySem.W.nsIn K mainGlobals "enumerate"=some none)
  (KQ:PySem.W.nsIn K mainGlobals "zip"=some none)
  (KR:PySem.W.nsIn K mainGlobals "abs"=some none)
  (KY:PySem.W.nsIn K mainGlobals "sum"=some none)
  (KZ:PySem.W.nsIn K mainGlobals "min"=some none)
  (K1:PySem.W.nsIn K mainGlobals "max"=some none)
  (K3:PySem.W.nsIn K mainGlobals "int"=some none)
  (GC:PySem.W.nsIn K mainGlobals "bool"=some none)
  (z8:PySem.W.nsIn K mainGlobals "tuple"=some none)
  (K4:PySem.W.nsIn K mainGlobals "str"=some none)
  (xG:PySem.W.nsIn K mainGlobals "sorted"=some none)
  (K5:PySem.W.nsIn K mainGlobals "set"=some none)
  (qj:PySem.W.nsIn K mainGlobals "isinstance"=some none)
  (K6:PySem.W.nsIn K mainGlobals "all"=some none)
  (ql:PySem.W.nsIn K mainGlobals "ValueError"=some none):
  ∃fd:FuncData,(∀(s:Shared) (v:Value),BindsTo s fd ⟨[v],[]⟩ [("_law_script",v)])/\∀base:Heap,K.In base->base.Ns mainGlobals mg->aW l.prog w K mg base dG 7 fa fd ["_law_script"] (Cq K):=by
 have e:=hfa.symm.trans (PySem.W.mg_of X G a19)
 cases e
 have B:Bl mg:=⟨PySem.W.mg_none_of X G KN,PySem.W.mg_none_of X G Gz,PySem.W.mg_none_of X G z7,PySem.W.mg_none_of X G rE,PySem.W.mg_none_of X G KQ,PySem.W.mg_none_of X G KR,PySem.W.mg_none_of X G KY,PySem.W.mg_none_of X G KZ,PySem.W.mg_none_of X G K1,PySem.W.mg_none_of X G K3,PySem.W.mg_none_of X G GC,PySem.W.mg_none_of X G z8,PySem.W.mg_none_of X G K4,PySem.W.mg_none_of X G xG,PySem.W.mg_none_of X G K5,PySem.W.mg_none_of X G qj⟩
 have cl:Cl K C:=⟨⟨pg,hd,po,sa⟩,no1,no2⟩
 have cx2:Q8 K mg e0 D fi:=⟨⟨⟨nm0,qn0,NN0,bs0,sn0,acM,ab0,acT,dd0,ac0,ac1,ac2,ac3,ac4,xo0⟩,EX.iC xt⟩,⟨dg,dr,di⟩,⟨⟨SJ,SM,SN,KJ,SQ⟩,SX,x7,x8⟩,iI,iF,ke0,sa0,pl,PySem.W.mg_of X G gx0,PySem.W.mg_of X G aD,cc,S5,KJ,bD,tC,tD⟩
 have cr1:wY K mg e1 D "NoName":=⟨⟨⟨nm1,qn1,NN1,bs1,sn1,acN,ab1,acU,dd1,ac5,ac6,ac7,ac8,ac9,xo1⟩,EX.iC xt⟩,⟨⟨S6,S7,S8,S9,Tc⟩,Td,x7,x8⟩,iI1,ke1,PySem.W.mg_of X G gx1,Te⟩
 have cr2:wY K mg e2 D "Twice":=⟨⟨⟨nm2,qn2,NN2,bs2,sn2,acO,ab2,acV,dd2,ada,adb,ade,adf,adg,xo2⟩,EX.iC xt⟩,⟨⟨Tf,Ti,Tj,Tn,Tp⟩,Tq,x7,x8⟩,iI2,ke2,PySem.W.mg_of X G gx2,Tr⟩
 have cr3:wY K mg e3 D "TooMany":=⟨⟨⟨nm3,qn3,NN3,bs3,sn3,acP,ab3,acW,dd3,adh,adi,adk,adl,adn,xo3⟩,EX.iC xt⟩,⟨⟨Tt,Tv,Tw,Tz,TF⟩,TJ,x7,x8⟩,iI3,ke3,PySem.W.mg_of X G gx3,TQ⟩
 have cr4:wY K mg e4 D "NoPassage":=⟨⟨⟨nm4,qn4,NN4,bs4,sn4,acQ,ab4,acX,dd4,ado,adp,adq,adt,adu,xo4⟩,EX.iC xt⟩,⟨⟨TV,TY,T3,T4,T5⟩,T6,x7,x8⟩,iI4,ke4,PySem.W.mg_of X G gx4,T7⟩
 have cr5:wY K mg e5 D "NoWidth":=⟨⟨⟨nm5,qn5,NN5,bs5,sn5,acR,ab5,acY,dd5,adv,adw,adx,ady,adz,xo5⟩,EX.iC xt⟩,⟨⟨T8,T9,Ua,Ub,Uc⟩,Ud,x7,x8⟩,iI5,ke5,PySem.W.mg_of X G gx5,Ue⟩
 have cr6:wY K mg e6 D "NoLine":=⟨⟨⟨nm6,qn6,NN6,bs6,sn6,acS,ab6,acZ,dd6,adA,adB,adC,adD,adE,xo6⟩,EX.iC xt⟩,⟨⟨Ug,Uh,Ui,Uj,Uk⟩,Ul,x7,x8⟩,iI6,ke6,PySem.W.mg_of X G gx6,Um⟩
 have cn:ji K mg (mR e0 e1 e2 e3 e4 e5 e6) D fi:=⟨cx2,λk h1 h6=>by
  have hk:k=1\/k=2\/k=3\/k=4\/k=5\/k=6:=by omega
  rcases hk with rfl|rfl|rfl|rfl|rfl|rfl
  .exact cr1
  .exact cr2
  .exact cr3
  .exact cr4
  .exact cr5
  .exact cr6⟩
 have kit:aa8 K mg (mR e0 e1 e2 e3 e4 e5 e6):=by
  refine⟨λj k hj hk=>?_,λk hk=>?_,PySem.W.mg_none_of X G ql⟩
  .have hj:j=0\/j=1\/j=2\/j=3\/j=4\/j=5\/j=6:=by omega
   have hk:k=0\/k=1\/k=2\/k=3\/k=4\/k=5\/k=6:=by omega
   rcases hj with rfl|rfl|rfl|rfl|rfl|rfl|rfl
   .rcases hk with rfl|rfl|rfl|rfl|rfl|rfl|rfl
    .exact p00
    .exact p01
    .exact p02
    .exact p03
    .exact p04
    .exact p05
    .exact p06
   .rcases hk with rfl|rfl|rfl|rfl|rfl|rfl|rfl
    .exact p10
    .exact p11
    .exact p12
    .exact p13
    .exact p14
    .exact p15
    .exact p16
   .rcases hk with rfl|rfl|rfl|rfl|rfl|rfl|rfl
    .exact p20
    .exact p21
    .exact p22
    .exact p23
    .exact p24
    .exact p25
    .exact p26
   .rcases hk with rfl|rfl|rfl|rfl|rfl|rfl|rfl
    .exact p30
    .exact p31
    .exact p32
    .exact p33
    .exact p34
    .exact p35
    .exact p36
   .rcases hk with rfl|rfl|rfl|rfl|rfl|rfl|rfl
    .exact p40
    .exact p41
    .exact p42
    .exact p43
    .exact p44
    .exact p45
    .exact p46
   .rcases hk with rfl|rfl|rfl|rfl|rfl|rfl|rfl
    .exact p50
    .exact p51
    .exact p52
    .exact p53
    .exact p54
    .exact p55
    .exact p56
   .rcases hk with rfl|rfl|rfl|rfl|rfl|rfl|rfl
    .exact p60
    .exact p61
    .exact p62
    .exact p63
    .exact p64
    .exact p65
    .exact p66
  .have hk:k=0\/k=1\/k=2\/k=3\/k=4\/k=5\/k=6:=by omega
   rcases hk with rfl|rfl|rfl|rfl|rfl|rfl|rfl
   .exact pv0
   .exact pv1
   .exact pv2
   .exact pv3
   .exact pv4
   .exact pv5
   .exact pv6
 have F0:=cI (st:=top 17) l0 c0 k0
 have b0:=F0.binds (ps:=["name"]) λ_ _ _ _ _ _ us hl=>by obtain⟨y0,rfl⟩:=len1 hl;exact rfl
 have F1:=cI (st:=top 19) l1 c1 k1
 have b1:=F1.binds (ps:=["_law_script","_law_k"]) λ_ _ _ _ _ _ us hl=>by obtain⟨y0,y1,rfl⟩:=len2 hl;exact rfl
 have F2:=cI (st:=top 20) l2 c2 k2
 have b2:=F2.binds (ps:=["_law_cell","_law_k"]) λ_ _ _ _ _ _ us hl=>by obtain⟨y0,y1,rfl⟩:=len2 hl;exact rfl
 have F3:=cI (st:=top 21) l3 c3 k3
 have b3:=F3.binds (ps:=["_law_cell","_law_many","_law_k"]) λ_ _ _ _ _ _ us hl=>by obtain⟨y0,y1,y2,rfl⟩:=qW hl;exact rfl
 have F4:=cI (st:=top 22) l4 c4 k4
 have b4:=F4.binds (ps:=["_law_cell"]) λ_ _ _ _ _ _ us hl=>by obtain⟨y0,rfl⟩:=len1 hl;exact rfl
 have F5:=cI (st:=top 23) l5 c5 k5
 have b5:=F5.binds (ps:=["_law_cell"]) λ_ _ _ _ _ _ us hl=>by obtain⟨y0,rfl⟩:=len1 hl;exact rfl
 have F6:=cI (st:=top 24) l6 c6 k6
 have b6:=F6.binds (ps:=["_law_words_here","_law_held"]) λ_ _ _ _ _ _ us hl=>by obtain⟨y0,y1,rfl⟩:=len2 hl;exact rfl
 have F7:=cI (st:=top 25) l7 c7 k7
 have b7:=F7.binds (ps:=["_law_cell","_law_held","_law_rooms","_law_names"]) λ_ _ _ _ _ _ us hl=>by obtain⟨y0,y1,y2,y3,rfl⟩:=aaF hl;exact rfl
 have F8:=cI (st:=top 26) l8 c8 k8
 have b8:=F8.binds (ps:=["_law_hall","_law_deed_here"]) λ_ _ _ _ _ _ us hl=>by obtain⟨y0,y1,rfl⟩:=len2 hl;exact rfl
 have F9:=cI (st:=top 27) l9 c9 k9
 have b9:=F9.binds (ps:=["_law_held","_law_seen","_law_deed_here"]) λ_ _ _ _ _ _ us hl=>by obtain⟨y0,y1,y2,rfl⟩:=qW hl;exact rfl
 have F10:=cI (st:=top 28) l10 c10 k10
 have b10:=F10.binds (ps:=["_law_caught_here","_law_at"]) λ_ _ _ _ _ _ us hl=>by obtain⟨y0,y1,rfl⟩:=len2 hl;exact rfl
 have F11:=cI (st:=top 29) l11 c11 k11
 have b11:=F11.binds (ps:=["_law_hall","_law_deed_here"]) λ_ _ _ _ _ _ us hl=>by obtain⟨y0,y1,rfl⟩:=len2 hl;exact rfl
 have F12:=cI (st:=top 30) l12 c12 k12
 have b12:=F12.binds (ps:=["_law_start","_law_goal"]) λ_ _ _ _ _ _ us hl=>by obtain⟨y0,y1,rfl⟩:=len2 hl;exact rfl
 have F13:=cI (st:=top 31) l13 c13 k13
 have b13:=F13.binds (ps:=["_law_number"]) λ_ _ _ _ _ _ us hl=>by obtain⟨y0,rfl⟩:=len1 hl;exact rfl
 have F14:=cI (st:=top 32) l14 c14 k14
 have b14:=F14.binds (ps:=["_law_number","_law_held","_law_rooms"]) λ_ _ _ _ _ _ us hl=>by obtain⟨y0,y1,y2,rfl⟩:=qW hl;exact rfl
 have F15:=cI (st:=top 33) l15 c15 Wd
 have b15:=F15.binds (ps:=["_law_cell","_law_held","_law_rooms"]) λ_ _ _ _ _ _ us hl=>by obtain⟨y0,y1,y2,rfl⟩:=qW hl;exact rfl
 have F16:=cI (st:=top 34) l16 c16 Wf
 have b16:=F16.binds (ps:=["_law_hall","_law_deed_here"]) λ_ _ _ _ _ _ us hl=>by obtain⟨y0,y1,rfl⟩:=len2 hl;exact rfl
 have F17:=cI (st:=top 35) l17 c17 Wg
 have b17:=F17.binds (ps:=["_law_hall","_law_held","_law_seen"]) λ_ _ _ _ _ _ us hl=>by obtain⟨y0,y1,y2,rfl⟩:=qW hl;exact rfl
 have F18:=cI (st:=top 36) l18 c18 Wh
 have b18:=F18.binds (ps:=["_law_number","_law_rooms"]) λ_ _ _ _ _ _ us hl=>by obtain⟨y0,y1,rfl⟩:=len2 hl;exact rfl
 have F19:=cI (st:=top 37) l19 c19 k19
 have F20:=cI (st:=bf 0) l20 c20 Wi
 have b20:=F20.binds (ps:=["self","start","goal"]) λ_ _ _ _ _ _ us hl=>by obtain⟨y0,y1,y2,rfl⟩:=qW hl;exact rfl
 have m20:Meth K C "__init__" Jb:=⟨a20,n20,Wi⟩
 have F21:=cI (st:=bf 1) l21 c21 Wj
 have b21:=F21.binds (ps:=["self","name","a","b","width","length"]) λ_ _ _ _ _ _ us hl=>by obtain⟨y0,y1,y2,y3,y4,y5,rfl⟩:=ajC hl;exact rfl
 have m21:Meth K C "lay" Pb:=⟨a21,n21,Wj⟩
 have F22:=cI (st:=bf 2) l22 c22 Wk
 have b22:=F22.binds (ps:=["self","name"]) λ_ _ _ _ _ _ us hl=>by obtain⟨y0,y1,rfl⟩:=len2 hl;exact rfl
 have m22:Meth K C "shut" Pg:=⟨a22,n22,Wk⟩
 have F23:=cI (st:=bf 3) l23 c23 Wm
 have b23:=F23.binds (ps:=["self","name","more"]) λ_ _ _ _ _ _ us hl=>by obtain⟨y0,y1,y2,rfl⟩:=qW hl;exact rfl
 have m23:Meth K C "widen" Ph:=⟨a23,n23,Wm⟩
 have F24:=cI (st:=bf 4) l24 c24 Wn
 have b24:=F24.binds (ps:=["self","name","less"]) λ_ _ _ _ _ _ us hl=>by obtain⟨y0,y1,y2,rfl⟩:=qW hl;exact rfl
 have m24:Meth K C "narrow" Pj:=⟨a24,n24,Wn⟩
 have F25:=cI (st:=bf 5) l25 c25 Wo
 have b25:=F25.binds (ps:=["self","name"]) λ_ _ _ _ _ _ us hl=>by obtain⟨y0,y1,rfl⟩:=len2 hl;exact rfl
 have m25:Meth K C "look_for" Pk:=⟨a25,n25,Wo⟩
 have F26:=cI (st:=bf 6) l26 c26 Wq
 have b26:=F26.binds (ps:=["self","name","change"]) λ_ _ _ _ _ _ us hl=>by obtain⟨y0,y1,y2,rfl⟩:=qW hl;exact rfl
 have m26:Meth K C "change_width" Pn:=⟨a26,n26,Wq⟩
 have F27:=cI (st:=bf 7) l27 c27 Wr
 have b27:=F27.binds (ps:=["self"]) λ_ _ _ _ _ _ us hl=>by obtain⟨y0,rfl⟩:=len1 hl;exact rfl
 have m27:Meth K C "rooms" Pq:=⟨a27,n27,Wr⟩
 have F28:=cI (st:=bf 8) l28 c28 Ws
 have b28:=F28.binds (ps:=["self"]) λ_ _ _ _ _ _ us hl=>by obtain⟨y0,rfl⟩:=len1 hl;exact rfl
 have m28:Meth K C "passages" Pr:=⟨a28,n28,Ws⟩
 have Fi:EX.Fe K "__init__" "NoHall.__init__" nY fi _:=⟨oci,odi,.ref TT,kVi,dci,pmi,ani,Wc,cti,sli,rfl,li,ci⟩
 have bi:Binds K (PySem.W.fnOf "__init__" "NoHall.__init__" (bH nY) (aU nY) (aj nY) (.ref TT) kVi dci pmi ani Wc cti) ["self","place"] []:=λs us X hl=>by
  rw[List.append_nil] at hl ⊢
  obtain⟨y0,y1,rfl⟩:=len2 hl
  exact BindsTo.of_defaults rfl (X _ _ lT) rfl rfl rfl
 refine⟨PySem.W.fnOf "law" "law" (bH (top 37)) (aU (top 37)) (aj (top 37)) .none acz acA acB acg Sx acC,λs v=>.of_eq rfl,λbase _ _=>?_⟩
 have Oi:=X7 (P:=l.prog) (w:=w) (base:=base) Fi cx2
 have On:=X8 (P:=l.prog) (w:=w) (mg:=mg) (base:=base) F0 B (lR K) cn (PySem.W.mg_none_of X G K6) (PySem.W.mg_of X G mU)
 have gF:dM l.prog w K mg base 1 "_law_cell_at" ["_law_script","_law_k"] (d9 K cH):=⟨_,_,yF F1 B (lR K),PySem.W.mg_of X G a1,k1,b1⟩
 have bU:dM l.prog w K mg base 1 "_law_mixed" ["_law_cell","_law_k"] (d9 K bJ):=⟨_,_,BJ F2 B (lR K),PySem.W.mg_of X G a2,k2,b2⟩
 have m9:dM l.prog w K mg base 2 "_law_words" ["_law_cell","_law_many","_law_k"] (d9 K gj):=⟨_,_,BK F3 B (lR K) bU,PySem.W.mg_of X G a3,k3,b3⟩
 have pR:dM l.prog w K mg base 2 "_law_length" ["_law_cell"] (d9 K gB):=⟨_,_,zJ F4 B (lR K) bU,PySem.W.mg_of X G a4,k4,b4⟩
 have mZ:dM l.prog w K mg base 2 "_law_width" ["_law_cell"] (d9 K fj):=⟨_,_,BL F5 B (lR K) bU,PySem.W.mg_of X G a5,k5,b5⟩
 have rA:dM l.prog w K mg base 1 "_law_fresh" ["_law_words_here","_law_held"] (d9 K gU):=⟨_,_,BP F6 B (lR K),PySem.W.mg_of X G a6,k6,b6⟩
 have uh:dM l.prog w K mg base 3 "_law_deed" ["_law_cell","_law_held","_law_rooms","_law_names"] (d9 K iG):=⟨_,_,Fq F7 B (lR K) bU mZ rA pR,PySem.W.mg_of X G a7,k7,b7⟩
 have dJ:dM l.prog w K mg base 1 "_law_no_name" ["_law_number"] (d9 K cu):=⟨_,_,yG F13 B (lR K),PySem.W.mg_of X G a13,k13,b13⟩
 have nW:dM l.prog w K mg base 2 "_law_bad_lay" ["_law_number","_law_held","_law_rooms"] (d9 K fL):=⟨_,_,yH F14 B (lR K) dJ,PySem.W.mg_of X G a14,k14,b14⟩
 have vh:dM l.prog w K mg base 3 "_law_bad" ["_law_cell","_law_held","_law_rooms"] (d9 K jh):=⟨_,_,GQ F15 B (lR K) bU nW,PySem.W.mg_of X G a15,Wd,b15⟩
 have O5:=Yc (P:=l.prog) (w:=w) (mg:=mg) (base:=base) F25 cl cn
 have O6:=aaZ (P:=l.prog) (w:=w) (mg:=mg) (base:=base) F26 cl
 have Wt:Ms l.prog w K mg base C 2 "shut" ["self","name"] (pW C (mR e0 e1 e2 e3 e4 e5 e6)):=⟨_,_,Ye F22 cl O5 m25 b25,m22,b22⟩
 have afH:Ms l.prog w K mg base C 2 "widen" ["self","name","more"] (vM C (mR e0 e1 e2 e3 e4 e5 e6)):=⟨_,_,Ra F23 cl cn O5 m25 b25 O6 m26 b26,m23,b23⟩
 have YD:Ms l.prog w K mg base C 2 "narrow" ["self","name","less"] (tY C (mR e0 e1 e2 e3 e4 e5 e6)):=⟨_,_,Nx F24 cl cn O5 m25 b25 O6 m26 b26,m24,b24⟩
 have afI:Ms l.prog w K mg base C 3 "lay" ["self","name","a","b","width","length"] (tZ C (mR e0 e1 e2 e3 e4 e5 e6)):=⟨_,_,aa2 (fi:=fi) F21 B cl cn On (PySem.W.mg_of X G a0) k0 b0 Oi bi (PySem.W.mg_of X G lV) (PySem.W.mg_of X G qg),m21,b21⟩
 have O7:=Rc (P:=l.prog) (w:=w) (mg:=mg) (base:=base) F27 B cl
 have Pu:OJ l.prog w K mg base C 1 "rooms" ["self"] (mJ C):=⟨_,_,O7,m27,b27⟩
 have ag7:OJ l.prog w K mg base C 2 "passages" ["self"] (yL C):=⟨_,_,Yg F28 cl O7 m27 b27,m28,b28⟩
 have afJ:=aa5 (P:=l.prog) (w:=w) (mg:=mg) (base:=base) F20 cl cn On (PySem.W.mg_of X G a0) k0 b0 (PySem.W.mg_of X G z6) (PySem.W.mg_of X G Gy)
 have Odo:=agM (P:=l.prog) (w:=w) (mg:=mg) (base:=base) F8 cl afI Wt afH YD
 have xr:dM l.prog w K mg base 4 "_law_do" ["_law_hall","_law_deed_here"] (calm (Fy K C (mR e0 e1 e2 e3 e4 e5 e6))):=⟨_,_,nM Odo,PySem.W.mg_of X G a8,k8,b8⟩
 have rC:dM l.prog w K mg base 1 "_law_noted" ["_law_held","_law_seen","_law_deed_here"] (zK K):=⟨_,_,Ro F9 B,PySem.W.mg_of X G a9,k9,b9⟩
 have cZ:dM l.prog w K mg base 2 "_law_is" ["_law_caught_here","_law_at"] (u0 (mR e0 e1 e2 e3 e4 e5 e6)):=⟨_,_,agN F10 B (lR K) cn kit,PySem.W.mg_of X G a10,k10,b10⟩
 have cQ:dM l.prog w K mg base 5 "_law_caught" ["_law_hall","_law_deed_here"] (mK K C (mR e0 e1 e2 e3 e4 e5 e6)):=⟨_,_,NQ F11 cn Odo (PySem.W.mg_of X G a8) k8 b8,PySem.W.mg_of X G a11,k11,b11⟩
 have rD:dM l.prog w K mg base 5 "_law_place" ["_law_hall","_law_deed_here"] (vP K C (mR e0 e1 e2 e3 e4 e5 e6)):=⟨_,_,Rk F16 cn Odo (PySem.W.mg_of X G a8) k8 b8,PySem.W.mg_of X G a16,Wf,b16⟩
 have M:Mk K C Jb:=⟨mk,a20,n20,kC⟩
 have kI:dM l.prog w K mg base 5 "_law_begun" ["_law_start","_law_goal"] (vO (mR e0 e1 e2 e3 e4 e5 e6)):=⟨_,_,Rj F12 cn M afJ (PySem.W.mg_of X G aC) b20,PySem.W.mg_of X G a12,k12,b12⟩
 have qe:dM l.prog w K mg base 6 "_law_begins" ["_law_number","_law_rooms"] (ug (mR e0 e1 e2 e3 e4 e5 e6)):=⟨_,_,Oh F18 dJ kI cZ,PySem.W.mg_of X G a18,Wh,b18⟩
 have um:dM l.prog w K mg base 6 "_law_full" ["_law_hall","_law_held","_law_seen"] (Gs C (mR e0 e1 e2 e3 e4 e5 e6)):=⟨_,_,Yx F17 B (lR K) cl afI Wt Pu cQ cZ,PySem.W.mg_of X G a17,Wg,b17⟩
 exact abM F19 B (lR K) cl M afJ b20 (PySem.W.mg_of X G aC) Pu ag7 gF bU m9 uh vh xr rC cZ cQ rD qe um
end bW
open PySem PySem.W PyProof.Rows
def PySem.W.Fast.tw2342145395034885048 : Nat := 0
def PySem.W.Fast.tw3625698695886286868 : Nat := 0
def PySem.W.Fast.tw13622806533158537854 : Nat := 0
def PySem.W.Fast.tw10110225253599077929 : Nat := 0
def PySem.W.Fast.tw5922445172141098137 : Nat := 0
def PySem.W.Fast.tw11939164948671015225 : Nat := 0
def PySem.W.Fast.tw10631080184972773117 : Nat := 0
def PySem.W.Fast.tw16744781912538368059 : Nat := 0
def PySem.W.Fast.tw5199239376084763354 : Nat := 0
def PySem.W.Fast.tw11146219660670771271 : Nat := 0
def PySem.W.Fast.tw16201203175952628400 : Nat := 0
def PySem.W.Fast.tw1820299944370060222 : Nat := 0
def PySem.W.Fast.tw2804356314128646256 : Nat := 0
def PySem.W.Fast.tw15826698759783865418 : Nat := 0
def PySem.W.Fast.tw14212384834300215962 : Nat := 0
def PySem.W.Fast.tw4174090421197781720 : Nat := 0
def PySem.W.Fast.tw2328260491233867673 : Nat := 0
def PySem.W.Fast.tw8850349697851828336 : Nat := 0
def PySem.W.Fast.tw5922297942544078737 : Nat := 0
def PySem.W.Fast.tw3043970408510999393 : Nat := 0
def PySem.W.Fast.tw16233127217563454996 : Nat := 0
def PySem.W.Fast.tw1667042028219830668 : Nat := 0
def PySem.W.Fast.tw13839961108631077738 : Nat := 0
def PySem.W.Fast.tw15601144362607882619 : Nat := 0
def PySem.W.Fast.tw13456809381640245472 : Nat := 0
def PySem.W.Fast.tw4188881064868979695 : Nat := 0
def PySem.W.Fast.tw1570731797954583645 : Nat := 0
def PySem.W.Fast.tw15128176296868529597 : Nat := 0
def PySem.W.Fast.tw4432233619026545538 : Nat := 0
def PySem.W.Fast.tw13815772704097826788 : Nat := 0
def PySem.W.Fast.tw18268700870227465941 : Nat := 0
def PySem.W.Fast.tw3240346031097974792 : Nat := 0
def PySem.W.Fast.tw319239365362455505 : Nat := 0
def PySem.W.Fast.tw13670885370768642635 : Nat := 0
def PySem.W.Fast.tw8440960084540257734 : Nat := 0
def PySem.W.Fast.tw17913629882765480698 : Nat := 0
def PySem.W.Fast.tw17020518715583385249 : Nat := 0
def PySem.W.Fast.tw18268330013773088451 : Nat := 0
def PySem.W.Fast.tw12067969852305175498 : Nat := 0
def PySem.W.Fast.tw9975191791388953110 : Nat := 0
set_option maxRecDepth 100000 in
set_option maxHeartbeats 0 in
theorem PySem.Challenge.cw_leavehall_k62_deeds_refused_holds : PySem.Challenge.rw_leavehall_k62_deeds_refused.Holds := by
 w_on;o_law;k_head;(case hw=>w_witness2)
 k_fill
 refine VM.walk (l:=PySem.Challenge.rw_leavehall_k62_deeds_refused) (k:=7) (x:="_law_script") rfl rfl ⟨rfl,by decide,by decide⟩ (λw h Y=>PySem.W.kIn_of Y) ?F
 case F=>
  intro w mg fa h KX G hmg
  refine' bW.all_mk KX G hmg ?a0 ?l0 ?c0 ?k0 ?a1 ?l1 ?c1 ?k1 ?a2 ?l2 ?c2 ?k2 ?a3 ?l3 ?c3 ?k3 ?a4 ?l4 ?c4 ?k4 ?a5 ?l5 ?c5 ?k5 ?a6 ?l6 ?c6 ?k6 ?a7 ?l7 ?c7 ?k7 ?a8 ?l8 ?c8 ?k8 ?a9 ?l9 ?c9 ?k9 ?a10 ?l10 ?c10 ?k10 ?a11 ?l11 ?c11 ?k11 ?a12 ?l12 ?c12 ?k12 ?a13 ?l13 ?c13 ?k13 ?a14 ?l14 ?c14 ?k14 ?a15 ?l15 ?c15 ?Wd ?a16 ?l16 ?c16 ?Wf ?a17 ?l17 ?c17 ?Wg ?a18 ?l18 ?c18 ?Wh ?a19 ?l19 ?c19 ?k19 ?aC ?pg ?hd ?po ?sa ?no1 ?no2 ?mk ?kC ?a20 ?l20 ?c20 ?Wi ?n20 ?a21 ?l21 ?c21 ?Wj ?n21 ?a22 ?l22 ?c22 ?Wk ?n22 ?a23 ?l23 ?c23 ?Wm ?n23 ?a24 ?l24 ?c24 ?Wn ?n24 ?a25 ?l25 ?c25 ?Wo ?n25 ?a26 ?l26 ?c26 ?Wq ?n26 ?a27 ?l27 ?c27 ?Wr ?n27 ?a28 ?l28 ?c28 ?Ws ?n28 ?aD ?gx0 ?xo0 ?SJ ?SM ?SN ?KJ ?SQ ?SX ?ke0 ?S5 ?gx1 ?xo1 ?S6 ?S7 ?S8 ?S9 ?Tc ?Td ?ke1 ?Te ?iI1 ?gx2 ?xo2 ?Tf ?Ti ?Tj ?Tn ?Tp ?Tq ?ke2 ?Tr ?iI2 ?gx3 ?xo3 ?Tt ?Tv ?Tw ?Tz ?TF ?TJ ?ke3 ?TQ ?iI3 ?gx4 ?xo4 ?TV ?TY ?T3 ?T4 ?T5 ?T6 ?ke4 ?T7 ?iI4 ?gx5 ?xo5 ?T8 ?T9 ?Ua ?Ub ?Uc ?Ud ?ke5 ?Ue ?iI5 ?gx6 ?xo6 ?Ug ?Uh ?Ui ?Uj ?Uk ?Ul ?ke6 ?Um ?iI6 ?xt ?dg ?dr ?di ?x7 ?x8 ?iI ?iF ?sa0 ?pl ?cc ?bD ?tC ?tD ?li ?lT ?ci ?p00 ?p01 ?p02 ?p03 ?p04 ?p05 ?p06 ?p10 ?p11 ?p12 ?p13 ?p14 ?p15 ?p16 ?p20 ?p21 ?p22 ?p23 ?p24 ?p25 ?p26 ?p30 ?p31 ?p32 ?p33 ?p34 ?p35 ?p36 ?p40 ?p41 ?p42 ?p43 ?p44 ?p45 ?p46 ?p50 ?p51 ?p52 ?p53 ?p54 ?p55 ?p56 ?p60 ?p61 ?p62 ?p63 ?p64 ?p65 ?p66 ?pv0 ?pv1 ?pv2 ?pv3 ?pv4 ?pv5 ?pv6 ?mU ?lV ?qg ?z6 ?Gy ?KN ?Gz ?z7 ?rE ?KQ ?KR ?KY ?KZ ?K1 ?K3 ?GC ?z8 ?K4 ?xG ?K5 ?qj ?K6 ?ql
  (case a0=>k_is)
  (case l0=>k_is)
  (case c0=>k_is)
  (case k0=>k_is)
  (case a1=>k_is)
  (case l1=>k_is)
  (case c1=>k_is)
  (case k1=>k_is)
  (case a2=>k_is)
  (case l2=>k_is)
  (case c2=>k_is)
  (case k2=>k_is)
  (case a3=>k_is)
  (case l3=>k_is)
  (case c3=>k_is)
  (case k3=>k_is)
  (case a4=>k_is)
  (case l4=>k_is)
  (case c4=>k_is)
  (case k4=>k_is)
  (case a5=>k_is)
  (case l5=>k_is)
  (case c5=>k_is)
  (case k5=>k_is)
  (case a6=>k_is)
  (case l6=>k_is)
  (case c6=>k_is)
  (case k6=>k_is)
  (case a7=>k_is)
  (case l7=>k_is)
  (case c7=>k_is)
  (case k7=>k_is)
  (case a8=>k_is)
  (case l8=>k_is)
  (case c8=>k_is)
  (case k8=>k_is)
  (case a9=>k_is)
  (case l9=>k_is)
  (case c9=>k_is)
  (case k9=>k_is)
  (case a10=>k_is)
  (case l10=>k_is)
  (case c10=>k_is)
  (case k10=>k_is)
  (case a11=>k_is)
  (case l11=>k_is)
  (case c11=>k_is)
  (case k11=>k_is)
  (case a12=>k_is)
  (case l12=>k_is)
  (case c12=>k_is)
  (case k12=>k_is)
  (case a13=>k_is)
  (case l13=>k_is)
  (case c13=>k_is)
  (case k13=>k_is)
  (case a14=>k_is)
  (case l14=>k_is)
  (case c14=>k_is)
  (case k14=>k_is)
  (case a15=>k_is)
  (case l15=>k_is)
  (case c15=>k_is)
  (case Wd=>k_is)
  (case a16=>k_is)
  (case l16=>k_is)
  (case c16=>k_is)
  (case Wf=>k_is)
  (case a17=>k_is)
  (case l17=>k_is)
  (case c17=>k_is)
  (case Wg=>k_is)
  (case a18=>k_is)
  (case l18=>k_is)
  (case c18=>k_is)
  (case Wh=>k_is)
  (case a19=>k_is)
  (case l19=>k_is)
  (case c19=>k_is)
  (case k19=>k_is)
  (case aC=>k_is)
  (case pg=>k_is)
  (case hd=>k_is)
  (case po=>k_is)
  (case sa=>k_is)
  (case no1=>k_is)
  (case no2=>k_is)
  (case mk=>k_is)
  (case kC=>k_is)
  (case a20=>k_is)
  (case l20=>k_is)
  (case c20=>k_is)
  (case Wi=>k_is)
  (case n20=>k_is)
  (case a21=>k_is)
  (case l21=>k_is)
  (case c21=>k_is)
  (case Wj=>k_is)
  (case n21=>k_is)
  (case a22=>k_is)
  (case l22=>k_is)
  (case c22=>k_is)
  (case Wk=>k_is)
  (case n22=>k_is)
  (case a23=>k_is)
  (case l23=>k_is)
  (case c23=>k_is)
  (case Wm=>k_is)
  (case n23=>k_is)
  (case a24=>k_is)
  (case l24=>k_is)
  (case c24=>k_is)
  (case Wn=>k_is)
  (case n24=>k_is)
  (case a25=>k_is)
  (case l25=>k_is)
  (case c25=>k_is)
  (case Wo=>k_is)
  (case n25=>k_is)
  (case a26=>k_is)
  (case l26=>k_is)
  (case c26=>k_is)
  (case Wq=>k_is)
  (case n26=>k_is)
  (case a27=>k_is)
  (case l27=>k_is)
  (case c27=>k_is)
  (case Wr=>k_is)
  (case n27=>k_is)
  (case a28=>k_is)
  (case l28=>k_is)
  (case c28=>k_is)
  (case Ws=>k_is)
  (case n28=>k_is)
  (case aD=>k_is)
  (case gx0=>k_is)
  (case xo0=>k_is)
  (case SJ=>k_is)
  (case SM=>k_is)
  (case SN=>k_is)
  (case KJ=>k_is)
  (case SQ=>k_is)
  (case SX=>k_is)
  (case ke0=>k_is)
  (case S5=>k_is)
  (case gx1=>k_is)
  (case xo1=>k_is)
  (case S6=>k_is)
  (case S7=>k_is)
  (case S8=>k_is)
  (case S9=>k_is)
  (case Tc=>k_is)
  (case Td=>k_is)
  (case ke1=>k_is)
  (case Te=>k_is)
  (case iI1=>k_is)
  (case gx2=>k_is)
  (case xo2=>k_is)
  (case Tf=>k_is)
  (case Ti=>k_is)
  (case Tj=>k_is)
  (case Tn=>k_is)
  (case Tp=>k_is)
  (case Tq=>k_is)
  (case ke2=>k_is)
  (case Tr=>k_is)
  (case iI2=>k_is)
  (case gx3=>k_is)
  (case xo3=>k_is)
  (case Tt=>k_is)
  (case Tv=>k_is)
  (case Tw=>k_is)
  (case Tz=>k_is)
  (case TF=>k_is)
  (case TJ=>k_is)
  (case ke3=>k_is)
  (case TQ=>k_is)
  (case iI3=>k_is)
  (case gx4=>k_is)
  (case xo4=>k_is)
  (case TV=>k_is)
  (case TY=>k_is)
  (case T3=>k_is)
  (case T4=>k_is)
  (case T5=>k_is)
  (case T6=>k_is)
  (case ke4=>k_is)
  (case T7=>k_is)
  (case iI4=>k_is)
  (case gx5=>k_is)
  (case xo5=>k_is)
  (case T8=>k_is)
  (case T9=>k_is)
  (case Ua=>k_is)
  (case Ub=>k_is)
  (case Uc=>k_is)
  (case Ud=>k_is)
  (case ke5=>k_is)
  (case Ue=>k_is)
  (case iI5=>k_is)
  (case gx6=>k_is)
  (case xo6=>k_is)
  (case Ug=>k_is)
  (case Uh=>k_is)
  (case Ui=>k_is)
  (case Uj=>k_is)
  (case Uk=>k_is)
  (case Ul=>k_is)
  (case ke6=>k_is)
  (case Um=>k_is)
  (case iI6=>k_is)
  (case xt=>k_exc)
  (case dg=>k_is)
  (case dr=>k_is)
  (case di=>k_is)
  (case x7=>k_is)
  (case x8=>k_is)
  (case iI=>k_is)
  (case iF=>k_is)
  (case sa0=>k_is)
  (case pl=>k_is)
  (case cc=>k_is)
  (case bD=>k_is)
  (case tC=>k_is)
  (case tD=>k_is)
  (case li=>k_is)
  (case lT=>k_is)
  (case ci=>k_is)
  (case p00=>kit_is)
  (case p01=>kit_is)
  (case p02=>kit_is)
  (case p03=>kit_is)
  (case p04=>kit_is)
  (case p05=>kit_is)
  (case p06=>kit_is)
  (case p10=>kit_is)
  (case p11=>kit_is)
  (case p12=>kit_is)
  (case p13=>kit_is)
  (case p14=>kit_is)
  (case p15=>kit_is)
  (case p16=>kit_is)
  (case p20=>kit_is)
  (case p21=>kit_is)
  (case p22=>kit_is)
  (case p23=>kit_is)
  (case p24=>kit_is)
  (case p25=>kit_is)
  (case p26=>kit_is)
  (case p30=>kit_is)
  (case p31=>kit_is)
  (case p32=>kit_is)
  (case p33=>kit_is)
  (case p34=>kit_is)
  (case p35=>kit_is)
  (case p36=>kit_is)
  (case p40=>kit_is)
  (case p41=>kit_is)
  (case p42=>kit_is)
  (case p43=>kit_is)
  (case p44=>kit_is)
  (case p45=>kit_is)
  (case p46=>kit_is)
  (case p50=>kit_is)
  (case p51=>kit_is)
  (case p52=>kit_is)
  (case p53=>kit_is)
  (case p54=>kit_is)
  (case p55=>kit_is)
  (case p56=>kit_is)
  (case p60=>kit_is)
  (case p61=>kit_is)
  (case p62=>kit_is)
  (case p63=>kit_is)
  (case p64=>kit_is)
  (case p65=>kit_is)
  (case p66=>kit_is)
  (case pv0=>kit_is)
  (case pv1=>kit_is)
  (case pv2=>kit_is)
  (case pv3=>kit_is)
  (case pv4=>kit_is)
  (case pv5=>kit_is)
  (case pv6=>kit_is)
  (case mU=>k_is)
  (case lV=>k_is)
  (case qg=>k_is)
  (case z6=>k_is)
  (case Gy=>k_is)
  (case KN=>k_is)
  (case Gz=>k_is)
  (case z7=>k_is)
  (case rE=>k_is)
  (case KQ=>k_is)
  (case KR=>k_is)
  (case KY=>k_is)
  (case KZ=>k_is)
  (case K1=>k_is)
  (case K3=>k_is)
  (case GC=>k_is)
  (case z8=>k_is)
  (case K4=>k_is)
  (case xG=>k_is)
  (case K5=>k_is)
  (case qj=>k_is)
  (case K6=>k_is)
  (case ql=>k_is)
