import PyProof.Rows.All
import Wide.All
import OpenK.AllK
import Wide.FinOn
import Lean
import PyProof.EqAt
import PyProof.EqKinds
import PyProof.TupleCall
import PySem.Challenge.RW_leavehall_k63_whole_out_by_names
set_option Elab.async false
set_option linter.all false
set_option maxRecDepth 100000
set_option maxHeartbeats 4000000
noncomputable section
open PySem PySem.Spec
open PySem.W (Frag callWith_K codeIn emptyDict findIn fnOf handedIn hasDictIn instObj isFn kdl_call keepIn kia_one kitOne lookIn makesIn methodCall_KW methodObj mg_of nsIn plainGet plainGet_of plainOver specialIn takerIn)
open Int (add_assoc add_mul mul_add mul_assoc mul_nonneg mul_sub mul_zero sub_zero toNat toNat_natCast zero_mul)
open Nat (add_zero le_add_right le_of_lt le_refl le_succ le_trans lt_irrefl lt_of_lt_of_le lt_succ_self ne_of_gt ne_of_lt not_lt sub_self zero_add zero_le)
open List (all_eq_true any_cons any_eq_true any_map append_assoc append_nil cons_append filter_append filter_cons find?_cons flatten_cons foldl foldl_append foldl_cons forIn_cons getD_eq_getElem?_getD getElem?_append_left getElem?_append_right getElem?_cons_succ getElem?_cons_zero getElem?_eq_getElem getElem?_eq_none getElem?_map getElem?_of_mem getElem?_range getElem?_replicate getElem?_set_ne getElem?_set_self getElem_inj getElem_mem length_append length_cons length_drop length_map length_nil length_set length_take length_zip lookup_cons map_append map_congr_left map_cons map_id map_map map_nil map_set map_take mem_append mem_append_left mem_append_right mem_cons mem_cons_of_mem mem_cons_self mem_filter mem_map mem_map_of_mem mem_of_getElem? mem_of_mem_take mem_range mem_singleton nil_append nodup_append nodup_cons nodup_nil not_mem_nil of_mem_zip replicate replicate_succ reverse_cons set_cons_succ set_cons_zero size_toArray sum_cons take_of_length_le take_succ zip_cons_cons)
open Bool (and_eq_true eq_false_iff false_eq_true or_eq_true)
open Value (bytes float type)
open PyData (canLay0 canLayAll0 depthAll eqv eqvAll)
open Function (comp)
open Heap (get?_push_of_some get?_push_size get?_update_other get?_update_self lt_size size_push)
open Option (getD_some isSome isSome_map map_eq_some_iff map_some)
open Array (length_toList toList)
local macro_rules | `(tactic| omega) => `(tactic| lia)
namespace L2
open PyProof.Rows
abbrev Key:=Sum Int Str
noncomputable def u9:Key->Value->Bool
 |.inl k,v=>Value.isInt k v
 |.inr x,v=>Value.isStrOf x v
noncomputable def ajF (w:World):Key->Int
 |.inl k=>hashInt k
 |.inr x=>hashStr w x
theorem eX:∀{k:Key}{v:Value},u9 k v=true->(∃i t,k=Sum.inl i/\v=Value.int i t)\/(∃x t,k=Sum.inr x/\v=Value.str x t)
 |.inl i,v,h=>by
  obtain⟨t,e⟩:=Value.isInt_shape (k:=i) (v:=v) h;exact .inl ⟨i,t,rfl,e⟩
 |.inr x,v,h=>by obtain⟨t,e⟩:=Value.isStrOf_shape (x:=x) (v:=v) h;exact .inr ⟨x,t,rfl,e⟩
theorem Vy (i:Int)(t:Tok):u9 (.inl i) (.int i t)=true:=by simp[u9,Value.isInt]
theorem Vz (x:Str)(t:Tok):u9 (.inr x) (.str x t)=true:=by simp[u9,Value.isStrOf]
theorem aeu (a b:Int):decide ((Sum.inl a:Key)=Sum.inl b)=(a==b):=by
 by_cases e:a=b
 .subst e;simp
 .have h:¬(Sum.inl a:Key)=Sum.inl b:=λq=>e<|Sum.inl.inj q;rw[decide_eq_false h];exact(beq_eq_false_iff_ne.mpr e).symm
theorem aev (a b:Str):decide ((Sum.inr a:Key)=Sum.inr b)=decide (a=b):=by
 by_cases e:a=b
 .subst e;simp
 .have h:¬(Sum.inr a:Key)=Sum.inr b:=λq=>e<|Sum.inr.inj q;rw[decide_eq_false h,decide_eq_false e]
theorem aew (a:Int)(b:Str):decide ((Sum.inl a:Key)=Sum.inr b)=false:=decide_eq_false<|λq=>nomatch q
theorem aex (a:Str)(b:Int):decide ((Sum.inr a:Key)=Sum.inl b)=false:=decide_eq_false<|λq=>nomatch q
def bZ (prog:Program)(w:World):PySem.KeyKind prog w Key where
 is:=u9
 hash:=ajF w
 inj:=λv a b ha hb=>by
  rcases eX ha with⟨i,t,rfl,rfl⟩|⟨x,t,rfl,rfl⟩
  .rcases eX hb with⟨j,u,rfl,e⟩|⟨y,u,rfl,e⟩
   .injection e with e1 _;rw[e1]
   .exact nomatch e
  .rcases eX hb with⟨j,u,rfl,e⟩|⟨y,u,rfl,e⟩
   .exact nomatch e
   .injection e with e1 _;rw[e1]
 byValue:=λk v h=>by rcases eX h with⟨i,t,rfl,rfl⟩|⟨x,t,rfl,rfl⟩<;>rfl
 pyHash:=λhv h=>by
  rcases eX hv with⟨i,t,rfl,rfl⟩|⟨x,t,rfl,rfl⟩
  .exact wpAny_pyHash_int h
  .exact wpAny_pyHash_str h
 eqBool:=λhu hv h=>by
  rcases eX hu with⟨i,t,rfl,rfl⟩|⟨x,t,rfl,rfl⟩
  .rcases eX hv with⟨j,u,rfl,rfl⟩|⟨y,u,rfl,rfl⟩
   .rw[aeu] at h;exact wpAny_eqBool_int h
   .rw[aew] at h;exact SeqAt.EqAt.int_str i t y u _ _ _ _ h
  .rcases eX hv with⟨j,u,rfl,rfl⟩|⟨y,u,rfl,rfl⟩
   .rw[aex] at h;exact SeqAt.EqAt.str_int x t j u _ _ _ _ h
   .rw[aev] at h;exact wpAny_eqBool_str h
 «strs»:=λk x t v h=>by
  rcases eX h with⟨i,u,rfl,e⟩|⟨y,u,rfl,e⟩
  .exact nomatch e
  .injection e with e1 _;subst e1;cases v<;>rfl
theorem S5 (prog:Program)(w:World)(k:Key)(v:Value):(bZ prog w).is k v=u9 k v:=rfl
theorem Qd (prog:Program)(w:World)(i:Int)(t:Tok):(bZ prog w).is (.inl i) (.int i t)=true:=Vy i t
theorem Qe (prog:Program)(w:World)(x:Str)(t:Tok):(bZ prog w).is (.inr x) (.str x t)=true:=Vz x t
inductive V where
 |non|bl (b:Bool)|int (i:Int)|str (x:Str)|xg (b:Array UInt8)|flt (b:UInt64)|ref (a:Addr)|ty (n:String)
 deriving DecidableEq
def RelV:V->Value->Prop
 |.non,u=>u=Value.none
 |.bl b,u=>u=Value.bool b
 |.int i,u=>∃t,u=Value.int i t
 |.str x,u=>∃t,u=Value.str x t
 |.xg b,u=>∃t,u=bytes b t
 |.flt b,u=>∃t,u=float b t
 |.ref a,u=>u=Value.ref a
 |.ty n,u=>u=type n
abbrev Vals:List V->List Value->Prop:=Paired RelV
theorem Vals.length {xs:List V}{us:List Value}(r:Vals xs us):xs.length=us.length:=Paired.length r
theorem Vals.get:∀{xs:List V}{us:List Value} {i:Nat} {x:V},Vals xs us->xs[i]? =some x->∃u,us[i]? =some u/\RelV x u
 |_,_,_,_,.nil,e=>by simp at e
 |_,_,0,_,.cons r _,e=>by simp at e;subst e;exact⟨_,rfl,r⟩
 |_,_,i+1,x,.cons _ t,e=>by obtain⟨u,h1,h2⟩:=Vals.get (i:=i) (x:=x) t (by simpa using e);exact⟨u,by simpa using h1,h2⟩
theorem Vals.set (r:RelV x u):∀{xs:List V}{us:List Value} (i:Nat),Vals xs us->Vals (xs.set i x) (us.set i u)
 |_,_,_,.nil=>.nil
 |_,_,0,.cons _ t=>.cons r t
 |_,_,i+1,.cons q t=>.cons q<|Vals.set r i t
theorem Vals.append:∀{xs ys:List V}{us ws:List Value},Vals xs us->Vals ys ws->Vals (xs++ys) (us++ws)
 |_,_,_,_,.nil,s=>s
 |_,_,_,_,.cons r t,s=>.cons r<|Vals.append t s
theorem Vals.take:∀{xs:List V}{us:List Value} (n:Nat),Vals xs us->Vals (xs.take n) (us.take n)
 |_,_,0,_=>.nil
 |_,_,_+1,.nil=>.nil
 |_,_,n+1,.cons r t=>.cons r<|Vals.take n t
theorem Vals.drop:∀{xs:List V}{us:List Value} (n:Nat),Vals xs us->Vals (xs.drop n) (us.drop n)
 |_,_,0,r=>r
 |_,_,_+1,.nil=>.nil
 |_,_,n+1,.cons _ t=>Vals.drop n t
def jG:Option V->Option Value->Prop
 |some v,some u=>RelV v u
 |none,none=>True
 |_,_=>False
def KV:List (κ×V)->List (κ×Value)->Prop:=Paired λ(p:κ×V) (q:κ×Value)=>p.1=q.1/\RelV p.2 q.2
noncomputable def kV:Key->V
 |.inl i=>.int i
 |.inr x=>.str x
inductive HO where
 |lst (xs:List V)
 |tup (xs:List V)
 |dK (kvs:List (Key×V))|dT (kvs:List (List Key×V))
 |set (S:Int->Bool) (n:Nat)
 |ins (C dx:Addr) (fs:List (Str×V))
 |own (x:Addr)
 |xd (fs:List (Str×V))
 |met (f x:Addr)
 |rng (lo hi:Int)
 |dU (o:Obj) (u:HO)
 |Hi (ps:Array Value)
 |ext (φ:Heap->Prop)
abbrev Hp:=Addr->Option HO
noncomputable def upd (H:Hp)(a:Addr)(o:HO):Hp:=λb=>if b=a then some o else H b
theorem ao:upd H a o a=some o:=by unfold upd;rw[if_pos rfl]
theorem ak (h:b≠a):upd H a o b=H b:=by unfold upd;rw[if_neg h]
theorem Qu:upd (upd H a o) a u=upd H a u:=by funext b;unfold upd;split<;>rfl
theorem ahC {H:Hp}(h:H a=some o)(h':H b=some u)(d:o≠u):a≠b:=by intro e;subst e;rw[h] at h';exact d<|Option.some.inj h'
theorem aU {H:Hp}(h:H a=some o)(h':H b=none):a≠b:=by intro e;subst e;rw[h] at h';cases h'
section
variable (P:Program)(w:World)
def eY (H:Hp)(h:Heap)(a:Addr):HO->Prop
 |.lst xs=>xs.length<=sizeLine/\∃(its:List Value) (n:Nat),Vals xs its/\h.get? a=some {cls:=.type "list",data:=.seq its.toArray n}
 |.tup xs=>xs.length<=sizeLine/\∃its:List Value,Vals xs its/\IsTup h a its.toArray
 |.dK kvs=>kvs.length<=sizeLine/\(a==sysModules)=false/\∃vs,KV kvs vs/\h.DictOf (bZ P w) a vs
 |.dT kvs=>kvs.length<=sizeLine/\(a==sysModules)=false/\∃xs:List (List Key×Addr×Value),
  Paired (λ(p:List Key×V) (q:List Key×Addr×Value)=>p.1=q.1/\H q.2.1=some (.tup<|p.1.map kV)/\RelV p.2 q.2.2) kvs xs/\
  ∃o es ep,h.get? a=some o/\o.ExactDict/\o.data=.dict es ep/\es.toList=xs.map (entryOfKey<|tupleKind<|bZ P w)/\(xs.map (·.1)).Nodup
 |.set S n=>h.SetOf (intKind P w) a S n
 |.ins C dx fs=>H dx=some (.own a)/\fs.length<=1000/\dx≠a/\h.get? a=some (instObj C dx)/\
  ∃mA,h.Ns1 dx mA/\(∀f,jG (fs.lookup f) (mA f))/\PySem.Within mA (fs.map (·.1))
 |.own _=>∃o,h.get? a=some o
 |.xd fs=>∃mA,h.Ns1 a mA/\∀f,jG (fs.lookup f) (mA f)
 |.rng lo hi=>∃t u v,h.get? a=some {cls:=.type "range",data:=.fields #[.int lo t,.int hi u,.int 1 v]}
 |.dU o u=>h.get? a=some o/\eY H h a u
 |.Hi ps=>h.get? a=some {cls:=.none,data:=.fields ps}
 |.met f x=>h.get? a=some (methodObj (.ref f)<|.ref x)
 |.ext φ=>φ h/\(∃o,h.get? a=some o)/\∀h1 h2:Heap,φ h1->(∀o,h1.get? a=some o->h2.get? a=some o)->φ h2
def iD (H:Hp)(h:Heap):Prop:=∀a o,H a=some o->eY P w H h a o
end
section
variable {o:HO}
theorem eY.lt (x:eY P w H h a o):a<h.objs.size:=by
 cases o with
 |lst xs=>obtain⟨_,_,_,_,e⟩:=x;exact lt_size e
 |tup xs=>obtain⟨_,_,_,p⟩:=x;exact p.lt
 |dK kvs=>obtain⟨_,_,_,_,o,_,_,e,_⟩:=x;exact lt_size e
 |dT kvs=>obtain⟨_,_,_,_,o,_,_,e,_⟩:=x;exact lt_size e
 |set S n=>obtain⟨o,_,_,_,e,_⟩:=x;exact lt_size e
 |ins C dx fs=>obtain⟨_,_,_,e,_⟩:=x;exact lt_size e
 |own y=>obtain⟨_,e⟩:=x;exact lt_size e
 |xd fs=>obtain⟨_,⟨_,_,_,e,_⟩,_⟩:=x;exact lt_size e
 |rng lo hi=>obtain⟨_,_,_,e⟩:=x;exact lt_size e
 |dU ob u=>obtain⟨e,_⟩:=x;exact lt_size e
 |Hi ps=>exact lt_size<|show h.get? a=some _ from x
 |met f y=>exact lt_size<|show h.get? a=some _ from x
 |ext φ=>obtain⟨_,⟨_,e⟩,_⟩:=x;exact lt_size e
theorem Paired.Y8:∀{l₁:List α} {l₂:List β},Paired F l₁ l₂->(∀a b,F a b->G a b)->Paired G l₁ l₂
 |_,_,.nil,_=>.nil
 |_,_,.cons r t,f=>.cons (f _ _ r)<|Paired.Y8 t f
theorem eY.stay (x:eY P w H h a o)(k:∀b u,(b=a\/H b=some (.own a))->h.get? b=some u->h'.get? b=some u)
  (ho:∀b,H b=some (.own a)->H' b=some (.own a))(ht:∀b xs,H b=some (.tup xs)->H' b=some (.tup xs)):eY P w H' h' a o:=by
 induction o with
 |lst xs=>obtain⟨z,its,n,r,e⟩:=x;exact⟨z,its,n,r,k _ _ (.inl rfl) e⟩
 |tup xs=>obtain⟨z,its,r,ob,e,c⟩:=x;exact⟨z,its,r,ob,k _ _ (.inl rfl) e,c⟩
 |dK kvs=>obtain⟨z,y,vs,r,ob,es,ep,e,c⟩:=x;exact⟨z,y,vs,r,ob,es,ep,k _ _ (.inl rfl) e,c⟩
 |dT kvs=>
  obtain⟨z,y,xs,r,ob,es,ep,e,c⟩:=x;exact⟨z,y,xs,Paired.Y8 r λp q z=>⟨z.1,ht _ _ z.2.1,z.2.2⟩,ob,es,ep,k _ _ (.inl rfl) e,c⟩
 |set S n=>obtain⟨ob,es,ep,t,e,c⟩:=x;exact⟨ob,es,ep,t,k _ _ (.inl rfl) e,c⟩
 |ins C dx fs=>
  obtain⟨d,z,ne,e,mA,⟨od,es,ep,e2,c⟩,r⟩:=x;exact⟨ho _ d,z,ne,k _ _ (.inl rfl) e,mA,⟨od,es,ep,k _ _ (.inr d) e2,c⟩,r⟩
 |own y=>obtain⟨ob,e⟩:=x;exact⟨ob,k _ _ (.inl rfl) e⟩
 |xd fs=>obtain⟨mA,⟨od,es,ep,e,c⟩,r⟩:=x;exact⟨mA,⟨od,es,ep,k _ _ (.inl rfl) e,c⟩,r⟩
 |rng lo hi=>obtain⟨t,u,v,e⟩:=x;exact⟨t,u,v,k _ _ (.inl rfl) e⟩
 |dU ob u ih=>obtain⟨e,q⟩:=x;exact⟨k _ _ (.inl rfl) e,ih q⟩
 |Hi ps=>have e:h.get? a=some {cls:=.none,data:=.fields ps}:=x;show h'.get? a=some {cls:=.none,data:=.fields ps};exact k a _ (.inl rfl) e
 |met f y=>have e:h.get? a=some (methodObj (.ref f)<|.ref y):=x;show h'.get? a=some (methodObj (.ref f)<|.ref y);exact k a _ (.inl rfl) e
 |ext φ=>obtain⟨p,⟨o,e⟩,st⟩:=x;exact⟨st _ _ p λo q=>k _ _ (.inl rfl) q,⟨o,k _ _ (.inl rfl) e⟩,st⟩
theorem iD.lt (x:iD P w H h)(e:H a=some o):a<h.objs.size:=(x a o e).lt
theorem iD.fresh (x:iD P w H h)(e:h.objs.size<=a):H a=none:=by
 cases q:H a with
 |none=>rfl
 |some u=>exact absurd (lt_of_lt_of_le (x.lt q) e)<|lt_irrefl _
theorem iD.kept (x:iD P w H h)(k:∀b u,h.get? b=some u->h'.get? b=some u):iD P w H h':=λa o e=>
 (x a o e).stay (λb u _ q=>k b u q) (λ_ q=>q) λ_ _ q=>q
theorem iD.laid (x:iD P w H h)(k:∀b u,h.get? b=some u->h'.get? b=some u)(hp:h.objs.size<=a)(new:eY P w (upd H a o) h' a o):iD P w (upd H a o) h':=λb u e=>by
 have hn:=x.fresh hp;by_cases hb:b=a
 .subst hb;rw[ao] at e;cases e;exact new
 .rw[ak hb] at e;exact(x b u e).stay (λc v _ q=>k c v q) (λc q=>by rw[ak<|aU q hn];exact q) λc xs q=>by rw[ak<|aU q hn];exact q
end
def Rd (H:Hp)(a:Addr)(u:HO):Prop:=H a=some u\/∃o,H a=some (.dU o u)
theorem Rd.ok {P:Program}{w:World}{H:Hp}{h:Heap}{a:Addr}{u:HO}(r:Rd H a u)(x:iD P w H h):eY P w H h a u:=by
 rcases r with r|⟨o,r⟩
 .exact x a u r
 .obtain⟨_,q⟩:=x a _ r;exact q
def VB:Option HO->Prop
 |some (.lst _)=>True
 |some (.dK _)=>True
 |some (.dT _)=>True
 |some (.set _ _)=>True
 |some (.ins _ _ _)=>True
 |some (.ext _)=>True
 |_=>False
section
variable {o':HO}
theorem iD.write (ok:iD P w H h)(mu:VB (H x))(he:e=x\/H e=some (.own x))(k:∀b u,b≠e->h.get? b=some u->h'.get? b=some u)(heo:∃u,h'.get? e=some u)
  (new:eY P w (upd H x o') h' x o'):iD P w (upd H x o') h':=λb u q=>by
 have aey:∀c y,H c=some (.own y)->c≠x:=λc y r z=>by subst z;rw[r] at mu;exact mu
 have xR:∀c xs,H c=some (.tup xs)->c≠x:=λc xs r z=>by subst z;rw[r] at mu;exact mu
 by_cases hb:b=x
 .subst hb;rw[ao] at q;cases q;exact new
 .rw[ak hb] at q;by_cases hbe:b=e
  .have q':H b=some (.own x):=by
    rcases he with z|z
    .exact absurd (hbe.trans z) hb
    .rw[hbe];exact z
   rw[q] at q';cases q';obtain⟨v,hv⟩:=heo;exact⟨v,by rw[hbe];exact hv⟩
  .refine(ok b u q).stay (λc v hc r=>k c v ?_ r) (λc r=>by rw[ak<|aey c b r];exact r) λc xs r=>by rw[ak<|xR c xs r];exact r
   rcases hc with rfl|hc
   .exact hbe
   .rintro rfl;rcases he with z|z
    .exact aey c b hc z
    .rw[hc] at z;cases z;exact hb rfl
end
structure Un (fs ex:List Addr)(H H':Hp)(h h':Heap):Prop where
 keep:∀b o,h.get? b=some o->H b=none->b∉fs->b∉ex->h'.get? b=some o
 slot:∀b o,h.get? b=some o->H b=none->b∈fs->b∉ex->∃sl,h'.get? b=some {o with slots:=sl}
 free:∀b o,h.get? b=some o->H b=none->b∉ex->H' b=none
 there:∀b o,h.get? b=some o->b∉ex->∃o',h'.get? b=some o'
 tups:∀b xs,H b=some (.tup xs)->H' b=some (.tup xs)
 ni:∀b o u,H b=some (.dU o u)->H' b=some (.dU o u)
 oF:∀b ps,H b=some (.Hi ps)->∃more,H' b=some (.Hi<|ps++more)
section
variable {o:HO}
theorem Un.any (u:Un fs ex H H1 h h1)(q:h.get? b=some ob)(n:H b=none)(hx:b∉ex):∃sl,h1.get? b=some {ob with slots:=sl}:=by
 by_cases hb:b∈fs
 .exact u.slot b ob q n hb hx
 .exact⟨ob.slots,u.keep b ob q n hb hx⟩
theorem Un.trans (a:Un fs ex H H1 h h1)(b:Un fs ex H1 H2 h1 h2):Un fs ex H H2 h h2 where
 keep:=λc ob q n hc hx=>b.keep c ob (a.keep c ob q n hc hx) (a.free c ob q n hx) hc hx
 slot:=λc ob q n hc hx=>by obtain⟨sl,e1⟩:=a.slot c ob q n hc hx;obtain⟨sl',e2⟩:=b.slot c _ e1 (a.free c ob q n hx) hc hx;exact⟨sl',e2⟩
 free:=λc ob q n hx=>by obtain⟨o',e1⟩:=a.there c ob q hx;exact b.free c o' e1 (a.free c ob q n hx) hx
 there:=λc ob q hx=>by obtain⟨o',e1⟩:=a.there c ob q hx;exact b.there c o' e1 hx
 tups:=λc xs q=>b.tups c xs<|a.tups c xs q
 ni:=λc ob xs q=>b.ni c ob xs<|a.ni c ob xs q
 oF:=λc ps q=>by obtain⟨m1,e1⟩:=a.oF c ps q;obtain⟨m2,e2⟩:=b.oF c _ e1;exact⟨m1++m2,by rw[e2,Array.append_assoc]⟩
theorem Un.kept (k:∀b u,h.get? b=some u->h'.get? b=some u):Un fs ex H H h h':=
 ⟨λb ob q _ _ _=>k b ob q,λb ob q _ _ _=>⟨ob.slots,k b ob q⟩,λ_ _ _ n _=>n,λb ob q _=>⟨ob,k b ob q⟩,λ_ _ q=>q,λ_ _ _ q=>q,λ_ ps q=>⟨#[],by rw[q];simp⟩⟩
theorem Un.refl:Un fs ex H H h h:=Un.kept λ_ _ q=>q
theorem Un.laid (k:∀b u,h.get? b=some u->h'.get? b=some u)(hp:h.objs.size<=a)(hn:H a=none):Un fs ex H (upd H a o) h h' where
 keep:=λb u q _ _ _=>k b u q
 slot:=λb u q _ _ _=>⟨u.slots,k b u q⟩
 free:=λb u q n _=>by rw[ak<|ne_of_lt<|lt_of_lt_of_le (lt_size q) hp];exact n
 there:=λb u q _=>⟨u,k b u q⟩
 tups:=λb xs q=>by rw[ak<|aU q hn];exact q
 ni:=λb u xs q=>by rw[ak<|aU q hn];exact q
 oF:=λb ps q=>⟨#[],by rw[ak<|aU q hn,q];simp⟩
theorem Un.write (mu:VB (H x))(he:e=x\/H e=some (.own x))(k:∀b u,b≠e->h.get? b=some u->h'.get? b=some u)(heo:∃u,h'.get? e=some u):Un fs ex H (upd H x o) h h':=by
 have hx:∀b,H b=none->b≠x:=λb n z=>by subst z;rw[n] at mu;exact mu
 have hb:∀b,H b=none->b≠e:=λb n z=>by
  subst z;rcases he with r|r
  .exact hx b n r
  .rw[n] at r;cases r
 have hm:∀b u,H b=some u->¬VB (some u)->b≠x:=λb u q nm z=>by subst z;rw[q] at mu;exact nm mu
 refine⟨λb u q n _ _=>k b u (hb b n) q,λb u q n _ _=>⟨u.slots,k b u (hb b n) q⟩,λb u q n _=>by rw[ak (hx b n)];exact n,λb u q _=>?_,
  λb xs q=>by rw[ak (hm b _ q λz=>z)];exact q,λb u xs q=>by rw[ak (hm b _ q λz=>z)];exact q,λb ps q=>⟨#[],by rw[ak (hm b _ q λz=>z),q];simp⟩⟩
 by_cases hbe:b=e
 .subst hbe;exact heo
 .exact⟨u,k b u hbe q⟩
end
noncomputable def trk (h:Heap)(H:Hp):List Addr:=(List.range h.objs.size).filter λa=>(H a).isSome
def vf (h:Heap)(H:Hp):Heap:=PySem.W.hideAll h<|trk h H
theorem VD (h:Heap)(H:Hp):(vf h H).objs.size=h.objs.size:=PySem.W.hideAll_size _ _
theorem Y9 (e:h.get? b=some o)(n:H b=none):(vf h H).get? b=some o:=
 PySem.W.hideAll_get _ e λhm=>by have q:(H b).isSome=true:=(mem_filter.mp hm).2;rw[n] at q;simp at q
theorem ada (e:(vf h H).get? b=some o):h.get? b=some o/\H b=none:=by
 have e':h.get? b=some o:=PySem.W.of_hideAll (trk h H) e;refine⟨e',?_⟩;cases q:H b with
 |none=>rfl
 |some x=>have hm:b∈trk h H:=mem_filter.mpr ⟨mem_range.mpr<|lt_size e',by simp[q]⟩;have z:(vf h H).get? b=none:=PySem.W.hideAll_none (trk h H) hm;rw[z] at e;cases e
noncomputable def adb (g h:Heap)(L:Addr):List (Addr×Obj):=(List.range h.objs.size).filterMap λa=>if a=L\/(g.get? a).isSome=true then none else(h.get? a).map λo=>(a,o)
def rest (g h:Heap)(L d:Addr):List (Addr×Obj):=(adb g h L).filter λp=>decide<|p.1≠d
structure Mod (K:Frag)(mg:Str->Option Value)(base:Heap):Prop where
 VF:K.In base
 glob:base.Ns mainGlobals mg
 blt:∃mb,base.Ns builtinsNs mb/\∀x:Str,x≠"__name__"->mb x=bootBuiltins x
 nolimit:base.NoLimit
structure Cx where
 prog:Program
 w:World
 K:Frag
 mg:Str->Option Value
 base:Heap
 A:Around
 N:List Str
 s₀:Shared
 H₀:Hp
 env:Env
 outer:List Env
 stack:List Env
 ex:List Addr
 fn:Str->Bool
 calm:Bool
 pn:List (Addr×Obj)
 xe:Value->Shared->Prop
noncomputable def frs (l:List Env):List Addr:=l.filterMap (·.frame)
noncomputable abbrev Cx.fs (X:Cx):List Addr:=frs X.outer
def VH (sc:Scope)(x:Str):Prop:=sc.names.lookup x=some .local\/sc.names.lookup x=some .cell\/sc.names.lookup x=some .free
def Loc (sc:Scope)(x:Str):Prop:=sc.names.lookup x=some .local\/sc.names.lookup x=some .cell
def Look (env:Env)(h:Heap)(m:Str->Option Value)(x:Str)(u:Value):Prop:=
 (env.kindOf x=some .local/\m x=some u)\/((env.kindOf x=some .cell\/env.kindOf x=some .free)/\∃c,env.cells.lookup x=some c/\h.IsCell c (some u))
structure Cx.Ok (X:Cx):Prop where
 mod:Mod X.K X.mg X.base
 kind:X.env.scope.kind=.function
 glob:X.env.globals=mainGlobals
 blt:X.env.builtins=builtinsNs
 above:X.s₀.heap.objs.size<=X.env.locals
 inj:∀x y c,X.env.cells.lookup x=some c->X.env.cells.lookup y=some c->x=y
 has:∀x,(X.env.kindOf x=some .cell\/X.env.kindOf x=some .free)->∃c,X.env.cells.lookup x=some c
 cab:∀x c,X.fn x=true->X.env.cells.lookup x=some c->X.s₀.heap.objs.size<=c
 hd:X.calm=true->X.A.handled=none
 frames:X.A.frames=some X.stack
 stk:X.stack=X.outer\/(X.stack=X.env::X.outer/\X.env.frame=some X.env.locals)
 exf:∀b∈X.ex,b≠X.env.locals/\∀x c,X.env.cells.lookup x=some c->c≠b
 bs:∀b o,X.base.get? b=some o->X.s₀.heap.get? b=some o/\X.H₀ b=none
 Ay:X.base.objs.size<=X.s₀.heap.objs.size
 Kp:∀b o,X.base.get? b=some o->b∉X.ex
 S6:∀b∈X.ex,b∉X.fs
 qd:X.s₀.heap.FunFrames X.base X.outer
 Kq:∀b∈X.fs,X.H₀ b=none
structure Inv (X:Cx)(pins:List (Addr×Obj))(σ:List (Option V))(H:Hp)(s:Shared):Prop where
 ok:X.Ok
 os:s.os=X.s₀.os
 bare:AllBare s.gens
 base:Un X.fs X.ex X.H₀ H X.s₀.heap s.heap
 loc:∃m,s.heap.Ns X.env.locals m/\∀(i:Nat) (x:Str) (v:V),X.N[i]? =some x->σ[i]? =some (some v)->VH X.env.scope x->∃u,RelV v u/\Look X.env s.heap m x u
 cell:∀x c,X.env.cells.lookup x=some c->∃v,s.heap.IsCell c v
 free:H X.env.locals=none
 lA:∀x c,X.env.cells.lookup x=some c->H c=none
 pin:∀p∈X.pn++pins,s.heap.get? p.1=some p.2/\H p.1=none/\p.1≠X.env.locals/\p.1∉X.fs/\∀v,p.2.data≠ .cell v
 hok:iD X.prog X.w H s.heap
 len:σ.length=X.N.length
section
variable {X:Cx}
theorem Cx.Ok.ajG (ok:X.Ok)(e:X.base.get? b=some o):b∉X.fs:=λhb=>by have:=(ok.qd.mem hb).1;rw[e] at this;cases this
theorem Inv.bs (I:Inv X pins σ H s):∀b o,X.base.get? b=some o->s.heap.get? b=some o/\H b=none:=λb o e=>
 ⟨I.base.keep b o (I.ok.bs b o e).1 (I.ok.bs b o e).2 (I.ok.ajG e)<|I.ok.Kp b o e,I.base.free b o (I.ok.bs b o e).1 (I.ok.bs b o e).2<|I.ok.Kp b o e⟩
theorem Inv.bk (I:Inv X pins σ H s):∀b o,X.base.get? b=some o->s.heap.get? b=some o:=λb o e=>(I.bs b o e).1
theorem Inv.mod (I:Inv X pins σ H s):Mod X.K X.mg X.base:=I.ok.mod
theorem Inv.mO (I:Inv X pins σ H s):X.K.In s.heap:=I.ok.mod.VF.keeps I.bk
theorem Inv.fr (I:Inv X pins σ H s):∃m,Fr X.base X.env.locals s.heap m:=
 let⟨m,hn,_⟩:=I.loc
 ⟨m,hn,I.bk,le_trans I.ok.Ay I.ok.above⟩
theorem Inv.lt (I:Inv X pins σ H s):X.env.locals<s.heap.objs.size:=let⟨_,hn,_⟩:=I.loc;hn.lt
theorem Inv.sz (I:Inv X pins σ H s):X.s₀.heap.objs.size<=s.heap.objs.size:=le_trans I.ok.above<|le_of_lt I.lt
theorem Inv.ajH (I:Inv X pins σ H s)(h:s.heap.objs.size<=a):a∉X.fs:=λhb=>by obtain⟨_,o,ho,_⟩:=I.ok.qd.mem hb;exact absurd (lt_of_lt_of_le (lt_size ho)<|le_trans I.sz h)<|lt_irrefl _
theorem Inv.Kr (I:Inv X pins σ H s):∀x c,X.env.cells.lookup x=some c->c≠X.env.locals:=λx c e z=>by obtain⟨v,o,ho,hd⟩:=I.cell x c e;obtain⟨m,⟨o',es,ep,ho',hd',_⟩,_⟩:=I.loc;rw[z,ho'] at ho;cases ho;rw[hd'] at hd;cases hd
theorem Inv.qd (I:Inv X pins σ H s):s.heap.FunFrames X.base X.outer:=by
 have all:∀(l:List Env),(∀b∈frs l,b∈X.fs)->X.s₀.heap.FunFrames X.base l->s.heap.FunFrames X.base l:=by
  intro l;induction l with
  |nil=>intro _ _;trivial
  |cons env r ih=>intro hs hl;obtain⟨hk,⟨L,o,hf,hn,ho,hd⟩,hr⟩:=hl;have hL:L∈X.fs:=hs L (by unfold frs;rw[List.filterMap_cons,hf];exact mem_cons_self);obtain⟨sl,e⟩:=I.base.slot L o ho (I.ok.Kq L hL) hL λz=>I.ok.S6 L z hL;exact⟨hk,⟨L,_,hf,hn,e,hd⟩,ih (λb hb=>hs b (by unfold frs;rw[List.filterMap_cons,hf];exact mem_cons_of_mem _ hb)) hr⟩
 exact all X.outer (λ_ hb=>hb) I.ok.qd
theorem Inv.stack (I:Inv X pins σ H s):s.heap.FunFrames X.base X.stack:=by
 rcases I.ok.stk with e|⟨e,hf⟩
 .rw[e];exact I.qd
 .rw[e];obtain⟨m,hn,_⟩:=I.loc;refine .cons (by rw[I.ok.kind];decide) hf hn ?_ I.qd;exact Heap.get?_none_of_le<|le_trans I.ok.Ay I.ok.above
theorem Inv.Dp (I:Inv X pins σ H s):∀b∈frs X.stack,b∈X.env.locals::X.fs:=λb hb=>by
 rcases I.ok.stk with e|⟨e,hf⟩
 .rw[e] at hb;exact mem_cons_of_mem _ hb
 .rw[e] at hb;unfold frs at hb;rw[List.filterMap_cons,hf] at hb;exact hb
theorem Inv.Qv (I:Inv X pins σ H s):∀b∈frs X.stack,H b=none:=λb hb=>by
 rcases mem_cons.mp (I.Dp b hb) with e|hb
 .rw[e];exact I.free
 .obtain⟨_,o,ho,_⟩:=I.ok.qd.mem hb;exact I.base.free b o ho (I.ok.Kq b hb) λz=>I.ok.S6 b z hb
theorem Inv.step {ch:List Addr}(I:Inv X pins σ H s)
  (hch:∀b∈ch,(b∈X.ex\/X.s₀.heap.objs.size<=b)/\b≠X.env.locals/\(∀x c,X.env.cells.lookup x=some c->c≠b)/\∀p∈X.pn++pins,p.1≠b)
  (keep:∀b o,b≠X.env.locals->b∉X.fs->b∉ch->s.heap.get? b=some o->H b=none->h'.get? b=some o)
  (slot:∀b o,b≠X.env.locals->b∈X.fs->b∉ch->s.heap.get? b=some o->H b=none->∃sl,h'.get? b=some {o with slots:=sl})(free:∀b o,b∉ch->s.heap.get? b=some o->H b=none->H' b=none)
  (there:∀b o,b∉ch->s.heap.get? b=some o->∃o',h'.get? b=some o')
  (tups:∀b xs,H b=some (.tup xs)->H' b=some (.tup xs))(ni:∀b o u,H b=some (.dU o u)->H' b=some (.dU o u))(oF:∀b ps,H b=some (.Hi ps)->∃more,H' b=some (.Hi<|ps++more))
  (ns:∀m,s.heap.Ns X.env.locals m->h'.Ns X.env.locals m)(hok:iD X.prog X.w H' h')(hg:AllBare g'):
  Inv X pins σ H' {s with heap:=h',gens:=g',drawn:=d',toks:=t'}:=by
 have neL:∀b o,X.s₀.heap.get? b=some o->b≠X.env.locals:=λb o e=>ne_of_lt<|lt_of_lt_of_le (lt_size e) I.ok.above;have neC:∀b o,X.s₀.heap.get? b=some o->b∉X.ex->b∉ch:=λb o e hx hb=>by
  rcases(hch b hb).1 with z|z
  .exact hx z
  .exact absurd (lt_of_lt_of_le (lt_size e) z)<|lt_irrefl _
 have cellK:∀x c,X.env.cells.lookup x=some c->∀v,s.heap.IsCell c v->h'.IsCell c v:=λx c e v ⟨o,ho,hd⟩=>by
  have VJ:c∉ch:=λz=>(hch c z).2.2.1 x c e rfl;by_cases hc:c∈X.fs
  .obtain⟨sl,q⟩:=slot c o (I.Kr x c e) hc VJ ho<|I.lA x c e;exact⟨_,q,hd⟩
  .exact⟨o,keep c o (I.Kr x c e) hc VJ ho<|I.lA x c e,hd⟩
 refine⟨I.ok,I.os,hg,⟨λb o e n hb hx=>?_,λb o e n hb hx=>?_,λb o e n hx=>?_,λb o e hx=>?_,λb xs e=>tups b xs<|I.base.tups b xs e,λb o xs e=>ni b o xs<|I.base.ni b o xs e,λb ps e=>?_⟩,?_,λx c e=>?_,?_,λx c e=>?_,λp hp=>?_,hok,I.len⟩
 .exact keep b o (neL b o e) hb (neC b o e hx) (I.base.keep b o e n hb hx)<|I.base.free b o e n hx
 .obtain⟨sl,e1⟩:=I.base.slot b o e n hb hx;obtain⟨sl',e2⟩:=slot b _ (neL b o e) hb (neC b o e hx) e1<|I.base.free b o e n hx;exact⟨sl',e2⟩
 .obtain⟨o',e1⟩:=I.base.there b o e hx;exact free b o' (neC b o e hx) e1<|I.base.free b o e n hx
 .obtain⟨o',e1⟩:=I.base.there b o e hx;exact there b o' (neC b o e hx) e1
 .obtain⟨m1,e1⟩:=I.base.oF b ps e;obtain⟨m2,e2⟩:=oF b _ e1;exact⟨m1++m2,by rw[e2,Array.append_assoc]⟩
 .obtain⟨m,hn,hl⟩:=I.loc;refine⟨m,ns m hn,λi x v e1 e2 e3=>?_⟩;obtain⟨u,r,l⟩:=hl i x v e1 e2 e3;refine⟨u,r,?_⟩;rcases l with l|⟨k,c,e,z⟩
  .exact .inl l
  .exact .inr ⟨k,c,e,cellK x c e _ z⟩
 .obtain⟨v,z⟩:=I.cell x c e;exact⟨v,cellK x c e v z⟩
 .obtain⟨m,⟨o,_,_,ho,_⟩,_⟩:=I.loc;exact free _ o (λz=>(hch _ z).2.1 rfl) ho I.free
 .obtain⟨v,o,ho,hd⟩:=I.cell x c e;exact free c o (λz=>(hch c z).2.2.1 x c e rfl) ho<|I.lA x c e
 .obtain⟨e,n,ne,nf,d⟩:=I.pin p hp;have VJ:p.1∉ch:=λz=>(hch p.1 z).2.2.2 p hp rfl;exact⟨keep p.1 p.2 ne nf VJ e n,free p.1 p.2 VJ e n,ne,nf,d⟩
theorem Inv.un {t':Nat}(I:Inv X pins σ H s)(u:Un X.fs [] H H' s.heap h')(hok:iD X.prog X.w H' h'):Inv X pins σ H' {s with heap:=h',toks:=t'}:=by
 obtain⟨m,⟨o,es,ep,ho,r⟩,_⟩:=id I.loc;obtain⟨sl,hL⟩:=u.any ho I.free (by simp);exact I.step (g':=s.gens) (d':=s.drawn) (ch:=[]) (λ_ z=>nomatch z) (λb o _ hb _ e n=>u.keep b o e n hb (by simp)) (λb o _ hb _ e n=>u.slot b o e n hb (by simp)) (λb o _ e n=>u.free b o e n (by simp)) (λb o _ e=>u.there b o e (by simp)) u.tups u.ni u.oF (λm' hm=>by
  obtain⟨o',es',ep',ho',r'⟩:=hm;rw[ho] at ho';cases ho';exact⟨_,es',ep',hL,r'⟩) hok I.bare
theorem Inv.call {g':Array GenState}{t':Nat}{d':Drawn}{ch:List Addr}(I:Inv X pins σ H s)(u:Un (frs X.stack) ch H H' s.heap h')(hok:iD X.prog X.w H' h')(hg:AllBare g')
  (hch:∀b∈ch,(b∈X.ex\/X.s₀.heap.objs.size<=b)/\b≠X.env.locals/\(∀x c,X.env.cells.lookup x=some c->c≠b)/\∀p∈X.pn++pins,p.1≠b):
  Inv X pins σ H' {s with heap:=h',gens:=g',drawn:=d',toks:=t'}:=by
 obtain⟨m,⟨o,es,ep,ho,r⟩,_⟩:=id I.loc;obtain⟨sl,hL⟩:=u.any ho I.free λz=>(hch _ z).2.1 rfl;exact I.step (ch:=ch) hch (λb o hL hb hc e n=>u.keep b o e n (λz=>(mem_cons.mp (I.Dp b z)).elim hL hb) hc) (λb o _ _ hc e n=>u.any e n hc) (λb o hc e n=>u.free b o e n hc) (λb o hc e=>u.there b o e hc) u.tups u.ni u.oF (λm' hm=>by
  obtain⟨o',es',ep',ho',r'⟩:=hm;rw[ho] at ho';cases ho';exact⟨_,es',ep',hL,r'⟩) hok hg
theorem Inv.turned {it:Addr}(I:Inv X pins σ H s)(k:∀b o,b≠it->s.heap.get? b=some o->h'.get? b=some o)(hn:H it=none)(hL:it≠X.env.locals)
  (h1:it∈X.ex\/X.s₀.heap.objs.size<=it)(h2:∀x c,X.env.cells.lookup x=some c->c≠it)(h3:∀p∈X.pn++pins,p.1≠it):Inv X pins σ H {s with heap:=h',toks:=t'}:=by
 have Hj:∀b u,H b=some u->b≠it:=λb u e z=>by rw[z,hn] at e;cases e
 refine I.step (g':=s.gens) (d':=s.drawn) (ch:=[it]) (λb hb=>?_) (λb o _ _ hc e _=>k b o (λz=>hc<|by simp[z]) e) (λb o _ _ hc e _=>⟨o.slots,k b o (λz=>hc<|by simp[z]) e⟩) (λ_ _ _ _ n=>n)
  (λb o hc e=>⟨o,k b o (λz=>hc<|by simp[z]) e⟩) (λ_ _ e=>e) (λ_ _ _ e=>e) (λb ps e=>⟨#[],by rw[e];simp⟩) (λm hm=>?_) (λb u e=>?_) I.bare
 .have e:b=it:=by simpa using hb
  subst e;exact⟨h1,hL,h2,h3⟩
 .obtain⟨o,es,ep,ho,r⟩:=hm;exact⟨o,es,ep,k _ o (Ne.symm hL) ho,r⟩
 .refine(I.hok b u e).stay (λc v hc q=>k c v ?_ q) (λ_ q=>q) λ_ _ q=>q;rcases hc with z|z
  .rw[z];exact Hj b u e
  .exact Hj c _ z
theorem Inv.tok (I:Inv X pins σ H s)(t:Nat):Inv X pins σ H {s with toks:=t}:=I.un (h':=s.heap) (t':=t) Un.refl I.hok
theorem Inv.kept {t':Nat}(I:Inv X pins σ H s)(k:∀b u,s.heap.get? b=some u->h'.get? b=some u):Inv X pins σ H {s with heap:=h',toks:=t'}:=I.un (Un.kept k)<|I.hok.kept k
theorem Inv.laid (I:Inv X pins σ H s)(k:∀b u,s.heap.get? b=some u->h'.get? b=some u)(hp:s.heap.objs.size<=a)(new:eY X.prog X.w (upd H a o) h' a o):
  Inv X pins σ (upd H a o) {s with heap:=h',toks:=t'}:=I.un (Un.laid k hp<|I.hok.fresh hp)<|I.hok.laid k hp new
theorem Inv.write (I:Inv X pins σ H s)(mu:VB (H x))(he:e=x\/H e=some (.own x))(k:∀b u,b≠e->s.heap.get? b=some u->h'.get? b=some u)(heo:∃u,h'.get? e=some u)
  (new:eY X.prog X.w (upd H x o) h' x o):Inv X pins σ (upd H x o) {s with heap:=h',toks:=t'}:=I.un (Un.write mu he k heo)<|I.hok.write mu he k heo new
theorem Inv.weak (I:Inv X pins σ H s)(hl:σ'.length=σ.length)(w:∀(i:Nat) v,σ'[i]? =some (some v)->σ[i]? =some (some v)):Inv X pins σ' H s:=
 ⟨I.ok,I.os,I.bare,I.base,let⟨m,hn,hl'⟩:=I.loc;⟨m,hn,λi x v e1 e2 e3=>hl' i x v e1 (w i v e2) e3⟩,I.cell,I.free,I.lA,I.pin,I.hok,hl.trans I.len⟩
theorem Inv.Qw (I:Inv X pins σ H s)(h:∀p∈ahD,s.heap.get? p.1=some p.2/\H p.1=none/\p.1≠X.env.locals/\p.1∉X.fs/\∀v,p.2.data≠ .cell v):Inv X ahD σ H s:=
 ⟨I.ok,I.os,I.bare,I.base,I.loc,I.cell,I.free,I.lA,λp hp=>(mem_append.mp hp).elim (λz=>I.pin p<|mem_append_left _ z)<|h p,I.hok,I.len⟩
theorem Ks {N:List Str}(hN:N.Nodup){i j:Nat}(a:N[i]? =some x)(b:N[j]? =some x):i=j:=by obtain⟨h1,e1⟩:=List.getElem?_eq_some_iff.mp a;obtain⟨h2,e2⟩:=List.getElem?_eq_some_iff.mp b;exact(getElem_inj hN).mp<|e1.trans e2.symm
theorem Hl {M:Model}(I:Inv X pins σ H s)(hN:X.N.Nodup)(hi:X.N[i]? =some x)(hx:Loc X.env.scope x)(r:RelV v u)
  (h:∀s',Inv X pins (σ.set i<|some v) H s'->(∃a,Heap.SameBut a s.heap s'.heap/\(a=X.env.locals\/X.env.cells.lookup x=some a))->Q () s')(hf:X.fn x=true\/X.env.scope.names.lookup x=some .local:=by first|exact .inl rfl|exact .inr rfl|assumption):wpAny M A (storeName X.env x u) Q E s:=by
 obtain⟨m,hn,hl⟩:=id I.loc;have hcls:(X.env.scope.kind==.class||(X.env.scope.kind==.module && X.env.locals !=X.env.globals))=false:=by rw[I.ok.kind];rfl
 have aez:i<σ.length:=by rw[I.len];exact(List.getElem?_eq_some_iff.mp hi).1
 have Kr:=I.Kr;have tracked:∀{a:Addr}{h':Heap},(∃o,s.heap.get? a=some o/\H a=none)->Heap.SameBut a s.heap h'->iD X.prog X.w H h':=λ{a h'} ha hs b ob e=>by
  obtain⟨_,_,hfree⟩:=ha;refine(I.hok b ob e).stay (λc w' hc q=>(hs.2 c ?_).trans q) (λ_ q=>q) λ_ _ q=>q;rintro rfl;rcases hc with rfl|hc
  .rw[hfree] at e;cases e
  .rw[hfree] at hc;cases hc
 rcases hx with hk|hk
 .refine wpAny_storeName_local hk hn (λh' hn' hs=>?_) hcls;obtain⟨oL,_,_,hoL,_⟩:=id hn;refine h _ ⟨I.ok,I.os,I.bare,⟨λb o e n hb hx=>?_,λb o e n hb hx=>?_,I.base.free,λb o e hx=>?_,I.base.tups,I.base.ni,I.base.oF⟩,⟨_,hn',λj y v' e1 e2 e3=>?_⟩,λy c e=>?_,I.free,I.lA,λp hp=>?_,tracked ⟨oL,hoL,I.free⟩ hs,by simpa using I.len⟩ ⟨_,hs,.inl rfl⟩
  .exact(hs.2 b<|ne_of_lt<|lt_of_lt_of_le (lt_size e) I.ok.above).trans<|I.base.keep b o e n hb hx
  .obtain⟨sl,e1⟩:=I.base.slot b o e n hb hx;exact⟨sl,(hs.2 b<|ne_of_lt<|lt_of_lt_of_le (lt_size e) I.ok.above).trans e1⟩
  .obtain⟨o',e1⟩:=I.base.there b o e hx;exact⟨o',(hs.2 b<|ne_of_lt<|lt_of_lt_of_le (lt_size e) I.ok.above).trans e1⟩
  .by_cases hj:j=i
   .subst hj;rw[hi] at e1;cases e1;rw[getElem?_set_self aez] at e2;cases e2;exact⟨u,r,.inl ⟨hk,by simp⟩⟩
   .rw[getElem?_set_ne<|Ne.symm hj] at e2;obtain⟨u',r',q⟩:=hl j y v' e1 e2 e3;refine⟨u',r',?_⟩;rcases q with⟨k,e⟩|⟨k,c,e,z⟩
    .refine .inl ⟨k,?_⟩
     have:y≠x:=λe=>hj<|Ks hN e1<|e▸hi
     simp[this,e]
    .exact .inr ⟨k,c,e,z.sameBut hs<|Kr y c e⟩
  .obtain⟨w',z⟩:=I.cell y c e;exact⟨w',z.sameBut hs<|Kr y c e⟩
  .obtain⟨e,n,ne,nf,d⟩:=I.pin p hp;exact⟨(hs.2 p.1 ne).trans e,n,ne,nf,d⟩
 .have hfn:X.fn x=true:=by
   rcases hf with z|z
   .exact z
   .rw[z] at hk;cases hk
  obtain⟨c,hc⟩:=I.ok.has x<|.inl hk;obtain⟨w',z⟩:=I.cell x c hc;refine wpAny_storeName_cell I.ok.kind hk hc z<|λh' hc' hs=>?_;obtain⟨oc,hoc,ajI⟩:=id z;refine h {s with heap:=h'} ⟨I.ok,I.os,I.bare,⟨λb o e n hb hx=>?_,λb o e n hb hx=>?_,I.base.free,λb o e hx=>?_,I.base.tups,I.base.ni,I.base.oF⟩,⟨m,hn.sameBut hs<|Ne.symm (Kr x c hc),λj y v' e1 e2 e3=>?_⟩,λy c' e=>?_,I.free,I.lA,λp hp=>?_,tracked ⟨oc,hoc,I.lA x c hc⟩ hs,by simpa using I.len⟩ ⟨c,hs,.inr hc⟩
  .exact(hs.2 b<|ne_of_lt<|lt_of_lt_of_le (lt_size e)<|I.ok.cab x c hfn hc).trans<|I.base.keep b o e n hb hx
  .obtain⟨sl,e1⟩:=I.base.slot b o e n hb hx;exact⟨sl,(hs.2 b<|ne_of_lt<|lt_of_lt_of_le (lt_size e)<|I.ok.cab x c hfn hc).trans e1⟩
  .obtain⟨o',e1⟩:=I.base.there b o e hx;exact⟨o',(hs.2 b<|ne_of_lt<|lt_of_lt_of_le (lt_size e)<|I.ok.cab x c hfn hc).trans e1⟩
  .by_cases hj:j=i
   .subst hj;rw[hi] at e1;cases e1;rw[getElem?_set_self aez] at e2;cases e2;exact⟨u,r,.inr ⟨.inl hk,c,hc,hc'⟩⟩
   .rw[getElem?_set_ne<|Ne.symm hj] at e2;obtain⟨u',r',q⟩:=hl j y v' e1 e2 e3;refine⟨u',r',?_⟩;rcases q with q|⟨k,c',e,z'⟩
    .exact .inl q
    .refine .inr ⟨k,c',e,z'.sameBut hs ?_⟩;rintro rfl;exact hj<|Ks hN e1<|I.ok.inj _ _ _ e hc▸hi
  .by_cases hcc:c'=c
   .subst hcc;exact⟨_,hc'⟩
   .obtain⟨w2,z2⟩:=I.cell y c' e;exact⟨w2,z2.sameBut hs hcc⟩
  .obtain⟨e,n,ne,nf,d⟩:=I.pin p hp;refine⟨(hs.2 p.1 ?_).trans e,n,ne,nf,d⟩;intro q;rw[q,hoc] at e;have q':oc=p.2:=Option.some.inj e;exact d w' (by rw[<-q'];exact ajI)
theorem BX (I:Inv X pins σ H s)(hN:X.N.Nodup)(hi:X.N[i]? =some x)(hx:Loc X.env.scope x)(r:RelV v u)
  (h:∀s',Inv X pins (σ.set i<|some v) H s'->Q () s')(hf:X.fn x=true\/X.env.scope.names.lookup x=some .local:=by first|exact .inl rfl|exact .inr rfl|assumption):wpAny M A (storeName X.env x u) Q E s:=
 Hl I hN hi hx r (λs' I' _=>h s' I') hf
theorem Inv.call' (I:Inv X pins σ H s)(ho:s'.os=s.os)(u:Un (frs X.stack) ch H H' s.heap s'.heap)(hok:iD X.prog X.w H' s'.heap)(hg:AllBare s'.gens)
  (hch:∀b∈ch,(b∈X.ex\/X.s₀.heap.objs.size<=b)/\b≠X.env.locals/\(∀x c,X.env.cells.lookup x=some c->c≠b)/\∀p∈X.pn++pins,p.1≠b):Inv X pins σ H' s':=by
 obtain⟨h',g',d',t',o'⟩:=s';have e:o'=s.os:=ho;subst e;exact I.call (g':=g') (t':=t') (d':=d') u hok hg hch
end
abbrev XK:=Value->Option Addr->Hp->Prop
abbrev St:=List<|Option V
abbrev VK:=V->Hp->Prop
abbrev TE:=St->Hp->VK->Prop
abbrev TT:=St->Hp->(Bool->Hp->Prop)->Prop
abbrev TA:=St->Hp->(List V->Hp->Prop)->Prop
structure Ends where
 nx:St->Hp->Prop
 rt:VK
 bk:St->Hp->Prop:=λ_ _=>False
 ct:St->Hp->Prop:=λ_ _=>False
abbrev TS:=Ends->St->Hp->Prop
def EP (X:Cx)(pins:List (Addr×Obj))(σ:St)(Q:VK)(u:Value)(s':Shared):Prop:=∃v H',Inv X pins σ H' s'/\RelV v u/\Q v H'
def TP (X:Cx)(pins:List (Addr×Obj))(σ:St)(Q:Bool->Hp->Prop)(b:Bool)(s':Shared):Prop:=∃H',Inv X pins σ H' s'/\Q b H'
def AP (X:Cx)(pins:List (Addr×Obj))(σ:St)(Q:List V->Hp->Prop)(us:List Value)(s':Shared):Prop:=∃vs H',Inv X pins σ H' s'/\Vals vs us/\Q vs H'
def SP (X:Cx)(pins:List (Addr×Obj))(D:Ends)(f:Flow)(s':Shared):Prop:=
 match f with
 |.next=>∃σ' H',Inv X pins σ' H' s'/\D.nx σ' H'
 |.brk=>∃σ' H',Inv X pins σ' H' s'/\D.bk σ' H'
 |.cont=>∃σ' H',Inv X pins σ' H' s'/\D.ct σ' H'
 |.ret u=>∃v σ' H',Inv X pins σ' H' s'/\RelV v u/\D.rt v H'
def PE (X:Cx)(e:Expr)(t:TE):Prop:=
 ∀(pins:List (Addr×Obj)) (s:Shared) (σ:St) (H:Hp) (Q:VK),Inv X pins σ H s->t σ H Q->wpAny (model X.prog X.w) X.A (eval e X.env) (EP X pins σ Q) X.xe s
def PT (X:Cx)(e:Expr)(t:TT):Prop:=
 ∀(pins:List (Addr×Obj)) (s:Shared) (σ:St) (H:Hp) (Q:Bool->Hp->Prop),Inv X pins σ H s->t σ H Q->wpAny (model X.prog X.w) X.A (isTrue e X.env<|eval e X.env) (TP X pins σ Q) X.xe s
def PW (X:Cx)(e:Expr)(t:TT):Prop:=
 ∀(whole:Sem Value) (pins:List (Addr×Obj)) (s:Shared) (σ:St) (H:Hp) (Q:Bool->Hp->Prop),Inv X pins σ H s->t σ H Q->wpAny (model X.prog X.w) X.A (isTrue e X.env whole) (TP X pins σ Q) X.xe s
theorem PW.pt (h:PW X e t):PT X e t:=h _
def PA (X:Cx)(es:List Expr)(t:TA):Prop:=
 ∀(pos:Pos) (pins:List (Addr×Obj)) (s:Shared) (σ:St) (H:Hp) (Q:List V->Hp->Prop),Inv X pins σ H s->t σ H Q->wpAny (model X.prog X.w) X.A (spliced<|backTo pos<|starEach es X.env) (AP X pins σ Q) X.xe s
def PS (X:Cx)(st:Stmt)(t:TS):Prop:=
 ∀(pins:List (Addr×Obj)) (s:Shared) (σ:St) (H:Hp) (D:Ends),Inv X pins σ H s->t D σ H->wpAny (model X.prog X.w) X.A (exec st X.env) (SP X pins D) X.xe s
def iG (X:Cx)(st:List Stmt)(t:TS):Prop:=
 ∀(pins:List (Addr×Obj)) (s:Shared) (σ:St) (H:Hp) (D:Ends),Inv X pins σ H s->t D σ H->wpAny (model X.prog X.w) X.A (execs st X.env) (SP X pins D) X.xe s
theorem aV (h:wpAny M A t Q E s)(hQ:∀a s,Q a s->Q' a s):wpAny M A t Q' E s:=wpAny_mono h hQ λ_ _ x=>x
section
theorem bin (ha:PE X a ta)(hb:PE X b tb){R:V->V->Hp->Prop}(I:Inv X pins σ H s)(h:ta σ H λx H1=>tb σ H1 λy H2=>R x y H2){f:Value->Value->Sem α}
  (hf:∀v u s2 x y H2,Inv X pins σ H2 s2->RelV x v->RelV y u->R x y H2->wpAny (model X.prog X.w) X.A (f v u) Q X.xe s2):
  wpAny (model X.prog X.w) X.A (eval a X.env) (λv s₁=>wpAny (model X.prog X.w) X.A (eval b X.env) (λu s₂=>wpAny (model X.prog X.w) X.A (f v u) Q X.xe s₂) X.xe s₁) X.xe s:=by
 refine aV (ha pins s σ H _ I h) λv s1 ⟨x,H1,I1,r1,q1⟩=>?_;refine aV (hb pins s1 σ H1 _ I1 q1) λu s2 ⟨y,H2,I2,r2,q2⟩=>?_;exact hf v u s2 x y H2 I2 r1 r2 q2
def aeA (i:Nat):TE:=λσ H Q=>∃v,σ[i]? =some (some v)/\Q v H
def tC (v:V):TE:=λ_ H Q=>Q v H
theorem VL (hN:X.N[i]? =some x)(hv:VH X.env.scope x)(hd:(x==("__debug__":Str))=false:=by decide)(hcd:(x==("__classdict__":Str))=false:=by decide):PE X (.Name x pos) (aeA i):=by
 intro pins s σ H Q I h;obtain⟨v,e,h⟩:=h;obtain⟨m,hn,hl⟩:=I.loc;obtain⟨u,r,l⟩:=hl i x v hN e hv;have fin:EP X pins σ Q u s:=⟨v,H,I,r,h⟩;rcases l with⟨hk,hm⟩|⟨hk,c,hc,hcell⟩
 .exact wpAny_Name (wpAny_loadName_local I.ok.kind hk hn hm fin) hd
 .rcases hk with hk|hk
  .exact wpAny_Name (wpAny_loadName_cell I.ok.kind hk hc hcell fin) hd
  .exact wpAny_Name (wpAny_loadName_free I.ok.kind hk hc hcell fin hcd) hd
theorem aJ {i j pos}:PE X (.Constant (.int i) j pos) (tC<|.int i):=λ_ _ _ H _ I h=>wpAny_Constant_int ⟨.int i,H,I.tok _,⟨_,rfl⟩,h⟩
theorem vg {b j pos}:PE X (.Constant (.bool b) j pos) (tC<|.bl b):=λ_ _ _ H _ I h=>Constant_bool ⟨.bl b,H,I,rfl,h⟩
theorem xT {j pos}:PE X (.Constant .none j pos) (tC .non):=λ_ _ _ H _ I h=>Constant_none ⟨.non,H,I,rfl,h⟩
theorem pF {x j pos}:PE X (.Constant (.str x) j pos) (tC<|.str x):=λ_ _ _ H _ I h=>Calls.Constant_str ⟨.str x,H,I.tok _,⟨_,rfl⟩,h⟩
def Gl (X:Cx)(x:Str):Prop:=X.env.kindOf x=some .globalImplicit
theorem Ga (I:Inv X pins σ H s)(hg:Gl X x)(hm:X.mg x=some u)(h:Q u s)
  (hd:(x==("__debug__":Str))=false:=by decide):wpAny (model X.prog X.w) X.A (eval (.Name x pos) X.env) Q E s:=
 Calls.Name_function_global I.ok.kind hg (Calls.loadGlobal_global (by rw[I.ok.glob];exact I.mod.glob.keeps I.bk) hm h) hd
theorem pG (I:Inv X pins σ H s)(hg:Gl X x)(hm:X.mg x=none)(hv:bootBuiltins x=some u)(h:Q u s)
  (hn:x≠"__name__":=by decide)(hd:(x==("__debug__":Str))=false:=by decide):wpAny (model X.prog X.w) X.A (eval (.Name x pos) X.env) Q E s:=by
 obtain⟨mb,h1,h2⟩:=I.mod.blt;exact Calls.Name_function_global I.ok.kind hg (Calls.loadGlobal_builtin (by rw[I.ok.glob];exact I.mod.glob.keeps I.bk) hm (by rw[I.ok.blt];exact h1.keeps I.bk) ((h2 x hn).trans hv) h) hd
theorem oG (hg:Gl X x)(hm:X.mg x=some u)(r:RelV v u)(hd:(x==("__debug__":Str))=false:=by decide):PE X (.Name x pos) (tC v):=
 λ_ _ _ H _ I h=>Ga I hg hm ⟨v,H,I,r,h⟩ hd
theorem mQ (hg:Gl X x)(hm:X.mg x=none)(hv:bootBuiltins x=some u)(r:RelV v u)(hn:x≠"__name__":=by decide)(hd:(x==("__debug__":Str))=false:=by decide):PE X (.Name x pos) (tC v):=
 λ_ _ _ H _ I h=>pG I hg hm hv ⟨v,H,I,r,h⟩ hn hd
variable {pos:Pos}
def PC (X:Cx)(op:CmpOp)(a b:Expr)(t:TE):Prop:=
 ∀(pins:List (Addr×Obj)) (s:Shared) (σ:St) (H:Hp) (Q:VK),Inv X pins σ H s->t σ H Q->
  wpAny (model X.prog X.w) X.A (eval a X.env) (λv s₁=>wpAny (model X.prog X.w) X.A (eval b X.env) (λu s₂=>wpAny (model X.prog X.w) X.A (compareOp op v u) (EP X pins σ Q) X.xe s₂) X.xe s₁) X.xe s
theorem Za (b:Expr)(h:op≠ .In)(h2:op≠ .NotIn):behindInMarks op b=false:=by
 have e1:(op==CmpOp.In)=false:=by cases op<;>first|rfl|exact absurd rfl h
 have e2:(op==CmpOp.NotIn)=false:=by cases op<;>first|rfl|exact absurd rfl h2
 cases b<;>simp[behindInMarks,e1,e2]
def tB (t:TE):TT:=λσ H Q=>t σ H λx H1=>∃c,x=.bl c/\Q c H1
theorem Ku (h:PC X op a b t)(h1:behindInMarks op b=false:=by first|exact Za _ (by decide) (by decide)|rfl):PT X (.Compare a [op] [b] pos) (tB t):=by intro pins s σ H Q I hw;refine wpAny_isTrue_Compare1 (aV (h pins s σ H _ I hw) λv s1 h1=>aV h1 λu s2 h2=>aV h2 λc s3 ⟨x,H1,I1,r1,q1⟩=>?_) h1;obtain⟨d,rfl,q⟩:=q1;cases r1;exact wpAny_truthy_bool ⟨H1,I1,q⟩
variable {rest:List Expr}
def Zb (t u:TT):TT:=λσ H Q=>t σ H λc H1=>if c=true then u σ H1 Q else Q false H1
def VN (t u:TT):TT:=λσ H Q=>t σ H λc H1=>if c=true then Q true H1 else u σ H1 Q
def Kv (t:TT):TT:=λσ H Q=>t σ H λc H1=>Q (!c) H1
theorem zU (ha:PT X a tA):PW X (.BoolOp .And [a] pos) tA:=by
 intro wh pins s σ H Q I h;refine isTrue_and<|aV (ha pins s σ H Q I h) λc s1 e=>?_;cases c with
 |true=>exact isTrue_and_nil e
 |false=>exact e
theorem xU (ha:PT X a tA):PW X (.BoolOp .Or [a] pos) tA:=by
 intro wh pins s σ H Q I h;refine isTrue_or<|aV (ha pins s σ H Q I h) λc s1 e=>?_;cases c with
 |false=>exact isTrue_or_nil e
 |true=>exact e
theorem Dq (ha:PT X a tA)(hb:PW X (.BoolOp .And (b::rest) pos) tB'):PW X (.BoolOp .And (a::b::rest) pos) (Zb tA tB'):=by
 intro wh pins s σ H Q I h;refine isTrue_and<|aV (ha pins s σ H _ I h) λc s1 ⟨H1,I1,q1⟩=>?_;cases c with
 |true=>exact hb wh pins s1 σ H1 Q I1 q1
 |false=>exact⟨H1,I1,q1⟩
theorem zV (ha:PT X a tA)(hb:PW X (.BoolOp .Or (b::rest) pos) tB'):PW X (.BoolOp .Or (a::b::rest) pos) (VN tA tB'):=by
 intro wh pins s σ H Q I h;refine isTrue_or<|aV (ha pins s σ H _ I h) λc s1 ⟨H1,I1,q1⟩=>?_;cases c with
 |true=>exact⟨H1,I1,q1⟩
 |false=>exact hb wh pins s1 σ H1 Q I1 q1
theorem Dr (ha:PT X a tA):PT X (.UnaryOp .Not a pos) (Kv tA):=by intro pins s σ H Q I h;exact isTrue_not<|ha pins s σ H (λc H1=>Q (!c) H1) I h
theorem VP {op}(h:PE X a t):PE X (.BoolOp op [a] pos) t:=λpins s σ H Q I hw=>BoolOp_one<|h pins s σ H Q I hw
def tIf (t:TT)(ta tb:TE):TE:=λσ H Q=>t σ H λc H1=>if c=true then ta σ H1 Q else tb σ H1 Q
theorem Zc (hc:PT X c tA)(ha:PE X a ta)(hb:PE X b tb):PE X (.IfExp c a b pos) (tIf tA ta tb):=by
 intro pins s σ H Q I h;refine wpAny_IfExp<|aV (hc pins s σ H _ I h) λd s1 ⟨H1,I1,q1⟩=>?_;cases d with
 |true=>exact ha pins s1 σ H1 Q I1 q1
 |false=>exact hb pins s1 σ H1 Q I1 q1
end
def aR (K:Frag)(H:Hp)(a:Addr)(xs:List V):Prop:=
 Rd H a (.lst xs)\/
  ∃(o:Obj) (its:Array Value) (n:Nat),K.lookup a=some o/\o.cls=.type "list"/\o.dict=none/\o.data=.seq its n/\its.size<=sizeLine/\Vals xs its.toList
def bB (K:Frag)(H:Hp)(a:Addr)(xs:List V):Prop:=
 Rd H a (.tup xs)\/
  ∃(o:Obj) (its:Array Value) (n:Nat),K.lookup a=some o/\o.cls=.type "tuple"/\o.data=.seq its n/\its.size<=sizeLine/\Vals xs its.toList
noncomputable def ajJ:Value->Option V
 |.none=>some .non
 |.bool b=>some<|.bl b
 |.int i _=>some<|.int i
 |.str x _=>some<|.str x
 |.bytes b _=>some<|.xg b
 |.float b _=>some<|.flt b
 |.ref a=>some<|.ref a
 |.type n=>some<|.ty n
 |_=>none
theorem RelV.abs (r:RelV x u):ajJ u=some x:=by
 cases x with
 |non=>cases r;rfl
 |bl _=>cases r;rfl
 |int _=>obtain⟨t,rfl⟩:=r;rfl
 |str _=>obtain⟨t,rfl⟩:=r;rfl
 |xg _=>obtain⟨t,rfl⟩:=r;rfl
 |flt _=>obtain⟨t,rfl⟩:=r;rfl
 |ref _=>cases r;rfl
 |ty _=>cases r;rfl
theorem RelV.inj (r:RelV x u)(q:RelV y u):x=y:=Option.some.inj<|r.abs.symm.trans q.abs
theorem Vals.inj:∀{xs ys:List V}{us:List Value},Vals xs us->Vals ys us->xs=ys
 |_,_,_,.nil,.nil=>rfl
 |_,_,_,.cons r t,.cons r' t'=>by rw[r.inj r',Vals.inj t t']
section
variable {xs ys:List V}
theorem aR.of {K:Frag}(h:H a=some (.lst xs)):aR K H a xs:=.inl<|.inl h
theorem bB.of {K:Frag}(h:H a=some (.tup xs)):bB K H a xs:=.inl<|.inl h
theorem Inv.list (I:Inv X pins σ H s)(h:aR X.K H a xs):∃its:List Value,Vals xs its/\PlainL s.heap a its.toArray/\xs.length<=sizeLine:=by
 rcases h with h|⟨o,its,n,hk,hc,hd,hs,hz,r⟩
 .obtain⟨z,its,n,r,e⟩:=h.ok I.hok;exact⟨its,r,⟨_,n,e,rfl,rfl,rfl⟩,z⟩
 .refine⟨its.toList,r,⟨o,n,I.mO a o hk,hc,hd,by simpa using hs⟩,?_⟩;have e:=r.length;simp only[length_toList] at e;omega
theorem Inv.tuple (I:Inv X pins σ H s)(h:bB X.K H a xs):∃its:List Value,Vals xs its/\IsTup s.heap a its.toArray/\xs.length<=sizeLine:=by
 rcases h with h|⟨o,its,n,hk,hc,hs,hz,r⟩
 .obtain⟨z,its,r,p⟩:=h.ok I.hok;exact⟨its,r,p,z⟩
 .refine⟨its.toList,r,⟨o,I.mO a o hk,hc,n,by simpa using hs⟩,?_⟩;have e:=r.length;simp only[length_toList] at e;omega
theorem Inv.vh (I:Inv X pins σ H s)(h:aR X.K H a xs)(h':aR X.K H a ys):xs=ys:=by
 obtain⟨its,r,⟨o,n,e,_,_,d⟩,_⟩:=I.list h;obtain⟨its',r',⟨o',n',e',_,_,d'⟩,_⟩:=I.list h';rw[e] at e';cases e';rw[d] at d';injection d' with d1 _
 have:its=its':=by simpa using congrArg toList d1
 subst this;exact r.inj r'
theorem Inv.VR (I:Inv X pins σ H s)(h:bB X.K H a xs)(h':bB X.K H a ys):xs=ys:=by
 obtain⟨its,r,⟨o,e,_,n,d⟩,_⟩:=I.tuple h;obtain⟨its',r',⟨o',e',_,n',d'⟩,_⟩:=I.tuple h';rw[e] at e';cases e';rw[d] at d';injection d' with d1 _
 have:its=its':=by simpa using congrArg toList d1
 subst this;exact r.inj r'
end
noncomputable abbrev Cx.wish (X:Cx)(E:Value->Shared->Prop):Cx:={X with xe:=E}
noncomputable abbrev Cx.Ds (X:Cx):Cx:=X.wish λ_ _=>False
theorem Cx.Ok.wish {X:Cx}(ok:X.Ok)(E:Value->Shared->Prop):(X.wish E).Ok:=
 ⟨ok.mod,ok.kind,ok.glob,ok.blt,ok.above,ok.inj,ok.has,ok.cab,ok.hd,ok.frames,ok.stk,ok.exf,ok.bs,ok.Ay,ok.Kp,ok.S6,ok.qd,ok.Kq⟩
theorem Cx.Ok.pH {X:Cx}(ok:(X.wish E).Ok):X.Ok:=
 ⟨ok.mod,ok.kind,ok.glob,ok.blt,ok.above,ok.inj,ok.has,ok.cab,ok.hd,ok.frames,ok.stk,ok.exf,ok.bs,ok.Ay,ok.Kp,ok.S6,ok.qd,ok.Kq⟩
section
variable {E:Value->Shared->Prop}
theorem Inv.wish (I:Inv X pins σ H s)(E:Value->Shared->Prop):Inv (X.wish E) pins σ H s:=⟨I.ok.wish E,I.os,I.bare,I.base,I.loc,I.cell,I.free,I.lA,I.pin,I.hok,I.len⟩
theorem Inv.pH (I:Inv (X.wish E) pins σ H s):Inv X pins σ H s:=⟨I.ok.pH,I.os,I.bare,I.base,I.loc,I.cell,I.free,I.lA,I.pin,I.hok,I.len⟩
theorem SP.pH (h:SP (X.wish E) pins D f s'):SP X pins D f s':=by
 cases f with
 |next=>obtain⟨σ',H',I,q⟩:=h;exact⟨σ',H',I.pH,q⟩
 |brk=>obtain⟨σ',H',I,q⟩:=h;exact⟨σ',H',I.pH,q⟩
 |cont=>obtain⟨σ',H',I,q⟩:=h;exact⟨σ',H',I.pH,q⟩
 |ret u=>obtain⟨v,σ',H',I,r,q⟩:=h;exact⟨v,σ',H',I.pH,r,q⟩
theorem iG.Ds {st:List Stmt}{t:TS}(h:iG X.Ds st t):iG X st t:=λpins s σ H D I hw=>
 wpAny_mono (h pins s σ H D (I.wish _) hw) (λ_ _ q=>q.pH) λ_ _ z=>False.elim z
end
section
variable {st:Stmt}{rest:List Stmt}
def jk:TS:=λD σ H=>D.nx σ H
def jm (t u:TS):TS:=λD σ H=>t {D with nx:=u D} σ H
theorem cg:iG X [] jk:=λ_ _ σ H _ I h=>wpAny_execs_nil ⟨σ,H,I,h⟩
theorem aH (h1:PS X st t)(h2:iG X rest u):iG X (st::rest) (jm t u):=by
 intro pins s σ H D I h;refine wpAny_execs_cons<|aV (h1 pins s σ H {D with nx:=u D} I h) λf s1 q=>?_;cases f with
 |next=>
  obtain⟨σ',H',I',q⟩:=q;exact h2 pins s1 σ' H' D I' q
 |ret v=>exact q
 |brk=>exact q
 |cont=>exact q
theorem aP (h1:PS X st t):iG X [st] t:=by
 intro pins s σ H D I h;refine wpAny_execs_cons<|aV (h1 pins s σ H D I h) λf s1 q=>?_;cases f with
 |next=>exact wpAny_execs_nil q
 |ret v=>exact q
 |brk=>exact q
 |cont=>exact q
theorem Inv.quiet (I:Inv X pins σ H s):interactive X.env=false:=by simp[interactive,I.ok.kind]
def gq (te:TE):TS:=λD σ H=>te σ H λ_ H1=>D.nx σ H1
theorem cL (he:PE X e te)(hs:swapsWith e none pos.line X.env=pure false:=by rfl):PS X (.Expr e pos) (gq te):=by intro pins s σ H D I h;exact wpAny_Expr_any (aV (he pins s σ H _ I h) λv s1 ⟨x,H1,I1,r1,q1⟩=>⟨σ,H1,I1,q1⟩) I.quiet hs
def mC (te:TE):TS:=λD σ H=>te σ H D.rt
theorem cF (he:PE X e te):PS X (.Return (some e) pos) (mC te):=by intro pins s σ H D I h;exact wpAny_Return_some<|aV (he pins s σ H _ I h) λv s1 ⟨x,H1,I1,r1,q1⟩=>⟨x,σ,H1,I1,r1,q1⟩
def ahE:TS:=λD _ H=>D.rt .non H
def jo (c:TT)(t u:TS):TS:=λD σ H=>c σ H λb H1=>if b=true then t D σ H1 else u D σ H1
theorem dD (hc:PT X c tc)(ha:iG X a t)(hb:iG X b u):PS X (.If c a b pos) (jo tc t u):=by
 intro pins s σ H D I h;refine wpAny_If<|aV (hc pins s σ H _ I h) λd s1 ⟨H1,I1,q1⟩=>?_;cases d with
 |true=>exact ha pins s1 σ H1 D I1 q1
 |false=>exact hb pins s1 σ H1 D I1 q1
def V0:TS:=λ_ _ _=>False
theorem j6:PS X st V0:=λ_ _ _ _ _ _ h=>h.elim
end
abbrev TG:=V->St->Hp->(St->Hp->Prop)->Prop
abbrev Kw:=List V->St->Hp->(St->Hp->Prop)->Prop
def PG (X:Cx)(target:Expr)(t:TG):Prop:=
 ∀(pins:List (Addr×Obj)) (s:Shared) (σ:St) (H:Hp) (v:V) (u:Value) (Q:St->Hp->Prop),Inv X pins σ H s->RelV v u->t v σ H Q->
  wpAny (model X.prog X.w) X.A (assign target X.env u) (λ_ s'=>∃σ' H',Inv X pins σ' H' s'/\Q σ' H') X.xe s
def qu (X:Cx)(ts:List Expr)(t:Kw):Prop:=
 ∀(pins:List (Addr×Obj)) (s:Shared) (σ:St) (H:Hp) (vs:List V) (us:List Value) (Q:St->Hp->Prop),Inv X pins σ H s->Vals vs us->t vs σ H Q->
  wpAny (model X.prog X.w) X.A (assignInOrder ((assignEach ts X.env).map (·.2)) us) (λ_ s'=>∃σ' H',Inv X pins σ' H' s'/\Q σ' H') X.xe s
abbrev S7:=V->V->V->Hp->(Hp->Prop)->Prop
def xV (X:Cx)(t:S7):Prop:=
 ∀(pins:List (Addr×Obj)) (s:Shared) (σ:St) (H:Hp) (o i v:V) (ov iv u:Value) (Q:Hp->Prop),Inv X pins σ H s->RelV o ov->RelV i iv->RelV v u->t o i v H Q->
  wpAny (model X.prog X.w) X.A (setItem ov iv u) (λ_ s'=>∃H',Inv X pins σ H' s'/\Q H') X.xe s
abbrev V1:=V->V->Hp->VK->Prop
def xW (X:Cx)(op:Operator)(t:V1):Prop:=
 ∀(pins:List (Addr×Obj)) (s:Shared) (σ:St) (H:Hp) (x y:V) (v u:Value) (Q:VK),Inv X pins σ H s->RelV x v->RelV y u->t x y H Q->
  wpAny (model X.prog X.w) X.A (inplaceOp op v u) (EP X pins σ Q) X.xe s
section
variable {pos:Pos}
def cC (i:Nat):TG:=λv σ H Q=>Q (σ.set i<|some v) H
theorem cj (hN:X.N.Nodup)(hi:X.N[i]? =some x)(hx:Loc X.env.scope x)(hf:X.fn x=true\/X.env.scope.names.lookup x=some .local:=by first|exact .inl rfl|exact .inr rfl|assumption):PG X (.Name x pos) (cC i):=by intro pins s σ H v u Q I r h;exact wpAny_assign_Name<|BX I hN hi hx r (λs' I'=>⟨_,H,I',h⟩) hf
def ajK (K:Frag)(n:Nat)(t:Kw):TG:=λv σ H Q=>∃a xs,v=.ref a/\bB K H a xs/\xs.length=n/\t xs σ H Q
theorem aeC (hc:X.calm=true)(h:qu X es t)
  (hn:(assignEach es X.env).length=n:=by rfl)(hst:(assignEach es X.env).findIdx? (·.1)=none:=by rfl):PG X (.Tuple es k pos) (ajK X.K n t):=by
 intro pins s σ H v u Q I r hw;obtain⟨a,xs,e1,hq,hl,hw⟩:=hw;subst e1;cases r;obtain⟨its,rv,ht,hz⟩:=I.tuple hq;refine assign_Tuple_tuple (I.ok.hd hc) ht (by simp[hn,←hl,rv.length]) hst λh' hx=>?_;have I1:Inv X pins σ H {s with heap:=h'}:=I.kept (t':=s.toks) λb o e=>hx b o (ne_of_lt<|lt_size e) e;exact h pins _ σ H xs _ Q I1 (by simpa using rv) hw
def BZ (to ti:TE)(t:S7):TG:=λv σ H Q=>to σ H λo H1=>ti σ H1 λi H2=>t o i v H2 λH3=>Q σ H3
theorem Ky (ho:PE X o to)(hi:PE X i ti)(hs:xV X t)
  (ha:∀v,assign (.Subscript o i pos) X.env v=(do
   let ov<-holding [v] (eval o X.env);let iv<-holding [v,ov] (eval i X.env)
   standAt pos
   holding [v,ov,iv] (setItem ov iv v)
   release [v,ov,iv] []):=by intro _;rfl):PG X (.Subscript o i pos) (BZ to ti t):=by
 intro pins s σ H v u Q I r h;rw[ha];refine wpAny_bind<|wpAny_holding<|aV (ho pins s σ H _ I h) λov s1 ⟨x,H1,I1,r1,q1⟩=>?_;refine wpAny_bind<|wpAny_holding<|aV (hi pins s1 σ H1 _ I1 q1) λiv s2 ⟨y,H2,I2,r2,q2⟩=>?_;refine wpAny_bind<|wpAny_standAt<|wpAny_bind<|wpAny_holding<|aV (hs pins s2 σ H2 x y v ov iv u _ I2 r1 r2 r q2) λ_ s3 ⟨H3,I3,q3⟩=>?_;exact wpAny_release ⟨σ,H3,I3,q3⟩
def eZ (te:TE)(g:TG):TS:=λD σ H=>te σ H λx H1=>g x σ H1 D.nx
theorem nq (he:PE X e te)(hg:PG X tg g)(hs:swapsWithSole [tg] e pos.line X.env=pure false:=by rfl)(hw:swappedStores [tg] e X.env=pure none:=by rfl)
  (h1:(assignEach [tg] X.env).map (·.2)=[assign tg X.env]:=by rfl):PS X (.Assign [tg] e pos) (eZ te g):=by
 intro pins s σ H D I h;refine wpAny_Assign_stores (aV (he pins s σ H _ I h) λv s1 ⟨x,H1,I1,r1,q1⟩=>?_) hs hw;rw[h1];exact aV (hg pins s1 σ H1 x v _ I1 r1 q1) λ_ s2 q=>q
theorem dX (hN:X.N.Nodup)(hi:X.N[i]? =some x)(hx:Loc X.env.scope x)(he:PE X e te)(hs:swapsWith e (some<|.Name x pos') pos.line X.env=pure false:=by rfl)(hf:X.fn x=true\/X.env.scope.names.lookup x=some .local:=by first|exact .inl rfl|exact .inr rfl|assumption):
  PS X (.Assign [.Name x pos'] e pos) (eZ te<|cC i):=by
 intro pins s σ H D I h;refine wpAny_Assign_Name (aV (he pins s σ H _ I h) λv s1 ⟨y,H1,I1,r1,q1⟩=>?_) hs;exact BX I1 hN hi hx r1 (λs2 I2=>⟨_,H1,I2,q1⟩) hf
def ajL (i:Nat)(te:TE)(ti:V1):TS:=λD σ H=>∃x,σ[i]? =some (some x)/\te σ H λy H1=>ti x y H1 λz H2=>D.nx (σ.set i<|some z) H2
theorem aeD (hN:X.N.Nodup)(hi:X.N[i]? =some x)(hx:Loc X.env.scope x)(he:PE X e te)(ho:xW X op ti)(hf:X.fn x=true\/X.env.scope.names.lookup x=some .local:=by first|exact .inl rfl|exact .inr rfl|assumption):
  PS X (.AugAssign (.Name x pos') op e pos) (ajL i te ti):=by
 intro pins s σ H D I h;obtain⟨v,e1,h⟩:=h;obtain⟨m,hn,hl⟩:=I.loc;have vis:VH X.env.scope x:=by rcases hx with k|k;exact .inl k;exact .inr<|.inl k
 obtain⟨u,r,l⟩:=hl i x v hi e1 vis;refine wpAny_AugAssign_Name ?_;have go:wpAny (model X.prog X.w) X.A (eval e X.env) (λw s₂=>wpAny (model X.prog X.w) X.A (inplaceOp op u w) (λr s₃=>wpAny (model X.prog X.w) X.A (storeName X.env x r) (λ_=>SP X pins D .next) X.xe s₃) X.xe s₂) X.xe s:=by refine aV (he pins s σ H _ I h) λw s1 ⟨y,H1,I1,r1,q1⟩=>?_;refine aV (ho pins s1 σ H1 v y u w _ I1 r r1 q1) λz s2 ⟨zv,H2,I2,r2,q2⟩=>?_;exact BX I2 hN hi hx r2 (λs3 I3=>⟨_,H2,I3,q2⟩) hf
 rcases l with⟨hk,hm⟩|⟨hk,c,hc,hcell⟩
 .exact wpAny_loadName_local I.ok.kind hk hn hm go
 .rcases hk with hk|hk
  .exact wpAny_loadName_cell I.ok.kind hk hc hcell go
  .rcases hx with k|k
   .have:X.env.scope.names.lookup x=some .free:=hk
    rw[k] at this;cases this
   .have:X.env.scope.names.lookup x=some .free:=hk
    rw[k] at this;cases this
def abv (to ti te:TE)(Zd:V->V->Hp->VK->Prop)(tip:V1)(Ze:S7):TS:=λD σ H=>to σ H λo H1=>ti σ H1 λi H2=>Zd o i H2 λx H3=>te σ H3 λy H4=>tip x y H4 λz H5=>Ze o i z H5 λH6=>D.nx σ H6
def aeF (X:Cx)(t:V->V->Hp->VK->Prop):Prop:=
 ∀(pins:List (Addr×Obj)) (s:Shared) (σ:St) (H:Hp) (o i:V) (ov iv:Value) (Q:VK),Inv X pins σ H s->RelV o ov->RelV i iv->t o i H Q->
  wpAny (model X.prog X.w) X.A (getItem ov iv) (EP X pins σ Q) X.xe s
theorem Qx (ho:PE X o to)(hi:PE X i ti)(hg:aeF X Zd)(he:PE X e te)(hp:xW X op tip)(hs:xV X Ze)
  (ha:∀ov iv new,augStore i ov iv new=(do holding [new,ov,iv] (setItem ov iv new);release [new,ov,iv] [];pure .next):=by intros;rfl):PS X (.AugAssign (.Subscript o i tpos) op e pos) (abv to ti te Zd tip Ze):=by
 intro pins s σ H D I h;refine wpAny_AugAssign_SubscriptAny (aV (ho pins s σ H _ I h) λov s1 ⟨x1,H1,I1,r1,q1⟩=>?_) ha;refine aV (hi pins s1 σ H1 _ I1 q1) λiv s2 ⟨x2,H2,I2,r2,q2⟩=>?_;refine aV (hg pins s2 σ H2 x1 x2 ov iv _ I2 r1 r2 q2) λold s3 ⟨x3,H3,I3,r3,q3⟩=>?_;refine aV (he pins s3 σ H3 _ I3 q3) λv s4 ⟨x4,H4,I4,r4,q4⟩=>?_;refine aV (hp pins s4 σ H4 x3 x4 old v _ I4 r3 r4 q4) λnew s5 ⟨x5,H5,I5,r5,q5⟩=>?_;exact aV (hs pins s5 σ H5 x1 x2 x5 ov iv new _ I5 r1 r2 r5 q5) λ_ s6 ⟨H6,I6,q6⟩=>⟨σ,H6,I6,q6⟩
def ipI (f:Int->Int->Int):V1:=λx y H Q=>∃i j,x=.int i/\y=.int j/\Q (.int<|f i j) H
theorem aeG:xW X .Add (ipI λi j=>i+j):=by intro pins s σ H x y v u Q I r1 r2 h;obtain⟨i,j,e1,e2,q⟩:=h;subst e1;subst e2;obtain⟨t,rfl⟩:=r1;obtain⟨t',rfl⟩:=r2;exact iadd_int ⟨.int _,H,I.tok _,⟨_,rfl⟩,q⟩
theorem aeH:xW X .Sub (ipI λi j=>i - j):=by intro pins s σ H x y v u Q I r1 r2 h;obtain⟨i,j,e1,e2,q⟩:=h;subst e1;subst e2;obtain⟨t,rfl⟩:=r1;obtain⟨t',rfl⟩:=r2;exact isub_int ⟨.int _,H,I.tok _,⟨_,rfl⟩,q⟩
end
section
variable {pos:Pos}
def V2 (c:TT)(tb:TS):TS:=λD σ H=>∃W:Nat->St->Hp->Prop,(∃m,W m σ H)/\∀m σ H,W m σ H->
 c σ H λb H1=>if b=true then ∃N:St->Hp->Prop,(∀σ' H',N σ' H'->∃m',m'<m/\W m' σ' H')/\tb {D with nx:=N,ct:=N,bk:=D.nx} σ H1 else D.nx σ H1
theorem Zf (hp:PassesOwn (model X.prog X.w) X.A X.env X.xe)(hc:PT X c tc)(hb:iG X body tb):PS X (.While c body [] pos) (V2 tc tb):=by
 intro pins s σ H D I h;obtain⟨W,⟨m0,w0⟩,turn⟩:=h;refine wpAny_While<|codeAny_whileLoop (λn s'=>∃σ' H',Inv X pins σ' H' s'/\W n σ' H') ?_ m0 ⟨σ,H,I,w0⟩;rintro n s1 ⟨σ1,H1,I1,w1⟩;refine wpAny_passesOwn hp<|aV (hc pins s1 σ1 H1 _ I1<|turn n σ1 H1 w1) λb s2 ⟨H2,I2,q2⟩=>?_;cases b with
 |true=>
  obtain⟨N,hN,q2⟩:=q2;rw[if_pos rfl];refine wpAny_passesOwn hp<|aV (hb pins s2 σ1 H2 _ I2 q2) λf s3 q3=>?_;cases f with
  |next=>
   obtain⟨σ3,H3,I3,n3⟩:=q3;obtain⟨m',hm,w3⟩:=hN σ3 H3 n3;exact⟨m',hm,σ3,H3,I3,w3⟩
  |cont=>
   obtain⟨σ3,H3,I3,n3⟩:=q3;obtain⟨m',hm,w3⟩:=hN σ3 H3 n3;exact⟨m',hm,σ3,H3,I3,w3⟩
  |brk=>exact q3
  |ret v=>exact q3
 |false=>rw[if_neg Bool.false_ne_true];exact wpAny_execs_nil ⟨σ1,H2,I2,q2⟩
end
structure It where
 go:Nat->Hp->Prop
 Kz:Nat->Hp->V->Hp->Prop
 stop:Nat->Hp->Prop
def oH (X:Cx)(pins:List (Addr×Obj))(H:Hp)(b:Addr):Prop:=
 H b=none/\b≠X.env.locals/\b∉X.fs/\(b∈X.ex\/X.s₀.heap.objs.size<=b)/\(∀x c,X.env.cells.lookup x=some c->c≠b)/\∀p∈X.pn++pins,p.1≠b
theorem Inv.xX (I:Inv X pins σ H s)(hb:s.heap.objs.size<=b)(hn:H' b=none):oH X pins H' b:=by
 refine⟨hn,ne_of_gt<|lt_of_lt_of_le I.lt hb,I.ajH hb,.inr<|le_trans I.sz hb,λx c e z=>?_,λp hp z=>?_⟩
 .obtain⟨v,q⟩:=I.cell x c e;exact absurd (lt_of_lt_of_le q.lt (by rw[z];exact hb)) (lt_irrefl _)
 .exact absurd (lt_of_lt_of_le (lt_size (I.pin p hp).1) (by rw[z];exact hb)) (lt_irrefl _)
structure Turn (P:Program)(w:World)(K:Frag)(tg:Expr)(J:It)(fp:List Addr)(it:Addr)(tn:Nat->Heap->Prop):Prop where
 mem:it∈fp
 obj:∀i h,tn i h->∀b∈fp,∃o,h.get? b=some o/\∀v,o.data≠ .cell v
 keep:∀i h h',tn i h->(∀b∈fp,∀o,h.get? b=some o->h'.get? b=some o)->tn i h'
 item:∀(X:Cx),X.prog=P->X.w=w->X.K=K->X.calm=true->∀(i:Nat) (pins:List (Addr×Obj)) (s:Shared) (σ:St) (H:Hp) (E:Value->Shared->Prop),Inv X pins σ H s->(∀b∈fp,oH X pins H b)->tn i s.heap->J.go i H->
  wpAny (model P w) X.A (pyNext (.ref it)) (λr s1=>∃u,r=some u/\
   wpAny (model P w) X.A (letOwnedTupleGo tg (.ref it) u) (λ_ s2=>∃x H',Inv X pins σ H' s2/\RelV x u/\J.Kz i H x H'/\tn (i+1) s2.heap/\∀b∈fp,H' b=none) E s1) E s
 done:∀(X:Cx),X.prog=P->X.w=w->X.K=K->X.calm=true->∀(i:Nat) (pins:List (Addr×Obj)) (s:Shared) (σ:St) (H:Hp) (E:Value->Shared->Prop),Inv X pins σ H s->(∀b∈fp,oH X pins H b)->tn i s.heap->J.stop i H->
  wpAny (model P w) X.A (pyNext<|.ref it) (λr s1=>r=none/\Inv X pins σ H s1) E s
 self:∀(A:Around) (i:Nat) (s:Shared) (Q:Value->Shared->Prop) (E:Value->Shared->Prop),tn i s.heap->Q (.ref it) s->wpAny (model P w) A (pyIter<|.ref it) Q E s
abbrev TI:=St->Hp->(It->Hp->Prop)->Prop
def PIE (X:Cx)(pins:List (Addr×Obj))(σ:St)(tg:Expr)(R:It->Hp->Prop)(itv:Value)(s2:Shared):Prop:=
 ∃(it:Addr) (fp:List Addr) (tn:Nat->Heap->Prop) (J:It) (H':Hp),itv=.ref it/\Inv X pins σ H' s2/\Turn X.prog X.w X.K tg J fp it tn/\tn 0 s2.heap/\(∀b∈fp,oH X pins H' b)/\R J H'
def PI (X:Cx)(tg iter:Expr)(wi:TI):Prop:=
 ∀(pins:List (Addr×Obj)) (s:Shared) (σ:St) (H:Hp) (R:It->Hp->Prop),Inv X pins σ H s->wi σ H R->
  wpAny (model X.prog X.w) X.A (eval iter X.env) (λv s1=>wpAny (model X.prog X.w) X.A (pyIter v) (PIE X pins σ tg R) X.xe s1) X.xe s
theorem JW (ho:s.heap.get? it=some o)(hc:o.cls=.type n)(hd:o.data=.fields vs)
    (hn:["enumerate","zip","dict_itemiterator","dict_reverseitemiterator","odict_iterator","itertools.zip_longest","itertools.pairwise"].contains n=false)(hQ:Q () s):wpAny M A (letOwnedTupleGo tg (.ref it) u) Q E s:=by
  unfold letOwnedTupleGo;cases tg<;>first
    |exact wpAny_pure hQ
    |(cases u<;>first
        |exact wpAny_pure hQ
        |(refine wpAny_bind (wpAny_load ho ?_)
          rw[hc,hd];show wpAny M A (if(["enumerate","zip","dict_itemiterator","dict_reverseitemiterator","odict_iterator","itertools.zip_longest","itertools.pairwise"].contains n && vs[0]? ==some (rawInt _))=true then _ else _) Q E s;rw[if_neg (by intro h;rw[hn,Bool.false_and] at h;cases h)];exact wpAny_pure hQ))
noncomputable def xY (K:Frag)(a:Addr):It:=
 ⟨λi H=>∃xs x,aR K H a xs/\xs[i]? =some x,λi H x H'=>H'=H/\∀xs,aR K H a xs->xs[i]? =some x,λi H=>∃xs,aR K H a xs/\xs.length<=i⟩
noncomputable def KC (K:Frag)(a:Addr):It:=
 ⟨λi H=>∃xs x,bB K H a xs/\xs[i]? =some x,λi H x H'=>H'=H/\∀xs,bB K H a xs->xs[i]? =some x,λi H=>∃xs,bB K H a xs/\xs.length<=i⟩
noncomputable def V3 (lo:Int)(n:Nat):It:=⟨λi _=>i<n,λi H x H'=>H'=H/\x=.int (lo+i),λi _=>n<=i⟩
theorem V4 {K:Frag}(a it:Addr):Turn P w K tg (xY K a) [it] it (λi h=>h.IsListIter it a i) where
 mem:=by simp
 obj:=λi h st b hb=>by
  have e:b=it:=by simpa using hb
  subst e;obtain⟨o,e,c,d⟩:=st;exact⟨o,e,λv z=>by rw[d] at z;cases z⟩
 keep:=λi h h' st k=>st.at λo e=>k it (by simp) o e
 item:=by intro X hP hw hK hc i pins s σ H E I hf st hg;subst hP hw hK;obtain⟨xs,x,hq,hx⟩:=hg;obtain⟨its,rv,p,hz⟩:=I.list hq;obtain⟨u,hu,ru⟩:=rv.get hx;obtain⟨f0,f1,f2,f3,f4,f5⟩:=hf it (by simp);refine wpAny_pyNext_list_item st p.isList (x:=u) (by simpa using hu) λh' st' sb=>?_;have I1:Inv X pins σ H {s with heap:=h'}:=I.turned (t':=s.toks) (λb o hb e=>(sb.2 b hb).trans e) f0 f1 f3 f4 f5;obtain⟨o,e,c,d⟩:=id st';exact⟨u,rfl,JW (s:={s with heap:=h'}) e c d (by decide) ⟨x,H,I1,ru,⟨rfl,λys hy=>by rw[I.vh hy hq];exact hx⟩,st',λb hb=>(hf b hb).1⟩⟩
 done:=by intro X hP hw hK hc i pins s σ H E I hf st hg;subst hP hw hK;obtain⟨xs,hq,hx⟩:=hg;obtain⟨its,rv,p,hz⟩:=I.list hq;obtain⟨f0,f1,f2,f3,f4,f5⟩:=hf it (by simp);have hl:=rv.length;exact wpAny_pyNext_list_end (I.ok.hd hc) st p.isList (by simp;omega) λh' eb=>⟨rfl,I.turned (t':=s.toks) (λb o hb e=>eb b o hb e) f0 f1 f3 f4 f5⟩
 self:=λ_ _ _ _ _ st h=>wpAny_pyIter_listiter st h
theorem S8 {K:Frag}(a it:Addr):Turn P w K tg (KC K a) [it] it (λi h=>h.IsTupleIter it a i) where
 mem:=by simp
 obj:=λi h st b hb=>by
  have e:b=it:=by simpa using hb
  subst e;obtain⟨o,e,c,d⟩:=st;exact⟨o,e,λv z=>by rw[d] at z;cases z⟩
 keep:=λi h h' st k=>st.at λo e=>k it (by simp) o e
 item:=by intro X hP hw hK hc i pins s σ H E I hf st hg;subst hP hw hK;obtain⟨xs,x,hq,hx⟩:=hg;obtain⟨its,rv,p,hz⟩:=I.tuple hq;obtain⟨u,hu,ru⟩:=rv.get hx;obtain⟨f0,f1,f2,f3,f4,f5⟩:=hf it (by simp);refine wpAny_pyNext_tuple_item st (show s.heap.IsTuple a its.toArray from p) (x:=u) (by simpa using hu) λh' st' sb=>?_;have I1:Inv X pins σ H {s with heap:=h'}:=I.turned (t':=s.toks) (λb o hb e=>(sb.2 b hb).trans e) f0 f1 f3 f4 f5;obtain⟨o,e,c,d⟩:=id st';exact⟨u,rfl,JW (s:={s with heap:=h'}) e c d (by decide) ⟨x,H,I1,ru,⟨rfl,λys hy=>by rw[I.VR hy hq];exact hx⟩,st',λb hb=>(hf b hb).1⟩⟩
 done:=by intro X hP hw hK hc i pins s σ H E I hf st hg;subst hP hw hK;obtain⟨xs,hq,hx⟩:=hg;obtain⟨its,rv,p,hz⟩:=I.tuple hq;obtain⟨f0,f1,f2,f3,f4,f5⟩:=hf it (by simp);have hl:=rv.length;exact wpAny_pyNext_tuple_end (I.ok.hd hc) st (show s.heap.IsTuple a its.toArray from p) (by simp;omega) λh' eb=>⟨rfl,I.turned (t':=s.toks) (λb o hb e=>eb b o hb e) f0 f1 f3 f4 f5⟩
 self:=λ_ _ _ _ _ st h=>wpAny_pyIter_tupleiter st h
theorem S9 {K:Frag}(it:Addr)(lo:Int)(n:Nat):Turn P w K tg (V3 lo n) [it] it (λi h=>IsRangeIter h it (lo+(i:Nat)*1) ((n:Int) - (i:Nat)) 1) where
 mem:=by simp
 obj:=λi h st b hb=>by
  have e:b=it:=by simpa using hb
  subst e;exact⟨_,st,λv z=>by
   have z':Data.fields _=Data.cell v:=z;cases z'⟩
 keep:=λi h h' st k=>k it (by simp) _ st
 item:=by intro X hP hw hK hc i pins s σ H E I hf st hg;subst hP hw hK;obtain⟨f0,f1,f2,f3,f4,f5⟩:=hf it (by simp);have W:=Walks.range (prog:=X.prog) (w:=X.w) (I.ok.hd hc) it lo 1 n;refine W.item i s _ _ hg st λv h' tk hv st' kk=>?_;obtain⟨t,rfl⟩:=hv;have I1:Inv X pins σ H {s with heap:=h',toks:=tk}:=I.turned (λb o hb e=>kk b o (by simpa using hb) e) f0 f1 f3 f4 f5;refine⟨_,rfl,JW (s:={s with heap:=h',toks:=tk}) (n:="range_iterator") st' rfl rfl (by decide) ⟨.int<|lo+i,H,I1,⟨t,?_⟩,⟨rfl,rfl⟩,st',λb hb=>(hf b hb).1⟩⟩;rw[Int.mul_one]
 done:=by intro X hP hw hK hc i pins s σ H E I hf st hg;subst hP hw hK;obtain⟨f0,f1,f2,f3,f4,f5⟩:=hf it (by simp);exact wpAny_pyNext_range_end (I.ok.hd hc) st (by have:n<=i:=hg;omega) λh' eb=>⟨rfl,I.turned (t':=s.toks) (λb o hb e=>eb b o hb e) f0 f1 f3 f4 f5⟩
 self:=λ_ _ _ _ _ st h=>wpAny_pyIter_rangeiter st h
section
variable {tg:Expr}
def qG (K:Frag)(tl:TE):TI:=λσ H R=>tl σ H λx H1=>∃a,x=.ref a/\(∃xs,aR K H1 a xs)/\R (xY K a) H1
def Zg (K:Frag)(tl:TE):TI:=λσ H R=>tl σ H λx H1=>∃a,x=.ref a/\(∃xs,bB K H1 a xs)/\R (KC K a) H1
theorem iw {tl:TE}(hl:PE X l tl):PI X tg l (qG X.K tl):=by
 intro pins s σ H R I h;refine aV (hl pins s σ H _ I h) λv s1 ⟨x,H1,I1,r1,q1⟩=>?_;obtain⟨a,e,⟨xs,hq⟩,q⟩:=q1;subst e;cases r1;obtain⟨its,rv,p,hz⟩:=I1.list hq;refine wpAny_pyIter_list p.isList ?_;refine⟨s1.heap.objs.size,[s1.heap.objs.size],_,_,H1,rfl,I1.kept (t':=s1.toks) λb o e=>get?_push_of_some _ e,V4 a _,⟨_,get?_push_size _ rfl,rfl,rfl⟩,λb hb=>?_,q⟩;have e:b=s1.heap.objs.size:=by simpa using hb
 subst e;exact I1.xX (le_refl _)<|I1.hok.fresh<|le_refl _
theorem V5 {tl:TE}(hl:PE X l tl):PI X tg l (Zg X.K tl):=by
 intro pins s σ H R I h;refine aV (hl pins s σ H _ I h) λv s1 ⟨x,H1,I1,r1,q1⟩=>?_;obtain⟨a,e,⟨xs,hq⟩,q⟩:=q1;subst e;cases r1;obtain⟨its,rv,p,hz⟩:=I1.tuple hq;refine wpAny_pyIter_tuple (show s1.heap.IsTuple a its.toArray from p) ?_;refine⟨s1.heap.objs.size,[s1.heap.objs.size],_,_,H1,rfl,I1.kept (t':=s1.toks) λb o e=>get?_push_of_some _ e,S8 a _,⟨_,get?_push_size _ rfl,rfl,rfl⟩,λb hb=>?_,q⟩;have e:b=s1.heap.objs.size:=by simpa using hb
 subst e;exact I1.xX (le_refl _)<|I1.hok.fresh<|le_refl _
theorem Zh {lo hi:Int}(I:Inv X pins σ H s)(h1: -(2^62)<=lo)(h2:lo<2^62)(h3: -(2^62)<=hi)(h4:hi<2^62)
  (q:R (V3 lo (hi - lo).toNat) H):wpAny (model X.prog X.w) X.A (pyIter<|.ref s.heap.objs.size) (PIE X pins σ tg R) E {s with heap:=s.heap.push {cls:=.type "range",data:=.fields #[.int lo t,.int hi u,.int 1 v]},toks:=tk}:=by
 refine wpAny_pyIter_range (IsRange.new ..) (small_one h1 h2 h3 h4) ?_;have I1:Inv X pins σ H {s with heap:=s.heap.push {cls:=.type "range",data:=.fields #[.int lo t,.int hi u,.int 1 v]},toks:=tk}:=I.kept λb o e=>get?_push_of_some _ e;refine⟨(s.heap.push {cls:=.type "range",data:=.fields #[.int lo t,.int hi u,.int 1 v]}).objs.size,[(s.heap.push {cls:=.type "range",data:=.fields #[.int lo t,.int hi u,.int 1 v]}).objs.size],_,_,H,rfl,
  I1.kept (t':=tk) λb o e=>get?_push_of_some _ e,S9 _ lo (hi - lo).toNat,?_,λb hb=>?_,q⟩
 .have e1:lo+((0:Nat):Int)*1=lo:=by simp
  have e2:(((hi - lo).toNat:Nat):Int) - ((0:Nat):Int)=Builtin.Range.rangeSize lo hi 1:=by rw[rangeSize_one];split<;>omega
  show IsRangeIter _ _ (lo+((0:Nat):Int)*1) ((((hi - lo).toNat:Nat):Int) - ((0:Nat):Int)) 1;rw[e1,e2];exact get?_push_size _ rfl
 .have e:b=(s.heap.push {cls:=.type "range",data:=.fields #[.int lo t,.int hi u,.int 1 v]}).objs.size:=by simpa using hb
  subst e;exact I1.xX (le_refl _)<|I1.hok.fresh<|le_refl _
def Tc (ta:TA):TI:=λσ H R=>ta σ H λvs H1=>∃j:Int,vs=[.int j]∧-(2^62)<=j/\j<2^62/\R (V3 0 j.toNat) H1
theorem Ho {p pos:Pos}(hg:Gl X "range")(hm:X.mg "range"=none)(ha:PA X [a] ta)(hs:starEach [a] X.env=[(false,eval a X.env)]:=by rfl):PI X tg (.Call (.Name "range" p) [a] [] pos) (Tc ta):=by
 intro pins s σ H R I h;refine Call_<|pG I hg hm boot_range<|PyProof.Rows.callWith_type1 (aV (ha pos pins s σ H _ I h) λus s1 ⟨vs,H1,I1,r1,q1⟩=>?_) hs rfl;obtain⟨j,e,q1,q2,q⟩:=q1;subst e;cases r1 with
 |cons r rr=>cases rr;obtain⟨t,rfl⟩:=r;exact call_range_1<|Zh I1 (by omega) (by omega) q1 q2 (by simpa using q)
def Te (wi:TI)(g:TG)(tb:TS):TS:=λD σ H=>wi σ H λJ H1=>∃W:Nat->Nat->St->Hp->Prop,(∃m,W 0 m σ H1)/\∀i m σ H,W i m σ H->
 (J.stop i H/\D.nx σ H)\/(J.go i H/\∃N:St->Hp->Prop,(∀σ' H',N σ' H'->∃m',m'<m/\W (i+1) m' σ' H')/\∀x H',J.Kz i H x H'->g x σ H' λσ2 H2=>tb {D with nx:=N,ct:=N,bk:=D.nx} σ2 H2)
noncomputable def um (fp:List Addr)(h:Heap):List (Addr×Obj):=fp.filterMap λb=>(h.get? b).map λo=>(b,o)
theorem qH (hb:b∈fp)(e:h.get? b=some o):(b,o)∈um fp h:=List.mem_filterMap.mpr ⟨b,hb,by rw[e];rfl⟩
theorem V6 (hp:p∈um fp h):p.1∈fp/\h.get? p.1=some p.2:=by
 obtain⟨b,hb,e⟩:=List.mem_filterMap.mp hp;cases q:h.get? b with
 |none=>rw[q] at e;cases e
 |some o=>rw[q] at e;have e':(b,o)=p:=Option.some.inj e;subst e';exact⟨hb,q⟩
theorem Inv.pinned (I:Inv X pins σ H s)(hf:∀b∈fp,oH X pins H b)(ho:∀b∈fp,∃o,s.heap.get? b=some o/\∀v,o.data≠ .cell v):Inv X (pins++um fp s.heap) σ H s:=
 I.Qw λp hp=>(mem_append.mp hp).elim (λz=>I.pin p<|mem_append_right _ z) λz=>by obtain⟨hb,e⟩:=V6 z;obtain⟨f0,f1,f2,_⟩:=hf p.1 hb;obtain⟨o,e',d⟩:=ho p.1 hb;rw[e] at e';cases e';exact⟨e,f0,f1,f2,d⟩
theorem Inv.vo (I:Inv X (pins++pl) σ H s):Inv X pins σ H s:=I.Qw λp hp=>I.pin p<|mem_append_right _<|mem_append_left _ hp
theorem iV (hp:PassesOwn (model X.prog X.w) X.A X.env X.xe)(hc:X.calm=true)(hi:PI X tg iter wi)(hg:PG X tg g)(hb:iG X body tb)
  (hs:∀x,foldedSetIterable iter X.env x=pure x:=by intro _;rfl):PS X (.For tg iter body [] pos) (Te wi g tb):=by
 intro pins s σ H D I h;refine wpAny_For (aV (hi pins s σ H _ I h) λv s1 h1=>aV h1 λitv s2 h2=>?_) hs;obtain⟨it,fp,tn,J,H2,e,I2,T,st2,f2,W,⟨m0,w0⟩,turn⟩:=h2;subst e;have stat:∀{H':Hp},(∀b∈fp,H' b=none)->∀b∈fp,oH X pins H' b:=λhn b hb=>⟨hn b hb,(f2 b hb).2⟩;refine codeAny_forLoop_any (λn s'=>∃i σ' H',Inv X pins σ' H' s'/\tn i s'.heap/\(∀b∈fp,H' b=none)/\W i n σ' H') ?_ m0 ⟨0,σ,H2,I2,st2,λb hb=>(f2 b hb).1,w0⟩;rintro n s3 ⟨i,σ3,H3,I3,st3,fr3,w3⟩;rcases turn i n σ3 H3 w3 with⟨stop,qn⟩|⟨go,N,hN,step⟩
 .refine wpAny_passesOwn hp<|aV (T.done X rfl rfl rfl hc i pins s3 σ3 H3 X.xe I3 (stat fr3) st3 stop) λr s4 ⟨hr,I4⟩=>?_;subst hr;exact wpAny_execs_nil ⟨σ3,H3,I4,qn⟩
 .refine wpAny_passesOwn hp<|aV (T.item X rfl rfl rfl hc i pins s3 σ3 H3 X.xe I3 (stat fr3) st3 go) λr s4 ⟨u,hr,h4⟩=>?_;subst hr;refine wpAny_passesOwn hp<|aV h4 λ_ s5 hz=>?_;obtain⟨x,H5,I5,r5,y5,KD,fr5⟩:=hz;have I5':=I5.pinned (stat fr5)<|T.obj _ _ KD;refine wpAny_passesOwn hp<|aV (hg _ s5 σ3 H5 x u _ I5' r5<|step x H5 y5) λ_ s6 ⟨KH,H6,I6,q6⟩=>?_;refine wpAny_passesOwn hp<|aV (hb _ s6 KH H6 _ I6 q6) λf s7 q7=>?_;have again:∀{xZ:St}{H7:Hp},Inv X (pins++um fp s5.heap) xZ H7 s7->N xZ H7->∃m,m<n/\∃i σ' H',Inv X pins σ' H' s7/\tn i s7.heap/\(∀b∈fp,H' b=none)/\W i m σ' H':=λ{xZ H7} I7 n7=>by obtain⟨m',hm,w7⟩:=hN xZ H7 n7;refine⟨m',hm,i+1,xZ,H7,I7.vo,T.keep _ _ _ KD λb hb o e=>(I7.pin (b,o)<|mem_append_right _<|mem_append_right _<|qH hb e).1,λb hb=>?_,w7⟩;obtain⟨o,e,d⟩:=T.obj _ _ KD b hb;exact(I7.pin (b,o)<|mem_append_right _<|mem_append_right _<|qH hb e).2.1
  cases f with
  |next=>obtain⟨xZ,H7,I7,n7⟩:=q7;exact again I7 n7
  |cont=>obtain⟨xZ,H7,I7,n7⟩:=q7;exact again I7 n7
  |brk=>obtain⟨xZ,H7,I7,q7⟩:=q7;exact⟨xZ,H7,I7.vo,q7⟩
  |ret v=>obtain⟨x7,xZ,H7,I7,r7,q7⟩:=q7;exact⟨x7,xZ,H7,I7.vo,r7,q7⟩
end
theorem Zi {K:Frag}{g:TG}{tb:TS}{D:Ends}(Pv:Nat->St->Hp->Prop)(h0:Pv 0 σ H)(hl:∀i σ H,i<=xs.length->Pv i σ H->aR K H a xs)
  (hs:∀i x σ H,xs[i]? =some x->Pv i σ H->g x σ H λσ2 H2=>tb {D with nx:=Pv<|i+1,ct:=Pv<|i+1,bk:=D.nx} σ2 H2)(hd:∀σ H,Pv xs.length σ H->D.nx σ H):
  ∃W:Nat->Nat->St->Hp->Prop,(∃m,W 0 m σ H)/\∀i m σ H,W i m σ H->
   ((xY K a).stop i H/\D.nx σ H)\/((xY K a).go i H/\∃N:St->Hp->Prop,(∀σ' H',N σ' H'->∃m',m'<m/\W (i+1) m' σ' H')/\∀x H',(xY K a).Kz i H x H'->g x σ H' λσ2 H2=>tb {D with nx:=N,ct:=N,bk:=D.nx} σ2 H2):=by
 refine⟨λi m σ H=>m=xs.length - i/\i<=xs.length/\Pv i σ H,⟨xs.length,by simp,zero_le _,h0⟩,?_⟩;rintro i m σ H ⟨rfl,hi,p⟩;have q:=hl i σ H hi p;by_cases hlt:i<xs.length
 .refine .inr ⟨⟨xs,xs[i],q,by simp[hlt]⟩,Pv<|i+1,λσ' H' p'=>⟨xs.length - (i+1),by omega,rfl,hlt,p'⟩,λx H' y=>?_⟩;obtain⟨e,y⟩:=y;subst e;exact hs i x σ _ (y xs q) p
 .have e:i=xs.length:=by omega
  subst e;exact .inl ⟨⟨xs,q,le_refl _⟩,hd σ H p⟩
theorem ade {K:Frag}{g:TG}{tb:TS}{D:Ends}(Pv:Nat->St->Hp->Prop)(h0:Pv 0 σ H)(hl:∀i σ H,i<=xs.length->Pv i σ H->bB K H a xs)
  (hs:∀i x σ H,xs[i]? =some x->Pv i σ H->g x σ H λσ2 H2=>tb {D with nx:=Pv<|i+1,ct:=Pv<|i+1,bk:=D.nx} σ2 H2)(hd:∀σ H,Pv xs.length σ H->D.nx σ H):
  ∃W:Nat->Nat->St->Hp->Prop,(∃m,W 0 m σ H)/\∀i m σ H,W i m σ H->
   ((KC K a).stop i H/\D.nx σ H)\/((KC K a).go i H/\∃N:St->Hp->Prop,(∀σ' H',N σ' H'->∃m',m'<m/\W (i+1) m' σ' H')/\∀x H',(KC K a).Kz i H x H'->g x σ H' λσ2 H2=>tb {D with nx:=N,ct:=N,bk:=D.nx} σ2 H2):=by
 refine⟨λi m σ H=>m=xs.length - i/\i<=xs.length/\Pv i σ H,⟨xs.length,by simp,zero_le _,h0⟩,?_⟩;rintro i m σ H ⟨rfl,hi,p⟩;have q:=hl i σ H hi p;by_cases hlt:i<xs.length
 .refine .inr ⟨⟨xs,xs[i],q,by simp[hlt]⟩,Pv<|i+1,λσ' H' p'=>⟨xs.length - (i+1),by omega,rfl,hlt,p'⟩,λx H' y=>?_⟩;obtain⟨e,y⟩:=y;subst e;exact hs i x σ _ (y xs q) p
 .have e:i=xs.length:=by omega
  subst e;exact .inl ⟨⟨xs,q,le_refl _⟩,hd σ H p⟩
abbrev R2:=V->V->Hp->VK->Prop
def cA (X:Cx)(f:Value->Value->Sem Value)(r:R2):Prop:=
 ∀(pins:List (Addr×Obj)) (s:Shared) (σ:St) (H:Hp) (x y:V) (v u:Value) (Q:VK),Inv X pins σ H s->RelV x v->RelV y u->r x y H Q->
  wpAny (model X.prog X.w) X.A (f v u) (EP X pins σ Q) X.xe s
def Hq (X:Cx)(f:Value->Sem Value)(r:V->Hp->VK->Prop):Prop:=
 ∀(pins:List (Addr×Obj)) (s:Shared) (σ:St) (H:Hp) (x:V) (v:Value) (Q:VK),Inv X pins σ H s->RelV x v->r x H Q->
  wpAny (model X.prog X.w) X.A (f v) (EP X pins σ Q) X.xe s
def dg (X:Cx)(f:Value)(r:List V->Hp->VK->Prop):Prop:=
 ∀(pins:List (Addr×Obj)) (s:Shared) (σ:St) (H:Hp) (xs:List V) (us:List Value) (Q:VK),Inv X pins σ H s->Vals xs us->r xs H Q->
  wpAny (model X.prog X.w) X.A (call f us) (EP X pins σ Q) X.xe s
def ajM (X:Cx)(r:V->Hp->(Bool->Hp->Prop)->Prop):Prop:=
 ∀(pins:List (Addr×Obj)) (s:Shared) (σ:St) (H:Hp) (x:V) (v:Value) (Q:Bool->Hp->Prop),Inv X pins σ H s->RelV x v->r x H Q->
  wpAny (model X.prog X.w) X.A (truthy v) (TP X pins σ Q) X.xe s
def gR (r:R2)(ta tb:TE):TE:=λσ H Q=>ta σ H λx H1=>tb σ H1 λy H2=>r x y H2 Q
def tUn (r:V->Hp->VK->Prop)(ta:TE):TE:=λσ H Q=>ta σ H λx H1=>r x H1 Q
def rI (C:Int->Int->Prop)(g:Int->Int->V):R2:=λx y H Q=>∃i j,x=.int i/\y=.int j/\C i j/\Q (g i j) H
def Dt (g:Int->Int->V):R2:=λx y H Q=>∃i j,x=.int i/\y=.int j/\Q (g i j) H
def rU (g:Int->V):V->Hp->VK->Prop:=λx H Q=>∃i,x=.int i/\Q (g i) H
section
variable {pos:Pos}
theorem Zj (ha:PE X a ta)(hb:PE X b tb){R:V->V->Hp->Prop}(I:Inv X pins σ H s)
  (h:ta σ H λx H1=>tb σ H1 λy H2=>R x y H2){f:Value->Value->Sem Value}
  (hf:∀v u s2 x y H2,Inv X pins σ H2 s2->RelV x v->RelV y u->R x y H2->wpAny (model X.prog X.w) X.A (f v u) Q X.xe s2):
  wpAny (model X.prog X.w) X.A (eval a X.env) (λv s₁=>wpAny (model X.prog X.w) X.A (eval b X.env) (λu s₂=>wpAny (model X.prog X.w) X.A (f v u) Q X.xe s₂) X.xe s₁) X.xe s:=by
 refine aV (ha pins s σ H _ I h) λv s1 ⟨x,H1,I1,r1,q1⟩=>?_;refine aV (hb pins s1 σ H1 _ I1 q1) λu s2 ⟨y,H2,I2,r2,q2⟩=>?_;exact hf v u s2 x y H2 I2 r1 r2 q2
theorem iW {r:R2}(ho:cA X (binaryOp op) r)(ha:PE X a ta)(hb:PE X b tb):PE X (.BinOp a op b pos) (gR r ta tb):=by intro pins s σ H Q I h;exact wpAny_BinOp<|Zj ha hb I h λv u s2 x y H2 I2 rx ry q=>ho pins s2 σ H2 x y v u Q I2 rx ry q
theorem Tf (ho:Hq X (unaryOp op) r)(ha:PE X a ta):PE X (.UnaryOp op a pos) (tUn r ta):=by intro pins s σ H Q I h;exact UnaryOp_<|aV (ha pins s σ H _ I h) λv s1 ⟨x,H1,I1,r1,q1⟩=>ho pins s1 σ H1 x v Q I1 r1 q1
theorem opI {g:Int->Int->Int}
  (rule:∀(i j:Int) (t u:Tok) (s:Shared) (Q:Value->Shared->Prop) (E:Value->Shared->Prop),C i j->Q (.int (g i j) s.toks) {s with toks:=s.toks+1}->wpAny (model X.prog X.w) X.A (f (.int i t)<|.int j u) Q E s):
  cA X f (rI C λi j=>.int<|g i j):=by
 intro pins s σ H x y v u Q I rx ry h;obtain⟨i,j,rfl,rfl,hc,q⟩:=h;obtain⟨t,rfl⟩:=rx;obtain⟨t',rfl⟩:=ry;exact rule i j t t' s _ _ hc ⟨.int<|g i j,H,I.tok _,⟨_,rfl⟩,q⟩
theorem Zk {g:Int->Int->Int}
  (rule:∀(i j:Int) (t u:Tok) (s:Shared) (Q:Value->Shared->Prop) (E:Value->Shared->Prop),Q (.int (g i j) s.toks) {s with toks:=s.toks+1}->wpAny (model X.prog X.w) X.A (f (.int i t)<|.int j u) Q E s):
  cA X f (Dt λi j=>.int<|g i j):=by
 intro pins s σ H x y v u Q I rx ry h;obtain⟨i,j,rfl,rfl,q⟩:=h;obtain⟨t,rfl⟩:=rx;obtain⟨t',rfl⟩:=ry;exact rule i j t t' s _ _ ⟨.int<|g i j,H,I.tok _,⟨_,rfl⟩,q⟩
theorem Zm {g:Int->Int->Bool}
  (rule:∀(i j:Int) (t u:Tok) (s:Shared) (Q:Value->Shared->Prop) (E:Value->Shared->Prop),Q (.bool<|g i j) s->wpAny (model X.prog X.w) X.A (f (.int i t)<|.int j u) Q E s):
  cA X f (Dt λi j=>.bl<|g i j):=by
 intro pins s σ H x y v u Q I rx ry h;obtain⟨i,j,rfl,rfl,q⟩:=h;obtain⟨t,rfl⟩:=rx;obtain⟨t',rfl⟩:=ry;exact rule i j t t' s _ _ ⟨.bl<|g i j,H,I,rfl,q⟩
def Ti (i j:Int):Prop:=0<=j/\j<=1000000/\i.natAbs<2^64
theorem aeK:cA X (binaryOp .Add) (Dt λi j=>.int<|i+j):=Zk λ_ _ _ _ _ _ _ q=>add_int q
theorem aeL:cA X (binaryOp .Sub) (Dt λi j=>.int<|i - j):=Zk λ_ _ _ _ _ _ _ q=>sub_int q
theorem aeM:cA X (binaryOp .Mod) (rI (λ_ j=>0<j) λi j=>.int<|i % j):=opI λi j _ _ _ _ _ hc q=>by have h1:(0:Int)<j:=hc;exact mod_int' (by omega) (by rw[Int.fmod_eq_emod_of_nonneg i<|by omega];exact q)
theorem aeN:cA X (binaryOp .Pow) (rI Ti λi j=>.int<|i^j.toNat):=opI λ_ _ _ _ _ _ _ hc q=>pow_int_small hc.1 hc.2.1 hc.2.2 q
theorem aeO:cA X (binaryOp .BitXor) (Dt λi j=>.int<|Builtin.bitXor i j):=Zk λ_ _ _ _ _ _ _ q=>xor_int q
theorem unI {f:Value->Sem Value}{g:Int->Int}
  (rule:∀(i:Int) (t:Tok) (s:Shared) (Q:Value->Shared->Prop) (E:Value->Shared->Prop),Q (.int (g i) s.toks) {s with toks:=s.toks+1}->wpAny (model X.prog X.w) X.A (f<|.int i t) Q E s):
  Hq X f (rU λi=>.int<|g i):=by
 intro pins s σ H x v Q I rx h;obtain⟨i,rfl,q⟩:=h;obtain⟨t,rfl⟩:=rx;exact rule i t s _ _ ⟨.int<|g i,H,I.tok _,⟨_,rfl⟩,q⟩
theorem V7:Hq X (unaryOp .USub) (rU λi=>.int<|-i):=unI λ_ _ _ _ _ q=>neg_int q
end
noncomputable def ajN:V->V->Bool
 |.non,.non=>true|.non,.int _=>true|.int _,.non=>true|.non,.bl _=>true|.bl _,.non=>true|.non,.str _=>true|.str _,.non=>true
 |.int _,.int _=>true|.bl _,.bl _=>true|.str _,.str _=>true|.xg _,.xg _=>true
 |.int _,.str _=>true|.str _,.int _=>true|.bl _,.str _=>true|.str _,.bl _=>true
 |_,_=>false
def V8:R2:=λx y H Q=>ajN x y=true/\Q (.bl<|decide<|x=y) H
theorem adf:decide (V.int i=V.int j)=(i==j):=by rw[Bool.eq_iff_iff];simp
theorem aeP:decide (V.bl i=V.bl j)=(i==j):=by rw[Bool.eq_iff_iff];simp
theorem adg:decide (V.str i=V.str j)=(i==j):=by rw[Bool.eq_iff_iff];simp
theorem adh:decide (V.xg i=V.xg j)=(i.toList==j.toList):=by rw[Bool.eq_iff_iff];cases i;cases j;simp
section
variable {pos:Pos}
theorem fV (I:Inv X pins σ H s)(q:Q (.bl k) H)(e:k=k'):EP X pins σ Q (.bool k') s:=by subst e;exact⟨.bl k,H,I,rfl,q⟩
theorem lZ:cA X (compareOp .Eq) V8:=by
 intro pins s σ H x y v u Q I rx ry h;obtain⟨hs,q⟩:=h;cases x with
 |non=>
  cases rx;cases y with
  |non=>cases ry;exact PySem.EqNone.eq_none_none<|fV I q<|by simp
  |bl j=>cases ry;exact PySem.EqNone.eq_none_bool<|fV I q<|by simp
  |int j=>obtain⟨t',rfl⟩:=ry;exact PySem.EqNone.eq_none_int<|fV I q<|by simp
  |str j=>obtain⟨t',rfl⟩:=ry;exact PySem.EqNone.eq_none_str<|fV I q<|by simp
  |_=>exact absurd (show false=true from hs) Bool.false_ne_true
 |bl i=>
  cases rx;cases y with
  |non=>cases ry;exact PySem.EqNone.eq_bool_none<|fV I q<|by simp
  |bl j=>cases ry;exact eq_bool<|fV I q aeP
  |str j=>obtain⟨t',rfl⟩:=ry;exact PySem.EqMixed.eq_bool_str<|fV I q<|by simp
  |_=>exact absurd (show false=true from hs) Bool.false_ne_true
 |int i=>
  obtain⟨t,rfl⟩:=rx;cases y with
  |non=>cases ry;exact PySem.EqNone.eq_int_none<|fV I q<|by simp
  |int j=>obtain⟨t',rfl⟩:=ry;exact eq_int<|fV I q adf
  |str j=>obtain⟨t',rfl⟩:=ry;exact PySem.EqMixed.eq_int_str<|fV I q<|by simp
  |_=>exact absurd (show false=true from hs) Bool.false_ne_true
 |str i=>
  obtain⟨t,rfl⟩:=rx;cases y with
  |non=>cases ry;exact PySem.EqNone.eq_str_none<|fV I q<|by simp
  |bl j=>cases ry;exact PySem.EqMixed.eq_str_bool<|fV I q<|by simp
  |int j=>obtain⟨t',rfl⟩:=ry;exact PySem.EqMixed.eq_str_int<|fV I q<|by simp
  |str j=>obtain⟨t',rfl⟩:=ry;exact eq_str<|fV I q adg
  |_=>exact absurd (show false=true from hs) Bool.false_ne_true
 |xg i=>
  obtain⟨t,rfl⟩:=rx;cases y with
  |xg j=>obtain⟨t',rfl⟩:=ry;exact PySem.W.eq_bytes<|fV I q adh
  |_=>exact absurd (show false=true from hs) Bool.false_ne_true
 |_=>cases y<;>exact absurd (show false=true from hs) Bool.false_ne_true
theorem ahF:cA X (compareOp .Lt) (Dt λi j=>.bl<|decide<|i<j):=Zm λ_ _ _ _ _ _ _ q=>lt_int q
theorem ahG:cA X (compareOp .LtE) (Dt λi j=>.bl<|decide<|i<=j):=Zm λ_ _ _ _ _ _ _ q=>le_int q
theorem ahH:cA X (compareOp .Gt) (Dt λi j=>.bl<|decide<|j<i):=Zm λ_ _ _ _ _ _ _ q=>gt_int q
theorem aeQ:cA X (compareOp .Is) (λx y H Q=>y=.non/\Q (.bl<|decide<|x=.non) H):=by
 intro pins s σ H x y v u Q I rx ry h;obtain⟨rfl,q⟩:=h;cases ry;refine is_none_gen<|fV I q ?_;cases x<;>first
  |(cases rx;rfl)
  |(obtain⟨t,rfl⟩:=rx;rfl)
theorem adi:cA X (compareOp .IsNot) (λx y H Q=>y=.non/\Q (.bl<|!decide (x=.non)) H):=by
 intro pins s σ H x y v u Q I rx ry h;obtain⟨rfl,q⟩:=h;cases ry;refine isnot_none_gen<|fV I q ?_;cases x<;>first
  |(cases rx;rfl)
  |(obtain⟨t,rfl⟩:=rx;rfl)
theorem Du (b:Expr)(h:op≠ .In:=by decide)(h2:op≠ .NotIn:=by decide):behindInMarks op b=false:=by
 have e1:(op==CmpOp.In)=false:=by cases op<;>first|rfl|exact absurd rfl h
 have e2:(op==CmpOp.NotIn)=false:=by cases op<;>first|rfl|exact absurd rfl h2
 cases b<;>simp[behindInMarks,e1,e2]
theorem adk (ho:cA X (compareOp op) r)(ha:PE X a ta)(hb:PE X b tb)(hm:behindInMarks op b=false):PE X (.Compare a [op] [b] pos) (gR r ta tb):=by intro pins s σ H Q I h;exact wpAny_Compare1 (Zj ha hb I h λv u s2 x y H2 I2 rx ry q=>ho pins s2 σ H2 x y v u Q I2 rx ry q) hm
def aeR (K:Frag)(x:V)(H:Hp)(k:Bool):Prop:=
 match x with
 |.non=>k=false
 |.bl b=>k=b
 |.int i=>k=(i !=0)
 |.str y=>y.length<=sizeLine/\k=((y.length:Int) !=0)
 |.xg y=>y.size<=sizeLine/\k=((y.size:Int) !=0)
 |.ref p=>(∃xs,aR K H p xs/\k= !xs.isEmpty)\/(∃xs,bB K H p xs/\k= !xs.isEmpty)\/∃kvs,H p=some (.dK kvs)/\k= !kvs.isEmpty
 |_=>False
theorem Tj (r:KV kvs vs):(!vs.isEmpty)= !kvs.isEmpty:=by cases r<;>rfl
theorem Dv (r:Vals xs its):(!its.toArray.isEmpty)= !xs.isEmpty:=by cases r<;>simp
theorem pI:(sizeLine:Nat)<2^63:=by rw[sizeLine_eq];decide
theorem aeS:ajM X (λx H Q=>∃k,aeR X.K x H k/\Q k H):=by
 intro pins s σ H x v Q I rx h;obtain⟨k,e,q⟩:=h;have hl:=pI;have hs:sizeLine=16777216:=sizeLine_eq;cases x with
 |non=>
  cases rx;have e':k=false:=e;subst e';exact truthy_none ⟨H,I,q⟩
 |bl b=>
  cases rx;have e':k=b:=e;subst e';exact wpAny_truthy_bool ⟨H,I,q⟩
 |int i=>
  obtain⟨t,rfl⟩:=rx;have e':k=(i !=0):=e;subst e';exact PySem.P.truthy_int ⟨H,I,q⟩
 |str y=>
  obtain⟨t,rfl⟩:=rx;obtain⟨hy,e'⟩:y.length<=sizeLine/\k=((y.length:Int) !=0):=e;subst e';exact PySem.P.truthy_str (by omega) ⟨H,I.tok _,q⟩
 |xg y=>
  obtain⟨t,rfl⟩:=rx;obtain⟨hy,e'⟩:y.size<=sizeLine/\k=((y.size:Int) !=0):=e;subst e';exact PySem.W.truthy_bytes (by omega) ⟨H,I.tok _,q⟩
 |ref p=>
  cases rx;have e':(∃xs,aR X.K H p xs/\k= !xs.isEmpty)\/(∃xs,bB X.K H p xs/\k= !xs.isEmpty)\/∃kvs,H p=some (.dK kvs)/\k= !kvs.isEmpty:=e;rcases e' with⟨xs,hx,e'⟩|⟨xs,hx,e'⟩|⟨kvs,hx,e'⟩
  .subst e';obtain⟨its,r,pl,hz⟩:=I.list hx;have hlen:=r.length;exact wpAny_truthy_list pl.isList (by simp only[size_toArray];omega) ⟨H,I.tok _,by rw[Dv r];exact q⟩
  .subst e';obtain⟨its,r,pl,hz⟩:=I.tuple hx;have hlen:=r.length;exact truthy_tuple pl (by simp only[size_toArray];omega) ⟨H,I.tok _,by rw[Dv r];exact q⟩
  .subst e';obtain⟨hz,hS,vs,r,m⟩:kvs.length<=sizeLine/\(p==sysModules)=false/\∃vs,KV kvs vs/\s.heap.DictOf (bZ X.prog X.w) p vs:=I.hok p _ hx;have hlen:kvs.length=vs.length:=Paired.length r;exact wpAny_truthy_dict hS m (by omega) ⟨H,I.tok _,by rw[Tj r];exact q⟩
 |_=>exact(show False from e).elim
theorem Zn (ha:PE X a ta)(he:∀whole,isTrue a X.env whole=(do let v<-whole;standAt a.pos;holding [v]<|truthy v)):
  PT X a (λσ H Q=>ta σ H λx H'=>∃k,aeR X.K x H' k/\Q k H'):=by
 intro pins s σ H Q I h;exact isTrue_plain (aV (ha pins s σ H _ I h) λv s1 ⟨x,H1,I1,r1,q1⟩=>aeS pins s1 σ H1 x v Q I1 r1 q1)<|he _
theorem Tn:cA X (binaryOp .Add) (λx y H Q=>∃i j,x=.str i/\y=.str j/\i.length+j.length<=sizeLine/\Q (.str<|i++j) H):=by intro pins s σ H x y v u Q I rx ry h;obtain⟨i,j,rfl,rfl,hz,q⟩:=h;obtain⟨t,rfl⟩:=rx;obtain⟨t',rfl⟩:=ry;exact add_str (λt' tk=>⟨.str<|i++j,H,I.tok _,⟨_,rfl⟩,q⟩) hz
theorem vals1 (r:Vals [x] us):∃u,us=[u]/\RelV x u:=by
 cases r with
 |cons r1 r2=>cases r2;exact⟨_,rfl,r1⟩
theorem vals2 (r:Vals [x,y] us):∃u w',us=[u,w']/\RelV x u/\RelV y w':=by
 cases r with
 |cons r1 r2=>
  cases r2 with
  |cons r3 r4=>cases r4;exact⟨_,_,rfl,r1,r3⟩
theorem Zo:dg X (.builtin "abs") (λxs H Q=>∃i,xs=[.int i]/\Q (.int<|if i<0 then -i else i) H):=by intro pins s σ H xs us Q I r h;obtain⟨i,rfl,q⟩:=h;obtain⟨u,rfl,t,rfl⟩:=vals1 r;exact call_abs_int λu tk=>⟨.int<|if i<0 then -i else i,H,I.tok _,⟨_,rfl⟩,q⟩
theorem V9 (hc:X.calm=true):dg X (.builtin "max") (λxs H Q=>∃i j,xs=[.int i,.int j]/\Q (.int<|if j>i then j else i) H):=by
 intro pins s σ H xs us Q I r h;obtain⟨i,j,rfl,q⟩:=h;obtain⟨u,w',rfl,⟨t,rfl⟩,⟨t',rfl⟩⟩:=vals2 r;refine max_two_ints (I.ok.hd hc) λh' tk k=>⟨_,H,I.kept k,?_,q⟩;by_cases hj:j>i
 .rw[if_pos hj,if_pos hj];exact⟨_,rfl⟩
 .rw[if_neg hj,if_neg hj];exact⟨_,rfl⟩
theorem Wa (hc:X.calm=true):dg X (.builtin "min") (λxs H Q=>∃i j,xs=[.int i,.int j]/\Q (.int<|if j<i then j else i) H):=by
 intro pins s σ H xs us Q I r h;obtain⟨i,j,rfl,q⟩:=h;obtain⟨u,w',rfl,⟨t,rfl⟩,⟨t',rfl⟩⟩:=vals2 r;refine min_two_ints (I.ok.hd hc) λh' tk k=>⟨_,H,I.kept k,?_,q⟩;by_cases hj:j<i
 .rw[if_pos hj,if_pos hj];exact⟨_,rfl⟩
 .rw[if_neg hj,if_neg hj];exact⟨_,rfl⟩
end
structure Ca (h:Heap)(x dx C:Addr)(mA:Str->Option Value):Prop where
 obj:h.get? x=some (instObj C dx)
 ns:h.Ns1 dx mA
 ne:dx≠x
theorem Wb {h:Heap}{dx:Addr}{mA:Str->Option Value}(n:h.Ns1 dx mA):∃od,h.get? dx=some od/\∀name,lookIn name od=some (mA name):=by
 obtain⟨o,es,ep,ho,hd,hk,_,hm⟩:=n;refine⟨o,ho,λname=>?_⟩;have e:=hm name;unfold nsFind findBy at e;rw[<-Array.find?_toList] at e;unfold lookIn;rw[hd];dsimp only;split
 .rename_i y q;rw[q] at e;exact congrArg some e
 .rename_i q;rw[q] at e;have a:es.toList.any (·.refKey)=false:=by rw[List.any_eq_false];intro y hy;obtain⟨z,t,hkey⟩:=hk y<|Array.mem_toList_iff.mp hy;simp[DictEntry.refKey,hkey]
  have a':¬es.toList.any (·.refKey)=true:=by rw[a];exact Bool.false_ne_true
  rw[if_neg a'];exact congrArg some e
theorem Ca.look (I:Ca h x dx C mA):∃od,PySem.W.InstAt h x (instObj C dx) C (some od)/\∀name,lookIn name od=some (mA name):=
 let⟨od,ho,hl⟩:=Wb I.ns
 ⟨od,⟨I.obj,rfl,rfl,ho⟩,hl⟩
section
variable {K:Frag}
theorem get_map (X:K.In s.heap)(I:Ca s.heap x dx C mA)(hg:plainGet K C name=true)(hh:hasDictIn K C=true)
  (ha:findIn K (.ref C) name=some none)(hv:mA name=some v)(hv':handedIn v=true)(h:Q v {s with toks:=s.toks+1}):
  wpAny (model prog w) A (getAttr (.ref x) name expr) Q E s:=by
 obtain⟨od,J,hl⟩:=I.look;exact PySem.W.get_value X J (plainGet_of hg).1 (PySem.W.findObj_own hh ha rfl<|by rw[hl,hv]) hv' h
theorem Zq (X:K.In s.heap)(I:Ca s.heap x dx C mA)(hg:plainGet K C name=true)
  (hf:findIn K (.ref C) name=some (some<|.ref f))(ht:isFn K (.ref f)=true)(hv:mA name=none)(h:Q (.ref f,[.ref x]) s):
  wpAny (model prog w) A (getMethod (.ref x) name pl) Q E s:=by
 obtain⟨od,J,hl⟩:=I.look;exact PySem.W.method_fn X J (plainGet_of hg).1 (plainGet_of hg).2 hf (beq_iff_eq.mp ht) (by show(lookIn name od).map (·.isSome)=some false;rw[hl,hv];rfl) h
theorem adl (X:K.In s.heap)(I:Ca s.heap x dx C mA)
  (hs:findIn K (.ref C) "__setattr__"=some (some<|.builtin "object.__setattr__"))(hp:plainOver K C=true)(ht:takerIn K C name=some none)(hh:hasDictIn K C=true)
  (hw:PySem.Within mA ns)(hsz:ns.length<=sizeLine)
  (h:∀h',Ca h' x dx C (λy=>if y=name then some v else mA y)->Heap.SameBut dx s.heap h'->Q () {s with heap:=h',toks:=s.toks+2}):
  wpAny (model prog w) A (setAttr (.ref x) name v) Q E s:=by
 obtain⟨od,J,hl⟩:=I.look;refine PySem.W.set_plain X J hs<|PySem.W.osa_open (s:={s with toks:=s.toks+1}) (r:=none) X J hp ht λb=>?_;obtain⟨cd,hc,hd'⟩:=PySem.W.any_some hh;have hx:s.heap.get? x=some ⟨.ref C,some dx,.plain,#[]⟩:=I.obj;refine wpAny_bind<|wpAny_pure<|wpAny_bind<|wpAny_bind<|wpAny_loadPart hx<|wpAny_bind<|PySem.W.Looks.here (s:={s with toks:=s.toks+1}) (PySem.W.looks_clsIn X hc) ?_;rw[hd'];refine wpAny_pure (a:=some dx)<|wpAny_bind<|wpAny_pure<|wpAny_bind ?_;refine wpAny_nsSet1 (s:={s with toks:=s.toks+1}) I.ns λh' hn2 hs2=>?_;obtain⟨oD,esD,epD,hoD,hdD,hcD⟩:=hn2.count<|PySem.Within.cons name v hw;refine wpAny_bind (wpAny_lookBehind hoD (by rw[hdD];exact pastItsLine_dict<|le_trans hcD (by rw[length_cons];omega)) ?_);exact wpAny_pure<|h _ ⟨(hs2.2 _<|Ne.symm I.ne).trans I.obj,hn2,I.ne⟩ hs2
theorem Zr (X:K.In s.heap)(hm:makesIn K C=true)
  (hi:findIn K (.ref C) "__init__"=some (some<|.ref f))(hf:PySem.W.typeIn K (.ref f)=some (.type "function"))
  (h:codeAny (model prog w) (A.under (.builtin "type.__call__" ⟨.ref C::vs,kw⟩)) (.call (.ref f) ⟨.ref (s.heap.objs.size+1)::vs,kw⟩) (PySem.W.InitBack (s.heap.objs.size+1) R)
   {s with heap:=(s.heap.push emptyDict).push (instObj C s.heap.objs.size)}):
  codeAny (model prog w) A (.call (.ref C) ⟨vs,kw⟩) R s:=by
 obtain⟨hh,g,d,t,os⟩:=s;exact PySem.W.make_core (PySem.W.makes_of X hm) (PySem.W.looks_findIn X hi) (λself=>PySem.W.bind_fn X self hf) (.inl rfl) h
end
noncomputable def lJ (f:Str)(v:V):List (Str×V)->List (Str×V)
 |[]=>[(f,v)]
 |(g,x)::r=>if g=f then(g,v)::r else(g,x)::lJ f v r
theorem Az (f g:Str)(v:V):∀fs:List (Str×V),(lJ f v fs).lookup g=if g=f then some v else fs.lookup g
 |[]=>by
  show List.lookup g [(f,v)]=_;by_cases h:g=f
  .have hb:(g==f)=true:=beq_iff_eq.mpr h;simp only[List.lookup,hb,if_pos h]
  .have hb:(g==f)=false:=beq_eq_false_iff_ne.mpr h;simp only[List.lookup,hb,if_neg h]
 |(k,x)::r=>by
  have ih:=Az f g v r;rw[show lJ f v ((k,x)::r)=(if k=f then(k,v)::r else(k,x)::lJ f v r) from rfl];by_cases hk:k=f
  .rw[if_pos hk];by_cases h:g=k
   .have hb:(g==k)=true:=beq_iff_eq.mpr h;simp only[List.lookup,hb,if_pos<|h.trans hk]
   .have hb:(g==k)=false:=beq_eq_false_iff_ne.mpr h;simp only[List.lookup,hb,if_neg (λe:g=f=>h<|e.trans hk.symm)]
  .rw[if_neg hk];by_cases h:g=k
   .have hb:(g==k)=true:=beq_iff_eq.mpr h;simp only[List.lookup,hb,if_neg (λe:g=f=>hk<|h.symm.trans e)]
   .have hb:(g==k)=false:=beq_eq_false_iff_ne.mpr h;simp only[List.lookup,hb];exact ih
theorem yc (f:Str)(v:V):∀fs:List (Str×V),f∈(lJ f v fs).map (·.1)/\∀g,g∈fs.map (·.1)->g∈(lJ f v fs).map (·.1)
 |[]=>⟨by simp[lJ],λg h=>by simp at h⟩
 |(k,x)::r=>by
  obtain⟨i1,i2⟩:=yc f v r;rw[show lJ f v ((k,x)::r)=(if k=f then(k,v)::r else(k,x)::lJ f v r) from rfl];by_cases hk:k=f
  .rw[if_pos hk];subst hk;exact⟨by simp,λg h=>by simpa using h⟩
  .rw[if_neg hk];refine⟨?_,λg h=>?_⟩
   .rw[map_cons];exact mem_cons_of_mem _ i1
   .rw[map_cons] at h ⊢;rcases mem_cons.mp h with e|e
    .exact mem_cons.mpr<|.inl e
    .exact mem_cons_of_mem _<|i2 g e
theorem Ba (f:Str)(v:V):∀fs:List (Str×V),(lJ f v fs).length<=fs.length+1
 |[]=>by simp[lJ]
 |(k,x)::r=>by
  have ih:=Ba f v r;rw[show lJ f v ((k,x)::r)=(if k=f then(k,v)::r else(k,x)::lJ f v r) from rfl];by_cases hk:k=f
  .rw[if_pos hk,length_cons,length_cons];omega
  .rw[if_neg hk,length_cons,length_cons];omega
theorem jG.some_of (r:jG (some v) o):∃u,o=some u/\RelV v u:=by
 cases o with
 |none=>exact(show False from r).elim
 |some u=>exact⟨u,rfl,r⟩
theorem jG.none_of (r:jG none o):o=none:=by
 cases o with
 |none=>rfl
 |some u=>exact(show False from r).elim
theorem Wc (r:RelV v u):handedIn u=true:=by
 cases v with
 |non=>cases(show u=Value.none from r);rfl
 |bl b=>cases(show u=Value.bool b from r);rfl
 |int i=>obtain⟨t,e⟩:=(show ∃t,u=Value.int i t from r);cases e;rfl
 |str x=>obtain⟨t,e⟩:=(show ∃t,u=Value.str x t from r);cases e;rfl
 |xg b=>obtain⟨t,e⟩:=(show ∃t,u=bytes b t from r);cases e;rfl
 |flt b=>obtain⟨t,e⟩:=(show ∃t,u=float b t from r);cases e;rfl
 |ref a=>cases(show u=Value.ref a from r);rfl
 |ty n=>cases(show u=type n from r);rfl
section
variable {fs fs':List (Str×V)}
theorem Gb (hok:iD P w H h)(e:H a=some (.ins C dx fs)):∃mA,Ca h a dx C mA/\(∀f,jG (fs.lookup f) (mA f))/\PySem.Within mA (fs.map (·.1))/\fs.length<=1000/\H dx=some (.own a):=by obtain⟨d,z,ne,ob,mA,n,r,q⟩:=(show eY P w H h a (.ins C dx fs) from hok a _ e);exact⟨mA,⟨ob,n,ne⟩,r,q,z,d⟩
end
structure Cls (K:Frag)(C:Addr):Prop where
 pg:plainGet K C Str.empty=true
 hd:hasDictIn K C=true
 po:plainOver K C=true
 sa:findIn K (.ref C) "__setattr__"=some (some<|.builtin "object.__setattr__")
theorem Cls.get {K:Frag}{C:Addr}(c:Cls K C)(f:Str):plainGet K C f=true:=c.pg
def nC (K:Frag)(C:Addr)(f:Str):Prop:=findIn K (.ref C) f=some none
theorem nC.taker {K:Frag}{C:Addr}{f:Str}(n:nC K C f):takerIn K C f=some none:=by unfold takerIn;rw[show findIn K (.ref C) f=some none from n];rfl
structure Con (K:Frag)(C:Addr)(f:Str)(v:V)(u:Value):Prop where
 at_:findIn K (.ref C) f=some (some u)
 rel:RelV v u
 get:specialIn K u "__get__"=some none
 cp:PySem.W.copiedNames.contains f=false
structure Meth (K:Frag)(C:Addr)(m:Str)(f:Addr):Prop where
 at_:findIn K (.ref C) m=some (some<|.ref f)
 fn:isFn K (.ref f)=true
 kp:keepIn K (.ref f)=true
section
variable {E:Value->Shared->Prop}
theorem Tp (I:Inv X pins σ H s)(e:H a=some (.ins C dx fs))(c:Cls X.K C)(n:nC X.K C f)(l:fs.lookup f=some v)
  (h:∀u s',Inv X pins σ H s'->RelV v u->Q u s'):wpAny (model X.prog X.w) A (getAttr (.ref a) f b) Q E s:=by
 obtain⟨mA,O,r,_,_,_⟩:=Gb I.hok e;obtain⟨u,hu,ru⟩:=jG.some_of (v:=v) (o:=mA f) (by rw[<-l];exact r f);exact get_map I.mO O (c.get f) c.hd n hu (Wc ru)<|h u _ (I.tok _) ru
theorem vp (I:Inv X pins σ H s)(e:H a=some (.ins C dx fs))(c:Cls X.K C)(k:Meth X.K C m g)(l:fs.lookup m=none)
  (h:Q (.ref g,[.ref a]) s):wpAny (model X.prog X.w) A (getMethod (.ref a) m pl) Q E s:=by
 obtain⟨mA,O,r,_,_,_⟩:=Gb I.hok e;have hn:mA m=none:=jG.none_of (by rw[<-l];exact r m);exact Zq I.mO O (c.get m) k.at_ k.fn hn h
theorem Tq (I:Inv X pins σ H s)(e:H a=some (.ins C dx fs))(c:Cls X.K C)(n:nC X.K C f)(hl:fs.length<1000)(ry:RelV y u)
  (h:∀s',Inv X pins σ (upd H a<|.ins C dx<|lJ f y fs) s'->Q () s'):wpAny (model X.prog X.w) A (setAttr (.ref a) f u) Q E s:=by
 obtain⟨mA,O,r,wi,_,ho⟩:=Gb I.hok e;have hz:(fs.map (·.1)).length<=sizeLine:=by rw[length_map,sizeLine_eq];omega
 refine adl I.mO O c.sa c.po n.taker c.hd wi hz λh' O' sb=>h _ ?_;have hd:∃o,h'.get? dx=some o:=let⟨o,_,_,e',_⟩:=O'.ns;⟨o,e'⟩;refine I.write (x:=a) (e:=dx) (by rw[e];exact True.intro) (.inr ho) (λb q hb z=>(sb.2 b hb).trans z) hd ?_;refine⟨by rw[ak O.ne];exact ho,?_,O.ne,O'.obj,_,O'.ns,λg=>?_,λg hg=>?_⟩
 .have:=Ba f y fs;omega
 .show jG ((lJ f y fs).lookup g) (if g=f then some u else mA g);rw[Az];by_cases q:g=f
  .rw[if_pos q,if_pos q];exact ry
  .rw[if_neg q,if_neg q];exact r g
 .by_cases q:g=f
  .rw[q];exact(yc f y fs).1
  .refine(yc f y fs).2 g<|wi g λz=>hg ?_;show(if g=f then some u else mA g)=none;rw[if_neg q];exact z
theorem Inv.made (I:Inv X pins σ H s):Inv X pins σ (upd (upd H s.heap.objs.size<|.own<|s.heap.objs.size+1) (s.heap.objs.size+1)<|.ins C s.heap.objs.size [])
  {s with heap:=(s.heap.push emptyDict).push<|instObj C s.heap.objs.size}:=by
 have e1:(s.heap.push emptyDict).get? s.heap.objs.size=some emptyDict:=get?_push_size s.heap rfl;have e2:((s.heap.push emptyDict).push<|instObj C s.heap.objs.size).get? (s.heap.objs.size+1)=some (instObj C s.heap.objs.size):=by have:=get?_push_size (s.heap.push emptyDict) (o:=instObj C s.heap.objs.size) rfl;rwa [size_push] at this
 have e3:(s.heap.push emptyDict).Ns s.heap.objs.size (λ_=>none):=⟨emptyDict,#[],_,e1,rfl,(λe he=>absurd he<|by simp),λ_=>rfl⟩;have I1:=I.laid (a:=s.heap.objs.size) (o:=.own<|s.heap.objs.size+1) (h':=s.heap.push emptyDict) (t':=s.toks) (λb u q=>get?_push_of_some _ q) (le_refl _) ⟨_,e1⟩;refine I1.laid (a:=s.heap.objs.size+1) (o:=.ins C s.heap.objs.size []) (t':=s.toks) (λb u q=>get?_push_of_some _ q) (Nat.le_of_eq<|size_push _ _) ?_;have ne:s.heap.objs.size≠s.heap.objs.size+1:=ne_of_lt<|lt_succ_self _;refine⟨by rw[ak ne,ao],zero_le _,ne,e2,λ_=>none,(Heap.Ns1.of_empty e3).at λo q=>get?_push_of_some _ q,λ_=>True.intro,λy hy=>absurd rfl hy⟩
theorem adn (hb:attributeBase e f env (eval e env)=eval e env)
  (h:wpAny (model prog w) A (eval e env) (λo s₁=>wpAny (model prog w) A (getAttr o f true) Q E s₁) E s):wpAny (model prog w) A (eval (.Attribute e f pos) env) Q E s:=
 Attribute_any_ h (by rw[arm_eval_Attribute,hb])
end
def Tt (K:Frag)(ta:TE)(f:Str):TE:=λσ H Q=>ta σ H λx H1=>∃a C dx fs v,x=.ref a/\H1 a=some (.ins C dx fs)/\Cls K C/\nC K C f/\fs.lookup f=some v/\Q v H1
def ajO (K:Frag)(ta tv:TE)(f:Str):TS:=λD σ H=>tv σ H λy H1=>ta σ H1 λx H2=>∃a C dx fs,x=.ref a/\H2 a=some (.ins C dx fs)/\Cls K C/\nC K C f/\fs.length<1000/\
 D.nx σ (upd H2 a<|.ins C dx<|lJ f y fs)
section
variable {ta tv:TE}
theorem fj (he:PE X e ta)(hb:attributeBase e f X.env (eval e X.env)=eval e X.env):PE X (.Attribute e f pos) (Tt X.K ta f):=by intro pins s σ H Q I h;refine adn hb<|aV (he pins s σ H _ I h) λu s1 hz=>?_;obtain⟨x,H1,I1,rx,a,C,dx,fs,v,rfl,ea,c,n,l,q⟩:=hz;obtain rfl:u=Value.ref a:=rx;exact Tp I1 ea c n l λu' s2 I2 ru=>⟨v,H1,I2,ru,q⟩
theorem Wd (ha:PE X o ta)(hv:PE X value tv)(hs:swapsWith value (some<|.Attribute o f pos') pos.line X.env=pure false):PS X (.Assign [.Attribute o f pos'] value pos) (ajO X.K ta tv f):=by intro pins s σ H D I h;refine plainObj_wpAny_Assign_Attribute (aV (hv pins s σ H _ I h) λu s1 ⟨y,H1,I1,ry,q⟩=>aV (ha pins s1 σ H1 _ I1 q) λov s2 hz=>?_) hs;obtain⟨x,H2,I2,rx,a,C,dx,fs,rfl,ea,c,n,l,q2⟩:=hz;obtain rfl:ov=Value.ref a:=rx;exact Tq I2 ea c n l ry λs3 I3=>⟨σ,_,I3,q2⟩
theorem ahB (he:PE X e te)(I:Inv X pins σ H s)
  (h:te σ H λx H1=>∃a C dx fs g,x=.ref a/\H1 a=some (.ins C dx fs)/\Cls X.K C/\Meth X.K C m g/\fs.lookup m=none/\
   ∀s1,Inv X pins σ H1 s1->wpAny (model X.prog X.w) X.A (callWith pos (.ref g) [.ref a] (backTo pos (starEach args X.env)) (backToKw pos (keywordEach [] X.env))) Q X.xe s1)
  (ht:eval (.Call (.Attribute e m apos) args [] pos) X.env=(do
   let ov<-eval e X.env
   standAt apos.atName
   let(f,first)<-holding [ov] (getMethod ov m pl)
   callWith pos f first (backTo pos (starEach args X.env)) (backToKw pos (keywordEach [] X.env)))):
  wpAny (model X.prog X.w) X.A (eval (.Call (.Attribute e m apos) args [] pos) X.env) Q X.xe s:=by
 refine methodCall_KW (pl:=pl) (aV (he pins s σ H _ I h) λu s1 hz=>?_) ht;obtain⟨x,H1,I1,rx,a,C,dx,fs,g,rfl,ea,c,k,l,q⟩:=hz;obtain rfl:u=Value.ref a:=rx;exact vp I1 ea c k l<|q s1 I1
end
section
variable {b:Bool}
inductive qZ (K:Frag)(H:Hp):V->Value->Prop where
 |non:qZ K H .non (.type "NoneType")
 |bl (x:Bool):qZ K H (.bl x) (.type "bool")
 |int (i:Int):qZ K H (.int i) (.type "int")
 |str (x:Str):qZ K H (.str x) (.type "str")
 |flt (x:UInt64):qZ K H (.flt x) (.type "float")
 |lst {a:Addr} {xs:List V} (e:H a=some (.lst xs)):qZ K H (.ref a) (.type "list")
 |dU {a:Addr} {o:Obj} {xs:List V} (e:H a=some (.dU o<|.lst xs)):qZ K H (.ref a) (.type "list")
 |tup {a:Addr} {xs:List V} (e:H a=some (.tup xs)):qZ K H (.ref a) (.type "tuple")
 |dK {a:Addr} {kvs:List (Key×V)} (e:H a=some (.dK kvs)):qZ K H (.ref a) (.type "dict")
 |dT {a:Addr} {kvs:List (List Key×V)} (e:H a=some (.dT kvs)):qZ K H (.ref a) (.type "dict")
 |ins {a C dx:Addr} {fs:List (Str×V)} (e:H a=some (.ins C dx fs)) (cl:Cls K C) (ha:findIn K (.ref C) "__class__"=some (some<|.builtin "object.__class__"))
  (hn:specialIn K (.builtin "object.__class__") "__get__"=some (some<|.builtin "getset_descriptor.__get__")) (htk:PySem.W.takesIn K (.builtin "object.__class__")=some true)
  (hm:PySem.W.mroIn K C (.type "object")=some true):qZ K H (.ref a) (.ref C)
end
structure dh (k:Nat)(A:Around):Prop where
 hd:A.handled=none
 dp:A.depth+3*k+5<recursionLimit
 un:A.units+16*k+200<cLine
theorem dh.mono (r:dh k A)(h:j<=k):dh j A:=⟨r.hd,by have:=r.dp;omega,by have:=r.un;omega⟩
theorem dh.deeper {k:Nat}{A:Around}(r:dh (k+1) A)(env:Env):dh k (A.deeper env):=
 ⟨r.hd,by have:=r.dp;show A.depth+1+3*k+5<_;omega,by have:=r.un;show A.units+3+16*k+200<_;omega⟩
theorem Tv {A:Around}{C:Addr}{us:List Value}{kw:List (Str×Value)}:(A.under<|.builtin "type.__call__" ⟨.ref C::us,kw⟩).depth=A.depth+1:=by first|rfl|simp[Around.under,Code.weight,Code.isCreation,Code.isGuard,Code.isCaller,Code.frames,Code.isFrame,guardIds]
theorem Tw {A:Around}{C:Addr}{us:List Value}{kw:List (Str×Value)}:(A.under<|.builtin "type.__call__" ⟨.ref C::us,kw⟩).units=A.units+1:=by first|rfl|simp[Around.under,Code.cUnits,Code.frames,Code.isFrame]
theorem dh.make {k:Nat}{A:Around}(r:dh (k+1) A)(C:Addr)(us:List Value)(kw:List (Str×Value)):dh k (A.under<|.builtin "type.__call__" ⟨.ref C::us,kw⟩):=
 ⟨r.hd,by have:=r.dp;rw[Tv];omega,by have:=r.un;rw[Tw];omega⟩
theorem dh.depth {k:Nat}{A:Around}(r:dh k A):A.depth<recursionLimit:=by have:=r.dp;omega
theorem dh.units (r:dh k A):A.units+64<cLine:=by have:=r.un;omega
def dI:TA:=λ_ H Q=>Q [] H
def bV (ta:TE)(tr:TA):TA:=λσ H Q=>ta σ H λx H1=>tr σ H1 λxs H2=>Q (x::xs) H2
section
variable {pos:Pos}
theorem aO:PA X [] dI:=λ_ _ _ _ H Q I h=>Calls.spliced_nil ⟨[],H,I,.nil,h⟩
theorem aj (ha:PE X e te)(hr:PA X es t)(hs:starEach (e::es) X.env=(false,eval e X.env)::starEach es X.env:=by rfl):PA X (e::es) (bV te t):=by intro pos pins s σ H Q I h;rw[hs];show wpAny _ _ (spliced ((false,eval e X.env)::backTo pos (starEach es X.env))) _ _ s;refine Calls.spliced_cons<|aV (ha pins s σ H _ I h) λu s1 ⟨x,H1,I1,r1,q1⟩=>?_;exact aV (hr pos pins s1 σ H1 _ I1 q1) λus s2 ⟨xs,H2,I2,r2,q2⟩=>⟨x::xs,H2,I2,.cons r1 r2,q2⟩
def vq (t:TA):TE:=λσ H Q=>t σ H λxs H1=>xs.length<=sizeLine/\∀p,H1 p=none->Q (.ref p) (upd H1 p<|.tup xs)
def KJ (t:TA):TE:=λσ H Q=>t σ H λxs H1=>xs.length<=sizeLine/\∀p,H1 p=none->Q (.ref p) (upd H1 p<|.lst xs)
theorem jM {x1}(h:PA X es t):PE X (.Tuple es x1 pos) (vq t):=by intro pins s σ H Q I hq;refine wpAny_Tuple_spliced (aV (h pos pins s σ H _ I hq) λus s1 ⟨xs,H1,I1,r,z,q⟩=>⟨by rw[<-r.length];exact z,?_⟩);have hf:H1 s1.heap.objs.size=none:=I1.hok.fresh<|le_refl _;refine⟨.ref s1.heap.objs.size,upd H1 s1.heap.objs.size<|.tup xs,I1.laid (t':=s1.toks) (λb u e=>get?_push_of_some _ e) (le_refl _) ?_,rfl,q _ hf⟩;exact⟨z,us,r,⟨_,get?_push_size _ rfl,rfl,_,rfl⟩⟩
theorem yd (h:PA X es t):PE X (.List es pos) (KJ t):=by intro pins s σ H Q I hq;refine wpAny_List_spliced (aV (h pos pins s σ H _ I hq) λus s1 ⟨xs,H1,I1,r,z,q⟩=>⟨by rw[<-r.length];exact z,?_⟩);have hf:H1 s1.heap.objs.size=none:=I1.hok.fresh<|le_refl _;refine⟨.ref s1.heap.objs.size,upd H1 s1.heap.objs.size<|.lst xs,I1.laid (t':=s1.toks) (λb u e=>get?_push_of_some _ e) (le_refl _) ?_,rfl,q _ hf⟩;exact⟨z,us,0,r,get?_push_size _ rfl⟩
end
abbrev Sp:=List V->Hp->VK->XK->Prop
abbrev Bb:=List Env->Hp->Shared->XK->Value->Shared->Prop
structure Cd (P:Program)(w:World)(K:Frag)(mg:Str->Option Value)(base:Heap)(A:Around)(outer:List Env)(s:Shared)(H:Hp):Prop where
 frames:A.frames=some outer
 mod:Mod K mg base
 bs:∀b o,base.get? b=some o->s.heap.get? b=some o/\H b=none
 Ay:base.objs.size<=s.heap.objs.size
 qd:s.heap.FunFrames base outer
 Kq:∀b∈frs outer,H b=none
 hok:iD P w H s.heap
 bare:AllBare s.gens
def CE (outer:List Env)(P:Program)(w:World)(H:Hp)(s:Shared)(Q:VK)(u:Value)(s':Shared):Prop:=
 ∃v H',s'.os=s.os/\AllBare s'.gens/\Un (frs outer) [] H H' s.heap s'.heap/\iD P w H' s'.heap/\RelV v u/\Q v H'
def CR (CX:Bb)(outer:List Env)(P:Program)(w:World)(H:Hp)(s:Shared)(Q:VK)(E:XK)(r:Result)(s':Shared):Prop:=
 match r with
 |.ok (.ret u)=>CE outer P w H s Q u s'
 |.ok _=>False
 |.error e=>CX outer H s E e s'
structure aX (P:Program)(w:World)(K:Frag)(mg:Str->Option Value)(base:Heap)(CX:Bb)(k:Nat)(f:Addr)(fd:FuncData)(ps:List Str)(sp:Sp):Prop where
 len:∀vs H Q E,sp vs H Q E->vs.length=ps.length
 run:∀(A:Around) (outer:List Env) (s:Shared) (H:Hp) (args:Args) (us:List Value) (vs:List V) (Q:VK) (E:XK),dh k A->Cd P w K mg base A outer s H->BindsTo s fd args (ps.zip us)->Vals vs us->sp vs H Q E->
  codeAny (model P w) A (.call (.ref f) args) (CR CX outer P w H s Q E) s
theorem aX.imp {P:Program}{w:World}{K:Frag}{mg:Str->Option Value}{base:Heap}{CX:Bb}{k:Nat}{f:Addr}{fd:FuncData}{ps:List Str}{sp sp':Sp}(F:aX P w K mg base CX k f fd ps sp)
  (h:∀vs H Q E,sp' vs H Q E->sp vs H Q E):aX P w K mg base CX k f fd ps sp':=
 ⟨λvs H Q E q=>F.len vs H Q E<|h _ _ _ _ q,λA outer s H args us vs Q E hr he hb hv hs=>F.run A outer s H args us vs Q E hr he hb hv<|h _ _ _ _ hs⟩
theorem Cd.make {P:Program}{w:World}{K:Frag}{mg:Str->Option Value}{base:Heap}{A:Around}{outer:List Env}{s:Shared}{H:Hp}(e:Cd P w K mg base A outer s H)(C:Addr)(us:List Value)(kw:List (Str×Value)):
  Cd P w K mg base (A.under<|.builtin "type.__call__" ⟨.ref C::us,kw⟩) outer s H:=⟨by first|exact e.frames|(simpa [Around.under,Code.envs,Code.isFrame,pushEnvs] using e.frames),e.mod,e.bs,e.Ay,e.qd,e.Kq,e.hok,e.bare⟩
section
variable {s s':Shared}
theorem Inv.env0 (I:Inv X pins σ H s):Cd X.prog X.w X.K X.mg X.base X.A X.stack s H:=
 ⟨I.ok.frames,I.ok.mod,I.bs,le_trans I.ok.Ay I.sz,I.stack,I.Qv,I.hok,I.bare⟩
theorem Inv.after (I:Inv X pins σ H s)(h:CE X.stack X.prog X.w H s Q u s'):EP X pins σ Q u s':=by obtain⟨v,H',os,bare,un,hok,r,q⟩:=h;obtain⟨hh,g,d,t,os'⟩:=s';obtain rfl:os'=s.os:=os;exact⟨v,H',I.call (h':=hh) (g':=g) (d':=d) (t':=t) (ch:=[]) un hok bare<|λb z=>absurd z<|by simp,r,q⟩
end
def iJ (sp:Sp)(mR:List V)(E:XK)(t:TA):TE:=λσ H Q=>t σ H λvs H1=>sp (vs++mR) H1 Q E
def jH (C:Addr)(m:Str)(sp:Sp)(mR:List V)(E:XK)(ta:TE)(t:TA):TE:=λσ H Q=>ta σ H λx H1=>∃a dx fs,x=.ref a/\H1 a=some (.ins C dx fs)/\fs.lookup m=none/\
 t σ H1 λvs H2=>sp (x::(vs++mR)) H2 Q E
def abx (C:Addr)(sp:Sp)(mR:List V)(E:XK)(t:TA):TE:=λσ H Q=>t σ H λvs H1=>∀x dx,H1 x=none->H1 dx=none->dx≠x->
 sp (.ref x::(vs++mR)) (upd (upd H1 dx<|.own x) x<|.ins C dx []) (λv H2=>v=.non/\Q (.ref x) H2) E
def Binds (K:Frag)(fd:FuncData)(ps:List Str)(ds:List Value):Prop:=
 ∀(s:Shared) (us:List Value),K.In s.heap->(us++ds).length=ps.length->BindsTo s fd ⟨us,[]⟩ (ps.zip<|us++ds)
theorem Binds.all {K:Frag}{fd:FuncData}{ps:List Str}(h:∀us:List Value,us.length=ps.length->bindArgs fd ⟨us,[]⟩=pure (ps.zip us)):Binds K fd ps []:=λs us _ hl=>by rw[append_nil] at hl ⊢;exact .of_eq<|h us hl
def Passes (CX:Bb)(X:Cx)(E:XK):Prop:=∀(pins:List (Addr×Obj)) (σ:St) (H:Hp) (s:Shared) (e:Value) (s':Shared),Inv X pins σ H s->CX X.stack H s E e s'->X.xe e s'
section
variable {t:TA}
theorem KN (F:aX X.prog X.w X.K X.mg X.base CX k f fd ps sp)(hr:dh k X.A)(hb:Binds X.K fd ps ds)(hd:Vals mR ds)(hx:Passes CX X E)
  (I:Inv X pins σ H s)(r:Vals vs us)(h:sp (vs++mR) H Q E):wpAny (model X.prog X.w) X.A (call (.ref f) us) (EP X pins σ Q) X.xe s:=by
 have r2:Vals (vs++mR) (us++ds):=r.append hd;have hl:(us++ds).length=ps.length:=by rw[<-r2.length];exact F.len _ _ _ _ h
 refine wpAny_call<|codeAny_mono (F.run X.A X.stack s H ⟨us,[]⟩ (us++ds) (vs++mR) Q E hr I.env0 (hb s us I.mO hl) r2 h) λr s' hq=>?_;cases r with
 |error e=>exact hx pins σ H s e s' I hq
 |ok fl=>
  cases fl with
  |ret u=>exact I.after hq
  |next=>exact False.elim hq
  |brk=>exact False.elim hq
  |cont=>exact False.elim hq
theorem ado (F:aX X.prog X.w X.K X.mg X.base CX k f fd ps sp)(hr:dh k X.A)(hg:Gl X x)(hm:X.mg x=some (.ref f))(hk:keepIn X.K (.ref f)=true)(hb:Binds X.K fd ps ds)(hd:Vals mR ds)(hx:Passes CX X E)
  (ha:PA X (e::es) t)(hdb:(x==("__debug__":Str))=false:=by decide)(he:starEach (e::es) X.env=(false,eval e X.env)::starEach es X.env:=by rfl)(hpl:(backTo pos<|starEach es X.env).any (·.1)=false:=by rfl):
  PE X (.Call (.Name x p) (e::es) [] pos) (iJ sp mR E t):=by
 intro pins s σ H Q I h;refine wpAny_Call_Name_kw<|Ga I hg hm ?_ hdb;refine callWith_K (h₀:=X.base) I.ok.mod.VF hk (aV (ha pos pins s σ H _ I h) λus s1 ⟨vs,H1,I1,r,q⟩=>⟨I1.mO,?_⟩) he hpl;exact KN F hr hb hd hx I1 r q
theorem gH (he:PE X o ta)(c:Cls X.K C)(hm:Meth X.K C m f)(F:aX X.prog X.w X.K X.mg X.base CX k f fd ps sp)(hr:dh k X.A)(hb:Binds X.K fd ps ds)(hd:Vals mR ds)(hx:Passes CX X E)(ha:PA X (e::es) t)
  (hst:starEach (e::es) X.env=(false,eval e X.env)::starEach es X.env:=by rfl)(hpl:(backTo pos<|starEach es X.env).any (·.1)=false:=by rfl)
  (ht:eval (.Call (.Attribute o m apos) (e::es) [] pos) X.env=(do
   let ov<-eval o X.env
   standAt apos.atName
   let(f,first)<-holding [ov] (getMethod ov m pl)
   callWith pos f first (backTo pos (starEach (e::es) X.env)) (backToKw pos (keywordEach [] X.env))):=by rfl):
  PE X (.Call (.Attribute o m apos) (e::es) [] pos) (jH C m sp mR E ta t):=by
 intro pins s σ H Q I h;refine methodCall_KW (pl:=pl) (aV (he pins s σ H _ I h) λu s1 hz=>?_) ht;obtain⟨x,H1,I1,rx,a,dx,fs,rfl,ea,l,q⟩:=hz;obtain rfl:u=Value.ref a:=rx;refine vp I1 ea c hm l ?_;refine callWith_K (first:=[.ref a]) (h₀:=X.base) I.ok.mod.VF hm.kp (aV (ha pos pins s1 σ H1 _ I1 q) λus s2 ⟨vs,H2,I2,r,q2⟩=>⟨I2.mO,?_⟩) hst hpl;exact KN (us:=.ref a::us) (vs:=.ref a::vs) F hr hb hd hx I2 (.cons rfl r) q2
theorem Ce (he:PE X o ta)(c:Cls X.K C)(hm:Meth X.K C m f)(F:aX X.prog X.w X.K X.mg X.base CX k f fd ps sp)(hr:dh k X.A)(hb:Binds X.K fd ps ds)(hd:Vals mR ds)(hx:Passes CX X E)
  (ht:eval (.Call (.Attribute o m apos) [] [] pos) X.env=(do
   let ov<-eval o X.env
   standAt apos.atName
   let(f,first)<-holding [ov] (getMethod ov m pl)
   callWith pos f first (backTo pos (starEach [] X.env)) (backToKw pos (keywordEach [] X.env))):=by rfl):
  PE X (.Call (.Attribute o m apos) [] [] pos) (jH C m sp mR E ta dI):=by
 intro pins s σ H Q I h;refine methodCall_KW (pl:=pl) (aV (he pins s σ H _ I h) λu s1 hz=>?_) ht;obtain⟨x,H1,I1,rx,a,dx,fs,rfl,ea,l,q⟩:=hz;obtain rfl:u=Value.ref a:=rx;refine vp I1 ea c hm l ?_;exact PySem.W.callWith_K0 (first:=[.ref a]) I1.mO hm.kp (KN (us:=[.ref a]) (vs:=[.ref a]) F hr hb hd hx I1 (.cons rfl .nil) q)
structure Mk (K:Frag)(C f:Addr):Prop where
 makes:makesIn K C=true
 init:findIn K (.ref C) "__init__"=some (some<|.ref f)
 fn:isFn K (.ref f)=true
 kp:keepIn K (.ref C)=true
theorem Zt (M:Mk X.K C f)(F:aX X.prog X.w X.K X.mg X.base CX k f fd ps sp)(hr:dh (k+1) X.A)(hb:Binds X.K fd ps ds)(hd:Vals mR ds)
  (hx:Passes CX X E)(I:Inv X pins σ H s)(r:Vals vs us)
  (h:∀x dx,H x=none->H dx=none->dx≠x->sp (.ref x::(vs++mR)) (upd (upd H dx<|.own x) x<|.ins C dx []) (λv H2=>v=.non/\Q (.ref x) H2) E):
  wpAny (model X.prog X.w) X.A (call (.ref C) us) (EP X pins σ Q) X.xe s:=by
 have hq:=h (s.heap.objs.size+1) s.heap.objs.size (I.hok.fresh<|le_succ _) (I.hok.fresh<|le_refl _)<|ne_of_lt<|lt_succ_self _;have I2:=Inv.made (C:=C) I;have r2:Vals (V.ref (s.heap.objs.size+1)::(vs++mR)) (Value.ref (s.heap.objs.size+1)::(us++ds)):=.cons rfl<|r.append hd;have hl:(Value.ref (s.heap.objs.size+1)::us++ds).length=ps.length:=by have e:=r2.length;rw[F.len _ _ _ _ hq] at e;exact e.symm
 refine wpAny_call (Zr (f:=f) I.mO M.makes M.init (beq_iff_eq.mp M.fn) (codeAny_mono (F.run _ X.stack _ _ ⟨Value.ref (s.heap.objs.size+1)::us,[]⟩ (Value.ref (s.heap.objs.size+1)::(us++ds)) _ _ E (hr.make C us [])
  (I2.env0.make C us []) (hb _ (Value.ref (s.heap.objs.size+1)::us) I2.mO hl) r2 hq) λr s' hq'=>?_))
 cases r with
 |error e=>exact hx pins σ _ _ e s' I2 hq'
 |ok fl=>
  cases fl with
  |ret u=>
   obtain⟨v,H',I3,rv,ev,q3⟩:=I2.after hq';subst ev;exact⟨rv,⟨V.ref<|s.heap.objs.size+1,H',I3,rfl,q3⟩⟩
  |next=>exact False.elim hq'
  |brk=>exact False.elim hq'
  |cont=>exact False.elim hq'
theorem adp (M:Mk X.K C f)(F:aX X.prog X.w X.K X.mg X.base CX k f fd ps sp)(hr:dh (k+1) X.A)(hg:Gl X x)(hm:X.mg x=some (.ref C))(hb:Binds X.K fd ps ds)(hd:Vals mR ds)(hx:Passes CX X E)
  (ha:PA X (e::es) t)(hdb:(x==("__debug__":Str))=false:=by decide)(he:starEach (e::es) X.env=(false,eval e X.env)::starEach es X.env:=by rfl)(hpl:(backTo pos<|starEach es X.env).any (·.1)=false:=by rfl):
  PE X (.Call (.Name x p) (e::es) [] pos) (abx C sp mR E t):=by
 intro pins s σ H Q I h;refine wpAny_Call_Name_kw<|Ga I hg hm ?_ hdb;refine callWith_K (h₀:=X.base) I.ok.mod.VF M.kp (aV (ha pos pins s σ H _ I h) λus s1 ⟨vs,H1,I1,r,q⟩=>⟨I1.mO,?_⟩) he hpl;exact Zt M F hr hb hd hx I1 r q
end
section
variable {nm:Option Str}
structure alK (K:Frag)(fd:FuncData)(ps ks:List Str)(g:List Value->List Value->List Value)(gV:List V->List V->List V):Prop where
 to:∀(s:Shared) (us ws:List Value),K.In s.heap->(g us ws).length=ps.length->BindsTo s fd ⟨us,ks.zip ws⟩ (ps.zip<|g us ws)
 rel:∀{vs:List V}{us:List Value} {zs:List V} {ws:List Value},Vals vs us->Vals zs ws->Vals (gV vs zs) (g us ws)
variable {gV:List V->List V->List V}
end
structure bM (N P:List Str)(sc:Scope):Prop where
 kind:sc.kind=.function
 co:sc.isCoroutine=false
 gen:sc.isGenerator=false
 nd:N.Nodup
 pre:N.take P.length=P
 par:∀x∈P,sc.names.lookup x=some .local\/sc.names.lookup x=some .cell
 aeT:∀y∈sc.names,y.2≠ .free
theorem Hr {kindOf:Str->Option NameKind}{x:Str}:∀{binds:List (Str×Value)}{m:Str->Option Value},(∀v,(x,v)∉binds)->bindL kindOf binds m x=m x
 |[],_,_=>rfl
 |(n,v)::r,m,h=>by
  unfold bindL;rw[Hr λw hw=>h w<|mem_cons_of_mem _ hw];split
  .have:x≠n:=by rintro rfl;exact h v mem_cons_self
   simp[this]
  .rfl
theorem Hs {kindOf:Str->Option NameKind}{x:Str}:∀{binds:List (Str×Value)}{m:Str->Option Value},(∀v,(x,v)∉binds)->bindC kindOf binds m x=m x
 |[],_,_=>rfl
 |(n,v)::r,m,h=>by
  unfold bindC;rw[Hs λw hw=>h w<|mem_cons_of_mem _ hw];split
  .rfl
  .have:x≠n:=by rintro rfl;exact h v mem_cons_self
   simp[this]
theorem Ht {kindOf:Str->Option NameKind}{x:Str}{v:Value}:∀{P:List Str}{vs:List Value} {i:Nat} {m:Str->Option Value},P.Nodup->P[i]? =some x->vs[i]? =some v->kindOf x=some .local->
  bindL kindOf (P.zip vs) m x=some v
 |[],_,_,_,_,h,_,_=>by simp at h
 |_::_,[],_,_,_,_,h,_=>by simp at h
 |p::P,w::vs,0,m,nd,h1,h2,hk=>by
  simp at h1 h2;subst h1;subst h2;show bindL kindOf ((p,w)::P.zip vs) m p=_;unfold bindL;rw[Hr λv hv=>(nodup_cons.mp nd).1 (of_mem_zip hv).1,if_pos hk];simp
 |p::P,w::vs,i+1,m,nd,h1,h2,hk=>by show bindL kindOf ((p,w)::P.zip vs) m x=_;unfold bindL;exact Ht (i:=i) (nodup_cons.mp nd).2 (by simpa using h1) (by simpa using h2) hk
theorem Hu {kindOf:Str->Option NameKind}{x:Str}{v:Value}:∀{P:List Str}{vs:List Value} {i:Nat} {m:Str->Option Value},P.Nodup->P[i]? =some x->vs[i]? =some v->kindOf x≠some .local->
  bindC kindOf (P.zip vs) m x=some v
 |[],_,_,_,_,h,_,_=>by simp at h
 |_::_,[],_,_,_,_,h,_=>by simp at h
 |p::P,w::vs,0,m,nd,h1,h2,hk=>by
  simp at h1 h2;subst h1;subst h2;show bindC kindOf ((p,w)::P.zip vs) m p=_;unfold bindC;rw[Hs λv hv=>(nodup_cons.mp nd).1 (of_mem_zip hv).1,if_neg hk];simp
 |p::P,w::vs,i+1,m,nd,h1,h2,hk=>by show bindC kindOf ((p,w)::P.zip vs) m x=_;unfold bindC;exact Hu (i:=i) (nodup_cons.mp nd).2 (by simpa using h1) (by simpa using h2) hk
noncomputable def start (N:List Str)(vs:List V):St:=vs.map some++replicate (N.length - vs.length) none
noncomputable def qe (CX:Bb)(P:Program)(w:World)(K:Frag)(mg:Str->Option Value)(base:Heap)(N:List Str)(qual:Str)(scope:Scope)(f:Addr)(cd:Value)(A:Around)(outer:List Env)(s:Shared)(H:Hp)(E:XK):Cx where
 prog:=P
 w:=w
 K:=K
 mg:=mg
 base:=base
 A:=A.deeper<|envOfC qual scope s.heap.objs.size f cd
 N:=N
 s₀:=s
 H₀:=H
 env:=envOfC qual scope s.heap.objs.size f cd
 outer:=outer
 stack:=envOfC qual scope s.heap.objs.size f cd::outer
 ex:=[]
 calm:=true
 fn:=λ_=>true
 pn:=[]
 xe:=λe s'=>wpAny (model P w) (A.deeper<|envOfC qual scope s.heap.objs.size f cd) (leaving (envOfC qual scope s.heap.objs.size f cd) e) (λ_ s''=>CX outer H s E e s'') (λe' s''=>CX outer H s E e' s'') s'
theorem KQ {sc:Scope}{n:Nat}{x:Str}(h:sc.names.lookup x=some .cell):∃c,(cellsFrom n sc.names []).lookup x=some c:=by have q:=PySem.W.cellsFrom_some sc.names n []<|.inl h;exact Option.isSome_iff_exists.mp q
theorem Wf {CX:Bb}{P:Program}{w:World}{K:Frag}{mg:Str->Option Value}{base:Heap}{N ps:List Str}{qual:Str}{scope:Scope}{f:Addr}{cd:Value}{A:Around}{outer:List Env}{s s1:Shared}{H:Hp}{E:XK}{us:List Value}{vs:List V}
  (S:bM N ps scope)(hd:A.handled=none)(e0:Cd P w K mg base A outer s H)(hl:vs.length=ps.length)(r:Vals vs us)
  (x:InCallC s s.heap.objs.size (bindL (envOfC qual scope s.heap.objs.size f cd).kindOf (ps.zip us) λ_=>none) (cellsFrom (s.heap.objs.size+1) scope.names []) (bindC (envOfC qual scope s.heap.objs.size f cd).kindOf (ps.zip us) λ_=>none) s1):
  Inv (qe CX P w K mg base N qual scope f cd A outer s H E) [] (start N vs) H s1:=by
 have hpl:ps.length<=N.length:=by have:=congrArg List.length S.pre;rw[length_take] at this;omega
 obtain⟨h1,tk,rfl,hk⟩:=x.done;have Wg:∀b:Addr,b∉(qe CX P w K mg base N qual scope f cd A outer s H E).ex:=λb z=>absurd (show b∈([]:List Addr) from z) (by simp);refine⟨⟨e0.mod,S.kind,rfl,rfl,le_refl _,λy z c h1 h2=>?_,λy hy=>?_,λy c _ h=>?_,λ_=>hd,Around.frames_deeper e0.frames,.inr ⟨rfl,rfl⟩,λb z=>absurd z (Wg b),e0.bs,e0.Ay,λb _ _=>Wg b,λb z=>absurd z (Wg b),e0.qd,e0.Kq⟩,
  rfl,e0.bare,Un.kept hk,⟨_,x.toInCall.ns,λi y v h1 h2 h3=>?_⟩,λy c h=>⟨_,x.cell y c h⟩,e0.hok.fresh (le_refl _),λy c h=>?_,λp hp=>absurd (show p∈([]:List (Addr×Obj)) from hp) (by simp),e0.hok.kept hk,?_⟩
 .exact name_of_addr x.apart (PySem.mem_of_lookup h1)<|PySem.mem_of_lookup h2
 .have hy:scope.names.lookup y=some .cell\/scope.names.lookup y=some .free:=hy;rcases hy with hy|hy
  .exact KQ hy
  .exact absurd rfl<|S.aeT _<|PySem.mem_of_lookup hy
 .exact le_of_lt<|x.above y c<|PySem.mem_of_lookup h
 .have hi:i<vs.length:=by
   unfold start at h2;by_cases hi:i<vs.length
   .exact hi
   .rw[getElem?_append_right<|by simpa using hi] at h2;rw[getElem?_replicate] at h2;split at h2<;>cases h2
  have ha:vs[i]? =some v:=by
   unfold start at h2;rw[getElem?_append_left<|by simpa using hi,getElem?_map] at h2;cases e:vs[i]? with
   |none=>rw[e] at h2;cases h2
   |some a=>rw[e] at h2;cases h2;rfl
  obtain⟨u,hu,rv⟩:=r.get ha;have hp:ps[i]? =some y:=by rw[<-S.pre,List.getElem?_take_of_lt<|by omega];exact h1
  have ndP:ps.Nodup:=by rw[<-S.pre];exact S.nd.sublist<|List.take_sublist _ _
  refine⟨u,rv,?_⟩;rcases S.par y (mem_of_getElem? hp) with k|k
  .exact .inl ⟨k,Ht ndP hp hu k⟩
  .obtain⟨c,e⟩:=KQ (n:=s.heap.objs.size+1) k;refine .inr ⟨.inl k,c,e,?_⟩;have q:=x.cell y c e;rw[Hu ndP hp hu (by show scope.names.lookup y≠_;rw[k];decide)] at q;exact q
 .exact e0.hok.fresh<|le_of_lt<|x.above y c<|PySem.mem_of_lookup h
 .unfold start;show _=N.length;rw[length_append,length_map,List.length_replicate];omega
theorem ahI {CX:Bb}{P:Program}{w:World}{K:Frag}{mg:Str->Option Value}{base:Heap}{k:Nat}{f:Addr}{name qual:Str}{params:Arguments}{body:List Stmt}{scope:Scope}{dV kV doc pm cdv ct oc:Value}{an od:Option Addr}
  {osl:Array (Option Value)}{N ps:List Str}{sp:Sp}(lk:K.lookup f=some ⟨oc,od,.func<|fnOf name qual params body scope dV kV doc pm an cdv ct,osl⟩)(hcd:codeIn K cdv qual=true)(S:bM N ps scope)
  (len:∀vs H Q E,sp vs H Q E->vs.length=ps.length)
  (hbody:∀(A:Around) (outer:List Env) (s:Shared) (H:Hp) (vs:List V) (Q:VK) (E:XK),dh k (A.deeper (envOfC qual scope s.heap.objs.size f cdv))->sp vs H Q E->
   ∃t,iG (qe CX P w K mg base N qual scope f cdv A outer s H E) body t/\t {nx:=λ_ H'=>Q .non H',rt:=Q} (start N vs) H):
  aX P w K mg base CX (k+1) f (fnOf name qual params body scope dV kV doc pm an cdv ct) ps sp:=by
 refine⟨len,λA outer s H args us vs Q E hr e0 hb r hsp=>?_⟩;have hl:=len _ _ _ _ hsp;have KX:K.In s.heap:=e0.mod.VF.keeps λb o e=>(e0.bs b o e).1;have lim:s.heap.NoLimit:=e0.mod.nolimit.keeps λb o e=>(e0.bs b o e).1;have hkind:∀y∈ps.zip us,scope.names.lookup y.1=some .local\/(scope.names.lookup y.1=some .cell/\((cellsFrom (s.heap.objs.size+1) scope.names []).lookup y.1).isSome=true):=λ⟨n,v⟩ hy=>by
  rcases S.par n (of_mem_zip hy).1 with q|q
  .exact .inl q
  .exact .inr ⟨q,PySem.W.cellsFrom_some _ _ _<|.inl q⟩
 refine codeAny_call_function hr.depth (KX _ _ lk) rfl S.co S.gen rfl (PySem.W.codeRec_of KX hcd)<|hb _ _ _ _ ?_;refine wpAny_newFunctionEnv_cells S.kind hkind λenv he s1 x=>?_;subst he;refine⟨lim.keeps x.toInCall.keep,codeAny_func ?_⟩;obtain⟨t,ht,hq⟩:=hbody A outer s H vs Q E (hr.deeper _) hsp;have I:Inv (qe CX P w K mg base N qual scope f cdv A outer s H E) [] (start N vs) H s1:=Wf S hr.hd e0 hl r x;refine wpAny_mono (ht [] s1 (start N vs) H _ I hq) (λfl s' hs=>?_) λe s' hs=>hs;have fin:∀{σ':St}{H':Hp} {v:V} {u:Value},Inv (qe CX P w K mg base N qual scope f cdv A outer s H E) [] σ' H' s'->RelV v u->Q v H'->CE outer P w H s Q u s':=
  λ{σ' H' v u} J rv q=>⟨v,H',J.os,J.bare,J.base,J.hok,rv,q⟩
 cases fl with
 |ret u=>
  obtain⟨v,σ',H',J,rv,q⟩:=hs;exact fin J rv q
 |next=>
  obtain⟨σ',H',J,q⟩:=hs;exact fin (v:=V.non) (u:=Value.none) J rfl q
 |brk=>
  obtain⟨_,_,_,q⟩:=hs;exact False.elim q
 |cont=>obtain⟨_,_,_,q⟩:=hs;exact False.elim q
section
variable {id T:String}
def pJ (r:List V->Hp->VK->Prop)(t:TA):TE:=λσ H Q=>t σ H λvs H1=>r vs H1 Q
theorem cO (hc:dg X (.builtin id) r)(hg:Gl X x)(hm:X.mg x=none)(hv:bootBuiltins x=some (.builtin id))(ha:PA X (e::es) t)(hn:x≠"__name__":=by decide)(hdb:(x==("__debug__":Str))=false:=by decide)
  (he:starEach (e::es) X.env=(false,eval e X.env)::starEach es X.env:=by rfl)(hpl:(backTo pos<|starEach es X.env).any (·.1)=false:=by rfl):PE X (.Call (.Name x p) (e::es) [] pos) (pJ r t):=by
 intro pins s σ H Q I h;refine wpAny_Call_Name_kw<|pG I hg hm hv ?_ hn hdb;exact PyProof.Rows.callWith_builtin1 (aV (ha pos pins s σ H _ I h) λus s1 ⟨vs,H1,I1,r1,q1⟩=>hc pins s1 σ H1 vs us Q I1 r1 q1) he hpl
theorem jE (hc:dg X (.type T) r)(hg:Gl X x)(hm:X.mg x=none)(hv:bootBuiltins x=some (.type T))(ha:PA X (e::es) t)(hn:x≠"__name__":=by decide)(hdb:(x==("__debug__":Str))=false:=by decide)
  (he:starEach (e::es) X.env=(false,eval e X.env)::starEach es X.env:=by rfl)(hpl:(backTo pos<|starEach es X.env).any (·.1)=false:=by rfl):PE X (.Call (.Name x p) (e::es) [] pos) (pJ r t):=by
 intro pins s σ H Q I h;refine wpAny_Call_Name_kw<|pG I hg hm hv ?_ hn hdb;exact PyProof.Rows.callWith_type1 (aV (ha pos pins s σ H _ I h) λus s1 ⟨vs,H1,I1,r1,q1⟩=>hc pins s1 σ H1 vs us Q I1 r1 q1) he hpl
end
end L2
namespace HT
open PyProof.Rows
section
open PySem.SeqAt
open PySem.AutoSeq1 (wpAny_loadPart')
open PySem.MeetsSeq PySem.MeetsSeq2 PySem.MeetsSeq3
end
section
variable {s:Shared}
noncomputable def bH (n d:Nat):Option Int->Nat
 |none=>d
 |some v=>if v<0 then(v+(n:Int)).toNat else min v.toNat n
theorem KR (n d:Nat)(hd:d<=n)(o:Option Int):bH n d o<=n:=by
 cases o with
 |none=>exact hd
 |some v=>
  show(if v<0 then(v+(n:Int)).toNat else min v.toNat n)<=n;by_cases hv:v<0
  .rw[if_pos hv];omega
  .rw[if_neg hv];exact Nat.min_le_right _ _
theorem Qy (v:Int)(n d:Nat):(if v<0 then max (v+(n:Int)) 0 else min v (n:Int))=((bH n d (some v):Nat):Int):=by
 show(if v<0 then max (v+(n:Int)) 0 else min v (n:Int))=(((if v<0 then(v+(n:Int)).toNat else min v.toNat n):Nat):Int);by_cases hv:v<0
 .simp only[if_pos hv];omega
 .simp only[if_neg hv];omega
theorem Tz (lo hi:Option Int)(n:Nat):Builtin.Slice.sliceAdjust lo hi 1 (n:Int)=(((bH n 0 lo:Nat):Int),((bH n n hi:Nat):Int)):=by
 have h1:¬((1:Int)<0):=by omega
 unfold Builtin.Slice.sliceAdjust;simp only[h1,if_false];refine Prod.ext ?_ ?_
 .cases lo with
  |none=>rfl
  |some v=>exact Qy v n 0
 .cases hi with
  |none=>rfl
  |some v=>exact Qy v n n
theorem TF (i j:Nat):Builtin.Slice.slicePlaces (i:Int) (j:Int) 1=j - i:=by
 unfold Builtin.Slice.slicePlaces;have h1:(1:Int)>0:=by omega
 simp only[h1,if_true,Int.ediv_one];split<;>omega
theorem Dw {v:Value}{o:Option Int}{Q:Option Int->Shared->Prop}(p:IsPart v o)(h:Q o s):wpAny (model prog w) A (Builtin.Slice.slicePartIndex v) Q E s:=by
 cases p with
 |none=>exact slicePart_none h
 |int i t=>exact slicePart_int h
theorem Cg {sl:Addr}{vl vu:Value}{lo hi:Option Int}{n:Nat}{Q:Int×Int×Nat->Shared->Prop}(hs:s.heap.IsSliceOf sl vl vu .none)(pl:IsPart vl lo)(pu:IsPart vu hi)
  (h:Q (((bH n 0 lo:Nat):Int),1,bH n n hi - bH n 0 lo) s):wpAny (model prog w) A (Builtin.Slice.sliceApplied (.ref sl)<|pure (n:Int)) Q E s:=by
 obtain⟨os,hos,hcs,hds⟩:=id hs;unfold Builtin.Slice.sliceApplied Builtin.Slice.sliceFields;refine wpAny_bind<|wpAny_bind<|wpAny_field hos hds (x:=vl) rfl<|wpAny_bind<|wpAny_field hos hds (x:=vu) rfl<|wpAny_bind<|wpAny_field hos hds (x:=.none) rfl<|wpAny_pure ?_;refine wpAny_bind<|slicePart_none ?_;show wpAny _ _ (if((1:Int)==0)=true then _ else _) _ _ s;rw[if_neg<|by decide];refine wpAny_bind<|Dw pl<|wpAny_bind<|Dw pu<|wpAny_bind<|wpAny_pure ?_;show wpAny _ _ (match Builtin.Slice.sliceAdjust lo hi 1 (n:Int) with|(lo,hi)=>pure (lo,(1:Int),Builtin.Slice.slicePlaces lo hi 1)) _ _ s;rw[Tz lo hi n];show wpAny _ _ (pure (((bH n 0 lo:Nat):Int),(1:Int),Builtin.Slice.slicePlaces ((bH n 0 lo:Nat):Int) ((bH n n hi:Nat):Int) 1)) _ _ s;rw[TF];exact wpAny_pure h
theorem Zu (xs:Array Value)(i k:Nat):((List.range k).filterMap λ(m:Nat)=>xs[((i:Int)+(m:Int)*1).toNat]?).toArray=((xs.toList.drop i).take k).toArray:=by
 have e:(λ(m:Nat)=>xs[((i:Int)+(m:Int)*1).toNat]?)= λm=>xs[i+m]?:=by
  funext m
  have:((i:Int)+(m:Int)*1).toNat=i+m:=by omega
  rw[this]
 rw[e];have:=pick_run xs i k;rw[List.filterMap_map] at this;have e2:((λx=>xs[x]?) ∘ λx=>i+x)= λm=>xs[i+m]?:=rfl;rw[e2] at this;rw[this]
theorem Ax {t sl:Addr}{items:Array Value}{vl vu:Value}{lo hi:Option Int}{Q:Value->Shared->Prop}(ht:IsTup s.heap t items)(hs:s.heap.IsSliceOf sl vl vu .none)(pl:IsPart vl lo)(pu:IsPart vu hi)
  (hw:¬(bH items.size 0 lo=0/\bH items.size items.size hi=items.size))
  (h:Q (.ref s.heap.objs.size) {s with heap:=s.heap.push {cls:=.type "tuple",data:=.seq ((items.toList.drop<|bH items.size 0 lo).take<|bH items.size items.size hi - bH items.size 0 lo).toArray}})
  (hsz:items.size<=sizeLine):wpAny (model prog w) A (getItem (.ref t)<|.ref sl) Q E s:=by
 have JX:sizeOk (.seq ((items.toList.drop<|bH items.size 0 lo).take<|bH items.size items.size hi - bH items.size 0 lo).toArray):=by show((items.toList.drop<|bH items.size 0 lo).take<|bH items.size items.size hi - bH items.size 0 lo).toArray.size<=sizeLine;rw[size_toArray,length_take,length_drop,length_toList];omega
 have hj:bH items.size items.size hi<=items.size:=KR _ _ (le_refl _) hi;obtain⟨os,hos,hcs,hds⟩:=id hs;have hTs:s.TypeIs (.ref sl) "slice":=⟨os,hos,hcs⟩;unfold getItem;try with_reducible refine wpAny_holding ?_
 first|refine wpAny_bind (wpAny_pure ?_)|skip
 refine wpAny_bind (wpAny_sequenceKey ht.typeIs (by decide) ?_);refine wpAny_bind (wpAny_callSpecial?_slot (name:=Str.ofString "__getitem__") ht.typeIs PyProof.Rows.slot_tuple_getitem
  (wpAny_call_entry PyProof.Rows.slot_tuple_getitem ht.typeIs entry_tuple_getitem ?_ (args_tuple_getitem _ _)))
 show wpAny _ _ (Builtin.Tuple.tupleItemsOf (.ref t)>>=_) _ _ s;refine wpAny_bind<|tupleItemsOf_ ht ?_;refine wpAny_bind<|wpAny_typeOf hTs ?_;rw[if_pos<|by decide];refine wpAny_bind<|Cg hs pl pu ?_;have hno:¬((((bH items.size 0 lo:Nat):Int)==0 && (1:Int)==1 && (bH items.size items.size hi - bH items.size 0 lo)==items.size)=true):=by intro q;rw[and_eq_true,and_eq_true] at q;have q1:((bH items.size 0 lo:Nat):Int)=0:=eq_of_beq q.1.1;have q2:bH items.size items.size hi - bH items.size 0 lo=items.size:=eq_of_beq q.2;exact hw ⟨by omega,by omega⟩
 show wpAny _ _ (if(((bH items.size 0 lo:Nat):Int)==0 && (1:Int)==1 && (bH items.size items.size hi - bH items.size 0 lo)==items.size)=true then _ else _) _ _ s;rw[if_neg hno,Zu];first
  |exact wpAny_bind (m:=Builtin.Tuple.tupleExact _) (wpAny_newObj_type (wpAny_pure ⟨_,rfl,wpAny_pure h⟩) JX)
  |exact wpAny_bind (m:=Builtin.Tuple.tupleExact _) (wpAny_newObj_type (wpAny_bind<|wpAny_pure<|wpAny_pure ⟨_,rfl,wpAny_pure h⟩) JX)
  |exact wpAny_bind (wpAny_bind (m:=Builtin.Tuple.tupleExact _)<|wpAny_newObj_type (wpAny_pure<|wpAny_pure ⟨_,rfl,wpAny_pure h⟩) JX)
  |exact wpAny_bind (wpAny_bind (m:=Builtin.Tuple.tupleExact _)<|wpAny_newObj_type (wpAny_pure ⟨_,rfl,wpAny_pure h⟩) JX)
end
end HT
namespace L2
open PyProof.Rows
abbrev TO:=St->Hp->(Option Int->Hp->Prop)->Prop
def PO (X:Cx)(e:Option Expr)(t:TO):Prop:=
 ∀(pins:List (Addr×Obj)) (s:Shared) (σ:St) (H:Hp) (Q:Option Int->Hp->Prop),Inv X pins σ H s->t σ H Q->
  wpAny (model X.prog X.w) X.A (evalPart e X.env) (λu s'=>∃o H',Inv X pins σ H' s'/\IsPart u o/\Q o H') X.xe s
def Gd:TO:=λ_ H Q=>Q none H
def JZ (t:TE):TO:=λσ H Q=>t σ H λx H1=>∃i,x=.int i/\Q (some i) H1
section
variable {lo hi:Option Expr}
theorem Qz:PO X none Gd:=by intro pins s σ H Q I h;rw[evalPart_none];exact wpAny_pure ⟨none,H,I,.none,h⟩
theorem qQ (h:PE X e te):PO X (some e) (JZ te):=by intro pins s σ H Q I hw;rw[evalPart_some];refine aV (h pins s σ H _ I hw) λu s1 ⟨x,H1,I1,r1,q1⟩=>?_;obtain⟨i,rfl,q⟩:=q1;obtain⟨t,rfl⟩:=r1;exact⟨some i,H1,I1,.int i t,q⟩
def SlR (X:Cx)(r:V->Option Int->Option Int->Hp->VK->Prop):Prop:=
 ∀(pins:List (Addr×Obj)) (s:Shared) (σ:St) (H:Hp) (x:V) (v vl vu:Value) (lo hi:Option Int) (sl:Addr) (Q:VK),Inv X pins σ H s->RelV x v->s.heap.IsSliceOf sl vl vu .none->IsPart vl lo->IsPart vu hi->r x lo hi H Q->
  ∃T id,typeLookup (.type T) "__getitem__"=pure (some<|.builtin id)/\s.TypeIs v T/\wpAny (model X.prog X.w) X.A (getItem v<|.ref sl) (EP X pins σ Q) X.xe s
def tSl (r:V->Option Int->Option Int->Hp->VK->Prop)(te:TE)(tl th:TO):TE:=λσ H Q=>te σ H λx H1=>tl σ H1 λl H2=>th σ H2 λu H3=>r x l u H3 Q
theorem q8 (hr:SlR X r)(he:PE X e te)(hl:PO X lo tl)(hu:PO X hi th):PE X (.Subscript e (.Slice lo hi none p2) pos) (tSl r te tl th):=by intro pins s σ H Q I h;refine Subscript_<|aV (he pins s σ H _ I h) λv s1 ⟨x,H1,I1,r1,q1⟩=>?_;refine wpAny_Slice<|aV (hl pins s1 σ H1 _ I1 q1) λvl s2 ⟨l,H2,I2,pl,q2⟩=>aV (hu pins s2 σ H2 _ I2 q2) λvu s3 ⟨u,H3,I3,pu,q3⟩=>?_;rw[evalPart_none];refine wpAny_pure ?_;have I4:Inv X pins σ H3 {s3 with heap:=s3.heap.push {cls:=.type "slice",data:=.fields #[vl,vu,.none]}}:=I3.kept (t':=s3.toks) λb ob q=>get?_push_of_some _ q;obtain⟨T,id,hT,ht,hg⟩:=hr pins {s3 with heap:=s3.heap.push {cls:=.type "slice",data:=.fields #[vl,vu,.none]}} σ H3 x v vl vu l u s3.heap.objs.size Q I4 r1 (Heap.IsSliceOf.new ..) pl pu q3;show wpAny (model X.prog X.w) X.A (subscriptTail e (.Slice lo hi none p2) v<|.ref s3.heap.objs.size) (EP X pins σ Q) X.xe {s3 with heap:=s3.heap.push {cls:=.type "slice",data:=.fields #[vl,vu,.none]}};exact tail_any (ops:=[.ref s3.heap.objs.size,v]) ht hT hg<|by with_unfolding_all rfl
def qg (xs:List V)(lo hi:Option Int):List V:=(xs.drop<|HT.bH xs.length 0 lo).take<|HT.bH xs.length xs.length hi - HT.bH xs.length 0 lo
theorem Bc (xs:List V)(lo hi:Option Int):(qg xs lo hi).length<=xs.length:=by unfold qg;rw[length_take,length_drop];omega
def ajP (K:Frag):V->Option Int->Option Int->Hp->VK->Prop:=λx lo hi H Q=>∃a xs,x=.ref a/\bB K H a xs/\
 ¬(HT.bH xs.length 0 lo=0/\HT.bH xs.length xs.length hi=xs.length)/\∀p,H p=none->Q (.ref p) (upd H p<|.tup<|qg xs lo hi)
theorem aeU:SlR X (ajP X.K):=by
 intro pins s σ H x v vl vu lo hi sl Q I rx hs pl pu h;obtain⟨a,xs,rfl,hx,hw,q⟩:=h;cases rx;obtain⟨its,r,ht,hz⟩:=I.tuple hx;have hlen:its.toArray.size=xs.length:=by rw[size_toArray];exact r.length.symm
 refine⟨"tuple",_,PyProof.Rows.slot_tuple_getitem.lookup,ht.typeIs,?_⟩;refine HT.Ax ht hs pl pu (by rw[hlen];exact hw) ?_ (by rw[hlen];exact hz);rw[hlen];refine⟨.ref s.heap.objs.size,_,I.laid (t':=s.toks) (o:=.tup<|qg xs lo hi) (λb ob q=>get?_push_of_some _ q) (le_refl _) ?_,rfl,q _<|I.hok.fresh<|le_refl _⟩;exact⟨le_trans (Bc xs lo hi) hz,_,(r.drop<|HT.bH xs.length 0 lo).take<|HT.bH xs.length xs.length hi - HT.bH xs.length 0 lo,IsTup.new _ _⟩
end
noncomputable def lR (n:Nat)(i:Int):Option Nat:=if 0<=i then(if i<n then some i.toNat else none) else if -(n:Int)<=i then some (i+n).toNat else none
def bW {α:Type}(xs:List α)(i:Int):Option α:=(lR xs.length i).bind λj=>xs[j]?
theorem QB (h:lR n i=some j):seqIndex? i n=some j/\j<n∧-(n:Int)<=i/\i<n:=by
 unfold lR at h;by_cases h0:0<=i
 .rw[if_pos h0] at h;by_cases h1:i<n
  .rw[if_pos h1] at h;have e:i.toNat=j:=Option.some.inj h;exact⟨by rw[seqIndex_of h0 h1,e],by omega,by omega,h1⟩
  .rw[if_neg h1] at h;cases h
 .rw[if_neg h0] at h;by_cases h1: -(n:Int)<=i
  .rw[if_pos h1] at h;have e:(i+n).toNat=j:=Option.some.inj h;exact⟨by rw[seqIndex_neg (by omega) h1,e],by omega,h1,by omega⟩
  .rw[if_neg h1] at h;cases h
theorem uo (h:bW xs i=some v):∃j,seqIndex? i xs.length=some j/\xs[j]? =some v/\j<xs.length∧-(xs.length:Int)<=i/\i<xs.length:=by
 unfold bW at h;cases e:lR xs.length i with
 |none=>rw[e] at h;cases h
 |some j=>rw[e] at h;obtain⟨h1,h2,h3,h4⟩:=QB e;exact⟨j,h1,h,h2,h3,h4⟩
theorem dY {α:Type}{xs:List α}{j:Nat}{v:α}(h:xs[j]? =some v):bW xs (j:Int)=some v:=by
 have hj:j<xs.length:=(List.getElem?_eq_some_iff.mp h).1;have e:lR xs.length (j:Int)=some j:=by unfold lR;rw[if_pos<|by omega,if_pos<|by omega];simp
 unfold bW;rw[e];exact h
theorem KY (xs:List α)(v:α):bW (xs++[v]) (-1)=some v:=by
 have hl:(xs++[v]).length=xs.length+1:=by simp
 have e:lR (xs++[v]).length (-1)=some xs.length:=by unfold lR;rw[hl,if_neg<|by decide,if_pos<|by omega];congr 1;omega
 unfold bW;rw[e];show(xs++[v])[xs.length]? =some v;simp
def zW (b:Expr):Prop:=∀o i,subscripted b false o i=operate [o,i] (getItem o i)
def qx (X:Cx)(r:R2):Prop:=
 ∀(value slice:Expr) (pins:List (Addr×Obj)) (s:Shared) (σ:St) (H:Hp) (x y:V) (v u:Value) (Q:VK),Inv X pins σ H s->RelV x v->RelV y u->r x y H Q->
  subscripted slice false v u=operate [v,u] (getItem v u)->wpAny (model X.prog X.w) X.A (subscriptTail value slice v u) (EP X pins σ Q) X.xe s
def Hv (X:Cx)(id:String)(r:V->List V->Hp->VK->Prop):Prop:=
 ∀(pins:List (Addr×Obj)) (s:Shared) (σ:St) (H:Hp) (x:V) (xs:List V) (v:Value) (us:List Value) (Q:VK),Inv X pins σ H s->RelV x v->Vals xs us->r x xs H Q->
  wpAny (model X.prog X.w) X.A (call (.builtin id) (v::us)) (EP X pins σ Q) X.xe s
section
variable {pos:Pos}
theorem qx.or (h:qx X r)(h':qx X r'):qx X (λx y H Q=>r x y H Q\/r' x y H Q):=by
 intro value slice pins s σ H x y v u Q I rx ry q hs;rcases q with q|q
 .exact h value slice pins s σ H x y v u Q I rx ry q hs
 .exact h' value slice pins s σ H x y v u Q I rx ry q hs
theorem TJ (hr:qx X r)(ha:PE X a ta)(hb:PE X b tb)(hs:zW b):PE X (.Subscript a b pos) (gR r ta tb):=by intro pins s σ H Q I h;exact Subscript_<|Zj ha hb I h λv u s2 x y H2 I2 rx ry q=>hr a b pins s2 σ H2 x y v u Q I2 rx ry q<|hs _ _
def Zv (K:Frag):R2:=λx y H Q=>∃p xs i v,x=.ref p/\y=.int i/\aR K H p xs/\bW xs i=some v/\Q v H
def ajQ (K:Frag):R2:=λx y H Q=>∃p xs i v,x=.ref p/\y=.int i/\bB K H p xs/\bW xs i=some v/\Q v H
def ajR:R2:=λx y H Q=>∃z i c,x=.str z/\y=.int i/\z.length<=sizeLine/\bW z.cps.toList i=some c/\Q (.str ⟨#[c]⟩) H
theorem Ge:qx X (Zv X.K):=by
 intro value slice pins s σ H x y v u Q I rx ry h hs;obtain⟨p,xs,i,z,rfl,rfl,hq,he,q⟩:=h;cases rx;obtain⟨t,rfl⟩:=ry;obtain⟨its,r,pl,hz⟩:=I.list hq;obtain⟨j,h1,h2,h3,h4,h5⟩:=uo he;obtain⟨w,ew,pK⟩:=r.get h2;have hl:=r.length;have hn:=pI;have fin:EP X pins σ Q w s:=⟨z,H,I,pK,q⟩;by_cases h0:0<=i
 .have hj:i.toNat=j:=by rw[seqIndex_of h0 h5] at h1;exact Option.some.inj h1
  exact item_listR pl.isList h0 (by omega) (by rw[hj];simpa using ew) fin hs
 .have hj:(i+(its.toArray.size:Int)).toNat=j:=by rw[seqIndex_neg (by omega) h4] at h1;rw[size_toArray,←hl];exact Option.some.inj h1
  exact subscriptTail_builtinR (x:=w) pl.isList.typeIs slot_list_getitem.lookup
   (wpAny_getItem_list_neg (Q:=λr s'=>r=w/\EP X pins σ Q r s') pl.isList (by omega) (by rw[size_toArray]<;>omega) (by omega) (by rw[hj];simpa using ew) ⟨rfl,fin⟩) hs
theorem KZ:qx X (ajQ X.K):=by
 intro value slice pins s σ H x y v u Q I rx ry h hs;obtain⟨p,xs,i,z,rfl,rfl,hq,he,q⟩:=h;cases rx;obtain⟨t,rfl⟩:=ry;obtain⟨its,r,pl,hz⟩:=I.tuple hq;obtain⟨j,h1,h2,h3,h4,h5⟩:=uo he;obtain⟨w,ew,pK⟩:=r.get h2;have hl:=r.length;have hn:=pI;have fin:EP X pins σ Q w s:=⟨z,H,I,pK,q⟩;exact subscriptTail_builtinR (x:=w) pl.typeIs slot_tuple_getitem.lookup
  (getItem_tuple (j:=j) (Q:=λr s'=>r=w/\EP X pins σ Q r s') pl (by omega) (by omega) (by rw[size_toArray,←hl];exact h1) (by simpa using ew) ⟨rfl,fin⟩) hs
theorem aeV:qx X ajR:=by
 intro value slice pins s σ H x y v u Q I rx ry h hs;obtain⟨z,i,c,rfl,rfl,hz,he,q⟩:=h;obtain⟨t,rfl⟩:=rx;obtain⟨t',rfl⟩:=ry;obtain⟨j,h1,h2,h3,h4,h5⟩:=uo he;have hl:z.cps.toList.length=z.length:=by simp[Str.length]
 rw[hl] at h1 h4 h5;have hn:=pI;exact tail_any (typeIs_str s z t) slot_str_getitem.lookup (getItem_str (c:=c) (by
  have e1:decide (i< -(2^63:Int))=false:=decide_eq_false (by omega);have e2:decide (i≥2^63)=false:=decide_eq_false (by omega);rw[e1,e2,Bool.or_false]) (by rw[h1];simpa using h2) ⟨.str ⟨#[c]⟩,H,I.tok _,⟨_,rfl⟩,q⟩) hs
theorem TQ (its:List Value)(n j:Nat)(u:Value):Obj.mapSeq (·.setIfInBounds j u) {cls:=.type "list",data:=.seq its.toArray n}={cls:=.type "list",data:=.seq (its.set j u).toArray n}:=by simp[Obj.mapSeq]
theorem Inv.lst (I:Inv X pins σ H s)(h:H p=some (.lst xs)):
  ∃(its:List Value) (n:Nat),Vals xs its/\s.heap.get? p=some {cls:=.type "list",data:=.seq its.toArray n}/\xs.length<=sizeLine:=by
 obtain⟨z,its,n,r,e⟩:=I.hok p _ h;exact⟨its,n,r,e,z⟩
theorem Inv.aeW {pins:List (Addr×Obj)}{σ:St}{H:Hp}{s:Shared}{p:Addr}{xs ys:List V}{its its':List Value}{n n':Nat}{f:Obj->Obj}(I:Inv X pins σ H s)(h:H p=some (.lst xs))
  (ho:s.heap.get? p=some {cls:=.type "list",data:=.seq its.toArray n})(hf:f {cls:=.type "list",data:=.seq its.toArray n}={cls:=.type "list",data:=.seq its'.toArray n'})(r:Vals ys its')(hz:ys.length<=sizeLine)(t:Nat):
  Inv X pins σ (upd H p<|.lst ys) {s with heap:=s.heap.update p f,toks:=t}:=by
 have e:(s.heap.update p f).get? p=some {cls:=.type "list",data:=.seq its'.toArray n'}:=by rw[get?_update_self f ho (by rw[hf]<;>rfl),hf]
 refine I.write (x:=p) (e:=p) (by rw[h];trivial) (.inl rfl) (λb u hb q=>(get?_update_other _ _<|Ne.symm hb).trans q) ⟨_,e⟩ ?_;exact⟨hz,its',n',r,e⟩
def ahJ:V->V->V->Hp->(Hp->Prop)->Prop:=λo i v H Q=>∃p xs k j,o=.ref p/\i=.int k/\H p=some (.lst xs)/\lR xs.length k=some j/\Q (upd H p<|.lst<|xs.set j v)
theorem set_list:xV X ahJ:=by
 intro pins s σ H o i v ov iv u Q I ro ri rv h;obtain⟨p,xs,k,j,rfl,rfl,hp,hj,q⟩:=h;cases ro;obtain⟨t,rfl⟩:=ri;obtain⟨its,n,r,ho,hz⟩:=I.lst hp;obtain⟨h1,h2,h3,h4⟩:=QB hj;have hl:=r.length;have hn:=pI;have I':Inv X pins σ (upd H p<|.lst<|xs.set j v) {s with heap:=s.heap.update p<|Obj.mapSeq (·.setIfInBounds j u)}:=
  I.aeW hp ho (TQ its n j u) (r.set rv j) (by rw[length_set];exact hz) s.toks
 by_cases h0:0<=k
 .have hk:k.toNat=j:=by rw[seqIndex_of h0 h4] at h1;exact Option.some.inj h1
  exact PySem.W.ki_setAt ho h0 (by omega) (by rw[size_toArray,←hl];exact h4) (by rw[hk];exact⟨_,I',q⟩)
 .have hk:(k+(its.toArray.size:Int)).toNat=j:=by rw[seqIndex_neg (by omega) h3] at h1;rw[size_toArray,←hl];exact Option.some.inj h1
  exact PySem.W.ki_setBack ho (by omega) (by rw[size_toArray,←hl];exact h3) (by omega) (by rw[hk];exact⟨_,I',q⟩)
theorem K1 (lo hi:Option Int)(n:Nat):(sliceBounds lo hi none n).1=((HT.bH n 0 lo:Nat):Int)/\(sliceBounds lo hi none n).2.1=((HT.bH n n hi:Nat):Int)/\(sliceBounds lo hi none n).2.2=1:=by
 refine⟨?_,?_,rfl⟩
 .cases lo with
  |none=>simp[sliceBounds,HT.bH]
  |some i=>
   simp only[sliceBounds,HT.bH,Option.getD_none,show(1:Int)>0 by decide,if_true];by_cases h:i<0
   .simp only[h,if_true]<;>omega
   .simp only[h,if_false]<;>omega
 .cases hi with
  |none=>simp[sliceBounds,HT.bH]
  |some i=>
   simp only[sliceBounds,HT.bH,Option.getD_none,show(1:Int)>0 by decide,if_true];by_cases h:i<0
   .simp only[h,if_true]<;>omega
   .simp only[h,if_false]<;>omega
theorem Jx (its:List Value)(lo hi:Option Int):slicePick its.toArray lo hi none=((its.drop<|HT.bH its.length 0 lo).take<|HT.bH its.length its.length hi - HT.bH its.length 0 lo).toArray:=by obtain⟨h1,h2,h3⟩:=K1 lo hi its.toArray.size;unfold slicePick;rw[h1,h2,h3];simp only[sliceRange_one,pick_run,size_toArray]<;>rfl
def aeX (K:Frag):V->Option Int->Option Int->Hp->VK->Prop:=λx lo hi H Q=>∃a xs,x=.ref a/\aR K H a xs/\∀p,H p=none->Q (.ref p) (upd H p<|.lst<|qg xs lo hi)
theorem Gf:SlR X (aeX X.K):=by intro pins s σ H x v vl vu lo hi sl Q I rx hs pl pu h;obtain⟨a,xs,rfl,hx,q⟩:=h;cases rx;obtain⟨its,r,ht,hz⟩:=I.list hx;have hlen:=r.length;refine⟨"list",_,slot_list_getitem.lookup,ht.isList.typeIs,?_⟩;refine wpAny_getItem_list_slice ht.isList hs pl pu .none (by simp) ?_ (by rw[size_toArray]<;>omega);rw[Jx,←hlen];refine⟨.ref s.heap.objs.size,_,I.laid (t':=s.toks) (o:=.lst<|qg xs lo hi) (λb ob q=>get?_push_of_some _ q) (le_refl _) ?_,rfl,q _<|I.hok.fresh<|le_refl _⟩;exact⟨le_trans (Bc xs lo hi) hz,_,0,(r.drop<|HT.bH xs.length 0 lo).take<|HT.bH xs.length xs.length hi - HT.bH xs.length 0 lo,get?_push_size _ rfl⟩
noncomputable def oZ:V->Bool
 |.non=>true
 |.bl _=>true
 |.int _=>true
 |.str _=>true
 |_=>false
noncomputable def HB:V->V->Bool
 |.non,.non=>true
 |.bl a,.bl b=>a==b
 |.bl a,.int b=>(if a then 1 else 0)==b
 |.int a,.bl b=>a==(if b then 1 else 0)
 |.int a,.int b=>a==b
 |.str a,.str b=>a==b
 |_,_=>false
theorem aeY (ry:RelV y u)(rx:RelV x v)(fy:oZ y=true)(fx:oZ x=true):SeqAt.EqAt A s u v (HB y x):=by
 cases y with
 |non=>
  cases ry;cases x with
  |non=>cases rx;exact SeqAt.EqAt.same _
  |bl b=>cases rx;exact SeqAt.EqAt.none_bool b
  |int b=>obtain⟨t,rfl⟩:=rx;exact SeqAt.EqAt.none_int b t
  |str b=>obtain⟨t,rfl⟩:=rx;exact SeqAt.EqAt.none_str b t
  |_=>exact absurd (show false=true from fx) Bool.false_ne_true
 |bl a=>
  cases ry;cases x with
  |non=>cases rx;exact SeqAt.EqAt.bool_none a
  |bl b=>cases rx;exact SeqAt.EqAt.bool_bool a b
  |int b=>obtain⟨t,rfl⟩:=rx;exact SeqAt.EqAt.bool_int a b t
  |str b=>obtain⟨t,rfl⟩:=rx;exact SeqAt.EqAt.bool_str a b t
  |_=>exact absurd (show false=true from fx) Bool.false_ne_true
 |int a=>
  obtain⟨t',rfl⟩:=ry;cases x with
  |non=>cases rx;exact SeqAt.EqAt.int_none a t'
  |bl b=>cases rx;exact SeqAt.EqAt.int_bool a t' b
  |int b=>obtain⟨t,rfl⟩:=rx;exact SeqAt.EqAt.int_int a t' b t
  |str b=>obtain⟨t,rfl⟩:=rx;exact SeqAt.EqAt.int_str a t' b t
  |_=>exact absurd (show false=true from fx) Bool.false_ne_true
 |str a=>
  obtain⟨t',rfl⟩:=ry;cases x with
  |non=>cases rx;exact SeqAt.EqAt.str_none a t'
  |bl b=>cases rx;exact SeqAt.EqAt.str_bool a t' b
  |int b=>obtain⟨t,rfl⟩:=rx;exact SeqAt.EqAt.str_int a t' b t
  |str b=>obtain⟨t,rfl⟩:=rx;exact SeqAt.EqAt.str_str a t' b t
  |_=>exact absurd (show false=true from fx) Bool.false_ne_true
 |_=>exact absurd (show false=true from fy) Bool.false_ne_true
def Dy (x:V)(u:Value):Bool:=match u with
 |.none=>HB .non x
 |.bool b=>HB (.bl b) x
 |.int i _=>HB (.int i) x
 |.str z _=>HB (.str z) x
 |_=>false
theorem Wh (r:RelV y u)(f:oZ y=true):Dy x u=HB y x:=by
 cases y with
 |non=>cases r;rfl
 |bl b=>cases r;rfl
 |int i=>obtain⟨t,rfl⟩:=r;rfl
 |str z=>obtain⟨t,rfl⟩:=r;rfl
 |_=>exact absurd (show false=true from f) Bool.false_ne_true
theorem Gg:∀{xs:List V}{us:List Value},Vals xs us->xs.all oZ=true->us.any (Dy x)=xs.any λy=>HB y x
 |_,_,.nil,_=>rfl
 |y::xs,u::us,.cons r t,f=>by rw[List.all_cons,and_eq_true] at f;rw[any_cons,any_cons,Wh r f.1,Gg t f.2]
theorem Ci (rx:RelV x v)(fx:oZ x=true):∀{xs:List V}{us:List Value},Vals xs us->xs.all oZ=true->∀u∈us,SeqAt.EqAt A s u v (Dy x u)
 |_,_,.nil,_=>λu hu=>by cases hu
 |y::xs,u::us,.cons r t,f=>λu' hu=>by
  rw[List.all_cons,and_eq_true] at f;rcases mem_cons.mp hu with rfl|hu
  .rw[Wh r f.1];exact aeY r rx f.1 fx
  .exact Ci rx fx t f.2 u' hu
def inV (x:V)(xs:List V):Bool:=xs.any λy=>HB y x
def rIn (K:Frag)(neg:Bool):R2:=λx y H Q=>∃p xs,y=.ref p/\(aR K H p xs\/bB K H p xs)/\oZ x=true/\xs.all oZ=true/\Q (.bl<|if neg then !inV x xs else inV x xs) H
theorem yg:cA X (compareOp .NotIn) (rIn X.K true):=by
 intro pins s σ H x y v u Q I rx ry h;obtain⟨p,xs,rfl,hq,fx,fs,q⟩:=h;cases ry;rcases hq with hq|hq
 .obtain⟨its,r,pl,hz⟩:=I.list hq;refine SeqAt.notIn_listAt (Dy x) pl.isList (λw hw=>Ci rx fx r fs w<|by simpa using hw) ⟨.bl _,H,I,rfl,?_⟩;rw[show its.toArray.any (Dy x)=its.any (Dy x) by simp,Gg r fs];exact q
 .obtain⟨its,r,pl,hz⟩:=I.tuple hq;refine SeqAt.notIn_tupleAt (Dy x) pl (λw hw=>Ci rx fx r fs w<|by simpa using hw) ⟨.bl _,H,I,rfl,?_⟩;rw[show its.toArray.any (Dy x)=its.any (Dy x) by simp,Gg r fs];exact q
theorem K3:dg X (.builtin "len") (λxs H Q=>∃p ys,xs=[.ref p]/\(aR X.K H p ys\/bB X.K H p ys)/\Q (.int ys.length) H):=by
 intro pins s σ H xs us Q I r h;obtain⟨p,ys,rfl,hq,q⟩:=h;obtain⟨u,rfl,rx⟩:=vals1 r;cases rx;have hn:=pI;rcases hq with hq|hq
 .obtain⟨its,r',pl,hz⟩:=I.list hq;have hlen:=r'.length;exact Calls.call_len_list pl.isList (by simp only[size_toArray]<;>omega) ⟨.int ys.length,H,I.tok _,⟨s.toks+1,by rw[size_toArray,hlen]⟩,q⟩
 .obtain⟨its,r',pl,hz⟩:=I.tuple hq;have hlen:=r'.length;exact len_tuple pl (by simp only[size_toArray]<;>omega) ⟨.int ys.length,H,I.tok _,⟨s.toks+1,by rw[size_toArray,hlen]⟩,q⟩
theorem K4:dg X (.builtin "len") (λxs H Q=>∃z,xs=[.str z]/\z.length<=sizeLine/\Q (.int z.length) H):=by intro pins s σ H xs us Q I r h;obtain⟨z,rfl,hz,q⟩:=h;obtain⟨u,rfl,t,rfl⟩:=vals1 r;have hn:=pI;exact len_str (by omega) ⟨.int z.length,H,I.tok _,⟨_,rfl⟩,q⟩
theorem K5:dg X (.type "list") (λxs H Q=>∃p ys,xs=[.ref p]/\(aR X.K H p ys\/bB X.K H p ys)/\∀l,H l=none->Q (.ref l) (upd H l<|.lst ys)):=by
 intro pins s σ H xs us Q I r h;obtain⟨p,ys,rfl,hq,q⟩:=h;obtain⟨u,rfl,rx⟩:=vals1 r;cases rx;have fin:∀(its:List Value),Vals ys its->ys.length<=sizeLine->∀(h':Heap) (c':Nat),(∀b o',s.heap.get? b=some o'->h'.get? b=some o')->
   h'.get? s.heap.objs.size=some {cls:=.type "list",dict:=none,data:=.seq its.toArray c',slots:=#[]}->EP X pins σ Q (.ref s.heap.objs.size) {s with heap:=h'}:=λits r' hz h' c' kp e=>
  ⟨.ref s.heap.objs.size,_,I.laid (t':=s.toks) kp (le_refl _)<|show eY X.prog X.w _ h' _ (.lst ys) from⟨hz,its,c',r',e⟩,rfl,q _<|I.hok.fresh<|le_refl _⟩
 rcases hq with hq|hq
 .obtain⟨its,r',pl,hz⟩:=I.list hq;have hlen:=r'.length;obtain⟨o,ho,hc,n,hd⟩:=pl.isList;exact call_list_seq p (.inl rfl) ho hc hd (λh' c' kp e=>fin its r' hz h' c' kp e) (by simp only[size_toArray]<;>omega)
 .obtain⟨its,r',pl,hz⟩:=I.tuple hq;have hlen:=r'.length;obtain⟨o,ho,hc,n,hd⟩:=pl;exact call_list_seq p (.inr rfl) ho hc hd (λh' c' kp e=>fin its r' hz h' c' kp e) (by simp only[size_toArray]<;>omega)
theorem Jy:dg X (.type "tuple") (λxs H Q=>∃p ys,xs=[.ref p]/\((aR X.K H p ys/\∀l,H l=none->Q (.ref l) (upd H l<|.tup ys))\/(bB X.K H p ys/\Q (.ref p) H))):=by
 intro pins s σ H xs us Q I r h;obtain⟨p,ys,rfl,h⟩:=h;obtain⟨u,rfl,rx⟩:=vals1 r;cases rx;rcases h with⟨hq,q⟩|⟨hq,q⟩
 .obtain⟨its,r',pl,hz⟩:=I.list hq;have hlen:=r'.length;refine call_tuple_list pl.isList (λh' kp=>?_) (by simp only[size_toArray]<;>omega);have I1:Inv X pins σ H {s with heap:=h'}:=I.kept (t':=s.toks) kp;have I2:Inv X pins σ (upd H h'.objs.size<|.tup ys) {s with heap:=h'.push {cls:=.type "tuple",data:=.seq its.toArray}}:=
   I1.laid (t':=s.toks) (λb o e=>get?_push_of_some _ e) (le_refl _) (show eY X.prog X.w _ _ _ (.tup ys) from⟨hz,its,r',IsTup.new _ _⟩)
  exact⟨.ref h'.objs.size,_,I2,rfl,q _<|I1.hok.fresh<|le_refl _⟩
 .obtain⟨its,r',pl,hz⟩:=I.tuple hq;exact call_tuple_same pl ⟨.ref p,H,I,rfl,q⟩
def tyV (K:Frag)(T:String)(x:V)(H:Hp):Prop:=match x with
 |.str _=>T="str"
 |.int _=>T="int"
 |.ref p=>(T="list"/\∃xs,aR K H p xs)\/(T="tuple"/\∃o,K.lookup p=some o/\o.cls=.type "tuple"/\o.dict=none)\/
  (T="dict"/\((∃kvs,H p=some (.dK kvs))\/∃kvs,H p=some (.dT kvs)))\/(T="set"/\∃S n,H p=some (.set S n))
 |_=>False
theorem Wi (I:Inv X pins σ H s)(r:RelV x v)(ty:tyV X.K T x H):
  s.TypeIs v T/\∀a,v=.ref a->∃ob,s.heap.get? a=some ob/\ob.dict=none:=by
 cases x with
 |str z=>
  obtain⟨t,rfl⟩:=r;cases(show T="str" from ty);exact⟨typeIs_str s z t,λ_ e=>nomatch e⟩
 |int i=>
  obtain⟨t,rfl⟩:=r;cases(show T="int" from ty);exact⟨typeIs_int s i t,λ_ e=>nomatch e⟩
 |ref p=>
  cases r;rcases ty with⟨rfl,xs,hq⟩|⟨rfl,o,hk,hc,hd⟩|⟨rfl,hk⟩|⟨rfl,S,n,hk⟩
  .obtain⟨its,_,pl,_⟩:=I.list hq;refine⟨pl.isList.typeIs,λa e=>?_⟩;cases e;obtain⟨o,n,e,c,hd,_⟩:=pl;exact⟨o,e,hd⟩
  .refine⟨⟨o,I.mO p o hk,hc⟩,λa e=>?_⟩;cases e;exact⟨o,I.mO _ o hk,hd⟩
  .have z:∃o,s.heap.get? p=some o/\o.ExactDict:=by
    rcases hk with⟨kvs,hk⟩|⟨kvs,hk⟩
    .obtain⟨_,_,_,_,o,_,_,e,ex,_⟩:=I.hok p _ hk;exact⟨o,e,ex⟩
    .obtain⟨_,_,_,_,o,_,_,e,ex,_⟩:=I.hok p _ hk;exact⟨o,e,ex⟩
   obtain⟨o,e,ex⟩:=z;refine⟨⟨o,e,ex.1⟩,λa e2=>?_⟩;cases e2;exact⟨o,e,ex.2.1⟩
  .obtain⟨o,_,_,_,e,ex,_⟩:=I.hok p _ hk;refine⟨⟨o,e,ex.1⟩,λa e2=>?_⟩;cases e2;exact⟨o,e,ex.2.1⟩
 |_=>exact False.elim ty
def Cj (K:Frag)(T:String)(r:V->List V->Hp->VK->Prop)(to:TE):TE:=λσ H Q=>to σ H λx H1=>tyV K T x H1/\r x [] H1 Q
def uq (K:Frag)(T:String)(r:V->List V->Hp->VK->Prop)(to:TE)(t:TA):TE:=λσ H Q=>to σ H λx H1=>tyV K T x H1/\t σ H1 λxs H2=>r x xs H2 Q
variable {T id:String}
theorem K6 (pa:PlainAttrs T)(slot:Slot T name id)(hty:typeOf (.builtin id)=pure (.type "method_descriptor"))(hm:Hv X id r)(ho:PE X o to)
  (hbase:attributeBase o name X.env (eval o X.env)=eval o X.env:=by rfl)(hline:(apos.endLine==cpos.line)=true:=by rfl):PE X (.Call (.Attribute o name apos) [] [] cpos) (Cj X.K T r to):=by
 intro pins s σ H Q I h;refine wpAny_Call_method0_late hbase hline<|aV (ho pins s σ H _ I h) λv s1 hz=>?_;obtain⟨x,H1,I1,r1,ty,q1⟩:=hz;obtain⟨h1,h2⟩:=Wi I1 r1 ty;exact⟨T,id,pa,slot,hty,h1,h2,Calls.callWith_builtin rfl<|PySem.evalArgs_none<|hm pins s1 σ H1 x [] v [] Q I1 r1 .nil q1⟩
theorem abA (pa:PlainAttrs T)(slot:Slot T name id)(hty:typeOf (.builtin id)=pure (.type "method_descriptor"))(hm:Hv X id r)(ho:PE X o to)(ha:PA X (e::es) t)
  (hbase:attributeBase o name X.env (eval o X.env)=eval o X.env:=by rfl)
  (hfew:((backTo cpos (starEach (e::es) X.env)).all (λx=>!x.1) && (backToKw cpos (keywordEach [] X.env)).all (λx=>x.1.isSome)
   && decide ((e::es).length+([]:List Keyword).length+(if([]:List Keyword).isEmpty then 0 else 1)<30))=true:=by rfl)
  (hline:(apos.endLine==cpos.line)=true:=by rfl)(hs:starEach (e::es) X.env=(false,eval e X.env)::starEach es X.env:=by rfl)(hplain:(backTo cpos<|starEach es X.env).any (·.1)=false:=by rfl):
  PE X (.Call (.Attribute o name apos) (e::es) [] cpos) (uq X.K T r to t):=by
 intro pins s σ H Q I h;refine wpAny_Call_method_late hbase hfew hline rfl<|aV (ho pins s σ H _ I h) λv s1 hz=>?_;obtain⟨x,H1,I1,r1,ty,q1⟩:=hz;obtain⟨h1,h2⟩:=Wi I1 r1 ty;refine⟨T,id,pa,slot,hty,h1,h2,?_⟩;have hA:=ha cpos pins s1 σ H1 _ I1 q1;rw[hs] at hA ⊢;refine Calls.callWith_builtin (by show(false||(backTo cpos<|starEach es X.env).any (·.1))=false;rw[hplain]<;>rfl) (Calls.evalArgs_plain ?_);exact aV hA λus s2 ⟨vs,H2,I2,r2,q2⟩=>hm pins s2 σ H2 x vs v us Q I2 r1 r2 q2
end
def MtM (X:Cx)(id:String)(r:V->List V->Hp->VK->Prop):Prop:=
 ∀(pins:List (Addr×Obj)) (s:Shared) (σ:St) (H:Hp) (x:V) (xs:List V) (v:Value) (us:List Value) (Q:VK),Inv X pins σ H s->RelV x v->Vals xs us->r x xs H Q->
  wpAny (model X.prog X.w) X.A (call (.builtin id) (v::us)) (EP X pins σ Q) X.xe s
theorem Vals.one:∀{x:V}{us:List Value},Vals [x] us->∃u,us=[u]/\RelV x u
 |_,_,.cons r .nil=>⟨_,rfl,r⟩
theorem Vals.zero:∀{us:List Value},Vals [] us->us=[]
 |_,.nil=>rfl
theorem Vals.dropLast (h:Vals xs us):Vals xs.dropLast us.dropLast:=by
 induction h with
 |nil=>exact .nil
 |cons r t ih=>
  cases t with
  |nil=>exact .nil
  |cons q t'=>exact .cons r ih
theorem Vals.eraseIdx:∀{xs:List V}{us:List Value} (i:Nat),Vals xs us->Vals (xs.eraseIdx i) (us.eraseIdx i)
 |_,_,_,.nil=>.nil
 |_,_,0,.cons _ t=>t
 |_,_,i+1,.cons r t=>.cons r<|Vals.eraseIdx i t
theorem Vals.reverse (h:Vals xs us):Vals xs.reverse us.reverse:=by
 induction h with
 |nil=>exact .nil
 |cons r t ih=>rw[reverse_cons,reverse_cons];exact Vals.append ih<|.cons r .nil
theorem Vals.rep (h:Vals xs us):∀k:Nat,Vals (replicate k xs).flatten (replicate k us).flatten
 |0=>.nil
 |k+1=>by rw[replicate_succ,replicate_succ,flatten_cons,flatten_cons];exact Vals.append h<|Vals.rep h k
theorem TV (l:List α):l.eraseIdx (l.length - 1)=l.dropLast:=by
 induction l with
 |nil=>rfl
 |cons a r ih=>
  cases r with
  |nil=>rfl
  |cons b r=>
   have e:(a::b::r).length - 1=((b::r).length - 1)+1:=by have h1:(a::b::r).length=r.length+2:=rfl;have h2:(b::r).length=r.length+1:=rfl;omega
   rw[e,List.eraseIdx_cons_succ,ih];all_goals rfl
theorem HD:∀(l:List α) (i:Nat),(l.eraseIdx i).length<=l.length
 |[],_=>le_refl _
 |_::_,0=>le_succ _
 |_::r,i+1=>Nat.succ_le_succ<|HD r i
theorem foldl_rep (its:List Value):∀(k:Nat) (acc:List Value),
  foldl (λx1 x2=>x1++x2) acc.toArray (replicate k its.toArray)=(acc++(replicate k its).flatten).toArray
 |0,acc=>by simp
 |k+1,acc=>by
  have e:acc.toArray++its.toArray=(acc++its).toArray:=by simp
  have e2:(acc++its)++(replicate k its).flatten=acc++(replicate (k+1) its).flatten:=by rw[replicate_succ,flatten_cons,append_assoc]
  rw[<-e2,←foldl_rep its k (acc++its),←e,replicate_succ,foldl_cons]
section
variable {xs ys zs:List V}
theorem Inv.TX {its its':List Value}{n:Nat}{f:Array Value->Array Value}{t':Nat}(I:Inv X pins σ H s)(hH:H l=some (.lst xs))
  (e:s.heap.get? l=some {cls:=.type "list",data:=.seq its.toArray n})(hf:f its.toArray=its'.toArray)(hv:Vals ys its')(hz:ys.length<=sizeLine):
  Inv X pins σ (upd H l<|.lst ys) {s with heap:=s.heap.update l<|Obj.mapSeq f,toks:=t'}:=by
 have q:=PySem.IsL.update e f;rw[hf] at q;refine I.write (x:=l) (e:=l) (by rw[hH];exact trivial) (.inl rfl) (λb' u hb hu=>(get?_update_other s.heap (Obj.mapSeq f)<|Ne.symm hb).trans hu) ⟨_,q⟩ ?_;exact⟨hz,its',_,hv,q⟩
theorem Inv.Zw (I:Inv X pins σ H s)(hv:Vals ys its)(hz:ys.length<=sizeLine):
  Inv X pins σ (upd H s.heap.objs.size<|.lst ys) {s with heap:=s.heap.push {cls:=.type "list",data:=.seq its.toArray},toks:=t'}:=
 I.laid (λ_ _ q=>get?_push_of_some _ q) (le_refl _) ⟨hz,its,0,hv,get?_push_size _ rfl⟩
theorem Inv.fresh (I:Inv X pins σ H s):H s.heap.objs.size=none:=I.hok.fresh<|le_refl _
theorem Inv.K7 (I:Inv X pins σ H s)(hH:H l=some (.lst xs)):xs.length<=sizeLine/\∃(its:List Value) (n:Nat),Vals xs its/\xs.length=its.length/\s.heap.get? l=some {cls:=.type "list",data:=.seq its.toArray n}:=by obtain⟨z,its,n,r,e⟩:=I.hok l _ hH;exact⟨z,its,n,r,r.length,e⟩
theorem Zx (h:n<=sizeLine):Builtin.List.listTooLong n=false:=by unfold Builtin.List.listTooLong;exact decide_eq_false<|by omega
end
section
def adq:V->List V->Hp->VK->Prop:=λx vs H Q=>∃l xs y,x=.ref l/\vs=[y]/\H l=some (.lst xs)/\xs.length<sizeLine/\Q .non (upd H l<|.lst<|xs++[y])
theorem HF:MtM X "list.append" adq:=by intro pins s σ H x vs v us Q I rx rv h;obtain⟨l,xs,y,rfl,rfl,hH,hz,q⟩:=h;cases rx;obtain⟨u,rfl,ru⟩:=rv.one;obtain⟨z,its,n,r,hl,e⟩:=I.K7 hH;refine call_meets F.slot_list_append ⟨_,e,rfl⟩ F.entry_list_append (F.args_list_append_2 _ _) (PySem.list_append l its.toArray n u (by rw[size_toArray];omega)) ⟨e,?_⟩;refine⟨.non,_,I.TX (its':=its++[u]) hH e (by simp) (r.append<|.cons ru .nil) ?_,rfl,q⟩;rw[length_append,List.length_singleton];omega
def ajS:V->List V->Hp->VK->Prop:=λx vs H Q=>∃l xs y,x=.ref l/\vs=[]/\H l=some (.lst xs)/\xs[xs.length - 1]? =some y/\Q y (upd H l<|.lst xs.dropLast)
theorem alL:MtM X "list.pop" ajS:=by
 intro pins s σ H x vs v us Q I rx rv h;obtain⟨l,xs,y,rfl,rfl,hH,hy,q⟩:=h;cases rx;have hus:=rv.zero;subst hus;obtain⟨z,its,n,r,hl,e⟩:=I.K7 hH;obtain⟨u,hu,ru⟩:=r.get hy;have hy':its.toArray[its.toArray.size - 1]? =some u:=by show its.toArray[its.length - 1]? =some u;rw[<-Array.getElem?_toList,←hl];exact hu
 refine call_meets F.slot_list_pop ⟨_,e,rfl⟩ F.entry_list_pop (F.args_list_pop_1 _) (MeetsSeq.list_pop_last l its.toArray n u hy' (by rw[size_toArray];omega)) ⟨e,?_⟩;refine⟨y,_,I.TX (its':=its.dropLast) hH e ?_ r.dropLast ?_,ru,q⟩
 .show its.toArray.eraseIdxIfInBounds (its.toArray.size - 1)=its.dropLast.toArray;rw[size_toArray,List.eraseIdxIfInBounds_toArray,TV]
 .rw[List.length_dropLast];omega
def ae2:V->List V->Hp->VK->Prop:=λx vs H Q=>∃l xs,x=.ref l/\vs=[]/\H l=some (.lst xs)/\Q .non (upd H l<|.lst [])
theorem Zy:MtM X "list.clear" ae2:=by intro pins s σ H x vs v us Q I rx rv h;obtain⟨l,xs,rfl,rfl,hH,q⟩:=h;cases rx;have hus:=rv.zero;subst hus;obtain⟨z,its,n,r,hl,e⟩:=I.K7 hH;refine call_meets F.slot_list_clear ⟨_,e,rfl⟩ F.entry_list_clear (F.args_list_clear_1 _) (AutoSeq1.list_clear_list_0 l its.toArray n (by rw[size_toArray];omega)) ⟨e,?_⟩;exact⟨.non,_,I.TX (its':=[]) (ys:=[]) hH e rfl .nil<|zero_le _,rfl,q⟩
def ajT:R2:=λx y H Q=>∃l k xs,x=.ref l/\y=.int k/\H l=some (.lst xs)∧-(2^63)<=k/\k<2^63/\xs.length*k.toNat<=sizeLine/\
 ∀p,H p=none->Q (.ref p) (upd H p<|.lst (replicate k.toNat xs).flatten)
theorem len_rep (xs:List α)(k:Nat):(replicate k xs).flatten.length=k*xs.length:=by
 induction k with
 |zero=>simp
 |succ k ih=>rw[replicate_succ,flatten_cons,length_append,ih,Nat.succ_mul,Nat.add_comm]
theorem ae3:cA X (binaryOp .Mult) ajT:=by
 intro pins s σ H x y v u Q I rx ry h;obtain⟨l,k,xs,rfl,rfl,hH,h1,h2,hz,q⟩:=h;cases rx;obtain⟨t,rfl⟩:=ry;obtain⟨z,its,n,r,hl,e⟩:=I.K7 hH;have hlen:its.toArray.size*k.toNat<=sizeLine:=by rw[size_toArray,←hl];exact hz
 have hcap:¬its.toArray.size*k.toNat>(2^63 - 1)/8:=by
  have:(sizeLine:Nat)<=(2^63 - 1)/8:=by decide
  omega
 have hfit:¬(!Builtin.List.listFitsIndex k)=true:=by rw[fitsIndex_both h1 h2];exact Bool.false_ne_true
 have ahK:¬Builtin.List.listTooLong (its.toArray.size*k.toNat)=true:=by rw[Zx hlen];exact Bool.false_ne_true
 have hnew:foldl (λx1 x2=>x1++x2) #[] (replicate (if its.toArray.isEmpty=true then 0 else k.toNat) its.toArray)=(replicate k.toNat its).flatten.toArray:=by
  have f0:∀m:Nat,foldl (λx1 x2=>x1++x2) #[] (replicate m its.toArray)=(replicate m its).flatten.toArray:=λm=>by have:=foldl_rep its m [];rw[nil_append] at this;exact this
  rw[f0];cases its with
  |nil=>simp
  |cons a r'=>rw[if_neg<|by simp]
 refine wpAny_binaryOp_repeat_ref (T:="list") (U:="int") (by decide) ⟨_,e,rfl⟩ (λs'=>typeIs_int s' k t) noFill_list_mul F.fills_int_mul F.slot_int_rmul repeat_list F.slot_int_index.lookup
  (call_meets F.slot_int_rmul (typeIs_int s k t) F.entry_int_rmul (F.args_int_rmul_2 _ _) (int___rmul___int_list k t l its.toArray n)
   ⟨e,rfl,⟨_,e,rfl⟩,call_meets F.slot_list_mul ⟨_,e,rfl⟩ F.entry_list_mul (F.args_list_mul_2 _ _) (AutoListH.list___mul___list_int_3 l its.toArray n k t hfit hcap ahK) ⟨e,?_⟩⟩)
 rw[hnew];exact⟨.ref _,_,I.Zw (t':=s.toks) (r.rep k.toNat) (by rw[len_rep,Nat.mul_comm];exact hz),rfl,q _ I.fresh⟩
end
section
variable {s:Shared}
end
section
end
end L2
namespace Att
open PySem.W PySem.Calls PyProof.Rows
theorem Dz {P:Params}{h:Heap}:∀(ns:List Int) (vs:List Value),WellAll P h vs (ns.map WData.int)->IntsAre vs ns:=by
 intro ns;induction ns with
 |nil=>
  intro vs w;rw[map_nil] at w;cases w;exact .nil
 |cons n ns ih=>
  intro vs w;rw[map_cons] at w;cases w with
  |cons a b=>cases a;exact .cons _ _<|ih _ b
theorem Wj {l:OpenLaw}{n:Nat}(hn:l.most=some n){P:Params}{h:Heap}{args:List WData}{vals:List Value}
  (hpre:l.row.toRowW.claim.pre args=true)(hwl:WellAll P h vals args):
  ∃a vs ns,vals=[Value.ref a]/\args=[WData.list<|ns.map WData.int]/\h.get? a=some {cls:=.type "list",data:=.seq vs.toArray}/\IntsAre vs ns/\ns.length<=n:=by
 have hsh:WShape.hasAll [] args [.list .int]=true:=(pre_splitW hpre).1;have hc:l.pre.holds [] {args:=args}=true:=(pre_splitW hpre).2;obtain⟨d,r,rfl,h1,h2⟩:=hasAllW_cons hsh;obtain rfl:=hasAllW_nil h2;obtain⟨xs,rfl,h3⟩:=hasW_list h1;obtain⟨ns,rfl⟩:=items_int h3;have hlen:ns.length<=n:=by
  unfold OpenLaw.pre at hc;have h4:(WTm.not<|.lt (.lit<|.int (n:Int))<|.len<|.arg 0).holds [] {args:=[.list<|ns.map .int]}=true:=by have h4:=(holds_andW hc).1;rw[hn] at h4;exact h4
  have h5:=condW_of h4<|w_not<|w_lt w_lit<|w_len_list<|w_arg rfl;rw[length_map] at h5;refine Nat.le_of_not_lt λq=>?_;have q':(n:Int)<((ns.length:Nat):Int):=by omega
  first
   |(rw[decide_eq_true q'] at h5;exact absurd h5<|by decide)
   |(simp at h5;omega)
 cases hwl with
 |cons w1 w2=>
  cases w2;cases w1 with
  |list ho hall=>exact⟨_,_,ns,rfl,rfl,ho,Dz ns _ hall,hlen⟩
theorem Wm (l:OpenLaw)(args:List WData):l.row.toRowW.claim.post args (.bool true) args=true:=
 postW_of (r:=l.row.toRowW) (X:=(true==true))
  (show WShape.has [] (.bool true) .bool=true by first|rfl|decide|simp[WShape.has,WShape.arms,WShape.armsAll])
  (show(WTm.eq .res<|.lit<|.bool true).value [] {args:=args,res:=some<|.bool true,after:=args}=some (.bool<|true==true) from w_eq_bool (w_res rfl) w_lit) rfl
theorem Qf {l:OpenLaw}{n:Nat}{q:Program}{loose:List Str}{XP:(Str->Option Value)->Heap->Prop}{YP:World->Heap->Prop}{d:DefRec}
  (hn:l.most=some n)(hdf:d.params.defaults=[])
  (call:∀(w:World) (s₀ s₁:Shared) (mg mb:Str->Option Value) (fa:Addr) (o:Obj) (pm cd doc:Value) (a:Addr) (vs:List Value) (ns:List Int),
   Ground q loose [] XP w s₀ mg mb s₁.heap->YP w s₁.heap->
   s₁.heap.get? fa=some o->o.data=.func (docDef d.name d.params d.body d.scope pm cd doc)->s₁.heap.CodeRec cd d.name->mg d.name=some (.ref fa)->
   s₁.heap.get? a=some {cls:=.type "list",data:=.seq vs.toArray}->IntsAre vs ns->ns.length<=n->s₁.gens= #[]->
   codeAny (model l.prog w) callerA (.call (.ref fa) ⟨[.ref a],[]⟩) (λr s'=>r=.ok (.ret (.bool true))/\OldK s₁.heap s'.heap/\s'.os=s₁.os/\AllBare s'.gens) s₁):
  WalkO q loose XP YP l.row.toRowW d [] (λf vs=>PySem.call f vs):=by
 intro w s₀ s₁ mg mb G Y fa o pm cd doc dV kV ho hd hcd hD hmg hg args vals as hpre hlay hrd hwl hlo;obtain rfl:dV=.none:=Dflts.none hD hdf;obtain rfl:kV=.none:=Dflts.noKw hD;obtain⟨a,vs,ns,rfl,rfl,hobj,hints,hlen⟩:=Wj hn hpre hwl;refine enter_call<|codeAny_mono (call w s₀ s₁ mg mb fa o pm cd doc a vs ns G Y ho (fd_plain hd) hcd hmg hobj hints hlen hg) λr s' hq=>?_;obtain⟨rfl,h2,h3,h4⟩:=hq;exact⟨.inl ⟨.bool true,.bool true,[],rfl,λ_=>rfl,.bool true,Wm l _,λ_=>⟨List.Pairwise.nil,λ_ hm=>(nomatch hm)⟩⟩,h2,h3,h4⟩
section
variable {K:Frag}
end
end Att
namespace L2
open PyProof.Rows
theorem HJ:∀{vs:List Value}{ns:List Int},IntsAre vs ns->Vals (ns.map V.int) vs
 |_,_,.nil=>.nil
 |_,_,.cons n t h=>.cons ⟨t,rfl⟩<|HJ h
def Only (H:Hp):Prop:=∀b,H b=none\/∃o xs,H b=some (.dU o<|.lst xs)
theorem Zz {P:Program}{w:World}{K:Frag}{mg mb:Str->Option Value}{CX:Bb}{k:Nat}{fa a:Addr}{fd:FuncData}{x:Str}{sp:Sp}{s₁:Shared}{vs:List Value}{ns:List Int}
  (KX:K.In s₁.heap)(hns:s₁.heap.Ns mainGlobals mg)(hb:s₁.heap.Ns builtinsNs mb)(hbb:∀x:Str,x≠"__name__"->mb x=bootBuiltins x)(hlim:s₁.heap.NoLimit)(hg:s₁.gens= #[])
  (ha:s₁.heap.get? a=some {cls:=.type "list",data:=.seq vs.toArray})(hi:IntsAre vs ns)(hl:ns.length<=sizeLine)(hr:dh k callerA)
  (F:∀base:Heap,K.In base->base.Ns mainGlobals mg->aX P w K mg base CX k fa fd [x] sp)(hbind:∀(s:Shared) (u:Value),BindsTo s fd ⟨[u],[]⟩ [(x,u)])
  (hsp:∀H:Hp,Only H->aR K H a (ns.map V.int)->sp [.ref a] H (λv _=>v=.bl true) λ_ _ _=>False)
  (hCX:∀H e s',CX [] H s₁ (λ_ _ _=>False) e s'->False):
  codeAny (model P w) callerA (.call (.ref fa) ⟨[.ref a],[]⟩) (λr s'=>r=.ok (.ret<|.bool true)/\OldK s₁.heap s'.heap/\s'.os=s₁.os/\AllBare s'.gens) s₁:=by
 have rv:=HJ hi;have lenV:=hi.length;have core:∀H:Hp,Only H->aR K H a (ns.map V.int)->iD P w H s₁.heap->(∀b,H b≠none->b=a)->(H a≠none->K.lookup a=none)->
   codeAny (model P w) callerA (.call (.ref fa) ⟨[.ref a],[]⟩) (λr s'=>r=.ok (.ret<|.bool true)/\OldK s₁.heap s'.heap/\s'.os=s₁.os/\AllBare s'.gens) s₁:=by
  intro H hO hS hok hA hK;have QC:∀{b:Addr}{o:Obj},s₁.heap.get? b=some o->H b=none->(vf s₁.heap H).get? b=some o:=λe n=>Y9 e n;have Wg:∀{b:Addr}{o:Obj} {es:Array DictEntry} {ep:Nat},s₁.heap.get? b=some o->o.data=.dict es ep->H b=none:=λ{b o es ep} e d=>by
   cases q:H b with
   |none=>rfl
   |some u=>have e':b=a:=hA b (by rw[q];simp);subst e';rw[ha] at e;cases e;have d':Data.seq vs.toArray _=Data.dict es ep:=d;cases d'
  have nsK:∀{b:Addr}{m:Str->Option Value},s₁.heap.Ns b m->(vf s₁.heap H).Ns b m:=λ{b m} ⟨o,es,ep,e,d,r⟩=>⟨o,es,ep,QC e (Wg e d),d,r⟩;have hKb:K.In (vf s₁.heap H):=λb o e=>QC (KX b o e) (by
   cases q:H b with
   |none=>rfl
   |some u=>
    have e':b=a:=hA b (by rw[q];simp);subst e';rw[hK (by rw[q];simp)] at e;cases e)
  have hM:Mod K mg (vf s₁.heap H):=⟨hKb,nsK hns,⟨mb,nsK hb,hbb⟩,let⟨mc,h1,h2⟩:=hlim;⟨mc,nsK h1,h2⟩⟩;have e0:Cd P w K mg (vf s₁.heap H) callerA [] s₁ H:=⟨rfl,hM,λb o e=>ada e,Nat.le_of_eq<|VD _ _,trivial,λb hb=>absurd (show b∈([]:List Addr) from hb) (by simp),hok,.of_eq hg⟩;refine codeAny_mono ((F _ hKb<|nsK hns).run callerA [] s₁ H ⟨[.ref a],[]⟩ [.ref a] [.ref a] _ _ hr e0 (hbind s₁<|.ref a) (.cons rfl .nil)<|hsp H hO hS) λr s' h=>?_;cases r with
  |error e=>exact(hCX H e s' h).elim
  |ok fl=>
   cases fl with
   |next=>exact False.elim h
   |brk=>exact False.elim h
   |cont=>exact False.elim h
   |ret u=>
    obtain⟨v,H',os,bare,un,hok',r',q⟩:=h;have q':v=.bl true:=q;subst q';obtain rfl:u=Value.bool true:=r';refine⟨rfl,OldK.of_keep λb o e=>?_,os,bare⟩;cases q:H b with
    |none=>exact un.keep b o e q (by intro z;exact absurd (show b∈([]:List Addr) from z) (by simp)) (by simp)
    |some u=>
     rcases hO b with z|⟨ob,xs,z⟩
     .rw[q] at z;cases z
     .have z2:=un.ni b ob _ z;obtain⟨e1,_⟩:=hok b _ z;obtain⟨e2,_⟩:=hok' b _ z2;rw[e] at e1;cases e1;exact e2
 cases hk:K.lookup a with
 |some o=>
  have e:=KX a o hk;rw[ha] at e;cases e;refine core (λ_=>none) (λ_=>.inl rfl) (.inr ⟨_,vs.toArray,_,hk,rfl,rfl,rfl,by rw[size_toArray,lenV];exact hl,by simpa using rv⟩) (λb u z=>by have z':(none:Option HO)=some u:=z;cases z') (λb z=>absurd rfl z) λz=>absurd rfl z
 |none=>
  refine core (λb=>if b=a then some (.dU {cls:=.type "list",data:=.seq vs.toArray}<|.lst<|ns.map V.int) else none) (λb=>?_) (.inl<|.inr ⟨{cls:=.type "list",data:=.seq vs.toArray},if_pos rfl⟩) (λb u z=>?_) (λb z=>?_) λ_=>hk
  .by_cases hb:b=a
   .exact .inr ⟨_,_,if_pos hb⟩
   .exact .inl<|if_neg hb
  .by_cases hb:b=a
   .have z':=(if_pos hb).symm.trans z;cases z';subst hb;exact⟨ha,by rw[length_map];exact hl,vs,_,rv,ha⟩
   .have z':=(if_neg hb).symm.trans z;cases z'
  .by_cases hb:b=a
   .exact hb
   .exact absurd (if_neg hb) z
theorem adt {l:PySem.W.OpenLaw}{n k:Nat}{q:Program}{loose:List Str}{XP:(Str->Option Value)->Heap->Prop}{YP:World->Heap->Prop}{d:DefRec}{K:Params->Frag}{CX:World->Bb}{sp:World->Sp}{x:Str}
  (hn:l.most=some n)(hn2:n<=sizeLine)(hdf:d.params.defaults=[])(hr:dh k callerA)
  (hY:∀(w:World) (h:Heap),YP w h->(K w.params).In h)
  (F:∀(w:World) (mg:Str->Option Value) (fa:Addr) (h:Heap),(K w.params).In h->h.Ns mainGlobals mg->mg d.name=some (.ref fa)->
   ∃fd:FuncData,(∀(s:Shared) (u:Value),BindsTo s fd ⟨[u],[]⟩ [(x,u)])/\
    ∀base:Heap,(K w.params).In base->base.Ns mainGlobals mg->aX l.prog w (K w.params) mg base (CX w) k fa fd [x] (sp w))
  (hsp:∀(w:World) (H:Hp) (a:Addr) (ns:List Int),ns.length<=n->Only H->aR (K w.params) H a (ns.map V.int)->sp w [.ref a] H (λv _=>v=.bl true) λ_ _ _=>False)
  (hCX:∀(w:World) (H:Hp) (s:Shared) (e:Value) (s':Shared),CX w [] H s (λ_ _ _=>False) e s'->False):
  PySem.W.WalkO q loose XP YP l.row.toRowW d [] (λf vs=>PySem.call f vs):=by
 refine Att.Qf hn hdf λw s₀ s₁ mg mb fa o pm cd doc a vs ns G Y ho hd hcd hmg hobj hints hlen hg=>?_;have KX:=hY w _ Y;obtain⟨fd,hb,hF⟩:=F w mg fa _ KX G.T.g hmg;exact Zz KX G.T.g G.T.b G.T.builtins G.T.nolimit hg hobj hints (le_trans hlen hn2) hr hF hb (λH hO hS=>hsp w H a ns hlen hO hS) λH e s'=>hCX w H s₁ e s'
noncomputable def inClass (s:Stmt)(j:Nat):Stmt:=match s with
 |.ClassDef _ _ _ body _ _ _ _ _ _ _=>body.getD j<|.Pass ⟨0,0,0,0⟩
 |_=>.Pass ⟨0,0,0,0⟩
noncomputable def jQ (s:Stmt):Arguments:=match s with
 |.FunctionDef _ a _ _ _ _ _ _ _ _=>a
 |_=>{posonlyargs:=[],args:=[],vararg:=none,kwonlyargs:=[],kw_defaults:=[],kwarg:=none,defaults:=[]}
noncomputable def dj (s:Stmt):List Stmt:=match s with
 |.FunctionDef _ _ b _ _ _ _ _ _ _=>b
 |_=>[]
noncomputable def aN (s:Stmt):Scope:=match s with
 |.FunctionDef _ _ _ _ _ _ sc _ _ _=>sc
 |_=>{kind:=.function,names:=[],isGenerator:=false,isCoroutine:=false}
abbrev bO:Bb:=λ_ _ _ _ _ _=>False
abbrev E0:XK:=λ_ _ _=>False
theorem gW:Passes bO X E0:=λ_ _ _ _ _ _ _ h=>h.elim
structure bJ (K:Frag)(x qual:Str)(st:Stmt)(f:Addr)(fd:FuncData):Prop where
 ex:∃(oc:Value) (od:Option Addr) (kV doc pm:Value) (an:Option Addr) (cdv ct:Value) (osl:Array (Option Value)),
  fd=fnOf x qual (jQ st) (dj st) (aN st) .none kV doc pm an cdv ct/\K.lookup f=some ⟨oc,od,.func fd,osl⟩/\codeIn K cdv qual=true
 kp:keepIn K (.ref f)=true
section
variable {K:Frag}
theorem bJ.ok {x qual:Str}{st:Stmt}{f:Addr}{fd:FuncData}{N ps:List Str}{k:Nat}{sp:Sp}(F:bJ K x qual st f fd)(S:bM N ps (aN st))(len:∀vs H Q E,sp vs H Q E->vs.length=ps.length)
  (hbody:∀(cdv:Value) (A:Around) (outer:List Env) (s:Shared) (H:Hp) (vs:List V) (Q:VK) (E:XK),dh k (A.deeper (envOfC qual (aN st) s.heap.objs.size f cdv))->sp vs H Q E->
   ∃t,iG (qe bO P w K mg base N qual (aN st) f cdv A outer s H E).Ds (dj st) t/\t {nx:=λ_ H'=>Q .non H',rt:=Q} (start N vs) H):aX P w K mg base bO (k+1) f fd ps sp:=by
 obtain⟨oc,od,kV,doc,pm,an,cdv,ct,osl,rfl,lk,hcd⟩:=F.ex;refine ahI lk hcd S len λA outer s H vs Q E hr hsp=>?_;obtain⟨t,h,q⟩:=hbody cdv A outer s H vs Q E hr hsp;exact⟨t,h.Ds,q⟩
theorem bJ.binds {x qual:Str}{st:Stmt}{f:Addr}{fd:FuncData}{ps:List Str}(F:bJ K x qual st f fd)
  (h:∀(kV doc pm:Value) (an:Option Addr) (cdv ct:Value) (us:List Value),us.length=ps.length->bindArgs (fnOf x qual (jQ st) (dj st) (aN st) .none kV doc pm an cdv ct) ⟨us,[]⟩=pure (ps.zip us)):Binds K fd ps []:=by
 obtain⟨oc,od,kV,doc,pm,an,cdv,ct,osl,rfl,lk,hcd⟩:=F.ex;exact .all<|h kV doc pm an cdv ct
theorem Wn {x qual:Str}{st:Stmt}{f:Addr}{oc:Value}{od an:Option Addr}{osl:Array (Option Value)}{kV doc pm cdv ct:Value}(l:K.lookup f=some ⟨oc,od,.func<|fnOf x qual (jQ st) (dj st) (aN st) .none kV doc pm an cdv ct,osl⟩)
  (c:codeIn K cdv qual=true)(k:keepIn K (.ref f)=true):bJ K x qual st f (fnOf x qual (jQ st) (dj st) (aN st) .none kV doc pm an cdv ct):=⟨⟨oc,od,kV,doc,pm,an,cdv,ct,osl,rfl,l,c⟩,k⟩
end
theorem jl (hr:dh k A):A.units+1<cLine:=Nat.lt_of_le_of_lt (Nat.add_le_add_left (by decide:1<=64) _) hr.units
theorem HN (h:n<=1000):n<sizeLine:=Nat.lt_of_le_of_lt h<|by decide
section
end
def Same (H H':Hp):Prop:=∀b o,H b=some o->H' b=some o
theorem Same.refl (H:Hp):Same H H:=λ_ _ h=>h
theorem Same.trans (a:Same H H1)(b:Same H1 H2):Same H H2:=λc o h=>b c o<|a c o h
theorem Same.free (e:Same H H')(h:H' l=Option.none):H l=Option.none:=by
 cases q:H l with
 |none=>rfl
 |some o=>rw[e l o q] at h;cases h
theorem Same.seq {K:Frag}{H H':Hp}{a:Addr}{xs:List V}(e:Same H H')(h:aR K H a xs):aR K H' a xs:=by
 rcases h with(h|⟨o,h⟩)|h
 .exact .inl<|.inl<|e _ _ h
 .exact .inl<|.inr ⟨o,e _ _ h⟩
 .exact .inr h
theorem PE.imp (h:PE X e t)(ht:∀σ H Q,t' σ H Q->t σ H Q):PE X e t':=λpins s σ H Q I q=>h pins s σ H Q I<|ht σ H Q q
section
variable {h':Heap}
theorem Inv.turns {fp:List Addr}{t':Nat}(I:Inv X pins σ H s)(k:∀b o,b∉fp->s.heap.get? b=some o->h'.get? b=some o)(hf:∀b∈fp,oH X pins H b):Inv X pins σ H {s with heap:=h',toks:=t'}:=by
 have Hj:∀b u,H b=some u->b∉fp:=λb u e z=>by rw[(hf b z).1] at e;cases e
 refine I.step (λb hb=>⟨(hf b hb).2.2.2.1,(hf b hb).2.1,(hf b hb).2.2.2.2.1,(hf b hb).2.2.2.2.2⟩) (λb o _ _ hc e _=>k b o hc e) (λb o _ _ hc e _=>⟨o.slots,k b o hc e⟩) (λ_ _ _ _ n=>n)
  (λb o hc e=>⟨o,k b o hc e⟩) (λ_ _ e=>e) (λ_ _ _ e=>e) (λb ps e=>⟨#[],by rw[e];simp⟩) (λm hm=>?_) (λb u e=>?_) I.bare
 .obtain⟨o,es,ep,ho,r⟩:=hm;exact⟨o,es,ep,k _ o (λz=>(hf _ z).2.1 rfl) ho,r⟩
 .refine(I.hok b u e).stay (λc v hc q=>k c v ?_ q) (λ_ q=>q) λ_ _ q=>q;rcases hc with z|z
  .rw[z];exact Hj b u e
  .exact Hj c _ z
theorem Inv.Gh {fp:List Addr}{T:Addr}{o:HO}{t':Nat}(I:Inv X pins σ H s)(k:∀b o,b∉fp->s.heap.get? b=some o->h'.get? b=some o)(hf:∀b∈fp,oH X pins H b)(hT:s.heap.objs.size<=T)
  (new:eY X.prog X.w (upd H T o) h' T o):Inv X pins σ (upd H T o) {s with heap:=h',toks:=t'}:=by
 have hn:=I.hok.fresh hT;have Hj:∀b u,H b=some u->b∉fp:=λb u e z=>by rw[(hf b z).1] at e;cases e
 have neT:∀{b:Addr}{u:Obj},s.heap.get? b=some u->b≠T:=λe=>ne_of_lt<|lt_of_lt_of_le (lt_size e) hT;refine I.step (λb hb=>⟨(hf b hb).2.2.2.1,(hf b hb).2.1,(hf b hb).2.2.2.2.1,(hf b hb).2.2.2.2.2⟩) (λb o _ _ hc e _=>k b o hc e) (λb o _ _ hc e _=>⟨o.slots,k b o hc e⟩)
  (λb o _ e n=>by rw[ak<|neT e];exact n)
  (λb o hc e=>⟨o,k b o hc e⟩) (λb xs e=>by rw[ak<|aU e hn];exact e) (λb _ _ e=>by rw[ak<|aU e hn];exact e) (λb ps e=>⟨#[],by rw[ak<|aU e hn,e];simp⟩) (λm hm=>?_) (λb u e=>?_) I.bare
 .obtain⟨o,es,ep,ho,r⟩:=hm;exact⟨o,es,ep,k _ o (λz=>(hf _ z).2.1 rfl) ho,r⟩
 .by_cases hb:b=T
  .subst hb;rw[ao] at e;cases e;exact new
  .rw[ak hb] at e;refine(I.hok b u e).stay (λc v hc q=>k c v ?_ q) (λc q=>by rw[ak<|aU q hn];exact q) λc xs q=>by rw[ak<|aU q hn];exact q
   rcases hc with z|z
   .rw[z];exact Hj b u e
   .exact Hj c _ z
end
def Ite (K:Frag)(a:Addr):It:=
  ⟨λi H=>∃xs x,aR K H a xs/\xs[i]? =some x,
   λi H v H'=>∃p x,H p=none/\v=.ref p/\(∀xs,aR K H a xs->xs[i]? =some x)/\H'=upd H p (.tup [.int (i:Int),x]),
   λi H=>∃xs,aR K H a xs/\xs.length<=i⟩
theorem Wo {P:Program}{w:World}{K:Frag}{elts:List Expr}{k:Nat}{pos:Pos}(a e it:Addr)(hei:e≠it):
  Turn P w K (.Tuple elts k pos) (Ite K a) [e,it] e (λi h=>(∃old,IsEnum h e it (i:Nat) old)/\h.IsListIter it a i) where
 mem:=by simp
 obj:=λi h st b hb=>by
  obtain⟨⟨old,he⟩,⟨o,e1,c,d⟩⟩:=st;rcases mem_cons.mp hb with rfl|hb
  .exact⟨_,he,λv z=>by have z':Data.fields _=Data.cell v:=z;cases z'⟩
  .rw[mem_singleton.mp hb];exact⟨o,e1,λv z=>by rw[d] at z;cases z⟩
 keep:=λi h h' st k=>by obtain⟨⟨old,he⟩,st⟩:=st;exact⟨⟨old,k e (by simp) _ he⟩,st.at λo e=>k it (by simp) o e⟩
 item:=by
  intro X hP hw hK hc i pins s σ H E I hf st hg;subst hP hw hK;obtain⟨⟨old,he⟩,hit⟩:=st;obtain⟨xs,x,hq,hx⟩:=hg;obtain⟨its,rv,p,hz⟩:=I.list hq;obtain⟨u,hu,ru⟩:=rv.get hx;refine wpAny_pyNext_enum_item he hit p.isList (x:=u) (by simpa using hu) hei λh' ho hit' hT hsz hk=>?_;refine⟨_,rfl,wpAny_letOwnedTupleGo_enum ho λh2 he2 hs2=>?_⟩;have hlt:e<s.heap.objs.size:=lt_size he;have hT2:h2.get? s.heap.objs.size=some {cls:=.type "tuple",data:=.seq #[.int i s.toks,u]}:=(hs2.2 _<|ne_of_gt hlt).trans hT;refine⟨.ref s.heap.objs.size,upd H s.heap.objs.size<|.tup [.int (i:Int),x],?_,rfl,⟨_,x,I.hok.fresh<|le_refl _,rfl,λys hy=>by rw[I.vh hy hq];exact hx,rfl⟩,⟨⟨u,by simpa using he2⟩,hit'.at λo y=>(hs2.2 it hei.symm).trans y⟩,λb hb=>?_⟩
  .refine I.Gh (fp:=[e,it]) (λb o hb q=>?_) hf (le_refl _) ⟨by show 2<=sizeLine;decide,[.int i s.toks,u],.cons ⟨_,rfl⟩<|.cons ru .nil,⟨_,hT2,rfl,_,rfl⟩⟩;have h1:b≠e:=λz=>hb (by simp[z]);have h2':b≠it:=λz=>hb (by simp[z]);exact(hs2.2 b h1).trans<|hk b o h1 h2' q
  .have hne:b≠s.heap.objs.size:=by
    rcases mem_cons.mp hb with rfl|hb
    .exact ne_of_lt hlt
    .rw[mem_singleton.mp hb];obtain⟨_,y,_⟩:=hit;exact ne_of_lt<|lt_size y
   rw[ak hne];exact(hf b hb).1
 done:=by intro X hP hw hK hc i pins s σ H E I hf st hg;subst hP hw hK;obtain⟨⟨old,he⟩,hit⟩:=st;obtain⟨xs,hq,hx⟩:=hg;obtain⟨its,rv,p,hz⟩:=I.list hq;have hl:=rv.length;refine wpAny_pyNext_enum_end (I.ok.hd hc) he hit p.isList (by simp;omega) λh' eb=>⟨rfl,I.turns (t':=s.toks) (fp:=[e,it]) (λb o hb q=>eb b o (λz=>hb<|by simp[z]) q) hf⟩
 self:=λ_ _ _ _ _ st h=>by obtain⟨⟨old,he⟩,_⟩:=st;exact wpAny_pyIter_enum he h
section
def TY (K:Frag)(ta:TA):TI:=λσ H R=>ta σ H λvs H1=>∃a,vs=[.ref a]/\(∃xs,aR K H1 a xs)/\R (Ite K a) H1
theorem QD {tpos:Pos}(hg:Gl X "enumerate")(hm:X.mg "enumerate"=none)(ha:PA X [l] ta)(hs:starEach [l] X.env=[(false,eval l X.env)]:=by rfl):
  PI X (.Tuple elts k tpos) (.Call (.Name "enumerate" p) [l] [] pos) (TY X.K ta):=by
 intro pins s σ H R I h;refine Call_<|pG I hg hm boot_enumerate<|PyProof.Rows.callWith_type1 (aV (ha pos pins s σ H _ I h) λus s1 ⟨vs,H1,I1,r1,q1⟩=>?_) hs rfl;obtain⟨a,e,⟨xs,hq⟩,q⟩:=q1;subst e;cases r1 with
 |cons r rr=>
  cases rr;cases r;obtain⟨its,rv,pl,hz⟩:=I1.list hq;refine call_enumerate_list pl.isList λh' hE hI hsz hk=>?_;refine wpAny_pyIter_enum hE ?_;have hne:s1.heap.objs.size+1≠s1.heap.objs.size:=Nat.succ_ne_self _;refine⟨_,[s1.heap.objs.size+1,s1.heap.objs.size],_,_,H1,rfl,I1.kept hk,Wo a _ s1.heap.objs.size hne,⟨⟨.none,hE⟩,hI⟩,λb hb=>?_,q⟩;have hb':s1.heap.objs.size<=b:=by
   rcases mem_cons.mp hb with rfl|hb
   .exact le_succ _
   .rw[mem_singleton.mp hb];exact le_refl _
  exact I1.xX hb'<|I1.hok.fresh hb'
end
def Itz (K:Frag)(a b:Addr):It:=
  ⟨λi H=>∃xs x ys y,aR K H a xs/\xs[i]? =some x/\aR K H b ys/\ys[i]? =some y,
   λi H v H'=>∃p x y,H p=none/\v=.ref p/\(∀xs,aR K H a xs->xs[i]? =some x)/\(∀ys,aR K H b ys->ys[i]? =some y)/\H'=upd H p (.tup [x,y]),
   λi H=>∃xs ys,aR K H a xs/\aR K H b ys/\(xs.length<=i\/ys.length<=i)⟩
structure K8 (z TI TO i1 i2:Addr):Prop where
 TIz:TI≠z
 TOz:TO≠z
 i1z:i1≠z
 i2z:i2≠z
 TITO:TI≠TO
 TIi1:TI≠i1
 TIi2:TI≠i2
 TOi1:TO≠i1
 TOi2:TO≠i2
 i12:i1≠i2
def abC (z TI TO i1 i2 a b:Addr)(i:Nat)(h:Heap):Prop:=
 IsZip h z TI TO .none/\IsPair h TI (.ref i1) (.ref i2)/\(∃c d,IsPair h TO c d)/\h.IsListIter i1 a i/\h.IsListIter i2 b i
theorem HS {h:Heap}{z TI TO i1 i2 a b:Addr}{i:Nat}{xs ys:Array Value}(D:K8 z TI TO i1 i2)(st:abC z TI TO i1 i2 a b i h)(ha:h.IsList a xs)(hb:h.IsList b ys):ZipApart z TI TO i1 i2 a b:=by
 obtain⟨hz,hTI,⟨c,d,hTO⟩,⟨o1,e1,c1,_⟩,⟨o2,e2,c2,_⟩⟩:=st;obtain⟨oa,ea,ca,_⟩:=ha;obtain⟨ob,eb,cb,_⟩:=hb;have nz:∀{l:Addr}{o:Obj},h.get? l=some o->o.cls=.type "list"->l≠z:=λe c q=>by subst q;rw[hz] at e;cases e;simp at c
 have nT:∀{l:Addr}{o:Obj},h.get? l=some o->o.cls=.type "list"->l≠TO:=λe c q=>by subst q;rw[hTO] at e;cases e;simp at c
 have n1:∀{l:Addr}{o:Obj},h.get? l=some o->o.cls=.type "list"->l≠i1:=λe c q=>by subst q;rw[e1] at e;cases e;rw[c1] at c;simp at c
 have n2:∀{l:Addr}{o:Obj},h.get? l=some o->o.cls=.type "list"->l≠i2:=λe c q=>by subst q;rw[e2] at e;cases e;rw[c2] at c;simp at c
 exact⟨D.TIz,D.TOz,D.i1z,D.i2z,D.TITO,D.TIi1,D.TIi2,D.TOi1,D.TOi2,D.i12,nz ea ca,nT ea ca,n1 ea ca,n2 ea ca,nz eb cb,nT eb cb,n1 eb cb,n2 eb cb⟩
theorem ZC {P:Program}{w:World}{K:Frag}{elts:List Expr}{k:Nat}{pos:Pos}(a b z TI TO i1 i2:Addr)(D:K8 z TI TO i1 i2):
  Turn P w K (.Tuple elts k pos) (Itz K a b) [z,TI,TO,i1,i2] z (abC z TI TO i1 i2 a b) where
 mem:=by simp
 obj:=λi h st c hc=>by
  obtain⟨hz,hTI,⟨c1,d1,hTO⟩,⟨o1,e1,_,g1⟩,⟨o2,e2,_,g2⟩⟩:=st;simp only[mem_cons,not_mem_nil,or_false] at hc;rcases hc with rfl|rfl|rfl|rfl|rfl
  .exact⟨_,hz,λv q=>by have q':Data.fields _=Data.cell v:=q;cases q'⟩
  .exact⟨_,hTI,λv q=>by have q':Data.seq _ _=Data.cell v:=q;cases q'⟩
  .exact⟨_,hTO,λv q=>by have q':Data.seq _ _=Data.cell v:=q;cases q'⟩
  .exact⟨o1,e1,λv q=>by rw[g1] at q;cases q⟩
  .exact⟨o2,e2,λv q=>by rw[g2] at q;cases q⟩
 keep:=λi h h' st k=>by obtain⟨hz,hTI,⟨c1,d1,hTO⟩,h1,h2⟩:=st;exact⟨k z (by simp) _ hz,k TI (by simp) _ hTI,⟨c1,d1,k TO (by simp) _ hTO⟩,h1.at λo e=>k i1 (by simp) o e,h2.at λo e=>k i2 (by simp) o e⟩
 item:=by
  intro X hP hw hK hc i pins s σ H E I hf st hg;subst hP hw hK;obtain⟨xs,x,ys,y,hq,hx,hq2,hy⟩:=hg;obtain⟨its,rv,p,hz⟩:=I.list hq;obtain⟨u,hu,ru⟩:=rv.get hx;obtain⟨its2,K9,p2,hz2⟩:=I.list hq2;obtain⟨u2,hu2,ru2⟩:=K9.get hy;have DA:=HS D st p.isList p2.isList;obtain⟨sz,Wq,⟨c1,d1,sTO⟩,s1,s2⟩:=st;refine wpAny_pyNext_zip_item DA sz Wq sTO s1 s2 p.isList p2.isList (x:=u) (y:=u2) (by simpa using hu) (by simpa using hu2) λh' a1 a2 a3 a4 a5 a6 hk=>?_;refine⟨_,rfl,wpAny_letOwnedTupleGo_zip a1 λh2 he2 hs2=>?_⟩;have lt:∀{c:Addr}{o:Obj},s.heap.get? c=some o->c≠s.heap.objs.size:=λe=>ne_of_lt (lt_size e);have hT2:IsPair h2 s.heap.objs.size u u2:=(hs2.2 _ (lt sz).symm).trans a5;have ajU:=hk _ _ DA.TIz DA.TITO DA.TIi1 DA.TIi2 Wq;refine⟨.ref s.heap.objs.size,upd H s.heap.objs.size (.tup [x,y]),?_,rfl,⟨_,x,y,I.hok.fresh (le_refl _),rfl,λzs hz=>by rw[I.vh hz hq];exact hx,λzs hz=>by rw[I.vh hz hq2];exact hy,rfl⟩,
   ⟨he2,(hs2.2 _ DA.TIz).trans ajU,⟨u,u2,(hs2.2 _ DA.TOz).trans a2⟩,a3.at λo q=>(hs2.2 i1 DA.i1z).trans q,a4.at λo q=>(hs2.2 i2 DA.i2z).trans q⟩,λc hc=>?_⟩
  .refine I.Gh (fp:=[z,TI,TO,i1,i2]) (t':=s.toks) (λc o hc q=>?_) hf (le_refl _) ⟨by show 2<=sizeLine;decide,[u,u2],.cons ru<|.cons ru2 .nil,⟨_,hT2,rfl,_,rfl⟩⟩;simp only[mem_cons,not_mem_nil,or_false,not_or] at hc;obtain⟨n1,n2,n3,n4,n5⟩:=hc;exact(hs2.2 c n1).trans<|hk c o n1 n3 n4 n5 q
  .have hne:c≠s.heap.objs.size:=by
    simp only[mem_cons,not_mem_nil,or_false] at hc;obtain⟨_,e1,_⟩:=s1;obtain⟨_,e2,_⟩:=s2;rcases hc with rfl|rfl|rfl|rfl|rfl
    .exact lt sz
    .exact lt Wq
    .exact lt sTO
    .exact lt e1
    .exact lt e2
   rw[ak hne];exact(hf c hc).1
 done:=by intro X hP hw hK hc i pins s σ H E I hf st hg;subst hP hw hK;obtain⟨xs,ys,hq,hq2,hx⟩:=hg;obtain⟨its,rv,p,hz⟩:=I.list hq;obtain⟨its2,K9,p2,hz2⟩:=I.list hq2;have hl:=rv.length;have hl2:=K9.length;have DA:=HS D st p.isList p2.isList;obtain⟨sz,Wq,⟨c1,d1,sTO⟩,s1,s2⟩:=st;refine wpAny_pyNext_zip_end (I.ok.hd hc) DA sz Wq sTO s1 s2 p.isList p2.isList (by rcases hx with q|q;exact .inl (by simp;omega);exact .inr (by simp;omega)) λh' hk=>⟨rfl,I.turns (t':=s.toks) (fp:=[z,TI,TO,i1,i2]) (λc o hc q=>?_) hf⟩;simp only[mem_cons,not_mem_nil,or_false,not_or] at hc;obtain⟨n1,n2,n3,n4,n5⟩:=hc;exact hk c o n1 n3 n4 n5 q
 self:=λ_ _ _ _ _ st h=>wpAny_pyIter_zip st.1 h
section
def ae6 (K:Frag)(ta:TA):TI:=λσ H R=>ta σ H λvs H1=>∃a b,vs=[.ref a,.ref b]/\(∃xs,aR K H1 a xs)/\(∃ys,aR K H1 b ys)/\R (Itz K a b) H1
theorem ae7 {tpos:Pos}(hg:Gl X "zip")(hm:X.mg "zip"=none)(ha:PA X [l,l2] ta)(hs:starEach [l,l2] X.env=[(false,eval l X.env),(false,eval l2 X.env)]:=by rfl)(hs2:starEach [l2] X.env=[(false,eval l2 X.env)]:=by rfl):
  PI X (.Tuple elts k tpos) (.Call (.Name "zip" p) [l,l2] [] pos) (ae6 X.K ta):=by
 intro pins s σ H R I h;refine Call_ (pG I hg hm boot_zip (PyProof.Rows.callWith_type1 (aV (ha pos pins s σ H _ I h) λus s1 ⟨vs,H1,I1,r1,q1⟩=>?_) (by rw[hs,hs2]) (by rw[hs2];rfl)));obtain⟨a,b,e,⟨xs,hq⟩,⟨ys,hq2⟩,q⟩:=q1;subst e;cases r1 with
 |cons r rr=>
  cases rr with
  |cons r2 rr=>
   cases rr;cases r;cases r2;obtain⟨its,rv,pl,hz⟩:=I1.list hq;obtain⟨its2,K9,La,hz2⟩:=I1.list hq2;refine call_zip_2 pl.isList La.isList λh' g1 g2 g3 g4 g5 hsz hk=>?_;refine wpAny_pyIter_zip g1 ?_;have D:K8 (s1.heap.objs.size+4) (s1.heap.objs.size+2) (s1.heap.objs.size+3) s1.heap.objs.size (s1.heap.objs.size+1):=by have e:∀n:Nat,(n)=n:=λ_=>rfl;constructor<;>(intro z;have z':=congrArg (λx:Nat=>x) z;simp at z')
   refine⟨_,[s1.heap.objs.size+4,s1.heap.objs.size+2,s1.heap.objs.size+3,s1.heap.objs.size,s1.heap.objs.size+1],_,_,H1,rfl,I1.kept hk,ZC a b _ _ _ _ _ D,⟨g1,g2,⟨_,_,g3⟩,g4,g5⟩,λc hc=>?_,q⟩;have hb':s1.heap.objs.size<=c:=by
    simp only[mem_cons,not_mem_nil,or_false] at hc;rcases hc with rfl|rfl|rfl|rfl|rfl
    .exact le_add_right _ _
    .exact le_add_right _ _
    .exact le_add_right _ _
    .exact le_refl _
    .exact le_add_right _ _
   exact I1.xX hb'<|I1.hok.fresh hb'
end
theorem vA:∀(names:List (Str×NameKind)) (acc:List (Str×Addr)),(∀y∈names,y.2=.free->∃c,env.cells.lookup y.1=some c)->(∀x c,acc.lookup x=some c->env.cells.lookup x=some c)->
  ∃cl:List (Str×Addr),(forIn names acc λ(x:Str×NameKind) (r:List (Str×Addr))=>(match x with|(name,kind)=>if(kind==NameKind.free)=true then do let c<-cellOf env name;pure (ForInStep.yield ((name,c)::r)) else pure (ForInStep.yield r):Sem (ForInStep<|List<|Str×Addr)):Sem (List<|Str×Addr))=pure cl/\
   (∀x c,cl.lookup x=some c->env.cells.lookup x=some c)/\(∀x,(x,NameKind.free)∈names->∃c,cl.lookup x=some c)/\∀x c,acc.lookup x=some c->∃c',cl.lookup x=some c'
 |[],acc,_,ha=>⟨acc,rfl,ha,λ_ h=>(nomatch h),λx c h=>⟨c,h⟩⟩
 |(n,k)::r,acc,hf,ha=>by
  by_cases hk:k=.free
  .subst hk;obtain⟨c,hc⟩:=hf (n,.free) mem_cons_self rfl;have ha':∀x c',((n,c)::acc).lookup x=some c'->env.cells.lookup x=some c':=λx c' h=>by
    rw[lookup_cons] at h;cases hx:x==n with
    |true=>
     rw[hx] at h;cases h;rw[eq_of_beq hx];exact hc
    |false=>rw[hx] at h;exact ha x c' h
   obtain⟨cl,e,h1,h2,h3⟩:=vA r ((n,c)::acc) (λy hy=>hf y<|mem_cons_of_mem _ hy) ha';refine⟨cl,?_,h1,λx hx=>?_,λx c' hx=>?_⟩
   .rw[forIn_cons];have ec:cellOf env n=pure c:=by unfold cellOf;rw[hc]
    simp only[beq_self_eq_true,if_true,ec];exact e
   .rcases mem_cons.mp hx with z|z
    .cases z;exact h3 n c<|by rw[lookup_cons,beq_self_eq_true]
    .exact h2 x z
   .by_cases hxn:(x==n)=true
    .exact h3 x c<|by rw[lookup_cons,hxn]
    .exact h3 x c' (by rw[lookup_cons];simp only[hxn];exact hx)
  .obtain⟨cl,e,h1,h2,h3⟩:=vA r acc (λy hy=>hf y<|mem_cons_of_mem _ hy) ha;refine⟨cl,?_,h1,λx hx=>?_,h3⟩
   .rw[forIn_cons];have eb:(k==NameKind.free)=false:=by simpa using hk
    simp only[eb,false_eq_true,if_false];exact e
   .rcases mem_cons.mp hx with z|z
    .cases z;exact absurd rfl hk
    .exact h2 x z
theorem Jz (hf:∀y∈scope.names,y.2=.free->∃c,env.cells.lookup y.1=some c):
  ∃cl:List (Str×Addr),closureFor scope env=pure cl/\(∀x c,cl.lookup x=some c->env.cells.lookup x=some c)/\∀x,(x,NameKind.free)∈scope.names->∃c,cl.lookup x=some c:=by
 obtain⟨cl,e,h1,h2,_⟩:=vA scope.names [] hf (λx c h=>by simp at h);refine⟨cl,?_,h1,h2⟩;refine Eq.trans (congrArg (λq=>q>>= λc=>pure c) e) ?_;rfl
theorem q9 {scope:Scope}{env:Env}:∀{names:List (Str×NameKind)},(names.map λ(n,k)=>if(k==NameKind.free && env.scope.kind==.function && env.kindOf n==some .cell) then(n,NameKind.cell) else(n,k)).lookup x=some k->
  ∃k',(x,k')∈names/\(k=k'\/(k'=.free/\k=.cell))
 |[],h=>by simp at h
 |(n,j)::r,h=>by
  have h':List.lookup x ((if(j==NameKind.free && env.scope.kind==.function && env.kindOf n==some .cell)=true then(n,NameKind.cell) else(n,j))::(r.map λ(n,k)=>if(k==NameKind.free && env.scope.kind==.function && env.kindOf n==some .cell) then(n,NameKind.cell) else(n,k)))=some k:=h;by_cases hc:(j==NameKind.free && env.scope.kind==.function && env.kindOf n==some .cell)=true
  .rw[if_pos hc,lookup_cons] at h';cases hx:x==n with
   |true=>
    rw[hx] at h';cases h';have ej:j=.free:=by simp only[and_eq_true] at hc;exact eq_of_beq hc.1.1
    rw[eq_of_beq hx];exact⟨.free,by rw[ej];exact mem_cons_self,.inr ⟨rfl,rfl⟩⟩
   |false=>rw[hx] at h';obtain⟨k',hm,q⟩:=q9 (scope:=scope) (env:=env) (names:=r) h';exact⟨k',mem_cons_of_mem _ hm,q⟩
  .rw[if_neg hc,lookup_cons] at h';cases hx:x==n with
   |true=>
    rw[hx] at h';cases h';rw[eq_of_beq hx];exact⟨_,mem_cons_self,.inl rfl⟩
   |false=>rw[hx] at h';obtain⟨k',hm,q⟩:=q9 (scope:=scope) (env:=env) (names:=r) h';exact⟨k',mem_cons_of_mem _ hm,q⟩
theorem rA {env:Env}{x:Str}:∀{names:List (Str×NameKind)},names.lookup x=some .free->
  (names.map λ(n,k)=>if(k==NameKind.free && env.scope.kind==.function && env.kindOf n==some .cell) then(n,NameKind.cell) else(n,k)).lookup x=some .cell\/
  (names.map λ(n,k)=>if(k==NameKind.free && env.scope.kind==.function && env.kindOf n==some .cell) then(n,NameKind.cell) else(n,k)).lookup x=some .free
 |[],h=>by simp at h
 |(n,j)::r,h=>by
  have ih:=@rA env x r;show List.lookup x ((if(j==NameKind.free && env.scope.kind==.function && env.kindOf n==some .cell)=true then(n,NameKind.cell) else(n,j))::_)=_\/List.lookup x ((if(j==NameKind.free && env.scope.kind==.function && env.kindOf n==some .cell)=true then(n,NameKind.cell) else(n,j))::_)=_;by_cases hc:(j==NameKind.free && env.scope.kind==.function && env.kindOf n==some .cell)=true
  .rw[if_pos hc,lookup_cons];cases hx:x==n with
   |true=>exact .inl rfl
   |false=>rw[lookup_cons,hx] at h;exact ih h
  .rw[if_neg hc,lookup_cons];cases hx:x==n with
   |true=>rw[lookup_cons,hx] at h;exact .inr h
   |false=>rw[lookup_cons,hx] at h;exact ih h
noncomputable def qj (N:List Str)(sc scope:Scope):List Str->List (Option Nat)->Bool
 |[],[]=>true
 |_::xs,none::cs=>qj N sc scope xs cs
 |x::xs,some j::cs=>(match N[j]? with|some y=>y==x|none=>false) && (match sc.names.lookup x with|some .cell=>true|some .free=>true|_=>false) &&
  (match scope.names.lookup x with|some .free=>true|_=>false) && qj N sc scope xs cs
 |_,_=>false
theorem vD:∀{xs:List Str}{cs:List (Option Nat)},qj N sc scope xs cs=true->cs.length=xs.length
 |[],[],_=>rfl
 |_::xs,none::cs,h=>congrArg (· +1)<|vD (xs:=xs) (cs:=cs) h
 |x::xs,some j::cs,h=>by simp only[qj,and_eq_true] at h;exact congrArg (· +1)<|vD (xs:=xs) (cs:=cs) h.2
 |[],_::_,h=>by simp[qj] at h
 |_::_,[],h=>by simp[qj] at h
theorem Gi:∀{xs:List Str}{cs:List (Option Nat)},qj N sc scope xs cs=true->∀(i:Nat) (x:Str) (j:Nat),xs[i]? =some x->cs[i]? =some (some j)->
  N[j]? =some x/\(sc.names.lookup x=some .cell\/sc.names.lookup x=some .free)/\scope.names.lookup x=some .free
 |[],[],_,i,x,j,h,_=>by simp at h
 |_::xs,none::cs,h,0,x,j,_,h2=>by simp at h2
 |_::xs,none::cs,h,i+1,x,j,h1,h2=>Gi (xs:=xs) (cs:=cs) h i x j (by simpa using h1) (by simpa using h2)
 |y::xs,some k::cs,h,0,x,j,h1,h2=>by
  simp only[qj,and_eq_true] at h;obtain⟨⟨⟨a,b⟩,c⟩,_⟩:=h;have e1:y=x:=by simpa using h1
  have e2:k=j:=by simpa using h2
  subst e1 e2;refine⟨?_,?_,?_⟩
  .cases q:N[k]? with
   |none=>rw[q] at a;simp at a
   |some z=>rw[q] at a;rw[eq_of_beq a]
  .cases q:sc.names.lookup y with
   |none=>rw[q] at b;simp at b
   |some z=>rw[q] at b;cases z<;>first|exact .inl rfl|exact .inr rfl|simp at b
  .cases q:scope.names.lookup y with
   |none=>rw[q] at c;simp at c
   |some z=>rw[q] at c;cases z<;>first|rfl|simp at c
 |y::xs,some k::cs,h,i+1,x,j,h1,h2=>by simp only[qj,and_eq_true] at h;exact Gi (xs:=xs) (cs:=cs) h.2 i x j (by simpa using h1) (by simpa using h2)
 |[],_::_,h,_,_,_,_,_=>by simp[qj] at h
 |_::_,[],h,_,_,_,_,_=>by simp[qj] at h
def qy (N:List Str)(sc scope:Scope)(N':List Str)(cap:List (Option Nat)):Bool:=
 qj N sc scope N' cap && (scope.kind==.function) && (scope.names.all λy=>y.2 !=.cell) &&
 (scope.names.all λy=>y.2 !=.local||scope.names.lookup y.1==some .local) &&
 (scope.names.all λy=>y.2 !=.free||sc.names.lookup y.1==some .cell||sc.names.lookup y.1==some .free)
noncomputable def cD (cap:List (Option Nat))(σ:St):St:=cap.map λo=>match o with
 |none=>none
 |some j=>match σ[j]? with
  |some v=>v
  |none=>none
noncomputable def fM (X:Cx)(scope:Scope)(N':List Str)(cl:List (Str×Addr))(C:Addr)(s:Shared)(H:Hp)(ex:List Addr):Cx:=
 {X with N:=N',s₀:=s,H₀:=H,env:=compEnvC scope cl C X.env,outer:=X.stack,ex:=ex,fn:=λ_=>false,pn:=[],xe:=λ_ _=>False}
section
variable {s:Shared}
theorem ae8 {scope:Scope}(hB:qy X.N X.env.scope scope N' cap=true)(I:Inv X pins σ H s)
  (c1:∀x c,cl.lookup x=some c->X.env.cells.lookup x=some c)(c2:∀x,(x,NameKind.free)∈scope.names->∃c,cl.lookup x=some c)(hf:∀b∈ex,oH X pins H b)(hex:∀b∈ex,b<s.heap.objs.size)
  (hn:h₁.Ns s.heap.objs.size m)(hk:∀b o,s.heap.get? b=some o->h₁.get? b=some o):
  Inv (fM X scope N' cl s.heap.objs.size s H ex) [] (cD cap σ) H {s with heap:=h₁,toks:=t'}:=by
 simp only[qy,and_eq_true] at hB;obtain⟨⟨⟨⟨b1,b2⟩,b3⟩,b4⟩,b5⟩:=hB;have kind:=eq_of_beq b2;have Ld:∀y∈scope.names,y.2≠ .cell:=λy hy=>by have:=all_eq_true.mp b3 y hy;simpa using this
 have ok:(fM X scope N' cl s.heap.objs.size s H ex).Ok:=by
  refine⟨I.ok.mod,kind,I.ok.glob,I.ok.blt,le_refl _,λx y c e1 e2=>I.ok.inj x y c (c1 x c e1) (c1 y c e2),λx hx=>?_,λx c e _=>(by cases e),I.ok.hd,I.ok.frames,.inl rfl,λb hb=>⟨ne_of_lt (hex b hb),λx c e=>(hf b hb).2.2.2.2.1 x c (c1 x c e)⟩,
   I.bs,le_trans I.ok.Ay I.sz,λb o e hb=>?_,λb hb hb2=>?_,I.stack,I.Qv⟩
  .have hx':∃k,(relabel scope X.env).names.lookup x=some k/\(k=.cell\/k=.free):=by
    rcases hx with z|z
    .exact⟨.cell,z,.inl rfl⟩
    .exact⟨.free,z,.inr rfl⟩
   obtain⟨k,e,hkk⟩:=hx';obtain⟨k',hm,q⟩:=q9 (scope:=scope) e;have ek:k'=.free:=by
    rcases q with q|q
    .rw[<-q];rcases hkk with z|z
     .exact absurd (q.symm.trans z)<|Ld _ hm
     .exact z
    .exact q.1
   rw[ek] at hm;exact c2 x hm
  .rcases(hf b hb).2.2.2.1 with z|z
   .exact I.ok.Kp b o e z
   .exact absurd (lt_of_lt_of_le (lt_of_lt_of_le (lt_size e) I.ok.Ay) z)<|lt_irrefl _
  .rcases mem_cons.mp (I.Dp b hb2) with z|z
   .exact(hf b hb).2.1 z
   .exact(hf b hb).2.2.1 z
 refine⟨ok,rfl,I.bare,Un.kept hk,⟨m,hn,λi x v e1 e2 e3=>?_⟩,λx c e=>?_,I.hok.fresh<|le_refl _,λx c e=>I.lA x c<|c1 x c e,λp hp=>absurd (show p∈([]:List (Addr×Obj)) from hp) (by simp),I.hok.kept hk,?_⟩
 .have e2':=e2;unfold cD at e2';rw[getElem?_map] at e2';cases ec:cap[i]? with
  |none=>rw[ec] at e2';simp at e2'
  |some o=>
   rw[ec] at e2';cases o with
   |none=>simp at e2'
   |some j=>
    simp only[map_some,Option.some.injEq] at e2';have ej:σ[j]? =some (some v):=by
     cases q:σ[j]? with
     |none=>rw[q] at e2';simp at e2'
     |some z=>rw[q] at e2';simp only at e2';rw[e2']
    obtain⟨q1,q2,q3⟩:=Gi b1 i x j e1 ec;obtain⟨m0,hn0,hl0⟩:=I.loc;obtain⟨u,r,l⟩:=hl0 j x v q1 ej (by rcases q2 with z|z;exact .inr<|.inl z;exact .inr<|.inr z);refine⟨u,r,?_⟩;rcases l with⟨kl,_⟩|⟨_,c,hc,z⟩
    .have kl':X.env.scope.names.lookup x=some .local:=kl;rcases q2 with q2|q2<;>(rw[q2] at kl';cases kl')
    .obtain⟨o,ho,hd⟩:=z;obtain⟨c',hc'⟩:=c2 x (PySem.mem_of_lookup q3)
     have:c'=c:=by have:=c1 x c' hc';rw[hc] at this;exact(Option.some.inj this).symm
     subst this;exact .inr ⟨rA q3,c',hc',o,hk _ _ ho,hd⟩
 .obtain⟨v,o,ho,hd⟩:=I.cell x c<|c1 x c e;exact⟨v,o,hk _ _ ho,hd⟩
 .unfold cD;rw[length_map];exact vD b1
end
def T3:TT:=λ_ H Q=>Q true H
def nD (X:Cx)(ifs:List Expr)(t:TT):Prop:=
 ∀(pins:List (Addr×Obj)) (s:Shared) (σ:St) (H:Hp) (Q:Bool->Hp->Prop),Inv X pins σ H s->t σ H Q->
  wpAny (model X.prog X.w) X.A (forIn ifs true λc r=>if r=true then do let ok<-isTrue c X.env (eval c X.env);pure (ForInStep.yield ok) else pure<|ForInStep.yield r) (TP X pins σ Q) X.xe s
theorem zX:nD X [] T3:=λ_ _ _ H _ I h=>wpAny_tests_nil ⟨H,I,h⟩
theorem QF (h:PT X c t):nD X [c] t:=λpins s σ H Q I q=>wpAny_tests_one<|h pins s σ H Q I q
section
variable {s:Shared}
theorem Qg (I:Nat->Shared->Prop)
  (turn:∀n s,I n s->wpAny (model prog w) A (pyNext it) (λr s₁=>match r with
   |none=>R (.ok .next) s₁
   |some v=>wpAny (model prog w) A (letOwnedTupleGo target it v) (λ_ s₁'=>wpAny (model prog w) A (assign target env v) (λ_ s₂=>
    wpAny (model prog w) A (forIn ifs true λc r=>if r=true then do let ok<-isTrue c env (eval c env);pure (ForInStep.yield ok) else pure (ForInStep.yield r)) (λok s₃=>
     if ok=true then wpAny (model prog w) A (eval elt env) (λx s₄=>
      wpAny (model prog w) A (call (.builtin "list.append") [acc,x]) (λ_ s₅=>∃m,m<n/\I m s₅) (λ_ _=>False) s₄) (λ_ _=>False) s₃
     else ∃m,m<n/\I m s₃) (λ_ _=>False) s₂) (λ_ _=>False) s₁') (λ_ _=>False) s₁) (λ_ _=>False) s)
  (n:Nat)(h:I n s):
  codeAny (model prog w) A (.compLoop (.ListComp elt [⟨target,iter,ifs,0⟩] scope pos) 0 it acc env) R s:=by
 refine codeAny_loop rfl I (λn s hI=>?_) n h;refine wpAny_noted ?_;rw[compTurn_list];refine wpAny_bind<|wpAny_standAt<|wpAny_bind<|wpAny_mono (turn n s hI) (λr s₁ h₁=>?_) λ_ _ h'=>h'.elim;cases r with
 |none=>exact wpAny_pure h₁
 |some v=>
  refine wpAny_bind<|wpAny_mono h₁ (λ_ s₁' h₁'=>wpAny_bind<|wpAny_mono h₁' (λ_ s₂ h₂=>wpAny_bind<|wpAny_mono h₂ (λok s₃ h₃=>?_) λ_ _ h'=>h'.elim) λ_ _ h'=>h'.elim) λ_ _ h'=>h'.elim;cases ok with
  |false=>exact wpAny_pure ⟨rfl,h₃⟩
  |true=>exact wpAny_bind<|wpAny_bind<|wpAny_mono h₃ (λx s₄ h₄=>wpAny_bind<|wpAny_mono h₄ (λ_ s₅ h₅=>wpAny_pure<|wpAny_pure ⟨rfl,h₅⟩) λ_ _ h'=>h'.elim) λ_ _ h'=>h'.elim
end
def gO (a b:St):Prop:=∀(j:Nat) v,a[j]? =some (some v)->b[j]? =some (some v)
theorem gO.refl:gO a a:=λ_ _ h=>h
theorem gO.set (h:gO a b)(hi:a[i]? =some none):gO a (b.set i v):=λj u e=>by
 by_cases hj:j=i
 .subst hj;rw[hi] at e;cases e
 .rw[getElem?_set_ne<|Ne.symm hj];exact h j u e
def Gj (J:It)(cap:List (Option Nat))(g:TG)(tc:TT)(te:TE)(σ:St)(H1:Hp)(Q:VK):Prop:=
 ∀D,H1 D=none->∃W:Nat->Nat->Hp->Prop,(∃m,W 0 m (upd H1 D<|.lst []))/\∀i m H,W i m H->
  (J.stop i H/\Q (.ref D) H)\/(J.go i H/\∀x H',J.Kz i H x H'->g x (cD cap σ) H' λσ2 H2=>gO (cD cap σ) σ2/\tc σ2 H2 λb H3=>
   if b=true then te σ2 H3 λy H4=>∃xs,H4 D=some (.lst xs)/\xs.length<sizeLine/\∃m',m'<m/\W (i+1) m' (upd H4 D<|.lst<|xs++[y])
   else ∃m',m'<m/\W (i+1) m' H3)
def ur (wi:TI)(cap:List (Option Nat))(g:TG)(tc:TT)(te:TE):TE:=λσ H Q=>wi σ H λJ H1=>Gj J cap g tc te σ H1 Q
section
variable {X:Cx}
theorem Le {RR:Value->Addr->Result->Shared->Prop}(hc:X.calm=true)(hB:qy X.N X.env.scope scope N' cap=true)
  (hg:∀cl C s₀ H₀ ex,PG (fM X scope N' cl C s₀ H₀ ex) tg g)(hi:∀cl C s₀ H₀ ex,nD (fM X scope N' cl C s₀ H₀ ex) ifs tc)(he:∀cl C s₀ H₀ ex,PE (fM X scope N' cl C s₀ H₀ ex) elt te)
  (c1:∀x c,cl.lookup x=some c->X.env.cells.lookup x=some c)(c2:∀x,(x,NameKind.free)∈scope.names->∃c,cl.lookup x=some c)
  (I:Inv X pins σ H s)(T:Turn X.prog X.w X.K tg J fp it tn)(st:tn 0 s.heap)(hf:∀b∈fp,oH X pins H b)(rd:Gj J cap g tc te σ H Q)
  (hRR:∀D C s' m H',Inv X pins σ H' s'->s'.heap.Ns C m->oH X pins H' C->Q (.ref D) H'->RR (.ref D) C (.ok .next) s'):
  wpAny (model X.prog X.w) X.A (newList []) (λacc s₃=>wpAny (model X.prog X.w) X.A (newFunctionEnv scope X.env.globals cl [] X.env.qual none .none (some X.env)) (λcenv s₄=>
   codeAny (model X.prog X.w) X.A (.compStart (.ListComp elt [⟨tg,iter,ifs,0⟩] scope pos) 0 (.ref it) acc {cenv with scope:=relabel scope X.env}) (RR acc cenv.locals) s₄) E s₃) E s:=by
 have hB':=hB;simp only[qy,and_eq_true] at hB';obtain⟨⟨⟨⟨b1,b2⟩,b3⟩,b4⟩,b5⟩:=hB';have kind:=eq_of_beq b2;have Ld:∀y∈scope.names,y.2≠ .cell:=λy hy=>by have:=all_eq_true.mp b3 y hy;simpa using this
 have hfp:∀b∈fp,b<s.heap.objs.size:=λb hb=>let⟨o,e,_⟩:=T.obj 0 _ st b hb;lt_size e;refine wpAny_newObj_type (wpAny_newFunctionEnv Ld (by intro y hy;simp at hy) (λh₁ hns₁ hsb₁=>?_) kind);dsimp only at hns₁ hsb₁ ⊢;have I3:Inv X pins σ (upd H s.heap.objs.size<|.lst []) {s with heap:=s.heap.push {cls:=.type "list",data:=.seq ([]:List Value).toArray},toks:=s.toks}:=I.Zw .nil<|zero_le _;generalize hs3:({s with heap:=s.heap.push {cls:=.type "list",data:=.seq ([]).toArray},toks:=s.toks})=s3 at I3;have eh:s3.heap=s.heap.push {cls:=.type "list",data:=.seq ([]).toArray}:=by rw[<-hs3]
 have sz3:s3.heap.objs.size=s.heap.objs.size+1:=by rw[eh,size_push]
 obtain⟨W,⟨m0,w0⟩,turn⟩:=rd s.heap.objs.size<|I.hok.fresh<|le_refl _;have hf3:∀b∈fp,oH X pins (upd H s.heap.objs.size<|.lst []) b:=λb hb=>⟨by rw[ak<|ne_of_lt<|hfp b hb];exact(hf b hb).1,(hf b hb).2⟩;have ae9:∀b∈fp,b<s3.heap.objs.size:=λb hb=>by rw[sz3];exact Nat.lt_succ_of_lt<|hfp b hb
 have adu:h₁.Ns s3.heap.objs.size (λx=>([]).reverse.lookup x):=by rw[eh];exact hns₁
 have old:∀b o,s3.heap.get? b=some o->h₁.get? b=some o:=λb o e=>by refine hsb₁.extBut b o ?_ (get?_push_of_some _ (by rw[<-eh];exact e));rw[<-eh];exact ne_of_lt<|lt_size e
 have I4:=ae8 (t':=s.toks) hB I3 c1 c2 hf3 ae9 adu old;have ajV:∀b o,s.heap.get? b=some o->h₁.get? b=some o:=λb o e=>old b o (by rw[eh];exact get?_push_of_some _ e);have st4:=T.keep _ _ _ st λb _ o e=>ajV b o e;have eC:(s.heap.push {cls:=.type "list",data:=.seq ([]).toArray}).objs.size=s3.heap.objs.size:=by rw[eh]
 have stat:∀{H':Hp},(∀b∈fp,H' b=none)->∀b∈fp,oH (fM X scope N' cl s3.heap.objs.size s3 (upd H s.heap.objs.size<|.lst []) fp) [] H' b:=λhn b hb=>
  ⟨hn b hb,ne_of_lt (ae9 b hb),λz=>by
   rcases mem_cons.mp (I3.Dp b z) with q|q
   .exact(hf b hb).2.1 q
   .exact(hf b hb).2.2.1 q,.inl hb,λx c e=>(hf b hb).2.2.2.2.1 x c (c1 x c e),λp hp=>absurd (show p∈([]:List (Addr×Obj)) from hp) (by simp)⟩
 have loop:∀s₃:Shared,s₃={s with heap:=h₁,toks:=s.toks+([]:List (Str×Value)).length}->
   codeAny (model X.prog X.w) X.A (.compLoop (.ListComp elt [⟨tg,iter,ifs,0⟩] scope pos) 0 (.ref it) (.ref s.heap.objs.size)<|compEnvC scope cl s3.heap.objs.size X.env) (RR (.ref s.heap.objs.size) s3.heap.objs.size) s₃:=by
  rintro s₃ rfl;refine Qg (λn s'=>∃i σ' H',Inv (fM X scope N' cl s3.heap.objs.size s3 (upd H s.heap.objs.size<|.lst []) fp) [] σ' H' s'/\(∀(j:Nat) v,(cD cap σ)[j]? =some (some v)->σ'[j]? =some (some v))/\tn i s'.heap/\(∀b∈fp,H' b=none)/\W i n H') ?_ m0 ?_
  .rintro n s' ⟨i,σ',H',I',wk,st',fr',w'⟩;have QG:=I'.weak (by rw[I'.len];show(cD cap σ).length=N'.length;unfold cD;rw[length_map];exact vD b1) wk;rcases turn i n H' w' with⟨stop,q⟩|⟨go,step⟩
   .refine aV (T.done (fM X scope N' cl s3.heap.objs.size s3 (upd H s.heap.objs.size<|.lst []) fp) rfl rfl rfl hc i [] s' (cD cap σ) H' _ QG (stat fr') st' stop) λr s4 ⟨hr,QH⟩=>?_;subst hr;have u:=(Un.laid (λb o e=>by show s3.heap.get? b=some o;rw[eh];exact get?_push_of_some _ e) (le_refl _) (I.hok.fresh<|le_refl _)).trans QH.base;have IX:=I.call' (QH.os.trans (by show s3.os=s.os;rw[<-hs3])) u QH.hok QH.bare λb hb=>⟨(hf b hb).2.2.2.1,(hf b hb).2.1,(hf b hb).2.2.2.2.1,(hf b hb).2.2.2.2.2⟩;obtain⟨m',hm',_⟩:=QH.loc;exact hRR _ _ s4 m' H' IX hm' (I.xX (by rw[sz3];exact le_succ _) QH.free) q
   .refine aV (T.item (fM X scope N' cl s3.heap.objs.size s3 (upd H s.heap.objs.size<|.lst []) fp) rfl rfl rfl hc i [] s' (cD cap σ) H' _ QG (stat fr') st' go) λr s4 ⟨v,hr,h4⟩=>?_;subst hr;refine aV h4 λ_ s5 ⟨x,H5,I5,r5,y5,KD,fr5⟩=>?_;have I5':=I5.pinned (stat fr5)<|T.obj _ _ KD;refine aV (hg _ _ _ _ _ _ s5 (cD cap σ) H5 x v _ I5' r5<|step x H5 y5) λ_ s6 ⟨KH,H6,I6,kc6,q6⟩=>?_;refine aV (hi _ _ _ _ _ _ s6 KH H6 _ I6 q6) λok s7 ⟨H7,I7,q7⟩=>?_;have ahL:∀{s8:Shared}{σ8:St} {H8:Hp},Inv (fM X scope N' cl s3.heap.objs.size s3 (upd H s.heap.objs.size<|.lst []) fp) ([]++um fp s5.heap) σ8 H8 s8->tn (i+1) s8.heap/\∀b∈fp,H8 b=none:=λ{s8 σ8 H8} I8=>
     ⟨T.keep _ _ _ KD λb hb o e=>(I8.pin (b,o) (mem_append_right _ (mem_append_right _ (qH hb e)))).1,λb hb=>by
      obtain⟨o,e,d⟩:=T.obj _ _ KD b hb;exact(I8.pin (b,o) (mem_append_right _ (mem_append_right _ (qH hb e)))).2.1⟩
    have again:∀{s8:Shared}{H8:Hp} {m':Nat},Inv (fM X scope N' cl s3.heap.objs.size s3 (upd H s.heap.objs.size<|.lst []) fp) ([]++um fp s5.heap) KH H8 s8->m'<n->W (i+1) m' H8->
      ∃m,m<n/\∃i σ' H',Inv (fM X scope N' cl s3.heap.objs.size s3 (upd H s.heap.objs.size<|.lst []) fp) [] σ' H' s8/\(∀j v,(cD cap σ)[j]? =some (some v)->σ'[j]? =some (some v))/\tn i s8.heap/\(∀b∈fp,H' b=none)/\W i m H':=λ{s8 H8 m'} I8 lt w8=>by
     obtain⟨k1,k2⟩:=ahL I8;exact⟨m',lt,i+1,KH,H8,I8.vo,kc6,k1,k2,w8⟩
    cases ok with
    |false=>
     rw[if_neg Bool.false_ne_true] at q7 ⊢;obtain⟨m',lt,w8⟩:=q7;exact again I7 lt w8
    |true=>rw[if_pos rfl] at q7 ⊢;refine aV (he _ _ _ _ _ _ s7 KH H7 _ I7 q7) λy s8 ⟨vy,H8,I8,ry,xs,hD,hz,m',lt,w8⟩=>?_;refine aV (HF _ s8 KH H8 (.ref s.heap.objs.size) [vy] _ _ (λ_ H'=>H'=upd H8 s.heap.objs.size (.lst<|xs++[vy])) I8 rfl (.cons ry .nil) ⟨_,xs,vy,rfl,rfl,hD,hz,rfl⟩) λ_ s9 ⟨_,H9,I9,_,e9⟩=>?_;subst e9;exact again I9 lt w8
  .have eS:({s3 with heap:=h₁,toks:=s.toks})={s with heap:=h₁,toks:=s.toks+([]:List (Str×Value)).length}:=by rw[<-hs3];rfl
   exact⟨0,cD cap σ,upd H s.heap.objs.size<|.lst [],eS▸I4,λ_ _ h=>h,st4,λb hb=>(hf3 b hb).1,w0⟩
 rw[eC];exact codeAny_compStart_list (loop _ rfl)<|T.self _ 0 _ _ _ st4<|loop _ rfl
theorem HW (hB:qy X.N X.env.scope scope N' cap=true):∀x∈scope.names,x.2=.local->scope.names.lookup x.1=some .local:=λy hy e=>by simp only[qy,and_eq_true] at hB;have:=all_eq_true.mp hB.1.2 y hy;rw[e] at this;simpa using this
theorem Lg (hB:qy X.N X.env.scope scope N' cap=true)(ok:X.Ok):∃cl:List (Str×Addr),closureFor scope X.env=pure cl/\(∀x c,cl.lookup x=some c->X.env.cells.lookup x=some c)/\∀x,(x,NameKind.free)∈scope.names->∃c,cl.lookup x=some c:=by
 refine Jz λy hy e=>ok.has y.1 ?_;simp only[qy,and_eq_true] at hB;have:=all_eq_true.mp hB.2 y hy;rw[e] at this;simp only[bne_self_eq_false,Bool.false_or,or_eq_true] at this;rcases this with z|z
 .exact .inl<|eq_of_beq z
 .exact .inr<|eq_of_beq z
theorem DG (N:List Str)(sc:Scope)(hc:X.calm=true)(hB0:qy N sc scope N' cap=true)(hNN:X.N=N)(hsc:X.env.scope=sc)(hit:PI X tg iter wi)
  (hg:∀cl C s₀ H₀ ex,PG (fM X scope N' cl C s₀ H₀ ex) tg g)(hi:∀cl C s₀ H₀ ex,nD (fM X scope N' cl C s₀ H₀ ex) ifs tc)(he:∀cl C s₀ H₀ ex,PE (fM X scope N' cl C s₀ H₀ ex) elt te)
  (hs:∀x,foldedSetIterable iter X.env x=pure x:=by intro _;rfl):PE X (.ListComp elt [⟨tg,iter,ifs,0⟩] scope pos) (ur wi cap g tc te):=by
 intro pins s σ H Q I h;have hB:qy X.N X.env.scope scope N' cap=true:=by rw[hNN,hsc];exact hB0
 have kind:scope.kind=.function:=by simp only[qy,and_eq_true] at hB;exact eq_of_beq hB.1.1.1.2
 obtain⟨cl,ecl,c1,c2⟩:=Lg hB I.ok;rw[eval_ListComp];refine wpAny_comprehension_free rfl hs ecl kind (HW hB)<|aV (hit pins s σ H _ I h) λv s1 h1=>aV h1 λitv s2 h2=>?_;obtain⟨it,fp,tn,J,H2,e,I2,T,st2,f2,rd⟩:=h2;subst e;refine Le hc hB hg hi he c1 c2 I2 T st2 f2 rd λD C s' m H' I' hm fC q=>?_;exact⟨m,hm,λh' hs'=>⟨.ref D,H',I'.turned (λb o hb e=>(hs'.2 b hb).trans e) fC.1 fC.2.1 fC.2.2.2.1 fC.2.2.2.2.1 fC.2.2.2.2.2,rfl,q⟩⟩
theorem vG (hN:X.N.Nodup)(hiy:X.N[i]? =some y)(hy:Loc X.env.scope y)(N:List Str)(sc:Scope)(hc:X.calm=true)(hB0:qy N sc scope N' cap=true)(hNN:X.N=N)(hsc:X.env.scope=sc)(hit:PI X tg iter wi)
  (hg:∀cl C s₀ H₀ ex,PG (fM X scope N' cl C s₀ H₀ ex) tg g)(hi:∀cl C s₀ H₀ ex,nD (fM X scope N' cl C s₀ H₀ ex) ifs tc)(he:∀cl C s₀ H₀ ex,PE (fM X scope N' cl C s₀ H₀ ex) elt te)
  (hsw:swapsWith (.ListComp elt [⟨tg,iter,ifs,0⟩] scope pos) (some<|.Name y ypos) spos.line X.env=pure true:=by rfl)
  (hs:∀x,foldedSetIterable iter X.env x=pure x:=by intro _;rfl)(hf:X.fn y=true\/X.env.scope.names.lookup y=some .local:=by first|exact .inl rfl|exact .inr rfl|assumption):
  PS X (.Assign [.Name y ypos] (.ListComp elt [⟨tg,iter,ifs,0⟩] scope pos) spos) (eZ (ur wi cap g tc te)<|cC i):=by
 intro pins s σ H D I h;have hB:qy X.N X.env.scope scope N' cap=true:=by rw[hNN,hsc];exact hB0
 have kind:scope.kind=.function:=by simp only[qy,and_eq_true] at hB;exact eq_of_beq hB.1.1.1.2
 obtain⟨cl,ecl,c1,c2⟩:=Lg hB I.ok;rw[exec_Assign_Name_used _ _ _ _ hsw];refine wpAny_bind (wpAny_standAt (wpAny_bind ?_));refine wpAny_bind (wpAny_mono (wpAny_comprehension_free rfl hs ecl kind (HW hB)
  (aV (hit pins s σ H _ I h) λv s1 h1=>aV h1 λitv s2 h2=>?_)) (λ_ s' hq=>wpAny_pure (wpAny_pure hq)) λ_ _ e=>e)
 obtain⟨it,fp,tn,J,H2,e,I2,T,st2,f2,rd⟩:=h2;subst e;refine Le hc hB hg hi he c1 c2 I2 T st2 f2 rd λDa C s' m H' I' hm fC q=>?_;refine wpAny_assign_Name<|Hl (v:=.ref Da) I' hN hiy hy rfl (λs'' QG ⟨a,hsa,hav⟩=>?_) hf;have haC:C≠a:=by
  rcases hav with z|z
  .rw[z];exact fC.2.1
  .exact(fC.2.2.2.2.1 y a z).symm
 refine⟨m,hm.sameBut hsa haC,λh' hs'=>⟨σ.set i<|some<|.ref Da,H',QG.turned (λb o hb e=>(hs'.2 b hb).trans e) fC.1 fC.2.1 fC.2.2.2.1 fC.2.2.2.2.1 fC.2.2.2.2.2,q⟩⟩
end
def J0 (_ j:Int):Prop:=0<j/\j.natAbs.log2<9000
def J1 (i j:Int):Prop:=i.natAbs<2^8000/\j.natAbs<2^8000
theorem bits_le (h:i.natAbs<2^8000):Builtin.Int.intBits i<=2^20:=by
 unfold Builtin.Int.intBits;split
 .exact zero_le _
 .rename_i h0;have hz:i.natAbs≠0:=by
   intro z;apply h0
   have:i=0:=by omega
   rw[this];rfl
  have:=(Nat.log2_lt hz).mpr h;have e:(2)^20=1048576:=by decide
  omega
section
theorem ZD:cA X (binaryOp .FloorDiv) (rI J0 λi j=>.int<|i/j):=opI λi j _ _ _ _ _ hc q=>by
 have e:i.fdiv j=i/j:=by rw[Int.fdiv_eq_ediv_of_nonneg _<|Int.le_of_lt hc.1]
 exact floordiv_int (Int.ne_of_gt hc.1) (by rw[e];exact q) (.inl<|PyProof.noPylong_of_log2 hc.2)
theorem adv:cA X (binaryOp .Mult) (rI J1 λi j=>.int<|i*j):=opI λ_ _ _ _ _ _ _ hc q=>mul_int q<|IntMulOk.of_bits (bits_le hc.1)<|bits_le hc.2
end
theorem yh:∀{ns:List Int}{vs:List Value},Vals (ns.map V.int) vs->IntsAre vs ns
 |[],_,.nil=>.nil
 |n::ns,_,.cons r t=>by obtain⟨k,rfl⟩:=r;exact .cons n k<|yh t
section
theorem Wr (hc:X.calm=true):dg X (.builtin "sum") (λxs H Q=>∃(p:Addr) (ns:List Int),xs=[.ref p]/\aR X.K H p (ns.map V.int)/\Q (.int ns.sum) H):=by
 intro pins s σ H xs us Q I r q;obtain⟨p,ns,rfl,hq,q⟩:=q;obtain⟨u,rfl,ru⟩:=r.one;cases ru;obtain⟨its,rv,pl,hz⟩:=I.list hq;have hi:=yh rv;obtain⟨zs,e⟩:=hi.allInts.items;have hns:ns=zs.toList.map (·.1):=by rw[<-hi.numsOf,←nums_intItems,←e]
 have hl:=pl.isList;rw[e] at hl;refine sum_intListG (I.ok.hd hc) hl λh' tk t' hk=>?_;have e2:preSum (numAt zs) zs.size=ns.sum:=by rw[preSum_eq,take_of_length_le<|by simp,←hns]
 rw[e2];exact⟨.int ns.sum,H,I.kept hk,⟨_,rfl⟩,q⟩
theorem Ws (hc:X.calm=true):dg X (.builtin "min") (λxs H Q=>∃(p:Addr) (ns:List Int),xs=[.ref p]/\aR X.K H p (ns.map V.int)/\0<ns.length/\∀M,M∈ns->(∀a,a∈ns->M<=a)->Q (.int M) H):=by
 intro pins s σ H xs us Q I r q;obtain⟨p,ns,rfl,hq,hne,q⟩:=q;obtain⟨u,rfl,ru⟩:=r.one;cases ru;obtain⟨its,rv,pl,hz⟩:=I.list hq;have hi:=yh rv;obtain⟨zs,e⟩:=hi.allInts.items;have hns:ns=zs.toList.map (·.1):=by rw[<-hi.numsOf,←nums_intItems,←e]
 have hl:=pl.isList;rw[e] at hl;have hsz:0<zs.size:=by have h3:=hne;rw[hns,length_map,length_toList] at h3;exact h3
 refine min_intList (I.ok.hd hc) hl hsz λv h' tk hv hk=>?_;obtain⟨t,rfl⟩:=intItems_at hv;obtain⟨h1,h2⟩:=argBest_lt (numAt zs)<|zs.size - 1;refine⟨.int _,H,I.kept hk,⟨t,rfl⟩,q _ ?_ λa ha=>?_⟩
 .rw[hns,numAt_eq];exact getD_mem (by rw[length_map,length_toList];omega)
 .rw[hns] at ha;obtain⟨j,hj,rfl⟩:=mem_getD ha;rw[length_map,length_toList] at hj;rw[<-numAt_eq];exact h2 j<|by omega
end
def ajW (K:Frag):V->Hp->VK->Prop:=λx H Q=>∃a xs,x=.ref a/\aR K H a xs/\∀p,H p=none->Q (.ref p) (upd H p<|.lst xs.reverse)
section
variable {j:Nat}
end
mutual
def Has (K:Frag)(H:Hp):PyData->V->Prop
 |.none,v=>v=.non
 |.bool b,v=>v=.bl b
 |.int i,v=>v=.int i
 |.str x,v=>v=.str x/\(PyData.str x).canLay0=true
 |.list ds,v=>∃a xs,v=.ref a/\aR K H a xs/\aG K H ds xs
 |.tuple ds,v=>∃a xs,v=.ref a/\bB K H a xs/\aG K H ds xs
 |.dict _,_=>False
def aG (K:Frag)(H:Hp):List PyData->List V->Prop
 |[],vs=>vs=[]
 |d::ds,vs=>∃v r,vs=v::r/\Has K H d v/\aG K H ds r
end
theorem Same.vH {K:Frag}(e:Same H H')(h:bB K H a xs):bB K H' a xs:=by
 rcases h with(h|⟨o,h⟩)|h
 .exact .inl<|.inl<|e _ _ h
 .exact .inl<|.inr ⟨o,e _ _ h⟩
 .exact .inr h
mutual
theorem Has.same {K:Frag}(e:Same H H'):∀{d:PyData}{v:V},Has K H d v->Has K H' d v
 |.none,_,h=>h
 |.bool _,_,h=>h
 |.int _,_,h=>h
 |.str _,_,h=>h
 |.list _,_,⟨a,xs,h1,h2,h3⟩=>⟨a,xs,h1,e.seq h2,aG.same e h3⟩
 |.tuple _,_,⟨a,xs,h1,h2,h3⟩=>⟨a,xs,h1,e.vH h2,aG.same e h3⟩
theorem aG.same {K:Frag}(e:Same H H'):∀{ds:List PyData}{vs:List V},aG K H ds vs->aG K H' ds vs
 |[],_,h=>h
 |_::_,_,⟨v,r,h1,h2,h3⟩=>⟨v,r,h1,Has.same e h2,aG.same e h3⟩
end
theorem aG.length {K:Frag}:∀{ds:List PyData}{vs:List V},aG K H ds vs->ds.length=vs.length
 |[],vs,h=>by have h':vs=[]:=h;rw[h'];rfl
 |_::_,_,⟨v,r,h1,_,h3⟩=>by rw[h1];exact congrArg (· +1)<|aG.length h3
theorem aG.get {K:Frag}:∀{ds:List PyData}{vs:List V} {i:Nat} {v:V},aG K H ds vs->vs[i]? =some v->∃d,ds[i]? =some d/\Has K H d v
 |[],vs,i,v,h,e=>by have h':vs=[]:=h;rw[h'] at e;simp at e
 |d::_,_,0,v,⟨u,r,h1,h2,h3⟩,e=>by
  rw[h1] at e
  have:u=v:=by simpa using e
  subst this;exact⟨d,rfl,h2⟩
 |_::ds,_,i+1,v,⟨u,r,h1,h2,h3⟩,e=>by rw[h1] at e;obtain⟨d,q1,q2⟩:=aG.get (i:=i) (v:=v) h3 (by simpa using e);exact⟨d,by simpa using q1,q2⟩
theorem aG.at {K:Frag}:∀{ds:List PyData}{vs:List V} {i:Nat} {d:PyData},aG K H ds vs->ds[i]? =some d->∃v,vs[i]? =some v/\Has K H d v
 |[],_,i,d,_,e=>by simp at e
 |d'::_,_,0,d,⟨u,r,h1,h2,h3⟩,e=>by
  have:d'=d:=by simpa using e
  subst this;rw[h1];exact⟨u,rfl,h2⟩
 |_::ds,_,i+1,d,⟨u,r,h1,h2,h3⟩,e=>by obtain⟨v,q1,q2⟩:=aG.at (i:=i) (d:=d) h3 (by simpa using e);rw[h1];exact⟨v,by simpa using q1,q2⟩
theorem aG.snoc {K:Frag}(hv:Has K H d v):∀{ds:List PyData}{vs:List V},aG K H ds vs->aG K H (ds++[d]) (vs++[v])
 |[],vs,h=>by have h':vs=[]:=h;rw[h'];exact⟨v,[],rfl,hv,rfl⟩
 |_::_,_,⟨u,r,h1,h2,h3⟩=>by rw[h1];exact⟨u,r++[v],rfl,h2,aG.snoc hv h3⟩
theorem aG.append {K:Frag}(h2:aG K H es us):∀{ds:List PyData}{vs:List V},aG K H ds vs->aG K H (ds++es) (vs++us)
 |[],vs,h=>by have h':vs=[]:=h;rw[h'];exact h2
 |_::_,_,⟨u,r,g1,g2,g3⟩=>by rw[g1];exact⟨u,r++us,rfl,g2,aG.append h2 g3⟩
theorem aG.reverse {K:Frag}:∀{ds:List PyData}{vs:List V},aG K H ds vs->aG K H ds.reverse vs.reverse
 |[],vs,h=>by have h':vs=[]:=h;rw[h'];rfl
 |_::_,_,⟨u,r,g1,g2,g3⟩=>by rw[g1,reverse_cons,reverse_cons];exact aG.snoc g2<|aG.reverse g3
theorem aG.set {K:Frag}(hv:Has K H d v):∀{ds:List PyData}{vs:List V} (i:Nat),aG K H ds vs->aG K H (ds.set i d) (vs.set i v)
 |[],vs,_,h=>by have h':vs=[]:=h;rw[h'];rfl
 |_::_,_,0,⟨u,r,g1,g2,g3⟩=>by rw[g1];exact⟨v,r,rfl,hv,g3⟩
 |_::_,_,i+1,⟨u,r,g1,g2,g3⟩=>by rw[g1];exact⟨u,r.set i v,rfl,g2,aG.set hv i g3⟩
theorem aG.ints {K:Frag}:∀{ns:List Int}{vs:List V},aG K H (ns.map PyData.int) vs↔vs=ns.map V.int
 |[],_=>Iff.rfl
 |n::ns,vs=>by
  constructor
  .rintro⟨v,r,h1,h2,h3⟩;have h2':v=.int n:=h2;rw[h1,h2',aG.ints.mp h3];rfl
  .rintro rfl;exact⟨.int n,ns.map V.int,rfl,rfl,aG.ints.mpr rfl⟩
section
variable {s:Shared}
mutual
theorem Has.reads (I:Inv X pins σ H s):∀{d:PyData}{v:V} {u:Value},Has X.K H d v->RelV v u->∃as,Reads s.heap u d as
 |.none,v,u,h,r=>by
  have h':v=.non:=h;subst h';cases r;exact⟨_,.none⟩
 |.bool b,v,u,h,r=>by
  have h':v=.bl b:=h;subst h';cases r;exact⟨_,.bool b⟩
 |.int i,v,u,h,r=>by
  have h':v=.int i:=h;subst h';obtain⟨t,rfl⟩:=r;exact⟨_,.int i t⟩
 |.str x,v,u,h,r=>by
  have h':v=.str x:=h.1;subst h';obtain⟨t,rfl⟩:=r;exact⟨_,.str x t⟩
 |.list ds,v,u,h,r=>by
  obtain⟨a,xs,rfl,hq,hl⟩:=h;cases r;obtain⟨its,rv,⟨o,n,e,c,_,d⟩,hz⟩:=I.list hq;obtain⟨as,ra⟩:=aG.reads I hl rv;exact⟨_,.list e c d<|by simpa using ra⟩
 |.tuple ds,v,u,h,r=>by
  obtain⟨a,xs,rfl,hq,hl⟩:=h;cases r;obtain⟨its,rv,⟨o,e,c,n,d⟩,hz⟩:=I.tuple hq;obtain⟨as,ra⟩:=aG.reads I hl rv;exact⟨_,.tuple e c d<|by simpa using ra⟩
 |.dict _,_,_,h,_=>False.elim h
theorem aG.reads (I:Inv X pins σ H s):∀{ds:List PyData}{vs:List V} {us:List Value},aG X.K H ds vs->Vals vs us->∃as,ReadsAll s.heap us ds as
 |[],vs,us,h,r=>by
  have h':vs=[]:=h;subst h';cases r;exact⟨_,.nil⟩
 |d::ds,vs,us,h,r=>by
  obtain⟨v,rr,rfl,h1,h2⟩:=h;cases r with
  |cons r1 r2=>obtain⟨as,a1⟩:=Has.reads I h1 r1;obtain⟨bs,a2⟩:=aG.reads I h2 r2;exact⟨_,.cons a1 a2⟩
end
end
mutual
theorem Has.can {K:Frag}:∀{d:PyData}{v:V},Has K H d v->d.canLay0=true
 |.none,_,_=>rfl
 |.bool _,_,_=>rfl
 |.int _,_,_=>rfl
 |.str _,_,h=>h.2
 |.list ds,_,⟨_,_,_,_,h⟩=>by simp only[canLay0];exact aG.can h
 |.tuple ds,_,⟨_,_,_,_,h⟩=>by simp only[canLay0];exact aG.can h
theorem aG.can {K:Frag}:∀{ds:List PyData}{vs:List V},aG K H ds vs->canLayAll0 ds=true
 |[],_,_=>rfl
 |d::ds,_,⟨_,_,_,h1,h2⟩=>by simp only[canLayAll0,and_eq_true];exact⟨Has.can h1,aG.can h2⟩
end
noncomputable def afc (K:Frag):R2:=λx y H Q=>∃d e,Has K H d x/\Has K H e y/\d.depth<=60/\Q (.bl<|eqv d e) H
noncomputable def afd (K:Frag):R2:=λx y H Q=>∃d e,Has K H d x/\Has K H e y/\d.depth<=60/\Q (.bl<|!PyData.eqv d e) H
section
theorem Lh (hu:X.A.units+64<cLine):cA X (compareOp .Eq) (afc X.K):=by intro pins s σ H x y v u Q I rx ry h;obtain⟨d,e,hd,he,hk,q⟩:=h;obtain⟨as,ra⟩:=hd.reads I rx;obtain⟨bs,rb⟩:=he.reads I ry;exact SeqAt.compareEq_reads ra rb hd.can he.can (by have:=Nat.min_le_left d.depth e.depth;omega) ⟨.bl _,H,I,rfl,q⟩
theorem yj (hu:X.A.units+64<cLine):cA X (compareOp .NotEq) (afd X.K):=by intro pins s σ H x y v u Q I rx ry h;obtain⟨d,e,hd,he,hk,q⟩:=h;obtain⟨as,ra⟩:=hd.reads I rx;obtain⟨bs,rb⟩:=he.reads I ry;exact SeqAt.compareNe_reads ra rb hd.can he.can (by have:=Nat.min_le_left d.depth e.depth;omega) ⟨.bl _,H,I,rfl,q⟩
end
end L2
namespace L2
open PyProof.Rows
def vR (i:Nat):TE:=λσ H Q=>match σ[i]? with
 |some (some v)=>Q v H
 |_=>False
noncomputable def tK (sc:Scope)(x:Str):Bool:=match sc.names.lookup x with
 |some .local=>true
 |some .cell=>true
 |some .free=>true
 |_=>false
noncomputable def ZF (sc:Scope)(x:Str):Bool:=match sc.names.lookup x with
 |some .local=>true
 |some .cell=>true
 |_=>false
noncomputable def Wt (sc:Scope)(x:Str):Bool:=match sc.names.lookup x with
 |some .globalImplicit=>true
 |_=>false
noncomputable def Gk (sc:Scope)(x:Str):Bool:=match sc.names.lookup x with
 |some .local=>true
 |some .free=>true
 |_=>false
noncomputable def plain (x:Str):Bool:=!(x==("__debug__":Str)) && !(x==("__classdict__":Str))
theorem afe (h:tK sc x=true):VH sc x:=by
 unfold tK at h;split at h
 .rename_i e;exact .inl e
 .rename_i e;exact .inr<|.inl e
 .rename_i e;exact .inr<|.inr e
 .cases h
theorem lo (h:ZF sc x=true):Loc sc x:=by
 unfold ZF at h;split at h
 .rename_i e;exact .inl e
 .rename_i e;exact .inr e
 .cases h
theorem adw (h:Gk sc x=true):VH (relabel sc env) x:=by
 unfold Gk at h;split at h
 .rename_i e;exact .inl<|lookup_relabel_local e
 .rename_i e;exact .inr<|rA e
 .cases h
noncomputable def ZG (sc:Scope)(x:Str):Bool:=match sc.names.lookup x with
 |some .local=>true
 |_=>false
theorem loC (h:ZG sc x=true):(relabel sc env).names.lookup x=some .local:=by
 unfold ZG at h;split at h
 .rename_i e;exact lookup_relabel_local e
 .cases h
theorem yp {env:Env}{x:Str}:∀{names:List (Str×NameKind)},names.lookup x=some .globalImplicit->
  (names.map λ(n,k)=>if(k==NameKind.free && env.scope.kind==.function && env.kindOf n==some .cell) then(n,NameKind.cell) else(n,k)).lookup x=some .globalImplicit
 |[],h=>by simp at h
 |(n,j)::r,h=>by
  have ih:=@yp env x r;show List.lookup x ((if(j==NameKind.free && env.scope.kind==.function && env.kindOf n==some .cell)=true then(n,NameKind.cell) else(n,j))::_)=_;by_cases hc:(j==NameKind.free && env.scope.kind==.function && env.kindOf n==some .cell)=true
  .rw[if_pos hc,lookup_cons];rw[lookup_cons] at h;cases hx:x==n with
   |true=>
    rw[hx] at h;simp only[and_eq_true] at hc;have ej:j=.free:=eq_of_beq hc.1.1;rw[ej] at h;cases h
   |false=>rw[hx] at h;exact ih h
  .rw[if_neg hc,lookup_cons];rw[lookup_cons] at h;cases hx:x==n with
   |true=>rw[hx] at h;exact h
   |false=>rw[hx] at h;exact ih h
section
theorem gl (h:Wt sc x=true)(hs:X.env.scope=sc:=by rfl):Gl X x:=by
 unfold Wt at h;split at h
 .rename_i e;show X.env.scope.names.lookup x=_;rw[hs];exact e
 .cases h
theorem abF (h:PE X e (aeA i)):PE X e (vR i):=h.imp λσ H Q h=>by
 unfold vR at h;split at h
 .rename_i v e;exact⟨v,e,h⟩
 .exact h.elim
theorem vI (h:plain x=true):(x==("__debug__":Str))=false/\(x==("__classdict__":Str))=false:=by unfold plain at h;simpa using h
theorem pV (vt:N.all (λx=>tK sc x && plain x)=true)(i:Nat)(hN:X.N[i]? =some x:=by rfl)(hXN:X.N=N:=by rfl)(hXs:X.env.scope=sc:=by rfl):PE X (.Name x pos) (vR i):=by have h:=all_eq_true.mp vt x (by rw[<-hXN];exact mem_of_getElem? hN);rw[and_eq_true] at h;exact abF<|VL hN (by rw[hXs];exact afe h.1) (vI h.2).1 (vI h.2).2
end
section
variable {pos:Pos}
theorem uw (vt:N'.all (λx=>Gk scope x && plain x)=true)(i:Nat)(hN:N'[i]? =some x:=by rfl):PE (fM X scope N' cl C s₀ H₀ ex) (.Name x pos) (vR i):=by have h:=all_eq_true.mp vt x<|mem_of_getElem? hN;rw[and_eq_true] at h;exact abF<|VL hN (adw h.1) (vI h.2).1 (vI h.2).2
theorem Bf (hN:N'.Nodup)(h:ZG scope x=true)(hi:N'[i]? =some x:=by rfl):PG (fM X scope N' cl C s₀ H₀ ex) (.Name x pos) (cC i):=
 cj hN hi (.inl<|loC h) (.inr<|loC h)
theorem glC (h:Wt scope x=true):Gl (fM X scope N' cl C s₀ H₀ ex) x:=by
 unfold Wt at h;split at h
 .rename_i e;show(relabel scope X.env).names.lookup x=_;exact yp e
 .cases h
end
section
theorem cA.imp (h:cA X f r)(hi:∀x y H Q,r' x y H Q->r x y H Q):cA X f r':=λpins s σ H x y v u Q I rx ry q=>h pins s σ H x y v u Q I rx ry<|hi x y H Q q
theorem qx.imp (h:qx X r)(hi:∀x y H Q,r' x y H Q->r x y H Q):qx X r':=λa b pins s σ H x y v u Q I rx ry q=>h a b pins s σ H x y v u Q I rx ry<|hi x y H Q q
theorem Hq.imp (h:Hq X f r)(hi:∀x H Q,r' x H Q->r x H Q):Hq X f r':=λpins s σ H x v Q I rx q=>h pins s σ H x v Q I rx<|hi x H Q q
theorem dg.imp (h:dg X f r)(hi:∀xs H Q,r' xs H Q->r xs H Q):dg X f r':=λpins s σ H xs us Q I rx q=>h pins s σ H xs us Q I rx<|hi xs H Q q
theorem xW.imp (h:xW X op r)(hi:∀x y H Q,r' x y H Q->r x y H Q):xW X op r':=λpins s σ H x y v u Q I rx ry q=>h pins s σ H x y v u Q I rx ry<|hi x y H Q q
theorem xV.imp (h:xV X r)(hi:∀x y z H Q,r' x y z H Q->r x y z H Q):xV X r':=λpins s σ H x y z v u w Q I rx ry rz q=>h pins s σ H x y z v u w Q I rx ry rz<|hi x y z H Q q
end
def rM (g:Int->Int->V):R2:=λx y H Q=>match x,y with
 |.int i,.int j=>Q (g i j) H
 |_,_=>False
def yq (C:Int->Int->Prop)(g:Int->Int->V):R2:=λx y H Q=>match x,y with
 |.int i,.int j=>C i j/\Q (g i j) H
 |_,_=>False
noncomputable def sE:V->Bool
 |.non=>true
 |_=>false
theorem Lj (x:V):decide (x=.non)=sE x:=by cases x<;>simp[sE]
section
theorem QJ (h:cA X f (Dt g)):cA X f (rM g):=h.imp λx y H Q q=>by cases x<;>first|exact False.elim q|(cases y<;>first|exact False.elim q|exact⟨_,_,rfl,rfl,q⟩)
theorem T4 (h:cA X f (rI C g)):cA X f (yq C g):=h.imp λx y H Q q=>by cases x<;>first|exact False.elim q|(cases y<;>first|exact False.elim q|exact⟨_,_,rfl,rfl,q.1,q.2⟩)
theorem tL:cA X (binaryOp .Add) (rM λi j=>.int<|i+j):=QJ aeK
theorem Gm:cA X (binaryOp .Sub) (rM λi j=>.int<|i - j):=QJ aeL
theorem Lk:cA X (binaryOp .Mult) (yq J1 λi j=>.int<|i*j):=T4 adv
theorem oDiv:cA X (binaryOp .FloorDiv) (yq J0 λi j=>.int<|i/j):=T4 ZD
theorem oMod:cA X (binaryOp .Mod) (yq (λ_ j=>0<j) λi j=>.int<|i % j):=T4 aeM
theorem ajX:cA X (binaryOp .Pow) (yq Ti λi j=>.int<|i^j.toNat):=T4 aeN
theorem ajY:cA X (binaryOp .BitXor) (rM λi j=>.int<|Builtin.bitXor i j):=QJ aeO
theorem oLt:cA X (compareOp .Lt) (rM λi j=>.bl<|decide<|i<j):=QJ ahF
theorem oLe:cA X (compareOp .LtE) (rM λi j=>.bl<|decide<|i<=j):=QJ ahG
theorem Wu:cA X (compareOp .Gt) (rM λi j=>.bl<|decide<|j<i):=QJ ahH
def ZJ:R2:=λx y H Q=>match y with
 |.non=>Q (.bl<|sE x) H
 |_=>False
def T5:R2:=λx y H Q=>match y with
 |.non=>Q (.bl<|!sE x) H
 |_=>False
theorem afh:cA X (compareOp .Is) ZJ:=aeQ.imp λx y H Q q=>by cases y<;>first|exact False.elim q|(refine⟨rfl,?_⟩;rw[Lj];exact q)
theorem ahM:cA X (compareOp .IsNot) T5:=adi.imp λx y H Q q=>by cases y<;>first|exact False.elim q|(refine⟨rfl,?_⟩;rw[Lj];exact q)
def rUM (g:Int->V):V->Hp->VK->Prop:=λx H Q=>match x with
 |.int i=>Q (g i) H
 |_=>False
theorem afi:Hq X (unaryOp .USub) (rUM λi=>.int<|-i):=V7.imp λx H Q q=>by cases x<;>first|exact False.elim q|exact⟨_,rfl,q⟩
end
def mU (t:TE):TT:=λσ H Q=>t σ H λx H'=>match x with
 |.bl k=>Q k H'
 |_=>False
def T6 (ta tb:TE):TE:=λσ H Q=>ta σ H λx H1=>match x with
 |.bl c=>if c=true then tb σ H1 Q else Q (.bl false) H1
 |_=>False
def ajZ (ta tb:TE):TE:=λσ H Q=>ta σ H λx H1=>match x with
 |.bl c=>if c=true then Q (.bl true) H1 else tb σ H1 Q
 |_=>False
def abG (ta:TE):TE:=λσ H Q=>ta σ H λx H1=>match x with
 |.bl c=>Q (.bl<|!c) H1
 |_=>False
def T7 (r r':R2)(ta tb tc:TE):TE:=λσ H Q=>ta σ H λx H1=>tb σ H1 λy H2=>r x y H2 λz H3=>match z with
 |.bl k=>if k=true then tc σ H3 λw' H4=>r' y w' H4 Q else Q (.bl false) H3
 |_=>False
section
variable {rest:List Expr}
theorem jY (ho:cA X (compareOp op) r)(ha:PE X a ta)(hb:PE X b tb)(hm:behindInMarks op b=false:=by first|exact Du _|rfl):PT X (.Compare a [op] [b] pos) (mU<|gR r ta tb):=by
 intro pins s σ H Q I h;refine wpAny_isTrue_Compare1 (aV (ha pins s σ H _ I h) λv s1 ⟨x,H1,I1,r1,q1⟩=>aV (hb pins s1 σ H1 _ I1 q1) λu s2 ⟨y,H2,I2,r2,q2⟩=>
  aV (ho pins s2 σ H2 x y v u _ I2 r1 r2 q2) λc s3 ⟨z,H3,I3,r3,q3⟩=>?_) hm
 cases z<;>first|exact False.elim q3|(cases r3;exact wpAny_truthy_bool ⟨H3,I3,q3⟩)
theorem peC (ho:cA X (compareOp op) r)(ha:PE X a ta)(hb:PE X b tb)(hm:behindInMarks op b=false:=by first|exact Du _|rfl):PE X (.Compare a [op] [b] pos) (gR r ta tb):=adk ho ha hb hm
theorem ptV (h:PE X e t)(he:∀whole,isTrue e X.env whole=(do let v<-whole;standAt e.pos;holding [v]<|truthy v):=by intro _;rfl):PT X e (mU t):=by intro pins s σ H Q I hw;refine isTrue_plain (aV (h pins s σ H _ I hw) λv s1 ⟨x,H1,I1,r1,q1⟩=>?_)<|he _;cases x<;>first|exact False.elim q1|(cases r1;exact wpAny_truthy_bool ⟨H1,I1,q1⟩)
theorem abI (ha:PE X a ta)(hb:PE X (.BoolOp .And (b::rest) pos) tb):PE X (.BoolOp .And (a::b::rest) pos) (T6 ta tb):=by
 intro pins s σ H Q I h;refine BoolOp_and<|aV (ha pins s σ H _ I h) λv s1 ⟨x,H1,I1,r1,q1⟩=>?_;cases x with
 |bl c=>
  cases r1;refine wpAny_truthy_bool ?_;cases c with
  |true=>exact hb pins s1 σ H1 Q I1 q1
  |false=>exact⟨.bl false,H1,I1,rfl,q1⟩
 |_=>exact False.elim q1
theorem ahN (ha:PE X a ta):PE X (.UnaryOp .Not a pos) (abG ta):=by
 intro pins s σ H Q I h;refine UnaryOp_<|aV (ha pins s σ H _ I h) λv s1 ⟨x,H1,I1,r1,q1⟩=>?_;cases x with
 |bl c=>cases r1;exact not_of<|wpAny_truthy_bool ⟨.bl<|!c,H1,I1,rfl,q1⟩
 |_=>exact False.elim q1
theorem aj0 (ho:cA X (compareOp op) r)(ho':cA X (compareOp op') r')(ha:PE X a ta)(hb:PE X b tb)(hc:PE X c tc)
  (hm:lastMarks [op,op'] [b,c]=false:=by with_unfolding_all rfl):PE X (.Compare a [op,op'] [b,c] pos) (T7 r r' ta tb tc):=by
 intro pins s σ H Q I h;refine Compare_chain (aV (ha pins s σ H _ I h) λv s1 ⟨x,H1,I1,r1,q1⟩=>chain_link (aV (hb pins s1 σ H1 _ I1 q1) λu s2 ⟨y,H2,I2,r2,q2⟩=>
  aV (ho pins s2 σ H2 x y v u _ I2 r1 r2 q2) λd s3 ⟨z,H3,I3,r3,q3⟩=>?_)) hm
 cases z with
 |bl k=>
  cases r3;refine wpAny_truthy_bool ?_;cases k with
  |false=>exact ite_ff ⟨.bl false,H3,I3,rfl,q3⟩
  |true=>exact ite_tt<|chain_last<|aV (hc pins s3 σ H3 _ I3 q3) λw' s4 ⟨z',H4,I4,r4,q4⟩=>ho' pins s4 σ H4 y z' u w' Q I4 r2 r4 q4
 |_=>exact False.elim q3
end
def sG (K:Frag):R2:=λx y H Q=>match x,y with
 |.ref p,.int i=>∃xs v,aR K H p xs/\bW xs i=some v/\Q v H
 |_,_=>False
def qI (K:Frag):R2:=λx y H Q=>match x,y with
 |.ref p,.int i=>∃xs v,bB K H p xs/\bW xs i=some v/\Q v H
 |_,_=>False
def afk (K:Frag):R2:=λx y H Q=>match y with
 |.int i=>∃ds n,(Has K H (.list ds) x\/Has K H (.tuple ds) x)/\bW ds i=some (.int n)/\Q (.int n) H
 |_=>False
section
variable {pos apos cpos:Pos}
theorem pL:qx X (sG X.K):=Ge.imp λx y H Q q=>by cases x<;>first|exact False.elim q|(cases y<;>first|exact False.elim q|(obtain⟨xs,v,h1,h2,h3⟩:=q;exact⟨_,xs,_,v,rfl,rfl,h1,h2,h3⟩))
theorem cN:qx X (qI X.K):=KZ.imp λx y H Q q=>by cases x<;>first|exact False.elim q|(cases y<;>first|exact False.elim q|(obtain⟨xs,v,h1,h2,h3⟩:=q;exact⟨_,xs,_,v,rfl,rfl,h1,h2,h3⟩))
theorem QK (h:n=m):lR n i=lR m i:=by rw[h]
theorem ixD:qx X (afk X.K):=(Ge.or KZ).imp λx y H Q q=>by
 cases y<;>first|exact False.elim q|skip
 rename_i i;obtain⟨ds,n,hh,h2,h3⟩:=q;have go:∀xs,aG X.K H ds xs->bW xs i=some (.int n):=λxs hl=>by
  unfold bW at h2 ⊢;rw[QK hl.length.symm];cases e:lR ds.length i with
  |none=>rw[e] at h2;cases h2
  |some j=>rw[e] at h2;obtain⟨v,q1,q2⟩:=hl.at h2;have q2':=q2;rw[<-q2'];exact q1
 rcases hh with⟨p,xs,rfl,hq,hl⟩|⟨p,xs,rfl,hq,hl⟩
 .exact .inl ⟨p,xs,i,_,rfl,rfl,hq,go xs hl,h3⟩
 .exact .inr ⟨p,xs,i,_,rfl,rfl,hq,go xs hl,h3⟩
theorem bh (hr:qx X r)(ha:PE X a ta)(hb:PE X b tb)(hs:zW b:=by intro _ _;rfl):PE X (.Subscript a b pos) (gR r ta tb):=TJ hr ha hb hs
def zY:S7:=λo i v H Q=>match o,i with
 |.ref p,.int k=>∃xs j,H p=some (.lst xs)/\lR xs.length k=some j/\Q (upd H p<|.lst<|xs.set j v)
 |_,_=>False
theorem Ln:xV X zY:=set_list.imp λx y z H Q q=>by cases x<;>first|exact False.elim q|(cases y<;>first|exact False.elim q|(obtain⟨xs,j,h1,h2,h3⟩:=q;exact⟨_,xs,_,j,rfl,rfl,h1,h2,h3⟩))
def T8 (K:Frag):List V->Hp->VK->Prop:=λxs H Q=>match xs with
 |[.ref p]=>∃ys,(aR K H p ys\/bB K H p ys)/\Q (.int ys.length) H
 |_=>False
theorem T9:dg X (.builtin "len") (T8 X.K):=K3.imp λxs H Q q=>by
 match xs,q with
 |[.ref p],⟨ys,h1,h2⟩=>exact⟨p,ys,rfl,h1,h2⟩
def Ua:List V->Hp->VK->Prop:=λxs H Q=>match xs with
 |[.int i]=>Q (.int<|if i<0 then -i else i) H
 |_=>False
theorem cAbs:dg X (.builtin "abs") Ua:=Zo.imp λxs H Q q=>by
 match xs,q with
 |[.int i],q=>exact⟨i,rfl,q⟩
def yr (K:Frag):List V->Hp->VK->Prop:=λxs H Q=>match xs with
 |[.ref p]=>∃ys,(aR K H p ys\/bB K H p ys)/\∀l,H l=none->Q (.ref l) (upd H l<|.lst ys)
 |_=>False
theorem J2:dg X (.type "list") (yr X.K):=K5.imp λxs H Q q=>by
 match xs,q with
 |[.ref p],⟨ys,h1,h2⟩=>exact⟨p,ys,rfl,h1,h2⟩
def abJ (K:Frag):List V->Hp->VK->Prop:=λxs H Q=>match xs with
 |[.ref p]=>∃ns:List Int,aR K H p (ns.map V.int)/\Q (.int ns.sum) H
 |_=>False
theorem afm (hc:X.calm=true):dg X (.builtin "sum") (abJ X.K):=(Wr hc).imp λxs H Q q=>by
 match xs,q with
 |[.ref p],⟨ys,h1,h2⟩=>exact⟨p,ys,rfl,h1,h2⟩
def abK (K:Frag):List V->Hp->VK->Prop:=λxs H Q=>match xs with
 |[.ref p]=>∃ns:List Int,aR K H p (ns.map V.int)/\0<ns.length/\∀M,M∈ns->(∀a,a∈ns->M<=a)->Q (.int M) H
 |_=>False
theorem aj1 (hc:X.calm=true):dg X (.builtin "min") (abK X.K):=(Ws hc).imp λxs H Q q=>by
 match xs,q with
 |[.ref p],⟨ys,h1,h2,h3⟩=>exact⟨p,ys,rfl,h1,h2,h3⟩
def zZ:V->List V->Hp->VK->Prop:=λx vs H Q=>match x,vs with
 |.ref l,[y]=>∃ys,H l=some (.lst ys)/\ys.length<sizeLine/\Q .non (upd H l<|.lst<|ys++[y])
 |_,_=>False
theorem aj2:Hv X "list.append" zZ:=λpins s σ H x xs v us Q I rx rv q=>HF pins s σ H x xs v us Q I rx rv (by
 match x,xs,q with
 |.ref l,[y],⟨ys,h1,h2,h3⟩=>exact⟨l,ys,y,rfl,rfl,h1,h2,h3⟩)
theorem Aa (ho:PE X o to)(ha:PA X [e] t)
  (hbase:attributeBase o "append" X.env (eval o X.env)=eval o X.env:=by rfl)
  (hfew:((backTo cpos (starEach [e] X.env)).all (λx=>!x.1) && (backToKw cpos (keywordEach [] X.env)).all (λx=>x.1.isSome)
   && decide (([e]:List Expr).length+([]:List Keyword).length+(if([]:List Keyword).isEmpty then 0 else 1)<30))=true:=by rfl)
  (hline:(apos.endLine==cpos.line)=true:=by rfl)(hs:starEach [e] X.env=(false,eval e X.env)::starEach [] X.env:=by rfl)(hplain:(backTo cpos<|starEach [] X.env).any (·.1)=false:=by rfl):
  PE X (.Call (.Attribute o "append" apos) [e] [] cpos) (uq X.K "list" zZ to t):=abA PySem.F.plainAttrs_list PySem.F.slot_list_append PySem.F.type_list_append aj2 ho ha hbase hfew hline hs hplain
structure cZ (P:Program)(w:World)(K:Frag)(mg:Str->Option Value)(base:Heap)(k:Nat)(x:Str)(ps:List Str)(sp:Sp):Prop where
 ex:∃f fd,aX P w K mg base bO k f fd ps sp/\mg x=some (.ref f)/\keepIn K (.ref f)=true/\Binds K fd ps []
theorem eG (C:cZ X.prog X.w X.K X.mg X.base k x ps sp)(hr:dh k X.A)(hg:Gl X x)(ha:PA X (e::es) t)
  (hdb:(x==("__debug__":Str))=false:=by decide)(he:starEach (e::es) X.env=(false,eval e X.env)::starEach es X.env:=by rfl)(hpl:(backTo pos<|starEach es X.env).any (·.1)=false:=by rfl):
  PE X (.Call (.Name x p) (e::es) [] pos) (iJ sp [] E0 t):=by
 obtain⟨f,fd,F,hm,hk,hb⟩:=C.ex;exact ado F hr hg hm hk hb .nil gW ha hdb he hpl
def Ab:Kw:=λvs σ H Q=>match vs with
 |[]=>Q σ H
 |_=>False
def pN (t:TG)(u:Kw):Kw:=λvs σ H Q=>match vs with
 |v::r=>t v σ H λσ' H'=>u r σ' H' Q
 |[]=>False
def J3 (K:Frag)(n:Nat)(t:Kw):TG:=λv σ H Q=>match v with
 |.ref a=>∃xs,bB K H a xs/\xs.length=n/\t xs σ H Q
 |_=>False
theorem pO:qu X [] Ab:=by
 intro pins s σ H vs us Q I r h;cases vs with
 |nil=>cases r;exact assignInOrder_nil ⟨σ,H,I,h⟩
 |cons _ _=>exact False.elim h
theorem fW (h1:PG X e t)(h2:qu X es u)
  (hs:(assignEach (e::es) X.env).map (·.2)=assign e X.env::(assignEach es X.env).map (·.2):=by rfl):qu X (e::es) (pN t u):=by
 intro pins s σ H vs us Q I r h;cases vs with
 |nil=>exact False.elim h
 |cons v vr=>
  cases r with
  |cons r rr=>rw[hs];refine assignInOrder_cons<|aV (h1 pins s σ H _ _ _ I r h) λ_ s1 ⟨σ1,H1,I1,q1⟩=>?_;exact h2 pins s1 σ1 H1 _ _ Q I1 rr q1
theorem sH (hc:X.calm=true)(h:qu X es t)
  (hn:(assignEach es X.env).length=n:=by rfl)(hst:(assignEach es X.env).findIdx? (·.1)=none:=by rfl):PG X (.Tuple es k pos) (J3 X.K n t):=by
 intro pins s σ H v u Q I r hw;cases v with
 |ref a=>
  obtain⟨xs,hq,hl,hw⟩:=hw;exact aeC hc h hn hst pins s σ H (.ref a) u Q I r ⟨a,xs,rfl,hq,hl,hw⟩
 |_=>exact False.elim hw
def J4 (i:Nat)(te:TE)(ti:V1):TS:=λD σ H=>match σ[i]? with
 |some (some x)=>te σ H λy H1=>ti x y H1 λz H2=>D.nx (σ.set i<|some z) H2
 |_=>False
theorem ahO (hN:X.N.Nodup)(hi:X.N[i]? =some x)(hx:Loc X.env.scope x)(he:PE X e te)(ho:xW X op ti)(hf:X.fn x=true\/X.env.scope.names.lookup x=some .local:=by first|exact .inl rfl|exact .inr rfl|assumption):
  PS X (.AugAssign (.Name x pos') op e pos) (J4 i te ti):=λpins s σ H D I h=>aeD hN hi hx he ho hf pins s σ H D I (by
 unfold J4 at h;split at h
 .rename_i v e;exact⟨v,e,h⟩
 .exact h.elim)
theorem afn:xW X .Add (rM λi j=>.int<|i+j):=aeG.imp λx y H Q q=>by cases x<;>first|exact False.elim q|(cases y<;>first|exact False.elim q|exact⟨_,_,rfl,rfl,q⟩)
theorem aj3:xW X .Sub (rM λi j=>.int<|i - j):=aeH.imp λx y H Q q=>by cases x<;>first|exact False.elim q|(cases y<;>first|exact False.elim q|exact⟨_,_,rfl,rfl,q⟩)
end
theorem afo {K:Frag}:
  (qe CX P w K mg base N qual scope f cd A outer s H E).K=K:=rfl
theorem afp:(fM X scope N' cl C s H ex).K=X.K:=rfl
def vJ (J:It)(g:TG)(tb:TS)(D:Ends)(σ:St)(H1:Hp):Prop:=∃W:Nat->Nat->St->Hp->Prop,(∃m,W 0 m σ H1)/\∀i m σ H,W i m σ H->
 (J.stop i H/\D.nx σ H)\/(J.go i H/\∃N:St->Hp->Prop,(∀σ' H',N σ' H'->∃m',m'<m/\W (i+1) m' σ' H')/\∀x H',J.Kz i H x H'->g x σ H' λσ2 H2=>tb {D with nx:=N,ct:=N,bk:=D.nx} σ2 H2)
theorem iy:Te wi g tb D σ H=wi σ H λJ H1=>vJ J g tb D σ H1:=rfl
theorem forL {K:Frag}(Pv:Nat->St->Hp->Prop)(h0:Pv 0 σ H)(hl:∀i σ H,i<=xs.length->Pv i σ H->aR K H a xs)
  (hs:∀i x σ H,xs[i]? =some x->Pv i σ H->g x σ H λσ2 H2=>tb {D with nx:=Pv<|i+1,ct:=Pv<|i+1,bk:=D.nx} σ2 H2)(hd:∀σ H,Pv xs.length σ H->D.nx σ H):vJ (xY K a) g tb D σ H:=Zi Pv h0 hl hs hd
theorem aj4 {K:Frag}(Pv:Nat->St->Hp->Prop)(h0:Pv 0 σ H)(hl:∀i σ H,i<=xs.length->Pv i σ H->aR K H a xs)
  (hs:∀i x σ H p,xs[i]? =some x->Pv i σ H->H p=none->g (.ref p) σ (upd H p<|.tup [.int (i:Int),x]) λσ2 H2=>tb {D with nx:=Pv<|i+1,ct:=Pv<|i+1,bk:=D.nx} σ2 H2)(hd:∀σ H,Pv xs.length σ H->D.nx σ H):
  vJ (Ite K a) g tb D σ H:=by
 refine⟨λi m σ H=>m=xs.length - i/\i<=xs.length/\Pv i σ H,⟨xs.length,by simp,zero_le _,h0⟩,?_⟩;rintro i m σ H ⟨rfl,hi,p⟩;have q:=hl i σ H hi p;by_cases hlt:i<xs.length
 .refine .inr ⟨⟨xs,xs[i],q,by simp[hlt]⟩,Pv<|i+1,λσ' H' p'=>⟨xs.length - (i+1),by omega,rfl,hlt,p'⟩,λx H' y=>?_⟩;obtain⟨pp,z,hn,e1,hz,e2⟩:=y;subst e1 e2;exact hs i z σ _ pp (hz xs q) p hn
 .have e:i=xs.length:=by omega
  subst e;exact .inl ⟨⟨xs,q,le_refl _⟩,hd σ H p⟩
theorem gO.nil:gO [] []:=gO.refl
theorem gO.skip (h:gO a b):gO (none::a) (x::b):=λj v e=>by
 cases j with
 |zero=>simp at e
 |succ j=>exact h j v<|by simpa using e
theorem Lp (h:0<n):lR n (-1)=some (n - 1):=by unfold lR;rw[if_neg<|by decide,if_pos<|by omega];congr 1;omega
noncomputable def hide (D:Addr)(H:Hp):Hp:=λb=>if b=D then none else H b
theorem j7:Same (hide D H) H:=λb o e=>by
 unfold hide at e;split at e
 .cases e
 .exact e
theorem Ac:hide D H D=none:=by unfold hide;rw[if_pos rfl]
theorem hide_ne (h:b≠D):hide D H b=H b:=by unfold hide;rw[if_neg h]
theorem j8:hide D (upd H D o)=hide D H:=by funext b;unfold hide upd;split<;>rfl
theorem vK (h:H D=none):hide D H=H:=by
 funext b;unfold hide;split
 .rename_i e;rw[e];exact h.symm
 .rfl
theorem Wv (h:H D=none)(s:Same H G):Same H (hide D G):=λb o e=>by rw[hide_ne<|aU e h];exact s b o e
theorem ux (s:Same H G):Same (hide D H) (hide D G):=λb o e=>by
 unfold hide at e ⊢;split at e
 .cases e
 .rename_i hb;rw[if_neg hb];exact s b o e
theorem aF (h:H p=none):Same H (upd H p o):=λb u e=>by rw[ak<|aU e h];exact e
theorem lcL {K:Frag}(hq:aR K H1 a xs)(hz:xs.length<sizeLine)(I:Nat->List V->Hp->Prop)(h0:I 0 [] H1)
  (hs:∀D i x ys H (N:VK),xs[i]? =some x->H D=some (.lst ys)->H1 D=none->ys.length=i->Same H1 (hide D H)->I i ys (hide D H)->
   (∀y H4,H4 D=some (.lst ys)->Same (hide D H) (hide D H4)->I (i+1) (ys++[y]) (hide D H4)->N y H4)->g x (cD cap σ) H λσ2 H2=>gO (cD cap σ) σ2/\te σ2 H2 N)
  (hQ:∀D ys H,H D=some (.lst ys)->H1 D=none->ys.length=xs.length->Same H1 (hide D H)->I xs.length ys (hide D H)->Q (.ref D) H):Gj (xY K a) cap g T3 te σ H1 Q:=by
 intro D hD;refine⟨λi m H=>m=xs.length - i/\i<=xs.length/\∃ys,H D=some (.lst ys)/\ys.length=i/\Same H1 (hide D H)/\I i ys (hide D H),⟨_,rfl,zero_le _,[],ao,rfl,by rw[j8,vK hD];exact Same.refl _,by rw[j8,vK hD];exact h0⟩,?_⟩;rintro i m H ⟨rfl,hi,ys,Bg,hlen,hsame,hI⟩;have uy:=(j7).seq<|hsame.seq hq;by_cases hlt:i<xs.length
 .refine .inr ⟨⟨xs,xs[i],uy,by simp[hlt]⟩,λx H' y=>?_⟩;obtain⟨e,y⟩:=y;subst e;refine hs D i x ys _ _ (y xs uy) Bg hD hlen hsame hI λv H4 q1 q2 q3=>?_;refine⟨ys,q1,by omega,xs.length - (i+1),by omega,rfl,hlt,ys++[v],ao,by simp[hlen],?_,?_⟩
  .rw[j8];exact hsame.trans q2
  .rw[j8];exact q3
 .have e:i=xs.length:=by omega
  subst e;exact .inl ⟨⟨xs,uy,le_refl _⟩,hQ D ys H Bg hD hlen hsame hI⟩
theorem lcR {lo:Int}(hz:n<sizeLine)(I:Nat->List V->Hp->Prop)(h0:I 0 [] H1)
  (hs:∀D i ys H (N:VK),i<n->H D=some (.lst ys)->H1 D=none->ys.length=i->Same H1 (hide D H)->I i ys (hide D H)->
   (∀y H4,H4 D=some (.lst ys)->Same (hide D H) (hide D H4)->I (i+1) (ys++[y]) (hide D H4)->N y H4)->g (.int (lo+i)) (cD cap σ) H λσ2 H2=>gO (cD cap σ) σ2/\te σ2 H2 N)
  (hQ:∀D ys H,H D=some (.lst ys)->H1 D=none->ys.length=n->Same H1 (hide D H)->I n ys (hide D H)->Q (.ref D) H):Gj (V3 lo n) cap g T3 te σ H1 Q:=by
 intro D hD;refine⟨λi m H=>m=n - i/\i<=n/\∃ys,H D=some (.lst ys)/\ys.length=i/\Same H1 (hide D H)/\I i ys (hide D H),⟨_,rfl,zero_le _,[],ao,rfl,by rw[j8,vK hD];exact Same.refl _,by rw[j8,vK hD];exact h0⟩,?_⟩;rintro i m H ⟨rfl,hi,ys,Bg,hlen,hsame,hI⟩;by_cases hlt:i<n
 .refine .inr ⟨hlt,λx H' y=>?_⟩;obtain⟨e,e2⟩:=y;subst e e2;refine hs D i ys _ _ hlt Bg hD hlen hsame hI λv H4 q1 q2 q3=>?_;refine⟨ys,q1,by omega,n - (i+1),by omega,rfl,hlt,ys++[v],ao,by simp[hlen],?_,?_⟩
  .rw[j8];exact hsame.trans q2
  .rw[j8];exact q3
 .have e:i=n:=by omega
  subst e;exact .inl ⟨le_refl _,hQ D ys H Bg hD hlen hsame hI⟩
end L2
namespace L2
theorem PT.imp (h:PT X e t)(ht:∀σ H Q,t' σ H Q->t σ H Q):PT X e t':=λpins s σ H Q I q=>h pins s σ H Q I<|ht σ H Q q
theorem PW.imp (h:PW X e t)(ht:∀σ H Q,t' σ H Q->t σ H Q):PW X e t':=λwh pins s σ H Q I q=>h wh pins s σ H Q I<|ht σ H Q q
theorem PS.imp (h:PS X e t)(ht:∀D σ H,t' D σ H->t D σ H):PS X e t':=λpins s σ H Q I q=>h pins s σ H Q I<|ht Q σ H q
theorem iG.imp (h:iG X e t)(ht:∀D σ H,t' D σ H->t D σ H):iG X e t':=λpins s σ H Q I q=>h pins s σ H Q I<|ht Q σ H q
theorem PA.imp (h:PA X e t)(ht:∀σ H Q,t' σ H Q->t σ H Q):PA X e t':=λpos pins s σ H Q I q=>h pos pins s σ H Q I<|ht σ H Q q
theorem PG.imp (h:PG X e t)(ht:∀v σ H Q,t' v σ H Q->t v σ H Q):PG X e t':=λpins s σ H v u Q I r q=>h pins s σ H v u Q I r<|ht v σ H Q q
theorem PI.imp (h:PI X tg e t)(ht:∀σ H Q,t' σ H Q->t σ H Q):PI X tg e t':=λpins s σ H Q I q=>h pins s σ H Q I<|ht σ H Q q
theorem PO.imp (h:PO X e t)(ht:∀σ H Q,t' σ H Q->t σ H Q):PO X e t':=λpins s σ H Q I q=>h pins s σ H Q I<|ht σ H Q q
end L2
namespace VM
open L2
abbrev St:=L2.St
inductive Tg where
 |fr|ow|io|rf|ce
 deriving DecidableEq
noncomputable def Tg.dat:Tg->Bool
 |.rf=>false
 |.ce=>false
 |_=>true
noncomputable def Tg.own:Tg->Bool
 |.fr=>false
 |.rf=>false
 |_=>true
abbrev GS:=List<|Option<|Tg×PyData
abbrev VE:=GS->Option PyData
noncomputable def qz:HO->Bool
 |.tup _=>true
 |.dU _ (.tup _)=>true
 |_=>false
structure bA (F H F' H':Hp):Prop where
 hh:Same H H'
 ff:Same F F'
 fh:Same F' H'
 new:∀a o,F' a=some o->F a=some o\/H a=none\/qz o=true
 pl:∀a o u,F' a=some (.dU o<|.lst u)->F a=some (.dU o<|.lst u)
theorem bA.refl (h:Same F H):bA F H F H:=⟨Same.refl _,Same.refl _,h,λ_ _ e=>.inl e,λ_ _ _ e=>e⟩
theorem bA.trans (a:bA F H F1 H1)(b:bA F1 H1 F2 H2):bA F H F2 H2:=⟨a.hh.trans b.hh,a.ff.trans b.ff,b.fh,λp o e=>by
 rcases b.new p o e with h|h|h
 .exact a.new p o h
 .exact .inr<|.inl<|a.hh.free h
 .exact .inr (.inr h),λp o u e=>a.pl p o u (b.pl p o u e)⟩
theorem bA.alloc (h:Same F H)(hp:H p=none):bA F H F (upd H p o):=
 ⟨aF hp,Same.refl _,h.trans<|aF hp,λ_ _ e=>.inl e,λ_ _ _ e=>e⟩
theorem bA.DK (h:Same F H)(hp:H p=none)(ho:∀x u,o≠ .dU x u:=by intros;intro z;cases z):bA F H (upd F p o) (upd H p o):=by
 have hF:=h.free hp;refine⟨aF hp,aF hF,λb u e=>?_,λb u e=>?_,λb x u e=>?_⟩
 .by_cases hb:b=p
  .subst hb;rw[ao] at e ⊢;exact e
  .rw[ak hb] at e ⊢;exact h b u e
 .by_cases hb:b=p
  .subst hb;exact .inr<|.inl hp
  .rw[ak hb] at e;exact .inl e
 .by_cases hb:b=p
  .subst hb;rw[ao] at e;exact absurd (Option.some.inj e)<|ho _ _
  .rw[ak hb] at e;exact e
mutual
noncomputable def pP:PyData->Bool
 |.none=>true
 |.bool _=>true
 |.int _=>true
 |.str _=>true
 |.tuple ds=>j9 ds
 |_=>false
noncomputable def j9:List PyData->Bool
 |[]=>true
 |d::ds=>pP d && j9 ds
end
def wide (F H:Hp):Hp:=λa=>match H a with
 |some o=>if qz o=true then some o else F a
 |none=>none
theorem Lq (h:H a=some o)(hi:qz o=true):wide F H a=some o:=by unfold wide;rw[h];simp only[hi,if_true]
theorem yt (g:bA F H F1 H'):bA F H (wide F1 H') H':=by
 have key:∀a o,F1 a=some o->wide F1 H' a=some o:=λa o e=>by
  have e2:=g.fh a o e;unfold wide;rw[e2];by_cases hi:qz o=true
  .simp only[hi,if_true]
  .simp only[hi];exact e
 refine⟨g.hh,λa o e=>key a o<|g.ff a o e,λa o e=>?_,λa o e=>?_,λa x u e=>?_⟩
 .unfold wide at e;cases q:H' a with
  |none=>rw[q] at e;cases e
  |some u=>
   rw[q] at e;by_cases hi:qz u=true
   .simp only[hi,if_true] at e;exact e
   .simp only[hi] at e;rw[<-q];exact g.fh a o e
 .unfold wide at e;cases q:H' a with
  |none=>rw[q] at e;cases e
  |some u=>
   rw[q] at e;by_cases hi:qz u=true
   .simp only[hi,if_true] at e;cases e;exact .inr<|.inr hi
   .simp only[hi] at e;exact g.new a o e
 .unfold wide at e;cases q:H' a with
  |none=>rw[q] at e;cases e
  |some w=>
   rw[q] at e;by_cases hi:qz w=true
   .simp only[hi,if_true] at e;cases e;cases hi
   .simp only[hi] at e;exact g.pl a x u e
theorem Ww (h:H a=some (.lst xs))(hf:F a=none):wide F H a=none:=by unfold wide;rw[h];simpa [qz] using hf
theorem ZK (h:bB K H a xs):bB K (wide F H) a xs:=by
 rcases h with(h|⟨o,h⟩)|h
 .exact .inl<|.inl<|Lq h rfl
 .exact .inl<|.inr ⟨o,Lq h rfl⟩
 .exact .inr h
mutual
theorem vL:∀{d:PyData}{v:V},pP d=true->Has K H d v->Has K (wide F H) d v
 |.none,_,_,h=>h
 |.bool _,_,_,h=>h
 |.int _,_,_,h=>h
 |.str _,_,_,h=>h
 |.list _,_,f,_=>by simp[pP] at f
 |.tuple ds,_,f,⟨a,xs,e,hq,hl⟩=>⟨a,xs,e,ZK hq,yu (by simpa [pP] using f) hl⟩
 |.dict _,_,f,_=>by simp[pP] at f
theorem yu:∀{ds:List PyData}{vs:List V},j9 ds=true->aG K H ds vs->aG K (wide F H) ds vs
 |[],_,_,h=>h
 |d::ds,_,f,⟨v,r,h1,h2,h3⟩=>by simp only[j9,and_eq_true] at f;exact⟨v,r,h1,vL f.1 h2,yu f.2 h3⟩
end
noncomputable def fO (K:Frag)(H₀ F H:Hp)(d:PyData)(v:V):Prop:=∃a ds xs,d=.list ds/\v=.ref a/\H a=some (.lst xs)/\F a=none/\H₀ a=none/\aG K F ds xs
noncomputable def rB (K:Frag)(F:Hp):PyData->V->Prop
 |.dict [(.int i,.none)],v=>∃a:Addr,i=(a:Int)/\v=.ref a
 |d,v=>Has K F d v
noncomputable def ItemsAre (K:Frag)(F:Hp):List PyData->List V->Prop
 |[],vs=>vs=[]
 |d::ds,vs=>∃v r,vs=v::r/\rB K F d v/\ItemsAre K F ds r
noncomputable def KeysAre (K:Frag)(F:Hp):List (PyData×PyData)->List (L2.Key×V)->Prop
 |[],vs=>vs=[]
 |(k,d)::ds,vs=>∃k' v r,vs=(k',v)::r/\(match k with|.int i=>k'=Sum.inl i|.str x=>k'=Sum.inr x|_=>False)/\rB K F d v/\KeysAre K F ds r
noncomputable def qR (K:Frag)(F:Hp):List (PyData×PyData)->List (Str×V)->Prop
 |[],vs=>vs=[]
 |(k,d)::ds,vs=>∃x v r,vs=(x,v)::r/\k=.str x/\rB K F d v/\qR K F ds r
def pQ (K:Frag)(F:Hp):PyData->HO->Prop
 |.list ds,o=>∃xs,o=.lst xs/\ItemsAre K F ds xs
 |.dict ks,o=>∃kvs,o=.dK kvs/\KeysAre K F ks kvs
 |.tuple [.int C,.int dx,.dict fs],o=>∃C' Wx fvs,C=((C':Nat):Int)/\dx=((Wx:Nat):Int)/\o=.ins C' Wx fvs/\qR K F fs fvs
 |.tuple [.int C],o=>∃C',C=((C':Nat):Int)/\o=.own C'
 |_,_=>False
def yw (K:Frag)(H₀ F H:Hp)(d:PyData)(v:V):Prop:=∃a c o,d=.tuple [.int ((a:Addr):Int),c]/\v=.ref a/\H a=some o/\F a=none/\H₀ a=none/\pQ K F c o
theorem rB.same (e:Same F F')(h:rB K F d v):rB K F' d v:=by
 unfold rB at h ⊢;split at h
 .exact h
 .exact Has.same e h
theorem ItemsAre.same (e:Same F F'):∀{ds:List PyData}{vs:List V},ItemsAre K F ds vs->ItemsAre K F' ds vs
 |[],_,h=>h
 |_::_,_,⟨v,r,h1,h2,h3⟩=>⟨v,r,h1,h2.same e,ItemsAre.same e h3⟩
theorem KeysAre.same (e:Same F F'):∀{ds:List (PyData×PyData)}{vs:List (L2.Key×V)},KeysAre K F ds vs->KeysAre K F' ds vs
 |[],_,h=>h
 |(_,_)::_,_,⟨k,v,r,h1,h2,h3,h4⟩=>⟨k,v,r,h1,h2,h3.same e,KeysAre.same e h4⟩
theorem qR.same (e:Same F F'):∀{ds:List (PyData×PyData)}{vs:List (Str×V)},qR K F ds vs->qR K F' ds vs
 |[],_,h=>h
 |(_,_)::_,_,⟨k,v,r,h1,h2,h3,h4⟩=>⟨k,v,r,h1,h2,h3.same e,qR.same e h4⟩
theorem pQ.same (e:Same F F')(h:pQ K F c o):pQ K F' c o:=by
 unfold pQ at h ⊢;split at h
 .obtain⟨xs,h1,h2⟩:=h;exact⟨xs,h1,h2.same e⟩
 .obtain⟨xs,h1,h2⟩:=h;exact⟨xs,h1,h2.same e⟩
 .obtain⟨C',Wx,fvs,h1,h2,h3,h4⟩:=h;exact⟨C',Wx,fvs,h1,h2,h3,h4.same e⟩
 .exact h
 .exact h.elim
theorem pQ.mut (h:pQ K F c o):qz o=false:=by
 unfold pQ at h;split at h
 .obtain⟨xs,rfl,_⟩:=h;rfl
 .obtain⟨xs,rfl,_⟩:=h;rfl
 .obtain⟨C',Wx,fvs,_,_,rfl,_⟩:=h;rfl
 .obtain⟨C',_,rfl⟩:=h;rfl
 .exact h.elim
def Wy (K:Frag)(au:Nat->Option Addr)(H₀ F H:Hp)(i:Nat):Tg->PyData->V->Prop
 |.fr,d,v=>Has K F d v
 |.ow,d,v=>fO K H₀ F H d v
 |.io,d,v=>fO K H₀ F H d v/\∃a,v=.ref a/\au i=some a
 |.rf,d,v=>∃a:Addr,d=.int (a:Int)/\v=.ref a
 |.ce,d,v=>yw K H₀ F H d v
structure VI (K:Frag)(au:Nat->Option Addr)(G H₀:Hp)(S:GS)(F:Hp)(σ:St)(H:Hp):Prop where
 len:S.length=σ.length
 same:Same H₀ H
 gf:Same G F
 new:∀a o,F a=some o->G a=some o\/H₀ a=none\/qz o=true
 sub:Same F H
 slot:∀(i:Nat) t d,S[i]? =some (some (t,d))->∃v,σ[i]? =some (some v)/\Wy K au H₀ F H i t d v
 inj:∀(i j:Nat) t t' d d' v,S[i]? =some (some (t,d))->S[j]? =some (some (t',d'))->t.own=true->t'.own=true->σ[i]? =some (some v)->σ[j]? =some (some v)->i=j
 pl:∀a o u,F a=some (.dU o<|.lst u)->G a=some (.dU o<|.lst u)
section
variable {σ:St}
theorem fO.grow (g:bA F H F' H')(h:fO K H₀ F H d v):fO K H₀ F' H' d v:=by
 obtain⟨a,ds,xs,e1,e2,e3,e4,e5,e6⟩:=h;refine⟨a,ds,xs,e1,e2,g.hh _ _ e3,?_,e5,e6.same g.ff⟩;cases q:F' a with
 |none=>rfl
 |some o=>
  rcases g.new a o q with z|z|z
  .rw[e4] at z;cases z
  .rw[e3] at z;cases z
  .have:=g.fh a o q;rw[g.hh _ _ e3] at this;cases this;simp[qz] at z
theorem yw.grow (g:bA F H F' H')(h:yw K H₀ F H d v):yw K H₀ F' H' d v:=by
 obtain⟨a,c,o,e1,e2,e3,e4,e5,e6⟩:=h;refine⟨a,c,o,e1,e2,g.hh _ _ e3,?_,e5,e6.same g.ff⟩;cases q:F' a with
 |none=>rfl
 |some o'=>
  rcases g.new a o' q with z|z|z
  .rw[e4] at z;cases z
  .rw[e3] at z;cases z
  .have:=g.fh a o' q;rw[g.hh _ _ e3] at this;cases this;rw[e6.mut] at z;cases z
theorem VI.grow (I:VI K au G H₀ S F σ H)(g:bA F H F' H'):VI K au G H₀ S F' σ H' where
 len:=I.len
 same:=I.same.trans g.hh
 gf:=I.gf.trans g.ff
 new:=λa o e=>by
  rcases g.new a o e with z|z|z
  .exact I.new a o z
  .exact .inr<|.inl<|I.same.free z
  .exact .inr<|.inr z
 sub:=g.fh
 slot:=λi t d e=>by
  obtain⟨v,e1,h⟩:=I.slot i t d e;refine⟨v,e1,?_⟩;cases t with
  |fr=>exact Has.same g.ff h
  |ow=>exact fO.grow g h
  |io=>exact⟨fO.grow g h.1,h.2⟩
  |rf=>exact h
  |ce=>exact yw.grow g h
 inj:=I.inj
 pl:=λa o u e=>I.pl a o u<|g.pl a o u e
end
noncomputable abbrev Rel:=Frag->Hp->Hp->Hp->Hp->PyData->V->Prop
noncomputable def RW:Rel:=λK _ _ _ H' d v=>Has K H' d v
noncomputable def RS:Rel:=λK _ _ F' _ d v=>Has K F' d v
noncomputable def RM:Rel:=λK _ _ F' H' d v=>Has K F' d v\/∃ds a xs,d=.list ds/\v=.ref a/\aR K H' a xs/\aG K F' ds xs
noncomputable def RN:Rel:=λK _ H F' H' d v=>∃ds a xs,d=.list ds/\v=.ref a/\H a=none/\F' a=none/\H' a=some (.lst xs)/\aG K F' ds xs
noncomputable def tV (K:Frag)(R:Rel)(f:VE):TE:=λσ H Q=>∃au G H₀ S F,VI K au G H₀ S F σ H/\∃d,f S=some d/\∀v F' H',bA F H F' H'->R K F H F' H' d v->Q v H'
theorem tV.imp (hf:∀S d,f S=some d->f' S=some d)
  (hR:∀(F F' H':Hp) S d v,f S=some d->bA F H F' H'->R' K F H F' H' d v->∃F'',bA F H F'' H'/\R K F H F'' H' d v)(h:tV K R f σ H Q):tV K R' f' σ H Q:=by
 obtain⟨au,G,H₀,S,F,I,d,e,q⟩:=h;refine⟨au,G,H₀,S,F,I,d,hf S d e,λv F' H' g r=>?_⟩;obtain⟨F'',g2,r2⟩:=hR F F' H' S d v e g r;exact q v F'' H' g2 r2
section
variable {f:VE}
theorem sw (h:PE X e (tV X.K RS f)):PE X e (tV X.K RW f):=h.imp λ_ _ _ q=>tV.imp (λ_ _ h=>h) (λF F' H' S d v _ g r=>⟨F',g,Has.same g.fh r⟩) q
theorem sm (h:PE X e (tV X.K RS f)):PE X e (tV X.K RM f):=h.imp λ_ _ _ q=>tV.imp (λ_ _ h=>h) (λF F' H' S d v _ g r=>⟨F',g,.inl r⟩) q
theorem mw (h:PE X e (tV X.K RM f)):PE X e (tV X.K RW f):=h.imp λ_ _ _ q=>tV.imp (λ_ _ h=>h) (λF F' H' S d v _ g r=>⟨F',g,by
 rcases r with r|⟨ds,a,xs,rfl,rfl,h1,h2⟩
 .exact Has.same g.fh r
 .exact⟨a,xs,rfl,h1,h2.same g.fh⟩⟩) q
theorem nm (h:PE X e (tV X.K RN f)):PE X e (tV X.K RM f):=h.imp λ_ _ _ q=>tV.imp (λ_ _ h=>h) (λF F' H' S d v _ g r=>⟨F',g,by
 obtain⟨ds,a,xs,h1,h2,h3,h4,h5,h6⟩:=r;exact .inr ⟨ds,a,xs,h1,h2,aR.of h5,h6⟩⟩) q
theorem RN.dU (g:bA F H F' H')(r:RN K F H F' H' d v):∃F'',bA F H F'' H'/\RS K F H F'' H' d v:=by
 obtain⟨ds,a,xs,h1,h2,h3,h4,h5,h6⟩:=r;refine⟨upd F' a<|.lst xs,⟨g.hh,g.ff.trans<|aF h4,λb o e=>?_,λb o e=>?_,λb x u e=>?_⟩,?_⟩
 .by_cases hb:b=a
  .subst hb;rw[ao] at e;cases e;exact h5
  .rw[ak hb] at e;exact g.fh b o e
 .by_cases hb:b=a
  .subst hb;exact .inr<|.inl h3
  .rw[ak hb] at e;exact g.new b o e
 .by_cases hb:b=a
  .subst hb;rw[ao] at e;cases e
  .rw[ak hb] at e;exact g.pl b x u e
 .rw[h1];exact⟨a,xs,h2,aR.of ao,h6.same<|aF h4⟩
theorem ns (h:PE X e (tV X.K RN f)):PE X e (tV X.K RS f):=h.imp λ_ _ _ q=>tV.imp (λ_ _ h=>h) (λF F' H' S d v _ g r=>RN.dU g r) q
theorem nw (h:PE X e (tV X.K RN f)):PE X e (tV X.K RW f):=mw<|nm h
def yx (f:VE):VE:=λS=>match f S with
 |some d=>if pP d=true then some d else none
 |none=>none
theorem sI (h:yx f S=some d):f S=some d/\pP d=true:=by
 unfold yx at h;cases q:f S with
 |none=>rw[q] at h;cases h
 |some u=>
  rw[q] at h;simp only at h;split at h
  .cases h;exact⟨rfl,by assumption⟩
  .cases h
theorem ws (h:PE X e (tV X.K RW f)):PE X e (tV X.K RS<|yx f):=h.imp λ_ H Q q=>by refine tV.imp (λS d h=>(sI h).1) (λF F' H' S d v he g r=>⟨wide F' H',yt g,vL (sI he).2 r⟩) q
end
noncomputable def vN (i:Nat):VE:=λS=>match S[i]? with
 |some (some (.fr,d))=>some d
 |some (some (.ow,d))=>some d
 |some (some (.io,d))=>some d
 |_=>none
noncomputable def vF (i:Nat):VE:=λS=>match S[i]? with
 |some (some (.fr,d))=>some d
 |_=>none
noncomputable def vC (d:PyData):VE:=λ_=>some d
section
variable {pos:Pos}
theorem dN (h:PE X e (vR i)):PE X e (tV X.K RM<|vN i):=h.imp λσ H Q q=>by
 obtain⟨au,G,H₀,S,F,I,d,e,q⟩:=q;unfold vN at e;split at e
 .rename_i d' hS;cases e;obtain⟨v,hv,hs⟩:=I.slot i .fr d hS;unfold vR;rw[hv];exact q v F H (bA.refl I.sub)<|.inl hs
 .rename_i d' hS;cases e;obtain⟨v,hv,hs⟩:=I.slot i .ow d hS;unfold vR;rw[hv];obtain⟨a,ds,xs,e1,e2,e3,e4,e5,e6⟩:=hs;exact q v F H (bA.refl I.sub)<|.inr ⟨ds,a,xs,e1,e2,aR.of e3,e6⟩
 .rename_i d' hS;cases e;obtain⟨v,hv,hs⟩:=I.slot i .io d hS;unfold vR;rw[hv];obtain⟨a,ds,xs,e1,e2,e3,e4,e5,e6⟩:=hs.1;exact q v F H (bA.refl I.sub)<|.inr ⟨ds,a,xs,e1,e2,aR.of e3,e6⟩
 .cases e
theorem dF (h:PE X e (vR i)):PE X e (tV X.K RS<|vF i):=h.imp λσ H Q q=>by
 obtain⟨au,G,H₀,S,F,I,d,e,q⟩:=q;unfold vF at e;split at e
 .rename_i d' hS;cases e;obtain⟨v,hv,hs⟩:=I.slot i .fr d hS;unfold vR;rw[hv];exact q v F H (bA.refl I.sub) hs
 .cases e
theorem dC (h:PE X e (tC v))(hv:∀H,Has X.K H d v):PE X e (tV X.K RS<|vC d):=h.imp λσ H Q q=>by obtain⟨au,G,H₀,S,F,I,d',e,q⟩:=q;cases e;exact q v F H (bA.refl I.sub)<|hv F
theorem jg {i j}:PE X (.Constant (.int i) j pos) (tV X.K RS<|vC<|.int i):=dC aJ λ_=>rfl
theorem ahP {b j}:PE X (.Constant (.bool b) j pos) (tV X.K RS<|vC<|.bool b):=dC vg λ_=>rfl
theorem abL {j}:PE X (.Constant .none j pos) (tV X.K RS<|vC .none):=dC xT λ_=>rfl
theorem aj5 {x j}(hx:(PyData.str x).canLay0=true:=by rfl):PE X (.Constant (.str x) j pos) (tV X.K RS<|vC<|.str x):=dC pF λ_=>⟨rfl,hx⟩
end
noncomputable def v2 (h:PyData->PyData->Option PyData)(fa fb:VE):VE:=λS=>match fa S with
 |some x=>match fb S with
  |some y=>h x y
  |none=>none
 |none=>none
theorem uz (e:v2 h fa fb S=some d):∃x y,fa S=some x/\fb S=some y/\h x y=some d:=by
 unfold v2 at e;cases q:fa S with
 |none=>rw[q] at e;cases e
 |some x=>
  rw[q] at e;cases q2:fb S with
  |none=>rw[q2] at e;cases e
  |some y=>rw[q2] at e;exact⟨x,y,rfl,rfl,e⟩
noncomputable def gU (K:Frag)(h:PyData->PyData->Option PyData)(r:R2):Prop:=∀H x y dx dy d Q,h dx dy=some d->Has K H dx x->Has K H dy y->(∀v,(∀H',Has K H' d v)->Q v H)->r x y H Q
theorem rd2 (hd:gU K h r)(q:tV K RS (v2 h fa fb) σ H Q):gR r (tV K RW fa) (tV K RW fb) σ H Q:=by obtain⟨au,G,H₀,S,F,I,d,e,q⟩:=q;obtain⟨x,y,ex,ey,e⟩:=uz e;refine⟨au,G,H₀,S,F,I,x,ex,λv F1 H1 g1 hx=>⟨au,G,H₀,S,F1,I.grow g1,y,ey,λu F2 H2 g2 hy=>?_⟩⟩;exact hd H2 v u x y d Q e (Has.same g2.hh hx) hy λw hw=>q w F2 H2 (g1.trans g2)<|hw F2
section
variable {r:R2}
theorem xq (ho:cA X (binaryOp op) r)(hd:gU X.K h r)(ha:PE X a (tV X.K RW fa))(hb:PE X b (tV X.K RW fb)):PE X (.BinOp a op b pos) (tV X.K RS<|v2 h fa fb):=
 (iW ho ha hb).imp λ_ _ _ q=>rd2 hd q
theorem afs (ho:cA X (compareOp op) r)(hd:gU X.K h r)(ha:PE X a (tV X.K RW fa))(hb:PE X b (tV X.K RW fb))(hm:behindInMarks op b=false:=by first|exact Du _|rfl):PE X (.Compare a [op] [b] pos) (tV X.K RS<|v2 h fa fb):=
 (peC ho ha hb hm).imp λ_ _ _ q=>rd2 hd q
end
noncomputable def yC (g:Int->Int->PyData):PyData->PyData->Option PyData
 |.int a,.int b=>some<|g a b
 |_,_=>none
noncomputable def yD (C:Int->Int->Prop)[∀a b,Decidable (C a b)](g:Int->Int->PyData):PyData->PyData->Option PyData
 |.int a,.int b=>if C a b then some (g a b) else none
 |_,_=>none
noncomputable def abM (d:PyData)(v:V):Prop:=∀(K:Frag) (H:Hp),Has K H d v
theorem qT (hg:∀a b,abM (g a b) (gv a b)):gU K (yC g) (rM gv):=by
 intro H x y dx dy d Q e hx hy q;cases dx<;>first|(simp[yC] at e;done)|skip
 cases dy<;>first|(simp[yC] at e;done)|skip
 simp only[yC,Option.some.injEq] at e;subst e;have ex:=hx;have ey:=hy;subst ex ey;exact q _ λH'=>hg _ _ K H'
theorem vM [∀a b,Decidable (C a b)](hc:∀a b,C a b->C' a b)(hg:∀a b,abM (g a b) (gv a b)):gU K (yD C g) (yq C' gv):=by
 intro H x y dx dy d Q e hx hy q;cases dx<;>first|(simp[yD] at e;done)|skip
 cases dy<;>first|(simp[yD] at e;done)|skip
 simp only[yD] at e;split at e
 .rename_i hC;cases e;have ex:=hx;have ey:=hy;subst ex ey;exact⟨hc _ _ hC,q _ λH'=>hg _ _ K H'⟩
 .cases e
set_option exponentiation.threshold 9000
noncomputable def BMul (i j:Int):Prop:=i.natAbs<2^2000/\j.natAbs<2^2000
noncomputable instance (i j:Int):Decidable (BMul i j):=inferInstanceAs<|Decidable<|_/\_
noncomputable def Ub (_ j:Int):Prop:=0<j/\j.natAbs<2^2000
noncomputable instance (i j:Int):Decidable (Ub i j):=inferInstanceAs<|Decidable<|_/\_
noncomputable def BMod (_ j:Int):Prop:=0<j
noncomputable instance (i j:Int):Decidable (BMod i j):=inferInstanceAs<|Decidable<|_<_
noncomputable def Uc (i j:Int):Prop:=0<=j/\j<=1000/\i.natAbs<2^60
noncomputable instance (i j:Int):Decidable (Uc i j):=inferInstanceAs<|Decidable<|_/\_/\_
theorem BMul.ok (h:BMul i j):J1 i j:=by have e:(2:Nat)^2000<=2^8000:=Nat.pow_le_pow_right (by decide) (by decide);exact⟨lt_of_lt_of_le h.1 e,lt_of_lt_of_le h.2 e⟩
theorem Ub.ok (h:Ub i j):J0 i j:=⟨h.1,by
 have hz:j.natAbs≠0:=by have:=h.1;omega
 have:=(Nat.log2_lt hz).mpr h.2;omega⟩
theorem Uc.ok (h:Uc i j):Ti i j:=⟨h.1,by have:=h.2.1;omega,Nat.lt_trans h.2.2<|by decide⟩
noncomputable abbrev cI:=yC λa b=>.int<|a+b
noncomputable abbrev mD:=yC λa b=>.int<|a - b
noncomputable abbrev vO:=yD BMul λa b=>.int<|a*b
noncomputable abbrev jV:=yD Ub λa b=>.int<|a/b
noncomputable abbrev cV:=yD BMod λa b=>.int<|a % b
noncomputable abbrev yE:=yD Uc λa b=>.int<|a^b.toNat
noncomputable abbrev sJ:=yC λa b=>.bool<|decide<|a<b
noncomputable abbrev xr:=yC λa b=>.bool<|decide<|a<=b
noncomputable abbrev yF:=yC λa b=>.bool<|decide<|b<a
noncomputable abbrev geD:=yC λa b=>.bool<|decide<|b<=a
section
theorem hAdd:gU K cI (rM λi j=>.int<|i+j):=qT λ_ _ _ _=>rfl
theorem hSub:gU K mD (rM λi j=>.int<|i - j):=qT λ_ _ _ _=>rfl
theorem hMul:gU K vO (yq J1 λi j=>.int<|i*j):=vM (λ_ _ h=>h.ok) λ_ _ _ _=>rfl
theorem hDiv:gU K jV (yq J0 λi j=>.int<|i/j):=vM (λ_ _ h=>h.ok) λ_ _ _ _=>rfl
theorem hMod:gU K cV (yq (λ_ j=>0<j) λi j=>.int<|i % j):=vM (λ_ _ h=>h) λ_ _ _ _=>rfl
theorem hPow:gU K yE (yq Ti λi j=>.int<|i^j.toNat):=vM (λ_ _ h=>h.ok) λ_ _ _ _=>rfl
theorem hLt:gU K sJ (rM λi j=>.bl<|decide<|i<j):=qT λ_ _ _ _=>rfl
theorem hLe:gU K xr (rM λi j=>.bl<|decide<|i<=j):=qT λ_ _ _ _=>rfl
theorem hGt:gU K yF (rM λi j=>.bl<|decide<|j<i):=qT λ_ _ _ _=>rfl
end
noncomputable def fZ:PyData->PyData->Option PyData:=λx y=>if x.depth<=60 then some (.bool<|eqv x y) else none
noncomputable def jN:PyData->PyData->Option PyData:=λx y=>if x.depth<=60 then some (.bool<|!PyData.eqv x y) else none
theorem hEq:gU K fZ (afc K):=by
 intro H x y dx dy d Q e hx hy q;unfold fZ at e;split at e
 .cases e;exact⟨dx,dy,hx,hy,by assumption,q _ λ_=>rfl⟩
 .cases e
theorem hNe:gU K jN (afd K):=by
 intro H x y dx dy d Q e hx hy q;unfold jN at e;split at e
 .cases e;exact⟨dx,dy,hx,hy,by assumption,q _ λ_=>rfl⟩
 .cases e
noncomputable def jq:PyData->Bool
 |.none=>true
 |_=>false
def isD:PyData->PyData->Option PyData:=λx y=>if jq y then some (.bool<|jq x) else none
def Lr:PyData->PyData->Option PyData:=λx y=>if jq y then some (.bool<|!jq x) else none
theorem HX (h:Has K H d x):sE x=jq d:=by
 cases d with
 |none=>have e:=h;rw[e];rfl
 |bool b=>have e:=h;rw[e];rfl
 |int i=>have e:=h;rw[e];rfl
 |str y=>have e:=h.1;rw[e];rfl
 |list ds=>obtain⟨a,xs,rfl,_⟩:=h;rfl
 |tuple ds=>obtain⟨a,xs,rfl,_⟩:=h;rfl
 |dict k=>exact h.elim
theorem none_of (h:Has K H d x)(e:jq d=true):x=.non:=by cases d<;>first|exact h|(simp[jq] at e)
theorem hIs:gU K isD ZJ:=by
 intro H x y dx dy d Q e hx hy q;unfold isD at e;split at e
 .rename_i hn;cases e;have:=none_of hy hn;subst this;show Q (.bl<|sE x) H;rw[HX hx];exact q _ λ_=>rfl
 .cases e
theorem aj6:gU K Lr T5:=by
 intro H x y dx dy d Q e hx hy q;unfold Lr at e;split at e
 .rename_i hn;cases e;have:=none_of hy hn;subst this;show Q (.bl<|!sE x) H;rw[HX hx];exact q _ λ_=>rfl
 .cases e
noncomputable abbrev VT:=GS->Option Bool
noncomputable def ji (K:Frag)(f:VT):TT:=λσ H Q=>∃au G H₀ S F,VI K au G H₀ S F σ H/\∃b,f S=some b/\∀F' H',bA F H F' H'->Q b H'
noncomputable def vB (f:VE):VT:=λS=>match f S with
 |some (.bool b)=>some b
 |_=>none
theorem adx (h:vB f S=some b):f S=some (.bool b):=by
 unfold vB at h;split at h
 .cases h;assumption
 .cases h
noncomputable def fP (f g:VT):VT:=λS=>match f S with
 |some true=>g S
 |some false=>some false
 |none=>none
noncomputable def fX (f g:VT):VT:=λS=>match f S with
 |some true=>some true
 |some false=>g S
 |none=>none
noncomputable def cR (f:VT):VT:=λS=>match f S with
 |some b=>some !b
 |none=>none
noncomputable def ZL:PyData->Option Bool
 |.none=>some false
 |.bool b=>some b
 |.int i=>some<|i !=0
 |.list ds=>some<|!ds.isEmpty
 |.tuple ds=>some<|!ds.isEmpty
 |_=>none
def tM (f:VE):VT:=λS=>match f S with
 |some d=>ZL d
 |none=>none
theorem aG.isEmpty (h:aG K H ds vs):vs.isEmpty=ds.isEmpty:=by have:=h.length;cases ds<;>cases vs<;>simp_all
section
variable {rest:List Expr}
theorem ZM (ht:∀Q',tV K RS f σ H Q'->t σ H Q')(q:ji K (vB f) σ H Q):mU t σ H Q:=by obtain⟨au,G,H₀,S,F,I,b,e,q⟩:=q;refine ht _ ⟨au,G,H₀,S,F,I,.bool b,adx e,λv F' H' g hv=>?_⟩;have ev:=hv;subst ev;exact q F' H' g
theorem nF (ho:cA X (compareOp op) r)(hd:gU X.K h r)(ha:PE X a (tV X.K RW fa))(hb:PE X b (tV X.K RW fb))(hm:behindInMarks op b=false:=by first|exact Du _|rfl):PT X (.Compare a [op] [b] pos) (ji X.K<|vB<|v2 h fa fb):=
 PT.imp (jY ho ha hb hm) λ_ _ _ q=>ZM (λ_ q=>rd2 hd q) q
theorem cVal (he:PE X e (tV X.K RS f))(hp:∀whole,isTrue e X.env whole=(do let v<-whole;standAt e.pos;holding [v]<|truthy v):=by intro _;rfl):PT X e (ji X.K<|vB f):=
 PT.imp (ptV he hp) λ_ _ _ q=>ZM (λ_ q=>q) q
theorem yG (ha:PT X a (ji X.K ta)):PT X (.UnaryOp .Not a pos) (ji X.K<|cR ta):=PT.imp (Dr ha) λ_ _ _ q=>by
 obtain⟨au,G,H₀,S,F,I,b,e,q⟩:=q;unfold cR at e;cases q2:ta S with
 |none=>rw[q2] at e;cases e
 |some c=>rw[q2] at e;cases e;exact⟨au,G,H₀,S,F,I,c,q2,λF' H' g=>q F' H' g⟩
theorem ahQ (ha:PT X a (ji X.K ta)):PW X (.BoolOp .And [a] pos) (ji X.K ta):=zU ha
theorem Ud (ha:PT X a (ji X.K ta)):PW X (.BoolOp .Or [a] pos) (ji X.K ta):=xU ha
theorem aj7 (ha:PT X a (ji X.K ta))(hb:PW X (.BoolOp .And (b::rest) pos) (ji X.K tb)):PW X (.BoolOp .And (a::b::rest) pos) (ji X.K<|fP ta tb):=PW.imp (Dq ha hb) λ_ _ _ q=>by
 obtain⟨au,G,H₀,S,F,I,b,e,q⟩:=q;unfold fP at e;cases q2:ta S with
 |none=>rw[q2] at e;cases e
 |some c=>
  rw[q2] at e;refine⟨au,G,H₀,S,F,I,c,q2,λF' H' g=>?_⟩;cases c with
  |true=>rw[if_pos rfl];exact⟨au,G,H₀,S,F',I.grow g,b,e,λF2 H2 g2=>q F2 H2<|g.trans g2⟩
  |false=>rw[if_neg Bool.false_ne_true];cases e;exact q F' H' g
theorem HY (ha:PT X a (ji X.K ta))(hb:PW X (.BoolOp .Or (b::rest) pos) (ji X.K tb)):PW X (.BoolOp .Or (a::b::rest) pos) (ji X.K<|fX ta tb):=PW.imp (zV ha hb) λ_ _ _ q=>by
 obtain⟨au,G,H₀,S,F,I,b,e,q⟩:=q;unfold fX at e;cases q2:ta S with
 |none=>rw[q2] at e;cases e
 |some c=>
  rw[q2] at e;refine⟨au,G,H₀,S,F,I,c,q2,λF' H' g=>?_⟩;cases c with
  |false=>rw[if_neg Bool.false_ne_true];exact⟨au,G,H₀,S,F',I.grow g,b,e,λF2 H2 g2=>q F2 H2<|g.trans g2⟩
  |true=>rw[if_pos rfl];cases e;exact q F' H' g
theorem aj8 (he:PE X e (tV X.K RW f))(hp:∀whole,isTrue e X.env whole=(do let v<-whole;standAt e.pos;holding [v]<|truthy v):=by intro _;rfl):PT X e (ji X.K<|tM f):=
 PT.imp (Zn he hp) λ_ _ _ q=>by
  obtain⟨au,G,H₀,S,F,I,b,e,q⟩:=q;unfold tM at e;cases q2:f S with
  |none=>rw[q2] at e;cases e
  |some d=>
   rw[q2] at e;refine⟨au,G,H₀,S,F,I,d,q2,λv F' H' g hv=>⟨b,?_,q F' H' g⟩⟩;cases d with
   |none=>cases e;have ev:=hv;rw[ev];rfl
   |bool c=>cases e;have ev:=hv;rw[ev];rfl
   |int i=>cases e;have ev:=hv;rw[ev];rfl
   |list ds=>cases e;obtain⟨p,xs,rfl,h1,h2⟩:=hv;exact .inl ⟨xs,h1,by rw[aG.isEmpty h2]⟩
   |tuple ds=>cases e;obtain⟨p,xs,rfl,h1,h2⟩:=hv;exact .inr<|.inl ⟨xs,h1,by rw[aG.isEmpty h2]⟩
   |str y=>cases e
   |dict k=>cases e
end
noncomputable def Ck (f g:VE):VE:=λS=>match f S with
 |some (.bool true)=>g S
 |some (.bool false)=>some<|.bool false
 |_=>none
noncomputable def vOr (f g:VE):VE:=λS=>match f S with
 |some (.bool true)=>some<|.bool true
 |some (.bool false)=>g S
 |_=>none
noncomputable def Lw (f:VE):VE:=λS=>match f S with
 |some (.bool b)=>some<|.bool !b
 |_=>none
noncomputable def rC (h h':PyData->PyData->Option PyData)(fa fb fc:VE):VE:=λS=>match fa S with
 |some x=>match fb S with
  |some y=>match h x y with
   |some (.bool true)=>(match fc S with
    |some z=>h' y z
    |none=>none)
   |some (.bool false)=>some<|.bool false
   |_=>none
  |none=>none
 |none=>none
noncomputable def vIf (c:VT)(f g:VE):VE:=λS=>match c S with
 |some true=>f S
 |some false=>g S
 |none=>none
section
variable {rest:List Expr}
theorem aj9 (ha:PE X a (tV X.K RS fa))(hb:PE X (.BoolOp .And (b::rest) pos) (tV X.K RS fb)):PE X (.BoolOp .And (a::b::rest) pos) (tV X.K RS<|Ck fa fb):=(abI ha hb).imp λ_ _ _ q=>by
 obtain⟨au,G,H₀,S,F,I,d,e,q⟩:=q;unfold Ck at e;split at e
 .rename_i q2;refine⟨au,G,H₀,S,F,I,_,q2,λv F' H' g hv=>?_⟩;have ev:=hv;subst ev;simp only[if_true];exact⟨au,G,H₀,S,F',I.grow g,d,e,λw F2 H2 g2 hw=>q w F2 H2 (g.trans g2) hw⟩
 .rename_i q2;cases e;refine⟨au,G,H₀,S,F,I,_,q2,λv F' H' g hv=>?_⟩;have ev:=hv;subst ev;simp only[false_eq_true,if_false];exact q _ F' H' g rfl
 .cases e
theorem akb (ha:PE X a (tV X.K RS fa)):PE X (.UnaryOp .Not a pos) (tV X.K RS<|Lw fa):=(ahN ha).imp λ_ _ _ q=>by
 obtain⟨au,G,H₀,S,F,I,d,e,q⟩:=q;unfold Lw at e;split at e
 .rename_i b q2;cases e;refine⟨au,G,H₀,S,F,I,_,q2,λv F' H' g hv=>?_⟩;have ev:=hv;subst ev;exact q _ F' H' g rfl
 .cases e
theorem akc {op}(h:PE X a (tV X.K R f)):PE X (.BoolOp op [a] pos) (tV X.K R f):=VP h
theorem aft (hd:gU K h r)(hd':gU K h' r')(q:tV K RS (rC h h' fa fb fc) σ H Q):T7 r r' (tV K RW fa) (tV K RW fb) (tV K RW fc) σ H Q:=by
 obtain⟨au,G,H₀,S,F,I,d,e,q⟩:=q;unfold rC at e;cases qa:fa S with
 |none=>rw[qa] at e;cases e
 |some x=>
  rw[qa] at e;cases qb:fb S with
  |none=>rw[qb] at e;cases e
  |some y=>
   rw[qb] at e;simp only at e;refine⟨au,G,H₀,S,F,I,x,qa,λv F1 H1 g1 hx=>⟨au,G,H₀,S,F1,I.grow g1,y,qb,λu F2 H2 g2 hy=>?_⟩⟩;split at e
   .rename_i q3;cases qc:fc S with
    |none=>rw[qc] at e;cases e
    |some z=>rw[qc] at e;refine hd H2 v u x y _ _ q3 (Has.same g2.hh hx) hy λk hk=>?_;have ek:=hk H2;subst ek;simp only[if_true];refine⟨au,G,H₀,S,F2,(I.grow g1).grow g2,z,qc,λw F3 H3 g3 hw=>?_⟩;exact hd' H3 u w y z d Q e (Has.same g3.hh hy) hw λk hk=>q k F3 H3 ((g1.trans g2).trans g3)<|hk F3
   .rename_i q3;cases e;refine hd H2 v u x y _ _ q3 (Has.same g2.hh hx) hy λk hk=>?_;have ek:=hk H2;subst ek;simp only[false_eq_true,if_false];exact q _ F2 H2 (g1.trans g2) rfl
   .cases e
theorem dCh (ho:cA X (compareOp op) r)(hd:gU X.K h r)(ho':cA X (compareOp op') r')(hd':gU X.K h' r')(ha:PE X a (tV X.K RW fa))(hb:PE X b (tV X.K RW fb))(hc:PE X c (tV X.K RW fc))
  (hm:lastMarks [op,op'] [b,c]=false:=by with_unfolding_all rfl):PE X (.Compare a [op,op'] [b,c] pos) (tV X.K RS<|rC h h' fa fb fc):=(aj0 ho ho' ha hb hc hm).imp λ_ _ _ q=>aft hd hd' q
theorem dIf (hc:PT X c (ji X.K tc))(ha:PE X a (tV X.K RS fa))(hb:PE X b (tV X.K RS fb)):PE X (.IfExp c a b pos) (tV X.K RS<|vIf tc fa fb):=(Zc hc ha hb).imp λ_ _ _ q=>by
 obtain⟨au,G,H₀,S,F,I,d,e,q⟩:=q;unfold vIf at e;split at e
 .rename_i q2;refine⟨au,G,H₀,S,F,I,_,q2,λF' H' g=>?_⟩;simp only[if_true];exact⟨au,G,H₀,S,F',I.grow g,d,e,λw F2 H2 g2 hw=>q w F2 H2 (g.trans g2) hw⟩
 .rename_i q2;refine⟨au,G,H₀,S,F,I,_,q2,λF' H' g=>?_⟩;simp only[false_eq_true,if_false];exact⟨au,G,H₀,S,F',I.grow g,d,e,λw F2 H2 g2 hw=>q w F2 H2 (g.trans g2) hw⟩
 .cases e
end
end VM
namespace VM
open L2
section
variable {F H F' H':Hp}
theorem aG.bW (h:aG K H ds xs)(e:L2.bW ds i=some d):∃v,L2.bW xs i=some v/\Has K H d v:=by
 unfold L2.bW at e ⊢;rw[QK h.length.symm];cases q:lR ds.length i with
 |none=>rw[q] at e;cases e
 |some j=>rw[q] at e;exact h.at e
theorem aG.drop:∀{ds:List PyData}{vs:List V} (n:Nat),aG K H ds vs->aG K H (ds.drop n) (vs.drop n)
 |_,_,0,h=>h
 |[],vs,n+1,h=>by have h':vs=[]:=h;rw[h'];rfl
 |_::_,_,n+1,⟨_,_,g1,_,g3⟩=>by rw[g1];exact aG.drop n g3
theorem aG.take:∀{ds:List PyData}{vs:List V} (n:Nat),aG K H ds vs->aG K H (ds.take n) (vs.take n)
 |_,_,0,_=>by simp only[List.take_zero];rfl
 |[],vs,n+1,h=>by have h':vs=[]:=h;rw[h'];rfl
 |_::_,_,n+1,⟨u,r,g1,g2,g3⟩=>by rw[g1];exact⟨u,r.take n,rfl,g2,aG.take n g3⟩
theorem RM.list (fh:Same F' H')(r:RM K F H F' H' (.list ds) v):∃a xs,v=.ref a/\aR K H' a xs/\aG K F' ds xs:=by
 rcases r with⟨a,xs,rfl,h1,h2⟩|⟨ds',a,xs,e,rfl,h1,h2⟩
 .exact⟨a,xs,rfl,fh.seq h1,h2⟩
 .cases e;exact⟨a,xs,rfl,h1,h2⟩
theorem RM.tuple (fh:Same F' H')(r:RM K F H F' H' (.tuple ds) v):∃a xs,v=.ref a/\bB K H' a xs/\aG K F' ds xs:=by
 rcases r with⟨a,xs,rfl,h1,h2⟩|⟨ds',a,xs,e,rfl,h1,h2⟩
 .exact⟨a,xs,rfl,fh.vH h1,h2⟩
 .cases e
theorem RM.grow (g:bA F' H' F2 H2)(r:RM K F H F' H' d v):RM K F H F2 H2 d v:=by
 rcases r with r|⟨ds,a,xs,e,e2,h1,h2⟩
 .exact .inl<|Has.same g.ff r
 .exact .inr ⟨ds,a,xs,e,e2,g.hh.seq h1,h2.same g.ff⟩
end
def aM:PyData->PyData->Option PyData
 |.list ds,.int i=>bW ds i
 |.tuple ds,.int i=>bW ds i
 |_,_=>none
section
variable {pos p2:Pos}
theorem uD (ha:PE X a (tV X.K RM fa))(hb:PE X b (tV X.K RW fb))(hs:zW b:=by intro _ _;rfl):PE X (.Subscript a b pos) (tV X.K RS<|v2 aM fa fb):=
 (TJ (Ge.or KZ) ha hb hs).imp λ_ _ Q q=>by
  obtain⟨au,G,H₀,S,F,I,d,e,q⟩:=q;obtain⟨x,y,ex,ey,e⟩:=uz e;refine⟨au,G,H₀,S,F,I,x,ex,λv F1 H1 g1 hx=>⟨au,G,H₀,S,F1,I.grow g1,y,ey,λu F2 H2 g2 hy=>?_⟩⟩;have hx2:=RM.grow g2 hx;unfold aM at e;split at e
  .rename_i ds i;have eu:=hy;obtain⟨p,xs,rfl,h1,h2⟩:=RM.list g2.fh hx2;obtain⟨w,hw,hw2⟩:=aG.bW h2 e;exact .inl ⟨p,xs,i,w,rfl,eu,h1,hw,q w F2 H2 (g1.trans g2) hw2⟩
  .rename_i ds i;have eu:=hy;obtain⟨p,xs,rfl,h1,h2⟩:=RM.tuple g2.fh hx2;obtain⟨w,hw,hw2⟩:=aG.bW h2 e;exact .inr ⟨p,xs,i,w,rfl,eu,h1,hw,q w F2 H2 (g1.trans g2) hw2⟩
  .cases e
def QL (K:Frag)(f:GS->Option (Option Int)):TO:=λσ H Q=>∃au G H₀ S F,VI K au G H₀ S F σ H/\∃o,f S=some o/\∀F' H',bA F H F' H'->Q o H'
noncomputable def oN:GS->Option (Option Int):=λ_=>some none
noncomputable def oI (f:VE):GS->Option (Option Int):=λS=>match f S with
 |some (.int i)=>some<|some i
 |_=>none
theorem poN:PO X none (QL X.K oN):=PO.imp Qz λ_ H Q q=>by obtain⟨au,G,H₀,S,F,I,o,e,q⟩:=q;cases e;exact q F H<|bA.refl I.sub
theorem poI (h:PE X e (tV X.K RW f)):PO X (some e) (QL X.K<|oI f):=PO.imp (qQ h) λ_ H Q q=>by
 obtain⟨au,G,H₀,S,F,I,o,e,q⟩:=q;unfold oI at e;split at e
 .rename_i i q2;cases e;refine⟨au,G,H₀,S,F,I,_,q2,λv F' H' g hv=>⟨i,hv,q F' H' g⟩⟩
 .cases e
def cutD (xs:List PyData)(lo hi:Option Int):List PyData:=(xs.drop<|HT.bH xs.length 0 lo).take<|HT.bH xs.length xs.length hi - HT.bH xs.length 0 lo
theorem aG.cut {lo hi:Option Int}(h:aG K H ds vs):aG K H (cutD ds lo hi) (qg vs lo hi):=by unfold cutD qg;rw[h.length];exact aG.take _<|aG.drop _ h
def Lx (f:VE)(l u:GS->Option (Option Int)):VE:=λS=>match f S,l S,u S with
 |some (.list ds),some lo,some hi=>some<|.list<|cutD ds lo hi
 |_,_,_=>none
def afv (f:VE)(l u:GS->Option (Option Int)):VE:=λS=>match f S,l S,u S with
 |some (.tuple ds),some lo,some hi=>if HT.bH ds.length 0 lo=0/\HT.bH ds.length ds.length hi=ds.length then none else some (.tuple<|cutD ds lo hi)
 |_,_,_=>none
variable {lo hi:Option Expr}
theorem akd (he:PE X e (tV X.K RM f))(hl:PO X lo (QL X.K fl))(hu:PO X hi (QL X.K fu)):PE X (.Subscript e (.Slice lo hi none p2) pos) (tV X.K RN<|Lx f fl fu):=
 (q8 Gf he hl hu).imp λ_ H Q q=>by
  obtain⟨au,G,H₀,S,F,I,d,e,q⟩:=q;unfold Lx at e;split at e
  .rename_i ds l u q1 q2 q3;cases e;refine⟨au,G,H₀,S,F,I,_,q1,λv F1 H1 g1 hx=>⟨au,G,H₀,S,F1,I.grow g1,l,q2,λF2 H2 g2=>⟨au,G,H₀,S,F2,(I.grow g1).grow g2,u,q3,λF3 H3 g3=>?_⟩⟩⟩;obtain⟨p,xs,rfl,h1,h2⟩:=RM.list g3.fh<|RM.grow (g2.trans g3) hx;have g:=(g1.trans g2).trans g3;refine⟨p,xs,rfl,h1,λz hz=>q _ F3 _ (g.trans<|bA.alloc g3.fh hz) ⟨_,z,_,rfl,rfl,g.hh.free hz,g3.fh.free hz,ao,aG.cut h2⟩⟩
  .cases e
noncomputable def afw (f:VE):VE:=λS=>match f S with
 |some (.list ds)=>some<|.list ds.reverse
 |_=>none
noncomputable def lK:PyData->Option PyData
 |.int i=>some<|.int<|-i
 |_=>none
noncomputable def v1 (h:PyData->Option PyData)(f:VE):VE:=λS=>match f S with
 |some x=>h x
 |none=>none
theorem ake (ha:PE X a (tV X.K RW f)):PE X (.UnaryOp .USub a pos) (tV X.K RS<|v1 lK f):=(Tf afi ha).imp λ_ H Q q=>by
 obtain⟨au,G,H₀,S,F,I,d,e,q⟩:=q;unfold v1 at e;split at e
 .rename_i x q1;unfold lK at e;split at e
  .rename_i i;cases e;refine⟨au,G,H₀,S,F,I,_,q1,λv F1 H1 g1 hx=>?_⟩;have ev:=hx;subst ev;exact q _ F1 H1 g1 rfl
  .cases e
 .cases e
end
abbrev VA:=GS->Option (List PyData)
def yH (K:Frag)(f:VA):TA:=λσ H Q=>∃au G H₀ S F,VI K au G H₀ S F σ H/\∃ds,f S=some ds/\∀vs F' H',bA F H F' H'->aG K F' ds vs->Q vs H'
def Gn (K:Frag)(f:VA):TA:=λσ H Q=>∃au G H₀ S F,VI K au G H₀ S F σ H/\∃ds,f S=some ds/\∀vs F' H',bA F H F' H'->aG K H' ds vs->Q vs H'
noncomputable def a0:VA:=λ_=>some []
def aC (f:VE)(fs:VA):VA:=λS=>match f S with
 |some d=>match fs S with
  |some ds=>some (d::ds)
  |none=>none
 |none=>none
theorem QM (h:aC f fs S=some ds):∃d r,f S=some d/\fs S=some r/\ds=d::r:=by
 unfold aC at h;cases q:f S with
 |none=>rw[q] at h;cases h
 |some d=>
  rw[q] at h;cases q2:fs S with
  |none=>rw[q2] at h;cases h
  |some r=>rw[q2] at h;cases h;exact⟨d,r,rfl,rfl,rfl⟩
section
variable {pos:Pos}
theorem yI:PA X [] (yH X.K a0):=PA.imp aO λ_ H Q q=>by obtain⟨au,G,H₀,S,F,I,d,e,q⟩:=q;cases e;exact q [] F H (bA.refl I.sub) rfl
theorem pw0:PA X [] (Gn X.K a0):=PA.imp aO λ_ H Q q=>by obtain⟨au,G,H₀,S,F,I,d,e,q⟩:=q;cases e;exact q [] F H (bA.refl I.sub) rfl
theorem mV (he:PE X e (tV X.K RS f))(hr:PA X es (yH X.K fs))(hs:starEach (e::es) X.env=(false,eval e X.env)::starEach es X.env:=by rfl):PA X (e::es) (yH X.K<|aC f fs):=PA.imp (aj he hr hs) λ_ H Q q=>by obtain⟨au,G,H₀,S,F,I,ds,e,q⟩:=q;obtain⟨d,r,e1,e2,rfl⟩:=QM e;exact⟨au,G,H₀,S,F,I,d,e1,λv F1 H1 g1 hx=>⟨au,G,H₀,S,F1,I.grow g1,r,e2,λvs F2 H2 g2 hy=>q _ F2 H2 (g1.trans g2) ⟨v,vs,rfl,Has.same g2.ff hx,hy⟩⟩⟩
theorem pwC (he:PE X e (tV X.K RW f))(hr:PA X es (Gn X.K fs))(hs:starEach (e::es) X.env=(false,eval e X.env)::starEach es X.env:=by rfl):PA X (e::es) (Gn X.K<|aC f fs):=PA.imp (aj he hr hs) λ_ H Q q=>by obtain⟨au,G,H₀,S,F,I,ds,e,q⟩:=q;obtain⟨d,r,e1,e2,rfl⟩:=QM e;exact⟨au,G,H₀,S,F,I,d,e1,λv F1 H1 g1 hx=>⟨au,G,H₀,S,F1,I.grow g1,r,e2,λvs F2 H2 g2 hy=>q _ F2 H2 (g1.trans g2) ⟨v,vs,rfl,Has.same g2.hh hx,hy⟩⟩⟩
def fB (fs:VA):VE:=λS=>match fs S with
 |some ds=>if ds.length<=1000 then some (.tuple ds) else none
 |none=>none
def fY (fs:VA):VE:=λS=>match fs S with
 |some ds=>if ds.length<=1000 then some (.list ds) else none
 |none=>none
theorem Wz (h:fB fs S=some d):∃ds,fs S=some ds/\ds.length<=1000/\d=.tuple ds:=by
 unfold fB at h;split at h
 .split at h
  .cases h;exact⟨_,by assumption,by assumption,rfl⟩
  .cases h
 .cases h
theorem WD (h:fY fs S=some d):∃ds,fs S=some ds/\ds.length<=1000/\d=.list ds:=by
 unfold fY at h;split at h
 .split at h
  .cases h;exact⟨_,by assumption,by assumption,rfl⟩
  .cases h
 .cases h
theorem dTup {x1}(h:PA X es (yH X.K fs)):PE X (.Tuple es x1 pos) (tV X.K RS<|fB fs):=(jM h).imp λ_ H Q q=>by obtain⟨au,G,H₀,S,F,I,d,e,q⟩:=q;obtain⟨ds,e1,hl,rfl⟩:=Wz e;refine⟨au,G,H₀,S,F,I,ds,e1,λvs F1 H1 g1 hx=>⟨by rw[<-hx.length];exact le_of_lt<|HN hl,λp hp=>?_⟩⟩;exact q _ _ _ (g1.trans<|bA.DK g1.fh hp) ⟨p,vs,rfl,bB.of ao,aG.same (aF<|g1.fh.free hp) hx⟩
theorem ZP (h:PA X es (yH X.K fs)):PE X (.List es pos) (tV X.K RN<|fY fs):=(yd h).imp λ_ H Q q=>by obtain⟨au,G,H₀,S,F,I,d,e,q⟩:=q;obtain⟨ds,e1,hl,rfl⟩:=WD e;refine⟨au,G,H₀,S,F,I,ds,e1,λvs F1 H1 g1 hx=>⟨by rw[<-hx.length];exact le_of_lt<|HN hl,λp hp=>?_⟩⟩;exact q _ _ _ (g1.trans<|bA.alloc g1.fh hp) ⟨ds,p,vs,rfl,rfl,g1.hh.free hp,g1.fh.free hp,ao,hx⟩
end
def CallD (K:Frag)(h:List PyData->Option PyData)(r:List V->Hp->VK->Prop):Prop:=∀H vs ds d Q,h ds=some d->aG K H ds vs->(∀v,(∀H',Has K H' d v)->Q v H)->r vs H Q
def cU (h:List PyData->Option PyData)(fs:VA):VE:=λS=>match fs S with
 |some ds=>h ds
 |none=>none
theorem Bh (he:PE X e (pJ r<|Gn X.K fs))(hd:CallD X.K h r):PE X e (tV X.K RS<|cU h fs):=he.imp λ_ H Q q=>by
 obtain⟨au,G,H₀,S,F,I,d,e,q⟩:=q;unfold cU at e;split at e
 .rename_i ds q1;exact⟨au,G,H₀,S,F,I,ds,q1,λvs F1 H1 g1 hx=>hd H1 vs ds d Q e hx λv hv=>q v F1 H1 g1<|hv F1⟩
 .cases e
noncomputable def eU:List PyData->Option PyData
 |[.list ds]=>some<|.int ds.length
 |[.tuple ds]=>some<|.int ds.length
 |_=>none
noncomputable def Ly:List PyData->Option PyData
 |[.int i]=>some<|.int<|if i<0 then -i else i
 |_=>none
noncomputable def intsOf:List PyData->Option (List Int)
 |[]=>some []
 |.int i::r=>match intsOf r with
  |some ns=>some (i::ns)
  |none=>none
 |_=>none
theorem tO:∀{ds:List PyData}{ns:List Int},intsOf ds=some ns->ds=ns.map PyData.int
 |[],_,h=>by cases h;rfl
 |.int i::r,ns,h=>by
  unfold intsOf at h;cases q:intsOf r with
  |none=>rw[q] at h;cases h
  |some ms=>rw[q] at h;cases h;rw[tO q];rfl
 |.none::_,_,h=>by cases h
 |.bool _::_,_,h=>by cases h
 |.str _::_,_,h=>by cases h
 |.list _::_,_,h=>by cases h
 |.tuple _::_,_,h=>by cases h
 |.dict _::_,_,h=>by cases h
theorem jJ (ns:List Int):intsOf (ns.map PyData.int)=some ns:=by
 induction ns with
 |nil=>rfl
 |cons n ns ih=>simp only[map_cons,intsOf,ih]
def yJ:List PyData->Option PyData
 |[.list ds]=>match intsOf ds with
  |some ns=>some<|.int ns.sum
  |none=>none
 |_=>none
noncomputable def jr:List Int->Int
 |[]=>0
 |[n]=>n
 |n::r=>min n<|jr r
theorem kh:∀{ns:List Int},ns≠[]->jr ns∈ns/\∀a∈ns,jr ns<=a
 |[n],_=>by simp[jr]
 |n::m::r,_=>by
  obtain⟨h1,h2⟩:=kh (ns:=m::r) (by simp);have e:jr (n::m::r)=min n (jr (m::r)):=rfl;rw[e];refine⟨?_,λa ha=>?_⟩
  .by_cases hle:n<=jr (m::r)
   .rw[Int.min_eq_left hle];exact mem_cons_self
   .rw[Int.min_eq_right<|by omega];exact mem_cons_of_mem _ h1
  .rcases mem_cons.mp ha with rfl|ha
   .exact Int.min_le_left ..
   .exact Int.le_trans (Int.min_le_right ..)<|h2 a ha
def minD:List PyData->Option PyData
 |[.list ds]=>match intsOf ds with
  |some (n::r)=>some<|.int<|jr (n::r)
  |_=>none
 |_=>none
noncomputable def vP:List PyData->Option PyData
 |[.int i,.int j]=>some<|.int<|if j<i then j else i
 |_=>none
noncomputable def abQ:List PyData->Option PyData
 |[.int i,.int j]=>some<|.int<|if j>i then j else i
 |_=>none
noncomputable def abR:List PyData->Option PyData
 |[.int i]=>some<|.int i
 |[.bool k]=>some<|.int<|if k then 1 else 0
 |_=>none
section
theorem aG.one (h:aG K H [d] vs):∃v,vs=[v]/\Has K H d v:=by obtain⟨v,r,rfl,h1,h2⟩:=h;have h2':=h2;rw[h2'];exact⟨v,rfl,h1⟩
theorem aG.two (h:aG K H [d,e] vs):∃v u,vs=[v,u]/\Has K H d v/\Has K H e u:=by obtain⟨v,r,rfl,h1,h2⟩:=h;obtain⟨u,rfl,h3⟩:=aG.one h2;exact⟨v,u,rfl,h1,h3⟩
theorem hLen:CallD K eU (T8 K):=by
 intro H vs ds d Q e hx q;unfold eU at e;split at e
 .obtain⟨v,rfl,a,xs,rfl,h1,h2⟩:=aG.one hx;cases e;exact⟨xs,.inl h1,by rw[<-h2.length];exact q _ λ_=>rfl⟩
 .obtain⟨v,rfl,a,xs,rfl,h1,h2⟩:=aG.one hx;cases e;exact⟨xs,.inr h1,by rw[<-h2.length];exact q _ λ_=>rfl⟩
 .cases e
theorem akf:CallD K Ly Ua:=by
 intro H vs ds d Q e hx q;unfold Ly at e;split at e
 .obtain⟨v,rfl,h1⟩:=aG.one hx;have ev:=h1;subst ev;cases e;exact q _ λ_=>rfl
 .cases e
theorem afx:CallD K yJ (abJ K):=by
 intro H vs ds d Q e hx q;unfold yJ at e;split at e
 .split at e
  .rename_i ns hn;obtain⟨v,rfl,a,xs,rfl,h1,h2⟩:=aG.one hx;cases e;rw[tO hn] at h2;rw[aG.ints.mp h2] at h1;exact⟨ns,h1,q _ λ_=>rfl⟩
  .cases e
 .cases e
theorem akg:CallD K minD (abK K):=by
 intro H vs ds d Q e hx q;unfold minD at e;split at e
 .split at e
  .rename_i n r hn;obtain⟨v,rfl,a,xs,rfl,h1,h2⟩:=aG.one hx;cases e;rw[tO hn] at h2;rw[aG.ints.mp h2] at h1;refine⟨n::r,h1,by simp,λM hM hA=>?_⟩;obtain⟨g1,g2⟩:=kh (ns:=n::r) (by simp);have:=Int.le_antisymm (hA _ g1)<|g2 _ hM;rw[this];exact q _ λ_=>rfl
  .cases e
 .cases e
theorem ahR:CallD K vP (λxs H Q=>∃i j,xs=[.int i,.int j]/\Q (.int<|if j<i then j else i) H):=by
 intro H vs ds d Q e hx q;unfold vP at e;split at e
 .rename_i i j;obtain⟨v,u,rfl,h1,h2⟩:=aG.two hx;have ev:=h1;have eu:=h2;subst ev eu;cases e;exact⟨i,j,rfl,q _ λ_=>rfl⟩
 .cases e
end
noncomputable def Ia:PyData->String
 |.none=>"NoneType"
 |.bool _=>"bool"
 |.int _=>"int"
 |.str _=>"str"
 |.list _=>"list"
 |.tuple _=>"tuple"
 |.dict _=>"dict"
def oJ (T:String)(d:PyData):Option PyData:=match d with
 |.dict _=>none
 |_=>some<|.bool<|Ia d==T||(Ia d=="bool" && T=="int")
def afy (K:Frag)(T:String):List V->Hp->VK->Prop:=λxs H Q=>∃x d b,xs=[x,.ty T]/\Has K H d x/\kitOne K (.type<|Ia d) (.type T)=some b/\Q (.bl b) H
theorem Lz:dg X (.builtin "isinstance") (afy X.K T):=by
 intro pins s σ H xs us Q I r h;obtain⟨x,d,b,rfl,hd,e,q⟩:=h;cases r with
 |cons rx rr=>
  cases rr with
  |cons r2 rr=>
   cases rr;rename_i u u2;cases(r2);have fin:∀tk,EP X pins σ Q (.bool b) {s with toks:=tk}:=λtk=>⟨.bl b,H,I.kept λ_ _ h=>h,rfl,q⟩;cases d with
   |none=>cases(hd);cases(rx);exact kia_one PySem.W.kitx_none I.mO True.intro e (λz=>nomatch z) fin
   |bool y=>cases(hd);cases(rx);exact kia_one PySem.W.kitx_bool I.mO True.intro e (λz=>nomatch z) fin
   |int i=>cases(hd);obtain⟨t,q⟩:=(rx);cases q;exact kia_one PySem.W.kitx_int I.mO True.intro e (λz=>nomatch z) fin
   |str y=>cases(hd.1);obtain⟨t,q⟩:=(rx);cases q;exact kia_one PySem.W.kitx_str I.mO True.intro e (λz=>nomatch z) fin
   |list ds=>
    obtain⟨a,ys,rfl,h1,_⟩:=hd;cases(rx);obtain⟨its,rv,⟨o,n,e1,c,_,_⟩,hz⟩:=I.list h1;exact kia_one PySem.W.kitx_list I.mO ⟨o,e1,c⟩ e (λz=>nomatch z) fin
   |tuple ds=>
    obtain⟨a,ys,rfl,h1,_⟩:=hd;cases(rx);obtain⟨its,rv,⟨o,e1,c,_⟩,hz⟩:=I.tuple h1;exact kia_one PySem.W.kitx_tuple I.mO ⟨o,e1,c⟩ e (λz=>nomatch z) fin
   |dict k=>exact hd.elim
structure vQ (K:Frag)(T:String):Prop where
 ok:∀d d',oJ T d=some (.bool d')->kitOne K (.type<|Ia d) (.type T)=some d'
def nG (T:String)(f:VE):VE:=v1 (oJ T) f
theorem WK (h:oJ T d=some x):∃b,x=.bool b:=by cases d<;>first|(simp[oJ] at h;done)|(simp only[oJ,Option.some.injEq] at h;exact⟨_,h.symm⟩)
theorem yK (kt:vQ X.K T)(he:PE X e (pJ (afy X.K T)<|bV (tV X.K RW f)<|bV (tC<|.ty T) dI)):PE X e (tV X.K RS<|nG T f):=he.imp λ_ H Q q=>by
 obtain⟨au,G,H₀,S,F,I,d,e,q⟩:=q;unfold nG v1 at e;split at e
 .rename_i x q1;obtain⟨b,rfl⟩:=WK e;exact⟨au,G,H₀,S,F,I,x,q1,λv F1 H1 g1 hx=>⟨v,x,b,rfl,hx,kt.ok x b e,q _ F1 H1 g1 rfl⟩⟩
 .cases e
noncomputable def uE (f:VE):VE:=λS=>match f S with
 |some (.list ds)=>some<|.list ds
 |some (.tuple ds)=>some<|.list ds
 |_=>none
theorem ady (he:PE X e (pJ (yr X.K)<|bV (tV X.K RM f) dI)):PE X e (tV X.K RN<|uE f):=he.imp λ_ H Q q=>by
 obtain⟨au,G,H₀,S,F,I,d,e,q⟩:=q;unfold uE at e;split at e
 .rename_i ds q1;cases e;refine⟨au,G,H₀,S,F,I,_,q1,λv F1 H1 g1 hx=>?_⟩;obtain⟨p,xs,rfl,h1,h2⟩:=RM.list g1.fh hx;exact⟨xs,.inl h1,λz hz=>q _ F1 _ (g1.trans<|bA.alloc g1.fh hz) ⟨_,z,_,rfl,rfl,g1.hh.free hz,g1.fh.free hz,ao,h2⟩⟩
 .rename_i ds q1;cases e;refine⟨au,G,H₀,S,F,I,_,q1,λv F1 H1 g1 hx=>?_⟩;obtain⟨p,xs,rfl,h1,h2⟩:=RM.tuple g1.fh hx;exact⟨xs,.inr h1,λz hz=>q _ F1 _ (g1.trans<|bA.alloc g1.fh hz) ⟨_,z,_,rfl,rfl,g1.hh.free hz,g1.fh.free hz,ao,h2⟩⟩
 .cases e
abbrev f9:=List PyData->Option (Bool×PyData)
def RB:Bool->Rel
 |true=>RN
 |false=>RS
def bQ (K:Frag)(m:f9):Sp:=λvs H Q _=>∃G ds,Same G H/\aG K G ds vs/\∃b d,m ds=some (b,d)/\∀v F' H',bA G H F' H'->RB b K G H F' H' d v->Q v H'
def aZ (m:f9)(fs:VA):VE:=λS=>match fs S with
 |some ds=>match m ds with
  |some (_,d)=>some d
  |none=>none
 |none=>none
def rD (m:f9)(fs:VA):VE:=λS=>match fs S with
 |some ds=>match m ds with
  |some (true,d)=>some d
  |_=>none
 |none=>none
def LC:Bool->PyData->Bool
 |true,.list ds=>j9 ds
 |true,_=>false
 |false,d=>pP d
def pR (m:f9)(fs:VA):VE:=λS=>match fs S with
 |some ds=>match m ds with
  |some (b,d)=>if LC b d=true then some d else none
  |none=>none
 |none=>none
def QS (m:f9)(fs:VA):VE:=λS=>match fs S with
 |some ds=>match m ds with
  |some (true,.list es)=>if j9 es=true then some (.list es) else none
  |_=>none
 |none=>none
section
variable {fs:VA}
theorem tQ (he:PE X e (iJ (bQ X.K m) [] E0<|yH X.K fs)):PE X e (tV X.K RS<|aZ m fs):=he.imp λ_ H Q q=>by
 obtain⟨au,G,H₀,S,F,I,d,e,q⟩:=q;unfold aZ at e;split at e
 .rename_i ds q1;split at e
  .rename_i b d' q2;cases e;refine⟨au,G,H₀,S,F,I,ds,q1,λvs F1 H1 g1 hx=>?_⟩;show bQ X.K m (vs++[]) H1 Q E0;rw[append_nil];refine⟨F1,ds,g1.fh,hx,b,_,q2,λv F' H' g hv=>?_⟩;cases b with
   |false=>exact q v F' H' (g1.trans g) hv
   |true=>obtain⟨F'',g2,r2⟩:=RN.dU g hv;exact q v F'' H' (g1.trans g2) r2
  .cases e
 .cases e
theorem ahS (he:PE X e (iJ (bQ X.K m) [] E0<|yH X.K fs)):PE X e (tV X.K RN<|rD m fs):=he.imp λ_ H Q q=>by
 obtain⟨au,G,H₀,S,F,I,d,e,q⟩:=q;unfold rD at e;split at e
 .rename_i ds q1;split at e
  .rename_i d' q2;cases e;refine⟨au,G,H₀,S,F,I,ds,q1,λvs F1 H1 g1 hx=>?_⟩;show bQ X.K m (vs++[]) H1 Q E0;rw[append_nil];refine⟨F1,ds,g1.fh,hx,true,_,q2,λv F' H' g hv=>?_⟩;obtain⟨es,a,xs,h1,h2,h3,h4,h5,h6⟩:=hv;exact q v F' H' (g1.trans g) ⟨es,a,xs,h1,h2,g1.hh.free h3,h4,h5,h6⟩
  .cases e
 .cases e
theorem ahT (he:PE X e (iJ (bQ X.K m) [] E0<|Gn X.K fs)):PE X e (tV X.K RS<|pR m fs):=he.imp λ_ H Q q=>by
 obtain⟨au,G,H₀,S,F,I,d,e,q⟩:=q;unfold pR at e;split at e
 .rename_i ds q1;split at e
  .rename_i b d' q2;split at e
   .rename_i hi;cases e;refine⟨au,G,H₀,S,F,I,ds,q1,λvs F1 H1 g1 hx=>?_⟩;show bQ X.K m (vs++[]) H1 Q E0;rw[append_nil];refine⟨H1,ds,Same.refl _,hx,b,_,q2,λv F' H' g hv=>?_⟩;have gw:=yt ⟨g.hh,Same.refl _,g1.fh.trans g.hh,λ_ _ e=>.inl e,λ_ _ _ e=>e⟩;cases b with
    |false=>exact q v _ H' (g1.trans gw)<|vL hi<|Has.same g.fh hv
    |true=>obtain⟨es,a,xs,rfl,h2,h3,h4,h5,h6⟩:=hv;have hF1:=g1.fh.free h3;obtain⟨F'',g2,r2⟩:=RN.dU gw ⟨es,a,xs,rfl,h2,h3,Ww h5 hF1,h5,yu hi<|h6.same g.fh⟩;exact q v F'' H' (g1.trans g2) r2
   .cases e
  .cases e
 .cases e
end
structure LK (K:Frag)(F:Hp)(J:It)(ds:List PyData):Prop where
 go:∀(i:Nat) d F' H',ds[i]? =some d->Same F F'->Same F' H'->J.go i H'/\∀x DN,J.Kz i H' x DN->∃F'',bA F' H' F'' DN/\Has K F'' d x
 stop:∀(i:Nat) F' H',ds.length<=i->Same F F'->Same F' H'->J.stop i H'
def xu (K:Frag)(f:VA):TI:=λσ H R=>∃au G H₀ S F,VI K au G H₀ S F σ H/\∃ds,f S=some ds/\∀J F' H',bA F H F' H'->LK K F' J ds->R J H'
noncomputable def cu (f:VE):VA:=λS=>match f S with
 |some (.list ds)=>some ds
 |_=>none
noncomputable def QT (f:VE):VA:=λS=>match f S with
 |some (.tuple ds)=>some ds
 |_=>none
noncomputable def iY (lo:Int)(n:Nat):List PyData:=(List.range n).map λ(i:Nat)=>PyData.int<|lo+i
def vU (fs:VA):VA:=λS=>match fs S with
 |some [.int j]=>@ite _ (-(2^62)<=j/\j<2^62) (Classical.propDecidable _) (some<|iY 0 j.toNat) none
 |_=>none
def abS (fs:VA):VA:=λS=>match fs S with
 |some [.int i,.int j]=>@ite _ ((-(2^62)<=i/\i<2^62)∧-(2^62)<=j/\j<2^62) (Classical.propDecidable _) (some<|iY i (j - i).toNat) none
 |_=>none
noncomputable def mj:Nat->List PyData->List PyData
 |_,[]=>[]
 |i,d::r=>.tuple [.int i,d]::mj (i+1) r
theorem Ib:∀(k:Nat) (ds:List PyData) (i:Nat),(mj k ds)[i]? =ds[i]?.map λd=>.tuple [.int ((k+i:Nat):Int),d]
 |_,[],_=>by simp[mj]
 |k,d::r,0=>by simp[mj]
 |k,d::r,i+1=>by
  simp only[mj,getElem?_cons_succ];rw[Ib (k+1) r i];have e:k+1+i=k+(i+1):=by omega
  rw[e]
theorem LQ (k:Nat)(ds:List PyData):(mj k ds).length=ds.length:=by
 induction ds generalizing k with
 |nil=>rfl
 |cons d r ih=>simp[mj,ih]
noncomputable def vV (ds es:List PyData):List PyData:=List.zipWith (λa b=>PyData.tuple [a,b]) ds es
def DP (fs:VA):VA:=λS=>match fs S with
 |some [.list ds]=>some<|mj 0 ds
 |_=>none
def Ma (fs:VA):VA:=λS=>match fs S with
 |some [.list ds,.list es]=>some<|vV ds es
 |_=>none
section
variable {k:Nat}
theorem WL (h1:aR K F a xs)(h2:aG K F ds xs):LK K F (xY K a) ds where
 go:=λi d F' H' e f1 f2=>by obtain⟨v,ev,hv⟩:=h2.at e;have hq:=(f1.trans f2).seq h1;refine⟨⟨xs,v,hq,ev⟩,λx DN y=>?_⟩;obtain⟨e1,y⟩:=y;subst e1;have:=y xs hq;rw[ev] at this;cases this;exact⟨F',bA.refl f2,Has.same f1 hv⟩
 stop:=λi F' H' e f1 f2=>⟨xs,(f1.trans f2).seq h1,by rw[<-h2.length];exact e⟩
theorem ZQ {lo:Int}:LK K F (V3 lo n) (iY lo n) where
 go:=λi d F' H' e f1 f2=>by
  unfold iY at e;rw[getElem?_map] at e;by_cases hi:i<n
  .rw[getElem?_range hi] at e;cases e;refine⟨hi,λx DN y=>?_⟩;obtain⟨e1,e2⟩:=y;subst e1 e2;exact⟨F',bA.refl f2,rfl⟩
  .rw[getElem?_eq_none (by simp;omega)] at e;cases e
 stop:=λi F' H' e f1 f2=>by unfold iY at e;show n<=i;simpa using e
theorem WM (h1:aR K F a xs)(h2:aG K F ds xs):LK K F (Ite K a) (mj 0 ds) where
 go:=λi d F' H' e f1 f2=>by
  rw[Ib] at e;cases q:ds[i]? with
  |none=>rw[q] at e;cases e
  |some d0=>rw[q] at e;cases e;obtain⟨v,ev,hv⟩:=h2.at q;have hq:=(f1.trans f2).seq h1;refine⟨⟨xs,v,hq,ev⟩,λx DN y=>?_⟩;obtain⟨pp,z,hn,e1,hz,e2⟩:=y;subst e1 e2;have:=hz xs hq;rw[ev] at this;cases this;have gr:bA F' H' (upd F' pp<|.tup [.int (i:Int),v]) (upd H' pp<|.tup [.int (i:Int),v]):=bA.DK f2 hn;refine⟨_,gr,pp,_,rfl,bB.of ao,_,_,rfl,?_,_,_,rfl,Has.same (f1.trans gr.ff) hv,rfl⟩;show V.int (i:Int)=V.int ((0+i:Nat):Int);rw[zero_add]
 stop:=λi F' H' e f1 f2=>⟨xs,(f1.trans f2).seq h1,by rw[<-h2.length];rw[LQ] at e;exact e⟩
theorem ZR (h1:aR K F a xs)(h2:aG K F ds xs)(h3:aR K F b ys)(h4:aG K F es ys):LK K F (Itz K a b) (vV ds es) where
 go:=λi d F' H' e f1 f2=>by
  unfold vV at e;rw[List.getElem?_zipWith] at e;cases q:ds[i]? with
  |none=>rw[q] at e;cases e
  |some d0=>
   cases q2:es[i]? with
   |none=>rw[q,q2] at e;cases e
   |some e0=>rw[q,q2] at e;cases e;obtain⟨v,ev,hv⟩:=h2.at q;obtain⟨u,eu,hu⟩:=h4.at q2;have hq:=(f1.trans f2).seq h1;have hq2:=(f1.trans f2).seq h3;refine⟨⟨xs,v,ys,u,hq,ev,hq2,eu⟩,λx DN y=>?_⟩;obtain⟨pp,z,w,hn,e1,hz,hw,e2⟩:=y;subst e1 e2;have t1:=hz xs hq;have t2:=hw ys hq2;rw[ev] at t1;rw[eu] at t2;cases t1;cases t2;have gr:bA F' H' (upd F' pp<|.tup [v,u]) (upd H' pp<|.tup [v,u]):=bA.DK f2 hn;exact⟨_,gr,pp,_,rfl,bB.of ao,_,_,rfl,Has.same (f1.trans gr.ff) hv,_,_,rfl,Has.same (f1.trans gr.ff) hu,rfl⟩
 stop:=λi F' H' e f1 f2=>by unfold vV at e;rw[List.length_zipWith] at e;exact⟨xs,ys,(f1.trans f2).seq h1,(f1.trans f2).seq h3,by rw[<-h2.length,←h4.length];omega⟩
theorem itL (hl:PE X l (tV X.K RS f)):PI X tg l (xu X.K<|cu f):=PI.imp (iw hl) λ_ H Q q=>by
 obtain⟨au,G,H₀,S,F,I,ds,e,q⟩:=q;unfold cu at e;split at e
 .rename_i q1;cases e;refine⟨au,G,H₀,S,F,I,_,q1,λv F' H' g hv=>?_⟩;obtain⟨a,xs,rfl,h1,h2⟩:=hv;exact⟨a,rfl,⟨xs,g.fh.seq h1⟩,q _ F' H' g<|WL h1 h2⟩
 .cases e
theorem akh (h:PI X tg l (Tc<|Gn X.K fs)):PI X tg l (xu X.K<|vU fs):=PI.imp h λ_ H Q q=>by
 obtain⟨au,G,H₀,S,F,I,ds,e,q⟩:=q;unfold vU at e;split at e
 .rename_i j q1;split at e
  .rename_i hj;cases e;refine⟨au,G,H₀,S,F,I,_,q1,λvs F' H' g hv=>?_⟩;obtain⟨v,rfl,hv'⟩:=aG.one hv;have ev:=hv';exact⟨j,by rw[ev],hj.1,hj.2,q _ F' H' g ZQ⟩
  .cases e
 .cases e
theorem itE (h:PI X tg l (TY X.K<|yH X.K fs)):PI X tg l (xu X.K<|DP fs):=PI.imp h λ_ H Q q=>by
 obtain⟨au,G,H₀,S,F,I,ds,e,q⟩:=q;unfold DP at e;split at e
 .rename_i es q1;cases e;refine⟨au,G,H₀,S,F,I,_,q1,λvs F' H' g hv=>?_⟩;obtain⟨v,rfl,a,xs,rfl,h1,h2⟩:=aG.one hv;exact⟨a,rfl,⟨xs,g.fh.seq h1⟩,q _ F' H' g<|WM h1 h2⟩
 .cases e
theorem itZ (h:PI X tg l (ae6 X.K<|yH X.K fs)):PI X tg l (xu X.K<|Ma fs):=PI.imp h λ_ H Q q=>by
 obtain⟨au,G,H₀,S,F,I,ds,e,q⟩:=q;unfold Ma at e;split at e
 .rename_i es es2 q1;cases e;refine⟨au,G,H₀,S,F,I,_,q1,λvs F' H' g hv=>?_⟩;obtain⟨v,u,rfl,⟨a,xs,rfl,h1,h2⟩,b,ys,rfl,h3,h4⟩:=aG.two hv;exact⟨a,b,rfl,⟨xs,g.fh.seq h1⟩,⟨ys,g.fh.seq h3⟩,q _ F' H' g<|ZR h1 h2 h3 h4⟩
 .cases e
end
section
variable {σ:St}
theorem VI.set (I:VI K au G H₀ S F σ H)(hd:Has K F d v):VI K au G H₀ (S.set i<|some (.fr,d)) F (σ.set i<|some v) H where
 pl:=I.pl
 len:=by rw[length_set,length_set];exact I.len
 same:=I.same
 gf:=I.gf
 new:=I.new
 sub:=I.sub
 slot:=λj t d' e=>by
  by_cases hj:j=i
  .subst hj;by_cases hl:j<S.length
   .rw[getElem?_set_self hl] at e;cases e;exact⟨v,getElem?_set_self (by rw[<-I.len];exact hl),hd⟩
   .rw[getElem?_eq_none (by rw[length_set];omega)] at e;cases e
  .rw[getElem?_set_ne<|Ne.symm hj] at e ⊢;exact I.slot j t d' e
 inj:=λj k t t' d1 d2 u e1 e2 n1 n2 v1 v2=>by
  have h1:j≠i:=λz=>by
   subst z;by_cases hl:j<S.length
   .rw[getElem?_set_self hl] at e1;cases e1;exact(Bool.false_ne_true n1)
   .rw[getElem?_eq_none (by rw[length_set];omega)] at e1;cases e1
  have h2:k≠i:=λz=>by
   subst z;by_cases hl:k<S.length
   .rw[getElem?_set_self hl] at e2;cases e2;exact(Bool.false_ne_true n2)
   .rw[getElem?_eq_none (by rw[length_set];omega)] at e2;cases e2
  rw[getElem?_set_ne<|Ne.symm h1] at e1 v1;rw[getElem?_set_ne<|Ne.symm h2] at e2 v2;exact I.inj j k t t' d1 d2 u e1 e2 n1 n2 v1 v2
end
abbrev VG:=PyData->GS->Option GS
abbrev QV:=List PyData->GS->Option GS
noncomputable def Cm (S:GS)(i:Nat):Bool:=match S[i]? with
 |some (some (.io,_))=>false
 |_=>true
def gN (i:Nat):VG:=λd S=>if Cm S i=true then some (S.set i<|some (.fr,d)) else none
noncomputable def g0:QV:=λds S=>match ds with
 |[]=>some S
 |_=>none
noncomputable def gC (t:VG)(u:QV):QV:=λds S=>match ds with
 |d::r=>match t d S with
  |some S1=>u r S1
  |none=>none
 |[]=>none
noncomputable def gT (n:Nat)(u:QV):VG:=λd S=>match d with
 |.tuple ds=>if ds.length=n then u ds S else none
 |_=>none
def yL (K:Frag)(t:VG)(js:List Nat):TG:=λv σ H Q=>∃au G H₀ S F,VI K au G H₀ S F σ H/\∃d S',Has K F d v/\t d S=some S'/\∀σ',(∀(j:Nat),j∉js->σ'[j]? =σ[j]?)->VI K au G H₀ S' F σ' H->Q σ' H
def Ue (K:Frag)(t:QV)(js:List Nat):Kw:=λvs σ H Q=>∃au G H₀ S F,VI K au G H₀ S F σ H/\∃ds S',aG K F ds vs/\t ds S=some S'/\∀σ',(∀(j:Nat),j∉js->σ'[j]? =σ[j]?)->VI K au G H₀ S' F σ' H->Q σ' H
section
variable {pos:Pos}
theorem tgN (h:PG X e (cC i)):PG X e (yL X.K (gN i) [i]):=PG.imp h λv σ H Q q=>by
 obtain⟨au,G,H₀,S,F,I,d,S',hd,e,q⟩:=q;unfold gN at e;split at e
 .cases e;exact q _ (λj hj=>getElem?_set_ne<|λz=>hj<|by simp[z]) (I.set hd)
 .cases e
theorem qu.imp (h:qu X es t)(ht:∀v σ H Q,t' v σ H Q->t v σ H Q):qu X es t':=λpins s σ H v u Q I r q=>h pins s σ H v u Q I r<|ht v σ H Q q
theorem tg0:qu X [] (Ue X.K g0 []):=qu.imp pO λvs σ H Q q=>by
 obtain⟨au,G,H₀,S,F,I,ds,S',hd,e,q⟩:=q;unfold g0 at e;split at e
 .cases e;have hd':=hd;rw[hd'];exact q σ (λ_ _=>rfl) I
 .cases e
theorem tgC (h1:PG X e (yL X.K t js))(h2:qu X es (Ue X.K u ks))(hs:(assignEach (e::es) X.env).map (·.2)=assign e X.env::(assignEach es X.env).map (·.2):=by rfl):qu X (e::es) (Ue X.K (gC t u)<|js++ks):=qu.imp (fW h1 h2 hs) λvs σ H Q q=>by
 obtain⟨au,G,H₀,S,F,I,ds,S',hd,e,q⟩:=q;unfold gC at e;split at e
 .rename_i d r;split at e
  .rename_i S1 q1;obtain⟨v,rr,rfl,hv,hr⟩:=hd;refine⟨au,G,H₀,S,F,I,d,S1,hv,q1,λσ1 k1 I1=>⟨au,G,H₀,S1,F,I1,r,S',hr,e,λσ2 k2 I2=>q σ2 (λj hj=>?_) I2⟩⟩;rw[k2 j<|λz=>hj<|mem_append_right _ z,k1 j<|λz=>hj<|mem_append_left _ z]
  .cases e
 .cases e
theorem tgT (hc:X.calm=true)(h:qu X es (Ue X.K u js))(hn:(assignEach es X.env).length=n:=by rfl)(hst:(assignEach es X.env).findIdx? (·.1)=none:=by rfl):PG X (.Tuple es k pos) (yL X.K (gT n u) js):=PG.imp (sH hc h hn hst) λv σ H Q q=>by
 obtain⟨au,G,H₀,S,F,I,d,S',hd,e,q⟩:=q;unfold gT at e;split at e
 .rename_i ds;split at e
  .rename_i hl;obtain⟨a,xs,rfl,h1,h2⟩:=hd;exact⟨xs,I.sub.vH h1,by rw[<-h2.length];exact hl,au,G,H₀,S,F,I,ds,S',h2,e,q⟩
  .cases e
 .cases e
end
noncomputable def yM (S:GS):Option Nat->Option (Tg×PyData)
 |none=>none
 |some j=>match S[j]? with
  |some (some (.fr,d))=>some (.fr,d)
  |some (some (.ow,d))=>some (.fr,d)
  |some (some (.io,d))=>some (.fr,d)
  |_=>none
noncomputable def nH (S:GS):List (Option Nat)->Bool
 |[]=>true
 |none::r=>nH S r
 |some j::r=>(match S[j]? with
  |some (some (.fr,_))=>true
  |some (some _)=>false
  |_=>true) && nH S r
def jt (cap:List (Option Nat))(S:GS):GS:=cap.map<|yM S
noncomputable def pU (t:VG)(fc:VT)(fe:VE)(S:GS):List PyData->Option (List PyData)
 |[]=>some []
 |d::r=>match t d S with
  |none=>none
  |some S2=>match fc S2 with
   |none=>none
   |some false=>pU t fc fe S r
   |some true=>match fe S2 with
    |none=>none
    |some e=>match pU t fc fe S r with
     |none=>none
     |some es=>some (e::es)
def jZ (fi:VA)(cap:List (Option Nat))(t:VG)(fc:VT)(fe:VE):VE:=λS=>match fi S with
 |some ds=>@ite _ (nH S cap=true/\ds.length<sizeLine) (Classical.propDecidable _) (match pU t fc fe (jt cap S) ds with
  |some es=>some<|.list es
  |none=>none) none
 |none=>none
def vW (fi:VA)(cap:List (Option Nat))(t:VG)(fc:VT)(fe:VE):VE:=λS=>match fi S with
 |some ds=>@ite _ (ds.length<sizeLine) (Classical.propDecidable _) (match pU t fc (yx fe) (jt cap S) ds with
  |some es=>some<|.list es
  |none=>none) none
 |none=>none
theorem Mf {i:Nat}(h:(jt cap S)[i]? =some (some (t,d))):∃j t',cap[i]? =some (some j)/\S[j]? =some (some (t',d))/\t'.dat=true/\t=.fr:=by
 unfold jt at h;rw[getElem?_map] at h;cases q:cap[i]? with
 |none=>rw[q] at h;cases h
 |some o=>
  rw[q] at h;cases o with
  |none=>simp[yM] at h
  |some j=>
   simp only[map_some,yM,Option.some.injEq] at h;split at h
   .rename_i d' hS;cases h;exact⟨j,.fr,rfl,hS,rfl,rfl⟩
   .rename_i d' hS;cases h;exact⟨j,.ow,rfl,hS,rfl,rfl⟩
   .rename_i d' hS;cases h;exact⟨j,.io,rfl,hS,rfl,rfl⟩
   .cases h
theorem yN:∀{cap:List (Option Nat)}{i j:Nat} {t:Tg} {d:PyData},nH S cap=true->cap[i]? =some (some j)->S[j]? =some (some (t,d))->t=.fr
 |[],i,j,t,d,_,h,_=>by simp at h
 |none::r,0,j,t,d,_,h,_=>by simp at h
 |none::r,i+1,j,t,d,hc,h,hs=>yN (cap:=r) (i:=i) hc (by simpa using h) hs
 |some k::r,0,j,t,d,hc,h,hs=>by
  have e:k=j:=by simpa using h
  subst e;unfold nH at hc;rw[hs] at hc;cases t<;>simp at hc ⊢
 |some k::r,i+1,j,t,d,hc,h,hs=>by unfold nH at hc;rw[and_eq_true] at hc;exact yN (cap:=r) (i:=i) hc.2 (by simpa using h) hs
theorem WQ {i j:Nat}(h:cap[i]? =some (some j))(hs:σ[j]? =some (some v)):(cD cap σ)[i]? =some (some v):=by unfold cD;rw[getElem?_map,h];simp only[map_some,hs]
section
variable {cap:List (Option Nat)}
theorem VI.block (I:VI K au G H₀ S F σ H){R:Hp}(hR:Same R H)(hv:∀(i j:Nat) t d v,cap[i]? =some (some j)->S[j]? =some (some (t,d))->σ[j]? =some (some v)->t.dat=true->Wy K au H₀ F H j t d v->Has K R d v):
  VI K (λ_=>none) R H (jt cap S) R (cD cap σ) H where
 pl:=λ_ _ _ e=>e
 len:=by unfold jt cD;rw[length_map,length_map]
 same:=Same.refl _
 gf:=Same.refl _
 new:=λ_ _ e=>.inl e
 sub:=hR
 slot:=λi t d e=>by obtain⟨j,t',h1,h2,h3,rfl⟩:=Mf e;obtain⟨v,hv1,hs⟩:=I.slot j t' d h2;exact⟨v,WQ h1 hv1,hv i j t' d v h1 h2 hv1 h3 hs⟩
 inj:=λi j t t' d d' v e1 _ n1=>by obtain⟨_,_,_,_,_,rfl⟩:=Mf e1;exact absurd n1 Bool.false_ne_true
theorem VI.ZV (I:VI K au G H₀ S F σ H)(hc:nH S cap=true):VI K (λ_=>none) F H (jt cap S) F (cD cap σ) H:=
 I.block I.sub λi j t d v h1 h2 _ _ hs=>by have:=yN hc h1 h2;subst this;exact hs
theorem VI.WR (I:VI K au G H₀ S F σ H):VI K (λ_=>none) H H (jt cap S) H (cD cap σ) H:=
 I.block (Same.refl _) λi j t d v h1 h2 _ hd hs=>by
  have own:fO K H₀ F H d v->Has K H d v:=λ⟨a,ds,xs,e1,e2,e3,_,_,e6⟩=>by rw[e1];exact⟨a,xs,e2,aR.of e3,e6.same I.sub⟩
  cases t with
  |fr=>exact Has.same I.sub hs
  |ow=>exact own hs
  |io=>exact own hs.1
  |rf=>cases hd
  |ce=>cases hd
end
theorem adz {js:List Nat}(hjs:(js.all λj=>cap[j]? ==some none)=true)(k:∀(j:Nat),j∉js->σ'[j]? =(cD cap σ)[j]?):gO (cD cap σ) σ':=λj v e=>by
 by_cases hj:j∈js
 .have:=all_eq_true.mp hjs j hj;have hc:cap[j]? =some none:=by simpa using this
  unfold cD at e;rw[getElem?_map,hc] at e;simp at e
 .rw[k j hj];exact e
theorem abV (hjs:(js.all λj=>cap[j]? ==some none)=true)
  (I:VI K au G H₀ S F σ H)(e1:fi S=some ds)(hlen:ds.length<sizeLine)(e2:pU t fc fe (jt cap S) ds=some es)
  (Rf:Hp->Hp->Hp)(hb:∀F' H',bA F H F' H'->VI K (λ_=>none) (Rf F' H') H' (jt cap S) (Rf F' H') (cD cap σ) H'/\Same F' (Rf F' H'))
  (hr:∀(F' H' F2 H2:Hp) S2 d v,fe S2=some d->Same F' H'->bA (Rf F' H') H' F2 H2->Has K F2 d v->∃F3,bA F' H' F3 H2/\Has K F3 d v)(hfe:∀S d,fe S=some d->fe' S=some d)
  (q:∀v F' H',bA F H F' H'->RN K F H F' H' (.list es) v->Q v H'):ur (xu K fi) cap (yL K t js) (ji K fc) (tV K RS fe') σ H Q:=by
 refine⟨au,G,H₀,S,F,I,ds,e1,λJ F1 H1 g1 it D hD=>?_⟩;refine⟨λi m H'=>∃F' es1 es2 ys,m=ds.length - i/\i<=ds.length/\H' D=some (.lst ys)/\F' D=none/\aG K F' es1 ys/\bA F1 H1 F' H'/\es1.length<=i/\pU t fc fe (jt cap S) (ds.drop i)=some es2/\es1++es2=es,?_,?_⟩
 .exact⟨_,F1,[],es,[],rfl,zero_le _,ao,g1.fh.free hD,rfl,bA.alloc g1.fh hD,zero_le _,e2,rfl⟩
 .rintro i m H' ⟨F',es1,es2,ys,rfl,hi,Bg,hFD,hh,g,hle,hr2,happ⟩;by_cases hlt:i<ds.length
  .have hd:ds[i]? =some ds[i]:=by simp[hlt]
   rw[List.drop_eq_getElem_cons hlt] at hr2;obtain⟨go,yl⟩:=it.go i ds[i] F' H' hd g.ff g.fh;refine .inr ⟨go,λx H2 y=>?_⟩;obtain⟨F2,g2,hx⟩:=yl x H2 y;obtain⟨IB,hR⟩:=hb F2 H2<|(g1.trans g).trans g2;have hr':=hr F2 H2;generalize Rf F2 H2=R at*
   generalize ds[i]=d0 at*
   unfold pU at hr2;cases q1:t d0 (jt cap S) with
   |none=>rw[q1] at hr2;cases hr2
   |some S2=>
    rw[q1] at hr2;simp only at hr2;refine⟨λ_=>none,R,H2,jt cap S,R,IB,d0,S2,Has.same hR hx,q1,λσ2 k2 I2=>⟨adz hjs k2,?_⟩⟩;have D2:=g2.hh _ _ Bg;cases q2:fc S2 with
    |none=>rw[q2] at hr2;cases hr2
    |some b=>
     rw[q2] at hr2;refine⟨λ_=>none,R,H2,S2,R,I2,b,q2,λF3 H3 g3=>?_⟩;cases b with
     |false=>
      simp only[false_eq_true,if_false];have gg:bA F' H' F2 H3:=⟨g2.hh.trans g3.hh,g2.ff,hR.trans<|g3.ff.trans g3.fh,g2.new,g2.pl⟩;have hF2:F2 D=none:=by
       cases z:F2 D with
       |none=>rfl
       |some o=>
        rcases g2.new D o z with w|w|w
        .rw[hFD] at w;cases w
        .rw[Bg] at w;cases w
        .have:=g2.fh D o z;rw[D2] at this;cases this;simp[qz] at w
      exact⟨ds.length - (i+1),by omega,F2,es1,es2,ys,rfl,hlt,g3.hh _ _ D2,hF2,hh.same g2.ff,g.trans gg,by omega,hr2,happ⟩
     |true=>
      simp only[if_true] at hr2 ⊢;cases q3:fe S2 with
      |none=>rw[q3] at hr2;cases hr2
      |some e0=>
       rw[q3] at hr2;simp only at hr2;cases q4:pU t fc fe (jt cap S) (ds.drop<|i+1) with
       |none=>rw[q4] at hr2;cases hr2
       |some es3=>
        rw[q4] at hr2;cases hr2;refine⟨λ_=>none,R,H2,S2,F3,I2.grow g3,e0,hfe _ _ q3,λv F4 H4 g4 hv=>?_⟩;obtain⟨F5,g5,hv5⟩:=hr' F4 H4 S2 e0 v q3 g2.fh (g3.trans g4) hv;have D4:=g5.hh _ _ D2;have g25:=g2.trans g5;have hF5:F5 D=none:=by
         cases z:F5 D with
         |none=>rfl
         |some o=>
          rcases g25.new D o z with w|w|w
          .rw[hFD] at w;cases w
          .rw[Bg] at w;cases w
          .have:=g25.fh D o z;rw[D4] at this;cases this;simp[qz] at w
        have hly:=hh.length;refine⟨ys,D4,by omega,ds.length - (i+1),by omega,F5,es1++[e0],es3,ys++[v],rfl,hlt,ao,hF5,aG.snoc hv5<|hh.same g25.ff,?_,by simp;omega,rfl,by simpa using happ⟩;have WT:=g.trans g25;refine⟨λb o e=>?_,WT.ff,λb o e=>?_,WT.new,WT.pl⟩
        .rw[ak<|aU e hD];exact WT.hh b o e
        .rw[ak<|aU e hF5];exact WT.fh b o e
  .have hie:i=ds.length:=by omega
   subst hie;rw[List.drop_eq_nil_of_le<|le_refl _] at hr2;cases hr2;rw[append_nil] at happ;subst happ;refine .inl ⟨it.stop _ F' H' (le_refl _) g.ff g.fh,q _ F' H' (g1.trans g) ⟨_,D,ys,rfl,rfl,g1.hh.free hD,hFD,Bg,hh⟩⟩
theorem afC (hjs:(js.all λj=>cap[j]? ==some none)=true)(q:tV K RN (jZ fi cap t fc fe) σ H Q):
  ur (xu K fi) cap (yL K t js) (ji K fc) (tV K RS fe) σ H Q:=by
 obtain⟨au,G,H₀,S,F,I,d,e,q⟩:=q;unfold jZ at e;split at e
 .rename_i ds e1;split at e
  .rename_i hc;split at e
   .rename_i es e2;cases e;exact abV hjs I e1 hc.2 e2 (λF' _=>F') (λF' H' g=>⟨(I.grow g).ZV hc.1,Same.refl _⟩) (λF' H' F2 H2 S2 d v _ _ g2 hv=>⟨F2,g2,hv⟩) (λ_ _ h=>h) q
   .cases e
  .cases e
 .cases e
theorem ahU (hjs:(js.all λj=>cap[j]? ==some none)=true)(q:tV K RN (vW fi cap t fc fe) σ H Q):
  ur (xu K fi) cap (yL K t js) (ji K fc) (tV K RS fe) σ H Q:=by
 obtain⟨au,G,H₀,S,F,I,d,e,q⟩:=q;unfold vW at e;split at e
 .rename_i ds e1;split at e
  .rename_i hc;split at e
   .rename_i es e2;cases e;refine abV hjs I e1 hc e2 (λ_ H'=>H') (λF' H' g=>⟨(I.grow g).WR,g.fh⟩) (λF' H' F2 H2 S2 d v he fh g2 hv=>?_) (λ_ _ h=>(sI h).1) q;exact⟨wide F' H2,yt ⟨g2.hh,Same.refl _,fh.trans g2.hh,λ_ _ e=>.inl e,λ_ _ _ e=>e⟩,vL (sI he).2<|Has.same g2.fh hv⟩
   .cases e
  .cases e
 .cases e
noncomputable def fQ:VT:=λ_=>some true
theorem nD.imp (h:nD X ifs t)(ht:∀σ H Q,t' σ H Q->t σ H Q):nD X ifs t':=λpins s σ H Q I q=>h pins s σ H Q I<|ht σ H Q q
theorem ifN:nD X [] (ji X.K fQ):=nD.imp zX λ_ H Q q=>by obtain⟨au,G,H₀,S,F,I,b,e,q⟩:=q;cases e;exact q F H<|bA.refl I.sub
theorem dLC (he:PE X e (ur (xu X.K fi) cap (yL X.K t js) (ji X.K fc)<|tV X.K RS fe))(hjs:(js.all λj=>cap[j]? ==some none)=true:=by rfl):PE X e (tV X.K RN<|jZ fi cap t fc fe):=
 he.imp λ_ _ _ q=>afC hjs q
theorem aki (he:PE X e (ur (xu X.K fi) cap (yL X.K t js) (ji X.K fc)<|tV X.K RS fe))(hjs:(js.all λj=>cap[j]? ==some none)=true:=by rfl):PE X e (tV X.K RN<|vW fi cap t fc fe):=
 he.imp λ_ _ _ q=>ahU hjs q
inductive Out where
 |fail
 |nxt (S:GS)
 |ret (S:GS) (b:Bool) (d:PyData)
 |brk (S:GS)
 |cnt (S:GS)
abbrev VS:=GS->Out
def RR (K:Frag)(H₀:Hp)(S:GS)(σ:St)(F H:Hp):Bool->PyData->V->Prop
 |false,d,v=>Has K F d v
 |true,d,v=>fO K H₀ F H d v/\∀(i:Nat) t d',S[i]? =some (some (t,d'))->t.own=true->σ[i]? ≠some (some v)
def qJ (K:Frag)(au:Nat->Option Addr)(G H₀:Hp)(D:Ends):Out->Prop
 |.fail=>False
 |.nxt S=>∀F σ H,VI K au G H₀ S F σ H->D.nx σ H
 |.brk S=>∀F σ H,VI K au G H₀ S F σ H->D.bk σ H
 |.cnt S=>∀F σ H,VI K au G H₀ S F σ H->D.ct σ H
 |.ret S b d=>∀v F σ H,VI K au G H₀ S F σ H->RR K H₀ S σ F H b d v->D.rt v H
def iH (K:Frag)(g:VS):TS:=λD σ H=>∃au G H₀ S F,VI K au G H₀ S F σ H/\qJ K au G H₀ D (g S)
section
variable {D:Ends}
theorem VI.self (I:VI K au G H₀ S F σ H):VI K au F H₀ S F σ H:=⟨I.len,I.same,Same.refl _,λ_ _ e=>.inl e,I.sub,I.slot,I.inj,λ_ _ _ e=>e⟩
theorem VI.rebase (I:VI K au G H₀ S F σ H)(J:VI K au F H₀ S' F' σ' H'):VI K au G H₀ S' F' σ' H':=⟨J.len,J.same,I.gf.trans J.gf,λa o e=>by
 rcases J.new a o e with z|z|z
 .exact I.new a o z
 .exact .inr<|.inl z
 .exact .inr (.inr z),J.sub,J.slot,J.inj,λa o u e=>I.pl a o u (J.pl a o u e)⟩
end
noncomputable def cJ:VS:=λS=>.nxt S
noncomputable def aK (g1 g2:VS):VS:=λS=>match g1 S with
 |.nxt S1=>g2 S1
 |o=>o
noncomputable def c7 (c:VT)(g1 g2:VS):VS:=λS=>match c S with
 |some true=>g1 S
 |some false=>g2 S
 |none=>.fail
section
variable {rest a b:List Stmt}
theorem akj:iG X [] (iH X.K cJ):=iG.imp cg λD σ H q=>by obtain⟨au,G,H₀,S,F,I,q⟩:=q;exact q F σ H I
theorem akk (h:PS X s (iH X.K g)):iG X [s] (iH X.K g):=aP h
theorem akl (h1:PS X s (iH X.K g1))(h2:iG X rest (iH X.K g2)):iG X (s::rest) (iH X.K<|aK g1 g2):=iG.imp (aH h1 h2) λD σ H q=>by
 obtain⟨au,G,H₀,S,F,I,q⟩:=q;refine⟨au,G,H₀,S,F,I,?_⟩;unfold aK at q;cases e:g1 S with
 |fail=>rw[e] at q;exact q
 |brk S1=>rw[e] at q;exact q
 |cnt S1=>rw[e] at q;exact q
 |ret S1 b d=>rw[e] at q;exact q
 |nxt S1=>rw[e] at q;exact λF' σ' H' I'=>⟨au,G,H₀,S1,F',I',q⟩
theorem sIf (hc:PT X c (ji X.K tc))(ha:iG X a (iH X.K g1))(hb:iG X b (iH X.K g2)):PS X (.If c a b pos) (iH X.K<|c7 tc g1 g2):=PS.imp (dD hc ha hb) λD σ H q=>by
 obtain⟨au,G,H₀,S,F,I,q⟩:=q;unfold c7 at q;cases e:tc S with
 |none=>rw[e] at q;exact q.elim
 |some k=>
  rw[e] at q;refine⟨au,G,H₀,S,F,I,k,e,λF' H' g=>?_⟩;cases k with
  |true=>simp only[if_true];exact⟨au,G,H₀,S,F',I.grow g,q⟩
  |false=>simp only[false_eq_true,if_false];exact⟨au,G,H₀,S,F',I.grow g,q⟩
noncomputable def DQ:VS:=λ_=>.fail
theorem afD:PS X s (iH X.K DQ):=PS.imp j6 λD σ H q=>by obtain⟨_,_,_,_,_,_,q⟩:=q;exact q
end
noncomputable def cP (f:VE):VS:=λS=>match f S with
 |some d=>.ret S false d
 |none=>.fail
noncomputable def qK (f:VE):VS:=λS=>match f S with
 |some d=>.ret S true d
 |none=>.fail
noncomputable def fU (i:Nat):VS:=λS=>match S[i]? with
 |some (some (.ow,d))=>.ret (S.set i none) true d
 |some (some (.fr,d))=>.ret S false d
 |_=>.fail
section
variable {σ:St}
theorem nJ {S:GS}(h:(S.set i none)[j]? =some (some x)):j≠i/\S[j]? =some (some x):=by
 by_cases hj:j=i
 .subst hj;by_cases hl:j<S.length
  .rw[getElem?_set_self hl] at h;cases h
  .rw[getElem?_eq_none (by rw[length_set];omega)] at h;cases h
 .rw[getElem?_set_ne<|Ne.symm hj] at h;exact⟨hj,h⟩
theorem VI.drop (I:VI K au G H₀ S F σ H)(i:Nat):VI K au G H₀ (S.set i none) F σ H where
 pl:=I.pl
 len:=by rw[length_set];exact I.len
 same:=I.same
 gf:=I.gf
 new:=I.new
 sub:=I.sub
 slot:=λj t d e=>I.slot j t d (nJ e).2
 inj:=λj k t t' d d' v e1 e2=>I.inj j k t t' d d' v (nJ e1).2 (nJ e2).2
theorem Ie (I:VI K au G H₀ S F σ H){i:Nat}(e:S[i]? =some (some (t,d)))(ht:t.own=true)(hv:σ[i]? =some (some<|.ref a)):∃xs,H a=some xs:=by
 obtain⟨v,hv',hs⟩:=I.slot i t d e;rw[hv] at hv';cases hv';cases t with
 |fr=>cases ht
 |rf=>cases ht
 |ow=>obtain⟨a',ds,xs,_,e2,e3,_⟩:=hs;cases e2;exact⟨_,e3⟩
 |io=>obtain⟨a',ds,xs,_,e2,e3,_⟩:=hs.1;cases e2;exact⟨_,e3⟩
 |ce=>obtain⟨a',c,o,_,e2,e3,_⟩:=hs;cases e2;exact⟨_,e3⟩
theorem RN.own {d:PyData}{v:V}(I:VI K au G H₀ S F σ H)(r:RN K F H F' H' d v):fO K H₀ F' H' d v/\∀(i:Nat) t d',S[i]? =some (some (t,d'))->t.own=true->σ[i]? ≠some (some v):=by obtain⟨ds,a,xs,h1,h2,h3,h4,h5,h6⟩:=r;refine⟨⟨a,ds,xs,h1,h2,h5,h4,I.same.free h3,h6⟩,λi t d' e ht hv=>?_⟩;rw[h2] at hv;obtain⟨ys,hy⟩:=Ie I e ht hv;rw[h3] at hy;cases hy
end
section
variable {s:Stmt}
theorem akm (he:PE X e (tV X.K RS f)):PS X (.Return (some e) pos) (iH X.K<|cP f):=PS.imp (cF he) λD σ H q=>by
 obtain⟨au,G,H₀,S,F,I,q⟩:=q;unfold cP at q;cases e:f S with
 |none=>rw[e] at q;exact q.elim
 |some d=>rw[e] at q;exact⟨au,G,H₀,S,F,I,d,e,λv F' H' g hv=>q v F' σ H' (I.grow g) hv⟩
theorem ahV (he:PE X e (tV X.K RN f)):PS X (.Return (some e) pos) (iH X.K<|qK f):=PS.imp (cF he) λD σ H q=>by
 obtain⟨au,G,H₀,S,F,I,q⟩:=q;unfold qK at q;cases e:f S with
 |none=>rw[e] at q;exact q.elim
 |some d=>rw[e] at q;exact⟨au,G,H₀,S,F,I,d,e,λv F' H' g hv=>q v F' σ H' (I.grow g)<|RN.own I hv⟩
theorem ahW {i:Nat}(he:PE X e (vR i)):PS X (.Return (some e) pos) (iH X.K<|fU i):=PS.imp (cF he) λD σ H q=>by
 obtain⟨au,G,H₀,S,F,I,q⟩:=q;unfold fU at q;split at q
 .rename_i d hS;obtain⟨v,hv,hs⟩:=I.slot i .ow d hS;show vR i σ H D.rt;unfold vR;rw[hv];refine q v F σ H (I.drop i) ⟨hs,λj t d' e ht hv'=>?_⟩;obtain⟨hj,e⟩:=nJ e;exact hj<|I.inj j i t .ow d' d v e hS ht rfl hv' hv
 .rename_i d hS;obtain⟨v,hv,hs⟩:=I.slot i .fr d hS;show vR i σ H D.rt;unfold vR;rw[hv];exact q v F σ H I hs
 .exact q.elim
noncomputable def gEx (f:VE):VS:=λS=>match f S with
 |some _=>.nxt S
 |none=>.fail
noncomputable def bY (f:VE)(t:VG):VS:=λS=>match f S with
 |some d=>match t d S with
  |some S'=>.nxt S'
  |none=>.fail
 |none=>.fail
theorem sAs (h:PS X s (eZ (tV X.K RS f)<|yL X.K t js)):PS X s (iH X.K<|bY f t):=PS.imp h λD σ H q=>by
 obtain⟨au,G,H₀,S,F,I,q⟩:=q;unfold bY at q;cases e:f S with
 |none=>rw[e] at q;exact q.elim
 |some d=>
  rw[e] at q;simp only at q;cases e2:t d S with
  |none=>rw[e2] at q;exact q.elim
  |some S'=>rw[e2] at q;exact⟨au,G,H₀,S,F,I,d,e,λv F' H' g hv=>⟨au,G,H₀,S,F',I.grow g,d,S',hv,e2,λσ' _ I'=>q F' σ' H' I'⟩⟩
def qC (i:Nat)(f:VE):VS:=λS=>match f S with
 |some d=>if Cm S i=true then .nxt (S.set i<|some (.ow,d)) else .fail
 |none=>.fail
theorem VI.afE (I:VI K au G H₀ S F σ H)(ho:fO K H₀ F H d v)(hn:∀(i:Nat) t d',S[i]? =some (some (t,d'))->t.own=true->σ[i]? ≠some (some v)):
  VI K au G H₀ (S.set i<|some (.ow,d)) F (σ.set i<|some v) H where
 pl:=I.pl
 len:=by rw[length_set,length_set];exact I.len
 same:=I.same
 gf:=I.gf
 new:=I.new
 sub:=I.sub
 slot:=λj t d' e=>by
  by_cases hj:j=i
  .subst hj;by_cases hl:j<S.length
   .rw[getElem?_set_self hl] at e;cases e;exact⟨v,getElem?_set_self (by rw[<-I.len];exact hl),ho⟩
   .rw[getElem?_eq_none (by rw[length_set];omega)] at e;cases e
  .rw[getElem?_set_ne<|Ne.symm hj] at e ⊢;exact I.slot j t d' e
 inj:=λj k t t' d1 d2 u e1 e2 n1 n2 v1 v2=>by
  have afF:∀{j:Nat}{t:Tg} {d1:PyData} {u:V},(S.set i<|some (.ow,d))[j]? =some (some (t,d1))->(σ.set i<|some v)[j]? =some (some u)->j=i->u=v:=λ{j t d1 u} e1 v1 z=>by
   subst z;by_cases hl:j<S.length
   .rw[getElem?_set_self (by rw[<-I.len];exact hl)] at v1;exact(Option.some.inj<|Option.some.inj v1).symm
   .rw[getElem?_eq_none (by rw[length_set];omega)] at e1;cases e1
  by_cases hj:j=i
  .by_cases hk:k=i
   .rw[hj,hk]
   .have:=afF e1 v1 hj;subst this;rw[getElem?_set_ne<|Ne.symm hk] at e2 v2;exact absurd v2<|hn k t' d2 e2 n2
  .by_cases hk:k=i
   .have:=afF e2 v2 hk;subst this;rw[getElem?_set_ne<|Ne.symm hj] at e1 v1;exact absurd v1<|hn j t d1 e1 n1
   .rw[getElem?_set_ne<|Ne.symm hj] at e1 v1;rw[getElem?_set_ne<|Ne.symm hk] at e2 v2;exact I.inj j k t t' d1 d2 u e1 e2 n1 n2 v1 v2
theorem sOw (h:PS X s (eZ (tV X.K RN f)<|cC i)):PS X s (iH X.K<|qC i f):=PS.imp h λD σ H q=>by
 obtain⟨au,G,H₀,S,F,I,q⟩:=q;unfold qC at q;cases e:f S with
 |none=>rw[e] at q;exact q.elim
 |some d=>
  rw[e] at q;simp only at q;split at q
  .refine⟨au,G,H₀,S,F,I,d,e,λv F' H' g hv=>?_⟩;obtain⟨h1,h2⟩:=RN.own I hv;exact q F' _ H'<|(I.grow g).afE h1 h2
  .exact q.elim
theorem ZW (h:PS X s (eZ te g))(hi:∀σ H Q,te' σ H Q->te σ H Q):PS X s (eZ te' g):=PS.imp h λD σ H q=>hi σ H _ q
noncomputable def dU (i:Nat)(S:GS):GS:=match S[i]? with
 |some (some (.ow,d))=>S.set i<|some (.fr,d)
 |_=>S
def gFz (i:Nat)(g:VS):VS:=λS=>g<|dU i S
theorem VI.dU (I:VI K au G H₀ S F σ H)(i:Nat):∃F',VI K au G H₀ (dU i S) F' σ H:=by
 unfold VM.dU;split
 .rename_i d hS;obtain⟨v,hv,a,ds,xs,rfl,rfl,e3,e4,e5,e6⟩:=I.slot i .ow d hS;have hl:i<S.length:=by
   by_cases h:i<S.length
   .exact h
   .rw[getElem?_eq_none<|by omega] at hS;cases hS
  have s1:Same F (upd F a<|.lst xs):=aF e4;have s2:Same (upd F a<|.lst xs) H:=λb o e=>by
   by_cases hb:b=a
   .subst hb;rw[ao] at e;cases e;exact e3
   .rw[ak hb] at e;exact I.sub b o e
  refine⟨upd F a (.lst xs),⟨by rw[length_set];exact I.len,I.same,I.gf.trans s1,λb o e=>?_,s2,λj t d' e=>?_,λj k t t' d1 d2 u g1 g2 n1 n2 v1 v2=>?_,λb x u e=>by
   by_cases hb:b=a
   .subst hb;rw[ao] at e;cases e
   .rw[ak hb] at e;exact I.pl b x u e⟩⟩
  .by_cases hb:b=a
   .subst hb;exact .inr<|.inl e5
   .rw[ak hb] at e;exact I.new b o e
  .by_cases hj:j=i
   .subst hj;rw[getElem?_set_self hl] at e;cases e;exact⟨_,hv,a,xs,rfl,aR.of ao,e6.same s1⟩
   .rw[getElem?_set_ne<|Ne.symm hj] at e;obtain⟨u,hu,hs⟩:=I.slot j t d' e;have ow:t.own=true->fO K H₀ F H d' u->fO K H₀ (upd F a<|.lst xs) H d' u:=λht ⟨b,ds',ys,h1,h2,h3,h4,h5,h6⟩=>by
     refine⟨b,ds',ys,h1,h2,h3,?_,h5,h6.same s1⟩
     have:b≠a:=λz=>by subst z;exact hj<|I.inj j i t .ow d' _ _ e hS ht rfl hu (by rw[h2];exact hv)
     rw[ak this];exact h4
    refine⟨u,hu,?_⟩;cases t with
    |fr=>exact Has.same s1 hs
    |ow=>exact ow rfl hs
    |io=>exact⟨ow rfl hs.1,hs.2⟩
    |rf=>exact hs
    |ce=>
     obtain⟨b,c,o,h1,h2,h3,h4,h5,h6⟩:=hs;refine⟨b,c,o,h1,h2,h3,?_,h5,h6.same s1⟩
     have:b≠a:=λz=>by subst z;exact hj<|I.inj j i .ce .ow d' _ _ e hS rfl rfl hu (by rw[h2];exact hv)
     rw[ak this];exact h4
  .have nj:∀{j:Nat}{t:Tg} {d1:PyData},(S.set i<|some (.fr,.list ds))[j]? =some (some (t,d1))->t.own=true->S[j]? =some (some (t,d1)):=λ{j t d1} g1 n1=>by
    by_cases hj:j=i
    .subst hj;rw[getElem?_set_self hl] at g1;cases g1;exact absurd n1 Bool.false_ne_true
    .rw[getElem?_set_ne<|Ne.symm hj] at g1;exact g1
   exact I.inj j k t t' d1 d2 u (nj g1 n1) (nj g2 n2) n1 n2 v1 v2
 .exact⟨F,I⟩
end
section
variable {σ:St}
noncomputable def ju (S:GS)(i:Nat):Option (Tg×List PyData):=match S[i]? with
 |some (some (.ow,.list ds))=>some (.ow,ds)
 |some (some (.io,.list ds))=>some (.io,ds)
 |_=>none
theorem Ig (h:ju S i=some (t,ds)):S[i]? =some (some (t,.list ds))/\t.own=true:=by
 unfold ju at h;split at h
 .cases h;exact⟨by assumption,rfl⟩
 .cases h;exact⟨by assumption,rfl⟩
 .cases h
theorem Cp (h:ju S i=some (t,ds)):t=.ow\/t=.io:=by
 unfold ju at h;split at h
 .cases h;exact .inl rfl
 .cases h;exact .inr rfl
 .cases h
theorem VI.own (I:VI K au G H₀ S F σ H)(h:ju S i=some (t,ds)):∃a xs,σ[i]? =some (some<|.ref a)/\H a=some (.lst xs)/\aG K F ds xs/\
  ∀(ds':List PyData) (xs':List V) (F' H':Hp),bA F H F' H'->aG K F' ds' xs'->VI K au G H₀ (S.set i<|some (t,.list ds')) F' σ (upd H' a<|.lst xs'):=by
 obtain⟨hS,ht⟩:=Ig h;obtain⟨v,hv,hs⟩:=I.slot i t _ hS;have ho:fO K H₀ F H (.list ds) v:=by
  rcases Cp h with rfl|rfl
  .exact hs
  .exact hs.1
 obtain⟨a,ds0,xs,e1,rfl,e3,e4,e5,e6⟩:=ho;cases e1;have hl:i<S.length:=by
  by_cases h:i<S.length
  .exact h
  .rw[getElem?_eq_none<|by omega] at hS;cases hS
 refine⟨a,xs,hv,e3,e6,λds' xs' F' H' g hx=>?_⟩;have J:=I.grow g;have hF':F' a=none:=by
  cases q:F' a with
  |none=>rfl
  |some o=>
   rcases g.new a o q with z|z|z
   .rw[e4] at z;cases z
   .rw[e3] at z;cases z
   .have:=g.fh a o q;rw[g.hh _ _ e3] at this;cases this;simp[qz] at z
 refine⟨by rw[length_set];exact I.len,λb o e=>?_,J.gf,J.new,λb o e=>?_,λj t' d' e=>?_,λj k t1 t2 d1 d2 u g1 g2 n1 n2 v1 v2=>?_,J.pl⟩
 .rw[ak<|aU e e5];exact J.same b o e
 .rw[ak<|aU e hF'];exact J.sub b o e
 .by_cases hj:j=i
  .subst hj;rw[getElem?_set_self hl] at e;cases e;refine⟨_,hv,?_⟩;have o:fO K H₀ F' (upd H' a<|.lst xs') (.list ds') (.ref a):=⟨a,ds',xs',rfl,rfl,ao,hF',e5,hx⟩;rcases Cp h with rfl|rfl
   .exact o
   .exact⟨o,hs.2⟩
  .rw[getElem?_set_ne<|Ne.symm hj] at e;obtain⟨u,hu,hs'⟩:=J.slot j t' d' e;have ow:t'.own=true->fO K H₀ F' H' d' u->fO K H₀ F' (upd H' a<|.lst xs') d' u:=λht' ⟨b,ds1,ys,h1,h2,h3,h4,h5,h6⟩=>by
    refine⟨b,ds1,ys,h1,h2,?_,h4,h5,h6⟩
    have:b≠a:=λz=>by subst z;exact hj<|I.inj j i t' t d' _ _ e hS ht' ht hu (by rw[h2];exact hv)
    rw[ak this];exact h3
   refine⟨u,hu,?_⟩;cases t' with
   |fr=>exact hs'
   |ow=>exact ow rfl hs'
   |io=>exact⟨ow rfl hs'.1,hs'.2⟩
   |rf=>exact hs'
   |ce=>
    obtain⟨b,c,o,h1,h2,h3,h4,h5,h6⟩:=hs';refine⟨b,c,o,h1,h2,?_,h4,h5,h6⟩
    have:b≠a:=λz=>by subst z;exact hj<|I.inj j i .ce t d' _ _ e hS rfl ht hu (by rw[h2];exact hv)
    rw[ak this];exact h3
 .have nj:∀{j:Nat}{t1:Tg} {d1:PyData},(S.set i<|some (t,.list ds'))[j]? =some (some (t1,d1))->t1.own=true->∃d2,S[j]? =some (some (t1,d2)):=λ{j t1 d1} g1 n1=>by
   by_cases hj:j=i
   .subst hj;rw[getElem?_set_self hl] at g1;cases g1;exact⟨_,hS⟩
   .rw[getElem?_set_ne<|Ne.symm hj] at g1;exact⟨_,g1⟩
  obtain⟨d3,q1⟩:=nj g1 n1;obtain⟨d4,q2⟩:=nj g2 n2;exact I.inj j k t1 t2 d3 d4 u q1 q2 n1 n2 v1 v2
end
def iM (i:Nat)(fs:VA):VS:=λS=>match ju S i,fs S with
 |some (t,ds),some [d]=>@ite _ (ds.length<sizeLine) (Classical.propDecidable _) (.nxt<|S.set i<|some (t,.list<|ds++[d])) .fail
 |_,_=>.fail
def mF (i:Nat)(fk f:VE):VS:=λS=>match f S,fk S,ju S i with
 |some d,some (.int k),some (t,ds)=>(match lR ds.length k with
  |some j=>.nxt<|S.set i<|some (t,.list<|ds.set j d)
  |none=>.fail)
 |_,_,_=>.fail
def nO (h:PyData->PyData->Option PyData)(i:Nat)(fk f:VE):VS:=λS=>match ju S i,fk S,f S with
 |some (t,ds),some (.int k),some y=>(match lR ds.length k with
  |some j=>(match ds[j]? with
   |some x=>(match h x y with
    |some z=>.nxt<|S.set i<|some (t,.list<|ds.set j z)
    |none=>.fail)
   |none=>.fail)
  |none=>.fail)
 |_,_,_=>.fail
noncomputable def Gp (h:PyData->PyData->Option PyData)(i:Nat)(f:VE):VS:=λS=>match S[i]?,f S with
 |some (some (.fr,x)),some y=>(match h x y with
  |some z=>.nxt<|S.set i<|some (.fr,z)
  |none=>.fail)
 |_,_=>.fail
section
variable {h:PyData->PyData->Option PyData}
theorem akn (hp:PS X s (gq<|uq X.K "list" zZ (vR i)<|yH X.K fs)):PS X s (iH X.K<|iM i fs):=PS.imp hp λD σ H q=>by
 obtain⟨au,G,H₀,S,F,I,q⟩:=q;unfold iM at q;split at q
 .rename_i t ds d q1 q2;split at q
  .rename_i hz;obtain⟨a,xs,hv,hH,hx,nx⟩:=I.own q1;unfold gq uq vR;simp only[hv];refine⟨.inl ⟨rfl,xs,aR.of hH⟩,au,G,H₀,S,F,I,[d],q2,λvs F' H' g hvs=>?_⟩;obtain⟨v,rfl,hv2⟩:=aG.one hvs;refine⟨xs,g.hh _ _ hH,by rw[<-hx.length];exact hz,q F' σ _<|nx _ _ F' H' g<|aG.snoc hv2<|hx.same g.ff⟩
  .exact q.elim
 .exact q.elim
theorem ako (hp:PS X s (eZ (tV X.K RS f)<|BZ (vR i) (tV X.K RW fk) zY)):PS X s (iH X.K<|mF i fk f):=PS.imp hp λD σ H q=>by
 obtain⟨au,G,H₀,S,F,I,q⟩:=q;unfold mF at q;split at q
 .rename_i d k t ds q1 q2 q3;split at q
  .rename_i j q4;refine⟨au,G,H₀,S,F,I,d,q1,λv F1 H1 g1 hv=>?_⟩;obtain⟨a,xs,hv',hH,hx,nx⟩:=(I.grow g1).own q3;show vR i σ H1 _;unfold vR;rw[hv'];refine⟨au,G,H₀,S,F1,I.grow g1,_,q2,λu F2 H2 g2 hu=>?_⟩;have eu:=hu;subst eu;refine⟨xs,j,g2.hh _ _ hH,by rw[<-hx.length];exact q4,q F2 σ _<|nx _ _ F2 H2 g2<|aG.set (Has.same g2.ff hv) j<|hx.same g2.ff⟩
  .exact q.elim
 .exact q.elim
theorem getL:aeF X (Zv X.K):=by
 intro pins s σ H x y v u Q I rx ry h;obtain⟨p,xs,i,z,rfl,rfl,hq,he,q⟩:=h;cases rx;obtain⟨t,rfl⟩:=ry;obtain⟨its,r,pl,hz⟩:=I.list hq;obtain⟨j,h1,h2,h3,h4,h5⟩:=uo he;obtain⟨w,ew,pK⟩:=r.get h2;have hl:=r.length;have hn:=pI;have fin:EP X pins σ Q w s:=⟨z,H,I,pK,q⟩;by_cases h0:0<=i
 .have hj:i.toNat=j:=by rw[seqIndex_of h0 h5] at h1;exact Option.some.inj h1
  exact wpAny_getItem_list pl.isList h0 (by omega) (by rw[hj];simpa using ew) fin
 .have hj:(i+(its.toArray.size)).toNat=j:=by rw[seqIndex_neg (by omega) h4] at h1;rw[size_toArray,←hl];exact Option.some.inj h1
  exact wpAny_getItem_list_neg pl.isList (by omega) (by rw[size_toArray]<;>omega) (by omega) (by rw[hj];simpa using ew) fin
theorem abZ (hd:gU X.K h r)(hp:PS X s (abv (vR i) (tV X.K RW fk) (tV X.K RS f) (Zv X.K) r zY)):PS X s (iH X.K<|nO h i fk f):=PS.imp hp λD σ H q=>by
 obtain⟨au,G,H₀,S,F,I,q⟩:=q;unfold nO at q;split at q
 .rename_i t ds k y q1 q2 q3;split at q
  .rename_i j q4;split at q
   .rename_i x q5;split at q
    .rename_i z q6;obtain⟨a,xs,hv',hH,hx,nx⟩:=I.own q1;show vR i σ H _;unfold vR;rw[hv'];refine⟨au,G,H₀,S,F,I,_,q2,λu F1 H1 g1 hu=>?_⟩;have eu:=hu;subst eu;obtain⟨w,hw1,hw2⟩:=hx.at q5;have q4':lR xs.length k=some j:=by rw[<-hx.length];exact q4
     refine⟨a,xs,k,w,rfl,rfl,aR.of (g1.hh _ _ hH),by unfold bW;rw[q4'];exact hw1,?_⟩;refine⟨au,G,H₀,S,F1,I.grow g1,y,q3,λv F2 H2 g2 hv=>?_⟩;have g:=g1.trans g2;refine hd H2 w v x y z _ q6 (Has.same g2.fh<|Has.same g.ff hw2) (Has.same g2.fh hv) λv2 hv2=>?_;exact⟨xs,j,g.hh _ _ hH,q4',q F2 σ _<|nx _ _ F2 H2 g<|aG.set (hv2 F2) j<|hx.same g.ff⟩
    .exact q.elim
   .exact q.elim
  .exact q.elim
 .exact q.elim
theorem akp (hd:gU X.K h r)(hp:PS X s (J4 i (tV X.K RS f) r)):PS X s (iH X.K<|Gp h i f):=PS.imp hp λD σ H q=>by
 obtain⟨au,G,H₀,S,F,I,q⟩:=q;unfold Gp at q;split at q
 .rename_i x y q1 q2;split at q
  .rename_i z q3;obtain⟨v,hv,hs⟩:=I.slot i .fr x q1;unfold J4;rw[hv];refine⟨au,G,H₀,S,F,I,y,q2,λu F1 H1 g1 hu=>?_⟩;refine hd H1 v u x y z _ q3 (Has.same g1.fh<|Has.same g1.ff hs) (Has.same g1.fh hu) λw hw=>?_;exact q F1 _ H1<|(I.grow g1).set (hw F1)
  .exact q.elim
 .exact q.elim
end
noncomputable def fD (t:VG)(g:VS):List PyData->GS->Out
 |[],S=>.nxt S
 |d::r,S=>match t d S with
  |none=>.fail
  |some S1=>match g S1 with
   |.nxt S2=>fD t g r S2
   |.cnt S2=>fD t g r S2
   |.brk S2=>.nxt S2
   |.ret S2 b e=>.ret S2 b e
   |.fail=>.fail
def lM (fi:VA)(t:VG)(g:VS):VS:=λS=>match fi S with
 |some ds=>fD t g ds S
 |none=>.fail
noncomputable def bN (c:VT)(g:VS):Nat->GS->Out
 |0,_=>.fail
 |n+1,S=>match c S with
  |none=>.fail
  |some false=>.nxt S
  |some true=>match g S with
   |.nxt S2=>bN c g n S2
   |.cnt S2=>bN c g n S2
   |.brk S2=>.nxt S2
   |.ret S2 b e=>.ret S2 b e
   |.fail=>.fail
open Classical in
def DR (c:VT)(g:VS):VS:=λS=>if h:∃n,bN c g n S≠ .fail then bN c g h.choose S else .fail
theorem tR:∀{n:Nat}{S:GS},bN c g n S≠ .fail->bN c g (n+1) S=bN c g n S
 |0,_,h=>absurd rfl h
 |n+1,S,h=>by
  rw[bN];conv=>rhs;rw[bN]
  rw[bN] at h;cases q:c S with
  |none=>rfl
  |some b=>
   rw[q] at h;cases b with
   |false=>rfl
   |true=>
    simp only at h ⊢;cases q2:g S with
    |nxt S2=>rw[q2] at h;exact tR h
    |cnt S2=>rw[q2] at h;exact tR h
    |brk _=>rfl
    |ret _ _ _=>rfl
    |fail=>rfl
theorem Ih (h:bN c g n S≠ .fail)(hm:n<=m):bN c g m S=bN c g n S:=by
 induction hm with
 |refl=>rfl
 |step hm ih=>rw[tR (by rw[ih];exact h),ih]
theorem uF (h:bN c g n S=o)(ho:o≠ .fail):DR c g S=o:=by
 have hx:∃n,bN c g n S≠ .fail:=⟨n,by rw[h];exact ho⟩;unfold DR;rw[dif_pos hx];rcases Nat.le_total n hx.choose with l|l
 .rw[Ih (by rw[h];exact ho) l,h]
 .rw[<-Ih hx.choose_spec l,h]
section
variable {tc:VT}
theorem akq (hp:PS X s (Te (xu X.K fi) (yL X.K t js)<|iH X.K g)):PS X s (iH X.K<|lM fi t g):=PS.imp hp λD σ H q=>by
 obtain⟨au,G,H₀,S,F,I,q⟩:=q;unfold lM at q;split at q
 .rename_i ds q1;refine⟨au,G,H₀,S,F,I,ds,q1,λJ F1 H1 g1 it=>?_⟩;have I1:=I.grow g1;refine⟨λi m σ' H'=>∃S' F',m=ds.length - i/\i<=ds.length/\VI X.K au F1 H₀ S' F' σ' H'/\qJ X.K au G H₀ D (fD t g (ds.drop i) S'),⟨_,S,F1,rfl,zero_le _,I1.self,q⟩,?_⟩;rintro i m σ' H' ⟨S',F',rfl,hi,I',q'⟩;by_cases hlt:i<ds.length
  .have hd:ds[i]? =some ds[i]:=by simp[hlt]
   rw[List.drop_eq_getElem_cons hlt] at q';obtain⟨go,yl⟩:=it.go i ds[i] F' H' hd I'.gf I'.sub;generalize ds[i]=d0 at*
   unfold fD at q';cases q2:t d0 S' with
   |none=>rw[q2] at q';exact q'.elim
   |some S1=>
    rw[q2] at q';simp only at q';refine .inr ⟨go,λσ2 H2=>∃m',m'<ds.length - i/\∃S2 F2,m'=ds.length - (i+1)/\i+1<=ds.length/\VI X.K au F1 H₀ S2 F2 σ2 H2/\qJ X.K au G H₀ D (fD t g (ds.drop<|i+1) S2),λ_ _ h=>h,λx H2 y=>?_⟩;obtain⟨F2,g2,hx⟩:=yl x H2 y;refine⟨au,F1,H₀,S',F2,I'.grow g2,d0,S1,hx,q2,λσ3 _ I3=>⟨au,F1,H₀,S1,F2,I3,?_⟩⟩;cases q3:g S1 with
    |fail=>rw[q3] at q';exact q'.elim
    |nxt S2=>rw[q3] at q';exact λF4 yO H4 I4=>⟨_,by omega,S2,F4,rfl,hlt,I4,q'⟩
    |cnt S2=>rw[q3] at q';exact λF4 yO H4 I4=>⟨_,by omega,S2,F4,rfl,hlt,I4,q'⟩
    |brk S2=>rw[q3] at q';exact λF4 yO H4 I4=>q' F4 yO H4<|I1.rebase I4
    |ret S2 b e=>rw[q3] at q';exact λv F4 yO H4 I4 r=>q' v F4 yO H4 (I1.rebase I4) r
  .have e:i=ds.length:=by omega
   subst e;rw[List.drop_eq_nil_of_le<|le_refl _] at q';exact .inl ⟨it.stop _ F' H' (le_refl _) I'.gf I'.sub,q' F' σ' H'<|I1.rebase I'⟩
 .exact q.elim
theorem sWh (hp:PS X s (V2 (ji X.K tc)<|iH X.K g)):PS X s (iH X.K<|DR tc g):=PS.imp hp λD σ H q=>by
 obtain⟨au,G,H₀,S,F,I,q⟩:=q;unfold DR at q;split at q
 .rename_i hx;refine⟨λm σ' H'=>∃S' F',VI X.K au G H₀ S' F' σ' H'/\qJ X.K au G H₀ D (bN tc g m S'),⟨hx.choose,S,F,I,q⟩,?_⟩;rintro m σ' H' ⟨S',F',I',q'⟩;cases m with
  |zero=>exact q'.elim
  |succ n=>
   rw[bN] at q';cases q2:tc S' with
   |none=>rw[q2] at q';exact q'.elim
   |some b=>
    rw[q2] at q';refine⟨au,G,H₀,S',F',I',b,q2,λF2 H2 g2=>?_⟩;cases b with
    |false=>simp only[false_eq_true,if_false];exact q' F2 σ' H2<|I'.grow g2
    |true=>
     simp only[if_true];simp only at q';refine⟨λσ2 H2=>∃m',m'<n+1/\∃S' F',VI X.K au G H₀ S' F' σ2 H2/\qJ X.K au G H₀ D (bN tc g m' S'),λ_ _ h=>h,au,G,H₀,S',F2,I'.grow g2,?_⟩;cases q3:g S' with
     |fail=>rw[q3] at q';exact q'.elim
     |nxt S2=>rw[q3] at q';exact λF4 yO H4 I4=>⟨n,by omega,S2,F4,I4,q'⟩
     |cnt S2=>rw[q3] at q';exact λF4 yO H4 I4=>⟨n,by omega,S2,F4,I4,q'⟩
     |brk S2=>rw[q3] at q';exact λF4 yO H4 I4=>q' F4 yO H4 I4
     |ret S2 b e=>rw[q3] at q';exact λv F4 yO H4 I4 r=>q' v F4 yO H4 I4 r
 .exact q.elim
end
noncomputable def ini (nN:Nat)(ds:List PyData):GS:=ds.map (λd=>some (.fr,d))++replicate (nN - ds.length) none
def g8 (n nN:Nat)(g:VS):f9:=λds=>if ds.length=n then(match g (ini nN ds) with
 |.ret _ b d=>some (b,d)
 |.nxt _=>some (false,.none)
 |_=>none) else none
theorem QW {i:Nat}(h:(ini nN ds)[i]? =some (some (t,d))):ds[i]? =some d/\t=.fr:=by
 unfold ini at h;by_cases hi:i<ds.length
 .rw[getElem?_append_left<|by simpa using hi,getElem?_map] at h;cases q:ds[i]? with
  |none=>rw[q] at h;cases h
  |some d'=>rw[q] at h;simp at h;exact⟨by rw[h.2],h.1.symm⟩
 .rw[getElem?_append_right<|by simpa using hi,getElem?_replicate] at h;split at h
  .cases h
  .cases h
section
variable {base:Heap}
theorem afG {ds:List PyData}(hs:Same G H)(h:aG K G ds vs):VI K (λ_=>none) G H (ini N.length ds) G (L2.start N vs) H where
 pl:=λ_ _ _ e=>e
 len:=by unfold ini L2.start;simp[h.length]
 same:=Same.refl _
 gf:=Same.refl _
 new:=λ_ _ e=>.inl e
 sub:=hs
 slot:=λi t d e=>by
  obtain⟨e1,rfl⟩:=QW e;obtain⟨v,hv,hh⟩:=h.at e1;refine⟨v,?_,hh⟩;have hl:i<vs.length:=by
   by_cases z:i<vs.length
   .exact z
   .rw[getElem?_eq_none<|by omega] at hv;cases hv
  unfold L2.start;rw[getElem?_append_left<|by simpa using hl,getElem?_map,hv];rfl
 inj:=λi j t t' d d' v e1 _ n1=>by rw[(QW e1).2] at n1;exact absurd n1 Bool.false_ne_true
theorem akr (F:bJ K x qual st f fd)(S:bM N ps (aN st))
  (hb:∀(cdv:Value) (A:Around) (outer:List Env) (s:Shared) (H:Hp) (E:XK),dh k (A.deeper<|PyProof.Rows.envOfC qual (aN st) s.heap.objs.size f cdv)->iG (qe bO P w K mg base N qual (aN st) f cdv A outer s H E).Ds (dj st) (iH K g)):
  aX P w K mg base bO (k+1) f fd ps (bQ K<|g8 ps.length N.length g):=by
 refine F.ok S (λvs H Q E h=>?_)<|λcdv A outer s H vs Q E hr h=>⟨_,hb cdv A outer s H E hr,?_⟩
 .obtain⟨G,ds,_,hx,b,d,e,_⟩:=h;unfold g8 at e;split at e
  .rename_i hl;rw[<-hx.length];exact hl
  .cases e
 .obtain⟨G,ds,hs,hx,b,d,e,q⟩:=h;unfold g8 at e;split at e
  .refine⟨λ_=>none,G,H,ini N.length ds,G,afG hs hx,?_⟩;split at e
   .rename_i S' b' d' e2;cases e;rw[e2];intro v F' σ' H' I r;refine q v F' H' ⟨I.same,I.gf,I.sub,I.new,I.pl⟩ ?_;cases b with
    |false=>exact r
    |true=>obtain⟨⟨a,es,xs,h1,h2,h3,h4,h5,h6⟩,_⟩:=r;exact⟨es,a,xs,h1,h2,h5,h4,h3,h6⟩
   .rename_i S' e2;cases e;rw[e2];intro F' σ' H' I;exact q .non F' H' ⟨I.same,I.gf,I.sub,I.new,I.pl⟩ rfl
   .cases e
  .cases e
theorem fnV (F:bJ K x qual st f fd)(S:bM N ps (aN st))(hn:ps.length=n)(hN:N.length=nN)
  (hb:∀(cdv:Value) (A:Around) (outer:List Env) (s:Shared) (H:Hp) (E:XK),dh k (A.deeper<|PyProof.Rows.envOfC qual (aN st) s.heap.objs.size f cdv)->iG (qe bO P w K mg base N qual (aN st) f cdv A outer s H E).Ds (dj st) (iH K g)):
  aX P w K mg base bO (k+1) f fd ps (bQ K<|g8 n nN g):=by
 subst hn hN;exact akr F S hb
end
open PyProof.Rows (list_addW)
def ahX (K:Frag):R2:=λx y H Q=>∃l b xs zs,x=.ref l/\y=.ref b/\aR K H l xs/\aR K H b zs/\xs.length+zs.length<=sizeLine/\∀p,H p=none->Q (.ref p) (upd H p<|.lst<|xs++zs)
theorem adA:cA X (binaryOp .Add) (ahX X.K):=by
 intro pins s σ H x y v u Q I rx ry h;obtain⟨l,b,xs,zs,rfl,rfl,hH,hB,hz,q⟩:=h;cases rx;cases ry;obtain⟨its,r,pl,z⟩:=I.list hH;obtain⟨its2,r2,La,z2⟩:=I.list hB;have hl:=r.length;have hl2:=r2.length;obtain⟨⟨cls,dd,data,sl⟩,n,ho,hc,hdd,hd⟩:=pl;obtain⟨⟨cls2,dd2,data2,sl2⟩,n2,ho2,hc2,an7,hd2⟩:=La;simp only at hc hd hc2 hd2;subst hc hd hc2 hd2;have e:its.toArray++its2.toArray=(its++its2).toArray:=by simp
 refine concat_meets ⟨_,ho,rfl⟩ ⟨_,ho2,rfl⟩ noFill_list_add seq_list_add PySem.F.slot_list_add PySem.F.entry_list_add (PySem.F.args_list_add_2 _ _) (list_addW l b its.toArray its2.toArray n n2 dd dd2 sl sl2 (by rw[size_toArray,size_toArray];omega)) ⟨ho,ho2,?_⟩;rw[e];exact⟨.ref _,_,I.Zw (r.append r2) (by rw[length_append];omega),rfl,q _ I.fresh⟩
noncomputable def vX:PyData->PyData->Option PyData
 |.list xs,.list ys=>@ite _ (xs.length+ys.length<=sizeLine) (Classical.propDecidable _) (some<|.list<|xs++ys) none
 |_,_=>none
noncomputable def yP:PyData->PyData->Option PyData
 |.list xs,.int k=>@ite _ (k<2^63∧-(2^63)<=k/\xs.length*k.toNat<=sizeLine) (Classical.propDecidable _) (some<|.list (replicate k.toNat xs).flatten) none
 |_,_=>none
theorem aG.rep (h:aG K H ds vs):∀k:Nat,aG K H (replicate k ds).flatten (replicate k vs).flatten
 |0=>rfl
 |k+1=>by rw[replicate_succ,replicate_succ,flatten_cons,flatten_cons];exact aG.append (aG.rep h k) h
section
variable {fs:VA}
theorem dCat (ha:PE X a (tV X.K RM fa))(hb:PE X b (tV X.K RM fb)):PE X (.BinOp a .Add b pos) (tV X.K RN<|v2 vX fa fb):=(iW adA ha hb).imp λ_ H Q q=>by
 obtain⟨au,G,H₀,S,F,I,d,e,q⟩:=q;obtain⟨x,y,ex,ey,e⟩:=uz e;refine⟨au,G,H₀,S,F,I,x,ex,λv F1 H1 g1 hx=>⟨au,G,H₀,S,F1,I.grow g1,y,ey,λu F2 H2 g2 hy=>?_⟩⟩;unfold vX at e;split at e
 .split at e
  .rename_i hz;cases e;obtain⟨p,xs,rfl,h1,h2⟩:=RM.list g2.fh<|RM.grow g2 hx;obtain⟨p',ys,rfl,h3,h4⟩:=RM.list g2.fh hy;have g:=g1.trans g2;refine⟨p,p',xs,ys,rfl,rfl,h1,h3,by rw[<-h2.length,←h4.length];exact hz,λz hz=>q _ F2 _ (g.trans<|bA.alloc g2.fh hz) ⟨_,z,_,rfl,rfl,g.hh.free hz,g2.fh.free hz,ao,aG.append h4 h2⟩⟩
  .cases e
 .cases e
theorem aks (ha:PE X a (tV X.K RN fa))(hb:PE X b (tV X.K RW fb)):PE X (.BinOp a .Mult b pos) (tV X.K RN<|v2 yP fa fb):=(iW ae3 ha hb).imp λ_ H Q q=>by
 obtain⟨au,G,H₀,S,F,I,d,e,q⟩:=q;obtain⟨x,y,ex,ey,e⟩:=uz e;refine⟨au,G,H₀,S,F,I,x,ex,λv F1 H1 g1 hx=>⟨au,G,H₀,S,F1,I.grow g1,y,ey,λu F2 H2 g2 hy=>?_⟩⟩;unfold yP at e;split at e
 .split at e
  .rename_i hz;cases e;obtain⟨es,p,xs,e1,rfl,h3,h4,h5,h6⟩:=hx;cases e1;have eu:=hy;subst eu;have g:=g1.trans g2;refine⟨p,_,xs,rfl,rfl,g2.hh _ _ h5,hz.2.1,hz.1,by rw[<-h6.length];exact hz.2.2,λz hz=>q _ F2 _ (g.trans<|bA.alloc g2.fh hz) ⟨_,z,_,rfl,rfl,g.hh.free hz,g2.fh.free hz,ao,aG.rep (h6.same g2.ff) _⟩⟩
  .cases e
 .cases e
end
noncomputable abbrev Ug:=yC λa b=>.int<|Builtin.bitXor a b
theorem hXor:gU K Ug (rM λi j=>.int<|Builtin.bitXor i j):=qT λ_ _ _ _=>rfl
def Cq (i:Nat)(f:VE):VS:=λS=>match f S with
 |some d=>if Cm S i=true then .nxt (S.set i<|some (.fr,d)) else .fail
 |none=>.fail
section
variable {s:Stmt}
theorem akt (h:PS X s (eZ (tV X.K RN f)<|cC i)):PS X s (iH X.K<|Cq i f):=PS.imp h λD σ H q=>by
 obtain⟨au,G,H₀,S,F,I,q⟩:=q;unfold Cq at q;cases e:f S with
 |none=>rw[e] at q;exact q.elim
 |some d=>
  rw[e] at q;simp only at q;split at q
  .refine⟨au,G,H₀,S,F,I,d,e,λv F' H' g hv=>?_⟩;obtain⟨F'',g2,r2⟩:=RN.dU g hv;exact q F'' _ H'<|(I.grow g2).set r2
  .exact q.elim
def ab0:V->List V->Hp->VK->Prop:=λx vs H Q=>match x,vs with
 |.ref l,[]=>∃ys,H l=some (.lst ys)/\Q .non (upd H l<|.lst [])
 |_,_=>False
theorem aku:Hv X "list.clear" ab0:=λpins s σ H x xs v us Q I rx rv q=>Zy pins s σ H x xs v us Q I rx rv (by
 match x,xs,q with
 |.ref l,[],⟨ys,h1,h2⟩=>exact⟨l,ys,rfl,rfl,h1,h2⟩)
def afH (i:Nat):VS:=λS=>match ju S i with
 |some (t,_)=>.nxt<|S.set i<|some (t,.list [])
 |none=>.fail
def afI (i:Nat):VS:=λS=>match ju S i with
 |some (t,ds)=>if ds=[] then .fail else .nxt (S.set i<|some (t,.list ds.dropLast))
 |none=>.fail
theorem aG.dropLast (h:aG K H ds vs):aG K H ds.dropLast vs.dropLast:=by rw[List.dropLast_eq_take,List.dropLast_eq_take,h.length];exact aG.take _ h
end
structure Bl (mg:Str->Option Value):Prop where
 len:mg "len"=none
 list:mg "list"=none
 range:mg "range"=none
 enumerate:mg "enumerate"=none
 zip:mg "zip"=none
 abs:mg "abs"=none
 sum:mg "sum"=none
 min:mg "min"=none
 max:mg "max"=none
 int:mg "int"=none
 bool:mg "bool"=none
 tuple:mg "tuple"=none
 str:mg "str"=none
 sorted:mg "sorted"=none
 set:mg "set"=none
 isinstance:mg "isinstance"=none
structure dJ (K:Frag):Prop where
 int:vQ K "int"
 bool:vQ K "bool"
 list:vQ K "list"
 tuple:vQ K "tuple"
theorem adB:vQ K "int":=⟨λd d' h=>by
 cases d with
 |none=>cases h;kernel_rfl
 |bool _=>cases h;kernel_rfl
 |int _=>cases h;kernel_rfl
 |str _=>cases h;kernel_rfl
 |list _=>cases h;kernel_rfl
 |tuple _=>cases h;kernel_rfl
 |dict _=>cases h⟩
theorem ZX:vQ K "bool":=⟨λd d' h=>by
 cases d with
 |none=>cases h;kernel_rfl
 |bool _=>cases h;kernel_rfl
 |int _=>cases h;kernel_rfl
 |str _=>cases h;kernel_rfl
 |list _=>cases h;kernel_rfl
 |tuple _=>cases h;kernel_rfl
 |dict _=>cases h⟩
theorem Z1:vQ K "list":=⟨λd d' h=>by
 cases d with
 |none=>cases h;kernel_rfl
 |bool _=>cases h;kernel_rfl
 |int _=>cases h;kernel_rfl
 |str _=>cases h;kernel_rfl
 |list _=>cases h;kernel_rfl
 |tuple _=>cases h;kernel_rfl
 |dict _=>cases h⟩
theorem kit_tuple:vQ K "tuple":=⟨λd d' h=>by
 cases d with
 |none=>cases h;kernel_rfl
 |bool _=>cases h;kernel_rfl
 |int _=>cases h;kernel_rfl
 |str _=>cases h;kernel_rfl
 |list _=>cases h;kernel_rfl
 |tuple _=>cases h;kernel_rfl
 |dict _=>cases h⟩
theorem dW (K:Frag):dJ K:=⟨adB,ZX,Z1,kit_tuple⟩
def Uh (K:Frag):Sp:=λvs H Q _=>∃(a:Addr) (ns:List Int),vs=[.ref a]/\aR K H a (ns.map V.int)/\ns.length<=63/\∀H',Q (.bl true) H'
theorem walk {l:PySem.W.OpenLaw}{K:Params->Frag}(hn:l.most=some 63)(hdf:d.params.defaults=[])(hr:dh k callerA)
  (hY:∀(w:World) (h:Heap),YP w h->(K w.params).In h)
  (F:∀(w:World) (mg:Str->Option Value) (fa:Addr) (h:Heap),(K w.params).In h->h.Ns mainGlobals mg->mg d.name=some (.ref fa)->
   ∃fd:FuncData,(∀(s:Shared) (u:Value),BindsTo s fd ⟨[u],[]⟩ [(x,u)])/\∀base:Heap,(K w.params).In base->base.Ns mainGlobals mg->aX l.prog w (K w.params) mg base bO k fa fd [x] (Uh (K w.params))):
  PySem.W.WalkO q loose XP YP l.row.toRowW d [] (λf vs=>PySem.call f vs):=
 L2.adt hn (by decide) hdf hr hY F (λ_ _ a ns hl _ hS=>⟨a,ns,rfl,hS,hl,λ_=>rfl⟩) λ_ _ _ _ _ z=>z
def lB (K:Frag)(F:Hp)(v0:V):List (Option PyData)->List V->Prop
 |[],vs=>vs=[]
 |some d::r,vs=>∃v us,vs=v::us/\Has K F d v/\lB K F v0 r us
 |none::r,vs=>∃us,vs=v0::us/\lB K F v0 r us
theorem lB.length:∀{os:List (Option PyData)}{vs:List V},lB K F v0 os vs->os.length=vs.length
 |[],vs,h=>by have h':vs=[]:=h;rw[h'];rfl
 |some _::_,_,⟨v,us,h1,_,h3⟩=>by rw[h1];exact congrArg (· +1)<|lB.length h3
 |none::_,_,⟨us,h1,h3⟩=>by rw[h1];exact congrArg (· +1)<|lB.length h3
theorem lB.at:∀{os:List (Option PyData)}{vs:List V} {i:Nat} {o:Option PyData},lB K F v0 os vs->os[i]? =some o->∃v,vs[i]? =some v/\match o with|some d=>Has K F d v|none=>v=v0
 |[],_,i,o,_,e=>by simp at e
 |some d::_,_,0,o,⟨v,us,h1,h2,h3⟩,e=>by
  have e':some d=o:=by simpa using e
  subst e';rw[h1];exact⟨v,rfl,h2⟩
 |none::_,_,0,o,⟨us,h1,h3⟩,e=>by
  have e':none=o:=by simpa using e
  subst e';rw[h1];exact⟨v0,rfl,rfl⟩
 |some _::r,_,i+1,o,⟨v,us,h1,h2,h3⟩,e=>by
  obtain⟨u,q1,q2⟩:=lB.at (i:=i) (o:=o) h3 (by simpa using e);rw[h1];exact⟨u,by simpa using q1,q2⟩
 |none::r,_,i+1,o,⟨us,h1,h3⟩,e=>by obtain⟨u,q1,q2⟩:=lB.at (i:=i) (o:=o) h3 (by simpa using e);rw[h1];exact⟨u,by simpa using q1,q2⟩
abbrev Bj:=GS->Option (List<|Option PyData)
def Ii (K:Frag)(j:Nat)(fs:Bj):TA:=λσ H Q=>∃au G H₀ S F,VI K au G H₀ S F σ H/\∃v0,σ[j]? =some (some v0)/\∃os,fs S=some os/\∀vs F' H',bA F H F' H'->lB K F' v0 os vs->Q vs H'
noncomputable def DW:Bj:=λ_=>some []
def qD (f:VE)(fs:Bj):Bj:=λS=>match f S with
 |some d=>match fs S with
  |some os=>some (some d::os)
  |none=>none
 |none=>none
def Bk (fs:Bj):Bj:=λS=>match fs S with
 |some os=>some (none::os)
 |none=>none
section
variable {j:Nat}
theorem io0:PA X [] (Ii X.K j DW):=PA.imp aO λ_ H Q q=>by obtain⟨au,G,H₀,S,F,I,v0,hv,os,e,q⟩:=q;cases e;exact q [] F H (bA.refl I.sub) rfl
theorem ioS (he:PE X e (tV X.K RS f))(hr:PA X es (Ii X.K j fs))(hs:starEach (e::es) X.env=(false,eval e X.env)::starEach es X.env:=by rfl):PA X (e::es) (Ii X.K j<|qD f fs):=PA.imp (aj he hr hs) λ_ H Q q=>by
 obtain⟨au,G,H₀,S,F,I,v0,hv,os,e,q⟩:=q;unfold qD at e;split at e
 .rename_i d q1;split at e
  .rename_i os' q2;cases e;exact⟨au,G,H₀,S,F,I,d,q1,λv F1 H1 g1 hx=>⟨au,G,H₀,S,F1,I.grow g1,v0,hv,os',q2,λvs F2 H2 g2 hy=>q _ F2 H2 (g1.trans g2) ⟨v,vs,rfl,Has.same g2.ff hx,hy⟩⟩⟩
  .cases e
 .cases e
theorem ioJ (he:PE X e (vR j))(hr:PA X es (Ii X.K j fs))(hs:starEach (e::es) X.env=(false,eval e X.env)::starEach es X.env:=by rfl):PA X (e::es) (Ii X.K j<|Bk fs):=PA.imp (aj he hr hs) λσ H Q q=>by
 obtain⟨au,G,H₀,S,F,I,v0,hv,os,e,q⟩:=q;unfold Bk at e;split at e
 .rename_i os' q2;cases e;show vR j σ H _;unfold vR;simp only[hv];exact⟨au,G,H₀,S,F,I,v0,hv,os',q2,λvs F2 H2 g2 hy=>q _ F2 H2 g2 ⟨vs,rfl,hy⟩⟩
 .cases e
end
abbrev Cr:=List (Option PyData)->List PyData->Option (Bool×PyData×List PyData)
def vY (K:Frag)(m:Cr):Sp:=λvs H Q _=>∃G os a ls xs,Same G H/\G a=none/\H a=some (.lst xs)/\aG K G ls xs/\lB K G (.ref a) os vs/\∃b d ls',m os ls=some (b,d,ls')/\
 ∀v F' H' xs',bA G (hide a H) F' (hide a H')->F' a=none->H' a=some (.lst xs')->aG K F' ls' xs'->RB b K G (hide a H) F' (hide a H') d v->Q v H'
theorem Z2 (h:H a=some o)(p:HO):upd (upd H a p) a o=H:=by
 funext b;by_cases hb:b=a
 .subst hb;rw[ao,h]
 .rw[ak hb,ak hb]
theorem adC (g:bA F1 (hide a H1) F' (hide a H'))(hF:F' a=none)(h1:H1 a=some o):bA F1 H1 F' (upd H' a o):=by
 refine⟨λb u e=>?_,g.ff,λb u e=>?_,λb u e=>?_,g.pl⟩
 .by_cases hb:b=a
  .subst hb;rw[ao];rw[h1] at e;exact e
  .rw[ak hb];have:=g.hh b u (by rw[hide_ne hb];exact e);rw[hide_ne hb] at this;exact this
 .have hb:=aU e hF;rw[ak hb];have:=g.fh b u e;rw[hide_ne hb] at this;exact this
 .have hb:=aU e hF;rcases g.new b u e with z|z|z
  .exact .inl z
  .rw[hide_ne hb] at z;exact .inr<|.inl z
  .exact .inr<|.inr z
theorem VI.bound (I:VI K au G H₀ S F σ H)(h:ju S i=some (t,ds)):∃a,σ[i]? =some (some<|.ref a)/\F a=none/\H₀ a=none:=by
 obtain⟨hS,ht⟩:=Ig h;obtain⟨v,hv,hs⟩:=I.slot i t _ hS;cases t with
 |fr=>cases ht
 |rf=>cases ht
 |ce=>rcases Cp h with z|z<;>cases z
 |ow=>obtain⟨a,_,_,_,rfl,_,h4,h5,_⟩:=hs;exact⟨a,hv,h4,h5⟩
 |io=>obtain⟨a,_,_,_,rfl,_,h4,h5,_⟩:=hs.1;exact⟨a,hv,h4,h5⟩
theorem QX {os:List (Option PyData)}(I:VI K au G H₀ S F σ H)(ho:ju S j=some (t,ls))(hf:fs S=some os)(hm:m os ls=some (b,d,ls'))
  (q:∀v F' H',VI K au G H₀ (S.set j<|some (t,.list ls')) F' σ H'->RR K H₀ (S.set j<|some (t,.list ls')) σ F' H' b d v->Q v H'):iJ (vY K m) [] E0 (Ii K j fs) σ H Q:=by
 obtain⟨a,hv,hFa,hH0⟩:=I.bound ho;refine⟨au,G,H₀,S,F,I,_,hv,os,hf,λvs F1 H1 g1 hvs=>?_⟩;show vY K m (vs++[]) H1 Q E0;rw[append_nil];have I1:=I.grow g1;obtain⟨a',xs,hv',hH,hx,nx⟩:=I1.own ho;rw[hv] at hv';cases hv';obtain⟨a2,hv2,hF1,_⟩:=I1.bound ho;rw[hv] at hv2;cases hv2;refine⟨F1,os,a,ls,xs,g1.fh,hF1,hH,hx,hvs,b,d,ls',hm,λv F' H' xs' g akv akx hx' hr=>?_⟩;have g2:=adC g akv hH;have I2:=nx ls' xs' F' _ g2 hx';rw[Z2 akx] at I2;refine q v F' H' I2 ?_;cases b with
 |false=>exact hr
 |true=>
  obtain⟨es,p,ys,e1,e2,e3,e4,e5,e6⟩:=hr;have hpa:p≠a:=λz=>by subst z;unfold hide at e5;rw[if_pos rfl] at e5;cases e5
  rw[hide_ne hpa] at e3 e5;refine⟨⟨p,es,ys,e1,e2,e5,e4,I1.same.free e3,e6⟩,λi t' d' e ht hv'=>?_⟩;rw[e2] at hv';by_cases hij:i=j
  .subst hij;rw[hv] at hv';cases hv';exact hpa rfl
  .rw[getElem?_set_ne<|Ne.symm hij] at e;obtain⟨zs,hz⟩:=Ie I1 e ht hv';rw[e3] at hz;cases hz
def Ad (m:Cr)(j:Nat)(fs:Bj)(i:Nat):VS:=λS=>match ju S j,fs S with
 |some (t,ls),some os=>(match m os ls with
  |some (_,d,ls')=>if Cm (S.set j<|some (t,.list ls')) i=true/\i≠j then .nxt ((S.set j<|some (t,.list ls')).set i<|some (.fr,d)) else .fail
  |none=>.fail)
 |_,_=>.fail
def J5 (m:Cr)(j:Nat)(fs:Bj):VS:=λS=>match ju S j,fs S with
 |some (t,ls),some os=>(match m os ls with
  |some (_,_,ls')=>.nxt<|S.set j<|some (t,.list ls')
  |none=>.fail)
 |_,_=>.fail
def WW (m:Cr)(j:Nat)(fs:Bj):VS:=λS=>match ju S j,fs S with
 |some (t,ls),some os=>(match m os ls with
  |some (b,d,ls')=>.ret (S.set j<|some (t,.list ls')) b d
  |none=>.fail)
 |_,_=>.fail
theorem fO.ahY (I:VI K au G H₀ S F σ H)(ho:fO K H₀ F H d v)(hn:∀(i:Nat) t d',S[i]? =some (some (t,d'))->t.own=true->σ[i]? ≠some (some v)):∃F',VI K au G H₀ S F' σ H/\Has K F' d v:=by
 obtain⟨a,ds,xs,rfl,rfl,h3,h4,h5,h6⟩:=ho;have s1:Same F (upd F a (.lst xs)):=aF h4;refine⟨upd F a (.lst xs),⟨I.len,I.same,I.gf.trans s1,λb o e=>?_,λb o e=>?_,λi t d' e=>?_,I.inj,λb x u e=>by
  by_cases hb:b=a
  .subst hb;rw[ao] at e;cases e
  .rw[ak hb] at e;exact I.pl b x u e⟩,a,xs,rfl,aR.of ao,h6.same s1⟩
 .by_cases hb:b=a
  .subst hb;exact .inr<|.inl h5
  .rw[ak hb] at e;exact I.new b o e
 .by_cases hb:b=a
  .subst hb;rw[ao] at e;cases e;exact h3
  .rw[ak hb] at e;exact I.sub b o e
 .obtain⟨u,hu,hs⟩:=I.slot i t d' e;have ow:t.own=true->fO K H₀ F H d' u->fO K H₀ (upd F a<|.lst xs) H d' u:=λht ⟨b,ds',ys,g1,g2,g3,g4,g5,g6⟩=>by
   refine⟨b,ds',ys,g1,g2,g3,?_,g5,g6.same s1⟩
   have:b≠a:=λz=>by subst z;exact hn i t d' e ht<|by rw[hu,g2]
   rw[ak this];exact g4
  refine⟨u,hu,?_⟩;cases t with
  |fr=>exact Has.same s1 hs
  |ow=>exact ow rfl hs
  |io=>exact⟨ow rfl hs.1,hs.2⟩
  |rf=>exact hs
  |ce=>
   obtain⟨b,c,o,g1,g2,g3,g4,g5,g6⟩:=hs;refine⟨b,c,o,g1,g2,g3,?_,g5,g6.same s1⟩
   have:b≠a:=λz=>by subst z;exact hn i .ce d' e rfl<|by rw[hu,g2]
   rw[ak this];exact g4
section
variable {fs:Bj}
theorem ahZ {i:Nat}(hp:PS X s (eZ (iJ (vY X.K m) [] E0<|Ii X.K j fs)<|cC i)):PS X s (iH X.K<|Ad m j fs i):=PS.imp hp λD σ H q=>by
 obtain⟨au,G,H₀,S,F,I,q⟩:=q;unfold Ad at q;split at q
 .rename_i t ls os q1 q2;split at q
  .rename_i b d ls' q3;split at q
   .refine QX I q1 q2 q3 λv F' H' I' r=>?_;cases b with
    |false=>exact q F' _ H'<|I'.set r
    |true=>obtain⟨F'',QG,hd⟩:=fO.ahY I' r.1 r.2;exact q F'' _ H'<|QG.set hd
   .exact q.elim
  .exact q.elim
 .exact q.elim
theorem ah0 (hp:PS X s (gq<|iJ (vY X.K m) [] E0<|Ii X.K j fs)):PS X s (iH X.K<|J5 m j fs):=PS.imp hp λD σ H q=>by
 obtain⟨au,G,H₀,S,F,I,q⟩:=q;unfold J5 at q;split at q
 .rename_i t ls os q1 q2;split at q
  .rename_i b d ls' q3;exact QX I q1 q2 q3 λv F' H' I' _=>q F' σ H' I'
  .exact q.elim
 .exact q.elim
end
noncomputable def sO (nN:Nat)(os:List (Option PyData))(ls:List PyData):GS:=os.map (λo=>match o with|some d=>some (.fr,d)|none=>some (.io,.list ls))++replicate (nN - os.length) none
noncomputable def J6:Nat->List (Option PyData)->Bool
 |_,[]=>false
 |0,none::r=>r.all isSome
 |0,some _::_=>false
 |k+1,some _::r=>J6 k r
 |_+1,none::_=>false
noncomputable def vZ (S:GS)(k:Nat):Option (List PyData):=match S[k]? with
 |some (some (.io,.list ls))=>some ls
 |_=>none
def Cu (n nN k:Nat)(g:VS):Cr:=λos ls=>if os.length=n/\J6 k os=true then(match g (sO nN os ls) with
 |.ret S b d=>(match vZ S k with
  |some ls'=>some (b,d,ls')
  |none=>none)
 |.nxt S=>(match vZ S k with
  |some ls'=>some (false,.none,ls')
  |none=>none)
 |_=>none) else none
theorem wg:∀{k:Nat}{os:List (Option PyData)},J6 k os=true->∀{i:Nat},os[i]? =some none->i=k
 |_,[],h,i,e=>by simp at e
 |0,none::r,h,0,e=>rfl
 |0,none::r,h,i+1,e=>by
  have:=all_eq_true.mp (show r.all isSome=true from h) none (mem_of_getElem? (by simpa using e));cases this
 |0,some _::_,h,i,e=>by cases h
 |k+1,some _::r,h,0,e=>by simp at e
 |k+1,some _::r,h,i+1,e=>congrArg (· +1)<|wg (k:=k) (os:=r) h<|by simpa using e
 |k+1,none::_,h,i,e=>by cases h
theorem yQ {os:List (Option PyData)}{i:Nat}(h:(sO nN os ls)[i]? =some (some (t,d))):(os[i]? =some (some d)/\t=.fr)\/(os[i]? =some none/\t=.io/\d=.list ls):=by
 unfold sO at h;by_cases hi:i<os.length
 .rw[getElem?_append_left<|by simpa using hi,getElem?_map] at h;cases q:os[i]? with
  |none=>rw[q] at h;cases h
  |some o=>
   rw[q] at h;cases o with
   |some d'=>simp at h;exact .inl ⟨by rw[h.2],h.1.symm⟩
   |none=>simp at h;exact .inr ⟨rfl,h.1.symm,h.2.symm⟩
 .rw[getElem?_append_right<|by simpa using hi,getElem?_replicate] at h;split at h<;>cases h
section
variable {base:Heap}
theorem Z4 {N:List Str}{os:List (Option PyData)}(hs:Same G H)(hG:G a=none)(hH:H a=some (.lst xs))(hx:aG K G ls xs)(h:lB K G (.ref a) os vs)(ho:J6 k os=true):
  VI K (λi=>if i=k then some a else none) G (hide a H) (sO N.length os ls) G (L2.start N vs) H:=by
 have sv:∀{i:Nat}{v:V},vs[i]? =some v->(L2.start N vs)[i]? =some (some v):=λ{i v} hv=>by
  have hl:i<vs.length:=by
   by_cases z:i<vs.length
   .exact z
   .rw[getElem?_eq_none<|by omega] at hv;cases hv
  unfold L2.start;rw[getElem?_append_left<|by simpa using hl,getElem?_map,hv];rfl
 refine⟨by unfold sO L2.start;simp[h.length],j7,Same.refl _,λ_ _ e=>.inl e,hs,λi t d e=>?_,λi j t t' d d' v e1 e2 n1 n2 _ _=>?_,λ_ _ _ e=>e⟩
 .rcases yQ e with⟨e1,rfl⟩|⟨e1,rfl,rfl⟩
  .obtain⟨v,hv,hh⟩:=h.at e1;exact⟨v,sv hv,hh⟩
  .obtain⟨v,hv,hh⟩:=h.at e1;have hh':=hh;subst hh';exact⟨_,sv hv,⟨a,ls,xs,rfl,rfl,hH,hG,Ac,hx⟩,a,rfl,by rw[wg ho e1];exact if_pos rfl⟩
 .rcases yQ e1 with⟨_,rfl⟩|⟨q1,_,_⟩
  .exact absurd n1 Bool.false_ne_true
  .rcases yQ e2 with⟨_,rfl⟩|⟨q2,_,_⟩
   .exact absurd n2 Bool.false_ne_true
   .rw[wg ho q1,wg ho q2]
theorem ab1 (F:bJ K x qual st f fd)(S:bM N ps (aN st))(hn:ps.length=n)(hN:N.length=nN)
  (hb:∀(cdv:Value) (A:Around) (outer:List Env) (s:Shared) (H:Hp) (E:XK),dh lv (A.deeper<|PyProof.Rows.envOfC qual (aN st) s.heap.objs.size f cdv)->iG (qe bO P w K mg base N qual (aN st) f cdv A outer s H E).Ds (dj st) (iH K g)):
  aX P w K mg base bO (lv+1) f fd ps (vY K<|Cu n nN k g):=by
 subst hn hN;refine F.ok S (λvs H Q E h=>?_)<|λcdv A outer s H vs Q E hr h=>⟨_,hb cdv A outer s H E hr,?_⟩
 .obtain⟨G,os,a,ls,xs,_,_,_,_,hv,b,d,ls',e,_⟩:=h;unfold Cu at e;split at e
  .rename_i hl;rw[<-hv.length];exact hl.1
  .cases e
 .obtain⟨G,os,a,ls,xs,hs,hG,hH,hx,hv,b,d,ls',e,q⟩:=h;unfold Cu at e;split at e
  .rename_i hl;refine⟨_,G,hide a H,sO N.length os ls,G,Z4 hs hG hH hx hv hl.2,?_⟩;have back:∀{S':GS}{F':Hp} {σ':St} {H':Hp} {l2:List PyData},VI K (λi=>if i=k then some a else none) G (hide a H) S' F' σ' H'->vZ S' k=some l2->
     ∃xs',bA G (hide a H) F' (hide a H')/\F' a=none/\H' a=some (.lst xs')/\aG K F' l2 xs'/\σ'[k]? =some (some<|.ref a):=λ{S' F' σ' H' l2} I hl2=>by
    unfold vZ at hl2;split at hl2
    .rename_i l3 hS;cases hl2;obtain⟨v,hv1,⟨p,ds,ys,e1,e2,e3,e4,e5,e6⟩,p2,e7,e8⟩:=I.slot k .io _ hS;cases e1;rw[e7] at e2;cases e2;have e9:(if k=k then some a else none)=some p:=e8;rw[if_pos rfl] at e9;cases e9;refine⟨ys,⟨Wv Ac I.same,I.gf,λb o e=>?_,I.new,I.pl⟩,e4,e3,e6,by rw[hv1,e7]⟩;have hb:=aU e e4;rw[hide_ne hb];exact I.sub b o e
    .cases hl2
   split at e
   .rename_i S' b' d' e2;split at e
    .rename_i l2 e3;cases e;rw[e2];intro v F' σ' H' I r;obtain⟨xs',g1,h1,h2,h3,h4⟩:=back I e3;refine q v F' H' xs' g1 h1 h2 h3 ?_;cases b with
     |false=>exact r
     |true=>
      obtain⟨⟨p,es,ys,r1,r2,r3,r4,r5,r6⟩,r7⟩:=r;have hS:∃d2,S'[k]? =some (some (.io,d2)):=by
       unfold vZ at e3;split at e3
       .exact⟨_,by assumption⟩
       .cases e3
      obtain⟨d2,hS⟩:=hS;have hpa:p≠a:=λz=>by subst z;exact r7 k .io d2 hS rfl<|by rw[h4,r2]
      exact⟨es,p,ys,r1,r2,r5,r4,by rw[hide_ne hpa];exact r3,r6⟩
    .cases e
   .rename_i S' e2;split at e
    .rename_i l2 e3;cases e;rw[e2];intro F' σ' H' I;obtain⟨xs',g1,h1,h2,h3,h4⟩:=back I e3;exact q .non F' H' xs' g1 h1 h2 h3 rfl
    .cases e
   .cases e
  .cases e
end
section
variable {apos cpos:Pos}
theorem Ui (ho:PE X o to)(hbase:attributeBase o "clear" X.env (eval o X.env)=eval o X.env:=by rfl)(hline:(apos.endLine==cpos.line)=true:=by rfl):PE X (.Call (.Attribute o "clear" apos) [] [] cpos) (Cj X.K "list" ab0 to):=K6 PySem.F.plainAttrs_list PySem.F.slot_list_clear PySem.F.type_list_clear aku ho hbase hline
def gRv (i:Nat):VS:=λS=>match ju S i with
 |some (t,ds)=>.nxt<|S.set i<|some (t,.list ds.reverse)
 |none=>.fail
noncomputable def ah1 (k:Nat)(y:α)(xs:List α):List α:=xs.take k++y::xs.drop k
def aky (i:Nat)(fs:VA):VS:=λS=>match ju S i,fs S with
 |some (t,ds),some [.int k,d]=>@ite _ (ds.length<sizeLine/\0<=k/\k<2^62) (Classical.propDecidable _) (.nxt<|S.set i<|some (t,.list<|ah1 k.toNat d ds)) .fail
 |_,_=>.fail
def afJ (i:Nat)(fs:VA):VS:=λS=>match ju S i,fs S with
 |some (t,ds),some [.int k]=>@ite _ (k.toNat<ds.length/\0<=k/\k<2^62) (Classical.propDecidable _) (.nxt<|S.set i<|some (t,.list<|ds.eraseIdx k.toNat)) .fail
 |_,_=>.fail
end
noncomputable def unlike (ns:List Int):List Int:=PyProof.Rows.firstMet (λi=>ns.getD i 0) ns.length
section
def adD:PyData->Option PyData
 |.list ds=>match intsOf ds with
  |some ns=>@ite _ (ns.length<=4000) (Classical.propDecidable _) (some<|.int (unlike ns).length) none
  |none=>none
 |_=>none
def adE (f:VE):VE:=v1 adD f
end
open PyProof PyProof.Rows
section
variable {r r':R2}
theorem akz (ho:cA X (compareOp op) r)(ho':cA X (compareOp op') r')(ha:PE X a ta)(hb:PE X b tb)(hc:PE X c tc)
  (hm:lastMarks [op,op'] [b,c]=false:=by with_unfolding_all rfl):PT X (.Compare a [op,op'] [b,c] pos) (mU<|T7 r r' ta tb tc):=by
 intro pins s σ H Q I q;refine isTrue_chain (aV (ha pins s σ H _ I q) λv s1 ⟨x,H1,I1,r1,q1⟩=>test_link (aV (hb pins s1 σ H1 _ I1 q1) λu s2 ⟨y,H2,I2,r2,q2⟩=>
  aV (ho pins s2 σ H2 x y v u _ I2 r1 r2 q2) λd s3 ⟨z,H3,I3,r3,q3⟩=>?_)) hm
 cases z with
 |bl k=>
  cases r3;refine wpAny_truthy_bool ?_;cases k with
  |false=>exact ite_ff ⟨H3,I3,q3⟩
  |true=>
   refine ite_tt<|test_last<|aV (hc pins s3 σ H3 _ I3 q3) λw' s4 ⟨z',H4,I4,r4,q4⟩=>aV (ho' pins s4 σ H4 y z' u w' _ I4 r2 r4 q4) λd' s5 ⟨z2,H5,I5,r5,q5⟩=>?_;cases z2 with
   |bl k2=>cases r5;exact wpAny_truthy_bool ⟨H5,I5,q5⟩
   |_=>exact False.elim q5
 |_=>exact False.elim q3
theorem cCh (ho:cA X (compareOp op) r)(hd:gU X.K h r)(ho':cA X (compareOp op') r')(hd':gU X.K h' r')(ha:PE X a (tV X.K RW fa))(hb:PE X b (tV X.K RW fb))(hc:PE X c (tV X.K RW fc))
  (hm:lastMarks [op,op'] [b,c]=false:=by with_unfolding_all rfl):PT X (.Compare a [op,op'] [b,c] pos) (ji X.K<|vB<|rC h h' fa fb fc):=
 PT.imp (akz ho ho' ha hb hc hm) λ_ _ _ q=>ZM (λ_ q=>aft hd hd' q) q
end
end VM
namespace VM
open PyProof.Rows L2
section
variable {tg:Expr}
end
end VM
namespace VM
open L2
set_option exponentiation.threshold 3000
theorem yR (h1: -10000000000000000000000000000000000000000000000000000000000000000000000000000000000000000000000000000<j)(h2:j<10000000000000000000000000000000000000000000000000000000000000000000000000000000000000000000000000000):j.natAbs<2^2000:=by have e:(10000000000000000000000000000000000000000000000000000000000000000000000000000000000000000000000000000:Nat)<=2^2000:=le_trans (show(10000000000000000000000000000000000000000000000000000000000000000000000000000000000000000000000000000:Nat)<=2^340 by decide +kernel) (Nat.pow_le_pow_right (by decide) (by decide));omega
theorem rE (h1: -10000000000000000000000000000000000000000000000000000000000000000000000000000000000000000000000000000<a)(h2:a<10000000000000000000000000000000000000000000000000000000000000000000000000000000000000000000000000000)(h3: -10000000000000000000000000000000000000000000000000000000000000000000000000000000000000000000000000000<b)(h4:b<10000000000000000000000000000000000000000000000000000000000000000000000000000000000000000000000000000):vO (.int a) (.int b)=some (.int<|a*b):=if_pos ⟨yR h1 h2,yR h3 h4⟩
theorem jw (h0:0<b)(h1:b<10000000000000000000000000000000000000000000000000000000000000000000000000000000000000000000000000000):jV (.int a) (.int b)=some (.int<|a/b):=if_pos ⟨h0,yR (by omega) h1⟩
theorem cG (h0:0<b):cV (.int a) (.int b)=some (.int<|a % b):=if_pos h0
theorem DX (h0:0<=b)(h1:b<=1000)(h2:0<=a)(h3:a<1152921504606846976):yE (.int a) (.int b)=some (.int<|a^b.toNat):=if_pos ⟨h0,h1,by omega⟩
theorem Ae (a b:Int):fZ (.int a) (.int b)=some (.bool<|decide<|a=b):=by
 have:PyData.depth (.int a)<=60:=by simp[PyData.depth]
 unfold fZ;rw[if_pos this];simp only[eqv,Bool.beq_eq_decide_eq]
theorem ab2 (a b:Int):jN (.int a) (.int b)=some (.bool<|!decide (a=b)):=by
 have:PyData.depth (.int a)<=60:=by simp[PyData.depth]
 unfold jN;rw[if_pos this];simp only[eqv,Bool.beq_eq_decide_eq]
theorem ab3 (x:PyData):isD x .none=some (.bool<|jq x):=rfl
theorem WX (x:PyData):Lr x .none=some (.bool<|!jq x):=rfl
theorem QZ (P:Nat->GS->Prop):∀(ds:List PyData) (i:Nat) (S:GS),P i S->
    (∀(j:Nat) d S,ds[j]? =some d->P (i+j) S->∃S1,t d S=some S1/\∃S2,(g S1=.nxt S2\/g S1=.cnt S2)/\P (i+j+1) S2)->∃S',fD t g ds S=.nxt S'/\P (i+ds.length) S'
  |[],i,S,h,_=>⟨S,rfl,h⟩
  |d::r,i,S,h,st=>by
   obtain⟨S1,e1,S2,e2,p2⟩:=st 0 d S rfl h;obtain⟨S',e3,p3⟩:=QZ P r (i+1) S2 p2 λj d' S' e p=>by
     have e':i+1+j=i+(j+1):=by omega
     rw[e'] at p ⊢;exact st (j+1) d' S' (by simpa using e) p
   refine⟨S', ?_,by rw[length_cons];have e':i+1+r.length=i+(r.length+1):=by omega
                    rw[<-e'];exact p3⟩
   simp only[fD,e1];rcases e2 with e2|e2<;>(rw[e2];exact e3)
theorem Mg (f:Nat->GS):∀(ds:List PyData) (i:Nat),
  (∀(j:Nat) d,ds[j]? =some d->∃S1,t d (f<|i+j)=some S1/\g S1=.nxt (f<|i+j+1))->fD t g ds (f i)=.nxt (f<|i+ds.length)
 |[],i,_=>rfl
 |d::r,i,st=>by
  obtain⟨S1,e1,e2⟩:=st 0 d rfl;have e3:=Mg f r (i+1) λj d' e=>by
   have e':i+1+j=i+(j+1):=by omega
   rw[e'];exact st (j+1) d'<|by simpa using e
  simp only[fD];rw[show i+0=i from rfl] at e1;rw[e1];simp only;rw[e2];simp only;rw[show i+0+1=i+1 from rfl,e3,length_cons];have e':i+1+r.length=i+(r.length+1):=by omega
  rw[e']
theorem gJ:∀{ds:List PyData},(∀d∈ds,∃S2,t d S=some S2/\fc S2=some true/\fe S2=some (f d))->pU t fc fe S ds=some (ds.map f)
 |[],_=>rfl
 |d::r,h=>by obtain⟨S2,e1,e2,e3⟩:=h d mem_cons_self;have ih:=gJ (ds:=r) (f:=f) λx hx=>h x<|mem_cons_of_mem _ hx;simp only[pU,e1,e2,e3,ih,map_cons]
theorem DY:∀{ds:List PyData},(∀d∈ds,∃S2,t d S=some S2/\fc S2=some (p d)/\(p d=true->fe S2=some (f d)))->pU t fc fe S ds=some ((ds.filter p).map f)
 |[],_=>rfl
 |d::r,h=>by
  obtain⟨S2,e1,e2,e3⟩:=h d mem_cons_self;have ih:=DY (ds:=r) (f:=f) (p:=p) λx hx=>h x<|mem_cons_of_mem _ hx;cases q:p d with
  |true=>simp only[pU,e1,e2,q,e3 q,ih,filter_cons,if_true,map_cons]
  |false=>simp only[pU,e1,e2,q,ih,filter_cons,false_eq_true,if_false]
theorem wj {lo:Int}(h:(iY lo n)[j]? =some d):j<n/\d=.int (lo+j):=by
 unfold iY at h;rw[getElem?_map] at h;by_cases hj:j<n
 .rw[getElem?_range hj] at h;cases h;exact⟨hj,rfl⟩
 .rw[getElem?_eq_none (by simp;omega)] at h;cases h
theorem mq (lo:Int)(n:Nat):(iY lo n).length=n:=by simp[iY]
noncomputable def Gq (o:Out)(g:VS):Out:=match o with
 |.nxt S=>g S
 |o=>o
noncomputable def bIf (o:Option Bool)(g1 g2:VS)(S:GS):Out:=match o with
 |some true=>g1 S
 |some false=>g2 S
 |none=>.fail
noncomputable def Z5 (o:Option Bool)(g:VT)(S:GS):Option Bool:=match o with
 |some true=>g S
 |some false=>some false
 |none=>none
noncomputable def bOr (o:Option Bool)(g:VT)(S:GS):Option Bool:=match o with
 |some true=>some true
 |some false=>g S
 |none=>none
noncomputable def Uj (o:Option PyData)(g:VE)(S:GS):Option PyData:=match o with
 |some (.bool true)=>g S
 |some (.bool false)=>some<|.bool false
 |_=>none
noncomputable def Z6 (o:Option PyData)(g:VE)(S:GS):Option PyData:=match o with
 |some (.bool true)=>some<|.bool true
 |some (.bool false)=>g S
 |_=>none
noncomputable def Z7 (o:Option Bool)(f g:VE)(S:GS):Option PyData:=match o with
 |some true=>f S
 |some false=>g S
 |none=>none
noncomputable def b2 (h:PyData->PyData->Option PyData)(o:Option PyData)(fb:VE)(S:GS):Option PyData:=match o with
 |some x=>(match fb S with
  |some y=>h x y
  |none=>none)
 |none=>none
noncomputable def b1 (h:PyData->Option PyData)(o:Option PyData):Option PyData:=match o with
 |some y=>h y
 |none=>none
def bC (o:Option PyData)(fs:VA)(S:GS):Option (List PyData):=match o with
 |some d=>(match fs S with
  |some ds=>some (d::ds)
  |none=>none)
 |none=>none
noncomputable def bC1 (d:PyData)(o:Option (List PyData)):Option (List PyData):=match o with
 |some ds=>some (d::ds)
 |none=>none
noncomputable def bAs (o:Option PyData)(t:VG)(S:GS):Out:=match o with
 |some d=>(match t d S with
  |some S'=>.nxt S'
  |none=>.fail)
 |none=>.fail
noncomputable def bNx (o:Option GS):Out:=match o with
 |some S'=>.nxt S'
 |none=>.fail
noncomputable def bG (o:Option GS)(u:QV)(r:List PyData):Option GS:=match o with
 |some S1=>u r S1
 |none=>none
noncomputable def Uk (o:Option (Bool×PyData)):Option PyData:=match o with
 |some (_,d)=>some d
 |none=>none
noncomputable def J7 (o:Option (Bool×PyData)):Option PyData:=match o with
 |some (true,d)=>some d
 |_=>none
noncomputable def Ij:Bool->PyData->Option PyData
 |true,d=>some d
 |false,_=>none
theorem Mh (b:Bool)(d:PyData):Ij b d=if b=true then some d else none:=by cases b<;>rfl
theorem ab4 (d:PyData):Ij true d=some d:=rfl
def J8 (o:Option (Bool×PyData)):Option PyData:=match o with
 |some (b,d)=>Ij (LC b d) d
 |none=>none
def Ea (o:Option (Bool×PyData)):Option PyData:=match o with
 |some (true,.list es)=>Ij (j9 es)<|.list es
 |_=>none
def Ul (m:f9)(o:Option (List PyData)):Option PyData:=match o with
 |some ds=>Uk<|m ds
 |none=>none
def Mi (m:f9)(o:Option (List PyData)):Option PyData:=match o with
 |some ds=>J7<|m ds
 |none=>none
def Mj (m:f9)(o:Option (List PyData)):Option PyData:=match o with
 |some ds=>J8<|m ds
 |none=>none
def Gs (m:f9)(o:Option (List PyData)):Option PyData:=match o with
 |some ds=>Ea<|m ds
 |none=>none
def afM (o:Option (List PyData))(t:VG)(g:VS)(S:GS):Out:=match o with
 |some ds=>fD t g ds S
 |none=>.fail
noncomputable def bFn (o:Out):Option (Bool×PyData):=match o with
 |.ret _ b d=>some (b,d)
 |.nxt _=>some (false,.none)
 |_=>none
noncomputable def bCh (h':PyData->PyData->Option PyData)(y:PyData)(o:Option PyData)(fc:VE)(S:GS):Option PyData:=match o with
 |some (.bool true)=>(match fc S with
  |some z=>h' y z
  |none=>none)
 |some (.bool false)=>some<|.bool false
 |_=>none
section
variable {b:Bool}
theorem Af:aK g1 g2 S=Gq (g1 S) g2:=rfl
theorem WY:Gq (.nxt S) g=g S:=rfl
theorem W2:Gq (.ret S b d) g=.ret S b d:=rfl
theorem W3:Gq (.brk S) g=.brk S:=rfl
theorem W4:Gq (.cnt S) g=.cnt S:=rfl
theorem Mq:c7 c g1 g2 S=bIf (c S) g1 g2 S:=rfl
theorem ab5:bIf (some true) g1 g2 S=g1 S:=rfl
theorem Um:bIf (some false) g1 g2 S=g2 S:=rfl
theorem Q5:fP c c2 S=Z5 (c S) c2 S:=rfl
theorem W5:Z5 (some true) c S=c S:=rfl
theorem W6:Z5 (some false) c S=some false:=rfl
theorem Mr:fX c c2 S=bOr (c S) c2 S:=rfl
theorem ab6:bOr (some true) c S=some true:=rfl
theorem Uo:bOr (some false) c S=c S:=rfl
theorem Q6:Ck fa fb S=Uj (fa S) fb S:=rfl
theorem Q7:Uj (some<|.bool true) f S=f S:=rfl
theorem Q8:Uj (some<|.bool false) f S=some (.bool false):=rfl
theorem W7:vOr fa fb S=Z6 (fa S) fb S:=rfl
theorem W8:Z6 (some<|.bool true) f S=some (.bool true):=rfl
theorem W9:Z6 (some<|.bool false) f S=f S:=rfl
theorem Xa:vIf c fa fb S=Z7 (c S) fa fb S:=rfl
theorem Xb:Z7 (some true) fa fb S=fa S:=rfl
theorem Xc:Z7 (some false) fa fb S=fb S:=rfl
theorem J9:v2 h fa fb S=b2 h (fa S) fb S:=rfl
theorem Uq:b2 h (some x) fb S=b1 (h x) (fb S):=rfl
theorem Ur:b1 k (some y)=k y:=rfl
theorem ab7:v1 k f S=b1 k (f S):=rfl
theorem Us:aC f fs S=bC (f S) fs S:=rfl
theorem afO:bC (some d) fs S=bC1 d (fs S):=rfl
theorem ab8:bC1 d (some r)=some (d::r):=rfl
theorem Xd:bY f t S=bAs (f S) t S:=rfl
theorem ab9:bAs (some d) t S=bNx (t d S):=rfl
theorem acd:bNx (some S)=.nxt S:=rfl
theorem ace:gC t u (d::r) S=bG (t d S) u r:=rfl
theorem afP:bG (some S) u r=u r S:=rfl
theorem Mt:aZ m fs S=Ul m (fs S):=by unfold aZ Ul Uk;rfl
theorem Q9:Ul m (some ds)=Uk (m ds):=rfl
theorem Ik:rD m fs S=Mi m (fs S):=by unfold rD Mi J7;rfl
theorem Mu:Mi m (some ds)=J7 (m ds):=rfl
theorem Il:pR m fs S=Mj m (fs S):=by unfold pR Mj J8;simp only[Mh]<;>rfl
theorem Mx:Mj m (some ds)=J8 (m ds):=rfl
theorem Ra:J8 (some (b,d))=Ij (LC b d) d:=rfl
theorem Eb:QS m fs S=Gs m (fs S):=by unfold QS Gs Ea;simp only[Mh]<;>rfl
theorem Im:Gs m (some ds)=Ea (m ds):=rfl
theorem Mz:Ea (some (true,.list r))=Ij (j9 r) (.list r):=rfl
theorem Xe:Uk (some (b,d))=some d:=rfl
theorem Rb:J7 (some (true,d))=some d:=rfl
theorem Ec (e:ds.length=n):g8 n nN g ds=bFn (g<|ini nN ds):=by unfold g8;rw[if_pos e];rfl
theorem acf:bFn (.ret S b d)=some (b,d):=rfl
theorem acg:bFn (.nxt S)=some (false,.none):=rfl
theorem Xf:rC h h' fa fb fc S=(match fa S with
 |some x=>(match fb S with
  |some y=>bCh h' y (h x y) fc S
  |none=>none)
 |none=>none):=rfl
theorem ach:bCh h' y (some<|.bool true) fc S=b1 (h' y) (fc S):=rfl
theorem aci:bCh h' y (some<|.bool false) fc S=some (.bool false):=rfl
theorem acj (x:α)(r:List α):bW (x::r) 0=some x:=dY rfl
theorem acn (x y:α)(r:List α):bW (x::y::r) 1=some y:=dY rfl
theorem aco (x y z:α)(r:List α):bW (x::y::z::r) 2=some z:=dY rfl
theorem acp (x y z w:α)(r:List α):bW (x::y::z::w::r) 3=some w:=dY rfl
theorem Rc:lM fi t g S=afM (fi S) t g S:=rfl
theorem Xg:afM (some ds) t g S=fD t g ds S:=rfl
end
noncomputable def bL (o:Option (List PyData)):Option PyData:=match o with
 |some es=>some<|.list es
 |none=>none
def bLC (o:Option (List PyData))(cap:List (Option Nat))(t:VG)(fc:VT)(fe:VE)(S:GS):Option PyData:=match o with
 |some ds=>@ite _ (nH S cap=true/\ds.length<sizeLine) (Classical.propDecidable _) (bL<|pU t fc fe (jt cap S) ds) none
 |none=>none
def Z8 (o:Option (List PyData))(cap:List (Option Nat))(t:VG)(fc:VT)(fe:VE)(S:GS):Option PyData:=match o with
 |some ds=>@ite _ (ds.length<sizeLine) (Classical.propDecidable _) (bL<|pU t fc (yx fe) (jt cap S) ds) none
 |none=>none
noncomputable def bOw (o:Option PyData)(b:Bool)(i:Nat)(t:Tg)(S:GS):Out:=match o with
 |some d=>if b=true then .nxt (S.set i<|some (t,d)) else .fail
 |none=>.fail
section
variable {b:Bool}
theorem MF:jZ fi cap t fc fe S=bLC (fi S) cap t fc fe S:=by unfold jZ bLC bL;rfl
theorem nP (h1:nH S cap=true)(h2:ds.length<sizeLine):bLC (some ds) cap t fc fe S=bL (pU t fc fe (jt cap S) ds):=if_pos ⟨h1,h2⟩
theorem Rg:vW fi cap t fc fe S=Z8 (fi S) cap t fc fe S:=by unfold vW Z8 bL;rfl
theorem MJ (h2:ds.length<sizeLine):Z8 (some ds) cap t fc fe S=bL (pU t fc (yx fe) (jt cap S) ds):=if_pos h2
theorem afS:bL (some es)=some (.list es):=rfl
theorem Xh:qC i f S=bOw (f S) (Cm S i) i .ow S:=rfl
theorem Ag:Cq i f S=bOw (f S) (Cm S i) i .fr S:=rfl
theorem acq:bOw (some d) true i T S=.nxt (S.set i<|some (T,d)):=rfl
def Z9 (o:Option PyData):Option PyData:=match o with
 |some d=>Ij (pP d) d
 |none=>none
theorem Rh:yx f S=Z9 (f S):=by unfold yx Z9;simp only[Mh]<;>rfl
theorem Xi:Z9 (some d)=Ij (pP d) d:=rfl
theorem aY (h:n<=16000000):n<sizeLine:=by have e:sizeLine=16777216:=rfl;omega
end
noncomputable def ob (v:Option PyData):Option (Tg×PyData):=v.map λd=>(Tg.fr,d)
theorem uG (d:PyData):ob (some d)=some (Tg.fr,d):=rfl
theorem jx:ob none=none:=rfl
theorem alF (o:Option PyData):(match ob o with|some (.io,_)=>false|_=>true)=true:=by cases o<;>rfl
theorem jy (f:α->PyData){xs:List α}{i:Nat}(h:xs[i]? =some x):bW (xs.map f) (i:Int)=some (f x):=dY (by rw[getElem?_map,h];rfl)
theorem rF (h:i<n):lR n (i:Int)=some i:=by unfold lR;rw[if_pos<|by omega,if_pos<|by omega];simp
theorem Xj (a b:Int):cI (.int a) (.int b)=some (.int<|a+b):=rfl
theorem Xk (a b:Int):mD (.int a) (.int b)=some (.int<|a - b):=rfl
theorem acr (a b:Int):sJ (.int a) (.int b)=some (.bool<|decide<|a<b):=rfl
theorem acs (a b:Int):xr (.int a) (.int b)=some (.bool<|decide<|a<=b):=rfl
theorem acu (a b:Int):yF (.int a) (.int b)=some (.bool<|decide<|b<a):=rfl
theorem acv (a b:Int):geD (.int a) (.int b)=some (.bool<|decide<|b<=a):=rfl
theorem Xl (a b:Int):Ug (.int a) (.int b)=some (.int<|Builtin.bitXor a b):=rfl
noncomputable def Ri:Option (Option<|Tg×PyData)->Bool
 |some (some (.io,_))=>false
 |_=>true
theorem Rj (S:GS)(i:Nat):Cm S i=Ri (S[i]?):=rfl
theorem Xm (o:Option PyData):Ri (some<|ob o)=true:=by cases o<;>rfl
theorem acw:Ri (some none)=true:=rfl
theorem Xn (d:PyData):Ri (some<|some (.fr,d))=true:=rfl
theorem Xo (d:PyData):Ri (some<|some (.ow,d))=true:=rfl
theorem adF (x:α)(n:Nat):(replicate n [x]).flatten=replicate n x:=by
 induction n with
 |zero=>rfl
 |succ k ih=>rw[replicate_succ,flatten_cons,ih,replicate_succ];rfl
theorem wu (x:PyData){n:Nat}(h:n<=16000000):yP (.list [x]) (.int (n:Int))=some (.list<|replicate n x):=by unfold yP;have e:sizeLine=16777216:=rfl;simp only[length_cons,length_nil,toNat_natCast];rw[if_pos ⟨by omega,by omega,by omega⟩,adF]
theorem MK (ds:List PyData):oJ "list" (.list ds)=some (.bool true):=by simp[oJ,Ia]
theorem Rk (i:Int):oJ "int" (.int i)=some (.bool true):=by simp[oJ,Ia]
theorem Ed (i:Int):oJ "bool" (.int i)=some (.bool false):=by simp[oJ,Ia]
theorem Io (ds:List PyData):oJ "tuple" (.tuple ds)=some (.bool true):=by simp[oJ,Ia]
end VM
namespace L2
open PyProof.Rows
section
variable [DecidableEq κ]
noncomputable def jK (kvs:List (κ×V))(k:κ):Option V:=(kvs.find? λkv=>decide<|kv.1=k).map (·.2)
noncomputable def putK (kvs:List (κ×V))(k:κ)(v:V):List (κ×V):=
 if(kvs.any λkv=>decide<|kv.1=k)=true then kvs.map (λkv=>if kv.1=k then(kv.1,v) else kv) else kvs++[(k,v)]
noncomputable def sS (kvs:List (κ×V))(k:κ):List (κ×V):=kvs.filter λkv=>decide<|kv.1≠k
theorem rG {k:κ}(e:p.1=k):jK (p::r) k=some p.2:=by simp[jK,find?_cons,e]
theorem rH {k:κ}(e:¬p.1=k):jK (p::r) k=jK r k:=by simp[jK,find?_cons,e]
theorem MN (k:κ):∀kvs:List (κ×V),(kvs.any λkv=>decide<|kv.1=k)=(jK kvs k).isSome
 |[]=>rfl
 |p::r=>by
  rw[any_cons];by_cases e:p.1=k
  .simp only[rG e,decide_eq_true e,Bool.true_or,Option.isSome_some]
  .rw[rH e,decide_eq_false e,Bool.false_or];exact MN k r
theorem tU (kvs:List (κ×V))(k:κ)(v:V):(putK kvs k v).length<=kvs.length+1:=by
 unfold putK;split
 .rw[length_map];omega
 .rw[length_append,length_cons,length_nil];omega
theorem jG.mW (r:jG o u):o.isSome=u.isSome:=by
 cases o with
 |none=>cases u with
  |none=>rfl
  |some _=>exact(r).elim
 |some _=>cases u with
  |none=>exact(r).elim
  |some _=>rfl
theorem jG.getD (r:jG o u)(rd:RelV d d'):RelV (o.getD d) (u.getD d'):=by
 cases o with
 |none=>cases u with
  |none=>exact rd
  |some _=>exact(r).elim
 |some _=>cases u with
  |none=>exact(r).elim
  |some _=>exact r
theorem KV.val {vs:List (κ×Value)}(r:KV kvs vs)(k:κ):jG (jK kvs k) (valueAt vs k):=by
 induction r with
 |nil=>exact True.intro
 | @cons p q ps qs h t ih=>
  obtain⟨h1,h2⟩:=h;by_cases e:p.1=k
  .have e':=h1.symm.trans e;have b:valueAt (q::qs) k=some q.2:=by simp[valueAt,find?_cons,e']
   rw[rG e,b];exact h2
  .have e':¬q.1=k:=λz=>e<|h1.trans z;have b:valueAt (q::qs) k=valueAt qs k:=by simp[valueAt,find?_cons,e']
   rw[rH e,b];exact ih
theorem KV.any (r:KV kvs vs)(k:κ):(kvs.any λkv=>decide<|kv.1=k)=vs.any λkv=>decide (kv.1=k):=by
 induction r with
 |nil=>rfl
 |cons h t ih=>rw[any_cons,any_cons,ih,h.1]
theorem KV.repl (r:KV kvs vs)(k:κ)(ry:RelV y u):
  KV (kvs.map λkv=>if kv.1=k then(kv.1,y) else kv) (vs.map λkv=>if kv.1=k then(kv.1,u) else kv):=by
 induction r with
 |nil=>exact .nil
 | @cons p q ps qs h t ih=>
  rw[map_cons,map_cons];refine .cons ?_ ih;obtain⟨h1,h2⟩:=h;by_cases e:p.1=k
  .rw[if_pos e,if_pos<|h1.symm.trans e];exact⟨h1,ry⟩
  .rw[if_neg e,if_neg<|λz=>e<|h1.trans z];exact⟨h1,h2⟩
theorem KV.put (r:KV kvs vs)(k:κ)(ry:RelV y u):KV (putK kvs k y) (stored vs k u):=by
 unfold putK stored;rw[r.any k];by_cases e:(vs.any λkv=>decide<|kv.1=k)=true
 .rw[if_pos e,if_pos e];exact r.repl k ry
 .rw[if_neg e,if_neg e];exact Paired.snoc r ⟨rfl,ry⟩
theorem KV.drop (r:KV kvs vs)(k:κ):KV (sS kvs k) (without vs k):=by
 unfold sS without;induction r with
 |nil=>exact .nil
 | @cons p q ps qs h t ih=>
  obtain⟨h1,h2⟩:=h;rw[filter_cons,filter_cons];by_cases e:p.1=k
  .have a:¬decide (p.1≠k)=true:=by simp[e]
   have b:¬decide (q.1≠k)=true:=by simp[h1.symm.trans e]
   rw[if_neg a,if_neg b];exact ih
  .have e':¬q.1=k:=λz=>e<|h1.trans z;have a:decide (p.1≠k)=true:=by simp[e]
   have b:decide (q.1≠k)=true:=by simp[e']
   rw[if_pos a,if_pos b];exact .cons ⟨h1,h2⟩ ih
theorem KV.length (r:KV kvs vs):kvs.length=vs.length:=Paired.length r
theorem MP (kvs:List (κ×V))(k:κ):(sS kvs k).length<=kvs.length:=List.length_filter_le _ _
end
theorem qL (r:RelV (kV k) u):(bZ P w).is k u=true:=by
 cases k with
 |inl i=>obtain⟨t,e⟩:=(r);subst e;exact Qd P w i t
 |inr x=>obtain⟨t,e⟩:=(r);subst e;exact Qe P w x t
theorem Ip:∀{ks:List Key}{us:List Value},Vals (ks.map kV) us->ItemsAre (bZ P w) ks us
 |[],_,r=>by rw[map_nil] at r;cases r;exact .nil
 |k::ks,_,r=>by
  rw[map_cons] at r;cases r with
  |cons h t=>exact .cons (qL h)<|Ip t
abbrev KT (H:Hp):List (List Key×V)->List (List Key×Addr×Value)->Prop:=Paired λp q=>p.1=q.1/\H q.2.1=some (.tup<|p.1.map kV)/\RelV p.2 q.2.2
theorem KT.val {xs:List (List Key×Addr×Value)}(r:KT H kvs xs)(k:List Key):jG (jK kvs k) ((atKey xs k).map (·.2)):=by
 induction r with
 |nil=>exact True.intro
 | @cons p q ps qs h t ih=>
  obtain⟨h1,_,h2⟩:=h;by_cases e:p.1=k
  .have e':=h1.symm.trans e;have b:atKey (q::qs) k=some q.2:=by simp[atKey,find?_cons,e']
   rw[rG e,b];exact h2
  .have e':¬q.1=k:=λz=>e<|h1.trans z;have b:atKey (q::qs) k=atKey qs k:=by simp[atKey,find?_cons,e']
   rw[rH e,b];exact ih
theorem KT.repl (r:KT H kvs xs)(k:List Key)(ry:RelV y u):
  KT H (kvs.map λkv=>if kv.1=k then(kv.1,y) else kv) (xs.map<|putAt k u):=by
 induction r with
 |nil=>exact .nil
 | @cons p q ps qs h t ih=>
  rw[map_cons,map_cons];refine .cons ?_ ih;obtain⟨h1,h2,h3⟩:=h;unfold putAt;by_cases e:p.1=k
  .rw[if_pos e,if_pos<|h1.symm.trans e];exact⟨h1,h2,ry⟩
  .rw[if_neg e,if_neg<|λz=>e<|h1.trans z];exact⟨h1,h2,h3⟩
theorem KT.put (r:KT H kvs xs)(k:List Key)(hb:H b=some (.tup<|k.map kV))(ry:RelV y u):
  KT H (putK kvs k y) (storedH xs k b u):=by
 have e:(kvs.any λkv=>decide<|kv.1=k)=(atKey xs k).isSome:=by rw[MN,(r.val k).mW,isSome_map]
 unfold putK storedH;rw[e];by_cases q:(atKey xs k).isSome=true
 .rw[if_pos q,if_pos q];exact r.repl k ry
 .rw[if_neg q,if_neg q];exact Paired.snoc r ⟨rfl,hb,ry⟩
theorem KT.keeps (r:KT H kvs xs)(ht:∀b ys,H b=some (.tup ys)->H' b=some (.tup ys)):KT H' kvs xs:=
 Paired.Y8 r λ_ _ z=>⟨z.1,ht _ _ z.2.1,z.2.2⟩
section
variable {a:Addr}
theorem acy (ok:iD P w H h)(e:Rd H a u):eY P w H h a u:=e.ok ok
theorem sU (ok:iD P w H h)(e:Rd H a (.dK kvs)):kvs.length<=sizeLine/\(a==sysModules)=false/\∃vs,KV kvs vs/\h.DictOf (bZ P w) a vs:=
 show eY P w H h a (.dK kvs) from acy ok e
theorem qM (ok:iD P w H h)(e:H a=some (.dK kvs)):kvs.length<=sizeLine/\(a==sysModules)=false/\∃vs,KV kvs vs/\h.DictOf (bZ P w) a vs:=sU ok<|.inl e
theorem uH (ok:iD P w H h)(e:H a=some (.tup<|ks.map kV)):(tupleKind<|bZ P w).is h ks a:=by obtain⟨_,its,r,o,h1,h2,n,h3⟩:=(ok a _ e);exact⟨o,its.toArray,n,h1,h2,h3,by simpa using Ip r⟩
theorem wz (ok:iD P w H h)(e:Rd H a (.dT kvs)):kvs.length<=sizeLine/\(a==sysModules)=false/\
  ∃xs,KT H kvs xs/\h.DictOfH (tupleKind<|bZ P w) a xs:=by
 obtain⟨z,y,xs,r,o,es,ep,h1,h2,h3,h4,h5⟩:=(acy ok e);refine⟨z,y,xs,r,o,es,ep,h1,h2,h3,h4,λx hx=>?_,h5⟩;have all:∀{l:List (List Key×V)}{m:List (List Key×Addr×Value)},KT H l m->∀x∈m,(tupleKind<|bZ P w).is h x.1 x.2.1:=by
  intro l m q;induction q with
  |nil=>intro x hx;exact nomatch hx
  | @cons p q ps qs hq t ih=>
   intro x hx;rcases mem_cons.mp hx with e|hx
   .subst e;exact uH ok (by rw[<-hq.1];exact hq.2.1)
   .exact ih x hx
 exact all r x hx
theorem ah2 (ok:iD P w H h)(e:H a=some (.dT kvs)):kvs.length<=sizeLine/\(a==sysModules)=false/\
  ∃xs,KT H kvs xs/\h.DictOfH (tupleKind<|bZ P w) a xs:=wz ok<|.inl e
end
def gY (H:Hp)(a:Addr)(y:V)(r:Option V):Prop:=
 (∃kvs k,Rd H a (.dK kvs)/\y=kV k/\r=jK kvs k)\/∃kvs k b,Rd H a (.dT kvs)/\y=.ref b/\H b=some (.tup<|k.map kV)/\r=jK kvs k
def rJ (H:Hp)(a:Addr)(y v:V)(H':Hp):Prop:=
 (∃kvs k,H a=some (.dK kvs)/\y=kV k/\kvs.length<sizeLine/\H'=upd H a (.dK<|putK kvs k v))\/
 ∃kvs k b,H a=some (.dT kvs)/\y=.ref b/\H b=some (.tup<|k.map kV)/\kvs.length<sizeLine/\H'=upd H a (.dT<|putK kvs k v)
theorem gY.k {k:Key}(e:H a=some (.dK kvs)):gY H a (kV k) (jK kvs k):=.inl ⟨kvs,k,.inl e,rfl,rfl⟩
theorem gY.t {k:List Key}(e:H a=some (.dT kvs))(eb:H b=some (.tup<|k.map kV)):gY H a (.ref b) (jK kvs k):=.inr ⟨kvs,k,b,.inl e,rfl,eb,rfl⟩
theorem rJ.k {k:Key}(e:H a=some (.dK kvs))(hl:kvs.length<sizeLine):rJ H a (kV k) v (upd H a<|.dK<|putK kvs k v):=.inl ⟨kvs,k,e,rfl,hl,rfl⟩
theorem rJ.t {k:List Key}(e:H a=some (.dT kvs))(eb:H b=some (.tup<|k.map kV))(hl:kvs.length<sizeLine):
  rJ H a (.ref b) v (upd H a<|.dT<|putK kvs k v):=.inr ⟨kvs,k,b,e,rfl,eb,hl,rfl⟩
section
variable {E:Value->Shared->Prop}
theorem Inv.big (I:Inv X pins σ H s):sysModules<s.heap.objs.size:=by have h:=(I.mod.glob.keeps I.bk).lt;exact Nat.lt_trans (by decide) h
theorem Xp (hu:A.units+1<cLine)(I:Inv X pins σ H s)(g:gY H a y (some v))(ry:RelV y u)(h:∀w' s',Inv X pins σ H s'->RelV v w'->Q w' s'):
  wpAny (model X.prog X.w) A (getItem (.ref a) u) Q E s:=by
 rcases g with⟨kvs,k,e,ey,l⟩|⟨kvs,k,b,e,ey,eb,l⟩
 .subst ey;obtain⟨z,hd,vs,rel,dd⟩:=sU I.hok e;obtain⟨w',hw,pK⟩:=jG.some_of (by rw[l];exact rel.val k);exact wpAny_getItem_of (qL ry) dd.mapOf hw<|h w' _ (I.tok _) pK
 .subst ey;cases(ry);obtain⟨z,hd,xs,rel,dd⟩:=wz I.hok e;obtain⟨w',hw,pK⟩:=jG.some_of (by rw[l];exact rel.val k);obtain⟨p,hp,hp2⟩:=map_eq_some_iff.mp hw;refine wpAny_getItem_heap (tupleKind_room_in1 hu) (uH I.hok eb) dd hp ?_;rw[hp2];exact h w' _ (I.tok _) pK
theorem akA (hu:A.units+1<cLine)(I:Inv X pins σ H s)(g:gY H a y o)(ry:RelV y u)(h:∀s',Inv X pins σ H s'->Q (.bool o.isSome) s'):
  wpAny (model X.prog X.w) A (compareOp .In u<|.ref a) Q E s:=by
 rcases g with⟨kvs,k,e,ey,l⟩|⟨kvs,k,b,e,ey,eb,l⟩
 .subst ey;obtain⟨z,hd,vs,rel,dd⟩:=sU I.hok e;refine wpAny_in_of (qL ry) hd dd.mapOf ?_;rw[<-(rel.val k).mW,←l];exact h _<|I.tok _
 .subst ey;cases(ry);obtain⟨z,hd,xs,rel,dd⟩:=wz I.hok e;refine wpAny_in_heap (tupleKind_room_in1 hu) (uH I.hok eb) hd dd ?_;have q:=(rel.val k).mW;rw[isSome_map] at q;rw[<-q,←l];exact h _<|I.tok _
theorem adG (hu:A.units+1<cLine)(I:Inv X pins σ H s)(g:gY H a y o)(ry:RelV y u)(h:∀s',Inv X pins σ H s'->Q (.bool<|!o.isSome) s'):
  wpAny (model X.prog X.w) A (compareOp .NotIn u<|.ref a) Q E s:=by
 rcases g with⟨kvs,k,e,ey,l⟩|⟨kvs,k,b,e,ey,eb,l⟩
 .subst ey;obtain⟨z,hd,vs,rel,dd⟩:=sU I.hok e;refine wpAny_notIn_of (qL ry) hd dd.mapOf ?_;rw[<-(rel.val k).mW,←l];exact h _<|I.tok _
 .subst ey;cases(ry);obtain⟨z,hd,xs,rel,dd⟩:=wz I.hok e;refine wpAny_notIn_heap (tupleKind_room_in1 hu) (uH I.hok eb) hd dd ?_;have q:=(rel.val k).mW;rw[isSome_map] at q;rw[<-q,←l];exact h _<|I.tok _
theorem uI (I:Inv X pins σ H s)(mu:VB (H a))(hs:Heap.SameBut a s.heap h')(he:∃q,h'.get? a=some q)(new:eY X.prog X.w (upd H a ob) h' a ob):
  Inv X pins σ (upd H a ob) {s with heap:=h',toks:=t'}:=
 I.write mu (.inl rfl) (λb q hb z=>(hs.2 b hb).trans z) he new
theorem Ef (z:kvs.length<=sizeLine)(hd:(a==sysModules)=false)(rel:KV kvs vs)(dd:h'.DictOf (bZ P w) a vs):
  eY P w H' h' a (.dK kvs):=⟨z,hd,vs,rel,dd⟩
theorem Xq (hu:A.units+1<cLine)(I:Inv X pins σ H s)(g:rJ H a y v H')(ry:RelV y u)(rv:RelV v r)(h:∀s',Inv X pins σ H' s'->Q () s'):
  wpAny (model X.prog X.w) A (setItem (.ref a) u r) Q E s:=by
 rcases g with⟨kvs,k,e,ey,l,eH⟩|⟨kvs,k,b,e,ey,eb,l,eH⟩
 .subst ey eH;obtain⟨z,hd,vs,rel,dd⟩:=qM I.hok e;have hz:vs.length<=sizeLine:=by rw[<-rel.length];exact z
  have hl:(putK kvs k v).length<=sizeLine:=by have:=tU kvs k v;omega
  refine wpAny_setItem_pairs (qL ry) dd λh' uJ hs=>h _ ?_;have he:∃q,h'.get? a=some q:=let⟨q,_,_,hq,_⟩:=uJ;⟨q,hq⟩;exact uI I (by rw[e];exact True.intro) hs he (Ef hl hd (rel.put k rv) uJ)
 .subst ey eH;cases(ry);obtain⟨z,hd,xs,rel,dd⟩:=ah2 I.hok e;have hz:xs.length<=sizeLine:=by rw[<-Paired.length rel];exact z
  have hl:(putK kvs k v).length<=sizeLine:=by have:=tU kvs k v;omega
  refine wpAny_setItem_heap (tupleKind_room_in1 hu) (uH I.hok eb) dd λh' uJ hs=>h _ ?_;obtain⟨q,es,ep,hq,h2,h3,h4,_,h5⟩:=uJ;refine uI I (by rw[e];exact True.intro) hs ⟨q,hq⟩ ⟨hl,hd,_,(rel.put k eb rv).keeps λc ys ec=>?_,q,es,ep,hq,h2,h3,h4,h5⟩;rw[ak<|ahC ec e<|λz=>nomatch z];exact ec
end
section
variable {E:Value->Shared->Prop}
theorem aiW (I:Inv X pins σ H s)(e:H a=some (.dK kvs))(ry:RelV (kV k) u)(l:(jK kvs k).isSome=true)(h:∀s',Inv X pins σ (upd H a<|.dK<|sS kvs k) s'->Q () s'):
  wpAny (model X.prog X.w) A (delItem (.ref a) u) Q E s:=by
 obtain⟨z,hd,vs,rel,dd⟩:=qM I.hok e;refine wpAny_delItem_slot dd.typeIs (by decide) PySem.F.slot_dict_delitem
  (call_meetsIn PySem.F.slot_dict_delitem dd.typeIs PySem.F.entry_dict_delitem (PySem.F.args_dict_delitem_2 _ _) (meets_dict_delitem_pairs (bZ X.prog X.w) a<|qL ry) ⟨vs,dd,by rw[<-rel.length];exact z,by rw[<-(rel.val k).mW];exact l,λh' uJ hs=>h _ ?_⟩)
 have he:∃q,h'.get? a=some q:=let⟨q,_,_,hq,_⟩:=uJ;⟨q,hq⟩;exact uI I (by rw[e];exact True.intro) hs he (Ef (le_trans (MP kvs k) z) hd (rel.drop k) uJ)
theorem ah3 (I:Inv X pins σ H s)(e:H a=some (.dK kvs))(ry:RelV (kV k) u)(l:jK kvs k=some v)(hm:more=[]\/∃x,more=[x])
  (h:∀w' s',Inv X pins σ (upd H a<|.dK<|sS kvs k) s'->RelV v w'->Q w' s'):wpAny (model X.prog X.w) A (call (.builtin "dict.pop") (.ref a::u::more)) Q E s:=by
 obtain⟨z,hd,vs,rel,dd⟩:=qM I.hok e;obtain⟨w',hw,pK⟩:=jG.some_of (by rw[<-l];exact rel.val k);have hp:(keyPart u).isSome=true:=by
  cases k with
  |inl i=>obtain⟨t,q⟩:=(ry);subst q;rfl
  |inr x=>obtain⟨t,q⟩:=(ry);subst q;rfl
 have ha:argsOk "dict.pop" ⟨.ref a::u::more,[]⟩:=by
  rcases hm with q|⟨x,q⟩
  .subst q;exact PySem.F.args_dict_pop_2 _ _
  .subst q;exact PySem.F.args_dict_pop_3 _ _ _
 refine call_meetsIn PySem.F.slot_dict_pop dd.typeIs PySem.F.entry_dict_pop ha (meets_dict_pop_there (bZ X.prog X.w) a (qL ry) more hm hp)
  ⟨vs,w',dd,by rw[<-rel.length];exact z,hw,λh' uJ hs=>h w' _ ?_ pK⟩
 have he:∃q,h'.get? a=some q:=let⟨q,_,_,hq,_⟩:=uJ;⟨q,hq⟩;exact uI I (by rw[e];exact True.intro) hs he (Ef (le_trans (MP kvs k) z) hd (rel.drop k) uJ)
theorem ah4 (I:Inv X pins σ H s)(e:Rd H a (.dK kvs))(h:∀t s',Inv X pins σ H s'->Q (.int kvs.length t) s'):wpAny (model X.prog X.w) A (call (.builtin "len") [.ref a]) Q E s:=by obtain⟨z,hd,vs,rel,dd⟩:=sU I.hok e;refine call_len_dict hd dd (by rw[<-rel.length];rw[sizeLine_eq] at z;omega) ?_;rw[<-rel.length];exact h _ _<|I.tok _
end
def afT (i:Expr):Prop:=∀ov iv,subscripted i false ov iv=operate [ov,iv] (getItem ov iv)
theorem adH {T id:String}
  (hl:typeLookup (.type T) "__getitem__"=pure (some<|.builtin id))(hs:afT slice)
  (h:wpAny (model prog w) A (eval value env) (λo s₁=>wpAny (model prog w) A (eval slice env) (λi s₂=>s₂.TypeIs o T/\wpAny (model prog w) A (getItem o i) Q E s₂) E s₁) E s):
  wpAny (model prog w) A (eval (.Subscript value slice pos) env) Q E s:=by
 refine Subscript_<|wpAny_mono h (λo s₁ h₁=>wpAny_mono h₁ (λi s₂ h₂=>?_) λ_ _ x=>x) λ_ _ x=>x;obtain⟨hT,h₂⟩:=h₂;refine wpAny_bind ?_;rw[getitemInPython_of_ne hT.not_modules];refine wpAny_bind<|wpAny_specialOf hT hl ?_;have fin:wpAny (model prog w) A (subscripted slice false o i) (λr s₃=>wpAny (model prog w) A (letTemporaryGo value o r>>= λ_=>pure r) Q E s₃) E s₂:=by rw[hs o i];exact wpAny_operating<|wpAny_mono h₂ (λr s₃ h₃=>wpAny_bind<|wpAny_letTemporaryGo<|wpAny_pure h₃) λ_ _ x=>x
 first
  |exact wpAny_pure (wpAny_bind fin)
  |exact wpAny_bind (wpAny_pure<|wpAny_bind fin)
  |exact wpAny_bind fin
theorem Qh (I:Inv X pins σ H s)(g:gY H a y o):s.TypeIs (.ref a) "dict":=by
 rcases g with⟨kvs,k,e,_,_⟩|⟨kvs,k,b,e,_,_,_⟩
 .obtain⟨_,_,vs,_,dd⟩:=sU I.hok e;exact dd.typeIs
 .obtain⟨_,_,xs,_,dd⟩:=wz I.hok e;exact dd.typeIs
def Ka (td ty:TE):TE:=λσ H Q=>td σ H λx H1=>ty σ H1 λy H2=>∃a v,x=.ref a/\gY H2 a y (some v)/\Q v H2
def afU (ty td:TE):TE:=λσ H Q=>ty σ H λy H1=>td σ H1 λx H2=>∃a o,x=.ref a/\gY H2 a y o/\Q (.bl o.isSome) H2
def Gu (ty td:TE):TE:=λσ H Q=>ty σ H λy H1=>td σ H1 λx H2=>∃a o,x=.ref a/\gY H2 a y o/\Q (.bl<|!o.isSome) H2
def wA (td ty tv:TE):TS:=λD σ H=>tv σ H λv H1=>td σ H1 λx H2=>ty σ H2 λy H3=>∃a H4,x=.ref a/\rJ H3 a y v H4/\D.nx σ H4
section
variable {td ty tv:TE}
theorem qU (hu:X.A.units+1<cLine)(ho:PE X o td)(hi:PE X i ty)(hs:afT i):PE X (.Subscript o i pos) (Ka td ty):=by intro pins s σ H Q I h;refine adH PySem.F.slot_dict_getitem.lookup hs<|aV (ho pins s σ H _ I h) λu s1 ⟨x,H1,I1,rx,q1⟩=>aV (hi pins s1 σ H1 _ I1 q1) λiv s2 hz=>?_;obtain⟨y,H2,I2,ry,a,v,rfl,g,q2⟩:=hz;obtain rfl:u=Value.ref a:=rx;exact⟨Qh I2 g,Xp hu I2 g ry λw' s3 I3 pK=>⟨v,H2,I3,pK,q2⟩⟩
theorem afV (hu:X.A.units+1<cLine)(hi:PE X i ty)(ho:PE X o td):PC X .In i o (afU ty td):=by intro pins s σ H Q I h;refine aV (hi pins s σ H _ I h) λiv s1 ⟨y,H1,I1,ry,q1⟩=>aV (ho pins s1 σ H1 _ I1 q1) λu s2 hz=>?_;obtain⟨x,H2,I2,rx,a,ov,rfl,g,q2⟩:=hz;obtain rfl:u=Value.ref a:=rx;exact akA hu I2 g ry λs3 I3=>⟨.bl ov.isSome,H2,I3,rfl,q2⟩
theorem Ir (hu:X.A.units+1<cLine)(hi:PE X i ty)(ho:PE X o td):PC X .NotIn i o (Gu ty td):=by intro pins s σ H Q I h;refine aV (hi pins s σ H _ I h) λiv s1 ⟨y,H1,I1,ry,q1⟩=>aV (ho pins s1 σ H1 _ I1 q1) λu s2 hz=>?_;obtain⟨x,H2,I2,rx,a,ov,rfl,g,q2⟩:=hz;obtain rfl:u=Value.ref a:=rx;exact adG hu I2 g ry λs3 I3=>⟨.bl<|!ov.isSome,H2,I3,rfl,q2⟩
theorem uK (hu:X.A.units+1<cLine)(ho:PE X o td)(hi:PE X i ty)(hv:PE X value tv)(hs:swapsWith value (some<|.Subscript o i pos') pos.line X.env=pure false):
  PS X (.Assign [.Subscript o i pos'] value pos) (wA td ty tv):=by
 intro pins s σ H D I h;refine wpAny_Assign_Subscript (aV (hv pins s σ H _ I h) λr s1 ⟨v,H1,I1,rv,q1⟩=>aV (ho pins s1 σ H1 _ I1 q1) λu s2 ⟨x,H2,I2,rx,q2⟩=>aV (hi pins s2 σ H2 _ I2 q2) λiv s3 hz=>?_) hs;obtain⟨y,H3,I3,ry,a,H4,rfl,g,q3⟩:=hz;obtain rfl:u=Value.ref a:=rx;exact Xq hu I3 g ry rv λs4 I4=>⟨σ,H4,I4,q3⟩
end
theorem M4 (h:Heap)(hb:sysModules<h.objs.size):eY P w H (h.push {cls:=.type "dict",data:=.dict #[]}) h.objs.size (.dK []):=
 ⟨zero_le _,beq_eq_false_iff_ne.mpr<|Ne.symm (ne_of_lt hb),[],.nil,Heap.DictOf.new h⟩
def afW:TE:=λ_ H Q=>∀p,H p=none->Q (.ref p) (upd H p<|.dK [])
section
variable {pos:Pos}
theorem Cv:PE X (.Dict [] [] pos) afW:=λpins s σ H Q I h=>
 wpAny_Dict_empty ⟨.ref s.heap.objs.size,_,I.laid (λ_ _ q=>get?_push_of_some _ q) (le_refl _)<|M4 s.heap I.big,rfl,h _<|I.hok.fresh<|le_refl _⟩
end
def uL:List (TE×TE)->St->Hp->(List (V×V)->Hp->Prop)->Prop
 |[],_,H,Q=>Q [] H
 |(tk,tv)::r,σ,H,Q=>tk σ H λx H1=>tv σ H1 λy H2=>uL r σ H2 λps H3=>Q ((x,y)::ps) H3
abbrev VV:List (V×V)->List (Value×Value)->Prop:=Paired λp q=>RelV p.1 q.1/\RelV p.2 q.2
def PPs (X:Cx)(pos:Pos)(keys:List (Option Expr))(values:List Expr)(M5:List (TE×TE)):Prop:=
 ∀(pins:List (Addr×Obj)) (s:Shared) (σ:St) (H:Hp) (Q:List (V×V)->Hp->Prop),Inv X pins σ H s->uL M5 σ H Q->
  wpAny (model X.prog X.w) X.A (evalPairs<|pairTrees keys values X.env pos) (λvs s'=>∃ps H',Inv X pins σ H' s'/\VV ps vs/\Q ps H') X.xe s
theorem adI:PPs X pos [] [] []:=λpins s σ H Q I h=>pairTrees_nil_walk ⟨[],H,I,.nil,h⟩
theorem M6 (hk:PE X k tk)(hv:PE X v tv)(hr:PPs X pos ks vs M5):
  PPs X pos (some k::ks) (v::vs) ((tk,tv)::M5):=λpins s σ H Q I h=>
 pairTrees_cons_walk (aV (hk pins s σ H _ I h) λu s1 ⟨x,H1,I1,rx,q1⟩=>aV (hv pins s1 σ H1 _ I1 q1) λw2 s2 ⟨y,H2,I2,ry,q2⟩=>
  aV (hr pins s2 σ H2 _ I2 q2) λws s3 ⟨ps,H3,I3,rel,q3⟩=>⟨(x,y)::ps,H3,I3,.cons ⟨rx,ry⟩ rel,q3⟩)
def rK (kvs more:List (Key×V)):List (Key×V):=more.foldl (λacc kv=>putK acc kv.1 kv.2) kvs
theorem KV.merge:∀{more:List (Key×V)}{rs:List (Key×Value)} {kvs:List (Key×V)} {vs:List (Key×Value)},KV more rs->KV kvs vs->KV (rK kvs more) (merged vs rs):=by
 intro more rs kvs vs r;induction r generalizing kvs vs with
 |nil=>intro q;exact q
 | @cons p q ps qs h t ih=>
  intro r0;have e:KV (putK kvs p.1 p.2) (stored vs q.1 q.2):=by have:=r0.put p.1 h.2;rw[<-h.1];exact this
  exact ih e
theorem xG:∀(more kvs:List (Key×V)),(rK kvs more).length<=kvs.length+more.length
 |[],kvs=>by show kvs.length<=kvs.length+0;omega
 |p::r,kvs=>by have h1:=xG r<|putK kvs p.1 p.2;have h2:=tU kvs p.1 p.2;show(rK (putK kvs p.1 p.2) r).length<=_;rw[length_cons];omega
theorem Eh:∀{kvs:List (Key×V)}{ws:List (Value×Value)},VV (kvs.map λkv=>(kV kv.1,kv.2)) ws->∃rs,Carries (bZ P w) ws rs/\KV kvs rs
 |[],_,r=>by rw[map_nil] at r;cases r;exact⟨[],True.intro,.nil⟩
 |p::kvs,_,r=>by
  rw[map_cons] at r;cases r with
  | @cons a b as bs h t=>obtain⟨rs,c,q⟩:=Eh (P:=P) (w:=w) t;obtain⟨b1,b2⟩:=b;exact⟨(p.1,b2)::rs,⟨qL h.1,rfl,c⟩,.cons ⟨rfl,h.2⟩ q⟩
def ah5 (M5:List (TE×TE)):TE:=λσ H Q=>∀p,H p=none->uL M5 σ (upd H p<|.dK []) λps H2=>H2 p=some (.dK [])/\∃kvs:List (Key×V),ps=kvs.map (λkv=>(kV kv.1,kv.2))/\kvs.length<=15/\Q (.ref p) (upd H2 p<|.dK<|rK [] kvs)
theorem adJ (h:PPs X pos keys values M5)(hall:keys.all (·.isSome)=true)(hl:keys.length=values.length)(h0:keys≠[])
  (h15:keys.length<=15):PE X (.Dict keys values pos) (ah5 M5):=by
 intro pins s σ H Q I q;have hn:=I.hok.fresh<|le_refl s.heap.objs.size;have I1:=I.laid (t':=s.toks) (λ_ _ q=>get?_push_of_some _ q) (le_refl _)<|M4 s.heap I.big;refine wpAny_Dict_walk (knd:=bZ X.prog X.w) hall hl h0 h15<|aV (h pins _ σ _ _ I1<|q _ hn) λws s2 hz=>?_;obtain⟨ps,H2,I2,rel,e,kvs,rfl,lk,q2⟩:=hz;obtain⟨rs,c,rk⟩:=Eh rel;obtain⟨z,hd,vs0,r0,dd⟩:=qM I2.hok e;cases r0;refine⟨rs,c,dd,λh' uJ hs=>⟨.ref s.heap.objs.size,_,?_,rfl,q2⟩⟩;have hz:(rK [] kvs).length<=sizeLine:=by have h1:=xG kvs [];rw[length_nil] at h1;rw[sizeLine_eq];omega
 have he:∃q,h'.get? s.heap.objs.size=some q:=let⟨q,_,_,hq,_⟩:=uJ;⟨q,hq⟩;exact uI I2 (by rw[e];exact True.intro) hs he (Ef hz hd (rk.merge .nil) uJ)
structure M1 (X:Cx)(o:Expr)(m:Str)(apos:Pos)(e:Expr)(cpos:Pos):Prop where
 base:attributeBase o m X.env (eval o X.env)=eval o X.env
 few:((backTo cpos (starEach [e] X.env)).all (λx=>!x.1) && (backToKw cpos (keywordEach [] X.env)).all (λx=>x.1.isSome)
  && decide (([e]:List Expr).length+([]:List Keyword).length+(if([]:List Keyword).isEmpty then 0 else 1)<30))=true
 line:(apos.endLine==cpos.line)=true
 trees:backTo cpos (starEach [e] X.env)=[(false,eval e X.env)]
structure M2 (X:Cx)(o:Expr)(m:Str)(apos:Pos)(e f:Expr)(cpos:Pos):Prop where
 base:attributeBase o m X.env (eval o X.env)=eval o X.env
 few:((backTo cpos (starEach [e,f] X.env)).all (λx=>!x.1) && (backToKw cpos (keywordEach [] X.env)).all (λx=>x.1.isSome)
  && decide (([e,f]:List Expr).length+([]:List Keyword).length+(if([]:List Keyword).isEmpty then 0 else 1)<30))=true
 line:(apos.endLine==cpos.line)=true
 trees:backTo cpos (starEach [e,f] X.env)=[(false,eval e X.env),(false,eval f X.env)]
def IsD (H:Hp)(a:Addr):Prop:=(∃kvs,Rd H a (.dK kvs))\/∃kvs,Rd H a (.dT kvs)
theorem Xr (I:Inv X pins σ H s)(d:IsD H a):
  s.TypeIs (.ref a) "dict"/\(∀b,Value.ref a=.ref b->∃ob,s.heap.get? b=some ob/\ob.dict=none)/\(a==sysModules)=false:=by
 rcases d with⟨kvs,e⟩|⟨kvs,e⟩
 .obtain⟨_,hd,vs,_,dd⟩:=sU I.hok e;refine⟨dd.typeIs,λb q=>?_,hd⟩;cases q;obtain⟨ob,_,_,h1,h2,_⟩:=dd;exact⟨ob,h1,h2.2.1⟩
 .obtain⟨_,hd,xs,_,dd⟩:=wz I.hok e;refine⟨dd.typeIs,λb q=>?_,hd⟩;cases q;obtain⟨ob,_,_,h1,h2,_⟩:=dd;exact⟨ob,h1,h2.2.1⟩
section
variable {E:Value->Shared->Prop}
theorem afY (hu:A.units+1<cLine)(I:Inv X pins σ H s)(g:gY H a y o)(ry:RelV y u)(rd:RelV d r)(h:∀w' s',Inv X pins σ H s'->RelV (o.getD d) w'->Q w' s'):
  wpAny (model X.prog X.w) A (call (.builtin "dict.get") [.ref a,u,r]) Q E s:=by
 rcases g with⟨kvs,k,e,ey,l⟩|⟨kvs,k,b,e,ey,eb,l⟩
 .subst ey;obtain⟨z,hd,vs,rel,dd⟩:=sU I.hok e;refine call_meetsIn PySem.F.slot_dict_get dd.typeIs PySem.F.entry_dict_get (PySem.F.args_dict_get_3 _ _ _) (meets_dict_get_default (bZ X.prog X.w) a (qL ry) hd r) ⟨_,dd.mapOf,h _ _ (I.tok _) ?_⟩;rw[l];exact(rel.val k).getD rd
 .subst ey;cases(ry);obtain⟨z,hd,xs,rel,dd⟩:=wz I.hok e;refine call_meetsIn PySem.F.slot_dict_get dd.typeIs PySem.F.entry_dict_get (PySem.F.args_dict_get_3 _ _ _) (meetsH_dict_get_default (tupleKind<|bZ X.prog X.w) a b hd r) ⟨tupleKind_room_in1 hu,k,xs,uH I.hok eb,dd,h _ _ (I.tok _) ?_⟩;rw[l];exact(rel.val k).getD rd
end
def M7 (td ty tx:TE):TE:=λσ H Q=>td σ H λx H1=>∃a,x=.ref a/\IsD H1 a/\ty σ H1 λy H2=>tx σ H2 λz H3=>∃o,gY H3 a y o/\Q (o.getD z) H3
def Xu (td ty:TE):TE:=λσ H Q=>td σ H λx H1=>∃a,x=.ref a/\IsD H1 a/\ty σ H1 λy H2=>∃kvs k v,H2 a=some (.dK kvs)/\y=kV k/\jK kvs k=some v/\Q v (upd H2 a<|.dK<|sS kvs k)
section
variable {td ty tx:TE}
theorem M8 (hu:X.A.units+1<cLine)(ho:PE X o td)(he:PE X e ty)(hf:PE X f tx)(m:M2 X o "get" apos e f cpos):PE X (.Call (.Attribute o "get" apos) [e,f] [] cpos) (M7 td ty tx):=by
 intro pins s σ H Q I h;refine wpAny_Call_method m.base m.few m.line PySem.F.plainAttrs_dict PySem.F.slot_dict_get PySem.F.type_dict_get (aV (ho pins s σ H _ I h) λu s1 hz=>?_);obtain⟨x,H1,I1,rx,a,rfl,d,q1⟩:=hz;obtain rfl:u=Value.ref a:=rx;obtain⟨t1,t2,_⟩:=Xr I1 d;refine⟨t1,t2,?_⟩;rw[m.trees];refine Calls.callWith_builtin rfl (Calls.evalArgs_plain (Calls.spliced_cons (aV (he pins s1 σ H1 _ I1 q1) λiv s2 ⟨y,H2,I2,ry,q2⟩=>
  Calls.spliced_cons (aV (hf pins s2 σ H2 _ I2 q2) λfv s3 ⟨z,H3,I3,rz,ov,g,q3⟩=>Calls.spliced_nil ?_))))
 exact afY hu I3 g ry rz λw' s4 I4 pK=>⟨_,H3,I4,pK,q3⟩
theorem aac (ho:PE X o td)(he:PE X e ty)(m:M1 X o "pop" apos e cpos):PE X (.Call (.Attribute o "pop" apos) [e] [] cpos) (Xu td ty):=by intro pins s σ H Q I h;refine wpAny_Call_method m.base m.few m.line PySem.F.plainAttrs_dict PySem.F.slot_dict_pop PySem.F.type_dict_pop<|aV (ho pins s σ H _ I h) λu s1 hz=>?_;obtain⟨x,H1,I1,rx,a,rfl,d,q1⟩:=hz;obtain rfl:u=Value.ref a:=rx;obtain⟨t1,t2,_⟩:=Xr I1 d;refine⟨t1,t2,?_⟩;rw[m.trees];refine Calls.callWith_builtin rfl<|Calls.evalArgs_plain<|Calls.spliced_cons<|aV (he pins s1 σ H1 _ I1 q1) λiv s2 ⟨y,H2,I2,ry,kvs,k,v,ea,ey,l,q2⟩=>Calls.spliced_nil ?_;subst ey;exact ah3 I2 ea ry l (.inl rfl) λw' s3 I3 pK=>⟨v,_,I3,pK,q2⟩
end
section
variable {E:Value->Shared->Prop}
end
section
variable {E:Value->Shared->Prop}
end
end L2
namespace VM
theorem len1:∀{us:List α},us.length=1->∃x0,us=[x0]
 |[x0],_=>⟨x0,rfl⟩
 |[],h=>by cases h
 |_::_::_,h=>by cases h
theorem len2:∀{us:List α},us.length=2->∃x0 x1,us=[x0,x1]
 |[],h=>by cases h
 |x0::r,h=>by obtain⟨x1,rfl⟩:=len1 (us:=r) (by simpa using h);exact⟨x0,x1,rfl⟩
theorem aad:∀{us:List α},us.length=3->∃x0 x1 x2,us=[x0,x1,x2]
 |[],h=>by cases h
 |x0::r,h=>by obtain⟨x1,x2,rfl⟩:=len2 (us:=r) (by simpa using h);exact⟨x0,x1,x2,rfl⟩
theorem aae:∀{us:List α},us.length=4->∃x0 x1 x2 x3,us=[x0,x1,x2,x3]
 |[],h=>by cases h
 |x0::r,h=>by obtain⟨x1,x2,x3,rfl⟩:=aad (us:=r) (by simpa using h);exact⟨x0,x1,x2,x3,rfl⟩
theorem aaf:∀{us:List α},us.length=5->∃x0 x1 x2 x3 x4,us=[x0,x1,x2,x3,x4]
 |[],h=>by cases h
 |x0::r,h=>by obtain⟨x1,x2,x3,x4,rfl⟩:=aae (us:=r) (by simpa using h);exact⟨x0,x1,x2,x3,x4,rfl⟩
theorem afZ:∀{us:List α},us.length=6->∃x0 x1 x2 x3 x4 x5,us=[x0,x1,x2,x3,x4,x5]
 |[],h=>by cases h
 |x0::r,h=>by obtain⟨x1,x2,x3,x4,x5,rfl⟩:=aaf (us:=r) (by simpa using h);exact⟨x0,x1,x2,x3,x4,x5,rfl⟩
open L2 PySem.W PySem.Calls PyProof.Rows
section
variable {X:Cx}
end
end VM
namespace Sp
noncomputable def tot (f:Nat->α->Nat):Nat->List α->Nat
 |_,[]=>0
 |i,x::xs=>f i x+tot f (i+1) xs
theorem Ah (f:Nat->α->Nat)(x:α):∀(xs:List α) (i j:Nat) (y:α),xs[j]? =some y->tot f i (xs.set j x)+f (i+j) y=tot f i xs+f (i+j) x
 |[],i,j,y,h=>by simp at h
 |z::xs,i,0,y,h=>by
  have e:z=y:=by simpa using h
  subst e;simp only[set_cons_zero,tot,add_zero];omega
 |z::xs,i,j+1,y,h=>by
  have ih:=Ah f x xs (i+1) j y (by simpa using h);simp only[set_cons_succ,tot];have e:i+1+j=i+(j+1):=by omega
  rw[e] at ih;omega
structure Lb where
 d:Int
 c:Nat
 fr:Option (Nat×Nat)
noncomputable def near (d:Int)(c:Nat):Option Lb->Bool
 |none=>true
 |some l=>decide (d<l.d)||(decide (d=l.d) && decide (c<l.c))
def jj (l:Lb)(d:Int)(c:Nat):Prop:=l.d<d\/(l.d=d/\l.c<=c)
theorem Ut (h:near d c o=false):∃l,o=some l/\jj l d c:=by
 cases o with
 |none=>simp[near] at h
 |some l=>refine⟨l,rfl,?_⟩;simp only[near,Bool.or_eq_false_iff,decide_eq_false_iff_not,Bool.and_eq_false_iff] at h;unfold jj;omega
structure RS where
 aq:List (Option Lb)
 wait:List Bool
 queue:List Nat
 place:Nat
abbrev Mv:=Nat×Nat×Int
def relax (left:Nat->Int)(u:Nat)(d:Int)(c:Nat)(s:RS)(m:Mv):RS:=
  if 0<left m.1/\near (d+m.2.2) c (s.aq[m.2.1]?.getD none)=true then
    {s with aq:=s.aq.set m.2.1 (some ⟨d+m.2.2,c,some (m.1,u)⟩),
            wait:=if s.wait[m.2.1]?.getD false=true then s.wait else s.wait.set m.2.1 true,
            queue:=if s.wait[m.2.1]?.getD false=true then s.queue else s.queue++[m.2.1]}
  else s
noncomputable def RS.room (s:RS):Nat:=s.queue[s.place]?.getD 0
def RS.at (s:RS):Lb:=((s.aq[s.room]?.getD none).getD ⟨0,0,none⟩)
def mz (left:Nat->Int)(out:Nat->List Mv)(s:RS):RS:=
 (out s.room).foldl (relax left s.room s.at.d<|s.at.c+1) {s with place:=s.place+1,wait:=s.wait.set s.room false}
def RS.done (s:RS):Prop:=s.queue.length<=s.place
inductive Ends (left:Nat->Int)(out:Nat->List Mv):Nat->RS->RS->Prop
 |stop {s}:s.done->Ends left out 0 s s
 |go {m s t}:¬s.done->Ends left out m (mz left out s) t->Ends left out (m+1) s t
structure cT (n:Nat)(left:Nat->Int)(out:Nat->List Mv)(π:Nat->Int):Prop where
 room:∀u m,m∈out u->m.2.1<n
 ne:∀u m,m∈out u->m.2.1≠u
 pay:∀u m,u<n->m∈out u->0<left m.1->π m.2.1<=π u+m.2.2
variable {st:Nat}
structure nQ (n:Nat)(left:Nat->Int)(out:Nat->List Mv)(π:Nat->Int)(st:Nat)(s:RS):Prop where
 pl:s.place<=s.queue.length
 ll:s.aq.length=n
 wl:s.wait.length=n
 ql:∀v∈s.queue,v<n
 st0:s.aq[st]? =some (some ⟨0,0,none⟩)
 lo:∀v l,s.aq[v]? =some (some l)->π v - π st<=l.d
 fr:∀v l,s.aq[v]? =some (some l)->v≠st->∃mv u x lu,l.fr=some (mv,u)/\u<n/\(mv,v,x)∈out u/\0<left mv/\s.aq[u]? =some (some lu)/\jj ⟨lu.d+x,lu.c+1,none⟩ l.d l.c
 wq:∀v,s.wait[v]? =some true->v∈s.queue.drop s.place
 lq:∀v∈s.queue,∃l,s.aq[v]? =some (some l)
def acA (left:Nat->Int)(s:RS)(l:Lb)(ms:List Mv):Prop:=
 ∀m∈ms,0<left m.1->∃lv,s.aq[m.2.1]? =some (some lv)/\jj lv (l.d+m.2.2) (l.c+1)
structure mG (n:Nat)(left:Nat->Int)(out:Nat->List Mv)(π:Nat->Int)(st:Nat)(s:RS):Prop extends nQ n left out π st s where
 rel:∀u l,s.aq[u]? =some (some l)->u∉s.queue.drop s.place->acA left s l (out u)
noncomputable def un (o:Option Lb):Nat:=if o.isNone then 1 else 0
noncomputable def far (π:Nat->Int)(st v:Nat)(o:Option Lb):Nat:=match o with
 |none=>0
 |some l=>(l.d - (π v - π st)).toNat
noncomputable def cnt (o:Option Lb):Nat:=match o with
 |none=>0
 |some l=>l.c
def mu (π:Nat->Int)(st:Nat)(s:RS):Nat×Nat×Nat:=(tot (λ_ o=>un o) 0 s.aq,tot (far π st) 0 s.aq,2*tot (λ_ o=>cnt o) 0 s.aq+(s.queue.length - s.place))
def L3 (a b:Nat×Nat×Nat):Prop:=a.1<b.1\/(a.1=b.1/\(a.2.1<b.2.1\/(a.2.1=b.2.1/\a.2.2<b.2.2)))
theorem L3.trans (h:L3 a b)(g:L3 b c):L3 a c:=by unfold L3 at*;omega
theorem L3.wf:WellFounded L3:=by
 constructor;intro⟨a,b,c⟩;induction a using Nat.strongRecOn generalizing b c with
 |ind a iha=>
  induction b using Nat.strongRecOn generalizing c with
  |ind b ihb=>
   induction c using Nat.strongRecOn with
   |ind c ihc=>
    constructor;rintro⟨a',b',c'⟩ h;simp only[L3] at h;rcases h with h|⟨rfl,h|⟨rfl,h⟩⟩
    .exact iha a' h b' c'
    .exact ihb b' h c'
    .exact ihc c' h
theorem jj.trans (h:jj a b.d b.c)(g:jj b d c):jj a d c:=by unfold jj at*;omega
theorem jj.refl (a:Lb):jj a a.d a.c:=by unfold jj;omega
theorem jR {xs:List α}(h:(xs.set i x)[j]? =some y):(j=i/\y=x/\i<xs.length)\/(j≠i/\xs[j]? =some y):=by
 by_cases e:j=i
 .subst e;have hl:=(List.getElem?_eq_some_iff.mp h).1;rw[length_set] at hl;rw[getElem?_set_self hl] at h;exact .inl ⟨rfl,(Option.some.inj h).symm,hl⟩
 .rw[getElem?_set_ne<|Ne.symm e] at h;exact .inr ⟨e,h⟩
structure lU (n:Nat)(left:Nat->Int)(out:Nat->List Mv)(π:Nat->Int)(st:Nat)(s t:RS):Prop where
 ok:nQ n left out π st t
 pl:t.place=s.place
 low:∀(v:Nat) (l:Lb),s.aq[v]? =some (some l)->∃l':Lb,t.aq[v]? =some (some l')/\jj l' l.d l.c
 same:∀v:Nat,v∈t.queue.drop t.place\/t.aq[v]? =s.aq[v]?
 sub:∀v,v∈s.queue.drop s.place->v∈t.queue.drop t.place
 ms:mu π st t=mu π st s\/L3 (mu π st t) (mu π st s)
theorem lU.refl (h:nQ n left out π st s):lU n left out π st s s:=⟨h,rfl,λv l e=>⟨l,e,jj.refl l⟩,λ_=>.inr rfl,λ_ h=>h,.inl rfl⟩
theorem lU.trans (a:lU n left out π st s t)(b:lU n left out π st t r):lU n left out π st s r:=by
 refine⟨b.ok,b.pl.trans a.pl,λv l e=>?_,λv=>?_,λv h=>b.sub v<|a.sub v h,?_⟩
 .obtain⟨l1,e1,q1⟩:=a.low v l e;obtain⟨l2,e2,q2⟩:=b.low v l1 e1;exact⟨l2,e2,q2.trans q1⟩
 .rcases b.same v with h|h
  .exact .inl h
  .rcases a.same v with g|g
   .exact .inl<|b.sub v g
   .exact .inr<|h.trans g
 .rcases a.ms with h|h
  .rw[<-h];exact b.ms
  .rcases b.ms with g|g
   .rw[g];exact .inr h
   .exact .inr<|g.trans h
theorem wC {u:Nat}(F:cT n left out π)(I:nQ n left out π st s)(hu:u<n)(hl:s.aq[u]? =some (some lu))(hm:m∈out u):
  lU n left out π st s (relax left u lu.d (lu.c+1) s m)/\(relax left u lu.d (lu.c+1) s m).aq[u]? =some (some lu)/\
   (0<left m.1->∃lv,(relax left u lu.d (lu.c+1) s m).aq[m.2.1]? =some (some lv)/\jj lv (lu.d+m.2.2) (lu.c+1)):=by
 obtain⟨mv,v,x⟩:=m;have hvn:=F.room u _ hm;have hvu:=F.ne u _ hm;have hvl:v<s.aq.length:=by rw[I.ll];exact hvn
 obtain⟨ov,hov⟩:∃o,s.aq[v]? =some o:=⟨_,getElem?_eq_getElem hvl⟩;obtain⟨wv,Iu⟩:∃o,s.wait[v]? =some o:=⟨_,getElem?_eq_getElem (by rw[I.wl];exact hvn)⟩;unfold relax;simp only[hov,Iu,getD_some];by_cases hc:0<left mv/\near (lu.d+x) (lu.c+1) ov=true
 .rw[if_pos hc];obtain⟨hleft,hnear⟩:=hc;have aag:=F.pay u (mv,v,x) hu hm hleft;have hlo:=I.lo u lu hl;have akB:v≠st:=by intro e;subst e;rw[I.st0] at hov;have e2:=(Option.some.inj hov).symm;subst e2;simp only[near,or_eq_true,decide_eq_true_eq,and_eq_true] at hnear;omega
  have hq:∀z,z∈s.queue.drop s.place->z∈(if wv=true then s.queue else s.queue++[v]).drop s.place:=λz hz=>by
   split
   .exact hz
   .rw[List.drop_append_of_le_length I.pl];exact mem_append_left _ hz
  have hvq:v∈(if wv=true then s.queue else s.queue++[v]).drop s.place:=by
   by_cases hw:wv=true
   .rw[if_pos hw];exact I.wq v<|by rw[Iu,hw]
   .rw[if_neg hw,List.drop_append_of_le_length I.pl];exact mem_append_right _<|by simp
  have new:(s.aq.set v<|some ⟨lu.d+x,lu.c+1,some (mv,u)⟩)[v]? =some (some ⟨lu.d+x,lu.c+1,some (mv,u)⟩):=getElem?_set_self hvl;have other:∀z:Nat,z≠v->(s.aq.set v<|some ⟨lu.d+x,lu.c+1,some (mv,u)⟩)[z]? =s.aq[z]?:=λz hz=>getElem?_set_ne<|Ne.symm hz;have low:∀z (l:Lb),s.aq[z]? =some (some l)->∃l',(s.aq.set v<|some ⟨lu.d+x,lu.c+1,some (mv,u)⟩)[z]? =some (some l')/\jj l' l.d l.c:=λz l e=>by
   by_cases hz:z=v
   .subst hz;rw[hov] at e;have e2:=Option.some.inj e;subst e2;refine⟨_,new,?_⟩;simp only[near,or_eq_true,decide_eq_true_eq,and_eq_true] at hnear;unfold jj;omega
   .exact⟨l,by rw[other z hz];exact e,jj.refl l⟩
  refine⟨⟨⟨?_,?_,?_,?_,?_,?_,?_,?_,?_⟩,rfl,low,λz=>?_,hq,?_⟩,?_,λ_=>⟨_,new,?_⟩⟩
  .split
   .exact I.pl
   .rw[length_append];exact le_trans I.pl<|le_add_right _ _
  .rw[length_set];exact I.ll
  .split
   .exact I.wl
   .rw[length_set];exact I.wl
  .intro z hz;have hz':=hz;split at hz'
   .exact I.ql z hz'
   .rcases mem_append.mp hz' with h|h
    .exact I.ql z h
    .rw[mem_singleton.mp h];exact hvn
  .rw[other st<|Ne.symm akB];exact I.st0
  .intro z l e;rcases jR (e) with⟨rfl,e2,_⟩|⟨hz,e2⟩
   .cases e2;omega
   .exact I.lo z l e2
  .intro z l e hzs;rcases jR (e) with⟨rfl,e2,_⟩|⟨hz,e2⟩
   .cases e2;exact⟨mv,u,x,lu,rfl,hu,hm,hleft,by show(s.aq.set z _)[u]? =_;rw[other u<|Ne.symm hvu];exact hl,by unfold jj;dsimp only;omega⟩
   .obtain⟨mv',u',x',lu',h1,h2,h3,h4,h5,h6⟩:=I.fr z l e2 hzs;obtain⟨l2,g1,g2⟩:=low u' lu' h5;refine⟨mv',u',x',l2,h1,h2,h3,h4,g1,?_⟩;unfold jj at*
    omega
  .intro z hz;have hz':=hz;split at hz'
   .exact hq z<|I.wq z hz'
   .rcases jR hz' with⟨rfl,_,_⟩|⟨_,e2⟩
    .exact hvq
    .exact hq z<|I.wq z e2
  .intro z hz;have hz':=hz;have old:∀z:Nat,z∈s.queue->∃l,(s.aq.set v<|some ⟨lu.d+x,lu.c+1,some (mv,u)⟩)[z]? =some (some l):=λz hz=>by obtain⟨l,e⟩:=I.lq z hz;obtain⟨l',e',_⟩:=low z l e;exact⟨l',e'⟩
   split at hz'
   .exact old z hz'
   .rcases mem_append.mp hz' with h|h
    .exact old z h
    .rw[mem_singleton.mp h];exact⟨_,new⟩
  .by_cases hz:z=v
   .rw[hz];exact .inl hvq
   .exact .inr<|other z hz
  .
   have t1:=Ah (λ_ o=>un o) (some ⟨lu.d+x,lu.c+1,some (mv,u)⟩) s.aq 0 v ov hov;have t2:=Ah (far π st) (some ⟨lu.d+x,lu.c+1,some (mv,u)⟩) s.aq 0 v ov hov;have t3:=Ah (λ_ o=>cnt o) (some ⟨lu.d+x,lu.c+1,some (mv,u)⟩) s.aq 0 v ov hov;have lq:(if wv=true then s.queue else s.queue++[v]).length<=s.queue.length+1:=by
    split
    .exact le_succ _
    .rw[length_append];exact le_refl _
   right;simp only[mu,L3];simp only[zero_add] at t1 t2 t3;have z1:un (some ⟨lu.d+x,lu.c+1,some (mv,u)⟩)=0:=rfl;have z3:cnt (some ⟨lu.d+x,lu.c+1,some (mv,u)⟩)=lu.c+1:=rfl;have z2:far π st v (some ⟨lu.d+x,lu.c+1,some (mv,u)⟩)=(lu.d+x - (π v - π st)).toNat:=rfl;rw[z1] at t1;rw[z2] at t2;rw[z3] at t3;cases ov with
   |none=>left;have y1:un none=1:=rfl;rw[y1] at t1;omega
   |some l=>
    have l0:=I.lo v l hov;simp only[near,or_eq_true,decide_eq_true_eq,and_eq_true] at hnear;right;have y1:un (some l)=0:=rfl;have y2:far π st v (some l)=(l.d - (π v - π st)).toNat:=rfl;have y3:cnt (some l)=l.c:=rfl;rw[y1] at t1;rw[y2] at t2;rw[y3] at t3;refine⟨by omega,?_⟩;rcases hnear with h|⟨h,h'⟩
    .left;have e1:(lu.d+x - (π v - π st)).toNat<(l.d - (π v - π st)).toNat:=by omega
     omega
    .right;have e1:(lu.d+x - (π v - π st)).toNat=(l.d - (π v - π st)).toNat:=by rw[h]
     refine⟨by omega,?_⟩;have:=I.pl;omega
  .rw[other u<|Ne.symm hvu];exact hl
  .unfold jj;dsimp only;omega
 .rw[if_neg hc];refine⟨lU.refl I,hl,λh=>?_⟩;have hn:near (lu.d+x) (lu.c+1) ov=false:=by
   cases e:near (lu.d+x) (lu.c+1) ov with
   |false=>rfl
   |true=>exact absurd ⟨h,e⟩ hc
  obtain⟨l,e,q⟩:=Ut hn;subst e;exact⟨l,hov,q⟩
theorem M9 (F:cT n left out π)(hu:u<n):∀(ms:List Mv) (s:RS),nQ n left out π st s->s.aq[u]? =some (some lu)->(∀m∈ms,m∈out u)->
  lU n left out π st s (ms.foldl (relax left u lu.d<|lu.c+1) s)/\(ms.foldl (relax left u lu.d<|lu.c+1) s).aq[u]? =some (some lu)/\acA left (ms.foldl (relax left u lu.d<|lu.c+1) s) lu ms
 |[],s,I,hl,_=>⟨lU.refl I,hl,λ_ h=>nomatch h⟩
 |m::ms,s,I,hl,hm=>by
  obtain⟨a1,a2,a3⟩:=wC F I hu hl<|hm m mem_cons_self;obtain⟨b1,b2,b3⟩:=M9 (lu:=lu) F hu ms _ a1.ok a2 λm' h'=>hm m'<|mem_cons_of_mem _ h';refine⟨a1.trans b1,b2,λm' h' hp=>?_⟩;rcases mem_cons.mp h' with rfl|h'
  .obtain⟨lv,e,q⟩:=a3 hp;obtain⟨l2,e2,q2⟩:=b1.low _ lv e;exact⟨l2,e2,q2.trans q⟩
  .exact b3 m' h' hp
theorem drop_cons {xs:List α}(h:xs[i]? =some x):xs.drop i=x::xs.drop (i+1):=by obtain⟨hl,e⟩:=List.getElem?_eq_some_iff.mp h;rw[List.drop_eq_getElem_cons hl,e]
theorem Nb {s:RS}(F:cT n left out π)(I:mG n left out π st s)(hd:¬s.done):mG n left out π st (mz left out s)/\L3 (mu π st<|mz left out s) (mu π st s):=by
 have hlt:s.place<s.queue.length:=by unfold RS.done at hd;omega
 have hq:s.queue[s.place]? =some s.room:=by unfold RS.room;rw[getElem?_eq_getElem hlt];rfl
 have hmem:=mem_of_getElem? hq;have hu:=I.ql _ hmem;obtain⟨lu,hl⟩:=I.lq _ hmem;have hat:s.at=lu:=by unfold RS.at;rw[hl];rfl
 have dc:=drop_cons hq;have I0:nQ n left out π st {s with place:=s.place+1,wait:=s.wait.set s.room false}:=by
  refine⟨hlt,I.ll,by show(s.wait.set s.room false).length=n;rw[length_set];exact I.wl,I.ql,I.st0,I.lo,I.fr,λv hv=>?_,I.lq⟩;rcases jR (hv) with⟨_,e,_⟩|⟨hne,e⟩
  .cases e
  .have:=I.wq v e;rw[dc] at this;rcases mem_cons.mp this with z|z
   .exact absurd z hne
   .exact z
 have e0:mz left out s=(out s.room).foldl (relax left s.room lu.d<|lu.c+1) {s with place:=s.place+1,wait:=s.wait.set s.room false}:=by unfold mz;rw[hat]
 obtain⟨b1,b2,b3⟩:=M9 F hu (out s.room) _ I0 hl λm h=>h;rw[<-e0] at b1 b2 b3;refine⟨{b1.ok with rel:=λv l e hv=>?_},?_⟩
 .by_cases hvr:v=s.room
  .subst hvr;rw[b2] at e;cases e;exact b3
  .have e1:(mz left out s).aq[v]? =s.aq[v]?:=by
    rcases b1.same v with z|z
    .exact absurd z hv
    .exact z
   rw[e1] at e;have hvq:v∉s.queue.drop s.place:=λz=>by
    rw[dc] at z;rcases mem_cons.mp z with z|z
    .exact hvr z
    .exact hv<|b1.sub v z
   intro m hm hp;obtain⟨lv,e2,q⟩:=I.rel v l e hvq m hm hp;obtain⟨l2,e3,q2⟩:=b1.low _ lv e2;exact⟨l2,e3,q2.trans q⟩
 .have m0:L3 (mu π st {s with place:=s.place+1,wait:=s.wait.set s.room false}) (mu π st s):=by refine .inr ⟨rfl,.inr ⟨rfl,?_⟩⟩;show 2*tot (λ_ o=>cnt o) 0 s.aq+(s.queue.length - (s.place+1))<2*tot (λ_ o=>cnt o) 0 s.aq+(s.queue.length - s.place);omega
  rcases b1.ms with z|z
  .rw[z];exact m0
  .exact z.trans m0
theorem ends (F:cT n left out π)(I:mG n left out π st s):∃m t,Ends left out m s t/\mG n left out π st t/\t.done:=by
 have key:∀a:Nat×Nat×Nat,∀s:RS,mu π st s=a->mG n left out π st s->∃m t,Ends left out m s t/\mG n left out π st t/\t.done:=λa=>by
  refine L3.wf.induction a (C:=λa=>∀s:RS,mu π st s=a->mG n left out π st s->∃m t,Ends left out m s t/\mG n left out π st t/\t.done) λa ih s e I=>?_;by_cases hd:s.done
  .exact⟨0,s,.stop hd,I,hd⟩
  .obtain⟨I',lt⟩:=Nb F I hd;obtain⟨m,t,h,q⟩:=ih _ (e▸lt) _ rfl I';exact⟨m+1,t,.go hd h,q⟩
 exact key _ s rfl I
noncomputable def jO (n st:Nat):RS:={aq:=(replicate n none).set st<|some ⟨0,0,none⟩,wait:=replicate n false,queue:=[st],place:=0}
theorem yS (hst:st<n):mG n left out π st (jO n st):=by
 have hn:∀v (l:Lb),((replicate n<|none).set st<|some ⟨0,0,none⟩)[v]? =some (some l)->v=st/\l=⟨0,0,none⟩:=λv l e=>by
  rcases jR e with⟨rfl,e2,_⟩|⟨_,e2⟩
  .cases e2;exact⟨rfl,rfl⟩
  .rw[getElem?_replicate] at e2;split at e2<;>simp at e2
 have h0:((replicate n (none:Option Lb)).set st<|some ⟨0,0,none⟩)[st]? =some (some ⟨0,0,none⟩):=getElem?_set_self (by simpa using hst);refine⟨⟨zero_le _,by simp[jO],by simp[jO],λv hv=>?_,h0,λv l e=>?_,λv l e hv=>?_,λv hv=>?_,λv hv=>?_⟩,λv l e hv=>?_⟩
 .have:v=st:=by simpa [jO] using hv
  rw[this];exact hst
 .obtain⟨rfl,rfl⟩:=hn v l e;omega
 .exact absurd (hn v l e).1 hv
 .have hv':(replicate n false)[v]? =some true:=hv;rw[getElem?_replicate] at hv';split at hv'<;>simp at hv'
 .have:v=st:=by simpa [jO] using hv
  rw[this];exact⟨_,h0⟩
 .obtain⟨rfl,rfl⟩:=hn v l e;exact absurd (show v∈[v].drop 0 by simp) hv
structure Tree (n:Nat)(left:Nat->Int)(out:Nat->List Mv)(π:Nat->Int)(st:Nat)(aq:List (Option Lb)):Prop where
 ll:aq.length=n
 st0:aq[st]? =some (some ⟨0,0,none⟩)
 fr:∀(v:Nat) (l:Lb),aq[v]? =some (some l)->v≠st->∃(mv u:Nat) (x:Int) (lu:Lb),l.fr=some (mv,u)/\u<n/\(mv,v,x)∈out u/\0<left mv/\aq[u]? =some (some lu)/\l.d=lu.d+x/\l.c=lu.c+1
 rel:∀(u:Nat) (l:Lb) (m:Mv),aq[u]? =some (some l)->m∈out u->0<left m.1->∃lv:Lb,aq[m.2.1]? =some (some lv)/\lv.d<=l.d+m.2.2
 lo:∀(v:Nat) (l:Lb),aq[v]? =some (some l)->π v - π st<=l.d
theorem adK (I:mG n left out π st s)(hd:s.done):Tree n left out π st s.aq:=by
 have hq:=List.drop_of_length_le hd;have rel:∀u (l:Lb) (m:Mv),s.aq[u]? =some (some l)->m∈out u->0<left m.1->∃lv,s.aq[m.2.1]? =some (some lv)/\jj lv (l.d+m.2.2) (l.c+1):=λu l m e hm hp=>I.rel u l e (by rw[hq];simp) m hm hp;refine⟨I.ll,I.st0,λv l e hv=>?_,λu l m e hm hp=>?_,I.lo⟩
 .obtain⟨mv,u,x,lu,h1,h2,h3,h4,h5,h6⟩:=I.fr v l e hv;obtain⟨lv,e2,q⟩:=rel u lu (mv,v,x) h5 h3 h4;have e3:=e2;rw[e] at e3;cases e3;refine⟨mv,u,x,lu,h1,h2,h3,h4,h5,?_⟩;unfold jj at*
  omega
 .obtain⟨lv,e2,q⟩:=rel u l m e hm hp;refine⟨lv,e2,?_⟩;unfold jj at q;omega
end Sp
namespace Sp
structure aQ where
 a:Nat
 b:Nat
 w:Int
 l:Int
structure aW (n:Nat)(ps:List aQ):Prop where
 ra:∀q∈ps,q.a<n
 rb:∀q∈ps,q.b<n
 ne:∀q∈ps,q.a≠q.b
 w1:∀q∈ps,1<=q.w
 l1:∀q∈ps,1<=q.l
noncomputable def oK:Nat->List aQ->Nat->List Mv
 |_,[],_=>[]
 |k,q::ps,u=>(if q.a=u then [(2*k,q.b,q.l)] else [])++((if q.b=u then [(2*k+1,q.a,-q.l)] else [])++oK (k+1) ps u)
def bx (ps:List aQ)(u:Nat):List Mv:=oK 0 ps u
theorem Bm:∀{ps:List aQ}{k:Nat},m∈oK k ps u↔∃i q,ps[i]? =some q/\((q.a=u/\m=(2*(k+i),q.b,q.l))\/(q.b=u/\m=(2*(k+i)+1,q.a,-q.l)))
 |[],k=>by simp[oK]
 |q::ps,k=>by
  have ih:=@Bm u m ps (k+1);simp only[oK,mem_append];constructor
  .rintro(h|h|h)
   .split at h
    .rename_i e;exact⟨0,q,rfl,.inl ⟨e,by simpa using h⟩⟩
    .cases h
   .split at h
    .rename_i e;exact⟨0,q,rfl,.inr ⟨e,by simpa using h⟩⟩
    .cases h
   .obtain⟨i,q',e,r⟩:=ih.mp h;have e2:k+1+i=k+(i+1):=by omega
    rw[e2] at r;exact⟨i+1,q',by simpa using e,r⟩
  .rintro⟨i,q',e,r⟩;cases i with
   |zero=>
    have e':q=q':=by simpa using e
    subst e';rcases r with⟨h1,h2⟩|⟨h1,h2⟩
    .left;rw[if_pos h1];simpa using h2
    .right;left;rw[if_pos h1];simpa using h2
   |succ i=>
    right;right;have e2:k+(i+1)=k+1+i:=by omega
    rw[e2] at r;exact ih.mpr ⟨i,q',by simpa using e,r⟩
theorem dG:m∈bx ps u↔∃i q,ps[i]? =some q/\((q.a=u/\m=(2*i,q.b,q.l))\/(q.b=u/\m=(2*i+1,q.a,-q.l))):=by unfold bx;rw[Bm];simp only[zero_add]
abbrev Lf:=Nat->Int
structure Laid (ps:List aQ)(left:Lf):Prop where
 nn:∀i,0<=left i
 sum:∀i q,ps[i]? =some q->left (2*i)+left (2*i+1)=q.w
noncomputable def dw (f:Nat->aQ->Int):Nat->List aQ->Int
 |_,[]=>0
 |k,q::ps=>f k q+dw f (k+1) ps
theorem rN (f g:Nat->aQ->Int):∀(ps:List aQ) (k:Nat),dw (λi q=>f i q+g i q) k ps=dw f k ps+dw g k ps
 |[],_=>rfl
 |q::ps,k=>by simp only[dw,rN f g ps<|k+1];omega
theorem gZ:∀(ps:List aQ) (k:Nat),(∀i q,ps[i]? =some q->f (k+i) q=g (k+i) q)->dw f k ps=dw g k ps
 |[],_,_=>rfl
 |q::ps,k,h=>by
  simp only[dw];have h2:=gZ (f:=f) (g:=g) ps (k+1) λi q' e=>by have:=h (i+1) q' (by simpa using e);rwa [show k+(i+1)=k+1+i by omega] at this
  have:=h 0 q rfl;simp only[add_zero] at this;omega
theorem Gv:∀(ps:List aQ) (k:Nat),(∀i q,ps[i]? =some q->f (k+i) q<=g (k+i) q)->dw f k ps<=dw g k ps
 |[],_,_=>Int.le_refl _
 |q::ps,k,h=>by
  simp only[dw];have h2:=Gv ps (k+1) λi q' e=>by have:=h (i+1) q' (by simpa using e);rwa [show k+(i+1)=k+1+i by omega] at this
  have:=h 0 q rfl;simp only[add_zero] at this;omega
theorem mX:∀(ps:List aQ) (k:Nat),dw (λ_ _=>0) k ps=0
 |[],_=>rfl
 |q::ps,k=>by have:=mX ps<|k+1;simp only[dw];omega
theorem wD:∀(ps:List aQ) (k j:Nat) (q:aQ),ps[j]? =some q->(∀i q',ps[i]? =some q'->i≠j->f (k+i) q'=0)->dw f k ps=f (k+j) q
 |[],_,j,q,h,_=>by simp at h
 |p::ps,k,0,q,h,hz=>by
  have e:p=q:=by simpa using h
  subst e;simp only[dw,add_zero]
  have:dw f (k+1) ps=0:=by rw[gZ (g:=λ_ _=>0) ps (k+1) λi q' e=>by have:=hz (i+1) q' (by simpa using e) (by omega);rwa [show k+(i+1)=k+1+i by omega] at this];exact mX ps<|k+1
  omega
 |p::ps,k,j+1,q,h,hz=>by
  simp only[dw];have h0:=hz 0 p rfl (by omega);simp only[add_zero] at h0;have:=wD ps (k+1) j q (by simpa using h) λi q' e hi=>by have:=hz (i+1) q' (by simpa using e) (by omega);rwa [show k+(i+1)=k+1+i by omega] at this
  rw[this,h0,show k+(j+1)=k+1+j by omega];omega
noncomputable def b2 (p:Prop)[Decidable p]:Int:=if p then 1 else 0
def net (ps:List aQ)(left:Lf)(v:Nat):Int:=dw (λi q=>left (2*i+1)*(b2 (q.b=v) - b2 (q.a=v))) 0 ps
def cost (ps:List aQ)(left:Lf):Int:=dw (λi q=>left (2*i+1)*q.l) 0 ps
noncomputable def dz (m:Nat):Nat:=if m % 2=0 then m+1 else m - 1
def move (p:Int)(left:Lf)(m:Nat):Lf:=λi=>if i=m then left i - p else if i=dz m then left i+p else left i
def iZ (ps:List aQ)(m u v:Nat)(x:Int):Prop:=(m,v,x)∈bx ps u
theorem iZ.cases (h:iZ ps m u v x):∃i q,ps[i]? =some q/\((q.a=u/\q.b=v/\m=2*i/\x=q.l)\/(q.b=u/\q.a=v/\m=2*i+1/\x= -q.l)):=by
 obtain⟨i,q,e,h⟩:=dG.mp h;refine⟨i,q,e,?_⟩;rcases h with⟨h1,h2⟩|⟨h1,h2⟩
 .injection h2 with a b;injection b with b c;exact .inl ⟨h1,b.symm,a,c⟩
 .injection h2 with a b;injection b with b c;exact .inr ⟨h1,b.symm,a,c⟩
theorem jz (i:Nat):dz (2*i)=2*i+1:=by unfold dz;rw[if_pos<|by omega]
theorem o7 (i:Nat):dz (2*i+1)=2*i:=by unfold dz;rw[if_neg<|by omega];omega
theorem aah (h:iZ ps m u v x):net ps (move p left m) z=net ps left z+p*(b2 (v=z) - b2 (u=z)):=by
 obtain⟨i,q,e,h⟩:=h.cases;have key:net ps (move p left m) z - net ps left z=dw (λj q=>(move p left m (2*j+1) - left (2*j+1))*(b2 (q.b=z) - b2 (q.a=z))) 0 ps:=by unfold net;have:=rN (λj q=>(move p left m (2*j+1) - left (2*j+1))*(b2 (q.b=z) - b2 (q.a=z))) (λj q=>left (2*j+1)*(b2 (q.b=z) - b2 (q.a=z))) ps 0;rw[gZ (g:=λj q=>(move p left m (2*j+1) - left (2*j+1))*(b2 (q.b=z) - b2 (q.a=z))+left (2*j+1)*(b2 (q.b=z) - b2 (q.a=z))) ps 0 λj q _=>by rw[<-add_mul];congr 1;omega];rw[this];omega
 have one:=wD (f:=λj q=>(move p left m (2*j+1) - left (2*j+1))*(b2 (q.b=z) - b2 (q.a=z))) ps 0 i q e λj q' _ hj=>by
  have:move p left m (2*(0+j)+1)=left (2*(0+j)+1):=by
   unfold move;rcases h with⟨_,_,rfl,_⟩|⟨_,_,rfl,_⟩
   .rw[if_neg<|by omega,jz,if_neg<|by omega]
   .rw[if_neg<|by omega,o7,if_neg<|by omega]
  rw[this,Int.sub_self,zero_mul]
 rw[one] at key;simp only[zero_add] at key;rcases h with⟨h1,h2,rfl,_⟩|⟨h1,h2,rfl,_⟩
 .have e1:move p left (2*i) (2*i+1)=left (2*i+1)+p:=by unfold move;rw[if_neg<|by omega,jz,if_pos rfl]
  rw[e1,h1,h2] at key;rw[show left (2*i+1)+p - left (2*i+1)=p by omega] at key;omega
 .have e1:move p left (2*i+1) (2*i+1)=left (2*i+1) - p:=by unfold move;rw[if_pos rfl]
  rw[e1,h1,h2] at key;rw[show left (2*i+1) - p - left (2*i+1)= -p by omega] at key
  have: -p*(b2 (u=z) - b2 (v=z))=p*(b2 (v=z) - b2 (u=z)):=by rw[Int.neg_mul,←Int.mul_neg];congr 1;omega
  omega
theorem Xv (h:iZ ps m u v x):cost ps (move p left m)=cost ps left+p*x:=by
 obtain⟨i,q,e,h⟩:=h.cases;have key:cost ps (move p left m) - cost ps left=dw (λj q=>(move p left m (2*j+1) - left (2*j+1))*q.l) 0 ps:=by unfold cost;have:=rN (λj q=>(move p left m (2*j+1) - left (2*j+1))*q.l) (λj q=>left (2*j+1)*q.l) ps 0;rw[gZ (g:=λj q=>(move p left m (2*j+1) - left (2*j+1))*q.l+left (2*j+1)*q.l) ps 0 λj q _=>by rw[<-add_mul];congr 1;omega];rw[this];omega
 have one:=wD (f:=λj q=>(move p left m (2*j+1) - left (2*j+1))*q.l) ps 0 i q e λj q' _ hj=>by
  have:move p left m (2*(0+j)+1)=left (2*(0+j)+1):=by
   unfold move;rcases h with⟨_,_,rfl,_⟩|⟨_,_,rfl,_⟩
   .rw[if_neg<|by omega,jz,if_neg<|by omega]
   .rw[if_neg<|by omega,o7,if_neg<|by omega]
  rw[this,Int.sub_self,zero_mul]
 rw[one] at key;simp only[zero_add] at key;rcases h with⟨h1,h2,rfl,h4⟩|⟨h1,h2,rfl,h4⟩
 .have e1:move p left (2*i) (2*i+1)=left (2*i+1)+p:=by unfold move;rw[if_neg<|by omega,jz,if_pos rfl]
  rw[e1,show left (2*i+1)+p - left (2*i+1)=p by omega] at key;rw[h4];omega
 .have e1:move p left (2*i+1) (2*i+1)=left (2*i+1) - p:=by unfold move;rw[if_pos rfl]
  rw[e1,show left (2*i+1) - p - left (2*i+1)= -p by omega] at key;rw[h4,Int.mul_neg,←Int.neg_mul];omega
theorem aai (h:iZ ps m u v x)(hs:∀i q,ps[i]? =some q->left (2*i)+left (2*i+1)=q.w):∀i q,ps[i]? =some q->move p left m (2*i)+move p left m (2*i+1)=q.w:=by
 intro i q e;have:=hs i q e;obtain⟨j,_,_,hj⟩:=h.cases;have hm:m=2*j\/m=2*j+1:=by rcases hj with⟨_,_,h,_⟩|⟨_,_,h,_⟩;exact .inl h;exact .inr h
 unfold move;rcases hm with rfl|rfl
 .rw[jz];by_cases hij:i=j
  .subst hij;rw[if_pos rfl,if_neg<|by omega,if_pos rfl];omega
  .rw[if_neg<|by omega,if_neg<|by omega,if_neg<|by omega,if_neg<|by omega];exact this
 .rw[o7];by_cases hij:i=j
  .subst hij;rw[if_neg<|by omega,if_pos rfl,if_pos rfl];omega
  .rw[if_neg<|by omega,if_neg<|by omega,if_neg<|by omega,if_neg<|by omega];exact this
noncomputable def cW (aq:List (Option Lb)):Nat->Nat->List Nat
 |0,_=>[]
 |c+1,v=>match aq[v]? with
  |some (some l)=>(match l.fr with
   |some (mv,u)=>mv::cW aq c u
   |none=>[])
  |_=>[]
variable {aq:List (Option Lb)}
theorem iZ.uniq (h:iZ ps m u v x)(g:iZ ps m u' v' x'):u=u'/\v=v'/\x=x':=by
 obtain⟨i,q,e,h⟩:=h.cases;obtain⟨j,q',e',g⟩:=g.cases;have hij:i=j:=by rcases h with⟨_,_,h,_⟩|⟨_,_,h,_⟩<;>rcases g with⟨_,_,g,_⟩|⟨_,_,g,_⟩<;>omega
 subst hij;rw[e] at e';cases e';rcases h with⟨h1,h2,h3,h4⟩|⟨h1,h2,h3,h4⟩<;>rcases g with⟨g1,g2,g3,g4⟩|⟨g1,g2,g3,g4⟩
 .exact⟨h1.symm.trans g1,h2.symm.trans g2,h4.trans g4.symm⟩
 .omega
 .omega
 .exact⟨h1.symm.trans g1,h2.symm.trans g2,h4.trans g4.symm⟩
theorem iZ.back (h:iZ ps m u v x):iZ ps (dz m) v u (-x):=by
 obtain⟨i,q,e,h⟩:=h.cases;refine dG.mpr ⟨i,q,e,?_⟩;rcases h with⟨h1,h2,rfl,rfl⟩|⟨h1,h2,rfl,rfl⟩
 .rw[jz];exact .inr ⟨h2,by rw[h1]⟩
 .rw[o7];exact .inl ⟨h2,by rw[h1,Int.neg_neg]⟩
theorem Cw (T:Tree n left (bx ps) π st aq)(h:aq[v]? =some (some l))(hv:v≠st):
  ∃(mv u:Nat) (x:Int) (lu:Lb),l.fr=some (mv,u)/\u<n/\iZ ps mv u v x/\0<left mv/\aq[u]? =some (some lu)/\l.d=lu.d+x/\l.c=lu.c+1/\cW aq l.c v=mv::cW aq lu.c u:=by
 obtain⟨mv,u,x,lu,h1,h2,h3,h4,h5,h6,h7⟩:=T.fr v l h hv;refine⟨mv,u,x,lu,h1,h2,h3,h4,h5,h6,h7,?_⟩;rw[h7];simp only[cW,h,h1]
theorem oM (T:Tree n left (bx ps) π st aq){P:Nat->Lb->List Nat->Prop}(h0:P st ⟨0,0,none⟩ [])
  (hs:∀(v:Nat) (l:Lb) (mv u:Nat) (x:Int) (lu:Lb) (ms:List Nat),aq[v]? =some (some l)->v≠st->l.fr=some (mv,u)->iZ ps mv u v x->0<left mv->aq[u]? =some (some lu)->l.d=lu.d+x->l.c=lu.c+1->ms=cW aq lu.c u->P u lu ms->P v l (mv::ms)):
  ∀(v:Nat) (l:Lb),aq[v]? =some (some l)->P v l (cW aq l.c v):=by
 have key:∀c v (l:Lb),l.c=c->aq[v]? =some (some l)->P v l (cW aq l.c v):=λc=>by
  induction c with
  |zero=>
   intro v l hc h;by_cases hv:v=st
   .subst hv;rw[T.st0] at h;cases h;exact h0
   .obtain⟨mv,u,x,lu,_,_,_,_,_,_,h7,_⟩:=Cw T h hv;omega
  |succ c ih=>
   intro v l hc h;by_cases hv:v=st
   .subst hv;rw[T.st0] at h;cases h;exact h0
   .obtain⟨mv,u,x,lu,h1,h2,h3,h4,h5,h6,h7,h8⟩:=Cw T h hv;rw[h8];exact hs v l mv u x lu _ h hv h1 h3 h4 h5 h6 h7 rfl<|ih u lu (by omega) h5
 exact λv l h=>key l.c v l rfl h
def dZ (p:Int)(left:Lf)(ms:List Nat):Lf:=ms.foldl (move p) left
theorem adL (T:Tree n left (bx ps) π st aq)(h:aq[v]? =some (some l)):∀L:Lf,net ps (dZ p L<|cW aq l.c v) z=net ps L z+p*(b2 (v=z) - b2 (st=z)):=by
 refine oM T (P:=λv _ ms=>∀L:Lf,net ps (dZ p L ms) z=net ps L z+p*(b2 (v=z) - b2 (st=z))) (λL=>?_) (λv l mv u x lu ms _ _ _ hL _ _ _ _ _ ih L=>?_) v l h
 .show net ps L z=_;rw[Int.sub_self,mul_zero,Int.add_zero]
 .show net ps (dZ p (move p L mv) ms) z=_;rw[ih,aah hL,add_assoc,←mul_add];congr 2;omega
theorem aaj (T:Tree n left (bx ps) π st aq)(h:aq[v]? =some (some l)):∀L:Lf,cost ps (dZ p L<|cW aq l.c v)=cost ps L+p*l.d:=by
 refine oM T (P:=λ_ l ms=>∀L:Lf,cost ps (dZ p L ms)=cost ps L+p*l.d) (λL=>?_) (λv l mv u x lu ms _ _ _ hL _ _ hd _ _ ih L=>?_) v l h
 .show cost ps L=_;rw[mul_zero,Int.add_zero]
 .show cost ps (dZ p (move p L mv) ms)=_;rw[ih,Xv hL,add_assoc,←mul_add,hd];congr 2;omega
theorem adM (T:Tree n left (bx ps) π st aq)(h:aq[v]? =some (some l)):∀L:Lf,(∀i q,ps[i]? =some q->L (2*i)+L (2*i+1)=q.w)->∀i q,ps[i]? =some q->dZ p L (cW aq l.c v) (2*i)+dZ p L (cW aq l.c v) (2*i+1)=q.w:=by refine oM T (P:=λ_ _ ms=>∀L:Lf,(∀i q,ps[i]? =some q->L (2*i)+L (2*i+1)=q.w)->∀i q,ps[i]? =some q->dZ p L ms (2*i)+dZ p L ms (2*i+1)=q.w) (λL hs=>hs) (λv l mv u x lu ms _ _ _ hL _ _ _ _ _ ih L hs=>?_) v l h;exact ih _<|aai hL hs
theorem Ai (T:Tree n left (bx ps) π st aq)(h:aq[v]? =some (some l)):∀m∈cW aq l.c v,∃(u w:Nat) (x:Int) (lu lw:Lb),iZ ps m u w x/\0<left m/\aq[u]? =some (some lu)/\aq[w]? =some (some lw)/\lw.d=lu.d+x/\1<=lw.c/\lw.c<=l.c:=by
 refine oM T (P:=λ_ l ms=>∀m∈ms,∃(u w:Nat) (x:Int) (lu lw:Lb),iZ ps m u w x/\0<left m/\aq[u]? =some (some lu)/\aq[w]? =some (some lw)/\lw.d=lu.d+x/\1<=lw.c/\lw.c<=l.c) (λ_ hm=>nomatch hm) (λv l mv u x lu ms hv _ _ hL hp hu hd hc _ ih m hm=>?_) v l h;rcases mem_cons.mp hm with rfl|hm
 .exact⟨u,v,x,lu,l,hL,hp,hu,hv,hd,by omega,le_refl _⟩
 .obtain⟨u',w,x',lu',lw,a,b,c,d,e,f,g⟩:=ih m hm;exact⟨u',w,x',lu',lw,a,b,c,d,e,f,by omega⟩
theorem yU (T:Tree n left (bx ps) π st aq)(h:aq[v]? =some (some l)):(cW aq l.c v).Nodup:=by refine oM T (P:=λ_ _ ms=>ms.Nodup) nodup_nil (λv l mv u x lu ms hv _ _ hL _ hu _ hc e ih=>?_) v l h;refine nodup_cons.mpr ⟨λhm=>?_,ih⟩;subst e;obtain⟨u',w,x',lu',lw,a,_,_,d,_,_,g⟩:=Ai T hu mv hm;obtain⟨_,rfl,_⟩:=hL.uniq a;rw[hv] at d;cases d;omega
theorem Rm (hp:0<=p):∀(ms:List Nat) (L:Lf) (i:Nat),ms.Nodup->L i - (if i∈ms then p else 0)<=dZ p L ms i
 |[],L,i,_=>by show L i - (if i∈([]:List Nat) then p else 0)<=L i;rw[if_neg<|by simp];omega
 |m::ms,L,i,nd=>by
  have ih:=Rm hp ms (move p L m) i (nodup_cons.mp nd).2;have hm:=(nodup_cons.mp nd).1;show _<=dZ p (move p L m) ms i;refine Int.le_trans ?_ ih;unfold move;by_cases e:i=m
  .subst e;rw[if_pos rfl,if_pos mem_cons_self,if_neg hm];omega
  .rw[if_neg e];have e2:(i∈m::ms)↔i∈ms:=by simp[e]
   simp only[e2];split<;>split<;>omega
theorem Nf (hp:0<=p):∀(ms:List Nat) (L:Lf) (i:Nat),0<dZ p L ms i->0<L i\/∃m∈ms,i=dz m
 |[],L,i,h=>.inl h
 |m::ms,L,i,h=>by
  rcases Nf hp ms (move p L m) i h with h|⟨m',hm,e⟩
  .unfold move at h;by_cases e:i=m
   .rw[if_pos e] at h;left;omega
   .rw[if_neg e] at h;by_cases e2:i=dz m
    .exact .inr ⟨m,mem_cons_self,e2⟩
    .rw[if_neg e2] at h;exact .inl h
  .exact .inr ⟨m',mem_cons_of_mem _ hm,e⟩
theorem above (f:Nat->Option Int):∀(n:Nat) (K:Int),∃C:Int,K<=C/\∀v y,v<n->f v=some y->y<=C
 |0,K=>⟨K,Int.le_refl _,λ_ _ h=>absurd h<|Nat.not_lt_zero _⟩
 |n+1,K=>by
  obtain⟨C,h1,h2⟩:=above f n K;cases e:f n with
  |none=>exact⟨C,h1,λv y hv hy=>by
   by_cases z:v=n
   .rw[z,e] at hy;cases hy
   .exact h2 v y (by omega) hy⟩
  |some z=>exact⟨max C z,by omega,λv y hv hy=>by
   by_cases q:v=n
   .rw[q,e] at hy;cases hy;omega
   .have:=h2 v y (by omega) hy;omega⟩
theorem pays (Hh:aW n ps)(F:cT n left (bx ps) π)(T:Tree n left (bx ps) π st aq)(hL:∀m,0<L m->0<left m\/∃(m0 u w:Nat) (x:Int) (lu lw:Lb),m=dz m0/\iZ ps m0 u w x/\aq[u]? =some (some lu)/\aq[w]? =some (some lw)/\lw.d=lu.d+x)(K:Int):
  ∃jc:Nat->Int,cT n L (bx ps) jc/\jc st=0/\(∀v l,aq[v]? =some (some l)->jc v=l.d)/\∀v,v<n->aq[v]? =some none->K<=jc v:=by
 obtain⟨C1,hK,hC⟩:=above (λv=>match aq[v]? with|some (some l)=>some (l.d - π v)|_=>none) n 0;obtain⟨C,hC1,hC2⟩:=above (λv=>some<|K - π v) n C1;refine⟨λv=>match aq[v]? with|some (some l)=>l.d|_=>π v+C,⟨F.room,F.ne,λu m hu hm hp=>?_⟩,by simp only[T.st0],λv l h=>by simp only[h],λv hv h=>?_⟩
 .obtain⟨mv,v,x⟩:=m;have hv:=F.room u _ hm;have lu:∃o,aq[u]? =some o:=⟨_,getElem?_eq_getElem (by rw[T.ll];exact hu)⟩;have lv:∃o,aq[v]? =some o:=⟨_,getElem?_eq_getElem (by rw[T.ll];exact hv)⟩;obtain⟨ou,eu⟩:=lu;obtain⟨ov,ev⟩:=lv;rcases hL mv hp with hp|⟨m0,u0,w0,x0,l0,l1,e,h1,h2,h3,h4⟩
  .have pay:=F.pay u (mv,v,x) hu hm hp;cases ou with
   |some l=>
    obtain⟨lv,e2,q⟩:=T.rel u l (mv,v,x) eu hm hp;simp only[eu];have e2':=e2;simp only[e2'];exact q
   |none=>
    simp only[eu];cases ov with
    |none=>simp only[ev];omega
    |some l=>simp only[ev];have:=hC v (l.d - π v) hv (by simp only[ev]);omega
  .have b:=h1.back;rw[<-e] at b;obtain⟨rfl,rfl,rfl⟩:=b.uniq<|hm;simp only[h2,h3];omega
 .simp only[h];have:=hC2 v (K - π v) hv rfl;omega
end Sp
namespace Sp
variable {aq:List (Option Lb)}
theorem Ends.uniq:∀{m:Nat}{s t:RS} {m':Nat} {t':RS},Ends left out m s t->Ends left out m' s t'->t=t'/\m=m'
 |_,_,_,_,_,.stop _,.stop _=>⟨rfl,rfl⟩
 |_,_,_,_,_,.stop h,.go h' _=>absurd h h'
 |_,_,_,_,_,.go h _,.stop h'=>absurd h' h
 |_,_,_,_,_,.go _ a,.go _ b=>by obtain⟨h1,h2⟩:=Ends.uniq a b;exact⟨h1,by rw[h2]⟩
def Found (n:Nat)(ps:List aQ)(st:Nat)(left:Lf)(aq:List (Option Lb)):Prop:=∃m t,Ends left (bx ps) m (jO n st) t/\t.aq=aq
theorem Found.uniq (h:Found n ps st left aq)(g:Found n ps st left Cy):aq=Cy:=by obtain⟨_,_,a,rfl⟩:=h;obtain⟨_,_,b,rfl⟩:=g;rw[(a.uniq b).1]
theorem aW.room (Hh:aW n ps):∀u m,m∈bx ps u->m.2.1<n:=λu m hm=>by
 obtain⟨i,q,e,h⟩:=dG.mp hm;have:=mem_of_getElem? e;rcases h with⟨_,rfl⟩|⟨_,rfl⟩
 .exact Hh.rb q this
 .exact Hh.ra q this
theorem aW.Rn (Hh:aW n ps):∀u m,m∈bx ps u->m.2.1≠u:=λu m hm=>by
 obtain⟨i,q,e,h⟩:=dG.mp hm;have:=Hh.ne q<|mem_of_getElem? e;rcases h with⟨h1,rfl⟩|⟨h1,rfl⟩
 .rw[<-h1];exact λz=>this z.symm
 .rw[<-h1];exact this
theorem jd (F:cT n left (bx ps) π)(hst:st<n)(h:Found n ps st left aq):Tree n left (bx ps) π st aq:=by obtain⟨m,t,h,rfl⟩:=h;obtain⟨m',t',h',I,hd⟩:=ends F<|yS hst;obtain⟨rfl,rfl⟩:=h.uniq h';exact adK I hd
theorem finds (F:cT n left (bx ps) π)(hst:st<n):∃aq,Found n ps st left aq:=by obtain⟨m',t',h',I,hd⟩:=ends F<|yS hst;exact⟨_,m',t',h',rfl⟩
structure Pushed (n:Nat)(ps:List aQ)(st g:Nat)(left:Lf)(len p:Int)(left':Lf):Prop where
 ex:∃aq l,Found n ps st left aq/\aq[g]? =some (some l)/\len=l.d/\(∃m∈cW aq l.c g,p=left m)/\(∀m∈cW aq l.c g,p<=left m)/\left'=dZ p left (cW aq l.c g)
structure St (n:Nat)(ps:List aQ)(st:Nat)(left:Lf)(π:Nat->Int):Prop where
 laid:Laid ps left
 fit:cT n left (bx ps) π
 z:π st=0
theorem adN (T:Tree n left (bx ps) π st aq)(hl:aq[g]? =some (some l))(hp:∃m∈cW aq l.c g,p=left m):0<p:=by obtain⟨m,hm,rfl⟩:=hp;obtain⟨_,_,_,_,_,_,h,_⟩:=Ai T hl m hm;exact h
theorem kj (Hh:aW n ps)(S:St n ps st left π)(hst:st<n)(P:Pushed n ps st g left len p left'):
  0<p/\π g<=len/\(∃jc,St n ps st left' jc/\jc g=len)/\(∀z,net ps left' z=net ps left z+p*(b2 (g=z) - b2 (st=z)))/\cost ps left'=cost ps left+p*len:=by
 obtain⟨aq,l,hF,hl,rfl,hp,hmin,rfl⟩:=P.ex;have T:=jd S.fit hst hF;have hpos:=adN T hl hp;have lo:=T.lo g l hl;rw[S.z] at lo;obtain⟨jc,f1,f2,f3,_⟩:=pays Hh S.fit T (λm hm=>by
  rcases Nf (Int.le_of_lt hpos) _ left m hm with h|⟨m0,hm0,e⟩
  .exact .inl h
  .obtain⟨u,w,x,lu,lw,a,_,c,d,e2,_,_⟩:=Ai T hl m0 hm0;exact .inr ⟨m0,u,w,x,lu,lw,e,a,c,d,e2⟩) 0
 refine⟨hpos,by omega,⟨jc,⟨⟨λi=>?_,adM T hl left S.laid.sum⟩,f1,f2⟩,f3 g l hl⟩,λz=>adL T hl left,aaj T hl left⟩;have h:=Rm (Int.le_of_lt hpos) (cW aq l.c g) left i<|yU T hl;have h2:=S.laid.nn i;by_cases hi:i∈cW aq l.c g
 .rw[if_pos hi] at h;have:=hmin i hi;omega
 .rw[if_neg hi] at h;omega
inductive Runs (n:Nat)(ps:List aQ)(st g:Nat)(lim:Option Int):Lf->List (Int×Int)->Lf->Prop
 |none {left:Lf} {aq:List (Option Lb)}:Found n ps st left aq->aq[g]? =some none->Runs n ps st g lim left [] left
 |far {left:Lf} {aq:List (Option Lb)} {l:Lb} {T:Int}:Found n ps st left aq->aq[g]? =some (some l)->lim=some T->T<l.d->Runs n ps st g lim left [] left
 |go {left left' bR:Lf} {len p:Int} {r:List (Int×Int)}:Pushed n ps st g left len p left'->(∀T,lim=some T->len<=T)->Runs n ps st g lim left' r bR->Runs n ps st g lim left ((len,p)::r) bR
noncomputable def many (r:List (Int×Int)):Int:=(r.map (·.2)).sum
noncomputable def spent (r:List (Int×Int)):Int:=(r.map λx=>x.2*x.1).sum
theorem Ro (Hh:aW n ps)(hst:st<n)(R:Runs n ps st g lim left r bR)(S:St n ps st left π):
  (∃jc,St n ps st bR jc)/\(∀z,net ps bR z=net ps left z+many r*(b2 (g=z) - b2 (st=z)))/\cost ps bR=cost ps left+spent r/\(∀x∈r,0<x.2/\π g<=x.1/\∀T,lim=some T->x.1<=T)/\r.Pairwise (λx y=>x.1<=y.1):=by
 induction R generalizing π with
 |none _ _=>exact⟨⟨π,S⟩,λz=>by simp[many],by simp[spent],λ_ h=>(nomatch h),.nil⟩
 |far _ _ _ _=>exact⟨⟨π,S⟩,λz=>by simp[many],by simp[spent],λ_ h=>(nomatch h),.nil⟩
 | @go left left' bR len p r P hl R ih=>
  obtain⟨p0,lo,⟨Bo,S1,e1⟩,n1,c1⟩:=kj Hh S hst P;obtain⟨a,b,c,d,e⟩:=ih S1;refine⟨a,λz=>?_,?_,λx hx=>?_,List.Pairwise.cons (λx hx=>?_) e⟩
  .rw[b z,n1 z,add_assoc,←add_mul];simp[many]
  .rw[c,c1,add_assoc];simp[spent]
  .rcases mem_cons.mp hx with rfl|hx
   .exact⟨p0,lo,hl⟩
   .obtain⟨q1,q2,q3⟩:=d x hx;rw[e1] at q2;exact⟨q1,by omega,q3⟩
  .have:=(d x hx).2.1;rw[e1] at this;exact this
theorem cT.min (hp:cT n L out p)(hq:cT n L out q):cT n L out λv=>min (p v) (q v):=
 ⟨hp.room,hp.ne,λu m hu hm h=>by have:=hp.pay u m hu hm h;have:=hq.pay u m hu hm h;omega⟩
theorem cT.shift (k:Int)(hp:cT n L out p):cT n L out λv=>p v+k:=
 ⟨hp.room,hp.ne,λu m hu hm h=>by have:=hp.pay u m hu hm h;omega⟩
theorem Uu (Hh:aW n ps)(hst:st<n)(hg:g<n)(R:Runs n ps st g (some T) left r bR)(S:St n ps st left π):
  ∃jc,cT n bR (bx ps) jc/\jc st=0/\T+1<=jc g/\((r≠[]\/π g<=T)->jc g=T+1):=by
 induction R generalizing π with
 | @none left aq hF hn=>
  have Tr:=jd S.fit hst hF;obtain⟨jc,f1,f2,f3,f4⟩:=pays Hh S.fit Tr (λm hm=>.inl hm)<|T+1;have hK:=f4 g hg hn;by_cases hpi:π g<=T
  .refine⟨λv=>min (jc v)<|π v+(T+1 - π g),f1.min<|S.fit.shift _,?_,?_,λ_=>?_⟩
   .simp only[f2,S.z];omega
   .simp only;omega
   .simp only;omega
  .refine⟨jc,f1,f2,hK,λh=>?_⟩;rcases h with h|h
   .exact absurd rfl h
   .exact absurd h hpi
 | @far left aq l T2 hF hl hT hlt=>
  cases hT;have Tr:=jd S.fit hst hF;obtain⟨jc,f1,f2,f3,f4⟩:=pays Hh S.fit Tr (λm hm=>.inl hm) 0;have hK:=f3 g l hl;by_cases hpi:π g<=T
  .refine⟨λv=>min (jc v)<|π v+(T+1 - π g),f1.min<|S.fit.shift _,?_,?_,λ_=>?_⟩
   .simp only[f2,S.z];omega
   .simp only;omega
   .simp only;omega
  .refine⟨jc,f1,f2,by omega,λh=>?_⟩;rcases h with h|h
   .exact absurd rfl h
   .exact absurd h hpi
 |go P hl R ih=>
  obtain⟨p0,lo,⟨Bo,S1,e1⟩,n1,c1⟩:=kj Hh S hst P;obtain⟨jc,a,b,c,d⟩:=ih S1
  have:Bo g<=T:=by rw[e1];exact hl T rfl
  exact⟨jc,a,b,c,λ_=>d<|.inr this⟩
noncomputable def dO (ps:List aQ):Lf:=λi=>if i % 2=0 then(match ps[i/2]? with|some q=>q.w|none=>0) else 0
theorem Uv (ps:List aQ)(i:Nat)(h:ps[i]? =some q):dO ps (2*i)=q.w:=by unfold dO;rw[if_pos<|by omega,show 2*i/2=i by omega,h]
theorem pW (ps:List aQ)(i:Nat):dO ps (2*i+1)=0:=by unfold dO;rw[if_neg<|by omega]
theorem uM (Hh:aW n ps):St n ps st (dO ps) (λv=>if v=st then 0 else 1):=by
 refine⟨⟨λi=>?_,λi q e=>by rw[Uv ps i e,pW];omega⟩,⟨Hh.room,Hh.Rn,λu m hu hm hp=>?_⟩,by simp⟩
 .unfold dO;split
  .split
   .rename_i q e;have:=Hh.w1 q<|mem_of_getElem? e;omega
   .exact Int.le_refl _
  .exact Int.le_refl _
 .obtain⟨i,q,e,h⟩:=dG.mp hm;have hq:=mem_of_getElem? e;have h1:=Hh.l1 q hq;rcases h with⟨_,rfl⟩|⟨_,rfl⟩
  .simp only;split<;>split<;>omega
  .exfalso;have:=pW ps i;simp only at hp;omega
def wide (ps:List aQ):Int:=dw (λ_ q=>q.w) 0 ps
theorem adO (L:Laid ps left)(z:Nat): - wide ps<=net ps left z/\net ps left z<=wide ps:=by
 have hb:∀p [Decidable p],b2 p=0\/b2 p=1:=λp _=>by unfold b2;split;exact .inr rfl;exact .inl rfl
 have key:∀i q,ps[i]? =some q→-q.w<=left (2*i+1)*(b2 (q.b=z) - b2 (q.a=z))/\left (2*i+1)*(b2 (q.b=z) - b2 (q.a=z))<=q.w:=λi q e=>by have h1:=L.sum i q e;have h2:=L.nn<|2*i;have h3:=L.nn<|2*i+1;rcases hb (q.b=z) with e1|e1<;>rcases hb (q.a=z) with e2|e2<;>rw[e1,e2]<;>omega
 constructor
 .have h:=Gv ps 0 λi q e=>by simpa using(key i q e).1
  have e:dw (λ_ q=>-q.w) 0 ps= - wide ps:=by have:=rN (λ_ q=>-q.w) (λ_ q=>q.w) ps 0;rw[gZ (g:=λ_ _=>0) ps 0 λi q _=>by omega,mX] at this;unfold wide;omega
  unfold net;omega
 .exact Gv ps 0 λi q e=>by simpa using(key i q e).2
def rest (ps:List aQ)(g:Nat)(left:Lf):Nat:=(wide ps - net ps left g).toNat
theorem Xw (Hh:aW n ps)(S:St n ps st left π)(hst:st<n)(hne:st≠g)(P:Pushed n ps st g left len p left'):rest ps g left'<rest ps g left:=by
 obtain⟨p0,_,⟨Bo,S1,_⟩,n1,_⟩:=kj Hh S hst P;have h1:=n1 g;have h2:=(adO S1.laid g).2;have e1:b2 (g=g)=1:=by simp[b2]
 have e2:b2 (st=g)=0:=by simp[b2,hne]
 rw[e1,e2] at h1;unfold rest;omega
end Sp
namespace Sp
noncomputable def d8 (s:List (Int×Int))(x:Int×Int):List (Int×Int):=match s.getLast? with
 |some y=>if y.1=x.1 then s.dropLast++[(x.1,y.2+x.2)] else s++[x]
 |none=>s++[x]
def grouped (r:List (Int×Int)):List (Int×Int):=r.foldl d8 []
noncomputable def wsum (φ:Int->Int)(r:List (Int×Int)):Int:=(r.map λx=>x.2*φ x.1).sum
theorem wF:∀{s:List α}{y:α},s.getLast? =some y->s=s.dropLast++[y]
 |[],_,h=>by simp at h
 |[a],y,h=>by
  have:a=y:=by simpa using h
  rw[this];rfl
 |a::b::r,y,h=>by have ih:=wF (s:=b::r) (y:=y) (by simpa using h);show a::b::r=a::((b::r).dropLast++[y]);rw[<-ih]
structure Ng (s:List (Int×Int)):Prop where
 up:s.Pairwise λx y=>x.1<y.1
 pos:∀x∈s,1<=x.1/\1<=x.2
theorem Nh (R:Ng s)(hx:1<=x.1/\1<=x.2)(hl:∀y∈s,y.1<=x.1):Ng (d8 s x)/\∀y∈d8 s x,y.1<=x.1:=by
 unfold d8;cases e:s.getLast? with
 |none=>
  have:s=[]:=by simpa using e
  subst this;have one:∀y,y∈([])++[x]->y=x:=λy hy=>by simpa using hy
  refine⟨⟨by simp,λy hy=>?_⟩,λy hy=>?_⟩
  .rw[one y hy];exact hx
  .rw[one y hy];exact Int.le_refl _
 |some y=>
  have e2:=wF e;have hy:y∈s:=by rw[e2];simp
  have up:=R.up;rw[e2,List.pairwise_append] at up;obtain⟨u1,_,u3⟩:=up;simp only;split
  .rename_i h;refine⟨⟨List.pairwise_append.mpr ⟨u1,by simp,λa ha b hb=>?_⟩,λa ha=>?_⟩,λa ha=>?_⟩
   .have:b=(x.1,y.2+x.2):=by simpa using hb
    rw[this,←h];exact u3 a ha y<|by simp
   .rcases mem_append.mp ha with ha|ha
    .exact R.pos a (by rw[e2];exact mem_append_left _ ha)
    .have:a=(x.1,y.2+x.2):=by simpa using ha
     have:=R.pos y hy;subst a;simp only;omega
   .rcases mem_append.mp ha with ha|ha
    .exact hl a (by rw[e2];exact mem_append_left _ ha)
    .have:a=(x.1,y.2+x.2):=by simpa using ha
     rw[this];exact Int.le_refl _
  .rename_i h;refine⟨⟨List.pairwise_append.mpr ⟨R.up,by simp,λa ha b hb=>?_⟩,λa ha=>?_⟩,λa ha=>?_⟩
   .have:b=x:=by simpa using hb
    rw[this];have h1:=hl a ha;have h2:=hl y hy;rw[e2] at ha;rcases mem_append.mp ha with ha|ha
    .have:=u3 a ha y (by simp);omega
    .have:a=y:=by simpa using ha
     rw[this];omega
   .rcases mem_append.mp ha with ha|ha
    .exact R.pos a ha
    .have:a=x:=by simpa using ha
     rw[this];exact hx
   .rcases mem_append.mp ha with ha|ha
    .exact hl a ha
    .have:a=x:=by simpa using ha
     rw[this];exact Int.le_refl _
theorem yV:∀(r s:List (Int×Int)),r.Pairwise (λx y=>x.1<=y.1)->(∀x∈r,1<=x.1/\1<=x.2)->Ng s->(∀x∈r,∀y∈s,y.1<=x.1)->Ng (r.foldl d8 s)
 |[],_,_,_,R,_=>R
 |x::r,s,hp,hx,R,hl=>by obtain⟨h1,h2⟩:=Nh R (hx x mem_cons_self)<|hl x mem_cons_self;obtain⟨p1,p2⟩:=List.pairwise_cons.mp hp;refine yV r _ p2 (λy hy=>hx y<|mem_cons_of_mem _ hy) h1 λy hy z hz=>?_;have:=h2 z hz;have:=p1 y hy;omega
theorem yW [DecidableEq α]:∀{l m:List α},l.Nodup->(∀x∈l,x∈m)->l.length<=m.length
 |[],_,_,_=>zero_le _
 |x::l,m,h,s=>by
  have hx:x∈m:=s x mem_cons_self;have h1:l.length<=(m.erase x).length:=yW (nodup_cons.mp h).2 λy hy=>by have hne:y≠x:=λz=>(nodup_cons.mp h).1<|z▸hy;exact(List.mem_erase_of_ne hne).mpr<|s y<|mem_cons_of_mem _ hy
  rw[List.length_erase_of_mem hx] at h1
  have:0<m.length:=List.length_pos_of_mem hx
  rw[length_cons];omega
theorem jL {l:List Nat}(h:l.Nodup)(hl:∀x∈l,x<n):l.length<=n:=by have:=yW h λx hx=>mem_range.mpr<|hl x hx;rwa [List.length_range] at this
theorem Qi {l:List (Nat×Nat)}(h:l.Nodup)(hl:∀x∈l,x.1<n/\x.2<n):l.length<=n*n:=by
 have h2:(l.map λx=>x.1*n+x.2).Nodup:=by
  rw[List.Nodup,List.pairwise_map];refine List.Pairwise.imp_of_mem (λ{a b} ha hb hne e=>hne ?_) h;obtain⟨a1,a2⟩:=hl a ha;obtain⟨b1,b2⟩:=hl b hb;have q1:a.1=b.1:=by
   rcases Nat.lt_trichotomy a.1 b.1 with z|z|z
   .have:(a.1+1)*n<=b.1*n:=Nat.mul_le_mul_right n z
    rw[Nat.add_mul] at this;omega
   .exact z
   .have:(b.1+1)*n<=a.1*n:=Nat.mul_le_mul_right n z
    rw[Nat.add_mul] at this;omega
  have q2:a.2=b.2:=by rw[q1] at e;omega
  exact Prod.ext q1 q2
 have:=jL (n:=n*n) h2 λx hx=>by
  obtain⟨a,ha,rfl⟩:=mem_map.mp hx;obtain⟨a1,a2⟩:=hl a ha
  have:(a.1+1)*n<=n*n:=Nat.mul_le_mul_right n a1
  rw[Nat.add_mul] at this;omega
 rwa [length_map] at this
variable {st:Nat}
def nR (n:Nat)(π:Nat->Int)(aq:List (Option Lb))(v:Nat)(l:Lb):Prop:=
 ∃Iv:List Nat,Iv.Nodup/\Iv.length=l.c+1/\∀y∈Iv,y<n/\∃(dy:Int) (cy:Nat) (ly:Lb),aq[y]? =some (some ly)/\jj ly dy cy/\π v<=π y+(l.d - dy)/\cy<=l.c
def Paths (n:Nat)(π:Nat->Int)(aq:List (Option Lb)):Prop:=∀v l,aq[v]? =some (some l)->nR n π aq v l
theorem nR.lt {aq:List (Option Lb)}(h:nR n π aq v l):l.c<n:=by obtain⟨Iv,nd,hl,h⟩:=h;have:=jL nd λy hy=>(h y hy).1;omega
theorem nR.low (hlow:∀(v:Nat) (l:Lb),aq[v]? =some (some l)->∃l':Lb,Cy[v]? =some (some l')/\jj l' l.d l.c)(h:nR n π aq v l):nR n π Cy v l:=by obtain⟨Iv,nd,hl,h⟩:=h;refine⟨Iv,nd,hl,λy hy=>?_⟩;obtain⟨h1,dy,cy,ly,h2,h3,h4,h5⟩:=h y hy;obtain⟨ly',e,q⟩:=hlow y ly h2;exact⟨h1,dy,cy,ly',e,q.trans h3,h4,h5⟩
theorem nR.more (h:nR n π aq u lu)(hv:v<n)(aag:π v<=π u+x)(hnear:near (lu.d+x) (lu.c+1) (aq[v]?.getD none)=true)
  (hlow:∀(v:Nat) (l:Lb),aq[v]? =some (some l)->∃l':Lb,Cy[v]? =some (some l')/\jj l' l.d l.c)(hnew:Cy[v]? =some (some ⟨lu.d+x,lu.c+1,fr⟩)):nR n π Cy v ⟨lu.d+x,lu.c+1,fr⟩:=by
 obtain⟨Iv,nd,hl,h⟩:=h;refine⟨v::Iv,nodup_cons.mpr ⟨λhm=>?_,nd⟩,by rw[length_cons,hl],λy hy=>?_⟩
 .obtain⟨_,dy,cy,ly,h2,h3,h4,h5⟩:=h v hm;rw[h2] at hnear;simp only[getD_some,near,or_eq_true,decide_eq_true_eq,and_eq_true] at hnear;unfold jj at h3;omega
 .rcases mem_cons.mp hy with rfl|hy
  .refine⟨hv,lu.d+x,lu.c+1,_,hnew,.inr ⟨rfl,le_refl _⟩,?_,le_refl _⟩;omega
  .obtain⟨h1,dy,cy,ly,h2,h3,h4,h5⟩:=h y hy;obtain⟨ly',e,q⟩:=hlow y ly h2;refine⟨h1,dy,cy,ly',e,q.trans h3,?_,?_⟩
   .omega
   .omega
structure QP (n:Nat)(p:Nat)(b:Nat)(s:RS)(gk:List Nat):Prop where
 len:gk.length=s.queue.length
 lt:∀x∈gk,x<n
 nd:(s.queue.zip gk).Nodup
 old:∀(j:Nat) x,j<s.place->gk[j]? =some x->x<=p
 Ni:∀(j:Nat) x,s.place<=j->gk[j]? =some x->p<=x/\x<=p+1
 Xx:∀(i j:Nat) x y,s.place<=i->i<=j->gk[i]? =some x->gk[j]? =some y->x<=y
 cnt:∀(j:Nat) x v l,s.place<=j->gk[j]? =some x->s.queue[j]? =some v->s.aq[v]? =some (some l)->x<=l.c
 wt:∀(j:Nat) v,b<=j->s.queue[j]? =some v->s.wait[v]? =some true
 one:∀(i j:Nat) v,s.place<=i->s.place<=j->s.queue[i]? =some v->s.queue[j]? =some v->i=j
theorem QP.bound {p b:Nat}(h:QP n p b s gk)(hq:∀v∈s.queue,v<n):s.queue.length<=n*n:=by have:=Qi h.nd λx hx=>⟨hq _ (of_mem_zip hx).1,h.lt _ (of_mem_zip hx).2⟩;rw[length_zip,h.len,Nat.min_self] at this;exact this
theorem iR (h:(xs++[a])[j]? =some x):(j<xs.length/\xs[j]? =some x)\/(j=xs.length/\x=a):=by
 by_cases hj:j<xs.length
 .rw[getElem?_append_left hj] at h;exact .inl ⟨hj,h⟩
 .rw[getElem?_append_right<|by omega] at h
  have:j - xs.length=0:=by
   by_cases z:j - xs.length=0
   .exact z
   .rw[getElem?_eq_none (by simp;omega)] at h;cases h
  rw[this] at h;exact .inr ⟨by omega,by simpa using h.symm⟩
theorem Nj (F:cT n left out π)(I:nQ n left out π st s)(Q:QP n p s.place s gk)(hP:Paths n π s.aq)(hu:u<n)(hl:s.aq[u]? =some (some lu))(hm:m∈out u)(hp:p<=lu.c):
  ∃wG,QP n p (relax left u lu.d (lu.c+1) s m).place (relax left u lu.d (lu.c+1) s m) wG/\Paths n π (relax left u lu.d (lu.c+1) s m).aq:=by
 obtain⟨a1,_,_⟩:=wC F I hu hl hm;obtain⟨mv,v,x⟩:=m;have hvn:=F.room u _ hm;have hvl:v<s.aq.length:=by rw[I.ll];exact hvn
 have hvw:v<s.wait.length:=by rw[I.wl];exact hvn
 by_cases hc:0<left mv/\near (lu.d+x) (lu.c+1) (s.aq[v]?.getD none)=true
 .have low:=a1.low;have e:relax left u lu.d (lu.c+1) s (mv,v,x)={s with aq:=s.aq.set v<|some ⟨lu.d+x,lu.c+1,some (mv,u)⟩,wait:=if s.wait[v]?.getD false=true then s.wait else s.wait.set v true,queue:=if s.wait[v]?.getD false=true then s.queue else s.queue++[v]}:=by unfold relax;rw[if_pos hc]
  rw[e] at low ⊢;have aag:=F.pay u _ hu hm hc.1;have hnew:(s.aq.set v<|some ⟨lu.d+x,lu.c+1,some (mv,u)⟩)[v]? =some (some ⟨lu.d+x,lu.c+1,some (mv,u)⟩):=getElem?_set_self hvl;have PN:=(hP u lu hl).more hvn aag hc.2 low hnew;have hP':Paths n π (s.aq.set v<|some ⟨lu.d+x,lu.c+1,some (mv,u)⟩):=λw l ew=>by
   rcases jR ew with⟨rfl,e2,_⟩|⟨hne,e2⟩
   .cases e2;exact PN
   .exact(hP w l e2).low low
  have cn:=PN.lt;have af2:∀j y w l,s.place<=j->gk[j]? =some y->s.queue[j]? =some w->(s.aq.set v<|some ⟨lu.d+x,lu.c+1,some (mv,u)⟩)[w]? =some (some l)->y<=l.c:=λj y w l hj e1 e2 e3=>by
   rcases jR e3 with⟨rfl,e4,_⟩|⟨hne,e4⟩
   .cases e4;have:=(Q.Ni j y hj e1).2;omega
   .exact Q.cnt j y w l hj e1 e2 e4
  by_cases hw:s.wait[v]?.getD false=true
  .simp only[hw,if_true];exact⟨gk,⟨Q.len,Q.lt,Q.nd,Q.old,Q.Ni,Q.Xx,af2,Q.wt,Q.one⟩,hP'⟩
  .simp only[hw];have Nk:∀j,s.place<=j->s.queue[j]? ≠some v:=λj hj e2=>by have:=Q.wt j v hj e2;rw[this] at hw;exact hw rfl
   refine⟨gk++[p+1],⟨?_,?_,?_,?_,?_,?_,?_,?_,?_⟩,hP'⟩
   .show(gk++[p+1]).length=(s.queue++[v]).length;rw[length_append,length_append,Q.len];rfl
   .intro y hy;rcases mem_append.mp hy with hy|hy
    .exact Q.lt y hy
    .have:y=p+1:=by simpa using hy
     omega
   .show((s.queue++[v]).zip<|gk++[p+1]).Nodup;rw[List.zip_append Q.len.symm,nodup_append];refine⟨Q.nd,by simp,λa ha b hb hab=>?_⟩;have hb':b=(v,p+1):=by simpa using hb
    subst hb';subst hab;obtain⟨j,hj⟩:=List.mem_iff_getElem?.mp ha;rw[List.getElem?_zip_eq_some] at hj;by_cases hjp:s.place<=j
    .exact Nk j hjp hj.1
    .have:=Q.old j _ (by omega) hj.2;simp at this;omega
   .intro j y hj e2;rcases iR e2 with⟨_,e2⟩|⟨e2,_⟩
    .exact Q.old j y hj e2
    .have h1:=I.pl;have h2:=Q.len;have hj':=hj;omega
   .intro j y hj e2;rcases iR e2 with⟨_,e2⟩|⟨_,e2⟩
    .exact Q.Ni j y hj e2
    .omega
   .intro i j y z hi hij e1 e2;rcases iR e1 with⟨h1,e1⟩|⟨h1,e1⟩
    .rcases iR e2 with⟨_,e2⟩|⟨_,e2⟩
     .exact Q.Xx i j y z hi hij e1 e2
     .have:=(Q.Ni i y hi e1).2;omega
    .rcases iR e2 with⟨h2,e2⟩|⟨_,e2⟩
     .omega
     .omega
   .intro j y w l hj e1 e2 e3;rcases iR e1 with⟨h1,e1⟩|⟨h1,e1⟩
    .rcases iR (e2) with⟨_,e2⟩|⟨h2,_⟩
     .exact af2 j y w l hj e1 e2 e3
     .have:=Q.len;omega
    .rcases iR (e2) with⟨h2,_⟩|⟨_,e2⟩
     .have:=Q.len;omega
     .subst e2;have e3':=e3;rw[hnew] at e3';cases e3';omega
   .intro j w hj e2;show(s.wait.set v true)[w]? =some true;rcases iR (e2) with⟨_,e2⟩|⟨_,e2⟩
    .by_cases Iu:w=v
     .subst Iu;exact getElem?_set_self hvw
     .rw[getElem?_set_ne<|Ne.symm Iu];exact Q.wt j w hj e2
    .subst e2;exact getElem?_set_self hvw
   .intro i j w hi hj e1 e2;rcases iR (e1) with⟨h1,g1⟩|⟨h1,g1⟩
    .rcases iR (e2) with⟨_,g2⟩|⟨_,g2⟩
     .exact Q.one i j w hi hj g1 g2
     .rw[g2] at g1;exact absurd g1<|Nk i hi
    .rcases iR (e2) with⟨_,g2⟩|⟨h2,_⟩
     .rw[g1] at g2;exact absurd g2<|Nk j hj
     .omega
 .have e:relax left u lu.d (lu.c+1) s (mv,v,x)=s:=by unfold relax;rw[if_neg hc]
  rw[e];exact⟨gk,Q,hP⟩
theorem Nm (F:cT n left out π)(hu:u<n)(hp:p<=lu.c):∀(ms:List Mv) (s:RS) (gk:List Nat),nQ n left out π st s->QP n p s.place s gk->Paths n π s.aq->s.aq[u]? =some (some lu)->(∀m∈ms,m∈out u)->
  ∃wG,QP n p (ms.foldl (relax left u lu.d<|lu.c+1) s).place (ms.foldl (relax left u lu.d<|lu.c+1) s) wG/\Paths n π (ms.foldl (relax left u lu.d<|lu.c+1) s).aq
 |[],s,gk,_,Q,hP,_,_=>⟨gk,Q,hP⟩
 |m::ms,s,gk,I,Q,hP,hl,hm=>by obtain⟨a1,a2,_⟩:=wC F I hu hl<|hm m mem_cons_self;obtain⟨wG,Q',hP'⟩:=Nj F I Q hP hu hl (hm m mem_cons_self) hp;exact Nm F hu hp ms _ wG a1.ok Q' hP' a2 λm' h'=>hm m'<|mem_cons_of_mem _ h'
def QI (n:Nat)(π:Nat->Int)(s:RS):Prop:=(∃p gk,QP n p (s.place+1) s gk)/\Paths n π s.aq
theorem QP.next (Q:QP n p (s.place+1) s gk)(I:mG n left out π st s)(hq:s.queue[s.place]? =some s.room)(hp':gk[s.place]? =some p'):QP n p' (s.place+1) {s with place:=s.place+1,wait:=s.wait.set s.room false} gk:=by
 have hpp:=Q.Ni s.place p' (le_refl _) hp';refine⟨Q.len,Q.lt,Q.nd,λj x hj e=>?_,λj x hj e=>?_,λi j x y hi hij e1 e2=>Q.Xx i j x y (by have:s.place+1<=i:=hi;omega) hij e1 e2,λj x v l hj e1 e2 e3=>Q.cnt j x v l (by have:s.place+1<=j:=hj;omega) e1 e2 e3,λj v hj e=>?_,λi j v hi hj e1 e2=>Q.one i j v (by have:s.place+1<=i:=hi;omega) (by have:=hj;omega) e1 e2⟩
 .have hj':=hj;by_cases z:j=s.place
  .subst z;rw[hp'] at e;cases e;exact le_refl _
  .have:=Q.old j x (by omega) e;omega
 .have hj':=hj;refine⟨Q.Xx s.place j p' x (le_refl _) (by omega) hp' e,?_⟩;have:=(Q.Ni j x (by omega) e).2;omega
 .have hj':=hj;have hne:v≠s.room:=λz=>by subst z;have:=Q.one j s.place s.room (by omega) (le_refl _) e hq;omega
  rw[getElem?_set_ne<|Ne.symm hne];exact Q.wt j v hj' e
theorem adP (F:cT n left out π)(I:mG n left out π st s)(hQ:QI n π s)(hd:¬s.done):QI n π (mz left out s):=by
 obtain⟨⟨p,gk,Q⟩,hP⟩:=hQ;have hlt:s.place<s.queue.length:=by unfold RS.done at hd;omega
 have hq:s.queue[s.place]? =some s.room:=by unfold RS.room;rw[getElem?_eq_getElem hlt];rfl
 have hmem:=mem_of_getElem? hq;have hu:=I.ql _ hmem;obtain⟨lu,hl⟩:=I.lq _ hmem;have hat:s.at=lu:=by unfold RS.at;rw[hl];rfl
 have dc:=drop_cons hq;have I0:nQ n left out π st {s with place:=s.place+1,wait:=s.wait.set s.room false}:=by
  refine⟨hlt,I.ll,by show(s.wait.set s.room false).length=n;rw[length_set];exact I.wl,I.ql,I.st0,I.lo,I.fr,λv hv=>?_,I.lq⟩;rcases jR (hv) with⟨_,e,_⟩|⟨hne,e⟩
  .cases e
  .have:=I.wq v e;rw[dc] at this;rcases mem_cons.mp this with z|z
   .exact absurd z hne
   .exact z
 have e0:mz left out s=(out s.room).foldl (relax left s.room lu.d<|lu.c+1) {s with place:=s.place+1,wait:=s.wait.set s.room false}:=by unfold mz;rw[hat]
 obtain⟨p',hp'⟩:∃p',gk[s.place]? =some p':=⟨_,getElem?_eq_getElem (by rw[Q.len];exact hlt)⟩;have Q0:=Q.next I hq hp'
 obtain⟨wG,Q',hP'⟩:=Nm F hu (Q.cnt s.place p' s.room lu (le_refl _) hp' hq hl) (out s.room) _ gk I0 Q0 hP hl λm h=>h;rw[<-e0] at Q' hP';exact⟨⟨p',wG,⟨Q'.len,Q'.lt,Q'.nd,Q'.old,Q'.Ni,Q'.Xx,Q'.cnt,λj v hj e=>Q'.wt j v (by omega) e,Q'.one⟩⟩,hP'⟩
theorem aak (hst:st<n):QI n π (jO n st):=by
 have h0:((replicate n (none:Option Lb)).set st<|some ⟨0,0,none⟩)[st]? =some (some ⟨0,0,none⟩):=getElem?_set_self (by simpa using hst);have hn:∀v (l:Lb),((replicate n<|none).set st<|some ⟨0,0,none⟩)[v]? =some (some l)->v=st/\l=⟨0,0,none⟩:=λv l e=>by
  rcases jR e with⟨rfl,e2,_⟩|⟨_,e2⟩
  .cases e2;exact⟨rfl,rfl⟩
  .rw[getElem?_replicate] at e2;split at e2<;>simp at e2
 refine⟨⟨0,[0],⟨rfl,λx hx=>?_,by simp[jO],λj x hj e=>?_,λj x hj e=>?_,λi j x y _ hij e1 e2=>?_,λj x v l _ e1 e2 e3=>?_,λj v hj e=>?_,λi j v _ _ e1 e2=>?_⟩⟩,λv l e=>?_⟩
 .have:x=0:=by simpa using hx
  omega
 .exact absurd hj<|Nat.not_lt_zero _
 .have:x=0:=by
   cases j with
   |zero=>simpa using e.symm
   |succ j=>simp at e
  omega
 .have:x=0:=by
   cases i with
   |zero=>simpa using e1.symm
   |succ i=>simp at e1
  omega
 .have:x=0:=by
   cases j with
   |zero=>simpa using e1.symm
   |succ j=>simp at e1
  omega
 .have hj':=hj;have e':([st]:List Nat)[j]? =some v:=e;rw[getElem?_eq_none (by simp;omega)] at e';cases e'
 .have z:∀{k:Nat},([st])[k]? =some v->k=0:=λ{k} e=>by
   cases k with
   |zero=>rfl
   |succ k=>simp at e
  rw[z e1,z e2]
 .obtain⟨rfl,rfl⟩:=hn v l e;refine⟨[v],by simp,rfl,λy hy=>?_⟩
  have:y=v:=by simpa using hy
  subst this;exact⟨hst,0,0,_,h0,.inr ⟨rfl,le_refl _⟩,by show π y<=π y+(0 - 0);omega,le_refl _⟩
end Sp
namespace Sp
variable {aq:List (Option Lb)}
theorem Xy (T:Tree n left (bx ps) π st aq)(hne:st≠g)(h:aq[g]? =some (some l)):cW aq l.c g≠[]:=by obtain⟨mv,u,x,lu,_,_,_,_,_,_,_,h8⟩:=Cw T h<|Ne.symm hne;rw[h8];simp
theorem Np (f:α->Int):∀(xs:List α),xs≠[]->∃p,(∃m∈xs,p=f m)/\∀m∈xs,p<=f m
 |[x],_=>⟨f x,⟨x,by simp,rfl⟩,λm hm=>by rw[mem_singleton.mp hm];exact Int.le_refl _⟩
 |x::y::r,_=>by
  obtain⟨p,⟨m,hm,e⟩,h⟩:=Np f (y::r) (by simp);by_cases hx:f x<=p
  .exact⟨f x,⟨x,mem_cons_self,rfl⟩,λz hz=>by
    rcases mem_cons.mp hz with rfl|hz
    .exact Int.le_refl _
    .have:=h z hz;omega⟩
  .exact⟨p,⟨m,mem_cons_of_mem _ hm,e⟩,λz hz=>by
    rcases mem_cons.mp hz with rfl|hz
    .omega
    .exact h z hz⟩
theorem Rp (Hh:aW n ps)(hst:st<n)(hg:g<n)(hne:st≠g)(S:St n ps st left π):∃r bR,Runs n ps st g lim left r bR:=by
 have key:∀k (left:Lf) (π:Nat->Int),rest ps g left=k->St n ps st left π->∃r bR,Runs n ps st g lim left r bR:=λk=>by
  induction k using Nat.strongRecOn with
  |_ k ih=>
   intro left π hk S;obtain⟨aq,hF⟩:=finds S.fit hst;have T:=jd S.fit hst hF;obtain⟨o,ho⟩:∃o,aq[g]? =some o:=⟨_,getElem?_eq_getElem (by rw[T.ll];exact hg)⟩;cases o with
   |none=>exact⟨_,_,.none hF ho⟩
   |some l=>
    have go:(∀T',lim=some T'->l.d<=T')->∃r bR,Runs n ps st g lim left r bR:=λhl=>by obtain⟨p,h1,h2⟩:=Np left (cW aq l.c g)<|Xy T hne ho;have P:Pushed n ps st g left l.d p (dZ p left<|cW aq l.c g):=⟨aq,l,hF,ho,rfl,h1,h2,rfl⟩;obtain⟨_,_,⟨Bo,S1,_⟩,_,_⟩:=kj Hh S hst P;obtain⟨r,bR,R⟩:=ih _ (by rw[<-hk];exact Xw Hh S hst hne P) _ Bo rfl S1;exact⟨_,_,.go P hl R⟩
    cases lim with
    |none=>exact go λ_ e=>by cases e
    |some T'=>
     by_cases hT:T'<l.d
     .exact⟨_,_,.far hF ho rfl hT⟩
     .exact go λ_ e=>by cases e;omega
 exact key _ left π rfl S
noncomputable def vals:List aQ->List Int
 |[]=>[0]
 |q::r=>(vals r).map (λx=>x - q.l)++(vals r++(vals r).map (λx=>x+q.l))
theorem aal (ps:List aQ):(vals ps).length=3^ps.length:=by
 induction ps with
 |nil=>rfl
 |cons q r ih=>rw[vals,length_append,length_append,length_map,length_map,ih,length_cons,Nat.pow_succ];omega
def oO (ms:List Nat)(i:Nat):Int:=b2 (2*i∈ms) - b2 (2*i+1∈ms)
theorem Nq (p:Prop)[Decidable p]:b2 p=0\/b2 p=1:=by unfold b2;split;exact .inr rfl;exact .inl rfl
theorem Nr (ms:List Nat):∀(ps:List aQ) (k:Nat),dw (λi q=>oO ms i*q.l) k ps∈vals ps
 |[],_=>by simp[dw,vals]
 |q::r,k=>by
  have ih:=Nr ms r<|k+1;rw[dw,vals]
  have:oO ms k= -1\/oO ms k=0\/oO ms k=1:=by unfold oO;rcases Nq (2*k∈ms) with a|a<;>rcases Nq (2*k+1∈ms) with b|b<;>rw[a,b]<;>omega
  rcases this with e|e|e<;>rw[e]
  .refine mem_append_left _<|mem_map.mpr ⟨_,ih,?_⟩;omega
  .refine mem_append_right _<|mem_append_left _ ?_;simpa using ih
  .refine mem_append_right _<|mem_append_right _<|mem_map.mpr ⟨_,ih,?_⟩;omega
theorem Xz (h:m∉ms)(i:Nat):oO (m::ms) i=oO ms i+(b2 (2*i=m) - b2 (2*i+1=m)):=by
 unfold oO;have e1:b2 (2*i∈m::ms)=b2 (2*i∈ms)+b2 (2*i=m):=by
  unfold b2;by_cases a:2*i=m
  .subst a;simp[h]
  .simp[a]
 have e2:b2 (2*i+1∈m::ms)=b2 (2*i+1∈ms)+b2 (2*i+1=m):=by
  unfold b2;by_cases a:2*i+1=m
  .subst a;simp[h]
  .simp[a]
 rw[e1,e2];omega
theorem adQ (T:Tree n left (bx ps) π st aq)(h:aq[v]? =some (some l)):l.d=dw (λi q=>oO (cW aq l.c v) i*q.l) 0 ps:=by
 have:=oM T (P:=λv l ms=>ms.Nodup->l.d=dw (λi q=>oO ms i*q.l) 0 ps) (λ_=>?_) (λv l mv u x lu ms hv hne hfr hL hp hu hd hc hms ih nd=>?_) v l h
 .exact this<|yU T h
 .rw[gZ (g:=λ_ _=>0) ps 0 λi q _=>by simp[oO,b2],mX]
 .obtain⟨h1,h2⟩:=nodup_cons.mp nd;have es:dw (λi q=>oO (mv::ms) i*q.l) 0 ps=dw (λi q=>oO ms i*q.l) 0 ps+dw (λi q=>(b2 (2*i=mv) - b2 (2*i+1=mv))*q.l) 0 ps:=by rw[<-rN];exact gZ ps 0 λi q _=>by rw[Xz h1,add_mul]
  rw[es,hd,ih h2];congr 1;obtain⟨i,q,e,r⟩:=hL.cases;rw[wD ps 0 i q e<|λj q' e' hj=>?_]
  .rcases r with⟨_,_,rfl,rfl⟩|⟨_,_,rfl,rfl⟩
   .have:¬2*(0+i)+1=2*i:=by omega
    simp[b2,this]
   .have:¬2*(0+i)=2*i+1:=by omega
    simp[b2,this]
  .have a:¬2*(0+j)=mv:=by rcases r with⟨_,_,rfl,_⟩|⟨_,_,rfl,_⟩<;>omega
   have b:¬2*(0+j)+1=mv:=by rcases r with⟨_,_,rfl,_⟩|⟨_,_,rfl,_⟩<;>omega
   simp only[b2,a,b,if_false];simp
theorem XC (Hh:aW n ps)(hst:st<n)(R:Runs n ps st g lim left r bR)(S:St n ps st left π):∀x∈r,x.1∈vals ps:=by
 induction R generalizing π with
 |none _ _=>intro x hx;cases hx
 |far _ _ _ _=>intro x hx;cases hx
 | @go left left' bR len p r P hl R ih=>
  intro x hx;rcases mem_cons.mp hx with rfl|hx
  .obtain⟨aq,l,hF,hl,e,_⟩:=P.ex;have T:=jd S.fit hst hF;rw[e,adQ T hl];exact Nr _ ps 0
  .obtain⟨_,_,⟨Bo,S1,_⟩,_,_⟩:=kj Hh S hst P;exact ih S1 x hx
theorem Qj (h:y∈d8 s x):y.1=x.1\/y∈s:=by
 unfold d8 at h;split at h
 .rename_i z e;split at h
  .rcases mem_append.mp h with h|h
   .exact .inr<|(List.dropLast_sublist s).subset h
   .have:y=(x.1,z.2+x.2):=by simpa using h
    rw[this];exact .inl rfl
  .rcases mem_append.mp h with h|h
   .exact .inr h
   .have:y=x:=by simpa using h
    rw[this];exact .inl rfl
 .rcases mem_append.mp h with h|h
  .exact .inr h
  .have:y=x:=by simpa using h
   rw[this];exact .inl rfl
theorem Nt:∀(r s:List (Int×Int)) (y:Int×Int),y∈r.foldl d8 s->(∃x∈r,y.1=x.1)\/y∈s
 |[],_,_,h=>.inr h
 |x::r,s,y,h=>by
  rcases Nt r _ y h with⟨z,hz,e⟩|h
  .exact .inl ⟨z,mem_cons_of_mem _ hz,e⟩
  .rcases Qj h with e|e
   .exact .inl ⟨x,mem_cons_self,e⟩
   .exact .inr e
theorem grouped_len {vs:List Int}(hp:r.Pairwise λx y=>x.1<=y.1)(h1:∀x∈r,1<=x.1/\1<=x.2)(hv:∀x∈r,x.1∈vs):(grouped r).length<=vs.length:=by
 have R:=yV r [] hp h1 ⟨.nil,λ_ h=>nomatch h⟩ (λ_ _ _ h=>nomatch h);have nd:((grouped r).map (·.1)).Nodup:=by rw[List.Nodup,List.pairwise_map];exact R.up.imp λh=>by omega
 have:=yW nd λx hx=>by
  obtain⟨y,hy,rfl⟩:=mem_map.mp hx;rcases Nt r [] y hy with⟨z,hz,e⟩|h
  .rw[e];exact hv z hz
  .cases h
 rwa [length_map] at this
end Sp
namespace Sp
abbrev Tie:=Nat×Nat×Int
structure an3 (n:Nat)(φ:Nat->Int)(e:Tie):Prop where
 a:e.1<n
 b:e.2.1<n
 ne:e.1≠e.2.1
 pay:φ e.2.1<=φ e.1+e.2.2
noncomputable def up (d:Nat->Int)(b:Nat)(x:Int):Nat->Int:=λv=>if v=b then x else d v
variable {φ:Nat->Int}
end Sp
namespace VM
open L2
abbrev Pq:=Int×Int×Int×Int
noncomputable def pD (q:Pq):PyData:=.tuple [.int q.1,.int q.2.1,.int q.2.2.1,.int q.2.2.2]
def uN (ps:List Pq):PyData:=.list<|ps.map pD
noncomputable def pOf:PyData->Option Pq
 |.tuple [.int a,.int b,.int w,.int l]=>some (a,b,w,l)
 |_=>none
noncomputable def cX:List PyData->Option (List Pq)
 |[]=>some []
 |d::r=>match pOf d with
  |some q=>(match cX r with
   |some qs=>some (q::qs)
   |none=>none)
  |none=>none
theorem af3 (q:Pq):pOf (pD q)=some q:=rfl
theorem aam (ps:List Pq):cX (ps.map pD)=some ps:=by
 induction ps with
 |nil=>rfl
 |cons q r ih=>simp only[map_cons,cX,af3,ih]
theorem aan (h:pOf d=some q):d=pD q:=by
 unfold pOf at h;split at h
 .cases h;rfl
 .cases h
theorem Iw:∀{ds:List PyData}{ps:List Pq},cX ds=some ps->ds=ps.map pD
 |[],_,h=>by cases h;rfl
 |d::r,ps,h=>by
  unfold cX at h;split at h
  .rename_i q e;split at h
   .rename_i qs e2;cases h;rw[aan e,Iw e2];rfl
   .cases h
  .cases h
noncomputable def sV (m e:Int)(x:Int):PyData:=.tuple [.int m,.int e,.int x]
noncomputable def lN:Nat->List Pq->Int->List PyData
 |_,[],_=>[]
 |k,q::r,u=>(if q.1=u then [sV (2*k) q.2.1 q.2.2.2] else [])++((if q.2.1=u then [sV (2*k+1) q.1<|-q.2.2.2] else [])++lN (k+1) r u)
theorem Iz (q:Pq)(u:Int):∀(r:List Pq) (k:Nat),lN k (r++[q]) u=lN k r u++((if q.1=u then [sV (2*((k+r.length:Nat):Int)) q.2.1 q.2.2.2] else [])++(if q.2.1=u then [sV (2*((k+r.length:Nat):Int)+1) q.1<|-q.2.2.2] else []))
 |[],k=>by simp[lN]
 |p::r,k=>by
  rw[cons_append,lN,lN,Iz q u r<|k+1];have e:k+1+r.length=k+(p::r).length:=by simp;omega
  rw[e];simp only[append_assoc]
theorem Cz (u:Int):∀(r:List Pq) (k:Nat),(lN k r u).length<=2*r.length
 |[],_=>zero_le _
 |q::r,k=>by
  have ih:=Cz u r<|k+1;have a:(if q.1=u then [sV (2*k) q.2.1 q.2.2.2] else []).length<=1:=by split<;>simp
  have b:(if q.2.1=u then [sV (2*k+1) q.1<|-q.2.2.2] else []).length<=1:=by split<;>simp
  rw[lN,length_append,length_append,length_cons];omega
def cQ (ps:List Pq)(n:Nat):PyData:=.list<|(List.range n).map λ(u:Nat)=>.list<|lN 0 ps (u:Int)
def fG:f9:=λds=>match ds with
 |[.int m,.list pds]=>(match cX pds with
  |some ps=>if 0<=m/\m<=1000/\ps.length<=1000/\(∀q∈ps,(0<=q.1/\q.1<m)/\0<=q.2.1/\q.2.1<m) then some (false,cQ ps m.toNat) else none
  |none=>none)
 |_=>none
theorem Ei (h0:0<=m)(h1:m<=1000)(h2:ps.length<=1000)(h3:∀q∈ps,(0<=q.1/\q.1<m)/\0<=q.2.1/\q.2.1<m):fG [.int m,uN ps]=some (false,cQ ps m.toNat):=by unfold fG uN;simp only[aam];rw[if_pos ⟨h0,h1,h2,h3⟩]
structure MI (K:Frag)(G H₀:Hp)(D:Addr)(bs:List Addr)(f:Nat->List PyData)(H:Hp):Prop where
 ex:∃F,Same H₀ H/\Same G F/\Same F H/\(∀a o,F a=some o->G a=some o\/qz o=true)/\F D=none/\H₀ D=none/\H D=some (.lst<|bs.map V.ref)/\D∉bs/\bs.Nodup/\
  (∀b∈bs,F b=none/\H₀ b=none)/\∀(u:Nat) b,bs[u]? =some b->∃ys,H b=some (.lst ys)/\aG K F (f u) ys
section
variable {f f':Nat->List PyData}
theorem MI.congr (I:MI K G H₀ D bs f H)(h:∀u,u<bs.length->f u=f' u):MI K G H₀ D bs f' H:=by
 obtain⟨F,h1,h2,h3,h4,h5,h6,h7,h8,h9,h10,h11⟩:=I.ex;refine⟨F,h1,h2,h3,h4,h5,h6,h7,h8,h9,h10,λu b e=>?_⟩;have hu:u<bs.length:=by
  by_cases z:u<bs.length
  .exact z
  .rw[getElem?_eq_none<|by omega] at e;cases e
 obtain⟨ys,q1,q2⟩:=h11 u b e;exact⟨ys,q1,by rw[<-h u hu];exact q2⟩
theorem MI.put (I:MI K G H₀ D bs f H)(hb:bs[u]? =some b)(hp:H p=none)(hf:∀w,f' w=if w=u then f w++[sV m e x] else f w):
  ∃ys,H b=some (.lst ys)/\(upd H p<|.tup [.int m,.int e,.int x]) b=some (.lst ys)/\ys.length=(f u).length/\MI K G H₀ D bs f' (upd (upd H p<|.tup [.int m,.int e,.int x]) b<|.lst<|ys++[.ref p]):=by
 obtain⟨F,h1,h2,h3,h4,h5,h6,h7,h8,h9,h10,h11⟩:=I.ex;obtain⟨ys,q1,q2⟩:=h11 u b hb;have hbm:=mem_of_getElem? hb;have hbp:=aU q1 hp;have Nu:=aU h7 hp;have hDb:D≠b:=λz=>h8<|z▸hbm;have hFp:=h3.free hp;refine⟨ys,q1,by rw[ak hbp];exact q1,q2.length.symm,upd F p<|.tup [.int m,.int e,.int x],?_,h2.trans<|aF hFp,?_,?_,?_,h6,?_,h8,h9,?_,?_⟩
 .intro a o e;have ha:=aU e (h10 b hbm).2;rw[ak ha];exact aF hp a o<|h1 a o e
 .intro a o e;by_cases ha:a=p
  .subst ha;rw[ao] at e;rw[ak<|Ne.symm hbp,ao];exact e
  .rw[ak ha] at e;have hab:=aU e (h10 b hbm).1;rw[ak hab,ak ha];exact h3 a o e
 .intro a o e;by_cases ha:a=p
  .subst ha;rw[ao] at e;cases e;exact .inr rfl
  .rw[ak ha] at e;exact h4 a o e
 .rw[ak Nu];exact h5
 .rw[ak hDb,ak Nu];exact h7
 .intro b' hb'
  have:b'≠p:=λz=>by subst z;obtain⟨u',e'⟩:=List.mem_iff_getElem?.mp hb';obtain⟨zs,z1,_⟩:=h11 u' _ e';rw[hp] at z1;cases z1
  rw[ak this];exact h10 b' hb'
 .intro w b' hw;obtain⟨zs,z1,z2⟩:=h11 w b' hw;have akC:=aU z1 hp;by_cases hwu:w=u
  .subst hwu;rw[hb] at hw;cases hw;rw[q1] at z1;cases z1;refine⟨ys++[.ref p],ao,?_⟩;rw[hf,if_pos rfl];have hv:Has K (upd F p<|.tup [.int m,.int e,.int x]) (sV m e x) (.ref p):=⟨p,_,rfl,bB.of ao,_,_,rfl,rfl,_,_,rfl,rfl,_,_,rfl,rfl,rfl⟩;exact aG.snoc hv<|aG.same (aF hFp) z2
  .have hne:b'≠b:=λz=>by
    subst z;exact hwu ((List.getElem?_inj (by
     by_cases zz:w<bs.length
     .exact zz
     .rw[getElem?_eq_none (by omega)] at hw;cases hw) h9).mp (by rw[hw,hb]))
   refine⟨zs,by rw[ak hne,ak akC];exact z1,?_⟩;rw[hf,if_neg hwu];exact aG.same (aF hFp) z2
theorem MI.fin (I:MI K G H₀ D bs f H):∃F,bA G H₀ F H/\Has K F (.list<|(List.range bs.length).map λu=>.list<|f u) (.ref D):=by
 obtain⟨F,h1,h2,h3,h4,h5,h6,h7,h8,h9,h10,h11⟩:=I.ex;let F':Hp:=λa=>if a=D\/a∈bs then H a else F a
 have eF:∀a,F' a=if a=D\/a∈bs then H a else F a:=λ_=>rfl
 have FF:Same F F':=λa o e=>by
  have:¬(a=D\/a∈bs):=λz=>by
   rcases z with z|z
   .rw[z,h5] at e;cases e
   .rw[(h10 a z).1] at e;cases e
  rw[eF,if_neg this];exact e
 refine⟨F',⟨h1,h2.trans FF,λa o e=>?_,λa o e=>?_,λa x u e=>?_⟩,?_⟩
 .rw[eF] at e;split at e
  .exact e
  .exact h3 a o e
 .rw[eF] at e;split at e
  .rename_i z;rcases z with z|z
   .rw[z];exact .inr<|.inl h6
   .exact .inr<|.inl (h10 a z).2
  .rcases h4 a o e with z|z
   .exact .inl z
   .exact .inr<|.inr z
 .rw[eF] at e;split at e
  .rename_i z;rcases z with z|z
   .rw[z,h7] at e;cases e
   .obtain⟨i,hi⟩:=List.mem_iff_getElem?.mp z;obtain⟨ys,q1,_⟩:=h11 i a hi;rw[q1] at e;cases e
  .rcases h4 a _ e with z|z
   .exact z
   .cases z
 .refine⟨D,bs.map V.ref,rfl,aR.of (by rw[eF,if_pos<|.inl rfl];exact h7),?_⟩;have key:∀(cs:List Addr) (k:Nat),(∀i b,cs[i]? =some b->bs[k+i]? =some b)->aG K F' ((List.range' k cs.length).map λu=>PyData.list<|f u) (cs.map V.ref):=λcs=>by
   induction cs with
   |nil=>intro k _;rfl
   |cons b r ih=>intro k hk;have hb:=hk 0 b rfl;obtain⟨ys,q1,q2⟩:=h11 k b hb;rw[length_cons,List.range'_succ];refine⟨_,_,rfl,⟨b,ys,rfl,aR.of (by rw[eF,if_pos<|.inr<|mem_of_getElem? hb];exact q1),aG.same FF q2⟩,ih (k+1) λi c hc=>?_⟩;have:=hk (i+1) c (by simpa using hc);rw[<-this];congr 1;omega
  have:=key bs 0 λi b hb=>by rw[zero_add];exact hb
  rw[List.range_eq_range'];exact this
end
open PyProof.Rows
theorem Gw {K:Frag}:∀{ds:List PyData}{vs:List V},ds.length=vs.length->(∀(j:Nat) d v,ds[j]? =some d->vs[j]? =some v->Has K H d v)->aG K H ds vs
 |[],[],_,_=>rfl
 |[],_::_,e,_=>by simp at e
 |_::_,[],e,_=>by simp at e
 |d::ds,v::vs,e,h=>⟨v,vs,rfl,h 0 d v rfl rfl,Gw (by simpa using e) λj d' v' a b=>h (j+1) d' v' a b⟩
section
variable {K:Frag}
end
theorem aD (e:σ[i]? =some (some v))(q:Q v H):vR i σ H Q:=by unfold vR;rw[e];exact q
section
variable {X:Cx}{rest:List Stmt}
end
end VM
namespace Pg
open L2 VM
def xH:VS:=
 (aK (qC 2 (fY a0))
 (aK (lM (Ma (aC (vF 0) (aC (vF 1) a0))) (gT 2 (gC (gN 3) (gC (gN 4) g0)))
 (aK (iM 2 (aC (v2 mD (v2 aM (vN 3) (vC (.int 2))) (vN 4)) a0))
 (iM 2 (aC (vF 4) a0))))
 (fU 2)))
def dR:f9:=g8 2 5 xH
def Bp:VS:=
 (aK (c7 (fX (vB (v2 isD (vN 2) (vC .none))) (vB (v2 sJ (vN 0) (v2 aM (vN 2) (vC (.int 0))))))
 (cP<|vC<|.bool true)
 cJ)
 (cP (Ck (v2 fZ (vN 0) (v2 aM (vN 2) (vC (.int 0)))) (v2 sJ (vN 1) (v2 aM (vN 2) (vC (.int 1)))))))
def jT:f9:=g8 3 3 Bp
def Rq:VS:=
 (aK (qC 3 (v2 yP (fY (aC (vC .none) a0)) (cU eU (aC (vN 0) a0))))
 (aK (mF 3 (vN 2) (fB (aC (vC (.int 0)) (aC (vC (.int 0)) (aC (vC .none) (aC (vC .none) a0))))))
 (aK (qC 4 (v2 yP (fY (aC (vC (.bool false)) a0)) (cU eU (aC (vN 0) a0))))
 (aK (qC 5 (fY (aC (vF 2) a0)))
 (aK (bY (vC (.int 0)) (gN 6))
 (aK (DR (vB (v2 sJ (vN 6) (cU eU (aC (vN 5) a0))))
 (aK (bY (v2 aM (vN 5) (vN 6)) (gN 7))
 (aK (Gp cI 6 (vC (.int 1)))
 (aK (mF 4 (vN 7) (vC (.bool false)))
 (aK (bY (v2 aM (v2 aM (vN 3) (vN 7)) (vC (.int 0))) (gN 8))
 (aK (bY (v2 cI (v2 aM (v2 aM (vN 3) (vN 7)) (vC (.int 1))) (vC (.int 1))) (gN 9))
 (lM (cu (v2 aM (vN 0) (vN 7))) (gT 3 (gC (gN 10) (gC (gN 11) (gC (gN 12) g0))))
 (c7 (fP (vB (v2 yF (v2 aM (vN 1) (vN 10)) (vC (.int 0)))) (vB (aZ jT (aC (v2 cI (vN 8) (vN 12)) (aC (vF 9) (aC (v2 aM (vN 3) (vN 11)) a0))))))
 (aK (mF 3 (vN 11) (fB (aC (v2 cI (vN 8) (vN 12)) (aC (vF 9) (aC (vF 10) (aC (vF 7) a0))))))
 (c7 (cR (vB (v2 aM (vN 4) (vN 11))))
 (aK (mF 4 (vN 11) (vC (.bool true)))
 (iM 5 (aC (vF 11) a0)))
 cJ))
 cJ))))))))
 (fU 3)))))))
def mY:f9:=g8 3 13 Rq
def Nv:VS:=
 (aK (bY (cU minD (aC (vW (cu (vF 1)) [none,some 0] (gN 0) fQ (v2 aM (vN 1) (vN 0))) a0)) (gN 2))
 (aK (lM (cu (vF 1)) (gN 3)
 (aK (nO mD 0 (vN 3) (vF 2))
 (nO cI 0 (v2 Ug (vN 3) (vC (.int 1))) (vF 2))))
 (fU 2)))
def rO:Cr:=Cu 2 4 0 Nv
def Nx:VS:=
 (aK (qC 3 (fY a0))
 (aK (bY (vF 2) (gN 4))
 (aK (DR (vB (v2 jN (vN 4) (vN 1)))
 (aK (iM 3 (aC (v2 aM (v2 aM (vN 0) (vN 4)) (vC (.int 2))) a0))
 (bY (v2 aM (v2 aM (vN 0) (vN 4)) (vC (.int 3))) (gN 4))))
 (fU 3))))
def mH:f9:=g8 3 5 Nx
def wH:VS:=
 (aK (qC 5 (fY a0))
 (DR (vB (vC (.bool true)))
 (aK (bY (pR mY (aC (vN 0) (aC (vN 1) (aC (vN 2) a0)))) (gN 6))
 (aK (c7 (vB (v2 isD (v2 aM (vN 6) (vN 3)) (vC .none)))
 (fU 5)
 cJ)
 (aK (bY (v2 aM (v2 aM (vN 6) (vN 3)) (vC (.int 0))) (gN 7))
 (aK (c7 (fP (vB (v2 Lr (vN 4) (vC .none))) (vB (v2 yF (vN 7) (vN 4))))
 (fU 5)
 cJ)
 (aK (Ad rO 1 (Bk (qD (aZ mH (aC (vF 6) (aC (vF 2) (aC (vF 3) a0)))) DW)) 8)
 (c7 (fP (tM (vN 5)) (vB (v2 fZ (v2 aM (v2 aM (vN 5) (v1 lK (vC (.int 1)))) (vC (.int 0))) (vN 7))))
 (mF 5 (v1 lK<|vC<|.int 1)<|fB<|aC (vF 7)<|aC (v2 cI (v2 aM (v2 aM (vN 5)<|v1 lK<|vC<|.int 1)<|vC<|.int 1)<|vN 8) a0)
 (iM 5 (aC (fB (aC (vF 7) (aC (vF 8) a0))) a0))))))))))
def lD:Cr:=Cu 5 9 1 wH
def Ej:VS:=
 (aK (qC 4 (rD dR (aC (vF 1) (aC (v2 yP (fY (aC (vC (.int 0)) a0)) (cU eU (aC (vN 1) a0))) a0))))
 (WW lD 4 (qD (aZ VM.fG (aC (vF 0) (aC (vF 1) a0))) (Bk (qD (vF 2) (qD (vF 3) (qD (vC .none) DW)))))))
def wI:f9:=g8 4 5 Ej
def Bq:VS:=
 (aK (qC 5 (rD dR (aC (vF 1) (aC (v2 yP (fY (aC (vC (.int 0)) a0)) (cU eU (aC (vN 1) a0))) a0))))
 (aK (J5 lD 5 (qD (aZ VM.fG (aC (vF 0) (aC (vF 1) a0))) (Bk (qD (vF 2) (qD (vF 3) (qD (vF 4) DW))))))
 (qK (vW (vU (aC (cU eU (aC (vN 1) a0)) a0)) [none,some 5] (gN 0) fQ (v2 aM (vN 1) (v2 cI (v2 vO (vC (.int 2)) (vN 0)) (vC (.int 1))))))))
def gA:f9:=g8 5 6 Bq
def Br:VS:=
 (cP<|cU yJ<|aC (jZ (cu<|vF 1) [none,some 0] (gN 0) fQ<|v2 aM (v2 aM (vN 1)<|vN 0)<|vC<|.int 3) a0)
def lV:f9:=g8 2 2 Br
def yX:VS:=
 (aK (lM (DP (aC (vF 0) a0)) (gT 2 (gC (gN 3) (gC (gN 4) g0)))
 (c7 (fP (vB (v2 fZ (v2 aM (vN 4) (vC (.int 0))) (vN 1))) (vB (v2 yF (v2 aM (vN 2) (vN 3)) (vC (.int 0)))))
 (fU 3)
 cJ))
 (cP (vC .none)))
def gB:f9:=g8 3 5 yX
def rP:VS:=
 (aK (qC 4 (fY a0))
 (aK (bY (vF 1) (gN 5))
 (aK (DR (vB (v2 jN (vN 5) (vN 2)))
 (aK (bY (aZ gB (aC (vF 0) (aC (vF 5) (aC (vF 3) a0)))) (gN 6))
 (aK (c7 (vB (v2 isD (vN 6) (vC .none)))
 (qK<|fY a0)
 cJ)
 (aK (iM 4 (aC (vF 6) a0))
 (bY (v2 aM (v2 aM (vN 0) (vN 6)) (vC (.int 1))) (gN 5))))))
 (fU 4))))
def fH:f9:=g8 4 7 rP
def Ek:VS:=
 (aK (qC 4 (uE (vN 3)))
 (aK (qC 5 (fY a0))
 (DR (vB (vC (.bool true)))
 (aK (bY (pR fH (aC (vN 0) (aC (vN 1) (aC (vN 2) (aC (vN 4) a0))))) (gN 6))
 (aK (c7 (cR (tM (vN 6)))
 (fU 5)
 cJ)
 (aK (bY (cU minD (aC (vW (cu (vF 6)) [none,some 4] (gN 0) fQ (v2 aM (vN 1) (vN 0))) a0)) (gN 7))
 (aK (lM (cu (vF 6)) (gN 8)
 (nO mD 4 (vN 8) (vF 7)))
 (iM 5 (aC (fB (aC (vF 6) (aC (vF 7) a0))) a0)))))))))
def nU:f9:=g8 4 9 Ek
def yZ:VS:=
 (aK (bY (v2 cI (vN 4) (vC (.int 1))) (gN 6))
 (aK (bY (v2 vX (vN 1) (fY (aC (fB (aC (vF 2) (aC (vF 3) (aC (vC (.int 1)) (aC (vF 6) a0))))) a0))) (gN 7))
 (aK (bY (aZ dR (aC (vF 7) (aC (v2 vX (vN 5) (fY (aC (vC (.int 0)) a0))) a0))) (gN 8))
 (aK (bY (aZ mY (aC (aZ VM.fG (aC (vF 0) (aC (vF 7) a0))) (aC (vF 8) (aC (vF 2) a0)))) (gN 9))
 (qK (jZ (cu (vF 9)) [none,some 6] (gN 0) fQ (vIf (vB (v2 isD (vN 0) (vC .none))) (vF 1) (cU vP (aC (v2 aM (vN 0) (vC (.int 0))) (aC (vN 1) a0))))))))))
def kE:f9:=g8 6 10 yZ
def za:VS:=
 (aK (bY (aZ gA (aC (vF 0) (aC (vF 1) (aC (vF 2) (aC (vF 3) (aC (vF 4) a0)))))) (gN 5))
 (aK (bY (aZ nU (aC (vF 1) (aC (vF 2) (aC (vF 3) (aC (vF 5) a0))))) (gN 6))
 (aK (bY (cU yJ (aC (jZ (cu (vF 6)) [none,none,some 4,some 1] (gT 2 (gC (gN 0) (gC (gN 1) g0))) fQ (v2 vO (vN 1) (v2 cI (v2 mD (vN 2) (aZ lV (aC (vF 3) (aC (vF 0) a0)))) (vC (.int 1))))) a0)) (gN 7))
 (cP (fB (aC (vF 7) (aC (vF 6) (aC (aZ kE (aC (vF 0) (aC (vF 1) (aC (vF 2) (aC (vF 3) (aC (vF 4) (aC (vF 5) a0))))))) a0))))))))
def iI:f9:=g8 5 8 za
end Pg
def evS:="Ec uG jx acf acg ini Af WY W2 W3 W4 Mq ab5 Um Q5 W5 W6 Mr ab6 Uo cR Q6 Q7 Q8 W7 W8 W9 Xa Xb Xc J9 Uq Ur ab7 Us afO ab8 a0 Xd ab9 acd ace afP g0 Mt Q9 Ik Mu Il Mx Ra Eb Im Mz ab4 Rh Xi Xe Rb Xf ach aci acj acn aco acp Rc Xg cP qK fU gEx gN gT Xh Ag acq MF Rg afS gFz dU iM mF Gp nO cJ DQ afH afI ju Rj Xm acw Xn Xo vN vF vC vB tM ZL Lw pP j9 aM oN oI Lx afv afw lK fB fY cU eU Ly vP abQ abR nG MK Rk Ed Io uE LC cu QT vU abS DP Ma nH jt yM fQ Xj Xk acr acs acu acv Xl Ae ab2 Int.reduceToNat Int.reducePow ab3 WX jq length_cons length_nil map_cons map_nil replicate cons_append nil_append append_nil getElem?_cons_zero getElem?_cons_succ set_cons_zero set_cons_succ Nat.reduceAdd Nat.reduceSub Nat.reduceLeDiff Nat.reduceEqDiff Bool.and_true Bool.true_and Bool.not_true Bool.not_false false_eq_true if_true if_false"
local macro_rules | `(tactic| walk_at "e0")=>do
 let a<-(evS.splitOn " ").toArray.mapM λs=>`(Lean.Parser.Tactic.simpLemma| $(Lean.mkIdent s.toName):ident)
 `(tactic| try simp only[$a,*,↓reduceIte])
namespace PM
open L2 VM Sp
noncomputable def toPq (p:aQ):Pq:=((p.a:Int),(p.b:Int),p.w,p.l)
def hD (ps:List aQ):PyData:=uN<|ps.map toPq
noncomputable def cB (v:Nat):PyData:=.int v
noncomputable def XD:Option (Nat×Nat)->PyData
 |none=>.none
 |some (m,_)=>.int m
noncomputable def frB:Option (Nat×Nat)->PyData
 |none=>.none
 |some (_,u)=>.int u
def gn:Option Lb->PyData
 |none=>.none
 |some l=>.tuple [.int l.d,.int l.c,XD l.fr,frB l.fr]
theorem jh (l:Lb):gn (some l)=.tuple [.int l.d,.int l.c,XD l.fr,frB l.fr]:=rfl
def xJ (m:Mv):PyData:=sV m.1 m.2.1 m.2.2
noncomputable def lf (L:List Int):Lf:=λi=>L.getD i 0
theorem adR (ps:List aQ)(u:Nat):∀k,lN k (ps.map toPq) (u:Int)=(oK k ps u).map xJ:=by
 induction ps with
 |nil=>intro k;rfl
 |cons q r ih=>
  intro k;rw[map_cons,lN,oK,map_append,map_append,ih<|k+1];have ea:((toPq q).1=(u))↔(q.a=u):=by show((q.a)=(u:Int))↔_;omega
  have eb:((toPq q).2.1=(u))↔(q.b=u):=by show((q.b)=(u:Int))↔_;omega
  congr 1
  .by_cases h:q.a=u
   .rw[if_pos<|ea.mpr h,if_pos h];simp[xJ,toPq]
   .rw[if_neg<|λz=>h<|ea.mp z,if_neg h];rfl
  .congr 1;by_cases h:q.b=u
   .rw[if_pos<|eb.mpr h,if_pos h];simp[xJ,toPq]
   .rw[if_neg<|λz=>h<|eb.mp z,if_neg h];rfl
theorem Ny (ps:List aQ)(h:u<n):cQ (ps.map toPq) n=.list ((List.range n).map λ(u:Nat)=>.list<|(bx ps u).map xJ)/\bW ((List.range n).map λ(u:Nat)=>PyData.list<|(bx ps u).map xJ) (u:Int)=some (.list<|(bx ps u).map xJ):=by
 constructor
 .unfold cQ;congr 1;exact map_congr_left λu _=>by rw[adR];rfl
 .exact jy _<|getElem?_range h
theorem af6 (d:Int)(c:Nat)(o:Option Lb):Pg.jT [.int d,.int c,gn o]=some (false,.bool<|near d c o):=by
 unfold Pg.jT Pg.Bp;cases o with
 |none=>unfold gn;walk_at "e0";rfl
 |some l=>
  unfold gn;walk_at "e0";by_cases h:d<l.d
  .simp only[h,decide_true];walk_at "e0";simp[near,h]
  .simp only[h,decide_false];walk_at "e0";by_cases h2:d=l.d
   .simp only[h2,decide_true];walk_at "e0";simp[near]
   .simp only[h2,decide_false];walk_at "e0";simp[near,h,h2]
def SR (mv lv:PyData)(st:Nat)(s:RS)(a b c d e f:Option PyData):GS:=
 [some (.fr,mv),some (.fr,lv),some (.fr,.int st),some (.ow,.list<|s.aq.map gn),some (.ow,.list<|s.wait.map .bool),some (.ow,.list<|s.queue.map cB),some (.fr,.int s.place),ob a,ob b,ob c,ob d,ob e,ob f]
def El:VS:=(c7 (fP (vB (v2 yF (v2 aM (vN 1) (vN 10)) (vC (.int 0)))) (vB (aZ Pg.jT (aC (v2 cI (vN 8) (vN 12)) (aC (vF 9) (aC (v2 aM (vN 3) (vN 11)) a0))))))
 (aK (mF 3 (vN 11) (fB (aC (v2 cI (vN 8) (vN 12)) (aC (vF 9) (aC (vF 10) (aC (vF 7) a0))))))
 (c7 (cR (vB (v2 aM (vN 4) (vN 11))))
 (aK (mF 4 (vN 11) (vC (.bool true)))
 (iM 5 (aC (vF 11) a0)))
 cJ))
 cJ)
variable {π:Nat->Int}
theorem Uw {u:Nat}{c:Nat}(hm:m.1<L.length)(hl:m.2.1<s.aq.length)(hw:m.2.1<s.wait.length)(hq:s.queue.length<sizeLine):
  El (SR mv (.list<|L.map .int) st s (some<|.int u) (some<|.int d) (some<|.int c) (some<|.int m.1) (some<|.int m.2.1)<|some<|.int m.2.2)=
   .nxt (SR mv (.list<|L.map .int) st (relax (lf L) u d c s m) (some<|.int u) (some<|.int d) (some<|.int c) (some<|.int m.1) (some<|.int m.2.1)<|some<|.int m.2.2):=by
 obtain⟨mi,v,x⟩:=m;obtain⟨o,ho⟩:∃o,s.aq[v]? =some o:=⟨_,getElem?_eq_getElem hl⟩;obtain⟨wv,Iu⟩:∃o,s.wait[v]? =some o:=⟨_,getElem?_eq_getElem hw⟩;have e1:bW (L.map PyData.int) (mi:Int)=some (.int<|lf L mi):=by refine jy _ ?_;unfold lf;rw[getD_eq_getElem?_getD,getElem?_eq_getElem hm];rfl
 have e2:bW (s.aq.map gn) (v:Int)=some (gn o):=jy _ ho;have e3:bW (s.wait.map PyData.bool) (v:Int)=some (.bool wv):=jy _ Iu;unfold El SR relax;simp only[ho,Iu,getD_some];walk_at "e0";rw[e1];walk_at "e0";by_cases h:0<lf L mi
 .simp only[h,decide_true,true_and];walk_at "e0";rw[e2];walk_at "e0";rw[af6];walk_at "e0";cases hn:near (d+x) c o
  .walk_at "e0"
  .walk_at "e0";rw[length_map,rF hl];walk_at "e0";rw[e3];walk_at "e0";cases wv
   .walk_at "e0";rw[length_map,rF hw];walk_at "e0";rw[if_pos (by rw[length_map];exact hq)];walk_at "e0";rw[map_set,map_set,map_append];rfl
   .walk_at "e0";rw[map_set];rfl
 .simp only[h,decide_false,false_and];walk_at "e0"
theorem Em (hn:n<=1000)(F:cT n (lf L) (bx ps) π)(hu:u<n)(hp:p<=lu.c)(hL:∀m∈bx ps u,m.1<L.length):
  ∀(ms:List Mv) (s:RS) (gk:List Nat) (x y z:Option PyData),nQ n (lf L) (bx ps) π st s->QP n p s.place s gk->Paths n π s.aq->s.aq[u]? =some (some lu)->(∀m∈ms,m∈bx ps u)->
  ∃x' y' z',fD (gT 3<|gC (gN 10)<|gC (gN 11)<|gC (gN 12) g0) El (ms.map xJ) (SR mv (.list<|L.map .int) st s (some<|.int u) (some<|.int lu.d) (some<|.int ((lu.c+1:Nat):Int)) x y z)=
   .nxt (SR mv (.list<|L.map .int) st (ms.foldl (relax (lf L) u lu.d<|lu.c+1) s) (some<|.int u) (some<|.int lu.d) (some<|.int ((lu.c+1:Nat):Int)) x' y' z')
 |[],s,gk,x,y,z,_,_,_,_,_=>⟨x,y,z,rfl⟩
 |m::ms,s,gk,x,y,z,I,Q,hP,hl,hm=>by
  have hmo:=hm m mem_cons_self;have hvn:m.2.1<n:=F.room u _ hmo;have hq:s.queue.length<sizeLine:=by have h1:=Q.bound I.ql;have h2:n*n<=1000*1000:=Nat.mul_le_mul hn hn;exact aY<|by omega
  obtain⟨a1,a2,_⟩:=wC F I hu hl hmo;obtain⟨wG,Q',hP'⟩:=Nj F I Q hP hu hl hmo hp;obtain⟨x',y',z',ih⟩:=Em (mv:=mv) hn F hu hp hL ms _ wG (some<|.int m.1) (some<|.int m.2.1) (some<|.int m.2.2) a1.ok Q' hP' a2 λm' h'=>hm m'<|mem_cons_of_mem _ h';refine⟨x',y',z',?_⟩;rw[map_cons,fD,foldl_cons];have e1:gT 3 (gC (gN 10)<|gC (gN 11)<|gC (gN 12) g0) (xJ m) (SR mv (.list<|L.map .int) st s (some<|.int u) (some<|.int lu.d) (some<|.int ((lu.c+1:Nat):Int)) x y z)=
    some (SR mv (.list<|L.map .int) st s (some<|.int u) (some<|.int lu.d) (some<|.int ((lu.c+1:Nat):Int)) (some<|.int m.1) (some<|.int m.2.1)<|some<|.int m.2.2):=by
   unfold xJ sV SR;walk_at "e0"
  rw[e1];simp only;rw[Uw (hL m hmo) (by rw[I.ll];exact hvn) (by rw[I.wl];exact hvn) hq];exact ih
def qN:VS:=(aK (bY (v2 aM (vN 5) (vN 6)) (gN 7))
 (aK (Gp cI 6 (vC (.int 1)))
 (aK (mF 4 (vN 7) (vC (.bool false)))
 (aK (bY (v2 aM (v2 aM (vN 3) (vN 7)) (vC (.int 0))) (gN 8))
 (aK (bY (v2 cI (v2 aM (v2 aM (vN 3) (vN 7)) (vC (.int 1))) (vC (.int 1))) (gN 9))
 (lM (cu (v2 aM (vN 0) (vN 7))) (gT 3 (gC (gN 10) (gC (gN 11) (gC (gN 12) g0))))
 El))))))
theorem XF (hn:n<=1000)(F:cT n (lf L) (bx ps) π)(hL:∀u m,m∈bx ps u->m.1<L.length)(I:mG n (lf L) (bx ps) π st s)(hQ:QI n π s)(hd:¬s.done)(a b c d e f:Option PyData):
  ∃a' b' c' d' e' f',qN (SR (cQ (ps.map toPq) n) (.list<|L.map .int) st s a b c d e f)=.nxt (SR (cQ (ps.map toPq) n) (.list<|L.map .int) st (mz (lf L) (bx ps) s) a' b' c' d' e' f'):=by
 obtain⟨⟨p,gk,Q⟩,hP⟩:=hQ;have hlt:s.place<s.queue.length:=by unfold RS.done at hd;omega
 have hq:s.queue[s.place]? =some s.room:=by unfold RS.room;rw[getElem?_eq_getElem hlt];rfl
 have hmem:=mem_of_getElem? hq;have hu:=I.ql _ hmem;obtain⟨lu,hl⟩:=I.lq _ hmem;have hat:s.at=lu:=by unfold RS.at;rw[hl];rfl
 have dc:=drop_cons hq;have I0:nQ n (lf L) (bx ps) π st {s with place:=s.place+1,wait:=s.wait.set s.room false}:=by
  refine⟨hlt,I.ll,by show(s.wait.set s.room false).length=n;rw[length_set];exact I.wl,I.ql,I.st0,I.lo,I.fr,λv hv=>?_,I.lq⟩;rcases jR (hv) with⟨_,e,_⟩|⟨hne,e⟩
  .cases e
  .have:=I.wq v e;rw[dc] at this;rcases mem_cons.mp this with z|z
   .exact absurd z hne
   .exact z
 obtain⟨p',hp'⟩:∃p',gk[s.place]? =some p':=⟨_,getElem?_eq_getElem (by rw[Q.len];exact hlt)⟩;have Q0:=Q.next I hq hp'
 obtain⟨x',y',z',key⟩:=Em hn F hu (Q.cnt s.place p' s.room lu (le_refl _) hp' hq hl) (hL s.room) (bx ps s.room) _ gk d e f I0 Q0 hP hl λm h=>h;have e0:mz (lf L) (bx ps) s=(bx ps s.room).foldl (relax (lf L) s.room lu.d<|lu.c+1) {s with place:=s.place+1,wait:=s.wait.set s.room false}:=by unfold mz;rw[hat]
 refine⟨some<|.int s.room,some<|.int lu.d,some<|.int<|(lu.c+1:Nat),x',y',z',?_⟩;rw[e0,←key];have e1:bW (s.queue.map cB) (s.place:Int)=some (.int s.room):=jy _ hq;have e2:bW (s.aq.map gn) (s.room:Int)=some (gn<|some lu):=jy _ hl;obtain⟨em,e3⟩:=Ny ps hu;have hw:s.room<s.wait.length:=by rw[I.wl];exact hu
 rw[em];unfold qN SR;walk_at "e0";rw[e1];walk_at "e0";rw[length_map,rF hw];walk_at "e0";rw[e2,jh];walk_at "e0";rw[e2,jh];walk_at "e0";rw[e3];walk_at "e0";rw[map_set];rfl
theorem Ux (hn:n<=1000)(F:cT n (lf L) (bx ps) π)(hL:∀u m,m∈bx ps u->m.1<L.length)(h:Ends (lf L) (bx ps) k s t):mG n (lf L) (bx ps) π st s->QI n π s->∀(a b c d e f:Option PyData),
  ∃a' b' c' d' e' f',bN (vB<|v2 sJ (vN 6)<|cU eU<|aC (vN 5) a0) qN (k+1) (SR (cQ (ps.map toPq) n) (.list<|L.map .int) st s a b c d e f)=.nxt (SR (cQ (ps.map toPq) n) (.list<|L.map .int) st t a' b' c' d' e' f'):=by
 induction h with
 |stop hd=>
  rename_i s;intro I hQ a b c d e f;refine⟨a,b,c,d,e,f,?_⟩;rw[bN]
  have:¬(s.place)<((s.queue.map cB).length:Int):=by unfold RS.done at hd;rw[length_map];omega
  have et:(vB<|v2 sJ (vN 6)<|cU eU<|aC (vN 5) a0) (SR (cQ (ps.map toPq) n) (.list<|L.map .int) st s a b c d e f)=some false:=by unfold SR;walk_at "e0";simp only[this,decide_false]
  rw[et]
 | @go k s t hd _ ih=>
  intro I hQ a b c d e f;obtain⟨a1,b1,c1,d1,e1,f1,h1⟩:=XF hn F hL I hQ hd a b c d e f;obtain⟨a2,b2,c2,d2,e2,f2,h2⟩:=ih (Nb F I hd).1 (adP F I hQ hd) a1 b1 c1 d1 e1 f1;refine⟨a2,b2,c2,d2,e2,f2,?_⟩;rw[bN]
  have:(s.place)<((s.queue.map cB).length:Int):=by unfold RS.done at hd;rw[length_map];omega
  have et:(vB<|v2 sJ (vN 6)<|cU eU<|aC (vN 5) a0) (SR (cQ (ps.map toPq) n) (.list<|L.map .int) st s a b c d e f)=some true:=by unfold SR;walk_at "e0";simp only[this,decide_true]
  rw[et];simp only;rw[h1];exact h2
theorem Rr (hn:n<=1000)(hst:st<n)(F:cT n (lf L) (bx ps) π)(hL:∀u m,m∈bx ps u->m.1<L.length):∃aq,Found n ps st (lf L) aq/\Pg.mY [cQ (ps.map toPq) n,.list<|L.map .int,.int st]=some (true,.list<|aq.map gn):=by
 have I0:mG n (lf L) (bx ps) π st (jO n st):=yS hst;have Q0:QI n π (jO n st):=aak hst;obtain⟨k,t,hE,It,hd⟩:=ends F I0;refine⟨t.aq,⟨k,t,hE,rfl⟩,?_⟩;obtain⟨a,b,c,d,e,f,hW⟩:=Ux hn F hL hE I0 Q0 none none none none none none;have hW2:=uF hW (by intro z;cases z);unfold Pg.mY Pg.Rq;have em:=(Ny ps hst).1;have hlen:(((List.range n).map λu=>PyData.list<|(bx ps u).map xJ).length)=(n):=by simp
 rw[em] at hW2 ⊢;walk_at "e0";rw[hlen];rw[wu _<|by omega];walk_at "e0";rw[List.length_replicate,rF hst];walk_at "e0";rw[hlen,wu _<|by omega];walk_at "e0";unfold qN El at hW2;have eS:SR (.list<|(List.range n).map λu=>.list<|(bx ps u).map xJ) (.list<|L.map .int) st (jO n st) none none none none none none=
  [some (Tg.fr,.list<|(List.range n).map λu=>.list<|(bx ps u).map xJ),some (Tg.fr,.list<|L.map .int),some (Tg.fr,.int st),some (Tg.ow,.list<|(replicate n PyData.none).set st<|.tuple [.int 0,.int 0,.none,.none]),some (Tg.ow,.list<|replicate n<|.bool false),some (Tg.ow,.list [.int st]),some (Tg.fr,.int 0),none,none,none,none,none,none]:=by
  unfold SR jO;simp only[map_set,List.map_replicate,gn,XD,frB,jx];rfl
 rw[eS] at hW2;rw[hW2];unfold SR;walk_at "e0"
end PM
namespace PM
open L2 VM Sp
variable {st g:Nat}
theorem aao (h:iZ ps m u v x):m<2*ps.length:=by
 obtain⟨i,q,e,r⟩:=h.cases
 have:i<ps.length:=by
  by_cases z:i<ps.length
  .exact z
  .rw[getElem?_eq_none<|by omega] at e;cases e
 rcases r with⟨_,_,rfl,_⟩|⟨_,_,rfl,_⟩<;>omega
theorem Nz (T:Tree n left (bx ps) π st aq)(h:aq[v]? =some (some l)):∀m∈cW aq l.c v,m<2*ps.length:=λm hm=>by obtain⟨_,_,_,_,_,a,_⟩:=Ai T h m hm;exact aao a
theorem Rt (T:Tree n left (bx ps) π st aq)(h:aq[v]? =some (some l)):(cW aq l.c v).length<=2*ps.length:=jL (yU T h)<|Nz T h
def Kc:VS:=(aK (iM 3 (aC (v2 aM (v2 aM (vN 0) (vN 4)) (vC (.int 2))) a0))
 (bY (v2 aM (v2 aM (vN 0) (vN 4)) (vC (.int 3))) (gN 4)))
theorem Uy (hp:ps.length<=1000000)(T:Tree n left (bx ps) π st aq)(h:aq[g]? =some (some l)):
  Pg.mH [.list<|aq.map gn,.int st,.int g]=some (true,.list<|(cW aq l.c g).map cB):=by
 have key:∀v (l:Lb),aq[v]? =some (some l)->∀acc:List Nat,acc.length+(cW aq l.c v).length<=16000000->
   bN (vB<|v2 jN (vN 4)<|vN 1) Kc ((cW aq l.c v).length+1) [some (.fr,.list<|aq.map gn),some (.fr,.int st),some (.fr,.int g),some (.ow,.list<|acc.map cB),some (.fr,.int v)]=
    .nxt [some (.fr,.list<|aq.map gn),some (.fr,.int st),some (.fr,.int g),some (.ow,.list<|(acc++cW aq l.c v).map cB),some (.fr,.int st)]:=by
  refine oM T (P:=λv _ ms=>∀acc:List Nat,acc.length+ms.length<=16000000->
   bN (vB<|v2 jN (vN 4)<|vN 1) Kc (ms.length+1) [some (.fr,.list<|aq.map gn),some (.fr,.int st),some (.fr,.int g),some (.ow,.list<|acc.map cB),some (.fr,.int v)]=
    .nxt [some (.fr,.list (aq.map gn)),some (.fr,.int st),some (.fr,.int g),some (.ow,.list ((acc++ms).map cB)),some (.fr,.int st)]) (λacc _=>?_) (λv l mv u x lu ms hv hne hfr hL hpos hu hd hc hms ih acc hb=>?_)
  .rw[bN];walk_at "e0";simp
  .rw[bN];have e0:bW (aq.map gn) (v:Int)=some (gn<|some l):=jy _ hv;have ne:¬(v)=(st:Int):=by omega
   walk_at "e0";simp only[ne,decide_false];walk_at "e0";unfold Kc;walk_at "e0";rw[e0,jh,hfr];walk_at "e0";rw[if_pos (by rw[length_map];rw[length_cons] at hb;exact aY<|by omega)];walk_at "e0";rw[e0,jh,hfr];walk_at "e0";have:=ih (acc++[mv]) (by rw[length_append,List.length_singleton];rw[length_cons] at hb;omega);rw[map_append,append_assoc] at this;exact this
 have k2:=key g l h [] (by have:=Rt T h;rw[length_nil];omega);have k3:=uF k2 (by intro z;cases z);unfold Kc at k3;unfold Pg.mH Pg.Nx;walk_at "e0";simp only[map_nil,nil_append] at k3;rw[k3];walk_at "e0"
theorem Qk (m:Nat):Builtin.bitXor (m:Int) 1=(dz m:Int):=by
 rw[PyProof.Rows.bitXor_and]
 have:Builtin.bitAnd (m) 1=((m % 2)):=by unfold Builtin.bitAnd;simp[Nat.and_one_is_mod]
 rw[this];unfold dz;split<;>omega
def sW (p:Int)(L:List Int)(m:Nat):List Int:=(L.set m<|lf L m - p).set (dz m)<|lf (L.set m<|lf L m - p) (dz m)+p
theorem NK (h:i<L.length)(x:Int)(j:Nat):lf (L.set i x) j=if j=i then x else lf L j:=by
 unfold lf;rw[getD_eq_getElem?_getD,getD_eq_getElem?_getD];by_cases hj:j=i
 .subst hj;rw[if_pos rfl,getElem?_set_self h];rfl
 .rw[if_neg hj,getElem?_set_ne<|Ne.symm hj]
theorem Uz (m:Nat):dz m≠m:=by unfold dz;split<;>omega
theorem zc (p:Int)(L:List Int)(m:Nat):(sW p L m).length=L.length:=by unfold sW;rw[length_set,length_set]
theorem aap (h1:m<L.length)(h2:dz m<L.length):lf (sW p L m)=move p (lf L) m:=by
 funext i;unfold sW move;rw[NK (by rw[length_set];exact h2),NK h1,NK h1];have:=Uz m;by_cases hi:i=m
 .subst hi;rw[if_neg<|Ne.symm this,if_pos rfl];simp
 .by_cases hj:i=dz m
  .subst hj;simp[hi]
  .simp[hi,hj]
def o8 (p:Int)(L:List Int)(ms:List Nat):List Int:=ms.foldl (sW p) L
theorem IK (p:Int):∀(ms:List Nat) (L:List Int),(o8 p L ms).length=L.length
 |[],_=>rfl
 |m::ms,L=>by show(o8 p (sW p L m) ms).length=_;rw[IK p ms,zc]
theorem En (h:m<2*k):dz m<2*k:=by unfold dz;split<;>omega
theorem NP (p:Int):∀(ms:List Nat) (L:List Int),L.length=2*k->(∀m∈ms,m<2*k)->lf (o8 p L ms)=dZ p (lf L) ms
 |[],_,_,_=>rfl
 |m::ms,L,hL,hm=>by have h1:=hm m mem_cons_self;show lf (o8 p (sW p L m) ms)=dZ p (move p (lf L) m) ms;rw[NP p ms _ (by rw[zc];exact hL) λx hx=>hm x<|mem_cons_of_mem _ hx,aap (by omega) (by have:=En h1;omega)]
theorem Eo {L:List Int}(h:m<L.length):bW (L.map PyData.int) (m:Int)=some (.int<|lf L m):=by refine jy _ ?_;unfold lf;rw[getD_eq_getElem?_getD,getElem?_eq_getElem h];rfl
theorem NQ {L:List Int}(h:m<L.length):(L.map PyData.int)[m]? =some (.int<|lf L m):=by unfold lf;rw[getElem?_map,getD_eq_getElem?_getD,getElem?_eq_getElem h];rfl
theorem af7 {k:Nat}(hL:L.length=2*k)(hm:∀m∈ms,m<2*k)(hne:ms≠[])(hl:ms.length<=16000000):
  ∃p,(∃m∈ms,p=lf L m)/\(∀m∈ms,p<=lf L m)/\Pg.rO [none,some<|.list<|ms.map cB] (L.map .int)=some (false,.int p,(o8 p L ms).map .int):=by
 refine⟨jr<|ms.map<|lf L,?_,?_,?_⟩
 .obtain⟨h1,_⟩:=kh (ns:=ms.map<|lf L) (by simpa using hne);obtain⟨m,h2,h3⟩:=mem_map.mp h1;exact⟨m,h2,h3.symm⟩
 .intro m h;exact(kh<|by simpa using hne).2 _ (mem_map.mpr ⟨m,h,rfl⟩)
 .generalize hp:jr (ms.map (lf L))=p;unfold Pg.rO Pg.Nv Cu;rw[if_pos ⟨rfl,rfl⟩];unfold sO;walk_at "e0";rw[MJ (by rw[length_map];exact aY hl)];rw[gJ (f:=λd=>match d with|.int m=>.int (lf L m.toNat)|_=>.none) (by
   intro d hd;obtain⟨m,h,rfl⟩:=mem_map.mp hd;refine⟨[some (Tg.fr,.int m),some (Tg.fr,.list<|L.map .int)],?_,rfl,?_⟩
   .unfold cB;walk_at "e0"
   .have:=hm m h;walk_at "e0";rw[Eo (by omega)];rfl)]
  rw[map_map];have em:ms.map ((λd=>match d with|.int m=>PyData.int (lf L m.toNat)|_=>.none) ∘ cB)=(ms.map<|lf L).map PyData.int:=by rw[map_map];exact map_congr_left λm _=>by simp[cB]
  rw[em];walk_at "e0";have eM:minD [.list<|(ms.map<|lf L).map PyData.int]=some (.int p):=by
   simp only[minD,jJ];cases ms with
   |nil=>exact absurd rfl hne
   |cons m r=>simp only[map_cons] at hp ⊢;rw[hp]
  rw[eM];walk_at "e0";have loop:∀rs (M:List Int) (x:Option PyData),M.length=2*k->(∀m∈rs,m<2*k)->∃x',
    fD (gN 3) (aK (nO mD 0 (vN 3)<|vF 2)<|nO cI 0 (v2 Ug (vN 3)<|vC<|.int 1)<|vF 2) (rs.map cB) [some (Tg.io,.list<|M.map .int),some (Tg.fr,.list<|ms.map cB),some (Tg.fr,.int p),ob x]=
     .nxt [some (Tg.io,.list<|(o8 p M rs).map .int),some (Tg.fr,.list<|ms.map cB),some (Tg.fr,.int p),ob x']:=λrs=>by
   induction rs with
   |nil=>intro M x _ _;exact⟨x,rfl⟩
   |cons m rs ih=>intro M x hM hmm;have h1:=hmm m mem_cons_self;have h2:=En h1;obtain⟨x',hx⟩:=ih (sW p M m) (some<|.int m) (by rw[zc];exact hM) λy hy=>hmm y<|mem_cons_of_mem _ hy;refine⟨x',?_⟩;rw[map_cons,fD];unfold cB;walk_at "e0";rw[length_map,rF<|by omega];walk_at "e0";rw[NQ<|by omega];walk_at "e0";rw[Qk,length_set,length_map,rF<|by omega];walk_at "e0";rw[<-map_set,NQ (by rw[length_set];omega)];walk_at "e0";rw[<-map_set];exact hx
  obtain⟨x',hx⟩:=loop ms L none hL hm;rw[jx] at hx;rw[hx];walk_at "e0";simp only[vZ,getElem?_cons_zero]
end PM
namespace PM
open L2 VM Sp
variable {left:Lf}
noncomputable def CG:Option Int->PyData
 |none=>.none
 |some T=>.int T
noncomputable def lE (x:Int×Int):PyData:=.tuple [.int x.1,.int x.2]
theorem pX:∀aq:List (Option Lb),j9 (aq.map gn)=true
 |[]=>rfl
 |none::r=>by simp only[map_cons,gn,j9,pP,pX r,Bool.and_self]
 |some l::r=>by
  have:pP (gn<|some l)=true:=by
   rw[jh];cases h:l.fr with
   |none=>simp[pP,j9,XD,frB]
   |some x=>simp[pP,j9,XD,frB]
  simp only[map_cons,j9,this,pX r,Bool.and_self]
def sX:VS:=(aK (bY (pR Pg.mY (aC (vN 0) (aC (vN 1) (aC (vN 2) a0)))) (gN 6))
 (aK (c7 (vB (v2 isD (v2 aM (vN 6) (vN 3)) (vC .none)))
 (fU 5)
 cJ)
 (aK (bY (v2 aM (v2 aM (vN 6) (vN 3)) (vC (.int 0))) (gN 7))
 (aK (c7 (fP (vB (v2 Lr (vN 4) (vC .none))) (vB (v2 yF (vN 7) (vN 4))))
 (fU 5)
 cJ)
 (aK (Ad Pg.rO 1 (Bk (qD (aZ Pg.mH (aC (vF 6) (aC (vF 2) (aC (vF 3) a0)))) DW)) 8)
 (c7 (fP (tM (vN 5)) (vB (v2 fZ (v2 aM (v2 aM (vN 5) (v1 lK (vC (.int 1)))) (vC (.int 0))) (vN 7))))
 (mF 5 (v1 lK<|vC<|.int 1)<|fB<|aC (vF 7)<|aC (v2 cI (v2 aM (v2 aM (vN 5)<|v1 lK<|vC<|.int 1)<|vC<|.int 1)<|vN 8) a0)
 (iM 5 (aC (fB (aC (vF 7) (aC (vF 8) a0))) a0))))))))
def rQ (mv:PyData)(L:List Int)(st g:Nat)(lim:Option Int)(s:List (Int×Int))(a b c:Option PyData):GS:=
 [some (.fr,mv),some (.io,.list<|L.map .int),some (.fr,.int st),some (.fr,.int g),some (.fr,CG lim),some (.ow,.list<|s.map lE),ob a,ob b,ob c]
theorem KY (h:xs.getLast? =some y):bW xs (-1)=some y:=by
 have hne:xs≠[]:=by intro z;rw[z] at h;cases h
 unfold bW;rw[Lp<|List.length_pos_iff.mpr hne];rw[List.getLast?_eq_getElem?] at h;exact h
theorem getLast_map (f:α->β)(xs:List α):(xs.map f).getLast? =xs.getLast?.map f:=by rw[List.getLast?_eq_getElem?,List.getLast?_eq_getElem?,length_map,getElem?_map]
theorem XH (hs:(d8 s (len,p)).length<=16000000):
    (c7 (fP (tM (vN 5)) (vB (v2 fZ (v2 aM (v2 aM (vN 5) (v1 lK (vC (.int 1)))) (vC (.int 0))) (vN 7))))
     (mF 5 (v1 lK<|vC<|.int 1)<|fB<|aC (vF 7)<|aC (v2 cI (v2 aM (v2 aM (vN 5)<|v1 lK<|vC<|.int 1)<|vC<|.int 1)<|vN 8) a0)
     (iM 5 (aC (fB (aC (vF 7) (aC (vF 8) a0))) a0))) (rQ mv L st g lim s a (some (.int len)) (some (.int p)))=.nxt (rQ mv L st g lim (d8 s (len,p)) a (some (.int len)) (some (.int p))):=by
  unfold rQ;walk_at "e0";unfold d8 at hs ⊢;cases e:s.getLast? with
  |none=>
   have:s=[]:=by simpa using e
   subst this;walk_at "e0";simp only[List.isEmpty_nil,Bool.not_true];walk_at "e0";rw[if_pos<|aY<|by simp];rfl
  |some y=>
   rw[e] at hs;have hne:s≠[]:=by intro z;rw[z] at e;cases e
   have em:(s.map lE).isEmpty=false:=by cases s<;>simp_all
   have al:bW (s.map lE) (-1)=some (lE y):=KY (by rw[getLast_map,e];rfl);simp only[em,Bool.not_false];walk_at "e0";rw[al];unfold lE;walk_at "e0";by_cases hy:y.1=len
   . simp only[hy,decide_true]
     walk_at "e0";have al2:bW (s.map<|λx=>PyData.tuple [.int x.1,.int x.2]) (-1)=some (.tuple [.int y.1,.int y.2]):=al;rw[al2];walk_at "e0";rw[Lp (by rw[length_map];exact List.length_pos_iff.mpr hne)];walk_at "e0";have e2:=wF e;have es:(s.map<|λx=>PyData.tuple [.int x.1,.int x.2]).set ((s.map<|λx=>PyData.tuple [.int x.1,.int x.2]).length - 1) (.tuple [.int len,.int<|y.2+p])=(s.dropLast++[(len,y.2+p)]).map (λx=>PyData.tuple [.int x.1,.int x.2]):=by rw[e2];simp
     rw[es]
   . simp only[hy,decide_false]
     walk_at "e0";simp only[hy,if_false] at hs;rw[if_pos (by rw[length_map];rw[length_append,List.length_singleton] at hs;exact aY<|by omega)];rw[map_append];rfl
theorem wJ (h1:c S=some true)(h2:b S=.ret S2 o d):bN c b (k+1) S=.ret S2 o d:=by rw[bN,h1];simp only;rw[h2]
theorem zf (h1:c S=some true)(h2:b S=.nxt S2)(h3:bN c b k S2=o):bN c b (k+1) S=o:=by rw[bN,h1];simp only;rw[h2];exact h3
theorem zj (hn:n<=1000)(hp:ps.length<=1000000)(hst:st<n)(hg:g<n)(hne:st≠g)(Bs:L.length=2*ps.length)(S:St n ps st (lf L) π)(a b c:Option PyData)(hF:Found n ps st (lf L) aq):
    (aq[g]? =some none->∃a',sX (rQ (cQ (ps.map toPq) n) L st g lim s a b c)=.ret ((rQ (cQ (ps.map toPq) n) L st g lim s a' b c).set 5 none) true (.list<|s.map lE))/\
    (∀l T,aq[g]? =some (some l)->lim=some T->T<l.d->∃a' b',sX (rQ (cQ (ps.map toPq) n) L st g lim s a b c)=.ret ((rQ (cQ (ps.map toPq) n) L st g lim s a' b' c).set 5 none) true (.list<|s.map lE))/\
    (∀l,aq[g]? =some (some l)->(∀T,lim=some T->l.d<=T)->∃p,(∃m∈cW aq l.c g,p=lf L m)/\(∀m∈cW aq l.c g,p<=lf L m)/\((d8 s (l.d,p)).length<=16000000->
      ∃a' b' c',sX (rQ (cQ (ps.map toPq) n) L st g lim s a b c)=.nxt (rQ (cQ (ps.map toPq) n) (o8 p L (cW aq l.c g)) st g lim (d8 s (l.d,p)) a' b' c'))):=by
  obtain⟨Cy,hF',er⟩:=Rr hn hst S.fit (λu m hm=>by
    obtain⟨i,q,e,r⟩:=dG.mp hm
    have:i<ps.length:=by
      by_cases z:i<ps.length
      . exact z
      . rw[getElem?_eq_none<|by omega] at e;cases e
    rcases r with⟨_,rfl⟩|⟨_,rfl⟩<;>(simp only;omega))
  have:=hF.uniq hF';subst this;have T:=jd S.fit hst hF;refine⟨λh=> ?_, λl T' h hl hT=> ?_, λl h hl=> ?_⟩
  . have e1:bW (aq.map gn) (g:Int)=some (gn none):=jy _ h
    refine⟨some<|.list<|aq.map gn, ?_⟩;unfold sX rQ;walk_at "e0";rw[er];walk_at "e0";rw[pX aq];walk_at "e0";rw[e1];unfold gn;walk_at "e0"
  . have e1:bW (aq.map gn) (g:Int)=some (gn<|some l):=jy _ h
    refine⟨some<|.list<|aq.map gn,some<|.int l.d, ?_⟩;subst hl;unfold sX rQ;walk_at "e0";rw[er];walk_at "e0";rw[pX aq];walk_at "e0";rw[e1,jh];walk_at "e0";rw[e1,jh];walk_at "e0";unfold CG;walk_at "e0";simp only[hT,decide_true];walk_at "e0"
  . have e1:bW (aq.map gn) (g:Int)=some (gn<|some l):=jy _ h
    have wl:=Rt T h;obtain⟨p,p1,p2,ep⟩:=af7 Bs (Nz T h) (Xy T hne h) (by omega);refine⟨p,p1,p2, λhs=>⟨some (.list (aq.map gn)),some (.int l.d),some (.int p), ?_⟩⟩;rw[<-XH hs];unfold sX;generalize hk:(c7 (fP (tM (vN 5)) (vB (v2 fZ (v2 aM (v2 aM (vN 5) (v1 lK (vC (.int 1)))) (vC (.int 0))) (vN 7))))
     (mF 5 (v1 lK<|vC<|.int 1)<|fB<|aC (vF 7)<|aC (v2 cI (v2 aM (v2 aM (vN 5)<|v1 lK<|vC<|.int 1)<|vC<|.int 1)<|vN 8) a0)
     (iM 5 (aC (fB (aC (vF 7) (aC (vF 8) a0))) a0)))=kk
    unfold rQ;walk_at "e0";rw[er];walk_at "e0";rw[pX aq];walk_at "e0";rw[e1,jh];walk_at "e0";rw[e1,jh];walk_at "e0";have fin:∀o,Gq (Ad Pg.rO 1 (Bk (qD (aZ Pg.mH (aC (vF 6) (aC (vF 2) (aC (vF 3) a0)))) DW)) 8
        [some (Tg.fr,cQ (ps.map toPq) n),some (Tg.io,.list (L.map .int)),some (Tg.fr,.int st),some (Tg.fr,.int g),some (Tg.fr,o),some (Tg.ow,.list (s.map lE)),some (Tg.fr,.list (aq.map gn)),some (Tg.fr,.int l.d),ob c]) kk=
        kk [some (Tg.fr,cQ (ps.map toPq) n),some (Tg.io,.list<|(o8 p L<|cW aq l.c g).map .int),some (Tg.fr,.int st),some (Tg.fr,.int g),some (Tg.fr,o),some (Tg.ow,.list<|s.map lE),some (Tg.fr,.list<|aq.map gn),some (Tg.fr,.int l.d),some (Tg.fr,.int p)]:= λo=>by
      simp only[Ad,Bk,qD,DW];walk_at "e0";rw[Uy hp T h];walk_at "e0";rw[ep];simp only;walk_at "e0";simp;walk_at "e0"
    cases hlim:lim with
    |none=>walk_at "e0";exact fin _
    |some T'=>
     have:=hl T' hlim;have nT:¬T'<l.d:=by omega
     unfold CG;walk_at "e0";simp only[nT,decide_false];walk_at "e0";exact fin _
theorem XJ (Hh:aW n ps)(hn:n<=1000)(hp:ps.length<=1000000)(hst:st<n)(hg:g<n)(hne:st≠g)(R:Runs n ps st g lim left r bR):
  ∀(L:List Int) (π:Nat->Int) (s:List (Int×Int)) (a b c:Option PyData),lf L=left->L.length=2*ps.length->St n ps st (lf L) π->(∀k,((r.take k).foldl d8 s).length<=16000000)->
  ∃k jF a' b' c',lf jF=bR/\jF.length=2*ps.length/\bN (vB<|vC<|.bool true) sX k (rQ (cQ (ps.map toPq) n) L st g lim s a b c)=.ret ((rQ (cQ (ps.map toPq) n) jF st g lim (r.foldl d8 s) a' b' c').set 5 none) true (.list<|(r.foldl d8 s).map lE):=by
 induction R with
 |none hF h=>
  intro L π s a b c hL hl S hs;subst hL;obtain⟨a',e⟩:=(zj hn hp hst hg hne hl S a b c hF).1 h;exact⟨1,L,a',b,c,rfl,hl,wJ rfl e⟩
 | @far left aq l T hF h hT hlt=>
  intro L π s a b c hL hl S hs;subst hL;obtain⟨a',b',e⟩:=(zj hn hp hst hg hne hl S a b c hF).2.1 l T h hT hlt;exact⟨1,L,a',b',c,rfl,hl,wJ rfl e⟩
 | @go left left' bR len p r P hl R ih=>
  intro L π s a b c hL hll S hs;subst hL;obtain⟨_,_,⟨Bo,S1,_⟩,_,_⟩:=kj Hh S hst P;obtain⟨aq,l,hF,h,rfl,hp1,hp2,e⟩:=P.ex;have T:=jd S.fit hst hF;obtain⟨p',q1,q2,hgo⟩:=(zj hn hp hst hg hne hll S a b c hF).2.2 l h hl;have epp:p'=p:=by obtain⟨m,hm,e1⟩:=q1;obtain⟨m2,hm2,e2⟩:=hp1;have:=q2 m2 hm2;have:=hp2 m hm;omega
  subst epp;obtain⟨a',b',c',e1⟩:=hgo (by have:=hs 1;simpa using this);have el:lf (o8 p' L<|cW aq l.c g)=left':=by rw[NP p' _ L hll<|Nz T h,e]
  obtain⟨k,jF,a2,b2,c2,f1,f2,f3⟩:=ih (o8 p' L<|cW aq l.c g) Bo (d8 s (l.d,p')) a' b' c' el (by rw[IK];exact hll) (by rw[el];exact S1) (λk=>by have:=hs<|k+1;simpa using this);exact⟨k+1,jF,a2,b2,c2,f1,f2,zf rfl e1 f3⟩
theorem Ep (Hh:aW n ps)(hn:n<=1000)(hp:ps.length<=1000000)(hst:st<n)(hg:g<n)(hne:st≠g)(R:Runs n ps st g lim (lf L) r bR)(hl:L.length=2*ps.length)(S:St n ps st (lf L) π)(hs:∀k,(grouped<|r.take k).length<=16000000):
  ∃jF,lf jF=bR/\jF.length=2*ps.length/\Pg.lD [some<|cQ (ps.map toPq) n,none,some<|.int st,some<|.int g,some<|CG lim] (L.map .int)=some (true,.list<|(grouped r).map lE,jF.map .int):=by
 obtain⟨k,jF,a,b,c,h1,h2,h3⟩:=XJ Hh hn hp hst hg hne R L π [] none none none rfl hl S hs;have h4:=uF h3 (by intro z;cases z);refine⟨jF,h1,h2,?_⟩;unfold Pg.lD Pg.wH Cu;rw[if_pos ⟨rfl,rfl⟩];unfold sO;walk_at "e0";unfold sX at h4;have eS:rQ (cQ (ps.map toPq) n) L st g lim [] none none none=[some (Tg.fr,cQ (ps.map toPq) n),some (Tg.io,.list<|L.map .int),some (Tg.fr,.int st),some (Tg.fr,.int g),some (Tg.fr,CG lim),some (Tg.ow,.list []),none,none,none]:=rfl;rw[eS] at h4;rw[h4];walk_at "e0";simp only[vZ,getElem?_cons_zero,getElem?_cons_succ];rfl
noncomputable def o9:List aQ->List Int
 |[]=>[]
 |q::r=>q.w::0::o9 r
theorem zm:∀ps:List aQ,(o9 ps).length=2*ps.length
 |[]=>rfl
 |_::r=>by simp only[o9,length_cons,zm r];omega
theorem wK:∀ps:List aQ,lf (o9 ps)=dO ps
 |[]=>by funext i;unfold lf dO o9;simp
 |q::r=>by
  have ih:=wK r;funext i
  match i with
  |0=>rfl
  |1=>rfl
  |i+2=>
   have e1:lf (o9 (q::r)) (i+2)=lf (o9 r) i:=rfl;have e2:dO (q::r) (i+2)=dO r i:=by
    unfold dO;have a:(i+2) % 2=i % 2:=by omega
    have b:(i+2)/2=i/2+1:=by omega
    rw[a,b,getElem?_cons_succ]
   rw[e1,e2,ih]
noncomputable def gK:List aQ->List Int->List Int
 |q::r,f::fl=>(q.w - f)::f::gK r fl
 |_,_=>[]
theorem Er:∀ps:List aQ,gK ps (replicate ps.length 0)=o9 ps
 |[]=>rfl
 |q::r=>by rw[length_cons,replicate_succ,gK,o9,Er r,sub_zero]
theorem Ru (hp:ps.length<=1000000):Pg.dR [hD ps,.list<|fl.map .int]=some (true,.list<|(gK ps fl).map .int):=by
 unfold Pg.dR Pg.xH hD uN;walk_at "e0";have key:∀all (r:List aQ) (fs acc:List Int) (x y:Option PyData),acc.length+2*r.length<=16000000->∃x' y',fD (gT 2<|gC (gN 3)<|gC (gN 4) g0) (aK (iM 2<|aC (v2 mD (v2 aM (vN 3)<|vC<|.int 2)<|vN 4) a0)<|iM 2<|aC (vF 4) a0) (vV ((r.map toPq).map pD)<|fs.map .int)
   [some (Tg.fr,.list<|(ps.map toPq).map pD),some (Tg.fr,all),some (Tg.ow,.list<|acc.map .int),ob x,ob y]=.nxt [some (Tg.fr,.list<|(ps.map toPq).map pD),some (Tg.fr,all),some (Tg.ow,.list<|(acc++gK r fs).map .int),ob x',ob y']:=λall r=>by
  induction r with
  |nil=>intro fs acc x y _;exact⟨x,y,by simp[fD,gK,vV]⟩
  |cons q r ih=>
   intro fs acc x y hb;cases fs with
   |nil=>exact⟨x,y,by simp[fD,gK,vV]⟩
   |cons f fs=>
    obtain⟨x',y',hx⟩:=ih fs (acc++[q.w - f,f]) (some<|pD<|toPq q) (some<|.int f) (by rw[length_append];simp only[length_cons,length_nil] at hb ⊢;omega);refine⟨x',y',?_⟩;have ez:vV (((q::r).map toPq).map pD) ((f::fs).map .int)=.tuple [pD<|toPq q,.int f]::vV ((r.map toPq).map pD) (fs.map .int):=rfl;rw[ez,fD];simp only[length_cons] at hb;unfold pD at hx ⊢;walk_at "e0";rw[if_pos (by rw[length_map];exact aY<|by omega)];walk_at "e0";rw[if_pos (by rw[length_append,length_map];exact aY (by simp;omega))];walk_at "e0"
    have:(acc++[q.w - f,f]).map PyData.int=acc.map .int++[.int<|q.w - f]++[.int f]:=by simp
    rw[this] at hx;rw[gK];simp only[append_assoc,cons_append,nil_append,uG] at hx ⊢;exact hx
 obtain⟨x',y',hx⟩:=key (.list<|fl.map .int) ps fl [] none none (by simp;omega);simp only[map_nil,nil_append,jx] at hx;rw[hx];walk_at "e0"
theorem XM (hp:ps.length<=1000000):Pg.dR [hD ps,.list<|replicate ps.length<|.int 0]=some (true,.list<|(o9 ps).map .int):=by have:=Ru (fl:=replicate ps.length 0) hp;rw[List.map_replicate,Er] at this;exact this
end PM
namespace PM
open L2 VM Sp
variable {left:Lf}
structure Small (n:Nat)(ps:List aQ):Prop where
 n1:n<=1000
 p1:ps.length<=1000
 vs:∃vs:List Int,vs.length<=16000000/\∀v∈vals ps,v∈vs
theorem Es (Hh:aW n ps):∀q∈ps.map toPq,(0<=q.1/\q.1<(n:Int))/\0<=q.2.1/\q.2.1<(n:Int):=λq hq=>by obtain⟨p,hp,rfl⟩:=mem_map.mp hq;have:=Hh.ra p hp;have:=Hh.rb p hp;show(0<=(p.a:Int)/\(p.a:Int)<n)/\0<=(p.b:Int)/\(p.b:Int)<n;omega
theorem IV (Hh:aW n ps)(hst:st<n)(hne:st≠g)(hs:∃vs:List Int,vs.length<=16000000/\∀v∈vals ps,v∈vs)(R:Runs n ps st g lim (dO ps) r bR):
  (∀x∈r,1<=x.1/\1<=x.2)/\∀k,(grouped<|r.take k).length<=16000000:=by
 have S0:St n ps st (dO ps) (λv=>if v=st then 0 else 1):=uM Hh;obtain⟨_,_,_,h4,h5⟩:=Ro Hh hst R S0;have h1:∀x∈r,1<=x.1/\1<=x.2:=λx hx=>by obtain⟨a,b,_⟩:=h4 x hx;simp only[Ne.symm hne,if_false] at b;omega
 refine⟨h1,λk=>?_⟩;obtain⟨vs,hv,hm⟩:=hs;have:=grouped_len (h5.sublist<|List.take_sublist k r) (λx hx=>h1 x<|mem_of_mem_take hx) λx hx=>hm _<|XC Hh hst R S0 x<|mem_of_mem_take hx;omega
theorem Rv (Hh:aW n ps)(sm:Small n ps):VM.fG [.int n,hD ps]=some (false,cQ (ps.map toPq) n):=by have:=Ei (by omega) (by have:=sm.n1;omega) (by rw[length_map];exact sm.p1) (Es Hh);rw[toNat_natCast] at this;exact this
theorem alG (Hh:aW n ps)(sm:Small n ps)(hst:st<n)(hg:g<n)(hne:st≠g):∃r bR,Runs n ps st g none (dO ps) r bR/\Pg.wI [.int n,hD ps,.int st,.int g]=some (true,.list<|(grouped r).map lE):=by
 have S0:St n ps st (dO ps) (λv=>if v=st then 0 else 1):=uM Hh;obtain⟨r,bR,R⟩:=Rp Hh hst hg hne S0;refine⟨r,bR,R,?_⟩;have hp:ps.length<=1000000:=by have:=sm.p1;omega
 rw[<-wK] at R S0;obtain⟨jF,h1,h2,h3⟩:=Ep Hh sm.n1 hp hst hg hne R (zm ps) S0 (IV Hh hst hne sm.vs (by rw[<-wK];exact R)).2;unfold Pg.wI Pg.Ej;walk_at "e0";unfold hD uN;walk_at "e0";rw[length_map,length_map,wu _<|by omega];have el:=XM hp;have em:=Rv Hh sm;unfold hD uN at el em;walk_at "e0";rw[el];walk_at "e0";simp only[WW,Bk,qD,DW];walk_at "e0";rw[em];walk_at "e0";simp only[CG] at h3;rw[h3];walk_at "e0"
def j4 (L:List Int)(k:Nat):List Int:=(List.range k).map λi=>lf L<|2*i+1
theorem XQ (Hh:aW n ps)(sm:Small n ps)(hst:st<n)(hg:g<n)(hne:st≠g)(R:Runs n ps st g (some T) (dO ps) r bR):∃jF,lf jF=bR/\jF.length=2*ps.length/\Pg.gA [.int n,hD ps,.int st,.int g,.int T]=some (true,.list<|(j4 jF ps.length).map .int):=by
 have S0:St n ps st (dO ps) (λv=>if v=st then 0 else 1):=uM Hh;have hp:ps.length<=1000000:=by have:=sm.p1;omega
 have hp1:=sm.p1;have R':=R;rw[<-wK] at R' S0;obtain⟨jF,h1,h2,h3⟩:=Ep Hh sm.n1 hp hst hg hne R' (zm ps) S0 (IV Hh hst hne sm.vs R).2;refine⟨jF,h1,h2,?_⟩;unfold Pg.gA Pg.Bq;walk_at "e0";unfold hD uN;walk_at "e0";rw[length_map,length_map,wu _ (by omega)];have el:=XM hp;have em:=Rv Hh sm;unfold hD uN at el em;walk_at "e0";rw[el];walk_at "e0";simp only[J5,Bk,qD,DW];walk_at "e0";rw[em];walk_at "e0";simp only[CG] at h3;rw[h3];walk_at "e0";rw[length_map,length_map,if_pos (by omega)];walk_at "e0";rw[MJ (by rw[mq];exact aY (by omega))];rw[gJ (f:=λd=>match d with|.int i=>.int (lf jF (2*i.toNat+1))|_=>.none) (by
  intro d hd;obtain⟨j,hj⟩:=List.mem_iff_getElem?.mp hd;obtain⟨hj,rfl⟩:=wj hj;rw[toNat_natCast] at hj;refine⟨[some (Tg.fr,.int<|0+j),some (Tg.fr,.list<|jF.map .int)],?_,rfl,?_⟩
  .walk_at "e0"
  .walk_at "e0";rw[rE (by decide) (by decide) (by omega) (by omega)];walk_at "e0";have e:(2)*(0+j)+1=((2*j+1:Nat):Int):=by omega
   rw[e,Eo<|by omega];have e2:(0+(j:Int)).toNat=j:=by omega
   simp only[e2];walk_at "e0")]
 walk_at "e0";congr 3;unfold iY j4;rw[map_map,map_map,toNat_natCast];exact map_congr_left λi _=>by
  have e2:(0+(i:Int)).toNat=i:=by omega
  simp only[comp,e2]
theorem af8 (Hh:aW n ps)(sm:Small n ps)(hst:st<n)(hg:g<n)(hne:st≠g):∃r jF,Runs n ps st g (some T) (dO ps) r (lf jF)/\jF.length=2*ps.length/\Pg.gA [.int n,hD ps,.int st,.int g,.int T]=some (true,.list<|(j4 jF ps.length).map .int):=by have S0:St n ps st (dO ps) (λv=>if v=st then 0 else 1):=uM Hh;obtain⟨r,bR,R⟩:=Rp Hh hst hg hne S0;obtain⟨jF,rfl,h2,h3⟩:=XQ Hh sm hst hg hne R;exact⟨r,jF,R,h2,h3⟩
end PM
namespace LH
open L2 VM Sp PM
noncomputable def cM (ns:List Int)(k:Int):Int:=ns.getD k.toNat 0
theorem NT {ns:List Int}{k:Int}(h0:0<=k)(h1:k<ns.length):bW (ns.map PyData.int) k=some (.int<|cM ns k):=by
 obtain⟨j,rfl⟩:∃j:Nat,k=j:=⟨k.toNat,by omega⟩;have hj:j<ns.length:=by omega
 refine dY ?_;simp[hj,cM]
theorem d9 (a:Int)(h:0<b):0<=a % b/\a % b<b:=⟨Int.emod_nonneg a<|by omega,Int.emod_lt_of_pos a h⟩
structure an8 (m B C:Int)(q:Pq):Prop where
 a0:0<=q.1
 a1:q.1<m
 b0:0<=q.2.1
 b1:q.2.1<m
 ne:q.1≠q.2.1
 w1:1<=q.2.2.1
 wB:q.2.2.1<=B
 l1:1<=q.2.2.2
 lC:q.2.2.2<=C
structure an4 (n:Nat)(ps:List aQ)(B C:Int):Prop extends aW n ps where
 wB:∀q∈ps,q.w<=B
 lC:∀q∈ps,q.l<=C
noncomputable def zs (F:aQ->Int->Int):List aQ->List Int->Int
 |q::r,f::fs=>F q f+zs F r fs
 |_,_=>0
theorem Rw (F:aQ->Int->Int)(L:List Int):∀(ps:List aQ) (k:Nat),zs F ps ((List.range' k ps.length).map λi=>lf L<|2*i+1)=dw (λi q=>F q<|lf L<|2*i+1) k ps
 |[],_=>rfl
 |q::r,k=>by rw[length_cons,List.range'_succ,map_cons,zs,dw,Rw F L r<|k+1]
theorem NZ (F:aQ->Int->Int)(L:List Int)(ps:List aQ):zs F ps (j4 L ps.length)=dw (λi q=>F q<|lf L<|2*i+1) 0 ps:=by unfold j4;rw[List.range_eq_range'];exact Rw F L ps 0
structure kI (n:Nat)(ps:List aQ)(st g:Nat)(T:Int)(fl:List Int)(M C:Int):Prop where
 len:fl.length=ps.length
 lo:∀(i:Nat) q f,ps[i]? =some q->fl[i]? =some f->0<=f/\f<=q.w
 net:∀z:Nat,zs (λq f=>f*(Sp.b2 (q.b=z) - Sp.b2 (q.a=z))) ps fl=M*(Sp.b2 (g=z) - Sp.b2 (st=z))
 cost:zs (λq f=>f*q.l) ps fl=C
 M0:0<=M
 W0:0<=M*(T+1) - C
 price:∃π:Nat->Int,π st=0/\T+1<=π g/\(0<M->π g=T+1)/\∀(i:Nat) q f,ps[i]? =some q->fl[i]? =some f->(f<q.w->π q.b<=π q.a+q.l)/\(0<f->π q.a<=π q.b - q.l)
theorem N5:∀{r:List (Int×Int)},(∀x∈r,0<x.2)->0<=many r
 |[],_=>by simp[many]
 |x::r,h=>by
  have a:=h x mem_cons_self;have b:=N5 (r:=r) λy hy=>h y<|mem_cons_of_mem _ hy;have e:many (x::r)=x.2+many r:=by simp[many]
  omega
theorem IW:∀{r:List (Int×Int)},(∀x∈r,0<x.2/\x.1<=T)->0<=many r*(T+1) - spent r
 |[],_=>by simp[many,spent]
 |x::r,h=>by
  have a:=h x mem_cons_self;have b:=IW (T:=T) (r:=r) λy hy=>h y<|mem_cons_of_mem _ hy;have e:many (x::r)=x.2+many r:=by simp[many]
  have e2:spent (x::r)=x.2*x.1+spent r:=by simp[spent]
  have:0<=x.2*(T+1 - x.1):=mul_nonneg (by omega) (by omega)
  rw[e,e2,add_mul];rw[mul_sub] at this;omega
theorem Gx (h:(j4 L k)[i]? =some f):i<k/\f=lf L (2*i+1):=by
 unfold j4 at h;rw[getElem?_map] at h;by_cases hi:i<k
 .rw[getElem?_range hi] at h;exact⟨hi,by simpa using h.symm⟩
 .rw[getElem?_eq_none (by simp;omega)] at h;cases h
variable {T:Int}
theorem akD (ps:List aQ)(z:Nat):net ps (dO ps) z=0:=by unfold net;rw[gZ (g:=λ_ _=>0) ps 0 λi q _=>by rw[pW];simp,mX]
theorem ah6 (ps:List aQ):cost ps (dO ps)=0:=by unfold cost;rw[gZ (g:=λ_ _=>0) ps 0 λi q _=>by rw[pW];simp,mX]
theorem N6 (Hh:aW n ps)(hst:st<n)(hg:g<n)(hne:st≠g)(R:Runs n ps st g (some T) (dO ps) r (lf L)):kI n ps st g T (j4 L ps.length) (many r) (spent r):=by
 have S0:St n ps st (dO ps) (λv=>if v=st then 0 else 1):=uM Hh;obtain⟨⟨Bo,S1⟩,akE,acE,hr,_⟩:=Ro Hh hst R S0;obtain⟨jc,f1,f2,f3,f4⟩:=Uu Hh hst hg R S0;have pos:∀x∈r,0<x.2/\x.1<=T:=λx hx=>⟨(hr x hx).1,(hr x hx).2.2 T rfl⟩;refine⟨by simp[j4],λi q f e1 e2=>?_,λz=>?_,?_,N5 λx hx=>(pos x hx).1,IW pos,jc,f2,f3,λhM=>f4<|.inl ?_,λi q f e1 e2=>?_⟩
 .obtain⟨_,rfl⟩:=Gx e2;have h1:=S1.laid.sum i q e1;have h2:=S1.laid.nn<|2*i;have h3:=S1.laid.nn<|2*i+1;omega
 .rw[NZ];have:=akE z;rw[akD,Int.zero_add] at this;exact this
 .rw[NZ];rw[ah6,Int.zero_add] at acE;exact acE
 .intro z;rw[z] at hM;simp[many] at hM
 .obtain⟨_,rfl⟩:=Gx e2;have h1:=S1.laid.sum i q e1;refine⟨λh=>?_,λh=>?_⟩
  .have:=f1.pay q.a (2*i,q.b,q.l) (Hh.ra q<|mem_of_getElem? e1) (dG.mpr ⟨i,q,e1,.inl ⟨rfl,rfl⟩⟩) (by show 0<lf L (2*i);omega);exact this
  .have:=f1.pay q.b (2*i+1,q.a,-q.l) (Hh.rb q<|mem_of_getElem? e1) (dG.mpr ⟨i,q,e1,.inr ⟨rfl,rfl⟩⟩) h;have ah7:=this;omega
theorem aaq (hn:n<=1000)(hp:ps.length<=15):Small n ps:=⟨hn,by omega,vals ps,by rw[aal];exact le_trans (Nat.pow_le_pow_right (by decide) hp)<|by decide,λ_ h=>h⟩
end LH
namespace LH
open L2 VM Sp PM
variable {T:Int}
theorem aar (st:Nat)(T:Int):∀(ps:List aQ) (fl:List Int),zs (λq f=>f*((Sp.b2 (q.a=st) - Sp.b2 (q.b=st))*(T+1) - q.l)) ps fl=zs (λq f=>f*(Sp.b2 (q.a=st) - Sp.b2 (q.b=st))) ps fl*(T+1) - zs (λq f=>f*q.l) ps fl
 |[],_=>by simp[zs]
 |_::_,[]=>by simp[zs]
 |q::r,f::fs=>by rw[zs,zs,zs,aar st T r fs,add_mul,mul_sub,mul_assoc];omega
theorem XR (Z:List Nat)(c:Nat->aQ->Int):∀(ps:List aQ) (fl:List Int),zs (λq f=>f*(Z.map λz=>c z q).sum) ps fl=(Z.map λz=>zs (λq f=>f*c z q) ps fl).sum
 |[],_=>by
  simp only[zs];induction Z with
  |nil=>rfl
  |cons z Z ih=>rw[map_cons,sum_cons,←ih];rfl
 |_::_,[]=>by
  simp only[zs];induction Z with
  |nil=>rfl
  |cons z Z ih=>rw[map_cons,sum_cons,←ih];rfl
 |q::r,f::fs=>by
  simp only[zs];rw[XR Z c r fs];induction Z with
  |nil=>simp
  |cons z Z ih=>rw[map_cons,map_cons,map_cons,sum_cons,sum_cons,sum_cons,←ih,mul_add];omega
theorem Rx (F G:α->Int):∀Z:List α,(Z.map λz=>F z - G z).sum=(Z.map F).sum - (Z.map G).sum
 |[]=>rfl
 |z::Z=>by rw[map_cons,map_cons,map_cons,sum_cons,sum_cons,sum_cons,Rx F G Z];omega
theorem Ry (M:Int)(F:Nat->Int):∀Z:List Nat,(Z.map λz=>M*F z).sum=M*(Z.map F).sum
 |[]=>by simp
 |z::Z=>by rw[map_cons,map_cons,sum_cons,sum_cons,Ry M F Z,mul_add]
end LH
namespace LH
open L2 VM Sp PM
variable {ps:List aQ}
structure alH (n:Nat)(ps:List aQ)(st g:Nat)(G:List (Int×Int)):Prop where
 e:Pg.wI [.int n,hD ps,.int st,.int g]=some (true,.list<|G.map lE)
 rise:Ng G
 len:G.length<=16000000
 low:∀x∈G,x.1<=(ps.map aQ.l).sum
 flow:∀T:Int,∃fl M C,kI n ps st g T fl M C/\Pg.gA [.int n,hD ps,.int st,.int g,.int T]=some (true,.list<|fl.map .int)/\M*(T+1) - C=wsum (λl=>if l<=T then T+1 - l else 0) G
 last:∀T:Int,(ps.map aQ.l).sum<=T->∃fl C,∃P:Nat->Prop,kI n ps st g T fl (many G) C/\Pg.gA [.int n,hD ps,.int st,.int g,.int T]=some (true,.list<|fl.map .int)/\P st/\¬P g/\∀(i:Nat) q f,ps[i]? =some q->fl[i]? =some f->(P q.a->f<q.w->P q.b)/\(P q.b->0<f->P q.a)
theorem XS (h:xs.length+ys.length<=16000000):vX (.list xs) (.list ys)=some (.list<|xs++ys):=if_pos<|le_of_lt<|aY h
end LH
namespace LH
open L2 VM Sp PM
variable {M C:Int}
theorem N7 (m:Int)(F:aQ->Int):∀(ps:List aQ) (fl:List Int),zs (λq f=>f*(m*F q)) ps fl=m*zs (λq f=>f*F q) ps fl
 |[],_=>by simp[zs]
 |_::_,[]=>by simp[zs]
 |q::r,f::fs=>by rw[zs,zs,N7 m F r fs,mul_add,←mul_assoc,Int.mul_comm f m,mul_assoc]
theorem N8 (μ:Nat->Int)(a:Nat):∀{Z:List Nat},Z.Nodup->(Z.map λz=>μ z*Sp.b2 (a=z)).sum=if a∈Z then μ a else 0
 |[],_=>by simp
 |z::Z,nd=>by
  obtain⟨h1,h2⟩:=nodup_cons.mp nd;rw[map_cons,sum_cons,N8 μ a h2];unfold Sp.b2;by_cases e:a=z
  .subst e;simp[h1]
  .simp[e]
theorem Ja (μ:Nat->Int)(h:a<n):((List.range n).map λz=>μ z*Sp.b2 (a=z)).sum=μ a:=by rw[N8 μ a List.nodup_range,if_pos<|mem_range.mpr h]
theorem Oa (μ:Nat->Int)(ha:a<n)(hb:b<n):((List.range n).map λz=>μ z*(Sp.b2 (b=z) - Sp.b2 (a=z))).sum=μ b - μ a:=by
 have e:((List.range n).map λz=>μ z*(Sp.b2 (b=z) - Sp.b2 (a=z)))=(List.range n).map λz=>μ z*Sp.b2 (b=z) - μ z*Sp.b2 (a=z):=map_congr_left λz _=>by rw[mul_sub]
 rw[e,Rx,Ja μ hb,Ja μ ha]
theorem tW:∀{ps:List aQ}{fl:List Int},(∀q∈ps,∀f,F q f=G q f)->zs F ps fl=zs G ps fl
 |[],_,_=>by simp[zs]
 |_::_,[],_=>by simp[zs]
 |q::r,f::fs,h=>by rw[zs,zs,h q mem_cons_self,tW λq' hq f'=>h q' (mem_cons_of_mem _ hq) f']
theorem af9 (Hh:aW n ps)(hst:st<n)(hg:g<n)(net:∀z:Nat,zs (λq f=>f*(Sp.b2 (q.b=z) - Sp.b2 (q.a=z))) ps fl=M*(Sp.b2 (g=z) - Sp.b2 (st=z)))(μ:Nat->Int):zs (λq f=>f*(μ q.b - μ q.a)) ps fl=M*(μ g - μ st):=by
 have e1:zs (λq f=>f*(μ q.b - μ q.a)) ps fl=zs (λq f=>f*((List.range n).map λz=>μ z*(Sp.b2 (q.b=z) - Sp.b2 (q.a=z))).sum) ps fl:=tW λq hq f=>by rw[Oa μ (Hh.ra q hq)<|Hh.rb q hq]
 rw[e1,XR (List.range n)<|λz q=>μ z*(Sp.b2 (q.b=z) - Sp.b2 (q.a=z))];have e2:((List.range n).map λz=>zs (λq f=>f*(μ z*(Sp.b2 (q.b=z) - Sp.b2 (q.a=z)))) ps fl)=(List.range n).map λz=>M*(μ z*(Sp.b2 (g=z) - Sp.b2 (st=z))):=map_congr_left λz _=>by rw[N7 (μ z)<|λq=>Sp.b2 (q.b=z) - Sp.b2 (q.a=z),net z,←mul_assoc,Int.mul_comm (μ z) M,mul_assoc]
 rw[e2,Ry M,Oa μ hst hg]
theorem Rz (F G:aQ->Int->Int):∀(ps:List aQ) (fl:List Int),zs (λq f=>F q f - G q f) ps fl=zs F ps fl - zs G ps fl
 |[],_=>by simp[zs]
 |_::_,[]=>by simp[zs]
 |q::r,f::fs=>by rw[zs,zs,zs,Rz F G r fs];omega
theorem acF:∀{ps:List aQ}{fl:List Int},(∀(i:Nat) q f,ps[i]? =some q->fl[i]? =some f->F q f=G q f)->zs F ps fl=zs G ps fl
 |[],_,_=>by simp[zs]
 |_::_,[],_=>by simp[zs]
 |q::r,f::fs,h=>by rw[zs,zs,h 0 q f rfl rfl,acF λi q' f' a b=>h (i+1) q' f' (by simpa using a) (by simpa using b)]
noncomputable def over (μ:Nat->Int)(q:aQ):Int:=if q.l<μ q.b - μ q.a then q.w*(μ q.b - μ q.a - q.l) else 0
theorem Jb (Hh:aW n ps)(hst:st<n)(hg:g<n)(net:∀z:Nat,zs (λq f=>f*(Sp.b2 (q.b=z) - Sp.b2 (q.a=z))) ps fl=M*(Sp.b2 (g=z) - Sp.b2 (st=z)))(cost:zs (λq f=>f*q.l) ps fl=C){μ:Nat->Int}(m0:μ st=0)(m1:μ g=T+1):M*(T+1) - C=zs (λq f=>f*(μ q.b - μ q.a - q.l)) ps fl:=by have e:=af9 Hh hst hg net μ;rw[m0,m1,sub_zero] at e;rw[<-e,←cost,←Rz];exact tW λq _ f=>by rw[mul_sub f (μ q.b - μ q.a) q.l]
theorem Ql (Hh:aW n ps)(hst:st<n)(hg:g<n)(lo:∀(i:Nat) q f,ps[i]? =some q->fl[i]? =some f->0<=f/\f<=q.w)(net:∀z:Nat,zs (λq f=>f*(Sp.b2 (q.b=z) - Sp.b2 (q.a=z))) ps fl=M*(Sp.b2 (g=z) - Sp.b2 (st=z)))(cost:zs (λq f=>f*q.l) ps fl=C){μ:Nat->Int}(m0:μ st=0)(m1:μ g=T+1)(fit:∀(i:Nat) q f,ps[i]? =some q->fl[i]? =some f->(f<q.w->μ q.b - μ q.a<=q.l)/\(0<f->q.l<=μ q.b - μ q.a)):M*(T+1) - C=zs (λq _=>over μ q) ps fl:=by
 rw[Jb Hh hst hg net cost m0 m1];refine acF λi q f a b=>?_;have h:=lo i q f a b;have k:=fit i q f a b;unfold over;split
 .rename_i z
  have:f=q.w:=by
   by_cases w:f<q.w
   .have:=k.1 w;omega
   .omega
  rw[this]
 .rename_i z;by_cases p:0<f
  .have:=k.2 p
   have:μ q.b - μ q.a - q.l=0:=by omega
   rw[this,mul_zero]
  .have:f=0:=by omega
   rw[this,zero_mul]
theorem Ob (F:aQ->Int):∀{ps:List aQ}{fl:List Int},fl.length=ps.length->zs (λq _=>F q) ps fl=(ps.map F).sum
 |[],_,_=>by simp[zs]
 |_::_,[],h=>by simp at h
 |q::r,f::fs,h=>by rw[zs,map_cons,sum_cons,Ob F<|by simpa using h]
end LH
namespace LH
open L2 VM Sp PM
variable {M:Int}
def inF (z:Nat):aQ->Int->Int:=λq f=>f*Sp.b2 (q.b=z)
def outF (z:Nat):aQ->Int->Int:=λq f=>f*Sp.b2 (q.a=z)
theorem rR (z:Nat):∀(ps:List aQ) (fl:List Int),zs (λq f=>f*(Sp.b2 (q.b=z) - Sp.b2 (q.a=z))) ps fl=zs (inF z) ps fl - zs (outF z) ps fl
 |[],_=>by simp[zs]
 |_::_,[]=>by simp[zs]
 |q::r,f::fs=>by rw[zs,zs,zs,rR z r fs,mul_sub];unfold inF outF;omega
theorem Kd (p:Prop)[Decidable p]:0<=Sp.b2 p:=by unfold Sp.b2;split<;>decide
theorem UG:∀{ps:List aQ}{fl:List Int},(∀(i:Nat) q f,ps[i]? =some q->fl[i]? =some f->0<=F q f)->0<=zs F ps fl
 |[],_,_=>by simp[zs]
 |_::_,[],_=>by simp[zs]
 |q::r,f::fs,h=>by have h0:=h 0 q f rfl rfl;have:=UG (F:=F) (ps:=r) (fl:=fs) λi q' f' a b=>h (i+1) q' f' (by simpa using a) (by simpa using b);rw[zs];omega
theorem Aj:∀{ps:List aQ}{fl:List Int},(∀(i:Nat) q f,ps[i]? =some q->fl[i]? =some f->0<=F q f)->∀(i:Nat) q f,ps[i]? =some q->fl[i]? =some f->F q f<=zs F ps fl
 |[],_,_,i,q,f,a,_=>by simp at a
 |_::_,[],_,i,q,f,_,b=>by simp at b
 |p::r,f0::fs,h,0,q,f,a,b=>by
  cases a;cases b;have:=UG (F:=F) (ps:=r) (fl:=fs) λi q' f' a b=>h (i+1) q' f' (by simpa using a) (by simpa using b);rw[zs];omega
 |p::r,f0::fs,h,i+1,q,f,a,b=>by have h0:=h 0 p f0 rfl rfl;have:=Aj (F:=F) (ps:=r) (fl:=fs) (λi q' f' a b=>h (i+1) q' f' (by simpa using a) (by simpa using b)) i q f (by simpa using a) (by simpa using b);rw[zs];omega
theorem Gy:∀{ps:List aQ}{fl:List Int},0<zs F ps fl->∃(i:Nat) (q:aQ) (f:Int),ps[i]? =some q/\fl[i]? =some f/\0<F q f
 |[],_,h=>by simp[zs] at h
 |_::_,[],h=>by simp[zs] at h
 |q::r,f::fs,h=>by
  rw[zs] at h;by_cases h0:0<F q f
  .exact⟨0,q,f,rfl,rfl,h0⟩
  .obtain⟨i,q',f',a,b,c⟩:=Gy (F:=F) (ps:=r) (fl:=fs) (by omega);exact⟨i+1,q',f',by simpa using a,by simpa using b,c⟩
theorem X3 [Decidable p](h:0<f*Sp.b2 p):0<f/\p:=by
 unfold Sp.b2 at h;split at h
 .rename_i hp;exact⟨by omega,hp⟩
 .omega
structure Cons (ps:List aQ)(st g:Nat)(fl:List Int)(M:Int):Prop where
 nn:∀(i:Nat) q f,ps[i]? =some q->fl[i]? =some f->0<=f
 net:∀z:Nat,zs (λq f=>f*(Sp.b2 (q.b=z) - Sp.b2 (q.a=z))) ps fl=M*(Sp.b2 (g=z) - Sp.b2 (st=z))
theorem Cons.aga (K:Cons ps st g fl M)(z:Nat):∀(i:Nat) q f,ps[i]? =some q->fl[i]? =some f->0<=inF z q f:=λi q f a b=>mul_nonneg (K.nn i q f a b)<|Kd _
theorem Cons.acG (K:Cons ps st g fl M)(z:Nat):∀(i:Nat) q f,ps[i]? =some q->fl[i]? =some f->0<=outF z q f:=λi q f a b=>mul_nonneg (K.nn i q f a b)<|Kd _
theorem Oc (h:0<zs (outF z) ps fl):∃(i:Nat) (q:aQ) (f:Int),ps[i]? =some q/\fl[i]? =some f/\0<f/\q.a=z:=by obtain⟨i,q,f,a,b,c⟩:=Gy h;have:=X3 c;exact⟨i,q,f,a,b,this.1,this.2⟩
theorem Cons.start (K:Cons ps st g fl M)(hne:st≠g)(hM:0<M):∃(i:Nat) (q:aQ) (f:Int),ps[i]? =some q/\fl[i]? =some f/\0<f/\q.a=st:=by
 have e:=K.net st;rw[rR] at e;have h1:=UG<|K.aga st;have e2:Sp.b2 (g=st) - Sp.b2 (st=st)= -1:=by unfold Sp.b2;rw[if_neg<|λz=>hne z.symm,if_pos rfl];rfl
 rw[e2] at e;exact Oc<|by omega
theorem Cons.on (K:Cons ps st g fl M)(hM:0<=M){i:Nat}(a:ps[i]? =some q)(b:fl[i]? =some f)(hf:0<f)(hg:q.b≠g\/M=0):∃(j:Nat) (p:aQ) (h:Int),ps[j]? =some p/\fl[j]? =some h/\0<h/\p.a=q.b:=by
 have e:=K.net q.b;rw[rR] at e;have h1:=Aj (K.aga q.b) i q f a b;have h2:inF q.b q f=f:=by unfold inF Sp.b2;rw[if_pos rfl];omega
 rw[h2] at h1;have h3:M*(Sp.b2 (g=q.b) - Sp.b2 (st=q.b))<=0:=by
  rcases hg with hg|hg
  .have:Sp.b2 (g=q.b)=0:=by unfold Sp.b2;rw[if_neg<|λz=>hg z.symm]
   rw[this];have:=Kd<|st=q.b;exact Int.mul_nonpos_of_nonneg_of_nonpos hM<|by omega
  .rw[hg];omega
 exact Oc<|by omega
theorem Cons.none (K:Cons ps st g fl 0){ρ:Nat->Int}(up:∀(i:Nat) q f,ps[i]? =some q->fl[i]? =some f->0<f->ρ q.a<ρ q.b):∀(i:Nat) q f,ps[i]? =some q->fl[i]? =some f->f=0:=by
 obtain⟨R,hR⟩:∃R,∀q∈ps,ρ q.b<=R:=by
  clear K up;induction ps with
  |nil=>exact⟨0,by simp⟩
  |cons p r ih=>
   obtain⟨R,h⟩:=ih;refine⟨max R<|ρ p.b,λq hq=>?_⟩;rcases mem_cons.mp hq with rfl|hq
   .exact Int.le_max_right ..
   .exact Int.le_trans (h q hq)<|Int.le_max_left ..
 have key:∀(k:Nat) (i:Nat) q f,ps[i]? =some q->fl[i]? =some f->0<f->R - ρ q.b<k->False:=λk=>by
  induction k with
  |zero=>intro i q f a b hf hk;have:=hR q<|mem_of_getElem? a;omega
  |succ k ih=>intro i q f a b hf hk;obtain⟨j,p,h,a',b',hh,e⟩:=K.on (Int.le_refl _) a b hf<|.inr rfl;have u:=up j p h a' b' hh;rw[e] at u;exact ih j p h a' b' hh<|by omega
 intro i q f a b;have h0:=K.nn i q f a b;by_cases hf:0<f
 .exact(key ((R - ρ q.b).toNat+1) i q f a b hf<|by omega).elim
 .omega
theorem RD (h:0<zs (inF z) ps fl):∃(i:Nat) (q:aQ) (f:Int),ps[i]? =some q/\fl[i]? =some f/\0<f/\q.b=z:=by obtain⟨i,q,f,a,b,c⟩:=Gy h;have:=X3 c;exact⟨i,q,f,a,b,this.1,this.2⟩
theorem Cons.back (K:Cons ps st g fl M)(hM:0<=M){i:Nat}(a:ps[i]? =some q)(b:fl[i]? =some f)(hf:0<f)(hs:q.a≠st):∃(j:Nat) (p:aQ) (h:Int),ps[j]? =some p/\fl[j]? =some h/\0<h/\p.b=q.a:=by
 have e:=K.net q.a;rw[rR] at e;have h1:=Aj (K.acG q.a) i q f a b;have h2:outF q.a q f=f:=by unfold outF Sp.b2;rw[if_pos rfl];omega
 rw[h2] at h1;have h3:0<=M*(Sp.b2 (g=q.a) - Sp.b2 (st=q.a)):=by
  have:Sp.b2 (st=q.a)=0:=by unfold Sp.b2;rw[if_neg<|λz=>hs z.symm]
  rw[this];have:=Kd<|g=q.a;exact mul_nonneg hM<|by omega
 exact RD<|by omega
theorem Cons.high (K:Cons ps st g fl M)(hM:0<=M){ρ:Nat->Int}(up:∀(i:Nat) q f,ps[i]? =some q->fl[i]? =some f->0<f->ρ q.a<ρ q.b):∀(i:Nat) q f,ps[i]? =some q->fl[i]? =some f->0<f->ρ q.b<=ρ g:=by
 obtain⟨R,hR⟩:∃R,∀q∈ps,ρ q.b<=R:=by
  clear K up;induction ps with
  |nil=>exact⟨0,by simp⟩
  |cons p r ih=>
   obtain⟨R,h⟩:=ih;refine⟨max R<|ρ p.b,λq hq=>?_⟩;rcases mem_cons.mp hq with rfl|hq
   .exact Int.le_max_right ..
   .exact Int.le_trans (h q hq)<|Int.le_max_left ..
 have key:∀(k:Nat) (i:Nat) q f,ps[i]? =some q->fl[i]? =some f->0<f->R - ρ q.b<k->ρ q.b<=ρ g:=λk=>by
  induction k with
  |zero=>intro i q f a b hf hk;have:=hR q<|mem_of_getElem? a;omega
  |succ k ih=>
   intro i q f a b hf hk;by_cases e:q.b=g
   .rw[e];exact Int.le_refl _
   .obtain⟨j,p,h,a',b',hh,e2⟩:=K.on hM a b hf<|.inl e;have u:=up j p h a' b' hh;rw[e2] at u;have:=ih j p h a' b' hh (by omega);omega
 intro i q f a b hf;exact key ((R - ρ q.b).toNat+1) i q f a b hf<|by omega
theorem Cons.low (K:Cons ps st g fl M)(hM:0<=M){ρ:Nat->Int}(up:∀(i:Nat) q f,ps[i]? =some q->fl[i]? =some f->0<f->ρ q.a<ρ q.b):∀(i:Nat) q f,ps[i]? =some q->fl[i]? =some f->0<f->ρ st<=ρ q.a:=by
 obtain⟨R,hR⟩:∃R,∀q∈ps,R<=ρ q.a:=by
  clear K up;induction ps with
  |nil=>exact⟨0,by simp⟩
  |cons p r ih=>
   obtain⟨R,h⟩:=ih;refine⟨min R<|ρ p.a,λq hq=>?_⟩;rcases mem_cons.mp hq with rfl|hq
   .exact Int.min_le_right ..
   .exact Int.le_trans (Int.min_le_left ..)<|h q hq
 have key:∀(k:Nat) (i:Nat) q f,ps[i]? =some q->fl[i]? =some f->0<f->ρ q.a - R<k->ρ st<=ρ q.a:=λk=>by
  induction k with
  |zero=>intro i q f a b hf hk;have:=hR q<|mem_of_getElem? a;omega
  |succ k ih=>
   intro i q f a b hf hk;by_cases e:q.a=st
   .rw[e];exact Int.le_refl _
   .obtain⟨j,p,h,a',b',hh,e2⟩:=K.back hM a b hf e;have u:=up j p h a' b' hh;rw[e2] at u;have:=ih j p h a' b' hh (by omega);omega
 intro i q f a b hf;exact key ((ρ q.a - R).toNat+1) i q f a b hf<|by omega
theorem kI.cons (F:kI n ps st g T fl M C):Cons ps st g fl M:=⟨λi q f a b=>(F.lo i q f a b).1,F.net⟩
theorem kI.adS {T C:Int}(Hh:aW n ps)(F:kI n ps st g T fl M C)(hT:0<=T):∃μ:Nat->Int,μ st=0/\μ g=T+1/\(∀v,0<=μ v/\μ v<=T+1)/\∀(i:Nat) q f,ps[i]? =some q->fl[i]? =some f->(f<q.w->μ q.b - μ q.a<=q.l)/\(0<f->q.l<=μ q.b - μ q.a):=by
 obtain⟨π,p0,p1,p2,p3⟩:=F.price;have up:∀(i:Nat) q f,ps[i]? =some q->fl[i]? =some f->0<f->π q.a<π q.b:=λi q f a b hf=>by have:=(p3 i q f a b).2 hf;have:=Hh.l1 q<|mem_of_getElem? a;omega
 refine⟨λv=>min (max (π v) 0)<|T+1,?_,?_,λv=>?_,λi q f a b=>⟨λh=>?_,λh=>?_⟩⟩
 .omega
 .omega
 .omega
 .have:=(p3 i q f a b).1 h;have:=Hh.l1 q<|mem_of_getElem? a;omega
 .have h1:=(p3 i q f a b).2 h;have h2:=F.cons.low F.M0 up i q f a b h;have h3:=F.cons.high F.M0 up i q f a b h;have hM:0<M:=by
   have m0:=F.M0;by_cases z:M=0
   .have K:=F.cons;rw[z] at K;have:=K.none up i q f a b;omega
   .omega
  have h4:=p2 hM;omega
end LH
namespace LH
open L2 VM Sp PM
variable {M:Int}
noncomputable def goes (ps:List aQ):Nat->List Nat->Option Nat
 |u,[]=>some u
 |u,j::w=>match ps[j]? with
  |some q=>if q.a=u then goes ps q.b w else none
  |none=>none
theorem Jc (hq:ps[j]? =some q):∀{w:List Nat}{u:Nat},goes ps u w=some q.a->goes ps u (w++[j])=some q.b
 |[],u,h=>by simp only[goes,Option.some.injEq] at h;simp only[nil_append,goes,hq,h,↓reduceIte]
 |i::w,u,h=>by
  rw[cons_append,goes];rw[goes] at h;cases e:ps[i]? with
  |none=>rw[e] at h;cases h
  |some p=>
   rw[e] at h;simp only at h ⊢;by_cases ha:p.a=u
   .rw[if_pos ha] at h ⊢;exact Jc hq h
   .rw[if_neg ha] at h;cases h
noncomputable def xK (F:aQ->Int)(ps:List aQ)(j:Nat):Int:=match ps[j]? with
 |some q=>F q
 |none=>0
theorem kJ (h:ps[j]? =some q):xK F ps j=F q:=by unfold xK;rw[h]
def cH (F:aQ->Int)(ps:List aQ)(w:List Nat):Int:=(w.map<|xK F ps).sum
theorem Et (F:aQ->Int):cH F ps []=0:=rfl
theorem ig (F:aQ->Int)(j:Nat)(w:List Nat):cH F ps (j::w)=xK F ps j+cH F ps w:=by simp[cH]
theorem wL (μ:Nat->Int):∀{w:List Nat}{u v:Nat},goes ps u w=some v->cH (λq=>μ q.b - μ q.a) ps w=μ v - μ u
 |[],u,v,h=>by simp only[goes,Option.some.injEq] at h;rw[Et,h];omega
 |j::w,u,v,h=>by
  rw[goes] at h;cases e:ps[j]? with
  |none=>rw[e] at h;cases h
  |some p=>
   rw[e] at h;simp only at h;by_cases ha:p.a=u
   .rw[if_pos ha] at h;rw[ig,wL μ h,kJ e,ha];omega
   .rw[if_neg ha] at h;cases h
theorem wM (F G:aQ->Int):∀w:List Nat,(∀j∈w,j<ps.length)->cH (λq=>F q - G q) ps w=cH F ps w - cH G ps w
 |[],_=>rfl
 |j::w,h=>by have e:=getElem?_eq_getElem<|h j mem_cons_self;rw[ig,ig,ig,wM F G w λi hi=>h i<|mem_cons_of_mem _ hi,kJ e,kJ e,kJ e];omega
theorem Jd:∀{w:List Nat},(∀j∈w,0<=xK F ps j)->0<=cH F ps w
 |[],_=>Int.le_refl _
 |j::w,h=>by have:=Jd (w:=w) λi hi=>h i<|mem_cons_of_mem _ hi;have:=h j mem_cons_self;rw[ig];omega
theorem uO (h:L[i]? =some f):lf L i=f:=by unfold lf;rw[getD_eq_getElem?_getD,h];rfl
theorem nW (h:i<L.length):L[i]? =some (lf L i):=by unfold lf;rw[getD_eq_getElem?_getD,getElem?_eq_getElem h];rfl
def pq (m:Int)(fl:List Int)(j:Nat):List Int:=fl.set j<|lf fl j - m
def je (m:Int)(fl:List Int)(w:List Nat):List Int:=w.foldl (pq m) fl
theorem pY (m:Int)(fl:List Int)(j:Nat):(pq m fl j).length=fl.length:=length_set ..
theorem mZ (m:Int):∀(w:List Nat) (fl:List Int),(je m fl w).length=fl.length
 |[],_=>rfl
 |j::w,fl=>by show(je m (pq m fl j) w).length=_;rw[mZ m w,pY]
theorem aas (h:j<fl.length)(i:Nat):lf (pq m fl j) i=lf fl i - if i=j then m else 0:=by
 by_cases e:i=j
 .subst e;rw[if_pos rfl];exact uO (by unfold pq;rw[getElem?_set_self h])
 .rw[if_neg e,sub_zero];unfold pq lf;simp only[getD_eq_getElem?_getD,getElem?_set_ne<|λz=>e z.symm]
theorem oR:∀{w:List Nat}{fl:List Int},w.Nodup->(∀j∈w,j<fl.length)->∀i,lf (je m fl w) i=lf fl i - if i∈w then m else 0
 |[],_,_,_,i=>by simp[je]
 |j::w,fl,nd,h,i=>by
  obtain⟨n1,n2⟩:=nodup_cons.mp nd;show lf (je m (pq m fl j) w) i=_;rw[oR n2 (λi hi=>by rw[pY];exact h i<|mem_cons_of_mem _ hi),aas<|h j mem_cons_self];by_cases e:i=j
  .subst e;rw[if_pos rfl,if_neg n1,if_pos mem_cons_self];omega
  .rw[if_neg e];by_cases hw:i∈w
   .rw[if_pos hw,if_pos<|mem_cons_of_mem _ hw];omega
   .rw[if_neg hw,if_neg (λz=>by rcases mem_cons.mp z with z|z;exact e z;exact hw z)];omega
theorem X4 (F:aQ->Int)(x:Int):∀(ps:List aQ) (fl:List Int) (j:Nat),fl.length=ps.length->j<fl.length->zs (λq f=>f*F q) ps (fl.set j<|lf fl j - x)=zs (λq f=>f*F q) ps fl - x*xK F ps j
 |[],[],j,_,h=>by simp at h
 |[],_::_,_,e,_=>by simp at e
 |_::_,[],_,e,_=>by simp at e
 |q::r,f::fs,0,e,_=>by have e1:lf (f::fs) 0=f:=rfl;have e2:xK F (q::r) 0=F q:=rfl;rw[set_cons_zero,zs,zs,e1,e2,Int.sub_mul];omega
 |q::r,f::fs,j+1,e,h=>by have e1:lf (f::fs) (j+1)=lf fs j:=rfl;have e2:xK F (q::r) (j+1)=xK F r j:=rfl;rw[set_cons_succ,zs,zs,e1,e2,X4 F x r fs j (by simpa using e) (by simpa using h)];omega
theorem Gz (F:aQ->Int)(m:Int):∀{w:List Nat}{fl:List Int},fl.length=ps.length->(∀j∈w,j<fl.length)->zs (λq f=>f*F q) ps (je m fl w)=zs (λq f=>f*F q) ps fl - m*cH F ps w
 |[],fl,_,_=>by rw[Et,mul_zero,sub_zero];rfl
 |j::w,fl,e,h=>by show zs _ ps (je m (pq m fl j) w)=_;rw[Gz F m (by rw[pY];exact e) (λi hi=>by rw[pY];exact h i<|mem_cons_of_mem _ hi)];unfold pq;rw[X4 F m ps fl j e<|h j mem_cons_self,ig,mul_add];omega
noncomputable def jW:List Int->Nat
 |[]=>0
 |f::r=>(if 0<f then 1 else 0)+jW r
theorem RG:∀{a b:List Int},a.length=b.length->(∀i:Nat,0<lf a i->0<lf b i)->jW a<=jW b
 |[],[],_,_=>le_refl _
 |[],_::_,e,_=>by simp at e
 |_::_,[],e,_=>by simp at e
 |x::a,y::b,e,h=>by
  have ih:=RG (a:=a) (b:=b) (by simpa using e) λi hi=>h (i+1) hi;have h0:0<x->0<y:=h 0;rw[jW,jW];by_cases hx:0<x
  .rw[if_pos hx,if_pos<|h0 hx];omega
  .rw[if_neg hx];omega
theorem GC:∀{a b:List Int},a.length=b.length->(∀i:Nat,0<lf a i->0<lf b i)->(∃i:Nat,lf a i<=0/\0<lf b i)->jW a<jW b
 |[],[],_,_,⟨i,h1,h2⟩=>by simp[lf] at h2
 |[],_::_,e,_,_=>by simp at e
 |_::_,[],e,_,_=>by simp at e
 |x::a,y::b,e,h,⟨i,h1,h2⟩=>by
  have e':a.length=b.length:=by simpa using e
  have hh:∀i:Nat,0<lf a i->0<lf b i:=λi hi=>h (i+1) hi;rw[jW,jW];cases i with
  |zero=>have h1':x<=0:=h1;have h2':0<y:=h2;have:=RG e' hh;rw[if_neg<|by omega,if_pos h2'];omega
  |succ i=>
   have:=GC e' hh ⟨i,h1,h2⟩;have h0:0<x->0<y:=h 0;by_cases hx:0<x
   .rw[if_pos hx,if_pos<|h0 hx];omega
   .rw[if_neg hx];omega
theorem wN:∀a:List Int,jW a<=a.length
 |[]=>le_refl _
 |x::a=>by have:=wN a;rw[jW,length_cons];split<;>omega
noncomputable def share (i:Nat):List (List Nat×Int)->Int
 |[]=>0
 |x::ws=>(if i∈x.1 then x.2 else 0)+share i ws
noncomputable def zp (F:aQ->Int)(ps:List aQ):List (List Nat×Int)->Int
 |[]=>0
 |x::ws=>x.2*cH F ps x.1+zp F ps ws
structure uP (ps:List aQ)(st g:Nat)(x:List Nat×Int):Prop where
 go:goes ps st x.1=some g
 nd:x.1.Nodup
 ix:∀j∈x.1,j<ps.length
 ne:x.1≠[]
 m1:1<=x.2
structure kO (ps:List aQ)(st g:Nat)(fl:List Int)(ws:List (List Nat×Int)):Prop where
 walk:∀x∈ws,uP ps st g x
 sum:∀i:Nat,i<ps.length->share i ws=lf fl i
 few:ws.length<=jW fl
 tot:∀F:aQ->Int,zp F ps ws=zs (λq f=>f*F q) ps fl
def Up (ps:List aQ)(fl:List Int)(ρ:Nat->Int):Prop:=∀(i:Nat) q f,ps[i]? =some q->fl[i]? =some f->0<f->ρ q.a<ρ q.b
theorem RJ (F:aQ->Int):∀{ps:List aQ}{fl:List Int},(∀i:Nat,i<ps.length->lf fl i=0)->zs (λq f=>f*F q) ps fl=0
 |[],_,_=>by simp[zs]
 |_::_,[],_=>by simp[zs]
 |q::r,f::fs,h=>by have h0:f=0:=h 0 (by simp);rw[zs,h0,zero_mul,RJ F (ps:=r) (fl:=fs) λi hi=>h (i+1)<|by simpa using hi];rfl
theorem kO.nil (h:∀i:Nat,i<ps.length->lf fl i=0):kO ps st g fl []:=
 ⟨λ_ h=>(nomatch h),λi hi=>(h i hi).symm,zero_le _,λF=>(RJ F h).symm⟩
theorem Cons.take (K:Cons ps st g fl M)(hl:fl.length=ps.length)(hw:goes ps st w=some g)(nd:w.Nodup)(hi:∀j∈w,j<ps.length)(hm:∀j∈w,m<=lf fl j):Cons ps st g (je m fl w) (M - m):=by
 have hi':∀j∈w,j<fl.length:=λj hj=>by rw[hl];exact hi j hj
 refine⟨λi q f a b=>?_,λz=>?_⟩
 .have e:=oR (m:=m) nd hi' i;rw[uO b] at e;have hil:i<fl.length:=by have:=(List.getElem?_eq_some_iff.mp b).1;rwa [mZ] at this
  have:=K.nn i q _ a<|nW hil;rw[e];by_cases hiw:i∈w
  .rw[if_pos hiw];have:=hm i hiw;omega
  .rw[if_neg hiw];omega
 .have:=Gz (λq=>Sp.b2 (q.b=z) - Sp.b2 (q.a=z)) m hl hi';rw[this,K.net z,wL (λv=>Sp.b2<|v=z) hw,Int.sub_mul]
theorem CJ (hm:0<=m)(nd:w.Nodup)(hi:∀j∈w,j<fl.length)(h:0<lf (je m fl w) i):0<lf fl i:=by
 rw[oR nd hi i] at h;by_cases hw:i∈w
 .rw[if_pos hw] at h;omega
 .rw[if_neg hw] at h;omega
theorem Up.take (U:Up ps fl ρ)(hm:0<=m)(nd:w.Nodup)(hi:∀j∈w,j<fl.length):Up ps (je m fl w) ρ:=λi q f a b h=>by
 have hil:i<fl.length:=by have:=(List.getElem?_eq_some_iff.mp b).1;rwa [mZ] at this
 rw[<-uO b] at h;exact U i q _ a (nW hil)<|CJ hm nd hi h
theorem kO.more {ws:List (List Nat×Int)}(hl:fl.length=ps.length)(W:uP ps st g (w,m))(hm:∀j∈w,m<=lf fl j)(hat:∃j∈w,lf fl j=m)(P:kO ps st g (je m fl w) ws):kO ps st g fl ((w,m)::ws):=by
 have hi':∀j∈w,j<fl.length:=λj hj=>by rw[hl];exact W.ix j hj
 have m1:=W.m1;simp only at m1;refine⟨λx hx=>?_,λi hi=>?_,?_,λF=>?_⟩
 .rcases mem_cons.mp hx with rfl|hx
  .exact W
  .exact P.walk x hx
 .have:=P.sum i hi;rw[oR W.nd hi' i] at this;rw[share,this];simp only;split<;>omega
 .have h1:=P.few;obtain⟨j,hj,e⟩:=hat;have h2:jW (je m fl w)<jW fl:=GC (mZ ..) (λi h=>CJ (by omega) W.nd hi' h) ⟨j,by rw[oR W.nd hi' j,if_pos hj];omega,by omega⟩;rw[length_cons];omega
 .rw[zp,P.tot F,Gz F m hl hi'];simp only;omega
theorem Cons.most (K:Cons ps st g fl M)(hl:fl.length=ps.length)(hne:st≠g)(U:Up ps fl ρ)(hM:0<=M)(hw:goes ps st w=some g)(hi:∀j∈w,j<ps.length)(hm:∀j∈w,m<=lf fl j)(wn:w≠[]):0<=M - m:=by
 cases w with
 |nil=>exact absurd rfl wn
 |cons j w=>
  have hj:=hi j mem_cons_self;have X5:=hm j mem_cons_self;have e:=getElem?_eq_getElem hj;rw[goes,e] at hw;simp only at hw;by_cases ha:ps[j].a=st
  .have ef:=nW (by rw[hl];exact hj);have part:=Aj (K.acG st) j _ _ e ef;have hn:=K.net st;rw[rR] at hn;have e2:Sp.b2 (g=st) - Sp.b2 (st=st)= -1:=by unfold Sp.b2;rw[if_neg<|λz=>hne z.symm,if_pos rfl];rfl
   rw[e2] at hn;have hin:zs (inF st) ps fl<=0:=by
    by_cases z:0<zs (inF st) ps fl
    .obtain⟨i,q,f,a,b,c,d⟩:=RD z;have h1:=K.low hM U i q f a b c;have h2:=U i q f a b c;rw[d] at h2;omega
    .omega
   have e3:outF st ps[j] (lf fl j)=lf fl j:=by unfold outF Sp.b2;rw[if_pos ha,Int.mul_one]
   omega
  .rw[if_neg ha] at hw;cases hw
theorem aat {ws:List (List Nat×Int)}(h:∀x∈ws,1<=x.2)(i:Nat):0<=share i ws:=by
 induction ws with
 |nil=>exact Int.le_refl _
 |cons x ws ih=>have:=ih λy hy=>h y<|mem_cons_of_mem _ hy;have:=h x mem_cons_self;rw[share];split<;>omega
theorem aau {ws:List (List Nat×Int)}(h:∀x∈ws,1<=x.2):∀x∈ws,i∈x.1->x.2<=share i ws:=by
 induction ws with
 |nil=>intro x hx;simp at hx
 |cons y ws ih=>
  intro x hx hi;have h0:=aat (λy hy=>h y<|mem_cons_of_mem _ hy) i;have h1:=h y mem_cons_self;rw[share];rcases mem_cons.mp hx with rfl|hx
  .rw[if_pos hi];omega
  .have:=ih (λy hy=>h y<|mem_cons_of_mem _ hy) x hx hi;split<;>omega
theorem kO.has {ws:List (List Nat×Int)}(P:kO ps st g fl ws)(hx:x∈ws):∀j∈x.1,x.2<=lf fl j/\0<lf fl j:=λj hj=>by have m1:=(P.walk x hx).m1;have:=aau (λy hy=>(P.walk y hy).m1) x hx hj;rw[P.sum j<|(P.walk x hx).ix j hj] at this;omega
end LH
local macro_rules | `(tactic| walk_at "e1")=>do
 let a<-((evS++" gRv aky afJ adE").splitOn " ").toArray.mapM λs=>`(Lean.Parser.Tactic.simpLemma| $(Lean.mkIdent s.toName):ident)
 `(tactic| try simp only[$a,*,↓reduceIte])
namespace LH
open L2 VM Sp PM
variable {st g:Nat}
def Ke (ps:List aQ)(fl:List Int)(u k:Nat)(o:Out):Prop:=
 (∃(i:Nat) (q:aQ) (S':GS),ps[i]? =some q/\q.a=u/\0<lf fl i/\o=Out.ret S' false (.int (i:Int)))\/
 ((∀(i:Nat) (q:aQ),k<=i->ps[i]? =some q->q.a=u->lf fl i<=0)/\∃x3' x4',o=Out.nxt [some (Tg.fr,.list<|(ps.map toPq).map pD),some (Tg.fr,.int (u:Int)),some (Tg.fr,.list<|fl.map .int),ob x3',ob x4'])
theorem Ke.step (h:Ke ps fl u (k+1) o)(h0:∀q:aQ,ps[k]? =some q->q.a=u->lf fl k<=0):Ke ps fl u k o:=by
 rcases h with h|⟨h1,h2⟩
 .exact .inl h
 .refine .inr ⟨λi q hi e ha=>?_,h2⟩;by_cases z:i=k
  .subst z;exact h0 q e ha
  .exact h1 i q (by omega) e ha
theorem RK (hl:fl.length=ps.length):∀(r:List aQ) (k:Nat) (x3 x4:Option PyData),(∀j:Nat,r[j]? =ps[k+j]?)->
  Ke ps fl u k (fD (gT 2 (gC (gN 3) (gC (gN 4) g0)))
   (c7 (fP (vB<|v2 fZ (v2 aM (vN 4)<|vC<|.int 0)<|vN 1)<|vB<|v2 yF (v2 aM (vN 2)<|vN 3)<|vC<|.int 0) (fU 3) cJ)
   (mj k ((r.map toPq).map pD)) [some (Tg.fr,.list ((ps.map toPq).map pD)),some (Tg.fr,.int (u:Int)),some (Tg.fr,.list (fl.map .int)),ob x3,ob x4])
 |[],k,x3,x4,h=>.inr ⟨λi q hi e=>by
  have:=h (i - k);rw[show k+(i - k)=i by omega,e] at this;simp at this,x3,x4,rfl⟩
 |q::r,k,x3,x4,h=>by
  have hk:ps[k]? =some q:=(h 0).symm;have hkl:k<fl.length:=by rw[hl];exact(List.getElem?_eq_some_iff.mp hk).1
  have hr:∀j:Nat,r[j]? =ps[k+1+j]?:=λj=>by have:=h<|j+1;rw[getElem?_cons_succ] at this;rw[this];congr 1;omega
  have ih:=RK (u:=u) hl r (k+1) (some<|.int (k:Int)) (some<|pD<|toPq q) hr;have e0:mj k (((q::r).map toPq).map pD)=.tuple [.int (k:Int),pD<|toPq q]::mj (k+1) ((r.map toPq).map pD):=rfl;have e1:pD (toPq q)=.tuple [.int (q.a:Int),.int (q.b:Int),.int q.w,.int q.l]:=rfl;rw[e0];simp only[fD];rw[e1] at ih ⊢;simp only[uG] at ih;by_cases ha:q.a=u
  .have e2:((q.a:Int)=(u:Int)):=by rw[ha]
   by_cases hf:0<lf fl k
   .walk_at "e1";simp only[e2,decide_true];walk_at "e1";rw[Eo hkl];walk_at "e1";simp only[hf,decide_true];walk_at "e1";exact .inl ⟨k,q,_,hk,ha,hf,rfl⟩
   .walk_at "e1";simp only[e2,decide_true];walk_at "e1";rw[Eo hkl];walk_at "e1";simp only[hf,decide_false];walk_at "e1";simp only[e2] at ih;exact ih.step λ_ _ _=>by omega
  .have e2:¬((q.a:Int)=(u:Int)):=by omega
   walk_at "e1";simp only[e2,decide_false];walk_at "e1";exact ih.step λq' e' ha'=>by rw[hk] at e';cases e';exact absurd ha' ha
theorem agb (hl:fl.length=ps.length):(∃(i:Nat) (q:aQ),ps[i]? =some q/\q.a=u/\0<lf fl i/\Pg.gB [hD ps,.int (u:Int),.list<|fl.map .int]=some (false,.int (i:Int)))\/
  ((∀(i:Nat) q,ps[i]? =some q->q.a=u->lf fl i<=0)/\Pg.gB [hD ps,.int (u:Int),.list<|fl.map .int]=some (false,.none)):=by
 unfold Pg.gB Pg.yX hD uN;walk_at "e1";rcases RK hl ps 0 none none (λj=>by rw[zero_add]) with⟨i,q,S',h1,h2,h3,h4⟩|⟨h1,x3,x4,h2⟩
 .simp only[jx] at h4;refine .inl ⟨i,q,h1,h2,h3,?_⟩;rw[h4];walk_at "e1"
 .simp only[jx] at h2;refine .inr ⟨λi q=>h1 i q<|zero_le _,?_⟩;rw[h2];walk_at "e1"
def sY:VS:=(aK (bY (aZ Pg.gB (aC (vF 0) (aC (vF 5) (aC (vF 3) a0)))) (gN 6))
 (aK (c7 (vB (v2 isD (vN 6) (vC .none)))
 (qK<|fY a0)
 cJ)
 (aK (iM 4 (aC (vF 6) a0))
 (bY (v2 aM (v2 aM (vN 0) (vN 6)) (vC (.int 1))) (gN 5)))))
def SA (ps:List aQ)(st g:Nat)(fl:List Int)(w:List Nat)(v:Nat)(x6:Option PyData):GS:=[some (Tg.fr,hD ps),some (Tg.fr,.int (st:Int)),some (Tg.fr,.int (g:Int)),some (Tg.fr,.list<|fl.map .int),some (Tg.ow,.list<|w.map cB),some (Tg.fr,.int (v:Int)),ob x6]
theorem aav {v i:Nat}(hq:ps[i]? =some q)(e:Pg.gB [hD ps,.int (v:Int),.list<|fl.map .int]=some (false,.int (i:Int)))(hw:w.length<=1000000):sY (SA ps st g fl w v x6)=.nxt (SA ps st g fl (w++[i]) q.b<|some<|.int (i:Int)):=by unfold sY SA;walk_at "e1";rw[e];walk_at "e1";rw[if_pos (by rw[length_map];exact aY<|by omega)];unfold hD uN;walk_at "e1";rw[jy pD (by rw[getElem?_map,hq];rfl)];walk_at "e1";rw[map_append];rfl
theorem aaw {ρ:Nat->Int}(hl:fl.length=ps.length)(hp:ps.length<=1000)(K:Cons ps st g fl M)(hM:0<M)(hne:st≠g)(U:Up ps fl ρ):∀(k:Nat) (w:List Nat) (v:Nat) (x6:Option PyData),(ρ g - ρ v).toNat<k->goes ps st w=some v->
  (∀j∈w,j<ps.length/\0<lf fl j/\∀q:aQ,ps[j]? =some q->ρ q.a<ρ v)->w.Nodup->(v=st/\w=[]\/w≠[]/\∃(i:Nat) (q:aQ) (f:Int),ps[i]? =some q/\fl[i]? =some f/\0<f/\q.b=v)->
  ∃w',goes ps st w'=some g/\w'.Nodup/\(∀j∈w',j<ps.length/\0<lf fl j)/\w'≠[]/\∃fuel Je,bN (vB<|v2 jN (vN 5)<|vN 2) sY fuel (SA ps st g fl w v x6)=.nxt (SA ps st g fl w' g Je):=λk=>by
 induction k with
 |zero=>intro w v x6 h;omega
 |succ k ih=>
  intro w v x6 hk hw hj nd hv;have cond:vB (v2 jN (vN 5)<|vN 2) (SA ps st g fl w v x6)=some (!decide ((v)=(g:Int))):=by unfold SA;walk_at "e1"
  by_cases hg:v=g
  .subst hg;refine⟨w,hw,nd,λj h=>⟨(hj j h).1,(hj j h).2.1⟩,?_,1,x6,?_⟩
   .rcases hv with⟨z,_⟩|⟨h,_⟩
    .exact absurd z.symm hne
    .exact h
   .rw[bN,cond];simp
  .have nx:∃(i:Nat) (q:aQ) (f:Int),ps[i]? =some q/\fl[i]? =some f/\0<f/\q.a=v:=by
    rcases hv with⟨z,_⟩|⟨_,i,q,f,a,b,c,d⟩
    .rw[z];exact K.start hne hM
    .rw[<-d];exact K.on (Int.le_of_lt hM) a b c<|.inl (by rw[d];exact hg)
   rcases agb (u:=v) hl with⟨i,q,h1,h2,h3,h4⟩|⟨h1,_⟩
   .have hil:=(List.getElem?_eq_some_iff.mp h1).1;have hfi:=nW (by rw[hl];exact hil);have up:=U i q _ h1 hfi h3;have hi:=K.high (Int.le_of_lt hM) U i q _ h1 hfi h3;have hwl:=jL nd λj h=>(hj j h).1;obtain⟨w',a1,a2,a3,a4,fuel,Je,a5⟩:=ih (w++[i]) q.b (some (.int (i))) (by rw[<-h2] at hk;omega) (Jc h1 (by rw[h2];exact hw)) (λj h=>by
     rcases mem_append.mp h with h|h
     .obtain⟨b1,b2,b3⟩:=hj j h;exact⟨b1,b2,λq' e'=>by have:=b3 q' e';rw[h2] at up;omega⟩
     .rw[mem_singleton.mp h];exact⟨hil,h3,λq' e'=>by rw[h1] at e';cases e';exact up⟩) (by
     refine nodup_append.mpr ⟨nd,by simp,?_⟩;intro x hx y hy;rw[mem_singleton.mp hy];intro z;have:=(hj x hx).2.2 q (by rw[z];exact h1);rw[h2] at this;omega) (.inr ⟨by simp,i,q,_,h1,hfi,h3,rfl⟩)
    refine⟨w',a1,a2,a3,a4,fuel+1,Je,?_⟩;refine zf ?_ (aav h1 h4<|by omega) a5;rw[cond]
    have:¬((v)=(g:Int)):=by omega
    simp only[this,decide_false];rfl
   .obtain⟨i,q,f,a,b,c,d⟩:=nx;have:=h1 i q a d;rw[uO b] at this;omega
theorem adT (hl:fl.length=ps.length)(hp:ps.length<=1000)(K:Cons ps st g fl M)(hM:0<M)(hne:st≠g)(U:Up ps fl ρ):∃w:List Nat,goes ps st w=some g/\w.Nodup/\(∀j∈w,j<ps.length/\0<lf fl j)/\w≠[]/\Pg.fH [hD ps,.int (st:Int),.int (g:Int),.list<|fl.map .int]=some (true,.list<|w.map cB):=by obtain⟨w,h1,h2,h3,h4,fuel,x6,h5⟩:=aaw hl hp K hM hne U _ [] st none (lt_succ_self _) rfl (by simp) .nil (.inl ⟨rfl,rfl⟩);refine⟨w,h1,h2,h3,h4,?_⟩;have h6:=uF h5 (by intro z;cases z);unfold SA at h6;unfold sY at h6;unfold Pg.fH Pg.rP;walk_at "e1";simp only[jx,map_nil] at h6;rw[h6];walk_at "e1"
theorem aax (hl:fl.length=ps.length)(K:Cons ps st g fl 0)(hne:st≠g)(U:Up ps fl ρ):(∀i:Nat,i<ps.length->lf fl i=0)/\Pg.fH [hD ps,.int (st:Int),.int (g:Int),.list<|fl.map .int]=some (true,.list []):=by
 have z:∀i:Nat,i<ps.length->lf fl i=0:=λi hi=>K.none U i _ _ (getElem?_eq_getElem hi) (nW (by rw[hl];exact hi));refine⟨z,?_⟩;rcases agb hl with⟨i,q,h1,h2,h3,h4⟩|⟨_,h1⟩
 .have:=z i (List.getElem?_eq_some_iff.mp h1).1;omega
 .unfold Pg.fH Pg.rP;walk_at "e1";have hw:∀S x6,bN (vB<|v2 jN (vN 5)<|vN 2) sY 1 (SA ps st g fl [] st x6)=S->S=.ret ((SA ps st g fl [] st<|some .none)) true (.list []):=λS x6 h=>by
   rw[<-h,bN];have cond:vB (v2 jN (vN 5)<|vN 2) (SA ps st g fl [] st x6)=some true:=by
    unfold SA;walk_at "e1"
    have:¬((st)=(g:Int)):=by omega
    simp only[this,decide_false];rfl
   rw[cond];simp only;have eb:sY (SA ps st g fl [] st x6)=.ret (SA ps st g fl [] st<|some .none) true (.list []):=by unfold sY SA;walk_at "e1";rw[h1];walk_at "e1"
   rw[eb]
  have h6:=uF (hw _ none rfl) (by intro z;cases z);unfold SA sY at h6;simp only[jx,map_nil] at h6;rw[h6];walk_at "e1"
def xM (x:List Nat×Int):PyData:=.tuple [.list<|x.1.map cB,.int x.2]
theorem Od:∀w:List Nat,j9 (w.map cB)=true
 |[]=>rfl
 |j::w=>by simp only[map_cons,cB,j9,pP,Bool.true_and];exact Od w
def Eu:VS:=(aK (bY (pR Pg.fH (aC (vN 0) (aC (vN 1) (aC (vN 2) (aC (vN 4) a0))))) (gN 6))
 (aK (c7 (cR (tM (vN 6)))
 (fU 5)
 cJ)
 (aK (bY (cU minD (aC (vW (cu (vF 6)) [none,some 4] (gN 0) fQ (v2 aM (vN 1) (vN 0))) a0)) (gN 7))
 (aK (lM (cu (vF 6)) (gN 8)
 (nO mD 4 (vN 8) (vF 7)))
 (iM 5 (aC (fB (aC (vF 6) (aC (vF 7) a0))) a0))))))
def SK (ps:List aQ)(st g:Nat)(Oe:List Int)(fl:List Int)(ws:List (List Nat×Int))(x6 x7 x8:Option PyData):GS:=[some (Tg.fr,hD ps),some (Tg.fr,.int (st:Int)),some (Tg.fr,.int (g:Int)),some (Tg.fr,.list<|Oe.map .int),some (Tg.ow,.list<|fl.map .int),some (Tg.ow,.list<|ws.map xM),ob x6,ob x7,ob x8]
theorem aay (hl:fl.length=ps.length)(hp:ps.length<=1000)(ha:acc.length<=1000000)(nd:w.Nodup)(hw:∀j∈w,j<ps.length/\0<lf fl j)(wn:w≠[])(e:Pg.fH [hD ps,.int (st:Int),.int (g:Int),.list<|fl.map .int]=some (true,.list<|w.map cB)):
  ∃m y6 y7 y8,1<=m/\(∀j∈w,m<=lf fl j)/\(∃j∈w,lf fl j=m)/\Eu (SK ps st g Oe fl acc x6 x7 x8)=.nxt (SK ps st g Oe (je m fl w) (acc++[(w,m)]) y6 y7 y8):=by
 have hwl:=jL nd λj h=>(hw j h).1;obtain⟨l1,l2⟩:=kh (ns:=w.map<|lf fl) (by simpa using wn);generalize hm:jr (w.map<|lf fl)=m at*
 obtain⟨j0,hj0,ej0⟩:=mem_map.mp l1;have key:∀rs (L:List Int) (A B:PyData) (x:Option PyData),L.length=ps.length->(∀j∈rs,j<ps.length)->∃x',
   fD (gN 8) (nO mD 4 (vN 8)<|vF 7) (rs.map cB) [some (Tg.fr,hD ps),some (Tg.fr,.int<|st),some (Tg.fr,.int<|g),some (Tg.fr,.list<|Oe.map .int),some (Tg.ow,.list<|L.map .int),some (Tg.ow,A),some (Tg.fr,B),some (Tg.fr,.int m),ob x]
    =.nxt [some (Tg.fr,hD ps),some (Tg.fr,.int<|st),some (Tg.fr,.int<|g),some (Tg.fr,.list<|Oe.map .int),some (Tg.ow,.list<|(je m L rs).map .int),some (Tg.ow,A),some (Tg.fr,B),some (Tg.fr,.int m),ob x']:=λrs=>by
  induction rs with
  |nil=>intro L A B x _ _;exact⟨x,rfl⟩
  |cons j rs ih=>intro L A B x hL hj;have h1:=hj j mem_cons_self;obtain⟨x',hx⟩:=ih (pq m L j) A B (some<|.int<|j) (by rw[pY];exact hL) λi hi=>hj i<|mem_cons_of_mem _ hi;refine⟨x',?_⟩;rw[map_cons,fD];unfold cB;walk_at "e1";rw[length_map,rF<|by omega];walk_at "e1";rw[NQ<|by omega];walk_at "e1";rw[<-map_set];simp only[uG] at hx;exact hx
 obtain⟨x',hx⟩:=key w fl (.list<|acc.map xM) (.list<|w.map cB) x8 hl λj h=>(hw j h).1;refine⟨m,some<|.list<|w.map cB,some<|.int m,x',?_,λj h=>l2 _<|mem_map.mpr ⟨j,h,rfl⟩,⟨j0,hj0,ej0⟩,?_⟩
 .have:=(hw j0 hj0).2;omega
 unfold Eu SK;walk_at "e1";rw[e];walk_at "e1";rw[Od];walk_at "e1";have et:(w.map cB).isEmpty=false:=by cases w with|nil=>exact absurd rfl wn|cons a r=>rfl
 simp only[et];walk_at "e1";rw[MJ (by rw[length_map];exact aY (by omega))];rw[gJ (f:=λd=>match d with|.int m=>.int (lf fl m.toNat)|_=>.none) (by
  intro d hd;obtain⟨j,h,rfl⟩:=mem_map.mp hd;refine⟨[some (Tg.fr,.int<|j),some (Tg.fr,.list<|fl.map .int)],?_,rfl,?_⟩
  .unfold cB;walk_at "e1"
  .have:=(hw j h).1;walk_at "e1";rw[Eo (by omega)];rfl)]
 rw[map_map];have em:w.map ((λd=>match d with|.int m=>PyData.int (lf fl m.toNat)|_=>.none) ∘ cB)=(w.map<|lf fl).map PyData.int:=by rw[map_map];exact map_congr_left λm _=>by simp[cB]
 rw[em];walk_at "e1";have eM:minD [.list<|(w.map<|lf fl).map PyData.int]=some (.int m):=by
  simp only[minD,jJ];cases w with
  |nil=>exact absurd rfl wn
  |cons a r=>simp only[map_cons] at hm ⊢;rw[hm]
 rw[eM];walk_at "e1";rw[hx];walk_at "e1";rw[if_pos (by rw[length_map];exact aY<|by omega)];rw[map_append];rfl
theorem aaz (hp:ps.length<=1000)(hne:st≠g):∀(k:Nat) (fl:List Int) (M:Int) (acc:List (List Nat×Int)) (x6 x7 x8:Option PyData),jW fl<k->fl.length=ps.length->Cons ps st g fl M->0<=M->Up ps fl ρ->acc.length+jW fl<=1000000->
  ∃ws fuel S',kO ps st g fl ws/\bN (vB<|vC<|.bool true) Eu fuel (SK ps st g Oe fl acc x6 x7 x8)=.ret S' true (.list<|(acc++ws).map xM):=λk=>by
 induction k with
 |zero=>intro fl M acc x6 x7 x8 h;omega
 |succ k ih=>
  intro fl M acc x6 x7 x8 hk hl K hM U hacc;by_cases hz:M=0
  .subst hz;obtain⟨z,e⟩:=aax hl K hne U;refine⟨[],1,(SK ps st g Oe fl acc (some<|.list []) x7 x8).set 5 none,kO.nil z,?_⟩;refine wJ rfl ?_;unfold Eu SK;walk_at "e1";rw[e];walk_at "e1";simp only[List.isEmpty_nil];walk_at "e1"
  .obtain⟨w,h1,h2,h3,h4,h5⟩:=adT hl hp K (by omega) hne U;obtain⟨m,y6,y7,y8,m1,m2,m3,eb⟩:=aay (acc:=acc) hl hp (by omega) h2 h3 h4 h5;have hi':∀j∈w,j<fl.length:=λj hj=>by rw[hl];exact(h3 j hj).1
   have K':=K.take hl h1 h2 (λj hj=>(h3 j hj).1) m2;have U':Up ps (je m fl w) ρ:=U.take (by omega) h2 hi';obtain⟨j0,hj0,ej0⟩:=m3;have hlt:jW (je m fl w)<jW fl:=GC (mZ ..) (λi h=>CJ (by omega) h2 hi' h) ⟨j0,by rw[oR h2 hi' j0,if_pos hj0];omega,by omega⟩;have hM':0<=M - m:=by
    by_cases z:0<=M - m
    .exact z
    .
     exact K.most hl hne U hM h1 (λj hj=>(h3 j hj).1) m2 h4
   obtain⟨ws,fuel,S',P,e⟩:=ih (je m fl w) (M - m) (acc++[(w,m)]) y6 y7 y8 (by omega) (by rw[mZ];exact hl) K' hM' U' (by rw[length_append];simp only[length_cons,length_nil];omega);refine⟨(w,m)::ws,fuel+1,S',P.more hl ⟨h1,h2,λj hj=>(h3 j hj).1,h4,m1⟩ m2 ⟨j0,hj0,ej0⟩,?_⟩;refine zf rfl eb ?_;rw[e,append_assoc];rfl
theorem adU (hl:fl.length=ps.length)(hp:ps.length<=1000)(hne:st≠g)(K:Cons ps st g fl M)(hM:0<=M)(U:Up ps fl ρ):∃ws,kO ps st g fl ws/\Pg.nU [hD ps,.int (st:Int),.int (g:Int),.list<|fl.map .int]=some (true,.list<|ws.map xM):=by obtain⟨ws,fuel,S',P,e⟩:=aaz hp hne _ fl M [] none none none (lt_succ_self _) hl K hM U (by have:=wN fl;simp;omega);refine⟨ws,P,?_⟩;have e2:=uF e (by intro z;cases z);unfold SK Eu at e2;simp only[jx,map_nil,nil_append] at e2;unfold Pg.nU Pg.Ek;walk_at "e1";rw[e2];walk_at "e1"
end LH
namespace LH
open L2 VM Sp PM
variable {M T C:Int}
theorem X6 (Hh:aW n ps)(hst:st<n)(R:Runs n ps st g (some T) left r bR)(S:St n ps st left π)(h:r≠[]\/π g<=T):∃jc,St n ps st bR jc/\jc g<=T:=by
 induction R generalizing π with
 |none _ _=>exact⟨π,S,by rcases h with h|h;exact absurd rfl h;exact h⟩
 |far _ _ _ _=>exact⟨π,S,by rcases h with h|h;exact absurd rfl h;exact h⟩
 |go P hl R ih=>obtain⟨_,_,⟨Bo,S1,e1⟩,_,_⟩:=kj Hh S hst P;exact ih S1<|.inr (by rw[e1];exact hl T rfl)
theorem aaA (R:Runs n ps st g lim left [] bR):bR=left:=by cases R<;>rfl
def agd (ps:List aQ)(st g:Nat)(T:Int)(fl:List Int):Prop:=∀i0:Nat,0<lf fl i0->∃π:Nat->Int,π st=0/\π g<=T/\∀(i:Nat) q,ps[i]? =some q->0<lf fl i->q.l<=π q.b - π q.a
theorem Og (Hh:aW n ps)(hst:st<n)(R:Runs n ps st g (some T) (dO ps) r (lf L)):agd ps st g T (j4 L ps.length):=λi0 h0=>by
 have S0:St n ps st (dO ps) (λv=>if v=st then 0 else 1):=uM Hh;have at_:∀i:Nat,0<lf (j4 L ps.length) i->i<ps.length/\lf (j4 L ps.length) i=lf L (2*i+1):=λi hi=>by
  have hil:i<(j4 L ps.length).length:=by
   by_cases z:i<(j4 L ps.length).length
   .exact z
   .unfold lf at hi;rw[getD_eq_getElem?_getD,getElem?_eq_none<|by omega] at hi;exact absurd hi<|by decide
  have e:=nW hil;obtain⟨a,b⟩:=Gx e;exact⟨a,b⟩
 have hr:r≠[]:=by intro z;subst z;obtain⟨_,e⟩:=at_ i0 h0;have:=aaA R;rw[this,pW] at e;omega
 obtain⟨π,S,hπ⟩:=X6 Hh hst R S0<|.inl hr;refine⟨π,S.z,hπ,λi q e1 hf=>?_⟩;obtain⟨_,e⟩:=at_ i hf;have:=S.fit.pay q.b (2*i+1,q.a,-q.l) (Hh.rb q<|mem_of_getElem? e1) (dG.mpr ⟨i,q,e1,.inr ⟨rfl,rfl⟩⟩) (by show 0<lf L (2*i+1);omega);have ah7:=this;omega
theorem X7 (Hh:aW n ps)(sm:Small n ps)(hst:st<n)(hg:g<n)(hne:st≠g)(T:Int):∃fl M C,kI n ps st g T fl M C/\agd ps st g T fl/\Pg.gA [.int n,hD ps,.int st,.int g,.int T]=some (true,.list<|fl.map .int):=by obtain⟨r,L,R,_,e⟩:=af8 Hh sm hst hg hne;exact⟨_,_,_,N6 Hh hst hg hne R,Og Hh hst R,e⟩
theorem UJ {π:Nat->Int}(hi:∀j∈w,j<ps.length)(hw:goes ps st w=some g)(h:∀(i:Nat) q,ps[i]? =some q->i∈w->q.l<=π q.b - π q.a):cH aQ.l ps w<=π g - π st:=by
 have e:=wL π hw;have s:=wM (λq=>π q.b - π q.a) aQ.l w hi;have nn:0<=cH (λq=>π q.b - π q.a - q.l) ps w:=Jd λj hj=>by have e1:=getElem?_eq_getElem<|hi j hj;rw[kJ e1];have:=h j _ e1 hj;omega
 rw[s,e] at nn;omega
theorem Jf (Hh:aW n ps):∀{w:List Nat},(∀j∈w,j<ps.length)->(w.length:Int)<=cH aQ.l ps w
 |[],_=>by simp[cH]
 |j::w,h=>by have e1:=getElem?_eq_getElem<|h j mem_cons_self;have:=Hh.l1 _<|mem_of_getElem? e1;have:=Jf Hh (w:=w) λi hi=>h i<|mem_cons_of_mem _ hi;rw[ig,kJ e1,length_cons];omega
theorem Jg:∀{ps:List aQ}{fl:List Int},fl.length=ps.length->(gK ps fl).length=2*ps.length
 |[],[],_=>rfl
 |[],_::_,e=>by simp at e
 |_::_,[],e=>by simp at e
 |q::r,f::fs,e=>by rw[gK,length_cons,length_cons,Jg (ps:=r) (fl:=fs)<|by simpa using e,length_cons];omega
theorem pZ:∀{ps:List aQ}{fl:List Int} {i:Nat} {q:aQ} {f:Int},ps[i]? =some q->fl[i]? =some f->lf (gK ps fl) (2*i)=q.w - f/\lf (gK ps fl) (2*i+1)=f
 |[],_,i,q,f,h,_=>by simp at h
 |_::_,[],i,q,f,_,h=>by simp at h
 |p::r,x::fs,0,q,f,h1,h2=>by simp only[getElem?_cons_zero,Option.some.injEq] at h1 h2;subst h1;subst h2;exact⟨rfl,rfl⟩
 |p::r,x::fs,i+1,q,f,h1,h2=>by
  rw[getElem?_cons_succ] at h1 h2;have:=pZ (ps:=r) (fl:=fs) h1 h2;have e1:lf (gK (p::r) (x::fs)) (2*(i+1))=lf (gK r fs) (2*i):=by rw[gK,show 2*(i+1)=2*i+1+1 by omega];rfl
  have e2:lf (gK (p::r) (x::fs)) (2*(i+1)+1)=lf (gK r fs) (2*i+1):=by rw[gK,show 2*(i+1)+1=2*i+1+1+1 by omega];rfl
  rw[e1,e2];exact this
noncomputable def lF (st g:Nat)(T:Int):aQ:=⟨st,g,1,T+1⟩
theorem Jh (Hh:aW n ps)(hst:st<n)(hg:g<n)(hne:st≠g)(hT:0<=T):aW n (ps++[lF st g T]):=by
 refine⟨?_,?_,?_,?_,?_⟩<;>(intro q hq;rcases mem_append.mp hq with h|h)
 .exact Hh.ra q h
 .rw[mem_singleton.mp h];exact hst
 .exact Hh.rb q h
 .rw[mem_singleton.mp h];exact hg
 .exact Hh.ne q h
 .rw[mem_singleton.mp h];exact hne
 .exact Hh.w1 q h
 .rw[mem_singleton.mp h];exact Int.le_refl _
 .exact Hh.l1 q h
 .rw[mem_singleton.mp h];show 1<=T+1;omega
noncomputable def iQ (T:Int):Option Lb->Int
 |none=>T+1
 |some l=>if T+1<l.d then T+1 else l.d
theorem aaB (Hh:aW n ps)(hst:st<n)(hg:g<n)(hne:st≠g)(hT:0<=T)(hl:fl.length=ps.length)(m0:μ st=0)(m1:μ g=T+1)(fit:∀(i:Nat) q f,ps[i]? =some q->fl[i]? =some f->(f<q.w->μ q.b - μ q.a<=q.l)/\(0<f->q.l<=μ q.b - μ q.a)):
  cT n (lf<|gK (ps++[lF st g T])<|fl++[0]) (bx<|ps++[lF st g T]) μ:=by
 have H2:=Jh Hh hst hg hne hT;refine⟨H2.room,H2.Rn,λu m hu hm hp=>?_⟩;obtain⟨i,q,e,h⟩:=dG.mp hm;have hil:i<ps.length+1:=by have:=(List.getElem?_eq_some_iff.mp e).1;rw[length_append] at this;exact this
 by_cases z:i<ps.length
 .have e1:ps[i]? =some q:=by rw[getElem?_append_left z] at e;exact e
  have f1:fl[i]? =some (lf fl i):=nW (by omega);have f2:(fl++[0])[i]? =some (lf fl i):=by rw[getElem?_append_left<|by omega];exact f1
  obtain⟨l1,l2⟩:=pZ e f2;obtain⟨k1,k2⟩:=fit i q _ e1 f1;rcases h with⟨rfl,rfl⟩|⟨rfl,rfl⟩
  .simp only at hp ⊢;rw[l1] at hp;have:=k1 (by omega);omega
  .simp only at hp ⊢;rw[l2] at hp;have:=k2 hp;omega
 .have hi:i=ps.length:=by omega
  subst hi;have e1:q=lF st g T:=by rw[getElem?_append_right<|le_refl _,sub_self,getElem?_cons_zero] at e;exact(Option.some.inj e).symm
  have f2:(fl++[0])[ps.length]? =some 0:=by rw[getElem?_append_right<|by omega,hl,sub_self,getElem?_cons_zero]
  obtain⟨l1,l2⟩:=pZ e f2;subst e1;rcases h with⟨rfl,rfl⟩|⟨rfl,rfl⟩
  .simp only[lF];omega
  .simp only at hp;rw[l2] at hp;exact absurd hp<|by decide
theorem Oh (Hh:aW n ps)(hst:st<n)(hg:g<n)(hne:st≠g)(hT:0<=T)(F:kI n ps st g T fl M C)(m0:μ st=0)(m1:μ g=T+1)(mb:∀v,0<=μ v/\μ v<=T+1)(fit:∀(i:Nat) q f,ps[i]? =some q->fl[i]? =some f->(f<q.w->μ q.b - μ q.a<=q.l)/\(0<f->q.l<=μ q.b - μ q.a))
  (Tr:Tree n (lf<|gK (ps++[lF st g T])<|fl++[0]) (bx<|ps++[lF st g T]) μ st aq):
  lf (aq.map<|iQ T) st=0/\lf (aq.map<|iQ T) g=T+1/\(∀v,v<n->0<=lf (aq.map<|iQ T) v/\lf (aq.map<|iQ T) v<=T+1)/\
  ∀(i:Nat) q f,ps[i]? =some q->fl[i]? =some f->(f<q.w->lf (aq.map<|iQ T) q.b - lf (aq.map<|iQ T) q.a<=q.l)/\(0<f->q.l<=lf (aq.map<|iQ T) q.b - lf (aq.map<|iQ T) q.a):=by
 have at_:∀{v:Nat}{o:Option Lb},aq[v]? =some o->lf (aq.map<|iQ T) v=iQ T o:=λ{v o} h=>uO (by rw[getElem?_map,h];rfl);have some_:∀v,v<n->∃o,aq[v]? =some o:=λv hv=>⟨_,getElem?_eq_getElem (by rw[Tr.ll];exact hv)⟩;have lo:∀v (l:Lb),aq[v]? =some (some l)->μ v<=l.d:=λv l h=>by have:=Tr.lo v l h;omega
 have hlg:∃lg,aq[g]? =some (some lg)/\lg.d=T+1:=by
  have e:(ps++[lF st g T])[ps.length]? =some (lF st g T):=by rw[getElem?_append_right<|le_refl _,sub_self,getElem?_cons_zero]
  have f2:(fl++[0])[ps.length]? =some 0:=by rw[getElem?_append_right (by have:=F.len;omega),F.len,sub_self,getElem?_cons_zero]
  obtain⟨l1,_⟩:=pZ e f2;obtain⟨lv,h1,h2⟩:=Tr.rel st _ (2*ps.length,g,T+1) Tr.st0 (dG.mpr ⟨ps.length,_,e,.inl ⟨rfl,rfl⟩⟩) (by simp only;rw[l1];show(0)<1 - 0;decide);have h3:=lo g lv h1;refine⟨lv,h1,?_⟩;simp only at h2;omega
 obtain⟨lg,eg,hgd⟩:=hlg;have step:∀i (q:aQ) (f:Int),ps[i]? =some q->fl[i]? =some f->(f<q.w->∀l:Lb,aq[q.a]? =some (some l)->∃l':Lb,aq[q.b]? =some (some l')/\l'.d<=l.d+q.l)/\(0<f->∀l:Lb,aq[q.b]? =some (some l)->∃l':Lb,aq[q.a]? =some (some l')/\l'.d<=l.d - q.l):=λi q f a b=>by
  have hil:=(List.getElem?_eq_some_iff.mp a).1;have e:(ps++[lF st g T])[i]? =some q:=by rw[getElem?_append_left hil];exact a
  have f2:(fl++[0])[i]? =some f:=by rw[getElem?_append_left (by have:=F.len;omega)];exact b
  obtain⟨l1,l2⟩:=pZ e f2;refine⟨λh l hl=>?_,λh l hl=>?_⟩
  .exact Tr.rel q.a l (2*i,q.b,q.l) hl (dG.mpr ⟨i,q,e,.inl ⟨rfl,rfl⟩⟩) (by simp only;rw[l1];omega)
  .obtain⟨l',h1,h2⟩:=Tr.rel q.b l (2*i+1,q.a,-q.l) hl (dG.mpr ⟨i,q,e,.inr ⟨rfl,rfl⟩⟩) (by simp only;rw[l2];exact h);exact⟨l',h1,by simp only at h2;omega⟩
 obtain⟨B,hB0,hB⟩:=above (λv=>match aq[v]? with|some (some l)=>some l.d|_=>none) n (T+2);have hB':∀v (l:Lb),v<n->aq[v]? =some (some l)->l.d<=B:=λv l hv h=>hB v l.d hv (by rw[h]);have up:∀(i:Nat) q f,ps[i]? =some q->fl[i]? =some f->0<f->(λv=>match aq[v]? with|some (some l)=>l.d|_=>B+1+μ v) q.a<(λv=>match aq[v]? with|some (some l)=>l.d|_=>B+1+μ v) q.b:=λi q f a b hf=>by
  have hl1:=Hh.l1 q<|mem_of_getElem? a;obtain⟨ob',eb⟩:=some_ q.b<|Hh.rb q<|mem_of_getElem? a;obtain⟨oa,ea⟩:=some_ q.a<|Hh.ra q<|mem_of_getElem? a;simp only[ea,eb];cases ob' with
  |some lb=>
   obtain⟨l',h1,h2⟩:=(step i q f a b).2 hf lb eb;rw[ea] at h1;cases h1;simp only;omega
  |none=>
   cases oa with
   |some la=>have:=hB' q.a la (Hh.ra q<|mem_of_getElem? a) ea;have:=(mb q.b).1;simp only;omega
   |none=>have:=(fit i q f a b).2 hf;simp only;omega
 have high:∀(i:Nat) q f,ps[i]? =some q->fl[i]? =some f->0<f->∃l,aq[q.b]? =some (some l)/\l.d<=T+1:=λi q f a b hf=>by
  have h:=F.cons.high (ρ:=λv=>match aq[v]? with|some (some l)=>l.d|_=>B+1+μ v) F.M0 up i q f a b hf;obtain⟨ob',eb⟩:=some_ q.b<|Hh.rb q<|mem_of_getElem? a;simp only[eb,eg] at h;cases ob' with
  |some lb=>exact⟨lb,eb,by simp only at h;omega⟩
  |none=>simp only at h;have:=(mb q.b).1;omega
 refine⟨?_,?_,λv hv=>?_,λi q f a b=>⟨λh=>?_,λh=>?_⟩⟩
 .rw[at_ Tr.st0];simp only[iQ];rw[if_neg<|by omega]
 .rw[at_ eg];simp only[iQ];split<;>omega
 .obtain⟨o,e⟩:=some_ v hv;rw[at_ e];cases o with
  |none=>simp only[iQ];omega
  |some l=>have h1:=lo v l e;have h2:=(mb v).1;simp only[iQ];split<;>omega
 .have hl1:=Hh.l1 q<|mem_of_getElem? a;obtain⟨ob',eb⟩:=some_ q.b<|Hh.rb q<|mem_of_getElem? a;obtain⟨oa,ea⟩:=some_ q.a<|Hh.ra q<|mem_of_getElem? a;rw[at_ ea,at_ eb];have top:iQ T ob'<=T+1:=by
   cases ob' with
   |none=>simp only[iQ];omega
   |some l=>simp only[iQ];split<;>omega
  cases oa with
  |none=>
   have:iQ T none=T+1:=rfl
   rw[this];omega
  |some la=>obtain⟨l',h1,h2⟩:=(step i q f a b).1 h la ea;rw[eb] at h1;cases h1;simp only[iQ] at top ⊢;split at top<;>split<;>omega
 .obtain⟨lb,eb,hb⟩:=high i q f a b h;obtain⟨la,ea,h2⟩:=(step i q f a b).2 h lb eb;have hl1:=Hh.l1 q<|mem_of_getElem? a;rw[at_ ea,at_ eb];simp only[iQ];rw[if_neg<|by omega,if_neg<|by omega];omega
theorem zq (Hh:aW n ps)(hn:n<=900)(hp:ps.length<=900)(hst:st<n)(hg:g<n)(hne:st≠g)(hT:0<=T)(F:kI n ps st g T fl M C):∃μs:List Int,Pg.kE [.int (n:Int),hD ps,.int (st:Int),.int (g:Int),.int T,.list<|fl.map .int]=some (true,.list<|μs.map .int)/\μs.length=n/\
  lf μs st=0/\lf μs g=T+1/\(∀v,v<n->0<=lf μs v/\lf μs v<=T+1)/\∀(i:Nat) q f,ps[i]? =some q->fl[i]? =some f->(f<q.w->lf μs q.b - lf μs q.a<=q.l)/\(0<f->q.l<=lf μs q.b - lf μs q.a):=by
 obtain⟨μ,m0,m1,mb,fit⟩:=F.adS Hh hT;have H2:=Jh Hh hst hg hne hT;have Ft:=aaB Hh hst hg hne hT F.len m0 m1 fit;have hlen2:(fl++[0]).length=(ps++[lF st g T]).length:=by rw[length_append,length_append,F.len];rfl
 have hlL:=Jg hlen2;obtain⟨aq,hF,er⟩:=Rr (by omega) hst Ft (λu m hm=>by
  obtain⟨i,q,e,h⟩:=dG.mp hm;have:=(List.getElem?_eq_some_iff.mp e).1;rw[hlL];rcases h with⟨_,rfl⟩|⟨_,rfl⟩<;>simp only<;>omega)
 have Tr:=jd Ft hst hF;obtain⟨a1,a2,a3,a4⟩:=Oh Hh hst hg hne hT F m0 m1 mb fit Tr;refine⟨aq.map<|iQ T,?_,by rw[length_map];exact Tr.ll,a1,a2,a3,a4⟩;have em:=Ei (by omega) (by omega) (by rw[length_map,length_append];simp only[length_cons,length_nil];omega) (Es H2);rw[toNat_natCast] at em;have el:=Ru (ps:=ps++[lF st g T]) (fl:=fl++[0]) (by rw[length_append];simp only[length_cons,length_nil];omega);unfold Pg.kE Pg.yZ;unfold hD uN at*
 walk_at "e1";have ec:vX (.list<|(ps.map toPq).map pD) (.list [.tuple [.int<|st,.int<|g,.int 1,.int<|T+1]])=some (.list<|((ps++[lF st g T]).map toPq).map pD):=by rw[XS (by rw[length_map,length_map];simp only[length_cons,length_nil];omega),map_append,map_append];rfl
 rw[ec];walk_at "e1";have ef:vX (.list<|fl.map PyData.int) (.list [.int 0])=some (.list<|(fl++[0]).map .int):=by rw[XS (by rw[length_map];have:=F.len;simp only[length_cons,length_nil];omega),map_append];rfl
 rw[ef];walk_at "e1";rw[el];walk_at "e1";rw[em];walk_at "e1";rw[er];walk_at "e1";rw[nP rfl (by rw[length_map,Tr.ll];exact aY (by omega))];rw[gJ (f:=λd=>match d with|.tuple (.int d::_)=>.int (if T+1<d then T+1 else d)|_=>.int (T+1)) (by
  intro d hd;obtain⟨o,ho,rfl⟩:=mem_map.mp hd;refine⟨[some (Tg.fr,gn o),some (Tg.fr,.int<|T+1)],?_,rfl,?_⟩
  .walk_at "e1"
  .cases o with
   |none=>
    have:gn none=.none:=rfl
    rw[this];walk_at "e1"
   |some l=>
    rw[jh];walk_at "e1")]
 walk_at "e1";rw[map_map,map_map]
 have:(λd=>match d with|PyData.tuple (.int d::_)=>PyData.int (if T+1<d then T+1 else d)|_=>.int<|T+1) ∘ gn=PyData.int ∘ iQ T:=by funext o;cases o<;>rfl
 rw[this]
theorem X8 (hw:∀j∈w,j<ps.length)(hl:w.length<=1000):Pg.lV [hD ps,.list<|w.map cB]=some (false,.int<|cH aQ.l ps w):=by
 unfold Pg.lV Pg.Br hD uN;walk_at "e1";rw[nP rfl (by rw[length_map];exact aY (by omega))];rw[gJ (f:=λd=>match d with|.int j=>.int (xK aQ.l ps j.toNat)|_=>.none) (by
  intro d hd;obtain⟨j,hj,rfl⟩:=mem_map.mp hd;have e:=getElem?_eq_getElem<|hw j hj;refine⟨[some (Tg.fr,.int<|j),some (Tg.fr,.list<|(ps.map toPq).map pD)],?_,rfl,?_⟩
  .unfold cB;walk_at "e1"
  .walk_at "e1";rw[jy pD (by rw[getElem?_map,e];rfl)];unfold pD toPq cB;walk_at "e1";simp only[toNat_natCast,kJ e])]
 walk_at "e1";rw[map_map];have e:(w.map<|(λd=>match d with|.int j=>PyData.int (xK aQ.l ps j.toNat)|_=>.none) ∘ cB)=(w.map<|xK aQ.l ps).map .int:=by rw[map_map];exact map_congr_left λj _=>by simp[cB]
 rw[e];simp only[yJ,jJ];walk_at "e1";rfl
structure qJ (n:Nat)(ps:List aQ)(st g:Nat)(T W:Int)(ws:List (List Nat×Int))(μs:List Int):Prop where
 flow:∃fl M C,kI n ps st g T fl M C/\W=M*(T+1) - C/\kO ps st g fl ws
 short:∀x∈ws,cH aQ.l ps x.1<=T
 ppl:W=(ws.map λx=>x.2*(T - cH aQ.l ps x.1+1)).sum
 ml:μs.length=n
 m0:lf μs st=0
 m1:lf μs g=T+1
 mb:∀v,v<n->0<=lf μs v/\lf μs v<=T+1
 Oj:W=(ps.map<|over<|lf μs).sum
theorem Ji {μ:Nat->Int}(m0:μ st=0)(m1:μ g=T+1):∀{ws:List (List Nat×Int)},(∀x∈ws,uP ps st g x)->zp (λq=>μ q.b - μ q.a - q.l) ps ws=(ws.map λx=>x.2*(T - cH aQ.l ps x.1+1)).sum
 |[],_=>rfl
 |x::ws,h=>by
  have W:=h x mem_cons_self;have e:=wL μ W.go;have s:=wM (ps:=ps) (λq=>μ q.b - μ q.a) aQ.l x.1 W.ix;rw[zp,Ji m0 m1 λy hy=>h y<|mem_cons_of_mem _ hy,map_cons,sum_cons,s,e,m0,m1]
  have:T+1 - 0 - cH aQ.l ps x.1=T - cH aQ.l ps x.1+1:=by omega
  rw[this]
theorem ah8 (Hh:aW n ps)(sm:Small n ps)(hn:n<=900)(hp:ps.length<=900)(hst:st<n)(hg:g<n)(hne:st≠g)(hT:0<=T)(hB:T+1<10000000000000000000000000000000000000000000000000000000000000000000000000000000000000000000000000000)(hw:∀q∈ps,q.w<10000000000000000000000000000000000000000000000000000000000000000000000000000000000000000000000000000):
  ∃W ws μs,qJ n ps st g T W ws μs/\Pg.iI [.int (n:Int),hD ps,.int (st:Int),.int (g:Int),.int T]=some (false,.tuple [.int W,.list<|ws.map xM,.list<|μs.map .int]):=by
 obtain⟨fl,M,C,F,N,eb⟩:=X7 Hh sm hst hg hne T;obtain⟨μs,em,ml,m0,m1,mb,fit⟩:=zq Hh hn hp hst hg hne hT F;have U:Up ps fl (lf μs):=λi q f a b hf=>by have:=(fit i q f a b).2 hf;have:=Hh.l1 q<|mem_of_getElem? a;omega
 obtain⟨ws,P,ew⟩:=adU F.len (by omega) hne F.cons F.M0 U;have pos:∀x∈ws,∀i q,ps[i]? =some q->i∈x.1->0<lf fl i:=λx hx i q e hi=>((P.has hx) i hi).2;have short:∀x∈ws,cH aQ.l ps x.1<=T:=λx hx=>by have Wk:=P.walk x hx;obtain⟨j0,hj0⟩:=List.exists_mem_of_ne_nil _ Wk.ne;obtain⟨π,p0,p1,p2⟩:=N j0 ((P.has hx) j0 hj0).2;have:=UJ Wk.ix Wk.go λi q e hi=>p2 i q e<|pos x hx i q e hi;omega
 have ppl:M*(T+1) - C=(ws.map λx=>x.2*(T - cH aQ.l ps x.1+1)).sum:=by rw[Jb Hh hst hg F.net F.cost m0 m1,←Ji m0 m1 P.walk];exact(P.tot _).symm
 have Oj:M*(T+1) - C=(ps.map<|over<|lf μs).sum:=by rw[Ql Hh hst hg F.lo F.net F.cost m0 m1 fit,Ob _ F.len]
 refine⟨M*(T+1) - C,ws,μs,⟨⟨fl,M,C,F,rfl,P⟩,short,ppl,ml,m0,m1,mb,Oj⟩,?_⟩;have hwl:ws.length<=ps.length:=by have:=P.few;have:=wN fl;have:=F.len;omega
 unfold Pg.iI Pg.za;walk_at "e1";rw[eb];walk_at "e1";rw[ew];walk_at "e1";rw[nP rfl (by rw[length_map];exact aY (by omega))];rw[gJ (f:=λd=>match d with|.tuple [.list w,.int m]=>(match intsOf w with|some v=>.int (m*(T - cH aQ.l ps (v.map toNat)+1))|none=>.none)|_=>.none) (by
  intro d hd;obtain⟨x,hx,rfl⟩:=mem_map.mp hd;have Wk:=P.walk x hx;have hs:=short x hx;have hl0:=Jf Hh Wk.ix;have RL:=jL Wk.nd Wk.ix;obtain⟨j0,hj0⟩:=List.exists_mem_of_ne_nil _ Wk.ne;have h1:=((P.has hx) j0 hj0).1;have e0:=getElem?_eq_getElem<|Wk.ix j0 hj0;have h2:=(F.lo j0 _ _ e0<|nW (by rw[F.len];exact Wk.ix j0 hj0)).2;have h3:=hw _<|mem_of_getElem? e0;have h4:=Wk.m1;obtain⟨w,m⟩:=x;simp only at*
  refine⟨[some (Tg.fr,.list<|w.map cB),some (Tg.fr,.int m),some (Tg.fr,.int T),some (Tg.fr,hD ps)],?_,rfl,?_⟩
  .unfold xM;walk_at "e1"
  .walk_at "e1";rw[X8 Wk.ix (by simp only;omega)];walk_at "e1";rw[rE (by omega) (by omega) (by omega) (by omega)];have ei:intsOf (w.map cB)=some (w.map λj:Nat=>(j:Int)):=by
    have:w.map cB=(w.map λj:Nat=>(j:Int)).map .int:=by rw[map_map];rfl
    rw[this,jJ]
   have e2:(w.map λj:Nat=>(j:Int)).map toNat=w:=by rw[map_map];exact(map_congr_left λj _=>by simp).trans (map_id w)
   simp only[xM,ei,e2])]
 walk_at "e1";rw[map_map];have e3:ws.map ((λd=>match d with|.tuple [.list w,.int m]=>(match intsOf w with|some v=>PyData.int (m*(T - cH aQ.l ps (v.map toNat)+1))|none=>.none)|_=>.none) ∘ xM)=(ws.map λx=>x.2*(T - cH aQ.l ps x.1+1)).map .int:=by
  rw[map_map];refine map_congr_left λx _=>?_;obtain⟨w,m⟩:=x;have ei:intsOf (w.map cB)=some (w.map λj:Nat=>(j:Int)):=by
   have:w.map cB=(w.map λj:Nat=>(j:Int)).map .int:=by rw[map_map];rfl
   rw[this,jJ]
  have e2:(w.map λj:Nat=>(j:Int)).map toNat=w:=by rw[map_map];exact(map_congr_left λj _=>by simp).trans (map_id w)
  simp only[comp,xM,ei,e2]
 rw[e3];simp only[yJ,jJ];rw[<-ppl];walk_at "e1";rw[em];walk_at "e1"
end LH
namespace L2
open PyProof.Rows
def rT (l:List Nat)(lo hi:Option Int):List Nat:=(l.drop<|HT.bH l.length 0 lo).take<|HT.bH l.length l.length hi - HT.bH l.length 0 lo
def gP (z:Str)(lo hi:Option Int):Str:=⟨(rT z.cps.toList lo hi).toArray⟩
theorem acI (o:Option Int)(n d:Nat)(hd:d<=n):(match o with
  |none=>(d:Int)
  |some i=>max 0 (min (if i<0 then i+(n:Int) else i) (n:Int)))=((HT.bH n d o:Nat):Int):=by
 cases o with
 |none=>rfl
 |some v=>show max (0:Int) (min (if v<0 then v+(n:Int) else v) (n:Int))=(((if v<0 then(v+(n:Int)).toNat else min v.toNat n:Nat)):Int);split<;>omega
open PySem.Builtin.Str in
theorem adV (lo hi:Option Int)(n:Nat):strSliceIndices lo hi 1 n=(List.range<|HT.bH n n hi - HT.bH n 0 lo).map λk=>HT.bH n 0 lo+k:=by
 have e1:=acI lo n 0<|zero_le _;have e2:=acI hi n n<|le_refl _;have key:strSliceIndices lo hi 1 n=sliceRange ((HT.bH n 0 lo)) ((HT.bH n n hi):Int) 1:=by rw[<-e1,←e2];cases lo<;>cases hi<;>rfl
 rw[key];generalize HT.bH n 0 lo=a;generalize HT.bH n n hi=b;unfold sliceRange;simp only[show((1:Int)>0)=True by simp,if_true];have e3:(if(a)<(b:Int) then((b) - (a:Int)+1 - 1)/1 else 0).toNat=b - a:=by
  by_cases h:(a:Int)<b
  .rw[if_pos h,Int.ediv_one];omega
  .rw[if_neg h];omega
 rw[e3];exact map_congr_left λk _=>by omega
open PySem.Builtin.Str in
theorem aaC (z:Str)(t:Tok)(l u:Option (Int×Tok))(hz:z.length<=sizeLine)(q:∀t' k,Q (.str (gP z (l.map (·.1))<|u.map (·.1)) t') {s with toks:=k}):
  (sliceMade z t l u none).post Q s:=by
 unfold sliceMade slicePicked;have hl:z.cps.toList.length=z.length:=by simp[Str.length]
 have a1:=HT.KR z.length 0 (zero_le _)<|l.map (·.1);have a2:=HT.KR z.length z.length (le_refl _)<|u.map (·.1);have ei:strSliceIndices (l.map (·.1)) (u.map (·.1)) (((none:Option (Int×Tok)).map (·.1)).getD 1) z.length=_:=adV (l.map (·.1)) (u.map (·.1)) z.length;have ep:(strSliceIndices (l.map (·.1)) (u.map (·.1)) (((none:Option (Int×Tok)).map (·.1)).getD 1) z.length).filterMap (z.cps[·]?)=rT z.cps.toList (l.map (·.1)) (u.map (·.1)):=by
  rw[ei];unfold rT;rw[hl];generalize hA:HT.bH z.length 0 (l.map (·.1))=a at*
  generalize hB:HT.bH z.length z.length (u.map (·.1))=b at*
  by_cases c:a<=b
  .have:=StrLaws.picks z.cps.toList (b - a) a (by omega);simpa using this
  .rw[show b - a=0 by omega];simp
 split
 .rename_i c;have c':(strSliceIndices (l.map (·.1)) (u.map (·.1)) (((none:Option (Int×Tok)).map (·.1)).getD 1) z.length).length=z.length:=by simp only[and_eq_true,beq_iff_eq] at c;exact c.2
  rw[ei,length_map,List.length_range] at c'
  have:gP z (l.map (·.1)) (u.map (·.1))=z:=by unfold gP rT;rw[hl,show HT.bH z.length 0 (l.map (·.1))=0 by omega,List.drop_zero,take_of_length_le (by rw[hl];omega)]
  have q':=q t s.toks;rw[this] at q';exact q'
 .rw[ep];refine⟨?_,q _ _⟩;show(rT z.cps.toList (l.map (·.1))<|u.map (·.1)).toArray.size<=sizeLine;rw[size_toArray];unfold rT;rw[length_take,length_drop,hl];omega
section
def akF:V->Option Int->Option Int->Hp->VK->Prop:=λx lo hi H Q=>∃z,x=.str z/\z.length<=sizeLine/\Q (.str<|gP z lo hi) H
theorem agf:SlR X akF:=by
 intro pins s σ H x v vl vu lo hi sl Q I rx hs pl pu h;obtain⟨z,rfl,hz,q⟩:=h;obtain⟨t,rfl⟩:=rx;refine⟨"str",_,F.slot_str_getitem.lookup,typeIs_str s z t,?_⟩;obtain⟨o,ho,hc,hd⟩:=hs;have part:∀{v:Value}{o:Option Int},IsPart v o->∃p,v=partValue p/\p.map (·.1)=o:=λh=>by
  cases h with
  |none=>exact⟨none,rfl,rfl⟩
  |int i t=>exact⟨some (i,t),rfl,rfl⟩
 obtain⟨pl',rfl,rfl⟩:=part pl;obtain⟨pu',rfl,rfl⟩:=part pu;refine wpAny_getItem_str_slice ⟨o,ho,hc,hd⟩ rfl<|aaC z t pl' pu' hz λt' k=>?_;exact⟨.str _,H,I.kept λ_ _ e=>e,⟨t',rfl⟩,q⟩
theorem Jj:cA X (compareOp .LtE) (λx y H Q=>∃i j,x=.str i/\y=.str j/\Q (.bl<|!decide (j.cps.toList<i.cps.toList)) H):=by intro pins s σ H x y v u Q I rx ry h;obtain⟨i,j,rfl,rfl,q⟩:=h;obtain⟨t,rfl⟩:=rx;obtain⟨t',rfl⟩:=ry;exact PySem.P.le_str<|fV I q rfl
end
end L2
namespace VM
open PyProof.Rows L2
theorem uQ:(PyData.str x).canLay0=true↔∀c∈x.cps.toList,c<0x110000:=by show x.cps.all (· <0x110000)=true↔_;rw[Array.all_eq_true'];simp
theorem adW {lo hi:Option Int}(h:(PyData.str x).canLay0=true):(PyData.str<|gP x lo hi).canLay0=true:=by rw[uQ] at h ⊢;intro c hc;exact h c<|List.mem_of_mem_drop<|mem_of_mem_take hc
theorem Ak (x y:Str):(x++y).cps.toList=x.cps.toList++y.cps.toList:=by show(x.cps++y.cps).toList=_;simp
theorem adX (h:(PyData.str x).canLay0=true)(g:(PyData.str y).canLay0=true):(PyData.str<|x++y).canLay0=true:=by
 rw[uQ] at h g ⊢;intro c hc;rw[Ak] at hc;rcases mem_append.mp hc with z|z
 .exact h c z
 .exact g c z
noncomputable def Ew:PyData->PyData->Option PyData
 |.str x,.str y=>if x.length+y.length<=1000 then some (.str<|x++y) else none
 |_,_=>none
theorem ah9 {K:Frag}:gU K Ew (λx y H Q=>∃i j,x=.str i/\y=.str j/\i.length+j.length<=sizeLine/\Q (.str<|i++j) H):=by
 intro H x y dx dy d Q e hx hy q;unfold Ew at e;split at e
 .split at e
  .rename_i i j hz;cases e;obtain⟨rfl,c1⟩:=hx;obtain⟨rfl,c2⟩:=hy;exact⟨_,_,rfl,rfl,le_trans hz<|by decide,q _ λ_=>⟨rfl,adX c1 c2⟩⟩
  .cases e
 .cases e
noncomputable def nY:PyData->PyData->Option PyData
 |.str x,.str y=>some<|.bool<|!decide (y.cps.toList<x.cps.toList)
 |_,_=>none
theorem agg {K:Frag}:gU K nY (λx y H Q=>∃i j,x=.str i/\y=.str j/\Q (.bl<|!decide (j.cps.toList<i.cps.toList)) H):=by
 intro H x y dx dy d Q e hx hy q;unfold nY at e;split at e
 .cases e;obtain⟨rfl,c1⟩:=hx;obtain⟨rfl,c2⟩:=hy;exact⟨_,_,rfl,rfl,q _ λ_=>rfl⟩
 .cases e
noncomputable def sZ:List PyData->Option PyData
 |[.str x]=>if x.length<=1000 then some (.int x.length) else none
 |_=>none
theorem aia {K:Frag}:CallD K sZ (λxs H Q=>∃z,xs=[.str z]/\z.length<=sizeLine/\Q (.int z.length) H):=by
 intro H vs ds d Q e hx q;unfold sZ at e;split at e
 .split at e
  .rename_i x hz;cases e;obtain⟨v,rfl,rfl,_⟩:=aG.one hx;exact⟨_,rfl,le_trans hz<|by decide,q _ λ_=>rfl⟩
  .cases e
 .cases e
def Ol:PyData->PyData->Option PyData
 |.str x,.int i=>if x.length<=1000 then(bW x.cps.toList i).map λc=>.str ⟨#[c]⟩ else none
 |_,_=>none
noncomputable def strsOf:List PyData->Option (List Str)
 |[]=>some []
 |.str x::r=>(strsOf r).map λl=>x::l
 |_=>none
theorem Bt:∀{ds:List PyData}{xs:List Str},strsOf ds=some xs->ds=xs.map PyData.str
 |[],xs,h=>by cases h;rfl
 |d::r,xs,h=>by
  unfold strsOf at h;split at h
  .rename_i e;cases e
  .rename_i x r' e;cases e;cases q:strsOf r with
   |none=>rw[q] at h;cases h
   |some l=>rw[q] at h;cases h;rw[Bt q];rfl
  .cases h
theorem Ey:∀(xs:List Str),strsOf (xs.map PyData.str)=some xs
 |[]=>rfl
 |x::r=>by show(strsOf<|r.map PyData.str).map _=_;rw[Ey r];rfl
theorem qW {K:Frag}:∀{xs:List Str}{vs:List V},aG K H (xs.map PyData.str) vs->vs=xs.map V.str
 |[],vs,h=>h
 |x::xs,vs,h=>by obtain⟨v,r,rfl,⟨rfl,_⟩,h3⟩:=h;rw[qW h3];rfl
def Om (neg:Bool):PyData->PyData->Option PyData
 |.str x,.list ds=>match strsOf ds with
  |some xs=>some<|.bool<|if neg then !(xs.any λy=>y==x) else xs.any λy=>y==x
  |none=>none
 |_,_=>none
theorem akG {K:Frag}:gU K (Om neg) (rIn K neg):=by
 intro H x y dx dy d Q e hx hy q;unfold Om at e;split at e
 .split at e
  .rename_i xs hn;cases e;obtain⟨rfl,_⟩:=hx;obtain⟨p,vs,rfl,h1,h2⟩:=hy;rw[Bt hn] at h2;rw[qW h2] at h1;have e1:∀x:Str,inV (.str x) (xs.map V.str)=xs.any λy=>y==x:=λx=>by unfold inV;rw[any_map];rfl
   refine⟨p,_,rfl,.inl h1,rfl,by rw[List.all_map];simp[oZ],?_⟩;rw[e1];exact q _ λ_=>rfl
  .cases e
 .cases e
section
variable {lo hi:Option Expr}
theorem akH (ha:PE X a (tV X.K RW fa))(hb:PE X b (tV X.K RW fb))(hs:zW b:=by intro _ _;rfl):PE X (.Subscript a b pos) (tV X.K RS<|v2 Ol fa fb):=
 (TJ aeV ha hb hs).imp λ_ _ Q q=>by
  obtain⟨au,G,H₀,S,F,I,d,e,q⟩:=q;obtain⟨x,y,ex,ey,e⟩:=uz e;refine⟨au,G,H₀,S,F,I,x,ex,λv F1 H1 g1 hx=>⟨au,G,H₀,S,F1,I.grow g1,y,ey,λu F2 H2 g2 hy=>?_⟩⟩;unfold Ol at e;split at e
  .rename_i z i;split at e
   .rename_i hz;cases ec:bW z.cps.toList i with
    |none=>rw[ec] at e;cases e
    |some c=>
     rw[ec] at e;cases e;obtain⟨rfl,cz⟩:=hx;have eu:=hy;refine⟨z,i,c,rfl,eu,le_trans hz<|by decide,ec,q _ F2 H2 (g1.trans g2) ⟨rfl,?_⟩⟩;rw[uQ] at cz ⊢;intro c' hc'
     have:c'=c:=by simpa using hc'
     subst this;obtain⟨j,_,h2,_⟩:=uo ec;exact cz c'<|mem_of_getElem? h2
   .cases e
  .cases e
def tX (f:VE)(l u:GS->Option (Option Int)):VE:=λS=>match f S,l S,u S with
 |some (.str x),some lo,some hi=>if x.length<=1000 then some (.str<|gP x lo hi) else none
 |_,_,_=>none
theorem akI (he:PE X e (tV X.K RW f))(hl:PO X lo (QL X.K fl))(hu:PO X hi (QL X.K fu)):PE X (.Subscript e (.Slice lo hi none p2) pos) (tV X.K RS<|tX f fl fu):=
 (q8 agf he hl hu).imp λ_ H Q q=>by
  obtain⟨au,G,H₀,S,F,I,d,e,q⟩:=q;unfold tX at e;split at e
  .rename_i x l u q1 q2 q3;split at e
   .rename_i hz;cases e;refine⟨au,G,H₀,S,F,I,_,q1,λv F1 H1 g1 hx=>⟨au,G,H₀,S,F1,I.grow g1,l,q2,λF2 H2 g2=>⟨au,G,H₀,S,F2,(I.grow g1).grow g2,u,q3,λF3 H3 g3=>?_⟩⟩⟩;obtain⟨rfl,cx⟩:=hx;exact⟨x,rfl,le_trans hz<|by decide,q _ F3 H3 ((g1.trans g2).trans g3) ⟨rfl,adW cx⟩⟩
   .cases e
  .cases e
end
end VM
namespace L2
open PyProof.Rows
noncomputable def sgn (z:Str)(i:Nat):Option Str:=(z.cps[i]?).map λc=>⟨#[c]⟩
def Its (z:Str):It:=⟨λi _=>i<z.length,λi H x H'=>H'=H/\∃y,sgn z i=some y/\x=.str y,λi _=>z.length<=i⟩
theorem UL {K:Frag}(z:Str)(t:Tok)(it:Addr):Turn P w K tg (Its z) [it] it (λi h=>h.IsStrIter it "str_ascii_iterator" z t i) where
 mem:=by simp
 obj:=λi h st b hb=>by
  obtain rfl:b=it:=by simpa using hb
  obtain⟨o,e,c,d⟩:=st;exact⟨o,e,λv y=>by rw[d] at y;cases y⟩
 keep:=λi h h' st k=>let⟨o,e,r⟩:=st;⟨o,k it (by simp) o e,r⟩
 item:=by
  intro X hP hw hK hc i pins s σ H E I hf st hg;subst hP hw hK;obtain⟨f0,f1,f2,f3,f4,f5⟩:=hf it (by simp);have hi:i<z.cps.size:=hg;have ec:z.cps[i]? =some z.cps[i]:=by simp[hi]
  refine wpAny_pyNext_ascii_item st ec λh' st' sb=>?_;have I1:Inv X pins σ H {s with heap:=h',toks:=s.toks+1}:=I.turned (λb o hb e=>(sb.2 b hb).trans e) f0 f1 f3 f4 f5;obtain⟨o,e,c,d⟩:=id st';exact⟨_,rfl,JW (s:={s with heap:=h',toks:=s.toks+1}) e c d (by decide) ⟨.str ⟨#[z.cps[i]]⟩,H,I1,⟨_,rfl⟩,⟨rfl,_,by unfold sgn;rw[ec];rfl,rfl⟩,st',λb hb=>(hf b hb).1⟩⟩
 done:=by intro X hP hw hK hc i pins s σ H E I hf st hg;subst hP hw hK;obtain⟨f0,f1,f2,f3,f4,f5⟩:=hf it (by simp);have hi:z.cps.size<=i:=hg;exact wpAny_pyNext_ascii_end (I.ok.hd hc) st (by simp[hi]) λh' eb=>⟨rfl,I.turned (t':=s.toks) (λb o hb e=>eb b o hb e) f0 f1 f3 f4 f5⟩
 self:=λ_ _ _ _ _ st h=>wpAny_pyIter_striter_ascii st h
section
variable {tg:Expr}
noncomputable def ascii (z:Str):Bool:=z.cps.all (· <128)
def akJ (tl:TE):TI:=λσ H R=>tl σ H λx H1=>∃z,x=.str z/\ascii z=true/\R (Its z) H1
theorem agh {tl:TE}(hl:PE X l tl):PI X tg l (akJ tl):=by
 intro pins s σ H R I h;refine aV (hl pins s σ H _ I h) λv s1 ⟨x,H1,I1,r1,q1⟩=>?_;obtain⟨z,e,ha,q⟩:=q1;subst e;obtain⟨t,rfl⟩:=r1;refine wpAny_pyIter_ascii ha ?_;refine⟨s1.heap.objs.size,[s1.heap.objs.size],_,_,H1,rfl,I1.kept λb o e=>get?_push_of_some _ e,UL z t _,⟨_,get?_push_size _ rfl,rfl,rfl⟩,λb hb=>?_,q⟩;obtain rfl:b=s1.heap.objs.size:=by simpa using hb
 exact I1.xX (le_refl _)<|I1.hok.fresh<|le_refl _
def acJ (K:Frag):List V->Hp->VK->Prop:=λxs H Q=>∃(p:Addr) (bs:List Bool),xs=[.ref p]/\aR K H p (bs.map V.bl)/\Q (.bl<|bs.all id) H
theorem akK (hc:X.calm=true):dg X (.builtin "all") (acJ X.K):=by
 intro pins s σ H xs us Q I r h;obtain⟨p,bs,rfl,hq,q⟩:=h;obtain⟨u,rfl,rx⟩:=vals1 r;cases rx;obtain⟨its,rv,pl,hz⟩:=I.list hq;have hl:=rv.length;rw[length_map] at hl;have hb:∀(i:Nat) v,its[i]? =some v->v=.bool (bs.getD i true):=λi v e=>by
  have hi:i<bs.length:=by
   rcases Nat.lt_or_ge i bs.length with z|z
   .exact z
   .rw[getElem?_eq_none<|by omega] at e;cases e
  obtain⟨u,e2,r2⟩:=rv.get (i:=i) (x:=.bl bs[i]) (by simp[hi]);rw[e] at e2;cases e2;have r2':=r2;rw[r2'];simp[List.getD,hi]
 refine call_all_walk<|wpAny_pyIter_list pl.isList ?_;have hne:p≠s.heap.objs.size:=by obtain⟨o,n,e,_⟩:=pl;exact ne_of_lt<|lt_size e
 refine⟨s.heap.objs.size,_,_,_,_,_,λi=>bs.getD i true,rfl,Walks.list (show X.A.in1.handled=none from I.ok.hd hc) s.heap.objs.size p hne its.toArray,⟨⟨_,get?_push_size _ rfl,rfl,rfl⟩,?_⟩,?_,λh' tk hk=>?_⟩
 .obtain⟨o,n,e,c1,c2,c3⟩:=pl;exact⟨o,get?_push_of_some _ e,c1,n,c3⟩
 .intro i v s Q E hv hQ;rw[hb i v<|by simpa using hv];exact wpAny_truthy_bool hQ
 .have e:(List.range its.toArray.size).all (λi=>bs.getD i true)=bs.all id:=by
   rw[size_toArray,←hl];rw[Bool.eq_iff_iff,all_eq_true,all_eq_true];constructor
   .intro h b hb;obtain⟨i,hi,rfl⟩:=List.getElem_of_mem hb;have:=h i<|mem_range.mpr hi;simpa [List.getD,hi] using this
   .intro h i hi;have hi:=mem_range.mp hi;have:=h bs[i]<|getElem_mem hi;simpa [List.getD,hi] using this
  rw[e];refine⟨.bl _,H,I.kept λb o eb=>hk b o ?_<|get?_push_of_some _ eb,rfl,q⟩;intro z;have z':b=s.heap.objs.size:=by simpa using z
  exact absurd (lt_size eb) (by rw[z'];exact lt_irrefl _)
end
end L2
namespace VM
open PyProof.Rows L2
noncomputable def Ez (z:Str):List PyData:=z.cps.toList.map λc=>.str ⟨#[c]⟩
def oU (f:VE):VA:=λS=>match f S with
 |some (.str z)=>if ascii z=true then some (Ez z) else none
 |_=>none
section
variable {fs:VA}
theorem itS (he:PE X l (tV X.K RW f)):PI X tg l (xu X.K<|oU f):=PI.imp (agh he) λ_ H R q=>by
 obtain⟨au,G,H₀,S,F,I,ds,e,q⟩:=q;unfold oU at e;split at e
 .rename_i z q1;split at e
  .rename_i ha;cases e;refine⟨au,G,H₀,S,F,I,_,q1,λv F1 H1 g1 hx=>?_⟩;obtain⟨rfl,cz⟩:=hx;refine⟨z,rfl,ha,q _ F1 H1 g1 ⟨λi d F' H' hd s1 s2=>⟨?_,λx DN hy=>?_⟩,λi F' H' hi _ _=>?_⟩⟩
   .have:=(List.getElem?_eq_some_iff.mp hd).1;rw[Ez,length_map] at this;show i<z.cps.size;simpa using this
   .obtain⟨rfl,y,hy,rfl⟩:=hy;refine⟨F',bA.refl s2,?_⟩;rw[Ez,getElem?_map] at hd;obtain⟨c,ec,rfl⟩:=map_eq_some_iff.mp hd;have ec':z.cps[i]? =some c:=by simpa using ec
    unfold sgn at hy;rw[ec'] at hy;cases hy;refine⟨rfl,?_⟩;rw[uQ] at cz ⊢;intro c' hc'
    have:c'=c:=by simpa using hc'
    subst this;exact cz c'<|mem_of_getElem? ec
   .rw[Ez,length_map] at hi;show z.cps.size<=i;simpa using hi
  .cases e
 .cases e
noncomputable def boolsOf:List PyData->Option (List Bool)
 |[]=>some []
 |.bool b::r=>(boolsOf r).map λl=>b::l
 |_=>none
theorem zu:∀{ds:List PyData}{xs:List Bool},boolsOf ds=some xs->ds=xs.map PyData.bool
 |[],xs,h=>by cases h;rfl
 |d::r,xs,h=>by
  unfold boolsOf at h;split at h
  .rename_i e;cases e
  .rename_i x r' e;cases e;cases q:boolsOf r with
   |none=>rw[q] at h;cases h
   |some l=>rw[q] at h;cases h;rw[zu q];rfl
  .cases h
theorem Bu:∀(xs:List Bool),boolsOf (xs.map PyData.bool)=some xs
 |[]=>rfl
 |x::r=>by show(boolsOf<|r.map PyData.bool).map _=_;rw[Bu r];rfl
theorem Oo {K:Frag}:∀{xs:List Bool}{vs:List V},aG K H (xs.map PyData.bool) vs->vs=xs.map V.bl
 |[],vs,h=>h
 |x::xs,vs,h=>by obtain⟨v,r,rfl,h2,h3⟩:=h;have h2':v=.bl x:=h2;rw[h2',Oo h3];rfl
def CK:List PyData->Option PyData
 |[.list ds]=>(boolsOf ds).map λbs=>.bool<|bs.all id
 |_=>none
theorem akL {K:Frag}:CallD K CK (acJ K):=by
 intro H vs ds d Q e hx q;unfold CK at e;split at e
 .rename_i ds;cases eb:boolsOf ds with
  |none=>rw[eb] at e;cases e
  |some bs=>rw[eb] at e;cases e;obtain⟨v,rfl,a,xs,rfl,h1,h2⟩:=aG.one hx;rw[zu eb] at h2;rw[Oo h2] at h1;exact⟨a,bs,rfl,h1,q _ λ_=>rfl⟩
 .cases e
end
end VM
namespace L2
open PyProof.Rows
section
variable {o:Obj}
theorem Inv.still (I:Inv X pins σ H s)(h:H a=some (.dK kvs))(ho:s.heap.get? a=some o):Inv X pins σ (upd H a<|.dU o<|.dK kvs) s:=by have new:eY X.prog X.w (upd H a<|.dU o<|.dK kvs) s.heap a (.dU o<|.dK kvs):=⟨ho,I.hok a _ h⟩;exact I.write (by rw[h];exact True.intro) (.inl rfl) (λ_ _ _ e=>e) ⟨o,ho⟩ new
theorem Inv.loose (aaD:Inv X pins σ H s)(h₀:H a=some (.dK kvs))(I:Inv X pins σ' H' s')(h:H' a=some (.dU o<|.dK kvs)):Inv X pins σ' (upd H' a<|.dK kvs) s':=by
 have ht:H' a≠none:=by rw[h];simp
 have nf:∀ob u,X.H₀ a≠some (.dU ob u):=λob u e=>by have:=aaD.base.ni a ob u e;rw[h₀] at this;cases this
 have nt:∀xs,X.H₀ a≠some (.tup xs):=λxs e=>by have:=aaD.base.tups a xs e;rw[h₀] at this;cases this
 have nb:∀ps,X.H₀ a≠some (.Hi ps):=λps e=>by obtain⟨more,this⟩:=aaD.base.oF a ps e;rw[h₀] at this;cases this
 have akM:=I.hok a _ h;refine⟨I.ok,I.os,I.bare,⟨I.base.keep,I.base.slot,λb ob e n hx=>?_,I.base.there,λb xs e=>?_,λb ob u e=>?_,λb ps e=>?_⟩,I.loc,I.cell,?_,λx c e=>?_,λp hp=>?_,λb u e=>?_,I.len⟩
 .have z:=I.base.free b ob e n hx;rw[ak λy=>by subst y;exact ht z];exact z
 .rw[ak λy=>by subst y;exact nt xs e];exact I.base.tups b xs e
 .rw[ak λy=>by subst y;exact nf ob u e];exact I.base.ni b ob u e
 .obtain⟨more,z⟩:=I.base.oF b ps e;exact⟨more,by rw[ak λy=>by subst y;exact nb ps e];exact z⟩
 .rw[ak λy=>ht (by rw[<-y];exact I.free)];exact I.free
 .rw[ak λy=>ht (by rw[<-y];exact I.lA x c e)];exact I.lA x c e
 .obtain⟨p1,p2,p3⟩:=I.pin p hp;exact⟨p1,by rw[ak λy=>ht (by rw[<-y];exact p2)];exact p2,p3⟩
 .by_cases hb:b=a
  .subst hb;rw[ao] at e;cases e;exact akM.2
  .rw[ak hb] at e;refine(I.hok b u e).stay (λc v _ q=>q) (λc q=>?_) λc xs q=>?_
   .rw[ak λy=>by subst y;rw[h] at q;cases q];exact q
   .rw[ak λy=>by subst y;rw[h] at q;cases q];exact q
end
def Iti (a:Addr)(o:Obj)(kvs:List (Key×V)):It:=
  ⟨λi H=>H a=some (.dU o (.dK kvs))/\i<kvs.length,
   λi H v H'=>∃p kv,kvs[i]? =some kv/\H p=none/\v=.ref p/\H'=upd H p (.tup [kV kv.1,kv.2]),
   λi H=>H a=some (.dU o (.dK kvs))/\kvs.length<=i⟩
theorem RP (h:(bZ P w).is k v=true):RelV (kV k) v:=by
 rw[S5] at h;rcases eX h with⟨j,t,e,e2⟩|⟨x,t,e,e2⟩
 .subst e;exact⟨t,e2⟩
 .subst e;exact⟨t,e2⟩
theorem Oq (ok:iD P w H h)(e:H a=some (.dU o<|.dK kvs))(ho:o.data=.dict es ep):
  ∃vs,KV kvs vs/\h.DictAt (bZ P w) a vs ep:=by
 obtain⟨g,_,_,vs,kv,o',es',ep',g',x1,x2,x3,x4,x5⟩:=(ok a _ e);rw[g] at g';cases g';rw[ho] at x2;cases x2;exact⟨vs,kv,o,es,g,x1,ho,x3,x4,x5⟩
theorem UW {K:Frag}(a it:Addr)(o:Obj)(kvs:List (Key×V))(es:Array DictEntry)(ep:Nat)(ho:o.data=.dict es ep):
  Turn P w K (.Tuple elts k pos) (Iti a o kvs) [it] it (λi h=>∃ok ov,IsItemIter h it a i kvs.length ep ok ov) where
 mem:=by simp
 obj:=λi h st b hb=>by obtain⟨_,_,he⟩:=st;rw[mem_singleton.mp hb];exact⟨_,he,λv z=>by have z':Data.fields _=Data.cell v:=z;cases z'⟩
 keep:=λi h h' st k=>by obtain⟨ok,ov,he⟩:=st;exact⟨ok,ov,k it (by simp) _ he⟩
 item:=by
  intro X hP hw hK hc i pins s σ H E I hf st hg;subst hP hw hK;obtain⟨ok,ov,he⟩:=st;obtain⟨hd,hi⟩:=hg;obtain⟨vs,kv,dat⟩:=Oq I.hok hd ho;have hl:=kv.length;have ex:kvs[i]? =some kvs[i]:=by simp[hi]
  obtain⟨⟨k',v'⟩,e2,r1,r2⟩:∃y,vs[i]? =some y/\kvs[i].1=y.1/\RelV kvs[i].2 y.2:=by
   have key:∀{l:List (Key×V)}{r:List (Key×Value)} {j:Nat} {x:Key×V},KV l r->l[j]? =some x->∃y,r[j]? =some y/\x.1=y.1/\RelV x.2 y.2:=λ{l r}=>by
    intro j x h;induction h generalizing j with
    |nil=>intro e;cases e
    |cons h _ ih=>
     cases j with
     |zero=>intro e;cases e;exact⟨_,rfl,h⟩
     |succ j=>intro e;exact ih e
   exact key kv ex
  rw[hl] at he;refine wpAny_pyNext_items_item he dat e2 λkey h' hk hO hT hsz hkp=>?_;refine⟨_,rfl,wpAny_letOwnedTupleGo_items hO λh2 he2 hs2=>?_⟩;have hlt:it<s.heap.objs.size:=lt_size he;have hT2:h2.get? s.heap.objs.size=some {cls:=.type "tuple",data:=.seq #[key,v']}:=(hs2.2 _<|ne_of_gt hlt).trans hT;have rk:RelV (kV kvs[i].1) key:=by rw[r1];exact RP hk
  refine⟨.ref s.heap.objs.size,upd H s.heap.objs.size<|.tup [kV kvs[i].1,kvs[i].2],?_,rfl,⟨_,kvs[i],ex,I.hok.fresh<|le_refl _,rfl,rfl⟩,⟨key,v',by rw[hl];exact he2⟩,λb hb=>?_⟩
  .refine I.Gh (fp:=[it]) (λb ob hb q=>?_) hf (le_refl _) ⟨by show 2<=sizeLine;decide,[key,v'],.cons rk<|.cons r2 .nil,⟨_,hT2,rfl,_,rfl⟩⟩;have h1:b≠it:=λz=>hb (by simp[z]);exact(hs2.2 b h1).trans<|hkp b ob h1 q
  .rw[mem_singleton.mp hb,ak<|ne_of_lt hlt];exact(hf it<|by simp).1
 done:=by intro X hP hw hK hc i pins s σ H E I hf st hg;subst hP hw hK;obtain⟨ok,ov,he⟩:=st;obtain⟨hd,hi⟩:=hg;obtain⟨vs,kv,dat⟩:=Oq I.hok hd ho;have hl:=kv.length;rw[hl] at he;refine wpAny_pyNext_items_end (I.ok.hd hc) he dat (getElem?_eq_none<|by omega) λh' eb=>⟨rfl,I.turns (t':=s.toks) (fp:=[it]) (λb ob hb q=>eb b ob (λz=>hb<|by simp[z]) q) hf⟩
 self:=λ_ _ _ _ _ st h=>by obtain⟨ok,ov,he⟩:=st;exact PySem.W.kcp_self he h
section
variable {tpos:Pos}
noncomputable def mJ (d:Addr):Obj:={cls:=.type "dict_items",data:=.fields #[.ref d]}
def RQ:V->List V->Hp->VK->Prop:=λx vs H Q=>match x,vs with
 |.ref d,[]=>∃kvs,H d=some (.dK kvs)/\∀z,H z=none->Q (.ref z) (upd H z<|HO.ext λh=>h.get? z=some (mJ d))
 |_,_=>False
theorem agj:Hv X "dict.items" RQ:=by
 intro pins s σ H x vs v us Q I rx rv q
 match x,vs,q with
 |.ref d,[],⟨kvs,hH,q⟩=>cases rx;have hus:=rv.zero;subst hus;obtain⟨z,hS,ws,rel,dd⟩:=qM I.hok hH;refine call_meetsIn PySem.F.slot_dict_items dd.typeIs PySem.F.entry_dict_items (PySem.F.args_dict_items_1 _) (meets_dict_items (bZ X.prog X.w) d hS) ⟨⟨ws,dd⟩,?_⟩;have e:(s.heap.push<|mJ d).get? s.heap.objs.size=some (mJ d):=get?_push_size _ rfl;exact⟨.ref _,_,I.laid (o:=HO.ext λh=>h.get? s.heap.objs.size=some (mJ d)) (λ_ _ q=>get?_push_of_some _ q) (le_refl _) ⟨e,⟨_,e⟩,λh1 h2 a b=>b _ a⟩,rfl,q _ I.fresh⟩
def Yb (K:Frag)(td:TE):TI:=λσ H R=>Cj K "dict" RQ td σ H λv H2=>∃z a kvs H1,v=.ref z/\H2=upd H1 z (HO.ext λh=>h.get? z=some (mJ a))/\H1 z=none/\H1 a=some (.dK kvs)/\∀o,R (Iti a o kvs) (upd H2 a<|.dU o<|.dK kvs)
theorem aaE {d:Expr}(hd:PE X d td)(hbase:attributeBase d "items" X.env (eval d X.env)=eval d X.env:=by rfl)(hline:(apos.endLine==cpos.line)=true:=by rfl):
  PI X (.Tuple elts k tpos) (.Call (.Attribute d "items" apos) [] [] cpos) (Yb X.K td):=by
 intro pins s σ H R I h;have pe:=K6 PySem.F.plainAttrs_dict PySem.F.slot_dict_items PySem.F.type_dict_items agj hd hbase hline;refine aV (pe pins s σ H _ I h) λv s1 hz=>?_;obtain⟨x,H2,I2,r2,z,a,kvs,H1,rfl,eH,hz,ha,q⟩:=hz;cases r2;subst eH;have hza:=aU ha hz;have ha2:upd H1 z (HO.ext λh=>h.get? z=some (mJ a)) a=some (.dK kvs):=by rw[ak hza];exact ha
 have hv:=(I2.hok z _ ao).1;obtain⟨_,hS,ws,rel,dd⟩:=qM I2.hok ha2;obtain⟨o,es,ep,d1,d2,d3,d4,d5,d6⟩:=id dd;have hl:=rel.length;refine wpAny_pyIter_items ⟨_,hv,rfl,rfl⟩ ⟨o,es,d1,d2,d3,d4,d5,d6⟩ ?_;have I3:=I2.kept (t':=s1.toks) (h':=s1.heap.push {cls:=.type "dict_itemiterator",data:=.fields #[.none,.bool false,.ref a,.int 0 0,.int ws.length 0,.int ep 0,.none,.none]}) λb ob e=>get?_push_of_some _ e;refine⟨s1.heap.objs.size,[s1.heap.objs.size],_,_,_,rfl,I3.still ha2<|get?_push_of_some _ d1,UW a _ o kvs es ep d3,⟨.none,.none,by rw[hl];exact get?_push_size _ rfl⟩,λb hb=>?_,q o⟩;rw[mem_singleton.mp hb];have fr:=I2.hok.fresh<|le_refl s1.heap.objs.size;refine I2.xX (le_refl _) ?_;rw[ak λy=>by rw[y,ha2] at fr;cases fr];exact fr
theorem aaF {st:Stmt}(h:PS X st t):PS X st (λD σ H=>∃a kvs,H a=some (.dK kvs)/\t {D with nx:=λσ' H'=>∃o,H' a=some (.dU o<|.dK kvs)/\D.nx σ' (upd H' a<|.dK kvs)} σ H):=by
 intro pins s σ H D I q;obtain⟨a,kvs,ha,q⟩:=q;refine aV (h pins s σ H _ I q) λf s' hf=>?_;cases f with
 |next=>
  obtain⟨σ',H',I',o,h1,h2⟩:=hf;exact⟨σ',_,Inv.loose I ha I' h1,h2⟩
 |brk=>exact hf
 |cont=>exact hf
 |ret u=>exact hf
theorem Yc (hc:X.calm=true):dg X (.type "list") (λxs H Q=>∃a kvs,xs=[.ref a]/\H a=some (.dK kvs)/\∀z,H z=none->Q (.ref z) (upd H z<|.lst<|kvs.map λkv=>kV kv.1)):=by
 intro pins s σ H xs us Q I r h;obtain⟨a,kvs,rfl,ha,q⟩:=h;obtain⟨u,rfl,rx⟩:=vals1 r;cases rx;obtain⟨hz,hS,ws,rel,dd⟩:=qM I.hok ha;obtain⟨ep,dat⟩:=dd.dictAt;have hl:=rel.length;refine kdl_call (PySem.W.kdl_dict hS) (I.ok.hd hc) dat (by omega) λh' tk acc c hk hD hacc=>?_;have hv:Vals (kvs.map λkv=>kV kv.1) acc.toList:=by
  have key:∀{l:List (Key×V)}{r:List (Key×Value)} {us:List Value},KV l r->us.length=r.length->(∀j v,us[j]? =some v->∃k x,r[j]? =some (k,x)/\(bZ X.prog X.w).is k v=true)->Vals (l.map λkv=>kV kv.1) us:=λ{l r us} h=>by
   induction h generalizing us with
   |nil=>intro hl _;cases us with
    |nil=>exact .nil
    |cons _ _=>cases hl
   | @cons x y l r h _ ih=>
    intro hl hv;cases us with
    |nil=>cases hl
    |cons u us=>
     refine .cons ?_ (ih (by simpa using hl) λj v e=>hv (j+1) v e);obtain⟨k,x',e,hk⟩:=hv 0 u rfl;have e':y=(k,x'):=by simpa using e
     show RelV (kV x.1) u;rw[h.1,e'];exact RP hk
  refine key rel (by rw[length_toList];exact hacc.1) λj v e=>hacc.2 j v (by rw[<-Array.getElem?_toList];exact e)
 exact⟨.ref s.heap.objs.size,_,I.laid (o:=.lst<|kvs.map λkv=>kV kv.1) hk (le_refl _) ⟨by rw[length_map];exact hz,acc.toList,c,hv,by rw[hD]⟩,rfl,q _<|I.hok.fresh<|le_refl _⟩
end
open PySem.SeqAt
open PySem.MeetsSeq (size_erased plain_remove_loop entry_remove_loop)
open PySem.AutoSeq1 (wpAny_loadPart')
theorem JB (l:Addr)(items:Array Value)(n:Nat)(x:Value)(j:Nat)(hj:j<items.size)(k:Nat)(hs1:items.size<=sizeLine):
  ∀i:Nat,j - i=k->i<=j->Meets (Builtin.«list.remove.loop» ⟨[.ref l,x,rawInt i],[]⟩)
   (λA R s=>s.heap.get? l=some {cls:=.type "list",dict:=none,data:=.seq items n,slots:=#[]}/\(∀m (hm:m<items.size),m<=j->EqAt A.in1 s items[m] x (decide<|m=j))/\R (.ok<|.ret .none) {s with heap:=s.heap.update l<|Obj.mapSeq λxs=>xs.eraseIdxIfInBounds j}):=by
 induction k with
 |zero=>
  intro i hk hij prog w A R s h;obtain⟨hp,g,d,tk,os⟩:=s;obtain⟨hl,he,h⟩:=h;have hij':i=j:=by omega
  subst hij'
  wp_walk using wpAny_loadPart' hl
  have hi:items[((i):Int).toNat]? =some items[i]:=by simp[hj]
  rw[hi];refine wpAny_bind<|he i hj (le_refl _) prog w _ _ ?_;rw[decide_eq_true rfl];have hz':(items.eraseIdxIfInBounds i).size<=sizeLine+1:=le_trans (size_erased items _)<|Nat.le_succ_of_le hs1
  wp_walk using(wpAny_updateSeq hl rfl (_hz':=hz')),wpAny_loadPart' hl
  simpa using h
 |succ k ih=>
  intro i hk hij prog w A R s h;obtain⟨hp,g,d,tk,os⟩:=s;obtain⟨hl,he,h⟩:=h;have hlt:i<items.size:=by omega
  wp_walk using wpAny_loadPart' hl
  have hi:items[((i):Int).toNat]? =some items[i]:=by simp[hlt]
  have hc:((i)+1)=((i+1):Int):=by push_cast;rfl
  rw[hi];refine wpAny_bind (he i hlt (by omega) prog w _ _ ?_);rw[decide_eq_false<|by omega]
  wp_walk
  rw[hc];exact⟨plainId_quiet plain_remove_loop _,codeAny_builtin entry_remove_loop (by
   rw[Around.under_plainId plain_remove_loop _];exact ih (i+1) (by omega) (by omega) prog w A R _ ⟨hl,he,h⟩)⟩
theorem JC (l:Addr)(items:Array Value)(n:Nat)(x:Value)(j:Nat)(hj:j<items.size)(hs1:items.size<=sizeLine):
  Meets (Builtin.«list.remove» ⟨[.ref l,x],[]⟩)
   (λA R s=>s.heap.get? l=some {cls:=.type "list",dict:=none,data:=.seq items n,slots:=#[]}/\(∀m (hm:m<items.size),m<=j->EqAt A.in1 s items[m] x (decide<|m=j))/\R (.ok<|.ret .none) {s with heap:=s.heap.update l<|Obj.mapSeq λxs=>xs.eraseIdxIfInBounds j}):=by
 intro prog w A R s h;obtain⟨hp,g,d,tk,os⟩:=s;obtain⟨hl,he,h⟩:=h
 wp_walk using wpAny_loadPart' hl
 exact⟨plainId_quiet plain_remove_loop _,codeAny_builtin entry_remove_loop (by
  rw[Around.under_plainId plain_remove_loop _];exact JB l items n x j hj _ hs1 0 rfl (zero_le _) prog w A R _ ⟨hl,he,h⟩)⟩
section
def U0 (K:Frag):V->List V->Hp->VK->Prop:=λx vs H Q=>∃l y xs ds dy j,x=.ref l/\vs=[y]/\H l=some (.lst xs)/\aG K H ds xs/\Has K H dy y/\dy.depth<=60/\j<xs.length/\(∀m d,m<=j->ds[m]? =some d->eqv d dy=decide (m=j))/\Q .non (upd H l<|.lst<|xs.eraseIdx j)
theorem akN (hu:X.A.units+64<cLine):Hv X "list.remove" (U0 X.K):=by
 intro pins s σ H x vs v us Q I rx rv h;obtain⟨l,y,xs,ds,dy,j,rfl,rfl,hH,hd,hy,akO,hj,heq,q⟩:=h;cases rx;obtain⟨u,rfl,ru⟩:=rv.one;obtain⟨z,its,n,r,hl,e⟩:=I.K7 hH;obtain⟨bs,rb⟩:=hy.reads I ru;refine call_meets F.slot_list_remove ⟨_,e,rfl⟩ F.entry_list_remove (F.args_list_remove_2 _ _) (JC l its.toArray n u j (by rw[size_toArray];omega) (by rw[size_toArray];omega)) ⟨e,λm hm X5=>?_,?_⟩
 .have hm':m<xs.length:=by rw[size_toArray] at hm;omega
  have ex:xs[m]? =some xs[m]:=by simp[hm']
  obtain⟨d,ed,hdv⟩:=hd.get ex;obtain⟨u',eu,ru'⟩:=r.get ex;have e2:its.toArray[m]=u':=by
   have:its[m]? =some its.toArray[m]:=by simp
   rw[eu] at this;exact(Option.some.inj this).symm
  rw[e2,←heq m d X5 ed];obtain⟨as,ra⟩:=hdv.reads I ru';refine eqAt_reads d dy _ s u' u as bs ra rb hdv.can hy.can ?_;have:=Nat.min_le_right d.depth dy.depth;omega
 .refine⟨.non,_,I.TX hH e ?_ (r.eraseIdx j) ?_,rfl,q⟩
  .rw[List.eraseIdxIfInBounds_toArray]
  .have:=HD xs j;omega
theorem aib (hu:X.A.units+64<cLine)(ho:PE X o to)(ha:PA X [e] t)
  (hbase:attributeBase o "remove" X.env (eval o X.env)=eval o X.env:=by rfl)
  (hfew:((backTo cpos (starEach [e] X.env)).all (λx=>!x.1) && (backToKw cpos (keywordEach [] X.env)).all (λx=>x.1.isSome)
   && decide (([e]:List Expr).length+([]:List Keyword).length+(if([]:List Keyword).isEmpty then 0 else 1)<30))=true:=by rfl)
  (hline:(apos.endLine==cpos.line)=true:=by rfl)(hs:starEach [e] X.env=(false,eval e X.env)::starEach [] X.env:=by rfl)(hplain:(backTo cpos<|starEach [] X.env).any (·.1)=false:=by rfl):
  PE X (.Call (.Attribute o "remove" apos) [e] [] cpos) (uq X.K "list" (U0 X.K) to t):=abA PySem.F.plainAttrs_list PySem.F.slot_list_remove PySem.F.type_list_remove (akN hu) ho ha hbase hfew hline hs hplain
end
end L2
namespace L2
open PyProof.Rows
def agl (K:Frag):R2:=λx y H Q=>∃p xs ds dx,y=.ref p/\aR K H p xs/\aG K H ds xs/\Has K H dx x/\dx.depth<=60/\(∀d∈ds,eqv d dx=false)/\Q (.bl false) H
theorem agm (hu:X.A.units+64<cLine):cA X (compareOp .In) (agl X.K):=by
 intro pins s σ H x y v u Q I rx ry h;obtain⟨p,xs,ds,dx,rfl,hq,hd,hx,akO,hne,q⟩:=h;cases ry;obtain⟨its,r,pl,hz⟩:=I.list hq;obtain⟨bs,rb⟩:=hx.reads I rx;refine SeqAt.in_listAt (λ_=>false) pl.isList (λw hw=>?_) ⟨.bl _,H,I,rfl,?_⟩
 .have hw':w∈its:=by simpa using hw
  obtain⟨j,ej⟩:=getElem?_of_mem hw';have hj:j<xs.length:=by have:=(List.getElem?_eq_some_iff.mp ej).1;have:=r.length;omega
  have ex:xs[j]? =some xs[j]:=by simp[hj]
  obtain⟨d,ed,hdv⟩:=hd.get ex;obtain⟨u',eu,ru'⟩:=r.get ex;rw[ej] at eu;cases eu;have hf:=hne d<|mem_of_getElem? ed;obtain⟨as,ra⟩:=hdv.reads I ru';rw[<-hf];refine SeqAt.eqAt_reads d dx _ s w v as bs ra rb hdv.can hx.can ?_;have:=Nat.min_le_right d.depth dx.depth;omega
 .rw[show its.toArray.any (λ_=>false)=false by simp];exact q
end L2
namespace VM
open PyProof.Rows L2
noncomputable def Yd:PyData->PyData->Option PyData
 |dx,.list ds=>if dx.depth<=60/\(ds.all λd=>!PyData.eqv d dx)=true then some (.bool false) else none
 |_,_=>none
theorem akP {K:Frag}:gU K Yd (agl K):=by
 intro H x y dx dy d Q e hx hy q;unfold Yd at e;split at e
 .rename_i ds;split at e
  .rename_i c;cases e;obtain⟨p,xs,rfl,h1,h2⟩:=hy;exact⟨p,xs,ds,dx,rfl,h1,h2,hx,c.1,λd hd=>by have:=all_eq_true.mp c.2 d hd;simpa using this,q _ λ_=>rfl⟩
  .cases e
 .cases e
end VM
namespace VZ
open PySem.W PyProof.Rows
section
variable {s:Shared}
theorem alive (h:Q (s.heap.get? a) s):wpAny M A (loadIfAlive a) Q E s:=λΓ p _=>by show Sem.wp M Γ (.loadIfAlive a .pure) _ _ p s;rw[Sem.wp_loadIfAlive];exact h
abbrev nZ (h:Heap)(z TI TO T:Addr)(b:Bool):Prop:=h.get? z=some {cls:=.type "zip",dict:=none,data:=.fields #[rawInt T,.bool b,.bool false,.ref TI,.ref TO],slots:=#[]}
theorem Ot (hz:nZ s.heap z TI TO T b)(hT:s.heap.get? T=some oT)
  (hQ:∀h',nZ h' z TI TO T true->h'.objs.size=s.heap.objs.size->(∀c o,c≠z->s.heap.get? c=some o->h'.get? c=some o)->Q false {s with heap:=h'}):
  wpAny (model prog w) A (Builtin.SmallTypes.ownedTupleIsFree<|.ref z) Q E s:=by
 refine wpAny_bind<|wpAny_field hz rfl rfl ?_;refine wpAny_bind<|alive ?_;rw[toNat_natCast,hT];refine wpAny_bind<|wpAny_field hz rfl rfl ?_;cases b with
 |true=>exact wpAny_pure<|hQ s.heap hz rfl λc o _ e=>e
 |false=>refine wpAny_bind<|wpAny_setField_rec hz (by simp) λh₁ hz₁ hs₁=>wpAny_pure<|hQ h₁ hz₁ hs₁.1 λc o hc e=>hs₁.extBut _ _ hc e
theorem Ye {Q:Value->Shared->Prop}(D:ZipApart z TI TO i1 i2 l1 l2)
  (hz:nZ s.heap z TI TO T b)(hT:s.heap.get? T=some oT)(hTI:IsPair s.heap TI (.ref i1) (.ref i2))(h1:s.heap.IsListIter i1 l1 k)(h2:s.heap.IsListIter i2 l2 k)(hl1:s.heap.IsList l1 xs)(hl2:s.heap.IsList l2 ys)(hx:xs[k]? =some x)(hy:ys[k]? =some y)
  (hQ:∀h',nZ h' z TI TO T true->h'.IsListIter i1 l1 (k+1)->h'.IsListIter i2 l2 (k+1)->IsPair h' s.heap.objs.size x y->(∀c o,c≠z->c≠i1->c≠i2->s.heap.get? c=some o->h'.get? c=some o)->Q (.ref s.heap.objs.size) {s with heap:=h'}):
  wpAny (model prog w) A (Builtin.«zip.__next__» ⟨[.ref z],[]⟩) (λfin s'=>∃v,fin=.done (.ret v)/\Q v s') E s:=by
 show wpAny _ _ (field (.ref z) 2>>=_) _ _ _;refine wpAny_bind<|wpAny_field hz rfl rfl ?_;refine wpAny_bind<|wpAny_field hz rfl rfl ?_;refine wpAny_bind<|wpAny_seqItems hTI rfl ?_;refine wpAny_bind<|Ot hz hT λh₁ hz₁ hn₁ hs₁=>?_;simp only[false_eq_true,if_false];rw[List.forIn_toArray,forIn_cons];refine wpAny_bind<|wpAny_bind<|wpAny_bind<|wpAny_holding ?_;have g1:=h1.at λo e=>hs₁ _ o D.i1z e;have g2:=h2.at λo e=>hs₁ _ o D.i2z e;have gl1:=hl1.at λo e=>hs₁ _ o D.l1z e;have gl2:=hl2.at λo e=>hs₁ _ o D.l2z e;refine wpAny_bind<|wpAny_nextOf_list_item g1 gl1 hx λh₂ h1₂ hs₂=>wpAny_pure ?_;refine wpAny_pure ?_;dsimp only;rw[forIn_cons];refine wpAny_bind<|wpAny_bind<|wpAny_holding ?_;refine wpAny_bind<|wpAny_nextOf_list_item (g2.extBut hs₂.extBut D.i12.symm) (gl2.extBut hs₂.extBut D.l2i1) hy λh₃ aic hs₃=>wpAny_pure ?_;refine wpAny_pure ?_;dsimp only;rw[List.forIn_nil];refine wpAny_pure ?_;refine wpAny_bind (wpAny_newTuple (hsz:=by show(2:Nat)<=sizeLine;decide) ?_);have hsz:h₃.objs.size=s.heap.objs.size:=by rw[hs₃.1,hs₂.1,hn₁]
 refine wpAny_pure ⟨_,rfl,?_⟩;have hz₃:=hs₃.extBut _ _ D.i2z.symm (hs₂.extBut _ _ D.i1z.symm hz₁);have up:∀c o,h₃.get? c=some o->(h₃.push {cls:=.type "tuple",data:=.seq #[x,y]}).get? c=some o:=λc o e=>get?_push_of_some _ e;have hT':IsPair (h₃.push {cls:=.type "tuple",data:=.seq #[x,y]}) h₃.objs.size x y:=get?_push_size _ rfl;rw[hsz] at hT' ⊢;exact hQ _ (up _ _ hz₃) ((h1₂.extBut hs₃.extBut D.i12).at λo e=>up _ o e) (aic.at λo e=>up _ o e) hT' λc o c1 c2 c3 e=>up _ _<|hs₃.extBut _ _ c3<|hs₂.extBut _ _ c2<|hs₁ _ _ c1 e
theorem Yg (hh:A.handled=none)(D:ZipApart z TI TO i1 i2 l1 l2)
  (hz:nZ s.heap z TI TO T b)(hT:s.heap.get? T=some oT)(hTI:IsPair s.heap TI (.ref i1) (.ref i2))(h1:s.heap.IsListIter i1 l1 k)(hl1:s.heap.IsList l1 xs)(hx:xs[k]? =none)
  (hE:∀h' e,(∀c o,c≠z->c≠i1->s.heap.get? c=some o->h'.get? c=some o)->(∃o,h'.get? e=some o/\o.cls=.type "StopIteration")->E (.ref e) {s with heap:=h'}):
  wpAny (model prog w) A (Builtin.«zip.__next__» ⟨[.ref z],[]⟩) Q E s:=by
 show wpAny _ _ (field (.ref z) 2>>=_) _ _ _;refine wpAny_bind<|wpAny_field hz rfl rfl ?_;refine wpAny_bind<|wpAny_field hz rfl rfl ?_;refine wpAny_bind<|wpAny_seqItems hTI rfl ?_;refine wpAny_bind<|Ot hz hT λh₁ hz₁ hn₁ hs₁=>?_;simp only[false_eq_true,if_false];rw[List.forIn_toArray,forIn_cons];refine wpAny_bind<|wpAny_bind<|wpAny_bind<|wpAny_holding ?_;refine wpAny_bind<|wpAny_nextOf_list_end hh (h1.at λo e=>hs₁ _ o D.i1z e) (hl1.at λo e=>hs₁ _ o D.l1z e) hx λh₂ e hs₂ he=>?_;exact hE h₂ e (λc o c1 c2 x=>hs₂ _ _ c2<|hs₁ _ _ c1 x) he
end
section
variable {z TI TO T i1 i2 l1 l2:Addr}
theorem U8 (D:ZipApart z TI TO i1 i2 l1 l2)
  (hz:nZ s.heap z TI TO T b)(hT:s.heap.get? T=some oT)(hTI:IsPair s.heap TI (.ref i1) (.ref i2))(h1:s.heap.IsListIter i1 l1 k)(h2:s.heap.IsListIter i2 l2 k)(hl1:s.heap.IsList l1 xs)(hl2:s.heap.IsList l2 ys)(hx:xs[k]? =some x)(hy:ys[k]? =some y)
  (hQ:∀h',nZ h' z TI TO T true->h'.IsListIter i1 l1 (k+1)->h'.IsListIter i2 l2 (k+1)->IsPair h' s.heap.objs.size x y->(∀c o,c≠z->c≠i1->c≠i2->s.heap.get? c=some o->h'.get? c=some o)->Q (some<|.ref s.heap.objs.size) {s with heap:=h'}):
  wpAny (model prog w) A (pyNext<|.ref z) Q E s:=by
 have hT':s.TypeIs (.ref z) "zip":=⟨_,hz,rfl⟩;exact wpAny_bind (wpAny_attempt (wpAny_callSpecial?_slot hT' F.slot_zip_next
  (wpAny_call_entry F.slot_zip_next hT' F.entry_zip_next
   (Ye D hz hT hTI h1 h2 hl1 hl2 hx hy λh' a1 a2 a3 a4 a5=>wpAny_pure (hQ h' a1 a2 a3 a4 a5)) (F.args_zip_next_1 _))))
theorem U9 (hh:A.handled=none)(D:ZipApart z TI TO i1 i2 l1 l2)
  (hz:nZ s.heap z TI TO T b)(hT:s.heap.get? T=some oT)(hTI:IsPair s.heap TI (.ref i1) (.ref i2))(h1:s.heap.IsListIter i1 l1 k)(hl1:s.heap.IsList l1 xs)(hx:xs[k]? =none)
  (hQ:∀h',(∀c o,c≠z->c≠i1->s.heap.get? c=some o->h'.get? c=some o)->Q none {s with heap:=h'}):wpAny (model prog w) A (pyNext<|.ref z) Q E s:=by
 have hT':s.TypeIs (.ref z) "zip":=⟨_,hz,rfl⟩;refine wpAny_bind (wpAny_attempt (wpAny_callSpecial?_slot hT' F.slot_zip_next
  (wpAny_call_entry F.slot_zip_next hT' F.entry_zip_next (Yg hh D hz hT hTI h1 hl1 hx λh' e hk he=>?_) (F.args_zip_next_1 _))))
 obtain⟨o,ho,hc⟩:=he;refine wpAny_bind<|wpAny_isInstance ⟨o,ho,hc⟩ isSubtype_stop ?_;exact wpAny_pure<|hQ _ hk
structure ZS (z TI TO T i1 i2 l1 l2:Addr)(xs ys:Array Value)(i:Nat)(h:Heap):Prop where
 z:∃b,nZ h z TI TO T b
 t:∃o,h.get? T=some o
 ti:IsPair h TI (.ref i1) (.ref i2)
 a:h.IsListIter i1 l1 i
 b:h.IsListIter i2 l2 i
 la:h.IsList l1 xs
 lb:h.IsList l2 ys
theorem ZS.at (x:ZS z TI TO T i1 i2 l1 l2 xs ys i h)(k:∀c o,c=z\/c=T\/c=TI\/c=i1\/c=i2\/c=l1\/c=l2->h.get? c=some o->h'.get? c=some o):ZS z TI TO T i1 i2 l1 l2 xs ys i h':=by obtain⟨⟨b,x1⟩,⟨o,x2⟩,x3,x4,x5,x6,x7⟩:=x;exact⟨⟨b,k _ _ (by simp) x1⟩,⟨o,k _ _ (by simp) x2⟩,k _ _ (by simp) x3,x4.at λo e=>k _ o (by simp) e,x5.at λo e=>k _ o (by simp) e,x6.at λo e=>k _ o (by simp) e,x7.at λo e=>k _ o (by simp) e⟩
structure Laid (n0:Nat)(xs ys:Array Value)(ts:List Addr)(h:Heap):Prop where
 nd:ts.Nodup
 lo:∀t∈ts,n0<=t/\t<h.objs.size
 it:∀(j:Nat) t,ts[j]? =some t->∃x y,xs[j]? =some x/\ys[j]? =some y/\IsPair h t x y
theorem Laid.at (x:Laid n0 xs ys ts h)(k:∀c o,n0<=c->h.get? c=some o->h'.get? c=some o):Laid n0 xs ys ts h':=by
 have key:∀t∈ts,∃j,ts[j]? =some t:=λt ht=>getElem?_of_mem ht;have up:∀j t,ts[j]? =some t->∃x y,xs[j]? =some x/\ys[j]? =some y/\IsPair h' t x y:=λj t e=>by obtain⟨a,b,c,d,p⟩:=x.it j t e;exact⟨a,b,c,d,k _ _ (x.lo t<|mem_of_getElem? e).1 p⟩
 refine⟨x.nd,λt ht=>⟨(x.lo t ht).1,?_⟩,up⟩;obtain⟨j,e⟩:=key t ht;obtain⟨_,_,_,_,p⟩:=up j t e;exact lt_size p
theorem Laid.more (l:Laid n0 xs ys ts h)(hn:t∉ts)(h0:n0<=t)(hx:xs[ts.length]? =some x)(hy:ys[ts.length]? =some y)(hp:IsPair h t x y):Laid n0 xs ys (ts++[t]) h:=by
 refine⟨?_,λu hu=>?_,λj u e=>?_⟩
 .rw[nodup_append];exact⟨l.nd,by simp,λa ha b hb z=>by rw[mem_singleton.mp hb] at z;exact hn<|z▸ha⟩
 .rcases mem_append.mp hu with g|g
  .exact l.lo u g
  .rw[mem_singleton.mp g];exact⟨h0,lt_size hp⟩
 .by_cases hj:j<ts.length
  .rw[getElem?_append_left hj] at e;exact l.it j u e
  .rw[getElem?_append_right<|by omega] at e;have hj0:j - ts.length=0:=by have:=(List.getElem?_eq_some_iff.mp e).1;simp at this;omega
   rw[hj0] at e;have eu:t=u:=by simpa using e
   have ej:j=ts.length:=by omega
   rw[ej,←eu];exact⟨x,y,hx,hy,hp⟩
abbrev LstAt (h:Heap)(S:Addr)(ts:List Addr)(c:Nat):Prop:=h.get? S=some {cls:=.type "list",dict:=none,data:=.seq (ts.map Value.ref).toArray c,slots:=#[]}
theorem RT (hS:LstAt h S ts c):∃c',LstAt (h.update S<|Obj.mapSeq (·.push (Value.ref n))) S (ts++[n]) c':=by
 have e:=get?_update_self (Obj.mapSeq (·.push (Value.ref n))) hS rfl;have akQ:((ts++[n]).map Value.ref).toArray=((ts.map Value.ref).toArray).push (.ref n):=by simp
 have key:∀d:Data,(Obj.mapSeq (·.push (Value.ref n)) {cls:=.type "list",dict:=none,data:=.seq (ts.map Value.ref).toArray c,slots:=#[]}).data=d->∃c',d=.seq (((ts.map Value.ref).toArray).push<|.ref n) c':=λd hd=>⟨_,hd.symm.trans rfl⟩;obtain⟨c',hc⟩:=key _ rfl;refine⟨c',?_⟩;rw[LstAt,akQ,←hc];exact e
theorem aaG (hh:A.handled=none)(D:ZipApart z TI TO i1 i2 l1 l2)(h0:z<n0/\i1<n0/\i2<n0/\S<n0/\T=n0)
  (hS:S≠z/\S≠TI/\S≠i1/\S≠i2/\S≠l1/\S≠l2)(hle:xs.size=ys.size)(hn:xs.size<=sizeLine):∀(k i:Nat) (s:Shared) (ts:List Addr) (c:Nat),xs.size - i=k->i<=xs.size->ts.length=i->ZS z TI TO T i1 i2 l1 l2 xs ys i s.heap->LstAt s.heap S ts c->Laid n0 xs ys ts s.heap->
  (∀h' tk ts' c',(∀b o,b≠S->b≠z->b≠i1->b≠i2->s.heap.get? b=some o->h'.get? b=some o)->LstAt h' S ts' c'->Laid n0 xs ys ts' h'->ts'.length=xs.size->R (.ok<|.ret res) {s with heap:=h',toks:=tk})->
  codeAny (model prog w) A (.builtin "list.extend.loop" ⟨[.ref S,.ref z,res],[]⟩) R s:=by
 obtain⟨hz0,aaH,agn,hS0,hT0⟩:=h0;obtain⟨hSz,akR,hS1,hS2,akS,akT⟩:=hS;have ne:∀{a c:Nat},a<n0->n0<=c->c≠a:=λh1 h2 z=>by omega
 intro k;induction k with
 |zero=>
  intro i s ts c hk hi htl st hL la hR;have hin:i=xs.size:=by omega
  obtain⟨⟨b,x1⟩,⟨o,x2⟩,x3,x4,x5,x6,x7⟩:=st;refine codeAny_builtin F.entry_extend_loop ?_;rw[Around.under_plainId F.plain_extend_loop _];refine wpAny_bind (U9 hh D x1 x2 x3 x4 x6 (by rw[hin];exact Array.getElem?_eq_none<|le_refl _) λh' hk'=>?_);refine wpAny_pure<|hR h' s.toks ts c (λb o _ c1 c2 _ e=>hk' b o c1 c2 e) (hk' _ _ hSz hS1 hL) (la.at λc o hc e=>hk' c o (ne hz0 hc) (ne aaH hc) e)<|by omega
 |succ k ih=>
  intro i s ts c hk hi htl st hL la hR;have hlt:i<xs.size:=by omega
  obtain⟨⟨b,x1⟩,⟨o,x2⟩,x3,x4,x5,x6,x7⟩:=st;have hx:=Array.getElem?_eq_getElem hlt;have hy:ys[i]? =some ys[i]:=Array.getElem?_eq_getElem (by omega);refine codeAny_builtin F.entry_extend_loop ?_;rw[Around.under_plainId F.plain_extend_loop _];refine wpAny_bind<|U8 D x1 x2 x3 x4 x5 x6 x7 hx hy λh₁ g1 g2 g3 g4 hk₁=>?_;have hS':=hk₁ _ _ hSz hS1 hS2 hL;have hTn:T≠z/\T≠i1/\T≠i2:=by rw[hT0];exact⟨ne hz0<|le_refl _,ne aaH<|le_refl _,ne agn<|le_refl _⟩
  have st₁:ZS z TI TO T i1 i2 l1 l2 xs ys (i+1) h₁:=⟨⟨_,g1⟩,⟨o,hk₁ _ _ hTn.1 hTn.2.1 hTn.2.2 x2⟩,hk₁ _ _ D.TIz D.TIi1 D.TIi2 x3,g2,g3,x6.at λo e=>hk₁ _ o D.l1z D.l1i1 D.l1i2 e,x7.at λo e=>hk₁ _ o D.l2z D.l2i1 D.l2i2 e⟩;have hfr:s.heap.objs.size∉ts:=λhm=>lt_irrefl _ (la.lo _ hm).2;have hsn:n0<=s.heap.objs.size:=by have:=lt_size x2;rw[hT0] at this;exact le_of_lt this
  have Va:=(la.at λc o hc e=>hk₁ c o (ne hz0 hc) (ne aaH hc) (ne agn hc) e).more hfr hsn (by rw[htl];exact hx) (by rw[htl];exact hy) g4;obtain⟨c2,hS2'⟩:=RT hS';refine wpAny_bind ?_;refine wpAny_updateSeq hS' rfl (wpAny_pure ⟨plainId_quiet F.plain_extend_loop _,ih (i+1) _ (ts++[s.heap.objs.size]) c2 (by omega) hlt (by rw[length_append,htl];rfl) (st₁.at λc o hc e=>?_) hS2' (Va.at λc o hc e=>?_) λh' tk ts' c' hk' hL' Ou hl'=>?_⟩)
   (by simp[htl];omega) (by simp[htl];omega)
  .refine(get?_update_other _ _ ?_).trans e;rcases hc with rfl|rfl|rfl|rfl|rfl|rfl|rfl
   .exact hSz
   .rw[hT0];exact(ne hS0<|le_refl _).symm
   .exact akR
   .exact hS1
   .exact hS2
   .exact akS
   .exact akT
  .exact(get?_update_other _ _ (ne hS0 hc).symm).trans e
  .refine hR h' tk ts' c' (λb o c0 c1 c2 c3 e=>hk' b o c0 c1 c2 c3<|(get?_update_other _ _<|Ne.symm c0).trans<|hk₁ b o c1 c2 c3 e) hL' Ou hl'
end
theorem Vb:typeLookup (.type "zip") "__len__"=pure none:=by rw[typeLookup_type,builtinLookup_eq_fast];kernel_rfl
theorem Qm:typeLookup (.type "zip") "__length_hint__"=pure none:=by rw[typeLookup_type,builtinLookup_eq_fast];kernel_rfl
section
variable {z TI TO i1 i2 l1 l2:Addr}
structure Z0 (z TI TO i1 i2 l1 l2:Addr)(xs ys:Array Value)(h:Heap):Prop where
 z:IsZip h z TI TO .none
 ti:IsPair h TI (.ref i1) (.ref i2)
 to:∃a b,IsPair h TO a b
 a:h.IsListIter i1 l1 0
 b:h.IsListIter i2 l2 0
 la:h.IsList l1 xs
 lb:h.IsList l2 ys
theorem Z0.at (x:Z0 z TI TO i1 i2 l1 l2 xs ys h)(k:∀c o,c=z\/c=TO\/c=TI\/c=i1\/c=i2\/c=l1\/c=l2->h.get? c=some o->h'.get? c=some o):Z0 z TI TO i1 i2 l1 l2 xs ys h':=by obtain⟨x1,x3,⟨a,b,x2⟩,x4,x5,x6,x7⟩:=x;exact⟨k _ _ (by simp) x1,k _ _ (by simp) x3,⟨a,b,k _ _ (by simp) x2⟩,x4.at λo e=>k _ o (by simp) e,x5.at λo e=>k _ o (by simp) e,x6.at λo e=>k _ o (by simp) e,x7.at λo e=>k _ o (by simp) e⟩
structure Off (S z TI TO i1 i2 l1 l2:Addr):Prop where
 z:S≠z
 ti:S≠TI
 to:S≠TO
 a:S≠i1
 b:S≠i2
 la:S≠l1
 lb:S≠l2
theorem Off.ne (o:Off S z TI TO i1 i2 l1 l2)(h:c=z\/c=TO\/c=TI\/c=i1\/c=i2\/c=l1\/c=l2):S≠c:=by
 rcases h with rfl|rfl|rfl|rfl|rfl|rfl|rfl
 .exact o.z
 .exact o.to
 .exact o.ti
 .exact o.a
 .exact o.b
 .exact o.la
 .exact o.lb
theorem Jk (hh:A.handled=none)(D:ZipApart z TI TO i1 i2 l1 l2)(hS:Off S z TI TO i1 i2 l1 l2)(hle:xs.size=ys.size)(hn:xs.size<=sizeLine)
  (st:Z0 z TI TO i1 i2 l1 l2 xs ys s.heap)(hL:LstAt s.heap S [] c)
  (hR:∀h' tk ts' c',(∀b o,b≠S->b≠z->b≠TO->b≠i1->b≠i2->s.heap.get? b=some o->h'.get? b=some o)->LstAt h' S ts' c'->Laid s.heap.objs.size xs ys ts' h'->ts'.length=xs.size->R (.ok<|.ret res) {s with heap:=h',toks:=tk}):
  codeAny (model prog w) A (.builtin "list.extend.loop" ⟨[.ref S,.ref z,res],[]⟩) R s:=by
 obtain⟨x1,x3,⟨a,b,x2⟩,x4,x5,x6,x7⟩:=st;have hS0:=lt_size hL;have hz0:=lt_size x1;have h10:i1<s.heap.objs.size:=by obtain⟨_,e,_⟩:=x4;exact lt_size e
 have h20:i2<s.heap.objs.size:=by obtain⟨_,e,_⟩:=x5;exact lt_size e
 refine codeAny_builtin F.entry_extend_loop ?_;rw[Around.under_plainId F.plain_extend_loop _];by_cases h0:xs.size=0
 .refine wpAny_bind (wpAny_pyNext_zip_end hh D x1 x3 x2 x4 x5 x6 x7 (.inl<|Array.getElem?_eq_none<|by omega) λh' hk=>?_);exact wpAny_pure<|hR h' s.toks [] c (λb o _ c1 c2 c3 c4 e=>hk b o c1 c2 c3 c4 e) (hk _ _ hS.z hS.to hS.a hS.b hL) ⟨nodup_nil,λt ht=>(by cases ht),λj t e=>(by simp at e)⟩ h0.symm
 .have hx:xs[0]? =some xs[0]:=Array.getElem?_eq_getElem (by omega);have hy:ys[0]? =some ys[0]:=Array.getElem?_eq_getElem (by omega);refine wpAny_bind<|wpAny_pyNext_zip_item D x1 x3 x2 x4 x5 x6 x7 hx hy λh₁ g1 g2 g3 g4 g5 g6 hk₁=>?_;have ne:∀{a:Nat},a<s.heap.objs.size->s.heap.objs.size≠a:=λh1 z=>by omega
  have hS':=hk₁ _ _ hS.z hS.to hS.a hS.b hL;obtain⟨c2,hS2'⟩:=RT hS';rw[nil_append] at hS2';have st₁:ZS z TI TO s.heap.objs.size i1 i2 l1 l2 xs ys 1 h₁:=⟨⟨_,g1⟩,⟨_,g5⟩,hk₁ _ _ D.TIz D.TITO D.TIi1 D.TIi2 x3,g3,g4,x6.at λo e=>hk₁ _ o D.l1z D.l1TO D.l1i1 D.l1i2 e,x7.at λo e=>hk₁ _ o D.l2z D.l2TO D.l2i1 D.l2i2 e⟩;have Va:=Laid.more ⟨nodup_nil,λt ht=>(by cases ht),λj t e=>(by simp at e)⟩ (by simp) (le_refl _) hx hy g5;refine wpAny_bind ?_;refine wpAny_updateSeq hS' rfl (wpAny_pure ⟨plainId_quiet F.plain_extend_loop _,aaG hh D ⟨hz0,h10,h20,hS0,rfl⟩ ⟨hS.z,hS.ti,hS.a,hS.b,hS.la,hS.lb⟩ hle hn _ 1 _ [s.heap.objs.size] c2 rfl (by omega) rfl (st₁.at λc o hc e=>?_) hS2' (Va.at λc o hc e=>?_) λh' tk ts' c' hk' hL' Ou hl'=>?_⟩)
   (by simp) (by simp)
  .refine(get?_update_other _ _ ?_).trans e;rcases hc with rfl|rfl|rfl|rfl|rfl|rfl|rfl
   .exact hS.z
   .exact(ne hS0).symm
   .exact hS.ti
   .exact hS.a
   .exact hS.b
   .exact hS.la
   .exact hS.lb
  .refine(get?_update_other _ _ λy=>?_).trans e;subst y;exact absurd hS0<|not_lt.mpr hc
  .exact hR h' tk ts' c' (λb o c0 c1 c2 c3 c4 e=>hk' b o c0 c1 c3 c4<|(get?_update_other _ _<|Ne.symm c0).trans<|hk₁ b o c1 c2 c3 c4 e) hL' Ou hl'
theorem aaI (hT:s.TypeIs (.ref z) "zip")(h:Q true s):wpAny (model prog w) A (Builtin.List.listLengthHint<|.ref z) Q E s:=by refine wpAny_bind<|wpAny_specialOf hT Vb ?_;exact wpAny_bind<|wpAny_specialOf hT Qm<|wpAny_pure h
theorem Vc (hh:A.handled=none)(D:ZipApart z TI TO i1 i2 l1 l2)(hS:Off S z TI TO i1 i2 l1 l2)(hle:xs.size=ys.size)(hn:xs.size<=sizeLine)
  (st:Z0 z TI TO i1 i2 l1 l2 xs ys s.heap)(hL:s.heap.get? S=some {cls:=.type "list",data:=.seq #[] c})
  (hR:∀h' tk ts' c',(∀b o,b≠S->b≠z->b≠TO->b≠i1->b≠i2->s.heap.get? b=some o->h'.get? b=some o)->LstAt h' S ts' c'->Laid s.heap.objs.size xs ys ts' h'->ts'.length=xs.size->R (.ok<|.ret res) {s with heap:=h',toks:=tk}):
  wpAny (model prog w) A.in1 (Builtin.List.listExtendWith (.ref S) (.ref z) res)
   (λfin s'=>match fin with|.done f=>R (.ok f) s'|.again c'=>c'.quiet=true/\codeAny (model prog w) A c' R s') (λe s'=>R (.error e) s') s:=by
 have hT:s.TypeIs (.ref z) "zip":=⟨_,st.z,rfl⟩;refine wpAny_bind<|wpAny_typeOf hT ?_;have h1:Builtin.List.listSameRef (.ref S) (.ref z)=false:=by simp[Builtin.List.listSameRef,hS.z]
 have h2:(type "zip"==type "list")=false:=by decide
 have h3:(type "zip"==type "tuple")=false:=by decide
 simp only[h1,h2,h3,Bool.or_false,false_eq_true,if_false];refine wpAny_bind<|wpAny_pyIter_zip st.z ?_;refine wpAny_bind<|wpAny_holding<|aaI hT ?_;refine wpAny_ite_split (λ_=>?_)<|λ_=>wpAny_pure ⟨plainId_quiet F.plain_extend_loop _,Jk hh D hS hle hn st hL hR⟩;refine wpAny_bind<|wpAny_rule ?_;refine wpAny_bind ?_;refine wpAny_bind<|wpAny_updateSeq hL rfl ?_;have hS₂:=get?_update_self (Obj.mapSeq (·.push Value.none)) hL rfl;refine wpAny_updateSeq hS₂ rfl ?_;have hS₃:=get?_update_self (Obj.mapSeq (·.pop)) hS₂ rfl;refine wpAny_pure ⟨plainId_quiet F.plain_extend_loop _,Jk hh D hS hle hn (st.at λc o hc e=>?_) hS₃ λh' tk ts' c' hk' hL' Ou hl'=>?_⟩
 .have hbS:c≠S:=λy=>hS.ne hc y.symm;exact(get?_update_other _ _<|Ne.symm hbS).trans<|(get?_update_other _ _<|Ne.symm hbS).trans e
 .refine hR h' tk ts' c' (λb o c0 c1 c2 c3 c4 e=>hk' b o c0 c1 c2 c3 c4<|(get?_update_other _ _<|Ne.symm c0).trans<|(get?_update_other _ _<|Ne.symm c0).trans e) hL' ?_ hl';simpa using Ou
theorem JD (hh:A.handled=none)(D:ZipApart z TI TO i1 i2 l1 l2)(hle:xs.size=ys.size)(hn:xs.size<=sizeLine)(st:Z0 z TI TO i1 i2 l1 l2 xs ys s.heap)
  (hQ:∀h' tk ts' c',(∀b o,b≠z->b≠TO->b≠i1->b≠i2->s.heap.get? b=some o->h'.get? b=some o)->LstAt h' s.heap.objs.size ts' c'->Laid (s.heap.objs.size+1) xs ys ts' h'->ts'.length=xs.size->Q (.ref s.heap.objs.size) {s with heap:=h',toks:=tk}):
  wpAny (model prog w) A (call (.type "list") [.ref z]) Q E s:=by
 refine callType_codes (Q₁:=λobj s₁=>obj=.ref s.heap.objs.size/\s₁={s with heap:=s.heap.push {cls:=.type "list",data:=.seq #[]}}) PySem.F.called_list (PySem.F.typeCall_list_1 _) PySem.F.entry_list_init
  (code_list_new _ ⟨rfl,rfl⟩) λobj s₁ h₁=>?_
 obtain⟨rfl,rfl⟩:=h₁;have hS:(s.heap.push {cls:=.type "list",data:=.seq #[]}).get? s.heap.objs.size=some {cls:=.type "list",data:=.seq #[]}:=get?_push_size _ rfl;have lt:∀{b o},s.heap.get? b=some o->s.heap.objs.size≠b:=λe=>ne_of_gt<|lt_size e;obtain⟨a,b,x2⟩:=st.to;have off:Off s.heap.objs.size z TI TO i1 i2 l1 l2:=⟨lt st.z,lt st.ti,lt x2,(by obtain⟨_,e,_⟩:=st.a;exact lt e),(by obtain⟨_,e,_⟩:=st.b;exact lt e),(by obtain⟨_,e,_⟩:=st.la;exact lt e),(by obtain⟨_,e,_⟩:=st.lb;exact lt e)⟩;have st₁:Z0 z TI TO i1 i2 l1 l2 xs ys (s.heap.push {cls:=.type "list",data:=.seq #[]}):=st.at λc o _ e=>get?_push_of_some _ e;refine⟨⟨_,hS,rfl⟩,PySem.F.args_list_init_2 _ _,?_⟩;refine wpAny_bind ?_;refine wpAny_bind<|wpAny_seqItems hS rfl<|wpAny_pure ?_;refine wpAny_bind<|wpAny_updateSeq hS rfl ?_;have hS₂:=get?_update_self (Obj.mapSeq<|λ_=>(#[])) hS rfl;refine wpAny_bind<|wpAny_letGo ?_;refine Vc hh D off hle hn (st₁.at λc o hc e=>(get?_update_other _ _<|off.ne hc).trans e) hS₂ λh' tk ts' c' hk' hL' Ou hl'=>?_;refine⟨rfl,hQ h' tk ts' c' (λb o c1 c2 c3 c4 e=>hk' b o (λy=>lt e y.symm) c1 c2 c3 c4<|(get?_update_other _ _<|lt e).trans<|get?_push_of_some _ e) hL' ?_ hl'⟩;simpa using Ou
end
end VZ
namespace L2
open PyProof.Rows
noncomputable def putAll (H:Hp):List (Addr×HO)->Hp
 |[]=>H
 |p::r=>upd (putAll H r) p.1 p.2
theorem wO (h:b∉ps.map (·.1)):putAll H ps b=H b:=by
 induction ps with
 |nil=>rfl
 |cons p r ih=>rw[map_cons,mem_cons,not_or] at h;show upd (putAll H r) p.1 p.2 b=_;rw[ak h.1,ih h.2]
theorem tu (nd:(ps.map (·.1)).Nodup)(h:p∈ps):putAll H ps p.1=some p.2:=by
 induction ps with
 |nil=>cases h
 |cons q r ih=>
  rw[map_cons,nodup_cons] at nd;show upd (putAll H r) q.1 q.2 p.1=_;rcases mem_cons.mp h with g|g
  .rw[g,ao]
  .rw[ak λz=>nd.1 (by rw[<-z];exact mem_map_of_mem g)];exact ih nd.2 g
theorem Inv.lays (I:Inv X pins σ H s)(k:∀b u,s.heap.get? b=some u->h'.get? b=some u)(sm:Same H H')(lo:∀b,b<s.heap.objs.size->H' b=H b)
  (new:∀b o,s.heap.objs.size<=b->H' b=some o->eY X.prog X.w H' h' b o):Inv X pins σ H' {s with heap:=h',toks:=t'}:=by
 refine I.un ⟨λb u q _ _ _=>k b u q,λb u q _ _ _=>⟨u.slots,k b u q⟩,λb u q n _=>by rw[lo b<|lt_size q];exact n,λb u q _=>⟨u,k b u q⟩,λb xs q=>sm _ _ q,λb u xs q=>sm _ _ q,λb ps q=>⟨#[],by rw[sm _ _ q];simp⟩⟩ λb u e=>?_;by_cases hb:b<s.heap.objs.size
 .rw[lo b hb] at e;exact(I.hok b u e).stay (λc v _ q=>k c v q) (λc q=>sm _ _ q) λc xs q=>sm _ _ q
 .exact new b u (not_lt.mp hb) e
theorem Jl:∀ts:List Addr,Vals (ts.map V.ref) (ts.map Value.ref)
 |[]=>.nil
 |t::r=>.cons rfl<|Jl r
theorem Vals.at (r:Vals xs us):∀{j:Nat}{u:Value},us[j]? =some u->∃x,xs[j]? =some x/\RelV x u:=by
 induction r with
 |nil=>intro j u e;simp at e
 | @cons a b l r h _ ih=>
  intro j u e;cases j with
  |zero=>exact⟨a,rfl,by simpa using(by simpa using e)▸h⟩
  |succ j=>exact ih<|by simpa using e
theorem agr (n l1 l2:Nat)(h1:l1<n)(h2:l2<n):ZipApart (n+4) (n+2) (n+3) n (n+1) l1 l2:=by constructor<;>(show(_)≠_)<;>omega
def tLZ (K:Frag)(ta:TA):TE:=λσ H Q=>ta σ H λvs H1=>∃a b xs ys,vs=[.ref a,.ref b]/\aR K H1 a xs/\aR K H1 b ys/\xs.length=ys.length/\
 ∀(z:Addr) (ts:List Addr) (H2:Hp),Same H1 H2->H1 z=none->(∀t∈ts,H1 t=none)->ts.Nodup->z∉ts->H2 z=some (.lst<|ts.map V.ref)->ts.length=xs.length->(∀(j:Nat) t x y,ts[j]? =some t->xs[j]? =some x->ys[j]? =some y->H2 t=some (.tup [x,y]))->Q (.ref z) H2
theorem Vd (hc:X.calm=true)(hgl:Gl X "list")(hml:X.mg "list"=none)(hg:Gl X "zip")(hm:X.mg "zip"=none)(ha:PA X [l,l2] ta)
  (hs:starEach [l,l2] X.env=[(false,eval l X.env),(false,eval l2 X.env)]:=by rfl)(hs2:starEach [l2] X.env=[(false,eval l2 X.env)]:=by rfl)
  (he:starEach [.Call (.Name "zip" p2) [l,l2] [] pos2] X.env=[(false,eval (.Call (.Name "zip" p2) [l,l2] [] pos2) X.env)]:=by rfl):
  PE X (.Call (.Name "list" p) [.Call (.Name "zip" p2) [l,l2] [] pos2] [] pos) (tLZ X.K ta):=by
 intro pins s σ H Q I h;refine wpAny_Call_Name_kw<|pG I hgl hml boot_list ?_;refine PyProof.Rows.callWith_type1 ?_;rw[he];refine Calls.spliced_cons ?_;refine Call_ (pG I hg hm boot_zip (PyProof.Rows.callWith_type1 (aV (ha pos2 pins s σ H _ I h) λus s1 ⟨vs,H1,I1,r1,q1⟩=>?_) (by rw[hs,hs2]) (by rw[hs2];rfl)));obtain⟨a,b,xs,ys,e,hq,hq2,hlen,q⟩:=q1;subst e;cases r1 with
 |cons r rr=>
  cases rr with
  |cons r2 rr=>
   cases rr;cases r;cases r2;obtain⟨its,rv,pl,hz⟩:=I1.list hq;obtain⟨its2,K9,La,hz2⟩:=I1.list hq2;have hl1:=rv.length;have hl2:=K9.length;have la:a<s1.heap.objs.size:=by obtain⟨_,e,_⟩:=pl.isList;exact lt_size e
   have lb:b<s1.heap.objs.size:=by obtain⟨_,e,_⟩:=La.isList;exact lt_size e
   refine call_zip_2 pl.isList La.isList λh' g1 g2 g3 g4 g5 hsz hk=>?_;refine Calls.spliced_nil ?_;have D:=agr s1.heap.objs.size a b la lb;have st:VZ.Z0 (s1.heap.objs.size+4) (s1.heap.objs.size+2) (s1.heap.objs.size+3) s1.heap.objs.size (s1.heap.objs.size+1) a b its.toArray its2.toArray h':=⟨g1,g2,⟨_,_,g3⟩,g4,g5,pl.isList.at λo e=>hk _ o e,La.isList.at λo e=>hk _ o e⟩;refine VZ.JD (I1.ok.hd hc) D (by simp;omega) (by simp;omega) st λh2 tk ts c hk2 hL Yh htl=>?_;have hs5:=hsz;have ne5:∀{b:Addr}{o:Obj},s1.heap.get? b=some o->∀j:Nat,b≠s1.heap.objs.size+j:=λ{b o} e j y=>by rw[y] at e;exact absurd (lt_size e)<|not_lt.mpr<|le_add_right _ _
   have hk3:∀b o,s1.heap.get? b=some o->h2.get? b=some o:=λb o e=>hk2 b o (ne5 e 4) (ne5 e 3) (ne5 e 0) (ne5 e 1)<|hk b o e;have htx:ts.length=xs.length:=by rw[htl];simp;omega
   let os:List HO:=(xs.zip ys).map λp=>HO.tup [p.1,p.2];have hos:os.length=ts.length:=by simp[os];omega
   have e1:(ts.zip os).map (·.1)=ts:=List.map_fst_zip (by omega);have hnz:h'.objs.size∉ts:=λhm=>by have:=(Yh.lo _ hm).1;exact Nat.not_succ_le_self _ this
   have new:∀t,t∈h'.objs.size::ts->s1.heap.objs.size<=t:=λt ht=>by
    rcases mem_cons.mp ht with g|g
    .rw[g,hs5];exact le_add_right _ _
    .have h3:=(Yh.lo t g).1;rw[hs5] at h3;exact le_trans (le_add_right _ 6) h3
   let ps:List (Addr×HO):=(h'.objs.size,HO.lst<|ts.map V.ref)::ts.zip os;have e2:ps.map (·.1)=h'.objs.size::ts:=by simp only[ps,map_cons,e1]
   have nd:(ps.map (·.1)).Nodup:=by rw[e2];exact nodup_cons.mpr ⟨hnz,Yh.nd⟩
   have fr:∀t,t∈h'.objs.size::ts->H1 t=none:=λt ht=>I1.hok.fresh<|new t ht;have sm:Same H1 (putAll H1 ps):=λb o e=>by rw[wO];exact e;rw[e2];exact λhm=>by rw[fr b hm] at e;cases e
   have lo:∀b,b<s1.heap.objs.size->putAll H1 ps b=H1 b:=λb hb=>wO (by rw[e2];exact λhm=>absurd hb<|not_lt.mpr<|new b hm);have tup:∀j t x y,ts[j]? =some t->xs[j]? =some x->ys[j]? =some y->(t,HO.tup [x,y])∈ps:=λj t x y a b c=>by refine mem_cons_of_mem _<|mem_of_getElem? (i:=j) ?_;rw[List.getElem?_zip_eq_some];refine⟨a,?_⟩;simp only[os,getElem?_map,map_eq_some_iff];exact⟨(x,y),List.getElem?_zip_eq_some.mpr ⟨b,c⟩,rfl⟩
   refine⟨.ref h'.objs.size,putAll H1 ps,I1.lays hk3 sm lo λb o hb e=>?_,rfl,q _ ts _ sm (fr _<|mem_cons_self ..) (λt ht=>fr t<|mem_cons_of_mem _ ht) Yh.nd hnz (tu nd<|mem_cons_self ..) htx λj t x y a b c=>tu nd<|tup j t x y a b c⟩;by_cases hm:b∈h'.objs.size::ts
   .rcases mem_cons.mp hm with g|g
    .rw[g,tu nd<|mem_cons_self ..] at e;cases e;rw[g];refine⟨by rw[length_map];omega,ts.map Value.ref,c,Jl ts,hL⟩
    .obtain⟨j,ej⟩:=getElem?_of_mem g;obtain⟨u,v,eu,ev,hp⟩:=Yh.it j b ej;obtain⟨x,ex,rx⟩:=rv.at (by simpa using eu);obtain⟨y,ey,ry⟩:=K9.at (by simpa using ev);rw[tu nd<|tup j b x y ej ex ey] at e;cases e;exact⟨by show 2<=sizeLine;decide,[u,v],.cons rx<|.cons ry .nil,⟨_,hp,rfl,_,rfl⟩⟩
   .rw[wO (by rw[e2];exact hm),I1.hok.fresh hb] at e;cases e
open PySem.W PySem.Calls
noncomputable def GD (d:Addr):Obj:={cls:=.type "dict_values",data:=.fields #[.ref d]}
def Kf (z d:Addr):HO:=HO.ext λh=>h.get? z=some (GD d)
section
def Yi:V->List V->Hp->VK->Prop:=λx vs H Q=>match x,vs with
 |.ref d,[]=>∃kvs,H d=some (.dK kvs)/\∀z,H z=none->Q (.ref z) (upd H z<|Kf z d)
 |_,_=>False
theorem aie:Hv X "dict.values" Yi:=by
 intro pins s σ H x vs v us Q I rx rv q
 match x,vs,q with
 |.ref d,[],⟨kvs,hH,q⟩=>cases rx;have hus:=rv.zero;subst hus;obtain⟨z,hS,ws,rel,dd⟩:=qM I.hok hH;refine call_meetsIn PySem.F.slot_dict_values dd.typeIs PySem.F.entry_dict_values (PySem.F.args_dict_values_1 _) (meets_dict_values (bZ X.prog X.w) d hS) ⟨⟨ws,dd⟩,?_⟩;have e:(s.heap.push<|GD d).get? s.heap.objs.size=some (GD d):=get?_push_size _ rfl;exact⟨.ref _,_,I.laid (o:=Kf s.heap.objs.size d) (λ_ _ q=>get?_push_of_some _ q) (le_refl _) ⟨e,⟨_,e⟩,λh1 h2 a b=>b _ a⟩,rfl,q _ I.fresh⟩
theorem ags (ho:PE X o to)(hbase:attributeBase o "values" X.env (eval o X.env)=eval o X.env:=by rfl)(hline:(apos.endLine==cpos.line)=true:=by rfl):PE X (.Call (.Attribute o "values" apos) [] [] cpos) (Cj X.K "dict" Yi to):=K6 PySem.F.plainAttrs_dict PySem.F.slot_dict_values PySem.F.type_dict_values aie ho hbase hline
def agt:List V->Hp->VK->Prop:=λxs H Q=>∃z a kvs,xs=[.ref z]/\H z=some (Kf z a)/\H a=some (.dK kvs)/\∀l,H l=none->Q (.ref l) (upd H l<|.lst<|kvs.map λkv=>kv.2)
theorem agu (hc:X.calm=true):dg X (.type "list") agt:=by
 intro pins s σ H xs us Q I r h;obtain⟨z,a,kvs,rfl,hv,ha,q⟩:=h;obtain⟨u,rfl,rx⟩:=vals1 r;cases rx;obtain⟨hz,hS,ws,rel,dd⟩:=qM I.hok ha;obtain⟨ep,dat⟩:=dd.dictAt;have hl:=rel.length;have hvv:=(I.hok z _ hv).1;refine kdl_call (PySem.W.kdl_values) (I.ok.hd hc) ⟨⟨_,hvv,rfl,rfl⟩,dat⟩ (by omega) λh' tk acc c hk hD hacc=>?_;have hv:Vals (kvs.map λkv=>kv.2) acc.toList:=by
  have key:∀{l:List (Key×V)}{r:List (Key×Value)} {us:List Value},KV l r->us.length=r.length->(∀j v,us[j]? =some v->∃k,r[j]? =some (k,v))->Vals (l.map λkv=>kv.2) us:=λ{l r us} h=>by
   induction h generalizing us with
   |nil=>intro hl _;cases us with
    |nil=>exact .nil
    |cons _ _=>cases hl
   | @cons x y l r h _ ih=>
    intro hl hv;cases us with
    |nil=>cases hl
    |cons u us=>
     refine .cons ?_ (ih (by simpa using hl) λj v e=>hv (j+1) v e);obtain⟨k,e⟩:=hv 0 u rfl;have e':y=(k,u):=by simpa using e
     have:=h.2;rw[e'] at this;exact this
  refine key rel (by rw[length_toList];exact hacc.1) λj v e=>hacc.2 j v (by rw[<-Array.getElem?_toList];exact e)
 exact⟨.ref s.heap.objs.size,_,I.laid (o:=.lst<|kvs.map λkv=>kv.2) hk (le_refl _) ⟨by rw[length_map];exact hz,acc.toList,c,hv,by rw[hD]⟩,rfl,q _<|I.hok.fresh<|le_refl _⟩
end
end L2
namespace L2
section
variable {X:Cx}
theorem gx (h:Wt X.env.scope x=true:=by kernel_rfl):Gl X x:=gl h
theorem lx (h:ZF X.env.scope x=true:=by kernel_rfl):Loc X.env.scope x:=lo h
theorem dh.mo (r:dh k A)(h:j<=k:=by decide):dh j A:=r.mono h
end
section
variable {sc:Scope}
theorem fs (a:sc.kind=.function:=by rfl)(b:sc.isCoroutine=false:=by rfl)(c:sc.isGenerator=false:=by rfl)(d:N.Nodup:=by decide +kernel)(e:N.take P.length=P:=by rfl)(f:∀x∈P,sc.names.lookup x=some .local\/sc.names.lookup x=some .cell:=by decide +kernel)(g:∀y∈sc.names,y.2≠ .free:=by decide +kernel):bM N P sc:=⟨a,b,c,d,e,f,g⟩
theorem bM.vt (_:bM N P sc)(h:N.all (λx=>tK sc x && plain x)=true:=by decide +kernel):N.all (λx=>tK sc x && plain x)=true:=h
end
end L2
namespace lW
open PyProof.Rows L2 VM
noncomputable def top (i:Nat):Stmt:=PySem.Challenge.pw_leavehall_k63_whole_out_by_names.main.body.getD i<|.Pass ⟨0,0,0,0⟩
noncomputable abbrev dH (j:Nat):Stmt:=inClass (top 32) j
abbrev Q4:=Int×Int×Int×Int
noncomputable def gQ (x:Str×Int):Key×V:=(.inr x.1,.int x.2)
def rW (H:Hp)(kv:Key×V)(x:Str×Q4):Prop:=kv.1=.inr x.1/\∃t,kv.2=.ref t/\H t=some (.tup [.int x.2.1,.int x.2.2.1,.int x.2.2.2.1,.int x.2.2.2.2])
structure aW (H:Hp)(C p dx nn ll:Addr)(nums:List (Str×Int))(ls:List (Str×Q4)):Prop where
 ins:H p=some (.ins C dx [("numbers",.ref nn),("laid",.ref ll)])
 num:H nn=some (.dK<|nums.map gQ)
 laid:∃kvs,H ll=some (.dK kvs)/\Paired (rW H) kvs ls
 ne:nn≠ll
theorem rW.same (k:∀t xs,H t=some (.tup xs)->H' t=some (.tup xs))(h:rW H kv x):rW H' kv x:=let⟨a,t,b,c⟩:=h;⟨a,t,b,k t _ c⟩
theorem aW.grow (h:aW H C p dx nn ll nums ls)(k:Same H H'):aW H' C p dx nn ll nums ls:=by obtain⟨a,b,⟨kvs,c,d⟩,n⟩:=h;exact⟨k _ _ a,k _ _ b,⟨kvs,k _ _ c,d.mono λ_ _ z=>z.same λt xs e=>k _ _ e⟩,n⟩
noncomputable def bF (nm:Str):List (Str×α)->Option α
 |[]=>none
 |x::r=>if x.1=nm then some x.2 else bF nm r
noncomputable def fJ (nm:Str)(v:α)(l:List (Str×α)):List (Str×α):=if(l.any λx=>decide<|x.1=nm)=true then l.map (λx=>if x.1=nm then(x.1,v) else x) else l++[(nm,v)]
noncomputable def Kg (nm:Str)(l:List (Str×α)):List (Str×α):=l.filter λx=>!decide (x.1=nm)
theorem EY:((Sum.inr a:Key)=Sum.inr b)↔a=b:=⟨λh=>Sum.inr.inj h,λh=>by rw[h]⟩
theorem oV (nm:Str):∀nums:List (Str×Int),jK (nums.map gQ) (.inr nm)=(bF nm nums).map V.int
 |[]=>rfl
 |x::r=>by
  rw[map_cons,bF];by_cases e:x.1=nm
  .rw[if_pos e,rG (by show Sum.inr x.1=_;rw[e])];rfl
  .rw[if_neg e,rH (by intro z;exact e<|Sum.inr.inj z),oV nm r]
theorem uR (nm:Str):∀{kvs:List (Key×V)}{ls:List (Str×Q4)},Paired (rW H) kvs ls->match bF nm ls with
  |none=>jK kvs (.inr nm)=none
  |some q=>∃t,jK kvs (.inr nm)=some (.ref t)/\H t=some (.tup [.int q.1,.int q.2.1,.int q.2.2.1,.int q.2.2.2])
 |_,_,.nil=>rfl
 |_,_,.cons (a:=kv) (b:=x) h r=>by
  obtain⟨h1,t,h2,h3⟩:=h;rw[bF];by_cases e:x.1=nm
  .rw[if_pos e];exact⟨t,by rw[rG<|by rw[h1,e],h2],h3⟩
  .rw[if_neg e];have ih:=uR nm r;rw[rH (by intro z;rw[h1] at z;exact e<|Sum.inr.inj z)];exact ih
theorem agv (nm:Str)(h:Paired (rW H) kvs ls):(kvs.any λkv=>decide<|kv.1=.inr nm)=ls.any λx=>decide (x.1=nm):=by
 induction h with
 |nil=>rfl
 |cons h _ ih=>rw[any_cons,any_cons,ih,h.1];congr 1;exact decide_eq_decide.mpr EY
theorem Yj {nm:Str}(ht:H t=some (.tup [.int q.1,.int q.2.1,.int q.2.2.1,.int q.2.2.2]))(h:Paired (rW H) kvs ls):
  Paired (rW H) (putK kvs (.inr nm)<|.ref t) (fJ nm q ls):=by
 unfold putK fJ;rw[agv nm h];split
 .rename_i c;clear c;induction h with
  |nil=>exact .nil
  | @cons a b _ _ h _ ih=>
   rw[map_cons,map_cons];refine .cons ?_ ih;by_cases e:b.1=nm
   .rw[if_pos<|by rw[h.1,e],if_pos e];exact⟨h.1,t,rfl,ht⟩
   .rw[if_neg (by intro z;rw[h.1] at z;exact e<|Sum.inr.inj z),if_neg e];exact h
 .rename_i c;clear c;induction h with
  |nil=>exact .cons ⟨rfl,t,rfl,ht⟩ .nil
  |cons h _ ih=>exact .cons h ih
theorem adY {nm:Str}(h:Paired (rW H) kvs ls):Paired (rW H) (sS kvs<|.inr nm) (Kg nm ls):=by
 unfold sS Kg;induction h with
 |nil=>exact .nil
 | @cons a b _ _ h _ ih=>
  rw[filter_cons,filter_cons];by_cases e:b.1=nm
  .rw[if_neg (by rw[h.1,e];simp),if_neg<|by simp[e]];exact ih
  .have ne:a.1≠Sum.inr nm:=λz=>by rw[h.1] at z;exact e (Sum.inr.inj z)
   rw[if_pos<|decide_eq_true ne,if_pos<|by simp[e]];exact .cons h ih
theorem GF (nm:Str)(v:Int)(nums:List (Str×Int)):putK (nums.map gQ) (.inr nm) (.int v)=(fJ nm v nums).map gQ:=by
 unfold putK fJ;have ea:((nums.map gQ).any λkv=>decide<|kv.1=.inr nm)=nums.any λx=>decide (x.1=nm):=by rw[any_map];congr 1;funext x;exact decide_eq_decide.mpr EY
 rw[ea];split
 .rw[map_map,map_map];refine map_congr_left λx _=>?_;by_cases e:x.1=nm
  .show(if(gQ x).1=Sum.inr nm then((gQ x).1,V.int v) else gQ x)=gQ (if x.1=nm then(x.1,v) else x);rw[if_pos<|show(gQ x).1=Sum.inr nm from EY.mpr e,if_pos e];rfl
  .show(if(gQ x).1=Sum.inr nm then((gQ x).1,V.int v) else gQ x)=gQ (if x.1=nm then(x.1,v) else x);rw[if_neg<|show ¬(gQ x).1=Sum.inr nm from λz=>e<|EY.mp z,if_neg e]
 .rw[map_append];rfl
def fK (nn ll:Addr)(H H':Hp):Prop:=∀b o,b≠nn->b≠ll->H b=some o->H' b=some o
theorem fK.same (h:Same H H'):fK nn ll H H':=λb o _ _ e=>h b o e
theorem fK.trans (a:fK nn ll H H')(b:fK nn ll H' DN):fK nn ll H DN:=λc o h1 h2 e=>b c o h1 h2<|a c o h1 h2 e
section
variable {kvs kvs':List (Key×V)}
theorem Ov (h:H a=some (.dK ks)):∀t xs,H t=some (.tup xs)->upd H a o t=some (.tup xs):=λt xs e=>by rw[ak λz=>by subst z;rw[h] at e;cases e];exact e
theorem aW.put (h:aW H C p dx nn ll nums ls)(hk:H ll=some (.dK kvs))(hl:Paired (rW H) kvs' ls'):aW (upd H ll<|.dK kvs') C p dx nn ll nums ls':=by
 refine⟨?_,?_,⟨kvs',ao,hl.mono λ_ _ z=>z.same<|Ov hk⟩,h.ne⟩
 .rw[ak λz=>by have:=h.ins;rw[z,hk] at this;cases this];exact h.ins
 .rw[ak h.ne];exact h.num
theorem fK.put (hk:H ll=some (.dK kvs)):fK nn ll H (upd H ll<|.dK kvs'):=λb o _ h2 e=>by rw[ak h2];exact e
theorem aW.akU (h:aW H C p dx nn ll nums ls):aW (upd H nn<|.dK<|Fd.map gQ) C p dx nn ll Fd ls:=by
 obtain⟨kvs,hk,hl⟩:=h.laid;refine⟨?_,ao,⟨kvs,?_,hl.mono λ_ _ z=>z.same<|Ov h.num⟩,h.ne⟩
 .rw[ak λz=>by have:=h.ins;rw[z,h.num] at this;cases this];exact h.ins
 .rw[ak h.ne.symm];exact hk
theorem fK.num:fK nn ll H (upd H nn<|.dK ks):=λb o h1 _ e=>by rw[ak h1];exact e
end
structure Cl (K:Frag)(C:Addr):Prop where
 cl:Cls K C
 n1:nC K C "numbers"
 n2:nC K C "laid"
theorem fL {K:Frag}{fs:List (Str×V)}(e:σ[i]? =some (some<|.ref p))(h:H p=some (.ins C dx fs))(c:Cls K C)(n:nC K C f)(l:fs.lookup f=some v)(q:Q v H):
  Tt K (vR i) f σ H Q:=aD e ⟨p,C,dx,fs,v,rfl,h,c,n,l,q⟩
theorem tD {K:Frag}(e:σ[i]? =some (some<|.ref t))(h:H t=some (.tup xs))(a:bW xs j=some v)(q:Q v H):gR (qI K) (vR i) (tC<|.int j) σ H Q:=
 aD e ⟨xs,v,bB.of h,a,q⟩
theorem op1:gR (rM g) ta (tC<|.int j) σ H Q=ta σ H λx H1=>rM g x (.int j) H1 Q:=rfl
theorem acK (h:∀R:VK,R (.int x) H->ta σ H R)(e:σ[i]? =some (some<|.int y))(q:Q (g x y) H):gR (rM g) ta (vR i) σ H Q:=h _<|aD e q
section
variable {K:Frag}
def Fe (C:Addr):Sp:=λvs H Q _=>∃p dx nn ll nums ls nm q,vs=[.ref p,.str nm]/\aW H C p dx nn ll nums ls/\bF nm ls=some q/\Q .non H
theorem RV:bM ["self","name"] ["self","name"] (aN<|dH 5):=fs
theorem adZ {f:Addr}{fd:FuncData}(F:bJ K "look_for" "NamedHall.look_for" (dH 5) f fd)(c:Cl K C):aX P w K mg base bO 1 f fd ["self","name"] (Fe C):=by have vt:=RV.vt;refine bJ.ok F RV (λvs H Q E h=>by obtain⟨_,_,_,_,_,_,_,_,rfl,_⟩:=h;rfl) λcdv A outer s H vs Q E hr hsp=>?_;obtain⟨p,dx,nn,ll,nums,ls,nm,q,rfl,hh,hg,hq⟩:=hsp;refine⟨_,aP<|dD (Ku<|Ir (jl hr) (pV vt 1)<|fj (pV vt 0) rfl) (aP j6) cg,?_⟩;obtain⟨kvs,hk,hl⟩:=hh.laid;have g:=uR nm hl;rw[hg] at g;obtain⟨t,gv,gt⟩:=g;unfold jo tB Gu;refine aD rfl<|fL rfl hh.ins c.cl c.n2 rfl ⟨ll,_,rfl,gY.k (k:=.inr nm) hk,_,rfl,?_⟩;rw[gv];exact hq
def Ve (C:Addr):Sp:=λvs H Q _=>∃p dx nn ll nums ls nm q ch,vs=[.ref p,.str nm,.int ch]/\aW H C p dx nn ll nums ls/\bF nm ls=some q/\ls.length<100/\
 ∀H',aW H' C p dx nn ll nums (fJ nm (q.1,q.2.1,q.2.2.1+ch,q.2.2.2) ls)->fK nn ll H H'->Q .non H'
theorem Ow:bM ["self","name","change","passage"] ["self","name","change"] (aN<|dH 6):=fs
theorem agw {f:Addr}{fd:FuncData}(F:bJ K "change_width" "NamedHall.change_width" (dH 6) f fd)(c:Cl K C):aX P w K mg base bO 1 f fd ["self","name","change"] (Ve C):=by
 have nd:=Ow.nd;have vt:=Ow.vt;refine bJ.ok F Ow (λvs H Q E h=>by obtain⟨_,_,_,_,_,_,_,_,_,rfl,_⟩:=h;rfl) λcdv A outer s H vs Q E hr hsp=>?_;obtain⟨p,dx,nn,ll,nums,ls,nm,q,ch,rfl,hh,hg,hn,hq⟩:=hsp;refine⟨_,aH (dX (i:=3) nd rfl lx (qU (jl hr) (fj (pV vt 0) rfl) (pV vt 1) (λ_ _=>rfl)))
  (aP (uK (jl hr) (fj (pV vt 0) rfl) (pV vt 1) (jM (aj (bh cN (pV vt 3) aJ) (aj (bh cN (pV vt 3) aJ) (aj (iW tL (bh cN (pV vt 3) aJ) (pV vt 2)) (aj (bh cN (pV vt 3) aJ) aO))))) rfl)),?_⟩
 obtain⟨kvs,hk,hl⟩:=hh.laid;have g:=uR nm hl;rw[hg] at g;obtain⟨t,gv,gt⟩:=g;have hkl:=hl.length;unfold jm eZ Ka cC wA vq bV;refine fL rfl hh.ins c.cl c.n2 rfl (aD rfl ⟨ll,.ref t,rfl,by rw[<-gv];exact gY.k (k:=.inr nm) hk,?_⟩);dsimp only;refine tD rfl gt rfl (tD rfl gt rfl (acK (λR r=>tD rfl gt rfl r) rfl (tD rfl gt rfl ⟨by show 4<=sizeLine;decide,λt' ht'=>?_⟩)));have hne:=aU hk ht';have same:=aF (o:=.tup [.int q.1,.int q.2.1,.int<|q.2.2.1+ch,.int q.2.2.2]) ht';have hh1:=hh.grow same;have hk1:=same _ _ hk;refine fL rfl hh1.ins c.cl c.n2 rfl (aD rfl ⟨ll,_,rfl,rJ.k (k:=.inr nm) hk1<|aY<|by omega,?_⟩);refine hq _ (hh1.put hk1<|Yj ao<|hl.mono λ_ _ z=>z.same λu xs e=>same _ _ e)<|(fK.same same).trans<|fK.put hk1
def Ox (C:Addr):Sp:=λvs H Q _=>∃p dx nn ll nums ls nm q,vs=[.ref p,.str nm]/\aW H C p dx nn ll nums ls/\bF nm ls=some q/\∀H',aW H' C p dx nn ll nums (Kg nm ls)->fK nn ll H H'->Q .non H'
theorem RZ:bM ["self","name"] ["self","name"] (aN<|dH 2):=fs
theorem ad0 {f:Addr}{fd:FuncData}(F:bJ K "shut" "NamedHall.shut" (dH 2) f fd)(c:Cl K C)(F5:aX P w K mg base bO 1 f5 Yk ["self","name"] (Fe C))(m5:Meth K C "look_for" f5)(b5:Binds K Yk ["self","name"] []):
  aX P w K mg base bO 2 f fd ["self","name"] (Ox C):=by
 have vt:=RZ.vt;refine bJ.ok F RZ (λvs H Q E h=>by obtain⟨_,_,_,_,_,_,_,_,rfl,_⟩:=h;rfl) λcdv A outer s H vs Q E hr hsp=>?_;obtain⟨p,dx,nn,ll,nums,ls,nm,q,rfl,hh,hg,hq⟩:=hsp;refine⟨_,aH (cL<|gH (pV vt 0) c.cl m5 F5 hr b5 .nil gW<|aj (pV vt 1) aO)<|aP<|cL<|aac (fj (pV vt 0) rfl) (pV vt 1) ⟨rfl,rfl,rfl,rfl⟩,?_⟩;obtain⟨kvs,hk,hl⟩:=hh.laid;have g:=uR nm hl;rw[hg] at g;obtain⟨t,gv,gt⟩:=g;unfold jm gq jH Xu bV dI;refine aD rfl ⟨p,dx,_,rfl,hh.ins,rfl,aD rfl ⟨p,dx,nn,ll,nums,ls,nm,q,rfl,hh,hg,?_⟩⟩;dsimp only;refine fL rfl hh.ins c.cl c.n2 rfl ⟨ll,rfl,.inl ⟨_,.inl hk⟩,aD rfl ⟨kvs,.inr nm,.ref t,hk,rfl,gv,?_⟩⟩;exact hq _ (hh.put hk<|adY hl)<|fK.put hk
def GJ (C:Addr):Sp:=λvs H Q _=>∃p dx nn ll nums ls nm q ch,vs=[.ref p,.str nm,.int ch]/\aW H C p dx nn ll nums ls/\bF nm ls=some q/\1<=ch/\ls.length<100/\
 ∀H',aW H' C p dx nn ll nums (fJ nm (q.1,q.2.1,q.2.2.1+ch,q.2.2.2) ls)->fK nn ll H H'->Q .non H'
theorem Oz:bM ["self","name","more"] ["self","name","more"] (aN<|dH 3):=fs
theorem aaJ (F:bJ K "widen" "NamedHall.widen" (dH 3) f fd)(c:Cl K C)(F5:aX P w K mg base bO 1 f5 Yk ["self","name"] (Fe C))(m5:Meth K C "look_for" f5)(b5:Binds K Yk ["self","name"] [])
  (F6:aX P w K mg base bO 1 f6 fd6 ["self","name","change"] (Ve C))(m6:Meth K C "change_width" f6)(b6:Binds K fd6 ["self","name","change"] []):
  aX P w K mg base bO 2 f fd ["self","name","more"] (GJ C):=by
 have vt:=Oz.vt;refine bJ.ok F Oz (λvs H Q E h=>by obtain⟨_,_,_,_,_,_,_,_,_,rfl,_⟩:=h;rfl) λcdv A outer s H vs Q E hr hsp=>?_;obtain⟨p,dx,nn,ll,nums,ls,nm,q,ch,rfl,hh,hg,h1,hn,hq⟩:=hsp;refine⟨_,aH (cL (gH (pV vt 0) c.cl m5 F5 hr b5 .nil gW (aj (pV vt 1) aO))) (aH (dD (jY oLt (pV vt 2) aJ) (aP j6) cg)
  (aP (cL (gH (pV vt 0) c.cl m6 F6 hr b6 .nil gW (aj (pV vt 1) (aj (pV vt 2) aO)))))),?_⟩
 unfold jm gq jH bV dI;refine aD rfl ⟨p,dx,_,rfl,hh.ins,rfl,aD rfl ⟨p,dx,nn,ll,nums,ls,nm,q,rfl,hh,hg,?_⟩⟩;dsimp only;unfold jo mU;rw[op1];refine aD rfl ?_;show(if decide (ch<1)=true then _ else _);rw[if_neg (by simp;omega)];unfold jk;dsimp only;refine aD rfl ⟨p,dx,_,rfl,hh.ins,rfl,aD rfl<|aD rfl ⟨p,dx,nn,ll,nums,ls,nm,q,ch,rfl,hh,hg,hn,λH' h1 h2=>?_⟩⟩;exact hq H' h1 h2
end
end lW
local macro_rules | `(tactic| walk_at "e2")=>do
 let a<-("L2.start map_cons map_nil length_cons length_nil replicate cons_append nil_append Nat.reduceAdd Nat.reduceSub append_nil jm jk eZ cC vR tC gR tUn rM yq rUM mU jo Zb VN Kv T6 ajZ abG T7 mC ahE gq bV dI vq KJ pJ T8 Ua yr iJ V0 ZJ T5 sE afk sG qI getElem?_cons_zero getElem?_cons_succ set_cons_zero set_cons_succ iy TY Tc qG J3 pN Ab BZ zY ur tSl JZ Gd aeX ajW cD false_eq_true afo afp uq zZ".splitOn " ").toArray.mapM λs=>`(Lean.Parser.Tactic.simpLemma| $(Lean.mkIdent s.toName):ident)
 `(tactic| try simp only[$a,*,↓reduceIte])
namespace lW
open L2 VM
seal L2.PE L2.PT L2.PW L2.PA L2.PS L2.iG L2.PG L2.qu L2.PI L2.nD L2.PO L2.cA L2.Hq L2.dg L2.qx L2.Hv L2.xV L2.xW VM.gU VM.CallD
theorem mN {X:Cx}{e:Expr}{i:Nat}(h:PE X e (vR i)):PE X e (tV X.K RW<|vN i):=mw<|dN h
theorem nL {X:Cx}{es:List Expr}{fs:VA}{pos:Pos}(h:PA X es (yH X.K fs)):PE X (.List es pos) (tV X.K RW<|fY fs):=nw<|ZP h
section
variable {X:Cx}{tg iter elt:Expr}{ifs:List Expr}{scope sc:Scope}{N:List Str}{pos:Pos}{cap:List (Option Nat)}
noncomputable def tgF (N:List Str):Expr->Bool|.Name x _=>N.head? ==some x|.Tuple (e::_) _ _=>tgF N e|_=>false
theorem zx {wi:TI}{g:TG}{tc:TT}{te:TE}(_:N.all (λx=>tK sc x && plain x)=true)(N':List Str)(hit:PI X tg iter wi)(hg:∀cl C s₀ H₀ ex,PG (fM X scope N' cl C s₀ H₀ ex) tg g)(hi:∀cl C s₀ H₀ ex,nD (fM X scope N' cl C s₀ H₀ ex) ifs tc)(he:∀cl C s₀ H₀ ex,PE (fM X scope N' cl C s₀ H₀ ex) elt te)
  (hB:qy N sc scope N' cap=true:=by decide +kernel)(hN:X.N=N:=by rfl)(hc:X.env.scope=sc:=by rfl)(hm:X.calm=true:=by rfl)(hs:∀x,foldedSetIterable iter X.env x=pure x:=by intro _;rfl)(_:tgF N' tg=true:=by rfl):PE X (.ListComp elt [⟨tg,iter,ifs,0⟩] scope pos) (ur wi cap g tc te):=DG _ _ hm hB hN hc hit hg hi he hs
theorem sLC {ypos spos:Pos}{fi:VA}{i k:Nat}{y:Str}{fc:VT}{fe:VE}(_:N.all (λx=>tK sc x && plain x)=true)(hd:X.N.Nodup)(hiy:X.N[i]? =some y)(hy:Loc X.env.scope y)(N':List Str)(hit:PI X tg iter (xu X.K fi))(hg:∀cl C s₀ H₀ ex,PG (fM X scope N' cl C s₀ H₀ ex) tg (yL X.K (gN k) [k]))(hi:∀cl C s₀ H₀ ex,nD (fM X scope N' cl C s₀ H₀ ex) ifs (ji X.K fc))(he:∀cl C s₀ H₀ ex,PE (fM X scope N' cl C s₀ H₀ ex) elt (tV X.K RS fe))
  (hB:qy N sc scope N' cap=true:=by decide +kernel)(hN:X.N=N:=by rfl)(hc:X.env.scope=sc:=by rfl)(hm:X.calm=true:=by rfl)(hk:([k].all λj=>cap[j]? ==some none)=true:=by rfl)(hsw:swapsWith (.ListComp elt [⟨tg,iter,ifs,0⟩] scope pos) (some<|.Name y ypos) spos.line X.env=pure true:=by rfl)
  (hs:∀x,foldedSetIterable iter X.env x=pure x:=by intro _;rfl)(hf:X.fn y=true\/X.env.scope.names.lookup y=some .local:=by first|exact .inl rfl|exact .inr rfl):PS X (.Assign [.Name y ypos] (.ListComp elt [⟨tg,iter,ifs,0⟩] scope pos) spos) (iH X.K<|Cq i<|jZ fi cap (gN k) fc fe):=akt<|ZW (vG hd hiy hy _ _ hm hB hN hc hit hg hi he hsw hs hf) λ_ _ _ q=>afC hk q
theorem dGl {x:Str}{n:Int}{tk:Tok}(h:X.mg x=some (.int n tk))(hg:Gl X x)(hd:(x==("__debug__":Str))=false:=by decide):PE X (.Name x pos) (tV X.K RS<|vC<|.int n):=dC (oG (v:=.int n) hg h ⟨_,rfl⟩ hd) λ_=>rfl
end
section
variable {P:Program}{w:World}{K:Frag}{mg:Str->Option Value}{base:Heap}
theorem j5 (N:List Str)(F:bJ K x qual st f fd)(hb:∀(cdv:Value) (A:Around) (outer:List Env) (s:Shared) (H:Hp) (E:XK),N.Nodup->N.all (λx=>tK (aN st) x && plain x)=true->dh k (A.deeper<|PyProof.Rows.envOfC qual (aN st) s.heap.objs.size f cdv)->iG (qe bO P w K mg base N qual (aN st) f cdv A outer s H E).Ds (dj st) (iH K g))
  (S:bM N ps (aN st):=by exact fs)(vt:N.all (λx=>tK (aN st) x && plain x)=true:=by decide +kernel)(hn:ps.length=n:=by rfl)(hN:N.length=nN:=by rfl):aX P w K mg base bO (k+1) f fd ps (bQ K<|g8 n nN g):=fnV F S hn hN λa b c d e i=>hb a b c d e i S.nd vt
end
open PyProof.Rows (boot_isinstance boot_abs boot_min boot_sum boot_all boot_int boot_bool boot_list boot_tuple)
local macro_rules | `(tactic| walk_at "d")=>do
 let f:=fun (a : List (Lean.TSyntax `tactic)) (z : Lean.TSyntax `tactic)=>a.foldrM (fun x y=>`(tactic| first | $x:tactic | $y:tactic)) z;let g ← ("PE:pV vt _,uw ? _,mN ?,dN ?,dF ?,jg,uD ? ?,tQ ?,eG ! hr.mo ? ?,xq oMod hMod ? ?,xq tL hAdd ? ?,xq oDiv hDiv ? ?,xq ajX hPow ? ?,xq Lk hMul ? ?,xq Gm hSub ? ?,xq ajY hXor ? ?,xq Tn ah9 ? ?,cO ? ? B.len PySem.boot_len ?,cO Lz ? B.isinstance boot_isinstance ?,cO cAbs ? B.abs boot_abs ?,cO ? ? B.min boot_min ?,cO ? ? B.sum boot_sum ?,cO ? ? akV boot_all ?,Bh ? hLen,Bh ? aia,Bh ? akf,Bh ? ahR,Bh ? akg,Bh ? afx,Bh ? akL,dTup ?,ZP ?,abL,ahP,aj5 ?,ake ?,akc ?,aj9 ? ?,aks ? ?,afs ? hEq ? ?,afs oLt hLt ? ?,ahT ?,ahS ?,mQ ? B.int boot_int rfl,mQ ? B.bool boot_bool rfl,mQ ? B.list boot_list rfl,mQ ? B.tuple boot_tuple rfl,yK KT.int ?,yK KT.bool ?,yK KT.list ?,yK KT.tuple ?,akb ?,'dLC,'aki,dCat ? ?,akI ? ? ?,akH ? ?,ady ?,jE J2 ? B.list boot_list ?,dIf ? ? ?,dCh Jj agg Jj agg ? ? ?,dGl ! gx,Aa ? ?,nL ?,ns ?,sw ?,sm ?,nm ?,nw ?,zx vt [move;left] ? ? ? ?,zx vt [room] ? ? ? ?,zx vt [number;left] ? ? ? ?,zx vt [number;passages] ? ? ? ?,zx vt [known;late] ? ? ? ?,zx vt [walk;number;turns;passages] ? ? ? ?,zx vt [sign] ? ? ? ?,zx vt [_law_j;_law_base;_law_letters;_law_at] ? ? ? ?,zx vt [_law_row] ? ? ? ?,zx vt [_law_row;_law_name] ? ? ? ?,zx vt [_law_moment] ? ? ? ?|PT:nF ? hEq ? ?,nF ? hNe ? ?,nF oLt hLt ? ?,nF Wu hGt ? ?,nF oLe hLe ? ?,nF afh hIs ? ?,nF ahM aj6 ? ?,nF yg akG ? ?,nF ? akP ? ?,cCh oLe hLe oLe hLe ? ? ?,yG ?,aj8 ?,cVal ?,PW.pt ?|PW:ahQ ?,aj7 ? ?,Ud ?,HY ? ?|PA:yI,mV ? ?,pw0,pwC ? ?,aO,aj ? ?,io0,ioS ? ?,ioJ ? ?|iG:akk ?,akl ? ?,akj|PS:'sAs,nq ? ?,sIf ? ? ?,akm ?,ahW ?,ahV ?,sOw ?,dX nd rfl lx ?,cL ?,akn ?,ako ?,iV PassesOwn.never rfl ? ? ?,'akq,Zf PassesOwn.never ? ?,sWh ?,ahO nd rfl lx jg afn,akp hAdd ?,ahZ ?,ah0 ?,afD,abZ hSub ?,abZ hAdd ?,Qx ? ? getL ? aj3 Ln,Qx ? ? getL ? afn Ln,sLC vt nd rfl lx [_law_row] ? ? ? ?,sLC vt nd rfl lx [_law_row;_law_name] ? ? ? ?|PG:cj nd rfl lx,tgN ?,Bf ? ?,Ky ? ? Ln,'tgT|qu:tg0,'tgC|PI:itL ?,itS ?,ae7 ? B.zip ?,itZ ?,QD ? B.enumerate ?,itE ?,Ho ? B.range ?,akh ?|nD:ifN,QF ?|PO:poN,poI ?|cA:Lh hr.units,yj hr.units,agm hr.units|dg:T9,K4,Wa rfl,aj1 rfl,afm rfl,akK rfl|Gl:gx,glC ?".splitOn "|").mapM fun q=>do
  let p:=q.splitOn ":";let a ← (p[1]!.splitOn ",").mapM fun s=>do
   let w:=s.splitOn " ";let x ← w.tail!.toArray.mapM fun y=>if y == "?" then `(?_) else if y == "_" then `(_) else if y == "!" then `((by assumption)) else if y.startsWith "[" then let z : Array (Lean.TSyntax `term):=(((y.drop 1).dropEnd 1).toString.splitOn ";").toArray.map Lean.quote; `([$z,*]) else pure (Lean.mkIdent y.toName)
   if s.startsWith "'" then `(tactic| apply $(Lean.mkIdent (w.head!.drop 1).toString.toName)) else `(tactic| refine $(Lean.mkIdent w.head!.toName) $x*)
  `(tactic| (show $(Lean.mkIdent p[0]!.toName) ..; $(← f a (← `(tactic| fail)))))
 `(tactic| repeat' $(← f g (← `(tactic| first | rfl | decide +kernel | intro _))):tactic)
theorem GK (F:bJ K "left_behind" "left_behind" (top 11) f fd)(B:Bl mg)(KT:dJ K) :aX P w K mg base bO 1 f fd ["passages","flow"] (bQ K Pg.dR):=j5 ["passages","flow","left","passage","number"] F λ_ _ _ _ _ _ nd vt hr=>by walk_at "d"
theorem OD (F:bJ K "is_nearer" "is_nearer" (top 15) f fd)(B:Bl mg)(KT:dJ K) :aX P w K mg base bO 1 f fd ["length","count","known"] (bQ K Pg.jT):=j5 ["length","count","known"] F λ_ _ _ _ _ _ nd vt hr=>by walk_at "d"
theorem aaK (F:bJ K "reach" "reach" (top 14) f fd)(B:Bl mg)(KT:dJ K)(Fg:cZ P w K mg base 1 "is_nearer" ["length","count","known"] (bQ K Pg.jT)):aX P w K mg base bO 2 f fd ["moves","left","start"] (bQ K Pg.mY):=j5 ["moves","left","start","reached","waiting","queue","place","room","length","count","move","end","added"] F λ_ _ _ _ _ _ nd vt hr=>by walk_at "d"
theorem GP:bM ["left","way","pushed","move"] ["left","way"] (aN<|top 17):=fs
theorem ad1 (F:bJ K "push" "push" (top 17) f fd)(B:Bl mg)(KT:dJ K) :aX P w K mg base bO 1 f fd ["left","way"] (vY K Pg.rO):=by have nd:=GP.nd;have vt:=GP.vt;refine ab1 (lv:=0) (n:=2) (nN:=4) (k:=0) (g:=Pg.Nv) F GP rfl rfl λcdv A outer s H E hr=>?_;walk_at "d"
theorem Yl (F:bJ K "way_to" "way_to" (top 16) f fd)(B:Bl mg)(KT:dJ K) :aX P w K mg base bO 1 f fd ["reached","start","goal"] (bQ K Pg.mH):=j5 ["reached","start","goal","way","room"] F λ_ _ _ _ _ _ nd vt hr=>by walk_at "d"
theorem tY:bM ["moves","left","start","goal","longest","steps","reached","length","pushed"] ["moves","left","start","goal","longest"] (aN<|top 13):=fs
theorem Qn (F:bJ K "push_all" "push_all" (top 13) f fd)(B:Bl mg)(KT:dJ K)(Fj:cZ P w K mg base 2 "reach" ["moves","left","start"] (bQ K Pg.mY))(acL:cZ P w K mg base 1 "push" ["left","way"] (vY K Pg.rO))(R0:cZ P w K mg base 1 "way_to" ["reached","start","goal"] (bQ K Pg.mH)):aX P w K mg base bO 3 f fd ["moves","left","start","goal","longest"] (vY K Pg.lD):=by have nd:=tY.nd;have vt:=tY.vt;refine ab1 (lv:=2) (n:=5) (nN:=9) (k:=1) (g:=Pg.wH) F tY rfl rfl λcdv A outer s H E hr=>?_;walk_at "d"
theorem tZ:bM ["many","passages","moves","number","passage","a","b","length"] ["many","passages"] (aN<|top 12):=fs
theorem Qo (F:bJ K "moves_of" "moves_of" (top 12) f fd)(B:Bl mg)(KT:dJ K):aX P w K mg base bO 1 f fd ["many","passages"] (bQ K fG):=by
 have nd:=tZ.nd;have vt:=tZ.vt;refine F.ok tZ (λvs H Q E h=>?_)<|λcdv A outer s H vs Q E hr h=>?_
 .obtain⟨G,ds,_,hx,b,d,e,_⟩:=h;unfold fG at e;split at e
  .exact hx.length.symm
  .cases e
 .obtain⟨G,ds,Ym,hx,b,d,e,q⟩:=h;unfold fG at e;split at e
  .rename_i m pds;split at e
   .rename_i ps eps;split at e
    .rename_i hc;obtain⟨m0,m1,pl,hr3⟩:=hc;cases e;have epd:=Iw eps;subst epd;obtain⟨v,u,rfl,hv,pa,xs,rfl,hq,hl⟩:=aG.two hx;have ev:v=.int m:=hv;subst ev;refine⟨_,(aH (vG (i:=2) nd rfl lx (N':=["room"]) (cap:=[none]) ["many","passages","moves","number","passage","a","b","length"] (aN<|top 12) rfl (by decide +kernel) rfl rfl (Ho gx B.range<|aj (pV vt 0) aO) (λ_ _ _ _ _=>(Bf (i:=0) (show(["room"]:List Str).Nodup by decide +kernel) (by decide +kernel))) (λ_ _ _ _ _=>zX) (λ_ _ _ _ _=>(yd aO))) (aH (iV PassesOwn.never rfl (QD gx B.enumerate<|aj (pV vt 1) aO) (sH (n:=2) rfl<|fW (cj (i:=3) nd rfl lx)<|fW (cj (i:=4) nd rfl lx) pO)<|aH (dX (i:=5) nd rfl lx<|bh ixD (pV vt 4) aJ)<|aH (dX (i:=6) nd rfl lx<|bh ixD (pV vt 4) aJ)<|aH (dX (i:=7) nd rfl lx<|bh ixD (pV vt 4) aJ)<|aH (cL<|Aa (bh pL (pV vt 2)<|pV vt 5)<|aj (jM<|aj (iW Lk aJ<|pV vt 3)<|aj (pV vt 6)<|aj (pV vt 7) aO) aO)<|aP<|cL<|Aa (bh pL (pV vt 2)<|pV vt 6)<|aj (jM<|aj (iW tL (iW Lk aJ<|pV vt 3) aJ)<|aj (pV vt 5)<|aj (Tf afi<|pV vt 7) aO) aO)<|aP<|cF<|pV vt 2)),?_⟩;walk_at "e2";refine⟨m,rfl,by omega,by omega,?_⟩;refine lcR (n:=m.toNat) (aY<|by omega) (λi ys G'=>∃bs:List Addr,ys=bs.map V.ref/\bs.Nodup/\bs.length=i/\(∀b∈bs,H b=none/\G' b=some (.lst []))/\∀a o,G' a=some o->H a=some o\/a∈bs) ⟨[],rfl,nodup_nil,rfl,by simp,λ_ _ h=>.inl h⟩ ?_ ?_
     .rintro D i ys H' N hi hD Jm hlen hsame ⟨bs,rfl,hnd,hbl,hbs,hold⟩ hN;walk_at "e2";refine⟨.skip .nil,by decide,λp hp=>?_⟩;have hpD:p≠D:=(aU hD hp).symm;refine hN _ _ (by rw[ak hpD.symm];exact hD) (ux<|aF hp) ⟨bs++[p],by simp,?_,by simp[hbl],λb hb=>?_,λa o ha=>?_⟩
      .rw[nodup_append];refine⟨hnd,by simp,λa ha c hc=>?_⟩;have hc':c=p:=by simpa using hc
       subst hc';intro z;subst z;have:=(hbs a ha).2;rw[hide_ne hpD] at this;rw[hp] at this;cases this
      .rcases mem_append.mp hb with hb|hb
       .refine⟨(hbs b hb).1,ux (aF hp) _ _ (hbs b hb).2⟩
       .have hb':b=p:=by simpa using hb
        subst hb';refine⟨?_,by rw[hide_ne hpD,ao]⟩
        have:Same H H':=hsame.trans j7
        exact this.free hp
      .by_cases hap:a=p
       .subst hap;exact .inr<|by simp
       .by_cases haD:a=D
        .subst haD;rw[Ac] at ha;cases ha
        .rw[hide_ne haD,ak hap] at ha;rcases hold a o (by rw[hide_ne haD];exact ha) with z|z
         .exact .inl z
         .exact .inr<|mem_append_left _ z
     .rintro D ys H1 hD Jm hlen hsame ⟨bs,rfl,hnd,hbl,hbs,hold⟩;have akW:D∉bs:=λz=>by have:=(hbs D z).2;rw[Ac] at this;cases this
      have I0:MI K G H D bs (λ_=>[]) H1:=⟨G,hsame.trans j7,Same.refl _,Ym.trans (hsame.trans j7),λ_ _ e=>.inl e,Ym.free Jm,Jm,hD,akW,hnd,λb hb=>⟨Ym.free (hbs b hb).1,(hbs b hb).1⟩,λu b hb=>⟨[],by
       have:=(hbs b (mem_of_getElem? hb)).2;exact j7 _ _ this,rfl⟩⟩
      walk_at "e2";have uy:aR K H1 pa xs:=(hsame.trans j7).seq<|Ym.seq hq;refine⟨pa,rfl,⟨xs,uy⟩,?_⟩;have hpl:ps.length=xs.length:=by rw[<-hl.length,length_map]
      refine aj4 (xs:=xs) (λi σ' H'=>MI K G H D bs (λu=>lN 0 (ps.take i) (u:Int)) H'/\∃v3 v4 v5 v6 v7,σ'=[some<|.int m,some<|.ref pa,some<|.ref D,v3,v4,v5,v6,v7]) ⟨I0.congr λu _=>by simp[lN],none,none,none,none,none,rfl⟩ ?_ ?_ ?_
      .rintro i σ' H' _ ⟨I,_⟩;obtain⟨F',h1,_⟩:=I.ex;exact h1.seq<|Ym.seq hq
      .rintro i x σ' H' p hxi ⟨I,v3,v4,v5,v6,v7,rfl⟩ hp;walk_at "e2";obtain⟨dd,hd,hxv⟩:=hl.get hxi;rw[getElem?_map] at hd;cases eq:ps[i]? with
       |none=>rw[eq] at hd;cases hd
       |some qq=>
        rw[eq] at hd;cases hd;obtain⟨qa,qb,qw,ql⟩:=qq;obtain⟨⟨a0,a1⟩,b0,b1⟩:=hr3 _<|mem_of_getElem? eq;dsimp only at a0 a1 b0 b1;have hi:i<ps.length:=by
         by_cases z:i<ps.length
         .exact z
         .rw[getElem?_eq_none<|by omega] at eq;cases eq
        have I1:MI K G H D bs (λu=>lN 0 (ps.take i) (u:Int)) (upd H' p<|.tup [.int (i:Int),x]):=by
         obtain⟨F',h1,h2,h3,h4,h5,h6,h7,h8,h9,h10,h11⟩:=I.ex;exact⟨F',h1.trans (aF hp),h2,h3.trans (aF hp),h4,h5,h6,aF hp _ _ h7,h8,h9,h10,λu b hb=>by
          obtain⟨ys,q1,q2⟩:=h11 u b hb;exact⟨ys,aF hp _ _ q1,q2⟩⟩
        obtain⟨F',h1,h2,h3,h4,h5,h6,h7,h8,h9,h10,h11⟩:=I1.ex;have hxH:Has K (upd H' p<|.tup [.int (i:Int),x]) (pD (qa,qb,qw,ql)) x:=Has.same (h2.trans h3) hxv;refine⟨_,bB.of ao,rfl,?_⟩;walk_at "e2";refine⟨_,qa,.inr hxH,rfl,_,qb,.inr hxH,rfl,_,ql,.inr hxH,rfl,?_⟩;have ea:bs[qa.toNat]? =some (bs[qa.toNat]'(by omega)):=getElem?_eq_getElem _;have eb:bs[qb.toNat]? =some (bs[qb.toNat]'(by omega)):=getElem?_eq_getElem _;generalize bs[qa.toNat]'(by omega)=ba at ea;generalize bs[qb.toNat]'(by omega)=bb at eb;have aA:bW (bs.map V.ref) qa=some (.ref ba):=by
         have:qa=((qa.toNat:Nat):Int):=by omega
         rw[this];exact dY (by rw[getElem?_map,ea];rfl)
        have aB:bW (bs.map V.ref) qb=some (.ref bb):=by
         have:qb=((qb.toNat:Nat):Int):=by omega
         rw[this];exact dY (by rw[getElem?_map,eb];rfl)
        obtain⟨zs,z1,_⟩:=h11 _ _ ea;refine⟨_,_,aR.of h7,aA,.inl ⟨rfl,_,aR.of z1⟩,(BMul.ok ⟨by decide +kernel,by exact yR (by omega) (by omega)⟩),by decide,λp1 hp1=>?_⟩;obtain⟨ys,y1,y2,y3,I2⟩:=I1.put (f':=λu=>lN 0 (ps.take i) (u:Int)++(if u=qa.toNat then [sV (2*i) qb ql] else [])) ea hp1 (m:=2*i) (e:=qb) (x:=ql) (by
         intro w;by_cases hw:w=qa.toNat<;>simp[hw])
        have tl:=Cz (qa.toNat:Int) (ps.take i) 0;have tl2:=Cz (qb.toNat:Int) (ps.take i) 0;rw[length_take] at tl tl2;refine⟨ys,y2,aY (by omega),?_⟩;obtain⟨F2,k1,k2,k3,k4,k5,k6,k7,k8,k9,k10,k11⟩:=I2.ex;obtain⟨ws,w1,_⟩:=k11 _ _ eb;refine⟨_,_,aR.of k7,aB,.inl ⟨rfl,_,aR.of w1⟩,(BMul.ok ⟨by decide +kernel,by exact yR (by omega) (by omega)⟩),by decide,λp2 hp2=>?_⟩;obtain⟨ys2,_,y22,y23,I3⟩:=I2.put (f':=λu=>(lN 0 (ps.take i) (u:Int)++(if u=qa.toNat then [sV (2*i) qb ql] else []))++(if u=qb.toNat then [sV (2*i+1) qa (-ql)] else [])) eb hp2 (m:=2*i+1) (e:=qa) (x:=-ql) (by
         intro w;by_cases hw:w=qb.toNat<;>simp[hw])
        refine⟨ys2,y22,aY ?_,I3.congr λu hu=>?_,_,_,_,_,_,rfl⟩
        .rw[y23,length_append]
         have:(if qb.toNat=qa.toNat then [sV (2*i) qb ql] else []).length<=1:=by split<;>simp
         omega
        .have et:ps.take (i+1)=ps.take i++[(qa,qb,qw,ql)]:=by rw[List.take_add_one,eq];rfl
         have ea':(u=qa.toNat)↔(qa=(u:Int)):=by omega
         have eb':(u=qb.toNat)↔(qb=(u:Int)):=by omega
         have el:(List.take i ps).length=i:=by rw[length_take];omega
         rw[et,Iz,el,zero_add];simp only[ea',eb',append_assoc]
      .rintro σ' H' ⟨I,v3,v4,v5,v6,v7,rfl⟩;walk_at "e2";rw[take_of_length_le<|by omega] at I;obtain⟨F',g,hh⟩:=I.fin;refine q _ F' H' g ?_;rw[hbl] at hh;exact hh
    .cases e
   .cases e
  .cases e
theorem OJ (F:bJ K "best_flow" "best_flow" (top 10) f fd)(B:Bl mg)(KT:dJ K)(n6:cZ P w K mg base 1 "left_behind" ["passages","flow"] (bQ K Pg.dR))(Jo:cZ P w K mg base 3 "push_all" ["moves","left","start","goal","longest"] (vY K Pg.lD))(tE:cZ P w K mg base 1 "moves_of" ["many","passages"] (bQ K VM.fG)):aX P w K mg base bO 4 f fd ["many","passages","start","goal","turns"] (bQ K Pg.gA):=j5 ["many","passages","start","goal","turns","left"] F λ_ _ _ _ _ _ nd vt hr=>by walk_at "d"
theorem O1 (F:bJ K "length_of" "length_of" (top 19) f fd)(B:Bl mg)(KT:dJ K) :aX P w K mg base bO 1 f fd ["passages","walk"] (bQ K Pg.lV):=j5 ["passages","walk"] F λ_ _ _ _ _ _ nd vt hr=>by walk_at "d"
theorem JF (F:bJ K "passage_on" "passage_on" (top 22) f fd)(B:Bl mg)(KT:dJ K) :aX P w K mg base bO 1 f fd ["passages","room","left"] (bQ K Pg.gB):=j5 ["passages","room","left","number","passage"] F λ_ _ _ _ _ _ nd vt hr=>by walk_at "d"
theorem JG (F:bJ K "walk_along" "walk_along" (top 21) f fd)(B:Bl mg)(KT:dJ K)(Bv:cZ P w K mg base 1 "passage_on" ["passages","room","left"] (bQ K Pg.gB)):aX P w K mg base bO 2 f fd ["passages","start","goal","left"] (bQ K Pg.fH):=j5 ["passages","start","goal","left","walk","room","number"] F λ_ _ _ _ _ _ nd vt hr=>by walk_at "d"
theorem Qp (F:bJ K "walks_of" "walks_of" (top 20) f fd)(B:Bl mg)(KT:dJ K)(Bw:cZ P w K mg base 2 "walk_along" ["passages","start","goal","left"] (bQ K Pg.fH)):aX P w K mg base bO 3 f fd ["passages","start","goal","flow"] (bQ K Pg.nU):=j5 ["passages","start","goal","flow","left","walks","walk","many","number"] F λ_ _ _ _ _ _ nd vt hr=>by walk_at "d"
theorem JH (F:bJ K "moments_of" "moments_of" (top 25) f fd)(B:Bl mg)(KT:dJ K)(n6:cZ P w K mg base 1 "left_behind" ["passages","flow"] (bQ K Pg.dR))(Fj:cZ P w K mg base 2 "reach" ["moves","left","start"] (bQ K Pg.mY))(tE:cZ P w K mg base 1 "moves_of" ["many","passages"] (bQ K VM.fG)):aX P w K mg base bO 3 f fd ["many","passages","start","goal","turns","flow"] (bQ K Pg.kE):=j5 ["many","passages","start","goal","turns","flow","late","with_late","left","reached"] F λ_ _ _ _ _ _ nd vt hr=>by walk_at "d"
theorem JK (F:bJ K "out_within" "out_within" (top 24) f fd)(B:Bl mg)(KT:dJ K)(Fp:cZ P w K mg base 4 "best_flow" ["many","passages","start","goal","turns"] (bQ K Pg.gA))(Jp:cZ P w K mg base 3 "walks_of" ["passages","start","goal","flow"] (bQ K Pg.nU))(Bx:cZ P w K mg base 3 "moments_of" ["many","passages","start","goal","turns","flow"] (bQ K Pg.kE))(Fq:cZ P w K mg base 1 "length_of" ["passages","walk"] (bQ K Pg.lV)):aX P w K mg base bO 5 f fd ["many","passages","start","goal","turns"] (bQ K Pg.iI):=j5 ["many","passages","start","goal","turns","flow","walks","people"] F λ_ _ _ _ _ _ nd vt hr=>by walk_at "d"
def uT:VS:=(c7 (fX (cR<|vB<|rC xr xr (vC<|.int 1) (cU sZ<|aC (vN 0) a0)<|vC<|.int 12)<|cR<|vB<|cU CK<|aC (jZ (oU<|vN 0) [none] (gN 0) fQ<|rC nY nY (vC<|.str "a") (vN 0)<|vC<|.str "z") a0) DQ cJ)
def iB:f9:=g8 1 1 uT
theorem Fv (F:bJ K "look_at_name" "look_at_name" (top 33) f fd)(B:Bl mg)(KT:dJ K)(akV:mg "all"=none)(aes:mg "LONGEST_NAME"=some (.int 12 tkL)) :aX P w K mg base bO 1 f fd ["name"] (bQ K iB):=j5 ["name"] F λ_ _ _ _ _ _ nd vt hr=>by walk_at "d"
def uU:VS:=(aK (c7 (vB<|v2 sJ (vN 1)<|cU eU<|aC (vN 0) a0) (cP<|v2 aM (vN 0)<|vN 1) cJ)<|cP<|vC<|.int 0)
def bU:f9:=g8 2 2 uU
theorem Fx (F:bJ K "_law_cell_at" "_law_cell_at" (top 35) f fd)(B:Bl mg)(KT:dJ K) :aX P w K mg base bO 1 f fd ["_law_script","_law_k"] (bQ K bU):=j5 ["_law_script","_law_k"] F λ_ _ _ _ _ _ nd vt hr=>by walk_at "d"
def zy:VS:=(aK (c7 (vB<|v2 fZ (v2 cV (vN 0)<|vC<|.int 2)<|vC<|.int 0) (aK (bY (v2 jV (cU Ly<|aC (vN 0) a0)<|vC<|.int 2)<|gN 2)<|aK (lM (vU<|aC (vN 1) a0) (gN 3)<|bY (v2 jV (vN 2)<|v2 yE (vC<|.int 10)<|vC<|.int 12)<|gN 2)<|fU 2) cJ)<|aK (bY (v2 cV (v2 cI (vN 0)<|v2 vO (vC<|.int 7919)<|vN 1)<|vC<|.int 2147483629)<|gN 2)<|aK (bY (v2 cV (v2 cI (v2 cI (v2 vO (vN 2)<|vN 2)<|v2 vO (vC<|.int 16807)<|vN 2)<|vN 1)<|vC<|.int 2147483629)<|gN 2)<|cP<|v2 cV (v2 vO (vN 2)<|vN 2)<|vC<|.int 2147483587)
def bI:f9:=g8 2 4 zy
theorem JL (F:bJ K "_law_mixed" "_law_mixed" (top 36) f fd)(B:Bl mg)(KT:dJ K) :aX P w K mg base bO 1 f fd ["_law_cell","_law_k"] (bQ K bI):=j5 ["_law_cell","_law_k","_law_number","_law_time"] F λ_ _ _ _ _ _ nd vt hr=>by walk_at "d"
def zA:VS:=(cP<|Ck (nG "int" (vN 0))<|Lw<|nG "bool" (vN 0))
def dM:f9:=g8 1 1 zA
theorem JM (F:bJ K "_law_whole" "_law_whole" (top 37) f fd)(B:Bl mg)(KT:dJ K) :aX P w K mg base bO 1 f fd ["_law_found"] (bQ K dM):=j5 ["_law_found"] F λ_ _ _ _ _ _ nd vt hr=>by walk_at "d"
def zB:VS:=(aK (bY (vC<|.str "abcdefghijklmnopqrstuvwxyz")<|gN 3)<|aK (bY (aZ bI<|aC (vF 0)<|aC (vF 2) a0)<|gN 4)<|aK (bY (tX (vN 3) (oI<|v2 cV (vN 4)<|vC<|.int 26)<|oI<|v2 cI (v2 cV (vN 4)<|vC<|.int 26)<|v2 cV (v2 jV (vN 4)<|vC<|.int 26)<|vC<|.int 12)<|gN 5)<|aK (bY (tX (vN 5) oN<|oI<|vC<|.int 11)<|gN 5)<|aK (bY (v2 cV (v2 jV (vN 4)<|vC<|.int 312)<|v2 cI (cU sZ<|aC (vN 5) a0)<|vC<|.int 1)<|gN 6)<|qK<|jZ (vU<|aC (vN 1) a0) [none,some 5,some 3,some 6] (gN 0) fQ<|v2 Ew (v2 Ew (tX (vN 1) oN<|oI<|vN 3)<|v2 Ol (vN 2)<|vN 0)<|tX (vN 1) (oI<|vN 3) oN)
def gD:f9:=g8 3 7 zB
theorem JN (F:bJ K "_law_words" "_law_words" (top 38) f fd)(B:Bl mg)(KT:dJ K)(cY:cZ P w K mg base 1 "_law_mixed" ["_law_cell","_law_k"] (bQ K bI)):aX P w K mg base bO 2 f fd ["_law_cell","_law_many","_law_k"] (bQ K gD):=j5 ["_law_cell","_law_many","_law_k","_law_letters","_law_number","_law_base","_law_at"] F λ_ _ _ _ _ _ nd vt hr=>by walk_at "d"
def xO:VS:=(aK (bY (aZ bI<|aC (vF 0)<|aC (vC<|.int 2) a0)<|gN 1)<|aK (c7 (vB<|v2 fZ (v2 cV (vN 1)<|vC<|.int 6)<|vC<|.int 0) (cP<|v2 cI (vC<|.int 1)<|v2 cV (vN 0)<|v2 yE (vC<|.int 10)<|vC<|.int 58) cJ)<|cP<|v2 cI (vC<|.int 1)<|v2 cV (v2 jV (vN 1)<|vC<|.int 6)<|vC<|.int 5)
def iT:f9:=g8 1 2 xO
theorem GQ (F:bJ K "_law_length" "_law_length" (top 39) f fd)(B:Bl mg)(KT:dJ K)(cY:cZ P w K mg base 1 "_law_mixed" ["_law_cell","_law_k"] (bQ K bI)):aX P w K mg base bO 2 f fd ["_law_cell"] (bQ K iT):=j5 ["_law_cell","_law_number"] F λ_ _ _ _ _ _ nd vt hr=>by walk_at "d"
def zE:VS:=(aK (bY (aZ bI<|aC (vF 0)<|aC (vC<|.int 1) a0)<|gN 1)<|aK (c7 (vB<|v2 fZ (v2 cV (vN 1)<|vC<|.int 4)<|vC<|.int 0) (cP<|v2 cI (vC<|.int 1)<|v2 cV (vN 0)<|v2 yE (vC<|.int 10)<|vC<|.int 58) cJ)<|cP<|v2 cI (vC<|.int 1)<|v2 cV (v2 jV (vN 1)<|vC<|.int 4)<|vC<|.int 6)
def gF:f9:=g8 1 2 zE
theorem JQ (F:bJ K "_law_width" "_law_width" (top 40) f fd)(B:Bl mg)(KT:dJ K)(cY:cZ P w K mg base 1 "_law_mixed" ["_law_cell","_law_k"] (bQ K bI)):aX P w K mg base bO 2 f fd ["_law_cell"] (bQ K gF):=j5 ["_law_cell","_law_number"] F λ_ _ _ _ _ _ nd vt hr=>by walk_at "d"
def zF:VS:=(aK (Cq 2<|jZ (cu<|vF 1) [none] (gN 0) fQ<|v2 aM (vN 0)<|vC<|.int 0)<|aK (lM (cu<|vF 0) (gN 3)<|c7 (vB<|v2 (Om true) (vN 3)<|vN 2) (fU 3) cJ)<|cP<|vC .none)
def jA:f9:=g8 2 4 zF
theorem JR (F:bJ K "_law_fresh" "_law_fresh" (top 41) f fd)(B:Bl mg)(KT:dJ K) :aX P w K mg base bO 1 f fd ["_law_words_here","_law_held"] (bQ K jA):=j5 ["_law_words_here","_law_held","_law_names","_law_word"] F λ_ _ _ _ _ _ nd vt hr=>by walk_at "d"
def BJ:VS:=(aK (bY (aZ bI<|aC (vF 0)<|aC (vC<|.int 0) a0)<|gN 4)<|aK (bY (v2 cV (vN 4)<|vC<|.int 9)<|gN 5)<|aK (c7 (fX (vB<|v2 fZ (vN 1)<|fY a0)<|fP (vB<|v2 sJ (vN 5)<|vC<|.int 5)<|vB<|v2 sJ (cU eU<|aC (vN 1) a0)<|cU eU<|aC (vN 3) a0) (aK (bY (v2 cV (v2 jV (vN 4)<|vC<|.int 9)<|cU eU<|aC (vN 2) a0)<|gN 6)<|aK (bY (v2 cV (v2 cI (v2 cI (vN 6)<|vC<|.int 1)<|v2 cV (v2 jV (vN 4)<|vC<|.int 90)<|v2 mD (cU eU<|aC (vN 2) a0)<|vC<|.int 1)<|cU eU<|aC (vN 2) a0)<|gN 7)<|cP<|fB<|aC (vC<|.str "lay")<|aC (aZ jA<|aC (vF 3)<|aC (vF 1) a0)<|aC (v2 aM (vN 2)<|vN 6)<|aC (v2 aM (vN 2)<|vN 7)<|aC (aZ gF<|aC (vF 0) a0)<|aC (aZ iT<|aC (vF 0) a0) a0) cJ)<|aK (bY (v2 aM (vN 1)<|v2 cV (v2 jV (vN 4)<|vC<|.int 9)<|cU eU<|aC (vN 1) a0)<|gN 8)<|aK (c7 (vB<|v2 fZ (vN 5)<|vC<|.int 5) (cP<|fB<|aC (vC<|.str "shut")<|aC (v2 aM (vN 8)<|vC<|.int 0) a0) cJ)<|aK (c7 (fP (vB<|v2 fZ (vN 5)<|vC<|.int 6)<|vB<|v2 yF (v2 aM (vN 8)<|vC<|.int 3)<|vC<|.int 1) (cP<|fB<|aC (vC<|.str "narrow")<|aC (v2 aM (vN 8)<|vC<|.int 0)<|aC (v2 cI (vC<|.int 1)<|v2 cV (v2 jV (vN 4)<|vC<|.int 90)<|cU vP<|aC (v2 mD (v2 aM (vN 8)<|vC<|.int 3)<|vC<|.int 1)<|aC (vC<|.int 3) a0) a0) cJ)<|cP<|fB<|aC (vC<|.str "widen")<|aC (v2 aM (vN 8)<|vC<|.int 0)<|aC (aZ gF<|aC (vF 0) a0) a0)
def jU:f9:=g8 4 9 BJ
theorem O2 (F:bJ K "_law_deed" "_law_deed" (top 42) f fd)(B:Bl mg)(KT:dJ K)(cY:cZ P w K mg base 1 "_law_mixed" ["_law_cell","_law_k"] (bQ K bI))(BK:cZ P w K mg base 2 "_law_width" ["_law_cell"] (bQ K gF))(BL:cZ P w K mg base 1 "_law_fresh" ["_law_words_here","_law_held"] (bQ K jA))(zG:cZ P w K mg base 2 "_law_length" ["_law_cell"] (bQ K iT)):aX P w K mg base bO 3 f fd ["_law_cell","_law_held","_law_rooms","_law_names"] (bQ K jU):=j5 ["_law_cell","_law_held","_law_rooms","_law_names","_law_number","_law_way_here","_law_a","_law_b","_law_row"] F λ_ _ _ _ _ _ nd vt hr=>by walk_at "d"
def BP:VS:=(aK (bY (aZ gD<|aC (aZ bU<|aC (vF 0)<|aC (vC<|.int 0) a0)<|aC (v2 cI (vC<|.int 2)<|v2 cV (aZ bI<|aC (aZ bU<|aC (vF 0)<|aC (vC<|.int 0) a0)<|aC (vC<|.int 2) a0)<|vC<|.int 4)<|aC (vC<|.int 0) a0)<|gN 1)<|aK (bY (aZ gD<|aC (aZ bU<|aC (vF 0)<|aC (vC<|.int 1) a0)<|aC (vC<|.int 8)<|aC (v2 cV (aZ bI<|aC (aZ bU<|aC (vF 0)<|aC (vC<|.int 1) a0)<|aC (vC<|.int 2) a0)<|vC<|.int 2) a0)<|gN 2)<|aK (c7 (vB<|v2 fZ (v2 cV (aZ bI<|aC (aZ bU<|aC (vF 0)<|aC (vC<|.int 1) a0)<|aC (vC<|.int 3) a0)<|vC<|.int 4)<|vC<|.int 0) (bY (aZ gD<|aC (aZ bU<|aC (vF 0)<|aC (vC<|.int 0) a0)<|aC (vC<|.int 8)<|aC (vC<|.int 0) a0)<|gN 2) cJ)<|cP<|fB<|aC (vF 1)<|aC (vF 2) a0)
def lX:f9:=g8 1 3 BP
theorem O4 (F:bJ K "_law_sets" "_law_sets" (top 45) f fd)(B:Bl mg)(KT:dJ K)(BR:cZ P w K mg base 2 "_law_words" ["_law_cell","_law_many","_law_k"] (bQ K gD))(jP:cZ P w K mg base 1 "_law_cell_at" ["_law_script","_law_k"] (bQ K bU))(cY:cZ P w K mg base 1 "_law_mixed" ["_law_cell","_law_k"] (bQ K bI)):aX P w K mg base bO 3 f fd ["_law_script"] (bQ K lX):=j5 ["_law_script","_law_rooms","_law_names"] F λ_ _ _ _ _ _ nd vt hr=>by walk_at "d"
def zH:VS:=(aK (bY (aZ bI<|aC (vF 0)<|aC (vC<|.int 4) a0)<|gN 1)<|aK (c7 (vB<|v2 fZ (v2 cV (vN 1)<|vC<|.int 4)<|vC<|.int 0) (cP<|v2 cV (vN 0)<|v2 yE (vC<|.int 10)<|vC<|.int 59) cJ)<|cP<|v2 cV (v2 jV (vN 1)<|vC<|.int 4)<|vC<|.int 25)
def jB:f9:=g8 1 2 zH
theorem JT (F:bJ K "_law_turns" "_law_turns" (top 46) f fd)(B:Bl mg)(KT:dJ K)(cY:cZ P w K mg base 1 "_law_mixed" ["_law_cell","_law_k"] (bQ K bI)):aX P w K mg base bO 2 f fd ["_law_cell"] (bQ K jB):=j5 ["_law_cell","_law_number"] F λ_ _ _ _ _ _ nd vt hr=>by walk_at "d"
def Fy:VS:=(aK (qC 4<|fY a0)<|aK (bY (vF 2)<|gN 5)<|aK (lM (cu<|vF 1) (gN 6)<|aK (Cq 7<|jZ (cu<|vF 0) [none,some 6] (gN 0) (vB<|v2 fZ (v2 aM (vN 0)<|vC<|.int 0)<|vN 1)<|vF 0)<|aK (c7 (fX (vB<|v2 fZ (vN 7)<|fY a0)<|fX (vB<|v2 Yd (v2 aM (vN 7)<|vC<|.int 0)<|vN 4)<|vB<|v2 jN (v2 aM (v2 aM (vN 7)<|vC<|.int 0)<|vC<|.int 1)<|vN 5) (cP<|vC .none) cJ)<|aK (iM 4<|aC (v2 aM (vN 7)<|vC<|.int 0) a0)<|bY (v2 aM (v2 aM (vN 7)<|vC<|.int 0)<|vC<|.int 2)<|gN 5)<|aK (c7 (vB<|v2 jN (vN 5)<|vN 3) (cP<|vC .none) cJ)<|fU 4)
def lG:f9:=g8 4 8 Fy
theorem Qq (F:bJ K "_law_way" "_law_way" (top 47) f fd)(B:Bl mg)(KT:dJ K) :aX P w K mg base bO 1 f fd ["_law_held","_law_names","_law_start","_law_goal"] (bQ K lG):=j5 ["_law_held","_law_names","_law_start","_law_goal","_law_rows","_law_room","_law_name","_law_found"] F λ_ _ _ _ _ _ nd vt hr=>by walk_at "d"
def uV:VS:=(aK (c7 (fX (cR<|vB<|nG "list" (vN 0))<|vB<|v2 jN (jZ (cu<|vF 0) [none] (gN 0) fQ<|v2 aM (vN 0)<|vC<|.int 0)<|vN 1) (cP<|vC<|.bool false) cJ)<|aK (lM (cu<|vF 0) (gN 3)<|c7 (fX (cR<|vB<|nG "tuple" (vN 3))<|fX (vB<|v2 jN (cU eU<|aC (vN 3) a0)<|vC<|.int 2)<|fX (cR<|vB<|aZ dM<|aC (v2 aM (vN 3)<|vC<|.int 1) a0)<|cR<|vB<|rC xr xr (vC<|.int 0) (v2 aM (vN 3)<|vC<|.int 1)<|v2 cI (vN 2)<|vC<|.int 1) (cP<|vC<|.bool false) cJ)<|cP<|Ck (v2 fZ (v2 aM (v2 aM (vN 0)<|vC<|.int 0)<|vC<|.int 1)<|vC<|.int 0)<|v2 fZ (v2 aM (v2 aM (vN 0)<|vC<|.int 1)<|vC<|.int 1)<|v2 cI (vN 2)<|vC<|.int 1)
def iC:f9:=g8 3 4 uV
theorem Fz (F:bJ K "_law_moments" "_law_moments" (top 49) f fd)(B:Bl mg)(KT:dJ K)(iu:cZ P w K mg base 1 "_law_whole" ["_law_found"] (bQ K dM)):aX P w K mg base bO 2 f fd ["_law_moments_here","_law_seen","_law_turns_here"] (bQ K iC):=j5 ["_law_moments_here","_law_seen","_law_turns_here","_law_one"] F λ_ _ _ _ _ _ nd vt hr=>by walk_at "d"
end lW
namespace lW
open PyProof.Rows L2 VM
theorem aif (Pv:Nat->L2.St->Hp->Prop)(h0:Pv 0 σ H)(hl:∀i σ H,i<=kvs.length->Pv i σ H->H a=some (.dU o<|.dK kvs))
  (hs:∀i kv σ H p,kvs[i]? =some kv->Pv i σ H->H p=none->g (.ref p) σ (upd H p<|.tup [kV kv.1,kv.2]) λσ2 H2=>tb {D with nx:=Pv<|i+1,ct:=Pv<|i+1,bk:=D.nx} σ2 H2)(hd:∀σ H,Pv kvs.length σ H->D.nx σ H):
  vJ (Iti a o kvs) g tb D σ H:=by
 refine⟨λi m σ H=>m=kvs.length - i/\i<=kvs.length/\Pv i σ H,⟨kvs.length,by simp,zero_le _,h0⟩,?_⟩;rintro i m σ H ⟨rfl,hi,p⟩;have q:=hl i σ H hi p;by_cases hlt:i<kvs.length
 .refine .inr ⟨⟨q,hlt⟩,Pv<|i+1,λσ' H' p'=>⟨kvs.length - (i+1),by omega,rfl,hlt,p'⟩,λx H' y=>?_⟩;obtain⟨pp,kv,hz,hn,e1,e2⟩:=y;subst e1 e2;exact hs i kv σ _ pp hz p hn
 .have e:i=kvs.length:=by omega
  subst e;exact .inl ⟨⟨q,le_refl _⟩,hd σ H p⟩
theorem Kh:dg X (.builtin "len") (λxs H Q=>∃a kvs,xs=[.ref a]/\H a=some (.dK kvs)/\Q (.int kvs.length) H):=by intro pins s σ H xs us Q I r h;obtain⟨a,kvs,rfl,ha,q⟩:=h;obtain⟨u,rfl,rx⟩:=vals1 r;cases rx;exact ah4 I (.inl ha) λt s' I'=>⟨.int _,H,I',⟨t,rfl⟩,q⟩
abbrev Row:=Str×Str×Str×Int×Int
noncomputable def dB (r:Row):List V:=[.str r.1,.str r.2.1,.str r.2.2.1,.int r.2.2.2.1,.int r.2.2.2.2]
def O8 (H:Hp)(v:V)(r:Row):Prop:=∃t,v=.ref t/\H t=some (.tup<|dB r)
def LR (seen:List Str)(x:Str×Q4)(r:Row):Prop:=x.1=r.1/\bW (seen.map V.str) x.2.1=some (.str r.2.1)/\bW (seen.map V.str) x.2.2.1=some (.str r.2.2.1)/\x.2.2.2.1=r.2.2.2.1/\x.2.2.2.2=r.2.2.2.2
noncomputable def seenOf (nums:List (Str×Int)):List Str:=nums.map (·.1)
theorem qO {l:List α}(h:Paired R l r):∀{i:Nat}{a:α},l[i]? =some a->∃b,r[i]? =some b/\R a b:=by
 induction h with
 |nil=>intro i a e;cases e
 |cons h _ ih=>
  intro i a e;cases i with
  |zero=>cases e;exact⟨_,rfl,h⟩
  |succ i=>exact ih e
theorem uc:∀{l:List α}{r:List β} {a:α} {b:β},Paired R l r->R a b->Paired R (l++[a]) (r++[b])
 |_,_,_,_,.nil,h=>.cons h .nil
 |_,_,_,_,.cons x r,h=>.cons x<|uc r h
section
variable {K:Frag}
def CN (C:Addr):Sp:=λvs H Q _=>∃p dx nn ll nums ls nm q ch,vs=[.ref p,.str nm,.int ch]/\aW H C p dx nn ll nums ls/\bF nm ls=some q/\1<=ch/\ch<q.2.2.1/\ls.length<100/\
 ∀H',aW H' C p dx nn ll nums (fJ nm (q.1,q.2.1,q.2.2.1+ -ch,q.2.2.2) ls)->fK nn ll H H'->Q .non H'
theorem Jq:bM ["self","name","less"] ["self","name","less"] (aN<|dH 4):=fs
theorem Yn (F:bJ K "narrow" "NamedHall.narrow" (dH 4) f fd)(c:Cl K C)(F5:aX P w K mg base bO 1 f5 Yk ["self","name"] (Fe C))(m5:Meth K C "look_for" f5)(b5:Binds K Yk ["self","name"] [])
  (F6:aX P w K mg base bO 1 f6 fd6 ["self","name","change"] (Ve C))(m6:Meth K C "change_width" f6)(b6:Binds K fd6 ["self","name","change"] []):
  aX P w K mg base bO 2 f fd ["self","name","less"] (CN C):=by
 have vt:=Jq.vt;refine bJ.ok F Jq (λvs H Q E h=>by obtain⟨_,_,_,_,_,_,_,_,_,rfl,_⟩:=h;rfl) λcdv A outer s H vs Q E hr hsp=>?_;obtain⟨p,dx,nn,ll,nums,ls,nm,q,ch,rfl,hh,hg,h1,h2,hn,hq⟩:=hsp;refine⟨_,aH (cL (gH (pV vt 0) c.cl m5 F5 hr b5 .nil gW (aj (pV vt 1) aO)))
  (aH (dD (PW.pt (zV (jY oLt (pV vt 2) aJ) (xU (jY oLt (iW Gm (bh cN (qU (jl hr) (fj (pV vt 0) rfl) (pV vt 1) (λ_ _=>rfl)) aJ) (pV vt 2)) aJ)))) (aP j6) cg)
  (aP (cL (gH (pV vt 0) c.cl m6 F6 hr b6 .nil gW (aj (pV vt 1) (aj (Tf V7 (pV vt 2)) aO)))))),?_⟩
 obtain⟨kvs,hk,hl⟩:=hh.laid;have g:=uR nm hl;rw[hg] at g;obtain⟨t,gv,gt⟩:=g;unfold jm gq jH bV dI;refine aD rfl ⟨p,dx,_,rfl,hh.ins,rfl,aD rfl ⟨p,dx,nn,ll,nums,ls,nm,q,rfl,hh,hg,?_⟩⟩;dsimp only;unfold jo VN mU;rw[op1];refine aD rfl ?_;show(if decide (ch<1)=true then _ else _);rw[if_neg (by simp;omega)];rw[op1];refine acK (x:=q.2.2.1) (λR r=>?_) rfl ?_
 .unfold gR Ka;exact fL rfl hh.ins c.cl c.n2 rfl<|aD rfl ⟨ll,.ref t,rfl,by rw[<-gv];exact gY.k (k:=.inr nm) hk,⟨_,_,bB.of gt,rfl,r⟩⟩
 show(if decide (q.2.2.1 - ch<1)=true then _ else _);rw[if_neg (by simp;omega)];unfold jk;dsimp only;refine aD rfl ⟨p,dx,_,rfl,hh.ins,rfl,aD rfl ?_⟩;refine aD rfl ⟨ch,rfl,p,dx,nn,ll,nums,ls,nm,q,-ch,rfl,hh,hg,hn,λH' h1 h2=>?_⟩;exact hq H' h1 h2
def GR (C:Addr):Sp:=λvs H Q _=>∃p dx nn ll nums ls,vs=[.ref p]/\aW H C p dx nn ll nums ls/\∀z,H z=none->Q (.ref z) (upd H z<|.lst<|(seenOf nums).map V.str)
theorem O9:bM ["self"] ["self"] (aN<|dH 7):=fs
theorem aaL (F:bJ K "rooms" "NamedHall.rooms" (dH 7) f fd)(B:Bl mg)(c:Cl K C):aX P w K mg base bO 1 f fd ["self"] (GR C):=by
 have vt:=O9.vt;refine bJ.ok F O9 (λvs H Q E h=>by obtain⟨_,_,_,_,_,_,rfl,_⟩:=h;rfl) λcdv A outer s H vs Q E hr hsp=>?_;obtain⟨p,dx,nn,ll,nums,ls,rfl,hh,hq⟩:=hsp;refine⟨_,aP<|cF<|jE (Yc rfl) gx B.list PyProof.Rows.boot_list<|aj (fj (pV vt 0) rfl) aO,?_⟩;unfold mC pJ bV dI;refine fL rfl hh.ins c.cl c.n1 rfl ⟨nn,_,rfl,hh.num,λz hz=>?_⟩;have e:(nums.map gQ).map (λkv=>kV kv.1)=(seenOf nums).map V.str:=by unfold seenOf;rw[map_map,map_map];rfl
 rw[e];exact hq z hz
def Yo (C:Addr):Sp:=λvs H Q _=>∃p dx nn ll nums ls rows,vs=[.ref p]/\aW H C p dx nn ll nums ls/\ls.length<100/\Paired (LR<|seenOf nums) ls rows/\
 ∀H' q ts,Same H H'->H q=none->H' q=some (.lst ts)->Paired (O8 H') ts rows->Q (.ref q) H'
theorem GX:bM ["self","rooms","told","name","passage"] ["self"] (aN<|dH 8):=fs
theorem zJ (e:σ[i]? =some (some<|.ref t))(h:H t=some (.lst xs))(hj:∀R:VK,R (.int j) H->tj σ H R)(a:bW xs j=some v)(q:Q v H):gR (sG K) (vR i) tj σ H Q:=
 aD e (hj _ ⟨xs,v,aR.of h,a,q⟩)
theorem ad2 (F:bJ K "passages" "NamedHall.passages" (dH 8) f fd)(c:Cl K C){f7:Addr}(F7:aX P w K mg base bO 1 f7 fd7 ["self"] (GR C))(m7:Meth K C "rooms" f7)(b7:Binds K fd7 ["self"] []):
  aX P w K mg base bO 2 f fd ["self"] (Yo C):=by
 have nd:=GX.nd;have vt:=GX.vt;refine bJ.ok F GX (λvs H Q E h=>by obtain⟨_,_,_,_,_,_,_,rfl,_⟩:=h;rfl) λcdv A outer s H vs Q E hr hsp=>?_;obtain⟨p,dx,nn,ll,nums,ls,rows,rfl,hh,hn,hR,hq⟩:=hsp;refine⟨_,aH (dX (i:=1) nd rfl lx (Ce (pV vt 0) c.cl m7 F7 hr b7 .nil gW))
  (aH (dX (i:=2) nd rfl lx (yd aO))
  (aH (aaF (iV PassesOwn.never rfl (aaE (fj (pV vt 0) rfl)) (sH rfl (fW (cj (i:=3) nd rfl lx) (fW (cj (i:=4) nd rfl lx) pO)))
   (aP (cL (Aa (pV vt 2) (aj (jM (aj (pV vt 3) (aj (bh pL (pV vt 1) (bh cN (pV vt 4) aJ)) (aj (bh pL (pV vt 1) (bh cN (pV vt 4) aJ)) (aj (bh cN (pV vt 4) aJ) (aj (bh cN (pV vt 4) aJ) aO)))))) aO))))))
  (aP (cF (pV vt 2))))),?_⟩
 obtain⟨kvs,hk,hl⟩:=hh.laid;have hkl:=hl.length;have hrl:=hR.length;unfold jm eZ jH dI cC KJ;refine aD rfl ⟨p,dx,_,rfl,hh.ins,rfl,p,dx,nn,ll,nums,ls,rfl,hh,λrz hrz=>?_⟩;dsimp only;refine⟨zero_le _,λtz htz=>?_⟩;have s1:=aF (o:=.lst<|(seenOf nums).map V.str) hrz;have s2:=aF (o:=.lst []) htz;have s12:=s1.trans s2;have hz0:=s1.free htz;have hrt:rz≠tz:=λz=>by subst z;rw[ao] at htz;cases htz
 have aaM:=aU hk hz0;refine⟨ll,kvs,s12 _ _ hk,?_⟩;rw[iy];unfold Yb Cj;refine fL rfl (s12 _ _ hh.ins) c.cl c.n2 rfl ⟨.inr<|.inr<|.inl ⟨rfl,.inl ⟨kvs,s12 _ _ hk⟩⟩,kvs,s12 _ _ hk,λz hz=>?_⟩;refine⟨z,ll,kvs,_,rfl,rfl,hz,s12 _ _ hk,λo=>?_⟩;have s3:=aF (o:=HO.ext λh=>h.get? z=some (mJ ll)) hz;have hzt:tz≠z:=λy=>by subst y;rw[ao] at hz;cases hz
 have hzr:rz≠z:=λy=>by subst y;rw[ak hrt,ao] at hz;cases hz
 have akX:=aU hk hrz;refine aif (λi σ' H'=>(∃x y,σ'=[some<|.ref p,some<|.ref rz,some<|.ref tz,x,y])/\H' ll=some (.dU o<|.dK kvs)/\H' rz=some (.lst<|(seenOf nums).map V.str)/\(∃ts,H' tz=some (.lst ts)/\ts.length=i/\Paired (O8 H') ts (rows.take i))/\∀b ob,b≠ll->H b=some ob->H' b=some ob)
  ⟨⟨_,_,rfl⟩,ao,by rw[ak akX.symm,ak hzr,ak hrt,ao],⟨[],by rw[ak aaM.symm,ak hzt,ao],rfl,.nil⟩,λb ob hb e=>by rw[ak hb];exact s3 _ _<|s12 _ _ e⟩ (λ_ _ _ _ h=>h.2.1) ?_ ?_
 .rintro i kv σ' H' p' hkv ⟨⟨x,y,rfl⟩,i1,i2,⟨ts,i3,i4,i5⟩,i6⟩ hp';obtain⟨x1,e1,e2⟩:=qO hl hkv;obtain⟨r,e3,e4⟩:=qO hR e1;obtain⟨hkey,t,hv,ht⟩:=e2;obtain⟨l1,l2,l3,l4,l5⟩:=e4;have hi:=(List.getElem?_eq_some_iff.mp hkv).1;rw[l1] at hkey;have htl:t≠ll:=λz=>by subst z;rw[hk] at ht;cases ht
  have ht':=i6 _ _ htl ht;have s4:=aF (o:=.tup [kV kv.1,kv.2]) hp';refine⟨_,bB.of ao,rfl,?_⟩;rw[hkey,hv];show gq (uq K "list" zZ (vR 2) _) _ [some<|.ref p,some<|.ref rz,some<|.ref tz,some<|.str r.1,some<|.ref t] _;rw[hkey,hv] at s4;unfold gq uq;refine aD rfl ⟨.inl ⟨rfl,_,aR.of (s4 _ _ i3)⟩,?_⟩;unfold bV vq;refine aD rfl (zJ rfl (s4 _ _ i2) (λR r=>tD rfl (s4 _ _ ht') rfl r) l2 (zJ rfl (s4 _ _ i2) (λR r=>tD rfl (s4 _ _ ht') rfl r) l3 (tD rfl (s4 _ _ ht') rfl (tD rfl (s4 _ _ ht') rfl ⟨by show 5<=sizeLine;decide,λt' Jr=>?_⟩))));rw[l4,l5];have s5:=aF (o:=.tup<|dB r) Jr;refine⟨ts,s5 _ _<|s4 _ _ i3,aY<|by omega,?_⟩;have R3:=s4.trans s5;have nt:∀b ob,b≠tz->upd (upd H' p'<|.tup [kV<|Sum.inr r.1,V.ref t]) t' (.tup<|dB r) b=some ob->upd (upd (upd H' p'<|.tup [kV<|Sum.inr r.1,V.ref t]) t'<|.tup<|dB r) tz (.lst<|ts++[.ref t']) b=some ob:=λb ob hb e=>by rw[ak hb];exact e
  have ntt:∀b xs,upd (upd H' p'<|.tup [kV<|Sum.inr r.1,V.ref t]) t' (.tup<|dB r) b=some (.tup xs)->b≠tz:=λb xs e z=>by subst z;rw[R3 _ _ i3] at e;cases e
  refine⟨⟨_,_,rfl⟩,nt _ _ aaM<|R3 _ _ i1,nt _ _ hrt<|R3 _ _ i2,⟨_,ao,by rw[length_append,i4];rfl,?_⟩,λb ob hb e=>nt _ _ (λz=>by subst z;rw[hz0] at e;cases e) (R3 _ _<|i6 _ _ hb e)⟩;have etk:rows.take (i+1)=rows.take i++[r]:=by rw[take_succ,e3];rfl
  rw[etk];refine uc (i5.mono λv r' h=>?_) ⟨t',rfl,nt _ _ (ntt _ _ ao) ao⟩;obtain⟨u,eu,hu⟩:=h;exact⟨u,eu,nt _ _ (ntt _ _<|R3 _ _ hu)<|R3 _ _ hu⟩
 .rintro σ' H' ⟨⟨x,y,rfl⟩,i1,i2,⟨ts,i3,i4,i5⟩,i6⟩;refine⟨o,i1,?_⟩;refine aD rfl ?_;refine hq _ tz ts (λb ob e=>?_) hz0 (by rw[ak aaM.symm];exact i3) ?_
  .by_cases hb:b=ll
   .subst hb;rw[hk] at e;cases e;exact ao
   .rw[ak hb];exact i6 _ _ hb e
  .rw[take_of_length_le<|by omega] at i5;refine i5.mono λv r' h=>?_;obtain⟨u,eu,hu⟩:=h;exact⟨u,eu,by rw[ak λz=>by subst z;rw[i1] at hu;cases hu];exact hu⟩
end
def agD:Stmt->Scope
 |.Assign _ (.ListComp _ _ sc _) _=>sc
 |_=>aN<|.Pass ⟨0,0,0,0⟩
def eE (nm:Str):Prop:=iB [.str nm]=some (false,.none)/\(PyData.str nm).canLay0=true
def kW (nums:List (Str×Int))(rs:List Str):List (Str×Int):=rs.foldl (λn r=>fJ r (n.length:Int) n) nums
def newOf (nums:List (Str×Int))(rs:List Str):List Str:=rs.filter λr=>(bF r nums).isNone
theorem Pa (nm:Str)(v:α)(l:List (Str×α)):(fJ nm v l).length<=l.length+1:=by
 unfold fJ;split
 .rw[length_map];omega
 .rw[length_append];simp
theorem aaN (rs:List Str):∀nums,(kW nums rs).length<=nums.length+rs.length:=by
 induction rs with
 |nil=>intro nums;exact le_refl _
 |cons r rs ih=>intro nums;have h1:=ih<|fJ r (nums.length) nums;have h2:=Pa r (nums.length:Int) nums;show(kW (fJ r (nums.length:Int) nums) rs).length<=_;rw[length_cons];omega
theorem lcF {K:Frag}(keep:V->Bool)(hq:bB K H1 a xs)(hz:xs.length<sizeLine)
  (hc:∀x∈xs,∀D ys (R:Bool->Hp->Prop),H1 D=none->R (keep x) (upd H1 D<|.lst ys)->tc ((cD cap σ).set 0<|some x) (upd H1 D<|.lst ys) R)
  (hk:∀x,gO (cD cap σ) ((cD cap σ).set 0<|some x))(he:∀(x:V) (H:Hp) (R:VK),R x H->te ((cD cap σ).set 0<|some x) H R)
  (hQ:∀D,H1 D=none->Q (.ref D) (upd H1 D<|.lst<|xs.filter keep)):Gj (KC K a) cap (cC 0) tc te σ H1 Q:=by
 intro D hD;refine⟨λi m H=>m=xs.length - i/\i<=xs.length/\H=upd H1 D (.lst<|(xs.take i).filter keep),⟨_,rfl,zero_le _,rfl⟩,?_⟩;rintro i m H ⟨rfl,hi,rfl⟩;have uy:bB K (upd H1 D<|.lst<|(xs.take i).filter keep) a xs:=(aF hD).vH hq;by_cases hlt:i<xs.length
 .refine .inr ⟨⟨xs,xs[i],uy,by simp[hlt]⟩,λx H' y=>?_⟩;obtain⟨e,y⟩:=y;subst e;have ex:=y xs uy;have etk:xs.take (i+1)=xs.take i++[x]:=by rw[take_succ,ex];rfl
  refine⟨hk x,hc x (mem_of_getElem? ex) D _ _ hD ?_⟩;by_cases hx:keep x=true
  .rw[if_pos hx];refine he x _ _ ⟨_,ao,?_,xs.length - (i+1),by omega,rfl,hlt,?_⟩
   .have:=List.length_filter_le keep<|xs.take i;rw[length_take] at this;omega
   .rw[Qu,etk,filter_append];simp[hx]
  .rw[if_neg hx];refine⟨xs.length - (i+1),by omega,rfl,hlt,?_⟩;rw[etk,filter_append];simp[hx]
 .have e:i=xs.length:=by omega
  subst e;refine .inl ⟨⟨xs,uy,le_refl _⟩,?_⟩;rw[take_of_length_le<|le_refl _];exact hQ D hD
section
variable {K:Frag}
theorem uW {nm:Str}(e:σ[i]? =some (some<|.str nm))(h:eE nm)(q:∀v H',Same H H'->Q v H'):iJ (bQ K iB) [] E (bV (vR i) dI) σ H Q:=
 aD e ⟨H,[.str nm],Same.refl _,⟨.str nm,[],rfl,⟨rfl,h.2⟩,rfl⟩,false,.none,h.1,λv F' H' g _=>q v H' g.hh⟩
def Vf (C:Addr):Sp:=λvs H Q _=>∃p dx nn ll nums ls nm a b wd len ia ib,vs=[.ref p,.str nm,.str a,.str b,.int wd,.int len]/\aW H C p dx nn ll nums ls/\eE nm/\eE a/\eE b/\bF nm ls=none/\a≠b/\1<=wd/\1<=len/\
 ls.length<50/\nums.length<30/\bF a (kW nums<|newOf nums [a,b])=some ia/\bF b (kW nums<|newOf nums [a,b])=some ib/\
 ∀H',aW H' C p dx nn ll (kW nums<|newOf nums [a,b]) (fJ nm (ia,ib,wd,len) ls)->fK nn ll H H'->Q .non H'
theorem Pb:bM ["self","name","a","b","width","length","added","room"] ["self","name","a","b","width","length"] (aN<|dH 1):=fs
theorem agE (F:bJ K "lay" "NamedHall.lay" (dH 1) f fd)(B:Bl mg)(c:Cl K C)(R4:cZ P w K mg base 1 "look_at_name" ["name"] (bQ K iB))(g60:mg "MOST_PASSAGES"=some (.int 60 t60))(g40:mg "MOST_ROOMS"=some (.int 40 t40)):
  aX P w K mg base bO 2 f fd ["self","name","a","b","width","length"] (Vf C):=by
 have nd:=Pb.nd;have vt:=Pb.vt;refine bJ.ok F Pb (λvs H Q E h=>by obtain⟨_,_,_,_,_,_,_,_,_,_,_,_,_,rfl,_⟩:=h;rfl) λcdv A outer s H vs Q E hr hsp=>?_;obtain⟨p,dx,nn,ll,nums,ls,nm,a,b,wd,len,ia,ib,rfl,hh,n1,n2,n3,hg,hab,hw,hl1,hn1,hn2,ga,gb,hq⟩:=hsp;have vc:=(show(["room","self"]:List Str).all (λx=>Gk (agD ((dj (dH 1)).getD 5 (.Pass ⟨0,0,0,0⟩))) x && plain x)=true by decide +kernel);refine⟨_,aH (cL (eG R4 hr gx (aj (pV vt 1) aO)))
  (aH (cL (eG R4 hr gx (aj (pV vt 2) aO)))
  (aH (cL (eG R4 hr gx (aj (pV vt 3) aO)))
  (aH (dD (Ku (afV (jl hr) (pV vt 1) (fj (pV vt 0) rfl))) (aP j6) cg)
  (aH (dD (PW.pt (zV (jY lZ (pV vt 2) (pV vt 3)) (zV (jY oLt (pV vt 4) aJ) (xU (jY oLt (pV vt 5) aJ))))) (aP j6) cg)
  (aH (vG (tc:=tB (Gu (vR 0) (Tt K (vR 1) "numbers"))) (i:=6) nd rfl lx (cap:=[none,some 0]) ["self","name","a","b","width","length","added","room"] (aN (dH 1)) rfl (by decide +kernel) rfl rfl
   (V5 (jM (aj (pV vt 2) (aj (pV vt 3) aO)))) (λ_ _ _ _ _=>Bf (i:=0) (by decide +kernel) (by decide +kernel)) (λ_ _ _ _ _=>QF (Ku (Ir (jl hr) (uw vc 0) (fj (uw vc 1) (by rfl))))) (λ_ _ _ _ _=>uw vc 0))
  (aH (dD (PW.pt (zV (jY Wu (iW tL (cO Kh gx B.len PySem.boot_len (aj (fj (pV vt 0) rfl) aO)) aJ) (oG (v:=.int 60) gx g60 ⟨_,rfl⟩))
   (xU (jY Wu (iW tL (cO Kh gx B.len PySem.boot_len (aj (fj (pV vt 0) rfl) aO)) (cO T9 gx B.len PySem.boot_len (aj (pV vt 6) aO))) (oG (v:=.int 40) gx g40 ⟨_,rfl⟩))))) (aP j6) cg)
  (aH (iV PassesOwn.never rfl (iw (pV vt 6)) (cj (i:=7) nd rfl lx) (aP (uK (jl hr) (fj (pV vt 0) rfl) (pV vt 7) (cO Kh gx B.len PySem.boot_len (aj (fj (pV vt 0) rfl) aO)) rfl)))
  (aP (uK (jl hr) (fj (pV vt 0) rfl) (pV vt 1) (jM (aj (qU (jl hr) (fj (pV vt 0) rfl) (pV vt 2) (λ_ _=>rfl)) (aj (qU (jl hr) (fj (pV vt 0) rfl) (pV vt 3) (λ_ _=>rfl)) (aj (pV vt 4) (aj (pV vt 5) aO))))) rfl))))))))),?_⟩
 unfold jm gq;refine uW rfl n1 λ_ H1 s1=>?_;try dsimp only
 refine uW rfl n2 λ_ H2 s2=>?_;refine uW rfl n3 λ_ H3 s3=>?_;have agF:=(s1.trans s2).trans s3;have hh3:=hh.grow agF;obtain⟨kvs,hk,hl⟩:=hh3.laid;have g:=uR nm hl;rw[hg] at g;have hkl:=hl.length;unfold jo tB afU;refine aD rfl<|fL rfl hh3.ins c.cl c.n2 rfl ⟨ll,_,rfl,gY.k (k:=.inr nm) hk,_,rfl,?_⟩;rw[g];show(if(none:Option V).isSome=true then _ else _);rw[if_neg<|by simp];unfold jk VN mU;try dsimp only
 refine aD rfl<|aD rfl ⟨rfl,?_⟩;show(if decide (V.str a=V.str b)=true then _ else _);rw[if_neg<|by simp[hab]];rw[lW.op1];refine aD (v:=.int wd) rfl ?_;show(if decide (wd<1)=true then _ else _);rw[if_neg (by simp;omega)];rw[lW.op1];refine aD (v:=.int len) rfl ?_;show(if decide (len<1)=true then _ else _);rw[if_neg (by simp;omega)];unfold eZ ur Zg vq bV;try dsimp only
 refine aD (v:=.str a) rfl (aD (v:=.str b) rfl ⟨by show 2<=sizeLine;decide,λt ht=>⟨t,rfl,⟨_,bB.of ao⟩,?_⟩⟩);have s4:=aF (o:=.tup [.str a,.str b]) ht;have hh4:=hh3.grow s4;refine lcF (λx=>match x with|.str r=>(bF r nums).isNone|_=>false) (bB.of ao) (by show 2<sizeLine;decide) ?_ (λx=>gO.set gO.refl rfl) (λx Hx R r=>aD rfl r) ?_
 .intro x hx D ys R hD r;have sD:=aF (o:=.lst ys) hD;obtain⟨rm,rfl⟩:∃rm,x=.str rm:=by
   rcases mem_cons.mp hx with rfl|hx
   .exact⟨_,rfl⟩
   .rw[mem_singleton.mp hx];exact⟨_,rfl⟩
  refine aD (v:=.str rm) rfl<|fL (p:=p) rfl ((hh4.grow sD).ins) c.cl c.n1 rfl ⟨nn,_,rfl,gY.k (k:=.inr rm)<|(hh4.grow sD).num,_,rfl,?_⟩;rw[oV];have e:(!(Option.map V.int<|bF rm nums).isSome)=(bF rm nums).isNone:=by cases bF rm nums<;>rfl
  rw[e];exact r
 intro D hD;have eN:List.filter (λx=>match x with|.str r=>(bF r nums).isNone|_=>false) [V.str a,V.str b]=(newOf nums [a,b]).map V.str:=by unfold newOf;rw[show [V.str a,V.str b]=[a,b].map V.str from rfl,List.filter_map];rfl
 rw[eN];have s5:=aF (o:=.lst<|(newOf nums [a,b]).map V.str) hD;have Yp:=hh4.grow s5;have hk5:=s5 _ _<|s4 _ _ hk;have hD5:upd (upd H3 t<|.tup [.str a,.str b]) D (.lst<|(newOf nums [a,b]).map V.str) D=some (.lst<|(newOf nums [a,b]).map V.str):=ao;have hl5:Paired (rW<|upd (upd H3 t<|.tup [.str a,.str b]) D<|.lst<|(newOf nums [a,b]).map V.str) kvs ls:=hl.mono λ_ _ z=>z.same λu xs e=>s5 _ _<|s4 _ _ e;have s35:=s4.trans s5;generalize upd (upd H3 t<|.tup [.str a,.str b]) D (.lst<|(newOf nums [a,b]).map V.str)=H5 at Yp hk5 hD5 hl5 s35 ⊢;have nl:(newOf nums [a,b]).length<=2:=List.length_filter_le _ _;generalize hN:newOf nums [a,b]=nw at*
 dsimp only[cC];rw[lW.op1,lW.op1];unfold pJ;refine fL (p:=p) rfl Yp.ins c.cl c.n2 rfl ⟨ll,kvs,rfl,hk5,?_⟩;show(if decide ((60:Int)<(kvs.length:Int)+1)=true then _ else _);rw[if_neg (by simp;omega)];rw[lW.op1];unfold gR;refine fL (p:=p) rfl Yp.ins c.cl c.n1 rfl ⟨nn,_,rfl,Yp.num,aD (v:=.ref D) rfl ⟨nw.map V.str,.inl<|aR.of hD5,?_⟩⟩;show(if decide ((40:Int)<((nums.map gQ).length:Int)+((nw.map V.str).length:Int))=true then _ else _);rw[if_neg (by rw[length_map,length_map];simp;omega)];try dsimp only
 rw[iy];unfold qG;refine aD (v:=.ref D) rfl ⟨D,rfl,⟨_,aR.of hD5⟩,?_⟩;refine forL (xs:=nw.map V.str) (λi σ' H'=>(∃y,σ'=[some<|.ref p,some<|.str nm,some<|.str a,some<|.str b,some<|.int wd,some<|.int len,some<|.ref D,y])/\aW H' C p dx nn ll (kW nums<|nw.take i) ls/\H' D=some (.lst<|nw.map V.str)/\fK nn ll H5 H') ⟨⟨_,rfl⟩,Yp,hD5,fK.same<|Same.refl _⟩ (λ_ _ _ _ h=>aR.of h.2.2.1) ?_ ?_
 .rintro i x σ' H' hx ⟨⟨y,rfl⟩,i1,i2,i3⟩;rw[getElem?_map] at hx;obtain⟨rm,er,rfl⟩:=map_eq_some_iff.mp hx;unfold cC wA;show Tt K (vR 0) "numbers" [some<|.ref p,some<|.str nm,some<|.str a,some<|.str b,some<|.int wd,some<|.int len,some<|.ref D,some<|.str rm] H' _;refine fL (p:=p) rfl i1.ins c.cl c.n1 rfl ⟨nn,_,rfl,i1.num,fL (p:=p) rfl i1.ins c.cl c.n1 rfl<|aD (v:=.str rm) rfl ⟨nn,_,rfl,rJ.k (k:=.inr rm) i1.num<|aY ?_,?_⟩⟩
  .have:=aaN (nw.take i) nums
   have:(nw.take i).length<=nw.length:=by rw[length_take];omega
   rw[length_map];omega
  rw[length_map,GF];have e:fJ rm ((kW nums<|nw.take i).length:Int) (kW nums<|nw.take i)=kW nums (nw.take<|i+1):=by rw[take_succ,er];unfold kW;rw[foldl_append];rfl
  rw[e];refine⟨⟨_,rfl⟩,i1.akU,?_,i3.trans fK.num⟩;rw[ak λz=>by have:=i1.num;rw[<-z,i2] at this;cases this];exact i2
 .rintro σ' H' ⟨⟨y,rfl⟩,i1,i2,i3⟩;rw[length_map,take_of_length_le<|le_refl _] at i1;obtain⟨kv2,hk2,hl2⟩:=i1.laid;have an9:=hl2.length;dsimp only;unfold wA Ka;refine fL (p:=p) rfl i1.ins c.cl c.n1 rfl (aD (v:=.str a) rfl ⟨nn,.int ia,rfl,?_,?_⟩)
  .have:=gY.k (k:=.inr a) i1.num;rw[oV,ga] at this;exact this
  refine fL (p:=p) rfl i1.ins c.cl c.n1 rfl<|aD (v:=.str b) rfl ⟨nn,.int ib,rfl,?_,?_⟩
  .have:=gY.k (k:=.inr b) i1.num;rw[oV,gb] at this;exact this
  refine aD (v:=.int wd) rfl (aD (v:=.int len) rfl ⟨by show 4<=sizeLine;decide,λt' ht'=>?_⟩);have s6:=aF (o:=.tup [.int ia,.int ib,.int wd,.int len]) ht';have hh6:=i1.grow s6;have hk6:=s6 _ _ hk2;refine fL (p:=p) rfl hh6.ins c.cl c.n2 rfl (aD (v:=.str nm) rfl ⟨ll,_,rfl,rJ.k (k:=.inr nm) hk6<|aY<|by omega,?_⟩);refine hq _ (hh6.put hk6<|Yj (q:=(ia,ib,wd,len)) ao<|hl2.mono λ_ _ z=>z.same λu xs e=>s6 _ _ e) ?_;exact((((fK.same agF).trans<|fK.same s35).trans i3).trans<|fK.same s6).trans<|fK.put hk6
end
section
variable {K:Frag}
def Ph (C:Addr):Sp:=λvs H Q _=>∃x dx a b,vs=[.ref x,.str a,.str b]/\H x=some (.ins C dx [])/\eE a/\eE b/\a≠b/\
 ∀H' nn ll,aW H' C x dx nn ll [(a,0),(b,1)] []->(∀c o,c≠x->H c=some o->H' c=some o)->H nn=none->H ll=none->Q .non H'
theorem R5:bM ["self","start","goal"] ["self","start","goal"] (aN<|dH 0):=fs
theorem ad3 (F:bJ K "__init__" "NamedHall.__init__" (dH 0) f fd)(c:Cl K C)(R4:cZ P w K mg base 1 "look_at_name" ["name"] (bQ K iB))(g0:mg "START"=some (.int 0 t0))(g1:mg "GOAL"=some (.int 1 t1)):
  aX P w K mg base bO 2 f fd ["self","start","goal"] (Ph C):=by
 have vt:=R5.vt;refine bJ.ok F R5 (λvs H Q E h=>by obtain⟨_,_,_,_,rfl,_⟩:=h;rfl) λcdv A outer s H vs Q E hr hsp=>?_;obtain⟨x,dx,a,b,rfl,hx,n1,n2,hab,hq⟩:=hsp;refine⟨_,aH (cL (eG R4 hr gx (aj (pV vt 1) aO)))
  (aH (cL (eG R4 hr gx (aj (pV vt 2) aO)))
  (aH (dD (jY lZ (pV vt 1) (pV vt 2)) (aP j6) cg)
  (aH (Wd (pV vt 0) (adJ (M6 (pV vt 1) (oG (v:=.int 0) gx g0 ⟨_,rfl⟩) (M6 (pV vt 2) (oG (v:=.int 1) gx g1 ⟨_,rfl⟩) adI)) rfl rfl (by simp) (by decide)) rfl)
  (aP (Wd (pV vt 0) Cv rfl))))),?_⟩
 unfold jm gq;refine uW rfl n1 λ_ H1 s1=>?_;try dsimp only
 refine uW rfl n2 λ_ H2 s2=>?_;have s12:=s1.trans s2;have hx2:=s12 _ _ hx;unfold jo mU;refine aD rfl<|aD rfl ⟨rfl,?_⟩;show(if decide (V.str a=V.str b)=true then _ else _);rw[if_neg<|by simp[hab]];intro d hd;have hxd:=aU hx2 hd;unfold uL uL uL tC;refine aD rfl (aD rfl ⟨ao,[(.inr a,.int 0),(.inr b,.int 1)],rfl,by simp,?_⟩);rw[Qu];have eM:rK [] [((Sum.inr a),V.int 0),(.inr b,.int 1)]=([(a,0),(b,1)]).map gQ:=by
  have:¬(Sum.inr a:Key)=Sum.inr b:=λz=>hab<|Sum.inr.inj z
  unfold rK;rw[foldl_cons,foldl_cons,List.foldl_nil];unfold putK;simp[this,gQ]
 rw[eM];refine aD rfl ⟨x,C,dx,[],rfl,by rw[ak hxd];exact hx2,c.cl,c.n1,by decide,?_⟩;intro e he;have hxe:x≠e:=λz=>by subst z;rw[ao] at he;cases he
 have hde:d≠e:=λz=>by subst z;rw[ak hxd.symm,ao] at he;cases he
 refine aD rfl ⟨x,C,dx,_,rfl,by rw[ak hxe,ao],c.cl,c.n2,by show 1<1000;decide,?_⟩;have he2:H2 e=none:=by rw[ak hxe.symm,ak hde.symm] at he;exact he
 refine hq _ d e ⟨?_,?_,⟨[],?_,.nil⟩,hde⟩ (λc o hc e1=>?_) (s12.free hd)<|s12.free he2
 .rw[ao];rfl
 .rw[ak hxd.symm,ak hde,ak hxd.symm,ao]
 .rw[ak hxe.symm,ao]
 .have e2:=s12 _ _ e1;have z1:c≠e:=λz=>by subst z;rw[he2] at e2;cases e2
  have z2:c≠d:=λz=>by subst z;rw[hd] at e2;cases e2
  rw[ak hc,ak z1,ak hc,ak z2];exact e2
end
inductive bT where
 |lay (nm a b:Str) (w l:Int)
 |shut (nm:Str)
 |widen (nm:Str) (k:Int)
 |narrow (nm:Str) (k:Int)
noncomputable def bT.vals:bT->List V
 |.lay nm a b w l=>[.str "lay",.str nm,.str a,.str b,.int w,.int l]
 |.shut nm=>[.str "shut",.str nm]
 |.widen nm k=>[.str "widen",.str nm,.int k]
 |.narrow nm k=>[.str "narrow",.str nm,.int k]
noncomputable def bT.nm:bT->Str
 |.lay nm _ _ _ _=>nm
 |.shut nm=>nm
 |.widen nm _=>nm
 |.narrow nm _=>nm
noncomputable def bT.word:bT->Str
 |.lay _ _ _ _ _=>"lay"
 |.shut _=>"shut"
 |.widen _ _=>"widen"
 |.narrow _ _=>"narrow"
theorem bT.at0 (d:bT):bW d.vals 0=some (.str d.word):=by cases d<;>rfl
theorem bT.at1 (d:bT):bW d.vals 1=some (.str d.nm):=by cases d<;>rfl
theorem bK {K:Frag}{i:Nat}{j:Int}{σ:L2.St}{H:Hp}{Q:VK}{t:Addr}{xs:List V}{v:V}(e:σ[i]? =some (some<|.ref t))(h:bB K H t xs)(a:bW xs j=some v)(q:Q v H):gR (qI K) (vR i) (tC<|.int j) σ H Q:=
 aD e ⟨xs,v,h,a,q⟩
theorem Kl {K:Frag}{ta tb:TE}{σ:L2.St}{H:Hp}{Q:Bool->Hp->Prop}{x y:Str}(ha:∀R:VK,R (.str x) H->ta σ H R)(hb:∀R:VK,R (.str y) H->tb σ H R)(q:Q (decide<|x=y) H):mU (gR V8 ta tb) σ H Q:=by refine ha _<|hb _ ⟨rfl,?_⟩;have e:decide (V.str x=V.str y)=decide (x=y):=decide_eq_decide.mpr ⟨λh=>V.str.inj h,λh=>by rw[h]⟩;rw[e];exact q
section
variable {K:Frag}
def bT.sp (C:Addr)(p:Addr):bT->Hp->VK->XK->Prop
 |.lay nm a b w l,H,Q,E=>Vf C [.ref p,.str nm,.str a,.str b,.int w,.int l] H Q E
 |.shut nm,H,Q,E=>Ox C [.ref p,.str nm] H Q E
 |.widen nm k,H,Q,E=>GJ C [.ref p,.str nm,.int k] H Q E
 |.narrow nm k,H,Q,E=>CN C [.ref p,.str nm,.int k] H Q E
def agJ (K:Frag)(C:Addr):Sp:=λvs H Q E=>∃p dx nn ll t d,vs=[.ref p,.ref t]/\H p=some (.ins C dx [("numbers",.ref nn),("laid",.ref ll)])/\bB K H t (bT.vals d)/\d.sp C p H Q E
theorem acP:bM ["_law_hall","_law_deed_here"] ["_law_hall","_law_deed_here"] (aN<|top 43):=fs
structure Ms (P:Program)(w:World)(K:Frag)(mg:Str->Option Value)(base:Heap)(C:Addr)(lv:Nat)(m:Str)(ps:List Str)(sp:Sp):Prop where
 ex:∃f fd,aX P w K mg base bO lv f fd ps sp/\Meth K C m f/\Binds K fd ps []
theorem aii {f:Addr}{fd:FuncData}(F:bJ K "_law_do" "_law_do" (top 43) f fd)(c:Cl K C)(Ml:Ms P w K mg base C 2 "lay" ["self","name","a","b","width","length"] (Vf C))(Msh:Ms P w K mg base C 2 "shut" ["self","name"] (Ox C))
  (Mw:Ms P w K mg base C 2 "widen" ["self","name","more"] (GJ C))(Mn:Ms P w K mg base C 2 "narrow" ["self","name","less"] (CN C)):aX P w K mg base bO 3 f fd ["_law_hall","_law_deed_here"] (agJ K C):=by
 have vt:=acP.vt;obtain⟨fl,fdl,Fl,ml,bl⟩:=Ml.ex;obtain⟨fs,fds,Fs,ms,bs⟩:=Msh.ex;obtain⟨fw,fdw,Fw,mw,bw⟩:=Mw.ex;obtain⟨fn,fdn,Fn',mn,bn⟩:=Mn.ex;refine bJ.ok F acP (λvs H Q E h=>by obtain⟨_,_,_,_,_,_,rfl,_⟩:=h;rfl) λcdv A outer s H vs Q E hr hsp=>?_;obtain⟨p,dx,nn,ll,t,d,rfl,hp,ht,hd⟩:=hsp;refine⟨_,aH (dD (jY lZ (bh cN (pV vt 1) aJ) pF) (aP (cF (gH (pV vt 0) c.cl ml Fl hr bl .nil gW (aj (bh cN (pV vt 1) aJ) (aj (bh cN (pV vt 1) aJ) (aj (bh cN (pV vt 1) aJ) (aj (bh cN (pV vt 1) aJ) (aj (bh cN (pV vt 1) aJ) aO)))))))) cg)
  (aH (dD (jY lZ (bh cN (pV vt 1) aJ) pF) (aP (cF (gH (pV vt 0) c.cl ms Fs hr bs .nil gW (aj (bh cN (pV vt 1) aJ) aO)))) cg)
  (aH (dD (jY lZ (bh cN (pV vt 1) aJ) pF) (aP (cF (gH (pV vt 0) c.cl mw Fw hr bw .nil gW (aj (bh cN (pV vt 1) aJ) (aj (bh cN (pV vt 1) aJ) aO))))) cg)
  (aP (cF (gH (pV vt 0) c.cl mn Fn' hr bn .nil gW (aj (bh cN (pV vt 1) aJ) (aj (bh cN (pV vt 1) aJ) aO))))))),?_⟩
 have word:∀y (R:Bool->Hp->Prop),R (decide<|d.word=y) H->mU (gR V8 (gR (qI K) (vR 1)<|tC<|.int 0)<|tC<|.str y) (L2.start ["_law_hall","_law_deed_here"] [.ref p,.ref t]) H R:=λy R r=>Kl (K:=K) (λR r=>bK rfl ht d.at0 r) (λR r=>r) r;unfold jm jo;refine word _ _ ?_;cases d with
 |lay nm a b w l=>rw[if_pos<|show decide ((bT.lay nm a b w l).word="lay")=true from(by decide +kernel:decide (("lay":Str)="lay")=true)];unfold mC jH bV;exact aD rfl ⟨p,dx,_,rfl,hp,rfl,bK rfl ht rfl<|bK rfl ht rfl<|bK rfl ht rfl<|bK rfl ht rfl<|bK rfl ht rfl hd⟩
 |shut nm=>rw[if_neg<|show ¬decide ((bT.shut nm).word="lay")=true from(by decide +kernel:¬decide (("shut":Str)="lay")=true)];refine word _ _ ?_;rw[if_pos<|show decide ((bT.shut nm).word="shut")=true from(by decide +kernel:decide (("shut":Str)="shut")=true)];unfold mC jH bV;exact aD rfl ⟨p,dx,_,rfl,hp,rfl,bK rfl ht rfl hd⟩
 |widen nm k=>rw[if_neg<|show ¬decide ((bT.widen nm k).word="lay")=true from(by decide +kernel:¬decide (("widen":Str)="lay")=true)];refine word _ _ ?_;rw[if_neg<|show ¬decide ((bT.widen nm k).word="shut")=true from(by decide +kernel:¬decide (("widen":Str)="shut")=true)];refine word _ _ ?_;rw[if_pos<|show decide ((bT.widen nm k).word="widen")=true from(by decide +kernel:decide (("widen":Str)="widen")=true)];unfold mC jH bV;exact aD rfl ⟨p,dx,_,rfl,hp,rfl,bK rfl ht rfl<|bK rfl ht rfl hd⟩
 |narrow nm k=>rw[if_neg<|show ¬decide ((bT.narrow nm k).word="lay")=true from(by decide +kernel:¬decide (("narrow":Str)="lay")=true)];unfold jk;dsimp only;refine word _ _ ?_;rw[if_neg<|show ¬decide ((bT.narrow nm k).word="shut")=true from(by decide +kernel:¬decide (("narrow":Str)="shut")=true)];refine word _ _ ?_;rw[if_neg<|show ¬decide ((bT.narrow nm k).word="widen")=true from(by decide +kernel:¬decide (("narrow":Str)="widen")=true)];unfold mC jH bV;exact aD rfl ⟨p,dx,_,rfl,hp,rfl,bK rfl ht rfl<|bK rfl ht rfl hd⟩
end
noncomputable def bf (r:Row):PyData:=.list [.str r.1,.str r.2.1,.str r.2.2.1,.int r.2.2.2.1,.int r.2.2.2.2]
abbrev PR:=Addr×Row
structure Held (H:Hp)(D:Addr)(prs:List PR):Prop where
 top:H D=some (.lst<|prs.map λx=>.ref x.1)
 row:∀x∈prs,H x.1=some (.lst<|dB x.2)
 can:∀x∈prs,(bf x.2).canLay0=true
theorem Held.grow (h:Held H D prs)(k:Same H H'):Held H' D prs:=⟨k _ _ h.top,λx hx=>k _ _<|h.row x hx,h.can⟩
noncomputable def lO (seen:List Str)(rs:List Str):List Str:=rs.foldl (λs r=>if(s.any λy=>y==r)=true then s else s++[r]) seen
def gG (nm:Str)(k:Int)(r:Row):Row:=if r.1=nm then(r.1,r.2.1,r.2.2.1,r.2.2.2.1+k,r.2.2.2.2) else r
def Vg:bT->List Row->List Row
 |.lay nm a b w l,rows=>rows++[(nm,a,b,w,l)]
 |.shut nm,rows=>rows.filter λr=>!decide (r.1=nm)
 |.widen nm k,rows=>rows.map<|gG nm k
 |.narrow nm k,rows=>rows.map<|gG nm<|-k
def Vh:bT->List Str->List Str
 |.lay _ a b _ _,seen=>lO seen [a,b]
 |_,seen=>seen
theorem aaO (rs:List Str):∀seen,(lO seen rs).length<=seen.length+rs.length:=by
 induction rs with
 |nil=>intro seen;exact le_refl _
 |cons r rs ih=>
  intro seen;have h1:=ih<|if(seen.any λy=>y==r)=true then seen else seen++[r];show(lO (if(seen.any λy=>y==r)=true then seen else seen++[r]) rs).length<=_
  have:(if(seen.any λy=>y==r)=true then seen else seen++[r]).length<=seen.length+1:=by
   split
   .omega
   .rw[length_append];simp
  rw[length_cons];omega
theorem aaP (x:Str)(xs:List Str):inV (.str x) (xs.map V.str)=xs.any λy=>y==x:=by unfold inV;rw[any_map];rfl
theorem R6 {K:Frag}(h:H a=some (.lst<|dB r))(c:(bf r).canLay0=true):Has K H (bf r) (.ref a):=by simp only[bf,canLay0,canLayAll0,and_eq_true] at c;obtain⟨c1,c2,c3,_⟩:=c;refine⟨a,dB r,rfl,aR.of h,?_⟩;refine⟨_,_,rfl,⟨rfl,by simp only[canLay0];exact c1⟩,_,_,rfl,⟨rfl,by simp only[canLay0];exact c2⟩,_,_,rfl,⟨rfl,by simp only[canLay0];exact c3⟩,_,_,rfl,rfl,_,_,rfl,rfl,rfl⟩
theorem zK {K:Frag}:∀{prs:List PR},(∀x∈prs,H x.1=some (.lst<|dB x.2))->(∀x∈prs,(bf x.2).canLay0=true)->aG K H (prs.map λx=>bf x.2) (prs.map λx=>V.ref x.1)
 |[],_,_=>rfl
 |x::r,h,c=>⟨_,_,rfl,R6 (h x<|mem_cons_self ..)<|c x<|mem_cons_self ..,zK (λy hy=>h y<|mem_cons_of_mem _ hy)<|λy hy=>c y<|mem_cons_of_mem _ hy⟩
theorem FJ (h:r.1≠s.1):eqv (bf r) (bf s)=false:=by simp only[bf,eqv,eqvAll];simp[h]
section
variable {K:Frag}{base:Heap}
def R7 (K:Frag):Sp:=λvs H Q _=>∃D sA t prs seen d,vs=[.ref D,.ref sA,.ref t]/\Held H D prs/\H sA=some (.lst<|seen.map V.str)/\(D::sA::prs.map (·.1)).Nodup/\bB K H t (bT.vals d)/\prs.length<100/\seen.length<100/\
 (∀nm a b w l,d=.lay nm a b w l->(bf (nm,a,b,w,l)).canLay0=true)/\
 ∀H' jX,Held H' D jX->jX.map (·.2)=Vg d (prs.map (·.2))->H' sA=some (.lst<|(Vh d seen).map V.str)->(D::sA::jX.map (·.1)).Nodup->(∀b o,b∉D::sA::prs.map (·.1)->H b=some o->H' b=some o)->
  (∀b∈jX.map (·.1),b∈prs.map (·.1)\/H b=none)->Q .non H'
theorem Pj:bM ["_law_held","_law_seen","_law_deed_here","_law_room","_law_row"] ["_law_held","_law_seen","_law_deed_here"] (aN<|top 44):=fs
def fP (K:Frag)(y:Str):TT:=Zb (mU<|gR V8 (gR (sG K) (vR 4)<|tC<|.int 0)<|gR (qI K) (vR 2)<|tC<|.int 1)<|mU<|gR V8 (gR (qI K) (vR 2)<|tC<|.int 0)<|tC<|.str y
theorem qm {d:bT}(e4:σ[4]? =some (some<|.ref a))(e2:σ[2]? =some (some<|.ref t))(ha:H a=some (.lst<|dB r))(ht:bB K H t d.vals)
  (q:Q (decide (r.1=d.nm) && decide (d.word=y)) H):fP K y σ H Q:=by
 refine Kl (K:=K) (λR h=>zJ e4 ha (λR h=>h) rfl h) (λR h=>bK e2 ht d.at1 h) ?_;by_cases e:r.1=d.nm
 .rw[decide_eq_true e,Bool.true_and] at q;rw[if_pos<|decide_eq_true e];exact Kl (K:=K) (λR h=>bK e2 ht d.at0 h) (λR h=>h) q
 .rw[decide_eq_false e,Bool.false_and] at q;rw[if_neg<|by simpa using e];exact q
def tG (K:Frag):TS:=jm (jo (fP K "shut") (gq<|uq K "list" (U0 K) (vR 0)<|bV (vR 4) dI) jk)
 (jm (jo (fP K "widen") (eZ (gR (rM λi j=>.int (i+j)) (gR (sG K) (vR 4) (tC (.int 3))) (gR (qI K) (vR 2) (tC (.int 2)))) (BZ (vR 4) (tC (.int 3)) zY)) jk)
  (jo (fP K "narrow") (eZ (gR (rM λi j=>.int (i - j)) (gR (sG K) (vR 4) (tC (.int 3))) (gR (qI K) (vR 2) (tC (.int 2)))) (BZ (vR 4) (tC (.int 3)) zY)) jk))
theorem op2:gR r ta tb σ H Q=ta σ H λx H1=>tb σ H1 λy H2=>r x y H2 Q:=rfl
theorem oW {d:bT}(h:decide (d.word=y)=false):¬(x && decide (d.word=y))=true:=by rw[h,Bool.and_false];simp
theorem CP {r:Row}{d:bT}(h:decide (d.word=y)=true)(e:r.1=d.nm):(decide (r.1=d.nm) && decide (d.word=y))=true:=by rw[h,Bool.and_true];exact decide_eq_true e
theorem ad4 {r:Row}{d:bT}(e:r.1≠d.nm):¬(decide (r.1=d.nm) && decide (d.word=y))=true:=by rw[decide_eq_false e,Bool.false_and];simp
section
variable {a t D:Addr}{d:bT}
theorem GZ (e4:σ[4]? =some (some<|.ref a))(e2:σ[2]? =some (some<|.ref t))(ha:H a=some (.lst<|dB r))(ht:bB K H t d.vals)(h:r.1≠d.nm\/d.word="lay")(q:Dn.nx σ H):tG K Dn σ H:=by
 have z:∀y:Str,decide (("lay")=y)=false->¬(decide (r.1=d.nm) && decide (d.word=y))=true:=λy hy=>by
  rcases h with h|h
  .exact ad4 h
  .exact oW (by rw[h];exact hy)
 refine qm e4 e2 ha ht ?_;rw[if_neg<|z _<|by decide +kernel];refine qm e4 e2 ha ht ?_;rw[if_neg<|z _<|by decide +kernel];refine qm e4 e2 ha ht ?_;rw[if_neg<|z _<|by decide +kernel];exact q
theorem R8 {nm:Str}(e:r.1=nm):(dB r).set 3 (.int<|r.2.2.2.1+k)=dB (gG nm k r):=by unfold gG;rw[if_pos e];rfl
theorem Vi {nm:Str}{k:Int}(e4:σ[4]? =some (some<|.ref a))(e2:σ[2]? =some (some<|.ref t))(ha:H a=some (.lst<|dB r))(ht:bB K H t (bT.vals<|.widen nm k))(e:r.1=nm)(q:Dn.nx σ (upd H a<|.lst<|dB<|gG nm k r)):tG K Dn σ H:=by
 have hn:∀xs,H a≠some (.tup xs):=λxs z=>by rw[ha] at z;cases z
 have Jr:bB K (upd H a<|.lst<|dB<|gG nm k r) t (bT.vals<|.widen nm k):=by
  rcases ht with(h|⟨o,h⟩)|h
  .exact .inl<|.inl (by rw[ak λz=>by subst z;rw[ha] at h;cases h];exact h)
  .exact .inl<|.inr ⟨o,by rw[ak λz=>by subst z;rw[ha] at h;cases h];exact h⟩
  .exact .inr h
 refine qm e4 e2 ha ht ?_;rw[if_neg<|oW<|show decide ((bT.widen nm k).word="shut")=false from(by decide +kernel:decide (("widen":Str)="shut")=false)];unfold jk;refine qm e4 e2 ha ht ?_;rw[if_pos<|CP (show decide ((bT.widen nm k).word="widen")=true from(by decide +kernel:decide (("widen":Str)="widen")=true)) e];unfold eZ BZ;rw[op2];refine zJ e4 ha (λR h=>h) rfl ?_;refine bK e2 ht rfl ?_;unfold rM;refine aD e4 ⟨_,3,ha,rfl,?_⟩;rw[R8 e];refine qm e4 e2 ao Jr ?_;rw[if_neg<|oW<|show decide ((bT.widen nm k).word="narrow")=false from(by decide +kernel:decide (("widen":Str)="narrow")=false)];exact q
theorem Qs {nm:Str}{k:Int}(e4:σ[4]? =some (some<|.ref a))(e2:σ[2]? =some (some<|.ref t))(ha:H a=some (.lst<|dB r))(ht:bB K H t (bT.vals<|.narrow nm k))(e:r.1=nm)(q:Dn.nx σ (upd H a<|.lst<|dB<|gG nm (-k) r)):tG K Dn σ H:=by refine qm e4 e2 ha ht ?_;rw[if_neg<|oW<|show decide ((bT.narrow nm k).word="shut")=false from(by decide +kernel:decide (("narrow":Str)="shut")=false)];unfold jk;refine qm e4 e2 ha ht ?_;rw[if_neg<|oW<|show decide ((bT.narrow nm k).word="widen")=false from(by decide +kernel:decide (("narrow":Str)="widen")=false)];refine qm e4 e2 ha ht ?_;rw[if_pos<|CP (show decide ((bT.narrow nm k).word="narrow")=true from(by decide +kernel:decide (("narrow":Str)="narrow")=true)) e];unfold eZ BZ;rw[op2];refine zJ e4 ha (λR h=>h) rfl ?_;refine bK e2 ht rfl ?_;unfold rM;dsimp only;refine aD e4 ⟨_,3,ha,rfl,?_⟩;rw[Int.sub_eq_add_neg,R8 e];exact q
theorem Yq {nm:Str}{pre post:List PR}(e0:σ[0]? =some (some<|.ref D))(e4:σ[4]? =some (some<|.ref a))(e2:σ[2]? =some (some<|.ref t))(hD:H D=some (.lst<|(pre++(a,r)::post).map λx=>.ref x.1))(hrow:∀x∈pre++(a,r)::post,H x.1=some (.lst<|dB x.2))
  (hcan:∀x∈pre++(a,r)::post,(bf x.2).canLay0=true)(haD:a≠D)(hpre:∀x∈pre,x.2.1≠nm)(ht:bB K H t (bT.vals<|.shut nm))(e:r.1=nm)(q:Dn.nx σ (upd H D<|.lst<|(pre++post).map λx=>.ref x.1)):tG K Dn σ H:=by
 have ha:=hrow (a,r) (by simp);have Jr:bB K (upd H D<|.lst<|(pre++post).map λx=>.ref x.1) t (bT.vals<|.shut nm):=by
  rcases ht with(h|⟨o,h⟩)|h
  .exact .inl<|.inl (by rw[ak λz=>by subst z;rw[hD] at h;cases h];exact h)
  .exact .inl<|.inr ⟨o,by rw[ak λz=>by subst z;rw[hD] at h;cases h];exact h⟩
  .exact .inr h
 have ha2:upd H D (.lst<|(pre++post).map λx=>.ref x.1) a=some (.lst<|dB r):=by rw[ak haD];exact ha
 refine qm e4 e2 ha ht ?_;rw[if_pos<|CP (show decide ((bT.shut nm).word="shut")=true from(by decide +kernel:decide (("shut":Str)="shut")=true)) e];unfold gq uq bV dI;refine aD e0 ⟨.inl ⟨rfl,_,aR.of hD⟩,aD e4 ⟨D,.ref a,_,_,bf r,pre.length,rfl,rfl,hD,zK hrow hcan,R6 ha<|hcan (a,r)<|by simp,?_,?_,?_,?_⟩⟩
 .simp[bf,PyData.depth,depthAll]
 .simp
 .intro m d' hm hd';rw[getElem?_map] at hd';obtain⟨x,ex,rfl⟩:=map_eq_some_iff.mp hd';by_cases X5:m=pre.length
  .subst X5;rw[getElem?_append_right<|le_refl _,sub_self] at ex;have ex':(a,r)=x:=by simpa using ex
   subst ex';rw[decide_eq_true rfl,SeqAt.eqv_refl _<|hcan (a,r)<|by simp]
  .rw[getElem?_append_left<|by omega] at ex;rw[decide_eq_false X5,FJ];rw[e];exact hpre x<|mem_of_getElem? ex
 .have ee:((pre++(a,r)::post).map λx=>V.ref x.1).eraseIdx pre.length=(pre++post).map λx=>V.ref x.1:=by rw[map_append,map_cons,List.eraseIdx_append_of_length_le (by rw[length_map];exact le_refl _),length_map,sub_self,map_append];rfl
  rw[ee];refine qm e4 e2 ha2 Jr ?_;rw[if_neg<|oW<|show decide ((bT.shut nm).word="widen")=false from(by decide +kernel:decide (("shut":Str)="widen")=false)];refine qm e4 e2 ha2 Jr ?_;rw[if_neg<|oW<|show decide ((bT.shut nm).word="narrow")=false from(by decide +kernel:decide (("shut":Str)="narrow")=false)];exact q
end
end
section
variable {K:Frag}
def Yr:bT->List Row->List Row
 |.lay _ _ _ _ _,rows=>rows
 |.shut nm,rows=>rows.filter λr=>!decide (r.1=nm)
 |.widen nm k,rows=>rows.map<|gG nm k
 |.narrow nm k,rows=>rows.map<|gG nm<|-k
theorem bB.off (h:bB K H t xs)(k:∀o,qz o=true->H t=some o->H' t=some o):bB K H' t xs:=by
 rcases h with(h|⟨o,h⟩)|h
 .exact .inl<|.inl<|k _ rfl h
 .exact .inl<|.inr ⟨o,k _ rfl h⟩
 .exact .inr h
theorem ad5 {nm:Str}(h:(bf r).canLay0=true):(bf<|gG nm k r).canLay0=true:=by
 unfold gG;split
 .simpa only[bf,canLay0,canLayAll0] using h
 .exact h
variable {d:bT}
theorem Pk {nm:Str}(hb:∀{Dn:Ends}{σ:L2.St} {H:Hp} {a:Addr} {r:Row},σ[4]? =some (some<|.ref a)->σ[2]? =some (some<|.ref t)->H a=some (.lst<|dB r)->bB K H t d.vals->r.1=nm->Dn.nx σ (upd H a<|.lst<|dB<|gG nm k r)->tG K Dn σ H)(hnm:d.nm=nm)
  (hH:Held H D prs)(hnd:(D::prs.map (·.1)).Nodup)(hlz:H lz=some (.lst<|prs.map λx=>.ref x.1))(hz:lz∉D::prs.map (·.1))(ht:bB K H t d.vals)
  (q:∀H' jX x4,Held H' D jX->jX.map (·.2)=(prs.map (·.2)).map (gG nm k)->(jX.map (·.1)).Sublist (prs.map (·.1))->(∀b o,b∉D::prs.map (·.1)->H b=some o->H' b=some o)->Dn.nx [some<|.ref D,some<|.ref sA,some<|.ref t,x3,x4] H'):
  vJ (xY K lz) (cC 4) (tG K) Dn [some<|.ref D,some<|.ref sA,some<|.ref t,x3,x4] H:=by
 have hnd2:=(nodup_cons.mp hnd).2;have Jm:=(nodup_cons.mp hnd).1;have hz2:lz∉prs.map (·.1):=λz=>hz<|mem_cons_of_mem _ z;refine forL (λi σ' H'=>(∃y,σ'=[some<|.ref D,some<|.ref sA,some<|.ref t,x3,y])/\(∀j (x:PR),prs[j]? =some x->H' x.1=some (.lst<|dB<|if j<i then gG nm k x.2 else x.2))/\∀b o,b∉prs.map (·.1)->H b=some o->H' b=some o)
  ⟨⟨_,rfl⟩,λj x e=>by rw[if_neg<|Nat.not_lt_zero _];exact hH.row x<|mem_of_getElem? e,λ_ _ _ e=>e⟩ (λi σ' H' _ h=>aR.of (h.2.2 _ _ hz2 hlz)) ?_ ?_
 .rintro i v σ' H' hv ⟨⟨y,rfl⟩,i1,i2⟩;rw[getElem?_map] at hv;obtain⟨x,ex,rfl⟩:=map_eq_some_iff.mp hv;have hx:=i1 i x ex;rw[if_neg (lt_irrefl _)] at hx;have ht':=bB.off ht λo ho e=>i2 _ _ (λz=>by
   obtain⟨p,hp,e2⟩:=mem_map.mp z;rw[<-e2,hH.row p hp] at e;cases e;cases ho) e
  by_cases e:x.2.1=nm
  .refine hb rfl rfl hx ht' e ⟨⟨_,rfl⟩,λj z ez=>?_,λb o hbn eo=>?_⟩
   .by_cases hj:z.1=x.1
    .have:j=i:=(List.getElem?_inj (by
      rcases Nat.lt_or_ge j (prs.map (·.1)).length with g|g
      .exact g
      .rw[getElem?_eq_none (by rw[length_map] at g;exact g)] at ez;cases ez) hnd2).mp (by rw[getElem?_map,getElem?_map,ez,ex];exact congrArg some hj)
     subst this;rw[ex] at ez;cases ez;rw[ao,if_pos<|lt_succ_self _]
    .rw[ak hj,i1 j z ez]
     have:j≠i:=λg=>by subst g;rw[ex] at ez;cases ez;exact hj rfl
     by_cases g:j<i
     .rw[if_pos g,if_pos<|by omega]
     .rw[if_neg g,if_neg<|by omega]
   .rw[ak λg=>hbn (by rw[g];exact mem_map_of_mem<|mem_of_getElem? ex)];exact i2 b o hbn eo
  .refine GZ rfl rfl hx ht' (.inl (by rw[hnm];exact e)) ⟨⟨_,rfl⟩,λj z ez=>?_,i2⟩;rw[i1 j z ez];by_cases g:j<i
   .rw[if_pos g,if_pos<|by omega]
   .by_cases g2:j=i
    .subst g2;rw[ex] at ez;cases ez;rw[if_neg g,if_pos<|by omega];unfold gG;rw[if_neg e]
    .rw[if_neg g,if_neg<|by omega]
 .rintro σ' H' ⟨⟨y,rfl⟩,i1,i2⟩;refine q H' (prs.map λx=>(x.1,gG nm k x.2)) y ⟨?_,λx hx=>?_,λx hx=>?_⟩ ?_ ?_ λb o hb e=>i2 b o (λz=>hb<|mem_cons_of_mem _ z) e
  .rw[map_map];exact i2 D _ Jm hH.top
  .obtain⟨z,hz,rfl⟩:=mem_map.mp hx;obtain⟨j,hj,rfl⟩:=List.getElem_of_mem hz;rw[i1 j prs[j]<|by simp[hj],if_pos (by rw[length_map];exact hj)]
  .obtain⟨z,hz,rfl⟩:=mem_map.mp hx;exact ad5<|hH.can z hz
  .rw[map_map,map_map];rfl
  .rw[map_map];exact List.Sublist.refl _
theorem Ys (hH:Held H D prs)(hnd:(D::prs.map (·.1)).Nodup)(hlz:H lz=some (.lst<|prs.map λx=>.ref x.1))(hz:lz∉D::prs.map (·.1))(ht:bB K H t d.vals)
  (q:∀H' jX x4,Held H' D jX->jX.map (·.2)=Yr d (prs.map (·.2))->(jX.map (·.1)).Sublist (prs.map (·.1))->(∀b o,b∉D::prs.map (·.1)->H b=some o->H' b=some o)->Dn.nx [some<|.ref D,some<|.ref sA,some<|.ref t,x3,x4] H'):
  vJ (xY K lz) (cC 4) (tG K) Dn [some<|.ref D,some<|.ref sA,some<|.ref t,x3,x4] H:=by
 have Jm:=(nodup_cons.mp hnd).1;have hlD:lz≠D:=λz=>hz (by rw[z];exact mem_cons_self ..);cases d with
 |lay nm a b w l=>
  refine forL (λi σ' H'=>(∃y,σ'=[some<|.ref D,some<|.ref sA,some<|.ref t,x3,y])/\H'=H) ⟨⟨_,rfl⟩,rfl⟩ (λi σ' H' _ h=>by rw[h.2];exact aR.of hlz) ?_ ?_
  .rintro i v σ' H' hv ⟨⟨y,rfl⟩,rfl⟩;rw[getElem?_map] at hv;obtain⟨x,ex,rfl⟩:=map_eq_some_iff.mp hv;exact GZ rfl rfl (hH.row x<|mem_of_getElem? ex) ht (.inr rfl) ⟨⟨_,rfl⟩,rfl⟩
  .rintro σ' H' ⟨⟨y,rfl⟩,rfl⟩;exact q _ prs y hH rfl (List.Sublist.refl _) λ_ _ _ e=>e
 |shut nm=>
  refine forL (λi σ' H'=>(∃y,σ'=[some<|.ref D,some<|.ref sA,some<|.ref t,x3,y])/\H' D=some (.lst<|((prs.take i).filter (λx=>!decide (x.2.1=nm))++prs.drop i).map λx=>.ref x.1)/\∀b o,b≠D->H b=some o->H' b=some o)
   ⟨⟨_,rfl⟩,hH.top,λ_ _ _ e=>e⟩ (λi σ' H' _ h=>aR.of (h.2.2 _ _ hlD hlz)) ?_ ?_
  .rintro i v σ' H' hv ⟨⟨y,rfl⟩,i1,i2⟩;rw[getElem?_map] at hv;obtain⟨x,ex,rfl⟩:=map_eq_some_iff.mp hv;have hi:=(List.getElem?_eq_some_iff.mp ex).1;have exi:=(List.getElem?_eq_some_iff.mp ex).2;have ed:prs.drop i=x::prs.drop (i+1):=by rw[List.drop_eq_getElem_cons hi,exi]
   have et:prs.take (i+1)=prs.take i++[x]:=by rw[take_succ,ex];rfl
   have agL:∀z∈prs,z.1≠D:=λz hz g=>Jm (by rw[<-g];exact mem_map_of_mem hz);have hrow:∀z∈prs,H' z.1=some (.lst<|dB z.2):=λz hz=>i2 _ _ (agL z hz)<|hH.row z hz;have hx:=hrow x<|mem_of_getElem? ex;have ht':=bB.off ht λo ho e=>i2 _ _ (λz=>by rw[z,hH.top] at e;cases e;cases ho) e;have hsub:∀z∈(prs.take i).filter (λx=>!decide (x.2.1=nm))++x::prs.drop (i+1),z∈prs:=λz hz=>by
    rcases mem_append.mp hz with g|g
    .exact mem_of_mem_take<|(mem_filter.mp g).1
    .rw[<-ed] at g;exact List.mem_of_mem_drop g
   by_cases e:x.2.1=nm
   .rw[ed] at i1;refine Yq rfl rfl rfl i1 (λz hz=>hrow z<|hsub z hz) (λz hz=>hH.can z<|hsub z hz) (agL x<|mem_of_getElem? ex) (λz hz=>?_) ht' e ⟨⟨_,rfl⟩,?_,λb o hb eo=>?_⟩
    .have:=(mem_filter.mp hz).2;simpa using this
    .rw[ao,et,filter_append];simp[e]
    .rw[ak hb];exact i2 b o hb eo
   .refine GZ rfl rfl hx ht' (.inl e) ⟨⟨_,rfl⟩,?_,i2⟩;rw[i1,ed,et,filter_append];simp[e]
  .rintro σ' H' ⟨⟨y,rfl⟩,i1,i2⟩;rw[length_map,take_of_length_le<|le_refl _,List.drop_of_length_le<|le_refl _,append_nil] at i1;have hm:∀z∈prs.filter (λx=>!decide (x.2.1=nm)),z∈prs:=λz hz=>(mem_filter.mp hz).1;refine q H' (prs.filter λx=>!decide (x.2.1=nm)) y ⟨i1,λz hz=>i2 _ _ (λg=>Jm (by rw[<-g];exact mem_map_of_mem<|hm z hz)) (hH.row z<|hm z hz),λz hz=>hH.can z<|hm z hz⟩ ?_ ((List.filter_sublist).map _) λb o hb e=>i2 b o (λz=>hb (by rw[z];exact mem_cons_self ..)) e;show _=(prs.map (·.2)).filter _;rw[List.filter_map];rfl
 |widen nm k=>exact Pk (λe4 e2 ha ht e q=>Vi e4 e2 ha ht e q) rfl hH hnd hlz hz ht q
 |narrow nm k=>exact Pk (λe4 e2 ha ht e q=>Qs e4 e2 ha ht e q) rfl hH hnd hlz hz ht q
end
section
variable {K:Frag}
variable {seen:List Str}
theorem Yt (hH:Held H D prs)(hnd:(D::prs.map (·.1)).Nodup)(ht:bB K H t d.vals)
  (q:∀H' jX x4,Held H' D jX->jX.map (·.2)=Yr d (prs.map (·.2))->(jX.map (·.1)).Sublist (prs.map (·.1))->(∀b o,b∉D::prs.map (·.1)->H b=some o->H' b=some o)->Dn.nx [some<|.ref D,some<|.ref sA,some<|.ref t,x3,x4] H'):
  Te (qG K<|pJ (yr K)<|bV (vR 0) dI) (cC 4) (tG K) Dn [some<|.ref D,some<|.ref sA,some<|.ref t,x3,x4] H:=by
 rw[iy];unfold qG pJ bV dI;refine aD rfl ⟨_,.inl<|aR.of hH.top,λlz hlz=>⟨lz,rfl,⟨_,aR.of ao⟩,?_⟩⟩;have sm:=aF (o:=.lst<|prs.map λx=>.ref x.1) hlz;refine Ys (hH.grow sm) hnd ao (λz=>?_) (sm.vH ht) λH' jX y a1 a2 a3 a4=>q H' jX y a1 a2 a3 λb o hb e=>a4 b o hb<|sm _ _ e;rcases mem_cons.mp z with g|g
 .rw[g,hH.top] at hlz;cases hlz
 .obtain⟨p,hp,e⟩:=mem_map.mp g;rw[<-e,hH.row p hp] at hlz;cases hlz
def Pn (K:Frag):TS:=jo (mU<|gR (rIn K true) (vR 3)<|vR 1) (gq<|uq K "list" zZ (vR 1)<|bV (vR 3) dI) jk
theorem Yu {seen rs:List Str}(e:rs[i]? =some r):lO seen (rs.take<|i+1)=if((lO seen<|rs.take i).any λy=>y==r)=true then lO seen (rs.take i) else lO seen (rs.take i)++[r]:=by rw[take_succ,e];unfold lO;rw[foldl_append];rfl
theorem Yv {a b:Str}(htt:bB K H tt [.str a,.str b])(hs:H sA=some (.lst<|seen.map V.str))(hl:seen.length<1000)
  (q:∀H' x3,H' sA=some (.lst<|(lO seen [a,b]).map V.str)->(∀c o,c≠sA->H c=some o->H' c=some o)->Dn.nx [some<|.ref D,some<|.ref sA,some<|.ref t,x3,x4] H'):
  vJ (KC K tt) (cC 3) (Pn K) Dn [some<|.ref D,some<|.ref sA,some<|.ref t,x3,x4] H:=by
 refine ade (xs:=[a,b].map V.str) (λi σ' H'=>(∃y,σ'=[some<|.ref D,some<|.ref sA,some<|.ref t,y,x4])/\H' sA=some (.lst<|(lO seen<|[a,b].take i).map V.str)/\∀c o,c≠sA->H c=some o->H' c=some o) ⟨⟨_,rfl⟩,hs,λ_ _ _ e=>e⟩
  (λi σ' H' _ h=>bB.off htt λo ho e=>h.2.2 _ _ (λz=>by rw[z,hs] at e;cases e;cases ho) e) ?_ ?_
 .rintro i v σ' H' hv ⟨⟨y,rfl⟩,i1,i2⟩;rw[getElem?_map] at hv;obtain⟨r,er,rfl⟩:=map_eq_some_iff.mp hv;show Pn K _ [some<|.ref D,some<|.ref sA,some<|.ref t,some<|.str r,x4] H';unfold Pn jo mU;rw[op2];refine aD rfl (aD rfl ⟨sA,_,rfl,.inl<|aR.of i1,rfl,by rw[List.all_map];simp[oZ],?_⟩);rw[aaP];have st:=Yu (seen:=seen) er;show(if(!(lO seen<|[a,b].take i).any λy=>y==r)=true then _ else _);have hlen:(lO seen<|[a,b].take i).length<2000:=by
   have:=aaO ([a,b].take i) seen
   have:([a,b].take i).length<=2:=by rw[length_take];exact Nat.min_le_right _ _
   omega
  by_cases c:((lO seen<|[a,b].take i).any λy=>y==r)=true
  .rw[if_neg (by rw[c];simp)];rw[if_pos c] at st;exact⟨⟨_,rfl⟩,by rw[st];exact i1,i2⟩
  .rw[if_pos (by rw[eq_false_iff.mpr c];rfl)];rw[if_neg c] at st;unfold gq uq bV dI;refine aD rfl ⟨.inl ⟨rfl,_,aR.of i1⟩,aD rfl ⟨_,i1,aY (by rw[length_map];omega),⟨_,rfl⟩,?_,λc o hc e=>?_⟩⟩
   .rw[ao,st,map_append];rfl
   .rw[ak hc];exact i2 c o hc e
 .rintro σ' H' ⟨⟨y,rfl⟩,i1,i2⟩;exact q H' y i1 i2
theorem aaQ (F:bJ K "_law_noted" "_law_noted" (top 44) f fd)(B:Bl mg):aX P w K mg base bO 1 f fd ["_law_held","_law_seen","_law_deed_here"] (R7 K):=by
 have nd:=Pj.nd;have vt:=(show(["_law_held","_law_seen","_law_deed_here","_law_room","_law_row"]:List Str).all (λx=>tK (aN (top 44)) x && plain x)=true by decide +kernel);refine bJ.ok F Pj (λvs H Q E h=>by obtain⟨_,_,_,_,_,_,rfl,_⟩:=h;rfl) λcdv A outer s H vs Q E hr hsp=>?_;obtain⟨D,sA,t,prs,seen,d,rfl,hH,hs,hnd,ht,hl1,hl2,hcan,hq⟩:=hsp;refine⟨_,aH (dD (jY lZ (bh cN (pV vt 2) aJ) pF)
   (aH (cL (Aa (pV vt 0) (aj (yd (aj (bh cN (pV vt 2) aJ) (aj (bh cN (pV vt 2) aJ) (aj (bh cN (pV vt 2) aJ) (aj (bh cN (pV vt 2) aJ) (aj (bh cN (pV vt 2) aJ) aO)))))) aO)))
   (aP (iV PassesOwn.never rfl (V5 (q8 aeU (pV vt 2) (qQ aJ) (qQ aJ))) (cj (i:=3) nd rfl lx)
    (aP (dD (jY yg (pV vt 3) (pV vt 1)) (aP (cL (Aa (pV vt 1) (aj (pV vt 3) aO)))) cg))))) cg)
  (aP (iV PassesOwn.never rfl (iw (jE J2 gx B.list PyProof.Rows.boot_list (aj (pV vt 0) aO))) (cj (i:=4) nd rfl lx)
   (aH (dD (PW.pt (Dq (jY lZ (bh pL (pV vt 4) aJ) (bh cN (pV vt 2) aJ)) (zU (jY lZ (bh cN (pV vt 2) aJ) pF)))) (aP (cL (aib hr.units (pV vt 0) (aj (pV vt 4) aO)))) cg)
   (aH (dD (PW.pt (Dq (jY lZ (bh pL (pV vt 4) aJ) (bh cN (pV vt 2) aJ)) (zU (jY lZ (bh cN (pV vt 2) aJ) pF)))) (aP (nq (iW tL (bh pL (pV vt 4) aJ) (bh cN (pV vt 2) aJ)) (Ky (pV vt 4) aJ Ln))) cg)
   (aP (dD (PW.pt (Dq (jY lZ (bh pL (pV vt 4) aJ) (bh cN (pV vt 2) aJ)) (zU (jY lZ (bh cN (pV vt 2) aJ) pF)))) (aP (nq (iW Gm (bh pL (pV vt 4) aJ) (bh cN (pV vt 2) aJ)) (Ky (pV vt 4) aJ Ln))) cg)))))),?_⟩
 obtain⟨hD1,akY⟩:=nodup_cons.mp hnd;obtain⟨hs1,hnd2⟩:=nodup_cons.mp akY;have FN:D≠sA:=λz=>hD1 (by rw[z];exact mem_cons_self ..);have Nu:D∉prs.map (·.1):=λz=>hD1<|mem_cons_of_mem _ z;unfold jm jo;refine Kl (K:=K) (λR h=>bK rfl ht d.at0 h) (λR h=>h) ?_;cases d with
 |lay nm a b w l=>
  rw[if_pos<|show decide ((bT.lay nm a b w l).word="lay")=true from(by decide +kernel:decide (("lay":Str)="lay")=true)];unfold gq uq bV KJ;refine aD rfl ⟨.inl ⟨rfl,_,aR.of hH.top⟩,bK rfl ht rfl<|bK rfl ht rfl<|bK rfl ht rfl<|bK rfl ht rfl<|bK rfl ht rfl ⟨by show 5<=sizeLine;decide,λra hra=>?_⟩⟩;have s1:=aF (o:=.lst<|dB (nm,a,b,w,l)) hra;have agM:=aU hH.top hra;have akZ:=aU hs hra;refine⟨_,s1 _ _ hH.top,aY (by rw[length_map];omega),?_⟩;have hrp:∀x∈prs,x.1≠ra:=λx hx=>aU (hH.row x hx) hra;have hxD:∀x∈prs,x.1≠D:=λx hx g=>Nu (by rw[<-g];exact mem_map_of_mem hx);have Km:Held (upd (upd H ra<|.lst<|dB (nm,a,b,w,l)) D<|.lst<|(prs.map λx=>.ref x.1)++[.ref ra]) D (prs++[(ra,(nm,a,b,w,l))]):=by
   refine⟨by rw[ao,map_append];rfl,λx hx=>?_,λx hx=>?_⟩
   .rcases mem_append.mp hx with g|g
    .rw[ak<|hxD x g];exact s1 _ _<|hH.row x g
    .rw[mem_singleton.mp g,ak agM.symm,ao]
   .rcases mem_append.mp hx with g|g
    .exact hH.can x g
    .rw[mem_singleton.mp g];exact hcan _ _ _ _ _ rfl
  have hs2:upd (upd H ra<|.lst<|dB (nm,a,b,w,l)) D (.lst<|(prs.map λx=>.ref x.1)++[.ref ra]) sA=some (.lst<|seen.map V.str):=by rw[ak FN.symm];exact s1 _ _ hs
  have fr1:∀c o,c≠D->H c=some o->upd (upd H ra<|.lst<|dB (nm,a,b,w,l)) D (.lst<|(prs.map λx=>.ref x.1)++[.ref ra]) c=some o:=λc o hc e=>by rw[ak hc];exact s1 _ _ e
  have ht1:=bB.off ht λo ho e=>fr1 _ _ (λz=>by rw[z,hH.top] at e;cases e;cases ho) e;have aij:∀c,upd (upd H ra<|.lst<|dB (nm,a,b,w,l)) D (.lst<|(prs.map λx=>.ref x.1)++[.ref ra]) c=none->H c=none:=λc e=>by
   by_cases hc:c=D
   .subst hc;rw[ao] at e;cases e
   .rw[ak hc] at e;exact s1.free e
  have eM:(prs++[(ra,(nm,a,b,w,l))]).map (·.1)=prs.map (·.1)++[ra]:=by rw[map_append];rfl
  have Vj:(D::sA::(prs++[(ra,(nm,a,b,w,l))]).map (·.1)).Nodup:=by
   rw[eM];have hra':ra∉prs.map (·.1):=λz=>by obtain⟨x,hx,e⟩:=mem_map.mp z;exact hrp x hx e
   refine nodup_cons.mpr ⟨λz=>?_,nodup_cons.mpr ⟨λz=>?_,nodup_append.mpr ⟨hnd2,by simp,λx hx y hy g=>?_⟩⟩⟩
   .rcases mem_cons.mp z with g|g
    .exact FN g
    .rcases mem_append.mp g with g|g
     .exact Nu g
     .exact agM<|mem_singleton.mp g
   .rcases mem_append.mp z with g|g
    .exact hs1 g
    .exact akZ<|mem_singleton.mp g
   .rw[mem_singleton.mp hy] at g;exact hra'<|g▸hx
  rw[show([V.str nm,V.str a,V.str b,V.int w,V.int l])=dB (nm,a,b,w,l) from rfl];generalize upd (upd H ra<|.lst<|dB (nm,a,b,w,l)) D (.lst<|(prs.map λx=>.ref x.1)++[.ref ra])=H1 at Km hs2 fr1 ht1 aij ⊢;dsimp only;rw[iy];unfold Zg tSl JZ;refine aD rfl ⟨2,rfl,4,rfl,t,_,rfl,ht1,by show ¬(HT.bH 6 0 (some 2)=0/\HT.bH 6 6 (some 4)=6);decide,λtt htt=>⟨tt,rfl,⟨_,bB.of ao⟩,?_⟩⟩;have s2:=aF (o:=.tup [.str a,.str b]) htt;refine Yv (bB.of ao) (s2 _ _ hs2) (by omega) λH2 x3 g1 g2=>?_;have aik:Held H2 D (prs++[(ra,(nm,a,b,w,l))]):=by refine⟨g2 _ _ FN<|s2 _ _ Km.top,λx hx=>g2 _ _ (λz=>?_)<|s2 _ _<|Km.row x hx,Km.can⟩;have:=(nodup_cons.mp (nodup_cons.mp Vj).2).1;exact this (by rw[<-z];exact mem_map_of_mem hx)
  have Jr:=bB.off (s2.vH ht1) λo ho e=>g2 _ _ (λz=>by rw[z,s2 _ _ hs2] at e;cases e;cases ho) e;have aaR:=nodup_cons.mpr ⟨λz=>(nodup_cons.mp Vj).1<|mem_cons_of_mem _ z,(nodup_cons.mp (nodup_cons.mp Vj).2).2⟩;refine Yt aik aaR Jr λH3 aaS x4 a1 a2 a3 a4=>?_;have hsN:sA∉D::(prs++[(ra,(nm,a,b,w,l))]).map (·.1):=λz=>by
   rcases mem_cons.mp z with g|g
   .exact FN g.symm
   .exact(nodup_cons.mp (nodup_cons.mp Vj).2).1 g
  refine hq H3 aaS a1 ?_ (a4 _ _ hsN g1) ?_ (λc o hc e=>?_) λc hc=>?_
  .rw[a2,map_append];rfl
  .refine nodup_cons.mpr ⟨λz=>?_,nodup_cons.mpr ⟨λz=>?_,a3.nodup (nodup_cons.mp aaR).2⟩⟩
   .rcases mem_cons.mp z with g|g
    .exact FN g
    .exact(nodup_cons.mp aaR).1<|a3.subset g
   .exact hsN<|mem_cons_of_mem _<|a3.subset z
  .have hcD:c≠D:=λz=>hc (by rw[z];exact mem_cons_self ..);have hcs:c≠sA:=λz=>hc (by rw[z];exact mem_cons_of_mem _<|mem_cons_self ..);refine a4 _ _ (λz=>?_)<|g2 _ _ hcs<|s2 _ _<|fr1 _ _ hcD e;rcases mem_cons.mp z with g|g
   .exact hcD g
   .rw[eM] at g;rcases mem_append.mp g with g|g
    .exact hc<|mem_cons_of_mem _<|mem_cons_of_mem _ g
    .rw[mem_singleton.mp g,hra] at e;cases e
  .have:=a3.subset hc;rw[eM] at this;rcases mem_append.mp this with g|g
   .exact .inl g
   .rw[mem_singleton.mp g];exact .inr hra
 |_=>
  rw[if_neg<|by first|exact(by decide +kernel)|exact(by decide +kernel)|exact(by decide +kernel:¬decide (("narrow":Str)="lay")=true)];refine Yt hH (nodup_cons.mpr ⟨Nu,hnd2⟩) ht λH3 aaS x4 a1 a2 a3 a4=>?_;refine hq H3 aaS a1 a2 (a4 _ _ (λz=>?_) hs) ?_ (λc o hc e=>?_) λc hc=>.inl<|a3.subset hc
  .rcases mem_cons.mp z with g|g
   .exact FN g.symm
   .exact hs1 g
  .refine nodup_cons.mpr ⟨λz=>?_,nodup_cons.mpr ⟨λz=>hs1<|a3.subset z,a3.nodup hnd2⟩⟩;rcases mem_cons.mp z with g|g
   .exact FN g
   .exact Nu<|a3.subset g
  .refine a4 _ _ (λz=>?_) e;rcases mem_cons.mp z with g|g
   .exact hc (by rw[g];exact mem_cons_self ..)
   .exact hc<|mem_cons_of_mem _<|mem_cons_of_mem _ g
end
end lW
namespace VM
open PyProof.Rows L2
def acQ (K:Frag):List V->Hp->VK->Prop:=λxs H Q=>∃p ys,xs=[.ref p]/\((aR K H p ys/\∀l,H l=none->Q (.ref l) (upd H l<|.tup ys))\/(bB K H p ys/\Q (.ref p) H))
theorem ak0:dg X (.type "tuple") (acQ X.K):=Jy
noncomputable def Pr (f:VE):VE:=λS=>match f S with
 |some (.list ds)=>some<|.tuple ds
 |_=>none
theorem agO (he:PE X e (pJ (acQ X.K)<|bV (tV X.K RM f) dI)):PE X e (tV X.K RS<|Pr f):=he.imp λ_ H Q q=>by
 obtain⟨au,G,H₀,S,F,I,d,e,q⟩:=q;unfold Pr at e;split at e
 .rename_i ds q1;cases e;refine⟨au,G,H₀,S,F,I,_,q1,λv F1 H1 g1 hx=>?_⟩;obtain⟨p,xs,rfl,h1,h2⟩:=RM.list g1.fh hx;refine⟨p,xs,rfl,.inl ⟨h1,λz hz=>q _ (upd F1 z<|.tup xs) _ (g1.trans<|bA.DK g1.fh hz) ⟨z,xs,rfl,bB.of ao,h2.same<|aF<|g1.fh.free hz⟩⟩⟩
 .cases e
section
variable {K:Frag}
def mK (K:Frag)(H:Hp):GS->St->Prop
 |[],σ=>σ=[]
 |none::S,σ=>∃x r,σ=x::r/\mK K H S r
 |some (t,d)::S,σ=>∃v r,σ=some v::r/\t=.fr/\Has K H d v/\mK K H S r
theorem mK.len:∀{S:GS}{σ:St},mK K H S σ->S.length=σ.length
 |[],σ,h=>by rw[show σ=[] from h];rfl
 |none::S,σ,⟨x,r,e,h⟩=>by rw[e,length_cons,length_cons,mK.len h]
 |some (t,d)::S,σ,⟨v,r,e,_,_,h⟩=>by rw[e,length_cons,length_cons,mK.len h]
theorem mK.slot:∀{S:GS}{σ:St},mK K H S σ->∀(i:Nat) t d,S[i]? =some (some (t,d))->t=.fr/\∃v,σ[i]? =some (some v)/\Has K H d v
 |[],σ,_,i,t,d,e=>by simp at e
 |none::S,σ,⟨x,r,e,h⟩,i,t,d,e2=>by
  subst e;cases i with
  |zero=>cases e2
  |succ i=>exact mK.slot h i t d e2
 |some (t0,d0)::S,σ,⟨v,r,e,h1,h2,h⟩,i,t,d,e2=>by
  subst e;cases i with
  |zero=>cases e2;exact⟨h1,v,rfl,h2⟩
  |succ i=>exact mK.slot h i t d e2
theorem VI.at (h:mK K H S σ):VI K (λ_=>none) H H S H σ H where
 len:=h.len
 same:=Same.refl _
 gf:=Same.refl _
 new:=λ_ _ e=>.inl e
 sub:=Same.refl _
 slot:=λi t d e=>by obtain⟨rfl,v,e1,e2⟩:=h.slot i t d e;exact⟨v,e1,e2⟩
 inj:=λi j t t' d d' v e1 _ o1 _ _ _=>by obtain⟨rfl,_⟩:=h.slot i t d e1;cases o1
 pl:=λ_ _ _ e=>e
theorem wQ (h:mK K H S σ)(e:f S=some d)(q:∀v H',Same H H'->Has K H' d v->Q v H'):tV K RS f σ H Q:=
 ⟨_,_,_,S,H,VI.at h,d,e,λv _ H' g hv=>q v H' g.hh<|Has.same g.fh hv⟩
theorem Yw (h:mK K H S σ)(e:f S=some (.list ds))(q:∀a xs H',Same H H'->H a=none->H' a=some (.lst xs)->aG K H' ds xs->Q (.ref a) H'):tV K RN f σ H Q:=
 ⟨_,_,_,S,H,VI.at h,_,e,λv F' H' g hv=>by
  obtain⟨ds',a,xs,e1,rfl,h1,_,h3,h4⟩:=hv;cases e1;exact q a xs H' g.hh h1 h3 (aG.same g.fh h4)⟩
theorem zL (h:mK K H S σ)(e:f S=some b)(q:∀H',Same H H'->Q b H'):ji K f σ H Q:=
 ⟨_,_,_,S,H,VI.at h,b,e,λ_ H' g=>q H' g.hh⟩
end
end VM
namespace lW
open PyProof.Rows L2 VM
noncomputable def wR (r:Row):PyData:=.tuple [.str r.1,.str r.2.1,.str r.2.2.1,.int r.2.2.2.1,.int r.2.2.2.2]
def eO (rows:List Row):PyData:=.list<|rows.map bf
def Al (rows:List Row):PyData:=.list<|rows.map wR
noncomputable def bD (xs:List Str):PyData:=.list<|xs.map .str
theorem CQ (h:d.depth<=60)(c:d.canLay0=true):jN d d=some (.bool false):=by unfold jN;rw[if_pos h,SeqAt.eqv_refl _ c];rfl
theorem kY:∀(ds:List PyData) (n:Nat),(∀d∈ds,d.depth<=n)->depthAll ds<=n+1
 |[],_,_=>by simp[depthAll]
 |d::r,n,h=>by have h1:=h d<|mem_cons_self ..;have h2:=kY r n λx hx=>h x<|mem_cons_of_mem _ hx;simp only[depthAll];omega
theorem G3:∀(ds:List PyData),(∀d∈ds,d.canLay0=true)->canLayAll0 ds=true
 |[],_=>rfl
 |d::r,h=>by simp only[canLayAll0,and_eq_true];exact⟨h d<|mem_cons_self ..,G3 r λx hx=>h x<|mem_cons_of_mem _ hx⟩
theorem Vk (xs:List Str):(bD xs).depth<=60:=by have:=kY (xs.map PyData.str) 5 (λd hd=>by obtain⟨x,_,rfl⟩:=mem_map.mp hd;simp[PyData.depth]);simp only[bD,PyData.depth];omega
theorem aaT (h:∀x∈xs,(PyData.str x).canLay0=true):(bD xs).canLay0=true:=by simp only[bD,canLay0];exact G3 _ λd hd=>by obtain⟨x,hx,rfl⟩:=mem_map.mp hd;exact h x hx
theorem Vl (rows:List Row):(Al rows).depth<=60:=by have:=kY (rows.map wR) 10 (λd hd=>by obtain⟨x,_,rfl⟩:=mem_map.mp hd;simp[wR,PyData.depth,depthAll]);simp only[Al,PyData.depth];omega
theorem aaU (h:(bf r).canLay0=true):(wR r).canLay0=true:=by simpa only[bf,wR,canLay0] using h
theorem aaV (h:∀r∈rows,(bf r).canLay0=true):(Al rows).canLay0=true:=by simp only[Al,canLay0];exact G3 _ λd hd=>by obtain⟨x,hx,rfl⟩:=mem_map.mp hd;exact aaU<|h x hx
section
variable {K:Frag}
theorem agP (h:mK K H S σ)(e:f S=some d)(q:∀v H',Same H H'->Has K H' d v->Q v H'):tV K RW f σ H Q:=
 ⟨_,_,_,S,H,VI.at h,d,e,λv _ H' g hv=>q v H' g.hh hv⟩
theorem zM:∀{xs:List Str},(∀x∈xs,(PyData.str x).canLay0=true)->aG K H (xs.map .str) (xs.map V.str)
 |[],_=>rfl
 |x::r,h=>⟨_,_,rfl,⟨rfl,h x<|mem_cons_self ..⟩,zM λy hy=>h y<|mem_cons_of_mem _ hy⟩
theorem CT (h:H a=some (.lst<|xs.map V.str))(c:∀x∈xs,(PyData.str x).canLay0=true):Has K H (bD xs) (.ref a):=⟨a,_,rfl,aR.of h,zM c⟩
theorem aaW (h:O8 H v r)(c:(bf r).canLay0=true):Has K H (wR r) v:=by obtain⟨t,rfl,h⟩:=h;simp only[bf,canLay0,canLayAll0,and_eq_true] at c;obtain⟨c1,c2,c3,_⟩:=c;refine⟨t,dB r,rfl,bB.of h,?_⟩;refine⟨_,_,rfl,⟨rfl,by simp only[canLay0];exact c1⟩,_,_,rfl,⟨rfl,by simp only[canLay0];exact c2⟩,_,_,rfl,⟨rfl,by simp only[canLay0];exact c3⟩,_,_,rfl,rfl,_,_,rfl,rfl,rfl⟩
theorem Js:∀{ts:List V}{rows:List Row},Paired (O8 H) ts rows->(∀r∈rows,(bf r).canLay0=true)->aG K H (rows.map wR) ts
 |_,_,.nil,_=>rfl
 |_,_,.cons h r,c=>⟨_,_,rfl,aaW h<|c _<|mem_cons_self ..,Js r λy hy=>c y<|mem_cons_of_mem _ hy⟩
theorem aaX (h:H a=some (.lst ts))(p:Paired (O8 H) ts rows)(c:∀r∈rows,(bf r).canLay0=true):Has K H (Al rows) (.ref a):=⟨a,_,rfl,aR.of h,Js p c⟩
theorem Held.agQ (h:Held H D prs):∀r∈prs.map (·.2),(bf r).canLay0=true:=λr hr=>by obtain⟨x,hx,rfl⟩:=mem_map.mp hr;exact h.can x hx
theorem Held.has (h:Held H D prs):Has K H (eO<|prs.map (·.2)) (.ref D):=⟨D,_,rfl,aR.of h.top,by rw[map_map];exact zK h.row h.can⟩
end
noncomputable def cM (ns:List Int)(k:Int):Int:=ns.getD k.toNat 0
theorem NT {ns:List Int}{k:Int}(h0:0<=k)(h1:k<ns.length):bW (ns.map PyData.int) k=some (.int<|cM ns k):=by
 obtain⟨j,rfl⟩:∃j:Nat,k=j:=⟨k.toNat,by omega⟩;have hj:j<ns.length:=by omega
 refine dY ?_;simp[hj,cM]
noncomputable def G4 (n:Int):Nat->Int
 |0=>n
 |k+1=>G4 n k/1000000000000
noncomputable def agR (x k:Int):Int:=((x*x+16807*x+k) % 2147483629)*((x*x+16807*x+k) % 2147483629) % 2147483587
def eV (c k:Int):Int:=if c % 2=0 then G4 ((if c<0 then -c else c)/2) k.toNat else agR ((c+7919*k) % 2147483629) k
theorem d9 (a:Int)(h:0<b):0<=a % b/\a % b<b:=⟨Int.emod_nonneg a<|by omega,Int.emod_lt_of_pos a h⟩
theorem zN {ns:List Int}{k:Int}(h0:0<=k):bU [.list<|ns.map .int,.int k]=some (false,.int<|cM ns k):=by
 unfold bU uU;walk_at "e1";simp only[length_map];by_cases h:k<ns.length
 .simp only[h,decide_true];walk_at "e1";rw[NT h0 h];walk_at "e1"
 .simp only[h,decide_false];walk_at "e1";have e:cM ns k=0:=by unfold cM;rw[getD_eq_getElem?_getD,getElem?_eq_none<|by omega];rfl
  rw[e]
theorem wU (h0:0<=k)(h1:k<=100):bI [.int c,.int k]=some (false,.int<|eV c k):=by
 unfold bI zy eV;walk_at "e1";simp only[cG<|show(0:Int)<2 by decide,Ae];walk_at "e1";by_cases h:c % 2=0
 .simp only[h,decide_true];walk_at "e1";simp only[jw (show(0:Int)<2 by decide) (by decide)];walk_at "e1";rw[if_pos<|by omega];walk_at "e1";have key:=Mg (t:=gN 3) (g:=bY (v2 jV (vN 2)<|v2 yE (vC<|.int 10)<|vC<|.int 12)<|gN 2)
   (λi=>[some (Tg.fr,.int c),some (Tg.fr,.int k),some (Tg.fr,.int<|G4 ((if c<0 then -c else c)/2) i),if i=0 then none else some (Tg.fr,.int<|(i - 1))]) (iY 0 k.toNat) 0 ?_
  .simp only[G4,↓reduceIte,zero_add,mq] at key;rw[key];walk_at "e1"
  .intro j d hj;obtain⟨hj,rfl⟩:=wj hj;refine⟨[some (Tg.fr,.int c),some (Tg.fr,.int k),some (Tg.fr,.int<|G4 ((if c<0 then -c else c)/2) j),some (Tg.fr,.int<|j)],?_,?_⟩
   .cases j<;>(walk_at "e1";simp[Ri])
   .walk_at "e1";simp only[DX (show(0:Int)<=12 by decide) (by decide) (show(0:Int)<=10 by decide) (by decide)];walk_at "e1";simp only[jw (show(0:Int)<1000000000000 by decide) (by decide)];walk_at "e1";simp[G4]
 .simp only[h,decide_false];walk_at "e1";rw[rE (by decide) (by decide) (by omega) (by omega)];walk_at "e1";simp only[cG<|show(0:Int)<2147483629 by decide];walk_at "e1";have b:=d9 (c+7919*k) (show(0:Int)<2147483629 by decide);generalize (c+7919*k) % 2147483629=x at*
  rw[rE (by omega) (by omega) (by omega) (by omega)];walk_at "e1";rw[rE (by omega) (by omega) (by omega) (by omega)];walk_at "e1";simp only[cG<|show(0:Int)<2147483629 by decide];walk_at "e1";have b:=d9 (x*x+16807*x+k) (show(0:Int)<2147483629 by decide);unfold agR;generalize (x*x+16807*x+k) % 2147483629=y at*
  rw[rE (by omega) (by omega) (by omega) (by omega)];walk_at "e1";simp only[cG<|show(0:Int)<2147483587 by decide];walk_at "e1"
noncomputable def kZ:Int:=10000000000000000000000000000000000000000000000000000000000
theorem acR (c:Int):∃w,gF [.int c]=some (false,.int w)/\1<=w/\w<=kZ:=by
 unfold gF zE;walk_at "e1";simp only[wU (k:=1) (by decide)<|by decide];walk_at "e1";simp only[cG<|show(0:Int)<4 by decide,Ae];walk_at "e1";by_cases h:eV c 1 % 4=0
 .simp only[h,decide_true];walk_at "e1";simp only[DX (show(0:Int)<=58 by decide) (by decide) (show(0:Int)<=10 by decide) (by decide)];walk_at "e1";simp only[cG<|show(0:Int)<10000000000000000000000000000000000000000000000000000000000 by decide];walk_at "e1";exact⟨_,rfl,by unfold kZ;have:=d9 c (show(0:Int)<10000000000000000000000000000000000000000000000000000000000 by decide);omega⟩
 .simp only[h,decide_false];walk_at "e1";simp only[jw (show(0:Int)<4 by decide) (by decide)];walk_at "e1";simp only[cG<|show(0:Int)<6 by decide];walk_at "e1";exact⟨_,rfl,by unfold kZ;have:=d9 (eV c 1/4) (show(0:Int)<6 by decide);omega⟩
theorem ail (c:Int):∃w,iT [.int c]=some (false,.int w)/\1<=w/\w<=kZ:=by
 unfold iT xO;walk_at "e1";simp only[wU (k:=2) (by decide)<|by decide];walk_at "e1";simp only[cG<|show(0:Int)<6 by decide,Ae];walk_at "e1";by_cases h:eV c 2 % 6=0
 .simp only[h,decide_true];walk_at "e1";simp only[DX (show(0:Int)<=58 by decide) (by decide) (show(0:Int)<=10 by decide) (by decide)];walk_at "e1";simp only[cG<|show(0:Int)<10000000000000000000000000000000000000000000000000000000000 by decide];walk_at "e1";exact⟨_,rfl,by unfold kZ;have:=d9 c (show(0:Int)<10000000000000000000000000000000000000000000000000000000000 by decide);omega⟩
 .simp only[h,decide_false];walk_at "e1";simp only[jw (show(0:Int)<6 by decide) (by decide)];walk_at "e1";simp only[cG<|show(0:Int)<5 by decide];walk_at "e1";exact⟨_,rfl,by unfold kZ;have:=d9 (eV c 2/6) (show(0:Int)<5 by decide);omega⟩
noncomputable def abc:Str:="abcdefghijklmnopqrstuvwxyz"
theorem R9:abc.cps.toList=(List.range 26).map (· +97):=by decide +kernel
theorem G5:abc.length=26:=by decide +kernel
def AZ (x:Str):Prop:=∀c∈x.cps.toList,97<=c/\c<=122
theorem agS:AZ abc:=λc hc=>by rw[R9] at hc;obtain⟨i,hi,rfl⟩:=mem_map.mp hc;have:=mem_range.mp hi;omega
theorem uX (z:Str)(lo hi:Option Int):(gP z lo hi).cps.toList=rT z.cps.toList lo hi:=by unfold gP;simp
theorem AZ.cut (h:AZ z)(lo hi:Option Int):AZ (gP z lo hi):=λc hc=>by rw[uX] at hc;exact h c<|List.mem_of_mem_drop<|mem_of_mem_take hc
theorem iU (z:Str):z.length=z.cps.toList.length:=by simp[Str.length]
theorem wV (z:Str)(lo hi:Option Int):(gP z lo hi).length<=z.length:=by rw[iU,uX,iU z];unfold rT;rw[length_take,length_drop];omega
theorem Am (i:Int)(h:0<=i):HT.bH n d (some i)=min i.toNat n:=by show(if i<0 then _ else _)=_;rw[if_neg<|by omega]
theorem Yx (z:Str):(gP z none<|some 11).length<=11:=by rw[iU,uX];unfold rT;rw[Am 11<|by decide,length_take];omega
theorem ad6 (z:Str)(i:Nat)(h:i<=z.length):(gP z none<|some (i:Int)).cps.toList=z.cps.toList.take i:=by rw[uX];unfold rT;rw[Am (i)<|by omega,toNat_natCast,←iU];show(z.cps.toList.drop 0).take (min i z.length - 0)=_;rw[List.drop_zero,Nat.sub_zero,Nat.min_eq_left h]
theorem ad7 (z:Str)(i:Nat)(h:i<=z.length):(gP z (some (i:Int)) none).cps.toList=z.cps.toList.drop i:=by rw[uX];unfold rT;rw[Am (i)<|by omega,toNat_natCast,←iU,Nat.min_eq_left h];rw[take_of_length_le];rw[length_drop,←iU];exact le_refl _
def wordOf (base:Str)(i j:Nat):Str:=(gP base none (some (i:Int))++⟨#[j+97]⟩)++gP base (some (i:Int)) none
theorem Pu (j:Nat)(h:i<=base.length):(wordOf base i j).cps.toList=base.cps.toList.take i++(j+97)::base.cps.toList.drop i:=by unfold wordOf;rw[Ak,Ak,ad6 base i h,ad7 base i h];simp
theorem aaY (h:i<=base.length)(e:wordOf base i j=wordOf base i k):j=k:=by have:=congrArg (λz:Str=>z.cps.toList) e;simp only[Pu _ h] at this;have:=List.append_cancel_left this;have:=(List.cons.inj this).1;omega
theorem AZ.ascii (h:AZ z):ascii z=true:=by unfold L2.ascii;rw[Array.all_eq_true'];intro c hc;have:=h c (by simpa using hc);simp;omega
theorem AZ.can (h:AZ z):(PyData.str z).canLay0=true:=by rw[uQ];intro c hc;have:=h c hc;omega
theorem agT (h:97<=c/\c<=122):(rC nY nY (vC<|.str "a") (vN 0)<|vC<|.str "z") [some (.fr,.str ⟨#[c]⟩)]=some (.bool true):=by
 have e1:nY (.str "a") (.str ⟨#[c]⟩)=some (.bool true):=by
  show some (PyData.bool<|!decide ([c]<("a":Str).cps.toList))=_
  have:(("a":Str).cps.toList)=[97]:=by decide +kernel
  rw[this,decide_eq_false (λz=>by rcases List.cons_lt_cons_iff.mp z with g|⟨_,g⟩;omega;exact absurd g<|by simp)];rfl
 have e2:nY (.str ⟨#[c]⟩) (.str "z")=some (.bool true):=by
  show some (PyData.bool<|!decide (("z":Str).cps.toList<[c]))=_
  have:(("z":Str).cps.toList)=[122]:=by decide +kernel
  rw[this,decide_eq_false (λz=>by rcases List.cons_lt_cons_iff.mp z with g|⟨_,g⟩;omega;exact absurd g<|by simp)];rfl
 walk_at "e1";rw[e1];walk_at "e1";exact e2
theorem ad8 (h:AZ z)(h1:1<=z.length)(h2:z.length<=12):eE z:=by
 refine⟨?_,h.can⟩;have el:sZ [.str z]=some (.int<|z.length):=by show(if z.length<=1000 then _ else _)=_;rw[if_pos<|by omega]
 have es:(jZ (oU<|vN 0) [none] (gN 0) fQ<|rC nY nY (vC<|.str "a") (vN 0)<|vC<|.str "z") [some (.fr,.str z)]=some (.list<|z.cps.toList.map λ_=>.bool true):=by
  rw[MF];unfold oU;have en:vN 0 [some (.fr,.str z)]=some (.str z):=by walk_at "e1"
  rw[en];simp only[h.ascii,if_true];unfold Ez;rw[nP rfl (by rw[length_map,←iU];exact aY<|by omega)];rw[gJ (f:=λ_=>.bool true)]
  .walk_at "e1";rw[map_map];rfl
  .intro d hd;obtain⟨c,hc,rfl⟩:=mem_map.mp hd;exact⟨[some (.fr,.str ⟨#[c]⟩)],by walk_at "e1",rfl,agT<|h c hc⟩
 have ea:CK [.list<|z.cps.toList.map λ_=>.bool true]=some (.bool true):=by show(boolsOf _).map _=_;rw[show(z.cps.toList.map λ_=>PyData.bool true)=(z.cps.toList.map λ_=>true).map PyData.bool by rw[map_map];rfl,Bu];simp
 have eB:(cR<|vB<|cU CK<|aC (jZ (oU<|vN 0) [none] (gN 0) fQ<|rC nY nY (vC<|.str "a") (vN 0)<|vC<|.str "z") a0) [some (.fr,.str z)]=some false:=by unfold cR vB cU;rw[Us,es];show(match(match CK [.list<|z.cps.toList.map λ_=>.bool true] with|some (.bool b)=>some b|_=>none) with|some b=>some !b|none=>none)=_;rw[ea];rfl
 have eA:(cR<|vB<|rC xr xr (vC<|.int 1) (cU sZ<|aC (vN 0) a0)<|vC<|.int 12) [some (.fr,.str z)]=some false:=by walk_at "e1";rw[el];walk_at "e1";have g1:decide ((1:Int)<=(z.length:Int))=true:=decide_eq_true (by omega);have g2:decide ((z.length:Int)<=12)=true:=decide_eq_true (by omega);simp only[g1,g2];walk_at "e1";simp only[g2];walk_at "e1"
 have eT:(fX (cR<|vB<|rC xr xr (vC<|.int 1) (cU sZ<|aC (vN 0) a0)<|vC<|.int 12)<|cR<|vB<|cU CK<|aC (jZ (oU<|vN 0) [none] (gN 0) fQ<|rC nY nY (vC<|.str "a") (vN 0)<|vC<|.str "z") a0) [some (.fr,.str z)]=some false:=by rw[Mr,eA,Uo,eB]
 unfold iB uT;rw[Ec<|by rfl];show bFn (c7 _ DQ cJ [some (.fr,.str z)])=_;rw[Mq,eT,Um];rfl
def baseOf (n:Int):Str:=gP (gP abc (some<|n % 26)<|some<|n % 26+n/26 % 12) none<|some 11
def lQ (n:Int):Nat:=(n/312 % ((baseOf n).length+1:Int)).toNat
def wordsOf (n:Int)(many:Nat):List Str:=(List.range many).map λj=>wordOf (baseOf n) (lQ n) j
theorem FP (n:Int):lQ n<=(baseOf n).length:=by unfold lQ;have:=d9 (n/312) (show(0:Int)<((baseOf n).length+1:Int) by omega);omega
theorem Sd (n:Int):AZ (baseOf n):=(agS.cut _ _).cut _ _
theorem ad9 (n:Int)(hj:j<26):eE (wordOf (baseOf n) (lQ n) j):=by
 have ec:=Pu j<|FP n;have hb:=Yx<|gP abc (some<|n % 26)<|some<|n % 26+n/26 % 12;have hb':(baseOf n).length<=11:=hb;have hl:(wordOf (baseOf n) (lQ n) j).length=(baseOf n).length+1:=by rw[iU,ec,length_append,length_cons,length_take,length_drop,←iU,Nat.min_eq_left<|FP n];have:=FP n;omega
 refine ad8 (λc hc=>?_) (by omega) (by omega);rw[ec] at hc;rcases mem_append.mp hc with g|g
 .exact Sd n c<|mem_of_mem_take g
 .rcases mem_cons.mp g with g|g
  .omega
  .exact Sd n c<|List.mem_of_mem_drop g
theorem CV (n:Int)(hm:many<=8):∀x∈wordsOf n many,eE x:=λx hx=>by obtain⟨j,hj,rfl⟩:=mem_map.mp hx;have:=mem_range.mp hj;exact ad9 n<|by omega
theorem CW (n:Int)(many:Nat):(wordsOf n many).Nodup:=by refine List.Pairwise.map _ (λa b h=>?_) List.nodup_range;exact λe=>h<|aaY (FP n) e
theorem zO (n:Int)(many:Nat):(wordsOf n many).length=many:=by unfold wordsOf;rw[length_map,List.length_range]
theorem Ao {lo hi:Option Int}(h1:f S=some (.str x))(h2:l S=some lo)(h3:u S=some hi)(h:x.length<=1000):tX f l u S=some (.str<|gP x lo hi):=by unfold tX;rw[h1,h2,h3];exact if_pos h
theorem Px (h:x.length+y.length<=1000):Ew (.str x) (.str y)=some (.str<|x++y):=if_pos h
theorem aea {j c:Nat}(h:x.length<=1000)(e:x.cps.toList[j]? =some c):Ol (.str x) (.int (j:Int))=some (.str ⟨#[c]⟩):=by show(if x.length<=1000 then _ else _)=_;rw[if_pos h,dY e];rfl
theorem aaZ (h:x.length<=1000):sZ [.str x]=some (.int (x.length:Int)):=if_pos h
theorem aeb (x y:Str):(x++y).length=x.length+y.length:=by rw[iU,Ak,length_append,←iU,←iU]
theorem Aq (h0:0<=k)(h1:k<=100){many:Nat}(hm:many<=8):gD [.int c,.int (many:Int),.int k]=some (true,bD<|wordsOf (eV c k) many):=by
 unfold gD zB;walk_at "e1";simp only[wU h0 h1];walk_at "e1";generalize eV c k=n;have hb1:(gP abc (some<|n % 26)<|some<|n % 26+n/26 % 12).length<=26:=by rw[<-G5];exact wV _ _ _
 have hb2:(baseOf n).length<=11:=Yx _;rw[Ao (x:=abc) (lo:=some (n % 26)) (hi:=some (n % 26+n/26 % 12)) (by walk_at "e1";rfl) (by walk_at "e1";simp only[cG (show(0:Int)<26 by decide)])
  (by walk_at "e1";simp only[cG (show(0:Int)<26 by decide)];walk_at "e1";simp only[jw (show(0:Int)<26 by decide) (by decide)];walk_at "e1";simp only[cG (show(0:Int)<12 by decide)];walk_at "e1") (by rw[G5];decide)]
 walk_at "e1";rw[Ao (x:=gP abc (some<|n % 26)<|some<|n % 26+n/26 % 12) (lo:=none) (hi:=some 11) (by walk_at "e1") (by walk_at "e1") (by walk_at "e1") (by omega)];walk_at "e1";rw[show gP (gP abc (some<|n % 26)<|some<|n % 26+n/26 % 12) none (some 11)=baseOf n from rfl];simp only[jw (show(0:Int)<312 by decide) (by decide)];walk_at "e1";rw[aaZ<|by omega];walk_at "e1";rw[cG<|by omega];walk_at "e1";have ea:n/312 % (((baseOf n).length)+1)=(lQ n):=by unfold lQ;have:=d9 (n/312) (show(0:Int)<((baseOf n).length+1:Int) by omega);omega
 rw[ea];rw[if_pos<|by omega];walk_at "e1";rw[nP rfl (by rw[mq];exact aY<|by omega)];have hal:=FP n;rw[gJ (f:=λd=>match d with|.int j=>.str (wordOf (baseOf n) (lQ n) j.toNat)|d=>d)]
 .walk_at "e1";unfold bD wordsOf iY;rw[map_map,map_map,toNat_natCast];refine congrArg (λl=>some (true,PyData.list l))<|map_congr_left λj _=>?_;show PyData.str (wordOf (baseOf n) (lQ n) (0+(j:Int)).toNat)=_;rw[show(0+(j:Int)).toNat=j by omega];rfl
 .intro d hd;obtain⟨j,hj,rfl⟩:=List.getElem_of_mem hd;have hj':j<many:=by rw[mq,toNat_natCast] at hj;exact hj
  have ed:(iY 0 (many:Int).toNat)[j]=.int (j):=by have:=(wj (lo:=0) (n:=(many:Int).toNat) (j:=j) (d:=(iY 0 (many:Int).toNat)[j])<|by simp[hj]).2;rw[this];congr 1;omega
  rw[ed];refine⟨[some (.fr,.int<|j),some (.fr,.str<|baseOf n),some (.fr,.str abc),some (.fr,.int<|lQ n)],by walk_at "e1";rfl,rfl,?_⟩;have e1:(tX (vN 1) oN<|oI<|vN 3) [some (.fr,.int (j:Int)),some (.fr,.str<|baseOf n),some (.fr,.str abc),some (.fr,.int (lQ n:Int))]=some (.str<|gP (baseOf n) none<|some (lQ n:Int)):=
   Ao (by walk_at "e1") (by walk_at "e1") (by walk_at "e1") (by omega)
  have e2:(tX (vN 1) (oI<|vN 3) oN) [some (.fr,.int (j:Int)),some (.fr,.str<|baseOf n),some (.fr,.str abc),some (.fr,.int (lQ n:Int))]=some (.str<|gP (baseOf n) (some (lQ n:Int)) none):=
   Ao (by walk_at "e1") (by walk_at "e1") (by walk_at "e1") (by omega)
  have e3:Ol (.str abc) (.int (j:Int))=some (.str ⟨#[j+97]⟩):=aea (by rw[G5];decide) (by rw[R9,getElem?_map,getElem?_range<|by omega];rfl);have l1:=wV (baseOf n) none<|some<|lQ n;have l2:=wV (baseOf n) (some<|lQ n) none;have l3:(⟨#[j+97]⟩:Str).length=1:=rfl;rw[J9,J9,e1,Uq];walk_at "e1";rw[e3,Ur,Px (by rw[l3];omega),Uq,e2,Ur,Px (by rw[aeb,l3];omega)];rfl
theorem Sg (x:Str)(xs:List Str):Om true (.str x) (.list<|xs.map .str)=some (.bool<|!(xs.any λy=>y==x)):=by show(match strsOf (xs.map .str) with|some xs=>some (PyData.bool<|if true=true then !(xs.any λy=>y==x) else xs.any λy=>y==x)|none=>none)=_;rw[Ey];rfl
noncomputable def lH (words:List Str)(nms:List Str):Option Str:=words.find? λx=>!(nms.any λy=>y==x)
theorem FQ (nms:List Str):∀(words:List Str) (x3:Option (Tg×PyData)),(x3=none\/∃z,x3=some (.fr,.str z))->
  (∃w,lH words nms=some w/\fD (gN 3) (c7 (vB<|v2 (Om true) (vN 3)<|vN 2) (fU 3) cJ) (words.map .str) [some (.fr,L1),some (.fr,L2),some (.fr,.list<|nms.map .str),x3]=.ret [some (.fr,L1),some (.fr,L2),some (.fr,.list<|nms.map .str),some (.fr,.str w)] false (.str w))
 \/lH words nms=none
 |[],_,_=>.inr rfl
 |w::ws,x3,hx=>by
  by_cases h:(nms.any λy=>y==w)=true
  .have ih:=FQ (L1:=L1) (L2:=L2) nms ws (some (.fr,.str w))<|.inr ⟨w,rfl⟩;have e:lH (w::ws) nms=lH ws nms:=by unfold lH;rw[find?_cons,h];rfl
   rw[e];rcases ih with⟨v,g1,g2⟩|g
   .refine .inl ⟨v,g1,?_⟩;rw[map_cons,fD];rcases hx with rfl|⟨z,rfl⟩<;>(walk_at "e1";rw[Sg,h];walk_at "e1";exact g2)
   .exact .inr g
  .have h':(nms.any λy=>y==w)=false:=eq_false_iff.mpr h;refine .inl ⟨w,?_,?_⟩
   .unfold lH;rw[find?_cons,h'];rfl
   .rw[map_cons,fD];rcases hx with rfl|⟨z,rfl⟩<;>(walk_at "e1";rw[Sg,h'];walk_at "e1")
theorem aec (hl:rows.length<1000)(h:lH words (rows.map (·.1))=some w):jA [bD words,eO rows]=some (false,.str w):=by
 have eL:(jZ (cu<|vF 1) [none] (gN 0) fQ<|v2 aM (vN 0)<|vC<|.int 0) [some (.fr,bD words),some (.fr,eO rows),none,none]=some (.list<|(rows.map (·.1)).map .str):=by
  unfold eO;walk_at "e1";rw[nP rfl (by rw[length_map];exact aY<|by omega)];rw[gJ (f:=λd=>match d with|.list (x::_)=>x|d=>d)]
  .walk_at "e1";rw[map_map,map_map];rfl
  .intro d hd;obtain⟨r,_,rfl⟩:=mem_map.mp hd;exact⟨_,rfl,rfl,rfl⟩
 rcases FQ (rows.map (·.1)) words none (.inl rfl) with⟨v,g1,g2⟩|g
 .rw[h] at g1;cases g1;unfold jA zF;rw[Ec<|by rfl];show bFn (aK _ _ [some (.fr,bD words),some (.fr,eO rows),none,none])=_;rw[Af,Ag,eL];unfold bD at g2 ⊢;walk_at "e1";rw[g2];walk_at "e1"
 .rw[h] at g;cases g
def bT.dat:bT->PyData
 |.lay nm a b w l=>.tuple [.str "lay",.str nm,.str a,.str b,.int w,.int l]
 |.shut nm=>.tuple [.str "shut",.str nm]
 |.widen nm k=>.tuple [.str "widen",.str nm,.int k]
 |.narrow nm k=>.tuple [.str "narrow",.str nm,.int k]
structure G6 (rooms names:List Str)(rows:List Row):Prop where
 r2:2<=rooms.length
 r5:rooms.length<=5
 rn:rooms.Nodup
 n8:names.length=8
 nn:(rows.map (·.1)).Nodup
 sub:∀r∈rows,r.1∈names
 wd:∀r∈rows,1<=r.2.2.2.1
def rY (rooms names:List Str)(rows:List Row):bT->Prop
 |.lay nm a b w l=>nm∈names/\nm∉rows.map (·.1)/\a∈rooms/\b∈rooms/\a≠b/\1<=w/\1<=l/\w<=kZ/\l<=kZ
 |.shut nm=>nm∈rows.map (·.1)
 |.widen nm k=>nm∈rows.map (·.1)/\1<=k/\k<=kZ
 |.narrow nm k=>∃r∈rows,r.1=nm/\1<=k/\k<r.2.2.2.1
theorem wW {xs ys:List Str}(h:xs.Nodup)(s:∀x∈xs,x∈ys):xs.length<=ys.length:=by
 induction xs generalizing ys with
 |nil=>exact zero_le _
 |cons x xs ih=>obtain⟨h1,h2⟩:=nodup_cons.mp h;have hx:=s x<|mem_cons_self ..;have:=ih h2 λy hy=>(List.mem_erase_of_ne (λz:y=x=>h1 (by rw[<-z];exact hy))).mpr (s y<|mem_cons_of_mem _ hy);rw[List.length_erase_of_mem hx] at this;have:=List.length_pos_of_mem hx;rw[length_cons];omega
theorem G6.len (h:G6 rooms names rows):rows.length<=8:=by
 have:=wW h.nn λx hx=>by obtain⟨r,hr,rfl⟩:=mem_map.mp hx;exact h.sub r hr
 rw[length_map,h.n8] at this;exact this
theorem Vm {names nms:List Str}(hn:names.Nodup)(h:nms.length<names.length):∃w,lH names nms=some w/\w∈names/\w∉nms:=by
 cases e:lH names nms with
 |some w=>
  refine⟨w,rfl,List.mem_of_find?_eq_some e,λhw=>?_⟩;have:=List.find?_some e;have h2:(nms.any λy=>y==w)=true:=any_eq_true.mpr ⟨w,hw,by simp⟩;rw[h2] at this;cases this
 |none=>
  have:=List.find?_eq_none.mp e;have:=wW hn λx hx=>by have:=this x hx;simpa using this
  omega
theorem Py {xs:List Str}(h:i<xs.length):aM (.list<|xs.map .str) (.int (i:Int))=some (.str xs[i]):=by exact dY<|by simp[h]
theorem aa0 {xs:List Row}(h:i<xs.length):aM (.list<|xs.map bf) (.int (i:Int))=some (bf xs[i]):=by exact dY<|by simp[h]
theorem eq_nil (rows:List Row):fZ (.list<|rows.map bf) (.list [])=some (.bool<|decide<|rows=[]):=by
 unfold fZ;have hd:(PyData.list<|rows.map bf).depth<=60:=by have:=kY (rows.map bf) 10 (λd hd=>by obtain⟨x,_,rfl⟩:=mem_map.mp hd;simp[bf,PyData.depth,depthAll]);simp only[PyData.depth];omega
 rw[if_pos hd];cases rows with
 |nil=>rfl
 |cons r rs=>simp[eqv,eqvAll]
def Vn:VS:=(aK (bY (v2 cV (v2 jV (vN 4) (vC (.int 9))) (cU eU (aC (vN 2) a0))) (gN 6))
 (aK (bY (v2 cV (v2 cI (v2 cI (vN 6) (vC (.int 1))) (v2 cV (v2 jV (vN 4) (vC (.int 90))) (v2 mD (cU eU (aC (vN 2) a0)) (vC (.int 1))))) (cU eU (aC (vN 2) a0))) (gN 7))
 (cP (fB (aC (vC (.str "lay")) (aC (aZ jA (aC (vF 3) (aC (vF 1) a0))) (aC (v2 aM (vN 2) (vN 6)) (aC (v2 aM (vN 2) (vN 7)) (aC (aZ gF (aC (vF 0) a0)) (aC (aZ iT (aC (vF 0) a0)) a0))))))))))
def uY:VS:=(aK (bY (v2 aM (vN 1) (v2 cV (v2 jV (vN 4) (vC (.int 9))) (cU eU (aC (vN 1) a0)))) (gN 8))
 (aK (c7 (vB (v2 fZ (vN 5) (vC (.int 5))))
 (cP<|fB<|aC (vC<|.str "shut")<|aC (v2 aM (vN 8)<|vC<|.int 0) a0)
 cJ)
 (aK (c7 (VM.fP (vB (v2 fZ (vN 5) (vC (.int 6)))) (vB (v2 yF (v2 aM (vN 8) (vC (.int 3))) (vC (.int 1)))))
 (cP<|fB<|aC (vC<|.str "narrow")<|aC (v2 aM (vN 8)<|vC<|.int 0)<|aC (v2 cI (vC<|.int 1)<|v2 cV (v2 jV (vN 4)<|vC<|.int 90)<|cU vP<|aC (v2 mD (v2 aM (vN 8)<|vC<|.int 3)<|vC<|.int 1)<|aC (vC<|.int 3) a0) a0)
 cJ)
 (cP (fB (aC (vC (.str "widen")) (aC (v2 aM (vN 8) (vC (.int 0))) (aC (aZ gF (aC (vF 0) a0)) a0))))))))
theorem aed:BJ=(aK (bY (aZ bI (aC (vF 0) (aC (vC (.int 0)) a0))) (gN 4))
 (aK (bY (v2 cV (vN 4) (vC (.int 9))) (gN 5))
 (aK (c7 (fX (vB (v2 fZ (vN 1) (fY a0))) (VM.fP (vB (v2 sJ (vN 5) (vC (.int 5)))) (vB (v2 sJ (cU eU (aC (vN 1) a0)) (cU eU (aC (vN 3) a0))))))
 Vn cJ) uY))):=rfl
def slot (c n:Int)(rows:List Row)(rooms names:List Str):GS:=[some (.fr,.int c),some (.fr,.list<|rows.map bf),some (.fr,.list<|rooms.map .str),some (.fr,.list<|names.map .str),some (.fr,.int n),some (.fr,.int<|n % 9),none,none,none]
theorem layB {c n:Int}(h:G6 rooms names rows)(hnn:names.Nodup)(hlt:rows.length<names.length):∃d S',Vn (slot c n rows rooms names)=.ret S' false d.dat/\rY rooms names rows d:=by
 have h8:=h.len;have r2:=h.r2;have r5:=h.r5;have n8:=h.n8;obtain⟨w,hw1,hw2,hw3⟩:=Vm (nms:=rows.map (·.1)) hnn (by rw[length_map];exact hlt);have hf:=aec (by omega) hw1;unfold eO bD at hf;obtain⟨wd,e1,e2⟩:=acR c;obtain⟨ln,e3,e4⟩:=ail c;have ma:=d9 (n/9) (show(0:Int)<(rooms.length:Int) by omega);have ms:=d9 (n/90) (show(0:Int)<(rooms.length:Int) - 1 by omega);obtain⟨ia,hia⟩:∃ia:Nat,n/9 % (rooms.length)=ia:=⟨(n/9 % (rooms.length)).toNat,by omega⟩;have agU:ia<rooms.length:=by omega
 obtain⟨st,hst⟩:∃st,n/90 % ((rooms.length) - 1)=st:=⟨(n/90 % ((rooms.length) - 1)).toNat,by omega⟩;have mb:=d9 ((ia)+1+st) (show(0:Int)<(rooms.length:Int) by omega);obtain⟨ib,hib⟩:∃ib:Nat,((ia)+1+st) % (rooms.length)=ib:=⟨(((ia)+1+st) % (rooms.length)).toNat,by omega⟩;have agV:ib<rooms.length:=by omega
 have hne:ia≠ib:=λg=>by
  subst g;have h1:((ia)+1+st)<(rooms.length)\/(rooms.length)<=((ia)+1+st):=by omega
  rcases h1 with h1|h1
  .rw[Int.emod_eq_of_lt (by omega) h1] at hib;omega
  .have e:((ia)+1+st) % (rooms.length)=((ia)+1+st) - (rooms.length):=by rw[<-Int.sub_emod_right,Int.emod_eq_of_lt (by omega) (by omega)]
   omega
 refine⟨.lay w rooms[ia] rooms[ib] wd ln,[some (.fr,.int c),some (.fr,.list<|rows.map bf),some (.fr,.list<|rooms.map .str),some (.fr,.list<|names.map .str),some (.fr,.int n),some (.fr,.int<|n % 9),some (.fr,.int<|ia),some (.fr,.int<|ib),none],?_,hw2,hw3,getElem_mem agU,getElem_mem agV,λg=>hne<|(getElem_inj h.rn).mp g,e2.1,e4.1,e2.2,e4.2⟩;unfold Vn slot;walk_at "e1";simp only[jw (show(0:Int)<9 by decide) (by decide)];walk_at "e1";simp only[length_map];rw[cG<|by omega,hia];walk_at "e1";simp only[jw (show(0:Int)<90 by decide) (by decide)];walk_at "e1";simp only[length_map];rw[cG<|by omega,hst];walk_at "e1";simp only[length_map];rw[cG<|by omega,hib];walk_at "e1";rw[hf];walk_at "e1";rw[show bW (rooms.map PyData.str) (ia:Int)=some (.str rooms[ia]) from Py agU];walk_at "e1";rw[show bW (rooms.map PyData.str) (ib:Int)=some (.str rooms[ib]) from Py agV];walk_at "e1";rw[e1];walk_at "e1";rw[e3];walk_at "e1";rfl
theorem ain {c n:Int}(h:G6 rooms names rows)(hne:rows≠[]):∃d S',uY (slot c n rows rooms names)=.ret S' false d.dat/\rY rooms names rows d:=by
 have h8:=h.len;have hpos:=List.length_pos_iff.mpr hne;have ma:=d9 (n/9) (show(0:Int)<(rows.length:Int) by omega);obtain⟨i,hi⟩:∃i:Nat,n/9 % (rows.length)=i:=⟨(n/9 % (rows.length)).toNat,by omega⟩;have hi':i<rows.length:=by omega
 have hm:=getElem_mem hi';have hwd:=h.wd _ hm;have hat:bW (rows.map bf) (i:Int)=some (bf rows[i]):=aa0 hi';generalize rows[i]=r at hm hwd hat;have hmn:=mem_map_of_mem (f:=λx:Row=>x.1) hm;by_cases c5:n % 9=5
 .refine⟨.shut r.1,[some (.fr,.int c),some (.fr,.list<|rows.map bf),some (.fr,.list<|rooms.map .str),some (.fr,.list<|names.map .str),some (.fr,.int n),some (.fr,.int<|n % 9),none,none,some (.fr,bf r)],?_,hmn⟩;unfold uY slot;walk_at "e1";simp only[jw (show(0:Int)<9 by decide) (by decide)];walk_at "e1";simp only[length_map];rw[cG<|by omega,hi];walk_at "e1";rw[hat];walk_at "e1";simp only[c5,decide_true];walk_at "e1";rfl
 .by_cases c6:n % 9=6/\1<r.2.2.2.1
  .have mm:=d9 (n/90) (show(0:Int)<min (r.2.2.2.1 - 1) 3 by omega);refine⟨.narrow r.1<|1+n/90 % min (r.2.2.2.1 - 1) 3,[some (.fr,.int c),some (.fr,.list<|rows.map bf),some (.fr,.list<|rooms.map .str),some (.fr,.list<|names.map .str),some (.fr,.int n),some (.fr,.int<|n % 9),none,none,some (.fr,bf r)],?_,r,hm,rfl,by omega,by omega⟩;unfold uY slot;walk_at "e1";simp only[jw (show(0:Int)<9 by decide) (by decide)];walk_at "e1";simp only[length_map];rw[cG<|by omega,hi];walk_at "e1";rw[hat];walk_at "e1";have d5:=decide_eq_false c5;have d6:=decide_eq_true c6.1;have d1:=decide_eq_true c6.2;simp only[d5];walk_at "e1";simp only[d6];unfold bf;walk_at "e1";simp only[d1];walk_at "e1";simp only[jw (show(0:Int)<90 by decide) (by decide)];walk_at "e1";rw[show(if 3<r.2.2.2.1 - 1 then(3) else r.2.2.2.1 - 1)=min (r.2.2.2.1 - 1) 3 by split<;>omega];rw[cG<|by omega];walk_at "e1";rfl
  .obtain⟨wd,e1,e2⟩:=acR c;refine⟨.widen r.1 wd,[some (.fr,.int c),some (.fr,.list<|rows.map bf),some (.fr,.list<|rooms.map .str),some (.fr,.list<|names.map .str),some (.fr,.int n),some (.fr,.int<|n % 9),none,none,some (.fr,bf r)],?_,hmn,e2⟩;unfold uY slot;walk_at "e1";simp only[jw (show(0:Int)<9 by decide) (by decide)];walk_at "e1";simp only[length_map];rw[cG<|by omega,hi];walk_at "e1";rw[hat];walk_at "e1";have d5:=decide_eq_false c5;simp only[d5];unfold bf;walk_at "e1";by_cases g6:n % 9=6
   .have d6:=decide_eq_true g6;simp only[d6];walk_at "e1";have:=decide_eq_false<|λz=>c6 ⟨g6,z⟩;simp only[this];walk_at "e1";rw[e1];walk_at "e1";rfl
   .have d6:=decide_eq_false g6;simp only[d6];walk_at "e1";rw[e1];walk_at "e1";rfl
theorem agW (h:G6 rooms names rows)(hnn:names.Nodup):∃d,jU [.int c,eO rows,bD rooms,bD names]=some (false,d.dat)/\rY rooms names rows d:=by
 have h8:=h.len;have n8:=h.n8;unfold jU;rw[aed];unfold eO bD;walk_at "e1";simp only[wU (k:=0) (by decide)<|by decide];walk_at "e1";simp only[cG<|show(0:Int)<9 by decide];walk_at "e1";generalize eV c 0=n;rw[eq_nil];walk_at "e1";by_cases hnil:rows=[]
 .simp only[hnil,decide_true];walk_at "e1";obtain⟨d,S',g1,g2⟩:=layB h hnn (by rw[hnil,n8];decide);rw[hnil] at g1;refine⟨d,?_,by rw[<-hnil];exact g2⟩;unfold slot at g1;rw[map_nil] at g1;rw[g1];walk_at "e1"
 .simp only[hnil,decide_false];walk_at "e1";have fin:∃d,bFn (uY<|slot c n rows rooms names)=some (false,d.dat)/\rY rooms names rows d:=by obtain⟨d,S',g1,g2⟩:=ain h hnil;exact⟨d,by rw[g1];walk_at "e1",g2⟩
  by_cases c5:n % 9<5
  .simp only[c5,decide_true];walk_at "e1";simp only[length_map];by_cases hlt:rows.length<names.length
   .have e:decide ((rows.length:Int)<(names.length:Int))=true:=decide_eq_true (by omega);simp only[e];walk_at "e1";obtain⟨d,S',g1,g2⟩:=layB h hnn hlt;refine⟨d,?_,g2⟩;unfold slot at g1;rw[g1];walk_at "e1"
   .have e:decide ((rows.length:Int)<(names.length:Int))=false:=decide_eq_false (by omega);simp only[e];walk_at "e1";exact fin
  .simp only[c5,decide_false];walk_at "e1";exact fin
def LN (seen:List Str)(x:Str×Q4)(r:Row):Prop:=x.1=r.1/\(∃i:Nat,x.2.1=i/\seen[i]? =some r.2.1)/\(∃j:Nat,x.2.2.1=j/\seen[j]? =some r.2.2.1)/\x.2.2.2.1=r.2.2.2.1/\x.2.2.2.2=r.2.2.2.2
theorem LN.lr {seen:List Str}(h:LN seen x r):LR seen x r:=by
 obtain⟨h1,⟨i,h2,h3⟩,⟨j,h4,h5⟩,h6,h7⟩:=h;refine⟨h1,?_,?_,h6,h7⟩
 .rw[h2];exact dY (by rw[getElem?_map,h3];rfl)
 .rw[h4];exact dY (by rw[getElem?_map,h5];rfl)
theorem Pz {seen more:List Str}{i:Nat}(h:seen[i]? =some x):(seen++more)[i]? =some x:=by rw[getElem?_append_left (List.getElem?_eq_some_iff.mp h).1];exact h
theorem LN.grow {seen more:List Str}{x:Str×Q4}(h:LN seen x r):LN (seen++more) x r:=by obtain⟨h1,⟨i,h2,h3⟩,⟨j,h4,h5⟩,h6,h7⟩:=h;exact⟨h1,⟨i,h2,Pz h3⟩,⟨j,h4,Pz h5⟩,h6,h7⟩
structure Ok (rooms names:List Str)(rows:List Row)(nums:List (Str×Int))(ls:List (Str×Q4)):Prop where
 dr:G6 rooms names rows
 num:∀(i:Nat) x,nums[i]? =some x->x.2=(i:Int)
 nd:(seenOf nums).Nodup
 sub:∀x∈seenOf nums,x∈rooms
 lr:Paired (LN<|seenOf nums) ls rows
theorem rZ {seen:List Str}(h:Paired (LN seen) ls rows):ls.map (·.1)=rows.map (·.1):=by
 induction h with
 |nil=>rfl
 |cons h _ ih=>rw[map_cons,map_cons,ih,h.1]
theorem zP {nm:Str}:∀{l:List (Str×α)},nm∉l.map (·.1)->bF nm l=none
 |[],_=>rfl
 |x::r,h=>by rw[bF,if_neg λe=>h (by rw[map_cons,e];exact mem_cons_self ..)];exact zP λz=>h (by rw[map_cons];exact mem_cons_of_mem _ z)
theorem uZ {nm:Str}:∀{l:List (Str×α)},nm∈l.map (·.1)->∃v,bF nm l=some v
 |[],h=>by cases h
 |x::r,h=>by
  rw[bF];by_cases e:x.1=nm
  .exact⟨x.2,by rw[if_pos e]⟩
  .rw[if_neg e];refine uZ ?_;rcases mem_cons.mp h with g|g
   .exact absurd g.symm e
   .exact g
theorem PB {nm:Str}:∀{l:List (Str×α)},bF nm l=some v->∃i:Nat,l[i]? =some (nm,v)
 |[],h=>by cases h
 |x::r,h=>by
  rw[bF] at h;by_cases e:x.1=nm
  .rw[if_pos e] at h;cases h;exact⟨0,by rw[<-e];rfl⟩
  .rw[if_neg e] at h;obtain⟨i,hi⟩:=PB h;exact⟨i+1,hi⟩
theorem zQ {nm:Str}:∀{l:List (Str×α)}{x:Str×α},(l.map (·.1)).Nodup->x∈l->x.1=nm->bF nm l=some x.2
 |[],x,_,h,_=>by cases h
 |y::r,x,hn,h,e=>by
  rw[map_cons] at hn;obtain⟨h1,h2⟩:=nodup_cons.mp hn;rw[bF];rcases mem_cons.mp h with g|g
  .rw[if_pos (by rw[<-g];exact e),g]
  .rw[if_neg λz=>h1 (by rw[z,←e];exact mem_map_of_mem (f:=λx:Str×α=>x.1) g)];exact zQ h2 g e
theorem CZ {nm:Str}{l:List (Str×α)}(h:nm∉l.map (·.1)):fJ nm v l=l++[(nm,v)]:=by unfold fJ;rw[if_neg];intro z;obtain⟨x,hx,e⟩:=any_eq_true.mp z;exact h (by rw[<-of_decide_eq_true e];exact mem_map_of_mem hx)
theorem aa1 {nm:Str}{l:List (Str×α)}(h:nm∈l.map (·.1)):fJ nm v l=l.map λx=>if x.1=nm then(x.1,v) else x:=by unfold fJ;rw[if_pos];obtain⟨x,hx,e⟩:=mem_map.mp h;exact any_eq_true.mpr ⟨x,hx,decide_eq_true e⟩
theorem Jt:∀{rs:List Str}{nums:List (Str×Int)},rs.Nodup->(∀r∈rs,r∉seenOf nums)->(∀(i:Nat) x,nums[i]? =some x->x.2=(i:Int))->seenOf (kW nums rs)=seenOf nums++rs/\∀(i:Nat) x,(kW nums rs)[i]? =some x->x.2=(i:Int)
 |[],nums,_,_,hn=>⟨by rw[append_nil];rfl,hn⟩
 |r::rs,nums,h1,h2,hn=>by
  obtain⟨a1,a2⟩:=nodup_cons.mp h1;have e:kW nums (r::rs)=kW (nums++[(r,(nums.length:Int))]) rs:=by show kW (fJ r (nums.length:Int) nums) rs=_;rw[CZ<|h2 r<|mem_cons_self ..]
  have es:seenOf (nums++[(r,(nums.length:Int))])=seenOf nums++[r]:=by unfold seenOf;rw[map_append];rfl
  rw[e];obtain⟨b1,b2⟩:=Jt (rs:=rs) (nums:=nums++[(r,(nums.length:Int))]) a2 (λx hx=>by
   rw[es];intro z;rcases mem_append.mp z with g|g
   .exact h2 x (mem_cons_of_mem _ hx) g
   .exact a1 (by rw[<-mem_singleton.mp g];exact hx)) (λi x ex=>by
   rcases Nat.lt_or_ge i nums.length with g|g
   .rw[getElem?_append_left g] at ex;exact hn i x ex
   .rw[getElem?_append_right g] at ex
    have:i - nums.length=0:=by
     rcases Nat.eq_zero_or_pos (i - nums.length) with z|z
     .exact z
     .rw[getElem?_eq_none (by simp;omega)] at ex;cases ex
    rw[this] at ex;cases ex;show(nums.length:Int)=i;omega)
  exact⟨by rw[b1,es,append_assoc];rfl,b2⟩
theorem p8 {r:Str}:(bF r nums).isNone=true↔r∉seenOf nums:=by
 constructor
 .intro h z;obtain⟨v,e⟩:=uZ z;rw[e] at h;cases h
 .intro h;rw[zP h];rfl
theorem Sh {s:List Str}:(s.any λy=>y==r)=true↔r∈s:=by
 rw[any_eq_true];constructor
 .rintro⟨x,hx,e⟩;rw[<-eq_of_beq e];exact hx
 .exact λh=>⟨r,h,beq_self_eq_true r⟩
theorem aee {nums:List (Str×Int)}(hab:a≠b):lO (seenOf nums) [a,b]=seenOf nums++newOf nums [a,b]:=by
 have step:∀s (r:Str),(if(s.any λy=>y==r)=true then s else s++[r])=if r∈s then s else s++[r]:=λs r=>by
  by_cases h:r∈s
  .rw[if_pos<|Sh.mpr h,if_pos h]
  .rw[if_neg λz=>h<|Sh.mp z,if_neg h]
 show(if((if((seenOf nums).any λy=>y==a)=true then seenOf nums else seenOf nums++[a]).any λy=>y==b)=true then(if((seenOf nums).any λy=>y==a)=true then seenOf nums else seenOf nums++[a]) else(if((seenOf nums).any λy=>y==a)=true then seenOf nums else seenOf nums++[a])++[b])=_;rw[step,step];unfold newOf;by_cases ha:a∈seenOf nums
 .rw[if_pos ha];have na:=eq_false_iff.mpr λz=>p8.mp z ha;by_cases hb:b∈seenOf nums
  .rw[if_pos hb];have nb:=eq_false_iff.mpr λz=>p8.mp z hb;simp[filter_cons,na,nb]
  .rw[if_neg hb];have nb:=p8.mpr hb;simp[filter_cons,na,nb]
 .rw[if_neg ha];have na:=p8.mpr ha;by_cases hb:b∈seenOf nums
  .rw[if_pos<|mem_append.mpr<|.inl hb];have nb:=eq_false_iff.mpr λz=>p8.mp z hb;simp[filter_cons,na,nb]
  .have nb:=p8.mpr hb;rw[if_neg λz=>by
    rcases mem_append.mp z with g|g
    .exact hb g
    .exact hab (mem_singleton.mp g).symm]
   simp[filter_cons,na,nb]
theorem Yy {r:Str}(hn:∀(i:Nat) x,nums[i]? =some x->x.2=(i:Int))(h:r∈seenOf nums):∃i:Nat,bF r nums=some (i:Int)/\(seenOf nums)[i]? =some r:=by obtain⟨v,e⟩:=uZ h;obtain⟨i,hi⟩:=PB e;have:=hn i _ hi;exact⟨i,by rw[e,←this],by unfold seenOf;rw[getElem?_map,hi];rfl⟩
theorem JV (h:Paired R l r)(hpq:∀x y,R x y->p x=q y):Paired R (l.filter p) (r.filter q):=by
 induction h with
 |nil=>exact .nil
 | @cons a b _ _ h _ ih=>
  rw[filter_cons,filter_cons,hpq a b h];split
  .exact .cons h ih
  .exact ih
theorem Vo (h:Paired R l r):(∀x∈l,∀y,R x y->R (f x) (g y))->Paired R (l.map f) (r.map g):=by
 induction h with
 |nil=>intro _;exact .nil
 | @cons a b _ _ h _ ih=>intro k;exact .cons (k a (mem_cons_self ..) b h)<|ih λx hx=>k x<|mem_cons_of_mem _ hx
theorem Qt (h:Paired R l r):∀{y:Row},y∈r->∃x∈l,R x y:=by
 induction h with
 |nil=>intro y hy;cases hy
 | @cons a b _ _ h _ ih=>
  intro y hy;rcases mem_cons.mp hy with g|g
  .rw[g];exact⟨a,mem_cons_self ..,h⟩
  .obtain⟨x,hx,e⟩:=ih g;exact⟨x,mem_cons_of_mem _ hx,e⟩
theorem Yz (nm:Str)(k:Int)(rows:List Row):(rows.map<|gG nm k).map (·.1)=rows.map (·.1):=by rw[map_map];refine map_congr_left λr _=>?_;show(gG nm k r).1=r.1;unfold gG;split<;>rfl
theorem aa2 {rows:List Row}(h:(rows.map (·.1)).Nodup)(hr:r∈rows)(hs:s∈rows)(e:r.1=s.1):r=s:=by
 induction rows with
 |nil=>cases hr
 |cons x xs ih=>
  rw[map_cons] at h;obtain⟨h1,h2⟩:=nodup_cons.mp h;rcases mem_cons.mp hr with g|g<;>rcases mem_cons.mp hs with g'|g'
  .rw[g,g']
  .exact absurd (by rw[<-g,e];exact mem_map_of_mem g') h1
  .exact absurd (by rw[<-g',←e];exact mem_map_of_mem g) h1
  .exact ih h2 g g'
section
variable {ls:List (Str×Q4)}
theorem Ok.len (h:Ok rooms names rows nums ls):ls.length<=8/\nums.length<=5:=by
 have h1:=h.lr.length;have h2:=h.dr.len;have h3:=wW h.nd h.sub;have h4:=h.dr.r5;have h5:(seenOf nums).length=nums.length:=by unfold seenOf;rw[length_map]
 omega
theorem Ok.chg (h:Ok rooms names rows nums ls){nm:Str}{k:Int}(hm:nm∈rows.map (·.1))(hw:∀r∈rows,r.1=nm->1<=r.2.2.2.1+k):
  ∃q,bF nm ls=some q/\(∀r∈rows,r.1=nm->q.2.2.1=r.2.2.2.1)/\Ok rooms names (rows.map<|gG nm k) nums (fJ nm (q.1,q.2.1,q.2.2.1+k,q.2.2.2) ls):=by
 have en:=rZ h.lr;have hml:nm∈ls.map (·.1):=by rw[en];exact hm
 have hnl:(ls.map (·.1)).Nodup:=by rw[en];exact h.dr.nn
 obtain⟨q,hq⟩:=uZ hml;refine⟨q,hq,λr hr e=>?_,⟨h.dr.r2,h.dr.r5,h.dr.rn,h.dr.n8,by rw[Yz];exact h.dr.nn,λr hr=>?_,λr hr=>?_⟩,h.num,h.nd,h.sub,?_⟩
 .obtain⟨x,hx,hxr⟩:=Qt h.lr hr;have:=zQ hnl hx<|hxr.1.trans e;rw[hq] at this;cases this;exact hxr.2.2.2.1
 .obtain⟨s,hs,rfl⟩:=mem_map.mp hr
  have:(gG nm k s).1=s.1:=by unfold gG;split<;>rfl
  rw[this];exact h.dr.sub s hs
 .obtain⟨s,hs,rfl⟩:=mem_map.mp hr;unfold gG;split
  .rename_i e;exact hw s hs e
  .exact h.dr.wd s hs
 .rw[aa1 hml];refine Vo h.lr λx hx y hxy=>?_;unfold gG;by_cases e:x.1=nm
  .have:=zQ hnl hx e;rw[hq] at this;cases this;rw[if_pos e,if_pos<|hxy.1.symm.trans e];obtain⟨h1,h2,h3,h4,h5⟩:=hxy;exact⟨h1,h2,h3,by show x.2.2.2.1+k=y.2.2.2.1+k;rw[h4],h5⟩
  .rw[if_neg e,if_neg λz=>e<|hxy.1.trans z];exact hxy
theorem step {C p dx nn ll:Addr}{H:Hp}{d:bT}(h:Ok rooms names rows nums ls)(hR:∀x∈rooms,eE x)(hN:∀x∈names,eE x)(hd:rY rooms names rows d)(hh:aW H C p dx nn ll nums ls):
  ∃Fd ls',Ok rooms names (Vg d rows) Fd ls'/\seenOf Fd=Vh d (seenOf nums)/\∀(Q:VK) (E:XK),(∀H',aW H' C p dx nn ll Fd ls'->fK nn ll H H'->Q .non H')->d.sp C p H Q E:=by
 obtain⟨hl,hnl⟩:=h.len;have en:=rZ h.lr;cases d with
 |lay nm a b w l=>
  obtain⟨d1,d2,d3,d4,d5,d6,d7⟩:=hd;have fnd:(newOf nums [a,b]).Nodup:=List.Pairwise.filter _ (by simp[d5]);have fout:∀r∈newOf nums [a,b],r∉seenOf nums:=λr hr=>p8.mp (mem_filter.mp hr).2;have fin:∀r∈newOf nums [a,b],r=a\/r=b:=λr hr=>by have:=(mem_filter.mp hr).1;simpa using this
  obtain⟨s1,s2⟩:=Jt fnd fout h.num;have mem:∀r,r∈[a,b]->r∈seenOf (kW nums<|newOf nums [a,b]):=λr hr=>by
   rw[s1];by_cases g:r∈seenOf nums
   .exact mem_append.mpr<|.inl g
   .exact mem_append.mpr<|.inr<|mem_filter.mpr ⟨hr,p8.mpr g⟩
  obtain⟨ia,ga,ga2⟩:=Yy s2 (mem a (by simp));obtain⟨ib,gb,gb2⟩:=Yy s2 (mem b (by simp));have hnm:nm∉ls.map (·.1):=by rw[en];exact d2
  refine⟨kW nums<|newOf nums [a,b],fJ nm ((ia),(ib),w,l) ls,⟨⟨h.dr.r2,h.dr.r5,h.dr.rn,h.dr.n8,?_,?_,?_⟩,s2,?_,?_,?_⟩,?_,?_⟩
  .show((rows++[(nm,a,b,w,l)]).map (·.1)).Nodup;rw[map_append];refine nodup_append.mpr ⟨h.dr.nn,by simp,λx hx y hy z=>?_⟩
   have:y=nm:=by simpa using hy
   exact d2 (by rw[<-this,←z];exact hx)
  .intro r hr;rcases mem_append.mp hr with g|g
   .exact h.dr.sub r g
   .rw[mem_singleton.mp g];exact d1
  .intro r hr;rcases mem_append.mp hr with g|g
   .exact h.dr.wd r g
   .rw[mem_singleton.mp g];exact d6
  .rw[s1];exact nodup_append.mpr ⟨h.nd,fnd,λx hx y hy z=>fout y hy<|z▸hx⟩
  .intro x hx;rw[s1] at hx;rcases mem_append.mp hx with g|g
   .exact h.sub x g
   .rcases fin x g with e|e
    .rw[e];exact d3
    .rw[e];exact d4
  .rw[CZ hnm];refine uc ?_ ⟨rfl,⟨ia,rfl,ga2⟩,⟨ib,rfl,gb2⟩,rfl,rfl⟩;rw[s1];exact h.lr.mono λx y z=>z.grow
  .rw[s1];exact(aee d5).symm
  .intro Q E q;exact⟨p,dx,nn,ll,nums,ls,nm,a,b,w,l,ia,ib,rfl,hh,hN nm d1,hR a d3,hR b d4,zP hnm,d5,d6,d7.1,by omega,by omega,ga,gb,q⟩
 |shut nm=>
  obtain⟨q,hq⟩:=uZ (by rw[en];exact hd);refine⟨nums,Kg nm ls,⟨⟨h.dr.r2,h.dr.r5,h.dr.rn,h.dr.n8,?_,?_,?_⟩,h.num,h.nd,h.sub,?_⟩,rfl,λQ E k=>⟨p,dx,nn,ll,nums,ls,nm,q,rfl,hh,hq,k⟩⟩
  .exact(List.Sublist.map _ List.filter_sublist).nodup h.dr.nn
  .exact λr hr=>h.dr.sub r (mem_filter.mp hr).1
  .exact λr hr=>h.dr.wd r (mem_filter.mp hr).1
  .exact JV h.lr λx y z=>by rw[z.1]
 |widen nm k=>
  obtain⟨d1,d2⟩:=hd;obtain⟨q,g1,g2,g3⟩:=h.chg (k:=k) d1 λr hr e=>by have:=h.dr.wd r hr;omega
  exact⟨nums,_,g3,rfl,λQ E kk=>⟨p,dx,nn,ll,nums,ls,nm,q,k,rfl,hh,g1,d2.1,by omega,kk⟩⟩
 |narrow nm k=>
  obtain⟨r,hr,e,d2,d3⟩:=hd;have hm:nm∈rows.map (·.1):=by rw[<-e];exact mem_map_of_mem hr
  obtain⟨q,g1,g2,g3⟩:=h.chg (k:=-k) hm λs hs es=>by have:=aa2 h.dr.nn hs hr<|es.trans e.symm;rw[this];omega
  exact⟨nums,_,g3,rfl,λQ E kk=>⟨p,dx,nn,ll,nums,ls,nm,q,k,rfl,hh,g1,d2,by rw[g2 r hr e];exact d3,by omega,kk⟩⟩
end
def jC (ns:List Int):List Str:=wordsOf (eV (cM ns 0) 0) (2+eV (cM ns 0) 2 % 4).toNat
def namesOf (ns:List Int):List Str:=wordsOf (eV (cM ns 1)<|eV (cM ns 1) 2 % 2) 8
section
variable {ns:List Int}
theorem aoa:(rD gD<|aC (aZ bU<|aC (vF 0)<|aC (vC<|.int 0) a0)<|aC (v2 cI (vC<|.int 2)<|v2 cV (aZ bI<|aC (aZ bU<|aC (vF 0)<|aC (vC<|.int 0) a0)<|aC (vC<|.int 2) a0)<|vC<|.int 4)<|aC (vC<|.int 0) a0)
  [some (.fr,.list<|ns.map .int),x1,x2,x3,x4,x5,x6,x7,x8]=some (.list<|(jC ns).map .str):=by
 have m:=d9 (eV (cM ns 0) 2) (show(0:Int)<4 by decide);walk_at "e1";rw[zN<|by decide];walk_at "e1";rw[zN<|by decide];walk_at "e1";rw[wU (by decide)<|by decide];walk_at "e1";simp only[cG<|show(0:Int)<4 by decide];walk_at "e1";have e:=Aq (c:=cM ns 0) (k:=0) (by decide) (by decide) (many:=(2+eV (cM ns 0) 2 % 4).toNat) (by omega);rw[show(((2+eV (cM ns 0) 2 % 4).toNat))=2+eV (cM ns 0) 2 % 4 by omega] at e;rw[e];unfold bD jC;walk_at "e1"
end
theorem YB (ns:List Int):∃r0 r1 rest,jC ns=r0::r1::rest/\rest.length<=3/\(r0::r1::rest).Nodup/\∀x∈r0::r1::rest,eE x:=by
 have m:=d9 (eV (cM ns 0) 2) (show(0:Int)<4 by decide);have hl:(jC ns).length=(2+eV (cM ns 0) 2 % 4).toNat:=zO _ _;have hn:(jC ns).Nodup:=CW _ _;have hk:∀x∈jC ns,eE x:=CV _<|by omega
 match e:jC ns with
 |[]=>rw[e] at hl;simp at hl;omega
 |[_]=>rw[e] at hl;simp at hl;omega
 |r0::r1::rest=>rw[e] at hl hn hk;refine⟨r0,r1,rest,rfl,?_,hn,hk⟩;simp only[length_cons] at hl;omega
theorem aa3 (ns:List Int):(namesOf ns).length=8/\(namesOf ns).Nodup/\∀x∈namesOf ns,eE x:=⟨zO _ _,CW _ _,CV _<|by decide⟩
section
variable {K:Frag}
theorem aW.off (h:aW H C p dx nn ll nums ls)(k:∀b o,(∀ys,o≠ .lst ys)->H b=some o->H' b=some o):aW H' C p dx nn ll nums ls:=by obtain⟨a,b,⟨kvs,c,d⟩,n⟩:=h;exact⟨k _ _ (by intro ys z;cases z) a,k _ _ (by intro ys z;cases z) b,⟨kvs,k _ _ (by intro ys z;cases z) c,d.mono λ_ _ z=>z.same λt xs e=>k _ _ (by intro ys z;cases z) e⟩,n⟩
theorem Dc (h:aW H C p dx nn ll nums ls)(s:fK nn ll H H')(e:H a=some (.lst xs)):H' a=some (.lst xs):=by obtain⟨kvs,c,_⟩:=h.laid;exact s _ _ (λz=>by rw[z,h.num] at e;cases e) (λz=>by rw[z,c] at e;cases e) e
theorem aa4 (h:aW H C p dx nn ll nums ls)(s:fK nn ll H H')(e:bB K H a xs):bB K H' a xs:=by
 obtain⟨kvs,c,_⟩:=h.laid;refine bB.off e λo ho e=>s _ _ (λz=>?_) (λz=>?_) e
 .rw[z,h.num] at e;cases e;cases ho
 .rw[z,c] at e;cases e;cases ho
theorem ak1 (r0 r1:Str)(rest:List Str):qg ((r0::r1::rest).map V.str) none (some 2)=[r0,r1].map V.str:=by
 unfold qg;rw[Am 2<|by decide]
 have:min (2:Int).toNat ((r0::r1::rest).map V.str).length=2:=by rw[length_map,length_cons,length_cons];omega
 rw[this];rfl
theorem aa5 {d:bT}(h:Has K H d.dat v):∃t,v=.ref t/\bB K H t d.vals:=by
 cases d with
 |lay nm a b w l=>
  obtain⟨t,xs,rfl,hq,y1,r1,rfl,⟨rfl,_⟩,y2,r2,rfl,⟨rfl,_⟩,y3,r3,rfl,⟨rfl,_⟩,y4,r4,rfl,⟨rfl,_⟩,y5,r5,rfl,h5,y6,r6,rfl,h6,hr⟩:=h;have e5:=h5;have e6:=h6;have er:=hr;subst e5 e6 er;exact⟨t,rfl,hq⟩
 |shut nm=>
  obtain⟨t,xs,rfl,hq,y1,r1,rfl,⟨rfl,_⟩,y2,r2,rfl,⟨rfl,_⟩,hr⟩:=h;have er:=hr;subst er;exact⟨t,rfl,hq⟩
 |widen nm k=>
  obtain⟨t,xs,rfl,hq,y1,r1,rfl,⟨rfl,_⟩,y2,r2,rfl,⟨rfl,_⟩,y5,r5,rfl,h5,hr⟩:=h;have e5:=h5;have er:=hr;subst e5 er;exact⟨t,rfl,hq⟩
 |narrow nm k=>obtain⟨t,xs,rfl,hq,y1,r1,rfl,⟨rfl,_⟩,y2,r2,rfl,⟨rfl,_⟩,y5,r5,rfl,h5,hr⟩:=h;have e5:=h5;have er:=hr;subst e5 er;exact⟨t,rfl,hq⟩
theorem aa6 {nm a b:Str}(hR:∀x∈rooms,eE x)(hN:∀x∈names,eE x)(h:rY rooms names rows (.lay nm a b w l)):(bf (nm,a,b,w,l)).canLay0=true:=by obtain⟨h1,_,h3,h4,_⟩:=h;have c1:=(hN _ h1).2;have c2:=(hR _ h3).2;have c3:=(hR _ h4).2;simp only[bf,canLay0,canLayAll0,and_eq_true] at c1 c2 c3 ⊢;exact⟨c1,c2,c3,trivial,trivial,trivial⟩
end
theorem lcL {K:Frag}(Pv:Addr->Nat->List V->Hp->Prop)(hz:xs.length<sizeLine)
  (h0:∀D,H1 D=none->Pv D 0 [] (upd H1 D<|.lst []))(hl:∀D i ys H,Pv D i ys H->aR K H a xs)(htc:∀σ H (R:Bool->Hp->Prop),R true H->tc σ H R)
  (hs:∀D i x ys H,H1 D=none->xs[i]? =some x->Pv D i ys H->H D=some (.lst ys)->∀(R:VK) (Kt:L2.St->Hp->Prop),(∀y H4,H4 D=some (.lst ys)->Pv D (i+1) (ys++[y]) (upd H4 D<|.lst<|ys++[y])->R y H4)->(∀σ2 H2,gO (cD cap σ) σ2->te σ2 H2 R->Kt σ2 H2)->g x (cD cap σ) H Kt)
  (hQ:∀D ys H,H1 D=none->Pv D xs.length ys H->ys.length=xs.length->H D=some (.lst ys)->Q (.ref D) H):Gj (xY K a) cap g tc te σ H1 Q:=by
 intro D hD;refine⟨λi m H=>m=xs.length - i/\i<=xs.length/\∃ys,ys.length=i/\H D=some (.lst ys)/\Pv D i ys H,⟨_,rfl,zero_le _,[],rfl,ao,h0 D hD⟩,?_⟩;rintro i m H ⟨rfl,hi,ys,hyl,hyD,p⟩;have uy:=hl D i ys H p;by_cases hlt:i<xs.length
 .refine .inr ⟨⟨xs,xs[i],uy,by simp[hlt]⟩,λx H' y=>?_⟩;obtain⟨e,y⟩:=y;subst e;have ex:=y xs uy;refine hs D i x ys _ hD ex p hyD (λy H4=>∃zs,H4 D=some (.lst zs)/\zs.length<sizeLine/\∃m',m'<xs.length - i/\(m'=xs.length - (i+1)/\i+1<=xs.length/\∃ys',ys'.length=i+1/\upd H4 D (.lst<|zs++[y]) D=some (.lst ys')/\Pv D (i+1) ys' (upd H4 D<|.lst<|zs++[y]))) _ (λv H4 h1 h2=>?_) λσ2 H2 ck h=>⟨ck,htc _ _ _ (by rw[if_pos rfl];exact h)⟩;exact⟨ys,h1,by omega,xs.length - (i+1),by omega,rfl,hlt,ys++[v],by rw[length_append,hyl];rfl,ao,h2⟩
 .have e:i=xs.length:=by omega
  subst e;exact .inl ⟨⟨xs,uy,le_refl _⟩,hQ D ys _ hD p hyl hyD⟩
section
variable {K:Frag}
noncomputable def Ju (x:Str×Q4):PyData:=.tuple [.int x.2.1,.int x.2.2.1,.int x.2.2.2.1,.int x.2.2.2.2]
theorem Sq:∀{kvs:List (Key×V)}{ls:List (Str×Q4)},Paired (rW H) kvs ls->aG K H (ls.map Ju) (kvs.map λkv=>kv.2)
 |_,_,.nil=>rfl
 |_,_,.cons h r=>by obtain⟨_,t,e,ht⟩:=h;exact⟨_,_,rfl,⟨t,_,e,bB.of ht,_,_,rfl,rfl,_,_,rfl,rfl,_,_,rfl,rfl,_,_,rfl,rfl,rfl⟩,Sq r⟩
def Ss (K:Frag)(C:Addr):Sp:=λvs H Q _=>∃p dx nn ll q nums ls T d kvs ls',vs=[.ref p,.ref q,.int T]/\aW H C p dx nn ll nums ls/\H q=some (.dK kvs)/\Paired (rW H) kvs ls'/\ls'.length<100/\
 Pg.iI [.int (nums.length:Int),.list<|ls'.map Ju,.int 0,.int 1,.int T]=some (false,d)/\∀v H',Same H H'->Has K H' d v->Q v H'
theorem Dd:bM ["self","laid","turns"] ["self","laid","turns"] (aN<|dH 12):=fs
theorem aa7 (F:bJ K "out_by" "NamedHall.out_by" (dH 12) f fd)(B:Bl mg)(c:Cl K C)(ud:cZ P w K mg base 5 "out_within" ["many","passages","start","goal","turns"] (bQ K Pg.iI))(g0:mg "START"=some (.int 0 t0))(g1:mg "GOAL"=some (.int 1 t1)):
  aX P w K mg base bO 6 f fd ["self","laid","turns"] (Ss K C):=by
 have nd:=Dd.nd;have vt:=Dd.vt;refine bJ.ok F Dd (λvs H Q E h=>by obtain⟨_,_,_,_,_,_,_,_,_,_,_,rfl,_⟩:=h;rfl) λcdv A outer s H vs Q E hr hsp=>?_;refine⟨_,aP<|cF<|eG ud hr gx<|aj (cO Kh gx B.len PySem.boot_len<|aj (fj (pV vt 0) rfl) aO)<|aj (jE (agu rfl) gx B.list PyProof.Rows.boot_list<|aj (ags<|pV vt 1) aO)<|aj (oG (v:=.int 0) gx g0 ⟨_,rfl⟩)<|aj (oG (v:=.int 1) gx g1 ⟨_,rfl⟩)<|aj (pV vt 2) aO,?_⟩;obtain⟨p,dx,nn,ll,q,nums,ls,T,d,kvs,ls',rfl,hh,hq0,hpr,hl,ed,hq⟩:=hsp;unfold mC iJ bV dI pJ;refine fL rfl hh.ins c.cl c.n1 rfl ⟨nn,_,rfl,hh.num,?_⟩;refine aD rfl ⟨.inr<|.inr<|.inl ⟨rfl,.inl ⟨kvs,hq0⟩⟩,kvs,hq0,λz hz=>?_⟩;have s1:=aF (o:=Kf z q) hz;refine⟨z,q,kvs,rfl,ao,s1 _ _ hq0,λl hl'=>?_⟩;have s2:=aF (o:=.lst<|kvs.map λkv=>kv.2) hl';have s12:=s1.trans s2;unfold tC;refine aD rfl ?_;refine⟨_,[.int<|nums.length,.list<|ls'.map Ju,.int 0,.int 1,.int T],Same.refl _,?_,false,d,ed,λv F' H' g hv=>hq v H' (s12.trans g.hh) ?_⟩
 .refine⟨_,_,rfl,?_,_,_,rfl,⟨l,_,rfl,aR.of ao,Sq<|hpr.mono λ_ _ z=>z.same λt xs e=>s12 _ _ e⟩,_,_,rfl,rfl,_,_,rfl,rfl,_,_,rfl,rfl,rfl⟩;show V.int _=V.int _;rw[length_map]
 .exact Has.same g.fh hv
noncomputable def gM (ls:List (Str×Q4)):List Str:=ls.map (·.1)
def iK (ls:List (Str×Q4))(w:List Nat):List Str:=w.map λj=>(gM ls).getD j ""
def Sv (K:Frag)(C:Addr):Sp:=λvs H Q _=>∃p dx nn ll nums ls v w,vs=[.ref p,v]/\aW H C p dx nn ll nums ls/\Has K H (.list<|w.map PM.cB) v/\(∀j∈w,j<ls.length)/\(∀x∈gM ls,(PyData.str x).canLay0=true)/\w.length<1000/\
 ∀a H',Same H H'->H a=none->H' a=some (.lst<|(iK ls w).map V.str)->Q (.ref a) H'
theorem aa8 (h:Paired (rW H) kvs ls):(kvs.map λkv=>kV kv.1)=(gM ls).map V.str:=by
 induction h with
 |nil=>rfl
 |cons h _ ih=>rw[map_cons,ih,h.1];rfl
theorem Df:bM ["self","walk","names"] ["self","walk"] (aN<|dH 13):=fs
theorem aef {w:List Nat}(hw:∀j∈w,j<nms.length)(hl:w.length<1000):(jZ (cu<|vF 1) [none,some 2] (gN 0) fQ<|v2 aM (vN 1)<|vN 0) [x0,some (.fr,.list<|w.map PM.cB),some (.fr,bD nms)]=some (.list<|(w.map λj=>nms.getD j "").map .str):=by
 walk_at "e1";rw[nP rfl (by rw[length_map];exact aY<|by omega)];rw[gJ (f:=λd=>match d with|.int j=>.str (nms.getD j.toNat "")|d=>d)]
 .walk_at "e1";rw[map_map,map_map];rfl
 .intro d hd;obtain⟨j,hj,rfl⟩:=mem_map.mp hd;refine⟨[some (.fr,.int<|j),some (.fr,.list<|nms.map .str)],by walk_at "e1";rfl,rfl,?_⟩;have hj':=hw j hj;walk_at "e1";rw[show bW (nms.map PyData.str) (j:Int)=some (.str<|nms.getD j "") from dY (by simp[hj',getD_eq_getElem?_getD])];rfl
theorem aa9 {fd:FuncData}(F:bJ K "names_on" "NamedHall.names_on" (dH 13) f fd)(B:Bl mg)(KT:dJ K)(c:Cl K C):aX P w K mg base bO 1 f fd ["self","walk"] (Sv K C):=by have nd:=Df.nd;have vt:=Df.vt;refine bJ.ok F Df (λvs H Q E h=>by obtain⟨_,_,_,_,_,_,_,_,rfl,_⟩:=h;rfl) λcdv A outer s H vs Q E hr hsp=>?_;refine⟨_,aH (dX (i:=2) nd rfl lx<|jE (Yc rfl) gx B.list PyProof.Rows.boot_list<|aj (fj (pV vt 0) rfl) aO)<|aP<|cF<|dLC<|DG (cap:=[none,some 2]) ["self","walk","names"] (aN<|dH 13) rfl (by decide +kernel) rfl rfl (itL<|dF<|pV vt 1) (λ_ _ _ _ _=>(tgN<|Bf (i:=0) (show(["number","names"]:List Str).Nodup by decide +kernel) (by decide +kernel))) (λ_ _ _ _ _=>ifN) (λ_ _ _ _ _=>(uD (dN<|uw (by decide +kernel) 1)<|mw<|dN<|uw (by decide +kernel) 0)),?_⟩;obtain⟨p,dx,nn,ll,nums,ls,v,wk,rfl,hh,hv,hw,hcan,hl,hq⟩:=hsp;obtain⟨kvs,hk,hp⟩:=hh.laid;unfold jm eZ pJ bV dI cC mC;refine fL rfl hh.ins c.cl c.n2 rfl ⟨ll,kvs,rfl,hk,λz hz=>?_⟩;rw[aa8 hp];have s1:=aF (o:=.lst<|(gM ls).map V.str) hz;have hz1:upd H z (.lst<|(gM ls).map V.str) z=some (.lst<|(gM ls).map V.str):=ao;generalize upd H z (.lst<|(gM ls).map V.str)=H1 at s1 hz1 ⊢;refine VM.Yw (S:=[none,some (.fr,.list<|wk.map PM.cB),some (.fr,bD<|gM ls)]) ⟨_,_,rfl,_,_,rfl,rfl,Has.same s1 hv,_,_,rfl,rfl,CT hz1 hcan,rfl⟩ (aef (λj hj=>by unfold gM;rw[length_map];exact hw j hj) hl) λa xs H2 s2 hn hx hy=>?_;rw[qW hy] at hx;exact hq a H2 (s1.trans s2) (s1.free hn) hx
def PJ (K:Frag)(C:Addr):Sp:=λvs H Q _=>∃p dx nn ll nums ls v,∃μs:List Int,vs=[.ref p,v]/\aW H C p dx nn ll nums ls/\Has K H (.list<|μs.map .int) v/\μs.length=nums.length/\
 ∀(z:Addr) (ts:List Addr) (H':Hp),Same H H'->H z=none->(∀t∈ts,H t=none)->H' z=some (.lst<|ts.map V.ref)->ts.length=nums.length->(∀(j:Nat) t x μ,ts[j]? =some t->(seenOf nums)[j]? =some x->μs[j]? =some μ->H' t=some (.tup [.str x,.int μ]))->Q (.ref z) H'
theorem Jv:bM ["self","moments"] ["self","moments"] (aN<|dH 14):=fs
theorem YC (F:bJ K "by_room" "NamedHall.by_room" (dH 14) f fd)(B:Bl mg)(c:Cl K C)(F7:aX P w K mg base bO 1 f7 fd7 ["self"] (GR C))(m7:Meth K C "rooms" f7)(b7:Binds K fd7 ["self"] []):aX P w K mg base bO 2 f fd ["self","moments"] (PJ K C):=by have vt:=Jv.vt;refine bJ.ok F Jv (λvs H Q E h=>by obtain⟨_,_,_,_,_,_,_,_,rfl,_⟩:=h;rfl) λcdv A outer s H vs Q E hr hsp=>?_;refine⟨_,aP<|cF<|Vd rfl gx B.list gx B.zip<|aj (Ce (pV vt 0) c.cl m7 F7 hr b7 .nil gW)<|aj (pV vt 1) aO,?_⟩;obtain⟨p,dx,nn,ll,nums,ls,v,μs,rfl,hh,hv,hl,hq⟩:=hsp;obtain⟨vm,xs,rfl,hsq,hxs⟩:=hv;have exs:=aG.ints.mp hxs;subst exs;unfold mC tLZ bV dI jH;refine aD rfl ⟨p,dx,_,rfl,hh.ins,rfl,p,dx,nn,ll,nums,ls,rfl,hh,λrz hrz=>?_⟩;have s1:=aF (o:=.lst<|(seenOf nums).map V.str) hrz;refine aD rfl ⟨rz,vm,_,_,rfl,aR.of ao,s1.seq hsq,by rw[length_map,length_map];unfold seenOf;rw[length_map,hl],λz ts H2 s2 hz hts hnd hzt ak2 hlen htup=>?_⟩;refine hq z ts H2 (s1.trans s2) (s1.free hz) (λt ht=>s1.free<|hts t ht) ak2 (by rw[hlen,length_map];unfold seenOf;rw[length_map]) λj t x μ e1 e2 e3=>?_;exact htup j t (.str x) (.int μ) e1 (by rw[getElem?_map,e2];rfl) (by rw[getElem?_map,e3];rfl)
end
section
variable {K:Frag}
structure Walks (H H':Hp)(ls:List (Str×Q4))(ws:List (List Nat×Int))(D:Addr)(us Ls:List Addr):Prop where
 lu:us.length=ws.length
 lL:Ls.length=ws.length
 nu:∀u∈us,H u=none
 nL:∀L∈Ls,H L=none/\L≠D
 it:∀(j:Nat) u L x,us[j]? =some u->Ls[j]? =some L->ws[j]? =some x->H' u=some (.tup [.ref L,.int x.2])/\H' L=some (.lst<|(iK ls x.1).map V.str)
structure Told (H H':Hp)(ls:List (Str×Q4))(seen:List Str)(W:Int)(ws:List (List Nat×Int))(μs:List Int)(t A M:Addr)(us Ls ms:List Addr):Prop where
 nt:H t=none
 nA:H A=none
 nM:H M=none
 MA:M≠A
 ML:M∉Ls
 tp:H' t=some (.tup [.int W,.ref A,.ref M])
 ta:H' A=some (.lst<|us.map V.ref)
 tm:H' M=some (.lst<|ms.map V.ref)
 wk:Walks H H' ls ws A us Ls
 lm:ms.length=seen.length
 nm:∀m∈ms,H m=none
 mo:∀(j:Nat) m r μ,ms[j]? =some m->seen[j]? =some r->μs[j]? =some μ->H' m=some (.tup [.str r,.int μ])
def Vp (K:Frag)(C:Addr):Sp:=λvs H Q _=>∃p dx nn ll nums ls T W ws,∃μs:List Int,vs=[.ref p,.int T]/\aW H C p dx nn ll nums ls/\ls.length<100/\
 Pg.iI [.int (nums.length:Int),.list<|ls.map Ju,.int 0,.int 1,.int T]=some (false,.tuple [.int W,.list<|ws.map LH.xM,.list<|μs.map .int])/\
 (∀x∈ws,(∀j∈x.1,j<ls.length)/\x.1.length<1000)/\ws.length<1000/\μs.length=nums.length/\(∀x∈gM ls,(PyData.str x).canLay0=true)/\
 ∀H' t A M us Ls ms,Same H H'->Told H H' ls (seenOf nums) W ws μs t A M us Ls ms->Q (.ref t) H'
theorem PK:bM ["self","turns","told","walks"] ["self","turns"] (aN<|dH 9):=fs
theorem qX:∀{ds:List PyData}{vs:List V},aG K H ds vs->ds.length=vs.length/\∀(j:Nat) d v,ds[j]? =some d->vs[j]? =some v->Has K H d v
 |[],vs,h=>by
  have:vs=[]:=h
  subst this;exact⟨rfl,λj d v e=>by simp at e⟩
 |d::ds,vs,h=>by
  obtain⟨v,r,rfl,h1,h2⟩:=h;have ih:=qX h2;refine⟨by rw[length_cons,length_cons,ih.1],λj d' v' e1 e2=>?_⟩;cases j with
  |zero=>cases e1;cases e2;exact h1
  |succ j=>exact ih.2 j d' v' e1 e2
theorem oX (h:(xs++[y])[j]? =some z):xs[j]? =some z\/(j=xs.length/\z=y):=by
 by_cases hj:j<xs.length
 .rw[getElem?_append_left hj] at h;exact .inl h
 .rw[getElem?_append_right<|by omega] at h;have hl:=(List.getElem?_eq_some_iff.mp h).1;have h0:j - xs.length=0:=by simp at hl;omega
  rw[h0] at h;exact .inr ⟨by omega,by simpa using h.symm⟩
theorem agX (F:bJ K "out" "NamedHall.out" (dH 9) f fd)(B:Bl mg)(c:Cl K C)(Mo:Ms P w K mg base C 6 "out_by" ["self","laid","turns"] (Ss K C))(Mn:Ms P w K mg base C 1 "names_on" ["self","walk"] (Sv K C))(Mb:Ms P w K mg base C 2 "by_room" ["self","moments"] (PJ K C)):
  aX P w K mg base bO 7 f fd ["self","turns"] (Vp K C):=by
 have nd:=PK.nd;have vt:=PK.vt;have vc:=(show(["walk","number","self"]:List Str).all (λx=>Gk (agD ((dj (dH 9)).getD 1 (.Pass ⟨0,0,0,0⟩))) x && plain x)=true by decide +kernel);obtain⟨fo,fdo,Fo,mo,bo⟩:=Mo.ex;obtain⟨fn,fdn,Fn',mn,bn⟩:=Mn.ex;obtain⟨fb,fdb,Fb,mb,bb⟩:=Mb.ex;refine bJ.ok F PK (λvs H Q E h=>by obtain⟨_,_,_,_,_,_,_,_,_,_,rfl,_⟩:=h;rfl) λcdv A outer s H vs Q E hr hsp=>?_;refine⟨_,aH (dX (i:=2) nd rfl lx (gH (pV vt 0) c.cl mo Fo hr bo .nil gW (aj (fj (pV vt 0) rfl) (aj (pV vt 1) aO))))
  (aH (vG (g:=J3 K 2 (pN (cC 0) (pN (cC 1) Ab))) (i:=3) nd rfl lx (cap:=[none,none,some 0]) ["self","turns","told","walks"] (aN (dH 9)) rfl (by decide +kernel) rfl rfl (iw (bh cN (pV vt 2) aJ))
   (λ_ _ _ _ _=>(sH rfl<|fW (Bf (by decide +kernel)<|by decide +kernel)<|fW (Bf (by decide +kernel)<|by decide +kernel) pO))
   (λ_ _ _ _ _=>zX) (λ_ _ _ _ _=>(jM (aj (gH (uw vc 2) c.cl mn Fn' hr.mo bn .nil gW (aj (uw vc 0) aO)) (aj (uw vc 1) aO)))))
  (aP (cF (jM (aj (bh cN (pV vt 2) aJ) (aj (pV vt 3) (aj (gH (pV vt 0) c.cl mb Fb hr.mo bb .nil gW (aj (bh cN (pV vt 2) aJ) aO)) aO))))))),?_⟩
 obtain⟨p,dx,nn,ll,nums,ls,T,W,ws,μs,rfl,hh,hl,em,hws,hwl,hml,hcan,hq⟩:=hsp;obtain⟨kvs,hk,hp⟩:=hh.laid;unfold jm eZ;unfold jH bV dI cC;refine aD rfl ⟨p,dx,_,rfl,hh.ins,rfl,?_⟩;refine fL rfl hh.ins c.cl c.n2 rfl<|aD rfl ⟨p,dx,nn,ll,ll,nums,ls,T,_,kvs,ls,rfl,hh,hk,hp,hl,em,λv H1 s1 hv=>?_⟩;obtain⟨t0,xs0,rfl,hq0,z1,q1,rfl,g1,z2,q2,rfl,g2,z3,q3,rfl,g3,g4⟩:=hv;have e1:=g1;have e4:=g4;subst e1 e4;obtain⟨a,xs,rfl,hsq,hxs⟩:=g2;obtain⟨RL,ak3⟩:=qX hxs;rw[length_map] at RL;have hh1:=hh.grow s1;try dsimp only
 unfold ur qG;refine bK rfl hq0 rfl ⟨a,rfl,⟨xs,hsq⟩,?_⟩;refine lcL (xs:=xs) (λD i ys H'=>∃us Ls,us.length=i/\Ls.length=i/\ys=us.map V.ref/\Same H1 H'/\(∀u∈us,H1 u=none/\u≠D)/\(∀L∈Ls,H1 L=none/\L≠D)/\∀(j:Nat) u L x,us[j]? =some u->Ls[j]? =some L->ws[j]? =some x->H' u=some (.tup [.ref L,.int x.2])/\H' L=some (.lst<|(iK ls x.1).map V.str))
  (aY<|by omega) (λD hD=>⟨[],[],rfl,rfl,rfl,aF hD,λu hu=>by(cases hu),λu hu=>by(cases hu),λj u L x e=>by simp at e⟩) (λD i ys H' h=>by obtain⟨_,_,_,_,_,sm,_⟩:=h;exact sm.seq hsq) (λσ' H' R r=>r) ?_ ?_
 .rintro D i x ys H' hD hx ⟨us,Ls,xP,Bs,rfl,sm,hun,BW,hit⟩ hyD R Kt hR hK;have hi:i<ws.length:=by have:=(List.getElem?_eq_some_iff.mp hx).1;omega
  have hwi:=getElem?_eq_getElem hi;have YD:=getElem_mem hi;have hv:=Has.same sm (ak3 i (LH.xM ws[i]) x (by rw[getElem?_map,hwi];rfl) hx);generalize ws[i]=wi at hwi YD hv;obtain⟨tt,ys',rfl,htt,y1,r1,rfl,k1,y2,r2,rfl,k2,k3⟩:=hv;have e2:=k2;have e3:=k3;subst e2 e3;refine⟨_,htt,rfl,?_⟩;refine hK _ _ (gO.skip<|gO.skip gO.refl) ?_;have hhH:=hh1.grow sm;obtain⟨hix,ak4⟩:=hws wi YD;unfold vq;refine aD rfl ⟨p,dx,_,rfl,hhH.ins,rfl,aD rfl ⟨p,dx,nn,ll,nums,ls,y1,wi.1,rfl,hhH,k1,hix,hcan,ak4,λL H2 s2 hL hLv=>aD rfl ⟨by show 2<=sizeLine;decide,λu hu=>?_⟩⟩⟩;have s3:=aF (o:=.tup [.ref L,.int wi.2]) hu;have YF:=s2.trans s3;have FT:=YF _ _ hyD;have hLD:L≠D:=λz=>by rw[z] at hL;rw[hL] at hyD;cases hyD
  have YG:u≠D:=λz=>by rw[z] at hu;rw[s2 _ _ hyD] at hu;cases hu
  have YH:upd H2 u (.tup [.ref L,.int wi.2]) u=some (.tup [.ref L,.int wi.2]):=ao;have YJ:=s3 _ _ hLv;generalize upd H2 u (.tup [.ref L,.int wi.2])=H3 at s3 YF FT YH YJ ⊢;refine hR _ _ FT ⟨us++[u],Ls++[L],by rw[length_append,xP];rfl,by rw[length_append,Bs];rfl,by rw[map_append];rfl,λb o e=>?_,λv hv=>?_,λv hv=>?_,λj v M x e1 e2 e3=>?_⟩
  .rw[ak λz=>by rw[z,hD] at e;cases e];exact YF _ _<|sm _ _ e
  .rcases mem_append.mp hv with g|g
   .exact hun v g
   .rw[mem_singleton.mp g];exact⟨sm.free<|s2.free hu,YG⟩
  .rcases mem_append.mp hv with g|g
   .exact BW v g
   .rw[mem_singleton.mp g];exact⟨sm.free hL,hLD⟩
  .rcases oX e1 with g1|⟨gj,gv⟩
   .have hji:=(List.getElem?_eq_some_iff.mp g1).1;rcases oX e2 with g2|⟨gj,_⟩
    .obtain⟨c1,c2⟩:=hit j v M x g1 g2 e3;rw[ak (hun v<|mem_of_getElem? g1).2,ak (BW M<|mem_of_getElem? g2).2];exact⟨YF _ _ c1,YF _ _ c2⟩
    .omega
   .rcases oX e2 with g2|⟨_,gm⟩
    .have:=(List.getElem?_eq_some_iff.mp g2).1;omega
    .rw[gj,xP] at e3;rw[hwi] at e3;cases e3;rw[gv,gm,ak YG,ak hLD];exact⟨YH,YJ⟩
 .rintro D ys H2 hD ⟨us,Ls,xP,Bs,rfl,sm,hun,BW,hit⟩ hyl hyD;have hh2:=hh1.grow sm;unfold mC vq;have hq2:=sm.vH hq0;refine bK rfl hq2 rfl<|aD rfl<|aD rfl ⟨p,dx,_,rfl,hh2.ins,rfl,bK rfl hq2 rfl ⟨p,dx,nn,ll,nums,ls,z3,μs,rfl,hh2,Has.same sm g3,hml,λM ms H3 s3 hM hms hMl hlm hmt=>?_⟩⟩;refine⟨by show 3<=sizeLine;decide,λt ht=>?_⟩;have s4:=aF (o:=.tup [.int W,.ref D,.ref M]) ht;have s34:=s3.trans s4;have s14:=s1.trans<|sm.trans s34;have f2:∀{b:Addr},H2 b=none->H b=none:=λh=>s1.free<|sm.free h;refine hq _ t D M us Ls ms s14 ⟨f2<|s3.free ht,s1.free hD,f2 hM,λz=>(by rw[z,hyD] at hM;cases hM),λhm=>?_,ao,s34 _ _ hyD,s4 _ _ hMl,⟨by omega,by omega,λu hu=>s1.free (hun u hu).1,λL hL=>⟨s1.free (BW L hL).1,(BW L hL).2⟩,λj u L x e1 e2 e3=>?_⟩,?_,λm hm=>f2<|hms m hm,λj m r μ e1 e2 e3=>s4 _ _<|hmt j m r μ e1 e2 e3⟩
  .obtain⟨j,ej⟩:=getElem?_of_mem hm;have hj:j<us.length:=by have:=(List.getElem?_eq_some_iff.mp ej).1;omega
   have YK:j<ws.length:=by omega
   have:=(hit j us[j] M ws[j] (getElem?_eq_getElem hj) ej<|getElem?_eq_getElem YK).2;rw[hM] at this;cases this
  .obtain⟨c1,c2⟩:=hit j u L x e1 e2 e3;exact⟨s34 _ _ c1,s34 _ _ c2⟩
  .rw[hlm];unfold seenOf;rw[length_map]
end
end lW
namespace lW
open L2 VM
noncomputable def pA (x:Str×Q4):Sp.aQ:=⟨x.2.1.toNat,x.2.2.1.toNat,x.2.2.2.1,x.2.2.2.2⟩
def cX (ls:List (Str×Q4)):List Sp.aQ:=ls.map pA
structure cT (seen:List Str)(ls:List (Str×Q4))(rows:List Row)(B:Int):Prop where
 lr:Paired (LN seen) ls rows
 nn:(rows.map (·.1)).Nodup
 ne:∀r∈rows,r.2.1≠r.2.2.1
 w1:∀r∈rows,1<=r.2.2.2.1/\r.2.2.2.1<=B
 l1:∀r∈rows,1<=r.2.2.2.2
noncomputable def rowAt (rows:List Row)(j:Nat):Row:=rows.getD j ("","","",0,0)
section
variable {B:Int}
theorem cT.len (F:cT seen ls rows B):ls.length=rows.length:=F.lr.length
structure At (seen:List Str)(ls:List (Str×Q4))(rows:List Row)(j:Nat)(x:Str×Q4):Prop where
 l:ls[j]? =some x
 r:rows[j]? =some (rowAt rows j)
 m:rowAt rows j∈rows
 ln:LN seen x (rowAt rows j)
 p:(cX ls)[j]? =some (pA x)
 n:(gM ls).getD j ""=(rowAt rows j).1
 a:∃i:Nat,(pA x).a=i/\seen[i]? =some (rowAt rows j).2.1
 b:∃i:Nat,(pA x).b=i/\seen[i]? =some (rowAt rows j).2.2.1
 w:(pA x).w=(rowAt rows j).2.2.2.1
 e:(pA x).l=(rowAt rows j).2.2.2.2
theorem cT.at (F:cT seen ls rows B)(h:j<ls.length):∃x,At seen ls rows j x:=by
 have e:=getElem?_eq_getElem h;obtain⟨r,er,hr⟩:=qO F.lr e;have hra:rowAt rows j=r:=by unfold rowAt;rw[getD_eq_getElem?_getD,er];rfl
 obtain⟨h1,⟨i,h2,h3⟩,⟨k,h4,h5⟩,h6,h7⟩:=hr;refine⟨ls[j],e,by rw[hra];exact er,by rw[hra];exact mem_of_getElem? er,by rw[hra];exact⟨h1,⟨i,h2,h3⟩,⟨k,h4,h5⟩,h6,h7⟩,by unfold cX;rw[getElem?_map,e];rfl,?_,⟨i,by unfold pA;dsimp only;rw[h2];rfl,by rw[hra];exact h3⟩,⟨k,by unfold pA;dsimp only;rw[h4];rfl,by rw[hra];exact h5⟩,by rw[hra];exact h6,by rw[hra];exact h7⟩;unfold gM;rw[getD_eq_getElem?_getD,getElem?_map,e,hra];exact h1
theorem cT.mem (F:cT seen ls rows B)(hq:q∈cX ls):∃j x,j<ls.length/\At seen ls rows j x/\q=pA x:=by
 obtain⟨j,ej⟩:=getElem?_of_mem hq;have hj:j<ls.length:=by have:=(List.getElem?_eq_some_iff.mp ej).1;unfold cX at this;rw[length_map] at this;exact this
 obtain⟨x,hx⟩:=F.at hj;rw[hx.p] at ej;exact⟨j,x,hj,hx,(Option.some.inj ej).symm⟩
theorem cT.hall (F:cT seen ls rows B):Sp.aW seen.length (cX ls):=by
 refine⟨λq hq=>?_,λq hq=>?_,λq hq=>?_,λq hq=>?_,λq hq=>?_⟩<;>obtain⟨j,x,hj,hx,rfl⟩:=F.mem hq
 .obtain⟨i,e,h⟩:=hx.a;rw[e];exact(List.getElem?_eq_some_iff.mp h).1
 .obtain⟨i,e,h⟩:=hx.b;rw[e];exact(List.getElem?_eq_some_iff.mp h).1
 .obtain⟨i,e,h⟩:=hx.a;obtain⟨k,e',h'⟩:=hx.b;rw[e,e'];intro z;rw[z,h'] at h;exact F.ne _ hx.m (Option.some.inj h).symm
 .rw[hx.w];exact(F.w1 _ hx.m).1
 .rw[hx.e];exact F.l1 _ hx.m
theorem cT.hD (F:cT seen ls rows B):PM.hD (cX ls)=.list (ls.map Ju):=by unfold PM.hD uN cX;rw[map_map,map_map];congr 1;refine map_congr_left λx hx=>?_;obtain⟨j,ej⟩:=getElem?_of_mem hx;obtain⟨r,_,hr⟩:=qO F.lr ej;obtain⟨_,⟨i,h2,_⟩,⟨k,h4,_⟩,_,_⟩:=hr;show pD (((x.2.1.toNat:Nat):Int),((x.2.2.1.toNat:Nat):Int),x.2.2.2.1,x.2.2.2.2)=Ju x;unfold pD Ju;rw[h2,h4];rfl
theorem cT.out (F:cT seen ls rows B)(hB:B<1000000000000000000000000000000000000000000000000000000000000000000000)(hs:2<=seen.length/\seen.length<=100)(hl:ls.length<=12)(h0:0<=T)(h1:T<1000000000000000000000000000000000000000000000000000000000000000000000):
  ∃W ws μs,LH.qJ seen.length (cX ls) 0 1 T W ws μs/\Pg.iI [.int (seen.length:Int),.list<|ls.map Ju,.int 0,.int 1,.int T]=some (false,.tuple [.int W,.list<|ws.map LH.xM,.list<|μs.map .int]):=by
 have hp:(cX ls).length=ls.length:=by unfold cX;rw[length_map]
 have e:=LH.ah8 (st:=0) (g:=1) F.hall (LH.aaq (by omega) (by omega)) (by omega) (by omega) (by omega) (by omega) (by decide) h0 (by omega) (λq hq=>by
  obtain⟨j,x,hj,hx,rfl⟩:=F.mem hq;have:=F.w1 _ hx.m;rw[hx.w];omega)
 rw[F.hD] at e;exact e
theorem FW:∀{rows:List Row},(rows.map (·.1)).Nodup->r∈rows->rows.filter (λs=>decide<|s.1=r.1)=[r]
 |[],_,h=>by cases h
 |s::rows,nd,h=>by
  rw[map_cons,nodup_cons] at nd;rw[filter_cons];rcases mem_cons.mp h with g|g
  .subst g;rw[if_pos (by simp)];rw[List.filter_eq_nil_iff.mpr λt ht=>by
    simp only[decide_eq_true_eq];exact λz=>nd.1 (by rw[<-z];exact mem_map_of_mem (f:=λx:Row=>x.1) ht)]
  .rw[if_neg (by simp only[decide_eq_true_eq];exact λz=>nd.1 (by rw[z];exact mem_map_of_mem (f:=λx:Row=>x.1) g))];exact FW nd.2 g
def qN:VS:=(aK (Cq 7 (jZ (cu (vF 0)) [none,some 6] (gN 0) (vB (v2 fZ (v2 aM (vN 0) (vC (.int 0))) (vN 1))) (vF 0)))
 (aK (c7 (fX (vB (v2 fZ (vN 7) (fY a0))) (fX (vB (v2 Yd (v2 aM (vN 7) (vC (.int 0))) (vN 4))) (vB (v2 jN (v2 aM (v2 aM (vN 7) (vC (.int 0))) (vC (.int 1))) (vN 5)))))
 (cP<|vC .none)
 cJ)
 (aK (iM 4 (aC (v2 aM (vN 7) (vC (.int 0))) a0))
 (bY (v2 aM (v2 aM (vN 7) (vC (.int 0))) (vC (.int 2))) (gN 5)))))
theorem agY:Fy=(aK (qC 4 (fY a0))
 (aK (bY (vF 2) (gN 5))
 (aK (lM (cu (vF 1)) (gN 6) qN)
 (aK (c7 (vB (v2 jN (vN 5) (vN 3)))
 (cP<|vC .none)
 cJ)
 (fU 4))))):=rfl
def SW (rows:List Row)(nms:PyData)(s0 s1:Str)(acc:List Nat)(room:Str)(x6 x7:Option PyData):GS:=[some (Tg.fr,.list<|rows.map bf),some (Tg.fr,nms),some (Tg.fr,.str s0),some (Tg.fr,.str s1),some (Tg.ow,.list<|acc.map λj=>bf<|rowAt rows j),some (Tg.fr,.str room),ob x6,ob x7]
theorem YL (r:Row):(bf r).depth<=60:=by unfold bf;simp[PyData.depth,depthAll]
theorem aeg {s0 s1 nm:Str}(nd:(rows.map (·.1)).Nodup)(hr:r∈rows)(hl:rows.length<1000)(hc:∀r∈rows,(bf r).canLay0=true)(hn:r.1=nm):
  (jZ (cu<|vF 0) [none,some 6] (gN 0) (vB<|v2 fZ (v2 aM (vN 0)<|vC<|.int 0)<|vN 1)<|vF 0) (SW rows nms s0 s1 acc room (some<|.str nm) x7)=some (.list [bf r]):=by
 unfold SW;walk_at "e1";rw[nP rfl (by rw[length_map];exact aY<|by omega)];rw[DY (f:=λd=>d)]
 .walk_at "e1";rw[List.filter_map,map_map];have e:(rows.filter<|(λd=>match d with|.list (.str n::_)=>decide (n=nm)|_=>false) ∘ bf)=[r]:=by rw[<-FW nd hr,hn];rfl
  rw[e];rfl
 .intro d hd;obtain⟨s,hs,rfl⟩:=mem_map.mp hd;refine⟨[some (.fr,bf s),some (.fr,.str nm)],by walk_at "e1",?_,λ_=>by walk_at "e1"⟩;unfold bf;walk_at "e1";have e:fZ (.str s.1) (.str nm)=some (.bool<|decide<|s.1=nm):=by
   unfold fZ;rw[if_pos<|by simp[PyData.depth]]
   have:eqv (.str s.1) (.str nm)=decide (s.1=nm):=by simp only[eqv];rw[Bool.eq_iff_iff];simp
   rw[this]
  rw[e];walk_at "e1"
theorem abb {s0 s1 nm:Str}(nd:(rows.map (·.1)).Nodup)(hm:rowAt rows j∈rows)(hl:rows.length<1000)(hc:∀r∈rows,(bf r).canLay0=true)(hn:(rowAt rows j).1=nm)(hroom:(rowAt rows j).2.1=room)
  (hacc:∀i∈acc,(rowAt rows i).1≠nm)(ha:acc.length<=1000):qN (SW rows nms s0 s1 acc room (some<|.str nm) x7)=.nxt (SW rows nms s0 s1 (acc++[j]) (rowAt rows j).2.2.1 (some<|.str nm)<|some<|.list [bf<|rowAt rows j]):=by
 have ef:=aeg (nms:=nms) (s0:=s0) (s1:=s1) (acc:=acc) (room:=room) (x7:=x7) nd hm hl hc hn;have hcr:=hc _ hm;unfold qN;rw[Af,Ag,ef];unfold SW;walk_at "e1";have e0:fZ (.list [bf<|rowAt rows j]) (.list [])=some (.bool false):=eq_nil [rowAt rows j];rw[e0];walk_at "e1";have e1:Yd (bf<|rowAt rows j) (.list<|acc.map λj=>bf<|rowAt rows j)=some (.bool false):=by
  have hall:((acc.map λj=>bf<|rowAt rows j).all λd=>!PyData.eqv d (bf<|rowAt rows j))=true:=all_eq_true.mpr λd hd=>by obtain⟨i,hi,rfl⟩:=mem_map.mp hd;rw[FJ λz=>hacc i hi<|by rw[z,hn]];rfl
  exact if_pos ⟨YL _,hall⟩
 rw[e1];generalize hrr:rowAt rows j=r at*
 have c1:(PyData.str r.2.1).canLay0=true:=by simp only[bf,canLay0,canLayAll0,and_eq_true] at hcr ⊢;exact hcr.2.1
 have e2:jN (.str r.2.1) (.str room)=some (.bool false):=by rw[<-hroom];exact CQ (by simp[PyData.depth]) c1
 rw[show bf r=.list [.str r.1,.str r.2.1,.str r.2.2.1,.int r.2.2.2.1,.int r.2.2.2.2] from rfl];walk_at "e1";rw[e2];walk_at "e1";rw[if_pos (by rw[length_map];exact aY<|by omega)];walk_at "e1";rw[map_append,map_cons,map_nil,hrr];rfl
theorem abd (F:cT seen ls rows B)(hl:rows.length<1000)(hc:∀r∈rows,(bf r).canLay0=true):∀(w acc:List Nat) (v:Nat) (room:Str) (x6 x7:Option PyData),LH.goes (cX ls) v w=some g->seen[v]? =some room->(acc++w).Nodup->(∀j∈acc++w,j<ls.length)->
  ∃Ar Je x7',fD (gN 6) qN ((iK ls w).map .str) (SW rows nms s0 s1 acc room x6 x7)=.nxt (SW rows nms s0 s1 (acc++w) Ar Je x7')/\seen[g]? =some Ar:=by
 intro w;induction w with
 |nil=>
  intro acc v room x6 x7 hg hs _ _;cases hg;exact⟨room,x6,x7,by rw[append_nil];rfl,hs⟩
 |cons j w ih=>
  intro acc v room x6 x7 hg hs nd hi;have hj:=hi j<|mem_append.mpr<|.inr<|mem_cons_self ..;obtain⟨x,hx⟩:=F.at hj;rw[LH.goes,hx.p] at hg;dsimp only at hg;split at hg
  .rename_i hq;obtain⟨ia,e1,e2⟩:=hx.a;obtain⟨ib,e3,e4⟩:=hx.b;have hroom:(rowAt rows j).2.1=room:=by rw[<-e1,hq,hs] at e2;exact(Option.some.inj e2).symm
   have nd':=(nodup_append.mp nd);have hacc:∀i∈acc,(rowAt rows i).1≠(rowAt rows j).1:=λi hia z=>by
    have hil:=hi i<|mem_append.mpr<|.inl hia;obtain⟨y,hy⟩:=F.at hil;have hne:i≠j:=λz=>nd'.2.2 i hia j (mem_cons_self ..) z;have n1:(rows.map (·.1))[i]? =some (rowAt rows i).1:=by rw[getElem?_map,hy.r];rfl
    have n2:(rows.map (·.1))[j]? =some (rowAt rows i).1:=by rw[getElem?_map,hx.r,z];rfl
    obtain⟨b1,c1⟩:=List.getElem?_eq_some_iff.mp n1;obtain⟨b2,c2⟩:=List.getElem?_eq_some_iff.mp n2;exact hne<|(getElem_inj F.nn).mp<|c1.trans c2.symm
   have hal:acc.length<=1000:=by
    have h1:(acc++j::w).length<=ls.length:=by have:=Sp.jL nd hi;exact this
    rw[length_append] at h1;have:=F.len;omega
   have hb:=abb (nms:=nms) (s0:=s0) (s1:=s1) (x7:=x7) F.nn hx.m hl hc rfl hroom hacc hal;obtain⟨Ar,Je,x7',h1,h2⟩:=ih (acc++[j]) (pA x).b (rowAt rows j).2.2.1 (some<|.str (rowAt rows j).1) (some<|.list [bf<|rowAt rows j]) hg (by rw[e3];exact e4) (by rw[append_assoc];exact nd) (by rw[append_assoc];exact hi);refine⟨Ar,Je,x7',?_,h2⟩;rw[append_assoc] at h1;unfold iK at h1 ⊢;rw[map_cons,map_cons,fD];have ht:gN 6 (.str<|(gM ls).getD j "") (SW rows nms s0 s1 acc room x6 x7)=some (SW rows nms s0 s1 acc room (some<|.str (rowAt rows j).1) x7):=by rw[hx.n];unfold SW;walk_at "e1"
   rw[ht];dsimp only;rw[hb];exact h1
  .cases hg
theorem Uy (F:cT seen ls rows B)(hl:rows.length<1000)(hc:∀r∈rows,(bf r).canLay0=true){rest:List Str}(hs:seen=s0::s1::rest)(h1c:(PyData.str s1).canLay0=true)(Wk:LH.uP (cX ls) 0 1 x):
  lG [eO rows,bD<|iK ls x.1,.str s0,.str s1]=some (true,.list<|x.1.map λj=>bf<|rowAt rows j):=by
 have hp:(cX ls).length=ls.length:=by unfold cX;rw[length_map]
 obtain⟨Ar,Je,x7',e,h⟩:=abd F hl hc x.1 [] 0 s0 none none Wk.go (by rw[hs];rfl) Wk.nd (λj hj=>by have:=Wk.ix j hj;omega);have hr:Ar=s1:=by rw[hs] at h;exact(Option.some.inj h).symm
 subst hr;unfold lG eO bD at*
 rw[agY];walk_at "e1";unfold SW at e;simp only[jx,map_nil,nil_append] at e;rw[e];walk_at "e1";have e2:=CQ (by simp[PyData.depth]) h1c;rw[e2];walk_at "e1"
end
noncomputable def mL (p:Str×Int):PyData:=.tuple [.str p.1,.int p.2]
def wX (seen:List Str)(μs:List Int):PyData:=.list<|(seen.zip μs).map mL
theorem G7 (x:Int):dM [.int x]=some (false,.bool true):=by unfold dM zA;walk_at "e1"
def Vq:VS:=c7 (fX (cR<|vB<|nG "tuple" (vN 3))<|fX (vB<|v2 jN (cU eU<|aC (vN 3) a0)<|vC<|.int 2)<|fX (cR<|vB<|aZ dM<|aC (v2 aM (vN 3)<|vC<|.int 1) a0)<|cR<|vB<|rC xr xr (vC<|.int 0) (v2 aM (vN 3)<|vC<|.int 1)<|v2 cI (vN 2)<|vC<|.int 1)
      (cP<|vC<|.bool false) cJ
theorem Vr:uV=(aK (c7 (fX (cR (vB (nG "list" (vN 0)))) (vB (v2 jN (jZ (cu (vF 0)) [none] (gN 0) fQ (v2 aM (vN 0) (vC (.int 0)))) (vN 1))))
 (cP<|vC<|.bool false)
 cJ)
 (aK (lM (cu (vF 0)) (gN 3) Vq)
 (cP (Ck (v2 fZ (v2 aM (v2 aM (vN 0) (vC (.int 0))) (vC (.int 1))) (vC (.int 0))) (v2 fZ (v2 aM (v2 aM (vN 0) (vC (.int 1))) (vC (.int 1))) (v2 cI (vN 2) (vC (.int 1)))))))):=rfl
theorem zq {rest:List Str}(hl:μs.length=(s0::s1::rest).length)(hs:(s0::s1::rest).length<1000)(hc:∀x∈s0::s1::rest,(PyData.str x).canLay0=true)(hb:∀μ∈μs,0<=μ/\μ<=T+1)(h0:PM.lf μs 0=0)(h1:PM.lf μs 1=T+1):
  iC [wX (s0::s1::rest) μs,bD (s0::s1::rest),.int T]=some (false,.bool true):=by
 obtain⟨m0,m1,mr,rfl⟩:∃m0 m1 mr,μs=m0::m1::mr:=by
  match μs,hl with
  |m0::m1::mr,_=>exact⟨m0,m1,mr,rfl⟩
 have e0:m0=0:=h0;have e1:m1=T+1:=h1;have hne:=CQ (Vk (s0::s1::rest))<|aaT hc;unfold iC wX bD at*
 rw[Vr];generalize hS:s0::s1::rest=seen at*
 generalize hM:m0::m1::mr=ms at*
 walk_at "e1";rw[nP rfl (by rw[length_map,length_zip];exact aY<|by omega)];rw[gJ]
 .walk_at "e1";have e2:((seen.zip ms).map mL).map (λd=>match d with|.tuple (x::_)=>x|d=>d)=seen.map .str:=by
   rw[map_map]
   have:(seen.zip ms).map ((λd=>match d with|.tuple (x::_)=>x|d=>d) ∘ mL)=((seen.zip ms).map (·.1)).map .str:=by rw[map_map];rfl
   rw[this,List.map_fst_zip<|by omega]
  rw[e2,hne];walk_at "e1";obtain⟨S',eS,x3,hS'⟩:=QZ (t:=gN 3) (g:=Vq) (λ_ S=>∃x3,S=[some (Tg.fr,.list<|(seen.zip ms).map mL),some (Tg.fr,.list<|seen.map .str),some (Tg.fr,.int T),ob x3]) ((seen.zip ms).map mL) 0 [some (Tg.fr,.list<|(seen.zip ms).map mL),some (Tg.fr,.list<|seen.map .str),some (Tg.fr,.int T),none] ⟨none,rfl⟩ λj d S hd hS=>by
    obtain⟨x3,rfl⟩:=hS;obtain⟨p,hp,rfl⟩:=mem_map.mp<|mem_of_getElem? hd;have hpm:=(of_mem_zip hp).2;obtain⟨b0,b1⟩:=hb _ hpm;refine⟨[some (Tg.fr,.list<|(seen.zip ms).map mL),some (Tg.fr,.list<|seen.map .str),some (Tg.fr,.int T),ob<|some<|mL p],by walk_at "e1",[some (Tg.fr,.list<|(seen.zip ms).map mL),some (Tg.fr,.list<|seen.map .str),some (Tg.fr,.int T),ob<|some<|mL p],.inl ?_,⟨_,rfl⟩⟩;unfold Vq mL;walk_at "e1";have d2:decide (((2:Nat):Int)=2)=true:=by decide
    simp only[d2];walk_at "e1";rw[G7];walk_at "e1";simp only[b0,decide_true];walk_at "e1";simp only[b1,decide_true];walk_at "e1"
  rw[eS];subst hS';rw[<-hS,←hM];walk_at "e1";rw[zip_cons_cons,zip_cons_cons];walk_at "e1";unfold mL;walk_at "e1";rw[e0];walk_at "e1";simp only[decide_true];walk_at "e1";rw[e1];simp only[decide_true];walk_at "e1"
 .intro d hd;obtain⟨p,_,rfl⟩:=mem_map.mp hd;refine⟨_,rfl,rfl,rfl⟩
open PyProof.Rows
theorem abe:∀{l:List (Str×α)},bF a (fJ b v l)=if a=b then some v else bF a l:=by
 intro l;unfold fJ;split
 .rename_i h;induction l with
  |nil=>simp at h
  |cons x r ih=>
   rw[map_cons,bF,bF];by_cases e:x.1=b
   .rw[if_pos e];by_cases e2:a=b
    .rw[if_pos e2];dsimp only;rw[if_pos<|by rw[e,e2]]
    .rw[if_neg e2];dsimp only;rw[if_neg (by rw[e];exact λz=>e2 z.symm)];rw[if_neg (by rw[e];exact λz=>e2 z.symm)];by_cases h2:(r.any λx=>decide<|x.1=b)=true
     .have:=ih h2;rw[if_neg e2] at this;exact this
     .have hr:r.map (λx=>if x.1=b then(x.1,v) else x)=r:=by
       have:∀x∈r,¬x.1=b:=λx hx z=>h2<|any_eq_true.mpr ⟨x,hx,by simpa using z⟩
       calc r.map (λx=>if x.1=b then(x.1,v) else x)=r.map id:=map_congr_left λx hx=>by rw[if_neg<|this x hx];rfl
        _=r:=map_id r
      rw[hr]
   .rw[if_neg e];have h2:(r.any λx=>decide<|x.1=b)=true:=by rw[any_cons,decide_eq_false e,Bool.false_or] at h;exact h
    have:=ih h2;by_cases e3:x.1=a
    .rw[if_pos e3,if_pos e3];rw[if_neg λz=>e<|by rw[e3,z]]
    .rw[if_neg e3,if_neg e3];exact this
 .rename_i h;have h':∀x∈l,x.1≠b:=λx hx z=>h (any_eq_true.mpr ⟨x,hx,by simpa using z⟩);clear h;induction l with
  |nil=>
   show(if b=a then some v else bF a [])=(if a=b then some v else bF a []);by_cases e:a=b
   .rw[if_pos e.symm,if_pos e]
   .rw[if_neg λz=>e z.symm,if_neg e]
  |cons x r ih=>
   rw[cons_append,bF,bF,ih λy hy=>h' y<|mem_cons_of_mem _ hy];by_cases e3:x.1=a
   .rw[if_pos e3,if_pos e3,if_neg λz=>h' x (mem_cons_self ..)<|by rw[e3,z]]
   .rw[if_neg e3,if_neg e3]
def oh (seen:List Str)(μs:List Int)(x:Str):Int:=(bF x<|seen.zip μs).getD 0
theorem wY:∀{seen:List Str}{μs:List Int} {i:Nat} {x:Str} {μ:Int},seen.Nodup->seen[i]? =some x->μs[i]? =some μ->bF x (seen.zip μs)=some μ
 |s::seen,m::μs,0,x,μ,_,h1,h2=>by cases h1;cases h2;rw[zip_cons_cons,bF,if_pos rfl]
 |s::seen,m::μs,i+1,x,μ,nd,h1,h2=>by
  rw[nodup_cons] at nd;rw[zip_cons_cons,bF,if_neg λz=>nd.1 (by
   have hz:s=x:=z;rw[hz];exact mem_of_getElem? (show seen[i]? =some x from h1))]
  exact wY nd.2 (show seen[i]? =some x from h1) (show μs[i]? =some μ from h2)
 |[],_,i,x,μ,_,h1,_=>by simp at h1
 |_::_,[],i,x,μ,_,_,h2=>by simp at h2
def wZ (seen:List Str)(μs:List Int)(r:Row):Int:=r.2.2.2.1*(if oh seen μs r.2.2.1 - oh seen μs r.2.1 - r.2.2.2.2>0 then oh seen μs r.2.2.1 - oh seen μs r.2.1 - r.2.2.2.2 else 0)
section
variable {K:Frag}
theorem qY (e:σ[i]? =some (some<|.ref t))(h:aR K H t xs)(a:bW xs j=some v)(q:Q v H):gR (sG K) (vR i) (tC<|.int j) σ H Q:=aD e ⟨xs,v,h,a,q⟩
theorem row_has (h:Has K H (bf r) v):∃a,v=.ref a/\aR K H a (dB r):=by obtain⟨t,xs,rfl,hq,y1,r1,rfl,⟨rfl,_⟩,y2,r2,rfl,⟨rfl,_⟩,y3,r3,rfl,⟨rfl,_⟩,y4,r4,rfl,h4,y5,r5,rfl,h5,hr⟩:=h;have e4:=h4;have e5:=h5;have er:=hr;subst e4 e5 er;exact⟨t,rfl,hq⟩
theorem aeh (h:Has K H (mL p) v):∃a,v=.ref a/\bB K H a [.str p.1,.int p.2]:=by obtain⟨t,xs,rfl,hq,y1,r1,rfl,⟨rfl,_⟩,y4,r4,rfl,h4,hr⟩:=h;have e4:=h4;have er:=hr;subst e4 er;exact⟨t,rfl,hq⟩
def Sw (K:Frag):Sp:=λvs H Q _=>∃vd vm rows seen,∃μs:List Int,vs=[vd,vm]/\Has K H (eO rows) vd/\Has K H (wX seen μs) vm/\seen.Nodup/\μs.length=seen.length/\seen.length<1000/\(∀r∈rows,r.2.1∈seen/\r.2.2.1∈seen/\r.2.2.2.1.natAbs<2^8000/\(oh seen μs r.2.2.1 - oh seen μs r.2.1 - r.2.2.2.2).natAbs<2^8000)/\∀H',Same H H'->Q (.int (rows.map<|wZ seen μs).sum) H'
theorem Dg:bM ["_law_held","_law_moments_here","_law_at","_law_room","_law_moment","_law_found","_law_row"] ["_law_held","_law_moments_here"] (aN<|top 48):=fs
theorem abf (F:bJ K "_law_bound" "_law_bound" (top 48) f fd)(B:Bl mg):aX P w K mg base bO 1 f fd ["_law_held","_law_moments_here"] (Sw K):=by
 have nd:=Dg.nd;have vt:=Dg.vt;refine bJ.ok F Dg (λvs H Q E h=>by obtain⟨_,_,_,_,_,rfl,_⟩:=h;rfl) λcdv A outer s H vs Q E hr hsp=>?_;refine⟨_,aH (dX (i:=2) nd rfl lx Cv)
  (aH (iV PassesOwn.never rfl (iw (pV vt 1)) (sH rfl (fW (cj (i:=3) nd rfl lx) (fW (cj (i:=4) nd rfl lx) pO))) (aP (uK (jl hr) (pV vt 2) (pV vt 3) (pV vt 4) rfl)))
  (aH (dX (i:=5) nd rfl lx aJ)
  (aH (iV PassesOwn.never rfl (iw (pV vt 0)) (cj (i:=6) nd rfl lx) (aP (dX (i:=5) nd rfl lx (iW tL (pV vt 5) (iW Lk (bh pL (pV vt 6) aJ) (cO (V9 rfl) gx B.max PyProof.Rows.boot_max (aj aJ (aj (iW Gm (iW Gm (qU (jl hr) (pV vt 2) (bh pL (pV vt 6) aJ) (λ_ _=>rfl)) (qU (jl hr) (pV vt 2) (bh pL (pV vt 6) aJ) (λ_ _=>rfl))) (bh pL (pV vt 6) aJ)) aO))))))))
  (aP (cF (pV vt 5)))))),?_⟩
 obtain⟨vd,vm,rows,seen,μs,rfl,YM,hvm,hnd,hml,hsl,hin,hq⟩:=hsp;obtain⟨am,xm,rfl,hsm,hxm⟩:=hvm;obtain⟨ad,xd,rfl,hsd,hxd⟩:=YM;obtain⟨lm,ak5⟩:=qX hxm;obtain⟨ld,abg⟩:=qX hxd;rw[length_map] at lm ld;have hzl:(seen.zip μs).length=seen.length:=by rw[length_zip];omega
 unfold jm eZ cC;intro d hd;have s1:=aF (o:=.dK []) hd;have hd1:upd H d (.dK []) d=some (.dK []):=ao;generalize upd H d (.dK [])=H1 at s1 hd1 ⊢;try dsimp only
 rw[iy];refine aD rfl ⟨am,rfl,⟨xm,s1.seq hsm⟩,?_⟩;refine forL (λi σ' H'=>(∃y3 y4,σ'=[some<|.ref ad,some<|.ref am,some<|.ref d,y3,y4,none,none])/\H' d=some (.dK<|((seen.zip μs).take i).map gQ)/\Same H H') ⟨⟨_,_,rfl⟩,hd1,s1⟩ (λi σ' H' _ h=>h.2.2.seq hsm) ?_ ?_
 .rintro i v σ' H' hv ⟨⟨y3,y4,rfl⟩,hdi,sm⟩;have hi:i<(seen.zip μs).length:=by have:=(List.getElem?_eq_some_iff.mp hv).1;omega
  have hpi:=getElem?_eq_getElem hi;obtain⟨t,rfl,hst⟩:=aeh (Has.same sm (ak5 i _ v (by rw[getElem?_map,hpi];rfl) hv));have htk:(seen.zip μs).take (i+1)=(seen.zip μs).take i++[(seen.zip μs)[i]]:=by rw[take_succ,hpi];rfl
  have ag0:((seen.zip μs).map (·.1))=seen:=List.map_fst_zip (by omega);have hnew:(seen.zip μs)[i].1∉((seen.zip μs).take i).map (·.1):=λhm=>by
   rw[map_take,ag0] at hm;have h1:seen[i]? =some (seen.zip μs)[i].1:=by have h2:=congrArg (λl=>l[i]?) ag0;simp only[getElem?_map,hpi] at h2;exact h2.symm
   obtain⟨k,ek⟩:=getElem?_of_mem hm;have hk:k<i:=by have:=(List.getElem?_eq_some_iff.mp ek).1;rw[length_take] at this;omega
   rw[List.getElem?_take,if_pos hk] at ek;obtain⟨b1,c1⟩:=List.getElem?_eq_some_iff.mp ek;obtain⟨b2,c2⟩:=List.getElem?_eq_some_iff.mp h1;have:=(getElem_inj hnd).mp<|c1.trans c2.symm;omega
  generalize (seen.zip μs)[i]=p at hst htk hnew;refine⟨_,hst,rfl,?_⟩;show wA (vR 2) (vR 3) (vR 4) _ [some<|.ref ad,some<|.ref am,some<|.ref d,some<|.str p.1,some<|.int p.2,none,none] H';refine aD rfl<|aD rfl<|aD rfl ⟨d,_,rfl,rJ.k (k:=.inr p.1) hdi (by rw[length_map,length_take];exact aY<|by omega),⟨_,_,rfl⟩,?_,λb o e=>?_⟩
  .rw[ao,GF,CZ hnew,htk]
  .rw[ak λz=>by rw[z,hd] at e;cases e];exact sm _ _ e
 rintro σ' H2 ⟨⟨y3,y4,rfl⟩,hd2,s2⟩;rw[<-lm,take_of_length_le<|by omega] at hd2;have get:∀x∈seen,jK ((seen.zip μs).map gQ) (.inr x)=some (.int<|oh seen μs x):=λx hx=>by
  obtain⟨i,ei⟩:=getElem?_of_mem hx;have hi:i<μs.length:=by have:=(List.getElem?_eq_some_iff.mp ei).1;omega
  rw[oV];unfold oh;rw[wY hnd ei<|getElem?_eq_getElem hi];rfl
 unfold tC;try dsimp only
 rw[iy];refine aD rfl ⟨ad,rfl,⟨xd,s2.seq hsd⟩,?_⟩;refine forL (λi σ' H'=>(∃y6,σ'=[some<|.ref ad,some<|.ref am,some<|.ref d,y3,y4,some<|.int ((rows.take i).map<|wZ seen μs).sum,y6])/\H'=H2) ⟨⟨_,rfl⟩,rfl⟩ (λi σ' H' _ h=>by rw[h.2];exact s2.seq hsd) ?_ ?_
 .rintro i v σ' H' hv ⟨⟨y6,rfl⟩,rfl⟩;have hi:i<rows.length:=by have:=(List.getElem?_eq_some_iff.mp hv).1;omega
  have hri:=getElem?_eq_getElem hi;have hrm:=getElem_mem hi;obtain⟨t,rfl,hst⟩:=row_has (Has.same s2 (abg i _ v (by rw[getElem?_map,hri];rfl) hv));have htk:rows.take (i+1)=rows.take i++[rows[i]]:=by rw[take_succ,hri];rfl
  generalize rows[i]=r at hst htk hrm;obtain⟨ha,hb,hbw,hbm⟩:=hin r hrm;have hbi:(if oh seen μs r.2.2.1 - oh seen μs r.2.1 - r.2.2.2.2>0 then oh seen μs r.2.2.1 - oh seen μs r.2.1 - r.2.2.2.2 else 0).natAbs<2^8000:=by
   split
   .exact hbm
   .exact Nat.lt_of_le_of_lt (zero_le _) hbm
  rw[op2];refine aD rfl ?_;rw[op2];refine qY rfl hst rfl ?_;unfold pJ bV dI;dsimp only;rw[op2,op2];refine aD rfl (qY rfl hst rfl ⟨d,_,rfl,by rw[<-get _ hb];exact gY.k (k:=.inr r.2.2.1) hd2,?_⟩);refine aD rfl (qY rfl hst rfl ⟨d,_,rfl,by rw[<-get _ ha];exact gY.k (k:=.inr r.2.1) hd2,?_⟩);refine qY rfl hst rfl ⟨0,_,rfl,?_⟩;have es:((rows.take<|i+1).map<|wZ seen μs).sum=((rows.take i).map<|wZ seen μs).sum+wZ seen μs r:=by rw[htk,map_append,map_cons,map_nil,List.sum_append,sum_cons,List.sum_nil,Int.add_zero]
  rw[es];exact⟨⟨hbw,hbi⟩,⟨_,rfl⟩,rfl⟩
 rintro σ' H3 ⟨⟨y6,rfl⟩,rfl⟩;rw[<-ld,take_of_length_le<|by omega];try dsimp only
 unfold mC;exact aD (v:=.int _) rfl<|hq _ s2
end
def zR (ls:List (Str×Q4))(x:List Nat×Int):PyData:=.tuple [bD<|iK ls x.1,.int x.2]
def qp (rows:List Row)(T:Int)(ws:List (List Nat×Int)):Int:=(ws.map λx=>x.2*(T - (x.1.map λj=>(rowAt rows j).2.2.2.2).sum+1)).sum
def jD (rows:List Row)(w:List Nat):Int:=(w.map λj=>(rowAt rows j).2.2.2.2).sum
section
variable {n T far found:Int}
theorem ak6 {nms:List Str}:(fX (cR<|vB<|nG "tuple" (vN 6))<|fX (vB<|v2 jN (cU eU<|aC (vN 6) a0)<|vC<|.int 2)<|fX (cR<|vB<|nG "list" (v2 aM (vN 6)<|vC<|.int 0))<|cR<|vB<|aZ dM<|aC (v2 aM (vN 6)<|vC<|.int 1) a0) [x0,x1,x2,x3,x4,x5,some (.fr,.tuple [bD nms,.int n]),x7,x8,x9,x10]=some false:=by
 unfold bD;walk_at "e1";have d2:decide (((2:Nat):Int)=2)=true:=by decide
 simp only[d2];walk_at "e1";rw[G7];walk_at "e1"
theorem ag1 {nms seen:List Str}{s0 s1:Str}{rest:List Str}{d:PyData}(h:lG [eO rows,bD nms,.str s0,.str s1]=some (true,d)):
  (aZ lG<|aC (vF 1)<|aC (v2 aM (vN 6)<|vC<|.int 0)<|aC (v2 aM (vN 2)<|vC<|.int 0)<|aC (v2 aM (vN 2)<|vC<|.int 1) a0) [x0,some (.fr,eO rows),some (.fr,bD (s0::s1::rest)),x3,x4,x5,some (.fr,.tuple [bD nms,.int n]),x7,x8,x9,x10]=some d:=by
 unfold bD at h ⊢;walk_at "e1";rw[h];walk_at "e1"
theorem ak7 {ds:List PyData}{d0:PyData}(hn:1<=n):(fX (vB<|v2 isD (vN 7)<|vC .none)<|vB<|v2 sJ (v2 aM (vN 6)<|vC<|.int 1)<|vC<|.int 1) [x0,x1,x2,x3,x4,x5,some (.fr,.tuple [d0,.int n]),some (.fr,.list ds),x8,x9,x10]=some false:=by have hlt:decide (n<1)=false:=decide_eq_false (by omega);walk_at "e1";simp only[hlt];walk_at "e1"
theorem ag2 (hl:w.length<1000):(cU yJ<|aC (jZ (cu<|vF 7) [none] (gN 0) fQ<|v2 aM (vN 0)<|vC<|.int 4) a0) [x0,x1,x2,x3,x4,x5,x6,some (.fr,.list<|w.map λj=>bf<|rowAt rows j),x8,x9,x10]=some (.int<|jD rows w):=by
 walk_at "e1";rw[nP rfl (by rw[length_map];exact aY<|by omega)];rw[gJ]
 .walk_at "e1";have e:(w.map λj=>bf<|rowAt rows j).map (λd=>match d with|.list [_,_,_,_,x]=>x|d=>d)=(w.map λj=>(rowAt rows j).2.2.2.2).map .int:=by rw[map_map,map_map];rfl
  rw[e];unfold yJ;simp only[jJ];rfl
 .intro d hd;obtain⟨j,_,rfl⟩:=mem_map.mp hd;refine⟨_,rfl,rfl,rfl⟩
theorem ak8 (h:far<=T):(vB<|v2 yF (vN 8)<|vN 3) [x0,x1,x2,some (.fr,.int T),x4,x5,x6,x7,some (.fr,.int far),x9,x10]=some false:=by have hlt:decide (far>T)=false:=decide_eq_false (by omega);walk_at "e1";simp only[hlt]
theorem ag3 {d0:PyData}(h1:0<=n/\n<1000000000000000000000000000000000000000000000000000000000000000000000000000000)(h2:0<=T - far+1/\T - far+1<1000000000000000000000000000000000000000000000000000000000000000000000000000000):(v2 cI (vN 5)<|v2 vO (v2 aM (vN 6)<|vC<|.int 1)<|v2 cI (v2 mD (vN 3)<|vN 8)<|vC<|.int 1) [x0,x1,x2,some (.fr,.int T),x4,some (.fr,.int found),some (.fr,.tuple [d0,.int n]),x7,some (.fr,.int far),x9,x10]=some (.int<|found+n*(T - far+1)):=by walk_at "e1";rw[rE (by omega) (by omega) (by omega) (by omega)];walk_at "e1"
end
def oA (nm:Nat->Str)(u:List (Str×Int))(x:List Nat×Int):List (Str×Int):=x.1.foldl (λu j=>fJ (nm j) ((bF (nm j) u).getD 0+x.2) u) u
theorem Sx (nm:Nat->Str)(n:Int):∀(w:List Nat) (u:List (Str×Int)),(oA nm u (w,n)).length<=u.length+w.length:=by
 intro w;induction w with
 |nil=>intro u;exact le_refl _
 |cons j w ih=>intro u;have h1:=ih<|fJ (nm j) ((bF (nm j) u).getD 0+n) u;have h2:=Pa (nm j) ((bF (nm j) u).getD 0+n) u;show(oA nm (fJ (nm j) ((bF (nm j) u).getD 0+n) u) (w,n)).length<=_;rw[length_cons];omega
theorem aei {nm:Nat->Str}(hinj:∀a b,a<m->b<m->nm a=nm b->a=b)(hi:i<m):∀(w:List Nat) (u:List (Str×Int)),w.Nodup->(∀j∈w,j<m)->(bF (nm i)<|oA nm u (w,n)).getD 0=(bF (nm i) u).getD 0+(if i∈w then n else 0):=by
 intro w;induction w with
 |nil=>intro u _ _;simp[oA]
 |cons j w ih=>
  intro u nd hj;rw[nodup_cons] at nd;have e:=ih (fJ (nm j) ((bF (nm j) u).getD 0+n) u) nd.2 λk hk=>hj k<|mem_cons_of_mem _ hk;show(bF (nm i)<|oA nm (fJ (nm j) ((bF (nm j) u).getD 0+n) u) (w,n)).getD 0=_;rw[e,abe];by_cases hij:i=j
  .subst hij;rw[if_pos rfl,if_neg nd.1,if_pos<|mem_cons_self ..];show(bF (nm i) u).getD 0+n+0=_;omega
  .rw[if_neg λz=>hij<|hinj i j hi (hj j<|mem_cons_self ..) z];by_cases hiw:i∈w
   .rw[if_pos hiw,if_pos<|mem_cons_of_mem _ hiw]
   .rw[if_neg hiw,if_neg (by rw[mem_cons];exact λz=>z.elim hij hiw)]
theorem aej {nm:Nat->Str}{i m:Nat}(hinj:∀a b,a<m->b<m->nm a=nm b->a=b)(hi:i<m):∀(ws:List (List Nat×Int)) (u:List (Str×Int)),(∀x∈ws,x.1.Nodup/\∀j∈x.1,j<m)->(bF (nm i)<|ws.foldl (oA nm) u).getD 0=(bF (nm i) u).getD 0+LH.share i ws:=by
 intro ws;induction ws with
 |nil=>intro u _;simp[LH.share]
 |cons x ws ih=>intro u h;obtain⟨h1,h2⟩:=h x<|mem_cons_self ..;rw[foldl_cons,ih _ λy hy=>h y<|mem_cons_of_mem _ hy,aei hinj hi x.1 u h1 h2,LH.share];omega
section
variable {K:Frag}
noncomputable abbrev big:Int:=1000000000000000000000000000000000000000000000000000000000000000000000000000000
theorem Dh:∀{ds:List PyData},canLayAll0 ds=true->∀d∈ds,d.canLay0=true
 |[],_,d,h=>by cases h
 |e::ds,h,d,hd=>by
  simp only[canLayAll0,and_eq_true] at h;rcases mem_cons.mp hd with g|g
  .rw[g];exact h.1
  .exact Dh h.2 d g
theorem abh {rows:List Row}(h:(eO rows).canLay0=true):∀r∈rows,(bf r).canLay0=true:=λr hr=>by unfold eO at h;simp only[canLay0] at h;exact Dh h _<|mem_map_of_mem hr
theorem YQ {xs:List Str}(h:(bD xs).canLay0=true):∀x∈xs,(PyData.str x).canLay0=true:=λr hr=>by simp only[canLay0] at h ⊢;have:=Dh h _<|mem_map_of_mem hr;simpa only[canLay0] using this
def Sy (K:Frag):Sp:=λvs H Q _=>∃vw vd vz T seen ls rows B s0 s1 rest ws,vs=[vw,vd,vz,.int T]/\Has K H (.list<|ws.map<|zR ls) vw/\Has K H (eO rows) vd/\Has K H (bD seen) vz/\seen=s0::s1::rest/\cT seen ls rows B/\rows.length<1000/\
 (∀x∈ws,LH.uP (cX ls) 0 1 x/\x.2<big/\jD rows x.1<=T/\0<=jD rows x.1)/\T+1<big/\ws.length<1000/\(∀j,j<rows.length->LH.share j ws<=(rowAt rows j).2.2.2.1)/\
 ∀H',Same H H'->Q (.int<|qp rows T ws) H'
theorem Di:bM ["_law_walks_here","_law_held","_law_seen","_law_turns_here","_law_used","_law_found","_law_one","_law_rows","_law_far","_law_name","_law_row"] ["_law_walks_here","_law_held","_law_seen","_law_turns_here"] (aN<|top 50):=fs
theorem abj {f:Addr}{fd:FuncData}(F:bJ K "_law_walks" "_law_walks" (top 50) f fd)(B:Bl mg)(KT:dJ K)(iu:cZ P w K mg base 1 "_law_whole" ["_law_found"] (bQ K dM))(zT:cZ P w K mg base 1 "_law_way" ["_law_held","_law_names","_law_start","_law_goal"] (bQ K lG)):
  aX P w K mg base bO 2 f fd ["_law_walks_here","_law_held","_law_seen","_law_turns_here"] (Sy K):=by
 have nd:=Di.nd;have vt:=Di.vt;refine bJ.ok F Di (λvs H Q E h=>by obtain⟨_,_,_,_,_,_,_,_,_,_,_,_,rfl,_⟩:=h;rfl) λcdv A outer s H vs Q E hr hsp=>?_;refine⟨_,(aH (dX (i:=4) nd rfl lx Cv)
  (aH (dX (i:=5) nd rfl lx aJ)
  (aH (iV PassesOwn.never rfl (iw (pV vt 0)) (cj (i:=6) nd rfl lx) (aH (dD (PW.pt (HY (yG (cVal (yK KT.tuple (cO Lz gx B.isinstance PyProof.Rows.boot_isinstance (aj (mw (dN (pV vt 6))) (aj (mQ gx B.tuple PyProof.Rows.boot_tuple rfl) aO)))))) (HY (nF (yj hr.units) hNe (sw (Bh (cO T9 gx B.len PySem.boot_len (pwC (mw (dN (pV vt 6))) pw0)) hLen)) (sw jg)) (HY (yG (cVal (yK KT.list (cO Lz gx B.isinstance PyProof.Rows.boot_isinstance (aj (sw (uD (dN (pV vt 6)) (sw jg))) (aj (mQ gx B.list PyProof.Rows.boot_list rfl) aO)))))) (Ud (yG (cVal (tQ (eG iu hr.mo gx (mV (uD (dN (pV vt 6)) (sw jg)) yI)))))))))) (aP (cF xT)) cg)
  (aH (nq (tQ (eG zT hr.mo gx (mV (dF (pV vt 1)) (mV (uD (dN (pV vt 6)) (sw jg)) (mV (uD (dN (pV vt 2)) (sw jg)) (mV (uD (dN (pV vt 2)) (sw jg)) yI)))))) (cj (i:=7) nd rfl lx))
  (aH (dD (PW.pt (HY (nF afh hIs (mw (dN (pV vt 7))) (sw abL)) (Ud (nF oLt hLt (sw (uD (dN (pV vt 6)) (sw jg))) (sw jg))))) (aP (cF xT)) cg)
  (aH (nq (Bh (cO (afm rfl) gx B.sum PyProof.Rows.boot_sum (pwC (nw (dLC (DG (cap:=[none]) ["_law_walks_here","_law_held","_law_seen","_law_turns_here","_law_used","_law_found","_law_one","_law_rows","_law_far","_law_name","_law_row"] (aN (top 50)) rfl (by decide +kernel) rfl rfl (itL (dF (pV vt 7))) (λ_ _ _ _ _=>(tgN (Bf (i:=0) (show(["_law_row"]:List Str).Nodup by decide +kernel) (by decide +kernel)))) (λ_ _ _ _ _=>ifN) (λ_ _ _ _ _=>(uD (dN (uw (by decide +kernel) 0)) (sw jg)))))) pw0)) afx) (cj (i:=8) nd rfl lx))
  (aH (dD (nF Wu hGt (mw (dN (pV vt 8))) (mw (dN (pV vt 3)))) (aP (cF xT)) cg)
  (aH (nq (xq tL hAdd (mw (dN (pV vt 5))) (sw (xq Lk hMul (sw (uD (dN (pV vt 6)) (sw jg))) (sw (xq tL hAdd (sw (xq Gm hSub (mw (dN (pV vt 3))) (mw (dN (pV vt 8))))) (sw jg)))))) (cj (i:=5) nd rfl lx))
  (aP (iV PassesOwn.never rfl (iw (bh cN (pV vt 6) aJ)) (cj (i:=9) nd rfl lx) (aP (uK (jl hr) (pV vt 4) (pV vt 9) (iW tL (M8 (jl hr) (pV vt 4) (pV vt 9) aJ ⟨rfl,rfl,rfl,rfl⟩) (bh cN (pV vt 6) aJ)) rfl)))))))))))
  (aH (iV PassesOwn.never rfl (iw (pV vt 1)) (cj (i:=10) nd rfl lx) (aP (dD (jY Wu (M8 (jl hr) (pV vt 4) (bh pL (pV vt 10) aJ) aJ ⟨rfl,rfl,rfl,rfl⟩) (bh pL (pV vt 10) aJ)) (aP (cF xT)) cg)))
  (aP (cF (pV vt 5))))))),?_⟩
 obtain⟨vw,vd,vz,T,seen,ls,rows,Bd,s0,s1,rest,ws,rfl,hvw,YM,hvz,jf,Ft,hrl,hws,hT,hwl,hsh,hq⟩:=hsp;have hlen:=Ft.len;have hpl:(cX ls).length=ls.length:=by unfold cX;rw[length_map]
 have hcan:=abh<|Has.can YM;have h1c:=YQ (Has.can hvz) s1 (by rw[jf];exact mem_cons_of_mem _<|mem_cons_self ..);have ak9:Has K H (bD (s0::s1::rest)) vz:=by rw[<-jf];exact hvz
 have ala:=YM;obtain⟨aw,xw,rfl,hsw,hxw⟩:=hvw;obtain⟨ad,xd,rfl,hsd,hxd⟩:=ala;obtain⟨lw,alb⟩:=qX hxw;obtain⟨ld,abg⟩:=qX hxd;rw[length_map] at lw ld;unfold jm eZ cC;intro d hd;have q1:=aF (o:=.dK []) hd;have hd1:upd H d (.dK []) d=some (.dK []):=ao;generalize upd H d (.dK [])=H1 at q1 hd1 ⊢;unfold tC;try dsimp only
 rw[iy];refine aD rfl ⟨aw,rfl,⟨xw,q1.seq hsw⟩,?_⟩;generalize hnm:(λj=>(gM ls).getD j "")=nm;have hnm':∀j,(gM ls).getD j ""=nm j:=λj=>by rw[<-hnm]
 refine forL (λi σ' H'=>(∃y6 y7 y8 y9,σ'=[some<|.ref aw,some<|.ref ad,some vz,some<|.int T,some<|.ref d,some<|.int<|qp rows T<|ws.take i,y6,y7,y8,y9,none])/\(∃u,u=(ws.take i).foldl (oA nm) []/\H' d=some (.dK<|u.map gQ)/\u.length<=i*1000)/\Same H H') ⟨⟨_,_,_,_,rfl⟩,⟨[],rfl,hd1,zero_le _⟩,q1⟩ (λi σ' H' _ h=>h.2.2.seq hsw) ?_ ?_
 .rintro i v σ' Ha hv ⟨⟨y6,y7,y8,y9,rfl⟩,⟨u,hu,hdu,xP⟩,sm⟩;have hi:i<ws.length:=by have:=(List.getElem?_eq_some_iff.mp hv).1;omega
  have hwi:=getElem?_eq_getElem hi;have YD:=getElem_mem hi;have SJ:=alb i (zR ls ws[i]) v (by rw[getElem?_map,hwi];rfl) hv;have htk:ws.take (i+1)=ws.take i++[ws[i]]:=by rw[take_succ,hwi];rfl
  generalize ws[i]=wi at hwi YD SJ htk;obtain⟨Wk,hn,alc,an5⟩:=hws wi YD;have hn1:=Wk.m1;have RL:wi.1.length<=ls.length:=by have:=Sp.jL Wk.nd Wk.ix;omega
  have ald:=SJ;obtain⟨t6,ys,rfl,h6,y1,r1,rfl,k1,y2,r2,rfl,k2,k3⟩:=ald;have e2:=k2;have e3:=k3;subst e2 e3;obtain⟨aL,xL,rfl,hsL,hxL⟩:=k1;have exL:=qW hxL;subst exL;refine VM.zL (S:=[none,none,none,none,none,none,some (.fr,zR ls wi),none,none,none,none]) ⟨_,_,rfl,_,_,rfl,_,_,rfl,_,_,rfl,_,_,rfl,_,_,rfl,_,_,rfl,rfl,Has.same sm SJ,_,_,rfl,_,_,rfl,_,_,rfl,_,_,rfl,rfl⟩ ak6 λHb sb=>?_;rw[if_neg<|by simp];have smb:=sm.trans sb;refine VM.wQ (S:=[none,some (.fr,eO rows),some (.fr,bD (s0::s1::rest)),none,none,none,some (.fr,zR ls wi),none,none,none,none]) ⟨_,_,rfl,_,_,rfl,rfl,Has.same smb YM,_,_,rfl,rfl,Has.same smb ak9,_,_,rfl,_,_,rfl,_,_,rfl,_,_,rfl,rfl,Has.same smb SJ,_,_,rfl,_,_,rfl,_,_,rfl,_,_,rfl,rfl⟩ (ag1 (seen:=seen)<|Uy Ft hrl hcan jf h1c Wk) λv7 Hc sc hv7=>?_;have smc:=smb.trans sc;refine VM.zL (S:=[none,none,none,none,none,none,some (.fr,zR ls wi),some (.fr,.list<|wi.1.map λj=>bf<|rowAt rows j),none,none,none]) ⟨_,_,rfl,_,_,rfl,_,_,rfl,_,_,rfl,_,_,rfl,_,_,rfl,_,_,rfl,rfl,Has.same smc SJ,_,_,rfl,rfl,hv7,_,_,rfl,_,_,rfl,_,_,rfl,rfl⟩ (ak7 hn1) λHd sd=>?_;rw[if_neg<|by simp];have smd:=smc.trans sd;refine VM.wQ (S:=[none,none,none,none,none,none,none,some (.fr,.list<|wi.1.map λj=>bf<|rowAt rows j),none,none,none]) ⟨_,_,rfl,_,_,rfl,_,_,rfl,_,_,rfl,_,_,rfl,_,_,rfl,_,_,rfl,_,_,rfl,rfl,Has.same sd hv7,_,_,rfl,_,_,rfl,_,_,rfl,rfl⟩ (ag2<|by omega) λv8 He se hv8=>?_;have e8:v8=.int (jD rows wi.1):=hv8;subst e8;have sme:=smd.trans se;try dsimp only
  refine VM.zL (S:=[none,none,none,some (.fr,.int T),none,none,none,none,some (.fr,.int<|jD rows wi.1),none,none]) ⟨_,_,rfl,_,_,rfl,_,_,rfl,_,_,rfl,rfl,rfl,_,_,rfl,_,_,rfl,_,_,rfl,_,_,rfl,_,_,rfl,rfl,rfl,_,_,rfl,_,_,rfl,rfl⟩ (ak8 alc) λHf sf=>?_;rw[if_neg<|by simp];have smf:=sme.trans sf;try dsimp only
  unfold big at hn hT;refine VM.wQ (S:=[none,none,none,some (.fr,.int T),none,some (.fr,.int<|qp rows T<|ws.take i),some (.fr,zR ls wi),none,some (.fr,.int<|jD rows wi.1),none,none]) ⟨_,_,rfl,_,_,rfl,_,_,rfl,_,_,rfl,rfl,rfl,_,_,rfl,_,_,rfl,rfl,rfl,_,_,rfl,rfl,Has.same smf SJ,_,_,rfl,_,_,rfl,rfl,rfl,_,_,rfl,_,_,rfl,rfl⟩ (ag3 ⟨by omega,hn⟩ ⟨by omega,by omega⟩) λv5 Hg sg hv5=>?_;have e5:v5=.int ((qp rows T<|ws.take i)+wi.2*(T - jD rows wi.1+1)):=hv5;subst e5;have smg:=smf.trans sg;have hdg:Hg d=some (.dK<|u.map gQ):=sg _ _<|sf _ _<|se _ _<|sd _ _<|sc _ _<|sb _ _ hdu;try dsimp only
  rw[iy];refine bK (t:=t6) rfl (smg.vH h6) rfl ⟨aL,rfl,⟨_,smg.seq hsL⟩,?_⟩;refine forL (xs:=(iK ls wi.1).map V.str) (λk σ' H'=>(∃y9,σ'=[some<|.ref aw,some<|.ref ad,some vz,some<|.int T,some<|.ref d,some<|.int<|(qp rows T<|ws.take i)+wi.2*(T - jD rows wi.1+1),some<|.ref t6,some v7,some<|.int<|jD rows wi.1,y9,none])/\H' d=some (.dK<|(oA nm u (wi.1.take k,wi.2)).map gQ)/\Same H H') ⟨⟨_,rfl⟩,hdg,smg⟩ (λk σ' H' _ h=>h.2.2.seq hsL) ?_ ?_
  .rintro k v9 σ' Hh hv9 ⟨⟨y9,rfl⟩,PL,smh⟩;rw[getElem?_map] at hv9;obtain⟨z9,hz9,rfl⟩:=map_eq_some_iff.mp hv9;unfold iK at hz9;rw[getElem?_map] at hz9;obtain⟨j,hj,ez⟩:=map_eq_some_iff.mp hz9;rw[hnm'] at ez;subst ez;have hkl:k<wi.1.length:=(List.getElem?_eq_some_iff.mp hj).1;have ale:wi.1.take (k+1)=wi.1.take k++[j]:=by rw[take_succ,hj];rfl
   have hU:oA nm u (wi.1.take<|k+1,wi.2)=fJ (nm j) ((bF (nm j)<|oA nm u (wi.1.take k,wi.2)).getD 0+wi.2) (oA nm u (wi.1.take k,wi.2)):=by show(wi.1.take<|k+1).foldl _ u=_;rw[ale,foldl_append];rfl
   have hUl:=Sx nm wi.2 (wi.1.take k) u;rw[length_take] at hUl;generalize oA nm u (wi.1.take k,wi.2)=U at PL hU hUl;show wA (vR 4) (vR 9) _ _ [some<|.ref aw,some<|.ref ad,some vz,some<|.int T,some<|.ref d,some<|.int<|(qp rows T<|ws.take i)+wi.2*(T - jD rows wi.1+1),some<|.ref t6,some v7,some<|.int<|jD rows wi.1,some<|.str<|nm j,none] Hh;unfold wA;rw[op2];unfold M7;refine aD (v:=.ref d) rfl ⟨d,rfl,.inl ⟨_,.inl PL⟩,aD (v:=.str<|nm j) rfl ⟨_,gY.k (k:=.inr<|nm j) PL,?_⟩⟩;rw[oV];have eo:((bF (nm j) U).map V.int).getD (.int 0)=.int ((bF (nm j) U).getD 0):=by cases bF (nm j) U<;>rfl
   rw[eo];refine bK (t:=t6) rfl (smh.vH h6) rfl ?_;simp only[rM];refine aD (v:=.ref d) rfl<|aD (v:=.str<|nm j) rfl ⟨d,_,rfl,rJ.k (k:=.inr<|nm j) PL (by rw[length_map];exact aY<|by omega),⟨_,rfl⟩,?_,λb o e=>?_⟩
   .rw[ao,GF,hU]
   .rw[ak λz=>by rw[z,hd] at e;cases e];exact smh _ _ e
  .rintro σ' Hh ⟨⟨y9,rfl⟩,PL,smh⟩;have hwn:((iK ls wi.1).map V.str).length=wi.1.length:=by unfold iK;rw[length_map,length_map]
   rw[hwn,take_of_length_le<|le_refl _] at PL;have hUl:=Sx nm wi.2 wi.1 u;have es:qp rows T (ws.take<|i+1)=qp rows T (ws.take i)+wi.2*(T - jD rows wi.1+1):=by unfold qp jD;rw[htk,map_append,map_cons,map_nil,List.sum_append,sum_cons,List.sum_nil,Int.add_zero]
   rw[es];refine⟨⟨_,_,_,_,rfl⟩,⟨oA nm u wi,?_,PL,?_⟩,smh⟩
   .rw[htk,foldl_append,←hu];rfl
   .show(oA nm u (wi.1,wi.2)).length<=_;omega
 .rintro σ' H2 ⟨⟨y6,y7,y8,y9,rfl⟩,⟨u,hu,hdu,xP⟩,sm⟩;rw[<-lw,take_of_length_le<|le_refl _] at hu;try dsimp only
  rw[iy];refine aD (v:=.ref ad) rfl ⟨ad,rfl,⟨xd,sm.seq hsd⟩,?_⟩;refine forL (xs:=xd) (λi σ' H'=>(∃y10,σ'=[some<|.ref aw,some<|.ref ad,some vz,some<|.int T,some<|.ref d,some<|.int<|qp rows T<|ws.take xw.length,y6,y7,y8,y9,y10])/\H'=H2) ⟨⟨_,rfl⟩,rfl⟩ (λi σ' H' _ h=>by rw[h.2];exact sm.seq hsd) ?_ ?_
  .rintro i v σ' H' hv ⟨⟨y10,rfl⟩,rfl⟩;have hi:i<rows.length:=by have:=(List.getElem?_eq_some_iff.mp hv).1;omega
   obtain⟨x,hx⟩:=Ft.at (j:=i) (by omega);obtain⟨t,rfl,hst⟩:=row_has (Has.same sm (abg i _ v (by rw[getElem?_map,hx.r];rfl) hv));have hsi:=hsh i hi;have hinj:∀a b,a<ls.length->b<ls.length->nm a=nm b->a=b:=λa b ha hb e=>by
    obtain⟨xa,hxa⟩:=Ft.at ha;obtain⟨xb,hxb⟩:=Ft.at hb;rw[<-hnm',←hnm',hxa.n,hxb.n] at e;have n1:(rows.map (·.1))[a]? =some (rowAt rows a).1:=by rw[getElem?_map,hxa.r];rfl
    have n2:(rows.map (·.1))[b]? =some (rowAt rows a).1:=by rw[getElem?_map,hxb.r,e];rfl
    obtain⟨b1,c1⟩:=List.getElem?_eq_some_iff.mp n1;obtain⟨b2,c2⟩:=List.getElem?_eq_some_iff.mp n2;exact(getElem_inj Ft.nn).mp<|c1.trans c2.symm
   have hus:=aej (nm:=nm) (i:=i) (m:=ls.length) hinj (by omega) ws [] λx hx=>⟨(hws x hx).1.nd,λj hj=>by have:=(hws x hx).1.ix j hj;omega⟩;rw[<-hu,←hnm',hx.n] at hus;have hg0:(bF (rowAt rows i).1 ([]:List (Str×Int))).getD 0=0:=rfl;rw[hg0] at hus;generalize rowAt rows i=r at hst hsi hus;show jo _ _ _ _ [some<|.ref aw,some<|.ref ad,some vz,some<|.int T,some<|.ref d,some<|.int<|qp rows T<|ws.take xw.length,y6,y7,y8,y9,some<|.ref t] H';unfold jo mU;rw[op2];unfold M7;refine aD (v:=.ref d) rfl ⟨d,rfl,.inl ⟨_,.inl hdu⟩,qY (t:=t) rfl hst rfl ⟨_,gY.k (k:=.inr r.1) hdu,?_⟩⟩;rw[oV];have eo:((bF r.1 u).map V.int).getD (.int 0)=.int ((bF r.1 u).getD 0):=by cases bF r.1 u<;>rfl
   rw[eo];refine qY (t:=t) rfl hst rfl ?_;show(if decide ((bF r.1 u).getD 0>r.2.2.2.1)=true then _ else _);rw[if_neg (by simp;omega)];exact⟨⟨_,rfl⟩,rfl⟩
  .rintro σ' H3 ⟨⟨y10,rfl⟩,rfl⟩;rw[<-lw,take_of_length_le<|le_refl _];try dsimp only
   unfold mC;exact aD (v:=.int _) rfl<|hq _ sm
end
def tH (ls:List (Str×Q4))(seen:List Str)(W:Int)(ws:List (List Nat×Int))(μs:List Int):PyData:=.tuple [.int W,.list<|ws.map<|zR ls,wX seen μs]
section
variable {K:Frag}{seen:List Str}{ws:List (List Nat×Int)}{us Ls ms:List Addr}
theorem abk (hc:∀x∈gM ls,(PyData.str x).canLay0=true){w:List Nat}(hw:∀j∈w,j<ls.length):∀x∈iK ls w,(PyData.str x).canLay0=true:=λx hx=>by obtain⟨j,hj,rfl⟩:=mem_map.mp hx;have hj':=hw j hj;refine hc _ ?_;unfold gM;rw[getD_eq_getElem?_getD,getElem?_eq_getElem (by rw[length_map];exact hj')];exact getElem_mem _
theorem Walks.has (wk:Walks H H' ls ws A us Ls)(ta:H' A=some (.lst<|us.map V.ref))(hc:∀x∈gM ls,(PyData.str x).canLay0=true)(hw:∀x∈ws,∀j∈x.1,j<ls.length):Has K H' (.list<|ws.map<|zR ls) (.ref A):=by
 refine⟨A,_,rfl,aR.of ta,Gw (by rw[length_map,length_map,wk.lu]) λj d v e1 e2=>?_⟩;rw[getElem?_map] at e1 e2;obtain⟨x,ex,rfl⟩:=map_eq_some_iff.mp e1;obtain⟨u,eu,rfl⟩:=map_eq_some_iff.mp e2;have hj:j<Ls.length:=by have:=(List.getElem?_eq_some_iff.mp ex).1;have:=wk.lL;omega
 obtain⟨h1,h2⟩:=wk.it j u Ls[j] x eu (getElem?_eq_getElem hj) ex;exact⟨u,_,rfl,bB.of h1,_,_,rfl,CT h2<|abk hc<|hw x<|mem_of_getElem? ex,_,_,rfl,rfl,rfl⟩
theorem Dj (tm:H' M=some (.lst<|ms.map V.ref))(lm:ms.length=seen.length)(hl:μs.length=seen.length)(mo:∀(j:Nat) m r μ,ms[j]? =some m->seen[j]? =some r->μs[j]? =some μ->H' m=some (.tup [.str r,.int μ]))(hc:∀x∈seen,(PyData.str x).canLay0=true):Has K H' (wX seen μs) (.ref M):=by refine⟨M,_,rfl,aR.of tm,Gw (by rw[length_map,length_map,length_zip];omega) λj d v e1 e2=>?_⟩;rw[getElem?_map] at e1 e2;obtain⟨p,ep,rfl⟩:=map_eq_some_iff.mp e1;obtain⟨m,em,rfl⟩:=map_eq_some_iff.mp e2;obtain⟨h1,h2⟩:=List.getElem?_zip_eq_some.mp ep;exact⟨m,_,rfl,bB.of (mo j m p.1 p.2 em h1 h2),_,_,rfl,⟨rfl,hc _<|mem_of_getElem? h1⟩,_,_,rfl,rfl,rfl⟩
theorem Vs:(tH ls seen W ws μs).depth<=60:=by
 have h1:∀xs:List Str,(bD xs).depth<=5:=λxs=>by have:=kY (xs.map .str) 1 (λd hd=>by obtain⟨x,_,rfl⟩:=mem_map.mp hd;simp[PyData.depth]);simp only[bD,PyData.depth];omega
 have h2:=kY (ws.map (zR ls)) 15 (λd hd=>by
  obtain⟨x,_,rfl⟩:=mem_map.mp hd;have:=h1 (iK ls x.1);simp only[zR,PyData.depth,depthAll];omega)
 have h3:=kY ((seen.zip μs).map mL) 15 (λd hd=>by
  obtain⟨x,_,rfl⟩:=mem_map.mp hd;simp[mL,PyData.depth,depthAll])
 simp only[tH,wX,PyData.depth,depthAll];omega
theorem Told.has (T:Told H H' ls seen W ws μs t A M us Ls ms)(hl:μs.length=seen.length)(hs:∀x∈seen,(PyData.str x).canLay0=true)(hc:∀x∈gM ls,(PyData.str x).canLay0=true)(hw:∀x∈ws,∀j∈x.1,j<ls.length):Has K H' (tH ls seen W ws μs) (.ref t):=
 ⟨t,_,rfl,bB.of T.tp,_,_,rfl,rfl,_,_,rfl,T.wk.has T.ta hc hw,_,_,rfl,Dj T.tm T.lm hl T.mo hs,rfl⟩
end
section
variable {seen:List Str}{ws:List (List Nat×Int)}
theorem cT.far (F:cT seen ls rows B):∀{w:List Nat},(∀j∈w,j<ls.length)->LH.cH Sp.aQ.l (cX ls) w=jD rows w/\0<=jD rows w:=by
 intro w;induction w with
 |nil=>intro _;exact⟨rfl,Int.le_refl _⟩
 |cons j w ih=>
  intro h;obtain⟨e,h0⟩:=ih λk hk=>h k<|mem_cons_of_mem _ hk;obtain⟨x,hx⟩:=F.at (h j<|mem_cons_self ..);have hl:=F.l1 _ hx.m;have ef:jD rows (j::w)=(rowAt rows j).2.2.2.2+jD rows w:=by unfold jD;rw[map_cons,sum_cons]
  rw[LH.ig,LH.kJ hx.p,e,ef,hx.e];exact⟨rfl,by omega⟩
theorem cT.sum (F:cT seen ls rows B)(h:∀x∈ws,∀j∈x.1,j<ls.length):(ws.map λx=>x.2*(T - LH.cH Sp.aQ.l (cX ls) x.1+1)).sum=qp rows T ws:=by congr 1;refine map_congr_left λx hx=>?_;rw[(F.far<|h x hx).1];rfl
theorem cT.Oj (F:cT seen ls rows B)(nd:seen.Nodup)(hl:μs.length=seen.length):((cX ls).map<|LH.over<|PM.lf μs).sum=(rows.map<|wZ seen μs).sum:=by
 congr 1;refine List.ext_getElem? λj=>?_;by_cases hj:j<ls.length
 .obtain⟨x,hx⟩:=F.at hj;rw[getElem?_map,getElem?_map,hx.p,hx.r];show some _=some _;congr 1;obtain⟨ia,e1,e2⟩:=hx.a;obtain⟨ib,e3,e4⟩:=hx.b;have at':∀{i:Nat}{z:Str},seen[i]? =some z->oh seen μs z=PM.lf μs i:=λ{i z} h=>by
   have hi:i<μs.length:=by have:=(List.getElem?_eq_some_iff.mp h).1;omega
   unfold oh PM.lf;rw[wY nd h<|getElem?_eq_getElem hi,getD_eq_getElem?_getD,getElem?_eq_getElem hi]
  unfold LH.over wZ;rw[hx.w,hx.e,e1,e3,at' e2,at' e4];by_cases c:(rowAt rows j).2.2.2.2<PM.lf μs ib - PM.lf μs ia
  .rw[if_pos c,if_pos<|by omega]
  .rw[if_neg c,if_neg<|by omega,mul_zero]
 .have h1:(cX ls).length<=j:=by unfold cX;rw[length_map];omega
  have h2:rows.length<=j:=by have:=F.len;omega
  rw[getElem?_map,getElem?_map,getElem?_eq_none h1,getElem?_eq_none h2];rfl
theorem cT.walks (F:cT seen ls rows B)(hB:B<1000000000000000000000000000000000000000000000000000000000000000000000)(O:LH.qJ seen.length (cX ls) 0 1 T W ws μs):
  (∀x∈ws,LH.uP (cX ls) 0 1 x/\x.2<big/\jD rows x.1<=T/\0<=jD rows x.1)/\(∀j,j<rows.length->LH.share j ws<=(rowAt rows j).2.2.2.1)/\ws.length<=ls.length:=by
 obtain⟨fl,Mm,Cc,Fl,_,Pt⟩:=O.flow;have hp:(cX ls).length=ls.length:=by unfold cX;rw[length_map]
 have hfl:=Fl.len;have hlf:∀j,j<ls.length->PM.lf fl j<=(rowAt rows j).2.2.2.1/\(rowAt rows j).2.2.2.1<=B:=λj hj=>by obtain⟨x,hx⟩:=F.at hj;have h1:=(Fl.lo j _ _ hx.p<|LH.nW<|by omega).2;rw[hx.w] at h1;exact⟨h1,(F.w1 _ hx.m).2⟩
 refine⟨λx hx=>?_,λj hj=>?_,?_⟩
 .have Wk:=Pt.walk x hx;have hix:∀j∈x.1,j<ls.length:=λj hj=>by have:=Wk.ix j hj;omega
  obtain⟨e,h0⟩:=F.far hix;refine⟨Wk,?_,by rw[<-e];exact O.short x hx,h0⟩;obtain⟨j,r,hjr⟩:=List.exists_cons_of_ne_nil Wk.ne;have hj:j∈x.1:=by rw[hjr];exact mem_cons_self ..
  have h1:=(Pt.has hx j hj).1;have h2:=hlf j<|hix j hj;omega
 .rw[Pt.sum j (by have:=F.len;omega)];exact(hlf j (by have:=F.len;omega)).1
 .have:=Pt.few;have:=LH.wN fl;omega
end
section
variable {P:Program}{w:World}{K:Frag}{mg:Str->Option Value}{base:Heap}
theorem alf {d2:PyData}:(fX (cR<|vB<|nG "tuple" (vN 4))<|fX (vB<|v2 jN (cU eU<|aC (vN 4) a0)<|vC<|.int 3)<|fX (cR<|vB<|aZ dM<|aC (v2 aM (vN 4)<|vC<|.int 0) a0)<|cR<|vB<|nG "list" (v2 aM (vN 4)<|vC<|.int 1)) [x0,x1,x2,x3,some (.fr,.tuple [.int W,.list d1,d2]),x5,x6,x7,x8]=some false:=by
 walk_at "e1";have d3:decide (((3:Nat):Int)=3)=true:=by decide
 simp only[d3];walk_at "e1";rw[G7];walk_at "e1"
theorem ag7 {seen:List Str}(h:iC [wX seen μs,bD seen,.int T]=some (false,.bool true)):(cR<|vB<|aZ iC<|aC (v2 aM (vN 4)<|vC<|.int 2)<|aC (vF 2)<|aC (vF 3) a0) [x0,x1,some (.fr,bD seen),some (.fr,.int T),some (.fr,.tuple [.int W,d1,wX seen μs]),x5,x6,x7,x8]=some false:=by walk_at "e1";rw[h];walk_at "e1"
def PX (C:Addr):Sp:=λvs H Q _=>∃p dx nn ll nums ls D prs sA T s0 s1 rest Bd,vs=[.ref p,.ref D,.ref sA,.int T]/\aW H C p dx nn ll nums ls/\Held H D prs/\H sA=some (.lst<|(seenOf nums).map V.str)/\seenOf nums=s0::s1::rest/\(seenOf nums).Nodup/\cT (seenOf nums) ls (prs.map (·.2)) Bd/\Bd<1000000000000000000000000000000000000000000000000000000000000000000000/\(∀r∈prs.map (·.2),r.2.2.2.2<=Bd)/\ls.length<=12/\nums.length<=100/\(0<=T/\T<1000000000000000000000000000000000000000000000000000000000000000000000)/\
 (∀x∈seenOf nums,(PyData.str x).canLay0=true)/\∀H',Same H H'->Q (.bl true) H'
theorem G8:bM ["_law_hall","_law_held","_law_seen","_law_turns_here","_law_told","_law_kept","_law_names","_law_number","_law_again"] ["_law_hall","_law_held","_law_seen","_law_turns_here"] (aN<|top 51):=fs
def alg:Stmt->Scope
 |.Assign _ (.Tuple (.ListComp _ _ sc _::_) _ _) _=>sc
 |_=>aN<|.Pass ⟨0,0,0,0⟩
theorem aek {fd:FuncData}(F:bJ K "_law_out" "_law_out" (top 51) f fd)(B:Bl mg)(KT:dJ K)(c:Cl K C)(Mo:Ms P w K mg base C 7 "out" ["self","turns"] (Vp K C))
  (iu:cZ P w K mg base 1 "_law_whole" ["_law_found"] (bQ K dM))(qt:cZ P w K mg base 2 "_law_moments" ["_law_moments_here","_law_seen","_law_turns_here"] (bQ K iC))(uf:cZ P w K mg base 2 "_law_walks" ["_law_walks_here","_law_held","_law_seen","_law_turns_here"] (Sy K))(ug:cZ P w K mg base 1 "_law_bound" ["_law_held","_law_moments_here"] (Sw K)):
  aX P w K mg base bO 8 f fd ["_law_hall","_law_held","_law_seen","_law_turns_here"] (PX C):=by
 have nd:=G8.nd;have vt:=G8.vt;have vc:=(show(["_law_names","_law_number"]:List Str).all (λx=>Gk (alg ((dj (top 51)).getD 4 (.Pass ⟨0,0,0,0⟩))) x && plain x)=true by decide +kernel);obtain⟨fo,fdo,Fo,mo,bo⟩:=Mo.ex;refine bJ.ok F G8 (λvs H Q E h=>by obtain⟨_,_,_,_,_,_,_,_,_,_,_,_,_,_,rfl,_⟩:=h;rfl) λcdv A outer s H vs Q E hr hsp=>?_;refine⟨_,(aH (dX (i:=4) nd rfl lx (gH (pV vt 0) c.cl mo Fo hr bo .nil gW (aj (pV vt 3) aO)))
  (aH (dD (PW.pt (HY (yG (cVal (yK KT.tuple (cO Lz gx B.isinstance PyProof.Rows.boot_isinstance (aj (mw (dN (pV vt 4))) (aj (mQ gx B.tuple PyProof.Rows.boot_tuple rfl) aO)))))) (HY (nF (yj hr.units) hNe (sw (Bh (cO T9 gx B.len PySem.boot_len (pwC (mw (dN (pV vt 4))) pw0)) hLen)) (sw jg)) (HY (yG (cVal (tQ (eG iu hr.mo gx (mV (uD (dN (pV vt 4)) (sw jg)) yI))))) (Ud (yG (cVal (yK KT.list (cO Lz gx B.isinstance PyProof.Rows.boot_isinstance (aj (sw (uD (dN (pV vt 4)) (sw jg))) (aj (mQ gx B.list PyProof.Rows.boot_list rfl) aO))))))))))) (aP (cF vg)) cg)
  (aH (dD (PW.pt (zV (jY (yj hr.units) (eG uf hr.mo gx (aj (bh cN (pV vt 4) aJ) (aj (pV vt 1) (aj (pV vt 2) (aj (pV vt 3) aO))))) (bh cN (pV vt 4) aJ)) (xU (yG (cVal (tQ (eG qt hr.mo gx (mV (uD (dN (pV vt 4)) (sw jg)) (mV (dF (pV vt 2)) (mV (dF (pV vt 3)) yI)))))))))) (aP (cF vg)) cg)
  (aH (dD (jY (yj hr.units) (eG ug hr.mo gx (aj (pV vt 1) (aj (bh cN (pV vt 4) aJ) aO))) (bh cN (pV vt 4) aJ)) (aP (cF vg)) cg)
  (aH (dX (i:=5) nd rfl lx (jM (aj (DG (g:=J3 K 2 (pN (cC 0) (pN (cC 1) Ab))) (te:=vq (bV (pJ (yr K) (bV (vR 0) dI)) (bV (vR 1) dI))) (cap:=[none,none]) ["_law_hall","_law_held","_law_seen","_law_turns_here","_law_told","_law_kept","_law_names","_law_number","_law_again"] (aN (top 51)) rfl (by decide +kernel) rfl rfl (iw (bh cN (pV vt 4) aJ)) (λ_ _ _ _ _=>(sH rfl (fW (Bf (by decide +kernel) (by decide +kernel)) (fW (Bf (by decide +kernel) (by decide +kernel)) pO)))) (λ_ _ _ _ _=>zX) (λ_ _ _ _ _=>(jM (aj (jE J2 (glC (by decide +kernel)) (by exact B.list) PyProof.Rows.boot_list (aj (uw vc 0) aO)) (aj (uw vc 1) aO))))) (aj (jE J2 gx B.list PyProof.Rows.boot_list (aj (bh cN (pV vt 4) aJ) aO)) aO))))
  (aH (iV PassesOwn.never rfl (iw (bh cN (pV vt 4) aJ)) (sH rfl (fW (cj (i:=6) nd rfl lx) (fW (cj (i:=7) nd rfl lx) pO))) (aP (cL (Ui (pV vt 6)))))
  (aH (cL (Ui (bh cN (pV vt 4) aJ)))
  (aH (cL (Ui (bh cN (pV vt 4) aJ)))
  (aH (dX (i:=8) nd rfl lx (gH (pV vt 0) c.cl mo Fo hr bo .nil gW (aj (pV vt 3) aO)))
  (aP (cF (peC (Lh hr.units) (pV vt 8) (jM (aj (bh cN (pV vt 4) aJ) (aj (bh cN (pV vt 5) aJ) (aj (bh cN (pV vt 5) aJ) aO)))))))))))))))),?_⟩
 obtain⟨p,dx,nn,ll,nums,ls,D,prs,sA,T,s0,s1,rest,Bd,rfl,hh,hH,hs,jf,hnd,Ft,hBd,hlB,alh,an6,⟨hT0,hT1⟩,hsc,hq⟩:=hsp;have hsl:(seenOf nums).length=nums.length:=length_map ..;have hs2:2<=(seenOf nums).length:=by rw[jf];simp only[length_cons];omega
 obtain⟨W,ws,μs,O,em⟩:=Ft.out hBd ⟨hs2,by omega⟩ alh hT0 hT1;rw[hsl] at em;obtain⟨hwk,hsh,hwn⟩:=Ft.walks hBd O;have hlen:=Ft.len;have hpl:(cX ls).length=ls.length:=by unfold cX;rw[length_map]
 have hix:∀x∈ws,∀j∈x.1,j<ls.length:=λx hx j hj=>by have:=(hwk x hx).1.ix j hj;omega
 have RL:∀x∈ws,x.1.length<1000:=λx hx=>by have:=Sp.jL (hwk x hx).1.nd (hwk x hx).1.ix;omega
 have hc':=hH.agQ;have hnc:∀x∈gM ls,(PyData.str x).canLay0=true:=λx hx=>by
  have hx':x∈(prs.map (·.2)).map (·.1):=by rw[<-rZ Ft.lr];exact hx
  obtain⟨r,hr,rfl⟩:=mem_map.mp hx';have:=hc' r hr;simp only[bf,canLay0,canLayAll0,and_eq_true] at this ⊢;exact this.1
 have hml:=O.ml;have hmb:∀μ∈μs,0<=μ/\μ<=T+1:=λμ hμ=>by obtain⟨v,ev⟩:=getElem?_of_mem hμ;have hv:=(List.getElem?_eq_some_iff.mp ev).1;have:=O.mb v (by omega);rw[LH.uO ev] at this;exact this
 have held:∀{H':Hp},Same H H'->Has K H' (eO<|prs.map (·.2)) (.ref D):=λk=>(hH.grow k).has;have YS:∀{H':Hp},Same H H'->Has K H' (bD<|seenOf nums) (.ref sA):=λk=>CT (k _ _ hs) hsc;have ali:∀r∈prs.map (·.2),r.2.1∈seenOf nums/\r.2.2.1∈seenOf nums:=λr hr=>by
  obtain⟨j,ej⟩:=getElem?_of_mem hr;have hj:j<ls.length:=by have:=(List.getElem?_eq_some_iff.mp ej).1;omega
  obtain⟨x,hx⟩:=Ft.at hj;rw[hx.r] at ej;obtain⟨_,_,e2⟩:=hx.a;obtain⟨_,_,e4⟩:=hx.b;rw[Option.some.inj ej] at e2 e4;exact⟨mem_of_getElem? e2,mem_of_getElem? e4⟩
 have eW:=(Ft.sum hix).symm.trans O.ppl.symm;have eB:=(Ft.Oj hnd hml).symm.trans O.Oj.symm;have hat:∀x∈seenOf nums,0<=oh (seenOf nums) μs x/\oh (seenOf nums) μs x<=T+1:=λx hx=>by
  obtain⟨i,ei⟩:=getElem?_of_mem hx;have hi:i<μs.length:=by have:=(List.getElem?_eq_some_iff.mp ei).1;omega
  unfold oh;rw[wY hnd ei<|getElem?_eq_getElem hi];exact hmb _<|getElem_mem hi
 have hbd:∀r∈prs.map (·.2),r.2.1∈seenOf nums/\r.2.2.1∈seenOf nums/\r.2.2.2.1.natAbs<2^8000/\(oh (seenOf nums) μs r.2.2.1 - oh (seenOf nums) μs r.2.1 - r.2.2.2.2).natAbs<2^8000:=λr hr=>by
  obtain⟨ha,hb⟩:=ali r hr;have a1:=hat _ ha;have b1:=hat _ hb;have w1:=Ft.w1 r hr;have l1:=Ft.l1 r hr;have l2:=hlB r hr;have ag8:∀{z:Int},-10000000000000000000000000000000000000000000000000000000000000000000000000<=z/\z<=10000000000000000000000000000000000000000000000000000000000000000000000000->z.natAbs<2^8000:=λ{z} h=>by
   have:z.natAbs<=10000000000000000000000000000000000000000000000000000000000000000000000000:=by omega
   exact Nat.lt_of_le_of_lt this<|by decide +kernel
  exact⟨ha,hb,ag8<|by omega,ag8<|by omega⟩
 unfold jm eZ;show jH C "out" (Vp K C) [] E0 (vR 0) _ _ _ _;unfold jH bV dI cC;refine aD (v:=.ref p) rfl ⟨p,dx,_,rfl,hh.ins,rfl,aD (v:=.int T) rfl ⟨p,dx,nn,ll,nums,ls,T,W,ws,μs,rfl,hh,by omega,em,λx hx=>⟨hix x hx,RL x hx⟩,by omega,by omega,hnc,λH1 t A M us Ls ms q1 Td=>?_⟩⟩;have hTd:∀{H':Hp},Same H1 H'->Has K H' (tH ls (seenOf nums) W ws μs) (.ref t):=λk=>Has.same k (Td.has (by omega) hsc hnc hix);have P0:∀{H':Hp},Same H1 H'->bB K H' t [.int W,.ref A,.ref M]:=λk=>bB.of (k _ _ Td.tp);have hWk:∀{H':Hp},Same H1 H'->Has K H' (.list<|ws.map<|zR ls) (.ref A):=λk=>Has.same k<|Td.wk.has Td.ta hnc hix;have hMo:∀{H':Hp},Same H1 H'->Has K H' (wX (seenOf nums) μs) (.ref M):=λk=>Has.same k (Dj Td.tm Td.lm (by omega) Td.mo hsc);try dsimp only
 unfold jo;refine VM.zL (S:=[none,none,none,none,some (.fr,tH ls (seenOf nums) W ws μs),none,none,none,none]) ⟨_,_,rfl,_,_,rfl,_,_,rfl,_,_,rfl,_,_,rfl,rfl,hTd<|Same.refl _,_,_,rfl,_,_,rfl,_,_,rfl,_,_,rfl,rfl⟩ alf λH2 s2=>?_;rw[if_neg<|by simp];unfold jk;try dsimp only
 unfold VN mU;rw[op2];unfold iJ;refine bK (t:=t) rfl (P0 s2) rfl (aD (v:=.ref D) rfl (aD (v:=.ref sA) rfl (aD (v:=.int T) rfl ⟨.ref A,.ref D,.ref sA,T,seenOf nums,ls,prs.map (·.2),Bd,s0,s1,rest,ws,rfl,hWk s2,held<|q1.trans s2,YS<|q1.trans s2,jf,Ft,by omega,hwk,by unfold big;omega,by omega,hsh,λH3 s3'=>?_⟩)));have s3:=s2.trans s3';rw[eW];refine bK (t:=t) rfl (P0 s3) rfl ⟨.int W,.int W,rfl,rfl,by simp[PyData.depth],?_⟩;rw[SeqAt.eqv_refl _ rfl];show(if(!true)=true then _ else _);rw[if_neg<|by simp];refine VM.zL (S:=[none,none,some (.fr,bD<|seenOf nums),some (.fr,.int T),some (.fr,tH ls (seenOf nums) W ws μs),none,none,none,none]) ⟨_,_,rfl,_,_,rfl,_,_,rfl,rfl,YS<|q1.trans s3,_,_,rfl,rfl,rfl,_,_,rfl,rfl,hTd s3,_,_,rfl,_,_,rfl,_,_,rfl,_,_,rfl,rfl⟩ (ag7 (by rw[jf];exact zq (by rw[<-jf];omega) (by rw[<-jf];omega) (by rw[<-jf];exact hsc) hmb O.m0 O.m1)) λH4 s4'=>?_;have s4:=s3.trans s4';rw[if_neg<|by simp];try dsimp only
 rw[op2];refine aD (v:=.ref D) rfl (bK (t:=t) rfl (P0 s4) rfl ⟨.ref D,.ref M,prs.map (·.2),seenOf nums,μs,rfl,held<|q1.trans s4,hMo s4,hnd,by omega,by omega,hbd,λH5 s5'=>?_⟩);have s5:=s4.trans s5';rw[eB];refine bK (t:=t) rfl (P0 s5) rfl ⟨.int W,.int W,rfl,rfl,by simp[PyData.depth],?_⟩;rw[SeqAt.eqv_refl _ rfl];show(if(!true)=true then _ else _);rw[if_neg<|by simp];try dsimp only
 unfold vq;show ur _ _ _ _ _ _ _ _;unfold ur qG;have tA5:=s5 _ _ Td.ta;refine bK (t:=t) rfl (P0 s5) rfl ⟨A,rfl,⟨_,aR.of tA5⟩,?_⟩;refine lcL (xs:=us.map V.ref) (λDk i ys H'=>∃us' Jw:List Addr,us'.length=i/\Jw.length=i/\ys=us'.map V.ref/\Same H5 H'/\(∀u∈us',H5 u=none/\u≠Dk)/\(∀L∈Jw,H5 L=none/\L≠Dk)/\∀(j:Nat) u L x,us'[j]? =some u->Jw[j]? =some L->ws[j]? =some x->H' u=some (.tup [.ref L,.int x.2])/\H' L=some (.lst<|(iK ls x.1).map V.str))
  (by rw[length_map,Td.wk.lu];exact aY<|by omega) (λDk hD=>⟨[],[],rfl,rfl,rfl,aF hD,λu hu=>by(cases hu),λu hu=>by(cases hu),λj u L x e=>by simp at e⟩) (λDk i ys H' h=>by obtain⟨_,_,_,_,_,sm,_⟩:=h;exact aR.of (sm _ _ tA5)) (λσ' H' R r=>r) ?_ ?_
 .rintro Dk i x ys H' hD hx ⟨us',Jw,xP,Bs,rfl,sm,hun,BW,hit⟩ hyD R Kt hR hK;rw[getElem?_map] at hx;obtain⟨ui,YT,rfl⟩:=map_eq_some_iff.mp hx;have hi:i<ws.length:=by have:=(List.getElem?_eq_some_iff.mp YT).1;have:=Td.wk.lu;omega
  have hwi:ws[i]? =some ws[i]:=getElem?_eq_getElem hi;have hil:i<Ls.length:=by have:=Td.wk.lL;omega
  have hLi:Ls[i]? =some Ls[i]:=getElem?_eq_getElem hil;obtain⟨c1,c2⟩:=Td.wk.it i ui Ls[i] ws[i] YT hLi hwi;generalize ws[i]=wi at hwi c1 c2;generalize Ls[i]=Li at c1 c2;have c1':=sm _ _<|s5 _ _ c1;have c2':=sm _ _<|s5 _ _ c2;refine⟨_,bB.of c1',rfl,?_⟩;show Kt [some<|.ref Li,some<|.int wi.2] H';refine hK _ _ (gO.skip<|gO.skip gO.nil) ?_;unfold pJ;refine aD (v:=.ref Li) rfl ⟨_,.inl<|aR.of c2',λL hL=>aD (v:=.int wi.2) rfl ⟨by show 2<=sizeLine;decide,λu hu=>?_⟩⟩;have r2:=aF (o:=.lst<|(iK ls wi.1).map V.str) hL;have hLv:upd H' L (.lst<|(iK ls wi.1).map V.str) L=some (.lst<|(iK ls wi.1).map V.str):=ao;generalize upd H' L (.lst<|(iK ls wi.1).map V.str)=Hx at r2 hLv hu ⊢;have r3:=aF (o:=.tup [.ref L,.int wi.2]) hu;have r23:=r2.trans r3;have FT:=r23 _ _ hyD;have hLD:L≠Dk:=λz=>by rw[z] at hL;rw[hL] at hyD;cases hyD
  have YG:u≠Dk:=λz=>by rw[z] at hu;rw[r2 _ _ hyD] at hu;cases hu
  have YH:upd Hx u (.tup [.ref L,.int wi.2]) u=some (.tup [.ref L,.int wi.2]):=ao;have YJ:=r3 _ _ hLv;generalize upd Hx u (.tup [.ref L,.int wi.2])=Hy at r3 r23 FT YH YJ ⊢;refine hR _ _ FT ⟨us'++[u],Jw++[L],by rw[length_append,xP];rfl,by rw[length_append,Bs];rfl,by rw[map_append];rfl,λb o e=>?_,λv hv=>?_,λv hv=>?_,λj v Mm x e1 e2 e3=>?_⟩
  .rw[ak λz=>by rw[z,hD] at e;cases e];exact r23 _ _<|sm _ _ e
  .rcases mem_append.mp hv with g|g
   .exact hun v g
   .rw[mem_singleton.mp g];exact⟨sm.free<|r2.free hu,YG⟩
  .rcases mem_append.mp hv with g|g
   .exact BW v g
   .rw[mem_singleton.mp g];exact⟨sm.free hL,hLD⟩
  .rcases oX e1 with g1|⟨gj,gv⟩
   .have hji:j<us'.length:=(List.getElem?_eq_some_iff.mp g1).1;rcases oX e2 with g2|⟨gj,_⟩
    .obtain⟨c1,c2⟩:=hit j v Mm x g1 g2 e3;rw[ak (hun v<|mem_of_getElem? g1).2,ak (BW Mm<|mem_of_getElem? g2).2];exact⟨r23 _ _ c1,r23 _ _ c2⟩
    .omega
   .rcases oX e2 with g2|⟨_,gm⟩
    .have:=(List.getElem?_eq_some_iff.mp g2).1;omega
    .rw[gj,xP] at e3;rw[hwi] at e3;cases e3;rw[gv,gm,ak YG,ak hLD];exact⟨YH,YJ⟩
 rintro Dk ys H6 hD ⟨us',Jw,xP,Bs,rfl,sm6,hun,BW,hit⟩ hyl hyD;rw[length_map,Td.wk.lu] at xP Bs;have s6:=s5.trans sm6;have YW:Walks H5 H6 ls ws Dk us' Jw:=⟨xP,Bs,λu hu=>(hun u hu).1,BW,hit⟩;try dsimp only
 unfold pJ;have tM6:=s6 _ _ Td.tm;refine bK (t:=t) rfl (P0 s6) rfl ⟨_,.inl<|aR.of tM6,λMk hMk=>⟨by show 2<=sizeLine;decide,λkt hkt=>?_⟩⟩;have r7:=aF (o:=.lst<|ms.map V.ref) hMk;have ag9:upd H6 Mk (.lst<|ms.map V.ref) Mk=some (.lst<|ms.map V.ref):=ao;generalize upd H6 Mk (.lst<|ms.map V.ref)=H7 at r7 ag9 hkt ⊢;have r8:=aF (o:=.tup [.ref Dk,.ref Mk]) hkt;have abl:upd H7 kt (.tup [.ref Dk,.ref Mk]) kt=some (.tup [.ref Dk,.ref Mk]):=ao;have aha:=r8 _ _ ag9;generalize upd H7 kt (.tup [.ref Dk,.ref Mk])=H8 at r8 abl aha ⊢;have r68:=r7.trans r8;have s8:=s6.trans r68;have tA8:=s8 _ _ Td.ta;have tM8:=s8 _ _ Td.tm;have ahb:∀L∈Ls,∃xs,H8 L=some (.lst xs):=λL hL=>by
  obtain⟨j,ej⟩:=getElem?_of_mem hL;have hjl:=(List.getElem?_eq_some_iff.mp ej).1;have hju:j<us.length:=by have:=Td.wk.lu;have:=Td.wk.lL;omega
  have YK:j<ws.length:=by have:=Td.wk.lL;omega
  exact⟨_,s8 _ _ (Td.wk.it j us[j] L ws[j] (getElem?_eq_getElem hju) ej<|getElem?_eq_getElem YK).2⟩
 have hAL:A∉Ls:=λhm=>(Td.wk.nL A hm).2 rfl;have xR:∀{b:Addr}{xs:List V},H8 b=some (.tup xs)->b∉A::M::Ls:=λ{b xs} e hm=>by
  rcases mem_cons.mp hm with g|g
  .rw[g,tA8] at e;cases e
  .rcases mem_cons.mp g with g|g
   .rw[g,tM8] at e;cases e
   .obtain⟨ys,ey⟩:=ahb b g;rw[ey] at e;cases e
 have YX:∀{b:Addr},b∉A::M::Ls->b≠A/\b≠M/\b∉Ls:=λh=>⟨λz=>h (by rw[z];exact mem_cons_self ..),λz=>h (by rw[z];exact mem_cons_of_mem _<|mem_cons_self ..),λz=>h<|mem_cons_of_mem _<|mem_cons_of_mem _ z⟩;have SM:H8 t=some (.tup [.int W,.ref A,.ref M]):=s8 _ _ Td.tp;try dsimp only
 rw[iy];refine bK (t:=t) rfl (P0 s8) rfl ⟨A,rfl,⟨_,aR.of tA8⟩,?_⟩;refine forL (xs:=us.map V.ref) (λi σ' H'=>(∃y6 y7,σ'=[some<|.ref p,some<|.ref D,some<|.ref sA,some<|.int T,some<|.ref t,some<|.ref kt,y6,y7,none])/\(∀b o,b∉Ls->H8 b=some o->H' b=some o)/\∀L∈Ls,∃xs,H' L=some (.lst xs)) ⟨⟨_,_,rfl⟩,λb o _ e=>e,ahb⟩ (λi σ' H' _ h=>aR.of (h.2.1 _ _ hAL tA8)) ?_ ?_
 .rintro i v σ' H' hv ⟨⟨y6,y7,rfl⟩,fr,hLx⟩;rw[getElem?_map] at hv;obtain⟨ui,YT,rfl⟩:=map_eq_some_iff.mp hv;have hi:i<ws.length:=by have:=(List.getElem?_eq_some_iff.mp YT).1;have:=Td.wk.lu;omega
  have hil:i<Ls.length:=by have:=Td.wk.lL;omega
  have hLi:Ls[i]? =some Ls[i]:=getElem?_eq_getElem hil;have hLm:Ls[i]∈Ls:=getElem_mem hil;have c1:=(Td.wk.it i ui Ls[i] ws[i] YT hLi<|getElem?_eq_getElem hi).1;generalize ws[i]=wi at c1;generalize Ls[i]=Li at c1 hLm;have c8:=s8 _ _ c1;have c1':=fr _ _ (YX<|xR c8).2.2 c8;obtain⟨xs,hxs⟩:=hLx Li hLm;refine⟨_,bB.of c1',rfl,?_⟩;simp only[pN,Ab,set_cons_zero,set_cons_succ];unfold gq Cj;refine aD (v:=.ref Li) rfl ⟨.inl ⟨rfl,_,aR.of hxs⟩,_,hxs,⟨_,_,rfl⟩,λb o hb e=>?_,λL' hL'=>?_⟩
  .rw[ak λz=>hb (by rw[z];exact hLm)];exact fr b o hb e
  .by_cases z:L'=Li
   .exact⟨[],by rw[z,ao]⟩
   .rw[ak z];exact hLx L' hL'
 rintro σ' H9 ⟨⟨y6,y7,rfl⟩,fr9,-⟩;have tA9:=fr9 _ _ hAL tA8;have tt9:=fr9 _ _ (YX<|xR SM).2.2 SM;try dsimp only
 unfold gq Cj;refine bK (t:=t) rfl (bB.of tt9) rfl ⟨.inl ⟨rfl,_,aR.of tA9⟩,_,tA9,?_⟩;have Vt:∀b o,b∉A::Ls->H8 b=some o->upd H9 A (.lst []) b=some o:=λb o hb e=>by rw[ak λz=>hb (by rw[z];exact mem_cons_self ..)];exact fr9 b o (λz=>hb<|mem_cons_of_mem _ z) e
 generalize upd H9 A (.lst [])=H10 at Vt ⊢;have nA2:∀{b:Addr},b∉A::M::Ls->b∉A::Ls:=λh z=>by
  rcases mem_cons.mp z with g|g
  .exact(YX h).1 g
  .exact(YX h).2.2 g
 have alj:=Vt _ _ (nA2 (xR SM)) SM;have ahf:=Vt M _ (λz=>by
  rcases mem_cons.mp z with g|g
  .exact Td.MA g
  .exact Td.ML g) tM8
 try dsimp only
 refine bK (t:=t) rfl (bB.of alj) rfl ⟨.inl ⟨rfl,_,aR.of ahf⟩,_,ahf,?_⟩;have abm:∀b o,b∉A::M::Ls->H8 b=some o->upd H10 M (.lst []) b=some o:=λb o hb e=>by rw[ak (YX hb).2.1];exact Vt b o (nA2 hb) e
 generalize upd H10 M (.lst [])=H11 at abm ⊢;have qF:Same H H11:=λb o e=>abm b o (λhm=>by
  rcases mem_cons.mp hm with g|g
  .rw[g,Td.nA] at e;cases e
  .rcases mem_cons.mp g with g|g
   .rw[g,Td.nM] at e;cases e
   .rw[(Td.wk.nL b g).1] at e;cases e) (s8 _ _ (q1 _ _ e))
 have ahg:=hh.grow qF;try dsimp only
 refine aD (v:=.ref p) rfl ⟨p,dx,_,rfl,ahg.ins,rfl,aD (v:=.int T) rfl ⟨p,dx,nn,ll,nums,ls,T,W,ws,μs,rfl,ahg,by omega,em,λx hx=>⟨hix x hx,RL x hx⟩,by omega,by omega,hnc,λSN t2 A2 M2 us2 Ls2 ms2 q12 Td2=>?_⟩⟩;have keep:∀{b:Addr}{o:HO},b∉A::M::Ls->H8 b=some o->SN b=some o:=λh e=>q12 _ _ (abm _ _ h e);have Vu:∀{b:Addr}{o:HO},H5 b=none->H8 b=some o->SN b=some o:=λ{b o} h e=>keep (λhm=>by
  rcases mem_cons.mp hm with g|g
  .rw[g,s5 _ _ Td.ta] at h;cases h
  .rcases mem_cons.mp g with g|g
   .rw[g,s5 _ _ Td.tm] at h;cases h
   .obtain⟨j,ej⟩:=getElem?_of_mem g;have hjl:=(List.getElem?_eq_some_iff.mp ej).1;have hju:j<us.length:=by have:=Td.wk.lu;have:=Td.wk.lL;omega
    have YK:j<ws.length:=by have:=Td.wk.lL;omega
    have:=s5 _ _ (Td.wk.it j us[j] b ws[j] (getElem?_eq_getElem hju) ej (getElem?_eq_getElem YK)).2;rw[h] at this;cases this) e
 have alk:Walks H5 SN ls ws Dk us' Jw:=⟨xP,Bs,YW.nu,YW.nL,λj u L x e1 e2 e3=>by
  obtain⟨c1,c2⟩:=YW.it j u L x e1 e2 e3;exact⟨Vu (YW.nu u (mem_of_getElem? e1)) (r68 _ _ c1),Vu (YW.nL L (mem_of_getElem? e2)).1 (r68 _ _ c2)⟩⟩
 have aio:=Vu hD<|r68 _ _ hyD;have aip:=Vu (sm6.free hMk) aha;have ac0:=keep (xR abl) abl;have alm:=keep (xR SM) SM;have aiq:∀(j:Nat) m r μ,ms[j]? =some m->(seenOf nums)[j]? =some r->μs[j]? =some μ->SN m=some (.tup [.str r,.int μ]):=λj m r μ e1 e2 e3=>by have:=s8 _ _<|Td.mo j m r μ e1 e2 e3;exact keep (xR this) this
 try dsimp only
 unfold mC;rw[op2];refine aD (v:=.ref t2) rfl ?_;refine bK (t:=t) rfl (bB.of alm) rfl (bK (t:=kt) rfl (bB.of ac0) rfl (bK (t:=kt) rfl (bB.of ac0) rfl ⟨by show 3<=sizeLine;decide,λz hz=>?_⟩));have YZ:=aF (o:=.tup [.int W,.ref Dk,.ref Mk]) hz;have ahh:upd SN z (.tup [.int W,.ref Dk,.ref Mk]) z=some (.tup [.int W,.ref Dk,.ref Mk]):=ao;generalize upd SN z (.tup [.int W,.ref Dk,.ref Mk])=H13 at YZ ahh ⊢;have hA:Has K H13 (tH ls (seenOf nums) W ws μs) (.ref t2):=Has.same YZ (Td2.has (by omega) hsc hnc hix);have hB:Has K H13 (tH ls (seenOf nums) W ws μs) (.ref z):=⟨z,_,rfl,bB.of ahh,_,_,rfl,rfl,_,_,rfl,Has.same YZ<|alk.has aio hnc hix,_,_,rfl,Has.same YZ<|Dj aip Td.lm (by omega) aiq hsc,rfl⟩;refine⟨_,_,hA,hB,Vs,?_⟩;rw[SeqAt.eqv_refl _<|Has.can hA];exact hq _<|(qF.trans q12).trans YZ
end
theorem ael (h:xs.length+ys.length<=16000000):vX (.list xs) (.list ys)=some (.list<|xs++ys):=if_pos<|le_of_lt<|aY h
def qP (ns:List Int):List Str:=if eV (cM ns 1) 3 % 4=0 then wordsOf (eV (cM ns 0) 0) 8 else namesOf ns
theorem ahi (ns:List Int):(qP ns).length=8/\(qP ns).Nodup/\∀x∈qP ns,eE x:=by
 unfold qP;split
 .exact⟨zO _ _,CW _ _,CV _<|by decide⟩
 .exact aa3 ns
theorem ahj (ns:List Int):lX [.list<|ns.map .int]=some (false,.tuple [bD<|jC ns,bD<|qP ns]):=by
 have m:=d9 (eV (cM ns 0) 2) (show(0:Int)<4 by decide);have m2:=d9 (eV (cM ns 1) 2) (show(0:Int)<2 by decide);have e:=Aq (c:=cM ns 0) (k:=0) (by decide) (by decide) (many:=(2+eV (cM ns 0) 2 % 4).toNat) (by omega);rw[show(((2+eV (cM ns 0) 2 % 4).toNat))=2+eV (cM ns 0) 2 % 4 by omega] at e;have e2:=Aq (c:=cM ns 1) (k:=eV (cM ns 1) 2 % 2) (by omega) (by omega) (many:=8) (by decide);rw[show((8:Nat):Int)=8 from rfl] at e2;have e3:=Aq (c:=cM ns 0) (k:=0) (by decide) (by decide) (many:=8) (by decide);rw[show((8:Nat):Int)=8 from rfl] at e3;unfold lX BP;walk_at "e1";repeat (first|rw[zN<|by decide]|rw[wU (by decide)<|by decide]|simp only[cG<|show(0:Int)<4 by decide,cG<|show(0:Int)<2 by decide]|rw[e]|rw[e2]);walk_at "e1"
 unfold qP;by_cases h:eV (cM ns 1) 3 % 4=0
 .rw[if_pos h,h];walk_at "e1";simp only[decide_true];walk_at "e1";rw[zN<|by decide];walk_at "e1";rw[e3];unfold bD jC;walk_at "e1"
 .rw[if_neg h];simp only[h,decide_false];unfold bD jC namesOf;walk_at "e1"
noncomputable def Dl:Int:=100000000000000000000000000000000000000000000000000000000000
theorem SQ (c:Int):∃T,jB [.int c]=some (false,.int T)/\0<=T/\T<Dl:=by
 have p:yE (.int 10) (.int 59)=some (.int Dl):=by rw[DX (by decide) (by decide) (by decide)<|by decide];rfl
 have m:=d9 c (show(0:Int)<Dl by decide);have m2:=d9 (eV c 4/4) (show(0:Int)<25 by decide);unfold jB zH;walk_at "e1";rw[wU (by decide)<|by decide];walk_at "e1";simp only[cG<|show(0:Int)<4 by decide,Ae];walk_at "e1";by_cases h:eV c 4 % 4=0
 .simp only[h,decide_true];walk_at "e1";rw[p];walk_at "e1";simp only[cG<|show(0:Int)<Dl by decide];walk_at "e1";exact⟨_,rfl,m.1,m.2⟩
 .simp only[h,decide_false];walk_at "e1";simp only[jw (show(0:Int)<4 by decide) (by decide)];walk_at "e1";simp only[cG<|show(0:Int)<25 by decide];walk_at "e1";exact⟨_,rfl,m2.1,Int.lt_trans m2.2<|by decide⟩
section
variable {ns:List Int}
theorem aem:(aZ lX<|aC (vF 0) a0) [some (.fr,.list<|ns.map .int),x1,x2,x3,x4,x5,x6,x7,x8]=some (.tuple [bD<|jC ns,bD<|qP ns]):=by have e:=ahj ns;walk_at "e1";rw[e];walk_at "e1"
theorem air:∃T,(aZ jB<|aC (aZ bU<|aC (vF 0)<|aC (vC<|.int 14) a0) a0) [some (.fr,.list<|ns.map .int),x1,x2,x3,x4,x5,x6,x7,x8]=some (.int T)/\0<=T/\T<Dl:=by obtain⟨T,e,h⟩:=SQ<|cM ns 14;refine⟨T,?_,h⟩;walk_at "e1";rw[zN<|by decide];walk_at "e1";rw[e];walk_at "e1"
theorem aln:∃T,(aZ jB<|aC (vF 7) a0) [x0,x1,x2,x3,x4,x5,x6,some (.fr,.int c),x8]=some (.int T)/\0<=T/\T<Dl:=by obtain⟨T,e,h⟩:=SQ c;refine⟨T,?_,h⟩;walk_at "e1";rw[e];walk_at "e1"
theorem abn (h:jU [.int c,eO rows,bD rs,bD nms]=some (false,d)):
  (aZ jU<|aC (vF 7)<|aC (vF 4)<|aC (vF 1)<|aC (vF 2) a0) [x0,some (.fr,bD rs),some (.fr,bD nms),x3,some (.fr,eO rows),x5,x6,some (.fr,.int c),x8]=some d:=by
 walk_at "e1";rw[h];walk_at "e1"
theorem alo (hl:ns.length<=1000):∃cs:List Int,(v2 vX (Lx (vN 0) (oI<|vC<|.int 15)<|oI<|vC<|.int 17)<|fY<|aC (vC<|.int 0) a0) [some (.fr,.list<|ns.map .int),x1,x2,x3,x4,x5,x6,x7,x8]=some (.list<|cs.map .int):=by
 walk_at "e1";refine⟨(ns.drop<|HT.bH ns.length 0<|some 15).take (HT.bH ns.length ns.length (some 17) - HT.bH ns.length 0 (some 15))++[0],?_⟩;have e:VM.cutD (ns.map PyData.int) (some 15) (some 17)=((ns.drop<|HT.bH ns.length 0<|some 15).take<|HT.bH ns.length ns.length (some 17) - HT.bH ns.length 0 (some 15)).map PyData.int:=by unfold VM.cutD;rw[length_map,←List.map_drop,←map_take]
 rw[e,ael (by simp only[length_map,length_take,length_drop,length_cons,length_nil];omega)];rw[map_append];rfl
theorem ais (hl:rows.length<1000):(jZ (cu<|vF 4) [none] (gN 0) fQ<|Pr<|vN 0) [x0,x1,x2,x3,some (.fr,eO rows),x5,x6,x7,x8]=some (Al rows):=by
 unfold eO;walk_at "e1";rw[nP rfl (by rw[length_map];exact aY<|by omega)];rw[gJ (f:=λd=>match d with|.list ds=>.tuple ds|d=>d)]
 .walk_at "e1";rw[map_map];rfl
 .intro d hd;obtain⟨r,_,rfl⟩:=mem_map.mp hd;refine⟨_,rfl,rfl,rfl⟩
end
def RX (B:Int)(r:Row):Prop:=r.2.1≠r.2.2.1/\r.2.2.2.1<=B/\1<=r.2.2.2.2/\r.2.2.2.2<=kZ
def wB (i:Nat):Int:=(i:Int)*kZ
theorem G9 (i:Nat):wB (i+1)=wB i+kZ:=by unfold wB;rw[Int.natCast_add,add_mul];show _+1*kZ=_;rw[Int.one_mul]
theorem ait (h:i<=100):wB i<=100*kZ:=by exact Int.mul_le_mul_of_nonneg_right (by omega) (by decide)
theorem aen (hd:rY rooms names rows d)(hw:∀r∈rows,RX (wB i) r):∀r∈Vg d rows,RX (wB<|i+1) r:=by
 have h0:0<=kZ:=by decide
 have hi:0<=wB i:=mul_nonneg (by omega) h0;have up:∀{r:Row}{nm:Str} {k:Int},r∈rows->k<=kZ->RX (wB<|i+1) (gG nm k r):=λ{r nm k} hr hk=>by
  obtain⟨a,b,c,d⟩:=hw r hr;rw[G9];unfold gG;split
  .exact⟨a,by show r.2.2.2.1+k<=_;omega,c,d⟩
  .exact⟨a,by omega,c,d⟩
 have st:∀r∈rows,RX (wB<|i+1) r:=λr hr=>by obtain⟨a,b,c,d⟩:=hw r hr;rw[G9];exact⟨a,by omega,c,d⟩
 cases d with
 |lay nm a b w l=>
  obtain⟨_,_,_,_,h5,_,h7,h8,h9⟩:=hd;intro r hr;have hr':=hr;rcases mem_append.mp hr' with g|g
  .exact st r g
  .rw[mem_singleton.mp g,G9];exact⟨h5,by show w<=_;omega,h7,h9⟩
 |shut nm=>intro r hr;exact st r (mem_filter.mp hr).1
 |widen nm k=>
  obtain⟨_,_,h3⟩:=hd;intro r hr;obtain⟨r',hr',rfl⟩:=mem_map.mp hr;exact up hr' h3
 |narrow nm k=>obtain⟨_,_,_,h3,_⟩:=hd;intro r hr;obtain⟨r',hr',rfl⟩:=mem_map.mp hr;exact up hr'<|by omega
theorem Y0 (d:bT)(r0 r1:Str)(more:List Str):∃m2,Vh d (r0::r1::more)=r0::r1::m2:=by
 have one:∀m (r:Str),∃m2,(if((r0::r1::m).any λy=>y==r)=true then r0::r1::m else(r0::r1::m)++[r])=r0::r1::m2:=λm r=>by
  split
  .exact⟨m,rfl⟩
  .exact⟨m++[r],rfl⟩
 cases d with
 |lay nm a b w l=>
  show ∃m2,lO (r0::r1::more) [a,b]=r0::r1::m2;unfold lO;rw[foldl_cons,foldl_cons,List.foldl_nil];obtain⟨m1,e1⟩:=one more a;rw[e1];exact one m1 b
 |shut nm=>exact⟨more,rfl⟩
 |widen nm k=>exact⟨more,rfl⟩
 |narrow nm k=>exact⟨more,rfl⟩
section
variable {K:Frag}
def SL (K:Frag)(bad:List Addr)(H:Hp)(t:Addr)(xs:List V):Prop:=(∃o,H t=some o/\(∀ks,o≠ .dK ks)/\t∉bad/\∀H':Hp,H' t=some o->aR K H' t xs)\/∀H',aR K H' t xs
theorem SL.mk0 (h:aR K H t xs):SL K [] H t xs:=by
 rcases h with(h|⟨o,h⟩)|h
 .exact .inl ⟨_,h,λ_ z=>(by cases z),λz=>(by cases z),λ_ e=>.inl<|.inl e⟩
 .exact .inl ⟨_,h,λ_ z=>(by cases z),λz=>(by cases z),λ_ e=>.inl<|.inr ⟨o,e⟩⟩
 .exact .inr λ_=>.inr h
theorem SL.sq (h:SL K bad H t xs):aR K H t xs:=by
 rcases h with⟨o,e,_,_,f⟩|h
 .exact f _ e
 .exact h _
theorem SL.new (h:SL K bad H t xs)(n:H b=none):SL K (b::bad) H t xs:=by
 rcases h with⟨o,e,d,m,f⟩|h
 .refine .inl ⟨o,e,d,λz=>?_,f⟩;rcases mem_cons.mp z with g|g
  .rw[g,n] at e;cases e
  .exact m g
 .exact .inr h
theorem SL.grow (h:SL K bad H t xs)(s:Same H H'):SL K bad H' t xs:=by
 rcases h with⟨o,e,d,m,f⟩|h
 .exact .inl ⟨o,s _ _ e,d,m,f⟩
 .exact .inr h
theorem SL.stay (h:SL K bad H t xs)(hh:aW H C p dx nn ll nums ls)(s:fK nn ll H H'):SL K bad H' t xs:=by
 obtain⟨kvs,c,_⟩:=hh.laid;rcases h with⟨o,e,d,m,f⟩|h
 .refine .inl ⟨o,s _ _ (λz=>?_) (λz=>?_) e,d,m,f⟩
  .rw[z,hh.num] at e;cases e;exact d _ rfl
  .rw[z,c] at e;cases e;exact d _ rfl
 .exact .inr h
theorem SL.frame (h:SL K bad H t xs)(fr:∀b o,b∉bad->H b=some o->H' b=some o)(hn:∀x∈alp,x∈bad\/H x=none):SL K alp H' t xs:=by
 rcases h with⟨o,e,d,m,f⟩|h
 .refine .inl ⟨o,fr _ _ m e,d,λz=>?_,f⟩;rcases hn _ z with g|g
  .exact m g
  .rw[g] at e;cases e
 .exact .inr h
theorem Y4 (e:σ[i]? =some (some<|.ref t))(h:aR K H t xs)(hj:∀R:VK,R (.int j) H->tj σ H R)(a:bW xs j=some v)(q:Q v H):gR (sG K) (vR i) tj σ H Q:=
 aD e (hj _ ⟨xs,v,h,a,q⟩)
theorem SX (h:aR K H t (ss.map V.str))(c:∀x∈ss,(PyData.str x).canLay0=true):Has K H (bD ss) (.ref t):=⟨t,_,rfl,h,zM c⟩
theorem aeo (ha:∀R:List V->Hp->Prop,R [.str a,.str b] H->t σ H R)(n1:eE a)(n2:eE b)(hab:a≠b)
  (q:∀x dx nn ll H',aW H' C x dx nn ll [(a,0),(b,1)] []->Same H H'->Q (.ref x) H'):abx C (Ph C) [] E t σ H Q:=by
 refine ha _ λx dx hx hdx hne=>⟨x,dx,a,b,rfl,ao,n1,n2,hab,λH' nn ll hall fr hnn hll=>⟨rfl,q x dx nn ll H' hall<|λc o e=>?_⟩⟩;have z1:c≠x:=λz=>by subst z;rw[hx] at e;cases e
 have z2:c≠dx:=λz=>by subst z;rw[hdx] at e;cases e
 exact fr c o z1 (by rw[ak z1,ak z2];exact e)
theorem Av (ok:Ok rs nms (prs.map (·.2)) nums ls)(hall:aW H C p dx nn ll nums ls)(held:Held H D prs)(jf:H sA=some (.lst<|(seenOf nums).map V.str))
  (hx:∀r∈prs.map (·.2),RX (wB i) r)(hi:i<=100)(hm:seenOf nums=r0::r1::more)(hrk:∀x∈rs,eE x)(h0:0<=T)(h1:T<Dl)(q:∀H',Same H H'->Q (.bl true) H'):PX C [.ref p,.ref D,.ref sA,.int T] H Q E:=by
 have hB:=ait hi;have hl:=ok.len;refine⟨p,dx,nn,ll,nums,ls,D,prs,sA,T,r0,r1,more,100*kZ,rfl,hall,held,jf,hm,ok.nd,⟨ok.lr,ok.dr.nn,λr hr=>(hx r hr).1,λr hr=>⟨ok.dr.wd r hr,Int.le_trans (hx r hr).2.1 hB⟩,λr hr=>(hx r hr).2.2.1⟩,by decide,λr hr=>Int.le_trans (hx r hr).2.2.2<|by decide,by omega,by omega,⟨h0,Int.lt_trans h1<|by decide⟩,λx hx=>(hrk x<|ok.sub x hx).2,q⟩
end
section
variable {K:Frag}
structure Stand (K:Frag)(C:Addr)(ns:List Int)(sc:Addr)(rs nms:List Str)(r0 r1:Str)(cells:List Int)(ra na p dx nn ll D sA cz:Addr)(i:Nat)(H:Hp):Prop where
 ex:∃nums ls prs more,Ok rs nms (prs.map (·.2)) nums ls/\aW H C p dx nn ll nums ls/\Held H D prs/\H sA=some (.lst<|(seenOf nums).map V.str)/\(D::sA::prs.map (·.1)).Nodup/\(∀r∈prs.map (·.2),RX (wB i) r)/\seenOf nums=r0::r1::more/\
  SL K (D::sA::prs.map (·.1)) H ra (rs.map V.str)/\SL K (D::sA::prs.map (·.1)) H na (nms.map V.str)/\SL K (D::sA::prs.map (·.1)) H cz (cells.map V.int)/\SL K (D::sA::prs.map (·.1)) H sc (ns.map V.int)
theorem Stand.grow {ns:List Int}(h:Stand K C ns sc rs nms r0 r1 cells ra na p dx nn ll D sA cz i H)(k:Same H H'):Stand K C ns sc rs nms r0 r1 cells ra na p dx nn ll D sA cz i H':=by obtain⟨nums,ls,prs,more,a1,a2,a3,a4,a5,a6,a7,a8,a9,a10,a11⟩:=h;exact⟨nums,ls,prs,more,a1,a2.grow k,a3.grow k,k _ _ a4,a5,a6,a7,a8.grow k,a9.grow k,a10.grow k,a11.grow k⟩
theorem Stand.cz {ns:List Int}{ra na p dx nn ll D sA cz:Addr}(h:Stand K C ns sc rs nms r0 r1 cells ra na p dx nn ll D sA cz i H):aR K H cz (cells.map V.int):=by obtain⟨nums,ls,prs,more,a1,a2,a3,a4,a5,a6,a7,a8,a9,a10,a11⟩:=h;exact a10.sq
theorem lY (h:∀R:L2.St->Hp->Prop,(∀σ' H',b D σ' H'->R σ' H')->a {D with nx:=R} σ H):jm a b D σ H:=h _ λ_ _ x=>x
theorem Qa:bM ["_law_script","_law_rooms","_law_names","_law_hall","_law_held","_law_seen","_law_turns_here","_law_cell","_law_deed_here"] ["_law_script"] (aN<|top 52):=fs
theorem abo (ns:List Int)(lo hi:Option Int):∃cs:List Int,qg (ns.map V.int) lo hi=cs.map V.int/\cs.length<=ns.length:=by
 refine⟨(ns.drop<|HT.bH ns.length 0 lo).take<|HT.bH ns.length ns.length hi - HT.bH ns.length 0 lo,?_,?_⟩
 .unfold qg;rw[length_map,←List.map_drop,←map_take]
 .rw[length_take,length_drop];omega
theorem ahl (F:bJ K "law" "law" (top 52) f fd)(B:Bl mg)(KT:dJ K)(c:Cl K C)(M:Mk K C fi)(Fi:aX P w K mg base bO 2 fi fdi ["self","start","goal"] (Ph C))(bi:Binds K fdi ["self","start","goal"] [])(hC:mg "NamedHall"=some (.ref C))
  (Mp:Ms P w K mg base C 2 "passages" ["self"] (Yo C))
  (w5:cZ P w K mg base 3 "_law_sets" ["_law_script"] (bQ K lX))(pB:cZ P w K mg base 2 "_law_turns" ["_law_cell"] (bQ K jB))(jP:cZ P w K mg base 1 "_law_cell_at" ["_law_script","_law_k"] (bQ K bU))
  (w6:cZ P w K mg base 3 "_law_deed" ["_law_cell","_law_held","_law_rooms","_law_names"] (bQ K jU))(Dm:cZ P w K mg base 3 "_law_do" ["_law_hall","_law_deed_here"] (agJ K C))(uh:cZ P w K mg base 1 "_law_noted" ["_law_held","_law_seen","_law_deed_here"] (R7 K))
  (m9:cZ P w K mg base 8 "_law_out" ["_law_hall","_law_held","_law_seen","_law_turns_here"] (PX C)):aX P w K mg base bO 9 f fd ["_law_script"] (Uh K):=by
 have nd:=Qa.nd;have vt:=Qa.vt;obtain⟨f8,fd8,F8,m8,b8⟩:=Mp.ex;refine bJ.ok F Qa (λvs H Q E h=>by obtain⟨_,_,rfl,_⟩:=h;rfl) λcdv A outer s H vs Q E hr hsp=>?_;obtain⟨sc,ns,rfl,hsc,hns,hq⟩:=hsp;obtain⟨r0,r1,rest,ers,hrest,hrn,hrk⟩:=YB ns;obtain⟨hn8,hnn,hnk⟩:=ahi ns;have t7:∃t,iG (qe bO P w K mg base ["_law_script","_law_rooms","_law_names","_law_hall","_law_held","_law_seen","_law_turns_here","_law_cell","_law_deed_here"] "law" (aN<|top 52) f cdv A outer s H E).Ds ((dj<|top 52).drop 7) t/\∀ra na p dx nn ll D sA cz T y7 y8 iz cs Hz,iz<=63->Stand K C ns sc (r0::r1::rest) (qP ns) r0 r1 cs ra na p dx nn ll D sA cz iz Hz->t {nx:=λ_ H'=>Q .non H',rt:=Q} [some<|.ref sc,some<|.ref ra,some<|.ref na,some<|.ref p,some<|.ref D,some<|.ref sA,some<|.int T,y7,y8] Hz:=by
  refine⟨_,(aH (iV PassesOwn.never rfl (iw (dCat (nm (akd (dN (pV vt 0)) (poI (sw jg)) (poI (sw jg)))) (nm (ZP (mV jg yI))))) (cj (i:=7) nd rfl lx) (aP (dD (Dr (ptV (eG m9 hr gx (aj (pV vt 3) (aj (pV vt 4) (aj (pV vt 5) (aj (tQ (eG pB hr.mo gx (mV (dF (pV vt 7)) yI))) aO))))))) (aP (cF vg)) cg)))
  (aP (cF (abI (eG m9 hr gx (aj (pV vt 3) (aj (pV vt 4) (aj (pV vt 5) (aj aJ aO))))) (VP (peC (Lh hr.units) (Ce (pV vt 3) c.cl m8 F8 hr.mo b8 .nil gW) (nw (dLC (DG (cap:=[none]) ["_law_script","_law_rooms","_law_names","_law_hall","_law_held","_law_seen","_law_turns_here","_law_cell","_law_deed_here"] (aN (top 52)) rfl (by decide +kernel) rfl rfl (itL (dF (pV vt 4))) (λ_ _ _ _ _=>(tgN (Bf (i:=0) (show(["_law_row"]:List Str).Nodup by decide +kernel) (by decide +kernel)))) (λ_ _ _ _ _=>ifN) (λ_ _ _ _ _=>(agO (jE ak0 (glC (by decide +kernel)) (by exact B.tuple) PyProof.Rows.boot_tuple (aj (dN (uw (by decide +kernel) 0)) aO))))))))))))),?_⟩
  intro ra na p dx nn ll D sA cz T y7 y8 iz cs Hz hil st;unfold jm cC;obtain⟨nums,ls,prs,more,ok,hall,held,jf,hnd,hx,hmore,hra',abp,ahm,abq⟩:=st;have hlen:=ok.dr.len;rw[length_map] at hlen;obtain⟨ds,eds⟩:=alo (ns:=ns) (by omega);rw[iy];try unfold qG
  refine Yw (S:=[some (.fr,.list<|ns.map .int),none,none,none,none,none,none,none,none]) ⟨_,_,rfl,rfl,⟨sc,_,rfl,abq.sq,aG.ints.mpr rfl⟩,_,_,rfl,_,_,rfl,_,_,rfl,_,_,rfl,_,_,rfl,_,_,rfl,_,_,rfl,_,_,rfl,rfl⟩ eds λcy ys Hy sy aob hcy hys=>?_;rw[aG.ints.mp hys] at hcy;refine⟨cy,rfl,⟨_,aR.of hcy⟩,?_⟩;refine forL (λi σ' H'=>(∃y7 y8,σ'=[some<|.ref sc,some<|.ref ra,some<|.ref na,some<|.ref p,some<|.ref D,some<|.ref sA,some<|.int T,y7,y8])/\Same Hy H')
   ⟨⟨_,_,rfl⟩,Same.refl _⟩ (λi σ' H' _ h=>aR.of (h.2 _ _ hcy)) ?_ ?_
  .rintro i v σ' Ha hv ⟨⟨y7,y8,rfl⟩,sa⟩;rw[getElem?_map] at hv;obtain⟨cell,_,rfl⟩:=map_eq_some_iff.mp hv;have sza:=sy.trans sa;obtain⟨T',eT',hT0',hT1'⟩:=aln (x1:=none) (x2:=none) (x3:=none) (x4:=none) (x5:=none) (x6:=none) (x8:=none);simp only[jo,Kv,mU,iJ,bV,dI,jk];refine aD (v:=.ref p) rfl<|aD (v:=.ref D) rfl<|aD (v:=.ref sA) rfl ?_;refine wQ (S:=[none,none,none,none,none,none,none,some (.fr,.int cell),none]) ⟨_,_,rfl,_,_,rfl,_,_,rfl,_,_,rfl,_,_,rfl,_,_,rfl,_,_,rfl,_,_,rfl,rfl,rfl,_,_,rfl,rfl⟩ eT' λv Hb sb hv=>?_;have hv':v=.int T':=hv;subst hv';have szb:=sza.trans sb;refine Av (i:=iz) ok (hall.grow szb) (held.grow szb) (szb _ _ jf) hx (by omega) hmore hrk hT0' hT1' λHc sc'=>?_;show(if(!true)=true then _ else _);rw[if_neg<|by simp];exact⟨⟨_,_,rfl⟩,(sa.trans sb).trans sc'⟩
  .rintro σ' Hx ⟨⟨y7,y8,rfl⟩,sx⟩;have szx:=sy.trans sx;try dsimp only
   try unfold mC
   try unfold T6
   try unfold iJ
   try unfold bV
   try unfold dI
   refine aD (v:=.ref p) rfl<|aD (v:=.ref D) rfl<|aD (v:=.ref sA) rfl ?_;unfold tC;refine Av (T:=0) (i:=iz) ok (hall.grow szx) (held.grow szx) (szx _ _ jf) hx (by omega) hmore hrk (by decide) (by decide) λHw sw'=>?_;show(if true=true then _ else _);rw[if_pos rfl,op2];have szw:=szx.trans sw';have hhw:=hall.grow szw;have hc':=held.agQ;have hR:Paired (LR<|seenOf nums) ls (prs.map (·.2)):=ok.lr.mono λ_ _ z=>z.lr;try unfold jH
   refine aD (v:=.ref p) rfl ⟨p,dx,_,rfl,hhw.ins,rfl,p,dx,nn,ll,nums,ls,_,rfl,hhw,by have:=ok.len;omega,hR,λH2 pz ts s2 hpz hts hrw=>?_⟩;refine agP (S:=[none,none,none,none,some (.fr,eO<|prs.map (·.2)),none,none,none,none]) ⟨_,_,rfl,_,_,rfl,_,_,rfl,_,_,rfl,_,_,rfl,rfl,(held.grow<|szw.trans s2).has,_,_,rfl,_,_,rfl,_,_,rfl,_,_,rfl,rfl⟩ (ais (by rw[length_map];omega)) λv H3 s3 hv=>?_;refine⟨_,_,aaX (s3 _ _ hts) (hrw.mono λv r h=>let⟨t,a,b⟩:=h;⟨t,a,s3 _ _ b⟩) hc',hv,Vl _,?_⟩;rw[SeqAt.eqv_refl _<|aaV hc'];exact hq _
 obtain⟨t7,p7,h7⟩:=t7;refine⟨_,(aH (nq (tQ (eG w5 hr.mo gx (mV (dF (pV vt 0)) yI))) (sH (n:=2) rfl (fW (cj (i:=1) nd rfl lx) (fW (cj (i:=2) nd rfl lx) pO))))
  (aH (dX (i:=3) nd rfl lx (adp M Fi hr.mo gx hC bi .nil gW (aj (bh pL (pV vt 1) aJ) (aj (bh pL (pV vt 1) aJ) aO))))
  (aH (dX (i:=4) nd rfl lx (yd aO))
  (aH (dX (i:=5) nd rfl lx (q8 Gf (pV vt 1) Qz (qQ aJ)))
  (aH (nq (tQ (eG pB hr.mo gx (mV (tQ (eG jP hr.mo gx (mV (dF (pV vt 0)) (mV jg yI)))) yI))) (cj (i:=6) nd rfl lx))
  (aH (dD (Dr (ptV (eG m9 hr gx (aj (pV vt 3) (aj (pV vt 4) (aj (pV vt 5) (aj (pV vt 6) aO))))))) (aP (cF vg)) cg)
  (aH (iV PassesOwn.never rfl (iw (q8 Gf (pV vt 0) (qQ aJ) (qQ aJ))) (cj (i:=7) nd rfl lx) (aH (nq (tQ (eG w6 hr.mo gx (mV (dF (pV vt 7)) (mV (dF (pV vt 4)) (mV (dF (pV vt 1)) (mV (dF (pV vt 2)) yI)))))) (cj (i:=8) nd rfl lx))
  (aH (cL (eG Dm hr.mo gx (aj (pV vt 3) (aj (pV vt 8) aO))))
  (aH (cL (eG uh hr.mo gx (aj (pV vt 4) (aj (pV vt 5) (aj (pV vt 8) aO)))))
  (aP (dD (Dr (ptV (eG m9 hr gx (aj (pV vt 3) (aj (pV vt 4) (aj (pV vt 5) (aj (pV vt 6) aO))))))) (aP (cF vg)) cg))))))
  p7))))))),?_⟩
 have aho:∀{H':Hp},Same H H'->Has K H' (.list<|ns.map .int) (.ref sc):=λk=>⟨sc,_,rfl,k.seq hsc,aG.ints.mpr rfl⟩;have alq:SL K [] H sc (ns.map V.int):=SL.mk0 hsc;refine lY λU1 u1=>?_;unfold eZ;refine wQ (S:=[some (.fr,.list<|ns.map .int),none,none,none,none,none,none,none,none]) ⟨_,_,rfl,rfl,aho<|Same.refl _,_,_,rfl,_,_,rfl,_,_,rfl,_,_,rfl,_,_,rfl,_,_,rfl,_,_,rfl,_,_,rfl,rfl⟩ aem λv H1 s1 hv=>?_;rw[ers] at hv;generalize hnm:qP ns=nms at hv hn8 hnn hnk;obtain⟨t0,xs0,rfl,hq0,z1,q1,rfl,g1,z2,q2,rfl,g2,g3⟩:=hv;have e3:q2=[]:=g3;subst e3;obtain⟨ra,xs1,rfl,hra,hx1⟩:=g1;obtain⟨na,xs2,rfl,hna,hx2⟩:=g2;rw[qW hx1] at hra;rw[qW hx2] at hna;refine⟨_,hq0,rfl,?_⟩;simp only[pN,Ab,cC,set_cons_zero,set_cons_succ];refine u1 _ _<|lY λU2 u2=>?_;unfold eZ cC;have alr:=SL.mk0 hra;have als:=SL.mk0 hna;have hab:r0≠r1:=λz=>(nodup_cons.mp hrn).1 (by rw[z];exact mem_cons_self ..);have k0:=hrk r0<|mem_cons_self ..;have k1:=hrk r1<|mem_cons_of_mem _<|mem_cons_self ..;have at0:bW ((r0::r1::rest).map V.str) 0=some (.str r0):=dY (j:=0) rfl;have at1:bW ((r0::r1::rest).map V.str) 1=some (.str r1):=dY (j:=1) rfl;refine aeo (a:=r0) (b:=r1) (λZ z=>?_) k0 k1 hab λp dx nn ll H2 hall2 s2=>?_
 .exact Y4 (t:=ra) rfl hra (λZ z=>z) at0<|Y4 (t:=ra) rfl hra (λZ z=>z) at1 z
 have alu:=alr.grow s2;have alv:=als.grow s2;refine u2 _ _ (lY λU3 u3=>?_);unfold eZ cC;unfold KJ;show _<=_/\_;refine⟨zero_le _,λD hD=>?_⟩;have s3:=aF (o:=.lst []) hD;have abr:=(alu.new hD).grow s3;have ahp:=(alv.new hD).grow s3;have hsc3:=((alq.grow (s1.trans s2)).new hD).grow s3;have FT:upd H2 D (.lst []) D=some (.lst []):=ao;generalize upd H2 D (.lst [])=H3 at s3 FT abr ahp hsc3 ⊢;refine u3 _ _ (lY λU4 u4=>?_);unfold eZ cC;unfold tSl Gd JZ;refine aD (v:=.ref ra) rfl ⟨2,rfl,ra,_,rfl,abr.sq,λsA hsA=>?_⟩;rw[ak1];have s4:=aF (o:=.lst ([r0,r1].map V.str)) hsA;have sw:∀{bad:List Addr}{t:Addr} {xs:List V},SL K (D::bad) H3 t xs->SL K (D::sA::bad) H3 t xs:=λ{bad t xs} h=>SL.frame (h.new hsA) (λ_ _ _ e=>e) λx hx=>.inl (by
  rcases mem_cons.mp hx with g|g
  .rw[g];exact mem_cons_of_mem _<|mem_cons_self ..
  .rcases mem_cons.mp g with g|g
   .rw[g];exact mem_cons_self ..
   .exact mem_cons_of_mem _ (mem_cons_of_mem _ g))
 have ahr:=(sw abr).grow s4;have ahs:=(sw ahp).grow s4;have aht:=(sw hsc3).grow s4;have hs4:upd H3 sA (.lst<|[r0,r1].map V.str) sA=some (.lst<|[r0,r1].map V.str):=ao;generalize upd H3 sA (.lst<|[r0,r1].map V.str)=H4 at s4 hs4 ahr ahs aht ⊢;have FN:D≠sA:=aU FT hsA;have ac3:aW H4 C p dx nn ll [(r0,0),(r1,1)] []:=(hall2.grow s3).grow s4;have hD4:=s4 _ _ FT;have alw:∀x∈r0::r1::rest,(PyData.str x).canLay0=true:=λx hx=>(hrk x hx).2;have alx:∀x∈nms,(PyData.str x).canLay0=true:=λx hx=>(hnk x hx).2;have ok0:Ok (r0::r1::rest) nms (([]:List PR).map (·.2)) [(r0,0),(r1,1)] []:=by
  refine⟨⟨by simp,by simp only[length_cons];omega,hrn,hn8,.nil,λ_ h=>by(cases h),λ_ h=>by(cases h)⟩,λi x e=>?_,?_,?_,.nil⟩
  .match i,e with
   |0,e=>cases e;rfl
   |1,e=>cases e;rfl
  .show [r0,r1].Nodup;simp[hab]
  .intro x hx;have hx':x∈[r0,r1]:=hx;rcases mem_cons.mp hx' with g|g
   .rw[g];exact mem_cons_self ..
   .rw[mem_singleton.mp g];exact mem_cons_of_mem _<|mem_cons_self ..
 have ac4:Held H4 D []:=⟨hD4,λ_ h=>by(cases h),λ_ h=>by(cases h)⟩;refine u4 _ _<|lY λU5 u5=>?_;unfold eZ cC;obtain⟨T,eT,hT0,hT1⟩:=air (ns:=ns) (x1:=none) (x2:=none) (x3:=none) (x4:=none) (x5:=none) (x6:=none) (x7:=none) (x8:=none);have s14:=s1.trans<|s2.trans<|s3.trans s4;refine wQ (S:=[some (.fr,.list<|ns.map .int),none,none,none,none,none,none,none,none]) ⟨_,_,rfl,rfl,aho s14,_,_,rfl,_,_,rfl,_,_,rfl,_,_,rfl,_,_,rfl,_,_,rfl,_,_,rfl,_,_,rfl,rfl⟩ eT λv H5 s5 hv=>?_;have hv':v=.int T:=hv;subst hv';refine u5 _ _<|lY λU6 u6=>?_;unfold jo Kv mU iJ bV dI;refine aD (v:=.ref p) rfl (aD (v:=.ref D) rfl (aD (v:=.ref sA) rfl (aD (v:=.int T) rfl (Av (i:=0) ok0 (ac3.grow s5) (ac4.grow s5) (s5 _ _ hs4) (λ_ h=>by(cases h)) (by decide) rfl hrk hT0 hT1 λH6 s6=>?_))));show(if(!true)=true then _ else _);rw[if_neg<|by simp];unfold jk;have Y5:=s5.trans s6;have s16:=s14.trans Y5;have aly:=aht.grow Y5;refine u6 _ _<|lY λU7 u7=>?_;unfold cC;rw[iy];unfold qG;refine aD (v:=.ref sc) rfl ⟨2,rfl,14,rfl,sc,_,rfl,s16.seq hsc,λcz hcz=>⟨cz,rfl,⟨_,aR.of ao⟩,?_⟩⟩;obtain⟨cs,ecs,hcl⟩:=abo ns (some 2)<|some 14;rw[ecs];have hD6:=Y5 _ _ hD4;have hs6:=Y5 _ _ hs4;have s7:=aF (o:=.lst<|cs.map V.int) hcz;have ahu:upd H6 cz (.lst<|cs.map V.int) cz=some (.lst<|cs.map V.int):=ao;generalize upd H6 cz (.lst<|cs.map V.int)=H7 at s7 ahu ⊢;have Y6:=Y5.trans s7;have st7:Stand K C ns sc (r0::r1::rest) nms r0 r1 cs ra na p dx nn ll D sA cz 0 H7:=by
  refine⟨[(r0,0),(r1,1)],[],[],[],ok0,ac3.grow Y6,ac4.grow Y6,Y6 _ _ hs4,?_,λ_ h=>by(cases h),rfl,ahr.grow Y6,ahs.grow Y6,.inl ⟨_,ahu,λ_ z=>(by cases z),λz=>?_,λ_ e=>aR.of e⟩,aly.grow s7⟩
  .simp[FN]
  .rcases mem_cons.mp z with g|g
   .exact(aU hD6 hcz).symm g
   .rcases mem_cons.mp g with g|g
    .exact(aU hs6 hcz).symm g
    .cases g
 refine forL (xs:=cs.map V.int) (λi σ' H'=>(∃y7 y8,σ'=[some<|.ref sc,some<|.ref ra,some<|.ref na,some<|.ref p,some<|.ref D,some<|.ref sA,some<|.int T,y7,y8])/\Stand K C ns sc (r0::r1::rest) nms r0 r1 cs ra na p dx nn ll D sA cz i H')
  ⟨⟨_,_,rfl⟩,st7⟩ (λi σ' H' _ h=>h.2.cz) ?_ ?_
 .rintro i v σ' Ha hv ⟨⟨y7,y8,rfl⟩,st⟩;have aoc:i<63:=by have:=(List.getElem?_eq_some_iff.mp hv).1;rw[length_map] at this;omega
  rw[getElem?_map] at hv;obtain⟨cell,_,rfl⟩:=map_eq_some_iff.mp hv;obtain⟨nums,ls,prs,more,ok,hall,held,jf,hnd,hx,hmore,hra',abp,ahm,abq⟩:=st;obtain⟨d,ed,dok⟩:=agW (c:=cell) ok.dr hnn;have hlen:=ok.dr.len;rw[length_map] at hlen;refine lY λB1 b1=>?_;unfold eZ;show tV K RS _ [some<|.ref sc,some<|.ref ra,some<|.ref na,some<|.ref p,some<|.ref D,some<|.ref sA,some<|.int T,some<|.int cell,y8] Ha _;refine wQ (S:=[none,some (.fr,bD (r0::r1::rest)),some (.fr,bD nms),none,some (.fr,eO<|prs.map (·.2)),none,none,some (.fr,.int cell),none])
   ⟨_,_,rfl,_,_,rfl,rfl,SX hra'.sq alw,_,_,rfl,rfl,SX abp.sq alx,_,_,rfl,_,_,rfl,rfl,held.has,_,_,rfl,_,_,rfl,_,_,rfl,rfl,rfl,_,_,rfl,rfl⟩ (abn ed) λv Hb sb hv=>?_
  obtain⟨tg,rfl,htg⟩:=aa5 hv;have pC:=hall.grow sb;have Vv:=held.grow sb;obtain⟨Ko,ls2,ok2,ac5,run⟩:=step (C:=C) (H:=Hb) ok hrk hnk dok pC;refine b1 _ _<|lY λB2 b2=>?_;unfold gq iJ bV dI;refine aD (v:=.ref p) rfl<|aD (v:=.ref tg) rfl ⟨p,dx,nn,ll,tg,d,rfl,pC.ins,htg,run _ _ λHc aiu stay=>?_⟩;have Vw:Held Hc D prs:=⟨Dc pC stay Vv.top,λx hx=>Dc pC stay<|Vv.row x hx,Vv.can⟩;have Y7:=Dc pC stay<|sb _ _ jf;have htc:bB K Hc tg d.vals:=aa4 pC stay htg;have alz:=(hra'.grow sb).stay pC stay;have alA:=(abp.grow sb).stay pC stay;have alB:=(abq.grow sb).stay pC stay;have alC:=(ahm.grow sb).stay pC stay;have hsl:(seenOf nums).length<=5:=by have:=wW ok.nd ok.sub;have:=ok.dr.r5;omega
  refine b2 _ _<|lY λB3 b3=>?_;unfold gq iJ bV dI;refine aD (v:=.ref D) rfl<|aD (v:=.ref sA) rfl<|aD (v:=.ref tg) rfl ⟨D,sA,tg,prs,seenOf nums,d,rfl,Vw,Y7,hnd,htc,by omega,by omega,λnm a b w l e=>?_,λHd Vx ac6 ac7 Qc hnd2 frame hnew=>?_⟩
  .subst e;exact aa6 hrk hnk dok
  have aiv:∀b o,(∀ys,o≠ .lst ys)->Hc b=some o->b∉D::sA::prs.map (·.1):=λb o ho e z=>by
   rcases mem_cons.mp z with g|g
   .rw[g,Vw.top] at e;cases e;exact ho _ rfl
   .rcases mem_cons.mp g with g|g
    .rw[g,Y7] at e;cases e;exact ho _ rfl
    .obtain⟨x,hx,ex⟩:=mem_map.mp g;rw[<-ex,Vw.row x hx] at e;cases e;exact ho _ rfl
  have ac8:aW Hd C p dx nn ll Ko ls2:=aiu.off λb o ho e=>frame b o (aiv b o ho e) e;have out:∀x∈D::sA::Vx.map (·.1),x∈D::sA::prs.map (·.1)\/Hc x=none:=λx z=>by
   rcases mem_cons.mp z with g|g
   .exact .inl (by rw[g];exact mem_cons_self ..)
   .rcases mem_cons.mp g with g|g
    .exact .inl (by rw[g];exact mem_cons_of_mem _<|mem_cons_self ..)
    .rcases hnew x g with g|g
     .exact .inl<|mem_cons_of_mem _<|mem_cons_of_mem _ g
     .exact .inr g
  rw[<-ac5] at Qc;have okd:Ok (r0::r1::rest) nms (Vx.map (·.2)) Ko ls2:=by rw[ac7];exact ok2
  have hxd:∀r∈Vx.map (·.2),RX (wB<|i+1) r:=by rw[ac7];exact aen dok hx
  have ahx:∃m2,seenOf Ko=r0::r1::m2:=by rw[ac5,hmore];exact Y0 d r0 r1 more
  obtain⟨m2,em2⟩:=ahx;have std:Stand K C ns sc (r0::r1::rest) nms r0 r1 cs ra na p dx nn ll D sA cz (i+1) Hd:=⟨Ko,ls2,Vx,m2,okd,ac8,ac6,Qc,hnd2,hxd,em2,alz.frame frame out,alA.frame frame out,alC.frame frame out,alB.frame frame out⟩;refine b3 _ _ ?_;unfold jo Kv mU iJ bV dI jk;refine aD (v:=.ref p) rfl (aD (v:=.ref D) rfl (aD (v:=.ref sA) rfl (aD (v:=.int T) rfl (Av (i:=i+1) okd ac8 ac6 Qc hxd (by omega) em2 hrk hT0 hT1 λHe se=>?_))));show(if(!true)=true then _ else _);rw[if_neg<|by simp];exact⟨⟨_,_,rfl⟩,std.grow se⟩
 .rintro σ' Hz ⟨⟨y7,y8,rfl⟩,st⟩;subst hnm;exact u7 _ _<|h7 ra na p dx nn ll D sA cz T y7 y8 _ cs Hz (by rw[length_map];omega) st
end
end lW
namespace lW
open L2 VM
structure FH (K:Frag)(x q:Str)(st:Stmt)(f:Addr):Prop where
 ex:∃oc od kV dc pm an cd ct sl,K.lookup f=some ⟨oc,od,.func<|fnOf x q (jQ st) (dj st) (aN st) .none kV dc pm an cd ct,sl⟩/\codeIn K cd q=true/\keepIn K (.ref f)=true
abbrev GH (K:Frag)(x:Str)(st:Stmt):Prop:=∃f,nsIn K mainGlobals x=some (some<|.ref f)/\FH K x x st f
abbrev MH (K:Frag)(C:Addr)(x q:Str)(st:Stmt):Prop:=∃f,findIn K (.ref C) x=some (some<|.ref f)/\isFn K (.ref f)=true/\FH K x q st f
section
variable {P:Program}{w:World}{K:Frag}{h0:Heap}{mg:Str->Option Value}{base:Heap}{C f:Addr}{x q:Str}{st:Stmt}{ps:List Str}{sp:Sp}{lv:Nat}
theorem FH.fn (h:FH K x q st f):∃fd,bJ K x q st f fd:=let⟨_,_,_,_,_,_,_,_,_,l,c,k⟩:=h.ex;⟨_,Wn l c k⟩
theorem GH.cal (h:GH K x st)(X:K.In h0)(G:h0.Ns mainGlobals mg)(o:∀{f fd},bJ K x x st f fd->aX P w K mg base bO lv f fd ps sp)
  (hb:∀(kV doc pm:Value) (an:Option Addr) (cdv ct:Value) (us:List Value),us.length=ps.length->bindArgs (fnOf x x (jQ st) (dj st) (aN st) .none kV doc pm an cdv ct) ⟨us,[]⟩=pure (ps.zip us):=by
   intro _ _ _ _ _ _ us hl;first|(obtain⟨_,rfl⟩:=len1 hl;exact rfl)|(obtain⟨_,_,rfl⟩:=len2 hl;exact rfl)|(obtain⟨_,_,_,rfl⟩:=aad hl;exact rfl)|(obtain⟨_,_,_,_,rfl⟩:=aae hl;exact rfl)|(obtain⟨_,_,_,_,_,rfl⟩:=aaf hl;exact rfl)|(obtain⟨_,_,_,_,_,_,rfl⟩:=afZ hl;exact rfl)):cZ P w K mg base lv x ps sp:=
 let⟨_,a,b⟩:=h;let⟨fd,F⟩:=b.fn;⟨_,fd,o F,mg_of X G a,F.kp,F.binds hb⟩
theorem MH.ms (h:MH K C x q st)(o:∀{f fd},bJ K x q st f fd->aX P w K mg base bO lv f fd ps sp)
  (hb:∀(kV doc pm:Value) (an:Option Addr) (cdv ct:Value) (us:List Value),us.length=ps.length->bindArgs (fnOf x q (jQ st) (dj st) (aN st) .none kV doc pm an cdv ct) ⟨us,[]⟩=pure (ps.zip us):=by
   intro _ _ _ _ _ _ us hl;first|(obtain⟨_,rfl⟩:=len1 hl;exact rfl)|(obtain⟨_,_,rfl⟩:=len2 hl;exact rfl)|(obtain⟨_,_,_,rfl⟩:=aad hl;exact rfl)|(obtain⟨_,_,_,_,rfl⟩:=aae hl;exact rfl)|(obtain⟨_,_,_,_,_,rfl⟩:=aaf hl;exact rfl)|(obtain⟨_,_,_,_,_,_,rfl⟩:=afZ hl;exact rfl)):Ms P w K mg base C lv x ps sp:=
 let⟨_,a,n,b⟩:=h;let⟨fd,F⟩:=b.fn;⟨_,fd,o F,⟨a,n,F.kp⟩,F.binds hb⟩
theorem GH.mk' {oc:Value}{od an:Option Addr}{sl:Array (Option Value)}{kV dc pm cd ct:Value}(a:nsIn K mainGlobals x=some (some<|.ref f))(l:K.lookup f=some ⟨oc,od,.func<|fnOf x x (jQ st) (dj st) (aN st) .none kV dc pm an cd ct,sl⟩)(c:codeIn K cd x=true)(k:keepIn K (.ref f)=true):GH K x st:=⟨f,a,oc,od,kV,dc,pm,an,cd,ct,sl,l,c,k⟩
theorem MH.mk' {oc:Value}{od an:Option Addr}{sl:Array (Option Value)}{kV dc pm cd ct:Value}(a:findIn K (.ref C) x=some (some<|.ref f))(l:K.lookup f=some ⟨oc,od,.func<|fnOf x q (jQ st) (dj st) (aN st) .none kV dc pm an cd ct,sl⟩)(c:codeIn K cd q=true)(k:keepIn K (.ref f)=true)(n:isFn K (.ref f)=true):MH K C x q st:=⟨f,a,n,oc,od,kV,dc,pm,an,cd,ct,sl,l,c,k⟩
theorem ac9 {α:Type}{p:α->Prop}{a:α}(h:p a):∃x,p x:=⟨a,h⟩
end
theorem all_mk {l:PySem.W.OpenLaw}{w:World}{K:Frag}{h:Heap}{mg:Str->Option Value}{fa:Addr}(X:K.In h)(G:h.Ns mainGlobals mg)(hfa:mg "law"=some (.ref fa))
  (h0:GH K "left_behind" (top 11))
  (h1:GH K "is_nearer" (top 15))
  (h2:GH K "reach" (top 14))
  (h3:GH K "push" (top 17))
  (h4:GH K "way_to" (top 16))
  (h5:GH K "push_all" (top 13))
  (h6:GH K "moves_of" (top 12))
  (h7:GH K "best_flow" (top 10))
  (h8:GH K "length_of" (top 19))
  (h9:GH K "passage_on" (top 22))
  (h10:GH K "walk_along" (top 21))
  (h11:GH K "walks_of" (top 20))
  (h12:GH K "moments_of" (top 25))
  (h13:GH K "out_within" (top 24))
  (h14:GH K "look_at_name" (top 33))
  (h15:GH K "_law_cell_at" (top 35))
  (h16:GH K "_law_mixed" (top 36))
  (h17:GH K "_law_whole" (top 37))
  (h18:GH K "_law_words" (top 38))
  (h19:GH K "_law_length" (top 39))
  (h20:GH K "_law_width" (top 40))
  (h21:GH K "_law_fresh" (top 41))
  (h22:GH K "_law_deed" (top 42))
  (h23:GH K "_law_sets" (top 45))
  (h24:GH K "_law_turns" (top 46))
  (h25:GH K "_law_way" (top 47))
  (h26:GH K "_law_moments" (top 49))
  (h27:GH K "_law_do" (top 43))
  (h28:GH K "_law_noted" (top 44))
  (h29:GH K "_law_bound" (top 48))
  (h30:GH K "_law_walks" (top 50))
  (h31:GH K "_law_out" (top 51))
  (h32:GH K "law" (top 52))
  (hC:∃C,nsIn K mainGlobals "NamedHall"=some (some<|.ref C)/\plainGet K C Str.empty=true/\hasDictIn K C=true/\plainOver K C=true/\findIn K (.ref C) "__setattr__"=some (some<|.builtin "object.__setattr__")/\findIn K (.ref C) "numbers"=some none/\findIn K (.ref C) "laid"=some none/\makesIn K C=true/\keepIn K (.ref C)=true/\MH K C "__init__" "NamedHall.__init__" (dH 0)/\MH K C "lay" "NamedHall.lay" (dH 1)/\MH K C "shut" "NamedHall.shut" (dH 2)/\MH K C "widen" "NamedHall.widen" (dH 3)/\MH K C "narrow" "NamedHall.narrow" (dH 4)/\MH K C "look_for" "NamedHall.look_for" (dH 5)/\MH K C "change_width" "NamedHall.change_width" (dH 6)/\MH K C "rooms" "NamedHall.rooms" (dH 7)/\MH K C "passages" "NamedHall.passages" (dH 8)/\MH K C "out" "NamedHall.out" (dH 9)/\MH K C "out_by" "NamedHall.out_by" (dH 12)/\MH K C "names_on" "NamedHall.names_on" (dH 13)/\MH K C "by_room" "NamedHall.by_room" (dH 14))
  (oY:∃t,nsIn K mainGlobals "LONGEST_NAME"=some (some<|.int 12 t))
  (oE:∃t,nsIn K mainGlobals "MOST_PASSAGES"=some (some<|.int 60 t))
  (su:∃t,nsIn K mainGlobals "MOST_ROOMS"=some (some<|.int 40 t))
  (Aw:∃t,nsIn K mainGlobals "START"=some (some<|.int 0 t))
  (FZ:∃t,nsIn K mainGlobals "GOAL"=some (some<|.int 1 t))
  (z:nsIn K mainGlobals "len"=some none/\nsIn K mainGlobals "list"=some none/\nsIn K mainGlobals "range"=some none/\nsIn K mainGlobals "enumerate"=some none/\nsIn K mainGlobals "zip"=some none/\nsIn K mainGlobals "abs"=some none/\nsIn K mainGlobals "sum"=some none/\nsIn K mainGlobals "min"=some none/\nsIn K mainGlobals "max"=some none/\nsIn K mainGlobals "int"=some none/\nsIn K mainGlobals "bool"=some none/\nsIn K mainGlobals "tuple"=some none/\nsIn K mainGlobals "str"=some none/\nsIn K mainGlobals "sorted"=some none/\nsIn K mainGlobals "set"=some none/\nsIn K mainGlobals "isinstance"=some none/\nsIn K mainGlobals "all"=some none):
  ∃fd:FuncData,(∀(s:Shared) (v:Value),BindsTo s fd ⟨[v],[]⟩ [("_law_script",v)])/\∀base:Heap,K.In base->base.Ns mainGlobals mg->aX l.prog w K mg base bO 9 fa fd ["_law_script"] (Uh K):=by
 obtain⟨fl,al,oc,od,kV,dc,pm,an,cd,ct,sl,ll,lc,lk⟩:=h32;have e:=hfa.symm.trans<|mg_of X G al;cases e;obtain⟨_,oY⟩:=oY;obtain⟨_,oE⟩:=oE;obtain⟨_,su⟩:=su;obtain⟨_,Aw⟩:=Aw;obtain⟨_,FZ⟩:=FZ;have Z:=λ{x} (e:nsIn K mainGlobals x=some none)=>PySem.W.mg_none_of X G e;obtain⟨z0,z1,z2,z3,z4,z5,z6,z7,z8,z9,z10,z11,z12,z13,z14,z15,z16⟩:=z;have B:Bl mg:=⟨Z z0,Z z1,Z z2,Z z3,Z z4,Z z5,Z z6,Z z7,Z z8,Z z9,Z z10,Z z11,Z z12,Z z13,Z z14,Z z15⟩;obtain⟨C,aC,pg,hd,po,sa,no1,no2,mk,kC,h33,h34,h35,h36,h37,h38,h39,h40,h41,h42,h43,h44,h45⟩:=hC;have cl:Cl K C:=⟨⟨pg,hd,po,sa⟩,no1,no2⟩;refine⟨fnOf "law" "law" (jQ<|top 52) (dj<|top 52) (aN<|top 52) .none kV dc pm an cd ct,λs v=>.of_eq rfl,λbase _ _=>?_⟩;have W:=λ{x v} (e:nsIn K mainGlobals x=some (some v))=>mg_of X G e;have n6:=h0.cal (P:=l.prog) (w:=w) (base:=base) X G λF=>GK F B<|dW K;have Fg:=h1.cal (P:=l.prog) (w:=w) (base:=base) X G λF=>OD F B<|dW K;have Fj:=h2.cal (P:=l.prog) (w:=w) (base:=base) X G λF=>aaK F B (dW K) Fg;have acL:=h3.cal (P:=l.prog) (w:=w) (base:=base) X G λF=>ad1 F B<|dW K;have R0:=h4.cal (P:=l.prog) (w:=w) (base:=base) X G λF=>Yl F B<|dW K;have Jo:=h5.cal (P:=l.prog) (w:=w) (base:=base) X G λF=>Qn F B (dW K) Fj acL R0;have tE:=h6.cal (P:=l.prog) (w:=w) (base:=base) X G λF=>Qo F B<|dW K;have Fp:=h7.cal (P:=l.prog) (w:=w) (base:=base) X G λF=>OJ F B (dW K) n6 Jo tE;have Fq:=h8.cal (P:=l.prog) (w:=w) (base:=base) X G λF=>O1 F B<|dW K;have Bv:=h9.cal (P:=l.prog) (w:=w) (base:=base) X G λF=>JF F B<|dW K;have Bw:=h10.cal (P:=l.prog) (w:=w) (base:=base) X G λF=>JG F B (dW K) Bv;have Jp:=h11.cal (P:=l.prog) (w:=w) (base:=base) X G λF=>Qp F B (dW K) Bw;have Bx:=h12.cal (P:=l.prog) (w:=w) (base:=base) X G λF=>JH F B (dW K) n6 Fj tE;have ud:=h13.cal (P:=l.prog) (w:=w) (base:=base) X G λF=>JK F B (dW K) Fp Jp Bx Fq;have xQ:=h14.cal (P:=l.prog) (w:=w) (base:=base) X G λF=>Fv F B (dW K) (Z z16)<|W oY;have jP:=h15.cal (P:=l.prog) (w:=w) (base:=base) X G λF=>Fx F B<|dW K;have cY:=h16.cal (P:=l.prog) (w:=w) (base:=base) X G λF=>JL F B<|dW K;have iu:=h17.cal (P:=l.prog) (w:=w) (base:=base) X G λF=>JM F B<|dW K;have BR:=h18.cal (P:=l.prog) (w:=w) (base:=base) X G λF=>JN F B (dW K) cY;have zG:=h19.cal (P:=l.prog) (w:=w) (base:=base) X G λF=>GQ F B (dW K) cY;have BK:=h20.cal (P:=l.prog) (w:=w) (base:=base) X G λF=>JQ F B (dW K) cY;have BL:=h21.cal (P:=l.prog) (w:=w) (base:=base) X G λF=>JR F B<|dW K;have w6:=h22.cal (P:=l.prog) (w:=w) (base:=base) X G λF=>O2 F B (dW K) cY BK BL zG;have w5:=h23.cal (P:=l.prog) (w:=w) (base:=base) X G λF=>O4 F B (dW K) BR jP cY;have pB:=h24.cal (P:=l.prog) (w:=w) (base:=base) X G λF=>JT F B (dW K) cY;have zT:=h25.cal (P:=l.prog) (w:=w) (base:=base) X G λF=>Qq F B<|dW K;have qt:=h26.cal (P:=l.prog) (w:=w) (base:=base) X G λF=>Fz F B (dW K) iu;obtain⟨_,_,O5,m5,b5⟩:=(h38.ms (P:=l.prog) (w:=w) (mg:=mg) (base:=base) λF=>adZ F cl).ex;obtain⟨_,_,O6,m6,b6⟩:=(h39.ms (P:=l.prog) (w:=w) (mg:=mg) (base:=base) λF=>agw F cl).ex;have aiw:=h35.ms (P:=l.prog) (w:=w) (mg:=mg) (base:=base) λF=>ad0 F cl O5 m5 b5;have ahy:=h36.ms (P:=l.prog) (w:=w) (mg:=mg) (base:=base) λF=>aaJ F cl O5 m5 b5 O6 m6 b6;have aep:=h37.ms (P:=l.prog) (w:=w) (mg:=mg) (base:=base) λF=>Yn F cl O5 m5 b5 O6 m6 b6;have alD:=h34.ms (P:=l.prog) (w:=w) (mg:=mg) (base:=base) λF=>agE F B cl xQ (W oE)<|W su;obtain⟨_,_,O7,m7,b7⟩:=(h40.ms (P:=l.prog) (w:=w) (mg:=mg) (base:=base) λF=>aaL F B cl).ex;have aix:=h41.ms (P:=l.prog) (w:=w) (mg:=mg) (base:=base) λF=>ad2 F cl O7 m7 b7;have ahz:=h43.ms (P:=l.prog) (w:=w) (mg:=mg) (base:=base) λF=>aa7 F B cl ud (W Aw)<|W FZ;have ahA:=h44.ms (P:=l.prog) (w:=w) (mg:=mg) (base:=base) λF=>aa9 F B (dW K) cl;have aer:=h45.ms (P:=l.prog) (w:=w) (mg:=mg) (base:=base) λF=>YC F B cl O7 m7 b7;have alE:=h42.ms (P:=l.prog) (w:=w) (mg:=mg) (base:=base) λF=>agX F B cl ahz ahA aer;obtain⟨_,_,Oi,mi,bi⟩:=(h33.ms (P:=l.prog) (w:=w) (mg:=mg) (base:=base) λF=>ad3 F cl xQ (W Aw)<|W FZ).ex;have Dm:=h27.cal (P:=l.prog) (w:=w) (base:=base) X G λF=>aii F cl alD aiw ahy aep;have uh:=h28.cal (P:=l.prog) (w:=w) (base:=base) X G λF=>aaQ F B;have ug:=h29.cal (P:=l.prog) (w:=w) (base:=base) X G λF=>abf F B;have uf:=h30.cal (P:=l.prog) (w:=w) (base:=base) X G λF=>abj F B (dW K) iu zT;have m9:=h31.cal (P:=l.prog) (w:=w) (base:=base) X G λF=>aek F B (dW K) cl alE iu qt uf ug;exact ahl (Wn (st:=top 52) ll lc lk) B (dW K) cl ⟨mk,mi.at_,mi.fn,kC⟩ Oi bi (W aC) aix w5 pB jP w6 Dm uh m9
end lW
open PySem.W PyProof.Rows
namespace PySem.W.Fast
def tw5149904259375405592:=0
def tw11177100140614316995:=0
def tw6639850326583652909:=0
def tw9791636270224015886:=0
def tw11791891416544331582:=0
def tw16799048662242783879:=0
def tw1292073551454257138:=0
def tw1026746169394713513:=0
def tw15613876461213228369:=0
def tw15421123765774148965:=0
def tw8889486844278765519:=0
def tw3623230332742074787:=0
def tw7046344838989301368:=0
def tw9480141311722170469:=0
def tw18295152464458337602:=0
def tw17863359978622096352:=0
def tw1204604792798425621:=0
def tw1879479664555950640:=0
def tw6350835715107531749:=0
def tw7502076458477777063:=0
def tw2362828749255841435:=0
def tw3388216399111561614:=0
def tw11324481345950844026:=0
def tw461553976920816986:=0
def tw5524805064563801079:=0
def tw16519552675149760498:=0
def tw17963716783995209341:=0
def tw2645939803801327543:=0
def tw7360093945101805685:=0
def tw11009658197889762660:=0
def tw8703493967964657660:=0
def tw15375306206724560448:=0
def tw749522994768079026:=0
def tw2071993309913608029:=0
def tw14956245377480628619:=0
def tw12196722663078573979:=0
def tw17792322268742505417:=0
def tw4827794532322817257:=0
def tw8228471439296457105:=0
def tw12288186662719416267:=0
def tw16651550413181568413:=0
def tw11812955870004131155:=0
def tw18183022530067136645:=0
def tw16083396139302363393:=0
def tw8762223807539917852:=0
def tw6565996581508173572:=0
def tw3290236500636401703:=0
def tw2416655715630565624:=0
def tw7684039251642695688:=0
def tw11934543268244594154:=0
def tw16088468967073994655:=0
def tw9998686199435230313:=0
def tw4937625296324105225:=0
def tw8300055864422629936:=0
def tw18088946341650605963:=0
def tw12763058162626113803:=0
def tw5530948262776113064:=0
def tw9755068227975628426:=0
def tw1143518632193491658:=0
def tw20287258768920329:=0
def tw10410957816918555302:=0
def tw3168664148746311197:=0
def tw1082324379880176097:=0
def tw12584062679697621180:=0
def tw6226504729462604642:=0
def tw17069755421766112609:=0
def tw16475700204887429583:=0
def tw11332738283904531259:=0
def tw3520250807921647238:=0
def tw2472868515569882142:=0
def tw15676293380535081542:=0
def tw13954131522096380042:=0
def tw11829501252763595464:=0
def tw1901061691467118364:=0
def tw8675005740918649692:=0
def tw4211327443632349250:=0
def tw11629900666039152724:=0
def tw3463248508859488758:=0
def tw12762570242017072067:=0
def tw11839109285789312502:=0
def tw3014962992274404182:=0
def tw7180792896229885998:=0
def tw1209376215118066306:=0
def tw555061722612517334:=0
def tw9431043264525936758:=0
def tw11390480607829952814:=0
def tw12989253721176982556:=0
def tw7767339268941241699:=0
def tw3096289528498352587:=0
def tw13311559776257517457:=0
def tw18136838124689017326:=0
def tw4072410214247687230:=0
def tw13493758712756339994:=0
def tw14726767803386149023:=0
def tw25848735396619646:=0
def tw15472980158035973938:=0
def tw4988366182839462036:=0
def tw17469736580389339866:=0
def tw16186773818196421114:=0
def tw9074248035991552943:=0
def tw86572559250345192:=0
def tw11955869496371484751:=0
def tw13093843427217425214:=0
def tw8623560950812771953:=0
def tw13232510412615305563:=0
def tw10564421134177512340:=0
def tw9057906066555897118:=0
def tw1820714954416468492:=0
def tw14937977745875000988:=0
def tw3538961912782573348:=0
def tw17125526024523358073:=0
def tw16195960348965451464:=0
def tw4637930976465092614:=0
def tw9051786446511496854:=0
def tw9567166018391356745:=0
def tw18050042890383368744:=0
def tw18419011521322495263:=0
def tw9817190633428917792:=0
def tw13571346457988967183:=0
def tw2652863274636135904:=0
def tw6144777524414757688:=0
def tw5143792189192491000:=0
def tw7155407685002016949:=0
def tw14424991582803324279:=0
def tw4491422906981856319:=0
def tw12708444870288888533:=0
def tw11446949540100382765:=0
def tw6961438659458829147:=0
def tw15265027677832804135:=0
def tw6341515976865878584:=0
def tw2830916356402716434:=0
def tw4023186730367907525:=0
def tw3503021755122499837:=0
def tw10654558389476217320:=0
def tw15551817775122050641:=0
def tw2205191642046644815:=0
def tw15514270399717762761:=0
def tw14892439113116276814:=0
def tw10055024197849326524:=0
def tw15473343301601539808:=0
def tw6842461262649873440:=0
def tw4540747789480259377:=0
def tw1908977817935650458:=0
def tw11868593723759448110:=0
def tw12416435472772359480:=0
def tw298517204089237382:=0
def tw8042979542355456099:=0
def tw1413881879311366295:=0
def tw3027887621721481684:=0
def tw11463374899702579598:=0
def tw5896888833180574602:=0
def tw4803986327480197964:=0
def tw10748954921083069684:=0
def tw14245038246870702563:=0
def tw14399040152471062096:=0
def tw1551328221827848017:=0
def tw4651679624817086572:=0
def tw13117315976465456533:=0
def tw9519089284403421089:=0
def tw11143705070436302629:=0
def tw1234523257535990490:=0
def tw14731834694343851854:=0
def tw11071039712879623255:=0
def tw4816991892270029450:=0
def tw5078088147592933473:=0
def tw18151872582490866494:=0
def tw1723825088709291763:=0
def tw11857779942879962750:=0
def tw14349291378093048303:=0
def tw10604945447506886878:=0
def tw1206620600926804378:=0
def tw6085585820586307638:=0
def tw4048132615428281456:=0
def tw5067242660887063959:=0
def tw11553212053231056767:=0
def tw2481585222605369894:=0
def tw15599143839175292307:=0
def tw14979509460424557189:=0
def tw14595232252539991164:=0
def tw18141169433422663033:=0
def tw8729784913801502295:=0
def tw4220303393356682932:=0
end PySem.W.Fast
set_option maxRecDepth 100000 in
set_option maxHeartbeats 0 in
theorem PySem.Challenge.cw_leavehall_k63_whole_out_by_names_holds : PySem.Challenge.rw_leavehall_k63_whole_out_by_names.Holds := by
 w_on;o_law;k_head;(case hw=>w_witness2)
 k_fill
 refine VM.walk (l:=PySem.Challenge.rw_leavehall_k63_whole_out_by_names) (k:=9) (x:="_law_script") rfl rfl ⟨rfl,by decide,by decide⟩ (λw h Y=>PySem.W.kIn_of Y) ?F;case F=>intro w mg fa h KX G hmg;refine' lW.all_mk KX G hmg ?_ ?_ ?_ ?_ ?_ ?_ ?_ ?_ ?_ ?_ ?_ ?_ ?_ ?_ ?_ ?_ ?_ ?_ ?_ ?_ ?_ ?_ ?_ ?_ ?_ ?_ ?_ ?_ ?_ ?_ ?_ ?_ ?_ ?_ ?_ ?_ ?_ ?_ ?_ ?_;all_goals first|k_is|(refine' lW.ac9 ⟨?_,?_,?_,?_,?_,?_,?_,?_,?_,?_,?_,?_,?_,?_,?_,?_,?_,?_,?_,?_,?_,?_⟩<;>first|k_is|(refine' lW.MH.mk' ?a ?l ?c ?k ?n;(case a=>k_is);(case l=>k_is);(case c=>k_is);(case k=>k_is);(case n=>k_is))|skip)|(refine⟨?_,?_,?_,?_,?_,?_,?_,?_,?_,?_,?_,?_,?_,?_,?_,?_,?_⟩<;>k_is)|(refine' lW.GH.mk' ?a ?l ?c ?k;(case a=>k_is);(case l=>k_is);(case c=>k_is);(case k=>k_is))|(refine' lW.ac9 ?a;(case a=>k_is))
