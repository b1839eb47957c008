import PyProof.Rows.All
import Wide.All
import OpenK.AllK
import Wide.FinOn
import Lean
import PyProof.EqAt
import PyProof.EqKinds
import PyProof.TupleCall
import PySem.Challenge.RW_leavehall_k43_most_at_once
set_option Elab.async false
set_option linter.all false
set_option maxRecDepth 100000
namespace L2
open PySem PySem.Spec PyProof.Rows
noncomputable abbrev Key:=Sum Int Str
noncomputable def keyIs : Key→Value→Bool
 | .inl k,v=>Value.isInt k v
 | .inr x,v=>Value.isStrOf x v
noncomputable def keyH (w : World) : Key→Int
 | .inl k=>hashInt k
 | .inr x=>hashStr w x
theorem keyIs_shape : ∀ {k : Key} {v : Value},keyIs k v = true→(∃ i t,k = Sum.inl i∧v = Value.int i t)∨(∃ x t,k = Sum.inr x∧v = Value.str x t)
 | .inl i,v,h=>by
  obtain ⟨t,e⟩:=Value.isInt_shape (k:=i) (v:=v) h
  exact .inl ⟨i,t,rfl,e⟩
 | .inr x,v,h=>by
  obtain ⟨t,e⟩:=Value.isStrOf_shape (x:=x) (v:=v) h
  exact .inr ⟨x,t,rfl,e⟩
theorem key_ll (a b : Int) : decide ((Sum.inl a : Key) = Sum.inl b) = (a == b):=by
 by_cases e : a = b
 ·subst e; simp
 ·have h : ¬ (Sum.inl a : Key) = Sum.inl b:=fun q=>e (Sum.inl.inj q)
  rw [decide_eq_false h]
  exact (beq_eq_false_iff_ne.mpr e).symm
theorem key_rr (a b : Str) : decide ((Sum.inr a : Key) = Sum.inr b) = decide (a = b):=by
 by_cases e : a = b
 ·subst e; simp
 ·have h : ¬ (Sum.inr a : Key) = Sum.inr b:=fun q=>e (Sum.inr.inj q)
  rw [decide_eq_false h,decide_eq_false e]
theorem key_lr (a : Int) (b : Str) : decide ((Sum.inl a : Key) = Sum.inr b) = false:=decide_eq_false (fun q=>nomatch q)
theorem key_rl (a : Str) (b : Int) : decide ((Sum.inr a : Key) = Sum.inl b) = false:=decide_eq_false (fun q=>nomatch q)
noncomputable def mixKind (prog : Program) (w : World) : PySem.KeyKind prog w Key where
 is:=keyIs
 hash:=keyH w
 inj:=fun v a b ha hb=>by
  rcases keyIs_shape ha with ⟨i,t,rfl,rfl⟩ | ⟨x,t,rfl,rfl⟩
  ·rcases keyIs_shape hb with ⟨j,u,rfl,e⟩ | ⟨y,u,rfl,e⟩
   ·injection e with e1 _; rw [e1]
   ·exact nomatch e
  ·rcases keyIs_shape hb with ⟨j,u,rfl,e⟩ | ⟨y,u,rfl,e⟩
   ·exact nomatch e
   ·injection e with e1 _; rw [e1]
 byValue:=fun k v h=>by
  rcases keyIs_shape h with ⟨i,t,rfl,rfl⟩ | ⟨x,t,rfl,rfl⟩ <;> rfl
 pyHash:=fun hv h=>by
  rcases keyIs_shape hv with ⟨i,t,rfl,rfl⟩ | ⟨x,t,rfl,rfl⟩
  ·exact wpAny_pyHash_int h
  ·exact wpAny_pyHash_str h
 eqBool:=fun hu hv h=>by
  rcases keyIs_shape hu with ⟨i,t,rfl,rfl⟩ | ⟨x,t,rfl,rfl⟩
  ·rcases keyIs_shape hv with ⟨j,u,rfl,rfl⟩ | ⟨y,u,rfl,rfl⟩
   ·rw [key_ll] at h; exact wpAny_eqBool_int h
   ·rw [key_lr] at h; exact SeqAt.EqAt.int_str i t y u _ _ _ _ h
  ·rcases keyIs_shape hv with ⟨j,u,rfl,rfl⟩ | ⟨y,u,rfl,rfl⟩
   ·rw [key_rl] at h; exact SeqAt.EqAt.str_int x t j u _ _ _ _ h
   ·rw [key_rr] at h; exact wpAny_eqBool_str h
 «strs»:=fun k x t v h=>by
  rcases keyIs_shape h with ⟨i,u,rfl,e⟩ | ⟨y,u,rfl,e⟩
  ·exact nomatch e
  ·injection e with e1 _
   subst e1
   cases v <;> rfl
end L2
namespace L2
open PySem PySem.Spec PyProof.Rows
inductive V where
 | non | bl (b : Bool) | int (i : Int) | str (x : Str) | byt (b : Array UInt8) | flt (b : UInt64) | ref (a : Addr) | ty (n : String)
 deriving DecidableEq
noncomputable def RelV : V→Value→Prop
 | .non,u=>u = Value.none
 | .bl b,u=>u = Value.bool b
 | .int i,u=>∃ t,u = Value.int i t
 | .str x,u=>∃ t,u = Value.str x t
 | .byt b,u=>∃ t,u = Value.bytes b t
 | .flt b,u=>∃ t,u = Value.float b t
 | .ref a,u=>u = Value.ref a
 | .ty n,u=>u = Value.type n
noncomputable abbrev Vals : List V→List Value→Prop:=Paired RelV
theorem Vals.length {xs : List V} {us : List Value} (r : Vals xs us) : xs.length = us.length:=Paired.length r
theorem Vals.get : ∀ {xs : List V} {us : List Value} {i : Nat} {x : V},Vals xs us→xs[i]? = some x→∃ u,us[i]? = some u∧RelV x u
 | _,_,_,_,.nil,e=>by simp at e
 | _,_,0,_,.cons r _,e=>by simp at e; subst e; exact ⟨_,rfl,r⟩
 | _,_,i + 1,x,.cons _ t,e=>by
  obtain ⟨u,h1,h2⟩:=Vals.get (i:=i) (x:=x) t (by simpa using e)
  exact ⟨u,by simpa using h1,h2⟩
theorem Vals.set {x : V} {u : Value} (r : RelV x u) : ∀ {xs : List V} {us : List Value} (i : Nat),Vals xs us→Vals (xs.set i x) (us.set i u)
 | _,_,_,.nil=>.nil
 | _,_,0,.cons _ t=>.cons r t
 | _,_,i + 1,.cons q t=>.cons q (Vals.set r i t)
theorem Vals.append : ∀ {xs ys : List V} {us ws : List Value},Vals xs us→Vals ys ws→Vals (xs ++ ys) (us ++ ws)
 | _,_,_,_,.nil,s=>s
 | _,_,_,_,.cons r t,s=>.cons r (Vals.append t s)
theorem Vals.take : ∀ {xs : List V} {us : List Value} (n : Nat),Vals xs us→Vals (xs.take n) (us.take n)
 | _,_,0,_=>.nil
 | _,_,_ + 1,.nil=>.nil
 | _,_,n + 1,.cons r t=>.cons r (Vals.take n t)
theorem Vals.drop : ∀ {xs : List V} {us : List Value} (n : Nat),Vals xs us→Vals (xs.drop n) (us.drop n)
 | _,_,0,r=>r
 | _,_,_ + 1,.nil=>.nil
 | _,_,n + 1,.cons _ t=>Vals.drop n t
noncomputable def RelO : Option V→Option Value→Prop
 | some v,some u=>RelV v u
 | none,none=>True
 | _,_=>False
noncomputable def KV {κ : Type} : List (κ × V)→List (κ × Value)→Prop:=Paired fun (p : κ × V) (q : κ × Value)=>p.1 = q.1∧RelV p.2 q.2
noncomputable def kV : Key→V
 | .inl i=>.int i
 | .inr x=>.str x
inductive HO where
 | lst (xs : List V)
 | tup (xs : List V)
 | dK (kvs : List (Key × V)) | dT (kvs : List (List Key × V))
 | set (S : Int→Bool) (n : Nat)
 | ins (C dx : Addr) (fs : List (Str × V))
 | own (x : Addr)
 | xd (fs : List (Str × V))
 | met (f x : Addr)
 | rng (lo hi : Int)
 | frz (o : Obj) (u : HO)
 | tbl (ps : Array Value)
 | ext (φ : Heap→Prop)
noncomputable abbrev Hp:=Addr→Option HO
noncomputable def upd (H : Hp) (a : Addr) (o : HO) : Hp:=fun b=>if b = a then some o else H b
theorem upd_same {H : Hp} {a : Addr} {o : HO} : upd H a o a = some o:=by unfold upd; rw [if_pos rfl]
theorem upd_ne {H : Hp} {a b : Addr} {o : HO} (h : b ≠ a) : upd H a o b = H b:=by unfold upd; rw [if_neg h]
theorem ne_of_none {H : Hp} {a b : Addr} {o : HO} (h : H a = some o) (h' : H b = none) : a ≠ b:=by
 intro e; subst e; rw [h] at h'; cases h'
section
variable (P : Program) (w : World)
noncomputable def ObjOk (H : Hp) (h : Heap) (a : Addr) : HO→Prop
 | .lst xs=>xs.length≤sizeLine∧∃ (its : List Value) (n : Nat),Vals xs its∧h.get? a = some { cls:=.type "list",data:=.seq its.toArray n }
 | .tup xs=>xs.length≤sizeLine∧∃ its : List Value,Vals xs its∧IsTup h a its.toArray
 | .dK kvs=>kvs.length≤sizeLine∧(a == sysModules) = false∧∃ vs,KV kvs vs∧h.DictOf (mixKind P w) a vs
 | .dT kvs=>kvs.length≤sizeLine∧(a == sysModules) = false∧∃ xs : List (List Key × Addr × Value),
   Paired (fun (p : List Key × V) (q : List Key × Addr × Value)=>p.1 = q.1∧H q.2.1 = some (.tup (p.1.map kV))∧RelV p.2 q.2.2) kvs xs ∧
   ∃ o es ep,h.get? a = some o∧o.ExactDict∧o.data = .dict es ep∧es.toList = xs.map (entryOfKey (tupleKind (mixKind P w)))∧(xs.map (·.1)).Nodup
 | .set S n=>h.SetOf (intKind P w) a S n
 | .ins C dx fs=>H dx = some (.own a)∧fs.length≤1000∧dx ≠ a∧h.get? a = some (PySem.W.instObj C dx) ∧
   ∃ mA,h.Ns1 dx mA∧(∀ f,RelO (fs.lookup f) (mA f))∧PySem.Within mA (fs.map (·.1))
 | .own _=>∃ o,h.get? a = some o
 | .xd fs=>∃ mA,h.Ns1 a mA∧∀ f,RelO (fs.lookup f) (mA f)
 | .rng lo hi=>∃ t u v,h.get? a = some { cls:=.type "range",data:=.fields #[.int lo t,.int hi u,.int 1 v] }
 | .frz o u=>h.get? a = some o∧ObjOk H h a u
 | .tbl ps=>h.get? a = some { cls:=.none,data:=.fields ps }
 | .met f x=>h.get? a = some (PySem.W.methodObj (.ref f) (.ref x))
 | .ext φ=>φ h∧(∃ o,h.get? a = some o)∧∀ h1 h2 : Heap,φ h1→(∀ o,h1.get? a = some o→h2.get? a = some o)→φ h2
noncomputable def HOk (H : Hp) (h : Heap) : Prop:=∀ a o,H a = some o→ObjOk P w H h a o
end
section
variable {P : Program} {w : World} {H H' : Hp} {h h' : Heap} {a : Addr} {o : HO}
theorem ObjOk.lt (x : ObjOk P w H h a o) : a < h.objs.size:=by
 cases o with
 | lst xs=>obtain ⟨_,_,_,_,e⟩:=x; exact Heap.lt_size e
 | tup xs=>obtain ⟨_,_,_,p⟩:=x; exact p.lt
 | dK kvs=>obtain ⟨_,_,_,_,o,_,_,e,_⟩:=x; exact Heap.lt_size e
 | dT kvs=>obtain ⟨_,_,_,_,o,_,_,e,_⟩:=x; exact Heap.lt_size e
 | set S n=>obtain ⟨o,_,_,_,e,_⟩:=x; exact Heap.lt_size e
 | ins C dx fs=>obtain ⟨_,_,_,e,_⟩:=x; exact Heap.lt_size e
 | own y=>obtain ⟨_,e⟩:=x; exact Heap.lt_size e
 | xd fs=>obtain ⟨_,⟨_,_,_,e,_⟩,_⟩:=x; exact Heap.lt_size e
 | rng lo hi=>obtain ⟨_,_,_,e⟩:=x; exact Heap.lt_size e
 | frz ob u=>obtain ⟨e,_⟩:=x; exact Heap.lt_size e
 | tbl ps=>exact Heap.lt_size (show h.get? a = some _ from x)
 | met f y=>exact Heap.lt_size (show h.get? a = some _ from x)
 | ext φ=>obtain ⟨_,⟨_,e⟩,_⟩:=x; exact Heap.lt_size e
theorem Paired.mapP {α β : Type} {F G : α→β→Prop} : ∀ {l₁ : List α} {l₂ : List β},Paired F l₁ l₂→(∀ a b,F a b→G a b)→Paired G l₁ l₂
 | _,_,.nil,_=>.nil
 | _,_,.cons r t,f=>.cons (f _ _ r) (Paired.mapP t f)
theorem ObjOk.stay (x : ObjOk P w H h a o) (k : ∀ b u,(b = a∨H b = some (.own a))→h.get? b = some u→h'.get? b = some u)
  (ho : ∀ b,H b = some (.own a)→H' b = some (.own a)) (ht : ∀ b xs,H b = some (.tup xs)→H' b = some (.tup xs)) : ObjOk P w H' h' a o:=by
 induction o with
 | lst xs=>obtain ⟨z,its,n,r,e⟩:=x; exact ⟨z,its,n,r,k _ _ (.inl rfl) e⟩
 | tup xs=>obtain ⟨z,its,r,ob,e,c⟩:=x; exact ⟨z,its,r,ob,k _ _ (.inl rfl) e,c⟩
 | dK kvs=>obtain ⟨z,y,vs,r,ob,es,ep,e,c⟩:=x; exact ⟨z,y,vs,r,ob,es,ep,k _ _ (.inl rfl) e,c⟩
 | dT kvs =>
  obtain ⟨z,y,xs,r,ob,es,ep,e,c⟩:=x
  exact ⟨z,y,xs,Paired.mapP r fun p q z=>⟨z.1,ht _ _ z.2.1,z.2.2⟩,ob,es,ep,k _ _ (.inl rfl) e,c⟩
 | set S n=>obtain ⟨ob,es,ep,t,e,c⟩:=x; exact ⟨ob,es,ep,t,k _ _ (.inl rfl) e,c⟩
 | ins C dx fs =>
  obtain ⟨d,z,ne,e,mA,⟨od,es,ep,e2,c⟩,r⟩:=x
  exact ⟨ho _ d,z,ne,k _ _ (.inl rfl) e,mA,⟨od,es,ep,k _ _ (.inr d) e2,c⟩,r⟩
 | own y=>obtain ⟨ob,e⟩:=x; exact ⟨ob,k _ _ (.inl rfl) e⟩
 | xd fs=>obtain ⟨mA,⟨od,es,ep,e,c⟩,r⟩:=x; exact ⟨mA,⟨od,es,ep,k _ _ (.inl rfl) e,c⟩,r⟩
 | rng lo hi=>obtain ⟨t,u,v,e⟩:=x; exact ⟨t,u,v,k _ _ (.inl rfl) e⟩
 | frz ob u ih=>obtain ⟨e,q⟩:=x; exact ⟨k _ _ (.inl rfl) e,ih q⟩
 | tbl ps =>
  have e : h.get? a = some { cls:=.none,data:=.fields ps }:=x
  show h'.get? a = some { cls:=.none,data:=.fields ps }
  exact k a _ (.inl rfl) e
 | met f y =>
  have e : h.get? a = some (PySem.W.methodObj (.ref f) (.ref y)):=x
  show h'.get? a = some (PySem.W.methodObj (.ref f) (.ref y))
  exact k a _ (.inl rfl) e
 | ext φ=>obtain ⟨p,⟨o,e⟩,st⟩:=x; exact ⟨st _ _ p fun o q=>k _ _ (.inl rfl) q,⟨o,k _ _ (.inl rfl) e⟩,st⟩
theorem HOk.lt (x : HOk P w H h) (e : H a = some o) : a < h.objs.size:=(x a o e).lt
theorem HOk.fresh (x : HOk P w H h) (e : h.objs.size≤a) : H a = none:=by
 cases q : H a with
 | none=>rfl
 | some u=>exact absurd (Nat.lt_of_lt_of_le (x.lt q) e) (Nat.lt_irrefl _)
theorem HOk.kept (x : HOk P w H h) (k : ∀ b u,h.get? b = some u→h'.get? b = some u) : HOk P w H h':=fun a o e =>
 (x a o e).stay (fun b u _ q=>k b u q) (fun _ q=>q) fun _ _ q=>q
theorem HOk.laid (x : HOk P w H h) (k : ∀ b u,h.get? b = some u→h'.get? b = some u) (hp : h.objs.size≤a) (new : ObjOk P w (upd H a o) h' a o) : HOk P w (upd H a o) h':=fun b u e=>by
 have hn:=x.fresh hp
 by_cases hb : b = a
 ·subst hb; rw [upd_same] at e; cases e; exact new
 ·rw [upd_ne hb] at e
  exact (x b u e).stay (fun c v _ q=>k c v q) (fun c q=>by rw [upd_ne (ne_of_none q hn)]; exact q) fun c xs q=>by rw [upd_ne (ne_of_none q hn)]; exact q
end
noncomputable def Rd (H : Hp) (a : Addr) (u : HO) : Prop:=H a = some u∨∃ o,H a = some (.frz o u)
theorem Rd.ok {P : Program} {w : World} {H : Hp} {h : Heap} {a : Addr} {u : HO} (r : Rd H a u) (x : HOk P w H h) : ObjOk P w H h a u:=by
 rcases r with r | ⟨o,r⟩
 ·exact x a u r
 ·obtain ⟨_,q⟩:=x a _ r
  exact q
noncomputable def Mut : Option HO→Prop
 | some (.lst _)=>True
 | some (.dK _)=>True
 | some (.dT _)=>True
 | some (.set _ _)=>True
 | some (.ins _ _ _)=>True
 | some (.ext _)=>True
 | _=>False
section
variable {P : Program} {w : World} {H : Hp} {h h' : Heap} {x e : Addr} {o' : HO}
theorem HOk.write (ok : HOk P w H h) (mu : Mut (H x)) (he : e = x∨H e = some (.own x)) (k : ∀ b u,b ≠ e→h.get? b = some u→h'.get? b = some u) (heo : ∃ u,h'.get? e = some u)
  (new : ObjOk P w (upd H x o') h' x o') : HOk P w (upd H x o') h':=fun b u q=>by
 have nown : ∀ c y,H c = some (.own y)→c ≠ x:=fun c y r z=>by subst z; rw [r] at mu; exact mu
 have ntup : ∀ c xs,H c = some (.tup xs)→c ≠ x:=fun c xs r z=>by subst z; rw [r] at mu; exact mu
 by_cases hb : b = x
 ·subst hb; rw [upd_same] at q; cases q; exact new
 ·rw [upd_ne hb] at q
  by_cases hbe : b = e
  ·have q' : H b = some (.own x):=by
    rcases he with z | z
    ·exact absurd (hbe.trans z) hb
    ·rw [hbe]; exact z
   rw [q] at q'; cases q'
   obtain ⟨v,hv⟩:=heo
   exact ⟨v,by rw [hbe]; exact hv⟩
  ·refine (ok b u q).stay (fun c v hc r=>k c v ?_ r) (fun c r=>by rw [upd_ne (nown c b r)]; exact r) fun c xs r=>by rw [upd_ne (ntup c xs r)]; exact r
   rcases hc with rfl | hc
   ·exact hbe
   ·rintro rfl
    rcases he with z | z
    ·exact nown c b hc z
    ·rw [hc] at z; cases z; exact hb rfl
end
structure Un (fs ex : List Addr) (H H' : Hp) (h h' : Heap) : Prop where
 keep : ∀ b o,h.get? b = some o→H b = none→b ∉ fs→b ∉ ex→h'.get? b = some o
 slot : ∀ b o,h.get? b = some o→H b = none→b∈fs→b ∉ ex→∃ sl,h'.get? b = some { o with slots:=sl }
 free : ∀ b o,h.get? b = some o→H b = none→b ∉ ex→H' b = none
 there : ∀ b o,h.get? b = some o→b ∉ ex→∃ o',h'.get? b = some o'
 tups : ∀ b xs,H b = some (.tup xs)→H' b = some (.tup xs)
 frzs : ∀ b o u,H b = some (.frz o u)→H' b = some (.frz o u)
 tbls : ∀ b ps,H b = some (.tbl ps)→∃ more,H' b = some (.tbl (ps ++ more))
section
variable {fs fs' ex ex' : List Addr} {H H1 H2 : Hp} {h h1 h2 h' : Heap} {a x e : Addr} {o : HO}
theorem Un.any (u : Un fs ex H H1 h h1) {b : Addr} {ob : Obj} (q : h.get? b = some ob) (n : H b = none) (hx : b ∉ ex) : ∃ sl,h1.get? b = some { ob with slots:=sl }:=by
 by_cases hb : b∈fs
 ·exact u.slot b ob q n hb hx
 ·exact ⟨ob.slots,u.keep b ob q n hb hx⟩
theorem Un.trans (a : Un fs ex H H1 h h1) (b : Un fs ex H1 H2 h1 h2) : Un fs ex H H2 h h2 where
 keep:=fun c ob q n hc hx=>b.keep c ob (a.keep c ob q n hc hx) (a.free c ob q n hx) hc hx
 slot:=fun c ob q n hc hx=>by
  obtain ⟨sl,e1⟩:=a.slot c ob q n hc hx
  obtain ⟨sl',e2⟩:=b.slot c _ e1 (a.free c ob q n hx) hc hx
  exact ⟨sl',e2⟩
 free:=fun c ob q n hx=>by
  obtain ⟨o',e1⟩:=a.there c ob q hx
  exact b.free c o' e1 (a.free c ob q n hx) hx
 there:=fun c ob q hx=>by
  obtain ⟨o',e1⟩:=a.there c ob q hx
  exact b.there c o' e1 hx
 tups:=fun c xs q=>b.tups c xs (a.tups c xs q)
 frzs:=fun c ob xs q=>b.frzs c ob xs (a.frzs c ob xs q)
 tbls:=fun c ps q=>by
  obtain ⟨m1,e1⟩:=a.tbls c ps q
  obtain ⟨m2,e2⟩:=b.tbls c _ e1
  exact ⟨m1 ++ m2,by rw [e2,Array.append_assoc]⟩
theorem Un.kept (k : ∀ b u,h.get? b = some u→h'.get? b = some u) : Un fs ex H H h h' :=
 ⟨fun b ob q _ _ _=>k b ob q,fun b ob q _ _ _=>⟨ob.slots,k b ob q⟩,fun _ _ _ n _=>n,fun b ob q _=>⟨ob,k b ob q⟩,fun _ _ q=>q,fun _ _ _ q=>q,fun _ ps q=>⟨#[],by rw [q]; simp⟩⟩
theorem Un.refl : Un fs ex H H h h:=Un.kept fun _ _ q=>q
theorem Un.laid (k : ∀ b u,h.get? b = some u→h'.get? b = some u) (hp : h.objs.size≤a) (hn : H a = none) : Un fs ex H (upd H a o) h h' where
 keep:=fun b u q _ _ _=>k b u q
 slot:=fun b u q _ _ _=>⟨u.slots,k b u q⟩
 free:=fun b u q n _=>by rw [upd_ne (Nat.ne_of_lt (Nat.lt_of_lt_of_le (Heap.lt_size q) hp))]; exact n
 there:=fun b u q _=>⟨u,k b u q⟩
 tups:=fun b xs q=>by rw [upd_ne (ne_of_none q hn)]; exact q
 frzs:=fun b u xs q=>by rw [upd_ne (ne_of_none q hn)]; exact q
 tbls:=fun b ps q=>⟨#[],by rw [upd_ne (ne_of_none q hn),q]; simp⟩
theorem Un.write (mu : Mut (H x)) (he : e = x∨H e = some (.own x)) (k : ∀ b u,b ≠ e→h.get? b = some u→h'.get? b = some u) (heo : ∃ u,h'.get? e = some u) : Un fs ex H (upd H x o) h h':=by
 have hx : ∀ b,H b = none→b ≠ x:=fun b n z=>by subst z; rw [n] at mu; exact mu
 have hb : ∀ b,H b = none→b ≠ e:=fun b n z=>by
  subst z
  rcases he with r | r
  ·exact hx b n r
  ·rw [n] at r; cases r
 have hm : ∀ b u,H b = some u→¬ Mut (some u)→b ≠ x:=fun b u q nm z=>by subst z; rw [q] at mu; exact nm mu
 refine ⟨fun b u q n _ _=>k b u (hb b n) q,fun b u q n _ _=>⟨u.slots,k b u (hb b n) q⟩,fun b u q n _=>by rw [upd_ne (hx b n)]; exact n,fun b u q _=>?_,
  fun b xs q=>by rw [upd_ne (hm b _ q fun z=>z)]; exact q,fun b u xs q=>by rw [upd_ne (hm b _ q fun z=>z)]; exact q,fun b ps q=>⟨#[],by rw [upd_ne (hm b _ q fun z=>z),q]; simp⟩⟩
 by_cases hbe : b = e
 ·subst hbe; exact heo
 ·exact ⟨u,k b u hbe q⟩
end
noncomputable def trk (h : Heap) (H : Hp) : List Addr:=(List.range h.objs.size).filter fun a=>(H a).isSome
noncomputable def hidT (h : Heap) (H : Hp) : Heap:=PySem.W.hideAll h (trk h H)
theorem hidT_size (h : Heap) (H : Hp) : (hidT h H).objs.size = h.objs.size:=PySem.W.hideAll_size _ _
theorem hidT_get {h : Heap} {H : Hp} {b : Addr} {o : Obj} (e : h.get? b = some o) (n : H b = none) : (hidT h H).get? b = some o :=
 PySem.W.hideAll_get _ e fun hm=>by
  have q : (H b).isSome = true:=(List.mem_filter.mp hm).2
  rw [n] at q; simp at q
theorem of_hidT {h : Heap} {H : Hp} {b : Addr} {o : Obj} (e : (hidT h H).get? b = some o) : h.get? b = some o∧H b = none:=by
 have e' : h.get? b = some o:=PySem.W.of_hideAll (trk h H) e
 refine ⟨e',?_⟩
 cases q : H b with
 | none=>rfl
 | some x =>
  have hm : b∈trk h H:=List.mem_filter.mpr ⟨List.mem_range.mpr (Heap.lt_size e'),by simp [q]⟩
  have z : (hidT h H).get? b = none:=PySem.W.hideAll_none (trk h H) hm
  rw [z] at e; cases e
noncomputable def allNews (g h : Heap) (L : Addr) : List (Addr × Obj):=(List.range h.objs.size).filterMap fun a=>if a = L∨(g.get? a).isSome = true then none else (h.get? a).map fun o=>(a,o)
noncomputable def rest (g h : Heap) (L d : Addr) : List (Addr × Obj):=(allNews g h L).filter fun p=>decide (p.1 ≠ d)
end L2
namespace L2
open PySem PySem.Spec PyProof.Rows
structure Mod (K : PySem.W.Frag) (mg : Str→Option Value) (base : Heap) : Prop where
 kin : K.In base
 glob : base.Ns mainGlobals mg
 blt : ∃ mb,base.Ns builtinsNs mb∧∀ x : Str,x ≠ "__name__"→mb x = bootBuiltins x
 nolimit : base.NoLimit
structure Cx where
 prog : Program
 w : World
 K : PySem.W.Frag
 mg : Str→Option Value
 base : Heap
 A : Around
 N : List Str
 s₀ : Shared
 H₀ : Hp
 env : Env
 outer : List Env
 stack : List Env
 ex : List Addr
 fn : Str→Bool
 calm : Bool
 pn : List (Addr × Obj)
 xe : Value→Shared→Prop
noncomputable def frs (l : List Env) : List Addr:=l.filterMap (·.frame)
noncomputable abbrev Cx.fs (X : Cx) : List Addr:=frs X.outer
noncomputable def Vis (sc : Scope) (x : Str) : Prop:=sc.names.lookup x = some .local∨sc.names.lookup x = some .cell∨sc.names.lookup x = some .free
noncomputable def Loc (sc : Scope) (x : Str) : Prop:=sc.names.lookup x = some .local∨sc.names.lookup x = some .cell
noncomputable def Look (env : Env) (h : Heap) (m : Str→Option Value) (x : Str) (u : Value) : Prop :=
 (env.kindOf x = some .local∧m x = some u)∨((env.kindOf x = some .cell∨env.kindOf x = some .free)∧∃ c,env.cells.lookup x = some c∧h.IsCell c (some u))
structure Cx.Ok (X : Cx) : Prop where
 mod : Mod X.K X.mg X.base
 kind : X.env.scope.kind = .function
 glob : X.env.globals = mainGlobals
 blt : X.env.builtins = builtinsNs
 above : X.s₀.heap.objs.size≤X.env.locals
 inj : ∀ x y c,X.env.cells.lookup x = some c→X.env.cells.lookup y = some c→x = y
 has : ∀ x,(X.env.kindOf x = some .cell∨X.env.kindOf x = some .free)→∃ c,X.env.cells.lookup x = some c
 cab : ∀ x c,X.fn x = true→X.env.cells.lookup x = some c→X.s₀.heap.objs.size≤c
 hd : X.calm = true→X.A.handled = none
 frames : X.A.frames = some X.stack
 stk : X.stack = X.outer∨(X.stack = X.env :: X.outer∧X.env.frame = some X.env.locals)
 exf : ∀ b∈X.ex,b ≠ X.env.locals∧∀ x c,X.env.cells.lookup x = some c→c ≠ b
 bs : ∀ b o,X.base.get? b = some o→X.s₀.heap.get? b = some o∧X.H₀ b = none
 bsz : X.base.objs.size≤X.s₀.heap.objs.size
 noex : ∀ b o,X.base.get? b = some o→b ∉ X.ex
 exfs : ∀ b∈X.ex,b ∉ X.fs
 funs : X.s₀.heap.FunFrames X.base X.outer
 frf : ∀ b∈X.fs,X.H₀ b = none
structure Inv (X : Cx) (pins : List (Addr × Obj)) (σ : List (Option V)) (H : Hp) (s : Shared) : Prop where
 ok : X.Ok
 os : s.os = X.s₀.os
 bare : AllBare s.gens
 base : Un X.fs X.ex X.H₀ H X.s₀.heap s.heap
 loc : ∃ m,s.heap.Ns X.env.locals m∧∀ (i : Nat) (x : Str) (v : V),X.N[i]? = some x→σ[i]? = some (some v)→Vis X.env.scope x→∃ u,RelV v u∧Look X.env s.heap m x u
 cell : ∀ x c,X.env.cells.lookup x = some c→∃ v,s.heap.IsCell c v
 free : H X.env.locals = none
 freeC : ∀ x c,X.env.cells.lookup x = some c→H c = none
 pin : ∀ p∈X.pn ++ pins,s.heap.get? p.1 = some p.2∧H p.1 = none∧p.1 ≠ X.env.locals∧p.1 ∉ X.fs∧∀ v,p.2.data ≠ .cell v
 hok : HOk X.prog X.w H s.heap
 len : σ.length = X.N.length
section
variable {X : Cx} {pins : List (Addr × Obj)} {σ : List (Option V)} {H H' : Hp} {s : Shared} {h' : Heap}
theorem Cx.Ok.nofr (ok : X.Ok) {b : Addr} {o : Obj} (e : X.base.get? b = some o) : b ∉ X.fs:=fun hb=>by
 have:=(ok.funs.mem hb).1
 rw [e] at this; cases this
theorem Inv.bs (I : Inv X pins σ H s) : ∀ b o,X.base.get? b = some o→s.heap.get? b = some o∧H b = none:=fun b o e =>
 ⟨I.base.keep b o (I.ok.bs b o e).1 (I.ok.bs b o e).2 (I.ok.nofr e) (I.ok.noex b o e),I.base.free b o (I.ok.bs b o e).1 (I.ok.bs b o e).2 (I.ok.noex b o e)⟩
theorem Inv.bk (I : Inv X pins σ H s) : ∀ b o,X.base.get? b = some o→s.heap.get? b = some o:=fun b o e=>(I.bs b o e).1
theorem Inv.mod (I : Inv X pins σ H s) : Mod X.K X.mg X.base:=I.ok.mod
theorem Inv.kIn (I : Inv X pins σ H s) : X.K.In s.heap:=I.ok.mod.kin.keeps I.bk
theorem Inv.fr (I : Inv X pins σ H s) : ∃ m,Fr X.base X.env.locals s.heap m :=
 let ⟨m,hn,_⟩:=I.loc
 ⟨m,hn,I.bk,Nat.le_trans I.ok.bsz I.ok.above⟩
theorem Inv.lt (I : Inv X pins σ H s) : X.env.locals < s.heap.objs.size:=let ⟨_,hn,_⟩:=I.loc; hn.lt
theorem Inv.sz (I : Inv X pins σ H s) : X.s₀.heap.objs.size≤s.heap.objs.size:=Nat.le_trans I.ok.above (Nat.le_of_lt I.lt)
theorem Inv.nofs (I : Inv X pins σ H s) {a : Addr} (h : s.heap.objs.size≤a) : a ∉ X.fs:=fun hb=>by
 obtain ⟨_,o,ho,_⟩:=I.ok.funs.mem hb
 exact absurd (Nat.lt_of_lt_of_le (Heap.lt_size ho) (Nat.le_trans I.sz h)) (Nat.lt_irrefl _)
theorem Inv.cne (I : Inv X pins σ H s) : ∀ x c,X.env.cells.lookup x = some c→c ≠ X.env.locals:=fun x c e z=>by
 obtain ⟨v,o,ho,hd⟩:=I.cell x c e
 obtain ⟨m,⟨o',es,ep,ho',hd',_⟩,_⟩:=I.loc
 rw [z,ho'] at ho; cases ho; rw [hd'] at hd; cases hd
theorem Inv.funs (I : Inv X pins σ H s) : s.heap.FunFrames X.base X.outer:=by
 have all : ∀ (l : List Env),(∀ b∈frs l,b∈X.fs)→X.s₀.heap.FunFrames X.base l→s.heap.FunFrames X.base l:=by
  intro l
  induction l with
  | nil=>intro _ _; trivial
  | cons env r ih =>
   intro hs hl
   obtain ⟨hk,⟨L,o,hf,hn,ho,hd⟩,hr⟩:=hl
   have hL : L∈X.fs:=hs L (by unfold frs; rw [List.filterMap_cons,hf]; exact List.mem_cons_self)
   obtain ⟨sl,e⟩:=I.base.slot L o ho (I.ok.frf L hL) hL fun z=>I.ok.exfs L z hL
   exact ⟨hk,⟨L,_,hf,hn,e,hd⟩,ih (fun b hb=>hs b (by unfold frs; rw [List.filterMap_cons,hf]; exact List.mem_cons_of_mem _ hb)) hr⟩
 exact all X.outer (fun _ hb=>hb) I.ok.funs
theorem Inv.stack (I : Inv X pins σ H s) : s.heap.FunFrames X.base X.stack:=by
 rcases I.ok.stk with e | ⟨e,hf⟩
 ·rw [e]; exact I.funs
 ·rw [e]
  obtain ⟨m,hn,_⟩:=I.loc
  refine .cons (by rw [I.ok.kind]; decide) hf hn ?_ I.funs
  exact Heap.get?_none_of_le (Nat.le_trans I.ok.bsz I.ok.above)
theorem Inv.stkSub (I : Inv X pins σ H s) : ∀ b∈frs X.stack,b∈X.env.locals :: X.fs:=fun b hb=>by
 rcases I.ok.stk with e | ⟨e,hf⟩
 ·rw [e] at hb; exact List.mem_cons_of_mem _ hb
 ·rw [e] at hb
  unfold frs at hb
  rw [List.filterMap_cons,hf] at hb
  exact hb
theorem Inv.stkFree (I : Inv X pins σ H s) : ∀ b∈frs X.stack,H b = none:=fun b hb=>by
 rcases List.mem_cons.mp (I.stkSub b hb) with e | hb
 ·rw [e]; exact I.free
 ·obtain ⟨_,o,ho,_⟩:=I.ok.funs.mem hb
  exact I.base.free b o ho (I.ok.frf b hb) fun z=>I.ok.exfs b z hb
theorem Inv.step {g' : Array GenState} {t' : Nat} {d' : Drawn} {ch : List Addr} (I : Inv X pins σ H s)
  (hch : ∀ b∈ch,(b∈X.ex∨X.s₀.heap.objs.size≤b)∧b ≠ X.env.locals∧(∀ x c,X.env.cells.lookup x = some c→c ≠ b)∧∀ p∈X.pn ++ pins,p.1 ≠ b)
  (keep : ∀ b o,b ≠ X.env.locals→b ∉ X.fs→b ∉ ch→s.heap.get? b = some o→H b = none→h'.get? b = some o)
  (slot : ∀ b o,b ≠ X.env.locals→b∈X.fs→b ∉ ch→s.heap.get? b = some o→H b = none→∃ sl,h'.get? b = some { o with slots:=sl }) (free : ∀ b o,b ∉ ch→s.heap.get? b = some o→H b = none→H' b = none)
  (there : ∀ b o,b ∉ ch→s.heap.get? b = some o→∃ o',h'.get? b = some o')
  (tups : ∀ b xs,H b = some (.tup xs)→H' b = some (.tup xs)) (frzs : ∀ b o u,H b = some (.frz o u)→H' b = some (.frz o u)) (tbls : ∀ b ps,H b = some (.tbl ps)→∃ more,H' b = some (.tbl (ps ++ more)))
  (ns : ∀ m,s.heap.Ns X.env.locals m→h'.Ns X.env.locals m) (hok : HOk X.prog X.w H' h') (hg : AllBare g') :
  Inv X pins σ H' { s with heap:=h',gens:=g',drawn:=d',toks:=t' }:=by
 have neL : ∀ b o,X.s₀.heap.get? b = some o→b ≠ X.env.locals:=fun b o e=>Nat.ne_of_lt (Nat.lt_of_lt_of_le (Heap.lt_size e) I.ok.above)
 have neC : ∀ b o,X.s₀.heap.get? b = some o→b ∉ X.ex→b ∉ ch:=fun b o e hx hb=>by
  rcases (hch b hb).1 with z | z
  ·exact hx z
  ·exact absurd (Nat.lt_of_lt_of_le (Heap.lt_size e) z) (Nat.lt_irrefl _)
 have cellK : ∀ x c,X.env.cells.lookup x = some c→∀ v,s.heap.IsCell c v→h'.IsCell c v:=fun x c e v ⟨o,ho,hd⟩=>by
  have nch : c ∉ ch:=fun z=>(hch c z).2.2.1 x c e rfl
  by_cases hc : c∈X.fs
  ·obtain ⟨sl,q⟩:=slot c o (I.cne x c e) hc nch ho (I.freeC x c e)
   exact ⟨_,q,hd⟩
  ·exact ⟨o,keep c o (I.cne x c e) hc nch ho (I.freeC x c e),hd⟩
 refine ⟨I.ok,I.os,hg,⟨fun b o e n hb hx=>?_,fun b o e n hb hx=>?_,fun b o e n hx=>?_,fun b o e hx=>?_,fun b xs e=>tups b xs (I.base.tups b xs e),fun b o xs e=>frzs b o xs (I.base.frzs b o xs e),fun b ps e=>?_⟩,?_,fun x c e=>?_,?_,fun x c e=>?_,fun p hp=>?_,hok,I.len⟩
 ·exact keep b o (neL b o e) hb (neC b o e hx) (I.base.keep b o e n hb hx) (I.base.free b o e n hx)
 ·obtain ⟨sl,e1⟩:=I.base.slot b o e n hb hx
  obtain ⟨sl',e2⟩:=slot b _ (neL b o e) hb (neC b o e hx) e1 (I.base.free b o e n hx)
  exact ⟨sl',e2⟩
 ·obtain ⟨o',e1⟩:=I.base.there b o e hx
  exact free b o' (neC b o e hx) e1 (I.base.free b o e n hx)
 ·obtain ⟨o',e1⟩:=I.base.there b o e hx
  exact there b o' (neC b o e hx) e1
 ·obtain ⟨m1,e1⟩:=I.base.tbls b ps e
  obtain ⟨m2,e2⟩:=tbls b _ e1
  exact ⟨m1 ++ m2,by rw [e2,Array.append_assoc]⟩
 ·obtain ⟨m,hn,hl⟩:=I.loc
  refine ⟨m,ns m hn,fun i x v e1 e2 e3=>?_⟩
  obtain ⟨u,r,l⟩:=hl i x v e1 e2 e3
  refine ⟨u,r,?_⟩
  rcases l with l | ⟨k,c,e,z⟩
  ·exact .inl l
  ·exact .inr ⟨k,c,e,cellK x c e _ z⟩
 ·obtain ⟨v,z⟩:=I.cell x c e
  exact ⟨v,cellK x c e v z⟩
 ·obtain ⟨m,⟨o,_,_,ho,_⟩,_⟩:=I.loc
  exact free _ o (fun z=>(hch _ z).2.1 rfl) ho I.free
 ·obtain ⟨v,o,ho,hd⟩:=I.cell x c e
  exact free c o (fun z=>(hch c z).2.2.1 x c e rfl) ho (I.freeC x c e)
 ·obtain ⟨e,n,ne,nf,d⟩:=I.pin p hp
  have nch : p.1 ∉ ch:=fun z=>(hch p.1 z).2.2.2 p hp rfl
  exact ⟨keep p.1 p.2 ne nf nch e n,free p.1 p.2 nch e n,ne,nf,d⟩
theorem Inv.un {t' : Nat} (I : Inv X pins σ H s) (u : Un X.fs [] H H' s.heap h') (hok : HOk X.prog X.w H' h') : Inv X pins σ H' { s with heap:=h',toks:=t' }:=by
 obtain ⟨m,⟨o,es,ep,ho,r⟩,_⟩:=id I.loc
 obtain ⟨sl,hL⟩:=u.any ho I.free (by simp)
 exact I.step (g':=s.gens) (d':=s.drawn) (ch:=[]) (fun _ z=>nomatch z) (fun b o _ hb _ e n=>u.keep b o e n hb (by simp)) (fun b o _ hb _ e n=>u.slot b o e n hb (by simp)) (fun b o _ e n=>u.free b o e n (by simp)) (fun b o _ e=>u.there b o e (by simp)) u.tups u.frzs u.tbls (fun m' hm=>by
  obtain ⟨o',es',ep',ho',r'⟩:=hm
  rw [ho] at ho'; cases ho'
  exact ⟨_,es',ep',hL,r'⟩) hok I.bare
theorem Inv.call {g' : Array GenState} {t' : Nat} {d' : Drawn} {ch : List Addr} (I : Inv X pins σ H s) (u : Un (frs X.stack) ch H H' s.heap h') (hok : HOk X.prog X.w H' h') (hg : AllBare g')
  (hch : ∀ b∈ch,(b∈X.ex∨X.s₀.heap.objs.size≤b)∧b ≠ X.env.locals∧(∀ x c,X.env.cells.lookup x = some c→c ≠ b)∧∀ p∈X.pn ++ pins,p.1 ≠ b) :
  Inv X pins σ H' { s with heap:=h',gens:=g',drawn:=d',toks:=t' }:=by
 obtain ⟨m,⟨o,es,ep,ho,r⟩,_⟩:=id I.loc
 obtain ⟨sl,hL⟩:=u.any ho I.free fun z=>(hch _ z).2.1 rfl
 exact I.step (ch:=ch) hch (fun b o hL hb hc e n=>u.keep b o e n (fun z=>(List.mem_cons.mp (I.stkSub b z)).elim hL hb) hc) (fun b o _ _ hc e n=>u.any e n hc) (fun b o hc e n=>u.free b o e n hc) (fun b o hc e=>u.there b o e hc) u.tups u.frzs u.tbls (fun m' hm=>by
  obtain ⟨o',es',ep',ho',r'⟩:=hm
  rw [ho] at ho'; cases ho'
  exact ⟨_,es',ep',hL,r'⟩) hok hg
theorem Inv.turned {t' : Nat} {it : Addr} (I : Inv X pins σ H s) (k : ∀ b o,b ≠ it→s.heap.get? b = some o→h'.get? b = some o) (hn : H it = none) (hL : it ≠ X.env.locals)
  (h1 : it∈X.ex∨X.s₀.heap.objs.size≤it) (h2 : ∀ x c,X.env.cells.lookup x = some c→c ≠ it) (h3 : ∀ p∈X.pn ++ pins,p.1 ≠ it) : Inv X pins σ H { s with heap:=h',toks:=t' }:=by
 have nit : ∀ b u,H b = some u→b ≠ it:=fun b u e z=>by rw [z,hn] at e; cases e
 refine I.step (g':=s.gens) (d':=s.drawn) (ch:=[it]) (fun b hb=>?_) (fun b o _ _ hc e _=>k b o (fun z=>hc (by simp [z])) e) (fun b o _ _ hc e _=>⟨o.slots,k b o (fun z=>hc (by simp [z])) e⟩) (fun _ _ _ _ n=>n)
  (fun b o hc e=>⟨o,k b o (fun z=>hc (by simp [z])) e⟩) (fun _ _ e=>e) (fun _ _ _ e=>e) (fun b ps e=>⟨#[],by rw [e]; simp⟩) (fun m hm=>?_) (fun b u e=>?_) I.bare
 ·have e : b = it:=by simpa using hb
  subst e
  exact ⟨h1,hL,h2,h3⟩
 ·obtain ⟨o,es,ep,ho,r⟩:=hm
  exact ⟨o,es,ep,k _ o (Ne.symm hL) ho,r⟩
 ·refine (I.hok b u e).stay (fun c v hc q=>k c v ?_ q) (fun _ q=>q) fun _ _ q=>q
  rcases hc with z | z
  ·rw [z]; exact nit b u e
  ·exact nit c _ z
theorem Inv.tok (I : Inv X pins σ H s) (t : Nat) : Inv X pins σ H { s with toks:=t }:=I.un (h':=s.heap) (t':=t) Un.refl I.hok
theorem Inv.kept {t' : Nat} (I : Inv X pins σ H s) (k : ∀ b u,s.heap.get? b = some u→h'.get? b = some u) : Inv X pins σ H { s with heap:=h',toks:=t' }:=I.un (Un.kept k) (I.hok.kept k)
theorem Inv.laid {a : Addr} {o : HO} {t' : Nat} (I : Inv X pins σ H s) (k : ∀ b u,s.heap.get? b = some u→h'.get? b = some u) (hp : s.heap.objs.size≤a) (new : ObjOk X.prog X.w (upd H a o) h' a o) :
  Inv X pins σ (upd H a o) { s with heap:=h',toks:=t' }:=I.un (Un.laid k hp (I.hok.fresh hp)) (I.hok.laid k hp new)
theorem Inv.write {x e : Addr} {o : HO} {t' : Nat} (I : Inv X pins σ H s) (mu : Mut (H x)) (he : e = x∨H e = some (.own x)) (k : ∀ b u,b ≠ e→s.heap.get? b = some u→h'.get? b = some u) (heo : ∃ u,h'.get? e = some u)
  (new : ObjOk X.prog X.w (upd H x o) h' x o) : Inv X pins σ (upd H x o) { s with heap:=h',toks:=t' }:=I.un (Un.write mu he k heo) (I.hok.write mu he k heo new)
theorem Inv.weak {σ' : List (Option V)} (I : Inv X pins σ H s) (hl : σ'.length = σ.length) (w : ∀ (i : Nat) v,σ'[i]? = some (some v)→σ[i]? = some (some v)) : Inv X pins σ' H s :=
 ⟨I.ok,I.os,I.bare,I.base,let ⟨m,hn,hl'⟩:=I.loc; ⟨m,hn,fun i x v e1 e2 e3=>hl' i x v e1 (w i v e2) e3⟩,I.cell,I.free,I.freeC,I.pin,I.hok,hl.trans I.len⟩
theorem Inv.pins_of {pins' : List (Addr × Obj)} (I : Inv X pins σ H s) (h : ∀ p∈pins',s.heap.get? p.1 = some p.2∧H p.1 = none∧p.1 ≠ X.env.locals∧p.1 ∉ X.fs∧∀ v,p.2.data ≠ .cell v) : Inv X pins' σ H s :=
 ⟨I.ok,I.os,I.bare,I.base,I.loc,I.cell,I.free,I.freeC,fun p hp=>(List.mem_append.mp hp).elim (fun z=>I.pin p (List.mem_append_left _ z)) (h p),I.hok,I.len⟩
theorem nodup_ix {N : List Str} (hN : N.Nodup) {i j : Nat} {x : Str} (a : N[i]? = some x) (b : N[j]? = some x) : i = j:=by
 obtain ⟨h1,e1⟩:=List.getElem?_eq_some_iff.mp a
 obtain ⟨h2,e2⟩:=List.getElem?_eq_some_iff.mp b
 exact (List.getElem_inj hN).mp (e1.trans e2.symm)
theorem store_ok2 {M : Model} {A : Around} {E : Value→Shared→Prop} {i : Nat} {x : Str} {v : V} {u : Value} {Q : Unit→Shared→Prop} (I : Inv X pins σ H s) (hN : X.N.Nodup) (hi : X.N[i]? = some x) (hx : Loc X.env.scope x) (r : RelV v u)
  (h : ∀ s',Inv X pins (σ.set i (some v)) H s'→(∃ a,Heap.SameBut a s.heap s'.heap∧(a = X.env.locals∨X.env.cells.lookup x = some a))→Q () s') (hf : X.fn x = true∨X.env.scope.names.lookup x = some .local:=by first | exact .inl rfl | exact .inr rfl | assumption) : wpAny M A (storeName X.env x u) Q E s:=by
 obtain ⟨m,hn,hl⟩:=id I.loc
 have hcls : (X.env.scope.kind == .class || (X.env.scope.kind == .module && X.env.locals != X.env.globals)) = false:=by rw [I.ok.kind]; rfl
 have hiσ : i < σ.length:=by rw [I.len]; exact (List.getElem?_eq_some_iff.mp hi).1
 have cne:=I.cne
 have tracked : ∀ {a : Addr} {h' : Heap},(∃ o,s.heap.get? a = some o∧H a = none)→Heap.SameBut a s.heap h'→HOk X.prog X.w H h':=fun {a h'} ha hs b ob e=>by
  obtain ⟨_,_,hfree⟩:=ha
  refine (I.hok b ob e).stay (fun c w' hc q=>(hs.2 c ?_).trans q) (fun _ q=>q) fun _ _ q=>q
  rintro rfl
  rcases hc with rfl | hc
  ·rw [hfree] at e; cases e
  ·rw [hfree] at hc; cases hc
 rcases hx with hk | hk
 ·refine wpAny_storeName_local hk hn (fun h' hn' hs=>?_) hcls
  obtain ⟨oL,_,_,hoL,_⟩:=id hn
  refine h _ ⟨I.ok,I.os,I.bare,⟨fun b o e n hb hx=>?_,fun b o e n hb hx=>?_,I.base.free,fun b o e hx=>?_,I.base.tups,I.base.frzs,I.base.tbls⟩,⟨_,hn',fun j y v' e1 e2 e3=>?_⟩,fun y c e=>?_,I.free,I.freeC,fun p hp=>?_,tracked ⟨oL,hoL,I.free⟩ hs,by simpa using I.len⟩ ⟨_,hs,.inl rfl⟩
  ·exact (hs.2 b (Nat.ne_of_lt (Nat.lt_of_lt_of_le (Heap.lt_size e) I.ok.above))).trans (I.base.keep b o e n hb hx)
  ·obtain ⟨sl,e1⟩:=I.base.slot b o e n hb hx
   exact ⟨sl,(hs.2 b (Nat.ne_of_lt (Nat.lt_of_lt_of_le (Heap.lt_size e) I.ok.above))).trans e1⟩
  ·obtain ⟨o',e1⟩:=I.base.there b o e hx
   exact ⟨o',(hs.2 b (Nat.ne_of_lt (Nat.lt_of_lt_of_le (Heap.lt_size e) I.ok.above))).trans e1⟩
  ·by_cases hj : j = i
   ·subst hj
    rw [hi] at e1; cases e1
    rw [List.getElem?_set_self hiσ] at e2
    cases e2
    exact ⟨u,r,.inl ⟨hk,by simp⟩⟩
   ·rw [List.getElem?_set_ne (Ne.symm hj)] at e2
    obtain ⟨u',r',q⟩:=hl j y v' e1 e2 e3
    refine ⟨u',r',?_⟩
    rcases q with ⟨k,e⟩ | ⟨k,c,e,z⟩
    ·refine .inl ⟨k,?_⟩
     have : y ≠ x:=fun e=>hj (nodup_ix hN e1 (e ▸ hi))
     simp [this,e]
    ·exact .inr ⟨k,c,e,z.sameBut hs (cne y c e)⟩
  ·obtain ⟨w',z⟩:=I.cell y c e
   exact ⟨w',z.sameBut hs (cne y c e)⟩
  ·obtain ⟨e,n,ne,nf,d⟩:=I.pin p hp
   exact ⟨(hs.2 p.1 ne).trans e,n,ne,nf,d⟩
 ·have hfn : X.fn x = true:=by
   rcases hf with z | z
   ·exact z
   ·rw [z] at hk; cases hk
  obtain ⟨c,hc⟩:=I.ok.has x (.inl hk)
  obtain ⟨w',z⟩:=I.cell x c hc
  refine wpAny_storeName_cell I.ok.kind hk hc z (fun h' hc' hs=>?_)
  obtain ⟨oc,hoc,hocd⟩:=id z
  refine h { s with heap:=h' } ⟨I.ok,I.os,I.bare,⟨fun b o e n hb hx=>?_,fun b o e n hb hx=>?_,I.base.free,fun b o e hx=>?_,I.base.tups,I.base.frzs,I.base.tbls⟩,⟨m,hn.sameBut hs (Ne.symm (cne x c hc)),fun j y v' e1 e2 e3=>?_⟩,fun y c' e=>?_,I.free,I.freeC,fun p hp=>?_,tracked ⟨oc,hoc,I.freeC x c hc⟩ hs,by simpa using I.len⟩ ⟨c,hs,.inr hc⟩
  ·exact (hs.2 b (Nat.ne_of_lt (Nat.lt_of_lt_of_le (Heap.lt_size e) (I.ok.cab x c hfn hc)))).trans (I.base.keep b o e n hb hx)
  ·obtain ⟨sl,e1⟩:=I.base.slot b o e n hb hx
   exact ⟨sl,(hs.2 b (Nat.ne_of_lt (Nat.lt_of_lt_of_le (Heap.lt_size e) (I.ok.cab x c hfn hc)))).trans e1⟩
  ·obtain ⟨o',e1⟩:=I.base.there b o e hx
   exact ⟨o',(hs.2 b (Nat.ne_of_lt (Nat.lt_of_lt_of_le (Heap.lt_size e) (I.ok.cab x c hfn hc)))).trans e1⟩
  ·by_cases hj : j = i
   ·subst hj
    rw [hi] at e1; cases e1
    rw [List.getElem?_set_self hiσ] at e2
    cases e2
    exact ⟨u,r,.inr ⟨.inl hk,c,hc,hc'⟩⟩
   ·rw [List.getElem?_set_ne (Ne.symm hj)] at e2
    obtain ⟨u',r',q⟩:=hl j y v' e1 e2 e3
    refine ⟨u',r',?_⟩
    rcases q with q | ⟨k,c',e,z'⟩
    ·exact .inl q
    ·refine .inr ⟨k,c',e,z'.sameBut hs ?_⟩
     rintro rfl
     exact hj (nodup_ix hN e1 (I.ok.inj _ _ _ e hc ▸ hi))
  ·by_cases hcc : c' = c
   ·subst hcc; exact ⟨_,hc'⟩
   ·obtain ⟨w2,z2⟩:=I.cell y c' e
    exact ⟨w2,z2.sameBut hs hcc⟩
  ·obtain ⟨e,n,ne,nf,d⟩:=I.pin p hp
   refine ⟨(hs.2 p.1 ?_).trans e,n,ne,nf,d⟩
   intro q
   rw [q,hoc] at e
   have q' : oc = p.2:=Option.some.inj e
   exact d w' (by rw [← q']; exact hocd)
theorem store_ok {M : Model} {A : Around} {E : Value→Shared→Prop} {i : Nat} {x : Str} {v : V} {u : Value} {Q : Unit→Shared→Prop} (I : Inv X pins σ H s) (hN : X.N.Nodup) (hi : X.N[i]? = some x) (hx : Loc X.env.scope x) (r : RelV v u)
  (h : ∀ s',Inv X pins (σ.set i (some v)) H s'→Q () s') (hf : X.fn x = true∨X.env.scope.names.lookup x = some .local:=by first | exact .inl rfl | exact .inr rfl | assumption) : wpAny M A (storeName X.env x u) Q E s :=
 store_ok2 I hN hi hx r (fun s' I' _=>h s' I') hf
theorem Inv.call' {s' : Shared} {ch : List Addr} (I : Inv X pins σ H s) (ho : s'.os = s.os) (u : Un (frs X.stack) ch H H' s.heap s'.heap) (hok : HOk X.prog X.w H' s'.heap) (hg : AllBare s'.gens)
  (hch : ∀ b∈ch,(b∈X.ex∨X.s₀.heap.objs.size≤b)∧b ≠ X.env.locals∧(∀ x c,X.env.cells.lookup x = some c→c ≠ b)∧∀ p∈X.pn ++ pins,p.1 ≠ b) : Inv X pins σ H' s':=by
 obtain ⟨h',g',d',t',o'⟩:=s'
 have e : o' = s.os:=ho
 subst e
 exact I.call (g':=g') (t':=t') (d':=d') u hok hg hch
end
noncomputable abbrev XK:=Value→Option Addr→Hp→Prop
noncomputable abbrev St:=List (Option V)
noncomputable abbrev VK:=V→Hp→Prop
noncomputable abbrev TE:=St→Hp→VK→Prop
noncomputable abbrev TT:=St→Hp→(Bool→Hp→Prop)→Prop
noncomputable abbrev TA:=St→Hp→(List V→Hp→Prop)→Prop
structure Ends where
 nx : St→Hp→Prop
 rt : VK
 bk : St→Hp→Prop:=fun _ _=>False
 ct : St→Hp→Prop:=fun _ _=>False
noncomputable abbrev TS:=Ends→St→Hp→Prop
noncomputable def EP (X : Cx) (pins : List (Addr × Obj)) (σ : St) (Q : VK) (u : Value) (s' : Shared) : Prop:=∃ v H',Inv X pins σ H' s'∧RelV v u∧Q v H'
noncomputable def TP (X : Cx) (pins : List (Addr × Obj)) (σ : St) (Q : Bool→Hp→Prop) (b : Bool) (s' : Shared) : Prop:=∃ H',Inv X pins σ H' s'∧Q b H'
noncomputable def AP (X : Cx) (pins : List (Addr × Obj)) (σ : St) (Q : List V→Hp→Prop) (us : List Value) (s' : Shared) : Prop:=∃ vs H',Inv X pins σ H' s'∧Vals vs us∧Q vs H'
noncomputable def SP (X : Cx) (pins : List (Addr × Obj)) (D : Ends) (f : Flow) (s' : Shared) : Prop :=
 match f with
 | .next=>∃ σ' H',Inv X pins σ' H' s'∧D.nx σ' H'
 | .brk=>∃ σ' H',Inv X pins σ' H' s'∧D.bk σ' H'
 | .cont=>∃ σ' H',Inv X pins σ' H' s'∧D.ct σ' H'
 | .ret u=>∃ v σ' H',Inv X pins σ' H' s'∧RelV v u∧D.rt v H'
noncomputable def PE (X : Cx) (e : Expr) (t : TE) : Prop :=
 ∀ (pins : List (Addr × Obj)) (s : Shared) (σ : St) (H : Hp) (Q : VK),Inv X pins σ H s→t σ H Q→wpAny (model X.prog X.w) X.A (eval e X.env) (EP X pins σ Q) X.xe s
noncomputable def PT (X : Cx) (e : Expr) (t : TT) : Prop :=
 ∀ (pins : List (Addr × Obj)) (s : Shared) (σ : St) (H : Hp) (Q : Bool→Hp→Prop),Inv X pins σ H s→t σ H Q→wpAny (model X.prog X.w) X.A (isTrue e X.env (eval e X.env)) (TP X pins σ Q) X.xe s
noncomputable def PW (X : Cx) (e : Expr) (t : TT) : Prop :=
 ∀ (whole : Sem Value) (pins : List (Addr × Obj)) (s : Shared) (σ : St) (H : Hp) (Q : Bool→Hp→Prop),Inv X pins σ H s→t σ H Q→wpAny (model X.prog X.w) X.A (isTrue e X.env whole) (TP X pins σ Q) X.xe s
theorem PW.pt {X : Cx} {e : Expr} {t : TT} (h : PW X e t) : PT X e t:=h _
noncomputable def PA (X : Cx) (es : List Expr) (t : TA) : Prop :=
 ∀ (pos : Pos) (pins : List (Addr × Obj)) (s : Shared) (σ : St) (H : Hp) (Q : List V→Hp→Prop),Inv X pins σ H s→t σ H Q→wpAny (model X.prog X.w) X.A (spliced (backTo pos (starEach es X.env))) (AP X pins σ Q) X.xe s
noncomputable def PS (X : Cx) (st : Stmt) (t : TS) : Prop :=
 ∀ (pins : List (Addr × Obj)) (s : Shared) (σ : St) (H : Hp) (D : Ends),Inv X pins σ H s→t D σ H→wpAny (model X.prog X.w) X.A (exec st X.env) (SP X pins D) X.xe s
noncomputable def PSs (X : Cx) (st : List Stmt) (t : TS) : Prop :=
 ∀ (pins : List (Addr × Obj)) (s : Shared) (σ : St) (H : Hp) (D : Ends),Inv X pins σ H s→t D σ H→wpAny (model X.prog X.w) X.A (execs st X.env) (SP X pins D) X.xe s
theorem thn {α : Type} {t : Sem α} {Q Q' : α→Shared→Prop} {M : Model} {A : Around} {E : Value→Shared→Prop} {s : Shared} (h : wpAny M A t Q E s) (hQ : ∀ a s,Q a s→Q' a s) : wpAny M A t Q' E s:=wpAny_mono h hQ fun _ _ x=>x
end L2
namespace L2
open PySem PySem.Spec PyProof.Rows
section
variable {X : Cx}
theorem bin {a b : Expr} {ta tb : TE} (ha : PE X a ta) (hb : PE X b tb) {pins : List (Addr × Obj)} {s : Shared} {σ : St} {H : Hp} {R : V→V→Hp→Prop} (I : Inv X pins σ H s) (h : ta σ H fun x H1=>tb σ H1 fun y H2=>R x y H2)
  {α : Type} {Q : α→Shared→Prop} {f : Value→Value→Sem α}
  (hf : ∀ v u s2 x y H2,Inv X pins σ H2 s2→RelV x v→RelV y u→R x y H2→wpAny (model X.prog X.w) X.A (f v u) Q X.xe s2) :
  wpAny (model X.prog X.w) X.A (eval a X.env) (fun v s₁=>wpAny (model X.prog X.w) X.A (eval b X.env) (fun u s₂=>wpAny (model X.prog X.w) X.A (f v u) Q X.xe s₂) X.xe s₁) X.xe s:=by
 refine thn (ha pins s σ H _ I h) fun v s1 ⟨x,H1,I1,r1,q1⟩=>?_
 refine thn (hb pins s1 σ H1 _ I1 q1) fun u s2 ⟨y,H2,I2,r2,q2⟩=>?_
 exact hf v u s2 x y H2 I2 r1 r2 q2
noncomputable def tVar (i : Nat) : TE:=fun σ H Q=>∃ v,σ[i]? = some (some v)∧Q v H
noncomputable def tC (v : V) : TE:=fun _ H Q=>Q v H
theorem pe_var {i : Nat} {x : Str} {pos : Pos} (hN : X.N[i]? = some x) (hv : Vis X.env.scope x) (hd : (x == ("__debug__" : Str)) = false:=by decide) (hcd : (x == ("__classdict__" : Str)) = false:=by decide) : PE X (.Name x pos) (tVar i):=by
 intro pins s σ H Q I h
 obtain ⟨v,e,h⟩:=h
 obtain ⟨m,hn,hl⟩:=I.loc
 obtain ⟨u,r,l⟩:=hl i x v hN e hv
 have fin : EP X pins σ Q u s:=⟨v,H,I,r,h⟩
 rcases l with ⟨hk,hm⟩ | ⟨hk,c,hc,hcell⟩
 ·exact wpAny_Name (wpAny_loadName_local I.ok.kind hk hn hm fin) hd
 ·rcases hk with hk | hk
  ·exact wpAny_Name (wpAny_loadName_cell I.ok.kind hk hc hcell fin) hd
  ·exact wpAny_Name (wpAny_loadName_free I.ok.kind hk hc hcell fin hcd) hd
theorem pe_int {i j pos} : PE X (.Constant (.int i) j pos) (tC (.int i)):=fun _ _ _ H _ I h=>wpAny_Constant_int ⟨.int i,H,I.tok _,⟨_,rfl⟩,h⟩
theorem pe_bl {b j pos} : PE X (.Constant (.bool b) j pos) (tC (.bl b)):=fun _ _ _ H _ I h=>Constant_bool ⟨.bl b,H,I,rfl,h⟩
noncomputable def Gl (X : Cx) (x : Str) : Prop:=X.env.kindOf x = some .globalImplicit
theorem ld_glob {E : Value→Shared→Prop} {pins : List (Addr × Obj)} {s : Shared} {σ : St} {H : Hp} {x : Str} {u : Value} {pos : Pos} {Q : Value→Shared→Prop} (I : Inv X pins σ H s) (hg : Gl X x) (hm : X.mg x = some u) (h : Q u s)
  (hd : (x == ("__debug__" : Str)) = false:=by decide) : wpAny (model X.prog X.w) X.A (eval (.Name x pos) X.env) Q E s :=
 Calls.Name_function_global I.ok.kind hg (Calls.loadGlobal_global (by rw [I.ok.glob]; exact I.mod.glob.keeps I.bk) hm h) hd
theorem ld_blt {E : Value→Shared→Prop} {pins : List (Addr × Obj)} {s : Shared} {σ : St} {H : Hp} {x : Str} {u : Value} {pos : Pos} {Q : Value→Shared→Prop} (I : Inv X pins σ H s) (hg : Gl X x) (hm : X.mg x = none) (hv : bootBuiltins x = some u) (h : Q u s)
  (hn : x ≠ "__name__":=by decide) (hd : (x == ("__debug__" : Str)) = false:=by decide) : wpAny (model X.prog X.w) X.A (eval (.Name x pos) X.env) Q E s:=by
 obtain ⟨mb,h1,h2⟩:=I.mod.blt
 exact Calls.Name_function_global I.ok.kind hg (Calls.loadGlobal_builtin (by rw [I.ok.glob]; exact I.mod.glob.keeps I.bk) hm (by rw [I.ok.blt]; exact h1.keeps I.bk) ((h2 x hn).trans hv) h) hd
theorem pe_bltn {x : Str} {v : V} {u : Value} {pos : Pos} (hg : Gl X x) (hm : X.mg x = none) (hv : bootBuiltins x = some u) (r : RelV v u) (hn : x ≠ "__name__":=by decide) (hd : (x == ("__debug__" : Str)) = false:=by decide) : PE X (.Name x pos) (tC v) :=
 fun _ _ _ H _ I h=>ld_blt I hg hm hv ⟨v,H,I,r,h⟩ hn hd
variable {a b : Expr} {ta tb : TE} {pos : Pos}
variable {tA tB' : TT} {rest : List Expr}
noncomputable def tAnd (t u : TT) : TT:=fun σ H Q=>t σ H fun c H1=>if c = true then u σ H1 Q else Q false H1
noncomputable def tOr (t u : TT) : TT:=fun σ H Q=>t σ H fun c H1=>if c = true then Q true H1 else u σ H1 Q
noncomputable def tNot (t : TT) : TT:=fun σ H Q=>t σ H fun c H1=>Q (!c) H1
theorem pw_and1 (ha : PT X a tA) : PW X (.BoolOp .And [a] pos) tA:=by
 intro wh pins s σ H Q I h
 refine isTrue_and (thn (ha pins s σ H Q I h) fun c s1 e=>?_)
 cases c with
 | true=>exact isTrue_and_nil e
 | false=>exact e
theorem pw_or1 (ha : PT X a tA) : PW X (.BoolOp .Or [a] pos) tA:=by
 intro wh pins s σ H Q I h
 refine isTrue_or (thn (ha pins s σ H Q I h) fun c s1 e=>?_)
 cases c with
 | false=>exact isTrue_or_nil e
 | true=>exact e
theorem pw_and (ha : PT X a tA) (hb : PW X (.BoolOp .And (b :: rest) pos) tB') : PW X (.BoolOp .And (a :: b :: rest) pos) (tAnd tA tB'):=by
 intro wh pins s σ H Q I h
 refine isTrue_and (thn (ha pins s σ H _ I h) fun c s1 ⟨H1,I1,q1⟩=>?_)
 cases c with
 | true=>exact hb wh pins s1 σ H1 Q I1 q1
 | false=>exact ⟨H1,I1,q1⟩
theorem pw_or (ha : PT X a tA) (hb : PW X (.BoolOp .Or (b :: rest) pos) tB') : PW X (.BoolOp .Or (a :: b :: rest) pos) (tOr tA tB'):=by
 intro wh pins s σ H Q I h
 refine isTrue_or (thn (ha pins s σ H _ I h) fun c s1 ⟨H1,I1,q1⟩=>?_)
 cases c with
 | true=>exact ⟨H1,I1,q1⟩
 | false=>exact hb wh pins s1 σ H1 Q I1 q1
theorem pt_not (ha : PT X a tA) : PT X (.UnaryOp .Not a pos) (tNot tA):=by
 intro pins s σ H Q I h
 exact isTrue_not (ha pins s σ H (fun c H1=>Q (!c) H1) I h)
theorem pe_one {op} {t : TE} (h : PE X a t) : PE X (.BoolOp op [a] pos) t:=fun pins s σ H Q I hw=>BoolOp_one (h pins s σ H Q I hw)
end
end L2
namespace L2
open PySem PySem.Spec PyProof.Rows
noncomputable def SqL (K : PySem.W.Frag) (H : Hp) (a : Addr) (xs : List V) : Prop :=
 Rd H a (.lst xs) ∨
  ∃ (o : Obj) (its : Array Value) (n : Nat),K.lookup a = some o∧o.cls = .type "list"∧o.dict = none∧o.data = .seq its n∧its.size≤sizeLine∧Vals xs its.toList
noncomputable def SqT (K : PySem.W.Frag) (H : Hp) (a : Addr) (xs : List V) : Prop :=
 Rd H a (.tup xs) ∨
  ∃ (o : Obj) (its : Array Value) (n : Nat),K.lookup a = some o∧o.cls = .type "tuple"∧o.data = .seq its n∧its.size≤sizeLine∧Vals xs its.toList
noncomputable def absV : Value→Option V
 | .none=>some .non
 | .bool b=>some (.bl b)
 | .int i _=>some (.int i)
 | .str x _=>some (.str x)
 | .bytes b _=>some (.byt b)
 | .float b _=>some (.flt b)
 | .ref a=>some (.ref a)
 | .type n=>some (.ty n)
 | _=>none
theorem RelV.abs {x : V} {u : Value} (r : RelV x u) : absV u = some x:=by
 cases x with
 | non=>cases r; rfl
 | bl _=>cases r; rfl
 | int _=>obtain ⟨t,rfl⟩:=r; rfl
 | str _=>obtain ⟨t,rfl⟩:=r; rfl
 | byt _=>obtain ⟨t,rfl⟩:=r; rfl
 | flt _=>obtain ⟨t,rfl⟩:=r; rfl
 | ref _=>cases r; rfl
 | ty _=>cases r; rfl
theorem RelV.inj {x y : V} {u : Value} (r : RelV x u) (q : RelV y u) : x = y:=Option.some.inj (r.abs.symm.trans q.abs)
theorem Vals.inj : ∀ {xs ys : List V} {us : List Value},Vals xs us→Vals ys us→xs = ys
 | _,_,_,.nil,.nil=>rfl
 | _,_,_,.cons r t,.cons r' t'=>by rw [r.inj r',Vals.inj t t']
section
variable {X : Cx} {pins : List (Addr × Obj)} {σ : St} {H : Hp} {s : Shared} {a : Addr} {xs ys : List V}
theorem SqL.of {K : PySem.W.Frag} (h : H a = some (.lst xs)) : SqL K H a xs:=.inl (.inl h)
theorem SqT.of {K : PySem.W.Frag} (h : H a = some (.tup xs)) : SqT K H a xs:=.inl (.inl h)
theorem Inv.list (I : Inv X pins σ H s) (h : SqL X.K H a xs) : ∃ its : List Value,Vals xs its∧PlainL s.heap a its.toArray∧xs.length≤sizeLine:=by
 rcases h with h | ⟨o,its,n,hk,hc,hd,hs,hz,r⟩
 ·obtain ⟨z,its,n,r,e⟩:=h.ok I.hok
  exact ⟨its,r,⟨_,n,e,rfl,rfl,rfl⟩,z⟩
 ·refine ⟨its.toList,r,⟨o,n,I.kIn a o hk,hc,hd,by simpa using hs⟩,?_⟩
  have e:=r.length
  simp only [Array.length_toList] at e
  omega
theorem Inv.tuple (I : Inv X pins σ H s) (h : SqT X.K H a xs) : ∃ its : List Value,Vals xs its∧IsTup s.heap a its.toArray∧xs.length≤sizeLine:=by
 rcases h with h | ⟨o,its,n,hk,hc,hs,hz,r⟩
 ·obtain ⟨z,its,r,p⟩:=h.ok I.hok
  exact ⟨its,r,p,z⟩
 ·refine ⟨its.toList,r,⟨o,I.kIn a o hk,hc,n,by simpa using hs⟩,?_⟩
  have e:=r.length
  simp only [Array.length_toList] at e
  omega
theorem Inv.list_inj (I : Inv X pins σ H s) (h : SqL X.K H a xs) (h' : SqL X.K H a ys) : xs = ys:=by
 obtain ⟨its,r,⟨o,n,e,_,_,d⟩,_⟩:=I.list h
 obtain ⟨its',r',⟨o',n',e',_,_,d'⟩,_⟩:=I.list h'
 rw [e] at e'; cases e'
 rw [d] at d'
 injection d' with d1 _
 have : its = its':=by simpa using congrArg Array.toList d1
 subst this
 exact r.inj r'
end
noncomputable abbrev Cx.wish (X : Cx) (E : Value→Shared→Prop) : Cx:={ X with xe:=E }
noncomputable abbrev Cx.nox (X : Cx) : Cx:=X.wish fun _ _=>False
theorem Cx.Ok.wish {X : Cx} (ok : X.Ok) (E : Value→Shared→Prop) : (X.wish E).Ok :=
 ⟨ok.mod,ok.kind,ok.glob,ok.blt,ok.above,ok.inj,ok.has,ok.cab,ok.hd,ok.frames,ok.stk,ok.exf,ok.bs,ok.bsz,ok.noex,ok.exfs,ok.funs,ok.frf⟩
theorem Cx.Ok.unwish {X : Cx} {E : Value→Shared→Prop} (ok : (X.wish E).Ok) : X.Ok :=
 ⟨ok.mod,ok.kind,ok.glob,ok.blt,ok.above,ok.inj,ok.has,ok.cab,ok.hd,ok.frames,ok.stk,ok.exf,ok.bs,ok.bsz,ok.noex,ok.exfs,ok.funs,ok.frf⟩
section
variable {X : Cx} {pins : List (Addr × Obj)} {σ : St} {H : Hp} {s : Shared} {E : Value→Shared→Prop}
theorem Inv.wish (I : Inv X pins σ H s) (E : Value→Shared→Prop) : Inv (X.wish E) pins σ H s:=⟨I.ok.wish E,I.os,I.bare,I.base,I.loc,I.cell,I.free,I.freeC,I.pin,I.hok,I.len⟩
theorem Inv.unwish (I : Inv (X.wish E) pins σ H s) : Inv X pins σ H s:=⟨I.ok.unwish,I.os,I.bare,I.base,I.loc,I.cell,I.free,I.freeC,I.pin,I.hok,I.len⟩
theorem SP.unwish {D : Ends} {f : Flow} {s' : Shared} (h : SP (X.wish E) pins D f s') : SP X pins D f s':=by
 cases f with
 | next=>obtain ⟨σ',H',I,q⟩:=h; exact ⟨σ',H',I.unwish,q⟩
 | brk=>obtain ⟨σ',H',I,q⟩:=h; exact ⟨σ',H',I.unwish,q⟩
 | cont=>obtain ⟨σ',H',I,q⟩:=h; exact ⟨σ',H',I.unwish,q⟩
 | ret u=>obtain ⟨v,σ',H',I,r,q⟩:=h; exact ⟨v,σ',H',I.unwish,r,q⟩
theorem PSs.nox {st : List Stmt} {t : TS} (h : PSs X.nox st t) : PSs X st t:=fun pins s σ H D I hw =>
 wpAny_mono (h pins s σ H D (I.wish _) hw) (fun _ _ q=>q.unwish) fun _ _ z=>False.elim z
end
section
variable {X : Cx} {st : Stmt} {rest : List Stmt} {t u : TS} {e : Expr} {te : TE} {pos : Pos}
noncomputable def tNext : TS:=fun D σ H=>D.nx σ H
noncomputable def tSeq (t u : TS) : TS:=fun D σ H=>t { D with nx:=u D } σ H
theorem pss_nil : PSs X [] tNext:=fun _ _ σ H _ I h=>wpAny_execs_nil ⟨σ,H,I,h⟩
theorem pss_cons (h1 : PS X st t) (h2 : PSs X rest u) : PSs X (st :: rest) (tSeq t u):=by
 intro pins s σ H D I h
 refine wpAny_execs_cons (thn (h1 pins s σ H { D with nx:=u D } I h) fun f s1 q=>?_)
 cases f with
 | next =>
  obtain ⟨σ',H',I',q⟩:=q
  exact h2 pins s1 σ' H' D I' q
 | ret v=>exact q
 | brk=>exact q
 | cont=>exact q
theorem pss_one (h1 : PS X st t) : PSs X [st] t:=by
 intro pins s σ H D I h
 refine wpAny_execs_cons (thn (h1 pins s σ H D I h) fun f s1 q=>?_)
 cases f with
 | next=>exact wpAny_execs_nil q
 | ret v=>exact q
 | brk=>exact q
 | cont=>exact q
theorem Inv.quiet {pins : List (Addr × Obj)} {σ : St} {H : Hp} {s : Shared} (I : Inv X pins σ H s) : interactive X.env = false:=by simp [interactive,I.ok.kind]
noncomputable def tDrop (te : TE) : TS:=fun D σ H=>te σ H fun _ H1=>D.nx σ H1
theorem ps_expr (he : PE X e te) (hs : swapsWith e none pos.line X.env = pure false:=by rfl) : PS X (.Expr e pos) (tDrop te):=by
 intro pins s σ H D I h
 exact wpAny_Expr_any (thn (he pins s σ H _ I h) fun v s1 ⟨x,H1,I1,r1,q1⟩=>⟨σ,H1,I1,q1⟩) I.quiet hs
noncomputable def tRet (te : TE) : TS:=fun D σ H=>te σ H D.rt
theorem ps_ret (he : PE X e te) : PS X (.Return (some e) pos) (tRet te):=by
 intro pins s σ H D I h
 exact wpAny_Return_some (thn (he pins s σ H _ I h) fun v s1 ⟨x,H1,I1,r1,q1⟩=>⟨x,σ,H1,I1,r1,q1⟩)
noncomputable def tIfS (c : TT) (t u : TS) : TS:=fun D σ H=>c σ H fun b H1=>if b = true then t D σ H1 else u D σ H1
theorem ps_if {c : Expr} {a b : List Stmt} {tc : TT} (hc : PT X c tc) (ha : PSs X a t) (hb : PSs X b u) : PS X (.If c a b pos) (tIfS tc t u):=by
 intro pins s σ H D I h
 refine wpAny_If (thn (hc pins s σ H _ I h) fun d s1 ⟨H1,I1,q1⟩=>?_)
 cases d with
 | true=>exact ha pins s1 σ H1 D I1 q1
 | false=>exact hb pins s1 σ H1 D I1 q1
end
noncomputable abbrev TG:=V→St→Hp→(St→Hp→Prop)→Prop
noncomputable abbrev TGs:=List V→St→Hp→(St→Hp→Prop)→Prop
noncomputable def PG (X : Cx) (target : Expr) (t : TG) : Prop :=
 ∀ (pins : List (Addr × Obj)) (s : Shared) (σ : St) (H : Hp) (v : V) (u : Value) (Q : St→Hp→Prop),Inv X pins σ H s→RelV v u→t v σ H Q →
  wpAny (model X.prog X.w) X.A (assign target X.env u) (fun _ s'=>∃ σ' H',Inv X pins σ' H' s'∧Q σ' H') X.xe s
noncomputable def PGs (X : Cx) (ts : List Expr) (t : TGs) : Prop :=
 ∀ (pins : List (Addr × Obj)) (s : Shared) (σ : St) (H : Hp) (vs : List V) (us : List Value) (Q : St→Hp→Prop),Inv X pins σ H s→Vals vs us→t vs σ H Q →
  wpAny (model X.prog X.w) X.A (assignInOrder ((assignEach ts X.env).map (·.2)) us) (fun _ s'=>∃ σ' H',Inv X pins σ' H' s'∧Q σ' H') X.xe s
noncomputable abbrev TSet:=V→V→V→Hp→(Hp→Prop)→Prop
noncomputable def PSet (X : Cx) (t : TSet) : Prop :=
 ∀ (pins : List (Addr × Obj)) (s : Shared) (σ : St) (H : Hp) (o i v : V) (ov iv u : Value) (Q : Hp→Prop),Inv X pins σ H s→RelV o ov→RelV i iv→RelV v u→t o i v H Q →
  wpAny (model X.prog X.w) X.A (setItem ov iv u) (fun _ s'=>∃ H',Inv X pins σ H' s'∧Q H') X.xe s
noncomputable abbrev TIp:=V→V→Hp→VK→Prop
noncomputable def PIp (X : Cx) (op : Operator) (t : TIp) : Prop :=
 ∀ (pins : List (Addr × Obj)) (s : Shared) (σ : St) (H : Hp) (x y : V) (v u : Value) (Q : VK),Inv X pins σ H s→RelV x v→RelV y u→t x y H Q →
  wpAny (model X.prog X.w) X.A (inplaceOp op v u) (EP X pins σ Q) X.xe s
section
variable {X : Cx} {pos : Pos}
noncomputable def gName (i : Nat) : TG:=fun v σ H Q=>Q (σ.set i (some v)) H
theorem pg_name {i : Nat} {x : Str} (hN : X.N.Nodup) (hi : X.N[i]? = some x) (hx : Loc X.env.scope x) (hf : X.fn x = true∨X.env.scope.names.lookup x = some .local:=by first | exact .inl rfl | exact .inr rfl | assumption) : PG X (.Name x pos) (gName i):=by
 intro pins s σ H v u Q I r h
 exact wpAny_assign_Name (store_ok I hN hi hx r (fun s' I'=>⟨_,H,I',h⟩) hf)
noncomputable def gTup (K : PySem.W.Frag) (n : Nat) (t : TGs) : TG:=fun v σ H Q=>∃ a xs,v = .ref a∧SqT K H a xs∧xs.length = n∧t xs σ H Q
theorem pg_tup {es : List Expr} {k : Nat} {t : TGs} {n : Nat} (hc : X.calm = true) (h : PGs X es t)
  (hn : (assignEach es X.env).length = n:=by rfl) (hst : (assignEach es X.env).findIdx? (·.1) = none:=by rfl) : PG X (.Tuple es k pos) (gTup X.K n t):=by
 intro pins s σ H v u Q I r hw
 obtain ⟨a,xs,e1,hq,hl,hw⟩:=hw
 subst e1
 cases r
 obtain ⟨its,rv,ht,hz⟩:=I.tuple hq
 refine assign_Tuple_tuple (I.ok.hd hc) ht (by simp [hn,← hl,rv.length]) hst fun h' hx=>?_
 have I1 : Inv X pins σ H { s with heap:=h' }:=I.kept (t':=s.toks) fun b o e=>hx b o (Nat.ne_of_lt (Heap.lt_size e)) e
 exact h pins _ σ H xs _ Q I1 (by simpa using rv) hw
noncomputable def gSub (to ti : TE) (t : TSet) : TG:=fun v σ H Q=>to σ H fun o H1=>ti σ H1 fun i H2=>t o i v H2 fun H3=>Q σ H3
theorem pg_sub {o i : Expr} {to ti : TE} {t : TSet} (ho : PE X o to) (hi : PE X i ti) (hs : PSet X t)
  (ha : ∀ v,assign (.Subscript o i pos) X.env v = (do
   let ov ← holding [v] (eval o X.env)
   let iv ← holding [v,ov] (eval i X.env)
   standAt pos
   holding [v,ov,iv] (setItem ov iv v)
   release [v,ov,iv] []):=by intro _; rfl) : PG X (.Subscript o i pos) (gSub to ti t):=by
 intro pins s σ H v u Q I r h
 rw [ha]
 refine wpAny_bind (wpAny_holding (thn (ho pins s σ H _ I h) fun ov s1 ⟨x,H1,I1,r1,q1⟩=>?_))
 refine wpAny_bind (wpAny_holding (thn (hi pins s1 σ H1 _ I1 q1) fun iv s2 ⟨y,H2,I2,r2,q2⟩=>?_))
 refine wpAny_bind (wpAny_standAt (wpAny_bind (wpAny_holding (thn (hs pins s2 σ H2 x y v ov iv u _ I2 r1 r2 r q2) fun _ s3 ⟨H3,I3,q3⟩=>?_))))
 exact wpAny_release ⟨σ,H3,I3,q3⟩
noncomputable def tAsg (te : TE) (g : TG) : TS:=fun D σ H=>te σ H fun x H1=>g x σ H1 D.nx
theorem ps_asg {tg e : Expr} {te : TE} {g : TG} (he : PE X e te) (hg : PG X tg g) (hs : swapsWithSole [tg] e pos.line X.env = pure false:=by rfl) (hw : swappedStores [tg] e X.env = pure none:=by rfl)
  (h1 : (assignEach [tg] X.env).map (·.2) = [assign tg X.env]:=by rfl) : PS X (.Assign [tg] e pos) (tAsg te g):=by
 intro pins s σ H D I h
 refine wpAny_Assign_stores (thn (he pins s σ H _ I h) fun v s1 ⟨x,H1,I1,r1,q1⟩=>?_) hs hw
 rw [h1]
 exact thn (hg pins s1 σ H1 x v _ I1 r1 q1) fun _ s2 q=>q
theorem ps_set {i : Nat} {x : Str} {e : Expr} {te : TE} {pos' : Pos} (hN : X.N.Nodup) (hi : X.N[i]? = some x) (hx : Loc X.env.scope x) (he : PE X e te) (hs : swapsWith e (some (.Name x pos')) pos.line X.env = pure false:=by rfl) (hf : X.fn x = true∨X.env.scope.names.lookup x = some .local:=by first | exact .inl rfl | exact .inr rfl | assumption) :
  PS X (.Assign [.Name x pos'] e pos) (tAsg te (gName i)):=by
 intro pins s σ H D I h
 refine wpAny_Assign_Name (thn (he pins s σ H _ I h) fun v s1 ⟨y,H1,I1,r1,q1⟩=>?_) hs
 exact store_ok I1 hN hi hx r1 (fun s2 I2=>⟨_,H1,I2,q1⟩) hf
noncomputable def tAug (i : Nat) (te : TE) (ti : TIp) : TS:=fun D σ H=>∃ x,σ[i]? = some (some x)∧te σ H fun y H1=>ti x y H1 fun z H2=>D.nx (σ.set i (some z)) H2
theorem ps_aug {i : Nat} {x : Str} {e : Expr} {te : TE} {op : Operator} {ti : TIp} {pos' : Pos} (hN : X.N.Nodup) (hi : X.N[i]? = some x) (hx : Loc X.env.scope x) (he : PE X e te) (ho : PIp X op ti) (hf : X.fn x = true∨X.env.scope.names.lookup x = some .local:=by first | exact .inl rfl | exact .inr rfl | assumption) :
  PS X (.AugAssign (.Name x pos') op e pos) (tAug i te ti):=by
 intro pins s σ H D I h
 obtain ⟨v,e1,h⟩:=h
 obtain ⟨m,hn,hl⟩:=I.loc
 have vis : Vis X.env.scope x:=by rcases hx with k | k; exact .inl k; exact .inr (.inl k)
 obtain ⟨u,r,l⟩:=hl i x v hi e1 vis
 refine wpAny_AugAssign_Name ?_
 have go : wpAny (model X.prog X.w) X.A (eval e X.env) (fun w s₂=>wpAny (model X.prog X.w) X.A (inplaceOp op u w) (fun r s₃=>wpAny (model X.prog X.w) X.A (storeName X.env x r) (fun _=>SP X pins D .next) X.xe s₃) X.xe s₂) X.xe s:=by
  refine thn (he pins s σ H _ I h) fun w s1 ⟨y,H1,I1,r1,q1⟩=>?_
  refine thn (ho pins s1 σ H1 v y u w _ I1 r r1 q1) fun z s2 ⟨zv,H2,I2,r2,q2⟩=>?_
  exact store_ok I2 hN hi hx r2 (fun s3 I3=>⟨_,H2,I3,q2⟩) hf
 rcases l with ⟨hk,hm⟩ | ⟨hk,c,hc,hcell⟩
 ·exact wpAny_loadName_local I.ok.kind hk hn hm go
 ·rcases hk with hk | hk
  ·exact wpAny_loadName_cell I.ok.kind hk hc hcell go
  ·rcases hx with k | k
   ·have : X.env.scope.names.lookup x = some .free:=hk
    rw [k] at this; cases this
   ·have : X.env.scope.names.lookup x = some .free:=hk
    rw [k] at this; cases this
noncomputable def tAugS (to ti te : TE) (tget : V→V→Hp→VK→Prop) (tip : TIp) (tset : TSet) : TS:=fun D σ H=>to σ H fun o H1=>ti σ H1 fun i H2=>tget o i H2 fun x H3=>te σ H3 fun y H4=>tip x y H4 fun z H5=>tset o i z H5 fun H6=>D.nx σ H6
noncomputable def PGet (X : Cx) (t : V→V→Hp→VK→Prop) : Prop :=
 ∀ (pins : List (Addr × Obj)) (s : Shared) (σ : St) (H : Hp) (o i : V) (ov iv : Value) (Q : VK),Inv X pins σ H s→RelV o ov→RelV i iv→t o i H Q →
  wpAny (model X.prog X.w) X.A (getItem ov iv) (EP X pins σ Q) X.xe s
theorem ps_augS {o i e : Expr} {to ti te : TE} {tget : V→V→Hp→VK→Prop} {tip : TIp} {tset : TSet} {op : Operator} {tpos : Pos} (ho : PE X o to) (hi : PE X i ti) (hg : PGet X tget) (he : PE X e te) (hp : PIp X op tip) (hs : PSet X tset)
  (ha : ∀ ov iv new,augStore i ov iv new = (do holding [new,ov,iv] (setItem ov iv new); release [new,ov,iv] []; pure .next):=by intros; rfl) : PS X (.AugAssign (.Subscript o i tpos) op e pos) (tAugS to ti te tget tip tset):=by
 intro pins s σ H D I h
 refine wpAny_AugAssign_SubscriptAny (thn (ho pins s σ H _ I h) fun ov s1 ⟨x1,H1,I1,r1,q1⟩=>?_) ha
 refine thn (hi pins s1 σ H1 _ I1 q1) fun iv s2 ⟨x2,H2,I2,r2,q2⟩=>?_
 refine thn (hg pins s2 σ H2 x1 x2 ov iv _ I2 r1 r2 q2) fun old s3 ⟨x3,H3,I3,r3,q3⟩=>?_
 refine thn (he pins s3 σ H3 _ I3 q3) fun v s4 ⟨x4,H4,I4,r4,q4⟩=>?_
 refine thn (hp pins s4 σ H4 x3 x4 old v _ I4 r3 r4 q4) fun new s5 ⟨x5,H5,I5,r5,q5⟩=>?_
 exact thn (hs pins s5 σ H5 x1 x2 x5 ov iv new _ I5 r1 r2 r5 q5) fun _ s6 ⟨H6,I6,q6⟩=>⟨σ,H6,I6,q6⟩
noncomputable def ipI (f : Int→Int→Int) : TIp:=fun x y H Q=>∃ i j,x = .int i∧y = .int j∧Q (.int (f i j)) H
theorem ip_add : PIp X .Add (ipI fun i j=>i + j):=by
 intro pins s σ H x y v u Q I r1 r2 h
 obtain ⟨i,j,e1,e2,q⟩:=h
 subst e1; subst e2
 obtain ⟨t,rfl⟩:=r1
 obtain ⟨t',rfl⟩:=r2
 exact iadd_int ⟨.int _,H,I.tok _,⟨_,rfl⟩,q⟩
end
section
variable {X : Cx} {pos : Pos}
noncomputable def tWhile (c : TT) (tb : TS) : TS:=fun D σ H=>∃ W : Nat→St→Hp→Prop,(∃ m,W m σ H)∧∀ m σ H,W m σ H →
 c σ H fun b H1=>if b = true then ∃ N : St→Hp→Prop,(∀ σ' H',N σ' H'→∃ m',m' < m∧W m' σ' H')∧tb { D with nx:=N,ct:=N,bk:=D.nx } σ H1 else D.nx σ H1
theorem ps_while {c : Expr} {body : List Stmt} {tc : TT} {tb : TS} (hp : PassesOwn (model X.prog X.w) X.A X.env X.xe) (hc : PT X c tc) (hb : PSs X body tb) : PS X (.While c body [] pos) (tWhile tc tb):=by
 intro pins s σ H D I h
 obtain ⟨W,⟨m0,w0⟩,turn⟩:=h
 refine wpAny_While (codeAny_whileLoop (fun n s'=>∃ σ' H',Inv X pins σ' H' s'∧W n σ' H') ?_ m0 ⟨σ,H,I,w0⟩)
 rintro n s1 ⟨σ1,H1,I1,w1⟩
 refine wpAny_passesOwn hp (thn (hc pins s1 σ1 H1 _ I1 (turn n σ1 H1 w1)) fun b s2 ⟨H2,I2,q2⟩=>?_)
 cases b with
 | true =>
  obtain ⟨N,hN,q2⟩:=q2
  rw [if_pos rfl]
  refine wpAny_passesOwn hp (thn (hb pins s2 σ1 H2 _ I2 q2) fun f s3 q3=>?_)
  cases f with
  | next =>
   obtain ⟨σ3,H3,I3,n3⟩:=q3
   obtain ⟨m',hm,w3⟩:=hN σ3 H3 n3
   exact ⟨m',hm,σ3,H3,I3,w3⟩
  | cont =>
   obtain ⟨σ3,H3,I3,n3⟩:=q3
   obtain ⟨m',hm,w3⟩:=hN σ3 H3 n3
   exact ⟨m',hm,σ3,H3,I3,w3⟩
  | brk=>exact q3
  | ret v=>exact q3
 | false =>
  rw [if_neg Bool.false_ne_true]
  exact wpAny_execs_nil ⟨σ1,H2,I2,q2⟩
end
structure It where
 go : Nat→Hp→Prop
 yld : Nat→Hp→V→Hp→Prop
 stop : Nat→Hp→Prop
noncomputable def FpOk (X : Cx) (pins : List (Addr × Obj)) (H : Hp) (b : Addr) : Prop :=
 H b = none∧b ≠ X.env.locals∧b ∉ X.fs∧(b∈X.ex∨X.s₀.heap.objs.size≤b)∧(∀ x c,X.env.cells.lookup x = some c→c ≠ b)∧∀ p∈X.pn ++ pins,p.1 ≠ b
theorem Inv.fpOk {X : Cx} {pins : List (Addr × Obj)} {σ : St} {H H' : Hp} {s : Shared} {b : Addr} (I : Inv X pins σ H s) (hb : s.heap.objs.size≤b) (hn : H' b = none) : FpOk X pins H' b:=by
 refine ⟨hn,Nat.ne_of_gt (Nat.lt_of_lt_of_le I.lt hb),I.nofs hb,.inr (Nat.le_trans I.sz hb),fun x c e z=>?_,fun p hp z=>?_⟩
 ·obtain ⟨v,q⟩:=I.cell x c e
  exact absurd (Nat.lt_of_lt_of_le q.lt (by rw [z]; exact hb)) (Nat.lt_irrefl _)
 ·exact absurd (Nat.lt_of_lt_of_le (Heap.lt_size (I.pin p hp).1) (by rw [z]; exact hb)) (Nat.lt_irrefl _)
structure Turn (P : Program) (w : World) (K : PySem.W.Frag) (tg : Expr) (J : It) (fp : List Addr) (it : Addr) (tn : Nat→Heap→Prop) : Prop where
 mem : it∈fp
 obj : ∀ i h,tn i h→∀ b∈fp,∃ o,h.get? b = some o∧∀ v,o.data ≠ .cell v
 keep : ∀ i h h',tn i h→(∀ b∈fp,∀ o,h.get? b = some o→h'.get? b = some o)→tn i h'
 item : ∀ (X : Cx),X.prog = P→X.w = w→X.K = K→X.calm = true→∀ (i : Nat) (pins : List (Addr × Obj)) (s : Shared) (σ : St) (H : Hp) (E : Value→Shared→Prop),Inv X pins σ H s→(∀ b∈fp,FpOk X pins H b)→tn i s.heap→J.go i H →
  wpAny (model P w) X.A (pyNext (.ref it)) (fun r s1=>∃ u,r = some u ∧
   wpAny (model P w) X.A (letOwnedTupleGo tg (.ref it) u) (fun _ s2=>∃ x H',Inv X pins σ H' s2∧RelV x u∧J.yld i H x H'∧tn (i + 1) s2.heap∧∀ b∈fp,H' b = none) E s1) E s
 done : ∀ (X : Cx),X.prog = P→X.w = w→X.K = K→X.calm = true→∀ (i : Nat) (pins : List (Addr × Obj)) (s : Shared) (σ : St) (H : Hp) (E : Value→Shared→Prop),Inv X pins σ H s→(∀ b∈fp,FpOk X pins H b)→tn i s.heap→J.stop i H →
  wpAny (model P w) X.A (pyNext (.ref it)) (fun r s1=>r = none∧Inv X pins σ H s1) E s
 self : ∀ (A : Around) (i : Nat) (s : Shared) (Q : Value→Shared→Prop) (E : Value→Shared→Prop),tn i s.heap→Q (.ref it) s→wpAny (model P w) A (pyIter (.ref it)) Q E s
noncomputable abbrev TI:=St→Hp→(It→Hp→Prop)→Prop
noncomputable def PIE (X : Cx) (pins : List (Addr × Obj)) (σ : St) (tg : Expr) (R : It→Hp→Prop) (itv : Value) (s2 : Shared) : Prop :=
 ∃ (it : Addr) (fp : List Addr) (tn : Nat→Heap→Prop) (J : It) (H' : Hp),itv = .ref it∧Inv X pins σ H' s2∧Turn X.prog X.w X.K tg J fp it tn∧tn 0 s2.heap∧(∀ b∈fp,FpOk X pins H' b)∧R J H'
noncomputable def PI (X : Cx) (tg iter : Expr) (wi : TI) : Prop :=
 ∀ (pins : List (Addr × Obj)) (s : Shared) (σ : St) (H : Hp) (R : It→Hp→Prop),Inv X pins σ H s→wi σ H R →
  wpAny (model X.prog X.w) X.A (eval iter X.env) (fun v s1=>wpAny (model X.prog X.w) X.A (pyIter v) (PIE X pins σ tg R) X.xe s1) X.xe s
theorem go_of {M : Model} {A : Around} {E : Value → Shared → Prop} {s : Shared} {tg : Expr} {it : Addr} {u : Value} {o : Obj} {n : String} {vs : Array Value} {Q : Unit → Shared → Prop} (ho : s.heap.get? it = some o) (hc : o.cls = .type n) (hd : o.data = .fields vs)
    (hn : ["enumerate", "zip", "dict_itemiterator", "dict_reverseitemiterator", "odict_iterator", "itertools.zip_longest", "itertools.pairwise"].contains n = false) (hQ : Q () s) : wpAny M A (letOwnedTupleGo tg (.ref it) u) Q E s := by
  unfold letOwnedTupleGo
  cases tg <;> first
    | exact wpAny_pure hQ
    | (cases u <;> first
        | exact wpAny_pure hQ
        | (refine wpAny_bind (wpAny_load ho ?_)
           rw [hc, hd]
           show wpAny M A (if (["enumerate", "zip", "dict_itemiterator", "dict_reverseitemiterator", "odict_iterator", "itertools.zip_longest", "itertools.pairwise"].contains n && vs[0]? == some (rawInt _)) = true then _ else _) Q E s
           rw [if_neg (by intro h; rw [hn, Bool.false_and] at h; cases h)]
           exact wpAny_pure hQ))
noncomputable def Itl (K : PySem.W.Frag) (a : Addr) : It :=
 ⟨fun i H=>∃ xs x,SqL K H a xs∧xs[i]? = some x,fun i H x H'=>H' = H∧∀ xs,SqL K H a xs→xs[i]? = some x,fun i H=>∃ xs,SqL K H a xs∧xs.length≤i⟩
noncomputable def Itr (lo : Int) (n : Nat) : It:=⟨fun i _=>i < n,fun i H x H'=>H' = H∧x = .int (lo + i),fun i _=>n≤i⟩
theorem turn_list {P : Program} {w : World} {K : PySem.W.Frag} {tg : Expr} (a it : Addr) : Turn P w K tg (Itl K a) [it] it (fun i h=>h.IsListIter it a i) where
 mem:=by simp
 obj:=fun i h st b hb=>by
  have e : b = it:=by simpa using hb
  subst e
  obtain ⟨o,e,c,d⟩:=st
  exact ⟨o,e,fun v z=>by rw [d] at z; cases z⟩
 keep:=fun i h h' st k=>st.at fun o e=>k it (by simp) o e
 item:=by
  intro X hP hw hK hc i pins s σ H E I hf st hg
  subst hP hw hK
  obtain ⟨xs,x,hq,hx⟩:=hg
  obtain ⟨its,rv,p,hz⟩:=I.list hq
  obtain ⟨u,hu,ru⟩:=rv.get hx
  obtain ⟨f0,f1,f2,f3,f4,f5⟩:=hf it (by simp)
  refine wpAny_pyNext_list_item st p.isList (x:=u) (by simpa using hu) fun h' st' sb=>?_
  have I1 : Inv X pins σ H { s with heap:=h' }:=I.turned (t':=s.toks) (fun b o hb e=>(sb.2 b hb).trans e) f0 f1 f3 f4 f5
  obtain ⟨o,e,c,d⟩:=id st'
  exact ⟨u,rfl,go_of (s:={ s with heap:=h' }) e c d (by decide) ⟨x,H,I1,ru,⟨rfl,fun ys hy=>by rw [I.list_inj hy hq]; exact hx⟩,st',fun b hb=>(hf b hb).1⟩⟩
 done:=by
  intro X hP hw hK hc i pins s σ H E I hf st hg
  subst hP hw hK
  obtain ⟨xs,hq,hx⟩:=hg
  obtain ⟨its,rv,p,hz⟩:=I.list hq
  obtain ⟨f0,f1,f2,f3,f4,f5⟩:=hf it (by simp)
  have hl:=rv.length
  exact wpAny_pyNext_list_end (I.ok.hd hc) st p.isList (by simp; omega) fun h' eb=>⟨rfl,I.turned (t':=s.toks) (fun b o hb e=>eb b o hb e) f0 f1 f3 f4 f5⟩
 self:=fun _ _ _ _ _ st h=>wpAny_pyIter_listiter st h
theorem turn_range {P : Program} {w : World} {K : PySem.W.Frag} {tg : Expr} (it : Addr) (lo : Int) (n : Nat) : Turn P w K tg (Itr lo n) [it] it (fun i h=>IsRangeIter h it (lo + (i : Nat) * 1) ((n : Int) - (i : Nat)) 1) where
 mem:=by simp
 obj:=fun i h st b hb=>by
  have e : b = it:=by simpa using hb
  subst e
  exact ⟨_,st,fun v z=>by
   have z' : Data.fields _ = Data.cell v:=z
   cases z'⟩
 keep:=fun i h h' st k=>k it (by simp) _ st
 item:=by
  intro X hP hw hK hc i pins s σ H E I hf st hg
  subst hP hw hK
  obtain ⟨f0,f1,f2,f3,f4,f5⟩:=hf it (by simp)
  have W:=Walks.range (prog:=X.prog) (w:=X.w) (I.ok.hd hc) it lo 1 n
  refine W.item i s _ _ hg st fun v h' tk hv st' kk=>?_
  obtain ⟨t,rfl⟩:=hv
  have I1 : Inv X pins σ H { s with heap:=h',toks:=tk }:=I.turned (fun b o hb e=>kk b o (by simpa using hb) e) f0 f1 f3 f4 f5
  refine ⟨_,rfl,go_of (s:={ s with heap:=h',toks:=tk }) (n:="range_iterator") st' rfl rfl (by decide) ⟨.int (lo + i),H,I1,⟨t,?_⟩,⟨rfl,rfl⟩,st',fun b hb=>(hf b hb).1⟩⟩
  rw [Int.mul_one]
 done:=by
  intro X hP hw hK hc i pins s σ H E I hf st hg
  subst hP hw hK
  obtain ⟨f0,f1,f2,f3,f4,f5⟩:=hf it (by simp)
  exact wpAny_pyNext_range_end (I.ok.hd hc) st (by have : n≤i:=hg; omega) fun h' eb=>⟨rfl,I.turned (t':=s.toks) (fun b o hb e=>eb b o hb e) f0 f1 f3 f4 f5⟩
 self:=fun _ _ _ _ _ st h=>wpAny_pyIter_rangeiter st h
end L2
namespace L2
open PySem PySem.Spec PyProof.Rows
section
variable {X : Cx} {tg : Expr}
noncomputable def iList (K : PySem.W.Frag) (tl : TE) : TI:=fun σ H R=>tl σ H fun x H1=>∃ a,x = .ref a∧(∃ xs,SqL K H1 a xs)∧R (Itl K a) H1
theorem pi_list {l : Expr} {tl : TE} (hl : PE X l tl) : PI X tg l (iList X.K tl):=by
 intro pins s σ H R I h
 refine thn (hl pins s σ H _ I h) fun v s1 ⟨x,H1,I1,r1,q1⟩=>?_
 obtain ⟨a,e,⟨xs,hq⟩,q⟩:=q1
 subst e
 cases r1
 obtain ⟨its,rv,p,hz⟩:=I1.list hq
 refine wpAny_pyIter_list p.isList ?_
 refine ⟨s1.heap.objs.size,[s1.heap.objs.size],_,_,H1,rfl,I1.kept (t':=s1.toks) fun b o e=>Heap.get?_push_of_some _ e,turn_list a _,⟨_,Heap.get?_push_size _ rfl,rfl,rfl⟩,fun b hb=>?_,q⟩
 have e : b = s1.heap.objs.size:=by simpa using hb
 subst e
 exact I1.fpOk (Nat.le_refl _) (I1.hok.fresh (Nat.le_refl _))
theorem range_it {pins : List (Addr × Obj)} {σ : St} {H : Hp} {s : Shared} {R : It→Hp→Prop} {E : Value→Shared→Prop} {lo hi : Int} {t u v : Tok} {tk : Nat} (I : Inv X pins σ H s) (h1 : -(2 ^ 62)≤lo) (h2 : lo < 2 ^ 62) (h3 : -(2 ^ 62)≤hi) (h4 : hi < 2 ^ 62)
  (q : R (Itr lo (hi - lo).toNat) H) : wpAny (model X.prog X.w) X.A (pyIter (.ref s.heap.objs.size)) (PIE X pins σ tg R) E { s with heap:=s.heap.push { cls:=.type "range",data:=.fields #[.int lo t,.int hi u,.int 1 v] },toks:=tk }:=by
 refine wpAny_pyIter_range (IsRange.new ..) (small_one h1 h2 h3 h4) ?_
 have I1 : Inv X pins σ H { s with heap:=s.heap.push { cls:=.type "range",data:=.fields #[.int lo t,.int hi u,.int 1 v] },toks:=tk }:=I.kept fun b o e=>Heap.get?_push_of_some _ e
 refine ⟨(s.heap.push { cls:=.type "range",data:=.fields #[.int lo t,.int hi u,.int 1 v] }).objs.size,[(s.heap.push { cls:=.type "range",data:=.fields #[.int lo t,.int hi u,.int 1 v] }).objs.size],_,_,H,rfl,
  I1.kept (t':=tk) fun b o e=>Heap.get?_push_of_some _ e,turn_range _ lo (hi - lo).toNat,?_,fun b hb=>?_,q⟩
 ·have e1 : lo + ((0 : Nat) : Int) * 1 = lo:=by simp
  have e2 : (((hi - lo).toNat : Nat) : Int) - ((0 : Nat) : Int) = Builtin.Range.rangeSize lo hi 1:=by rw [rangeSize_one]; split <;> omega
  show IsRangeIter _ _ (lo + ((0 : Nat) : Int) * 1) ((((hi - lo).toNat : Nat) : Int) - ((0 : Nat) : Int)) 1
  rw [e1,e2]
  exact Heap.get?_push_size _ rfl
 ·have e : b = (s.heap.push { cls:=.type "range",data:=.fields #[.int lo t,.int hi u,.int 1 v] }).objs.size:=by simpa using hb
  subst e
  exact I1.fpOk (Nat.le_refl _) (I1.hok.fresh (Nat.le_refl _))
noncomputable def iRng1 (ta : TA) : TI:=fun σ H R=>ta σ H fun vs H1=>∃ j : Int,vs = [.int j]∧-(2 ^ 62)≤j∧j < 2 ^ 62∧R (Itr 0 j.toNat) H1
theorem pi_range1 {a : Expr} {ta : TA} {p pos : Pos} (hg : Gl X "range") (hm : X.mg "range" = none) (ha : PA X [a] ta) (hs : starEach [a] X.env = [(false,eval a X.env)]:=by rfl) : PI X tg (.Call (.Name "range" p) [a] [] pos) (iRng1 ta):=by
 intro pins s σ H R I h
 refine Call_ (ld_blt I hg hm boot_range (PyProof.Rows.callWith_type1 (thn (ha pos pins s σ H _ I h) fun us s1 ⟨vs,H1,I1,r1,q1⟩=>?_) hs rfl))
 obtain ⟨j,e,q1,q2,q⟩:=q1
 subst e
 cases r1 with
 | cons r rr =>
  cases rr
  obtain ⟨t,rfl⟩:=r
  exact call_range_1 (range_it I1 (by omega) (by omega) q1 q2 (by simpa using q))
noncomputable def tFor (wi : TI) (g : TG) (tb : TS) : TS:=fun D σ H=>wi σ H fun J H1=>∃ W : Nat→Nat→St→Hp→Prop,(∃ m,W 0 m σ H1)∧∀ i m σ H,W i m σ H →
 (J.stop i H∧D.nx σ H)∨(J.go i H∧∃ N : St→Hp→Prop,(∀ σ' H',N σ' H'→∃ m',m' < m∧W (i + 1) m' σ' H')∧∀ x H',J.yld i H x H'→g x σ H' fun σ2 H2=>tb { D with nx:=N,ct:=N,bk:=D.nx } σ2 H2)
noncomputable def pinsAt (fp : List Addr) (h : Heap) : List (Addr × Obj):=fp.filterMap fun b=>(h.get? b).map fun o=>(b,o)
theorem mem_pinsAt {fp : List Addr} {h : Heap} {b : Addr} {o : Obj} (hb : b∈fp) (e : h.get? b = some o) : (b,o)∈pinsAt fp h:=List.mem_filterMap.mpr ⟨b,hb,by rw [e]; rfl⟩
theorem of_pinsAt {fp : List Addr} {h : Heap} {p : Addr × Obj} (hp : p∈pinsAt fp h) : p.1∈fp∧h.get? p.1 = some p.2:=by
 obtain ⟨b,hb,e⟩:=List.mem_filterMap.mp hp
 cases q : h.get? b with
 | none=>rw [q] at e; cases e
 | some o =>
  rw [q] at e
  have e' : (b,o) = p:=Option.some.inj e
  subst e'
  exact ⟨hb,q⟩
theorem Inv.pinned {pins : List (Addr × Obj)} {σ : St} {H : Hp} {s : Shared} {fp : List Addr} (I : Inv X pins σ H s) (hf : ∀ b∈fp,FpOk X pins H b) (ho : ∀ b∈fp,∃ o,s.heap.get? b = some o∧∀ v,o.data ≠ .cell v) : Inv X (pins ++ pinsAt fp s.heap) σ H s :=
 I.pins_of fun p hp=>(List.mem_append.mp hp).elim (fun z=>I.pin p (List.mem_append_right _ z)) fun z=>by
  obtain ⟨hb,e⟩:=of_pinsAt z
  obtain ⟨f0,f1,f2,_⟩:=hf p.1 hb
  obtain ⟨o,e',d⟩:=ho p.1 hb
  rw [e] at e'; cases e'
  exact ⟨e,f0,f1,f2,d⟩
theorem Inv.unpinned {pins pl : List (Addr × Obj)} {σ : St} {H : Hp} {s : Shared} (I : Inv X (pins ++ pl) σ H s) : Inv X pins σ H s:=I.pins_of fun p hp=>I.pin p (List.mem_append_right _ (List.mem_append_left _ hp))
theorem ps_for {iter : Expr} {body : List Stmt} {wi : TI} {g : TG} {tb : TS} {pos : Pos} (hp : PassesOwn (model X.prog X.w) X.A X.env X.xe) (hc : X.calm = true) (hi : PI X tg iter wi) (hg : PG X tg g) (hb : PSs X body tb)
  (hs : ∀ x,foldedSetIterable iter X.env x = pure x:=by intro _; rfl) : PS X (.For tg iter body [] pos) (tFor wi g tb):=by
 intro pins s σ H D I h
 refine wpAny_For (thn (hi pins s σ H _ I h) fun v s1 h1=>thn h1 fun itv s2 h2=>?_) hs
 obtain ⟨it,fp,tn,J,H2,e,I2,T,st2,f2,W,⟨m0,w0⟩,turn⟩:=h2
 subst e
 have stat : ∀ {H' : Hp},(∀ b∈fp,H' b = none)→∀ b∈fp,FpOk X pins H' b:=fun hn b hb=>⟨hn b hb,(f2 b hb).2⟩
 refine codeAny_forLoop_any (fun n s'=>∃ i σ' H',Inv X pins σ' H' s'∧tn i s'.heap∧(∀ b∈fp,H' b = none)∧W i n σ' H') ?_ m0 ⟨0,σ,H2,I2,st2,fun b hb=>(f2 b hb).1,w0⟩
 rintro n s3 ⟨i,σ3,H3,I3,st3,fr3,w3⟩
 rcases turn i n σ3 H3 w3 with ⟨stop,qn⟩ | ⟨go,N,hN,step⟩
 ·refine wpAny_passesOwn hp (thn (T.done X rfl rfl rfl hc i pins s3 σ3 H3 X.xe I3 (stat fr3) st3 stop) fun r s4 ⟨hr,I4⟩=>?_)
  subst hr
  exact wpAny_execs_nil ⟨σ3,H3,I4,qn⟩
 ·refine wpAny_passesOwn hp (thn (T.item X rfl rfl rfl hc i pins s3 σ3 H3 X.xe I3 (stat fr3) st3 go) fun r s4 ⟨u,hr,h4⟩=>?_)
  subst hr
  refine wpAny_passesOwn hp (thn h4 fun _ s5 ⟨x,H5,I5,r5,y5,st5,fr5⟩=>?_)
  have I5':=I5.pinned (stat fr5) (T.obj _ _ st5)
  refine wpAny_passesOwn hp (thn (hg _ s5 σ3 H5 x u _ I5' r5 (step x H5 y5)) fun _ s6 ⟨σ6,H6,I6,q6⟩=>?_)
  refine wpAny_passesOwn hp (thn (hb _ s6 σ6 H6 _ I6 q6) fun f s7 q7=>?_)
  have again : ∀ {σ7 : St} {H7 : Hp},Inv X (pins ++ pinsAt fp s5.heap) σ7 H7 s7→N σ7 H7→∃ m,m < n∧∃ i σ' H',Inv X pins σ' H' s7∧tn i s7.heap∧(∀ b∈fp,H' b = none)∧W i m σ' H':=fun {σ7 H7} I7 n7=>by
   obtain ⟨m',hm,w7⟩:=hN σ7 H7 n7
   refine ⟨m',hm,i + 1,σ7,H7,I7.unpinned,T.keep _ _ _ st5 fun b hb o e=>(I7.pin (b,o) (List.mem_append_right _ (List.mem_append_right _ (mem_pinsAt hb e)))).1,fun b hb=>?_,w7⟩
   obtain ⟨o,e,d⟩:=T.obj _ _ st5 b hb
   exact (I7.pin (b,o) (List.mem_append_right _ (List.mem_append_right _ (mem_pinsAt hb e)))).2.1
  cases f with
  | next=>obtain ⟨σ7,H7,I7,n7⟩:=q7; exact again I7 n7
  | cont=>obtain ⟨σ7,H7,I7,n7⟩:=q7; exact again I7 n7
  | brk=>obtain ⟨σ7,H7,I7,q7⟩:=q7; exact ⟨σ7,H7,I7.unpinned,q7⟩
  | ret v=>obtain ⟨x7,σ7,H7,I7,r7,q7⟩:=q7; exact ⟨x7,σ7,H7,I7.unpinned,r7,q7⟩
end
theorem for_list {K : PySem.W.Frag} {a : Addr} {xs : List V} {g : TG} {tb : TS} {D : Ends} {σ : St} {H : Hp} (Pv : Nat→St→Hp→Prop) (h0 : Pv 0 σ H) (hl : ∀ i σ H,i≤xs.length→Pv i σ H→SqL K H a xs)
  (hs : ∀ i x σ H,xs[i]? = some x→Pv i σ H→g x σ H fun σ2 H2=>tb { D with nx:=Pv (i + 1),ct:=Pv (i + 1),bk:=D.nx } σ2 H2) (hd : ∀ σ H,Pv xs.length σ H→D.nx σ H) :
  ∃ W : Nat→Nat→St→Hp→Prop,(∃ m,W 0 m σ H)∧∀ i m σ H,W i m σ H →
   ((Itl K a).stop i H∧D.nx σ H)∨((Itl K a).go i H∧∃ N : St→Hp→Prop,(∀ σ' H',N σ' H'→∃ m',m' < m∧W (i + 1) m' σ' H')∧∀ x H',(Itl K a).yld i H x H'→g x σ H' fun σ2 H2=>tb { D with nx:=N,ct:=N,bk:=D.nx } σ2 H2):=by
 refine ⟨fun i m σ H=>m = xs.length - i∧i≤xs.length∧Pv i σ H,⟨xs.length,by simp,Nat.zero_le _,h0⟩,?_⟩
 rintro i m σ H ⟨rfl,hi,p⟩
 have q:=hl i σ H hi p
 by_cases hlt : i < xs.length
 ·refine .inr ⟨⟨xs,xs[i],q,by simp [hlt]⟩,Pv (i + 1),fun σ' H' p'=>⟨xs.length - (i + 1),by omega,rfl,hlt,p'⟩,fun x H' y=>?_⟩
  obtain ⟨e,y⟩:=y
  subst e
  exact hs i x σ _ (y xs q) p
 ·have e : i = xs.length:=by omega
  subst e
  exact .inl ⟨⟨xs,q,Nat.le_refl _⟩,hd σ H p⟩
end L2
namespace L2
open PySem PySem.Spec PyProof.Rows
noncomputable abbrev R2:=V→V→Hp→VK→Prop
noncomputable def OpR (X : Cx) (f : Value→Value→Sem Value) (r : R2) : Prop :=
 ∀ (pins : List (Addr × Obj)) (s : Shared) (σ : St) (H : Hp) (x y : V) (v u : Value) (Q : VK),Inv X pins σ H s→RelV x v→RelV y u→r x y H Q →
  wpAny (model X.prog X.w) X.A (f v u) (EP X pins σ Q) X.xe s
noncomputable def UnR (X : Cx) (f : Value→Sem Value) (r : V→Hp→VK→Prop) : Prop :=
 ∀ (pins : List (Addr × Obj)) (s : Shared) (σ : St) (H : Hp) (x : V) (v : Value) (Q : VK),Inv X pins σ H s→RelV x v→r x H Q →
  wpAny (model X.prog X.w) X.A (f v) (EP X pins σ Q) X.xe s
noncomputable def CallR (X : Cx) (f : Value) (r : List V→Hp→VK→Prop) : Prop :=
 ∀ (pins : List (Addr × Obj)) (s : Shared) (σ : St) (H : Hp) (xs : List V) (us : List Value) (Q : VK),Inv X pins σ H s→Vals xs us→r xs H Q →
  wpAny (model X.prog X.w) X.A (call f us) (EP X pins σ Q) X.xe s
noncomputable def tOp (r : R2) (ta tb : TE) : TE:=fun σ H Q=>ta σ H fun x H1=>tb σ H1 fun y H2=>r x y H2 Q
noncomputable def tUn (r : V→Hp→VK→Prop) (ta : TE) : TE:=fun σ H Q=>ta σ H fun x H1=>r x H1 Q
noncomputable def rI (C : Int→Int→Prop) (g : Int→Int→V) : R2:=fun x y H Q=>∃ i j,x = .int i∧y = .int j∧C i j∧Q (g i j) H
noncomputable def rI0 (g : Int→Int→V) : R2:=fun x y H Q=>∃ i j,x = .int i∧y = .int j∧Q (g i j) H
noncomputable def rU (g : Int→V) : V→Hp→VK→Prop:=fun x H Q=>∃ i,x = .int i∧Q (g i) H
section
variable {X : Cx} {a b c : Expr} {ta tb tc : TE} {pos : Pos}
theorem binT (ha : PE X a ta) (hb : PE X b tb) {pins : List (Addr × Obj)} {s : Shared} {σ : St} {H : Hp} {R : V→V→Hp→Prop} (I : Inv X pins σ H s)
  (h : ta σ H fun x H1=>tb σ H1 fun y H2=>R x y H2) {Q : Value→Shared→Prop} {f : Value→Value→Sem Value}
  (hf : ∀ v u s2 x y H2,Inv X pins σ H2 s2→RelV x v→RelV y u→R x y H2→wpAny (model X.prog X.w) X.A (f v u) Q X.xe s2) :
  wpAny (model X.prog X.w) X.A (eval a X.env) (fun v s₁=>wpAny (model X.prog X.w) X.A (eval b X.env) (fun u s₂=>wpAny (model X.prog X.w) X.A (f v u) Q X.xe s₂) X.xe s₁) X.xe s:=by
 refine thn (ha pins s σ H _ I h) fun v s1 ⟨x,H1,I1,r1,q1⟩=>?_
 refine thn (hb pins s1 σ H1 _ I1 q1) fun u s2 ⟨y,H2,I2,r2,q2⟩=>?_
 exact hf v u s2 x y H2 I2 r1 r2 q2
theorem pe_op {op : Operator} {r : R2} (ho : OpR X (binaryOp op) r) (ha : PE X a ta) (hb : PE X b tb) : PE X (.BinOp a op b pos) (tOp r ta tb):=by
 intro pins s σ H Q I h
 exact wpAny_BinOp (binT ha hb I h fun v u s2 x y H2 I2 rx ry q=>ho pins s2 σ H2 x y v u Q I2 rx ry q)
theorem pe_un {op : UnaryOp} {r : V→Hp→VK→Prop} (ho : UnR X (unaryOp op) r) (ha : PE X a ta) : PE X (.UnaryOp op a pos) (tUn r ta):=by
 intro pins s σ H Q I h
 exact UnaryOp_ (thn (ha pins s σ H _ I h) fun v s1 ⟨x,H1,I1,r1,q1⟩=>ho pins s1 σ H1 x v Q I1 r1 q1)
theorem opI {f : Value→Value→Sem Value} {C : Int→Int→Prop} {g : Int→Int→Int}
  (rule : ∀ (i j : Int) (t u : Tok) (s : Shared) (Q : Value→Shared→Prop) (E : Value→Shared→Prop),C i j→Q (.int (g i j) s.toks) { s with toks:=s.toks + 1 }→wpAny (model X.prog X.w) X.A (f (.int i t) (.int j u)) Q E s) :
  OpR X f (rI C fun i j=>.int (g i j)):=by
 intro pins s σ H x y v u Q I rx ry h
 obtain ⟨i,j,rfl,rfl,hc,q⟩:=h
 obtain ⟨t,rfl⟩:=rx
 obtain ⟨t',rfl⟩:=ry
 exact rule i j t t' s _ _ hc ⟨.int (g i j),H,I.tok _,⟨_,rfl⟩,q⟩
theorem opI0 {f : Value→Value→Sem Value} {g : Int→Int→Int}
  (rule : ∀ (i j : Int) (t u : Tok) (s : Shared) (Q : Value→Shared→Prop) (E : Value→Shared→Prop),Q (.int (g i j) s.toks) { s with toks:=s.toks + 1 }→wpAny (model X.prog X.w) X.A (f (.int i t) (.int j u)) Q E s) :
  OpR X f (rI0 fun i j=>.int (g i j)):=by
 intro pins s σ H x y v u Q I rx ry h
 obtain ⟨i,j,rfl,rfl,q⟩:=h
 obtain ⟨t,rfl⟩:=rx
 obtain ⟨t',rfl⟩:=ry
 exact rule i j t t' s _ _ ⟨.int (g i j),H,I.tok _,⟨_,rfl⟩,q⟩
theorem opB0 {f : Value→Value→Sem Value} {g : Int→Int→Bool}
  (rule : ∀ (i j : Int) (t u : Tok) (s : Shared) (Q : Value→Shared→Prop) (E : Value→Shared→Prop),Q (.bool (g i j)) s→wpAny (model X.prog X.w) X.A (f (.int i t) (.int j u)) Q E s) :
  OpR X f (rI0 fun i j=>.bl (g i j)):=by
 intro pins s σ H x y v u Q I rx ry h
 obtain ⟨i,j,rfl,rfl,q⟩:=h
 obtain ⟨t,rfl⟩:=rx
 obtain ⟨t',rfl⟩:=ry
 exact rule i j t t' s _ _ ⟨.bl (g i j),H,I,rfl,q⟩
noncomputable def CPow (i j : Int) : Prop:=0≤j∧j≤1000000∧i.natAbs < 2 ^ 64
theorem op_add : OpR X (binaryOp .Add) (rI0 fun i j=>.int (i + j)):=opI0 fun _ _ _ _ _ _ _ q=>add_int q
theorem op_sub : OpR X (binaryOp .Sub) (rI0 fun i j=>.int (i - j)):=opI0 fun _ _ _ _ _ _ _ q=>sub_int q
theorem op_mod : OpR X (binaryOp .Mod) (rI (fun _ j=>0 < j) fun i j=>.int (i % j)):=opI fun i j _ _ _ _ _ hc q=>by
 have h1 : (0 : Int) < j:=hc
 exact mod_int' (by omega) (by rw [Int.fmod_eq_emod_of_nonneg i (by omega)]; exact q)
theorem op_pow : OpR X (binaryOp .Pow) (rI CPow fun i j=>.int (i ^ j.toNat)):=opI fun _ _ _ _ _ _ _ hc q=>pow_int_small hc.1 hc.2.1 hc.2.2 q
theorem unI {f : Value→Sem Value} {g : Int→Int}
  (rule : ∀ (i : Int) (t : Tok) (s : Shared) (Q : Value→Shared→Prop) (E : Value→Shared→Prop),Q (.int (g i) s.toks) { s with toks:=s.toks + 1 }→wpAny (model X.prog X.w) X.A (f (.int i t)) Q E s) :
  UnR X f (rU fun i=>.int (g i)):=by
 intro pins s σ H x v Q I rx h
 obtain ⟨i,rfl,q⟩:=h
 obtain ⟨t,rfl⟩:=rx
 exact rule i t s _ _ ⟨.int (g i),H,I.tok _,⟨_,rfl⟩,q⟩
theorem un_neg : UnR X (unaryOp .USub) (rU fun i=>.int (-i)):=unI fun _ _ _ _ _ q=>neg_int q
end
section
variable {X : Cx} {a b c : Expr} {ta tb tc : TE} {pos : Pos}
theorem op_lt : OpR X (compareOp .Lt) (rI0 fun i j=>.bl (decide (i < j))):=opB0 fun _ _ _ _ _ _ _ q=>lt_int q
theorem op_le : OpR X (compareOp .LtE) (rI0 fun i j=>.bl (decide (i≤j))):=opB0 fun _ _ _ _ _ _ _ q=>le_int q
theorem op_gt : OpR X (compareOp .Gt) (rI0 fun i j=>.bl (decide (j < i))):=opB0 fun _ _ _ _ _ _ _ q=>gt_int q
theorem nomark (b : Expr) {op : CmpOp} (h : op ≠ .In:=by decide) (h2 : op ≠ .NotIn:=by decide) : behindInMarks op b = false:=by
 have e1 : (op == CmpOp.In) = false:=by cases op <;> first | rfl | exact absurd rfl h
 have e2 : (op == CmpOp.NotIn) = false:=by cases op <;> first | rfl | exact absurd rfl h2
 cases b <;> simp [behindInMarks,e1,e2]
theorem pe_cmpR {op : CmpOp} {r : R2} (ho : OpR X (compareOp op) r) (ha : PE X a ta) (hb : PE X b tb) (hm : behindInMarks op b = false) : PE X (.Compare a [op] [b] pos) (tOp r ta tb):=by
 intro pins s σ H Q I h
 exact wpAny_Compare1 (binT ha hb I h fun v u s2 x y H2 I2 rx ry q=>ho pins s2 σ H2 x y v u Q I2 rx ry q) hm
theorem line63 : (sizeLine : Nat) < 2 ^ 63:=by rw [sizeLine_eq]; decide
theorem vals1 {x : V} {us : List Value} (r : Vals [x] us) : ∃ u,us = [u]∧RelV x u:=by
 cases r with
 | cons r1 r2=>cases r2; exact ⟨_,rfl,r1⟩
theorem vals2 {x y : V} {us : List Value} (r : Vals [x,y] us) : ∃ u w',us = [u,w']∧RelV x u∧RelV y w':=by
 cases r with
 | cons r1 r2 =>
  cases r2 with
  | cons r3 r4=>cases r4; exact ⟨_,_,rfl,r1,r3⟩
theorem call_abs : CallR X (.builtin "abs") (fun xs H Q=>∃ i,xs = [.int i]∧Q (.int (if i < 0 then -i else i)) H):=by
 intro pins s σ H xs us Q I r h
 obtain ⟨i,rfl,q⟩:=h
 obtain ⟨u,rfl,t,rfl⟩:=vals1 r
 exact call_abs_int fun u tk=>⟨.int (if i < 0 then -i else i),H,I.tok _,⟨_,rfl⟩,q⟩
theorem call_max2 (hc : X.calm = true) : CallR X (.builtin "max") (fun xs H Q=>∃ i j,xs = [.int i,.int j]∧Q (.int (if j > i then j else i)) H):=by
 intro pins s σ H xs us Q I r h
 obtain ⟨i,j,rfl,q⟩:=h
 obtain ⟨u,w',rfl,⟨t,rfl⟩,⟨t',rfl⟩⟩:=vals2 r
 refine max_two_ints (I.ok.hd hc) fun h' tk k=>⟨_,H,I.kept k,?_,q⟩
 by_cases hj : j > i
 ·rw [if_pos hj,if_pos hj]; exact ⟨_,rfl⟩
 ·rw [if_neg hj,if_neg hj]; exact ⟨_,rfl⟩
end
end L2
namespace L2
open PySem PySem.Spec PyProof.Rows
structure ObjM (h : Heap) (x dx C : Addr) (mA : Str→Option Value) : Prop where
 obj : h.get? x = some (PySem.W.instObj C dx)
 ns : h.Ns1 dx mA
 ne : dx ≠ x
section
variable {prog : Program} {w : World} {A : Around} {E : Value→Shared→Prop} {s : Shared} {K : PySem.W.Frag} {x dx C f : Addr} {mA : Str→Option Value} {name : Str} {v : Value}
end
section
variable {P : Program} {w : World} {H H' : Hp} {h h' : Heap} {a C dx : Addr} {fs fs' : List (Str × V)}
end
structure Cls (K : PySem.W.Frag) (C : Addr) : Prop where
 pg : PySem.W.plainGet K C Str.empty = true
 hd : PySem.W.hasDictIn K C = true
 po : PySem.W.plainOver K C = true
 sa : PySem.W.findIn K (.ref C) "__setattr__" = some (some (.builtin "object.__setattr__"))
structure Con (K : PySem.W.Frag) (C : Addr) (f : Str) (v : V) (u : Value) : Prop where
 at_ : PySem.W.findIn K (.ref C) f = some (some u)
 rel : RelV v u
 get : PySem.W.specialIn K u "__get__" = some none
 cp : PySem.W.copiedNames.contains f = false
structure Meth (K : PySem.W.Frag) (C : Addr) (m : Str) (f : Addr) : Prop where
 at_ : PySem.W.findIn K (.ref C) m = some (some (.ref f))
 fn : PySem.W.isFn K (.ref f) = true
 kp : PySem.W.keepIn K (.ref f) = true
section
variable {X : Cx} {pins : List (Addr × Obj)} {σ : St} {H : Hp} {s : Shared} {a C dx : Addr} {fs : List (Str × V)} {f : Str} {v : V} {A : Around} {E : Value→Shared→Prop}
end
section
variable {X : Cx} {o e value : Expr} {f : Str} {pos pos' tpos : Pos} {ta tv : TE}
end
section
variable {X : Cx} {pins : List (Addr × Obj)} {σ : St} {H : Hp} {s : Shared} {A : Around} {E : Value→Shared→Prop} {Q : Value→Shared→Prop} {c : Value} {b : Bool}
inductive TyOf (K : PySem.W.Frag) (H : Hp) : V→Value→Prop where
 | non : TyOf K H .non (.type "NoneType")
 | bl (x : Bool) : TyOf K H (.bl x) (.type "bool")
 | int (i : Int) : TyOf K H (.int i) (.type "int")
 | str (x : Str) : TyOf K H (.str x) (.type "str")
 | flt (x : UInt64) : TyOf K H (.flt x) (.type "float")
 | lst {a : Addr} {xs : List V} (e : H a = some (.lst xs)) : TyOf K H (.ref a) (.type "list")
 | frz {a : Addr} {o : Obj} {xs : List V} (e : H a = some (.frz o (.lst xs))) : TyOf K H (.ref a) (.type "list")
 | tup {a : Addr} {xs : List V} (e : H a = some (.tup xs)) : TyOf K H (.ref a) (.type "tuple")
 | dK {a : Addr} {kvs : List (Key × V)} (e : H a = some (.dK kvs)) : TyOf K H (.ref a) (.type "dict")
 | dT {a : Addr} {kvs : List (List Key × V)} (e : H a = some (.dT kvs)) : TyOf K H (.ref a) (.type "dict")
 | ins {a C dx : Addr} {fs : List (Str × V)} (e : H a = some (.ins C dx fs)) (cl : Cls K C) (ha : PySem.W.findIn K (.ref C) "__class__" = some (some (.builtin "object.__class__")))
   (hn : PySem.W.specialIn K (.builtin "object.__class__") "__get__" = some (some (.builtin "getset_descriptor.__get__"))) (htk : PySem.W.takesIn K (.builtin "object.__class__") = some true)
   (hm : PySem.W.mroIn K C (.type "object") = some true) : TyOf K H (.ref a) (.ref C)
end
end L2
namespace L2
open PySem PySem.Spec PyProof.Rows
structure Room (k : Nat) (A : Around) : Prop where
 hd : A.handled = none
 dp : A.depth + 3 * k + 5 < recursionLimit
 un : A.units + 16 * k + 200 < cLine
theorem Room.mono {j k : Nat} {A : Around} (r : Room k A) (h : j≤k) : Room j A:=⟨r.hd,by have:=r.dp; omega,by have:=r.un; omega⟩
theorem Room.deeper {k : Nat} {A : Around} (r : Room (k + 1) A) (env : Env) : Room k (A.deeper env) :=
 ⟨r.hd,by have:=r.dp; show A.depth + 1 + 3 * k + 5 < _; omega,by have:=r.un; show A.units + 3 + 16 * k + 200 < _; omega⟩
theorem Room.depth {k : Nat} {A : Around} (r : Room k A) : A.depth < recursionLimit:=by have:=r.dp; omega
theorem Room.units {k : Nat} {A : Around} (r : Room k A) : A.units + 64 < cLine:=by have:=r.un; omega
noncomputable def tNil : TA:=fun _ H Q=>Q [] H
noncomputable def tCons (ta : TE) (tr : TA) : TA:=fun σ H Q=>ta σ H fun x H1=>tr σ H1 fun xs H2=>Q (x :: xs) H2
section
variable {X : Cx} {e : Expr} {es : List Expr} {te : TE} {t : TA} {pos : Pos}
theorem pa_nil : PA X [] tNil:=fun _ _ _ _ H Q I h=>Calls.spliced_nil ⟨[],H,I,.nil,h⟩
theorem pa_cons (ha : PE X e te) (hr : PA X es t) (hs : starEach (e :: es) X.env = (false,eval e X.env) :: starEach es X.env:=by rfl) : PA X (e :: es) (tCons te t):=by
 intro pos pins s σ H Q I h
 rw [hs]
 show wpAny _ _ (spliced ((false,eval e X.env) :: backTo pos (starEach es X.env))) _ _ s
 refine Calls.spliced_cons (thn (ha pins s σ H _ I h) fun u s1 ⟨x,H1,I1,r1,q1⟩=>?_)
 exact thn (hr pos pins s1 σ H1 _ I1 q1) fun us s2 ⟨xs,H2,I2,r2,q2⟩=>⟨x :: xs,H2,I2,.cons r1 r2,q2⟩
noncomputable def tTup (t : TA) : TE:=fun σ H Q=>t σ H fun xs H1=>xs.length≤sizeLine∧∀ p,H1 p = none→Q (.ref p) (upd H1 p (.tup xs))
noncomputable def tLst (t : TA) : TE:=fun σ H Q=>t σ H fun xs H1=>xs.length≤sizeLine∧∀ p,H1 p = none→Q (.ref p) (upd H1 p (.lst xs))
theorem pe_tup {x1} (h : PA X es t) : PE X (.Tuple es x1 pos) (tTup t):=by
 intro pins s σ H Q I hq
 refine wpAny_Tuple_spliced (thn (h pos pins s σ H _ I hq) fun us s1 ⟨xs,H1,I1,r,z,q⟩=>⟨by rw [← r.length]; exact z,?_⟩)
 have hf : H1 s1.heap.objs.size = none:=I1.hok.fresh (Nat.le_refl _)
 refine ⟨.ref s1.heap.objs.size,upd H1 s1.heap.objs.size (.tup xs),I1.laid (t':=s1.toks) (fun b u e=>Heap.get?_push_of_some _ e) (Nat.le_refl _) ?_,rfl,q _ hf⟩
 exact ⟨z,us,r,⟨_,Heap.get?_push_size _ rfl,rfl,_,rfl⟩⟩
theorem pe_lst (h : PA X es t) : PE X (.List es pos) (tLst t):=by
 intro pins s σ H Q I hq
 refine wpAny_List_spliced (thn (h pos pins s σ H _ I hq) fun us s1 ⟨xs,H1,I1,r,z,q⟩=>⟨by rw [← r.length]; exact z,?_⟩)
 have hf : H1 s1.heap.objs.size = none:=I1.hok.fresh (Nat.le_refl _)
 refine ⟨.ref s1.heap.objs.size,upd H1 s1.heap.objs.size (.lst xs),I1.laid (t':=s1.toks) (fun b u e=>Heap.get?_push_of_some _ e) (Nat.le_refl _) ?_,rfl,q _ hf⟩
 exact ⟨z,us,0,r,Heap.get?_push_size _ rfl⟩
end
noncomputable abbrev Sp:=List V→Hp→VK→XK→Prop
noncomputable abbrev CXT:=List Env→Hp→Shared→XK→Value→Shared→Prop
structure Env0 (P : Program) (w : World) (K : PySem.W.Frag) (mg : Str→Option Value) (base : Heap) (A : Around) (outer : List Env) (s : Shared) (H : Hp) : Prop where
 frames : A.frames = some outer
 mod : Mod K mg base
 bs : ∀ b o,base.get? b = some o→s.heap.get? b = some o∧H b = none
 bsz : base.objs.size≤s.heap.objs.size
 funs : s.heap.FunFrames base outer
 frf : ∀ b∈frs outer,H b = none
 hok : HOk P w H s.heap
 bare : AllBare s.gens
noncomputable def CE (outer : List Env) (P : Program) (w : World) (H : Hp) (s : Shared) (Q : VK) (u : Value) (s' : Shared) : Prop :=
 ∃ v H',s'.os = s.os∧AllBare s'.gens∧Un (frs outer) [] H H' s.heap s'.heap∧HOk P w H' s'.heap∧RelV v u∧Q v H'
noncomputable def CR (CX : CXT) (outer : List Env) (P : Program) (w : World) (H : Hp) (s : Shared) (Q : VK) (E : XK) (r : Result) (s' : Shared) : Prop :=
 match r with
 | .ok (.ret u)=>CE outer P w H s Q u s'
 | .ok _=>False
 | .error e=>CX outer H s E e s'
structure FnOk (P : Program) (w : World) (K : PySem.W.Frag) (mg : Str→Option Value) (base : Heap) (CX : CXT) (k : Nat) (f : Addr) (fd : FuncData) (ps : List Str) (sp : Sp) : Prop where
 len : ∀ vs H Q E,sp vs H Q E→vs.length = ps.length
 run : ∀ (A : Around) (outer : List Env) (s : Shared) (H : Hp) (args : Args) (us : List Value) (vs : List V) (Q : VK) (E : XK),Room k A→Env0 P w K mg base A outer s H→BindsTo s fd args (ps.zip us)→Vals vs us→sp vs H Q E →
  codeAny (model P w) A (.call (.ref f) args) (CR CX outer P w H s Q E) s
theorem FnOk.imp {P : Program} {w : World} {K : PySem.W.Frag} {mg : Str→Option Value} {base : Heap} {CX : CXT} {k : Nat} {f : Addr} {fd : FuncData} {ps : List Str} {sp sp' : Sp} (F : FnOk P w K mg base CX k f fd ps sp)
  (h : ∀ vs H Q E,sp' vs H Q E→sp vs H Q E) : FnOk P w K mg base CX k f fd ps sp' :=
 ⟨fun vs H Q E q=>F.len vs H Q E (h _ _ _ _ q),fun A outer s H args us vs Q E hr he hb hv hs=>F.run A outer s H args us vs Q E hr he hb hv (h _ _ _ _ hs)⟩
section
variable {X : Cx} {pins : List (Addr × Obj)} {σ : St} {H : Hp} {s s' : Shared}
theorem Inv.env0 (I : Inv X pins σ H s) : Env0 X.prog X.w X.K X.mg X.base X.A X.stack s H :=
 ⟨I.ok.frames,I.ok.mod,I.bs,Nat.le_trans I.ok.bsz I.sz,I.stack,I.stkFree,I.hok,I.bare⟩
theorem Inv.after {Q : VK} {u : Value} (I : Inv X pins σ H s) (h : CE X.stack X.prog X.w H s Q u s') : EP X pins σ Q u s':=by
 obtain ⟨v,H',os,bare,un,hok,r,q⟩:=h
 obtain ⟨hh,g,d,t,os'⟩:=s'
 obtain rfl : os' = s.os:=os
 exact ⟨v,H',I.call (h':=hh) (g':=g) (d':=d) (t':=t) (ch:=[]) un hok bare (fun b z=>absurd z (by simp)),r,q⟩
end
noncomputable def tCall (sp : Sp) (dvs : List V) (E : XK) (t : TA) : TE:=fun σ H Q=>t σ H fun vs H1=>sp (vs ++ dvs) H1 Q E
noncomputable def Binds (K : PySem.W.Frag) (fd : FuncData) (ps : List Str) (ds : List Value) : Prop :=
 ∀ (s : Shared) (us : List Value),K.In s.heap→(us ++ ds).length = ps.length→BindsTo s fd ⟨us,[]⟩ (ps.zip (us ++ ds))
theorem Binds.all {K : PySem.W.Frag} {fd : FuncData} {ps : List Str} (h : ∀ us : List Value,us.length = ps.length→bindArgs fd ⟨us,[]⟩ = pure (ps.zip us)) : Binds K fd ps []:=fun s us _ hl=>by
 rw [List.append_nil] at hl ⊢
 exact .of_eq (h us hl)
noncomputable def Passes (CX : CXT) (X : Cx) (E : XK) : Prop:=∀ (pins : List (Addr × Obj)) (σ : St) (H : Hp) (s : Shared) (e : Value) (s' : Shared),Inv X pins σ H s→CX X.stack H s E e s'→X.xe e s'
section
variable {X : Cx} {CX : CXT} {k : Nat} {f C : Addr} {fd : FuncData} {ps : List Str} {sp : Sp} {dvs : List V} {ds : List Value} {E : XK} {x m : Str} {p pos apos : Pos} {e o : Expr} {es : List Expr} {ta : TE} {t : TA}
theorem run_fn {pins : List (Addr × Obj)} {σ : St} {H : Hp} {s : Shared} {Q : VK} {us : List Value} {vs : List V} (F : FnOk X.prog X.w X.K X.mg X.base CX k f fd ps sp) (hr : Room k X.A) (hb : Binds X.K fd ps ds) (hd : Vals dvs ds) (hx : Passes CX X E)
  (I : Inv X pins σ H s) (r : Vals vs us) (h : sp (vs ++ dvs) H Q E) : wpAny (model X.prog X.w) X.A (call (.ref f) us) (EP X pins σ Q) X.xe s:=by
 have r2 : Vals (vs ++ dvs) (us ++ ds):=r.append hd
 have hl : (us ++ ds).length = ps.length:=by rw [← r2.length]; exact F.len _ _ _ _ h
 refine wpAny_call (codeAny_mono (F.run X.A X.stack s H ⟨us,[]⟩ (us ++ ds) (vs ++ dvs) Q E hr I.env0 (hb s us I.kIn hl) r2 h) fun r s' hq=>?_)
 cases r with
 | error e=>exact hx pins σ H s e s' I hq
 | ok fl =>
  cases fl with
  | ret u=>exact I.after hq
  | next=>exact False.elim hq
  | brk=>exact False.elim hq
  | cont=>exact False.elim hq
theorem pe_call (F : FnOk X.prog X.w X.K X.mg X.base CX k f fd ps sp) (hr : Room k X.A) (hg : Gl X x) (hm : X.mg x = some (.ref f)) (hk : PySem.W.keepIn X.K (.ref f) = true) (hb : Binds X.K fd ps ds) (hd : Vals dvs ds) (hx : Passes CX X E)
  (ha : PA X (e :: es) t) (hdb : (x == ("__debug__" : Str)) = false:=by decide) (he : starEach (e :: es) X.env = (false,eval e X.env) :: starEach es X.env:=by rfl) (hpl : (backTo pos (starEach es X.env)).any (·.1) = false:=by rfl) :
  PE X (.Call (.Name x p) (e :: es) [] pos) (tCall sp dvs E t):=by
 intro pins s σ H Q I h
 refine wpAny_Call_Name_kw (ld_glob I hg hm ?_ hdb)
 refine PySem.W.callWith_K (h₀:=X.base) I.ok.mod.kin hk (thn (ha pos pins s σ H _ I h) fun us s1 ⟨vs,H1,I1,r,q⟩=>⟨I1.kIn,?_⟩) he hpl
 exact run_fn F hr hb hd hx I1 r q
structure Mk (K : PySem.W.Frag) (C f : Addr) : Prop where
 makes : PySem.W.makesIn K C = true
 init : PySem.W.findIn K (.ref C) "__init__" = some (some (.ref f))
 fn : PySem.W.isFn K (.ref f) = true
 kp : PySem.W.keepIn K (.ref C) = true
end
section
variable {X : Cx} {CX : CXT} {k : Nat} {f C : Addr} {fd : FuncData} {ps ks : List Str} {sp : Sp} {E : XK} {x m : Str} {p pos apos kpos : Pos} {e o : Expr} {es : List Expr} {kws : List Keyword} {te ta : TE} {t tk : TA} {nm : Option Str}
structure KBinds (K : PySem.W.Frag) (fd : FuncData) (ps ks : List Str) (g : List Value→List Value→List Value) (gV : List V→List V→List V) : Prop where
 to : ∀ (s : Shared) (us ws : List Value),K.In s.heap→(g us ws).length = ps.length→BindsTo s fd ⟨us,ks.zip ws⟩ (ps.zip (g us ws))
 rel : ∀ {vs : List V} {us : List Value} {zs : List V} {ws : List Value},Vals vs us→Vals zs ws→Vals (gV vs zs) (g us ws)
variable {g : List Value→List Value→List Value} {gV : List V→List V→List V}
end
structure FnScope (N P : List Str) (sc : Scope) : Prop where
 kind : sc.kind = .function
 co : sc.isCoroutine = false
 gen : sc.isGenerator = false
 nd : N.Nodup
 pre : N.take P.length = P
 par : ∀ x∈P,sc.names.lookup x = some .local∨sc.names.lookup x = some .cell
 nofree : ∀ y∈sc.names,y.2 ≠ .free
theorem bindL_out {kindOf : Str→Option NameKind} {x : Str} : ∀ {binds : List (Str × Value)} {m : Str→Option Value},(∀ v,(x,v) ∉ binds)→bindL kindOf binds m x = m x
 | [],_,_=>rfl
 | (n,v) :: r,m,h=>by
  unfold bindL
  rw [bindL_out fun w hw=>h w (List.mem_cons_of_mem _ hw)]
  split
  ·have : x ≠ n:=by rintro rfl; exact h v List.mem_cons_self
   simp [this]
  ·rfl
theorem bindC_out {kindOf : Str→Option NameKind} {x : Str} : ∀ {binds : List (Str × Value)} {m : Str→Option Value},(∀ v,(x,v) ∉ binds)→bindC kindOf binds m x = m x
 | [],_,_=>rfl
 | (n,v) :: r,m,h=>by
  unfold bindC
  rw [bindC_out fun w hw=>h w (List.mem_cons_of_mem _ hw)]
  split
  ·rfl
  ·have : x ≠ n:=by rintro rfl; exact h v List.mem_cons_self
   simp [this]
theorem bindL_get {kindOf : Str→Option NameKind} {x : Str} {v : Value} : ∀ {P : List Str} {vs : List Value} {i : Nat} {m : Str→Option Value},P.Nodup→P[i]? = some x→vs[i]? = some v→kindOf x = some .local →
  bindL kindOf (P.zip vs) m x = some v
 | [],_,_,_,_,h,_,_=>by simp at h
 | _ :: _,[],_,_,_,_,h,_=>by simp at h
 | p :: P,w :: vs,0,m,nd,h1,h2,hk=>by
  simp at h1 h2; subst h1; subst h2
  show bindL kindOf ((p,w) :: P.zip vs) m p = _
  unfold bindL
  rw [bindL_out fun v hv=>(List.nodup_cons.mp nd).1 (List.of_mem_zip hv).1,if_pos hk]
  simp
 | p :: P,w :: vs,i + 1,m,nd,h1,h2,hk=>by
  show bindL kindOf ((p,w) :: P.zip vs) m x = _
  unfold bindL
  exact bindL_get (i:=i) (List.nodup_cons.mp nd).2 (by simpa using h1) (by simpa using h2) hk
theorem bindC_get {kindOf : Str→Option NameKind} {x : Str} {v : Value} : ∀ {P : List Str} {vs : List Value} {i : Nat} {m : Str→Option Value},P.Nodup→P[i]? = some x→vs[i]? = some v→kindOf x ≠ some .local →
  bindC kindOf (P.zip vs) m x = some v
 | [],_,_,_,_,h,_,_=>by simp at h
 | _ :: _,[],_,_,_,_,h,_=>by simp at h
 | p :: P,w :: vs,0,m,nd,h1,h2,hk=>by
  simp at h1 h2; subst h1; subst h2
  show bindC kindOf ((p,w) :: P.zip vs) m p = _
  unfold bindC
  rw [bindC_out fun v hv=>(List.nodup_cons.mp nd).1 (List.of_mem_zip hv).1,if_neg hk]
  simp
 | p :: P,w :: vs,i + 1,m,nd,h1,h2,hk=>by
  show bindC kindOf ((p,w) :: P.zip vs) m x = _
  unfold bindC
  exact bindC_get (i:=i) (List.nodup_cons.mp nd).2 (by simpa using h1) (by simpa using h2) hk
noncomputable def start (N : List Str) (vs : List V) : St:=vs.map some ++ List.replicate (N.length - vs.length) none
noncomputable def cxOf (CX : CXT) (P : Program) (w : World) (K : PySem.W.Frag) (mg : Str→Option Value) (base : Heap) (N : List Str) (qual : Str) (scope : Scope) (f : Addr) (cd : Value) (A : Around) (outer : List Env) (s : Shared) (H : Hp) (E : XK) : Cx where
 prog:=P
 w:=w
 K:=K
 mg:=mg
 base:=base
 A:=A.deeper (envOfC qual scope s.heap.objs.size f cd)
 N:=N
 s₀:=s
 H₀:=H
 env:=envOfC qual scope s.heap.objs.size f cd
 outer:=outer
 stack:=envOfC qual scope s.heap.objs.size f cd :: outer
 ex:=[]
 calm:=true
 fn:=fun _=>true
 pn:=[]
 xe:=fun e s'=>wpAny (model P w) (A.deeper (envOfC qual scope s.heap.objs.size f cd)) (leaving (envOfC qual scope s.heap.objs.size f cd) e) (fun _ s''=>CX outer H s E e s'') (fun e' s''=>CX outer H s E e' s'') s'
theorem cell_has {sc : Scope} {n : Nat} {x : Str} (h : sc.names.lookup x = some .cell) : ∃ c,(cellsFrom n sc.names []).lookup x = some c:=by
 have q:=PySem.W.cellsFrom_some sc.names n [] (.inl h)
 exact Option.isSome_iff_exists.mp q
theorem inv_start {CX : CXT} {P : Program} {w : World} {K : PySem.W.Frag} {mg : Str→Option Value} {base : Heap} {N ps : List Str} {qual : Str} {scope : Scope} {f : Addr} {cd : Value} {A : Around} {outer : List Env} {s s1 : Shared} {H : Hp} {E : XK} {us : List Value} {vs : List V}
  (S : FnScope N ps scope) (hd : A.handled = none) (e0 : Env0 P w K mg base A outer s H) (hl : vs.length = ps.length) (r : Vals vs us)
  (x : InCallC s s.heap.objs.size (bindL (envOfC qual scope s.heap.objs.size f cd).kindOf (ps.zip us) fun _=>none) (cellsFrom (s.heap.objs.size + 1) scope.names []) (bindC (envOfC qual scope s.heap.objs.size f cd).kindOf (ps.zip us) fun _=>none) s1) :
  Inv (cxOf CX P w K mg base N qual scope f cd A outer s H E) [] (start N vs) H s1:=by
 have hpl : ps.length≤N.length:=by have:=congrArg List.length S.pre; rw [List.length_take] at this; omega
 obtain ⟨h1,tk,rfl,hk⟩:=x.done
 have noA : ∀ b : Addr,b ∉ (cxOf CX P w K mg base N qual scope f cd A outer s H E).ex:=fun b z=>absurd (show b∈([] : List Addr) from z) (by simp)
 refine ⟨⟨e0.mod,S.kind,rfl,rfl,Nat.le_refl _,fun y z c h1 h2=>?_,fun y hy=>?_,fun y c _ h=>?_,fun _=>hd,Around.frames_deeper e0.frames,.inr ⟨rfl,rfl⟩,fun b z=>absurd z (noA b),e0.bs,e0.bsz,fun b _ _=>noA b,fun b z=>absurd z (noA b),e0.funs,e0.frf⟩,
  rfl,e0.bare,Un.kept hk,⟨_,x.toInCall.ns,fun i y v h1 h2 h3=>?_⟩,fun y c h=>⟨_,x.cell y c h⟩,e0.hok.fresh (Nat.le_refl _),fun y c h=>?_,fun p hp=>absurd (show p∈([] : List (Addr × Obj)) from hp) (by simp),e0.hok.kept hk,?_⟩
 ·exact name_of_addr x.apart (PySem.mem_of_lookup h1) (PySem.mem_of_lookup h2)
 ·have hy : scope.names.lookup y = some .cell∨scope.names.lookup y = some .free:=hy
  rcases hy with hy | hy
  ·exact cell_has hy
  ·exact absurd rfl (S.nofree _ (PySem.mem_of_lookup hy))
 ·exact Nat.le_of_lt (x.above y c (PySem.mem_of_lookup h))
 ·have hi : i < vs.length:=by
   unfold start at h2
   by_cases hi : i < vs.length
   ·exact hi
   ·rw [List.getElem?_append_right (by simpa using hi)] at h2
    rw [List.getElem?_replicate] at h2
    split at h2 <;> cases h2
  have ha : vs[i]? = some v:=by
   unfold start at h2
   rw [List.getElem?_append_left (by simpa using hi),List.getElem?_map] at h2
   cases e : vs[i]? with
   | none=>rw [e] at h2; cases h2
   | some a=>rw [e] at h2; cases h2; rfl
  obtain ⟨u,hu,rv⟩:=r.get ha
  have hp : ps[i]? = some y:=by
   rw [← S.pre,List.getElem?_take_of_lt (by omega)]; exact h1
  have ndP : ps.Nodup:=by rw [← S.pre]; exact S.nd.sublist (List.take_sublist _ _)
  refine ⟨u,rv,?_⟩
  rcases S.par y (List.mem_of_getElem? hp) with k | k
  ·exact .inl ⟨k,bindL_get ndP hp hu k⟩
  ·obtain ⟨c,e⟩:=cell_has (n:=s.heap.objs.size + 1) k
   refine .inr ⟨.inl k,c,e,?_⟩
   have q:=x.cell y c e
   rw [bindC_get ndP hp hu (by show scope.names.lookup y ≠ _; rw [k]; decide)] at q
   exact q
 ·exact e0.hok.fresh (Nat.le_of_lt (x.above y c (PySem.mem_of_lookup h)))
 ·unfold start
  show _ = N.length
  rw [List.length_append,List.length_map,List.length_replicate]
  omega
theorem fn_of {CX : CXT} {P : Program} {w : World} {K : PySem.W.Frag} {mg : Str→Option Value} {base : Heap} {k : Nat} {f : Addr} {name qual : Str} {params : Arguments} {body : List Stmt} {scope : Scope} {dV kV doc pm cdv ct oc : Value} {an od : Option Addr}
  {osl : Array (Option Value)} {N ps : List Str} {sp : Sp} (lk : K.lookup f = some ⟨oc,od,.func (PySem.W.fnOf name qual params body scope dV kV doc pm an cdv ct),osl⟩) (hcd : PySem.W.codeIn K cdv qual = true) (S : FnScope N ps scope)
  (len : ∀ vs H Q E,sp vs H Q E→vs.length = ps.length)
  (hbody : ∀ (A : Around) (outer : List Env) (s : Shared) (H : Hp) (vs : List V) (Q : VK) (E : XK),Room k (A.deeper (envOfC qual scope s.heap.objs.size f cdv))→sp vs H Q E →
   ∃ t,PSs (cxOf CX P w K mg base N qual scope f cdv A outer s H E) body t∧t { nx:=fun _ H'=>Q .non H',rt:=Q } (start N vs) H) :
  FnOk P w K mg base CX (k + 1) f (PySem.W.fnOf name qual params body scope dV kV doc pm an cdv ct) ps sp:=by
 refine ⟨len,fun A outer s H args us vs Q E hr e0 hb r hsp=>?_⟩
 have hl:=len _ _ _ _ hsp
 have KX : K.In s.heap:=e0.mod.kin.keeps fun b o e=>(e0.bs b o e).1
 have lim : s.heap.NoLimit:=e0.mod.nolimit.keeps fun b o e=>(e0.bs b o e).1
 have hkind : ∀ y∈ps.zip us,scope.names.lookup y.1 = some .local∨(scope.names.lookup y.1 = some .cell∧((cellsFrom (s.heap.objs.size + 1) scope.names []).lookup y.1).isSome = true):=fun ⟨n,v⟩ hy=>by
  rcases S.par n (List.of_mem_zip hy).1 with q | q
  ·exact .inl q
  ·exact .inr ⟨q,PySem.W.cellsFrom_some _ _ _ (.inl q)⟩
 refine codeAny_call_function hr.depth (KX _ _ lk) rfl S.co S.gen rfl (PySem.W.codeRec_of KX hcd) (hb _ _ _ _ ?_)
 refine wpAny_newFunctionEnv_cells S.kind hkind fun env he s1 x=>?_
 subst he
 refine ⟨lim.keeps x.toInCall.keep,codeAny_func ?_⟩
 obtain ⟨t,ht,hq⟩:=hbody A outer s H vs Q E (hr.deeper _) hsp
 have I : Inv (cxOf CX P w K mg base N qual scope f cdv A outer s H E) [] (start N vs) H s1:=inv_start S hr.hd e0 hl r x
 refine wpAny_mono (ht [] s1 (start N vs) H _ I hq) (fun fl s' hs=>?_) fun e s' hs=>hs
 have fin : ∀ {σ' : St} {H' : Hp} {v : V} {u : Value},Inv (cxOf CX P w K mg base N qual scope f cdv A outer s H E) [] σ' H' s'→RelV v u→Q v H'→CE outer P w H s Q u s' :=
  fun {σ' H' v u} J rv q=>⟨v,H',J.os,J.bare,J.base,J.hok,rv,q⟩
 cases fl with
 | ret u =>
  obtain ⟨v,σ',H',J,rv,q⟩:=hs
  exact fin J rv q
 | next =>
  obtain ⟨σ',H',J,q⟩:=hs
  exact fin (v:=V.non) (u:=Value.none) J rfl q
 | brk =>
  obtain ⟨_,_,_,q⟩:=hs
  exact False.elim q
 | cont =>
  obtain ⟨_,_,_,q⟩:=hs
  exact False.elim q
end L2
namespace L2
open PySem PySem.Spec PyProof.Rows
section
variable {X : Cx} {x : Str} {p pos : Pos} {e : Expr} {es : List Expr} {t : TA} {id T : String} {r : List V→Hp→VK→Prop}
noncomputable def tCB (r : List V→Hp→VK→Prop) (t : TA) : TE:=fun σ H Q=>t σ H fun vs H1=>r vs H1 Q
theorem pe_callB (hc : CallR X (.builtin id) r) (hg : Gl X x) (hm : X.mg x = none) (hv : bootBuiltins x = some (.builtin id)) (ha : PA X (e :: es) t) (hn : x ≠ "__name__":=by decide) (hdb : (x == ("__debug__" : Str)) = false:=by decide)
  (he : starEach (e :: es) X.env = (false,eval e X.env) :: starEach es X.env:=by rfl) (hpl : (backTo pos (starEach es X.env)).any (·.1) = false:=by rfl) : PE X (.Call (.Name x p) (e :: es) [] pos) (tCB r t):=by
 intro pins s σ H Q I h
 refine wpAny_Call_Name_kw (ld_blt I hg hm hv ?_ hn hdb)
 exact PyProof.Rows.callWith_builtin1 (thn (ha pos pins s σ H _ I h) fun us s1 ⟨vs,H1,I1,r1,q1⟩=>hc pins s1 σ H1 vs us Q I1 r1 q1) he hpl
theorem pe_callTy (hc : CallR X (.type T) r) (hg : Gl X x) (hm : X.mg x = none) (hv : bootBuiltins x = some (.type T)) (ha : PA X (e :: es) t) (hn : x ≠ "__name__":=by decide) (hdb : (x == ("__debug__" : Str)) = false:=by decide)
  (he : starEach (e :: es) X.env = (false,eval e X.env) :: starEach es X.env:=by rfl) (hpl : (backTo pos (starEach es X.env)).any (·.1) = false:=by rfl) : PE X (.Call (.Name x p) (e :: es) [] pos) (tCB r t):=by
 intro pins s σ H Q I h
 refine wpAny_Call_Name_kw (ld_blt I hg hm hv ?_ hn hdb)
 exact PyProof.Rows.callWith_type1 (thn (ha pos pins s σ H _ I h) fun us s1 ⟨vs,H1,I1,r1,q1⟩=>hc pins s1 σ H1 vs us Q I1 r1 q1) he hpl
end
end L2
namespace HT
open PySem PyProof.Rows
section
open PySem.SeqAt
open PySem.AutoSeq1 (wpAny_loadPart')
open PySem.MeetsSeq PySem.MeetsSeq2 PySem.MeetsSeq3
end
section
variable {prog : Program} {w : World} {A : Around} {E : Value→Shared→Prop} {s : Shared}
noncomputable def sIx (n d : Nat) : Option Int→Nat
 | none=>d
 | some v=>if v < 0 then (v + (n : Int)).toNat else min v.toNat n
theorem sIx_none (n d : Nat) : sIx n d none = d:=rfl
theorem sIx_nat (n d k : Nat) : sIx n d (some (k : Int)) = min k n:=by
 show (if (k : Int) < 0 then ((k : Int) + (n : Int)).toNat else min (k : Int).toNat n) = min k n
 rw [if_neg (by omega),Int.toNat_natCast]
end
end HT
namespace L2
open PySem PySem.Spec PyProof.Rows
noncomputable abbrev TO:=St→Hp→(Option Int→Hp→Prop)→Prop
noncomputable def PO (X : Cx) (e : Option Expr) (t : TO) : Prop :=
 ∀ (pins : List (Addr × Obj)) (s : Shared) (σ : St) (H : Hp) (Q : Option Int→Hp→Prop),Inv X pins σ H s→t σ H Q →
  wpAny (model X.prog X.w) X.A (evalPart e X.env) (fun u s'=>∃ o H',Inv X pins σ H' s'∧IsPart u o∧Q o H') X.xe s
noncomputable def tNoPart : TO:=fun _ H Q=>Q none H
noncomputable def tPart (t : TE) : TO:=fun σ H Q=>t σ H fun x H1=>∃ i,x = .int i∧Q (some i) H1
section
variable {X : Cx} {e : Expr} {te : TE} {lo hi : Option Expr} {tl th : TO} {pos p2 : Pos}
theorem po_none : PO X none tNoPart:=by
 intro pins s σ H Q I h
 rw [evalPart_none]
 exact wpAny_pure ⟨none,H,I,.none,h⟩
theorem po_some (h : PE X e te) : PO X (some e) (tPart te):=by
 intro pins s σ H Q I hw
 rw [evalPart_some]
 refine thn (h pins s σ H _ I hw) fun u s1 ⟨x,H1,I1,r1,q1⟩=>?_
 obtain ⟨i,rfl,q⟩:=q1
 obtain ⟨t,rfl⟩:=r1
 exact ⟨some i,H1,I1,.int i t,q⟩
noncomputable def SlR (X : Cx) (r : V→Option Int→Option Int→Hp→VK→Prop) : Prop :=
 ∀ (pins : List (Addr × Obj)) (s : Shared) (σ : St) (H : Hp) (x : V) (v vl vu : Value) (lo hi : Option Int) (sl : Addr) (Q : VK),Inv X pins σ H s→RelV x v→s.heap.IsSliceOf sl vl vu .none→IsPart vl lo→IsPart vu hi→r x lo hi H Q →
  ∃ T id,typeLookup (.type T) "__getitem__" = pure (some (.builtin id))∧s.TypeIs v T∧wpAny (model X.prog X.w) X.A (getItem v (.ref sl)) (EP X pins σ Q) X.xe s
noncomputable def tSl (r : V→Option Int→Option Int→Hp→VK→Prop) (te : TE) (tl th : TO) : TE:=fun σ H Q=>te σ H fun x H1=>tl σ H1 fun l H2=>th σ H2 fun u H3=>r x l u H3 Q
theorem pe_slice {r : V→Option Int→Option Int→Hp→VK→Prop} (hr : SlR X r) (he : PE X e te) (hl : PO X lo tl) (hu : PO X hi th) : PE X (.Subscript e (.Slice lo hi none p2) pos) (tSl r te tl th):=by
 intro pins s σ H Q I h
 refine Subscript_ (thn (he pins s σ H _ I h) fun v s1 ⟨x,H1,I1,r1,q1⟩=>?_)
 refine wpAny_Slice (thn (hl pins s1 σ H1 _ I1 q1) fun vl s2 ⟨l,H2,I2,pl,q2⟩=>thn (hu pins s2 σ H2 _ I2 q2) fun vu s3 ⟨u,H3,I3,pu,q3⟩=>?_)
 rw [evalPart_none]
 refine wpAny_pure ?_
 have I4 : Inv X pins σ H3 { s3 with heap:=s3.heap.push { cls:=.type "slice",data:=.fields #[vl,vu,.none] } }:=I3.kept (t':=s3.toks) fun b ob q=>Heap.get?_push_of_some _ q
 obtain ⟨T,id,hT,ht,hg⟩:=hr pins { s3 with heap:=s3.heap.push { cls:=.type "slice",data:=.fields #[vl,vu,.none] } } σ H3 x v vl vu l u s3.heap.objs.size Q I4 r1 (Heap.IsSliceOf.new ..) pl pu q3
 show wpAny (model X.prog X.w) X.A (subscriptTail e (.Slice lo hi none p2) v (.ref s3.heap.objs.size)) (EP X pins σ Q) X.xe { s3 with heap:=s3.heap.push { cls:=.type "slice",data:=.fields #[vl,vu,.none] } }
 exact tail_any (ops:=[.ref s3.heap.objs.size,v]) ht hT hg (by with_unfolding_all rfl)
noncomputable def cutV (xs : List V) (lo hi : Option Int) : List V:=(xs.drop (HT.sIx xs.length 0 lo)).take (HT.sIx xs.length xs.length hi - HT.sIx xs.length 0 lo)
theorem cutV_length (xs : List V) (lo hi : Option Int) : (cutV xs lo hi).length≤xs.length:=by
 unfold cutV
 rw [List.length_take,List.length_drop]
 omega
end
end L2
namespace L2
open PySem PySem.Spec PyProof.Rows
noncomputable def ixN (n : Nat) (i : Int) : Option Nat:=if 0≤i then (if i < n then some i.toNat else none) else if -(n : Int)≤i then some (i + n).toNat else none
noncomputable def atI {α : Type} (xs : List α) (i : Int) : Option α:=(ixN xs.length i).bind fun j=>xs[j]?
theorem ixN_seq {n : Nat} {i : Int} {j : Nat} (h : ixN n i = some j) : seqIndex? i n = some j∧j < n∧-(n : Int)≤i∧i < n:=by
 unfold ixN at h
 by_cases h0 : 0≤i
 ·rw [if_pos h0] at h
  by_cases h1 : i < n
  ·rw [if_pos h1] at h
   have e : i.toNat = j:=Option.some.inj h
   exact ⟨by rw [seqIndex_of h0 h1,e],by omega,by omega,h1⟩
  ·rw [if_neg h1] at h; cases h
 ·rw [if_neg h0] at h
  by_cases h1 : -(n : Int)≤i
  ·rw [if_pos h1] at h
   have e : (i + n).toNat = j:=Option.some.inj h
   exact ⟨by rw [seqIndex_neg (by omega) h1,e],by omega,h1,by omega⟩
  ·rw [if_neg h1] at h; cases h
theorem atI_get {α : Type} {xs : List α} {i : Int} {v : α} (h : atI xs i = some v) : ∃ j,seqIndex? i xs.length = some j∧xs[j]? = some v∧j < xs.length∧-(xs.length : Int)≤i∧i < xs.length:=by
 unfold atI at h
 cases e : ixN xs.length i with
 | none=>rw [e] at h; cases h
 | some j =>
  rw [e] at h
  obtain ⟨h1,h2,h3,h4⟩:=ixN_seq e
  exact ⟨j,h1,h,h2,h3,h4⟩
theorem atI_nat {α : Type} {xs : List α} {j : Nat} {v : α} (h : xs[j]? = some v) : atI xs (j : Int) = some v:=by
 have hj : j < xs.length:=(List.getElem?_eq_some_iff.mp h).1
 have e : ixN xs.length (j : Int) = some j:=by
  unfold ixN
  rw [if_pos (by omega),if_pos (by omega)]; simp
 unfold atI; rw [e]; exact h
noncomputable def PlainIx (b : Expr) : Prop:=∀ o i,subscripted b false o i = operate [o,i] (getItem o i)
noncomputable def IxR (X : Cx) (r : R2) : Prop :=
 ∀ (value slice : Expr) (pins : List (Addr × Obj)) (s : Shared) (σ : St) (H : Hp) (x y : V) (v u : Value) (Q : VK),Inv X pins σ H s→RelV x v→RelV y u→r x y H Q →
  subscripted slice false v u = operate [v,u] (getItem v u)→wpAny (model X.prog X.w) X.A (subscriptTail value slice v u) (EP X pins σ Q) X.xe s
noncomputable def MtR (X : Cx) (id : String) (r : V→List V→Hp→VK→Prop) : Prop :=
 ∀ (pins : List (Addr × Obj)) (s : Shared) (σ : St) (H : Hp) (x : V) (xs : List V) (v : Value) (us : List Value) (Q : VK),Inv X pins σ H s→RelV x v→Vals xs us→r x xs H Q →
  wpAny (model X.prog X.w) X.A (call (.builtin id) (v :: us)) (EP X pins σ Q) X.xe s
section
variable {X : Cx} {a b : Expr} {ta tb : TE} {pos : Pos}
theorem IxR.or {r r' : R2} (h : IxR X r) (h' : IxR X r') : IxR X (fun x y H Q=>r x y H Q∨r' x y H Q):=by
 intro value slice pins s σ H x y v u Q I rx ry q hs
 rcases q with q | q
 ·exact h value slice pins s σ H x y v u Q I rx ry q hs
 ·exact h' value slice pins s σ H x y v u Q I rx ry q hs
theorem pe_ix {r : R2} (hr : IxR X r) (ha : PE X a ta) (hb : PE X b tb) (hs : PlainIx b) : PE X (.Subscript a b pos) (tOp r ta tb):=by
 intro pins s σ H Q I h
 exact Subscript_ (binT ha hb I h fun v u s2 x y H2 I2 rx ry q=>hr a b pins s2 σ H2 x y v u Q I2 rx ry q (hs _ _))
noncomputable def rIxL (K : PySem.W.Frag) : R2:=fun x y H Q=>∃ p xs i v,x = .ref p∧y = .int i∧SqL K H p xs∧atI xs i = some v∧Q v H
noncomputable def rIxT (K : PySem.W.Frag) : R2:=fun x y H Q=>∃ p xs i v,x = .ref p∧y = .int i∧SqT K H p xs∧atI xs i = some v∧Q v H
theorem ix_list : IxR X (rIxL X.K):=by
 intro value slice pins s σ H x y v u Q I rx ry h hs
 obtain ⟨p,xs,i,z,rfl,rfl,hq,he,q⟩:=h
 cases rx
 obtain ⟨t,rfl⟩:=ry
 obtain ⟨its,r,pl,hz⟩:=I.list hq
 obtain ⟨j,h1,h2,h3,h4,h5⟩:=atI_get he
 obtain ⟨w,ew,rw'⟩:=r.get h2
 have hl:=r.length
 have hn:=line63
 have fin : EP X pins σ Q w s:=⟨z,H,I,rw',q⟩
 by_cases h0 : 0≤i
 ·have hj : i.toNat = j:=by
   rw [seqIndex_of h0 h5] at h1
   exact Option.some.inj h1
  exact item_listR pl.isList h0 (by omega) (by rw [hj]; simpa using ew) fin hs
 ·have hj : (i + (its.toArray.size : Int)).toNat = j:=by
   rw [seqIndex_neg (by omega) h4] at h1
   rw [List.size_toArray,← hl]
   exact Option.some.inj h1
  exact subscriptTail_builtinR (x:=w) pl.isList.typeIs slot_list_getitem.lookup
   (wpAny_getItem_list_neg (Q:=fun r s'=>r = w∧EP X pins σ Q r s') pl.isList (by omega) (by rw [List.size_toArray] <;> omega) (by omega) (by rw [hj]; simpa using ew) ⟨rfl,fin⟩) hs
theorem ix_tup : IxR X (rIxT X.K):=by
 intro value slice pins s σ H x y v u Q I rx ry h hs
 obtain ⟨p,xs,i,z,rfl,rfl,hq,he,q⟩:=h
 cases rx
 obtain ⟨t,rfl⟩:=ry
 obtain ⟨its,r,pl,hz⟩:=I.tuple hq
 obtain ⟨j,h1,h2,h3,h4,h5⟩:=atI_get he
 obtain ⟨w,ew,rw'⟩:=r.get h2
 have hl:=r.length
 have hn:=line63
 have fin : EP X pins σ Q w s:=⟨z,H,I,rw',q⟩
 exact subscriptTail_builtinR (x:=w) pl.typeIs slot_tuple_getitem.lookup
  (getItem_tuple (j:=j) (Q:=fun r s'=>r = w∧EP X pins σ Q r s') pl (by omega) (by omega) (by rw [List.size_toArray,← hl]; exact h1) (by simpa using ew) ⟨rfl,fin⟩) hs
theorem mapSeq_set (its : List Value) (n j : Nat) (u : Value) : Obj.mapSeq (·.setIfInBounds j u) { cls:=.type "list",data:=.seq its.toArray n } = { cls:=.type "list",data:=.seq (its.set j u).toArray n }:=by
 simp [Obj.mapSeq]
theorem Inv.lst {pins : List (Addr × Obj)} {σ : St} {H : Hp} {s : Shared} {p : Addr} {xs : List V} (I : Inv X pins σ H s) (h : H p = some (.lst xs)) :
  ∃ (its : List Value) (n : Nat),Vals xs its∧s.heap.get? p = some { cls:=.type "list",data:=.seq its.toArray n }∧xs.length≤sizeLine:=by
 obtain ⟨z,its,n,r,e⟩:=I.hok p _ h
 exact ⟨its,n,r,e,z⟩
theorem Inv.lstUpd {pins : List (Addr × Obj)} {σ : St} {H : Hp} {s : Shared} {p : Addr} {xs ys : List V} {its its' : List Value} {n n' : Nat} {f : Obj→Obj} (I : Inv X pins σ H s) (h : H p = some (.lst xs))
  (ho : s.heap.get? p = some { cls:=.type "list",data:=.seq its.toArray n }) (hf : f { cls:=.type "list",data:=.seq its.toArray n } = { cls:=.type "list",data:=.seq its'.toArray n' }) (r : Vals ys its') (hz : ys.length≤sizeLine) (t : Nat) :
  Inv X pins σ (upd H p (.lst ys)) { s with heap:=s.heap.update p f,toks:=t }:=by
 have e : (s.heap.update p f).get? p = some { cls:=.type "list",data:=.seq its'.toArray n' }:=by
  rw [Heap.get?_update_self f ho (by rw [hf] <;> rfl),hf]
 refine I.write (x:=p) (e:=p) (by rw [h]; trivial) (.inl rfl) (fun b u hb q=>(Heap.get?_update_other _ _ (Ne.symm hb)).trans q) ⟨_,e⟩ ?_
 exact ⟨hz,its',n',r,e⟩
noncomputable def rSetL : V→V→V→Hp→(Hp→Prop)→Prop:=fun o i v H Q=>∃ p xs k j,o = .ref p∧i = .int k∧H p = some (.lst xs)∧ixN xs.length k = some j∧Q (upd H p (.lst (xs.set j v)))
theorem set_list : PSet X rSetL:=by
 intro pins s σ H o i v ov iv u Q I ro ri rv h
 obtain ⟨p,xs,k,j,rfl,rfl,hp,hj,q⟩:=h
 cases ro
 obtain ⟨t,rfl⟩:=ri
 obtain ⟨its,n,r,ho,hz⟩:=I.lst hp
 obtain ⟨h1,h2,h3,h4⟩:=ixN_seq hj
 have hl:=r.length
 have hn:=line63
 have I' : Inv X pins σ (upd H p (.lst (xs.set j v))) { s with heap:=s.heap.update p (Obj.mapSeq (·.setIfInBounds j u)) } :=
  I.lstUpd hp ho (mapSeq_set its n j u) (r.set rv j) (by rw [List.length_set]; exact hz) s.toks
 by_cases h0 : 0≤k
 ·have hk : k.toNat = j:=by
   rw [seqIndex_of h0 h4] at h1
   exact Option.some.inj h1
  exact PySem.W.ki_setAt ho h0 (by omega) (by rw [List.size_toArray,← hl]; exact h4) (by rw [hk]; exact ⟨_,I',q⟩)
 ·have hk : (k + (its.toArray.size : Int)).toNat = j:=by
   rw [seqIndex_neg (by omega) h3] at h1
   rw [List.size_toArray,← hl]
   exact Option.some.inj h1
  exact PySem.W.ki_setBack ho (by omega) (by rw [List.size_toArray,← hl]; exact h3) (by omega) (by rw [hk]; exact ⟨_,I',q⟩)
theorem slice_bounds (lo hi : Option Int) (n : Nat) : (sliceBounds lo hi none n).1 = ((HT.sIx n 0 lo : Nat) : Int)∧(sliceBounds lo hi none n).2.1 = ((HT.sIx n n hi : Nat) : Int)∧(sliceBounds lo hi none n).2.2 = 1:=by
 refine ⟨?_,?_,rfl⟩
 ·cases lo with
  | none=>simp [sliceBounds,HT.sIx]
  | some i =>
   simp only [sliceBounds,HT.sIx,Option.getD_none,show (1 : Int) > 0 by decide,if_true]
   by_cases h : i < 0
   ·simp only [h,if_true] <;> omega
   ·simp only [h,if_false] <;> omega
 ·cases hi with
  | none=>simp [sliceBounds,HT.sIx]
  | some i =>
   simp only [sliceBounds,HT.sIx,Option.getD_none,show (1 : Int) > 0 by decide,if_true]
   by_cases h : i < 0
   ·simp only [h,if_true] <;> omega
   ·simp only [h,if_false] <;> omega
theorem slicePick_cut (its : List Value) (lo hi : Option Int) : slicePick its.toArray lo hi none = ((its.drop (HT.sIx its.length 0 lo)).take (HT.sIx its.length its.length hi - HT.sIx its.length 0 lo)).toArray:=by
 obtain ⟨h1,h2,h3⟩:=slice_bounds lo hi its.toArray.size
 unfold slicePick
 rw [h1,h2,h3]
 simp only [sliceRange_one,pick_run,List.size_toArray] <;> rfl
noncomputable def rSlL (K : PySem.W.Frag) : V→Option Int→Option Int→Hp→VK→Prop:=fun x lo hi H Q=>∃ a xs,x = .ref a∧SqL K H a xs∧∀ p,H p = none→Q (.ref p) (upd H p (.lst (cutV xs lo hi)))
theorem sl_list : SlR X (rSlL X.K):=by
 intro pins s σ H x v vl vu lo hi sl Q I rx hs pl pu h
 obtain ⟨a,xs,rfl,hx,q⟩:=h
 cases rx
 obtain ⟨its,r,ht,hz⟩:=I.list hx
 have hlen:=r.length
 refine ⟨"list",_,slot_list_getitem.lookup,ht.isList.typeIs,?_⟩
 refine wpAny_getItem_list_slice ht.isList hs pl pu .none (by simp) ?_ (by rw [List.size_toArray] <;> omega)
 rw [slicePick_cut,← hlen]
 refine ⟨.ref s.heap.objs.size,_,I.laid (t':=s.toks) (o:=.lst (cutV xs lo hi)) (fun b ob q=>Heap.get?_push_of_some _ q) (Nat.le_refl _) ?_,rfl,q _ (I.hok.fresh (Nat.le_refl _))⟩
 exact ⟨Nat.le_trans (cutV_length xs lo hi) hz,_,0,(r.drop (HT.sIx xs.length 0 lo)).take (HT.sIx xs.length xs.length hi - HT.sIx xs.length 0 lo),Heap.get?_push_size _ rfl⟩
noncomputable def flatV : V→Bool
 | .non=>true
 | .bl _=>true
 | .int _=>true
 | .str _=>true
 | _=>false
noncomputable def eqV : V→V→Bool
 | .non,.non=>true
 | .bl a,.bl b=>a == b
 | .bl a,.int b=>(if a then 1 else 0) == b
 | .int a,.bl b=>a == (if b then 1 else 0)
 | .int a,.int b=>a == b
 | .str a,.str b=>a == b
 | _,_=>false
theorem eqAt_V {A : Around} {s : Shared} {y x : V} {u v : Value} (ry : RelV y u) (rx : RelV x v) (fy : flatV y = true) (fx : flatV x = true) : SeqAt.EqAt A s u v (eqV y x):=by
 cases y with
 | non =>
  cases ry
  cases x with
  | non=>cases rx; exact SeqAt.EqAt.same _
  | bl b=>cases rx; exact SeqAt.EqAt.none_bool b
  | int b=>obtain ⟨t,rfl⟩:=rx; exact SeqAt.EqAt.none_int b t
  | str b=>obtain ⟨t,rfl⟩:=rx; exact SeqAt.EqAt.none_str b t
  | _=>exact absurd (show false = true from fx) Bool.false_ne_true
 | bl a =>
  cases ry
  cases x with
  | non=>cases rx; exact SeqAt.EqAt.bool_none a
  | bl b=>cases rx; exact SeqAt.EqAt.bool_bool a b
  | int b=>obtain ⟨t,rfl⟩:=rx; exact SeqAt.EqAt.bool_int a b t
  | str b=>obtain ⟨t,rfl⟩:=rx; exact SeqAt.EqAt.bool_str a b t
  | _=>exact absurd (show false = true from fx) Bool.false_ne_true
 | int a =>
  obtain ⟨t',rfl⟩:=ry
  cases x with
  | non=>cases rx; exact SeqAt.EqAt.int_none a t'
  | bl b=>cases rx; exact SeqAt.EqAt.int_bool a t' b
  | int b=>obtain ⟨t,rfl⟩:=rx; exact SeqAt.EqAt.int_int a t' b t
  | str b=>obtain ⟨t,rfl⟩:=rx; exact SeqAt.EqAt.int_str a t' b t
  | _=>exact absurd (show false = true from fx) Bool.false_ne_true
 | str a =>
  obtain ⟨t',rfl⟩:=ry
  cases x with
  | non=>cases rx; exact SeqAt.EqAt.str_none a t'
  | bl b=>cases rx; exact SeqAt.EqAt.str_bool a t' b
  | int b=>obtain ⟨t,rfl⟩:=rx; exact SeqAt.EqAt.str_int a t' b t
  | str b=>obtain ⟨t,rfl⟩:=rx; exact SeqAt.EqAt.str_str a t' b t
  | _=>exact absurd (show false = true from fx) Bool.false_ne_true
 | _=>exact absurd (show false = true from fy) Bool.false_ne_true
noncomputable def eqU (x : V) (u : Value) : Bool:=match u with
 | .none=>eqV .non x
 | .bool b=>eqV (.bl b) x
 | .int i _=>eqV (.int i) x
 | .str z _=>eqV (.str z) x
 | _=>false
theorem eqU_of {x y : V} {u : Value} (r : RelV y u) (f : flatV y = true) : eqU x u = eqV y x:=by
 cases y with
 | non=>cases r; rfl
 | bl b=>cases r; rfl
 | int i=>obtain ⟨t,rfl⟩:=r; rfl
 | str z=>obtain ⟨t,rfl⟩:=r; rfl
 | _=>exact absurd (show false = true from f) Bool.false_ne_true
theorem any_eqU {x : V} : ∀ {xs : List V} {us : List Value},Vals xs us→xs.all flatV = true→us.any (eqU x) = xs.any fun y=>eqV y x
 | _,_,.nil,_=>rfl
 | y :: xs,u :: us,.cons r t,f=>by
  rw [List.all_cons,Bool.and_eq_true] at f
  rw [List.any_cons,List.any_cons,eqU_of r f.1,any_eqU t f.2]
theorem mem_eqAt {A : Around} {s : Shared} {x : V} {v : Value} (rx : RelV x v) (fx : flatV x = true) : ∀ {xs : List V} {us : List Value},Vals xs us→xs.all flatV = true→∀ u∈us,SeqAt.EqAt A s u v (eqU x u)
 | _,_,.nil,_=>fun u hu=>by cases hu
 | y :: xs,u :: us,.cons r t,f=>fun u' hu=>by
  rw [List.all_cons,Bool.and_eq_true] at f
  rcases List.mem_cons.mp hu with rfl | hu
  ·rw [eqU_of r f.1]; exact eqAt_V r rx f.1 fx
  ·exact mem_eqAt rx fx t f.2 u' hu
noncomputable def inV (x : V) (xs : List V) : Bool:=xs.any fun y=>eqV y x
noncomputable def rIn (K : PySem.W.Frag) (neg : Bool) : R2:=fun x y H Q=>∃ p xs,y = .ref p∧(SqL K H p xs∨SqT K H p xs)∧flatV x = true∧xs.all flatV = true∧Q (.bl (if neg then !inV x xs else inV x xs)) H
theorem op_notIn_seq : OpR X (compareOp .NotIn) (rIn X.K true):=by
 intro pins s σ H x y v u Q I rx ry h
 obtain ⟨p,xs,rfl,hq,fx,fs,q⟩:=h
 cases ry
 rcases hq with hq | hq
 ·obtain ⟨its,r,pl,hz⟩:=I.list hq
  refine SeqAt.notIn_listAt (eqU x) pl.isList (fun w hw=>mem_eqAt rx fx r fs w (by simpa using hw)) ⟨.bl _,H,I,rfl,?_⟩
  rw [show its.toArray.any (eqU x) = its.any (eqU x) by simp,any_eqU r fs]
  exact q
 ·obtain ⟨its,r,pl,hz⟩:=I.tuple hq
  refine SeqAt.notIn_tupleAt (eqU x) pl (fun w hw=>mem_eqAt rx fx r fs w (by simpa using hw)) ⟨.bl _,H,I,rfl,?_⟩
  rw [show its.toArray.any (eqU x) = its.any (eqU x) by simp,any_eqU r fs]
  exact q
theorem call_len_seq : CallR X (.builtin "len") (fun xs H Q=>∃ p ys,xs = [.ref p]∧(SqL X.K H p ys∨SqT X.K H p ys)∧Q (.int ys.length) H):=by
 intro pins s σ H xs us Q I r h
 obtain ⟨p,ys,rfl,hq,q⟩:=h
 obtain ⟨u,rfl,rx⟩:=vals1 r
 cases rx
 have hn:=line63
 rcases hq with hq | hq
 ·obtain ⟨its,r',pl,hz⟩:=I.list hq
  have hlen:=r'.length
  exact Calls.call_len_list pl.isList (by simp only [List.size_toArray] <;> omega) ⟨.int ys.length,H,I.tok _,⟨s.toks + 1,by rw [List.size_toArray,hlen]⟩,q⟩
 ·obtain ⟨its,r',pl,hz⟩:=I.tuple hq
  have hlen:=r'.length
  exact len_tuple pl (by simp only [List.size_toArray] <;> omega) ⟨.int ys.length,H,I.tok _,⟨s.toks + 1,by rw [List.size_toArray,hlen]⟩,q⟩
theorem call_list_of : CallR X (.type "list") (fun xs H Q=>∃ p ys,xs = [.ref p]∧(SqL X.K H p ys∨SqT X.K H p ys)∧∀ l,H l = none→Q (.ref l) (upd H l (.lst ys))):=by
 intro pins s σ H xs us Q I r h
 obtain ⟨p,ys,rfl,hq,q⟩:=h
 obtain ⟨u,rfl,rx⟩:=vals1 r
 cases rx
 have fin : ∀ (its : List Value),Vals ys its→ys.length≤sizeLine→∀ (h' : Heap) (c' : Nat),(∀ b o',s.heap.get? b = some o'→h'.get? b = some o') →
   h'.get? s.heap.objs.size = some { cls:=.type "list",dict:=none,data:=.seq its.toArray c',slots:=#[] }→EP X pins σ Q (.ref s.heap.objs.size) { s with heap:=h' }:=fun its r' hz h' c' kp e =>
  ⟨.ref s.heap.objs.size,_,I.laid (t':=s.toks) kp (Nat.le_refl _) (show ObjOk X.prog X.w _ h' _ (.lst ys) from ⟨hz,its,c',r',e⟩),rfl,q _ (I.hok.fresh (Nat.le_refl _))⟩
 rcases hq with hq | hq
 ·obtain ⟨its,r',pl,hz⟩:=I.list hq
  have hlen:=r'.length
  obtain ⟨o,ho,hc,n,hd⟩:=pl.isList
  exact call_list_seq p (.inl rfl) ho hc hd (fun h' c' kp e=>fin its r' hz h' c' kp e) (by simp only [List.size_toArray] <;> omega)
 ·obtain ⟨its,r',pl,hz⟩:=I.tuple hq
  have hlen:=r'.length
  obtain ⟨o,ho,hc,n,hd⟩:=pl
  exact call_list_seq p (.inr rfl) ho hc hd (fun h' c' kp e=>fin its r' hz h' c' kp e) (by simp only [List.size_toArray] <;> omega)
noncomputable def tyV (K : PySem.W.Frag) (T : String) (x : V) (H : Hp) : Prop:=match x with
 | .str _=>T = "str"
 | .int _=>T = "int"
 | .ref p=>(T = "list"∧∃ xs,SqL K H p xs)∨(T = "tuple"∧∃ o,K.lookup p = some o∧o.cls = .type "tuple"∧o.dict = none) ∨
   (T = "dict"∧((∃ kvs,H p = some (.dK kvs))∨∃ kvs,H p = some (.dT kvs)))∨(T = "set"∧∃ S n,H p = some (.set S n))
 | _=>False
theorem tyV_is {pins : List (Addr × Obj)} {σ : St} {H : Hp} {s : Shared} {T : String} {x : V} {v : Value} (I : Inv X pins σ H s) (r : RelV x v) (ty : tyV X.K T x H) :
  s.TypeIs v T∧∀ a,v = .ref a→∃ ob,s.heap.get? a = some ob∧ob.dict = none:=by
 cases x with
 | str z =>
  obtain ⟨t,rfl⟩:=r
  cases (show T = "str" from ty)
  exact ⟨typeIs_str s z t,fun _ e=>nomatch e⟩
 | int i =>
  obtain ⟨t,rfl⟩:=r
  cases (show T = "int" from ty)
  exact ⟨typeIs_int s i t,fun _ e=>nomatch e⟩
 | ref p =>
  cases r
  rcases ty with ⟨rfl,xs,hq⟩ | ⟨rfl,o,hk,hc,hd⟩ | ⟨rfl,hk⟩ | ⟨rfl,S,n,hk⟩
  ·obtain ⟨its,_,pl,_⟩:=I.list hq
   refine ⟨pl.isList.typeIs,fun a e=>?_⟩
   cases e
   obtain ⟨o,n,e,c,hd,_⟩:=pl
   exact ⟨o,e,hd⟩
  ·refine ⟨⟨o,I.kIn p o hk,hc⟩,fun a e=>?_⟩
   cases e
   exact ⟨o,I.kIn _ o hk,hd⟩
  ·have z : ∃ o,s.heap.get? p = some o∧o.ExactDict:=by
    rcases hk with ⟨kvs,hk⟩ | ⟨kvs,hk⟩
    ·obtain ⟨_,_,_,_,o,_,_,e,ex,_⟩:=I.hok p _ hk
     exact ⟨o,e,ex⟩
    ·obtain ⟨_,_,_,_,o,_,_,e,ex,_⟩:=I.hok p _ hk
     exact ⟨o,e,ex⟩
   obtain ⟨o,e,ex⟩:=z
   refine ⟨⟨o,e,ex.1⟩,fun a e2=>?_⟩
   cases e2
   exact ⟨o,e,ex.2.1⟩
  ·obtain ⟨o,_,_,_,e,ex,_⟩:=I.hok p _ hk
   refine ⟨⟨o,e,ex.1⟩,fun a e2=>?_⟩
   cases e2
   exact ⟨o,e,ex.2.1⟩
 | _=>exact False.elim ty
noncomputable def tBM0 (K : PySem.W.Frag) (T : String) (r : V→List V→Hp→VK→Prop) (to : TE) : TE:=fun σ H Q=>to σ H fun x H1=>tyV K T x H1∧r x [] H1 Q
noncomputable def tBM (K : PySem.W.Frag) (T : String) (r : V→List V→Hp→VK→Prop) (to : TE) (t : TA) : TE:=fun σ H Q=>to σ H fun x H1=>tyV K T x H1∧t σ H1 fun xs H2=>r x xs H2 Q
variable {o e : Expr} {es : List Expr} {to : TE} {t : TA} {name : Str} {apos cpos : Pos} {T id : String} {r : V→List V→Hp→VK→Prop}
theorem pe_bm0 (pa : PlainAttrs T) (slot : Slot T name id) (hty : typeOf (.builtin id) = pure (.type "method_descriptor")) (hm : MtR X id r) (ho : PE X o to)
  (hbase : attributeBase o name X.env (eval o X.env) = eval o X.env:=by rfl) (hline : (apos.endLine == cpos.line) = true:=by rfl) : PE X (.Call (.Attribute o name apos) [] [] cpos) (tBM0 X.K T r to):=by
 intro pins s σ H Q I h
 refine wpAny_Call_method0_late hbase hline (thn (ho pins s σ H _ I h) fun v s1 ⟨x,H1,I1,r1,ty,q1⟩=>?_)
 obtain ⟨h1,h2⟩:=tyV_is I1 r1 ty
 exact ⟨T,id,pa,slot,hty,h1,h2,Calls.callWith_builtin rfl (PySem.evalArgs_none (hm pins s1 σ H1 x [] v [] Q I1 r1 .nil q1))⟩
theorem pe_bm (pa : PlainAttrs T) (slot : Slot T name id) (hty : typeOf (.builtin id) = pure (.type "method_descriptor")) (hm : MtR X id r) (ho : PE X o to) (ha : PA X (e :: es) t)
  (hbase : attributeBase o name X.env (eval o X.env) = eval o X.env:=by rfl)
  (hfew : ((backTo cpos (starEach (e :: es) X.env)).all (fun x=>!x.1) && (backToKw cpos (keywordEach [] X.env)).all (fun x=>x.1.isSome)
   && decide ((e :: es).length + ([] : List Keyword).length + (if ([] : List Keyword).isEmpty then 0 else 1) < 30)) = true:=by rfl)
  (hline : (apos.endLine == cpos.line) = true:=by rfl) (hs : starEach (e :: es) X.env = (false,eval e X.env) :: starEach es X.env:=by rfl) (hplain : (backTo cpos (starEach es X.env)).any (·.1) = false:=by rfl) :
  PE X (.Call (.Attribute o name apos) (e :: es) [] cpos) (tBM X.K T r to t):=by
 intro pins s σ H Q I h
 refine wpAny_Call_method_late hbase hfew hline rfl (thn (ho pins s σ H _ I h) fun v s1 ⟨x,H1,I1,r1,ty,q1⟩=>?_)
 obtain ⟨h1,h2⟩:=tyV_is I1 r1 ty
 refine ⟨T,id,pa,slot,hty,h1,h2,?_⟩
 have hA:=ha cpos pins s1 σ H1 _ I1 q1
 rw [hs] at hA ⊢
 refine Calls.callWith_builtin (by show (false || (backTo cpos (starEach es X.env)).any (·.1)) = false; rw [hplain] <;> rfl) (Calls.evalArgs_plain ?_)
 exact thn hA fun us s2 ⟨vs,H2,I2,r2,q2⟩=>hm pins s2 σ H2 x vs v us Q I2 r1 r2 q2
end
end L2
namespace L2
open PySem PySem.Spec PyProof.Rows
noncomputable def MtM (X : Cx) (id : String) (r : V→List V→Hp→VK→Prop) : Prop :=
 ∀ (pins : List (Addr × Obj)) (s : Shared) (σ : St) (H : Hp) (x : V) (xs : List V) (v : Value) (us : List Value) (Q : VK),Inv X pins σ H s→RelV x v→Vals xs us→r x xs H Q →
  wpAny (model X.prog X.w) X.A (call (.builtin id) (v :: us)) (EP X pins σ Q) X.xe s
theorem Vals.one : ∀ {x : V} {us : List Value},Vals [x] us→∃ u,us = [u]∧RelV x u
 | _,_,.cons r .nil=>⟨_,rfl,r⟩
theorem Vals.zero : ∀ {us : List Value},Vals [] us→us = []
 | _,.nil=>rfl
theorem Vals.dropLast {xs : List V} {us : List Value} (h : Vals xs us) : Vals xs.dropLast us.dropLast:=by
 induction h with
 | nil=>exact .nil
 | cons r t ih =>
  cases t with
  | nil=>exact .nil
  | cons q t'=>exact .cons r ih
theorem Vals.eraseIdx : ∀ {xs : List V} {us : List Value} (i : Nat),Vals xs us→Vals (xs.eraseIdx i) (us.eraseIdx i)
 | _,_,_,.nil=>.nil
 | _,_,0,.cons _ t=>t
 | _,_,i + 1,.cons r t=>.cons r (Vals.eraseIdx i t)
theorem Vals.reverse {xs : List V} {us : List Value} (h : Vals xs us) : Vals xs.reverse us.reverse:=by
 induction h with
 | nil=>exact .nil
 | cons r t ih=>rw [List.reverse_cons,List.reverse_cons]; exact Vals.append ih (.cons r .nil)
theorem Vals.rep {xs : List V} {us : List Value} (h : Vals xs us) : ∀ k : Nat,Vals (List.replicate k xs).flatten (List.replicate k us).flatten
 | 0=>.nil
 | k + 1=>by
  rw [List.replicate_succ,List.replicate_succ,List.flatten_cons,List.flatten_cons]
  exact Vals.append h (Vals.rep h k)
theorem erase_last {α : Type} (l : List α) : l.eraseIdx (l.length - 1) = l.dropLast:=by
 induction l with
 | nil=>rfl
 | cons a r ih =>
  cases r with
  | nil=>rfl
  | cons b r =>
   have e : (a :: b :: r).length - 1 = ((b :: r).length - 1) + 1:=by
    have h1 : (a :: b :: r).length = r.length + 2:=rfl
    have h2 : (b :: r).length = r.length + 1:=rfl
    omega
   rw [e,List.eraseIdx_cons_succ,ih]
   all_goals rfl
theorem foldl_rep (its : List Value) : ∀ (k : Nat) (acc : List Value),
  List.foldl (fun x1 x2=>x1 ++ x2) acc.toArray (List.replicate k its.toArray) = (acc ++ (List.replicate k its).flatten).toArray
 | 0,acc=>by simp
 | k + 1,acc=>by
  have e : acc.toArray ++ its.toArray = (acc ++ its).toArray:=by simp
  have e2 : (acc ++ its) ++ (List.replicate k its).flatten = acc ++ (List.replicate (k + 1) its).flatten:=by
   rw [List.replicate_succ,List.flatten_cons,List.append_assoc]
  rw [← e2,← foldl_rep its k (acc ++ its),← e,List.replicate_succ,List.foldl_cons]
section
variable {X : Cx} {pins : List (Addr × Obj)} {σ : St} {H : Hp} {s : Shared} {l b : Addr} {xs ys zs : List V}
theorem Inv.lset {its its' : List Value} {n : Nat} {f : Array Value→Array Value} {t' : Nat} (I : Inv X pins σ H s) (hH : H l = some (.lst xs))
  (e : s.heap.get? l = some { cls:=.type "list",data:=.seq its.toArray n }) (hf : f its.toArray = its'.toArray) (hv : Vals ys its') (hz : ys.length≤sizeLine) :
  Inv X pins σ (upd H l (.lst ys)) { s with heap:=s.heap.update l (Obj.mapSeq f),toks:=t' }:=by
 have q:=PySem.IsL.update e f
 rw [hf] at q
 refine I.write (x:=l) (e:=l) (by rw [hH]; exact trivial) (.inl rfl) (fun b' u hb hu=>(Heap.get?_update_other s.heap (Obj.mapSeq f) (Ne.symm hb)).trans hu) ⟨_,q⟩ ?_
 exact ⟨hz,its',_,hv,q⟩
theorem Inv.lnew {its : List Value} {t' : Nat} (I : Inv X pins σ H s) (hv : Vals ys its) (hz : ys.length≤sizeLine) :
  Inv X pins σ (upd H s.heap.objs.size (.lst ys)) { s with heap:=s.heap.push { cls:=.type "list",data:=.seq its.toArray },toks:=t' } :=
 I.laid (fun _ _ q=>Heap.get?_push_of_some _ q) (Nat.le_refl _) ⟨hz,its,0,hv,Heap.get?_push_size _ rfl⟩
theorem Inv.fresh (I : Inv X pins σ H s) : H s.heap.objs.size = none:=I.hok.fresh (Nat.le_refl _)
theorem Inv.lstM (I : Inv X pins σ H s) (hH : H l = some (.lst xs)) : xs.length≤sizeLine∧∃ (its : List Value) (n : Nat),Vals xs its∧xs.length = its.length∧s.heap.get? l = some { cls:=.type "list",data:=.seq its.toArray n }:=by
 obtain ⟨z,its,n,r,e⟩:=I.hok l _ hH
 exact ⟨z,its,n,r,r.length,e⟩
theorem notLongL {n : Nat} (h : n≤sizeLine) : Builtin.List.listTooLong n = false:=by
 unfold Builtin.List.listTooLong
 exact decide_eq_false (by omega)
end
section
variable {X : Cx}
noncomputable def rAppend : V→List V→Hp→VK→Prop:=fun x vs H Q=>∃ l xs y,x = .ref l∧vs = [y]∧H l = some (.lst xs)∧xs.length < sizeLine∧Q .non (upd H l (.lst (xs ++ [y])))
theorem mt_append : MtM X "list.append" rAppend:=by
 intro pins s σ H x vs v us Q I rx rv h
 obtain ⟨l,xs,y,rfl,rfl,hH,hz,q⟩:=h
 cases rx
 obtain ⟨u,rfl,ru⟩:=rv.one
 obtain ⟨z,its,n,r,hl,e⟩:=I.lstM hH
 refine call_meets F.slot_list_append ⟨_,e,rfl⟩ F.entry_list_append (F.args_list_append_2 _ _) (PySem.list_append l its.toArray n u (by rw [List.size_toArray]; omega)) ⟨e,?_⟩
 refine ⟨.non,_,I.lset (its':=its ++ [u]) hH e (by simp) (r.append (.cons ru .nil)) ?_,rfl,q⟩
 rw [List.length_append,List.length_singleton]
 omega
noncomputable def rPop : V→List V→Hp→VK→Prop:=fun x vs H Q=>∃ l xs y,x = .ref l∧vs = []∧H l = some (.lst xs)∧xs[xs.length - 1]? = some y∧Q y (upd H l (.lst xs.dropLast))
theorem mt_pop : MtM X "list.pop" rPop:=by
 intro pins s σ H x vs v us Q I rx rv h
 obtain ⟨l,xs,y,rfl,rfl,hH,hy,q⟩:=h
 cases rx
 have hus:=rv.zero
 subst hus
 obtain ⟨z,its,n,r,hl,e⟩:=I.lstM hH
 obtain ⟨u,hu,ru⟩:=r.get hy
 have hy' : its.toArray[its.toArray.size - 1]? = some u:=by
  show its.toArray[its.length - 1]? = some u
  rw [← Array.getElem?_toList,← hl]
  exact hu
 refine call_meets F.slot_list_pop ⟨_,e,rfl⟩ F.entry_list_pop (F.args_list_pop_1 _) (MeetsSeq.list_pop_last l its.toArray n u hy' (by rw [List.size_toArray]; omega)) ⟨e,?_⟩
 refine ⟨y,_,I.lset (its':=its.dropLast) hH e ?_ r.dropLast ?_,ru,q⟩
 ·show its.toArray.eraseIdxIfInBounds (its.toArray.size - 1) = its.dropLast.toArray
  rw [List.size_toArray,List.eraseIdxIfInBounds_toArray,erase_last]
 ·rw [List.length_dropLast]
  omega
noncomputable def rClear : V→List V→Hp→VK→Prop:=fun x vs H Q=>∃ l xs,x = .ref l∧vs = []∧H l = some (.lst xs)∧Q .non (upd H l (.lst []))
theorem mt_clear : MtM X "list.clear" rClear:=by
 intro pins s σ H x vs v us Q I rx rv h
 obtain ⟨l,xs,rfl,rfl,hH,q⟩:=h
 cases rx
 have hus:=rv.zero
 subst hus
 obtain ⟨z,its,n,r,hl,e⟩:=I.lstM hH
 refine call_meets F.slot_list_clear ⟨_,e,rfl⟩ F.entry_list_clear (F.args_list_clear_1 _) (AutoSeq1.list_clear_list_0 l its.toArray n (by rw [List.size_toArray]; omega)) ⟨e,?_⟩
 exact ⟨.non,_,I.lset (its':=[]) (ys:=[]) hH e rfl .nil (Nat.zero_le _),rfl,q⟩
noncomputable def rRep : R2:=fun x y H Q=>∃ l k xs,x = .ref l∧y = .int k∧H l = some (.lst xs)∧-(2 ^ 63)≤k∧k < 2 ^ 63∧xs.length * k.toNat≤sizeLine ∧
 ∀ p,H p = none→Q (.ref p) (upd H p (.lst (List.replicate k.toNat xs).flatten))
theorem len_rep {α : Type} (xs : List α) (k : Nat) : (List.replicate k xs).flatten.length = k * xs.length:=by
 induction k with
 | zero=>simp
 | succ k ih=>rw [List.replicate_succ,List.flatten_cons,List.length_append,ih,Nat.succ_mul,Nat.add_comm]
theorem op_rep : OpR X (binaryOp .Mult) rRep:=by
 intro pins s σ H x y v u Q I rx ry h
 obtain ⟨l,k,xs,rfl,rfl,hH,h1,h2,hz,q⟩:=h
 cases rx
 obtain ⟨t,rfl⟩:=ry
 obtain ⟨z,its,n,r,hl,e⟩:=I.lstM hH
 have hlen : its.toArray.size * k.toNat≤sizeLine:=by rw [List.size_toArray,← hl]; exact hz
 have hcap : ¬ its.toArray.size * k.toNat > (2 ^ 63 - 1) / 8:=by
  have : (sizeLine : Nat)≤(2 ^ 63 - 1) / 8:=by decide
  omega
 have hfit : ¬ (!Builtin.List.listFitsIndex k) = true:=by
  rw [fitsIndex_both h1 h2]
  exact Bool.false_ne_true
 have hlong : ¬ Builtin.List.listTooLong (its.toArray.size * k.toNat) = true:=by
  rw [notLongL hlen]
  exact Bool.false_ne_true
 have hnew : List.foldl (fun x1 x2=>x1 ++ x2) #[] (List.replicate (if its.toArray.isEmpty = true then 0 else k.toNat) its.toArray) = (List.replicate k.toNat its).flatten.toArray:=by
  have f0 : ∀ m : Nat,List.foldl (fun x1 x2=>x1 ++ x2) #[] (List.replicate m its.toArray) = (List.replicate m its).flatten.toArray:=fun m=>by
   have:=foldl_rep its m []
   rw [List.nil_append] at this
   exact this
  rw [f0]
  cases its with
  | nil=>simp
  | cons a r'=>rw [if_neg (by simp)]
 refine wpAny_binaryOp_repeat_ref (T:="list") (U:="int") (by decide) ⟨_,e,rfl⟩ (fun s'=>typeIs_int s' k t) noFill_list_mul F.fills_int_mul F.slot_int_rmul repeat_list F.slot_int_index.lookup
  (call_meets F.slot_int_rmul (typeIs_int s k t) F.entry_int_rmul (F.args_int_rmul_2 _ _) (int___rmul___int_list k t l its.toArray n)
   ⟨e,rfl,⟨_,e,rfl⟩,call_meets F.slot_list_mul ⟨_,e,rfl⟩ F.entry_list_mul (F.args_list_mul_2 _ _) (AutoListH.list___mul___list_int_3 l its.toArray n k t hfit hcap hlong) ⟨e,?_⟩⟩)
 rw [hnew]
 exact ⟨.ref _,_,I.lnew (t':=s.toks) (r.rep k.toNat) (by rw [len_rep,Nat.mul_comm]; exact hz),rfl,q _ I.fresh⟩
end
section
variable {prog : Program} {w : World} {A : Around} {E : Value→Shared→Prop} {s : Shared}
end
section
variable {X : Cx}
end
end L2
namespace Att
open PySem PySem.W PySem.Calls PyProof.Rows
theorem ints_of_wellAll {P : Params} {h : Heap} : ∀ (ns : List Int) (vs : List Value),WellAll P h vs (ns.map WData.int)→IntsAre vs ns:=by
 intro ns
 induction ns with
 | nil =>
  intro vs w
  rw [List.map_nil] at w
  cases w
  exact .nil
 | cons n ns ih =>
  intro vs w
  rw [List.map_cons] at w
  cases w with
  | cons a b =>
   cases a
   exact .cons _ _ (ih _ b)
theorem script_of {l : OpenLaw} {n : Nat} (hn : l.most = some n) {P : Params} {h : Heap} {args : List WData} {vals : List Value}
  (hpre : l.row.toRowW.claim.pre args = true) (hwl : WellAll P h vals args) :
  ∃ a vs ns,vals = [Value.ref a]∧args = [WData.list (ns.map WData.int)]∧h.get? a = some { cls:=.type "list",data:=.seq vs.toArray }∧IntsAre vs ns∧ns.length≤n:=by
 have hsh : WShape.hasAll [] args [.list .int] = true:=(pre_splitW hpre).1
 have hc : l.pre.holds [] { args:=args } = true:=(pre_splitW hpre).2
 obtain ⟨d,r,rfl,h1,h2⟩:=hasAllW_cons hsh
 obtain rfl:=hasAllW_nil h2
 obtain ⟨xs,rfl,h3⟩:=hasW_list h1
 obtain ⟨ns,rfl⟩:=items_int h3
 have hlen : ns.length≤n:=by
  unfold OpenLaw.pre at hc
  have h4 : (WTm.not (.lt (.lit (.int (n : Int))) (.len (.arg 0)))).holds [] { args:=[.list (ns.map .int)] } = true:=by
   have h4:=(holds_andW hc).1
   rw [hn] at h4
   exact h4
  have h5:=condW_of h4 (w_not (w_lt w_lit (w_len_list (w_arg rfl))))
  rw [List.length_map] at h5
  refine Nat.le_of_not_lt fun q=>?_
  have q' : (n : Int) < ((ns.length : Nat) : Int):=by omega
  first
   | (rw [decide_eq_true q'] at h5; exact absurd h5 (by decide))
   | (simp at h5; omega)
 cases hwl with
 | cons w1 w2 =>
  cases w2
  cases w1 with
  | list ho hall=>exact ⟨_,_,ns,rfl,rfl,ho,ints_of_wellAll ns _ hall,hlen⟩
theorem post_true (l : OpenLaw) (args : List WData) : l.row.toRowW.claim.post args (.bool true) args = true :=
 postW_of (r:=l.row.toRowW) (X:=(true == true))
  (show WShape.has [] (.bool true) .bool = true by first | rfl | decide | simp [WShape.has,WShape.arms,WShape.armsAll])
  (show (WTm.eq .res (.lit (.bool true))).value [] { args:=args,res:=some (.bool true),after:=args } = some (.bool (true == true)) from w_eq_bool (w_res rfl) w_lit) rfl
theorem attach_call {l : OpenLaw} {n : Nat} {q : Program} {loose : List Str} {XP : (Str→Option Value)→Heap→Prop} {YP : World→Heap→Prop} {d : DefRec}
  (hn : l.most = some n) (hdf : d.params.defaults = [])
  (call : ∀ (w : World) (s₀ s₁ : Shared) (mg mb : Str→Option Value) (fa : Addr) (o : Obj) (pm cd doc : Value) (a : Addr) (vs : List Value) (ns : List Int),
   Ground q loose [] XP w s₀ mg mb s₁.heap→YP w s₁.heap →
   s₁.heap.get? fa = some o→o.data = .func (docDef d.name d.params d.body d.scope pm cd doc)→s₁.heap.CodeRec cd d.name→mg d.name = some (.ref fa) →
   s₁.heap.get? a = some { cls:=.type "list",data:=.seq vs.toArray }→IntsAre vs ns→ns.length≤n→s₁.gens = #[] →
   codeAny (model l.prog w) callerA (.call (.ref fa) ⟨[.ref a],[]⟩) (fun r s'=>r = .ok (.ret (.bool true))∧OldK s₁.heap s'.heap∧s'.os = s₁.os∧AllBare s'.gens) s₁) :
  WalkO q loose XP YP l.row.toRowW d [] (fun f vs=>PySem.call f vs):=by
 intro w s₀ s₁ mg mb G Y fa o pm cd doc dV kV ho hd hcd hD hmg hg args vals as hpre hlay hrd hwl hlo
 obtain rfl : dV = .none:=Dflts.none hD hdf
 obtain rfl : kV = .none:=Dflts.noKw hD
 obtain ⟨a,vs,ns,rfl,rfl,hobj,hints,hlen⟩:=script_of hn hpre hwl
 refine enter_call (codeAny_mono (call w s₀ s₁ mg mb fa o pm cd doc a vs ns G Y ho (fd_plain hd) hcd hmg hobj hints hlen hg) fun r s' hq=>?_)
 obtain ⟨rfl,h2,h3,h4⟩:=hq
 exact ⟨.inl ⟨.bool true,.bool true,[],rfl,fun _=>rfl,.bool true,post_true l _,fun _=>⟨List.Pairwise.nil,fun _ hm=>(nomatch hm)⟩⟩,h2,h3,h4⟩
section
variable {prog : Program} {w : World} {A : Around} {E : Value→Shared→Prop} {s : Shared} {K : Frag}
end
end Att
namespace L2
open PySem PySem.Spec PyProof.Rows
theorem vals_ints : ∀ {vs : List Value} {ns : List Int},IntsAre vs ns→Vals (ns.map V.int) vs
 | _,_,.nil=>.nil
 | _,_,.cons n t h=>.cons ⟨t,rfl⟩ (vals_ints h)
noncomputable def Only (H : Hp) : Prop:=∀ b,H b = none∨∃ o xs,H b = some (.frz o (.lst xs))
theorem law_call {P : Program} {w : World} {K : PySem.W.Frag} {mg mb : Str→Option Value} {CX : CXT} {k : Nat} {fa a : Addr} {fd : FuncData} {x : Str} {sp : Sp} {s₁ : Shared} {vs : List Value} {ns : List Int}
  (KX : K.In s₁.heap) (hns : s₁.heap.Ns mainGlobals mg) (hb : s₁.heap.Ns builtinsNs mb) (hbb : ∀ x : Str,x ≠ "__name__"→mb x = bootBuiltins x) (hlim : s₁.heap.NoLimit) (hg : s₁.gens = #[])
  (ha : s₁.heap.get? a = some { cls:=.type "list",data:=.seq vs.toArray }) (hi : IntsAre vs ns) (hl : ns.length≤sizeLine) (hr : Room k callerA)
  (F : ∀ base : Heap,K.In base→base.Ns mainGlobals mg→FnOk P w K mg base CX k fa fd [x] sp) (hbind : ∀ (s : Shared) (u : Value),BindsTo s fd ⟨[u],[]⟩ [(x,u)])
  (hsp : ∀ H : Hp,Only H→SqL K H a (ns.map V.int)→sp [.ref a] H (fun v _=>v = .bl true) fun _ _ _=>False)
  (hCX : ∀ H e s',CX [] H s₁ (fun _ _ _=>False) e s'→False) :
  codeAny (model P w) callerA (.call (.ref fa) ⟨[.ref a],[]⟩) (fun r s'=>r = .ok (.ret (.bool true))∧OldK s₁.heap s'.heap∧s'.os = s₁.os∧AllBare s'.gens) s₁:=by
 have rv:=vals_ints hi
 have lenV:=hi.length
 have core : ∀ H : Hp,Only H→SqL K H a (ns.map V.int)→HOk P w H s₁.heap→(∀ b,H b ≠ none→b = a)→(H a ≠ none→K.lookup a = none) →
   codeAny (model P w) callerA (.call (.ref fa) ⟨[.ref a],[]⟩) (fun r s'=>r = .ok (.ret (.bool true))∧OldK s₁.heap s'.heap∧s'.os = s₁.os∧AllBare s'.gens) s₁:=by
  intro H hO hS hok hA hK
  have base_of : ∀ {b : Addr} {o : Obj},s₁.heap.get? b = some o→H b = none→(hidT s₁.heap H).get? b = some o:=fun e n=>hidT_get e n
  have noA : ∀ {b : Addr} {o : Obj} {es : Array DictEntry} {ep : Nat},s₁.heap.get? b = some o→o.data = .dict es ep→H b = none:=fun {b o es ep} e d=>by
   cases q : H b with
   | none=>rfl
   | some u =>
    have e' : b = a:=hA b (by rw [q]; simp)
    subst e'
    rw [ha] at e; cases e
    have d' : Data.seq vs.toArray _ = Data.dict es ep:=d
    cases d'
  have nsK : ∀ {b : Addr} {m : Str→Option Value},s₁.heap.Ns b m→(hidT s₁.heap H).Ns b m:=fun {b m} ⟨o,es,ep,e,d,r⟩=>⟨o,es,ep,base_of e (noA e d),d,r⟩
  have hKb : K.In (hidT s₁.heap H):=fun b o e=>base_of (KX b o e) (by
   cases q : H b with
   | none=>rfl
   | some u =>
    have e' : b = a:=hA b (by rw [q]; simp)
    subst e'
    rw [hK (by rw [q]; simp)] at e; cases e)
  have hM : Mod K mg (hidT s₁.heap H):=⟨hKb,nsK hns,⟨mb,nsK hb,hbb⟩,let ⟨mc,h1,h2⟩:=hlim; ⟨mc,nsK h1,h2⟩⟩
  have e0 : Env0 P w K mg (hidT s₁.heap H) callerA [] s₁ H:=⟨rfl,hM,fun b o e=>of_hidT e,Nat.le_of_eq (hidT_size _ _),trivial,fun b hb=>absurd (show b∈([] : List Addr) from hb) (by simp),hok,.of_eq hg⟩
  refine codeAny_mono ((F _ hKb (nsK hns)).run callerA [] s₁ H ⟨[.ref a],[]⟩ [.ref a] [.ref a] _ _ hr e0 (hbind s₁ (.ref a)) (.cons rfl .nil) (hsp H hO hS)) fun r s' h=>?_
  cases r with
  | error e=>exact (hCX H e s' h).elim
  | ok fl =>
   cases fl with
   | next=>exact False.elim h
   | brk=>exact False.elim h
   | cont=>exact False.elim h
   | ret u =>
    obtain ⟨v,H',os,bare,un,hok',r',q⟩:=h
    have q' : v = .bl true:=q
    subst q'
    obtain rfl : u = Value.bool true:=r'
    refine ⟨rfl,OldK.of_keep fun b o e=>?_,os,bare⟩
    cases q : H b with
    | none=>exact un.keep b o e q (by intro z; exact absurd (show b∈([] : List Addr) from z) (by simp)) (by simp)
    | some u =>
     rcases hO b with z | ⟨ob,xs,z⟩
     ·rw [q] at z; cases z
     ·have z2:=un.frzs b ob _ z
      obtain ⟨e1,_⟩:=hok b _ z
      obtain ⟨e2,_⟩:=hok' b _ z2
      rw [e] at e1; cases e1
      exact e2
 cases hk : K.lookup a with
 | some o =>
  have e:=KX a o hk
  rw [ha] at e
  cases e
  refine core (fun _=>none) (fun _=>.inl rfl) (.inr ⟨_,vs.toArray,_,hk,rfl,rfl,rfl,by rw [List.size_toArray,lenV]; exact hl,by simpa using rv⟩) (fun b u z=>by have z' : (none : Option HO) = some u:=z; cases z') (fun b z=>absurd rfl z) fun z=>absurd rfl z
 | none =>
  refine core (fun b=>if b = a then some (.frz { cls:=.type "list",data:=.seq vs.toArray } (.lst (ns.map V.int))) else none) (fun b=>?_) (.inl (.inr ⟨{ cls:=.type "list",data:=.seq vs.toArray },if_pos rfl⟩)) (fun b u z=>?_) (fun b z=>?_) fun _=>hk
  ·by_cases hb : b = a
   ·exact .inr ⟨_,_,if_pos hb⟩
   ·exact .inl (if_neg hb)
  ·by_cases hb : b = a
   ·have z':=(if_pos hb).symm.trans z
    cases z'
    subst hb
    exact ⟨ha,by rw [List.length_map]; exact hl,vs,_,rv,ha⟩
   ·have z':=(if_neg hb).symm.trans z
    cases z'
  ·by_cases hb : b = a
   ·exact hb
   ·exact absurd (if_neg hb) z
end L2
namespace L2
open PySem PySem.Spec PyProof.Rows
theorem walk_of {l : PySem.W.OpenLaw} {n k : Nat} {q : Program} {loose : List Str} {XP : (Str→Option Value)→Heap→Prop} {YP : World→Heap→Prop} {d : DefRec} {K : Params→PySem.W.Frag} {CX : World→CXT} {sp : World→Sp} {x : Str}
  (hn : l.most = some n) (hn2 : n≤sizeLine) (hdf : d.params.defaults = []) (hr : Room k callerA)
  (hY : ∀ (w : World) (h : Heap),YP w h→(K w.params).In h)
  (F : ∀ (w : World) (mg : Str→Option Value) (fa : Addr) (h : Heap),(K w.params).In h→h.Ns mainGlobals mg→mg d.name = some (.ref fa) →
   ∃ fd : FuncData,(∀ (s : Shared) (u : Value),BindsTo s fd ⟨[u],[]⟩ [(x,u)]) ∧
    ∀ base : Heap,(K w.params).In base→base.Ns mainGlobals mg→FnOk l.prog w (K w.params) mg base (CX w) k fa fd [x] (sp w))
  (hsp : ∀ (w : World) (H : Hp) (a : Addr) (ns : List Int),ns.length≤n→Only H→SqL (K w.params) H a (ns.map V.int)→sp w [.ref a] H (fun v _=>v = .bl true) fun _ _ _=>False)
  (hCX : ∀ (w : World) (H : Hp) (s : Shared) (e : Value) (s' : Shared),CX w [] H s (fun _ _ _=>False) e s'→False) :
  PySem.W.WalkO q loose XP YP l.row.toRowW d [] (fun f vs=>PySem.call f vs):=by
 refine Att.attach_call hn hdf fun w s₀ s₁ mg mb fa o pm cd doc a vs ns G Y ho hd hcd hmg hobj hints hlen hg=>?_
 have KX:=hY w _ Y
 obtain ⟨fd,hb,hF⟩:=F w mg fa _ KX G.T.g hmg
 exact law_call KX G.T.g G.T.b G.T.builtins G.T.nolimit hg hobj hints (Nat.le_trans hlen hn2) hr hF hb (fun H hO hS=>hsp w H a ns hlen hO hS) fun H e s'=>hCX w H s₁ e s'
end L2
namespace L2
open PySem PySem.Spec PyProof.Rows
noncomputable def defArgs (s : Stmt) : Arguments:=match s with
 | .FunctionDef _ a _ _ _ _ _ _ _ _=>a
 | _=>{ posonlyargs:=[],args:=[],vararg:=none,kwonlyargs:=[],kw_defaults:=[],kwarg:=none,defaults:=[] }
noncomputable def defBody (s : Stmt) : List Stmt:=match s with
 | .FunctionDef _ _ b _ _ _ _ _ _ _=>b
 | _=>[]
noncomputable def defScope (s : Stmt) : Scope:=match s with
 | .FunctionDef _ _ _ _ _ _ sc _ _ _=>sc
 | _=>{ kind:=.function,names:=[],isGenerator:=false,isCoroutine:=false }
noncomputable abbrev CX0 : CXT:=fun _ _ _ _ _ _=>False
noncomputable abbrev E0 : XK:=fun _ _ _=>False
theorem pass0 {X : Cx} : Passes CX0 X E0:=fun _ _ _ _ _ _ _ h=>h.elim
structure Fun (K : PySem.W.Frag) (x qual : Str) (st : Stmt) (f : Addr) (fd : FuncData) : Prop where
 ex : ∃ (oc : Value) (od : Option Addr) (kV doc pm : Value) (an : Option Addr) (cdv ct : Value) (osl : Array (Option Value)),
  fd = PySem.W.fnOf x qual (defArgs st) (defBody st) (defScope st) .none kV doc pm an cdv ct∧K.lookup f = some ⟨oc,od,.func fd,osl⟩∧PySem.W.codeIn K cdv qual = true
 kp : PySem.W.keepIn K (.ref f) = true
section
variable {P : Program} {w : World} {K : PySem.W.Frag} {mg : Str→Option Value} {base : Heap}
theorem Fun.ok {x qual : Str} {st : Stmt} {f : Addr} {fd : FuncData} {N ps : List Str} {k : Nat} {sp : Sp} (F : Fun K x qual st f fd) (S : FnScope N ps (defScope st)) (len : ∀ vs H Q E,sp vs H Q E→vs.length = ps.length)
  (hbody : ∀ (cdv : Value) (A : Around) (outer : List Env) (s : Shared) (H : Hp) (vs : List V) (Q : VK) (E : XK),Room k (A.deeper (envOfC qual (defScope st) s.heap.objs.size f cdv))→sp vs H Q E →
   ∃ t,PSs (cxOf CX0 P w K mg base N qual (defScope st) f cdv A outer s H E).nox (defBody st) t∧t { nx:=fun _ H'=>Q .non H',rt:=Q } (start N vs) H) : FnOk P w K mg base CX0 (k + 1) f fd ps sp:=by
 obtain ⟨oc,od,kV,doc,pm,an,cdv,ct,osl,rfl,lk,hcd⟩:=F.ex
 refine fn_of lk hcd S len fun A outer s H vs Q E hr hsp=>?_
 obtain ⟨t,h,q⟩:=hbody cdv A outer s H vs Q E hr hsp
 exact ⟨t,h.nox,q⟩
theorem Fun.binds {x qual : Str} {st : Stmt} {f : Addr} {fd : FuncData} {ps : List Str} (F : Fun K x qual st f fd)
  (h : ∀ (kV doc pm : Value) (an : Option Addr) (cdv ct : Value) (us : List Value),us.length = ps.length→bindArgs (PySem.W.fnOf x qual (defArgs st) (defBody st) (defScope st) .none kV doc pm an cdv ct) ⟨us,[]⟩ = pure (ps.zip us)) : Binds K fd ps []:=by
 obtain ⟨oc,od,kV,doc,pm,an,cdv,ct,osl,rfl,lk,hcd⟩:=F.ex
 exact .all (h kV doc pm an cdv ct)
theorem fun_mk {x qual : Str} {st : Stmt} {f : Addr} {oc : Value} {od an : Option Addr} {osl : Array (Option Value)} {kV doc pm cdv ct : Value} (l : K.lookup f = some ⟨oc,od,.func (PySem.W.fnOf x qual (defArgs st) (defBody st) (defScope st) .none kV doc pm an cdv ct),osl⟩)
  (c : PySem.W.codeIn K cdv qual = true) (k : PySem.W.keepIn K (.ref f) = true) : Fun K x qual st f (PySem.W.fnOf x qual (defArgs st) (defBody st) (defScope st) .none kV doc pm an cdv ct):=⟨⟨oc,od,kV,doc,pm,an,cdv,ct,osl,rfl,l,c⟩,k⟩
end
theorem small1000 {n : Nat} (h : n≤1000) : n < sizeLine:=Nat.lt_of_le_of_lt h (by decide)
section
variable {X : Cx}
end
noncomputable def Same (H H' : Hp) : Prop:=∀ b o,H b = some o→H' b = some o
theorem Same.refl (H : Hp) : Same H H:=fun _ _ h=>h
theorem Same.trans {H H1 H2 : Hp} (a : Same H H1) (b : Same H1 H2) : Same H H2:=fun c o h=>b c o (a c o h)
theorem Same.free {H H' : Hp} (e : Same H H') {l : Addr} (h : H' l = Option.none) : H l = Option.none:=by
 cases q : H l with
 | none=>rfl
 | some o =>
  rw [e l o q] at h
  cases h
theorem Same.seq {K : PySem.W.Frag} {H H' : Hp} {a : Addr} {xs : List V} (e : Same H H') (h : SqL K H a xs) : SqL K H' a xs:=by
 rcases h with (h | ⟨o,h⟩) | h
 ·exact .inl (.inl (e _ _ h))
 ·exact .inl (.inr ⟨o,e _ _ h⟩)
 ·exact .inr h
end L2
namespace L2
open PySem PySem.Spec PyProof.Rows
theorem PE.imp {X : Cx} {e : Expr} {t t' : TE} (h : PE X e t) (ht : ∀ σ H Q,t' σ H Q→t σ H Q) : PE X e t':=fun pins s σ H Q I q=>h pins s σ H Q I (ht σ H Q q)
section
variable {X : Cx} {pins : List (Addr × Obj)} {σ : List (Option V)} {H : Hp} {s : Shared} {h' : Heap}
theorem Inv.turns {fp : List Addr} {t' : Nat} (I : Inv X pins σ H s) (k : ∀ b o,b ∉ fp→s.heap.get? b = some o→h'.get? b = some o) (hf : ∀ b∈fp,FpOk X pins H b) : Inv X pins σ H { s with heap:=h',toks:=t' }:=by
 have nit : ∀ b u,H b = some u→b ∉ fp:=fun b u e z=>by rw [(hf b z).1] at e; cases e
 refine I.step (g':=s.gens) (d':=s.drawn) (ch:=fp) (fun b hb=>⟨(hf b hb).2.2.2.1,(hf b hb).2.1,(hf b hb).2.2.2.2.1,(hf b hb).2.2.2.2.2⟩) (fun b o _ _ hc e _=>k b o hc e) (fun b o _ _ hc e _=>⟨o.slots,k b o hc e⟩) (fun _ _ _ _ n=>n)
  (fun b o hc e=>⟨o,k b o hc e⟩) (fun _ _ e=>e) (fun _ _ _ e=>e) (fun b ps e=>⟨#[],by rw [e]; simp⟩) (fun m hm=>?_) (fun b u e=>?_) I.bare
 ·obtain ⟨o,es,ep,ho,r⟩:=hm
  exact ⟨o,es,ep,k _ o (fun z=>(hf _ z).2.1 rfl) ho,r⟩
 ·refine (I.hok b u e).stay (fun c v hc q=>k c v ?_ q) (fun _ q=>q) fun _ _ q=>q
  rcases hc with z | z
  ·rw [z]; exact nit b u e
  ·exact nit c _ z
theorem Inv.turnLay {fp : List Addr} {T : Addr} {o : HO} {t' : Nat} (I : Inv X pins σ H s) (k : ∀ b o,b ∉ fp→s.heap.get? b = some o→h'.get? b = some o) (hf : ∀ b∈fp,FpOk X pins H b) (hT : s.heap.objs.size≤T)
  (new : ObjOk X.prog X.w (upd H T o) h' T o) : Inv X pins σ (upd H T o) { s with heap:=h',toks:=t' }:=by
 have hn : H T = none:=I.hok.fresh hT
 have nit : ∀ b u,H b = some u→b ∉ fp:=fun b u e z=>by rw [(hf b z).1] at e; cases e
 have neT : ∀ {b : Addr} {u : Obj},s.heap.get? b = some u→b ≠ T:=fun e=>Nat.ne_of_lt (Nat.lt_of_lt_of_le (Heap.lt_size e) hT)
 refine I.step (g':=s.gens) (d':=s.drawn) (ch:=fp) (fun b hb=>⟨(hf b hb).2.2.2.1,(hf b hb).2.1,(hf b hb).2.2.2.2.1,(hf b hb).2.2.2.2.2⟩) (fun b o _ _ hc e _=>k b o hc e) (fun b o _ _ hc e _=>⟨o.slots,k b o hc e⟩)
  (fun b o _ e n=>by rw [upd_ne (neT e)]; exact n)
  (fun b o hc e=>⟨o,k b o hc e⟩) (fun b xs e=>by rw [upd_ne (ne_of_none e hn)]; exact e) (fun b _ _ e=>by rw [upd_ne (ne_of_none e hn)]; exact e) (fun b ps e=>⟨#[],by rw [upd_ne (ne_of_none e hn),e]; simp⟩) (fun m hm=>?_) (fun b u e=>?_) I.bare
 ·obtain ⟨o,es,ep,ho,r⟩:=hm
  exact ⟨o,es,ep,k _ o (fun z=>(hf _ z).2.1 rfl) ho,r⟩
 ·by_cases hb : b = T
  ·subst hb; rw [upd_same] at e; cases e; exact new
  ·rw [upd_ne hb] at e
   refine (I.hok b u e).stay (fun c v hc q=>k c v ?_ q) (fun c q=>by rw [upd_ne (ne_of_none q hn)]; exact q) fun c xs q=>by rw [upd_ne (ne_of_none q hn)]; exact q
   rcases hc with z | z
   ·rw [z]; exact nit b u e
   ·exact nit c _ z
end
noncomputable def Ite (K : PySem.W.Frag) (a : Addr) : It :=
  ⟨fun i H => ∃ xs x, SqL K H a xs ∧ xs[i]? = some x,
   fun i H v H' => ∃ p x, H p = none ∧ v = .ref p ∧ (∀ xs, SqL K H a xs → xs[i]? = some x) ∧ H' = upd H p (.tup [.int (i : Int), x]),
   fun i H => ∃ xs, SqL K H a xs ∧ xs.length ≤ i⟩
theorem turn_enum {P : Program} {w : World} {K : PySem.W.Frag} {elts : List Expr} {k : Nat} {pos : Pos} (a e it : Addr) (hei : e ≠ it) :
  Turn P w K (.Tuple elts k pos) (Ite K a) [e,it] e (fun i h=>(∃ old,IsEnum h e it (i : Nat) old)∧h.IsListIter it a i) where
 mem:=by simp
 obj:=fun i h st b hb=>by
  obtain ⟨⟨old,he⟩,⟨o,e1,c,d⟩⟩:=st
  rcases List.mem_cons.mp hb with rfl | hb
  ·exact ⟨_,he,fun v z=>by have z' : Data.fields _ = Data.cell v:=z; cases z'⟩
  ·rw [List.mem_singleton.mp hb]
   exact ⟨o,e1,fun v z=>by rw [d] at z; cases z⟩
 keep:=fun i h h' st k=>by
  obtain ⟨⟨old,he⟩,st⟩:=st
  exact ⟨⟨old,k e (by simp) _ he⟩,st.at fun o e=>k it (by simp) o e⟩
 item:=by
  intro X hP hw hK hc i pins s σ H E I hf st hg
  subst hP hw hK
  obtain ⟨⟨old,he⟩,hit⟩:=st
  obtain ⟨xs,x,hq,hx⟩:=hg
  obtain ⟨its,rv,p,hz⟩:=I.list hq
  obtain ⟨u,hu,ru⟩:=rv.get hx
  refine wpAny_pyNext_enum_item he hit p.isList (x:=u) (by simpa using hu) hei fun h' ho hit' hT hsz hk=>?_
  refine ⟨_,rfl,wpAny_letOwnedTupleGo_enum ho fun h2 he2 hs2=>?_⟩
  have hlt : e < s.heap.objs.size:=Heap.lt_size he
  have hT2 : h2.get? s.heap.objs.size = some { cls:=.type "tuple",data:=.seq #[.int i s.toks,u] }:=(hs2.2 _ (Nat.ne_of_gt hlt)).trans hT
  refine ⟨.ref s.heap.objs.size,upd H s.heap.objs.size (.tup [.int (i : Int),x]),?_,rfl,⟨_,x,I.hok.fresh (Nat.le_refl _),rfl,fun ys hy=>by rw [I.list_inj hy hq]; exact hx,rfl⟩,⟨⟨u,by simpa using he2⟩,hit'.at fun o y=>(hs2.2 it hei.symm).trans y⟩,fun b hb=>?_⟩
  ·refine I.turnLay (fp:=[e,it]) (fun b o hb q=>?_) hf (Nat.le_refl _) ⟨by show 2≤sizeLine; decide,[.int i s.toks,u],.cons ⟨_,rfl⟩ (.cons ru .nil),⟨_,hT2,rfl,_,rfl⟩⟩
   have h1 : b ≠ e:=fun z=>hb (by simp [z])
   have h2' : b ≠ it:=fun z=>hb (by simp [z])
   exact (hs2.2 b h1).trans (hk b o h1 h2' q)
  ·have hne : b ≠ s.heap.objs.size:=by
    rcases List.mem_cons.mp hb with rfl | hb
    ·exact Nat.ne_of_lt hlt
    ·rw [List.mem_singleton.mp hb]
     obtain ⟨_,y,_⟩:=hit
     exact Nat.ne_of_lt (Heap.lt_size y)
   rw [upd_ne hne]; exact (hf b hb).1
 done:=by
  intro X hP hw hK hc i pins s σ H E I hf st hg
  subst hP hw hK
  obtain ⟨⟨old,he⟩,hit⟩:=st
  obtain ⟨xs,hq,hx⟩:=hg
  obtain ⟨its,rv,p,hz⟩:=I.list hq
  have hl:=rv.length
  refine wpAny_pyNext_enum_end (I.ok.hd hc) he hit p.isList (by simp; omega) fun h' eb=>⟨rfl,I.turns (t':=s.toks) (fp:=[e,it]) (fun b o hb q=>eb b o (fun z=>hb (by simp [z])) q) hf⟩
 self:=fun _ _ _ _ _ st h=>by
  obtain ⟨⟨old,he⟩,_⟩:=st
  exact wpAny_pyIter_enum he h
section
variable {X : Cx}
noncomputable def iEnum (K : PySem.W.Frag) (ta : TA) : TI:=fun σ H R=>ta σ H fun vs H1=>∃ a,vs = [.ref a]∧(∃ xs,SqL K H1 a xs)∧R (Ite K a) H1
theorem pi_enum {elts : List Expr} {k : Nat} {tpos : Pos} {l : Expr} {ta : TA} {p pos : Pos} (hg : Gl X "enumerate") (hm : X.mg "enumerate" = none) (ha : PA X [l] ta) (hs : starEach [l] X.env = [(false,eval l X.env)]:=by rfl) :
  PI X (.Tuple elts k tpos) (.Call (.Name "enumerate" p) [l] [] pos) (iEnum X.K ta):=by
 intro pins s σ H R I h
 refine Call_ (ld_blt I hg hm boot_enumerate (PyProof.Rows.callWith_type1 (thn (ha pos pins s σ H _ I h) fun us s1 ⟨vs,H1,I1,r1,q1⟩=>?_) hs rfl))
 obtain ⟨a,e,⟨xs,hq⟩,q⟩:=q1
 subst e
 cases r1 with
 | cons r rr =>
  cases rr
  cases r
  obtain ⟨its,rv,pl,hz⟩:=I1.list hq
  refine call_enumerate_list pl.isList fun h' hE hI hsz hk=>?_
  refine wpAny_pyIter_enum hE ?_
  have hne : s1.heap.objs.size + 1 ≠ s1.heap.objs.size:=Nat.succ_ne_self _
  refine ⟨_,[s1.heap.objs.size + 1,s1.heap.objs.size],_,_,H1,rfl,I1.kept (t':=s1.toks) hk,turn_enum a _ s1.heap.objs.size hne,⟨⟨.none,hE⟩,hI⟩,fun b hb=>?_,q⟩
  have hb' : s1.heap.objs.size≤b:=by
   rcases List.mem_cons.mp hb with rfl | hb
   ·exact Nat.le_succ _
   ·rw [List.mem_singleton.mp hb]; exact Nat.le_refl _
  exact I1.fpOk hb' (I1.hok.fresh hb')
end
noncomputable def Itz (K : PySem.W.Frag) (a b : Addr) : It :=
  ⟨fun i H => ∃ xs x ys y, SqL K H a xs ∧ xs[i]? = some x ∧ SqL K H b ys ∧ ys[i]? = some y,
   fun i H v H' => ∃ p x y, H p = none ∧ v = .ref p ∧ (∀ xs, SqL K H a xs → xs[i]? = some x) ∧ (∀ ys, SqL K H b ys → ys[i]? = some y) ∧ H' = upd H p (.tup [x, y]),
   fun i H => ∃ xs ys, SqL K H a xs ∧ SqL K H b ys ∧ (xs.length ≤ i ∨ ys.length ≤ i)⟩
structure ZipOff (z TI TO i1 i2 : Addr) : Prop where
 TIz : TI ≠ z
 TOz : TO ≠ z
 i1z : i1 ≠ z
 i2z : i2 ≠ z
 TITO : TI ≠ TO
 TIi1 : TI ≠ i1
 TIi2 : TI ≠ i2
 TOi1 : TO ≠ i1
 TOi2 : TO ≠ i2
 i12 : i1 ≠ i2
noncomputable def ZipSt (z TI TO i1 i2 a b : Addr) (i : Nat) (h : Heap) : Prop :=
 IsZip h z TI TO .none∧IsPair h TI (.ref i1) (.ref i2)∧(∃ c d,IsPair h TO c d)∧h.IsListIter i1 a i∧h.IsListIter i2 b i
theorem zip_apart {h : Heap} {z TI TO i1 i2 a b : Addr} {i : Nat} {xs ys : Array Value} (D : ZipOff z TI TO i1 i2) (st : ZipSt z TI TO i1 i2 a b i h) (ha : h.IsList a xs) (hb : h.IsList b ys) : ZipApart z TI TO i1 i2 a b:=by
 obtain ⟨hz,hTI,⟨c,d,hTO⟩,⟨o1,e1,c1,_⟩,⟨o2,e2,c2,_⟩⟩:=st
 obtain ⟨oa,ea,ca,_⟩:=ha
 obtain ⟨ob,eb,cb,_⟩:=hb
 have nz : ∀ {l : Addr} {o : Obj},h.get? l = some o→o.cls = .type "list"→l ≠ z:=fun e c q=>by
  subst q; rw [hz] at e; cases e; simp at c
 have nT : ∀ {l : Addr} {o : Obj},h.get? l = some o→o.cls = .type "list"→l ≠ TO:=fun e c q=>by
  subst q; rw [hTO] at e; cases e; simp at c
 have n1 : ∀ {l : Addr} {o : Obj},h.get? l = some o→o.cls = .type "list"→l ≠ i1:=fun e c q=>by
  subst q; rw [e1] at e; cases e; rw [c1] at c; simp at c
 have n2 : ∀ {l : Addr} {o : Obj},h.get? l = some o→o.cls = .type "list"→l ≠ i2:=fun e c q=>by
  subst q; rw [e2] at e; cases e; rw [c2] at c; simp at c
 exact ⟨D.TIz,D.TOz,D.i1z,D.i2z,D.TITO,D.TIi1,D.TIi2,D.TOi1,D.TOi2,D.i12,nz ea ca,nT ea ca,n1 ea ca,n2 ea ca,nz eb cb,nT eb cb,n1 eb cb,n2 eb cb⟩
theorem turn_zip {P : Program} {w : World} {K : PySem.W.Frag} {elts : List Expr} {k : Nat} {pos : Pos} (a b z TI TO i1 i2 : Addr) (D : ZipOff z TI TO i1 i2) :
  Turn P w K (.Tuple elts k pos) (Itz K a b) [z,TI,TO,i1,i2] z (ZipSt z TI TO i1 i2 a b) where
 mem:=by simp
 obj:=fun i h st c hc=>by
  obtain ⟨hz,hTI,⟨c1,d1,hTO⟩,⟨o1,e1,_,g1⟩,⟨o2,e2,_,g2⟩⟩:=st
  simp only [List.mem_cons,List.not_mem_nil,or_false] at hc
  rcases hc with rfl | rfl | rfl | rfl | rfl
  ·exact ⟨_,hz,fun v q=>by have q' : Data.fields _ = Data.cell v:=q; cases q'⟩
  ·exact ⟨_,hTI,fun v q=>by have q' : Data.seq _ _ = Data.cell v:=q; cases q'⟩
  ·exact ⟨_,hTO,fun v q=>by have q' : Data.seq _ _ = Data.cell v:=q; cases q'⟩
  ·exact ⟨o1,e1,fun v q=>by rw [g1] at q; cases q⟩
  ·exact ⟨o2,e2,fun v q=>by rw [g2] at q; cases q⟩
 keep:=fun i h h' st k=>by
  obtain ⟨hz,hTI,⟨c1,d1,hTO⟩,h1,h2⟩:=st
  exact ⟨k z (by simp) _ hz,k TI (by simp) _ hTI,⟨c1,d1,k TO (by simp) _ hTO⟩,h1.at fun o e=>k i1 (by simp) o e,h2.at fun o e=>k i2 (by simp) o e⟩
 item:=by
  intro X hP hw hK hc i pins s σ H E I hf st hg
  subst hP hw hK
  obtain ⟨xs,x,ys,y,hq,hx,hq2,hy⟩:=hg
  obtain ⟨its,rv,p,hz⟩:=I.list hq
  obtain ⟨u,hu,ru⟩:=rv.get hx
  obtain ⟨its2,rv2,p2,hz2⟩:=I.list hq2
  obtain ⟨u2,hu2,ru2⟩:=rv2.get hy
  have DA:=zip_apart D st p.isList p2.isList
  obtain ⟨sz,sTI,⟨c1,d1,sTO⟩,s1,s2⟩:=st
  refine wpAny_pyNext_zip_item DA sz sTI sTO s1 s2 p.isList p2.isList (x:=u) (y:=u2) (by simpa using hu) (by simpa using hu2) fun h' a1 a2 a3 a4 a5 a6 hk=>?_
  refine ⟨_,rfl,wpAny_letOwnedTupleGo_zip a1 fun h2 he2 hs2=>?_⟩
  have lt : ∀ {c : Addr} {o : Obj},s.heap.get? c = some o→c ≠ s.heap.objs.size:=fun e=>Nat.ne_of_lt (Heap.lt_size e)
  have hT2 : IsPair h2 s.heap.objs.size u u2:=(hs2.2 _ (lt sz).symm).trans a5
  have sTI':=hk _ _ DA.TIz DA.TITO DA.TIi1 DA.TIi2 sTI
  refine ⟨.ref s.heap.objs.size,upd H s.heap.objs.size (.tup [x,y]),?_,rfl,⟨_,x,y,I.hok.fresh (Nat.le_refl _),rfl,fun zs hz=>by rw [I.list_inj hz hq]; exact hx,fun zs hz=>by rw [I.list_inj hz hq2]; exact hy,rfl⟩,
   ⟨he2,(hs2.2 _ DA.TIz).trans sTI',⟨u,u2,(hs2.2 _ DA.TOz).trans a2⟩,a3.at fun o q=>(hs2.2 i1 DA.i1z).trans q,a4.at fun o q=>(hs2.2 i2 DA.i2z).trans q⟩,fun c hc=>?_⟩
  ·refine I.turnLay (fp:=[z,TI,TO,i1,i2]) (t':=s.toks) (fun c o hc q=>?_) hf (Nat.le_refl _) ⟨by show 2≤sizeLine; decide,[u,u2],.cons ru (.cons ru2 .nil),⟨_,hT2,rfl,_,rfl⟩⟩
   simp only [List.mem_cons,List.not_mem_nil,or_false,not_or] at hc
   obtain ⟨n1,n2,n3,n4,n5⟩:=hc
   exact (hs2.2 c n1).trans (hk c o n1 n3 n4 n5 q)
  ·have hne : c ≠ s.heap.objs.size:=by
    simp only [List.mem_cons,List.not_mem_nil,or_false] at hc
    obtain ⟨_,e1,_⟩:=s1
    obtain ⟨_,e2,_⟩:=s2
    rcases hc with rfl | rfl | rfl | rfl | rfl
    ·exact lt sz
    ·exact lt sTI
    ·exact lt sTO
    ·exact lt e1
    ·exact lt e2
   rw [upd_ne hne]; exact (hf c hc).1
 done:=by
  intro X hP hw hK hc i pins s σ H E I hf st hg
  subst hP hw hK
  obtain ⟨xs,ys,hq,hq2,hx⟩:=hg
  obtain ⟨its,rv,p,hz⟩:=I.list hq
  obtain ⟨its2,rv2,p2,hz2⟩:=I.list hq2
  have hl:=rv.length
  have hl2:=rv2.length
  have DA:=zip_apart D st p.isList p2.isList
  obtain ⟨sz,sTI,⟨c1,d1,sTO⟩,s1,s2⟩:=st
  refine wpAny_pyNext_zip_end (I.ok.hd hc) DA sz sTI sTO s1 s2 p.isList p2.isList (by rcases hx with q | q; exact .inl (by simp; omega); exact .inr (by simp; omega)) fun h' hk=>⟨rfl,I.turns (t':=s.toks) (fp:=[z,TI,TO,i1,i2]) (fun c o hc q=>?_) hf⟩
  simp only [List.mem_cons,List.not_mem_nil,or_false,not_or] at hc
  obtain ⟨n1,n2,n3,n4,n5⟩:=hc
  exact hk c o n1 n3 n4 n5 q
 self:=fun _ _ _ _ _ st h=>wpAny_pyIter_zip st.1 h
section
variable {X : Cx}
noncomputable def iZip (K : PySem.W.Frag) (ta : TA) : TI:=fun σ H R=>ta σ H fun vs H1=>∃ a b,vs = [.ref a,.ref b]∧(∃ xs,SqL K H1 a xs)∧(∃ ys,SqL K H1 b ys)∧R (Itz K a b) H1
theorem pi_zip {elts : List Expr} {k : Nat} {tpos : Pos} {l l2 : Expr} {ta : TA} {p pos : Pos} (hg : Gl X "zip") (hm : X.mg "zip" = none) (ha : PA X [l,l2] ta) (hs : starEach [l,l2] X.env = [(false,eval l X.env),(false,eval l2 X.env)]:=by rfl) (hs2 : starEach [l2] X.env = [(false,eval l2 X.env)]:=by rfl) :
  PI X (.Tuple elts k tpos) (.Call (.Name "zip" p) [l,l2] [] pos) (iZip X.K ta):=by
 intro pins s σ H R I h
 refine Call_ (ld_blt I hg hm boot_zip (PyProof.Rows.callWith_type1 (thn (ha pos pins s σ H _ I h) fun us s1 ⟨vs,H1,I1,r1,q1⟩=>?_) (by rw [hs,hs2]) (by rw [hs2]; rfl)))
 obtain ⟨a,b,e,⟨xs,hq⟩,⟨ys,hq2⟩,q⟩:=q1
 subst e
 cases r1 with
 | cons r rr =>
  cases rr with
  | cons r2 rr =>
   cases rr
   cases r
   cases r2
   obtain ⟨its,rv,pl,hz⟩:=I1.list hq
   obtain ⟨its2,rv2,pl2,hz2⟩:=I1.list hq2
   refine call_zip_2 pl.isList pl2.isList fun h' g1 g2 g3 g4 g5 hsz hk=>?_
   refine wpAny_pyIter_zip g1 ?_
   have D : ZipOff (s1.heap.objs.size + 4) (s1.heap.objs.size + 2) (s1.heap.objs.size + 3) s1.heap.objs.size (s1.heap.objs.size + 1):=by
    have e : ∀ n : Nat,(n : Addr) = n:=fun _=>rfl
    constructor <;> (intro z; have z':=congrArg (fun x : Nat=>x) z; simp at z')
   refine ⟨_,[s1.heap.objs.size + 4,s1.heap.objs.size + 2,s1.heap.objs.size + 3,s1.heap.objs.size,s1.heap.objs.size + 1],_,_,H1,rfl,I1.kept (t':=s1.toks) hk,turn_zip a b _ _ _ _ _ D,⟨g1,g2,⟨_,_,g3⟩,g4,g5⟩,fun c hc=>?_,q⟩
   have hb' : s1.heap.objs.size≤c:=by
    simp only [List.mem_cons,List.not_mem_nil,or_false] at hc
    rcases hc with rfl | rfl | rfl | rfl | rfl
    ·exact Nat.le_add_right _ _
    ·exact Nat.le_add_right _ _
    ·exact Nat.le_add_right _ _
    ·exact Nat.le_refl _
    ·exact Nat.le_add_right _ _
   exact I1.fpOk hb' (I1.hok.fresh hb')
end
end L2
namespace L2
open PySem PySem.Spec PyProof.Rows
theorem closure_of {env : Env} : ∀ (names : List (Str × NameKind)) (acc : List (Str × Addr)),(∀ y∈names,y.2 = .free→∃ c,env.cells.lookup y.1 = some c)→(∀ x c,acc.lookup x = some c→env.cells.lookup x = some c) →
  ∃ cl : List (Str × Addr),(forIn names acc fun (x : Str × NameKind) (r : List (Str × Addr))=>(match x with | (name,kind)=>if (kind == NameKind.free) = true then do let c ← cellOf env name; pure (ForInStep.yield ((name,c) :: r)) else pure (ForInStep.yield r) : Sem (ForInStep (List (Str × Addr)))) : Sem (List (Str × Addr))) = pure cl ∧
   (∀ x c,cl.lookup x = some c→env.cells.lookup x = some c)∧(∀ x,(x,NameKind.free)∈names→∃ c,cl.lookup x = some c)∧∀ x c,acc.lookup x = some c→∃ c',cl.lookup x = some c'
 | [],acc,_,ha=>⟨acc,rfl,ha,fun _ h=>(nomatch h),fun x c h=>⟨c,h⟩⟩
 | (n,k) :: r,acc,hf,ha=>by
  by_cases hk : k = .free
  ·subst hk
   obtain ⟨c,hc⟩:=hf (n,.free) List.mem_cons_self rfl
   have ha' : ∀ x c',((n,c) :: acc).lookup x = some c'→env.cells.lookup x = some c':=fun x c' h=>by
    rw [List.lookup_cons] at h
    cases hx : x == n with
    | true =>
     rw [hx] at h
     cases h
     rw [eq_of_beq hx]; exact hc
    | false =>
     rw [hx] at h
     exact ha x c' h
   obtain ⟨cl,e,h1,h2,h3⟩:=closure_of r ((n,c) :: acc) (fun y hy=>hf y (List.mem_cons_of_mem _ hy)) ha'
   refine ⟨cl,?_,h1,fun x hx=>?_,fun x c' hx=>?_⟩
   ·rw [List.forIn_cons]
    have ec : cellOf env n = pure c:=by unfold cellOf; rw [hc]
    simp only [beq_self_eq_true,if_true,ec]
    exact e
   ·rcases List.mem_cons.mp hx with z | z
    ·cases z
     exact h3 n c (by rw [List.lookup_cons,beq_self_eq_true])
    ·exact h2 x z
   ·by_cases hxn : (x == n) = true
    ·exact h3 x c (by rw [List.lookup_cons,hxn])
    ·exact h3 x c' (by rw [List.lookup_cons]; simp only [hxn]; exact hx)
  ·obtain ⟨cl,e,h1,h2,h3⟩:=closure_of r acc (fun y hy=>hf y (List.mem_cons_of_mem _ hy)) ha
   refine ⟨cl,?_,h1,fun x hx=>?_,h3⟩
   ·rw [List.forIn_cons]
    have eb : (k == NameKind.free) = false:=by simpa using hk
    simp only [eb,Bool.false_eq_true,if_false]
    exact e
   ·rcases List.mem_cons.mp hx with z | z
    ·cases z; exact absurd rfl hk
    ·exact h2 x z
theorem closureFor_of {scope : Scope} {env : Env} (hf : ∀ y∈scope.names,y.2 = .free→∃ c,env.cells.lookup y.1 = some c) :
  ∃ cl : List (Str × Addr),closureFor scope env = pure cl∧(∀ x c,cl.lookup x = some c→env.cells.lookup x = some c)∧∀ x,(x,NameKind.free)∈scope.names→∃ c,cl.lookup x = some c:=by
 obtain ⟨cl,e,h1,h2,_⟩:=closure_of (env:=env) scope.names [] hf (fun x c h=>by simp at h)
 refine ⟨cl,?_,h1,h2⟩
 unfold closureFor
 show (forIn scope.names ([] : List (Str × Addr)) _ >>= fun c=>pure c) = pure cl
 refine Eq.trans (congrArg (fun (q : Sem (List (Str × Addr)))=>q >>= fun c=>pure c) e) ?_
 rfl
theorem relabel_from {scope : Scope} {env : Env} {x : Str} {k : NameKind} : ∀ {names : List (Str × NameKind)},(names.map fun (n,k)=>if (k == NameKind.free && env.scope.kind == .function && env.kindOf n == some .cell) then (n,NameKind.cell) else (n,k)).lookup x = some k →
  ∃ k',(x,k')∈names∧(k = k'∨(k' = .free∧k = .cell))
 | [],h=>by simp at h
 | (n,j) :: r,h=>by
  have h' : List.lookup x ((if (j == NameKind.free && env.scope.kind == .function && env.kindOf n == some .cell) = true then (n,NameKind.cell) else (n,j)) :: (r.map fun (n,k)=>if (k == NameKind.free && env.scope.kind == .function && env.kindOf n == some .cell) then (n,NameKind.cell) else (n,k))) = some k:=h
  by_cases hc : (j == NameKind.free && env.scope.kind == .function && env.kindOf n == some .cell) = true
  ·rw [if_pos hc,List.lookup_cons] at h'
   cases hx : x == n with
   | true =>
    rw [hx] at h'
    cases h'
    have ej : j = .free:=by
     simp only [Bool.and_eq_true] at hc
     exact eq_of_beq hc.1.1
    rw [eq_of_beq hx]
    exact ⟨.free,by rw [ej]; exact List.mem_cons_self,.inr ⟨rfl,rfl⟩⟩
   | false =>
    rw [hx] at h'
    obtain ⟨k',hm,q⟩:=relabel_from (scope:=scope) (env:=env) (names:=r) h'
    exact ⟨k',List.mem_cons_of_mem _ hm,q⟩
  ·rw [if_neg hc,List.lookup_cons] at h'
   cases hx : x == n with
   | true =>
    rw [hx] at h'
    cases h'
    rw [eq_of_beq hx]
    exact ⟨_,List.mem_cons_self,.inl rfl⟩
   | false =>
    rw [hx] at h'
    obtain ⟨k',hm,q⟩:=relabel_from (scope:=scope) (env:=env) (names:=r) h'
    exact ⟨k',List.mem_cons_of_mem _ hm,q⟩
theorem relabel_free {env : Env} {x : Str} : ∀ {names : List (Str × NameKind)},names.lookup x = some .free →
  (names.map fun (n,k)=>if (k == NameKind.free && env.scope.kind == .function && env.kindOf n == some .cell) then (n,NameKind.cell) else (n,k)).lookup x = some .cell ∨
  (names.map fun (n,k)=>if (k == NameKind.free && env.scope.kind == .function && env.kindOf n == some .cell) then (n,NameKind.cell) else (n,k)).lookup x = some .free
 | [],h=>by simp at h
 | (n,j) :: r,h=>by
  have ih:=@relabel_free env x r
  show List.lookup x ((if (j == NameKind.free && env.scope.kind == .function && env.kindOf n == some .cell) = true then (n,NameKind.cell) else (n,j)) :: _) = _∨List.lookup x ((if (j == NameKind.free && env.scope.kind == .function && env.kindOf n == some .cell) = true then (n,NameKind.cell) else (n,j)) :: _) = _
  by_cases hc : (j == NameKind.free && env.scope.kind == .function && env.kindOf n == some .cell) = true
  ·rw [if_pos hc,List.lookup_cons]
   cases hx : x == n with
   | true=>exact .inl rfl
   | false =>
    rw [List.lookup_cons,hx] at h
    exact ih h
  ·rw [if_neg hc,List.lookup_cons]
   cases hx : x == n with
   | true =>
    rw [List.lookup_cons,hx] at h
    exact .inr h
   | false =>
    rw [List.lookup_cons,hx] at h
    exact ih h
noncomputable def capB (N : List Str) (sc scope : Scope) : List Str→List (Option Nat)→Bool
 | [],[]=>true
 | _ :: xs,none :: cs=>capB N sc scope xs cs
 | x :: xs,some j :: cs=>(match N[j]? with | some y=>y == x | none=>false) && (match sc.names.lookup x with | some .cell=>true | some .free=>true | _=>false) &&
   (match scope.names.lookup x with | some .free=>true | _=>false) && capB N sc scope xs cs
 | _,_=>false
theorem capB_len {N : List Str} {sc scope : Scope} : ∀ {xs : List Str} {cs : List (Option Nat)},capB N sc scope xs cs = true→cs.length = xs.length
 | [],[],_=>rfl
 | _ :: xs,none :: cs,h=>congrArg (· + 1) (capB_len (xs:=xs) (cs:=cs) h)
 | x :: xs,some j :: cs,h=>by
  simp only [capB,Bool.and_eq_true] at h
  exact congrArg (· + 1) (capB_len (xs:=xs) (cs:=cs) h.2)
 | [],_ :: _,h=>by simp [capB] at h
 | _ :: _,[],h=>by simp [capB] at h
theorem capB_at {N : List Str} {sc scope : Scope} : ∀ {xs : List Str} {cs : List (Option Nat)},capB N sc scope xs cs = true→∀ (i : Nat) (x : Str) (j : Nat),xs[i]? = some x→cs[i]? = some (some j) →
  N[j]? = some x∧(sc.names.lookup x = some .cell∨sc.names.lookup x = some .free)∧scope.names.lookup x = some .free
 | [],[],_,i,x,j,h,_=>by simp at h
 | _ :: xs,none :: cs,h,0,x,j,_,h2=>by simp at h2
 | _ :: xs,none :: cs,h,i + 1,x,j,h1,h2=>capB_at (xs:=xs) (cs:=cs) h i x j (by simpa using h1) (by simpa using h2)
 | y :: xs,some k :: cs,h,0,x,j,h1,h2=>by
  simp only [capB,Bool.and_eq_true] at h
  obtain ⟨⟨⟨a,b⟩,c⟩,_⟩:=h
  have e1 : y = x:=by simpa using h1
  have e2 : k = j:=by simpa using h2
  subst e1 e2
  refine ⟨?_,?_,?_⟩
  ·cases q : N[k]? with
   | none=>rw [q] at a; simp at a
   | some z=>rw [q] at a; rw [eq_of_beq a]
  ·cases q : sc.names.lookup y with
   | none=>rw [q] at b; simp at b
   | some z=>rw [q] at b; cases z <;> first | exact .inl rfl | exact .inr rfl | simp at b
  ·cases q : scope.names.lookup y with
   | none=>rw [q] at c; simp at c
   | some z=>rw [q] at c; cases z <;> first | rfl | simp at c
 | y :: xs,some k :: cs,h,i + 1,x,j,h1,h2=>by
  simp only [capB,Bool.and_eq_true] at h
  exact capB_at (xs:=xs) (cs:=cs) h.2 i x j (by simpa using h1) (by simpa using h2)
 | [],_ :: _,h,_,_,_,_,_=>by simp [capB] at h
 | _ :: _,[],h,_,_,_,_,_=>by simp [capB] at h
noncomputable def lcB (N : List Str) (sc scope : Scope) (N' : List Str) (cap : List (Option Nat)) : Bool :=
 capB N sc scope N' cap && (scope.kind == .function) && (scope.names.all fun y=>y.2 != .cell) &&
 (scope.names.all fun y=>y.2 != .local || scope.names.lookup y.1 == some .local) &&
 (scope.names.all fun y=>y.2 != .free || sc.names.lookup y.1 == some .cell || sc.names.lookup y.1 == some .free)
noncomputable def capSt (cap : List (Option Nat)) (σ : St) : St:=cap.map fun o=>match o with
 | none=>none
 | some j=>match σ[j]? with
  | some v=>v
  | none=>none
noncomputable def lcCx (X : Cx) (scope : Scope) (N' : List Str) (cl : List (Str × Addr)) (C : Addr) (s : Shared) (H : Hp) (ex : List Addr) : Cx :=
 { X with N:=N',s₀:=s,H₀:=H,env:=compEnvC scope cl C X.env,outer:=X.stack,ex:=ex,fn:=fun _=>false,pn:=[],xe:=fun _ _=>False }
section
variable {X : Cx} {pins : List (Addr × Obj)} {σ : St} {H : Hp} {s : Shared}
theorem lc_inv {scope : Scope} {N' : List Str} {cap : List (Option Nat)} {cl : List (Str × Addr)} {ex : List Addr} {h₁ : Heap} {m : Str→Option Value} (hB : lcB X.N X.env.scope scope N' cap = true) (I : Inv X pins σ H s)
  (c1 : ∀ x c,cl.lookup x = some c→X.env.cells.lookup x = some c) (c2 : ∀ x,(x,NameKind.free)∈scope.names→∃ c,cl.lookup x = some c) (hf : ∀ b∈ex,FpOk X pins H b) (hex : ∀ b∈ex,b < s.heap.objs.size)
  (hn : h₁.Ns s.heap.objs.size m) (hk : ∀ b o,s.heap.get? b = some o→h₁.get? b = some o) {t' : Nat} :
  Inv (lcCx X scope N' cl s.heap.objs.size s H ex) [] (capSt cap σ) H { s with heap:=h₁,toks:=t' }:=by
 simp only [lcB,Bool.and_eq_true] at hB
 obtain ⟨⟨⟨⟨b1,b2⟩,b3⟩,b4⟩,b5⟩:=hB
 have kind : scope.kind = .function:=eq_of_beq b2
 have nocell : ∀ y∈scope.names,y.2 ≠ .cell:=fun y hy=>by
  have:=List.all_eq_true.mp b3 y hy
  simpa using this
 have ok : (lcCx X scope N' cl s.heap.objs.size s H ex).Ok:=by
  refine ⟨I.ok.mod,kind,I.ok.glob,I.ok.blt,Nat.le_refl _,fun x y c e1 e2=>I.ok.inj x y c (c1 x c e1) (c1 y c e2),fun x hx=>?_,fun x c e _=>(by cases e),I.ok.hd,I.ok.frames,.inl rfl,fun b hb=>⟨Nat.ne_of_lt (hex b hb),fun x c e=>(hf b hb).2.2.2.2.1 x c (c1 x c e)⟩,
   I.bs,Nat.le_trans I.ok.bsz I.sz,fun b o e hb=>?_,fun b hb hb2=>?_,I.stack,I.stkFree⟩
  ·have hx' : ∃ k,(relabel scope X.env).names.lookup x = some k∧(k = .cell∨k = .free):=by
    rcases hx with z | z
    ·exact ⟨.cell,z,.inl rfl⟩
    ·exact ⟨.free,z,.inr rfl⟩
   obtain ⟨k,e,hkk⟩:=hx'
   obtain ⟨k',hm,q⟩:=relabel_from (scope:=scope) (env:=X.env) (names:=scope.names) e
   have ek : k' = .free:=by
    rcases q with q | q
    ·rw [← q]
     rcases hkk with z | z
     ·exact absurd (q.symm.trans z) (nocell _ hm)
     ·exact z
    ·exact q.1
   rw [ek] at hm
   exact c2 x hm
  ·rcases (hf b hb).2.2.2.1 with z | z
   ·exact I.ok.noex b o e z
   ·exact absurd (Nat.lt_of_lt_of_le (Nat.lt_of_lt_of_le (Heap.lt_size e) I.ok.bsz) z) (Nat.lt_irrefl _)
  ·rcases List.mem_cons.mp (I.stkSub b hb2) with z | z
   ·exact (hf b hb).2.1 z
   ·exact (hf b hb).2.2.1 z
 refine ⟨ok,rfl,I.bare,Un.kept hk,⟨m,hn,fun i x v e1 e2 e3=>?_⟩,fun x c e=>?_,I.hok.fresh (Nat.le_refl _),fun x c e=>I.freeC x c (c1 x c e),fun p hp=>absurd (show p∈([] : List (Addr × Obj)) from hp) (by simp),I.hok.kept hk,?_⟩
 ·have e2' : (capSt cap σ)[i]? = some (some v):=e2
  unfold capSt at e2'
  rw [List.getElem?_map] at e2'
  cases ec : cap[i]? with
  | none=>rw [ec] at e2'; simp at e2'
  | some o =>
   rw [ec] at e2'
   cases o with
   | none=>simp at e2'
   | some j =>
    simp only [Option.map_some,Option.some.injEq] at e2'
    have ej : σ[j]? = some (some v):=by
     cases q : σ[j]? with
     | none=>rw [q] at e2'; simp at e2'
     | some z=>rw [q] at e2'; simp only at e2'; rw [e2']
    obtain ⟨q1,q2,q3⟩:=capB_at b1 i x j e1 ec
    obtain ⟨m0,hn0,hl0⟩:=I.loc
    obtain ⟨u,r,l⟩:=hl0 j x v q1 ej (by rcases q2 with z | z; exact .inr (.inl z); exact .inr (.inr z))
    refine ⟨u,r,?_⟩
    rcases l with ⟨kl,_⟩ | ⟨_,c,hc,z⟩
    ·have kl' : X.env.scope.names.lookup x = some .local:=kl
     rcases q2 with q2 | q2 <;> (rw [q2] at kl'; cases kl')
    ·obtain ⟨o,ho,hd⟩:=z
     obtain ⟨c',hc'⟩:=c2 x (PySem.mem_of_lookup q3)
     have : c' = c:=by
      have:=c1 x c' hc'
      rw [hc] at this
      exact (Option.some.inj this).symm
     subst this
     exact .inr ⟨relabel_free q3,c',hc',o,hk _ _ ho,hd⟩
 ·obtain ⟨v,o,ho,hd⟩:=I.cell x c (c1 x c e)
  exact ⟨v,o,hk _ _ ho,hd⟩
 ·show (capSt cap σ).length = N'.length
  unfold capSt
  rw [List.length_map]
  exact capB_len b1
end
noncomputable def tTrue : TT:=fun _ H Q=>Q true H
noncomputable def PIfs (X : Cx) (ifs : List Expr) (t : TT) : Prop :=
 ∀ (pins : List (Addr × Obj)) (s : Shared) (σ : St) (H : Hp) (Q : Bool→Hp→Prop),Inv X pins σ H s→t σ H Q →
  wpAny (model X.prog X.w) X.A (forIn ifs true fun c r=>if r = true then do let ok ← isTrue c X.env (eval c X.env); pure (ForInStep.yield ok) else pure (ForInStep.yield r)) (TP X pins σ Q) X.xe s
theorem pif_nil {X : Cx} : PIfs X [] tTrue:=fun _ _ _ H _ I h=>wpAny_tests_nil ⟨H,I,h⟩
theorem pif_one {X : Cx} {c : Expr} {t : TT} (h : PT X c t) : PIfs X [c] t:=fun pins s σ H Q I q=>wpAny_tests_one (h pins s σ H Q I q)
section
variable {prog : Program} {w : World} {A : Around} {R : Result→Shared→Prop} {s : Shared}
theorem compLoop_go {elt target iter : Expr} {ifs : List Expr} {scope : Scope} {pos : Pos} {it acc : Value} {env : Env} (I : Nat→Shared→Prop)
  (turn : ∀ n s,I n s→wpAny (model prog w) A (pyNext it) (fun r s₁=>match r with
   | none=>R (.ok .next) s₁
   | some v=>wpAny (model prog w) A (letOwnedTupleGo target it v) (fun _ s₁'=>wpAny (model prog w) A (assign target env v) (fun _ s₂ =>
     wpAny (model prog w) A (forIn ifs true fun c r=>if r = true then do let ok ← isTrue c env (eval c env); pure (ForInStep.yield ok) else pure (ForInStep.yield r)) (fun ok s₃ =>
      if ok = true then wpAny (model prog w) A (eval elt env) (fun x s₄ =>
       wpAny (model prog w) A (call (.builtin "list.append") [acc,x]) (fun _ s₅=>∃ m,m < n∧I m s₅) (fun _ _=>False) s₄) (fun _ _=>False) s₃
      else ∃ m,m < n∧I m s₃) (fun _ _=>False) s₂) (fun _ _=>False) s₁') (fun _ _=>False) s₁) (fun _ _=>False) s)
  (n : Nat) (h : I n s) :
  codeAny (model prog w) A (.compLoop (.ListComp elt [⟨target,iter,ifs,0⟩] scope pos) 0 it acc env) R s:=by
 refine codeAny_loop rfl I (fun n s hI=>?_) n h
 show wpAny _ A ((compTurn (.ListComp elt [⟨target,iter,ifs,0⟩] scope pos) 0 it acc env).onRaise (fun x=>do noteFrame x env; theTreesLotGoes x)) _ _ s
 refine wpAny_noted ?_
 rw [compTurn_list]
 refine wpAny_bind (wpAny_standAt (wpAny_bind (wpAny_mono (turn n s hI) (fun r s₁ h₁=>?_) fun _ _ h'=>h'.elim)))
 cases r with
 | none=>exact wpAny_pure h₁
 | some v =>
  refine wpAny_bind (wpAny_mono h₁ (fun _ s₁' h₁'=>wpAny_bind (wpAny_mono h₁' (fun _ s₂ h₂=>wpAny_bind (wpAny_mono h₂ (fun ok s₃ h₃=>?_) fun _ _ h'=>h'.elim)) fun _ _ h'=>h'.elim)) fun _ _ h'=>h'.elim)
  cases ok with
  | false=>exact wpAny_pure ⟨rfl,h₃⟩
  | true =>
   exact wpAny_bind (wpAny_bind (wpAny_mono h₃ (fun x s₄ h₄=>wpAny_bind (wpAny_mono h₄ (fun _ s₅ h₅=>wpAny_pure (wpAny_pure ⟨rfl,h₅⟩)) fun _ _ h'=>h'.elim)) fun _ _ h'=>h'.elim))
end
noncomputable def CapK (a b : St) : Prop:=∀ (j : Nat) v,a[j]? = some (some v)→b[j]? = some (some v)
theorem CapK.refl {a : St} : CapK a a:=fun _ _ h=>h
theorem CapK.set {a b : St} {i : Nat} {v : Option V} (h : CapK a b) (hi : a[i]? = some none) : CapK a (b.set i v):=fun j u e=>by
 by_cases hj : j = i
 ·subst hj; rw [hi] at e; cases e
 ·rw [List.getElem?_set_ne (Ne.symm hj)]; exact h j u e
noncomputable def lcRd (J : It) (cap : List (Option Nat)) (g : TG) (tc : TT) (te : TE) (σ : St) (H1 : Hp) (Q : VK) : Prop :=
 ∀ D,H1 D = none→∃ W : Nat→Nat→Hp→Prop,(∃ m,W 0 m (upd H1 D (.lst [])))∧∀ i m H,W i m H →
  (J.stop i H∧Q (.ref D) H)∨(J.go i H∧∀ x H',J.yld i H x H'→g x (capSt cap σ) H' fun σ2 H2=>CapK (capSt cap σ) σ2∧tc σ2 H2 fun b H3 =>
   if b = true then te σ2 H3 fun y H4=>∃ xs,H4 D = some (.lst xs)∧xs.length < sizeLine∧∃ m',m' < m∧W (i + 1) m' (upd H4 D (.lst (xs ++ [y])))
   else ∃ m',m' < m∧W (i + 1) m' H3)
noncomputable def tLC (wi : TI) (cap : List (Option Nat)) (g : TG) (tc : TT) (te : TE) : TE:=fun σ H Q=>wi σ H fun J H1=>lcRd J cap g tc te σ H1 Q
section
variable {X : Cx} {pins : List (Addr × Obj)} {σ : St} {H : Hp} {s : Shared} {tg elt iter : Expr} {ifs : List Expr} {scope : Scope} {pos : Pos} {N' : List Str} {cap : List (Option Nat)} {g : TG} {tc : TT} {te : TE}
theorem lc_block {E : Value→Shared→Prop} {J : It} {fp : List Addr} {it : Addr} {tn : Nat→Heap→Prop} {Q : VK} {cl : List (Str × Addr)} {RR : Value→Addr→Result→Shared→Prop} (hc : X.calm = true) (hB : lcB X.N X.env.scope scope N' cap = true)
  (hg : ∀ cl C s₀ H₀ ex,PG (lcCx X scope N' cl C s₀ H₀ ex) tg g) (hi : ∀ cl C s₀ H₀ ex,PIfs (lcCx X scope N' cl C s₀ H₀ ex) ifs tc) (he : ∀ cl C s₀ H₀ ex,PE (lcCx X scope N' cl C s₀ H₀ ex) elt te)
  (c1 : ∀ x c,cl.lookup x = some c→X.env.cells.lookup x = some c) (c2 : ∀ x,(x,NameKind.free)∈scope.names→∃ c,cl.lookup x = some c)
  (I : Inv X pins σ H s) (T : Turn X.prog X.w X.K tg J fp it tn) (st : tn 0 s.heap) (hf : ∀ b∈fp,FpOk X pins H b) (rd : lcRd J cap g tc te σ H Q)
  (hRR : ∀ D C s' m H',Inv X pins σ H' s'→s'.heap.Ns C m→FpOk X pins H' C→Q (.ref D) H'→RR (.ref D) C (.ok .next) s') :
  wpAny (model X.prog X.w) X.A (newList []) (fun acc s₃=>wpAny (model X.prog X.w) X.A (newFunctionEnv scope X.env.globals cl [] X.env.qual none .none (some X.env)) (fun cenv s₄ =>
   codeAny (model X.prog X.w) X.A (.compStart (.ListComp elt [⟨tg,iter,ifs,0⟩] scope pos) 0 (.ref it) acc { cenv with scope:=relabel scope X.env }) (RR acc cenv.locals) s₄) E s₃) E s:=by
 have hB':=hB
 simp only [lcB,Bool.and_eq_true] at hB'
 obtain ⟨⟨⟨⟨b1,b2⟩,b3⟩,b4⟩,b5⟩:=hB'
 have kind : scope.kind = .function:=eq_of_beq b2
 have nocell : ∀ y∈scope.names,y.2 ≠ .cell:=fun y hy=>by
  have:=List.all_eq_true.mp b3 y hy
  simpa using this
 have hfp : ∀ b∈fp,b < s.heap.objs.size:=fun b hb=>let ⟨o,e,_⟩:=T.obj 0 _ st b hb; Heap.lt_size e
 refine wpAny_newObj_type (wpAny_newFunctionEnv nocell (by intro y hy; simp at hy) (fun h₁ hns₁ hsb₁=>?_) kind)
 dsimp only at hns₁ hsb₁ ⊢
 have I3 : Inv X pins σ (upd H s.heap.objs.size (.lst [])) { s with heap:=s.heap.push { cls:=.type "list",data:=.seq ([] : List Value).toArray },toks:=s.toks }:=I.lnew (ys:=[]) (its:=[]) .nil (Nat.zero_le _)
 generalize hs3 : ({ s with heap:=s.heap.push { cls:=.type "list",data:=.seq ([] : List Value).toArray },toks:=s.toks } : Shared) = s3 at I3
 have eh : s3.heap = s.heap.push { cls:=.type "list",data:=.seq ([] : List Value).toArray }:=by rw [← hs3]
 have sz3 : s3.heap.objs.size = s.heap.objs.size + 1:=by rw [eh,Heap.size_push]
 obtain ⟨W,⟨m0,w0⟩,turn⟩:=rd s.heap.objs.size (I.hok.fresh (Nat.le_refl _))
 have hf3 : ∀ b∈fp,FpOk X pins (upd H s.heap.objs.size (.lst [])) b:=fun b hb=>⟨by rw [upd_ne (Nat.ne_of_lt (hfp b hb))]; exact (hf b hb).1,(hf b hb).2⟩
 have hex3 : ∀ b∈fp,b < s3.heap.objs.size:=fun b hb=>by rw [sz3]; exact Nat.lt_succ_of_lt (hfp b hb)
 have hns₁' : h₁.Ns s3.heap.objs.size (fun x=>([] : List (Str × Value)).reverse.lookup x):=by rw [eh]; exact hns₁
 have old : ∀ b o,s3.heap.get? b = some o→h₁.get? b = some o:=fun b o e=>by
  refine hsb₁.extBut b o ?_ (Heap.get?_push_of_some _ (by rw [← eh]; exact e))
  rw [← eh]
  exact Nat.ne_of_lt (Heap.lt_size e)
 have I4:=lc_inv (t':=s.toks) hB I3 c1 c2 hf3 hex3 hns₁' old
 have old0 : ∀ b o,s.heap.get? b = some o→h₁.get? b = some o:=fun b o e=>old b o (by rw [eh]; exact Heap.get?_push_of_some _ e)
 have st4 : tn 0 h₁:=T.keep _ _ _ st fun b _ o e=>old0 b o e
 have eC : (s.heap.push { cls:=.type "list",data:=.seq ([] : List Value).toArray }).objs.size = s3.heap.objs.size:=by rw [eh]
 have stat : ∀ {H' : Hp},(∀ b∈fp,H' b = none)→∀ b∈fp,FpOk (lcCx X scope N' cl s3.heap.objs.size s3 (upd H s.heap.objs.size (.lst [])) fp) [] H' b:=fun hn b hb =>
  ⟨hn b hb,Nat.ne_of_lt (hex3 b hb),fun z=>by
   rcases List.mem_cons.mp (I3.stkSub b z) with q | q
   ·exact (hf b hb).2.1 q
   ·exact (hf b hb).2.2.1 q,.inl hb,fun x c e=>(hf b hb).2.2.2.2.1 x c (c1 x c e),fun p hp=>absurd (show p∈([] : List (Addr × Obj)) from hp) (by simp)⟩
 have loop : ∀ s₃ : Shared,s₃ = { s with heap:=h₁,toks:=s.toks + ([] : List (Str × Value)).length } →
   codeAny (model X.prog X.w) X.A (.compLoop (.ListComp elt [⟨tg,iter,ifs,0⟩] scope pos) 0 (.ref it) (.ref s.heap.objs.size) (compEnvC scope cl s3.heap.objs.size X.env)) (RR (.ref s.heap.objs.size) s3.heap.objs.size) s₃:=by
  rintro s₃ rfl
  refine compLoop_go (fun n s'=>∃ i σ' H',Inv (lcCx X scope N' cl s3.heap.objs.size s3 (upd H s.heap.objs.size (.lst [])) fp) [] σ' H' s'∧(∀ (j : Nat) v,(capSt cap σ)[j]? = some (some v)→σ'[j]? = some (some v))∧tn i s'.heap∧(∀ b∈fp,H' b = none)∧W i n H') ?_ m0 ?_
  ·rintro n s' ⟨i,σ',H',I',wk,st',fr',w'⟩
   have I'':=I'.weak (σ':=capSt cap σ) (by rw [I'.len]; show (capSt cap σ).length = N'.length; unfold capSt; rw [List.length_map]; exact capB_len b1) wk
   rcases turn i n H' w' with ⟨stop,q⟩ | ⟨go,step⟩
   ·refine thn (T.done (lcCx X scope N' cl s3.heap.objs.size s3 (upd H s.heap.objs.size (.lst [])) fp) rfl rfl rfl hc i [] s' (capSt cap σ) H' _ I'' (stat fr') st' stop) fun r s4 ⟨hr,I4'⟩=>?_
    subst hr
    have u : Un (frs X.stack) fp H H' s.heap s4.heap:=(Un.laid (o:=.lst []) (fun b o e=>by show s3.heap.get? b = some o; rw [eh]; exact Heap.get?_push_of_some _ e) (Nat.le_refl _) (I.hok.fresh (Nat.le_refl _))).trans I4'.base
    have IX : Inv X pins σ H' s4:=I.call' (I4'.os.trans (by show s3.os = s.os; rw [← hs3])) u I4'.hok I4'.bare fun b hb=>⟨(hf b hb).2.2.2.1,(hf b hb).2.1,(hf b hb).2.2.2.2.1,(hf b hb).2.2.2.2.2⟩
    obtain ⟨m',hm',_⟩:=I4'.loc
    exact hRR _ _ s4 m' H' IX hm' (I.fpOk (by rw [sz3]; exact Nat.le_succ _) I4'.free) q
   ·refine thn (T.item (lcCx X scope N' cl s3.heap.objs.size s3 (upd H s.heap.objs.size (.lst [])) fp) rfl rfl rfl hc i [] s' (capSt cap σ) H' _ I'' (stat fr') st' go) fun r s4 ⟨v,hr,h4⟩=>?_
    subst hr
    refine thn h4 fun _ s5 ⟨x,H5,I5,r5,y5,st5,fr5⟩=>?_
    have I5':=I5.pinned (stat fr5) (T.obj _ _ st5)
    refine thn (hg _ _ _ _ _ _ s5 (capSt cap σ) H5 x v _ I5' r5 (step x H5 y5)) fun _ s6 ⟨σ6,H6,I6,kc6,q6⟩=>?_
    refine thn (hi _ _ _ _ _ _ s6 σ6 H6 _ I6 q6) fun ok s7 ⟨H7,I7,q7⟩=>?_
    have keepT : ∀ {s8 : Shared} {σ8 : St} {H8 : Hp},Inv (lcCx X scope N' cl s3.heap.objs.size s3 (upd H s.heap.objs.size (.lst [])) fp) ([] ++ pinsAt fp s5.heap) σ8 H8 s8→tn (i + 1) s8.heap∧∀ b∈fp,H8 b = none:=fun {s8 σ8 H8} I8 =>
     ⟨T.keep _ _ _ st5 fun b hb o e=>(I8.pin (b,o) (List.mem_append_right _ (List.mem_append_right _ (mem_pinsAt hb e)))).1,fun b hb=>by
      obtain ⟨o,e,d⟩:=T.obj _ _ st5 b hb
      exact (I8.pin (b,o) (List.mem_append_right _ (List.mem_append_right _ (mem_pinsAt hb e)))).2.1⟩
    have again : ∀ {s8 : Shared} {H8 : Hp} {m' : Nat},Inv (lcCx X scope N' cl s3.heap.objs.size s3 (upd H s.heap.objs.size (.lst [])) fp) ([] ++ pinsAt fp s5.heap) σ6 H8 s8→m' < n→W (i + 1) m' H8 →
      ∃ m,m < n∧∃ i σ' H',Inv (lcCx X scope N' cl s3.heap.objs.size s3 (upd H s.heap.objs.size (.lst [])) fp) [] σ' H' s8∧(∀ (j : Nat) v,(capSt cap σ)[j]? = some (some v)→σ'[j]? = some (some v))∧tn i s8.heap∧(∀ b∈fp,H' b = none)∧W i m H':=fun {s8 H8 m'} I8 lt w8=>by
     obtain ⟨k1,k2⟩:=keepT I8
     exact ⟨m',lt,i + 1,σ6,H8,I8.unpinned,kc6,k1,k2,w8⟩
    cases ok with
    | false =>
     rw [if_neg Bool.false_ne_true] at q7 ⊢
     obtain ⟨m',lt,w8⟩:=q7
     exact again I7 lt w8
    | true =>
     rw [if_pos rfl] at q7 ⊢
     refine thn (he _ _ _ _ _ _ s7 σ6 H7 _ I7 q7) fun y s8 ⟨vy,H8,I8,ry,xs,hD,hz,m',lt,w8⟩=>?_
     refine thn (mt_append (X:=lcCx X scope N' cl s3.heap.objs.size s3 (upd H s.heap.objs.size (.lst [])) fp) _ s8 σ6 H8 (.ref s.heap.objs.size) [vy] _ _ (fun _ H'=>H' = upd H8 s.heap.objs.size (.lst (xs ++ [vy]))) I8 rfl (.cons ry .nil) ⟨_,xs,vy,rfl,rfl,hD,hz,rfl⟩) fun _ s9 ⟨_,H9,I9,_,e9⟩=>?_
     subst e9
     exact again I9 lt w8
  ·have eS : ({ s3 with heap:=h₁,toks:=s.toks } : Shared) = { s with heap:=h₁,toks:=s.toks + ([] : List (Str × Value)).length }:=by rw [← hs3]; rfl
   exact ⟨0,capSt cap σ,upd H s.heap.objs.size (.lst []),eS ▸ I4,fun _ _ h=>h,st4,fun b hb=>(hf3 b hb).1,w0⟩
 rw [eC]
 exact codeAny_compStart_list (loop _ rfl) (T.self _ 0 _ _ _ st4 (loop _ rfl))
theorem lcB_names (hB : lcB X.N X.env.scope scope N' cap = true) : ∀ x∈scope.names,x.2 = .local→scope.names.lookup x.1 = some .local:=fun y hy e=>by
 simp only [lcB,Bool.and_eq_true] at hB
 have:=List.all_eq_true.mp hB.1.2 y hy
 rw [e] at this
 simpa using this
theorem lcB_clos (hB : lcB X.N X.env.scope scope N' cap = true) (ok : X.Ok) : ∃ cl : List (Str × Addr),closureFor scope X.env = pure cl∧(∀ x c,cl.lookup x = some c→X.env.cells.lookup x = some c)∧∀ x,(x,NameKind.free)∈scope.names→∃ c,cl.lookup x = some c:=by
 refine closureFor_of fun y hy e=>ok.has y.1 ?_
 simp only [lcB,Bool.and_eq_true] at hB
 have:=List.all_eq_true.mp hB.2 y hy
 rw [e] at this
 simp only [bne_self_eq_false,Bool.false_or,Bool.or_eq_true] at this
 rcases this with z | z
 ·exact .inl (eq_of_beq z)
 ·exact .inr (eq_of_beq z)
theorem pe_lc {wi : TI} (N : List Str) (sc : Scope) (hc : X.calm = true) (hB0 : lcB N sc scope N' cap = true) (hNN : X.N = N) (hsc : X.env.scope = sc) (hit : PI X tg iter wi)
  (hg : ∀ cl C s₀ H₀ ex,PG (lcCx X scope N' cl C s₀ H₀ ex) tg g) (hi : ∀ cl C s₀ H₀ ex,PIfs (lcCx X scope N' cl C s₀ H₀ ex) ifs tc) (he : ∀ cl C s₀ H₀ ex,PE (lcCx X scope N' cl C s₀ H₀ ex) elt te)
  (hs : ∀ x,foldedSetIterable iter X.env x = pure x:=by intro _; rfl) : PE X (.ListComp elt [⟨tg,iter,ifs,0⟩] scope pos) (tLC wi cap g tc te):=by
 intro pins s σ H Q I h
 have hB : lcB X.N X.env.scope scope N' cap = true:=by rw [hNN,hsc]; exact hB0
 have kind : scope.kind = .function:=by
  simp only [lcB,Bool.and_eq_true] at hB
  exact eq_of_beq hB.1.1.1.2
 obtain ⟨cl,ecl,c1,c2⟩:=lcB_clos hB I.ok
 rw [eval_ListComp]
 refine wpAny_comprehension_free (use:=none) rfl hs ecl kind (lcB_names hB) (thn (hit pins s σ H _ I h) fun v s1 h1=>thn h1 fun itv s2 h2=>?_)
 obtain ⟨it,fp,tn,J,H2,e,I2,T,st2,f2,rd⟩:=h2
 subst e
 refine lc_block (RR:=fun acc C=>compPost (model X.prog X.w) X.A X.xe none (EP X pins σ Q) acc C) hc hB hg hi he c1 c2 I2 T st2 f2 rd fun D C s' m H' I' hm fC q=>?_
 exact ⟨m,hm,fun h' hs'=>⟨.ref D,H',I'.turned (t':=s'.toks) (it:=C) (fun b o hb e=>(hs'.2 b hb).trans e) fC.1 fC.2.1 fC.2.2.2.1 fC.2.2.2.2.1 fC.2.2.2.2.2,rfl,q⟩⟩
theorem ps_setLC {wi : TI} {i : Nat} {y : Str} {ypos spos : Pos} (hN : X.N.Nodup) (hiy : X.N[i]? = some y) (hy : Loc X.env.scope y) (N : List Str) (sc : Scope) (hc : X.calm = true) (hB0 : lcB N sc scope N' cap = true) (hNN : X.N = N) (hsc : X.env.scope = sc) (hit : PI X tg iter wi)
  (hg : ∀ cl C s₀ H₀ ex,PG (lcCx X scope N' cl C s₀ H₀ ex) tg g) (hi : ∀ cl C s₀ H₀ ex,PIfs (lcCx X scope N' cl C s₀ H₀ ex) ifs tc) (he : ∀ cl C s₀ H₀ ex,PE (lcCx X scope N' cl C s₀ H₀ ex) elt te)
  (hsw : swapsWith (.ListComp elt [⟨tg,iter,ifs,0⟩] scope pos) (some (.Name y ypos)) spos.line X.env = pure true:=by rfl)
  (hs : ∀ x,foldedSetIterable iter X.env x = pure x:=by intro _; rfl) (hf : X.fn y = true∨X.env.scope.names.lookup y = some .local:=by first | exact .inl rfl | exact .inr rfl | assumption) :
  PS X (.Assign [.Name y ypos] (.ListComp elt [⟨tg,iter,ifs,0⟩] scope pos) spos) (tAsg (tLC wi cap g tc te) (gName i)):=by
 intro pins s σ H D I h
 have hB : lcB X.N X.env.scope scope N' cap = true:=by rw [hNN,hsc]; exact hB0
 have kind : scope.kind = .function:=by
  simp only [lcB,Bool.and_eq_true] at hB
  exact eq_of_beq hB.1.1.1.2
 obtain ⟨cl,ecl,c1,c2⟩:=lcB_clos hB I.ok
 rw [exec_Assign_Name_used _ _ _ _ hsw]
 refine wpAny_bind (wpAny_standAt (wpAny_bind ?_))
 show wpAny _ X.A (do let _ ← comprehension (.ListComp elt [⟨tg,iter,ifs,0⟩] scope pos) scope X.env _ (newList []) false (eval iter X.env) (some (assign (.Name y ypos) X.env))) _ _ s
 refine wpAny_bind (wpAny_mono (wpAny_comprehension_free (use:=some (assign (.Name y ypos) X.env)) (Q:=fun _ s'=>SP X pins D .next s') rfl hs ecl kind (lcB_names hB)
  (thn (hit pins s σ H _ I h) fun v s1 h1=>thn h1 fun itv s2 h2=>?_)) (fun _ s' hq=>wpAny_pure (wpAny_pure hq)) fun _ _ e=>e)
 obtain ⟨it,fp,tn,J,H2,e,I2,T,st2,f2,rd⟩:=h2
 subst e
 refine lc_block (RR:=fun acc C=>compPost (model X.prog X.w) X.A X.xe (some (assign (.Name y ypos) X.env)) (fun _ s'=>SP X pins D .next s') acc C) hc hB hg hi he c1 c2 I2 T st2 f2 rd fun Da C s' m H' I' hm fC q=>?_
 show wpAny _ X.A (assign (.Name y ypos) X.env (.ref Da)) _ _ _
 refine wpAny_assign_Name (store_ok2 (v:=.ref Da) I' hN hiy hy rfl (fun s'' I'' ⟨a,hsa,hav⟩=>?_) hf)
 have haC : C ≠ a:=by
  rcases hav with z | z
  ·rw [z]; exact fC.2.1
  ·exact (fC.2.2.2.2.1 y a z).symm
 refine ⟨m,hm.sameBut hsa haC,fun h' hs'=>⟨σ.set i (some (.ref Da)),H',I''.turned (t':=s''.toks) (it:=C) (fun b o hb e=>(hs'.2 b hb).trans e) fC.1 fC.2.1 fC.2.2.2.1 fC.2.2.2.2.1 fC.2.2.2.2.2,q⟩⟩
end
end L2
namespace L2
open PySem PySem.Spec PyProof.Rows
noncomputable def CDivB (_ j : Int) : Prop:=0 < j∧j.natAbs.log2 < 9000
noncomputable def CMulB (i j : Int) : Prop:=i.natAbs < 2 ^ 8000∧j.natAbs < 2 ^ 8000
theorem bits_le {i : Int} (h : i.natAbs < 2 ^ 8000) : Builtin.Int.intBits i≤2 ^ 20:=by
 unfold Builtin.Int.intBits
 split
 ·exact Nat.zero_le _
 ·rename_i h0
  have hz : i.natAbs ≠ 0:=by
   intro z
   apply h0
   have : i = 0:=by omega
   rw [this]; rfl
  have : i.natAbs.log2 < 8000:=(Nat.log2_lt hz).mpr h
  have e : (2 : Nat) ^ 20 = 1048576:=by decide
  omega
section
variable {X : Cx}
theorem op_fdivB : OpR X (binaryOp .FloorDiv) (rI CDivB fun i j=>.int (i / j)):=opI fun i j _ _ _ _ _ hc q=>by
 have e : i.fdiv j = i / j:=by rw [Int.fdiv_eq_ediv_of_nonneg _ (Int.le_of_lt hc.1)]
 exact floordiv_int (Int.ne_of_gt hc.1) (by rw [e]; exact q) (.inl (PyProof.noPylong_of_log2 hc.2))
theorem op_mulB : OpR X (binaryOp .Mult) (rI CMulB fun i j=>.int (i * j)):=opI fun _ _ _ _ _ _ _ hc q=>mul_int q (IntMulOk.of_bits (bits_le hc.1) (bits_le hc.2))
end
theorem ints_vals : ∀ {ns : List Int} {vs : List Value},Vals (ns.map V.int) vs→IntsAre vs ns
 | [],_,.nil=>.nil
 | n :: ns,_,.cons r t=>by
  obtain ⟨k,rfl⟩:=r
  exact .cons n k (ints_vals t)
section
variable {X : Cx}
theorem call_sumL (hc : X.calm = true) : CallR X (.builtin "sum") (fun xs H Q=>∃ (p : Addr) (ns : List Int),xs = [.ref p]∧SqL X.K H p (ns.map V.int)∧Q (.int ns.sum) H):=by
 intro pins s σ H xs us Q I r q
 obtain ⟨p,ns,rfl,hq,q⟩:=q
 obtain ⟨u,rfl,ru⟩:=r.one
 cases ru
 obtain ⟨its,rv,pl,hz⟩:=I.list hq
 have hi:=ints_vals rv
 obtain ⟨zs,e⟩:=hi.allInts.items
 have hns : ns = zs.toList.map (·.1):=by rw [← hi.numsOf,← nums_intItems,← e]
 have hl:=pl.isList
 rw [e] at hl
 refine sum_intListG (I.ok.hd hc) hl fun h' tk t' hk=>?_
 have e2 : preSum (numAt zs) zs.size = ns.sum:=by rw [preSum_eq,List.take_of_length_le (by simp),← hns]
 rw [e2]
 exact ⟨.int ns.sum,H,I.kept hk,⟨_,rfl⟩,q⟩
end
section
variable {X : Cx} {e : Expr} {te : TE} {pos p2 p3 p4 : Pos} {j : Nat}
end
mutual
noncomputable def Has (K : PySem.W.Frag) (H : Hp) : PyData→V→Prop
 | .none,v=>v = .non
 | .bool b,v=>v = .bl b
 | .int i,v=>v = .int i
 | .str x,v=>v = .str x∧(PyData.str x).canLay0 = true
 | .list ds,v=>∃ a xs,v = .ref a∧SqL K H a xs∧HasL K H ds xs
 | .tuple ds,v=>∃ a xs,v = .ref a∧SqT K H a xs∧HasL K H ds xs
 | .dict _,_=>False
noncomputable def HasL (K : PySem.W.Frag) (H : Hp) : List PyData→List V→Prop
 | [],vs=>vs = []
 | d :: ds,vs=>∃ v r,vs = v :: r∧Has K H d v∧HasL K H ds r
end
theorem Same.seqT {K : PySem.W.Frag} {H H' : Hp} {a : Addr} {xs : List V} (e : Same H H') (h : SqT K H a xs) : SqT K H' a xs:=by
 rcases h with (h | ⟨o,h⟩) | h
 ·exact .inl (.inl (e _ _ h))
 ·exact .inl (.inr ⟨o,e _ _ h⟩)
 ·exact .inr h
mutual
theorem Has.same {K : PySem.W.Frag} {H H' : Hp} (e : Same H H') : ∀ {d : PyData} {v : V},Has K H d v→Has K H' d v
 | .none,_,h=>h
 | .bool _,_,h=>h
 | .int _,_,h=>h
 | .str _,_,h=>h
 | .list _,_,⟨a,xs,h1,h2,h3⟩=>⟨a,xs,h1,e.seq h2,HasL.same e h3⟩
 | .tuple _,_,⟨a,xs,h1,h2,h3⟩=>⟨a,xs,h1,e.seqT h2,HasL.same e h3⟩
theorem HasL.same {K : PySem.W.Frag} {H H' : Hp} (e : Same H H') : ∀ {ds : List PyData} {vs : List V},HasL K H ds vs→HasL K H' ds vs
 | [],_,h=>h
 | _ :: _,_,⟨v,r,h1,h2,h3⟩=>⟨v,r,h1,Has.same e h2,HasL.same e h3⟩
end
theorem HasL.length {K : PySem.W.Frag} {H : Hp} : ∀ {ds : List PyData} {vs : List V},HasL K H ds vs→ds.length = vs.length
 | [],vs,h=>by
  have h' : vs = []:=h
  rw [h']; rfl
 | _ :: _,_,⟨v,r,h1,_,h3⟩=>by rw [h1]; exact congrArg (· + 1) (HasL.length h3)
theorem HasL.get {K : PySem.W.Frag} {H : Hp} : ∀ {ds : List PyData} {vs : List V} {i : Nat} {v : V},HasL K H ds vs→vs[i]? = some v→∃ d,ds[i]? = some d∧Has K H d v
 | [],vs,i,v,h,e=>by
  have h' : vs = []:=h
  rw [h'] at e; simp at e
 | d :: _,_,0,v,⟨u,r,h1,h2,h3⟩,e=>by
  rw [h1] at e
  have : u = v:=by simpa using e
  subst this; exact ⟨d,rfl,h2⟩
 | _ :: ds,_,i + 1,v,⟨u,r,h1,h2,h3⟩,e=>by
  rw [h1] at e
  obtain ⟨d,q1,q2⟩:=HasL.get (i:=i) (v:=v) h3 (by simpa using e)
  exact ⟨d,by simpa using q1,q2⟩
theorem HasL.at {K : PySem.W.Frag} {H : Hp} : ∀ {ds : List PyData} {vs : List V} {i : Nat} {d : PyData},HasL K H ds vs→ds[i]? = some d→∃ v,vs[i]? = some v∧Has K H d v
 | [],_,i,d,_,e=>by simp at e
 | d' :: _,_,0,d,⟨u,r,h1,h2,h3⟩,e=>by
  have : d' = d:=by simpa using e
  subst this; rw [h1]; exact ⟨u,rfl,h2⟩
 | _ :: ds,_,i + 1,d,⟨u,r,h1,h2,h3⟩,e=>by
  obtain ⟨v,q1,q2⟩:=HasL.at (i:=i) (d:=d) h3 (by simpa using e)
  rw [h1]; exact ⟨v,by simpa using q1,q2⟩
theorem HasL.snoc {K : PySem.W.Frag} {H : Hp} {d : PyData} {v : V} (hv : Has K H d v) : ∀ {ds : List PyData} {vs : List V},HasL K H ds vs→HasL K H (ds ++ [d]) (vs ++ [v])
 | [],vs,h=>by
  have h' : vs = []:=h
  rw [h']; exact ⟨v,[],rfl,hv,rfl⟩
 | _ :: _,_,⟨u,r,h1,h2,h3⟩=>by rw [h1]; exact ⟨u,r ++ [v],rfl,h2,HasL.snoc hv h3⟩
theorem HasL.append {K : PySem.W.Frag} {H : Hp} {es : List PyData} {us : List V} (h2 : HasL K H es us) : ∀ {ds : List PyData} {vs : List V},HasL K H ds vs→HasL K H (ds ++ es) (vs ++ us)
 | [],vs,h=>by
  have h' : vs = []:=h
  rw [h']; exact h2
 | _ :: _,_,⟨u,r,g1,g2,g3⟩=>by rw [g1]; exact ⟨u,r ++ us,rfl,g2,HasL.append h2 g3⟩
theorem HasL.reverse {K : PySem.W.Frag} {H : Hp} : ∀ {ds : List PyData} {vs : List V},HasL K H ds vs→HasL K H ds.reverse vs.reverse
 | [],vs,h=>by
  have h' : vs = []:=h
  rw [h']; rfl
 | _ :: _,_,⟨u,r,g1,g2,g3⟩=>by rw [g1,List.reverse_cons,List.reverse_cons]; exact HasL.snoc g2 (HasL.reverse g3)
theorem HasL.set {K : PySem.W.Frag} {H : Hp} {d : PyData} {v : V} (hv : Has K H d v) : ∀ {ds : List PyData} {vs : List V} (i : Nat),HasL K H ds vs→HasL K H (ds.set i d) (vs.set i v)
 | [],vs,_,h=>by
  have h' : vs = []:=h
  rw [h']; rfl
 | _ :: _,_,0,⟨u,r,g1,g2,g3⟩=>by rw [g1]; exact ⟨v,r,rfl,hv,g3⟩
 | _ :: _,_,i + 1,⟨u,r,g1,g2,g3⟩=>by rw [g1]; exact ⟨u,r.set i v,rfl,g2,HasL.set hv i g3⟩
theorem HasL.ints {K : PySem.W.Frag} {H : Hp} : ∀ {ns : List Int} {vs : List V},HasL K H (ns.map PyData.int) vs ↔ vs = ns.map V.int
 | [],_=>Iff.rfl
 | n :: ns,vs=>by
  constructor
  ·rintro ⟨v,r,h1,h2,h3⟩
   have h2' : v = .int n:=h2
   rw [h1,h2',HasL.ints.mp h3]; rfl
  ·rintro rfl
   exact ⟨.int n,ns.map V.int,rfl,rfl,HasL.ints.mpr rfl⟩
section
variable {X : Cx} {pins : List (Addr × Obj)} {σ : St} {H : Hp} {s : Shared}
mutual
theorem Has.reads (I : Inv X pins σ H s) : ∀ {d : PyData} {v : V} {u : Value},Has X.K H d v→RelV v u→∃ as,Reads s.heap u d as
 | .none,v,u,h,r=>by
  have h' : v = .non:=h
  subst h'; cases r; exact ⟨_,.none⟩
 | .bool b,v,u,h,r=>by
  have h' : v = .bl b:=h
  subst h'; cases r; exact ⟨_,.bool b⟩
 | .int i,v,u,h,r=>by
  have h' : v = .int i:=h
  subst h'; obtain ⟨t,rfl⟩:=r; exact ⟨_,.int i t⟩
 | .str x,v,u,h,r=>by
  have h' : v = .str x:=h.1
  subst h'; obtain ⟨t,rfl⟩:=r; exact ⟨_,.str x t⟩
 | .list ds,v,u,h,r=>by
  obtain ⟨a,xs,rfl,hq,hl⟩:=h
  cases r
  obtain ⟨its,rv,⟨o,n,e,c,_,d⟩,hz⟩:=I.list hq
  obtain ⟨as,ra⟩:=HasL.reads I hl rv
  exact ⟨_,.list e c d (by simpa using ra)⟩
 | .tuple ds,v,u,h,r=>by
  obtain ⟨a,xs,rfl,hq,hl⟩:=h
  cases r
  obtain ⟨its,rv,⟨o,e,c,n,d⟩,hz⟩:=I.tuple hq
  obtain ⟨as,ra⟩:=HasL.reads I hl rv
  exact ⟨_,.tuple e c d (by simpa using ra)⟩
 | .dict _,_,_,h,_=>False.elim h
theorem HasL.reads (I : Inv X pins σ H s) : ∀ {ds : List PyData} {vs : List V} {us : List Value},HasL X.K H ds vs→Vals vs us→∃ as,ReadsAll s.heap us ds as
 | [],vs,us,h,r=>by
  have h' : vs = []:=h
  subst h'; cases r; exact ⟨_,.nil⟩
 | d :: ds,vs,us,h,r=>by
  obtain ⟨v,rr,rfl,h1,h2⟩:=h
  cases r with
  | cons r1 r2 =>
   obtain ⟨as,a1⟩:=Has.reads I h1 r1
   obtain ⟨bs,a2⟩:=HasL.reads I h2 r2
   exact ⟨_,.cons a1 a2⟩
end
end
mutual
theorem Has.can {K : PySem.W.Frag} {H : Hp} : ∀ {d : PyData} {v : V},Has K H d v→d.canLay0 = true
 | .none,_,_=>rfl
 | .bool _,_,_=>rfl
 | .int _,_,_=>rfl
 | .str _,_,h=>h.2
 | .list ds,_,⟨_,_,_,_,h⟩=>by simp only [PyData.canLay0]; exact HasL.can h
 | .tuple ds,_,⟨_,_,_,_,h⟩=>by simp only [PyData.canLay0]; exact HasL.can h
theorem HasL.can {K : PySem.W.Frag} {H : Hp} : ∀ {ds : List PyData} {vs : List V},HasL K H ds vs→PyData.canLayAll0 ds = true
 | [],_,_=>rfl
 | d :: ds,_,⟨_,_,_,h1,h2⟩=>by simp only [PyData.canLayAll0,Bool.and_eq_true]; exact ⟨Has.can h1,HasL.can h2⟩
end
noncomputable def rEqD (K : PySem.W.Frag) : R2:=fun x y H Q=>∃ d e,Has K H d x∧Has K H e y∧d.depth≤60∧Q (.bl (PyData.eqv d e)) H
noncomputable def rNeD (K : PySem.W.Frag) : R2:=fun x y H Q=>∃ d e,Has K H d x∧Has K H e y∧d.depth≤60∧Q (.bl (!PyData.eqv d e)) H
section
variable {X : Cx}
theorem op_eqD (hu : X.A.units + 64 < cLine) : OpR X (compareOp .Eq) (rEqD X.K):=by
 intro pins s σ H x y v u Q I rx ry h
 obtain ⟨d,e,hd,he,hk,q⟩:=h
 obtain ⟨as,ra⟩:=hd.reads I rx
 obtain ⟨bs,rb⟩:=he.reads I ry
 exact SeqAt.compareEq_reads ra rb hd.can he.can (by have:=Nat.min_le_left d.depth e.depth; omega) ⟨.bl _,H,I,rfl,q⟩
theorem op_neD (hu : X.A.units + 64 < cLine) : OpR X (compareOp .NotEq) (rNeD X.K):=by
 intro pins s σ H x y v u Q I rx ry h
 obtain ⟨d,e,hd,he,hk,q⟩:=h
 obtain ⟨as,ra⟩:=hd.reads I rx
 obtain ⟨bs,rb⟩:=he.reads I ry
 exact SeqAt.compareNe_reads ra rb hd.can he.can (by have:=Nat.min_le_left d.depth e.depth; omega) ⟨.bl _,H,I,rfl,q⟩
end
end L2
namespace L2
open PySem PySem.Spec PyProof.Rows
noncomputable def vR (i : Nat) : TE:=fun σ H Q=>match σ[i]? with
 | some (some v)=>Q v H
 | _=>False
noncomputable def visB (sc : Scope) (x : Str) : Bool:=match sc.names.lookup x with
 | some .local=>true
 | some .cell=>true
 | some .free=>true
 | _=>false
noncomputable def locB (sc : Scope) (x : Str) : Bool:=match sc.names.lookup x with
 | some .local=>true
 | some .cell=>true
 | _=>false
noncomputable def glB (sc : Scope) (x : Str) : Bool:=match sc.names.lookup x with
 | some .globalImplicit=>true
 | _=>false
noncomputable def visC (sc : Scope) (x : Str) : Bool:=match sc.names.lookup x with
 | some .local=>true
 | some .free=>true
 | _=>false
noncomputable def plain (x : Str) : Bool:=!(x == ("__debug__" : Str)) && !(x == ("__classdict__" : Str))
theorem vis_of {sc : Scope} {x : Str} (h : visB sc x = true) : Vis sc x:=by
 unfold visB at h
 split at h
 ·rename_i e; exact .inl e
 ·rename_i e; exact .inr (.inl e)
 ·rename_i e; exact .inr (.inr e)
 ·cases h
theorem lo {sc : Scope} {x : Str} (h : locB sc x = true) : Loc sc x:=by
 unfold locB at h
 split at h
 ·rename_i e; exact .inl e
 ·rename_i e; exact .inr e
 ·cases h
theorem visC_of {sc : Scope} {env : Env} {x : Str} (h : visC sc x = true) : Vis (relabel sc env) x:=by
 unfold visC at h
 split at h
 ·rename_i e; exact .inl (lookup_relabel_local e)
 ·rename_i e; exact .inr (relabel_free e)
 ·cases h
noncomputable def locC (sc : Scope) (x : Str) : Bool:=match sc.names.lookup x with
 | some .local=>true
 | _=>false
theorem loC {sc : Scope} {env : Env} {x : Str} (h : locC sc x = true) : (relabel sc env).names.lookup x = some .local:=by
 unfold locC at h
 split at h
 ·rename_i e; exact lookup_relabel_local e
 ·cases h
theorem relabel_glob {env : Env} {x : Str} : ∀ {names : List (Str × NameKind)},names.lookup x = some .globalImplicit →
  (names.map fun (n,k)=>if (k == NameKind.free && env.scope.kind == .function && env.kindOf n == some .cell) then (n,NameKind.cell) else (n,k)).lookup x = some .globalImplicit
 | [],h=>by simp at h
 | (n,j) :: r,h=>by
  have ih:=@relabel_glob env x r
  show List.lookup x ((if (j == NameKind.free && env.scope.kind == .function && env.kindOf n == some .cell) = true then (n,NameKind.cell) else (n,j)) :: _) = _
  by_cases hc : (j == NameKind.free && env.scope.kind == .function && env.kindOf n == some .cell) = true
  ·rw [if_pos hc,List.lookup_cons]
   rw [List.lookup_cons] at h
   cases hx : x == n with
   | true =>
    rw [hx] at h
    simp only [Bool.and_eq_true] at hc
    have ej : j = .free:=eq_of_beq hc.1.1
    rw [ej] at h; cases h
   | false=>rw [hx] at h; exact ih h
  ·rw [if_neg hc,List.lookup_cons]
   rw [List.lookup_cons] at h
   cases hx : x == n with
   | true=>rw [hx] at h; exact h
   | false=>rw [hx] at h; exact ih h
section
variable {X : Cx}
theorem gl {sc : Scope} {x : Str} (h : glB sc x = true) (hs : X.env.scope = sc:=by rfl) : Gl X x:=by
 unfold glB at h
 split at h
 ·rename_i e; show X.env.scope.names.lookup x = _; rw [hs]; exact e
 ·cases h
theorem vR_of {e : Expr} {i : Nat} (h : PE X e (tVar i)) : PE X e (vR i):=h.imp fun σ H Q h=>by
 unfold vR at h
 unfold tVar
 split at h
 ·rename_i v e; exact ⟨v,e,h⟩
 ·exact h.elim
theorem plain_of {x : Str} (h : plain x = true) : (x == ("__debug__" : Str)) = false∧(x == ("__classdict__" : Str)) = false:=by
 unfold plain at h
 simpa using h
theorem pV {N : List Str} {sc : Scope} (vt : N.all (fun x=>visB sc x && plain x) = true) (i : Nat) {x : Str} {pos : Pos} (hN : X.N[i]? = some x:=by rfl) (hXN : X.N = N:=by rfl) (hXs : X.env.scope = sc:=by rfl) : PE X (.Name x pos) (vR i):=by
 have h:=List.all_eq_true.mp vt x (by rw [← hXN]; exact List.mem_of_getElem? hN)
 rw [Bool.and_eq_true] at h
 exact vR_of (pe_var hN (by rw [hXs]; exact vis_of h.1) (plain_of h.2).1 (plain_of h.2).2)
end
section
variable {X : Cx} {scope : Scope} {N' : List Str} {cl : List (Str × Addr)} {C : Addr} {s₀ : Shared} {H₀ : Hp} {ex : List Addr} {x : Str} {pos : Pos}
theorem pVc (vt : N'.all (fun x=>visC scope x && plain x) = true) (i : Nat) (hN : N'[i]? = some x:=by rfl) : PE (lcCx X scope N' cl C s₀ H₀ ex) (.Name x pos) (vR i):=by
 have h:=List.all_eq_true.mp vt x (List.mem_of_getElem? hN)
 rw [Bool.and_eq_true] at h
 exact vR_of (pe_var hN (visC_of (env:=X.env) h.1) (plain_of h.2).1 (plain_of h.2).2)
theorem pgC {i : Nat} (hN : N'.Nodup) (h : locC scope x = true) (hi : N'[i]? = some x:=by rfl) : PG (lcCx X scope N' cl C s₀ H₀ ex) (.Name x pos) (gName i) :=
 pg_name hN hi (.inl (loC (env:=X.env) h)) (.inr (loC (env:=X.env) h))
theorem glC (h : glB scope x = true) : Gl (lcCx X scope N' cl C s₀ H₀ ex) x:=by
 unfold glB at h
 split at h
 ·rename_i e; show (relabel scope X.env).names.lookup x = _; exact relabel_glob e
 ·cases h
end
section
variable {X : Cx}
theorem OpR.imp {f : Value→Value→Sem Value} {r r' : R2} (h : OpR X f r) (hi : ∀ x y H Q,r' x y H Q→r x y H Q) : OpR X f r':=fun pins s σ H x y v u Q I rx ry q=>h pins s σ H x y v u Q I rx ry (hi x y H Q q)
theorem IxR.imp {r r' : R2} (h : IxR X r) (hi : ∀ x y H Q,r' x y H Q→r x y H Q) : IxR X r':=fun a b pins s σ H x y v u Q I rx ry q=>h a b pins s σ H x y v u Q I rx ry (hi x y H Q q)
theorem UnR.imp {f : Value→Sem Value} {r r' : V→Hp→VK→Prop} (h : UnR X f r) (hi : ∀ x H Q,r' x H Q→r x H Q) : UnR X f r':=fun pins s σ H x v Q I rx q=>h pins s σ H x v Q I rx (hi x H Q q)
theorem CallR.imp {f : Value} {r r' : List V→Hp→VK→Prop} (h : CallR X f r) (hi : ∀ xs H Q,r' xs H Q→r xs H Q) : CallR X f r':=fun pins s σ H xs us Q I rx q=>h pins s σ H xs us Q I rx (hi xs H Q q)
theorem PIp.imp {op : Operator} {r r' : TIp} (h : PIp X op r) (hi : ∀ x y H Q,r' x y H Q→r x y H Q) : PIp X op r':=fun pins s σ H x y v u Q I rx ry q=>h pins s σ H x y v u Q I rx ry (hi x y H Q q)
theorem PSet.imp {r r' : TSet} (h : PSet X r) (hi : ∀ x y z H Q,r' x y z H Q→r x y z H Q) : PSet X r':=fun pins s σ H x y z v u w Q I rx ry rz q=>h pins s σ H x y z v u w Q I rx ry rz (hi x y z H Q q)
end
noncomputable def rM (g : Int→Int→V) : R2:=fun x y H Q=>match x,y with
 | .int i,.int j=>Q (g i j) H
 | _,_=>False
noncomputable def rMC (C : Int→Int→Prop) (g : Int→Int→V) : R2:=fun x y H Q=>match x,y with
 | .int i,.int j=>C i j∧Q (g i j) H
 | _,_=>False
section
variable {X : Cx}
theorem opM {f : Value→Value→Sem Value} {g : Int→Int→V} (h : OpR X f (rI0 g)) : OpR X f (rM g):=h.imp fun x y H Q q=>by
 cases x <;> first | exact False.elim q | (cases y <;> first | exact False.elim q | exact ⟨_,_,rfl,rfl,q⟩)
theorem opMC {f : Value→Value→Sem Value} {C : Int→Int→Prop} {g : Int→Int→V} (h : OpR X f (rI C g)) : OpR X f (rMC C g):=h.imp fun x y H Q q=>by
 cases x <;> first | exact False.elim q | (cases y <;> first | exact False.elim q | exact ⟨_,_,rfl,rfl,q.1,q.2⟩)
theorem oAdd : OpR X (binaryOp .Add) (rM fun i j=>.int (i + j)):=opM op_add
theorem oSub : OpR X (binaryOp .Sub) (rM fun i j=>.int (i - j)):=opM op_sub
theorem oMul : OpR X (binaryOp .Mult) (rMC CMulB fun i j=>.int (i * j)):=opMC op_mulB
theorem oDiv : OpR X (binaryOp .FloorDiv) (rMC CDivB fun i j=>.int (i / j)):=opMC op_fdivB
theorem oMod : OpR X (binaryOp .Mod) (rMC (fun _ j=>0 < j) fun i j=>.int (i % j)):=opMC op_mod
theorem oPow : OpR X (binaryOp .Pow) (rMC CPow fun i j=>.int (i ^ j.toNat)):=opMC op_pow
theorem oLt : OpR X (compareOp .Lt) (rM fun i j=>.bl (decide (i < j))):=opM op_lt
theorem oLe : OpR X (compareOp .LtE) (rM fun i j=>.bl (decide (i≤j))):=opM op_le
theorem oGt : OpR X (compareOp .Gt) (rM fun i j=>.bl (decide (j < i))):=opM op_gt
noncomputable def rUM (g : Int→V) : V→Hp→VK→Prop:=fun x H Q=>match x with
 | .int i=>Q (g i) H
 | _=>False
theorem uNeg : UnR X (unaryOp .USub) (rUM fun i=>.int (-i)):=un_neg.imp fun x H Q q=>by
 cases x <;> first | exact False.elim q | exact ⟨_,rfl,q⟩
end
noncomputable def tTM (t : TE) : TT:=fun σ H Q=>t σ H fun x H'=>match x with
 | .bl k=>Q k H'
 | _=>False
noncomputable def tAndM (ta tb : TE) : TE:=fun σ H Q=>ta σ H fun x H1=>match x with
 | .bl c=>if c = true then tb σ H1 Q else Q (.bl false) H1
 | _=>False
noncomputable def tNotM (ta : TE) : TE:=fun σ H Q=>ta σ H fun x H1=>match x with
 | .bl c=>Q (.bl (!c)) H1
 | _=>False
noncomputable def tChM (r r' : R2) (ta tb tc : TE) : TE:=fun σ H Q=>ta σ H fun x H1=>tb σ H1 fun y H2=>r x y H2 fun z H3=>match z with
 | .bl k=>if k = true then tc σ H3 fun w' H4=>r' y w' H4 Q else Q (.bl false) H3
 | _=>False
section
variable {X : Cx} {a b c e : Expr} {ta tb tc t : TE} {pos : Pos} {rest : List Expr}
theorem ptC {op : CmpOp} {r : R2} (ho : OpR X (compareOp op) r) (ha : PE X a ta) (hb : PE X b tb) (hm : behindInMarks op b = false:=by first | exact nomark _ | rfl) : PT X (.Compare a [op] [b] pos) (tTM (tOp r ta tb)):=by
 intro pins s σ H Q I h
 refine wpAny_isTrue_Compare1 (thn (ha pins s σ H _ I h) fun v s1 ⟨x,H1,I1,r1,q1⟩=>thn (hb pins s1 σ H1 _ I1 q1) fun u s2 ⟨y,H2,I2,r2,q2⟩ =>
  thn (ho pins s2 σ H2 x y v u _ I2 r1 r2 q2) fun c s3 ⟨z,H3,I3,r3,q3⟩=>?_) hm
 cases z <;> first | exact False.elim q3 | (cases r3; exact wpAny_truthy_bool ⟨H3,I3,q3⟩)
theorem peC {op : CmpOp} {r : R2} (ho : OpR X (compareOp op) r) (ha : PE X a ta) (hb : PE X b tb) (hm : behindInMarks op b = false:=by first | exact nomark _ | rfl) : PE X (.Compare a [op] [b] pos) (tOp r ta tb):=pe_cmpR ho ha hb hm
theorem ptV (h : PE X e t) (he : ∀ whole,isTrue e X.env whole = (do let v ← whole; standAt e.pos; holding [v] (truthy v)):=by intro _; rfl) : PT X e (tTM t):=by
 intro pins s σ H Q I hw
 refine isTrue_plain (thn (h pins s σ H _ I hw) fun v s1 ⟨x,H1,I1,r1,q1⟩=>?_) (he _)
 cases x <;> first | exact False.elim q1 | (cases r1; exact wpAny_truthy_bool ⟨H1,I1,q1⟩)
theorem peAnd (ha : PE X a ta) (hb : PE X (.BoolOp .And (b :: rest) pos) tb) : PE X (.BoolOp .And (a :: b :: rest) pos) (tAndM ta tb):=by
 intro pins s σ H Q I h
 refine BoolOp_and (thn (ha pins s σ H _ I h) fun v s1 ⟨x,H1,I1,r1,q1⟩=>?_)
 cases x with
 | bl c =>
  cases r1
  refine wpAny_truthy_bool ?_
  cases c with
  | true=>exact hb pins s1 σ H1 Q I1 q1
  | false=>exact ⟨.bl false,H1,I1,rfl,q1⟩
 | _=>exact False.elim q1
theorem peNot (ha : PE X a ta) : PE X (.UnaryOp .Not a pos) (tNotM ta):=by
 intro pins s σ H Q I h
 refine UnaryOp_ (thn (ha pins s σ H _ I h) fun v s1 ⟨x,H1,I1,r1,q1⟩=>?_)
 cases x with
 | bl c=>cases r1; exact not_of (wpAny_truthy_bool ⟨.bl (!c),H1,I1,rfl,q1⟩)
 | _=>exact False.elim q1
end
noncomputable def rIxLM (K : PySem.W.Frag) : R2:=fun x y H Q=>match x,y with
 | .ref p,.int i=>∃ xs v,SqL K H p xs∧atI xs i = some v∧Q v H
 | _,_=>False
section
variable {X : Cx} {a b o e : Expr} {ta tb to te : TE} {pos apos cpos : Pos}
theorem ixL : IxR X (rIxLM X.K):=ix_list.imp fun x y H Q q=>by
 cases x <;> first | exact False.elim q | (cases y <;> first | exact False.elim q | (obtain ⟨xs,v,h1,h2,h3⟩:=q; exact ⟨_,xs,_,v,rfl,rfl,h1,h2,h3⟩))
theorem ixN_len {n m : Nat} {i : Int} (h : n = m) : ixN n i = ixN m i:=by rw [h]
theorem peIx {r : R2} (hr : IxR X r) (ha : PE X a ta) (hb : PE X b tb) (hs : PlainIx b:=by intro _ _; rfl) : PE X (.Subscript a b pos) (tOp r ta tb):=pe_ix hr ha hb hs
noncomputable def rSetM : TSet:=fun o i v H Q=>match o,i with
 | .ref p,.int k=>∃ xs j,H p = some (.lst xs)∧ixN xs.length k = some j∧Q (upd H p (.lst (xs.set j v)))
 | _,_=>False
theorem setL : PSet X rSetM:=set_list.imp fun x y z H Q q=>by
 cases x <;> first | exact False.elim q | (cases y <;> first | exact False.elim q | (obtain ⟨xs,j,h1,h2,h3⟩:=q; exact ⟨_,xs,_,j,rfl,rfl,h1,h2,h3⟩))
noncomputable def rLenM (K : PySem.W.Frag) : List V→Hp→VK→Prop:=fun xs H Q=>match xs with
 | [.ref p]=>∃ ys,(SqL K H p ys∨SqT K H p ys)∧Q (.int ys.length) H
 | _=>False
theorem cLen : CallR X (.builtin "len") (rLenM X.K):=call_len_seq.imp fun xs H Q q=>by
 match xs,q with
 | [.ref p],⟨ys,h1,h2⟩=>exact ⟨p,ys,rfl,h1,h2⟩
noncomputable def rAbsM : List V→Hp→VK→Prop:=fun xs H Q=>match xs with
 | [.int i]=>Q (.int (if i < 0 then -i else i)) H
 | _=>False
theorem cAbs : CallR X (.builtin "abs") rAbsM:=call_abs.imp fun xs H Q q=>by
 match xs,q with
 | [.int i],q=>exact ⟨i,rfl,q⟩
noncomputable def rListM (K : PySem.W.Frag) : List V→Hp→VK→Prop:=fun xs H Q=>match xs with
 | [.ref p]=>∃ ys,(SqL K H p ys∨SqT K H p ys)∧∀ l,H l = none→Q (.ref l) (upd H l (.lst ys))
 | _=>False
theorem cList : CallR X (.type "list") (rListM X.K):=call_list_of.imp fun xs H Q q=>by
 match xs,q with
 | [.ref p],⟨ys,h1,h2⟩=>exact ⟨p,ys,rfl,h1,h2⟩
noncomputable def rSumM (K : PySem.W.Frag) : List V→Hp→VK→Prop:=fun xs H Q=>match xs with
 | [.ref p]=>∃ ns : List Int,SqL K H p (ns.map V.int)∧Q (.int ns.sum) H
 | _=>False
theorem cSum (hc : X.calm = true) : CallR X (.builtin "sum") (rSumM X.K):=(call_sumL hc).imp fun xs H Q q=>by
 match xs,q with
 | [.ref p],⟨ys,h1,h2⟩=>exact ⟨p,ys,rfl,h1,h2⟩
noncomputable def rAppM : V→List V→Hp→VK→Prop:=fun x vs H Q=>match x,vs with
 | .ref l,[y]=>∃ ys,H l = some (.lst ys)∧ys.length < sizeLine∧Q .non (upd H l (.lst (ys ++ [y])))
 | _,_=>False
theorem mApp : MtR X "list.append" rAppM:=fun pins s σ H x xs v us Q I rx rv q=>mt_append pins s σ H x xs v us Q I rx rv (by
 match x,xs,q with
 | .ref l,[y],⟨ys,h1,h2,h3⟩=>exact ⟨l,ys,y,rfl,rfl,h1,h2,h3⟩)
theorem peApp {to : TE} {t : TA} (ho : PE X o to) (ha : PA X [e] t)
  (hbase : attributeBase o "append" X.env (eval o X.env) = eval o X.env:=by rfl)
  (hfew : ((backTo cpos (starEach [e] X.env)).all (fun x=>!x.1) && (backToKw cpos (keywordEach [] X.env)).all (fun x=>x.1.isSome)
   && decide (([e] : List Expr).length + ([] : List Keyword).length + (if ([] : List Keyword).isEmpty then 0 else 1) < 30)) = true:=by rfl)
  (hline : (apos.endLine == cpos.line) = true:=by rfl) (hs : starEach [e] X.env = (false,eval e X.env) :: starEach [] X.env:=by rfl) (hplain : (backTo cpos (starEach [] X.env)).any (·.1) = false:=by rfl) :
  PE X (.Call (.Attribute o "append" apos) [e] [] cpos) (tBM X.K "list" rAppM to t):=pe_bm PySem.F.plainAttrs_list PySem.F.slot_list_append PySem.F.type_list_append mApp ho ha hbase hfew hline hs hplain
structure Cal (P : Program) (w : World) (K : PySem.W.Frag) (mg : Str→Option Value) (base : Heap) (k : Nat) (x : Str) (ps : List Str) (sp : Sp) : Prop where
 ex : ∃ f fd,FnOk P w K mg base CX0 k f fd ps sp∧mg x = some (.ref f)∧PySem.W.keepIn K (.ref f) = true∧Binds K fd ps []
theorem peCal {k : Nat} {x : Str} {ps : List Str} {sp : Sp} {p : Pos} {es : List Expr} {t : TA} (C : Cal X.prog X.w X.K X.mg X.base k x ps sp) (hr : Room k X.A) (hg : Gl X x) (ha : PA X (e :: es) t)
  (hdb : (x == ("__debug__" : Str)) = false:=by decide) (he : starEach (e :: es) X.env = (false,eval e X.env) :: starEach es X.env:=by rfl) (hpl : (backTo pos (starEach es X.env)).any (·.1) = false:=by rfl) :
  PE X (.Call (.Name x p) (e :: es) [] pos) (tCall sp [] E0 t):=by
 obtain ⟨f,fd,F,hm,hk,hb⟩:=C.ex
 exact pe_call F hr hg hm hk hb .nil pass0 ha hdb he hpl
noncomputable def gNilM : TGs:=fun vs σ H Q=>match vs with
 | []=>Q σ H
 | _=>False
noncomputable def gConsM (t : TG) (u : TGs) : TGs:=fun vs σ H Q=>match vs with
 | v :: r=>t v σ H fun σ' H'=>u r σ' H' Q
 | []=>False
noncomputable def gTupM (K : PySem.W.Frag) (n : Nat) (t : TGs) : TG:=fun v σ H Q=>match v with
 | .ref a=>∃ xs,SqT K H a xs∧xs.length = n∧t xs σ H Q
 | _=>False
theorem pgsNil : PGs X [] gNilM:=by
 intro pins s σ H vs us Q I r h
 cases vs with
 | nil=>cases r; exact assignInOrder_nil ⟨σ,H,I,h⟩
 | cons _ _=>exact False.elim h
theorem pgsCons {es : List Expr} {t : TG} {u : TGs} (h1 : PG X e t) (h2 : PGs X es u)
  (hs : (assignEach (e :: es) X.env).map (·.2) = assign e X.env :: (assignEach es X.env).map (·.2):=by rfl) : PGs X (e :: es) (gConsM t u):=by
 intro pins s σ H vs us Q I r h
 cases vs with
 | nil=>exact False.elim h
 | cons v vr =>
  cases r with
  | cons r rr =>
   rw [hs]
   refine assignInOrder_cons (thn (h1 pins s σ H _ _ _ I r h) fun _ s1 ⟨σ1,H1,I1,q1⟩=>?_)
   exact h2 pins s1 σ1 H1 _ _ Q I1 rr q1
theorem pgTup {es : List Expr} {k n : Nat} {t : TGs} (hc : X.calm = true) (h : PGs X es t)
  (hn : (assignEach es X.env).length = n:=by rfl) (hst : (assignEach es X.env).findIdx? (·.1) = none:=by rfl) : PG X (.Tuple es k pos) (gTupM X.K n t):=by
 intro pins s σ H v u Q I r hw
 cases v with
 | ref a =>
  obtain ⟨xs,hq,hl,hw⟩:=hw
  exact pg_tup hc h hn hst pins s σ H (.ref a) u Q I r ⟨a,xs,rfl,hq,hl,hw⟩
 | _=>exact False.elim hw
noncomputable def tAugM (i : Nat) (te : TE) (ti : TIp) : TS:=fun D σ H=>match σ[i]? with
 | some (some x)=>te σ H fun y H1=>ti x y H1 fun z H2=>D.nx (σ.set i (some z)) H2
 | _=>False
theorem psAug {i : Nat} {x : Str} {op : Operator} {ti : TIp} {pos' : Pos} (hN : X.N.Nodup) (hi : X.N[i]? = some x) (hx : Loc X.env.scope x) (he : PE X e te) (ho : PIp X op ti) (hf : X.fn x = true∨X.env.scope.names.lookup x = some .local:=by first | exact .inl rfl | exact .inr rfl | assumption) :
  PS X (.AugAssign (.Name x pos') op e pos) (tAugM i te ti):=fun pins s σ H D I h=>ps_aug hN hi hx he ho hf pins s σ H D I (by
 unfold tAugM at h
 unfold tAug
 split at h
 ·rename_i v e; exact ⟨v,e,h⟩
 ·exact h.elim)
theorem iAdd : PIp X .Add (rM fun i j=>.int (i + j)):=ip_add.imp fun x y H Q q=>by
 cases x <;> first | exact False.elim q | (cases y <;> first | exact False.elim q | exact ⟨_,_,rfl,rfl,q⟩)
end
end L2
namespace L2
open PySem PySem.Spec PyProof.Rows
noncomputable def forRd (J : It) (g : TG) (tb : TS) (D : Ends) (σ : St) (H1 : Hp) : Prop:=∃ W : Nat→Nat→St→Hp→Prop,(∃ m,W 0 m σ H1)∧∀ i m σ H,W i m σ H →
 (J.stop i H∧D.nx σ H)∨(J.go i H∧∃ N : St→Hp→Prop,(∀ σ' H',N σ' H'→∃ m',m' < m∧W (i + 1) m' σ' H')∧∀ x H',J.yld i H x H'→g x σ H' fun σ2 H2=>tb { D with nx:=N,ct:=N,bk:=D.nx } σ2 H2)
theorem tFor_eq {wi : TI} {g : TG} {tb : TS} {D : Ends} {σ : St} {H : Hp} : tFor wi g tb D σ H = wi σ H fun J H1=>forRd J g tb D σ H1:=rfl
theorem forL {K : PySem.W.Frag} {a : Addr} {xs : List V} {g : TG} {tb : TS} {D : Ends} {σ : St} {H : Hp} (Pv : Nat→St→Hp→Prop) (h0 : Pv 0 σ H) (hl : ∀ i σ H,i≤xs.length→Pv i σ H→SqL K H a xs)
  (hs : ∀ i x σ H,xs[i]? = some x→Pv i σ H→g x σ H fun σ2 H2=>tb { D with nx:=Pv (i + 1),ct:=Pv (i + 1),bk:=D.nx } σ2 H2) (hd : ∀ σ H,Pv xs.length σ H→D.nx σ H) : forRd (Itl K a) g tb D σ H:=for_list Pv h0 hl hs hd
theorem CapK.nil : CapK [] []:=CapK.refl
theorem ixN_last {n : Nat} (h : 0 < n) : ixN n (-1) = some (n - 1):=by
 unfold ixN
 rw [if_neg (by decide),if_pos (by omega)]
 congr 1
 omega
noncomputable def hide (D : Addr) (H : Hp) : Hp:=fun b=>if b = D then none else H b
theorem hide_same {D : Addr} {H : Hp} : Same (hide D H) H:=fun b o e=>by
 unfold hide at e
 split at e
 ·cases e
 ·exact e
theorem hide_at {D : Addr} {H : Hp} : hide D H D = none:=by unfold hide; rw [if_pos rfl]
theorem hide_ne {D b : Addr} {H : Hp} (h : b ≠ D) : hide D H b = H b:=by unfold hide; rw [if_neg h]
theorem hide_upd {D : Addr} {H : Hp} {o : HO} : hide D (upd H D o) = hide D H:=by
 funext b
 unfold hide upd
 split <;> rfl
theorem hide_new {D : Addr} {H : Hp} (h : H D = none) : hide D H = H:=by
 funext b
 unfold hide
 split
 ·rename_i e; rw [e]; exact h.symm
 ·rfl
theorem hide_same_hide {D : Addr} {H G : Hp} (s : Same H G) : Same (hide D H) (hide D G):=fun b o e=>by
 unfold hide at e ⊢
 split at e
 ·cases e
 ·rename_i hb; rw [if_neg hb]; exact s b o e
theorem same_upd_new {H : Hp} {p : Addr} {o : HO} (h : H p = none) : Same H (upd H p o):=fun b u e=>by rw [upd_ne (ne_of_none e h)]; exact e
theorem lcL {K : PySem.W.Frag} {a : Addr} {xs : List V} {cap : List (Option Nat)} {g : TG} {te : TE} {σ : St} {H1 : Hp} {Q : VK} (hq : SqL K H1 a xs) (hz : xs.length < sizeLine) (I : Nat→List V→Hp→Prop) (h0 : I 0 [] H1)
  (hs : ∀ D i x ys H (N : VK),xs[i]? = some x→H D = some (.lst ys)→H1 D = none→ys.length = i→Same H1 (hide D H)→I i ys (hide D H) →
   (∀ y H4,H4 D = some (.lst ys)→Same (hide D H) (hide D H4)→I (i + 1) (ys ++ [y]) (hide D H4)→N y H4)→g x (capSt cap σ) H fun σ2 H2=>CapK (capSt cap σ) σ2∧te σ2 H2 N)
  (hQ : ∀ D ys H,H D = some (.lst ys)→H1 D = none→ys.length = xs.length→Same H1 (hide D H)→I xs.length ys (hide D H)→Q (.ref D) H) : lcRd (Itl K a) cap g tTrue te σ H1 Q:=by
 intro D hD
 refine ⟨fun i m H=>m = xs.length - i∧i≤xs.length∧∃ ys,H D = some (.lst ys)∧ys.length = i∧Same H1 (hide D H)∧I i ys (hide D H),⟨_,rfl,Nat.zero_le _,[],upd_same,rfl,by rw [hide_upd,hide_new hD]; exact Same.refl _,by rw [hide_upd,hide_new hD]; exact h0⟩,?_⟩
 rintro i m H ⟨rfl,hi,ys,hDl,hlen,hsame,hI⟩
 have hqH : SqL K H a xs:=(hide_same (D:=D)).seq (hsame.seq hq)
 by_cases hlt : i < xs.length
 ·refine .inr ⟨⟨xs,xs[i],hqH,by simp [hlt]⟩,fun x H' y=>?_⟩
  obtain ⟨e,y⟩:=y
  subst e
  refine hs D i x ys _ _ (y xs hqH) hDl hD hlen hsame hI fun v H4 q1 q2 q3=>?_
  refine ⟨ys,q1,by omega,xs.length - (i + 1),by omega,rfl,hlt,ys ++ [v],upd_same,by simp [hlen],?_,?_⟩
  ·rw [hide_upd]; exact hsame.trans q2
  ·rw [hide_upd]; exact q3
 ·have e : i = xs.length:=by omega
  subst e
  exact .inl ⟨⟨xs,hqH,Nat.le_refl _⟩,hQ D ys H hDl hD hlen hsame hI⟩
end L2
namespace L2
open PySem
theorem PT.imp {X : Cx} {e : Expr} {t t' : TT} (h : PT X e t) (ht : ∀ σ H Q,t' σ H Q→t σ H Q) : PT X e t':=fun pins s σ H Q I q=>h pins s σ H Q I (ht σ H Q q)
theorem PW.imp {X : Cx} {e : Expr} {t t' : TT} (h : PW X e t) (ht : ∀ σ H Q,t' σ H Q→t σ H Q) : PW X e t':=fun wh pins s σ H Q I q=>h wh pins s σ H Q I (ht σ H Q q)
theorem PS.imp {X : Cx} {e : Stmt} {t t' : TS} (h : PS X e t) (ht : ∀ D σ H,t' D σ H→t D σ H) : PS X e t':=fun pins s σ H Q I q=>h pins s σ H Q I (ht Q σ H q)
theorem PSs.imp {X : Cx} {e : List Stmt} {t t' : TS} (h : PSs X e t) (ht : ∀ D σ H,t' D σ H→t D σ H) : PSs X e t':=fun pins s σ H Q I q=>h pins s σ H Q I (ht Q σ H q)
theorem PA.imp {X : Cx} {e : List Expr} {t t' : TA} (h : PA X e t) (ht : ∀ σ H Q,t' σ H Q→t σ H Q) : PA X e t':=fun pos pins s σ H Q I q=>h pos pins s σ H Q I (ht σ H Q q)
theorem PG.imp {X : Cx} {e : Expr} {t t' : TG} (h : PG X e t) (ht : ∀ v σ H Q,t' v σ H Q→t v σ H Q) : PG X e t':=fun pins s σ H v u Q I r q=>h pins s σ H v u Q I r (ht v σ H Q q)
theorem PI.imp {X : Cx} {tg e : Expr} {t t' : TI} (h : PI X tg e t) (ht : ∀ σ H Q,t' σ H Q→t σ H Q) : PI X tg e t':=fun pins s σ H Q I q=>h pins s σ H Q I (ht σ H Q q)
theorem PO.imp {X : Cx} {e : Option Expr} {t t' : TO} (h : PO X e t) (ht : ∀ σ H Q,t' σ H Q→t σ H Q) : PO X e t':=fun pins s σ H Q I q=>h pins s σ H Q I (ht σ H Q q)
end L2
namespace VM
open PySem L2
noncomputable abbrev St:=L2.St
inductive Tg where
 | fr | ow | io | rf | ce
 deriving DecidableEq
noncomputable def Tg.dat : Tg→Bool
 | .rf=>false
 | .ce=>false
 | _=>true
noncomputable def Tg.own : Tg→Bool
 | .fr=>false
 | .rf=>false
 | _=>true
noncomputable abbrev GS:=List (Option (Tg × PyData))
noncomputable abbrev VE:=GS→Option PyData
noncomputable def imo : HO→Bool
 | .tup _=>true
 | .frz _ (.tup _)=>true
 | _=>false
structure Grow (F H F' H' : Hp) : Prop where
 hh : Same H H'
 ff : Same F F'
 fh : Same F' H'
 new : ∀ a o,F' a = some o→F a = some o∨H a = none∨imo o = true
 pl : ∀ a o u,F' a = some (.frz o (.lst u))→F a = some (.frz o (.lst u))
theorem Grow.refl {F H : Hp} (h : Same F H) : Grow F H F H:=⟨Same.refl _,Same.refl _,h,fun _ _ e=>.inl e,fun _ _ _ e=>e⟩
theorem Grow.trans {F H F1 H1 F2 H2 : Hp} (a : Grow F H F1 H1) (b : Grow F1 H1 F2 H2) : Grow F H F2 H2:=⟨a.hh.trans b.hh,a.ff.trans b.ff,b.fh,fun p o e=>by
 rcases b.new p o e with h | h | h
 ·exact a.new p o h
 ·exact .inr (.inl (a.hh.free h))
 ·exact .inr (.inr h),fun p o u e=>a.pl p o u (b.pl p o u e)⟩
theorem Grow.alloc {F H : Hp} {p : Addr} {o : HO} (h : Same F H) (hp : H p = none) : Grow F H F (upd H p o) :=
 ⟨same_upd_new hp,Same.refl _,h.trans (same_upd_new hp),fun _ _ e=>.inl e,fun _ _ _ e=>e⟩
theorem Grow.allocF {F H : Hp} {p : Addr} {o : HO} (h : Same F H) (hp : H p = none) (ho : ∀ x u,o ≠ .frz x u:=by intros; intro z; cases z) : Grow F H (upd F p o) (upd H p o):=by
 have hF : F p = none:=h.free hp
 refine ⟨same_upd_new hp,same_upd_new hF,fun b u e=>?_,fun b u e=>?_,fun b x u e=>?_⟩
 ·by_cases hb : b = p
  ·subst hb; rw [upd_same] at e ⊢; exact e
  ·rw [upd_ne hb] at e ⊢; exact h b u e
 ·by_cases hb : b = p
  ·subst hb; exact .inr (.inl hp)
  ·rw [upd_ne hb] at e; exact .inl e
 ·by_cases hb : b = p
  ·subst hb; rw [upd_same] at e; exact absurd (Option.some.inj e) (ho _ _)
  ·rw [upd_ne hb] at e; exact e
mutual
noncomputable def imm : PyData→Bool
 | .none=>true
 | .bool _=>true
 | .int _=>true
 | .str _=>true
 | .tuple ds=>immL ds
 | _=>false
noncomputable def immL : List PyData→Bool
 | []=>true
 | d :: ds=>imm d && immL ds
end
noncomputable def wide (F H : Hp) : Hp:=fun a=>match H a with
 | some o=>if imo o = true then some o else F a
 | none=>none
theorem wide_imo {F H : Hp} {a : Addr} {o : HO} (h : H a = some o) (hi : imo o = true) : wide F H a = some o:=by
 unfold wide; rw [h]; simp only [hi,if_true]
theorem wide_grow {F H F1 H' : Hp} (g : Grow F H F1 H') : Grow F H (wide F1 H') H':=by
 have key : ∀ a o,F1 a = some o→wide F1 H' a = some o:=fun a o e=>by
  have e2:=g.fh a o e
  unfold wide; rw [e2]
  by_cases hi : imo o = true
  ·simp only [hi,if_true]
  ·simp only [hi]; exact e
 refine ⟨g.hh,fun a o e=>key a o (g.ff a o e),fun a o e=>?_,fun a o e=>?_,fun a x u e=>?_⟩
 ·unfold wide at e
  cases q : H' a with
  | none=>rw [q] at e; cases e
  | some u =>
   rw [q] at e
   by_cases hi : imo u = true
   ·simp only [hi,if_true] at e; exact e
   ·simp only [hi] at e
    rw [← q]; exact g.fh a o e
 ·unfold wide at e
  cases q : H' a with
  | none=>rw [q] at e; cases e
  | some u =>
   rw [q] at e
   by_cases hi : imo u = true
   ·simp only [hi,if_true] at e
    cases e
    exact .inr (.inr hi)
   ·simp only [hi] at e
    exact g.new a o e
 ·unfold wide at e
  cases q : H' a with
  | none=>rw [q] at e; cases e
  | some w =>
   rw [q] at e
   by_cases hi : imo w = true
   ·simp only [hi,if_true] at e
    cases e
    cases hi
   ·simp only [hi] at e
    exact g.pl a x u e
theorem wide_none {F H : Hp} {a : Addr} {xs : List V} (h : H a = some (.lst xs)) (hf : F a = none) : wide F H a = none:=by
 unfold wide; rw [h]; simpa [imo] using hf
theorem wide_tup {K : PySem.W.Frag} {F H : Hp} {a : Addr} {xs : List V} (h : SqT K H a xs) : SqT K (wide F H) a xs:=by
 rcases h with (h | ⟨o,h⟩) | h
 ·exact .inl (.inl (wide_imo h rfl))
 ·exact .inl (.inr ⟨o,wide_imo h rfl⟩)
 ·exact .inr h
mutual
theorem imm_wide {K : PySem.W.Frag} {F H : Hp} : ∀ {d : PyData} {v : V},imm d = true→Has K H d v→Has K (wide F H) d v
 | .none,_,_,h=>h
 | .bool _,_,_,h=>h
 | .int _,_,_,h=>h
 | .str _,_,_,h=>h
 | .list _,_,f,_=>by simp [imm] at f
 | .tuple ds,_,f,⟨a,xs,e,hq,hl⟩=>⟨a,xs,e,wide_tup hq,immL_wide (by simpa [imm] using f) hl⟩
 | .dict _,_,f,_=>by simp [imm] at f
theorem immL_wide {K : PySem.W.Frag} {F H : Hp} : ∀ {ds : List PyData} {vs : List V},immL ds = true→HasL K H ds vs→HasL K (wide F H) ds vs
 | [],_,_,h=>h
 | d :: ds,_,f,⟨v,r,h1,h2,h3⟩=>by
  simp only [immL,Bool.and_eq_true] at f
  exact ⟨v,r,h1,imm_wide f.1 h2,immL_wide f.2 h3⟩
end
noncomputable def OwnAt (K : PySem.W.Frag) (H₀ F H : Hp) (d : PyData) (v : V) : Prop:=∃ a ds xs,d = .list ds∧v = .ref a∧H a = some (.lst xs)∧F a = none∧H₀ a = none∧HasL K F ds xs
noncomputable def ItemIs (K : PySem.W.Frag) (F : Hp) : PyData→V→Prop
 | .dict [(.int i,.none)],v=>∃ a : Addr,i = (a : Int)∧v = .ref a
 | d,v=>Has K F d v
noncomputable def ItemsAre (K : PySem.W.Frag) (F : Hp) : List PyData→List V→Prop
 | [],vs=>vs = []
 | d :: ds,vs=>∃ v r,vs = v :: r∧ItemIs K F d v∧ItemsAre K F ds r
noncomputable def KeysAre (K : PySem.W.Frag) (F : Hp) : List (PyData × PyData)→List (L2.Key × V)→Prop
 | [],vs=>vs = []
 | (k,d) :: ds,vs=>∃ k' v r,vs = (k',v) :: r∧(match k with | .int i=>k' = Sum.inl i | .str x=>k' = Sum.inr x | _=>False)∧ItemIs K F d v∧KeysAre K F ds r
noncomputable def FldsAre (K : PySem.W.Frag) (F : Hp) : List (PyData × PyData)→List (Str × V)→Prop
 | [],vs=>vs = []
 | (k,d) :: ds,vs=>∃ x v r,vs = (x,v) :: r∧k = .str x∧ItemIs K F d v∧FldsAre K F ds r
noncomputable def CellIs (K : PySem.W.Frag) (F : Hp) : PyData→HO→Prop
 | .list ds,o=>∃ xs,o = .lst xs∧ItemsAre K F ds xs
 | .dict ks,o=>∃ kvs,o = .dK kvs∧KeysAre K F ks kvs
 | .tuple [.int C,.int dx,.dict fs],o=>∃ C' dx' fvs,C = ((C' : Nat) : Int)∧dx = ((dx' : Nat) : Int)∧o = .ins C' dx' fvs∧FldsAre K F fs fvs
 | .tuple [.int C],o=>∃ C',C = ((C' : Nat) : Int)∧o = .own C'
 | _,_=>False
noncomputable def CellAt (K : PySem.W.Frag) (H₀ F H : Hp) (d : PyData) (v : V) : Prop:=∃ a c o,d = .tuple [.int ((a : Addr) : Int),c]∧v = .ref a∧H a = some o∧F a = none∧H₀ a = none∧CellIs K F c o
theorem ItemIs.same {K : PySem.W.Frag} {F F' : Hp} (e : Same F F') {d : PyData} {v : V} (h : ItemIs K F d v) : ItemIs K F' d v:=by
 unfold ItemIs at h ⊢
 split at h
 ·exact h
 ·exact Has.same e h
theorem ItemsAre.same {K : PySem.W.Frag} {F F' : Hp} (e : Same F F') : ∀ {ds : List PyData} {vs : List V},ItemsAre K F ds vs→ItemsAre K F' ds vs
 | [],_,h=>h
 | _ :: _,_,⟨v,r,h1,h2,h3⟩=>⟨v,r,h1,h2.same e,ItemsAre.same e h3⟩
theorem KeysAre.same {K : PySem.W.Frag} {F F' : Hp} (e : Same F F') : ∀ {ds : List (PyData × PyData)} {vs : List (L2.Key × V)},KeysAre K F ds vs→KeysAre K F' ds vs
 | [],_,h=>h
 | (_,_) :: _,_,⟨k,v,r,h1,h2,h3,h4⟩=>⟨k,v,r,h1,h2,h3.same e,KeysAre.same e h4⟩
theorem FldsAre.same {K : PySem.W.Frag} {F F' : Hp} (e : Same F F') : ∀ {ds : List (PyData × PyData)} {vs : List (Str × V)},FldsAre K F ds vs→FldsAre K F' ds vs
 | [],_,h=>h
 | (_,_) :: _,_,⟨k,v,r,h1,h2,h3,h4⟩=>⟨k,v,r,h1,h2,h3.same e,FldsAre.same e h4⟩
theorem CellIs.same {K : PySem.W.Frag} {F F' : Hp} (e : Same F F') {c : PyData} {o : HO} (h : CellIs K F c o) : CellIs K F' c o:=by
 unfold CellIs at h ⊢
 split at h
 ·obtain ⟨xs,h1,h2⟩:=h; exact ⟨xs,h1,h2.same e⟩
 ·obtain ⟨xs,h1,h2⟩:=h; exact ⟨xs,h1,h2.same e⟩
 ·obtain ⟨C',dx',fvs,h1,h2,h3,h4⟩:=h; exact ⟨C',dx',fvs,h1,h2,h3,h4.same e⟩
 ·exact h
 ·exact h.elim
theorem CellIs.mut {K : PySem.W.Frag} {F : Hp} {c : PyData} {o : HO} (h : CellIs K F c o) : imo o = false:=by
 unfold CellIs at h
 split at h
 ·obtain ⟨xs,rfl,_⟩:=h; rfl
 ·obtain ⟨xs,rfl,_⟩:=h; rfl
 ·obtain ⟨C',dx',fvs,_,_,rfl,_⟩:=h; rfl
 ·obtain ⟨C',_,rfl⟩:=h; rfl
 ·exact h.elim
noncomputable def SlotOk (K : PySem.W.Frag) (ioA : Nat→Option Addr) (H₀ F H : Hp) (i : Nat) : Tg→PyData→V→Prop
 | .fr,d,v=>Has K F d v
 | .ow,d,v=>OwnAt K H₀ F H d v
 | .io,d,v=>OwnAt K H₀ F H d v∧∃ a,v = .ref a∧ioA i = some a
 | .rf,d,v=>∃ a : Addr,d = .int (a : Int)∧v = .ref a
 | .ce,d,v=>CellAt K H₀ F H d v
structure VI (K : PySem.W.Frag) (ioA : Nat→Option Addr) (G H₀ : Hp) (S : GS) (F : Hp) (σ : St) (H : Hp) : Prop where
 len : S.length = σ.length
 same : Same H₀ H
 gf : Same G F
 new : ∀ a o,F a = some o→G a = some o∨H₀ a = none∨imo o = true
 sub : Same F H
 slot : ∀ (i : Nat) t d,S[i]? = some (some (t,d))→∃ v,σ[i]? = some (some v)∧SlotOk K ioA H₀ F H i t d v
 inj : ∀ (i j : Nat) t t' d d' v,S[i]? = some (some (t,d))→S[j]? = some (some (t',d'))→t.own = true→t'.own = true→σ[i]? = some (some v)→σ[j]? = some (some v)→i = j
 pl : ∀ a o u,F a = some (.frz o (.lst u))→G a = some (.frz o (.lst u))
section
variable {K : PySem.W.Frag} {ioA : Nat→Option Addr} {G H₀ F H F' H' : Hp} {S : GS} {σ : St}
theorem OwnAt.grow {d : PyData} {v : V} (g : Grow F H F' H') (h : OwnAt K H₀ F H d v) : OwnAt K H₀ F' H' d v:=by
 obtain ⟨a,ds,xs,e1,e2,e3,e4,e5,e6⟩:=h
 refine ⟨a,ds,xs,e1,e2,g.hh _ _ e3,?_,e5,e6.same g.ff⟩
 cases q : F' a with
 | none=>rfl
 | some o =>
  rcases g.new a o q with z | z | z
  ·rw [e4] at z; cases z
  ·rw [e3] at z; cases z
  ·have:=g.fh a o q
   rw [g.hh _ _ e3] at this
   cases this
   simp [imo] at z
theorem CellAt.grow {d : PyData} {v : V} (g : Grow F H F' H') (h : CellAt K H₀ F H d v) : CellAt K H₀ F' H' d v:=by
 obtain ⟨a,c,o,e1,e2,e3,e4,e5,e6⟩:=h
 refine ⟨a,c,o,e1,e2,g.hh _ _ e3,?_,e5,e6.same g.ff⟩
 cases q : F' a with
 | none=>rfl
 | some o' =>
  rcases g.new a o' q with z | z | z
  ·rw [e4] at z; cases z
  ·rw [e3] at z; cases z
  ·have:=g.fh a o' q
   rw [g.hh _ _ e3] at this
   cases this
   rw [e6.mut] at z; cases z
theorem VI.grow (I : VI K ioA G H₀ S F σ H) (g : Grow F H F' H') : VI K ioA G H₀ S F' σ H' where
 len:=I.len
 same:=I.same.trans g.hh
 gf:=I.gf.trans g.ff
 new:=fun a o e=>by
  rcases g.new a o e with z | z | z
  ·exact I.new a o z
  ·exact .inr (.inl (I.same.free z))
  ·exact .inr (.inr z)
 sub:=g.fh
 slot:=fun i t d e=>by
  obtain ⟨v,e1,h⟩:=I.slot i t d e
  refine ⟨v,e1,?_⟩
  cases t with
  | fr=>exact Has.same g.ff h
  | ow=>exact OwnAt.grow g h
  | io=>exact ⟨OwnAt.grow g h.1,h.2⟩
  | rf=>exact h
  | ce=>exact CellAt.grow g h
 inj:=I.inj
 pl:=fun a o u e=>I.pl a o u (g.pl a o u e)
end
noncomputable abbrev Rel:=PySem.W.Frag→Hp→Hp→Hp→Hp→PyData→V→Prop
noncomputable def RW : Rel:=fun K _ _ _ H' d v=>Has K H' d v
noncomputable def RS : Rel:=fun K _ _ F' _ d v=>Has K F' d v
noncomputable def RM : Rel:=fun K _ _ F' H' d v=>Has K F' d v∨∃ ds a xs,d = .list ds∧v = .ref a∧SqL K H' a xs∧HasL K F' ds xs
noncomputable def RN : Rel:=fun K _ H F' H' d v=>∃ ds a xs,d = .list ds∧v = .ref a∧H a = none∧F' a = none∧H' a = some (.lst xs)∧HasL K F' ds xs
noncomputable def tV (K : PySem.W.Frag) (R : Rel) (f : VE) : TE:=fun σ H Q=>∃ ioA G H₀ S F,VI K ioA G H₀ S F σ H∧∃ d,f S = some d∧∀ v F' H',Grow F H F' H'→R K F H F' H' d v→Q v H'
theorem tV.imp {K : PySem.W.Frag} {R R' : Rel} {f f' : VE} {σ : St} {H : Hp} {Q : VK} (hf : ∀ S d,f S = some d→f' S = some d)
  (hR : ∀ (F F' H' : Hp) S d v,f S = some d→Grow F H F' H'→R' K F H F' H' d v→∃ F'',Grow F H F'' H'∧R K F H F'' H' d v) (h : tV K R f σ H Q) : tV K R' f' σ H Q:=by
 obtain ⟨ioA,G,H₀,S,F,I,d,e,q⟩:=h
 refine ⟨ioA,G,H₀,S,F,I,d,hf S d e,fun v F' H' g r=>?_⟩
 obtain ⟨F'',g2,r2⟩:=hR F F' H' S d v e g r
 exact q v F'' H' g2 r2
section
variable {X : Cx} {e : Expr} {f : VE}
theorem sw (h : PE X e (tV X.K RS f)) : PE X e (tV X.K RW f):=h.imp fun _ _ _ q=>tV.imp (fun _ _ h=>h) (fun F F' H' S d v _ g r=>⟨F',g,Has.same g.fh r⟩) q
theorem sm (h : PE X e (tV X.K RS f)) : PE X e (tV X.K RM f):=h.imp fun _ _ _ q=>tV.imp (fun _ _ h=>h) (fun F F' H' S d v _ g r=>⟨F',g,.inl r⟩) q
theorem mw (h : PE X e (tV X.K RM f)) : PE X e (tV X.K RW f):=h.imp fun _ _ _ q=>tV.imp (fun _ _ h=>h) (fun F F' H' S d v _ g r=>⟨F',g,by
 rcases r with r | ⟨ds,a,xs,rfl,rfl,h1,h2⟩
 ·exact Has.same g.fh r
 ·exact ⟨a,xs,rfl,h1,h2.same g.fh⟩⟩) q
theorem nm (h : PE X e (tV X.K RN f)) : PE X e (tV X.K RM f):=h.imp fun _ _ _ q=>tV.imp (fun _ _ h=>h) (fun F F' H' S d v _ g r=>⟨F',g,by
 obtain ⟨ds,a,xs,h1,h2,h3,h4,h5,h6⟩:=r
 exact .inr ⟨ds,a,xs,h1,h2,SqL.of h5,h6⟩⟩) q
theorem RN.frz {K : PySem.W.Frag} {F H F' H' : Hp} {d : PyData} {v : V} (g : Grow F H F' H') (r : RN K F H F' H' d v) : ∃ F'',Grow F H F'' H'∧RS K F H F'' H' d v:=by
 obtain ⟨ds,a,xs,h1,h2,h3,h4,h5,h6⟩:=r
 refine ⟨upd F' a (.lst xs),⟨g.hh,g.ff.trans (same_upd_new h4),fun b o e=>?_,fun b o e=>?_,fun b x u e=>?_⟩,?_⟩
 ·by_cases hb : b = a
  ·subst hb; rw [upd_same] at e; cases e; exact h5
  ·rw [upd_ne hb] at e; exact g.fh b o e
 ·by_cases hb : b = a
  ·subst hb; exact .inr (.inl h3)
  ·rw [upd_ne hb] at e; exact g.new b o e
 ·by_cases hb : b = a
  ·subst hb; rw [upd_same] at e; cases e
  ·rw [upd_ne hb] at e; exact g.pl b x u e
 ·rw [h1]; exact ⟨a,xs,h2,SqL.of upd_same,h6.same (same_upd_new h4)⟩
theorem ns (h : PE X e (tV X.K RN f)) : PE X e (tV X.K RS f):=h.imp fun _ _ _ q=>tV.imp (fun _ _ h=>h) (fun F F' H' S d v _ g r=>RN.frz g r) q
theorem nw (h : PE X e (tV X.K RN f)) : PE X e (tV X.K RW f):=mw (nm h)
noncomputable def vImm (f : VE) : VE:=fun S=>match f S with
 | some d=>if imm d = true then some d else none
 | none=>none
theorem vImm_some {f : VE} {S : GS} {d : PyData} (h : vImm f S = some d) : f S = some d∧imm d = true:=by
 unfold vImm at h
 cases q : f S with
 | none=>rw [q] at h; cases h
 | some u =>
  rw [q] at h
  simp only at h
  split at h
  ·cases h; exact ⟨rfl,by assumption⟩
  ·cases h
theorem ws (h : PE X e (tV X.K RW f)) : PE X e (tV X.K RS (vImm f)):=h.imp fun _ H Q q=>by
 refine tV.imp (fun S d h=>(vImm_some h).1) (fun F F' H' S d v he g r=>⟨wide F' H',wide_grow g,imm_wide (vImm_some he).2 r⟩) q
end
noncomputable def vN (i : Nat) : VE:=fun S=>match S[i]? with
 | some (some (.fr,d))=>some d
 | some (some (.ow,d))=>some d
 | some (some (.io,d))=>some d
 | _=>none
noncomputable def vF (i : Nat) : VE:=fun S=>match S[i]? with
 | some (some (.fr,d))=>some d
 | _=>none
noncomputable def vC (d : PyData) : VE:=fun _=>some d
section
variable {X : Cx} {e : Expr} {pos : Pos}
theorem dN {i : Nat} (h : PE X e (vR i)) : PE X e (tV X.K RM (vN i)):=h.imp fun σ H Q q=>by
 obtain ⟨ioA,G,H₀,S,F,I,d,e,q⟩:=q
 unfold vN at e
 split at e
 ·rename_i d' hS
  cases e
  obtain ⟨v,hv,hs⟩:=I.slot i .fr d hS
  unfold vR; rw [hv]
  exact q v F H (Grow.refl I.sub) (.inl hs)
 ·rename_i d' hS
  cases e
  obtain ⟨v,hv,hs⟩:=I.slot i .ow d hS
  unfold vR; rw [hv]
  obtain ⟨a,ds,xs,e1,e2,e3,e4,e5,e6⟩:=hs
  exact q v F H (Grow.refl I.sub) (.inr ⟨ds,a,xs,e1,e2,SqL.of e3,e6⟩)
 ·rename_i d' hS
  cases e
  obtain ⟨v,hv,hs⟩:=I.slot i .io d hS
  unfold vR; rw [hv]
  obtain ⟨a,ds,xs,e1,e2,e3,e4,e5,e6⟩:=hs.1
  exact q v F H (Grow.refl I.sub) (.inr ⟨ds,a,xs,e1,e2,SqL.of e3,e6⟩)
 ·cases e
theorem dF {i : Nat} (h : PE X e (vR i)) : PE X e (tV X.K RS (vF i)):=h.imp fun σ H Q q=>by
 obtain ⟨ioA,G,H₀,S,F,I,d,e,q⟩:=q
 unfold vF at e
 split at e
 ·rename_i d' hS
  cases e
  obtain ⟨v,hv,hs⟩:=I.slot i .fr d hS
  unfold vR; rw [hv]
  exact q v F H (Grow.refl I.sub) hs
 ·cases e
theorem dC {v : V} {d : PyData} (h : PE X e (tC v)) (hv : ∀ H,Has X.K H d v) : PE X e (tV X.K RS (vC d)):=h.imp fun σ H Q q=>by
 obtain ⟨ioA,G,H₀,S,F,I,d',e,q⟩:=q
 cases e
 exact q v F H (Grow.refl I.sub) (hv F)
theorem dInt {i j} : PE X (.Constant (.int i) j pos) (tV X.K RS (vC (.int i))):=dC pe_int fun _=>rfl
theorem dBool {b j} : PE X (.Constant (.bool b) j pos) (tV X.K RS (vC (.bool b))):=dC pe_bl fun _=>rfl
end
noncomputable def v2 (h : PyData→PyData→Option PyData) (fa fb : VE) : VE:=fun S=>match fa S with
 | some x=>match fb S with
  | some y=>h x y
  | none=>none
 | none=>none
theorem v2_some {h : PyData→PyData→Option PyData} {fa fb : VE} {S : GS} {d : PyData} (e : v2 h fa fb S = some d) : ∃ x y,fa S = some x∧fb S = some y∧h x y = some d:=by
 unfold v2 at e
 cases q : fa S with
 | none=>rw [q] at e; cases e
 | some x =>
  rw [q] at e
  cases q2 : fb S with
  | none=>rw [q2] at e; cases e
  | some y=>rw [q2] at e; exact ⟨x,y,rfl,rfl,e⟩
noncomputable def OpD (K : PySem.W.Frag) (h : PyData→PyData→Option PyData) (r : R2) : Prop:=∀ H x y dx dy d Q,h dx dy = some d→Has K H dx x→Has K H dy y→(∀ v,(∀ H',Has K H' d v)→Q v H)→r x y H Q
theorem rd2 {K : PySem.W.Frag} {h : PyData→PyData→Option PyData} {r : R2} {fa fb : VE} (hd : OpD K h r) {σ : St} {H : Hp} {Q : VK} (q : tV K RS (v2 h fa fb) σ H Q) : tOp r (tV K RW fa) (tV K RW fb) σ H Q:=by
 obtain ⟨ioA,G,H₀,S,F,I,d,e,q⟩:=q
 obtain ⟨x,y,ex,ey,e⟩:=v2_some e
 refine ⟨ioA,G,H₀,S,F,I,x,ex,fun v F1 H1 g1 hx=>⟨ioA,G,H₀,S,F1,I.grow g1,y,ey,fun u F2 H2 g2 hy=>?_⟩⟩
 exact hd H2 v u x y d Q e (Has.same g2.hh hx) hy fun w hw=>q w F2 H2 (g1.trans g2) (hw F2)
section
variable {X : Cx} {a b : Expr} {fa fb : VE} {pos : Pos} {h : PyData→PyData→Option PyData} {r : R2}
theorem dOp {op : Operator} (ho : OpR X (binaryOp op) r) (hd : OpD X.K h r) (ha : PE X a (tV X.K RW fa)) (hb : PE X b (tV X.K RW fb)) : PE X (.BinOp a op b pos) (tV X.K RS (v2 h fa fb)) :=
 (pe_op ho ha hb).imp fun _ _ _ q=>rd2 hd q
theorem dCmp {op : CmpOp} (ho : OpR X (compareOp op) r) (hd : OpD X.K h r) (ha : PE X a (tV X.K RW fa)) (hb : PE X b (tV X.K RW fb)) (hm : behindInMarks op b = false:=by first | exact nomark _ | rfl) : PE X (.Compare a [op] [b] pos) (tV X.K RS (v2 h fa fb)) :=
 (peC ho ha hb hm).imp fun _ _ _ q=>rd2 hd q
end
noncomputable def iop (g : Int→Int→PyData) : PyData→PyData→Option PyData
 | .int a,.int b=>some (g a b)
 | _,_=>none
noncomputable def iopC (C : Int→Int→Prop) [∀ a b,Decidable (C a b)] (g : Int→Int→PyData) : PyData→PyData→Option PyData
 | .int a,.int b=>if C a b then some (g a b) else none
 | _,_=>none
noncomputable def flat0 (d : PyData) (v : V) : Prop:=∀ (K : PySem.W.Frag) (H : Hp),Has K H d v
theorem opd_iop {K : PySem.W.Frag} {g : Int→Int→PyData} {gv : Int→Int→V} (hg : ∀ a b,flat0 (g a b) (gv a b)) : OpD K (iop g) (rM gv):=by
 intro H x y dx dy d Q e hx hy q
 cases dx <;> first | (simp [iop] at e; done) | skip
 cases dy <;> first | (simp [iop] at e; done) | skip
 simp only [iop,Option.some.injEq] at e
 subst e
 have ex : x = _:=hx
 have ey : y = _:=hy
 subst ex ey
 exact q _ fun H'=>hg _ _ K H'
theorem opd_iopC {K : PySem.W.Frag} {C : Int→Int→Prop} [∀ a b,Decidable (C a b)] {C' : Int→Int→Prop} {g : Int→Int→PyData} {gv : Int→Int→V} (hc : ∀ a b,C a b→C' a b) (hg : ∀ a b,flat0 (g a b) (gv a b)) : OpD K (iopC C g) (rMC C' gv):=by
 intro H x y dx dy d Q e hx hy q
 cases dx <;> first | (simp [iopC] at e; done) | skip
 cases dy <;> first | (simp [iopC] at e; done) | skip
 simp only [iopC] at e
 split at e
 ·rename_i hC
  cases e
  have ex : x = _:=hx
  have ey : y = _:=hy
  subst ex ey
  exact ⟨hc _ _ hC,q _ fun H'=>hg _ _ K H'⟩
 ·cases e
set_option exponentiation.threshold 9000
noncomputable def BMul (i j : Int) : Prop:=i.natAbs < 2 ^ 2000∧j.natAbs < 2 ^ 2000
noncomputable instance (i j : Int) : Decidable (BMul i j):=inferInstanceAs (Decidable (_∧_))
noncomputable def BDiv (_ j : Int) : Prop:=0 < j∧j.natAbs < 2 ^ 2000
noncomputable instance (i j : Int) : Decidable (BDiv i j):=inferInstanceAs (Decidable (_∧_))
noncomputable def BMod (_ j : Int) : Prop:=0 < j
noncomputable instance (i j : Int) : Decidable (BMod i j):=inferInstanceAs (Decidable (_ < _))
noncomputable def BPow (i j : Int) : Prop:=0≤j∧j≤1000∧i.natAbs < 2 ^ 60
noncomputable instance (i j : Int) : Decidable (BPow i j):=inferInstanceAs (Decidable (_∧_∧_))
theorem BMul.ok {i j : Int} (h : BMul i j) : CMulB i j:=by
 have e : (2 : Nat) ^ 2000≤2 ^ 8000:=Nat.pow_le_pow_right (by decide) (by decide)
 exact ⟨Nat.lt_of_lt_of_le h.1 e,Nat.lt_of_lt_of_le h.2 e⟩
theorem BDiv.ok {i j : Int} (h : BDiv i j) : CDivB i j:=⟨h.1,by
 have hz : j.natAbs ≠ 0:=by have:=h.1; omega
 have:=(Nat.log2_lt hz).mpr h.2
 omega⟩
theorem BPow.ok {i j : Int} (h : BPow i j) : CPow i j:=⟨h.1,by have:=h.2.1; omega,Nat.lt_trans h.2.2 (by decide)⟩
noncomputable abbrev addD:=iop fun a b=>.int (a + b)
noncomputable abbrev subD:=iop fun a b=>.int (a - b)
noncomputable abbrev mulD:=iopC BMul fun a b=>.int (a * b)
noncomputable abbrev divD:=iopC BDiv fun a b=>.int (a / b)
noncomputable abbrev modD:=iopC BMod fun a b=>.int (a % b)
noncomputable abbrev powD:=iopC BPow fun a b=>.int (a ^ b.toNat)
noncomputable abbrev ltD:=iop fun a b=>.bool (decide (a < b))
noncomputable abbrev leD:=iop fun a b=>.bool (decide (a≤b))
noncomputable abbrev gtD:=iop fun a b=>.bool (decide (b < a))
noncomputable abbrev geD:=iop fun a b=>.bool (decide (b≤a))
section
variable {K : PySem.W.Frag}
theorem hAdd : OpD K addD (rM fun i j=>.int (i + j)):=opd_iop fun _ _ _ _=>rfl
theorem hSub : OpD K subD (rM fun i j=>.int (i - j)):=opd_iop fun _ _ _ _=>rfl
theorem hMul : OpD K mulD (rMC CMulB fun i j=>.int (i * j)):=opd_iopC (fun _ _ h=>h.ok) fun _ _ _ _=>rfl
theorem hDiv : OpD K divD (rMC CDivB fun i j=>.int (i / j)):=opd_iopC (fun _ _ h=>h.ok) fun _ _ _ _=>rfl
theorem hMod : OpD K modD (rMC (fun _ j=>0 < j) fun i j=>.int (i % j)):=opd_iopC (fun _ _ h=>h) fun _ _ _ _=>rfl
theorem hPow : OpD K powD (rMC CPow fun i j=>.int (i ^ j.toNat)):=opd_iopC (fun _ _ h=>h.ok) fun _ _ _ _=>rfl
theorem hLt : OpD K ltD (rM fun i j=>.bl (decide (i < j))):=opd_iop fun _ _ _ _=>rfl
theorem hLe : OpD K leD (rM fun i j=>.bl (decide (i≤j))):=opd_iop fun _ _ _ _=>rfl
theorem hGt : OpD K gtD (rM fun i j=>.bl (decide (j < i))):=opd_iop fun _ _ _ _=>rfl
end
noncomputable def eqD : PyData→PyData→Option PyData:=fun x y=>if x.depth≤60 then some (.bool (PyData.eqv x y)) else none
noncomputable def neD : PyData→PyData→Option PyData:=fun x y=>if x.depth≤60 then some (.bool (!PyData.eqv x y)) else none
theorem hEq {K : PySem.W.Frag} : OpD K eqD (rEqD K):=by
 intro H x y dx dy d Q e hx hy q
 unfold eqD at e
 split at e
 ·cases e; exact ⟨dx,dy,hx,hy,by assumption,q _ fun _=>rfl⟩
 ·cases e
theorem hNe {K : PySem.W.Frag} : OpD K neD (rNeD K):=by
 intro H x y dx dy d Q e hx hy q
 unfold neD at e
 split at e
 ·cases e; exact ⟨dx,dy,hx,hy,by assumption,q _ fun _=>rfl⟩
 ·cases e
noncomputable def isNoneD : PyData→Bool
 | .none=>true
 | _=>false
noncomputable def isD : PyData→PyData→Option PyData:=fun x y=>if isNoneD y then some (.bool (isNoneD x)) else none
noncomputable def isnD : PyData→PyData→Option PyData:=fun x y=>if isNoneD y then some (.bool (!isNoneD x)) else none
noncomputable abbrev VT:=GS→Option Bool
noncomputable def tVT (K : PySem.W.Frag) (f : VT) : TT:=fun σ H Q=>∃ ioA G H₀ S F,VI K ioA G H₀ S F σ H∧∃ b,f S = some b∧∀ F' H',Grow F H F' H'→Q b H'
noncomputable def vB (f : VE) : VT:=fun S=>match f S with
 | some (.bool b)=>some b
 | _=>none
theorem vB_some {f : VE} {S : GS} {b : Bool} (h : vB f S = some b) : f S = some (.bool b):=by
 unfold vB at h
 split at h
 ·cases h; assumption
 ·cases h
noncomputable def tAnd2 (f g : VT) : VT:=fun S=>match f S with
 | some true=>g S
 | some false=>some false
 | none=>none
noncomputable def tOr2 (f g : VT) : VT:=fun S=>match f S with
 | some true=>some true
 | some false=>g S
 | none=>none
noncomputable def tNot2 (f : VT) : VT:=fun S=>match f S with
 | some b=>some !b
 | none=>none
noncomputable def truD : PyData→Option Bool
 | .none=>some false
 | .bool b=>some b
 | .int i=>some (i != 0)
 | .list ds=>some (!ds.isEmpty)
 | .tuple ds=>some (!ds.isEmpty)
 | _=>none
noncomputable def vTru (f : VE) : VT:=fun S=>match f S with
 | some d=>truD d
 | none=>none
theorem HasL.isEmpty {K : PySem.W.Frag} {H : Hp} {ds : List PyData} {vs : List V} (h : HasL K H ds vs) : vs.isEmpty = ds.isEmpty:=by
 have:=h.length
 cases ds <;> cases vs <;> simp_all
section
variable {X : Cx} {a b e : Expr} {fa fb f : VE} {ta tb : VT} {pos : Pos} {h : PyData→PyData→Option PyData} {r : R2} {rest : List Expr}
theorem rdTM {t : TE} {σ : St} {H : Hp} {Q : Bool→Hp→Prop} {K : PySem.W.Frag} (ht : ∀ Q',tV K RS f σ H Q'→t σ H Q') (q : tVT K (vB f) σ H Q) : tTM t σ H Q:=by
 obtain ⟨ioA,G,H₀,S,F,I,b,e,q⟩:=q
 refine ht _ ⟨ioA,G,H₀,S,F,I,.bool b,vB_some e,fun v F' H' g hv=>?_⟩
 have ev : v = .bl b:=hv
 subst ev
 exact q F' H' g
theorem cCmp {op : CmpOp} (ho : OpR X (compareOp op) r) (hd : OpD X.K h r) (ha : PE X a (tV X.K RW fa)) (hb : PE X b (tV X.K RW fb)) (hm : behindInMarks op b = false:=by first | exact nomark _ | rfl) : PT X (.Compare a [op] [b] pos) (tVT X.K (vB (v2 h fa fb))) :=
 PT.imp (ptC ho ha hb hm) fun _ _ _ q=>rdTM (fun _ q=>rd2 hd q) q
theorem cVal (he : PE X e (tV X.K RS f)) (hp : ∀ whole,isTrue e X.env whole = (do let v ← whole; standAt e.pos; holding [v] (truthy v)):=by intro _; rfl) : PT X e (tVT X.K (vB f)) :=
 PT.imp (ptV he hp) fun _ _ _ q=>rdTM (fun _ q=>q) q
theorem cNot (ha : PT X a (tVT X.K ta)) : PT X (.UnaryOp .Not a pos) (tVT X.K (tNot2 ta)):=PT.imp (pt_not ha) fun _ _ _ q=>by
 obtain ⟨ioA,G,H₀,S,F,I,b,e,q⟩:=q
 unfold tNot2 at e
 cases q2 : ta S with
 | none=>rw [q2] at e; cases e
 | some c =>
  rw [q2] at e
  cases e
  exact ⟨ioA,G,H₀,S,F,I,c,q2,fun F' H' g=>q F' H' g⟩
theorem wAnd1 (ha : PT X a (tVT X.K ta)) : PW X (.BoolOp .And [a] pos) (tVT X.K ta):=pw_and1 ha
theorem wOr1 (ha : PT X a (tVT X.K ta)) : PW X (.BoolOp .Or [a] pos) (tVT X.K ta):=pw_or1 ha
theorem wAnd (ha : PT X a (tVT X.K ta)) (hb : PW X (.BoolOp .And (b :: rest) pos) (tVT X.K tb)) : PW X (.BoolOp .And (a :: b :: rest) pos) (tVT X.K (tAnd2 ta tb)):=PW.imp (pw_and ha hb) fun _ _ _ q=>by
 obtain ⟨ioA,G,H₀,S,F,I,b,e,q⟩:=q
 unfold tAnd2 at e
 cases q2 : ta S with
 | none=>rw [q2] at e; cases e
 | some c =>
  rw [q2] at e
  refine ⟨ioA,G,H₀,S,F,I,c,q2,fun F' H' g=>?_⟩
  cases c with
  | true=>rw [if_pos rfl]; exact ⟨ioA,G,H₀,S,F',I.grow g,b,e,fun F2 H2 g2=>q F2 H2 (g.trans g2)⟩
  | false=>rw [if_neg Bool.false_ne_true]; cases e; exact q F' H' g
theorem wOr (ha : PT X a (tVT X.K ta)) (hb : PW X (.BoolOp .Or (b :: rest) pos) (tVT X.K tb)) : PW X (.BoolOp .Or (a :: b :: rest) pos) (tVT X.K (tOr2 ta tb)):=PW.imp (pw_or ha hb) fun _ _ _ q=>by
 obtain ⟨ioA,G,H₀,S,F,I,b,e,q⟩:=q
 unfold tOr2 at e
 cases q2 : ta S with
 | none=>rw [q2] at e; cases e
 | some c =>
  rw [q2] at e
  refine ⟨ioA,G,H₀,S,F,I,c,q2,fun F' H' g=>?_⟩
  cases c with
  | false=>rw [if_neg Bool.false_ne_true]; exact ⟨ioA,G,H₀,S,F',I.grow g,b,e,fun F2 H2 g2=>q F2 H2 (g.trans g2)⟩
  | true=>rw [if_pos rfl]; cases e; exact q F' H' g
end
noncomputable def vAnd (f g : VE) : VE:=fun S=>match f S with
 | some (.bool true)=>g S
 | some (.bool false)=>some (.bool false)
 | _=>none
noncomputable def vOr (f g : VE) : VE:=fun S=>match f S with
 | some (.bool true)=>some (.bool true)
 | some (.bool false)=>g S
 | _=>none
noncomputable def vNot (f : VE) : VE:=fun S=>match f S with
 | some (.bool b)=>some (.bool !b)
 | _=>none
noncomputable def vCh (h h' : PyData→PyData→Option PyData) (fa fb fc : VE) : VE:=fun S=>match fa S with
 | some x=>match fb S with
  | some y=>match h x y with
   | some (.bool true)=>(match fc S with
    | some z=>h' y z
    | none=>none)
   | some (.bool false)=>some (.bool false)
   | _=>none
  | none=>none
 | none=>none
noncomputable def vIf (c : VT) (f g : VE) : VE:=fun S=>match c S with
 | some true=>f S
 | some false=>g S
 | none=>none
section
variable {X : Cx} {a b c e : Expr} {fa fb fc f : VE} {tc : VT} {pos : Pos} {h h' : PyData→PyData→Option PyData} {r r' : R2} {rest : List Expr} {R : Rel}
theorem dAnd (ha : PE X a (tV X.K RS fa)) (hb : PE X (.BoolOp .And (b :: rest) pos) (tV X.K RS fb)) : PE X (.BoolOp .And (a :: b :: rest) pos) (tV X.K RS (vAnd fa fb)):=(peAnd ha hb).imp fun _ _ _ q=>by
 obtain ⟨ioA,G,H₀,S,F,I,d,e,q⟩:=q
 unfold vAnd at e
 split at e
 ·rename_i q2
  refine ⟨ioA,G,H₀,S,F,I,_,q2,fun v F' H' g hv=>?_⟩
  have ev : v = .bl true:=hv
  subst ev
  simp only [if_true]
  exact ⟨ioA,G,H₀,S,F',I.grow g,d,e,fun w F2 H2 g2 hw=>q w F2 H2 (g.trans g2) hw⟩
 ·rename_i q2
  cases e
  refine ⟨ioA,G,H₀,S,F,I,_,q2,fun v F' H' g hv=>?_⟩
  have ev : v = .bl false:=hv
  subst ev
  simp only [Bool.false_eq_true,if_false]
  exact q _ F' H' g rfl
 ·cases e
theorem dNot (ha : PE X a (tV X.K RS fa)) : PE X (.UnaryOp .Not a pos) (tV X.K RS (vNot fa)):=(peNot ha).imp fun _ _ _ q=>by
 obtain ⟨ioA,G,H₀,S,F,I,d,e,q⟩:=q
 unfold vNot at e
 split at e
 ·rename_i b q2
  cases e
  refine ⟨ioA,G,H₀,S,F,I,_,q2,fun v F' H' g hv=>?_⟩
  have ev : v = .bl b:=hv
  subst ev
  exact q _ F' H' g rfl
 ·cases e
theorem dOne {op} (h : PE X a (tV X.K R f)) : PE X (.BoolOp op [a] pos) (tV X.K R f):=pe_one h
theorem rdCh {K : PySem.W.Frag} {σ : St} {H : Hp} {Q : VK} (hd : OpD K h r) (hd' : OpD K h' r') (q : tV K RS (vCh h h' fa fb fc) σ H Q) : tChM r r' (tV K RW fa) (tV K RW fb) (tV K RW fc) σ H Q:=by
 obtain ⟨ioA,G,H₀,S,F,I,d,e,q⟩:=q
 unfold vCh at e
 cases qa : fa S with
 | none=>rw [qa] at e; cases e
 | some x =>
  rw [qa] at e
  cases qb : fb S with
  | none=>rw [qb] at e; cases e
  | some y =>
   rw [qb] at e
   simp only at e
   refine ⟨ioA,G,H₀,S,F,I,x,qa,fun v F1 H1 g1 hx=>⟨ioA,G,H₀,S,F1,I.grow g1,y,qb,fun u F2 H2 g2 hy=>?_⟩⟩
   split at e
   ·rename_i q3
    cases qc : fc S with
    | none=>rw [qc] at e; cases e
    | some z =>
     rw [qc] at e
     refine hd H2 v u x y _ _ q3 (Has.same g2.hh hx) hy fun k hk=>?_
     have ek : k = .bl true:=hk H2
     subst ek
     simp only [if_true]
     refine ⟨ioA,G,H₀,S,F2,(I.grow g1).grow g2,z,qc,fun w F3 H3 g3 hw=>?_⟩
     exact hd' H3 u w y z d Q e (Has.same g3.hh hy) hw fun k hk=>q k F3 H3 ((g1.trans g2).trans g3) (hk F3)
   ·rename_i q3
    cases e
    refine hd H2 v u x y _ _ q3 (Has.same g2.hh hx) hy fun k hk=>?_
    have ek : k = .bl false:=hk H2
    subst ek
    simp only [Bool.false_eq_true,if_false]
    exact q _ F2 H2 (g1.trans g2) rfl
   ·cases e
end
end VM
namespace VM
open PySem L2
section
variable {K : PySem.W.Frag} {F H F' H' : Hp}
theorem HasL.atI {ds : List PyData} {xs : List V} {i : Int} {d : PyData} (h : HasL K H ds xs) (e : L2.atI ds i = some d) : ∃ v,L2.atI xs i = some v∧Has K H d v:=by
 unfold L2.atI at e ⊢
 rw [ixN_len h.length.symm]
 cases q : ixN ds.length i with
 | none=>rw [q] at e; cases e
 | some j =>
  rw [q] at e
  exact h.at e
theorem HasL.drop : ∀ {ds : List PyData} {vs : List V} (n : Nat),HasL K H ds vs→HasL K H (ds.drop n) (vs.drop n)
 | _,_,0,h=>h
 | [],vs,n + 1,h=>by
  have h' : vs = []:=h
  rw [h']; rfl
 | _ :: _,_,n + 1,⟨_,_,g1,_,g3⟩=>by rw [g1]; exact HasL.drop n g3
theorem HasL.take : ∀ {ds : List PyData} {vs : List V} (n : Nat),HasL K H ds vs→HasL K H (ds.take n) (vs.take n)
 | _,_,0,_=>by simp only [List.take_zero]; rfl
 | [],vs,n + 1,h=>by
  have h' : vs = []:=h
  rw [h']; rfl
 | _ :: _,_,n + 1,⟨u,r,g1,g2,g3⟩=>by rw [g1]; exact ⟨u,r.take n,rfl,g2,HasL.take n g3⟩
theorem RM.list {ds : List PyData} {v : V} (fh : Same F' H') (r : RM K F H F' H' (.list ds) v) : ∃ a xs,v = .ref a∧SqL K H' a xs∧HasL K F' ds xs:=by
 rcases r with ⟨a,xs,rfl,h1,h2⟩ | ⟨ds',a,xs,e,rfl,h1,h2⟩
 ·exact ⟨a,xs,rfl,fh.seq h1,h2⟩
 ·cases e; exact ⟨a,xs,rfl,h1,h2⟩
theorem RM.tuple {ds : List PyData} {v : V} (fh : Same F' H') (r : RM K F H F' H' (.tuple ds) v) : ∃ a xs,v = .ref a∧SqT K H' a xs∧HasL K F' ds xs:=by
 rcases r with ⟨a,xs,rfl,h1,h2⟩ | ⟨ds',a,xs,e,rfl,h1,h2⟩
 ·exact ⟨a,xs,rfl,fh.seqT h1,h2⟩
 ·cases e
theorem RM.grow {F2 H2 : Hp} {d : PyData} {v : V} (g : Grow F' H' F2 H2) (r : RM K F H F' H' d v) : RM K F H F2 H2 d v:=by
 rcases r with r | ⟨ds,a,xs,e,e2,h1,h2⟩
 ·exact .inl (Has.same g.ff r)
 ·exact .inr ⟨ds,a,xs,e,e2,g.hh.seq h1,h2.same g.ff⟩
end
noncomputable def ixDt : PyData→PyData→Option PyData
 | .list ds,.int i=>atI ds i
 | .tuple ds,.int i=>atI ds i
 | _,_=>none
section
variable {X : Cx} {a b e : Expr} {fa fb f : VE} {pos p2 : Pos}
theorem dIx (ha : PE X a (tV X.K RM fa)) (hb : PE X b (tV X.K RW fb)) (hs : PlainIx b:=by intro _ _; rfl) : PE X (.Subscript a b pos) (tV X.K RS (v2 ixDt fa fb)) :=
 (pe_ix (ix_list.or ix_tup) ha hb hs).imp fun _ _ Q q=>by
  obtain ⟨ioA,G,H₀,S,F,I,d,e,q⟩:=q
  obtain ⟨x,y,ex,ey,e⟩:=v2_some e
  refine ⟨ioA,G,H₀,S,F,I,x,ex,fun v F1 H1 g1 hx=>⟨ioA,G,H₀,S,F1,I.grow g1,y,ey,fun u F2 H2 g2 hy=>?_⟩⟩
  have hx2:=RM.grow g2 hx
  unfold ixDt at e
  split at e
  ·rename_i ds i
   have eu : u = .int i:=hy
   obtain ⟨p,xs,rfl,h1,h2⟩:=RM.list g2.fh hx2
   obtain ⟨w,hw,hw2⟩:=HasL.atI h2 e
   exact .inl ⟨p,xs,i,w,rfl,eu,h1,hw,q w F2 H2 (g1.trans g2) hw2⟩
  ·rename_i ds i
   have eu : u = .int i:=hy
   obtain ⟨p,xs,rfl,h1,h2⟩:=RM.tuple g2.fh hx2
   obtain ⟨w,hw,hw2⟩:=HasL.atI h2 e
   exact .inr ⟨p,xs,i,w,rfl,eu,h1,hw,q w F2 H2 (g1.trans g2) hw2⟩
  ·cases e
noncomputable def tVO (K : PySem.W.Frag) (f : GS→Option (Option Int)) : TO:=fun σ H Q=>∃ ioA G H₀ S F,VI K ioA G H₀ S F σ H∧∃ o,f S = some o∧∀ F' H',Grow F H F' H'→Q o H'
noncomputable def oN : GS→Option (Option Int):=fun _=>some none
noncomputable def oI (f : VE) : GS→Option (Option Int):=fun S=>match f S with
 | some (.int i)=>some (some i)
 | _=>none
theorem poN : PO X none (tVO X.K oN):=PO.imp po_none fun _ H Q q=>by
 obtain ⟨ioA,G,H₀,S,F,I,o,e,q⟩:=q
 cases e
 exact q F H (Grow.refl I.sub)
theorem poI (h : PE X e (tV X.K RW f)) : PO X (some e) (tVO X.K (oI f)):=PO.imp (po_some h) fun _ H Q q=>by
 obtain ⟨ioA,G,H₀,S,F,I,o,e,q⟩:=q
 unfold oI at e
 split at e
 ·rename_i i q2
  cases e
  refine ⟨ioA,G,H₀,S,F,I,_,q2,fun v F' H' g hv=>⟨i,hv,q F' H' g⟩⟩
 ·cases e
noncomputable def cutD (xs : List PyData) (lo hi : Option Int) : List PyData:=(xs.drop (HT.sIx xs.length 0 lo)).take (HT.sIx xs.length xs.length hi - HT.sIx xs.length 0 lo)
theorem HasL.cut {K : PySem.W.Frag} {H : Hp} {ds : List PyData} {vs : List V} {lo hi : Option Int} (h : HasL K H ds vs) : HasL K H (cutD ds lo hi) (cutV vs lo hi):=by
 unfold cutD cutV
 rw [h.length]
 exact HasL.take _ (HasL.drop _ h)
noncomputable def vSlL (f : VE) (l u : GS→Option (Option Int)) : VE:=fun S=>match f S,l S,u S with
 | some (.list ds),some lo,some hi=>some (.list (cutD ds lo hi))
 | _,_,_=>none
noncomputable def vSlT (f : VE) (l u : GS→Option (Option Int)) : VE:=fun S=>match f S,l S,u S with
 | some (.tuple ds),some lo,some hi=>if HT.sIx ds.length 0 lo = 0∧HT.sIx ds.length ds.length hi = ds.length then none else some (.tuple (cutD ds lo hi))
 | _,_,_=>none
variable {lo hi : Option Expr} {fl fu : GS→Option (Option Int)}
theorem dSlL (he : PE X e (tV X.K RM f)) (hl : PO X lo (tVO X.K fl)) (hu : PO X hi (tVO X.K fu)) : PE X (.Subscript e (.Slice lo hi none p2) pos) (tV X.K RN (vSlL f fl fu)) :=
 (pe_slice sl_list he hl hu).imp fun _ H Q q=>by
  obtain ⟨ioA,G,H₀,S,F,I,d,e,q⟩:=q
  unfold vSlL at e
  split at e
  ·rename_i ds l u q1 q2 q3
   cases e
   refine ⟨ioA,G,H₀,S,F,I,_,q1,fun v F1 H1 g1 hx=>⟨ioA,G,H₀,S,F1,I.grow g1,l,q2,fun F2 H2 g2=>⟨ioA,G,H₀,S,F2,(I.grow g1).grow g2,u,q3,fun F3 H3 g3=>?_⟩⟩⟩
   obtain ⟨p,xs,rfl,h1,h2⟩:=RM.list g3.fh (RM.grow (g2.trans g3) hx)
   have g:=(g1.trans g2).trans g3
   refine ⟨p,xs,rfl,h1,fun z hz=>q _ F3 _ (g.trans (Grow.alloc g3.fh hz)) ⟨_,z,_,rfl,rfl,g.hh.free hz,g3.fh.free hz,upd_same,HasL.cut h2⟩⟩
  ·cases e
noncomputable def vRev (f : VE) : VE:=fun S=>match f S with
 | some (.list ds)=>some (.list ds.reverse)
 | _=>none
noncomputable def negD : PyData→Option PyData
 | .int i=>some (.int (-i))
 | _=>none
noncomputable def v1 (h : PyData→Option PyData) (f : VE) : VE:=fun S=>match f S with
 | some x=>h x
 | none=>none
theorem dNeg (ha : PE X a (tV X.K RW f)) : PE X (.UnaryOp .USub a pos) (tV X.K RS (v1 negD f)):=(pe_un uNeg ha).imp fun _ H Q q=>by
 obtain ⟨ioA,G,H₀,S,F,I,d,e,q⟩:=q
 unfold v1 at e
 split at e
 ·rename_i x q1
  unfold negD at e
  split at e
  ·rename_i i
   cases e
   refine ⟨ioA,G,H₀,S,F,I,_,q1,fun v F1 H1 g1 hx=>?_⟩
   have ev : v = .int i:=hx
   subst ev
   exact q _ F1 H1 g1 rfl
  ·cases e
 ·cases e
end
noncomputable abbrev VA:=GS→Option (List PyData)
noncomputable def tVA (K : PySem.W.Frag) (f : VA) : TA:=fun σ H Q=>∃ ioA G H₀ S F,VI K ioA G H₀ S F σ H∧∃ ds,f S = some ds∧∀ vs F' H',Grow F H F' H'→HasL K F' ds vs→Q vs H'
noncomputable def tVAW (K : PySem.W.Frag) (f : VA) : TA:=fun σ H Q=>∃ ioA G H₀ S F,VI K ioA G H₀ S F σ H∧∃ ds,f S = some ds∧∀ vs F' H',Grow F H F' H'→HasL K H' ds vs→Q vs H'
noncomputable def a0 : VA:=fun _=>some []
noncomputable def aC (f : VE) (fs : VA) : VA:=fun S=>match f S with
 | some d=>match fs S with
  | some ds=>some (d :: ds)
  | none=>none
 | none=>none
theorem aC_some {f : VE} {fs : VA} {S : GS} {ds : List PyData} (h : aC f fs S = some ds) : ∃ d r,f S = some d∧fs S = some r∧ds = d :: r:=by
 unfold aC at h
 cases q : f S with
 | none=>rw [q] at h; cases h
 | some d =>
  rw [q] at h
  cases q2 : fs S with
  | none=>rw [q2] at h; cases h
  | some r=>rw [q2] at h; cases h; exact ⟨d,r,rfl,rfl,rfl⟩
section
variable {X : Cx} {e : Expr} {es : List Expr} {f : VE} {fs : VA} {pos : Pos}
theorem pa0 : PA X [] (tVA X.K a0):=PA.imp pa_nil fun _ H Q q=>by
 obtain ⟨ioA,G,H₀,S,F,I,d,e,q⟩:=q
 cases e
 exact q [] F H (Grow.refl I.sub) rfl
theorem pw0 : PA X [] (tVAW X.K a0):=PA.imp pa_nil fun _ H Q q=>by
 obtain ⟨ioA,G,H₀,S,F,I,d,e,q⟩:=q
 cases e
 exact q [] F H (Grow.refl I.sub) rfl
theorem paC (he : PE X e (tV X.K RS f)) (hr : PA X es (tVA X.K fs)) (hs : starEach (e :: es) X.env = (false,eval e X.env) :: starEach es X.env:=by rfl) : PA X (e :: es) (tVA X.K (aC f fs)):=PA.imp (pa_cons he hr hs) fun _ H Q q=>by
 obtain ⟨ioA,G,H₀,S,F,I,ds,e,q⟩:=q
 obtain ⟨d,r,e1,e2,rfl⟩:=aC_some e
 exact ⟨ioA,G,H₀,S,F,I,d,e1,fun v F1 H1 g1 hx=>⟨ioA,G,H₀,S,F1,I.grow g1,r,e2,fun vs F2 H2 g2 hy=>q _ F2 H2 (g1.trans g2) ⟨v,vs,rfl,Has.same g2.ff hx,hy⟩⟩⟩
theorem pwC (he : PE X e (tV X.K RW f)) (hr : PA X es (tVAW X.K fs)) (hs : starEach (e :: es) X.env = (false,eval e X.env) :: starEach es X.env:=by rfl) : PA X (e :: es) (tVAW X.K (aC f fs)):=PA.imp (pa_cons he hr hs) fun _ H Q q=>by
 obtain ⟨ioA,G,H₀,S,F,I,ds,e,q⟩:=q
 obtain ⟨d,r,e1,e2,rfl⟩:=aC_some e
 exact ⟨ioA,G,H₀,S,F,I,d,e1,fun v F1 H1 g1 hx=>⟨ioA,G,H₀,S,F1,I.grow g1,r,e2,fun vs F2 H2 g2 hy=>q _ F2 H2 (g1.trans g2) ⟨v,vs,rfl,Has.same g2.hh hx,hy⟩⟩⟩
noncomputable def vTup (fs : VA) : VE:=fun S=>match fs S with
 | some ds=>if ds.length≤1000 then some (.tuple ds) else none
 | none=>none
noncomputable def vLst (fs : VA) : VE:=fun S=>match fs S with
 | some ds=>if ds.length≤1000 then some (.list ds) else none
 | none=>none
theorem vTup_some {S : GS} {d : PyData} (h : vTup fs S = some d) : ∃ ds,fs S = some ds∧ds.length≤1000∧d = .tuple ds:=by
 unfold vTup at h
 split at h
 ·split at h
  ·cases h; exact ⟨_,by assumption,by assumption,rfl⟩
  ·cases h
 ·cases h
theorem vLst_some {S : GS} {d : PyData} (h : vLst fs S = some d) : ∃ ds,fs S = some ds∧ds.length≤1000∧d = .list ds:=by
 unfold vLst at h
 split at h
 ·split at h
  ·cases h; exact ⟨_,by assumption,by assumption,rfl⟩
  ·cases h
 ·cases h
theorem dTup {x1} (h : PA X es (tVA X.K fs)) : PE X (.Tuple es x1 pos) (tV X.K RS (vTup fs)):=(pe_tup h).imp fun _ H Q q=>by
 obtain ⟨ioA,G,H₀,S,F,I,d,e,q⟩:=q
 obtain ⟨ds,e1,hl,rfl⟩:=vTup_some e
 refine ⟨ioA,G,H₀,S,F,I,ds,e1,fun vs F1 H1 g1 hx=>⟨by rw [← hx.length]; exact Nat.le_of_lt (small1000 hl),fun p hp=>?_⟩⟩
 exact q _ _ _ (g1.trans (Grow.allocF g1.fh hp)) ⟨p,vs,rfl,SqT.of upd_same,HasL.same (same_upd_new (g1.fh.free hp)) hx⟩
theorem dLst (h : PA X es (tVA X.K fs)) : PE X (.List es pos) (tV X.K RN (vLst fs)):=(pe_lst h).imp fun _ H Q q=>by
 obtain ⟨ioA,G,H₀,S,F,I,d,e,q⟩:=q
 obtain ⟨ds,e1,hl,rfl⟩:=vLst_some e
 refine ⟨ioA,G,H₀,S,F,I,ds,e1,fun vs F1 H1 g1 hx=>⟨by rw [← hx.length]; exact Nat.le_of_lt (small1000 hl),fun p hp=>?_⟩⟩
 exact q _ _ _ (g1.trans (Grow.alloc g1.fh hp)) ⟨ds,p,vs,rfl,rfl,g1.hh.free hp,g1.fh.free hp,upd_same,hx⟩
end
noncomputable def CallD (K : PySem.W.Frag) (h : List PyData→Option PyData) (r : List V→Hp→VK→Prop) : Prop:=∀ H vs ds d Q,h ds = some d→HasL K H ds vs→(∀ v,(∀ H',Has K H' d v)→Q v H)→r vs H Q
noncomputable def vCB (h : List PyData→Option PyData) (fs : VA) : VE:=fun S=>match fs S with
 | some ds=>h ds
 | none=>none
theorem dCB {X : Cx} {e : Expr} {h : List PyData→Option PyData} {r : List V→Hp→VK→Prop} {fs : VA} (he : PE X e (tCB r (tVAW X.K fs))) (hd : CallD X.K h r) : PE X e (tV X.K RS (vCB h fs)):=he.imp fun _ H Q q=>by
 obtain ⟨ioA,G,H₀,S,F,I,d,e,q⟩:=q
 unfold vCB at e
 split at e
 ·rename_i ds q1
  exact ⟨ioA,G,H₀,S,F,I,ds,q1,fun vs F1 H1 g1 hx=>hd H1 vs ds d Q e hx fun v hv=>q v F1 H1 g1 (hv F1)⟩
 ·cases e
noncomputable def lenD : List PyData→Option PyData
 | [.list ds]=>some (.int ds.length)
 | [.tuple ds]=>some (.int ds.length)
 | _=>none
noncomputable def absD : List PyData→Option PyData
 | [.int i]=>some (.int (if i < 0 then -i else i))
 | _=>none
noncomputable def intsOf : List PyData→Option (List Int)
 | []=>some []
 | .int i :: r=>match intsOf r with
  | some ns=>some (i :: ns)
  | none=>none
 | _=>none
theorem intsOf_some : ∀ {ds : List PyData} {ns : List Int},intsOf ds = some ns→ds = ns.map PyData.int
 | [],_,h=>by cases h; rfl
 | .int i :: r,ns,h=>by
  unfold intsOf at h
  cases q : intsOf r with
  | none=>rw [q] at h; cases h
  | some ms=>rw [q] at h; cases h; rw [intsOf_some q]; rfl
 | .none :: _,_,h=>by cases h
 | .bool _ :: _,_,h=>by cases h
 | .str _ :: _,_,h=>by cases h
 | .list _ :: _,_,h=>by cases h
 | .tuple _ :: _,_,h=>by cases h
 | .dict _ :: _,_,h=>by cases h
theorem intsOf_map (ns : List Int) : intsOf (ns.map PyData.int) = some ns:=by
 induction ns with
 | nil=>rfl
 | cons n ns ih=>simp only [List.map_cons,intsOf,ih]
noncomputable def sumD : List PyData→Option PyData
 | [.list ds]=>match intsOf ds with
  | some ns=>some (.int ns.sum)
  | none=>none
 | _=>none
noncomputable def min2D : List PyData→Option PyData
 | [.int i,.int j]=>some (.int (if j < i then j else i))
 | _=>none
noncomputable def max2D : List PyData→Option PyData
 | [.int i,.int j]=>some (.int (if j > i then j else i))
 | _=>none
noncomputable def int1D : List PyData→Option PyData
 | [.int i]=>some (.int i)
 | [.bool k]=>some (.int (if k then 1 else 0))
 | _=>none
section
variable {K : PySem.W.Frag}
theorem HasL.one {H : Hp} {d : PyData} {vs : List V} (h : HasL K H [d] vs) : ∃ v,vs = [v]∧Has K H d v:=by
 obtain ⟨v,r,rfl,h1,h2⟩:=h
 have h2' : r = []:=h2
 rw [h2']; exact ⟨v,rfl,h1⟩
theorem HasL.two {H : Hp} {d e : PyData} {vs : List V} (h : HasL K H [d,e] vs) : ∃ v u,vs = [v,u]∧Has K H d v∧Has K H e u:=by
 obtain ⟨v,r,rfl,h1,h2⟩:=h
 obtain ⟨u,rfl,h3⟩:=HasL.one h2
 exact ⟨v,u,rfl,h1,h3⟩
theorem hLen : CallD K lenD (rLenM K):=by
 intro H vs ds d Q e hx q
 unfold lenD at e
 split at e
 ·obtain ⟨v,rfl,a,xs,rfl,h1,h2⟩:=HasL.one hx
  cases e
  exact ⟨xs,.inl h1,by rw [← h2.length]; exact q _ fun _=>rfl⟩
 ·obtain ⟨v,rfl,a,xs,rfl,h1,h2⟩:=HasL.one hx
  cases e
  exact ⟨xs,.inr h1,by rw [← h2.length]; exact q _ fun _=>rfl⟩
 ·cases e
theorem hAbs : CallD K absD rAbsM:=by
 intro H vs ds d Q e hx q
 unfold absD at e
 split at e
 ·obtain ⟨v,rfl,h1⟩:=HasL.one hx
  have ev : v = .int _:=h1
  subst ev
  cases e
  exact q _ fun _=>rfl
 ·cases e
theorem hSum : CallD K sumD (rSumM K):=by
 intro H vs ds d Q e hx q
 unfold sumD at e
 split at e
 ·split at e
  ·rename_i ns hn
   obtain ⟨v,rfl,a,xs,rfl,h1,h2⟩:=HasL.one hx
   cases e
   rw [intsOf_some hn] at h2
   rw [HasL.ints.mp h2] at h1
   exact ⟨ns,h1,q _ fun _=>rfl⟩
  ·cases e
 ·cases e
theorem hMax2 : CallD K max2D (fun xs H Q=>∃ i j,xs = [.int i,.int j]∧Q (.int (if j > i then j else i)) H):=by
 intro H vs ds d Q e hx q
 unfold max2D at e
 split at e
 ·rename_i i j
  obtain ⟨v,u,rfl,h1,h2⟩:=HasL.two hx
  have ev : v = .int i:=h1
  have eu : u = .int j:=h2
  subst ev eu
  cases e
  exact ⟨i,j,rfl,q _ fun _=>rfl⟩
 ·cases e
end
noncomputable def tyD : PyData→String
 | .none=>"NoneType"
 | .bool _=>"bool"
 | .int _=>"int"
 | .str _=>"str"
 | .list _=>"list"
 | .tuple _=>"tuple"
 | .dict _=>"dict"
noncomputable def isiD (T : String) (d : PyData) : Option PyData:=match d with
 | .dict _=>none
 | _=>some (.bool (tyD d == T || (tyD d == "bool" && T == "int")))
noncomputable def rIsi (K : PySem.W.Frag) (T : String) : List V→Hp→VK→Prop:=fun xs H Q=>∃ x d b,xs = [x,.ty T]∧Has K H d x∧PySem.W.kitOne K (.type (tyD d)) (.type T) = some b∧Q (.bl b) H
theorem cIsi {X : Cx} {T : String} : CallR X (.builtin "isinstance") (rIsi X.K T):=by
 intro pins s σ H xs us Q I r h
 obtain ⟨x,d,b,rfl,hd,e,q⟩:=h
 cases r with
 | cons rx rr =>
  cases rr with
  | cons r2 rr =>
   cases rr
   rename_i u u2
   cases (show u2 = Value.type T from r2)
   have fin : ∀ tk,EP X pins σ Q (.bool b) { s with toks:=tk }:=fun tk=>⟨.bl b,H,I.kept (t':=tk) fun _ _ h=>h,rfl,q⟩
   cases d with
   | none=>cases (show x = .non from hd); cases (show u = Value.none from rx); exact PySem.W.kia_one PySem.W.kitx_none I.kIn True.intro e (fun z=>nomatch z) fin
   | bool y=>cases (show x = .bl y from hd); cases (show u = Value.bool y from rx); exact PySem.W.kia_one PySem.W.kitx_bool I.kIn True.intro e (fun z=>nomatch z) fin
   | int i=>cases (show x = .int i from hd); obtain ⟨t,q⟩:=(show ∃ t,u = Value.int i t from rx); cases q; exact PySem.W.kia_one PySem.W.kitx_int I.kIn True.intro e (fun z=>nomatch z) fin
   | str y=>cases (show x = .str y from hd.1); obtain ⟨t,q⟩:=(show ∃ t,u = Value.str y t from rx); cases q; exact PySem.W.kia_one PySem.W.kitx_str I.kIn True.intro e (fun z=>nomatch z) fin
   | list ds =>
    obtain ⟨a,ys,rfl,h1,_⟩:=hd
    cases (show u = Value.ref a from rx)
    obtain ⟨its,rv,⟨o,n,e1,c,_,_⟩,hz⟩:=I.list h1
    exact PySem.W.kia_one PySem.W.kitx_list I.kIn ⟨o,e1,c⟩ e (fun z=>nomatch z) fin
   | tuple ds =>
    obtain ⟨a,ys,rfl,h1,_⟩:=hd
    cases (show u = Value.ref a from rx)
    obtain ⟨its,rv,⟨o,e1,c,_⟩,hz⟩:=I.tuple h1
    exact PySem.W.kia_one PySem.W.kitx_tuple I.kIn ⟨o,e1,c⟩ e (fun z=>nomatch z) fin
   | dict k=>exact hd.elim
structure KitT (K : PySem.W.Frag) (T : String) : Prop where
 ok : ∀ d d',isiD T d = some (.bool d')→PySem.W.kitOne K (.type (tyD d)) (.type T) = some d'
noncomputable def vIsi (T : String) (f : VE) : VE:=v1 (isiD T) f
theorem isiD_bool {T : String} {d x : PyData} (h : isiD T d = some x) : ∃ b,x = .bool b:=by
 cases d <;> first | (simp [isiD] at h; done) | (simp only [isiD,Option.some.injEq] at h; exact ⟨_,h.symm⟩)
theorem dIsi {X : Cx} {e : Expr} {T : String} {f : VE} (kt : KitT X.K T) (he : PE X e (tCB (rIsi X.K T) (tCons (tV X.K RW f) (tCons (tC (.ty T)) tNil)))) : PE X e (tV X.K RS (vIsi T f)):=he.imp fun _ H Q q=>by
 obtain ⟨ioA,G,H₀,S,F,I,d,e,q⟩:=q
 unfold vIsi v1 at e
 split at e
 ·rename_i x q1
  obtain ⟨b,rfl⟩:=isiD_bool e
  exact ⟨ioA,G,H₀,S,F,I,x,q1,fun v F1 H1 g1 hx=>⟨v,x,b,rfl,hx,kt.ok x b e,q _ F1 H1 g1 rfl⟩⟩
 ·cases e
noncomputable def vListOf (f : VE) : VE:=fun S=>match f S with
 | some (.list ds)=>some (.list ds)
 | some (.tuple ds)=>some (.list ds)
 | _=>none
theorem dListOf {X : Cx} {e : Expr} {f : VE} (he : PE X e (tCB (rListM X.K) (tCons (tV X.K RM f) tNil))) : PE X e (tV X.K RN (vListOf f)):=he.imp fun _ H Q q=>by
 obtain ⟨ioA,G,H₀,S,F,I,d,e,q⟩:=q
 unfold vListOf at e
 split at e
 ·rename_i ds q1
  cases e
  refine ⟨ioA,G,H₀,S,F,I,_,q1,fun v F1 H1 g1 hx=>?_⟩
  obtain ⟨p,xs,rfl,h1,h2⟩:=RM.list g1.fh hx
  exact ⟨xs,.inl h1,fun z hz=>q _ F1 _ (g1.trans (Grow.alloc g1.fh hz)) ⟨_,z,_,rfl,rfl,g1.hh.free hz,g1.fh.free hz,upd_same,h2⟩⟩
 ·rename_i ds q1
  cases e
  refine ⟨ioA,G,H₀,S,F,I,_,q1,fun v F1 H1 g1 hx=>?_⟩
  obtain ⟨p,xs,rfl,h1,h2⟩:=RM.tuple g1.fh hx
  exact ⟨xs,.inr h1,fun z hz=>q _ F1 _ (g1.trans (Grow.alloc g1.fh hz)) ⟨_,z,_,rfl,rfl,g1.hh.free hz,g1.fh.free hz,upd_same,h2⟩⟩
 ·cases e
end VM
namespace VM
open PySem L2
noncomputable abbrev FnM:=List PyData→Option (Bool × PyData)
noncomputable def RB : Bool→Rel
 | true=>RN
 | false=>RS
noncomputable def spV (K : PySem.W.Frag) (m : FnM) : Sp:=fun vs H Q _=>∃ G ds,Same G H∧HasL K G ds vs∧∃ b d,m ds = some (b,d)∧∀ v F' H',Grow G H F' H'→RB b K G H F' H' d v→Q v H'
noncomputable def vCall (m : FnM) (fs : VA) : VE:=fun S=>match fs S with
 | some ds=>match m ds with
  | some (_,d)=>some d
  | none=>none
 | none=>none
noncomputable def vCallN (m : FnM) (fs : VA) : VE:=fun S=>match fs S with
 | some ds=>match m ds with
  | some (true,d)=>some d
  | _=>none
 | none=>none
noncomputable def immR : Bool→PyData→Bool
 | true,.list ds=>immL ds
 | true,_=>false
 | false,d=>imm d
noncomputable def vCallW (m : FnM) (fs : VA) : VE:=fun S=>match fs S with
 | some ds=>match m ds with
  | some (b,d)=>if immR b d = true then some d else none
  | none=>none
 | none=>none
noncomputable def vCallWN (m : FnM) (fs : VA) : VE:=fun S=>match fs S with
 | some ds=>match m ds with
  | some (true,.list es)=>if immL es = true then some (.list es) else none
  | _=>none
 | none=>none
section
variable {X : Cx} {e : Expr} {m : FnM} {fs : VA}
theorem dCal (he : PE X e (tCall (spV X.K m) [] E0 (tVA X.K fs))) : PE X e (tV X.K RS (vCall m fs)):=he.imp fun _ H Q q=>by
 obtain ⟨ioA,G,H₀,S,F,I,d,e,q⟩:=q
 unfold vCall at e
 split at e
 ·rename_i ds q1
  split at e
  ·rename_i b d' q2
   cases e
   refine ⟨ioA,G,H₀,S,F,I,ds,q1,fun vs F1 H1 g1 hx=>?_⟩
   show spV X.K m (vs ++ []) H1 Q E0
   rw [List.append_nil]
   refine ⟨F1,ds,g1.fh,hx,b,_,q2,fun v F' H' g hv=>?_⟩
   cases b with
   | false=>exact q v F' H' (g1.trans g) hv
   | true =>
    obtain ⟨F'',g2,r2⟩:=RN.frz g hv
    exact q v F'' H' (g1.trans g2) r2
  ·cases e
 ·cases e
theorem dCalN (he : PE X e (tCall (spV X.K m) [] E0 (tVA X.K fs))) : PE X e (tV X.K RN (vCallN m fs)):=he.imp fun _ H Q q=>by
 obtain ⟨ioA,G,H₀,S,F,I,d,e,q⟩:=q
 unfold vCallN at e
 split at e
 ·rename_i ds q1
  split at e
  ·rename_i d' q2
   cases e
   refine ⟨ioA,G,H₀,S,F,I,ds,q1,fun vs F1 H1 g1 hx=>?_⟩
   show spV X.K m (vs ++ []) H1 Q E0
   rw [List.append_nil]
   refine ⟨F1,ds,g1.fh,hx,true,_,q2,fun v F' H' g hv=>?_⟩
   obtain ⟨es,a,xs,h1,h2,h3,h4,h5,h6⟩:=hv
   exact q v F' H' (g1.trans g) ⟨es,a,xs,h1,h2,g1.hh.free h3,h4,h5,h6⟩
  ·cases e
 ·cases e
theorem dCalW (he : PE X e (tCall (spV X.K m) [] E0 (tVAW X.K fs))) : PE X e (tV X.K RS (vCallW m fs)):=he.imp fun _ H Q q=>by
 obtain ⟨ioA,G,H₀,S,F,I,d,e,q⟩:=q
 unfold vCallW at e
 split at e
 ·rename_i ds q1
  split at e
  ·rename_i b d' q2
   split at e
   ·rename_i hi
    cases e
    refine ⟨ioA,G,H₀,S,F,I,ds,q1,fun vs F1 H1 g1 hx=>?_⟩
    show spV X.K m (vs ++ []) H1 Q E0
    rw [List.append_nil]
    refine ⟨H1,ds,Same.refl _,hx,b,_,q2,fun v F' H' g hv=>?_⟩
    have gw : Grow F1 H1 (wide F1 H') H':=wide_grow ⟨g.hh,Same.refl _,g1.fh.trans g.hh,fun _ _ e=>.inl e,fun _ _ _ e=>e⟩
    cases b with
    | false=>exact q v _ H' (g1.trans gw) (imm_wide hi (Has.same g.fh hv))
    | true =>
     obtain ⟨es,a,xs,rfl,h2,h3,h4,h5,h6⟩:=hv
     have hF1 : F1 a = none:=g1.fh.free h3
     obtain ⟨F'',g2,r2⟩:=RN.frz (K:=X.K) (d:=.list es) gw ⟨es,a,xs,rfl,h2,h3,wide_none h5 hF1,h5,immL_wide hi (h6.same g.fh)⟩
     exact q v F'' H' (g1.trans g2) r2
   ·cases e
  ·cases e
 ·cases e
end
structure ItOk (K : PySem.W.Frag) (F : Hp) (J : It) (ds : List PyData) : Prop where
 go : ∀ (i : Nat) d F' H',ds[i]? = some d→Same F F'→Same F' H'→J.go i H'∧∀ x H'',J.yld i H' x H''→∃ F'',Grow F' H' F'' H''∧Has K F'' d x
 stop : ∀ (i : Nat) F' H',ds.length≤i→Same F F'→Same F' H'→J.stop i H'
noncomputable def tVI (K : PySem.W.Frag) (f : VA) : TI:=fun σ H R=>∃ ioA G H₀ S F,VI K ioA G H₀ S F σ H∧∃ ds,f S = some ds∧∀ J F' H',Grow F H F' H'→ItOk K F' J ds→R J H'
noncomputable def vItems (f : VE) : VA:=fun S=>match f S with
 | some (.list ds)=>some ds
 | _=>none
noncomputable def vItemsT (f : VE) : VA:=fun S=>match f S with
 | some (.tuple ds)=>some ds
 | _=>none
noncomputable def rangeD (lo : Int) (n : Nat) : List PyData:=(List.range n).map fun (i : Nat)=>PyData.int (lo + i)
noncomputable def vRng1 (fs : VA) : VA:=fun S=>match fs S with
 | some [.int j]=>@ite _ (-(2 ^ 62)≤j∧j < 2 ^ 62) (Classical.propDecidable _) (some (rangeD 0 j.toNat)) none
 | _=>none
noncomputable def vRng2 (fs : VA) : VA:=fun S=>match fs S with
 | some [.int i,.int j]=>@ite _ ((-(2 ^ 62)≤i∧i < 2 ^ 62)∧-(2 ^ 62)≤j∧j < 2 ^ 62) (Classical.propDecidable _) (some (rangeD i (j - i).toNat)) none
 | _=>none
noncomputable def enumD : Nat→List PyData→List PyData
 | _,[]=>[]
 | i,d :: r=>.tuple [.int i,d] :: enumD (i + 1) r
theorem enumD_get : ∀ (k : Nat) (ds : List PyData) (i : Nat),(enumD k ds)[i]? = ds[i]?.map fun d=>.tuple [.int ((k + i : Nat) : Int),d]
 | _,[],_=>by simp [enumD]
 | k,d :: r,0=>by simp [enumD]
 | k,d :: r,i + 1=>by
  simp only [enumD,List.getElem?_cons_succ]
  rw [enumD_get (k + 1) r i]
  have e : k + 1 + i = k + (i + 1):=by omega
  rw [e]
theorem enumD_length (k : Nat) (ds : List PyData) : (enumD k ds).length = ds.length:=by
 induction ds generalizing k with
 | nil=>rfl
 | cons d r ih=>simp [enumD,ih]
noncomputable def zipD (ds es : List PyData) : List PyData:=List.zipWith (fun a b=>PyData.tuple [a,b]) ds es
noncomputable def vEnum (fs : VA) : VA:=fun S=>match fs S with
 | some [.list ds]=>some (enumD 0 ds)
 | _=>none
noncomputable def vZip (fs : VA) : VA:=fun S=>match fs S with
 | some [.list ds,.list es]=>some (zipD ds es)
 | _=>none
section
variable {X : Cx} {tg l : Expr} {f : VE} {fs : VA} {p pos tpos : Pos} {elts : List Expr} {k : Nat}
theorem itok_list {K : PySem.W.Frag} {F : Hp} {a : Addr} {xs : List V} {ds : List PyData} (h1 : SqL K F a xs) (h2 : HasL K F ds xs) : ItOk K F (Itl K a) ds where
 go:=fun i d F' H' e f1 f2=>by
  obtain ⟨v,ev,hv⟩:=h2.at e
  have hq:=(f1.trans f2).seq h1
  refine ⟨⟨xs,v,hq,ev⟩,fun x H'' y=>?_⟩
  obtain ⟨e1,y⟩:=y
  subst e1
  have:=y xs hq
  rw [ev] at this
  cases this
  exact ⟨F',Grow.refl f2,Has.same f1 hv⟩
 stop:=fun i F' H' e f1 f2=>⟨xs,(f1.trans f2).seq h1,by rw [← h2.length]; exact e⟩
theorem itok_rng {K : PySem.W.Frag} {F : Hp} {lo : Int} {n : Nat} : ItOk K F (Itr lo n) (rangeD lo n) where
 go:=fun i d F' H' e f1 f2=>by
  unfold rangeD at e
  rw [List.getElem?_map] at e
  by_cases hi : i < n
  ·rw [List.getElem?_range hi] at e
   cases e
   refine ⟨hi,fun x H'' y=>?_⟩
   obtain ⟨e1,e2⟩:=y
   subst e1 e2
   exact ⟨F',Grow.refl f2,rfl⟩
  ·rw [List.getElem?_eq_none (by simp; omega)] at e
   cases e
 stop:=fun i F' H' e f1 f2=>by
  unfold rangeD at e
  show n≤i
  simpa using e
theorem itok_enum {K : PySem.W.Frag} {F : Hp} {a : Addr} {xs : List V} {ds : List PyData} (h1 : SqL K F a xs) (h2 : HasL K F ds xs) : ItOk K F (Ite K a) (enumD 0 ds) where
 go:=fun i d F' H' e f1 f2=>by
  rw [enumD_get] at e
  cases q : ds[i]? with
  | none=>rw [q] at e; cases e
  | some d0 =>
   rw [q] at e
   cases e
   obtain ⟨v,ev,hv⟩:=h2.at q
   have hq:=(f1.trans f2).seq h1
   refine ⟨⟨xs,v,hq,ev⟩,fun x H'' y=>?_⟩
   obtain ⟨pp,z,hn,e1,hz,e2⟩:=y
   subst e1 e2
   have:=hz xs hq
   rw [ev] at this
   cases this
   have gr : Grow F' H' (upd F' pp (.tup [.int (i : Int),v])) (upd H' pp (.tup [.int (i : Int),v])):=Grow.allocF f2 hn
   refine ⟨_,gr,pp,_,rfl,SqT.of upd_same,_,_,rfl,?_,_,_,rfl,Has.same (f1.trans gr.ff) hv,rfl⟩
   show V.int (i : Int) = V.int ((0 + i : Nat) : Int)
   rw [Nat.zero_add]
 stop:=fun i F' H' e f1 f2=>⟨xs,(f1.trans f2).seq h1,by rw [← h2.length]; rw [enumD_length] at e; exact e⟩
theorem itok_zip {K : PySem.W.Frag} {F : Hp} {a b : Addr} {xs ys : List V} {ds es : List PyData} (h1 : SqL K F a xs) (h2 : HasL K F ds xs) (h3 : SqL K F b ys) (h4 : HasL K F es ys) : ItOk K F (Itz K a b) (zipD ds es) where
 go:=fun i d F' H' e f1 f2=>by
  unfold zipD at e
  rw [List.getElem?_zipWith] at e
  cases q : ds[i]? with
  | none=>rw [q] at e; cases e
  | some d0 =>
   cases q2 : es[i]? with
   | none=>rw [q,q2] at e; cases e
   | some e0 =>
    rw [q,q2] at e
    cases e
    obtain ⟨v,ev,hv⟩:=h2.at q
    obtain ⟨u,eu,hu⟩:=h4.at q2
    have hq:=(f1.trans f2).seq h1
    have hq2:=(f1.trans f2).seq h3
    refine ⟨⟨xs,v,ys,u,hq,ev,hq2,eu⟩,fun x H'' y=>?_⟩
    obtain ⟨pp,z,w,hn,e1,hz,hw,e2⟩:=y
    subst e1 e2
    have t1:=hz xs hq
    have t2:=hw ys hq2
    rw [ev] at t1
    rw [eu] at t2
    cases t1
    cases t2
    have gr : Grow F' H' (upd F' pp (.tup [v,u])) (upd H' pp (.tup [v,u])):=Grow.allocF f2 hn
    exact ⟨_,gr,pp,_,rfl,SqT.of upd_same,_,_,rfl,Has.same (f1.trans gr.ff) hv,_,_,rfl,Has.same (f1.trans gr.ff) hu,rfl⟩
 stop:=fun i F' H' e f1 f2=>by
  unfold zipD at e
  rw [List.length_zipWith] at e
  exact ⟨xs,ys,(f1.trans f2).seq h1,(f1.trans f2).seq h3,by rw [← h2.length,← h4.length]; omega⟩
theorem itL (hl : PE X l (tV X.K RS f)) : PI X tg l (tVI X.K (vItems f)):=PI.imp (pi_list hl) fun _ H Q q=>by
 obtain ⟨ioA,G,H₀,S,F,I,ds,e,q⟩:=q
 unfold vItems at e
 split at e
 ·rename_i q1
  cases e
  refine ⟨ioA,G,H₀,S,F,I,_,q1,fun v F' H' g hv=>?_⟩
  obtain ⟨a,xs,rfl,h1,h2⟩:=hv
  exact ⟨a,rfl,⟨xs,g.fh.seq h1⟩,q _ F' H' g (itok_list h1 h2)⟩
 ·cases e
theorem itR1 (h : PI X tg l (iRng1 (tVAW X.K fs))) : PI X tg l (tVI X.K (vRng1 fs)):=PI.imp h fun _ H Q q=>by
 obtain ⟨ioA,G,H₀,S,F,I,ds,e,q⟩:=q
 unfold vRng1 at e
 split at e
 ·rename_i j q1
  split at e
  ·rename_i hj
   cases e
   refine ⟨ioA,G,H₀,S,F,I,_,q1,fun vs F' H' g hv=>?_⟩
   obtain ⟨v,rfl,hv'⟩:=HasL.one hv
   have ev : v = .int j:=hv'
   exact ⟨j,by rw [ev],hj.1,hj.2,q _ F' H' g itok_rng⟩
  ·cases e
 ·cases e
theorem itE (h : PI X tg l (iEnum X.K (tVA X.K fs))) : PI X tg l (tVI X.K (vEnum fs)):=PI.imp h fun _ H Q q=>by
 obtain ⟨ioA,G,H₀,S,F,I,ds,e,q⟩:=q
 unfold vEnum at e
 split at e
 ·rename_i es q1
  cases e
  refine ⟨ioA,G,H₀,S,F,I,_,q1,fun vs F' H' g hv=>?_⟩
  obtain ⟨v,rfl,a,xs,rfl,h1,h2⟩:=HasL.one hv
  exact ⟨a,rfl,⟨xs,g.fh.seq h1⟩,q _ F' H' g (itok_enum h1 h2)⟩
 ·cases e
theorem itZ (h : PI X tg l (iZip X.K (tVA X.K fs))) : PI X tg l (tVI X.K (vZip fs)):=PI.imp h fun _ H Q q=>by
 obtain ⟨ioA,G,H₀,S,F,I,ds,e,q⟩:=q
 unfold vZip at e
 split at e
 ·rename_i es es2 q1
  cases e
  refine ⟨ioA,G,H₀,S,F,I,_,q1,fun vs F' H' g hv=>?_⟩
  obtain ⟨v,u,rfl,⟨a,xs,rfl,h1,h2⟩,b,ys,rfl,h3,h4⟩:=HasL.two hv
  exact ⟨a,b,rfl,⟨xs,g.fh.seq h1⟩,⟨ys,g.fh.seq h3⟩,q _ F' H' g (itok_zip h1 h2 h3 h4)⟩
 ·cases e
end
section
variable {K : PySem.W.Frag} {ioA : Nat→Option Addr} {G H₀ F H : Hp} {S : GS} {σ : St}
theorem VI.set (I : VI K ioA G H₀ S F σ H) {i : Nat} {d : PyData} {v : V} (hd : Has K F d v) : VI K ioA G H₀ (S.set i (some (.fr,d))) F (σ.set i (some v)) H where
 pl:=I.pl
 len:=by rw [List.length_set,List.length_set]; exact I.len
 same:=I.same
 gf:=I.gf
 new:=I.new
 sub:=I.sub
 slot:=fun j t d' e=>by
  by_cases hj : j = i
  ·subst hj
   by_cases hl : j < S.length
   ·rw [List.getElem?_set_self hl] at e
    cases e
    exact ⟨v,List.getElem?_set_self (by rw [← I.len]; exact hl),hd⟩
   ·rw [List.getElem?_eq_none (by rw [List.length_set]; omega)] at e
    cases e
  ·rw [List.getElem?_set_ne (Ne.symm hj)] at e ⊢
   exact I.slot j t d' e
 inj:=fun j k t t' d1 d2 u e1 e2 n1 n2 v1 v2=>by
  have h1 : j ≠ i:=fun z=>by
   subst z
   by_cases hl : j < S.length
   ·rw [List.getElem?_set_self hl] at e1; cases e1; exact (Bool.false_ne_true n1)
   ·rw [List.getElem?_eq_none (by rw [List.length_set]; omega)] at e1; cases e1
  have h2 : k ≠ i:=fun z=>by
   subst z
   by_cases hl : k < S.length
   ·rw [List.getElem?_set_self hl] at e2; cases e2; exact (Bool.false_ne_true n2)
   ·rw [List.getElem?_eq_none (by rw [List.length_set]; omega)] at e2; cases e2
  rw [List.getElem?_set_ne (Ne.symm h1)] at e1 v1
  rw [List.getElem?_set_ne (Ne.symm h2)] at e2 v2
  exact I.inj j k t t' d1 d2 u e1 e2 n1 n2 v1 v2
end
noncomputable abbrev VG:=PyData→GS→Option GS
noncomputable abbrev VGs:=List PyData→GS→Option GS
noncomputable def noIo (S : GS) (i : Nat) : Bool:=match S[i]? with
 | some (some (.io,_))=>false
 | _=>true
noncomputable def gN (i : Nat) : VG:=fun d S=>if noIo S i = true then some (S.set i (some (.fr,d))) else none
noncomputable def g0 : VGs:=fun ds S=>match ds with
 | []=>some S
 | _=>none
noncomputable def gC (t : VG) (u : VGs) : VGs:=fun ds S=>match ds with
 | d :: r=>match t d S with
  | some S1=>u r S1
  | none=>none
 | []=>none
noncomputable def gT (n : Nat) (u : VGs) : VG:=fun d S=>match d with
 | .tuple ds=>if ds.length = n then u ds S else none
 | _=>none
noncomputable def tVG (K : PySem.W.Frag) (t : VG) (js : List Nat) : TG:=fun v σ H Q=>∃ ioA G H₀ S F,VI K ioA G H₀ S F σ H∧∃ d S',Has K F d v∧t d S = some S'∧∀ σ',(∀ (j : Nat),j ∉ js→σ'[j]? = σ[j]?)→VI K ioA G H₀ S' F σ' H→Q σ' H
noncomputable def tVGs (K : PySem.W.Frag) (t : VGs) (js : List Nat) : TGs:=fun vs σ H Q=>∃ ioA G H₀ S F,VI K ioA G H₀ S F σ H∧∃ ds S',HasL K F ds vs∧t ds S = some S'∧∀ σ',(∀ (j : Nat),j ∉ js→σ'[j]? = σ[j]?)→VI K ioA G H₀ S' F σ' H→Q σ' H
section
variable {X : Cx} {e : Expr} {es : List Expr} {t : VG} {u : VGs} {js ks : List Nat} {pos : Pos}
theorem tgN {i : Nat} (h : PG X e (gName i)) : PG X e (tVG X.K (gN i) [i]):=PG.imp h fun v σ H Q q=>by
 obtain ⟨ioA,G,H₀,S,F,I,d,S',hd,e,q⟩:=q
 unfold gN at e
 split at e
 ·cases e
  exact q _ (fun j hj=>List.getElem?_set_ne (fun z=>hj (by simp [z]))) (I.set hd)
 ·cases e
theorem PGs.imp {t t' : TGs} (h : PGs X es t) (ht : ∀ v σ H Q,t' v σ H Q→t v σ H Q) : PGs X es t':=fun pins s σ H v u Q I r q=>h pins s σ H v u Q I r (ht v σ H Q q)
theorem tg0 : PGs X [] (tVGs X.K g0 []):=PGs.imp pgsNil fun vs σ H Q q=>by
 obtain ⟨ioA,G,H₀,S,F,I,ds,S',hd,e,q⟩:=q
 unfold g0 at e
 split at e
 ·cases e
  have hd' : vs = []:=hd
  rw [hd']
  exact q σ (fun _ _=>rfl) I
 ·cases e
theorem tgC (h1 : PG X e (tVG X.K t js)) (h2 : PGs X es (tVGs X.K u ks)) (hs : (assignEach (e :: es) X.env).map (·.2) = assign e X.env :: (assignEach es X.env).map (·.2):=by rfl) : PGs X (e :: es) (tVGs X.K (gC t u) (js ++ ks)):=PGs.imp (pgsCons h1 h2 hs) fun vs σ H Q q=>by
 obtain ⟨ioA,G,H₀,S,F,I,ds,S',hd,e,q⟩:=q
 unfold gC at e
 split at e
 ·rename_i d r
  split at e
  ·rename_i S1 q1
   obtain ⟨v,rr,rfl,hv,hr⟩:=hd
   refine ⟨ioA,G,H₀,S,F,I,d,S1,hv,q1,fun σ1 k1 I1=>⟨ioA,G,H₀,S1,F,I1,r,S',hr,e,fun σ2 k2 I2=>q σ2 (fun j hj=>?_) I2⟩⟩
   rw [k2 j (fun z=>hj (List.mem_append_right _ z)),k1 j (fun z=>hj (List.mem_append_left _ z))]
  ·cases e
 ·cases e
theorem tgT {k n : Nat} (hc : X.calm = true) (h : PGs X es (tVGs X.K u js)) (hn : (assignEach es X.env).length = n:=by rfl) (hst : (assignEach es X.env).findIdx? (·.1) = none:=by rfl) : PG X (.Tuple es k pos) (tVG X.K (gT n u) js):=PG.imp (pgTup hc h hn hst) fun v σ H Q q=>by
 obtain ⟨ioA,G,H₀,S,F,I,d,S',hd,e,q⟩:=q
 unfold gT at e
 split at e
 ·rename_i ds
  split at e
  ·rename_i hl
   obtain ⟨a,xs,rfl,h1,h2⟩:=hd
   exact ⟨xs,I.sub.seqT h1,by rw [← h2.length]; exact hl,ioA,G,H₀,S,F,I,ds,S',h2,e,q⟩
  ·cases e
 ·cases e
end
noncomputable def capOne (S : GS) : Option Nat→Option (Tg × PyData)
 | none=>none
 | some j=>match S[j]? with
  | some (some (.fr,d))=>some (.fr,d)
  | some (some (.ow,d))=>some (.fr,d)
  | some (some (.io,d))=>some (.fr,d)
  | _=>none
noncomputable def capFr (S : GS) : List (Option Nat)→Bool
 | []=>true
 | none :: r=>capFr S r
 | some j :: r=>(match S[j]? with
  | some (some (.fr,_))=>true
  | some (some _)=>false
  | _=>true) && capFr S r
noncomputable def capG (cap : List (Option Nat)) (S : GS) : GS:=cap.map (capOne S)
noncomputable def lcD (t : VG) (fc : VT) (fe : VE) (S : GS) : List PyData→Option (List PyData)
 | []=>some []
 | d :: r=>match t d S with
  | none=>none
  | some S2=>match fc S2 with
   | none=>none
   | some false=>lcD t fc fe S r
   | some true=>match fe S2 with
    | none=>none
    | some e=>match lcD t fc fe S r with
     | none=>none
     | some es=>some (e :: es)
noncomputable def vLC (fi : VA) (cap : List (Option Nat)) (t : VG) (fc : VT) (fe : VE) : VE:=fun S=>match fi S with
 | some ds=>@ite _ (capFr S cap = true∧ds.length < sizeLine) (Classical.propDecidable _) (match lcD t fc fe (capG cap S) ds with
  | some es=>some (.list es)
  | none=>none) none
 | none=>none
noncomputable def vLCW (fi : VA) (cap : List (Option Nat)) (t : VG) (fc : VT) (fe : VE) : VE:=fun S=>match fi S with
 | some ds=>@ite _ (ds.length < sizeLine) (Classical.propDecidable _) (match lcD t fc (vImm fe) (capG cap S) ds with
  | some es=>some (.list es)
  | none=>none) none
 | none=>none
theorem capG_get {cap : List (Option Nat)} {S : GS} {i : Nat} {t : Tg} {d : PyData} (h : (capG cap S)[i]? = some (some (t,d))) : ∃ j t',cap[i]? = some (some j)∧S[j]? = some (some (t',d))∧t'.dat = true∧t = .fr:=by
 unfold capG at h
 rw [List.getElem?_map] at h
 cases q : cap[i]? with
 | none=>rw [q] at h; cases h
 | some o =>
  rw [q] at h
  cases o with
  | none=>simp [capOne] at h
  | some j =>
   simp only [Option.map_some,capOne,Option.some.injEq] at h
   split at h
   ·rename_i d' hS
    cases h
    exact ⟨j,.fr,rfl,hS,rfl,rfl⟩
   ·rename_i d' hS
    cases h
    exact ⟨j,.ow,rfl,hS,rfl,rfl⟩
   ·rename_i d' hS
    cases h
    exact ⟨j,.io,rfl,hS,rfl,rfl⟩
   ·cases h
theorem capFr_get {S : GS} : ∀ {cap : List (Option Nat)} {i j : Nat} {t : Tg} {d : PyData},capFr S cap = true→cap[i]? = some (some j)→S[j]? = some (some (t,d))→t = .fr
 | [],i,j,t,d,_,h,_=>by simp at h
 | none :: r,0,j,t,d,_,h,_=>by simp at h
 | none :: r,i + 1,j,t,d,hc,h,hs=>capFr_get (cap:=r) (i:=i) hc (by simpa using h) hs
 | some k :: r,0,j,t,d,hc,h,hs=>by
  have e : k = j:=by simpa using h
  subst e
  unfold capFr at hc
  rw [hs] at hc
  cases t <;> simp at hc ⊢
 | some k :: r,i + 1,j,t,d,hc,h,hs=>by
  unfold capFr at hc
  rw [Bool.and_eq_true] at hc
  exact capFr_get (cap:=r) (i:=i) hc.2 (by simpa using h) hs
theorem capSt_get {cap : List (Option Nat)} {σ : St} {i j : Nat} {v : V} (h : cap[i]? = some (some j)) (hs : σ[j]? = some (some v)) : (capSt cap σ)[i]? = some (some v):=by
 unfold capSt
 rw [List.getElem?_map,h]
 simp only [Option.map_some,hs]
section
variable {K : PySem.W.Frag} {ioA : Nat→Option Addr} {G H₀ F H : Hp} {S : GS} {σ : St} {cap : List (Option Nat)}
theorem VI.block (I : VI K ioA G H₀ S F σ H) {R : Hp} (hR : Same R H) (hv : ∀ (i j : Nat) t d v,cap[i]? = some (some j)→S[j]? = some (some (t,d))→σ[j]? = some (some v)→t.dat = true→SlotOk K ioA H₀ F H j t d v→Has K R d v) :
  VI K (fun _=>none) R H (capG cap S) R (capSt cap σ) H where
 pl:=fun _ _ _ e=>e
 len:=by unfold capG capSt; rw [List.length_map,List.length_map]
 same:=Same.refl _
 gf:=Same.refl _
 new:=fun _ _ e=>.inl e
 sub:=hR
 slot:=fun i t d e=>by
  obtain ⟨j,t',h1,h2,h3,rfl⟩:=capG_get e
  obtain ⟨v,hv1,hs⟩:=I.slot j t' d h2
  exact ⟨v,capSt_get h1 hv1,hv i j t' d v h1 h2 hv1 h3 hs⟩
 inj:=fun i j t t' d d' v e1 _ n1=>by
  obtain ⟨_,_,_,_,_,rfl⟩:=capG_get e1
  exact absurd n1 Bool.false_ne_true
theorem VI.block_fr (I : VI K ioA G H₀ S F σ H) (hc : capFr S cap = true) : VI K (fun _=>none) F H (capG cap S) F (capSt cap σ) H :=
 I.block I.sub fun i j t d v h1 h2 _ _ hs=>by
  have:=capFr_get hc h1 h2
  subst this
  exact hs
theorem VI.block_any (I : VI K ioA G H₀ S F σ H) : VI K (fun _=>none) H H (capG cap S) H (capSt cap σ) H :=
 I.block (Same.refl _) fun i j t d v h1 h2 _ hd hs=>by
  have own : OwnAt K H₀ F H d v→Has K H d v:=fun ⟨a,ds,xs,e1,e2,e3,_,_,e6⟩=>by
   rw [e1]; exact ⟨a,xs,e2,SqL.of e3,e6.same I.sub⟩
  cases t with
  | fr=>exact Has.same I.sub hs
  | ow=>exact own hs
  | io=>exact own hs.1
  | rf=>cases hd
  | ce=>cases hd
end
theorem capK_of {cap : List (Option Nat)} {σ σ' : St} {js : List Nat} (hjs : (js.all fun j=>cap[j]? == some none) = true) (k : ∀ (j : Nat),j ∉ js→σ'[j]? = (capSt cap σ)[j]?) : CapK (capSt cap σ) σ':=fun j v e=>by
 by_cases hj : j∈js
 ·have:=List.all_eq_true.mp hjs j hj
  have hc : cap[j]? = some none:=by simpa using this
  unfold capSt at e
  rw [List.getElem?_map,hc] at e
  simp at e
 ·rw [k j hj]; exact e
theorem rdLC' {K : PySem.W.Frag} {fi : VA} {cap : List (Option Nat)} {t : VG} {js : List Nat} {fc : VT} {fe fe' : VE} (hjs : (js.all fun j=>cap[j]? == some none) = true) {σ : St} {H : Hp} {Q : VK} {ioA : Nat→Option Addr} {G H₀ F : Hp} {S : GS} {ds es : List PyData}
  (I : VI K ioA G H₀ S F σ H) (e1 : fi S = some ds) (hlen : ds.length < sizeLine) (e2 : lcD t fc fe (capG cap S) ds = some es)
  (Rf : Hp→Hp→Hp) (hb : ∀ F' H',Grow F H F' H'→VI K (fun _=>none) (Rf F' H') H' (capG cap S) (Rf F' H') (capSt cap σ) H'∧Same F' (Rf F' H'))
  (hr : ∀ (F' H' F2 H2 : Hp) S2 d v,fe S2 = some d→Same F' H'→Grow (Rf F' H') H' F2 H2→Has K F2 d v→∃ F3,Grow F' H' F3 H2∧Has K F3 d v) (hfe : ∀ S d,fe S = some d→fe' S = some d)
  (q : ∀ v F' H',Grow F H F' H'→RN K F H F' H' (.list es) v→Q v H') : tLC (tVI K fi) cap (tVG K t js) (tVT K fc) (tV K RS fe') σ H Q:=by
 refine ⟨ioA,G,H₀,S,F,I,ds,e1,fun J F1 H1 g1 it D hD=>?_⟩
 refine ⟨fun i m H'=>∃ F' es1 es2 ys,m = ds.length - i∧i≤ds.length∧H' D = some (.lst ys)∧F' D = none∧HasL K F' es1 ys∧Grow F1 H1 F' H'∧es1.length≤i∧lcD t fc fe (capG cap S) (ds.drop i) = some es2∧es1 ++ es2 = es,?_,?_⟩
 ·exact ⟨_,F1,[],es,[],rfl,Nat.zero_le _,upd_same,g1.fh.free hD,rfl,Grow.alloc g1.fh hD,Nat.zero_le _,e2,rfl⟩
 ·rintro i m H' ⟨F',es1,es2,ys,rfl,hi,hDl,hFD,hh,g,hle,hr2,happ⟩
  by_cases hlt : i < ds.length
  ·have hd : ds[i]? = some ds[i]:=by simp [hlt]
   rw [List.drop_eq_getElem_cons hlt] at hr2
   obtain ⟨go,yl⟩:=it.go i ds[i] F' H' hd g.ff g.fh
   refine .inr ⟨go,fun x H2 y=>?_⟩
   obtain ⟨F2,g2,hx⟩:=yl x H2 y
   obtain ⟨IB,hR⟩:=hb F2 H2 ((g1.trans g).trans g2)
   have hr':=hr F2 H2
   generalize Rf F2 H2 = R at *
   generalize ds[i] = d0 at *
   unfold lcD at hr2
   cases q1 : t d0 (capG cap S) with
   | none=>rw [q1] at hr2; cases hr2
   | some S2 =>
    rw [q1] at hr2
    simp only at hr2
    refine ⟨fun _=>none,R,H2,capG cap S,R,IB,d0,S2,Has.same hR hx,q1,fun σ2 k2 I2=>⟨capK_of hjs k2,?_⟩⟩
    have D2 : H2 D = some (.lst ys):=g2.hh _ _ hDl
    cases q2 : fc S2 with
    | none=>rw [q2] at hr2; cases hr2
    | some b =>
     rw [q2] at hr2
     refine ⟨fun _=>none,R,H2,S2,R,I2,b,q2,fun F3 H3 g3=>?_⟩
     cases b with
     | false =>
      simp only [Bool.false_eq_true,if_false]
      have gg : Grow F' H' F2 H3:=⟨g2.hh.trans g3.hh,g2.ff,hR.trans (g3.ff.trans g3.fh),g2.new,g2.pl⟩
      have hF2 : F2 D = none:=by
       cases z : F2 D with
       | none=>rfl
       | some o =>
        rcases g2.new D o z with w | w | w
        ·rw [hFD] at w; cases w
        ·rw [hDl] at w; cases w
        ·have:=g2.fh D o z
         rw [D2] at this; cases this; simp [imo] at w
      exact ⟨ds.length - (i + 1),by omega,F2,es1,es2,ys,rfl,hlt,g3.hh _ _ D2,hF2,hh.same g2.ff,g.trans gg,by omega,hr2,happ⟩
     | true =>
      simp only [if_true] at hr2 ⊢
      cases q3 : fe S2 with
      | none=>rw [q3] at hr2; cases hr2
      | some e0 =>
       rw [q3] at hr2
       simp only at hr2
       cases q4 : lcD t fc fe (capG cap S) (ds.drop (i + 1)) with
       | none=>rw [q4] at hr2; cases hr2
       | some es3 =>
        rw [q4] at hr2
        cases hr2
        refine ⟨fun _=>none,R,H2,S2,F3,I2.grow g3,e0,hfe _ _ q3,fun v F4 H4 g4 hv=>?_⟩
        obtain ⟨F5,g5,hv5⟩:=hr' F4 H4 S2 e0 v q3 g2.fh (g3.trans g4) hv
        have D4 : H4 D = some (.lst ys):=g5.hh _ _ D2
        have g25:=g2.trans g5
        have hF5 : F5 D = none:=by
         cases z : F5 D with
         | none=>rfl
         | some o =>
          rcases g25.new D o z with w | w | w
          ·rw [hFD] at w; cases w
          ·rw [hDl] at w; cases w
          ·have:=g25.fh D o z
           rw [D4] at this; cases this; simp [imo] at w
        have hly:=hh.length
        refine ⟨ys,D4,by omega,ds.length - (i + 1),by omega,F5,es1 ++ [e0],es3,ys ++ [v],rfl,hlt,upd_same,hF5,HasL.snoc hv5 (hh.same g25.ff),?_,by simp; omega,rfl,by simpa using happ⟩
        have g15:=g.trans g25
        refine ⟨fun b o e=>?_,g15.ff,fun b o e=>?_,g15.new,g15.pl⟩
        ·rw [upd_ne (ne_of_none e hD)]; exact g15.hh b o e
        ·rw [upd_ne (ne_of_none e hF5)]; exact g15.fh b o e
  ·have hie : i = ds.length:=by omega
   subst hie
   rw [List.drop_eq_nil_of_le (Nat.le_refl _)] at hr2
   cases hr2
   rw [List.append_nil] at happ
   subst happ
   refine .inl ⟨it.stop _ F' H' (Nat.le_refl _) g.ff g.fh,q _ F' H' (g1.trans g) ⟨_,D,ys,rfl,rfl,g1.hh.free hD,hFD,hDl,hh⟩⟩
theorem rdLC {K : PySem.W.Frag} {fi : VA} {cap : List (Option Nat)} {t : VG} {js : List Nat} {fc : VT} {fe : VE} (hjs : (js.all fun j=>cap[j]? == some none) = true) {σ : St} {H : Hp} {Q : VK} (q : tV K RN (vLC fi cap t fc fe) σ H Q) :
  tLC (tVI K fi) cap (tVG K t js) (tVT K fc) (tV K RS fe) σ H Q:=by
 obtain ⟨ioA,G,H₀,S,F,I,d,e,q⟩:=q
 unfold vLC at e
 split at e
 ·rename_i ds e1
  split at e
  ·rename_i hc
   split at e
   ·rename_i es e2
    cases e
    exact rdLC' hjs I e1 hc.2 e2 (fun F' _=>F') (fun F' H' g=>⟨(I.grow g).block_fr hc.1,Same.refl _⟩) (fun F' H' F2 H2 S2 d v _ _ g2 hv=>⟨F2,g2,hv⟩) (fun _ _ h=>h) q
   ·cases e
  ·cases e
 ·cases e
theorem rdLCW {K : PySem.W.Frag} {fi : VA} {cap : List (Option Nat)} {t : VG} {js : List Nat} {fc : VT} {fe : VE} (hjs : (js.all fun j=>cap[j]? == some none) = true) {σ : St} {H : Hp} {Q : VK} (q : tV K RN (vLCW fi cap t fc fe) σ H Q) :
  tLC (tVI K fi) cap (tVG K t js) (tVT K fc) (tV K RS fe) σ H Q:=by
 obtain ⟨ioA,G,H₀,S,F,I,d,e,q⟩:=q
 unfold vLCW at e
 split at e
 ·rename_i ds e1
  split at e
  ·rename_i hc
   split at e
   ·rename_i es e2
    cases e
    refine rdLC' hjs I e1 hc e2 (fun _ H'=>H') (fun F' H' g=>⟨(I.grow g).block_any,g.fh⟩) (fun F' H' F2 H2 S2 d v he fh g2 hv=>?_) (fun _ _ h=>(vImm_some h).1) q
    exact ⟨wide F' H2,wide_grow ⟨g2.hh,Same.refl _,fh.trans g2.hh,fun _ _ e=>.inl e,fun _ _ _ e=>e⟩,imm_wide (vImm_some he).2 (Has.same g2.fh hv)⟩
   ·cases e
  ·cases e
 ·cases e
noncomputable def cTrue : VT:=fun _=>some true
theorem PIfs.imp {X : Cx} {ifs : List Expr} {t t' : TT} (h : PIfs X ifs t) (ht : ∀ σ H Q,t' σ H Q→t σ H Q) : PIfs X ifs t':=fun pins s σ H Q I q=>h pins s σ H Q I (ht σ H Q q)
theorem ifN {X : Cx} : PIfs X [] (tVT X.K cTrue):=PIfs.imp pif_nil fun _ H Q q=>by
 obtain ⟨ioA,G,H₀,S,F,I,b,e,q⟩:=q
 cases e
 exact q F H (Grow.refl I.sub)
theorem dLC {X : Cx} {e : Expr} {fi : VA} {cap : List (Option Nat)} {t : VG} {js : List Nat} {fc : VT} {fe : VE} (he : PE X e (tLC (tVI X.K fi) cap (tVG X.K t js) (tVT X.K fc) (tV X.K RS fe))) (hjs : (js.all fun j=>cap[j]? == some none) = true:=by rfl) : PE X e (tV X.K RN (vLC fi cap t fc fe)) :=
 he.imp fun _ _ _ q=>rdLC hjs q
end VM
namespace VM
open PySem L2
inductive Out where
 | fail
 | nxt (S : GS)
 | ret (S : GS) (b : Bool) (d : PyData)
 | brk (S : GS)
 | cnt (S : GS)
noncomputable abbrev VS:=GS→Out
noncomputable def RR (K : PySem.W.Frag) (H₀ : Hp) (S : GS) (σ : St) (F H : Hp) : Bool→PyData→V→Prop
 | false,d,v=>Has K F d v
 | true,d,v=>OwnAt K H₀ F H d v∧∀ (i : Nat) t d',S[i]? = some (some (t,d'))→t.own = true→σ[i]? ≠ some (some v)
noncomputable def OutOk (K : PySem.W.Frag) (ioA : Nat→Option Addr) (G H₀ : Hp) (D : Ends) : Out→Prop
 | .fail=>False
 | .nxt S=>∀ F σ H,VI K ioA G H₀ S F σ H→D.nx σ H
 | .brk S=>∀ F σ H,VI K ioA G H₀ S F σ H→D.bk σ H
 | .cnt S=>∀ F σ H,VI K ioA G H₀ S F σ H→D.ct σ H
 | .ret S b d=>∀ v F σ H,VI K ioA G H₀ S F σ H→RR K H₀ S σ F H b d v→D.rt v H
noncomputable def tVS (K : PySem.W.Frag) (g : VS) : TS:=fun D σ H=>∃ ioA G H₀ S F,VI K ioA G H₀ S F σ H∧OutOk K ioA G H₀ D (g S)
section
variable {K : PySem.W.Frag} {ioA : Nat→Option Addr} {G H₀ F H F' H' : Hp} {S : GS} {σ : St} {D : Ends}
theorem VI.self (I : VI K ioA G H₀ S F σ H) : VI K ioA F H₀ S F σ H:=⟨I.len,I.same,Same.refl _,fun _ _ e=>.inl e,I.sub,I.slot,I.inj,fun _ _ _ e=>e⟩
theorem VI.rebase {S' : GS} {σ' : St} (I : VI K ioA G H₀ S F σ H) (J : VI K ioA F H₀ S' F' σ' H') : VI K ioA G H₀ S' F' σ' H':=⟨J.len,J.same,I.gf.trans J.gf,fun a o e=>by
 rcases J.new a o e with z | z | z
 ·exact I.new a o z
 ·exact .inr (.inl z)
 ·exact .inr (.inr z),J.sub,J.slot,J.inj,fun a o u e=>I.pl a o u (J.pl a o u e)⟩
end
noncomputable def gNop : VS:=fun S=>.nxt S
noncomputable def gSeq (g1 g2 : VS) : VS:=fun S=>match g1 S with
 | .nxt S1=>g2 S1
 | o=>o
noncomputable def gIf (c : VT) (g1 g2 : VS) : VS:=fun S=>match c S with
 | some true=>g1 S
 | some false=>g2 S
 | none=>.fail
section
variable {X : Cx} {s : Stmt} {rest a b : List Stmt} {g g1 g2 : VS} {c : Expr} {tc : VT} {pos : Pos}
theorem sNil : PSs X [] (tVS X.K gNop):=PSs.imp pss_nil fun D σ H q=>by
 obtain ⟨ioA,G,H₀,S,F,I,q⟩:=q
 exact q F σ H I
theorem sOne (h : PS X s (tVS X.K g)) : PSs X [s] (tVS X.K g):=pss_one h
theorem sSeq (h1 : PS X s (tVS X.K g1)) (h2 : PSs X rest (tVS X.K g2)) : PSs X (s :: rest) (tVS X.K (gSeq g1 g2)):=PSs.imp (pss_cons h1 h2) fun D σ H q=>by
 obtain ⟨ioA,G,H₀,S,F,I,q⟩:=q
 refine ⟨ioA,G,H₀,S,F,I,?_⟩
 unfold gSeq at q
 cases e : g1 S with
 | fail=>rw [e] at q; exact q
 | brk S1=>rw [e] at q; exact q
 | cnt S1=>rw [e] at q; exact q
 | ret S1 b d=>rw [e] at q; exact q
 | nxt S1=>rw [e] at q; exact fun F' σ' H' I'=>⟨ioA,G,H₀,S1,F',I',q⟩
theorem sIf (hc : PT X c (tVT X.K tc)) (ha : PSs X a (tVS X.K g1)) (hb : PSs X b (tVS X.K g2)) : PS X (.If c a b pos) (tVS X.K (gIf tc g1 g2)):=PS.imp (ps_if hc ha hb) fun D σ H q=>by
 obtain ⟨ioA,G,H₀,S,F,I,q⟩:=q
 unfold gIf at q
 cases e : tc S with
 | none=>rw [e] at q; exact q.elim
 | some k =>
  rw [e] at q
  refine ⟨ioA,G,H₀,S,F,I,k,e,fun F' H' g=>?_⟩
  cases k with
  | true=>simp only [if_true]; exact ⟨ioA,G,H₀,S,F',I.grow g,q⟩
  | false=>simp only [Bool.false_eq_true,if_false]; exact ⟨ioA,G,H₀,S,F',I.grow g,q⟩
noncomputable def gFail : VS:=fun _=>.fail
end
noncomputable def gRet (f : VE) : VS:=fun S=>match f S with
 | some d=>.ret S false d
 | none=>.fail
noncomputable def gRetN (f : VE) : VS:=fun S=>match f S with
 | some d=>.ret S true d
 | none=>.fail
noncomputable def gRetO (i : Nat) : VS:=fun S=>match S[i]? with
 | some (some (.ow,d))=>.ret (S.set i none) true d
 | some (some (.fr,d))=>.ret S false d
 | _=>.fail
section
variable {K : PySem.W.Frag} {ioA : Nat→Option Addr} {G H₀ F H F' H' : Hp} {S : GS} {σ : St}
theorem set_none_get {S : GS} {i j : Nat} {x : Tg × PyData} (h : (S.set i none)[j]? = some (some x)) : j ≠ i∧S[j]? = some (some x):=by
 by_cases hj : j = i
 ·subst hj
  by_cases hl : j < S.length
  ·rw [List.getElem?_set_self hl] at h; cases h
  ·rw [List.getElem?_eq_none (by rw [List.length_set]; omega)] at h; cases h
 ·rw [List.getElem?_set_ne (Ne.symm hj)] at h; exact ⟨hj,h⟩
theorem VI.drop (I : VI K ioA G H₀ S F σ H) (i : Nat) : VI K ioA G H₀ (S.set i none) F σ H where
 pl:=I.pl
 len:=by rw [List.length_set]; exact I.len
 same:=I.same
 gf:=I.gf
 new:=I.new
 sub:=I.sub
 slot:=fun j t d e=>I.slot j t d (set_none_get e).2
 inj:=fun j k t t' d d' v e1 e2=>I.inj j k t t' d d' v (set_none_get e1).2 (set_none_get e2).2
theorem own_alloc (I : VI K ioA G H₀ S F σ H) {i : Nat} {t : Tg} {d : PyData} {a : Addr} (e : S[i]? = some (some (t,d))) (ht : t.own = true) (hv : σ[i]? = some (some (.ref a))) : ∃ xs,H a = some xs:=by
 obtain ⟨v,hv',hs⟩:=I.slot i t d e
 rw [hv] at hv'
 cases hv'
 cases t with
 | fr=>cases ht
 | rf=>cases ht
 | ow=>obtain ⟨a',ds,xs,_,e2,e3,_⟩:=hs; cases e2; exact ⟨_,e3⟩
 | io=>obtain ⟨a',ds,xs,_,e2,e3,_⟩:=hs.1; cases e2; exact ⟨_,e3⟩
 | ce=>obtain ⟨a',c,o,_,e2,e3,_⟩:=hs; cases e2; exact ⟨_,e3⟩
theorem RN.own {d : PyData} {v : V} (I : VI K ioA G H₀ S F σ H) (r : RN K F H F' H' d v) : OwnAt K H₀ F' H' d v∧∀ (i : Nat) t d',S[i]? = some (some (t,d'))→t.own = true→σ[i]? ≠ some (some v):=by
 obtain ⟨ds,a,xs,h1,h2,h3,h4,h5,h6⟩:=r
 refine ⟨⟨a,ds,xs,h1,h2,h5,h4,I.same.free h3,h6⟩,fun i t d' e ht hv=>?_⟩
 rw [h2] at hv
 obtain ⟨ys,hy⟩:=own_alloc I e ht hv
 rw [h3] at hy; cases hy
end
section
variable {X : Cx} {e : Expr} {f : VE} {pos : Pos} {s : Stmt}
theorem sRet (he : PE X e (tV X.K RS f)) : PS X (.Return (some e) pos) (tVS X.K (gRet f)):=PS.imp (ps_ret he) fun D σ H q=>by
 obtain ⟨ioA,G,H₀,S,F,I,q⟩:=q
 unfold gRet at q
 cases e : f S with
 | none=>rw [e] at q; exact q.elim
 | some d=>rw [e] at q; exact ⟨ioA,G,H₀,S,F,I,d,e,fun v F' H' g hv=>q v F' σ H' (I.grow g) hv⟩
theorem sRetN (he : PE X e (tV X.K RN f)) : PS X (.Return (some e) pos) (tVS X.K (gRetN f)):=PS.imp (ps_ret he) fun D σ H q=>by
 obtain ⟨ioA,G,H₀,S,F,I,q⟩:=q
 unfold gRetN at q
 cases e : f S with
 | none=>rw [e] at q; exact q.elim
 | some d=>rw [e] at q; exact ⟨ioA,G,H₀,S,F,I,d,e,fun v F' H' g hv=>q v F' σ H' (I.grow g) (RN.own I hv)⟩
theorem sRetO {i : Nat} (he : PE X e (vR i)) : PS X (.Return (some e) pos) (tVS X.K (gRetO i)):=PS.imp (ps_ret he) fun D σ H q=>by
 obtain ⟨ioA,G,H₀,S,F,I,q⟩:=q
 unfold gRetO at q
 split at q
 ·rename_i d hS
  obtain ⟨v,hv,hs⟩:=I.slot i .ow d hS
  show vR i σ H D.rt
  unfold vR; rw [hv]
  refine q v F σ H (I.drop i) ⟨hs,fun j t d' e ht hv'=>?_⟩
  obtain ⟨hj,e⟩:=set_none_get e
  exact hj (I.inj j i t .ow d' d v e hS ht rfl hv' hv)
 ·rename_i d hS
  obtain ⟨v,hv,hs⟩:=I.slot i .fr d hS
  show vR i σ H D.rt
  unfold vR; rw [hv]
  exact q v F σ H I hs
 ·exact q.elim
noncomputable def gEx (f : VE) : VS:=fun S=>match f S with
 | some _=>.nxt S
 | none=>.fail
noncomputable def gAs (f : VE) (t : VG) : VS:=fun S=>match f S with
 | some d=>match t d S with
  | some S'=>.nxt S'
  | none=>.fail
 | none=>.fail
theorem sAs {t : VG} {js : List Nat} (h : PS X s (tAsg (tV X.K RS f) (tVG X.K t js))) : PS X s (tVS X.K (gAs f t)):=PS.imp h fun D σ H q=>by
 obtain ⟨ioA,G,H₀,S,F,I,q⟩:=q
 unfold gAs at q
 cases e : f S with
 | none=>rw [e] at q; exact q.elim
 | some d =>
  rw [e] at q
  simp only at q
  cases e2 : t d S with
  | none=>rw [e2] at q; exact q.elim
  | some S' =>
   rw [e2] at q
   exact ⟨ioA,G,H₀,S,F,I,d,e,fun v F' H' g hv=>⟨ioA,G,H₀,S,F',I.grow g,d,S',hv,e2,fun σ' _ I'=>q F' σ' H' I'⟩⟩
noncomputable def gOw (i : Nat) (f : VE) : VS:=fun S=>match f S with
 | some d=>if noIo S i = true then .nxt (S.set i (some (.ow,d))) else .fail
 | none=>.fail
theorem VI.setOwn {K : PySem.W.Frag} {ioA : Nat→Option Addr} {G H₀ F H : Hp} {S : GS} {σ : St} {i : Nat} {d : PyData} {v : V} (I : VI K ioA G H₀ S F σ H) (ho : OwnAt K H₀ F H d v) (hn : ∀ (i : Nat) t d',S[i]? = some (some (t,d'))→t.own = true→σ[i]? ≠ some (some v)) :
  VI K ioA G H₀ (S.set i (some (.ow,d))) F (σ.set i (some v)) H where
 pl:=I.pl
 len:=by rw [List.length_set,List.length_set]; exact I.len
 same:=I.same
 gf:=I.gf
 new:=I.new
 sub:=I.sub
 slot:=fun j t d' e=>by
  by_cases hj : j = i
  ·subst hj
   by_cases hl : j < S.length
   ·rw [List.getElem?_set_self hl] at e
    cases e
    exact ⟨v,List.getElem?_set_self (by rw [← I.len]; exact hl),ho⟩
   ·rw [List.getElem?_eq_none (by rw [List.length_set]; omega)] at e
    cases e
  ·rw [List.getElem?_set_ne (Ne.symm hj)] at e ⊢
   exact I.slot j t d' e
 inj:=fun j k t t' d1 d2 u e1 e2 n1 n2 v1 v2=>by
  have at_i : ∀ {j : Nat} {t : Tg} {d1 : PyData} {u : V},(S.set i (some (.ow,d)))[j]? = some (some (t,d1))→(σ.set i (some v))[j]? = some (some u)→j = i→u = v:=fun {j t d1 u} e1 v1 z=>by
   subst z
   by_cases hl : j < S.length
   ·rw [List.getElem?_set_self (by rw [← I.len]; exact hl)] at v1
    exact (Option.some.inj (Option.some.inj v1)).symm
   ·rw [List.getElem?_eq_none (by rw [List.length_set]; omega)] at e1; cases e1
  by_cases hj : j = i
  ·by_cases hk : k = i
   ·rw [hj,hk]
   ·have:=at_i e1 v1 hj
    subst this
    rw [List.getElem?_set_ne (Ne.symm hk)] at e2 v2
    exact absurd v2 (hn k t' d2 e2 n2)
  ·by_cases hk : k = i
   ·have:=at_i e2 v2 hk
    subst this
    rw [List.getElem?_set_ne (Ne.symm hj)] at e1 v1
    exact absurd v1 (hn j t d1 e1 n1)
   ·rw [List.getElem?_set_ne (Ne.symm hj)] at e1 v1
    rw [List.getElem?_set_ne (Ne.symm hk)] at e2 v2
    exact I.inj j k t t' d1 d2 u e1 e2 n1 n2 v1 v2
theorem sOw {i : Nat} (h : PS X s (tAsg (tV X.K RN f) (gName i))) : PS X s (tVS X.K (gOw i f)):=PS.imp h fun D σ H q=>by
 obtain ⟨ioA,G,H₀,S,F,I,q⟩:=q
 unfold gOw at q
 cases e : f S with
 | none=>rw [e] at q; exact q.elim
 | some d =>
  rw [e] at q
  simp only at q
  split at q
  ·refine ⟨ioA,G,H₀,S,F,I,d,e,fun v F' H' g hv=>?_⟩
   obtain ⟨h1,h2⟩:=RN.own I hv
   exact q F' _ H' ((I.grow g).setOwn h1 h2)
  ·exact q.elim
theorem tAsg_imp {te te' : TE} {g : TG} (h : PS X s (tAsg te g)) (hi : ∀ σ H Q,te' σ H Q→te σ H Q) : PS X s (tAsg te' g):=PS.imp h fun D σ H q=>hi σ H _ q
noncomputable def frz (i : Nat) (S : GS) : GS:=match S[i]? with
 | some (some (.ow,d))=>S.set i (some (.fr,d))
 | _=>S
noncomputable def gFz (i : Nat) (g : VS) : VS:=fun S=>g (frz i S)
theorem VI.frz {K : PySem.W.Frag} {ioA : Nat→Option Addr} {G H₀ F H : Hp} {S : GS} {σ : St} (I : VI K ioA G H₀ S F σ H) (i : Nat) : ∃ F',VI K ioA G H₀ (frz i S) F' σ H:=by
 unfold VM.frz
 split
 ·rename_i d hS
  obtain ⟨v,hv,a,ds,xs,rfl,rfl,e3,e4,e5,e6⟩:=I.slot i .ow d hS
  have hl : i < S.length:=by
   by_cases h : i < S.length
   ·exact h
   ·rw [List.getElem?_eq_none (by omega)] at hS; cases hS
  have s1 : Same F (upd F a (.lst xs)):=same_upd_new e4
  have s2 : Same (upd F a (.lst xs)) H:=fun b o e=>by
   by_cases hb : b = a
   ·subst hb; rw [upd_same] at e; cases e; exact e3
   ·rw [upd_ne hb] at e; exact I.sub b o e
  refine ⟨upd F a (.lst xs),⟨by rw [List.length_set]; exact I.len,I.same,I.gf.trans s1,fun b o e=>?_,s2,fun j t d' e=>?_,fun j k t t' d1 d2 u g1 g2 n1 n2 v1 v2=>?_,fun b x u e=>by
   by_cases hb : b = a
   ·subst hb; rw [upd_same] at e; cases e
   ·rw [upd_ne hb] at e; exact I.pl b x u e⟩⟩
  ·by_cases hb : b = a
   ·subst hb; exact .inr (.inl e5)
   ·rw [upd_ne hb] at e; exact I.new b o e
  ·by_cases hj : j = i
   ·subst hj
    rw [List.getElem?_set_self hl] at e
    cases e
    exact ⟨_,hv,a,xs,rfl,SqL.of upd_same,e6.same s1⟩
   ·rw [List.getElem?_set_ne (Ne.symm hj)] at e
    obtain ⟨u,hu,hs⟩:=I.slot j t d' e
    have ow : t.own = true→OwnAt K H₀ F H d' u→OwnAt K H₀ (upd F a (.lst xs)) H d' u:=fun ht ⟨b,ds',ys,h1,h2,h3,h4,h5,h6⟩=>by
     refine ⟨b,ds',ys,h1,h2,h3,?_,h5,h6.same s1⟩
     have : b ≠ a:=fun z=>by
      subst z
      exact hj (I.inj j i t .ow d' _ _ e hS ht rfl hu (by rw [h2]; exact hv))
     rw [upd_ne this]; exact h4
    refine ⟨u,hu,?_⟩
    cases t with
    | fr=>exact Has.same s1 hs
    | ow=>exact ow rfl hs
    | io=>exact ⟨ow rfl hs.1,hs.2⟩
    | rf=>exact hs
    | ce =>
     obtain ⟨b,c,o,h1,h2,h3,h4,h5,h6⟩:=hs
     refine ⟨b,c,o,h1,h2,h3,?_,h5,h6.same s1⟩
     have : b ≠ a:=fun z=>by
      subst z
      exact hj (I.inj j i .ce .ow d' _ _ e hS rfl rfl hu (by rw [h2]; exact hv))
     rw [upd_ne this]; exact h4
  ·have nj : ∀ {j : Nat} {t : Tg} {d1 : PyData},(S.set i (some (.fr,.list ds)))[j]? = some (some (t,d1))→t.own = true→S[j]? = some (some (t,d1)):=fun {j t d1} g1 n1=>by
    by_cases hj : j = i
    ·subst hj; rw [List.getElem?_set_self hl] at g1; cases g1; exact absurd n1 Bool.false_ne_true
    ·rw [List.getElem?_set_ne (Ne.symm hj)] at g1; exact g1
   exact I.inj j k t t' d1 d2 u (nj g1 n1) (nj g2 n2) n1 n2 v1 v2
 ·exact ⟨F,I⟩
theorem sFz {i : Nat} {g : VS} (h : PS X s (tVS X.K g)) : PS X s (tVS X.K (gFz i g)):=PS.imp h fun D σ H q=>by
 obtain ⟨ioA,G,H₀,S,F,I,q⟩:=q
 obtain ⟨F',I'⟩:=I.frz i
 exact ⟨ioA,G,H₀,_,F',I',q⟩
end
section
variable {K : PySem.W.Frag} {ioA : Nat→Option Addr} {G H₀ F H : Hp} {S : GS} {σ : St}
noncomputable def ownL (S : GS) (i : Nat) : Option (Tg × List PyData):=match S[i]? with
 | some (some (.ow,.list ds))=>some (.ow,ds)
 | some (some (.io,.list ds))=>some (.io,ds)
 | _=>none
theorem ownL_some {i : Nat} {t : Tg} {ds : List PyData} (h : ownL S i = some (t,ds)) : S[i]? = some (some (t,.list ds))∧t.own = true:=by
 unfold ownL at h
 split at h
 ·cases h; exact ⟨by assumption,rfl⟩
 ·cases h; exact ⟨by assumption,rfl⟩
 ·cases h
theorem ownL_tag {i : Nat} {t : Tg} {ds : List PyData} (h : ownL S i = some (t,ds)) : t = .ow∨t = .io:=by
 unfold ownL at h
 split at h
 ·cases h; exact .inl rfl
 ·cases h; exact .inr rfl
 ·cases h
theorem VI.own (I : VI K ioA G H₀ S F σ H) {i : Nat} {t : Tg} {ds : List PyData} (h : ownL S i = some (t,ds)) : ∃ a xs,σ[i]? = some (some (.ref a))∧H a = some (.lst xs)∧HasL K F ds xs ∧
  ∀ (ds' : List PyData) (xs' : List V) (F' H' : Hp),Grow F H F' H'→HasL K F' ds' xs'→VI K ioA G H₀ (S.set i (some (t,.list ds'))) F' σ (upd H' a (.lst xs')):=by
 obtain ⟨hS,ht⟩:=ownL_some h
 obtain ⟨v,hv,hs⟩:=I.slot i t _ hS
 have ho : OwnAt K H₀ F H (.list ds) v:=by
  rcases ownL_tag h with rfl | rfl
  ·exact hs
  ·exact hs.1
 obtain ⟨a,ds0,xs,e1,rfl,e3,e4,e5,e6⟩:=ho
 cases e1
 have hl : i < S.length:=by
  by_cases h : i < S.length
  ·exact h
  ·rw [List.getElem?_eq_none (by omega)] at hS; cases hS
 refine ⟨a,xs,hv,e3,e6,fun ds' xs' F' H' g hx=>?_⟩
 have J:=I.grow g
 have hF' : F' a = none:=by
  cases q : F' a with
  | none=>rfl
  | some o =>
   rcases g.new a o q with z | z | z
   ·rw [e4] at z; cases z
   ·rw [e3] at z; cases z
   ·have:=g.fh a o q
    rw [g.hh _ _ e3] at this; cases this; simp [imo] at z
 refine ⟨by rw [List.length_set]; exact I.len,fun b o e=>?_,J.gf,J.new,fun b o e=>?_,fun j t' d' e=>?_,fun j k t1 t2 d1 d2 u g1 g2 n1 n2 v1 v2=>?_,J.pl⟩
 ·rw [upd_ne (ne_of_none e e5)]; exact J.same b o e
 ·rw [upd_ne (ne_of_none e hF')]; exact J.sub b o e
 ·by_cases hj : j = i
  ·subst hj
   rw [List.getElem?_set_self hl] at e
   cases e
   refine ⟨_,hv,?_⟩
   have o : OwnAt K H₀ F' (upd H' a (.lst xs')) (.list ds') (.ref a):=⟨a,ds',xs',rfl,rfl,upd_same,hF',e5,hx⟩
   rcases ownL_tag h with rfl | rfl
   ·exact o
   ·exact ⟨o,hs.2⟩
  ·rw [List.getElem?_set_ne (Ne.symm hj)] at e
   obtain ⟨u,hu,hs'⟩:=J.slot j t' d' e
   have ow : t'.own = true→OwnAt K H₀ F' H' d' u→OwnAt K H₀ F' (upd H' a (.lst xs')) d' u:=fun ht' ⟨b,ds1,ys,h1,h2,h3,h4,h5,h6⟩=>by
    refine ⟨b,ds1,ys,h1,h2,?_,h4,h5,h6⟩
    have : b ≠ a:=fun z=>by
     subst z
     exact hj (I.inj j i t' t d' _ _ e hS ht' ht hu (by rw [h2]; exact hv))
    rw [upd_ne this]; exact h3
   refine ⟨u,hu,?_⟩
   cases t' with
   | fr=>exact hs'
   | ow=>exact ow rfl hs'
   | io=>exact ⟨ow rfl hs'.1,hs'.2⟩
   | rf=>exact hs'
   | ce =>
    obtain ⟨b,c,o,h1,h2,h3,h4,h5,h6⟩:=hs'
    refine ⟨b,c,o,h1,h2,?_,h4,h5,h6⟩
    have : b ≠ a:=fun z=>by
     subst z
     exact hj (I.inj j i .ce t d' _ _ e hS rfl ht hu (by rw [h2]; exact hv))
    rw [upd_ne this]; exact h3
 ·have nj : ∀ {j : Nat} {t1 : Tg} {d1 : PyData},(S.set i (some (t,.list ds')))[j]? = some (some (t1,d1))→t1.own = true→∃ d2,S[j]? = some (some (t1,d2)):=fun {j t1 d1} g1 n1=>by
   by_cases hj : j = i
   ·subst hj; rw [List.getElem?_set_self hl] at g1; cases g1; exact ⟨_,hS⟩
   ·rw [List.getElem?_set_ne (Ne.symm hj)] at g1; exact ⟨_,g1⟩
  obtain ⟨d3,q1⟩:=nj g1 n1
  obtain ⟨d4,q2⟩:=nj g2 n2
  exact I.inj j k t1 t2 d3 d4 u q1 q2 n1 n2 v1 v2
end
noncomputable def gApp (i : Nat) (fs : VA) : VS:=fun S=>match ownL S i,fs S with
 | some (t,ds),some [d]=>@ite _ (ds.length < sizeLine) (Classical.propDecidable _) (.nxt (S.set i (some (t,.list (ds ++ [d]))))) .fail
 | _,_=>.fail
noncomputable def gPut (i : Nat) (fk f : VE) : VS:=fun S=>match f S,fk S,ownL S i with
 | some d,some (.int k),some (t,ds)=>(match ixN ds.length k with
  | some j=>.nxt (S.set i (some (t,.list (ds.set j d))))
  | none=>.fail)
 | _,_,_=>.fail
noncomputable def gAugI (h : PyData→PyData→Option PyData) (i : Nat) (fk f : VE) : VS:=fun S=>match ownL S i,fk S,f S with
 | some (t,ds),some (.int k),some y=>(match ixN ds.length k with
  | some j=>(match ds[j]? with
   | some x=>(match h x y with
    | some z=>.nxt (S.set i (some (t,.list (ds.set j z))))
    | none=>.fail)
   | none=>.fail)
  | none=>.fail)
 | _,_,_=>.fail
noncomputable def gAug (h : PyData→PyData→Option PyData) (i : Nat) (f : VE) : VS:=fun S=>match S[i]?,f S with
 | some (some (.fr,x)),some y=>(match h x y with
  | some z=>.nxt (S.set i (some (.fr,z)))
  | none=>.fail)
 | _,_=>.fail
section
variable {X : Cx} {s : Stmt} {fs : VA} {f fk : VE} {h : PyData→PyData→Option PyData}
theorem sApp {i : Nat} (hp : PS X s (tDrop (tBM X.K "list" rAppM (vR i) (tVA X.K fs)))) : PS X s (tVS X.K (gApp i fs)):=PS.imp hp fun D σ H q=>by
 obtain ⟨ioA,G,H₀,S,F,I,q⟩:=q
 unfold gApp at q
 split at q
 ·rename_i t ds d q1 q2
  split at q
  ·rename_i hz
   obtain ⟨a,xs,hv,hH,hx,nx⟩:=I.own q1
   unfold tDrop tBM vR
   simp only [hv]
   refine ⟨.inl ⟨rfl,xs,SqL.of hH⟩,ioA,G,H₀,S,F,I,[d],q2,fun vs F' H' g hvs=>?_⟩
   obtain ⟨v,rfl,hv2⟩:=HasL.one hvs
   refine ⟨xs,g.hh _ _ hH,by rw [← hx.length]; exact hz,q F' σ _ (nx _ _ F' H' g (HasL.snoc hv2 (hx.same g.ff)))⟩
  ·exact q.elim
 ·exact q.elim
theorem sPut {i : Nat} (hp : PS X s (tAsg (tV X.K RS f) (gSub (vR i) (tV X.K RW fk) rSetM))) : PS X s (tVS X.K (gPut i fk f)):=PS.imp hp fun D σ H q=>by
 obtain ⟨ioA,G,H₀,S,F,I,q⟩:=q
 unfold gPut at q
 split at q
 ·rename_i d k t ds q1 q2 q3
  split at q
  ·rename_i j q4
   refine ⟨ioA,G,H₀,S,F,I,d,q1,fun v F1 H1 g1 hv=>?_⟩
   obtain ⟨a,xs,hv',hH,hx,nx⟩:=(I.grow g1).own q3
   show vR i σ H1 _
   unfold vR; rw [hv']
   refine ⟨ioA,G,H₀,S,F1,I.grow g1,_,q2,fun u F2 H2 g2 hu=>?_⟩
   have eu : u = .int k:=hu
   subst eu
   refine ⟨xs,j,g2.hh _ _ hH,by rw [← hx.length]; exact q4,q F2 σ _ (nx _ _ F2 H2 g2 (HasL.set (Has.same g2.ff hv) j (hx.same g2.ff)))⟩
  ·exact q.elim
 ·exact q.elim
theorem getL : PGet X (rIxL X.K):=by
 intro pins s σ H x y v u Q I rx ry h
 obtain ⟨p,xs,i,z,rfl,rfl,hq,he,q⟩:=h
 cases rx
 obtain ⟨t,rfl⟩:=ry
 obtain ⟨its,r,pl,hz⟩:=I.list hq
 obtain ⟨j,h1,h2,h3,h4,h5⟩:=atI_get he
 obtain ⟨w,ew,rw'⟩:=r.get h2
 have hl:=r.length
 have hn:=line63
 have fin : EP X pins σ Q w s:=⟨z,H,I,rw',q⟩
 by_cases h0 : 0≤i
 ·have hj : i.toNat = j:=by
   rw [seqIndex_of h0 h5] at h1
   exact Option.some.inj h1
  exact wpAny_getItem_list pl.isList h0 (by omega) (by rw [hj]; simpa using ew) fin
 ·have hj : (i + (its.toArray.size : Int)).toNat = j:=by
   rw [seqIndex_neg (by omega) h4] at h1
   rw [List.size_toArray,← hl]
   exact Option.some.inj h1
  exact wpAny_getItem_list_neg pl.isList (by omega) (by rw [List.size_toArray] <;> omega) (by omega) (by rw [hj]; simpa using ew) fin
theorem sAugI {r : R2} (hd : OpD X.K h r) {i : Nat} (hp : PS X s (tAugS (vR i) (tV X.K RW fk) (tV X.K RS f) (rIxL X.K) r rSetM)) : PS X s (tVS X.K (gAugI h i fk f)):=PS.imp hp fun D σ H q=>by
 obtain ⟨ioA,G,H₀,S,F,I,q⟩:=q
 unfold gAugI at q
 split at q
 ·rename_i t ds k y q1 q2 q3
  split at q
  ·rename_i j q4
   split at q
   ·rename_i x q5
    split at q
    ·rename_i z q6
     obtain ⟨a,xs,hv',hH,hx,nx⟩:=I.own q1
     show vR i σ H _
     unfold vR; rw [hv']
     refine ⟨ioA,G,H₀,S,F,I,_,q2,fun u F1 H1 g1 hu=>?_⟩
     have eu : u = .int k:=hu
     subst eu
     obtain ⟨w,hw1,hw2⟩:=hx.at q5
     have q4' : ixN xs.length k = some j:=by rw [← hx.length]; exact q4
     refine ⟨a,xs,k,w,rfl,rfl,SqL.of (g1.hh _ _ hH),by unfold atI; rw [q4']; exact hw1,?_⟩
     refine ⟨ioA,G,H₀,S,F1,I.grow g1,y,q3,fun v F2 H2 g2 hv=>?_⟩
     have g:=g1.trans g2
     refine hd H2 w v x y z _ q6 (Has.same g2.fh (Has.same g.ff hw2)) (Has.same g2.fh hv) fun v2 hv2=>?_
     exact ⟨xs,j,g.hh _ _ hH,q4',q F2 σ _ (nx _ _ F2 H2 g (HasL.set (hv2 F2) j (hx.same g.ff)))⟩
    ·exact q.elim
   ·exact q.elim
  ·exact q.elim
 ·exact q.elim
theorem sAug {r : R2} (hd : OpD X.K h r) {i : Nat} (hp : PS X s (tAugM i (tV X.K RS f) r)) : PS X s (tVS X.K (gAug h i f)):=PS.imp hp fun D σ H q=>by
 obtain ⟨ioA,G,H₀,S,F,I,q⟩:=q
 unfold gAug at q
 split at q
 ·rename_i x y q1 q2
  split at q
  ·rename_i z q3
   obtain ⟨v,hv,hs⟩:=I.slot i .fr x q1
   show tAugM i (tV X.K RS f) r D σ H
   unfold tAugM; rw [hv]
   refine ⟨ioA,G,H₀,S,F,I,y,q2,fun u F1 H1 g1 hu=>?_⟩
   refine hd H1 v u x y z _ q3 (Has.same g1.fh (Has.same g1.ff hs)) (Has.same g1.fh hu) fun w hw=>?_
   exact q F1 _ H1 ((I.grow g1).set (hw F1))
  ·exact q.elim
 ·exact q.elim
end
noncomputable def forG (t : VG) (g : VS) : List PyData→GS→Out
 | [],S=>.nxt S
 | d :: r,S=>match t d S with
  | none=>.fail
  | some S1=>match g S1 with
   | .nxt S2=>forG t g r S2
   | .cnt S2=>forG t g r S2
   | .brk S2=>.nxt S2
   | .ret S2 b e=>.ret S2 b e
   | .fail=>.fail
noncomputable def gFor (fi : VA) (t : VG) (g : VS) : VS:=fun S=>match fi S with
 | some ds=>forG t g ds S
 | none=>.fail
noncomputable def whileN (c : VT) (g : VS) : Nat→GS→Out
 | 0,_=>.fail
 | n + 1,S=>match c S with
  | none=>.fail
  | some false=>.nxt S
  | some true=>match g S with
   | .nxt S2=>whileN c g n S2
   | .cnt S2=>whileN c g n S2
   | .brk S2=>.nxt S2
   | .ret S2 b e=>.ret S2 b e
   | .fail=>.fail
open Classical in
noncomputable def gWh (c : VT) (g : VS) : VS:=fun S=>if h : ∃ n,whileN c g n S ≠ .fail then whileN c g h.choose S else .fail
theorem whileN_mono {c : VT} {g : VS} : ∀ {n : Nat} {S : GS},whileN c g n S ≠ .fail→whileN c g (n + 1) S = whileN c g n S
 | 0,_,h=>absurd rfl h
 | n + 1,S,h=>by
  rw [whileN]
  conv=>rhs; rw [whileN]
  rw [whileN] at h
  cases q : c S with
  | none=>rfl
  | some b =>
   rw [q] at h
   cases b with
   | false=>rfl
   | true =>
    simp only at h ⊢
    cases q2 : g S with
    | nxt S2=>rw [q2] at h; exact whileN_mono h
    | cnt S2=>rw [q2] at h; exact whileN_mono h
    | brk _=>rfl
    | ret _ _ _=>rfl
    | fail=>rfl
theorem whileN_le {c : VT} {g : VS} {n m : Nat} {S : GS} (h : whileN c g n S ≠ .fail) (hm : n≤m) : whileN c g m S = whileN c g n S:=by
 induction hm with
 | refl=>rfl
 | step hm ih=>rw [whileN_mono (by rw [ih]; exact h),ih]
theorem gWh_eq {c : VT} {g : VS} {n : Nat} {S : GS} {o : Out} (h : whileN c g n S = o) (ho : o ≠ .fail) : gWh c g S = o:=by
 have hx : ∃ n,whileN c g n S ≠ .fail:=⟨n,by rw [h]; exact ho⟩
 unfold gWh
 rw [dif_pos hx]
 rcases Nat.le_total n hx.choose with l | l
 ·rw [whileN_le (by rw [h]; exact ho) l,h]
 ·rw [← whileN_le hx.choose_spec l,h]
section
variable {X : Cx} {s : Stmt} {t : VG} {js : List Nat} {g : VS} {fi : VA} {tc : VT}
theorem sFor (hp : PS X s (tFor (tVI X.K fi) (tVG X.K t js) (tVS X.K g))) : PS X s (tVS X.K (gFor fi t g)):=PS.imp hp fun D σ H q=>by
 obtain ⟨ioA,G,H₀,S,F,I,q⟩:=q
 unfold gFor at q
 split at q
 ·rename_i ds q1
  refine ⟨ioA,G,H₀,S,F,I,ds,q1,fun J F1 H1 g1 it=>?_⟩
  have I1:=I.grow g1
  refine ⟨fun i m σ' H'=>∃ S' F',m = ds.length - i∧i≤ds.length∧VI X.K ioA F1 H₀ S' F' σ' H'∧OutOk X.K ioA G H₀ D (forG t g (ds.drop i) S'),⟨_,S,F1,rfl,Nat.zero_le _,I1.self,q⟩,?_⟩
  rintro i m σ' H' ⟨S',F',rfl,hi,I',q'⟩
  by_cases hlt : i < ds.length
  ·have hd : ds[i]? = some ds[i]:=by simp [hlt]
   rw [List.drop_eq_getElem_cons hlt] at q'
   obtain ⟨go,yl⟩:=it.go i ds[i] F' H' hd I'.gf I'.sub
   generalize ds[i] = d0 at *
   unfold forG at q'
   cases q2 : t d0 S' with
   | none=>rw [q2] at q'; exact q'.elim
   | some S1 =>
    rw [q2] at q'
    simp only at q'
    refine .inr ⟨go,fun σ2 H2=>∃ m',m' < ds.length - i∧∃ S2 F2,m' = ds.length - (i + 1)∧i + 1≤ds.length∧VI X.K ioA F1 H₀ S2 F2 σ2 H2∧OutOk X.K ioA G H₀ D (forG t g (ds.drop (i + 1)) S2),fun _ _ h=>h,fun x H2 y=>?_⟩
    obtain ⟨F2,g2,hx⟩:=yl x H2 y
    refine ⟨ioA,F1,H₀,S',F2,I'.grow g2,d0,S1,hx,q2,fun σ3 _ I3=>⟨ioA,F1,H₀,S1,F2,I3,?_⟩⟩
    cases q3 : g S1 with
    | fail=>rw [q3] at q'; exact q'.elim
    | nxt S2=>rw [q3] at q'; exact fun F4 σ4 H4 I4=>⟨_,by omega,S2,F4,rfl,hlt,I4,q'⟩
    | cnt S2=>rw [q3] at q'; exact fun F4 σ4 H4 I4=>⟨_,by omega,S2,F4,rfl,hlt,I4,q'⟩
    | brk S2=>rw [q3] at q'; exact fun F4 σ4 H4 I4=>q' F4 σ4 H4 (I1.rebase I4)
    | ret S2 b e=>rw [q3] at q'; exact fun v F4 σ4 H4 I4 r=>q' v F4 σ4 H4 (I1.rebase I4) r
  ·have e : i = ds.length:=by omega
   subst e
   rw [List.drop_eq_nil_of_le (Nat.le_refl _)] at q'
   exact .inl ⟨it.stop _ F' H' (Nat.le_refl _) I'.gf I'.sub,q' F' σ' H' (I1.rebase I')⟩
 ·exact q.elim
theorem sWh (hp : PS X s (tWhile (tVT X.K tc) (tVS X.K g))) : PS X s (tVS X.K (gWh tc g)):=PS.imp hp fun D σ H q=>by
 obtain ⟨ioA,G,H₀,S,F,I,q⟩:=q
 unfold gWh at q
 split at q
 ·rename_i hx
  refine ⟨fun m σ' H'=>∃ S' F',VI X.K ioA G H₀ S' F' σ' H'∧OutOk X.K ioA G H₀ D (whileN tc g m S'),⟨hx.choose,S,F,I,q⟩,?_⟩
  rintro m σ' H' ⟨S',F',I',q'⟩
  cases m with
  | zero=>exact q'.elim
  | succ n =>
   rw [whileN] at q'
   cases q2 : tc S' with
   | none=>rw [q2] at q'; exact q'.elim
   | some b =>
    rw [q2] at q'
    refine ⟨ioA,G,H₀,S',F',I',b,q2,fun F2 H2 g2=>?_⟩
    cases b with
    | false=>simp only [Bool.false_eq_true,if_false]; exact q' F2 σ' H2 (I'.grow g2)
    | true =>
     simp only [if_true]
     simp only at q'
     refine ⟨fun σ2 H2=>∃ m',m' < n + 1∧∃ S' F',VI X.K ioA G H₀ S' F' σ2 H2∧OutOk X.K ioA G H₀ D (whileN tc g m' S'),fun _ _ h=>h,ioA,G,H₀,S',F2,I'.grow g2,?_⟩
     cases q3 : g S' with
     | fail=>rw [q3] at q'; exact q'.elim
     | nxt S2=>rw [q3] at q'; exact fun F4 σ4 H4 I4=>⟨n,by omega,S2,F4,I4,q'⟩
     | cnt S2=>rw [q3] at q'; exact fun F4 σ4 H4 I4=>⟨n,by omega,S2,F4,I4,q'⟩
     | brk S2=>rw [q3] at q'; exact fun F4 σ4 H4 I4=>q' F4 σ4 H4 I4
     | ret S2 b e=>rw [q3] at q'; exact fun v F4 σ4 H4 I4 r=>q' v F4 σ4 H4 I4 r
 ·exact q.elim
end
noncomputable def ini (nN : Nat) (ds : List PyData) : GS:=ds.map (fun d=>some (.fr,d)) ++ List.replicate (nN - ds.length) none
noncomputable def fnM (n nN : Nat) (g : VS) : FnM:=fun ds=>if ds.length = n then (match g (ini nN ds) with
 | .ret _ b d=>some (b,d)
 | .nxt _=>some (false,.none)
 | _=>none) else none
theorem ini_get {nN : Nat} {ds : List PyData} {i : Nat} {t : Tg} {d : PyData} (h : (ini nN ds)[i]? = some (some (t,d))) : ds[i]? = some d∧t = .fr:=by
 unfold ini at h
 by_cases hi : i < ds.length
 ·rw [List.getElem?_append_left (by simpa using hi),List.getElem?_map] at h
  cases q : ds[i]? with
  | none=>rw [q] at h; cases h
  | some d'=>rw [q] at h; simp at h; exact ⟨by rw [h.2],h.1.symm⟩
 ·rw [List.getElem?_append_right (by simpa using hi),List.getElem?_replicate] at h
  split at h
  ·cases h
  ·cases h
section
variable {P : Program} {w : World} {K : PySem.W.Frag} {mg : Str→Option Value} {base : Heap}
theorem ini_ok {G H : Hp} {N : List Str} {ds : List PyData} {vs : List V} (hs : Same G H) (h : HasL K G ds vs) : VI K (fun _=>none) G H (ini N.length ds) G (L2.start N vs) H where
 pl:=fun _ _ _ e=>e
 len:=by unfold ini L2.start; simp [h.length]
 same:=Same.refl _
 gf:=Same.refl _
 new:=fun _ _ e=>.inl e
 sub:=hs
 slot:=fun i t d e=>by
  obtain ⟨e1,rfl⟩:=ini_get e
  obtain ⟨v,hv,hh⟩:=h.at e1
  refine ⟨v,?_,hh⟩
  have hl : i < vs.length:=by
   by_cases z : i < vs.length
   ·exact z
   ·rw [List.getElem?_eq_none (by omega)] at hv; cases hv
  unfold L2.start
  rw [List.getElem?_append_left (by simpa using hl),List.getElem?_map,hv]
  rfl
 inj:=fun i j t t' d d' v e1 _ n1=>by
  rw [(ini_get e1).2] at n1; exact absurd n1 Bool.false_ne_true
theorem fnV0 {x qual : Str} {st : Stmt} {f : Addr} {fd : FuncData} {N ps : List Str} {k : Nat} {g : VS} (F : Fun K x qual st f fd) (S : FnScope N ps (defScope st))
  (hb : ∀ (cdv : Value) (A : Around) (outer : List Env) (s : Shared) (H : Hp) (E : XK),Room k (A.deeper (PyProof.Rows.envOfC qual (defScope st) s.heap.objs.size f cdv))→PSs (cxOf CX0 P w K mg base N qual (defScope st) f cdv A outer s H E).nox (defBody st) (tVS K g)) :
  FnOk P w K mg base CX0 (k + 1) f fd ps (spV K (fnM ps.length N.length g)):=by
 refine F.ok S (fun vs H Q E h=>?_) (fun cdv A outer s H vs Q E hr h=>⟨_,hb cdv A outer s H E hr,?_⟩)
 ·obtain ⟨G,ds,_,hx,b,d,e,_⟩:=h
  unfold fnM at e
  split at e
  ·rename_i hl; rw [← hx.length]; exact hl
  ·cases e
 ·obtain ⟨G,ds,hs,hx,b,d,e,q⟩:=h
  unfold fnM at e
  split at e
  ·refine ⟨fun _=>none,G,H,ini N.length ds,G,ini_ok hs hx,?_⟩
   split at e
   ·rename_i S' b' d' e2
    cases e
    rw [e2]
    intro v F' σ' H' I r
    refine q v F' H' ⟨I.same,I.gf,I.sub,I.new,I.pl⟩ ?_
    cases b with
    | false=>exact r
    | true =>
     obtain ⟨⟨a,es,xs,h1,h2,h3,h4,h5,h6⟩,_⟩:=r
     exact ⟨es,a,xs,h1,h2,h5,h4,h3,h6⟩
   ·rename_i S' e2
    cases e
    rw [e2]
    intro F' σ' H' I
    exact q .non F' H' ⟨I.same,I.gf,I.sub,I.new,I.pl⟩ rfl
   ·cases e
  ·cases e
theorem fnV {x qual : Str} {st : Stmt} {f : Addr} {fd : FuncData} {N ps : List Str} {k n nN : Nat} {g : VS} (F : Fun K x qual st f fd) (S : FnScope N ps (defScope st)) (hn : ps.length = n) (hN : N.length = nN)
  (hb : ∀ (cdv : Value) (A : Around) (outer : List Env) (s : Shared) (H : Hp) (E : XK),Room k (A.deeper (PyProof.Rows.envOfC qual (defScope st) s.heap.objs.size f cdv))→PSs (cxOf CX0 P w K mg base N qual (defScope st) f cdv A outer s H E).nox (defBody st) (tVS K g)) :
  FnOk P w K mg base CX0 (k + 1) f fd ps (spV K (fnM n nN g)):=by
 subst hn hN
 exact fnV0 F S hb
end
end VM
namespace VM
open PySem L2
open PyProof.Rows (list_addW)
noncomputable def rCatS (K : PySem.W.Frag) : R2:=fun x y H Q=>∃ l b xs zs,x = .ref l∧y = .ref b∧SqL K H l xs∧SqL K H b zs∧xs.length + zs.length≤sizeLine∧∀ p,H p = none→Q (.ref p) (upd H p (.lst (xs ++ zs)))
theorem op_catS {X : Cx} : OpR X (binaryOp .Add) (rCatS X.K):=by
 intro pins s σ H x y v u Q I rx ry h
 obtain ⟨l,b,xs,zs,rfl,rfl,hH,hB,hz,q⟩:=h
 cases rx
 cases ry
 obtain ⟨its,r,pl,z⟩:=I.list hH
 obtain ⟨its2,r2,pl2,z2⟩:=I.list hB
 have hl:=r.length
 have hl2:=r2.length
 obtain ⟨⟨cls,dd,data,sl⟩,n,ho,hc,hdd,hd⟩:=pl
 obtain ⟨⟨cls2,dd2,data2,sl2⟩,n2,ho2,hc2,hdd2,hd2⟩:=pl2
 simp only at hc hd hc2 hd2
 subst hc hd hc2 hd2
 have e : its.toArray ++ its2.toArray = (its ++ its2).toArray:=by simp
 refine concat_meets ⟨_,ho,rfl⟩ ⟨_,ho2,rfl⟩ noFill_list_add seq_list_add PySem.F.slot_list_add PySem.F.entry_list_add (PySem.F.args_list_add_2 _ _) (list_addW l b its.toArray its2.toArray n n2 dd dd2 sl sl2 (by rw [List.size_toArray,List.size_toArray]; omega)) ⟨ho,ho2,?_⟩
 rw [e]
 exact ⟨.ref _,_,I.lnew (t':=s.toks) (r.append r2) (by rw [List.length_append]; omega),rfl,q _ I.fresh⟩
noncomputable def catD : PyData→PyData→Option PyData
 | .list xs,.list ys=>@ite _ (xs.length + ys.length≤sizeLine) (Classical.propDecidable _) (some (.list (xs ++ ys))) none
 | _,_=>none
noncomputable def repD : PyData→PyData→Option PyData
 | .list xs,.int k=>@ite _ (k < 2 ^ 63∧-(2 ^ 63)≤k∧xs.length * k.toNat≤sizeLine) (Classical.propDecidable _) (some (.list (List.replicate k.toNat xs).flatten)) none
 | _,_=>none
theorem HasL.rep {K : PySem.W.Frag} {H : Hp} {ds : List PyData} {vs : List V} (h : HasL K H ds vs) : ∀ k : Nat,HasL K H (List.replicate k ds).flatten (List.replicate k vs).flatten
 | 0=>rfl
 | k + 1=>by
  rw [List.replicate_succ,List.replicate_succ,List.flatten_cons,List.flatten_cons]
  exact HasL.append (HasL.rep h k) h
section
variable {X : Cx} {a b e : Expr} {fa fb f : VE} {pos : Pos} {s : Stmt} {fs : VA}
theorem dCat (ha : PE X a (tV X.K RM fa)) (hb : PE X b (tV X.K RM fb)) : PE X (.BinOp a .Add b pos) (tV X.K RN (v2 catD fa fb)):=(pe_op op_catS ha hb).imp fun _ H Q q=>by
 obtain ⟨ioA,G,H₀,S,F,I,d,e,q⟩:=q
 obtain ⟨x,y,ex,ey,e⟩:=v2_some e
 refine ⟨ioA,G,H₀,S,F,I,x,ex,fun v F1 H1 g1 hx=>⟨ioA,G,H₀,S,F1,I.grow g1,y,ey,fun u F2 H2 g2 hy=>?_⟩⟩
 unfold catD at e
 split at e
 ·split at e
  ·rename_i hz
   cases e
   obtain ⟨p,xs,rfl,h1,h2⟩:=RM.list g2.fh (RM.grow g2 hx)
   obtain ⟨p',ys,rfl,h3,h4⟩:=RM.list g2.fh hy
   have g:=g1.trans g2
   refine ⟨p,p',xs,ys,rfl,rfl,h1,h3,by rw [← h2.length,← h4.length]; exact hz,fun z hz=>q _ F2 _ (g.trans (Grow.alloc g2.fh hz)) ⟨_,z,_,rfl,rfl,g.hh.free hz,g2.fh.free hz,upd_same,HasL.append h4 h2⟩⟩
  ·cases e
 ·cases e
theorem dRep (ha : PE X a (tV X.K RN fa)) (hb : PE X b (tV X.K RW fb)) : PE X (.BinOp a .Mult b pos) (tV X.K RN (v2 repD fa fb)):=(pe_op op_rep ha hb).imp fun _ H Q q=>by
 obtain ⟨ioA,G,H₀,S,F,I,d,e,q⟩:=q
 obtain ⟨x,y,ex,ey,e⟩:=v2_some e
 refine ⟨ioA,G,H₀,S,F,I,x,ex,fun v F1 H1 g1 hx=>⟨ioA,G,H₀,S,F1,I.grow g1,y,ey,fun u F2 H2 g2 hy=>?_⟩⟩
 unfold repD at e
 split at e
 ·split at e
  ·rename_i hz
   cases e
   obtain ⟨es,p,xs,e1,rfl,h3,h4,h5,h6⟩:=hx
   cases e1
   have eu : u = .int _:=hy
   subst eu
   have g:=g1.trans g2
   refine ⟨p,_,xs,rfl,rfl,g2.hh _ _ h5,hz.2.1,hz.1,by rw [← h6.length]; exact hz.2.2,fun z hz=>q _ F2 _ (g.trans (Grow.alloc g2.fh hz)) ⟨_,z,_,rfl,rfl,g.hh.free hz,g2.fh.free hz,upd_same,HasL.rep (h6.same g2.ff) _⟩⟩
  ·cases e
 ·cases e
end
noncomputable def inD : PyData→PyData→Option PyData
 | .int i,.list ds=>match intsOf ds with
  | some ns=>some (.bool (ns.any fun n=>n == i))
  | none=>none
 | _,_=>none
noncomputable def notInD : PyData→PyData→Option PyData
 | .int i,.list ds=>match intsOf ds with
  | some ns=>some (.bool (!(ns.any fun n=>n == i)))
  | none=>none
 | _,_=>none
theorem inV_ints {i : Int} {ns : List Int} : inV (.int i) (ns.map V.int) = ns.any fun n=>n == i:=by
 unfold inV
 rw [List.any_map]
 rfl
theorem flat_ints {ns : List Int} : (ns.map V.int).all flatV = true:=by
 rw [List.all_map]
 simp [flatV]
theorem hNotIn {K : PySem.W.Frag} : OpD K notInD (rIn K true):=by
 intro H x y dx dy d Q e hx hy q
 unfold notInD at e
 split at e
 ·split at e
  ·rename_i ns hn
   cases e
   have ex : x = .int _:=hx
   subst ex
   obtain ⟨p,xs,rfl,h1,h2⟩:=hy
   rw [intsOf_some hn] at h2
   rw [HasL.ints.mp h2] at h1
   refine ⟨p,_,rfl,.inl h1,rfl,flat_ints,?_⟩
   simp only [if_true,inV_ints]
   exact q _ fun _=>rfl
  ·cases e
 ·cases e
noncomputable abbrev xorD:=iop fun a b=>.int (Builtin.bitXor a b)
noncomputable def gOwF (i : Nat) (f : VE) : VS:=fun S=>match f S with
 | some d=>if noIo S i = true then .nxt (S.set i (some (.fr,d))) else .fail
 | none=>.fail
section
variable {X : Cx} {e : Expr} {f : VE} {pos : Pos} {s : Stmt}
theorem sOwF {i : Nat} (h : PS X s (tAsg (tV X.K RN f) (gName i))) : PS X s (tVS X.K (gOwF i f)):=PS.imp h fun D σ H q=>by
 obtain ⟨ioA,G,H₀,S,F,I,q⟩:=q
 unfold gOwF at q
 cases e : f S with
 | none=>rw [e] at q; exact q.elim
 | some d =>
  rw [e] at q
  simp only at q
  split at q
  ·refine ⟨ioA,G,H₀,S,F,I,d,e,fun v F' H' g hv=>?_⟩
   obtain ⟨F'',g2,r2⟩:=RN.frz g hv
   exact q F'' _ H' ((I.grow g2).set r2)
  ·exact q.elim
noncomputable def rClrM : V→List V→Hp→VK→Prop:=fun x vs H Q=>match x,vs with
 | .ref l,[]=>∃ ys,H l = some (.lst ys)∧Q .non (upd H l (.lst []))
 | _,_=>False
theorem mClr : MtR X "list.clear" rClrM:=fun pins s σ H x xs v us Q I rx rv q=>mt_clear pins s σ H x xs v us Q I rx rv (by
 match x,xs,q with
 | .ref l,[],⟨ys,h1,h2⟩=>exact ⟨l,ys,rfl,rfl,h1,h2⟩)
noncomputable def rPopM : V→List V→Hp→VK→Prop:=fun x vs H Q=>match x,vs with
 | .ref l,[]=>∃ ys y,H l = some (.lst ys)∧ys[ys.length - 1]? = some y∧Q y (upd H l (.lst ys.dropLast))
 | _,_=>False
theorem mPop : MtR X "list.pop" rPopM:=fun pins s σ H x xs v us Q I rx rv q=>mt_pop pins s σ H x xs v us Q I rx rv (by
 match x,xs,q with
 | .ref l,[],⟨ys,y,h1,h2,h3⟩=>exact ⟨l,ys,y,rfl,rfl,h1,h2,h3⟩)
noncomputable def gClr (i : Nat) : VS:=fun S=>match ownL S i with
 | some (t,_)=>.nxt (S.set i (some (t,.list [])))
 | none=>.fail
noncomputable def gPop (i : Nat) : VS:=fun S=>match ownL S i with
 | some (t,ds)=>if ds = [] then .fail else .nxt (S.set i (some (t,.list ds.dropLast)))
 | none=>.fail
theorem HasL.dropLast {K : PySem.W.Frag} {H : Hp} {ds : List PyData} {vs : List V} (h : HasL K H ds vs) : HasL K H ds.dropLast vs.dropLast:=by
 rw [List.dropLast_eq_take,List.dropLast_eq_take,h.length]
 exact HasL.take _ h
theorem sClr {i : Nat} (hp : PS X s (tDrop (tBM0 X.K "list" rClrM (vR i)))) : PS X s (tVS X.K (gClr i)):=PS.imp hp fun D σ H q=>by
 obtain ⟨ioA,G,H₀,S,F,I,q⟩:=q
 unfold gClr at q
 split at q
 ·rename_i t ds q1
  obtain ⟨a,xs,hv,hH,hx,nx⟩:=I.own q1
  unfold tDrop tBM0 vR
  simp only [hv]
  exact ⟨.inl ⟨rfl,xs,SqL.of hH⟩,xs,hH,q F σ _ (nx _ _ F H (Grow.refl I.sub) rfl)⟩
 ·exact q.elim
theorem sPop {i : Nat} (hp : PS X s (tDrop (tBM0 X.K "list" rPopM (vR i)))) : PS X s (tVS X.K (gPop i)):=PS.imp hp fun D σ H q=>by
 obtain ⟨ioA,G,H₀,S,F,I,q⟩:=q
 unfold gPop at q
 split at q
 ·rename_i t ds q1
  split at q
  ·exact q.elim
  ·rename_i hne
   obtain ⟨a,xs,hv,hH,hx,nx⟩:=I.own q1
   have hl:=hx.length
   have hpos : 0 < ds.length:=by
    cases ds with
    | nil=>exact absurd rfl hne
    | cons _ _=>simp
   unfold tDrop tBM0 vR
   simp only [hv]
   exact ⟨.inl ⟨rfl,xs,SqL.of hH⟩,xs,xs[xs.length - 1],hH,List.getElem?_eq_getElem _,q F σ _ (nx _ _ F H (Grow.refl I.sub) (HasL.dropLast hx))⟩
 ·exact q.elim
end
structure Bl (mg : Str→Option Value) : Prop where
 len : mg "len" = none
 list : mg "list" = none
 range : mg "range" = none
 enumerate : mg "enumerate" = none
 zip : mg "zip" = none
 abs : mg "abs" = none
 sum : mg "sum" = none
 min : mg "min" = none
 max : mg "max" = none
 int : mg "int" = none
 bool : mg "bool" = none
 tuple : mg "tuple" = none
 str : mg "str" = none
 sorted : mg "sorted" = none
 set : mg "set" = none
 isinstance : mg "isinstance" = none
structure Kits (K : PySem.W.Frag) : Prop where
 int : KitT K "int"
 bool : KitT K "bool"
 list : KitT K "list"
 tuple : KitT K "tuple"
end VM
namespace VM
open PySem L2
theorem kit_int {K : PySem.W.Frag} : KitT K "int":=⟨fun d d' h=>by
 cases d with
 | none=>cases h; kernel_rfl
 | bool _=>cases h; kernel_rfl
 | int _=>cases h; kernel_rfl
 | str _=>cases h; kernel_rfl
 | list _=>cases h; kernel_rfl
 | tuple _=>cases h; kernel_rfl
 | dict _=>cases h⟩
theorem kit_bool {K : PySem.W.Frag} : KitT K "bool":=⟨fun d d' h=>by
 cases d with
 | none=>cases h; kernel_rfl
 | bool _=>cases h; kernel_rfl
 | int _=>cases h; kernel_rfl
 | str _=>cases h; kernel_rfl
 | list _=>cases h; kernel_rfl
 | tuple _=>cases h; kernel_rfl
 | dict _=>cases h⟩
theorem kit_list {K : PySem.W.Frag} : KitT K "list":=⟨fun d d' h=>by
 cases d with
 | none=>cases h; kernel_rfl
 | bool _=>cases h; kernel_rfl
 | int _=>cases h; kernel_rfl
 | str _=>cases h; kernel_rfl
 | list _=>cases h; kernel_rfl
 | tuple _=>cases h; kernel_rfl
 | dict _=>cases h⟩
theorem kit_tuple {K : PySem.W.Frag} : KitT K "tuple":=⟨fun d d' h=>by
 cases d with
 | none=>cases h; kernel_rfl
 | bool _=>cases h; kernel_rfl
 | int _=>cases h; kernel_rfl
 | str _=>cases h; kernel_rfl
 | list _=>cases h; kernel_rfl
 | tuple _=>cases h; kernel_rfl
 | dict _=>cases h⟩
theorem kits (K : PySem.W.Frag) : Kits K:=⟨kit_int,kit_bool,kit_list,kit_tuple⟩
noncomputable def spLaw (K : PySem.W.Frag) : Sp:=fun vs H Q _=>∃ (a : Addr) (ns : List Int),vs = [.ref a]∧SqL K H a (ns.map V.int)∧ns.length≤63∧∀ H',Q (.bl true) H'
theorem law_sp {K : PySem.W.Frag} {m : FnM} (hm : ∀ ns : List Int,ns.length≤63→m [.list (ns.map .int)] = some (false,.bool true)) : ∀ vs H Q E,spLaw K vs H Q E→spV K m vs H Q E:=by
 rintro vs H Q E ⟨a,ns,rfl,hS,hl,q⟩
 refine ⟨H,[.list (ns.map .int)],Same.refl _,⟨_,_,rfl,⟨a,_,rfl,hS,HasL.ints.mpr rfl⟩,rfl⟩,false,_,hm ns hl,fun v F' H' g hv=>?_⟩
 have ev : v = .bl true:=hv
 rw [ev]; exact q H'
theorem walk {k : Nat} {x : Str} {l : PySem.W.OpenLaw} {q : Program} {loose : List Str} {XP : (Str→Option Value)→Heap→Prop} {YP : World→Heap→Prop} {d : DefRec} {K : Params→PySem.W.Frag} (hn : l.most = some 63) (hdf : d.params.defaults = []) (hr : Room k callerA)
  (hY : ∀ (w : World) (h : Heap),YP w h→(K w.params).In h)
  (F : ∀ (w : World) (mg : Str→Option Value) (fa : Addr) (h : Heap),(K w.params).In h→h.Ns mainGlobals mg→mg d.name = some (.ref fa) →
   ∃ fd : FuncData,(∀ (s : Shared) (u : Value),BindsTo s fd ⟨[u],[]⟩ [(x,u)])∧∀ base : Heap,(K w.params).In base→base.Ns mainGlobals mg→FnOk l.prog w (K w.params) mg base CX0 k fa fd [x] (spLaw (K w.params))) :
  PySem.W.WalkO q loose XP YP l.row.toRowW d [] (fun f vs=>PySem.call f vs) :=
 L2.walk_of (n:=63) (k:=k) (x:=x) (CX:=fun _=>CX0) (sp:=fun w=>spLaw (K w.params)) hn (by decide) hdf hr hY F (fun _ _ a ns hl _ hS=>⟨a,ns,rfl,hS,hl,fun _=>rfl⟩) fun _ _ _ _ _ z=>z
end VM
namespace VM
open PySem L2
noncomputable def HasIO (K : PySem.W.Frag) (F : Hp) (v0 : V) : List (Option PyData)→List V→Prop
 | [],vs=>vs = []
 | some d :: r,vs=>∃ v us,vs = v :: us∧Has K F d v∧HasIO K F v0 r us
 | none :: r,vs=>∃ us,vs = v0 :: us∧HasIO K F v0 r us
theorem HasIO.length {K : PySem.W.Frag} {F : Hp} {v0 : V} : ∀ {os : List (Option PyData)} {vs : List V},HasIO K F v0 os vs→os.length = vs.length
 | [],vs,h=>by have h' : vs = []:=h; rw [h']; rfl
 | some _ :: _,_,⟨v,us,h1,_,h3⟩=>by rw [h1]; exact congrArg (· + 1) (HasIO.length h3)
 | none :: _,_,⟨us,h1,h3⟩=>by rw [h1]; exact congrArg (· + 1) (HasIO.length h3)
theorem HasIO.at {K : PySem.W.Frag} {F : Hp} {v0 : V} : ∀ {os : List (Option PyData)} {vs : List V} {i : Nat} {o : Option PyData},HasIO K F v0 os vs→os[i]? = some o→∃ v,vs[i]? = some v∧match o with | some d=>Has K F d v | none=>v = v0
 | [],_,i,o,_,e=>by simp at e
 | some d :: _,_,0,o,⟨v,us,h1,h2,h3⟩,e=>by
  have e' : some d = o:=by simpa using e
  subst e'; rw [h1]; exact ⟨v,rfl,h2⟩
 | none :: _,_,0,o,⟨us,h1,h3⟩,e=>by
  have e' : none = o:=by simpa using e
  subst e'; rw [h1]; exact ⟨v0,rfl,rfl⟩
 | some _ :: r,_,i + 1,o,⟨v,us,h1,h2,h3⟩,e=>by
  obtain ⟨u,q1,q2⟩:=HasIO.at (i:=i) (o:=o) h3 (by simpa using e)
  rw [h1]; exact ⟨u,by simpa using q1,q2⟩
 | none :: r,_,i + 1,o,⟨us,h1,h3⟩,e=>by
  obtain ⟨u,q1,q2⟩:=HasIO.at (i:=i) (o:=o) h3 (by simpa using e)
  rw [h1]; exact ⟨u,by simpa using q1,q2⟩
noncomputable abbrev VIO:=GS→Option (List (Option PyData))
section
variable {X : Cx} {e : Expr} {es : List Expr} {f : VE} {fs : VIO} {j : Nat}
end
noncomputable abbrev FnIO:=List (Option PyData)→List PyData→Option (Bool × PyData × List PyData)
section
variable {X : Cx} {s : Stmt} {m : FnIO} {j : Nat} {fs : VIO}
end
section
variable {P : Program} {w : World} {K : PySem.W.Frag} {mg : Str→Option Value} {base : Heap}
end
end VM
namespace VM
open PySem L2
section
variable {X : Cx} {o e1 e2 : Expr} {apos cpos : Pos}
theorem peClr {to : TE} (ho : PE X o to) (hbase : attributeBase o "clear" X.env (eval o X.env) = eval o X.env:=by rfl) (hline : (apos.endLine == cpos.line) = true:=by rfl) : PE X (.Call (.Attribute o "clear" apos) [] [] cpos) (tBM0 X.K "list" rClrM to):=pe_bm0 PySem.F.plainAttrs_list PySem.F.slot_list_clear PySem.F.type_list_clear mClr ho hbase hline
theorem pePop {to : TE} (ho : PE X o to) (hbase : attributeBase o "pop" X.env (eval o X.env) = eval o X.env:=by rfl) (hline : (apos.endLine == cpos.line) = true:=by rfl) : PE X (.Call (.Attribute o "pop" apos) [] [] cpos) (tBM0 X.K "list" rPopM to):=pe_bm0 PySem.F.plainAttrs_list PySem.F.slot_list_pop PySem.F.type_list_pop mPop ho hbase hline
noncomputable def gRv (i : Nat) : VS:=fun S=>match ownL S i with
 | some (t,ds)=>.nxt (S.set i (some (t,.list ds.reverse)))
 | none=>.fail
noncomputable def insAt {α : Type} (k : Nat) (y : α) (xs : List α) : List α:=xs.take k ++ y :: xs.drop k
noncomputable def gIns (i : Nat) (fs : VA) : VS:=fun S=>match ownL S i,fs S with
 | some (t,ds),some [.int k,d]=>@ite _ (ds.length < sizeLine∧0≤k∧k < 2 ^ 62) (Classical.propDecidable _) (.nxt (S.set i (some (t,.list (insAt k.toNat d ds))))) .fail
 | _,_=>.fail
noncomputable def gPopAt (i : Nat) (fs : VA) : VS:=fun S=>match ownL S i,fs S with
 | some (t,ds),some [.int k]=>@ite _ (k.toNat < ds.length∧0≤k∧k < 2 ^ 62) (Classical.propDecidable _) (.nxt (S.set i (some (t,.list (ds.eraseIdx k.toNat))))) .fail
 | _,_=>.fail
end
end VM
namespace VM
open PySem L2
noncomputable def unlike (ns : List Int) : List Int:=PyProof.Rows.firstMet (fun i=>ns.getD i 0) ns.length
section
variable {X : Cx}
noncomputable def setLenD : PyData→Option PyData
 | .list ds=>match intsOf ds with
  | some ns=>@ite _ (ns.length≤4000) (Classical.propDecidable _) (some (.int (unlike ns).length)) none
  | none=>none
 | _=>none
noncomputable def vSetLen (f : VE) : VE:=v1 setLenD f
end
end VM
namespace VM
open PySem PyProof PyProof.Rows L2
section
variable {X : Cx} {a b c : Expr} {ta tb tc : TE} {fa fb fc : VE} {pos : Pos} {h h' : PyData→PyData→Option PyData} {r r' : R2}
theorem ptCh {op op' : CmpOp} (ho : OpR X (compareOp op) r) (ho' : OpR X (compareOp op') r') (ha : PE X a ta) (hb : PE X b tb) (hc : PE X c tc)
  (hm : lastMarks [op,op'] [b,c] = false:=by with_unfolding_all rfl) : PT X (.Compare a [op,op'] [b,c] pos) (tTM (tChM r r' ta tb tc)):=by
 intro pins s σ H Q I q
 refine isTrue_chain (thn (ha pins s σ H _ I q) fun v s1 ⟨x,H1,I1,r1,q1⟩=>test_link (thn (hb pins s1 σ H1 _ I1 q1) fun u s2 ⟨y,H2,I2,r2,q2⟩ =>
  thn (ho pins s2 σ H2 x y v u _ I2 r1 r2 q2) fun d s3 ⟨z,H3,I3,r3,q3⟩=>?_)) hm
 cases z with
 | bl k =>
  cases r3
  refine wpAny_truthy_bool ?_
  cases k with
  | false=>exact ite_ff ⟨H3,I3,q3⟩
  | true =>
   refine ite_tt (test_last (thn (hc pins s3 σ H3 _ I3 q3) fun w' s4 ⟨z',H4,I4,r4,q4⟩=>thn (ho' pins s4 σ H4 y z' u w' _ I4 r2 r4 q4) fun d' s5 ⟨z2,H5,I5,r5,q5⟩=>?_))
   cases z2 with
   | bl k2=>cases r5; exact wpAny_truthy_bool ⟨H5,I5,q5⟩
   | _=>exact False.elim q5
 | _=>exact False.elim q3
theorem cCh {op op' : CmpOp} (ho : OpR X (compareOp op) r) (hd : OpD X.K h r) (ho' : OpR X (compareOp op') r') (hd' : OpD X.K h' r') (ha : PE X a (tV X.K RW fa)) (hb : PE X b (tV X.K RW fb)) (hc : PE X c (tV X.K RW fc))
  (hm : lastMarks [op,op'] [b,c] = false:=by with_unfolding_all rfl) : PT X (.Compare a [op,op'] [b,c] pos) (tVT X.K (vB (vCh h h' fa fb fc))) :=
 PT.imp (ptCh ho ho' ha hb hc hm) fun _ _ _ q=>rdTM (fun _ q=>rdCh hd hd' q) q
end
end VM
namespace VM
open PySem PySem.Spec PyProof.Rows L2
section
variable {X : Cx} {tg : Expr}
end
end VM
namespace VM
open PySem L2
set_option exponentiation.threshold 3000
theorem lt2000 {j : Int} (h1 : -10000000000000000000000000000000000000000000000000000000000000000000000000000000000000000000000000000 < j) (h2 : j < 10000000000000000000000000000000000000000000000000000000000000000000000000000000000000000000000000000) : j.natAbs < 2 ^ 2000:=by
 have e : (10000000000000000000000000000000000000000000000000000000000000000000000000000000000000000000000000000 : Nat)≤2 ^ 2000:=Nat.le_trans (show (10000000000000000000000000000000000000000000000000000000000000000000000000000000000000000000000000000 : Nat)≤2 ^ 340 by decide +kernel) (Nat.pow_le_pow_right (by decide) (by decide))
 omega
theorem mulD_i {a b : Int} (h1 : -10000000000000000000000000000000000000000000000000000000000000000000000000000000000000000000000000000 < a) (h2 : a < 10000000000000000000000000000000000000000000000000000000000000000000000000000000000000000000000000000) (h3 : -10000000000000000000000000000000000000000000000000000000000000000000000000000000000000000000000000000 < b) (h4 : b < 10000000000000000000000000000000000000000000000000000000000000000000000000000000000000000000000000000) : mulD (.int a) (.int b) = some (.int (a * b)):=if_pos ⟨lt2000 h1 h2,lt2000 h3 h4⟩
theorem divD_i {a b : Int} (h0 : 0 < b) (h1 : b < 10000000000000000000000000000000000000000000000000000000000000000000000000000000000000000000000000000) : divD (.int a) (.int b) = some (.int (a / b)):=if_pos ⟨h0,lt2000 (by omega) h1⟩
theorem modD_i {a b : Int} (h0 : 0 < b) : modD (.int a) (.int b) = some (.int (a % b)):=if_pos h0
theorem powD_i {a b : Int} (h0 : 0≤b) (h1 : b≤1000) (h2 : 0≤a) (h3 : a < 1152921504606846976) : powD (.int a) (.int b) = some (.int (a ^ b.toNat)):=if_pos ⟨h0,h1,by omega⟩
theorem eqD_i (a b : Int) : eqD (.int a) (.int b) = some (.bool (decide (a = b))):=by
 have : PyData.depth (.int a)≤60:=by simp [PyData.depth]
 unfold eqD
 rw [if_pos this]
 simp only [PyData.eqv,Bool.beq_eq_decide_eq]
theorem neD_i (a b : Int) : neD (.int a) (.int b) = some (.bool (!decide (a = b))):=by
 have : PyData.depth (.int a)≤60:=by simp [PyData.depth]
 unfold neD
 rw [if_pos this]
 simp only [PyData.eqv,Bool.beq_eq_decide_eq]
theorem isD_n (x : PyData) : isD x .none = some (.bool (isNoneD x)):=rfl
theorem isnD_n (x : PyData) : isnD x .none = some (.bool (!isNoneD x)):=rfl
theorem forG_ok {t : VG} {g : VS} (P : Nat → GS → Prop) : ∀ (ds : List PyData) (i : Nat) (S : GS), P i S →
    (∀ (j : Nat) d S, ds[j]? = some d → P (i + j) S → ∃ S1, t d S = some S1 ∧ ∃ S2, (g S1 = .nxt S2 ∨ g S1 = .cnt S2) ∧ P (i + j + 1) S2) → ∃ S', forG t g ds S = .nxt S' ∧ P (i + ds.length) S'
  | [], i, S, h, _ => ⟨S, rfl, h⟩
  | d :: r, i, S, h, st => by
    obtain ⟨S1, e1, S2, e2, p2⟩ := st 0 d S rfl h
    obtain ⟨S', e3, p3⟩ := forG_ok P r (i + 1) S2 p2 fun j d' S' e p => by
      have e' : i + 1 + j = i + (j + 1) := by omega
      rw [e'] at p ⊢
      exact st (j + 1) d' S' (by simpa using e) p
    refine ⟨S', ?_, by rw [List.length_cons]; have e' : i + 1 + r.length = i + (r.length + 1) := by omega
                       rw [← e']; exact p3⟩
    simp only [forG, e1]
    rcases e2 with e2 | e2 <;> (rw [e2]; exact e3)
theorem forG_fun {t : VG} {g : VS} (f : Nat→GS) : ∀ (ds : List PyData) (i : Nat),
  (∀ (j : Nat) d,ds[j]? = some d→∃ S1,t d (f (i + j)) = some S1∧g S1 = .nxt (f (i + j + 1)))→forG t g ds (f i) = .nxt (f (i + ds.length))
 | [],i,_=>rfl
 | d :: r,i,st=>by
  obtain ⟨S1,e1,e2⟩:=st 0 d rfl
  have e3:=forG_fun f r (i + 1) fun j d' e=>by
   have e' : i + 1 + j = i + (j + 1):=by omega
   rw [e']
   exact st (j + 1) d' (by simpa using e)
  simp only [forG]
  rw [show i + 0 = i from rfl] at e1
  rw [e1]
  simp only
  rw [e2]
  simp only
  rw [show i + 0 + 1 = i + 1 from rfl,e3,List.length_cons]
  have e' : i + 1 + r.length = i + (r.length + 1):=by omega
  rw [e']
theorem lcD_map {t : VG} {fc : VT} {fe : VE} {S : GS} {f : PyData→PyData} : ∀ {ds : List PyData},(∀ d∈ds,∃ S2,t d S = some S2∧fc S2 = some true∧fe S2 = some (f d))→lcD t fc fe S ds = some (ds.map f)
 | [],_=>rfl
 | d :: r,h=>by
  obtain ⟨S2,e1,e2,e3⟩:=h d List.mem_cons_self
  have ih:=lcD_map (ds:=r) (f:=f) fun x hx=>h x (List.mem_cons_of_mem _ hx)
  simp only [lcD,e1,e2,e3,ih,List.map_cons]
theorem lcD_filter {t : VG} {fc : VT} {fe : VE} {S : GS} {p : PyData→Bool} {f : PyData→PyData} : ∀ {ds : List PyData},(∀ d∈ds,∃ S2,t d S = some S2∧fc S2 = some (p d)∧(p d = true→fe S2 = some (f d)))→lcD t fc fe S ds = some ((ds.filter p).map f)
 | [],_=>rfl
 | d :: r,h=>by
  obtain ⟨S2,e1,e2,e3⟩:=h d List.mem_cons_self
  have ih:=lcD_filter (ds:=r) (f:=f) (p:=p) fun x hx=>h x (List.mem_cons_of_mem _ hx)
  cases q : p d with
  | true=>simp only [lcD,e1,e2,q,e3 q,ih,List.filter_cons,if_true,List.map_cons]
  | false=>simp only [lcD,e1,e2,q,ih,List.filter_cons,Bool.false_eq_true,if_false]
theorem rangeD_get {lo : Int} {n j : Nat} {d : PyData} (h : (rangeD lo n)[j]? = some d) : j < n∧d = .int (lo + j):=by
 unfold rangeD at h
 rw [List.getElem?_map] at h
 by_cases hj : j < n
 ·rw [List.getElem?_range hj] at h
  cases h
  exact ⟨hj,rfl⟩
 ·rw [List.getElem?_eq_none (by simp; omega)] at h
  cases h
theorem rangeD_length (lo : Int) (n : Nat) : (rangeD lo n).length = n:=by simp [rangeD]
theorem cutD_map {α : Type} (f : α→PyData) (xs : List α) (lo hi : Option Int) : cutD (xs.map f) lo hi = ((xs.drop (HT.sIx xs.length 0 lo)).take (HT.sIx xs.length xs.length hi - HT.sIx xs.length 0 lo)).map f:=by
 unfold cutD
 rw [List.length_map,List.map_take,List.map_drop]
end VM
namespace VM
open PySem L2
noncomputable def bSeq (o : Out) (g : VS) : Out:=match o with
 | .nxt S=>g S
 | o=>o
noncomputable def bIf (o : Option Bool) (g1 g2 : VS) (S : GS) : Out:=match o with
 | some true=>g1 S
 | some false=>g2 S
 | none=>.fail
noncomputable def bAnd (o : Option Bool) (g : VT) (S : GS) : Option Bool:=match o with
 | some true=>g S
 | some false=>some false
 | none=>none
noncomputable def bOr (o : Option Bool) (g : VT) (S : GS) : Option Bool:=match o with
 | some true=>some true
 | some false=>g S
 | none=>none
noncomputable def bAndE (o : Option PyData) (g : VE) (S : GS) : Option PyData:=match o with
 | some (.bool true)=>g S
 | some (.bool false)=>some (.bool false)
 | _=>none
noncomputable def bOrE (o : Option PyData) (g : VE) (S : GS) : Option PyData:=match o with
 | some (.bool true)=>some (.bool true)
 | some (.bool false)=>g S
 | _=>none
noncomputable def bIfE (o : Option Bool) (f g : VE) (S : GS) : Option PyData:=match o with
 | some true=>f S
 | some false=>g S
 | none=>none
noncomputable def b2 (h : PyData→PyData→Option PyData) (o : Option PyData) (fb : VE) (S : GS) : Option PyData:=match o with
 | some x=>(match fb S with
  | some y=>h x y
  | none=>none)
 | none=>none
noncomputable def b1 (h : PyData→Option PyData) (o : Option PyData) : Option PyData:=match o with
 | some y=>h y
 | none=>none
noncomputable def bC (o : Option PyData) (fs : VA) (S : GS) : Option (List PyData):=match o with
 | some d=>(match fs S with
  | some ds=>some (d :: ds)
  | none=>none)
 | none=>none
noncomputable def bC1 (d : PyData) (o : Option (List PyData)) : Option (List PyData):=match o with
 | some ds=>some (d :: ds)
 | none=>none
noncomputable def bAs (o : Option PyData) (t : VG) (S : GS) : Out:=match o with
 | some d=>(match t d S with
  | some S'=>.nxt S'
  | none=>.fail)
 | none=>.fail
noncomputable def bNx (o : Option GS) : Out:=match o with
 | some S'=>.nxt S'
 | none=>.fail
noncomputable def bG (o : Option GS) (u : VGs) (r : List PyData) : Option GS:=match o with
 | some S1=>u r S1
 | none=>none
noncomputable def bRes (o : Option (Bool × PyData)) : Option PyData:=match o with
 | some (_,d)=>some d
 | none=>none
noncomputable def bResN (o : Option (Bool × PyData)) : Option PyData:=match o with
 | some (true,d)=>some d
 | _=>none
noncomputable def bIm : Bool→PyData→Option PyData
 | true,d=>some d
 | false,_=>none
theorem bIm_eq (b : Bool) (d : PyData) : bIm b d = if b = true then some d else none:=by cases b <;> rfl
theorem bIm_t (d : PyData) : bIm true d = some d:=rfl
noncomputable def bResW (o : Option (Bool × PyData)) : Option PyData:=match o with
 | some (b,d)=>bIm (immR b d) d
 | none=>none
noncomputable def bResWN (o : Option (Bool × PyData)) : Option PyData:=match o with
 | some (true,.list es)=>bIm (immL es) (.list es)
 | _=>none
noncomputable def bCall (m : FnM) (o : Option (List PyData)) : Option PyData:=match o with
 | some ds=>bRes (m ds)
 | none=>none
noncomputable def bCallN (m : FnM) (o : Option (List PyData)) : Option PyData:=match o with
 | some ds=>bResN (m ds)
 | none=>none
noncomputable def bCallW (m : FnM) (o : Option (List PyData)) : Option PyData:=match o with
 | some ds=>bResW (m ds)
 | none=>none
noncomputable def bCallWN (m : FnM) (o : Option (List PyData)) : Option PyData:=match o with
 | some ds=>bResWN (m ds)
 | none=>none
noncomputable def bFor (o : Option (List PyData)) (t : VG) (g : VS) (S : GS) : Out:=match o with
 | some ds=>forG t g ds S
 | none=>.fail
noncomputable def bFn (o : Out) : Option (Bool × PyData):=match o with
 | .ret _ b d=>some (b,d)
 | .nxt _=>some (false,.none)
 | _=>none
noncomputable def bCh (h' : PyData→PyData→Option PyData) (y : PyData) (o : Option PyData) (fc : VE) (S : GS) : Option PyData:=match o with
 | some (.bool true)=>(match fc S with
  | some z=>h' y z
  | none=>none)
 | some (.bool false)=>some (.bool false)
 | _=>none
section
variable {g g1 g2 : VS} {S : GS} {t : VG} {u : VGs} {f fa fb fc : VE} {c c2 : VT} {fs : VA} {h h' : PyData→PyData→Option PyData} {d x y : PyData} {r : List PyData} {m : FnM} {b : Bool}
theorem gSeq_eq : gSeq g1 g2 S = bSeq (g1 S) g2:=rfl
theorem bSeq_n : bSeq (.nxt S) g = g S:=rfl
theorem bSeq_r : bSeq (.ret S b d) g = .ret S b d:=rfl
theorem bSeq_b : bSeq (.brk S) g = .brk S:=rfl
theorem bSeq_c : bSeq (.cnt S) g = .cnt S:=rfl
theorem gIf_eq : gIf c g1 g2 S = bIf (c S) g1 g2 S:=rfl
theorem bIf_t : bIf (some true) g1 g2 S = g1 S:=rfl
theorem bIf_f : bIf (some false) g1 g2 S = g2 S:=rfl
theorem tAnd_eq : tAnd2 c c2 S = bAnd (c S) c2 S:=rfl
theorem bAnd_t : bAnd (some true) c S = c S:=rfl
theorem bAnd_f : bAnd (some false) c S = some false:=rfl
theorem tOr_eq : tOr2 c c2 S = bOr (c S) c2 S:=rfl
theorem bOr_t : bOr (some true) c S = some true:=rfl
theorem bOr_f : bOr (some false) c S = c S:=rfl
theorem vAnd_eq : vAnd fa fb S = bAndE (fa S) fb S:=rfl
theorem bAndE_t : bAndE (some (.bool true)) f S = f S:=rfl
theorem bAndE_f : bAndE (some (.bool false)) f S = some (.bool false):=rfl
theorem vOr_eq : vOr fa fb S = bOrE (fa S) fb S:=rfl
theorem bOrE_t : bOrE (some (.bool true)) f S = some (.bool true):=rfl
theorem bOrE_f : bOrE (some (.bool false)) f S = f S:=rfl
theorem vIf_eq : vIf c fa fb S = bIfE (c S) fa fb S:=rfl
theorem bIfE_t : bIfE (some true) fa fb S = fa S:=rfl
theorem bIfE_f : bIfE (some false) fa fb S = fb S:=rfl
theorem v2_eq : v2 h fa fb S = b2 h (fa S) fb S:=rfl
theorem b2_s : b2 h (some x) fb S = b1 (h x) (fb S):=rfl
theorem b1_s {k : PyData→Option PyData} : b1 k (some y) = k y:=rfl
theorem v1_eq {k : PyData→Option PyData} : v1 k f S = b1 k (f S):=rfl
theorem aC_eq : aC f fs S = bC (f S) fs S:=rfl
theorem bC_s : bC (some d) fs S = bC1 d (fs S):=rfl
theorem bC1_s : bC1 d (some r) = some (d :: r):=rfl
theorem gAs_eq : gAs f t S = bAs (f S) t S:=rfl
theorem bAs_s : bAs (some d) t S = bNx (t d S):=rfl
theorem bNx_s : bNx (some S) = .nxt S:=rfl
theorem gC_eq : gC t u (d :: r) S = bG (t d S) u r:=rfl
theorem bG_s : bG (some S) u r = u r S:=rfl
theorem vCall_eq : vCall m fs S = bCall m (fs S):=by unfold vCall bCall bRes; rfl
theorem bCall_s {ds : List PyData} : bCall m (some ds) = bRes (m ds):=rfl
theorem vCallN_eq : vCallN m fs S = bCallN m (fs S):=by unfold vCallN bCallN bResN; rfl
theorem bCallN_s {ds : List PyData} : bCallN m (some ds) = bResN (m ds):=rfl
theorem vCallW_eq : vCallW m fs S = bCallW m (fs S):=by unfold vCallW bCallW bResW; simp only [bIm_eq] <;> rfl
theorem bCallW_s {ds : List PyData} : bCallW m (some ds) = bResW (m ds):=rfl
theorem bResW_s : bResW (some (b,d)) = bIm (immR b d) d:=rfl
theorem vCallWN_eq : vCallWN m fs S = bCallWN m (fs S):=by unfold vCallWN bCallWN bResWN; simp only [bIm_eq] <;> rfl
theorem bCallWN_s {ds : List PyData} : bCallWN m (some ds) = bResWN (m ds):=rfl
theorem bResWN_s : bResWN (some (true,.list r)) = bIm (immL r) (.list r):=rfl
theorem bRes_s : bRes (some (b,d)) = some d:=rfl
theorem bResN_s : bResN (some (true,d)) = some d:=rfl
theorem fnM_eq {n nN : Nat} {ds : List PyData} (e : ds.length = n) : fnM n nN g ds = bFn (g (ini nN ds)):=by unfold fnM; rw [if_pos e]; rfl
theorem bFn_r : bFn (.ret S b d) = some (b,d):=rfl
theorem bFn_n : bFn (.nxt S) = some (false,.none):=rfl
theorem vCh_eq : vCh h h' fa fb fc S = (match fa S with
 | some x=>(match fb S with
  | some y=>bCh h' y (h x y) fc S
  | none=>none)
 | none=>none):=rfl
theorem bCh_t : bCh h' y (some (.bool true)) fc S = b1 (h' y) (fc S):=rfl
theorem bCh_f : bCh h' y (some (.bool false)) fc S = some (.bool false):=rfl
theorem atI_0 {α : Type} (x : α) (r : List α) : atI (x :: r) 0 = some x:=atI_nat (j:=0) rfl
theorem atI_1 {α : Type} (x y : α) (r : List α) : atI (x :: y :: r) 1 = some y:=atI_nat (j:=1) rfl
theorem atI_2 {α : Type} (x y z : α) (r : List α) : atI (x :: y :: z :: r) 2 = some z:=atI_nat (j:=2) rfl
theorem atI_3 {α : Type} (x y z w : α) (r : List α) : atI (x :: y :: z :: w :: r) 3 = some w:=atI_nat (j:=3) rfl
theorem gFor_eq {fi : VA} : gFor fi t g S = bFor (fi S) t g S:=rfl
theorem bFor_s {ds : List PyData} : bFor (some ds) t g S = forG t g ds S:=rfl
end
end VM
namespace VM
open PySem L2
noncomputable def bL (o : Option (List PyData)) : Option PyData:=match o with
 | some es=>some (.list es)
 | none=>none
noncomputable def bLC (o : Option (List PyData)) (cap : List (Option Nat)) (t : VG) (fc : VT) (fe : VE) (S : GS) : Option PyData:=match o with
 | some ds=>@ite _ (capFr S cap = true∧ds.length < sizeLine) (Classical.propDecidable _) (bL (lcD t fc fe (capG cap S) ds)) none
 | none=>none
noncomputable def bLCW (o : Option (List PyData)) (cap : List (Option Nat)) (t : VG) (fc : VT) (fe : VE) (S : GS) : Option PyData:=match o with
 | some ds=>@ite _ (ds.length < sizeLine) (Classical.propDecidable _) (bL (lcD t fc (vImm fe) (capG cap S) ds)) none
 | none=>none
noncomputable def bOw (o : Option PyData) (b : Bool) (i : Nat) (t : Tg) (S : GS) : Out:=match o with
 | some d=>if b = true then .nxt (S.set i (some (t,d))) else .fail
 | none=>.fail
section
variable {S : GS} {cap : List (Option Nat)} {t : VG} {fc : VT} {fe f : VE} {fi : VA} {ds es : List PyData} {i : Nat} {d : PyData} {T : Tg} {b : Bool}
theorem vLC_eq : vLC fi cap t fc fe S = bLC (fi S) cap t fc fe S:=by unfold vLC bLC bL; rfl
theorem bLC_s (h1 : capFr S cap = true) (h2 : ds.length < sizeLine) : bLC (some ds) cap t fc fe S = bL (lcD t fc fe (capG cap S) ds):=if_pos ⟨h1,h2⟩
theorem vLCW_eq : vLCW fi cap t fc fe S = bLCW (fi S) cap t fc fe S:=by unfold vLCW bLCW bL; rfl
theorem bLCW_s (h2 : ds.length < sizeLine) : bLCW (some ds) cap t fc fe S = bL (lcD t fc (vImm fe) (capG cap S) ds):=if_pos h2
theorem bL_s : bL (some es) = some (.list es):=rfl
theorem gOw_eq : gOw i f S = bOw (f S) (noIo S i) i .ow S:=rfl
theorem gOwF_eq : gOwF i f S = bOw (f S) (noIo S i) i .fr S:=rfl
theorem bOw_s : bOw (some d) true i T S = .nxt (S.set i (some (T,d))):=rfl
noncomputable def bImm (o : Option PyData) : Option PyData:=match o with
 | some d=>bIm (imm d) d
 | none=>none
theorem vImm_eq : vImm f S = bImm (f S):=by unfold vImm bImm; simp only [bIm_eq] <;> rfl
theorem bImm_s : bImm (some d) = bIm (imm d) d:=rfl
theorem size_big {n : Nat} (h : n≤16000000) : n < sizeLine:=by have e : sizeLine = 16777216:=rfl; omega
end
end VM
namespace VM
open PySem L2
noncomputable def ob (v : Option PyData) : Option (Tg × PyData):=v.map fun d=>(Tg.fr,d)
theorem ob_some (d : PyData) : ob (some d) = some (Tg.fr,d):=rfl
theorem ob_none : ob none = none:=rfl
theorem noIo_ob (o : Option PyData) : (match ob o with | some (.io,_)=>false | _=>true) = true:=by cases o <;> rfl
theorem atI_of {α : Type} (f : α→PyData) {xs : List α} {i : Nat} {x : α} (h : xs[i]? = some x) : atI (xs.map f) (i : Int) = some (f x):=atI_nat (by rw [List.getElem?_map,h]; rfl)
theorem ixN_of {n i : Nat} (h : i < n) : ixN n (i : Int) = some i:=by
 unfold ixN
 rw [if_pos (by omega),if_pos (by omega)]
 simp
end VM
namespace VM
open PySem L2
theorem addD_i (a b : Int) : addD (.int a) (.int b) = some (.int (a + b)):=rfl
theorem subD_i (a b : Int) : subD (.int a) (.int b) = some (.int (a - b)):=rfl
theorem ltD_i (a b : Int) : ltD (.int a) (.int b) = some (.bool (decide (a < b))):=rfl
theorem leD_i (a b : Int) : leD (.int a) (.int b) = some (.bool (decide (a≤b))):=rfl
theorem gtD_i (a b : Int) : gtD (.int a) (.int b) = some (.bool (decide (b < a))):=rfl
theorem geD_i (a b : Int) : geD (.int a) (.int b) = some (.bool (decide (b≤a))):=rfl
theorem xorD_i (a b : Int) : xorD (.int a) (.int b) = some (.int (Builtin.bitXor a b)):=rfl
noncomputable def nio : Option (Option (Tg × PyData))→Bool
 | some (some (.io,_))=>false
 | _=>true
theorem noIo_eq (S : GS) (i : Nat) : noIo S i = nio (S[i]?):=rfl
theorem nio_ob (o : Option PyData) : nio (some (ob o)) = true:=by cases o <;> rfl
theorem nio_n : nio (some none) = true:=rfl
theorem nio_fr (d : PyData) : nio (some (some (.fr,d))) = true:=rfl
theorem nio_ow (d : PyData) : nio (some (some (.ow,d))) = true:=rfl
theorem rep_one {α : Type} (x : α) (n : Nat) : (List.replicate n [x]).flatten = List.replicate n x:=by
 induction n with
 | zero=>rfl
 | succ k ih=>rw [List.replicate_succ,List.flatten_cons,ih,List.replicate_succ]; rfl
theorem repD_one (x : PyData) {n : Nat} (h : n≤16000000) : repD (.list [x]) (.int (n : Int)) = some (.list (List.replicate n x)):=by
 unfold repD
 have e : sizeLine = 16777216:=rfl
 simp only [List.length_cons,List.length_nil,Int.toNat_natCast]
 rw [if_pos ⟨by omega,by omega,by omega⟩,rep_one]
end VM
namespace VM
open PySem L2
theorem isi_list (ds : List PyData) : isiD "list" (.list ds) = some (.bool true):=by simp [isiD,tyD]
theorem isi_int (i : Int) : isiD "int" (.int i) = some (.bool true):=by simp [isiD,tyD]
theorem isi_bool_i (i : Int) : isiD "bool" (.int i) = some (.bool false):=by simp [isiD,tyD]
theorem isi_tuple (ds : List PyData) : isiD "tuple" (.tuple ds) = some (.bool true):=by simp [isiD,tyD]
end VM
namespace L2
open PySem PySem.Spec PyProof.Rows
section
variable {κ : Type} [DecidableEq κ]
noncomputable def valV (kvs : List (κ × V)) (k : κ) : Option V:=(kvs.find? fun kv=>decide (kv.1 = k)).map (·.2)
noncomputable def putK (kvs : List (κ × V)) (k : κ) (v : V) : List (κ × V) :=
 if (kvs.any fun kv=>decide (kv.1 = k)) = true then kvs.map (fun kv=>if kv.1 = k then (kv.1,v) else kv) else kvs ++ [(k,v)]
noncomputable def dropK (kvs : List (κ × V)) (k : κ) : List (κ × V):=kvs.filter fun kv=>decide (kv.1 ≠ k)
theorem RelO.getD {o : Option V} {u : Option Value} {d : V} {d' : Value} (r : RelO o u) (rd : RelV d d') : RelV (o.getD d) (u.getD d'):=by
 cases o with
 | none=>cases u with
  | none=>exact rd
  | some _=>exact (show False from r).elim
 | some _=>cases u with
  | none=>exact (show False from r).elim
  | some _=>exact r
theorem KV.any {kvs : List (κ × V)} {vs : List (κ × Value)} (r : KV kvs vs) (k : κ) : (kvs.any fun kv=>decide (kv.1 = k)) = vs.any fun kv=>decide (kv.1 = k):=by
 unfold KV at r
 induction r with
 | nil=>rfl
 | cons h t ih=>rw [List.any_cons,List.any_cons,ih,h.1]
theorem KV.drop {kvs : List (κ × V)} {vs : List (κ × Value)} (r : KV kvs vs) (k : κ) : KV (dropK kvs k) (without vs k):=by
 unfold KV at r ⊢
 unfold dropK without
 induction r with
 | nil=>exact .nil
 | @cons p q ps qs h t ih =>
  obtain ⟨h1,h2⟩:=h
  rw [List.filter_cons,List.filter_cons]
  by_cases e : p.1 = k
  ·have a : ¬ decide (p.1 ≠ k) = true:=by simp [e]
   have b : ¬ decide (q.1 ≠ k) = true:=by simp [h1.symm.trans e]
   rw [if_neg a,if_neg b]; exact ih
  ·have e' : ¬ q.1 = k:=fun z=>e (h1.trans z)
   have a : decide (p.1 ≠ k) = true:=by simp [e]
   have b : decide (q.1 ≠ k) = true:=by simp [e']
   rw [if_pos a,if_pos b]; exact .cons ⟨h1,h2⟩ ih
theorem KV.length {kvs : List (κ × V)} {vs : List (κ × Value)} (r : KV kvs vs) : kvs.length = vs.length:=Paired.length r
end
noncomputable abbrev KT (H : Hp) : List (List Key × V)→List (List Key × Addr × Value)→Prop:=Paired fun p q=>p.1 = q.1∧H q.2.1 = some (.tup (p.1.map kV))∧RelV p.2 q.2.2
section
variable {P : Program} {w : World} {H : Hp} {h : Heap} {a : Addr}
end
noncomputable def DGet (H : Hp) (a : Addr) (y : V) (r : Option V) : Prop :=
 (∃ kvs k,Rd H a (.dK kvs)∧y = kV k∧r = valV kvs k)∨∃ kvs k b,Rd H a (.dT kvs)∧y = .ref b∧H b = some (.tup (k.map kV))∧r = valV kvs k
noncomputable def DPut (H : Hp) (a : Addr) (y v : V) (H' : Hp) : Prop :=
 (∃ kvs k,H a = some (.dK kvs)∧y = kV k∧kvs.length < sizeLine∧H' = upd H a (.dK (putK kvs k v))) ∨
 ∃ kvs k b,H a = some (.dT kvs)∧y = .ref b∧H b = some (.tup (k.map kV))∧kvs.length < sizeLine∧H' = upd H a (.dT (putK kvs k v))
theorem DGet.k {H : Hp} {a : Addr} {kvs : List (Key × V)} {k : Key} (e : H a = some (.dK kvs)) : DGet H a (kV k) (valV kvs k):=.inl ⟨kvs,k,.inl e,rfl,rfl⟩
theorem DGet.t {H : Hp} {a b : Addr} {kvs : List (List Key × V)} {k : List Key} (e : H a = some (.dT kvs)) (eb : H b = some (.tup (k.map kV))) : DGet H a (.ref b) (valV kvs k):=.inr ⟨kvs,k,b,.inl e,rfl,eb,rfl⟩
theorem DPut.k {H : Hp} {a : Addr} {kvs : List (Key × V)} {k : Key} {v : V} (e : H a = some (.dK kvs)) (hl : kvs.length < sizeLine) : DPut H a (kV k) v (upd H a (.dK (putK kvs k v))):=.inl ⟨kvs,k,e,rfl,hl,rfl⟩
theorem DPut.t {H : Hp} {a b : Addr} {kvs : List (List Key × V)} {k : List Key} {v : V} (e : H a = some (.dT kvs)) (eb : H b = some (.tup (k.map kV))) (hl : kvs.length < sizeLine) :
  DPut H a (.ref b) v (upd H a (.dT (putK kvs k v))):=.inr ⟨kvs,k,b,e,rfl,eb,hl,rfl⟩
section
variable {X : Cx} {pins : List (Addr × Obj)} {σ : St} {H : Hp} {s : Shared} {a : Addr} {y v : V} {u r : Value} {o : Option V} {A : Around} {E : Value→Shared→Prop}
end
section
variable {X : Cx} {pins : List (Addr × Obj)} {σ : St} {H : Hp} {s : Shared} {a : Addr} {kvs : List (Key × V)} {k : Key} {u : Value} {A : Around} {E : Value→Shared→Prop}
end
section
variable {X : Cx} {o i e value : Expr} {pos pos' tpos : Pos} {td ty tv : TE}
end
section
variable {X : Cx} {pos : Pos}
end
structure M1 (X : Cx) (o : Expr) (m : Str) (apos : Pos) (e : Expr) (cpos : Pos) : Prop where
 base : attributeBase o m X.env (eval o X.env) = eval o X.env
 few : ((backTo cpos (starEach [e] X.env)).all (fun x=>!x.1) && (backToKw cpos (keywordEach [] X.env)).all (fun x=>x.1.isSome)
  && decide (([e] : List Expr).length + ([] : List Keyword).length + (if ([] : List Keyword).isEmpty then 0 else 1) < 30)) = true
 line : (apos.endLine == cpos.line) = true
 trees : backTo cpos (starEach [e] X.env) = [(false,eval e X.env)]
structure M2 (X : Cx) (o : Expr) (m : Str) (apos : Pos) (e f : Expr) (cpos : Pos) : Prop where
 base : attributeBase o m X.env (eval o X.env) = eval o X.env
 few : ((backTo cpos (starEach [e,f] X.env)).all (fun x=>!x.1) && (backToKw cpos (keywordEach [] X.env)).all (fun x=>x.1.isSome)
  && decide (([e,f] : List Expr).length + ([] : List Keyword).length + (if ([] : List Keyword).isEmpty then 0 else 1) < 30)) = true
 line : (apos.endLine == cpos.line) = true
 trees : backTo cpos (starEach [e,f] X.env) = [(false,eval e X.env),(false,eval f X.env)]
section
variable {X : Cx} {pins : List (Addr × Obj)} {σ : St} {H : Hp} {s : Shared} {a : Addr} {y d : V} {u r : Value} {o : Option V} {A : Around} {E : Value→Shared→Prop}
end
section
variable {X : Cx} {o e f : Expr} {apos cpos : Pos} {td ty tx : TE}
end
section
variable {X : Cx} {pins : List (Addr × Obj)} {σ : St} {H : Hp} {s : Shared} {a : Addr} {kvs : List (Key × V)} {A : Around} {E : Value→Shared→Prop}
end
section
variable {X : Cx} {pins : List (Addr × Obj)} {σ : St} {H : Hp} {s : Shared} {a : Addr} {y : V} {u : Value} {A : Around} {E : Value→Shared→Prop}
end
end L2
namespace VM
theorem len1 {α : Type} : ∀ {us : List α},us.length = 1→∃ x0,us = [x0]
 | [x0],_=>⟨x0,rfl⟩
 | [],h=>by cases h
 | _ :: _ :: _,h=>by cases h
theorem len2 {α : Type} : ∀ {us : List α},us.length = 2→∃ x0 x1,us = [x0,x1]
 | [],h=>by cases h
 | x0 :: r,h=>by
  obtain ⟨x1,rfl⟩:=len1 (us:=r) (by simpa using h)
  exact ⟨x0,x1,rfl⟩
theorem len3 {α : Type} : ∀ {us : List α},us.length = 3→∃ x0 x1 x2,us = [x0,x1,x2]
 | [],h=>by cases h
 | x0 :: r,h=>by
  obtain ⟨x1,x2,rfl⟩:=len2 (us:=r) (by simpa using h)
  exact ⟨x0,x1,x2,rfl⟩
end VM
namespace VM
open PySem L2 PySem.W PySem.Calls PyProof.Rows
section
variable {X : Cx}
end
end VM
namespace VM
open PySem L2
noncomputable abbrev Pq:=Int × Int × Int × Int
noncomputable def pD (q : Pq) : PyData:=.tuple [.int q.1,.int q.2.1,.int q.2.2.1,.int q.2.2.2]
noncomputable def psD (ps : List Pq) : PyData:=.list (ps.map pD)
noncomputable def pOf : PyData→Option Pq
 | .tuple [.int a,.int b,.int w,.int l]=>some (a,b,w,l)
 | _=>none
noncomputable def psOf : List PyData→Option (List Pq)
 | []=>some []
 | d :: r=>match pOf d with
  | some q=>(match psOf r with
   | some qs=>some (q :: qs)
   | none=>none)
  | none=>none
theorem pOf_pD (q : Pq) : pOf (pD q) = some q:=rfl
theorem psOf_map (ps : List Pq) : psOf (ps.map pD) = some ps:=by
 induction ps with
 | nil=>rfl
 | cons q r ih=>simp only [List.map_cons,psOf,pOf_pD,ih]
theorem pOf_some {d : PyData} {q : Pq} (h : pOf d = some q) : d = pD q:=by
 unfold pOf at h
 split at h
 ·cases h; rfl
 ·cases h
theorem psOf_some : ∀ {ds : List PyData} {ps : List Pq},psOf ds = some ps→ds = ps.map pD
 | [],_,h=>by cases h; rfl
 | d :: r,ps,h=>by
  unfold psOf at h
  split at h
  ·rename_i q e
   split at h
   ·rename_i qs e2
    cases h
    rw [pOf_some e,psOf_some e2]; rfl
   ·cases h
  ·cases h
structure MI (K : PySem.W.Frag) (G H₀ : Hp) (D : Addr) (bs : List Addr) (f : Nat→List PyData) (H : Hp) : Prop where
 ex : ∃ F,Same H₀ H∧Same G F∧Same F H∧(∀ a o,F a = some o→G a = some o∨imo o = true)∧F D = none∧H₀ D = none∧H D = some (.lst (bs.map V.ref))∧D ∉ bs∧bs.Nodup ∧
  (∀ b∈bs,F b = none∧H₀ b = none)∧∀ (u : Nat) b,bs[u]? = some b→∃ ys,H b = some (.lst ys)∧HasL K F (f u) ys
section
variable {K : PySem.W.Frag} {G H₀ H : Hp} {D : Addr} {bs : List Addr} {f f' : Nat→List PyData}
end
end VM
namespace VM
open PySem PySem.Spec PyProof.Rows L2
theorem hasL_of {K : PySem.W.Frag} {H : Hp} : ∀ {ds : List PyData} {vs : List V},ds.length = vs.length→(∀ (j : Nat) d v,ds[j]? = some d→vs[j]? = some v→Has K H d v)→HasL K H ds vs
 | [],[],_,_=>rfl
 | [],_ :: _,e,_=>by simp at e
 | _ :: _,[],e,_=>by simp at e
 | d :: ds,v :: vs,e,h=>⟨v,vs,rfl,h 0 d v rfl rfl,hasL_of (by simpa using e) fun j d' v' a b=>h (j + 1) d' v' a b⟩
noncomputable def forget (js : List Nat) (S : GS) : GS:=js.foldl (fun S j=>S.set j none) S
section
variable {K : PySem.W.Frag} {ioA : Nat→Option Addr} {G H₀ F H : Hp} {S : GS} {σ σ' : St}
theorem forget_get : ∀ {js : List Nat} {S : GS} {k : Nat} {x : Tg × PyData},(forget js S)[k]? = some (some x)→k ∉ js∧S[k]? = some (some x)
 | [],_,_,_,h=>⟨by simp,h⟩
 | j :: js,S,k,x,h=>by
  obtain ⟨h1,h2⟩:=forget_get (js:=js) (S:=S.set j none) h
  obtain ⟨h3,h4⟩:=set_none_get h2
  exact ⟨fun z=>by rcases List.mem_cons.mp z with z | z; exact h3 z; exact h1 z,h4⟩
theorem forget_len : ∀ (js : List Nat) (S : GS),(forget js S).length = S.length
 | [],_=>rfl
 | j :: js,S=>by
  show (forget js (S.set j none)).length = _
  rw [forget_len js,List.length_set]
theorem VI.forget (I : VI K ioA G H₀ S F σ H) {js : List Nat} (hl : σ'.length = σ.length) (h : ∀ k,k ∉ js→σ'[k]? = σ[k]?) : VI K ioA G H₀ (forget js S) F σ' H where
 pl:=I.pl
 len:=by rw [forget_len,hl]; exact I.len
 same:=I.same
 gf:=I.gf
 new:=I.new
 sub:=I.sub
 slot:=fun k t d e=>by
  obtain ⟨h1,h2⟩:=forget_get e
  rw [h k h1]
  exact I.slot k t d h2
 inj:=fun j k t t' d d' v e1 e2 n1 n2 v1 v2=>by
  obtain ⟨a1,a2⟩:=forget_get e1
  obtain ⟨b1,b2⟩:=forget_get e2
  rw [h j a1] at v1
  rw [h k b1] at v2
  exact I.inj j k t t' d d' v a2 b2 n1 n2 v1 v2
end
theorem vR_at {i : Nat} {σ : St} {H : Hp} {Q : VK} {v : V} (e : σ[i]? = some (some v)) (q : Q v H) : vR i σ H Q:=by unfold vR; rw [e]; exact q
section
variable {X : Cx} {s1 s2 s3 : Stmt} {rest : List Stmt} {g : VS} {ip is_ iw ia ib iwd il idue : Nat}
end
end VM
namespace ST
open PySem PyProof.Rows
set_option autoImplicit false
noncomputable abbrev SM:=StateT SortSt Sem
noncomputable def gallop' : Bool→Keyed→Array Keyed→Nat→Nat→Nat→SM (Option Nat):=sortPriv% PySem.Builtin.gallop
noncomputable def bey (l : Bool) (key : Keyed) (arr : Array Keyed) (b i : Nat) : SM (Option Bool):=do
 let x ← elem' arr (b + i)
 if l then lt' x key else return (← lt' key x).map (!·)
noncomputable abbrev GS3:=Option (Option Nat) × Nat × Nat
noncomputable def gUp (l : Bool) (key : Keyed) (arr : Array Keyed) (b n h : Nat) : SM GS3 :=
 forIn [0:n] ((none,0,1) : GS3) fun _ c =>
  if c.2.2 ≥ n - h then pure (ForInStep.done (none,c.2.1,c.2.2)) else do
   let x ← bey l key arr b (h + c.2.2)
   match x with
   | some m=>if (!m) = true then pure (ForInStep.done (none,c.2.1,c.2.2)) else pure (ForInStep.yield (none,c.2.2,2 * c.2.2 + 1))
   | _=>pure (ForInStep.done (some none,c.2.1,c.2.2))
noncomputable def gDn (l : Bool) (key : Keyed) (arr : Array Keyed) (b n h : Nat) : SM GS3 :=
 forIn [0:n] ((none,0,1) : GS3) fun _ c =>
  if c.2.2 ≥ h + 1 then pure (ForInStep.done (none,c.2.1,c.2.2)) else do
   let x ← bey l key arr b (h - c.2.2)
   match x with
   | some m=>if m = true then pure (ForInStep.done (none,c.2.1,c.2.2)) else pure (ForInStep.yield (none,c.2.2,2 * c.2.2 + 1))
   | _=>pure (ForInStep.done (some none,c.2.1,c.2.2))
noncomputable def gBi (l : Bool) (key : Keyed) (arr : Array Keyed) (b n lo hi : Nat) : SM (Option Nat):=do
 let c ← forIn [0:n] ((none,lo,hi) : GS3) fun _ c =>
  if c.2.1 ≥ c.2.2 then pure (ForInStep.done (none,c.2.1,c.2.2)) else do
   let x ← bey l key arr b (c.2.1 + (c.2.2 - c.2.1) / 2)
   match x with
   | some m=>if m = true then pure (ForInStep.yield (none,c.2.1 + (c.2.2 - c.2.1) / 2 + 1,c.2.2)) else pure (ForInStep.yield (none,c.2.1,c.2.1 + (c.2.2 - c.2.1) / 2))
   | _=>pure (ForInStep.done (some none,c.2.1,c.2.2))
 match c.1 with
 | some r=>pure r
 | none=>pure (some c.2.2)
theorem gallop'_eq (l : Bool) (key : Keyed) (arr : Array Keyed) (b n h : Nat) : gallop' l key arr b n h = (do
  let x ← bey l key arr b h
  match x with
  | some r =>
   if r = true then do
    let c ← gUp l key arr b n h
    match c.1 with
    | some r=>pure r
    | none=>gBi l key arr b n (h + c.2.1 + 1) (h + min c.2.2 (n - h))
   else do
    let c ← gDn l key arr b n h
    match c.1 with
    | some r=>pure r
    | none=>gBi l key arr b n (h + 1 - min c.2.2 (h + 1)) (h - c.2.1)
  | _=>pure none):=by
 show bey l key arr b h >>= _ = bey l key arr b h >>= _
 congr 1
 funext x
 rcases x with _ | _ | _
 ·rfl
 ·show gDn l key arr b n h >>= _ = gDn l key arr b n h >>= _
  congr 1
  funext ⟨c,x,y⟩
  cases c
  ·unfold gBi
   refine congrArg (bind _) (funext fun c=>?_)
   obtain ⟨c,x,y⟩:=c
   cases c <;> rfl
  ·rfl
 ·show gUp l key arr b n h >>= _ = gUp l key arr b n h >>= _
  congr 1
  funext ⟨c,x,y⟩
  cases c
  ·unfold gBi
   refine congrArg (bind _) (funext fun c=>?_)
   obtain ⟨c,x,y⟩:=c
   cases c <;> rfl
  ·rfl
structure Cmp (M : Model) (A : Around) (E : Value→Shared→Prop) (s : Shared) (kd : SortKind) (κ : Keyed→Nat) (U : Keyed→Prop) : Prop where
 lt : ∀ {st : SortSt} {x y : Keyed} {Q : Option Bool→SortSt→Prop},kindOf st = kd→U x→U y→Q (some (decide (κ x < κ y))) st→wpS M A E s (lt' x y) Q st
noncomputable def gb (l : Bool) (κ : Keyed→Nat) (key p : Keyed) : Bool:=if l then decide (κ p < κ key) else !decide (κ key < κ p)
section
variable {M : Model} {A : Around} {E : Value→Shared→Prop} {s : Shared} {kd : SortKind} {κ : Keyed→Nat} {U : Keyed→Prop}
theorem w_elem {arr : Array Keyed} {i : Nat} {p : Keyed} {st : SortSt} {Q : Keyed→SortSt→Prop} (h : arr[i]? = some p) (q : Q p st) : wpS M A E s (elem' arr i) Q st:=by
 rw [elem'_eq,h]; exact wpS_pure q
theorem w_bey (C : Cmp M A E s kd κ U) {l : Bool} {key p : Keyed} {arr : Array Keyed} {b i : Nat} {st : SortSt} {Q : Option Bool→SortSt→Prop} (hk : kindOf st = kd) (h : arr[b + i]? = some p) (up : U p) (uk : U key)
  (q : Q (some (gb l κ key p)) st) : wpS M A E s (bey l key arr b i) Q st:=by
 unfold bey
 refine wpS_bind (w_elem h ?_)
 unfold gb at q
 cases l with
 | true=>simp only [if_true] at q ⊢; exact C.lt hk up uk q
 | false =>
  simp only [Bool.false_eq_true,if_false] at q ⊢
  exact wpS_bind (C.lt hk uk up (wpS_pure q))
structure Side (κ : Keyed→Nat) (U : Keyed→Prop) (l : Bool) (key : Keyed) (arr : Array Keyed) (b n : Nat) (F : Nat→Bool) : Prop where
 uk : U key
 at' : ∀ i,i < n→∃ p,arr[b + i]? = some p∧U p∧gb l κ key p = F i
 anti : ∀ i j,i≤j→j < n→F j = true→F i = true
theorem Side.fl {l : Bool} {key : Keyed} {arr : Array Keyed} {b n : Nat} {F : Nat→Bool} (S : Side κ U l key arr b n F) {i j : Nat} (hij : i≤j) (hj : j < n) (h : F i = false) : F j = false:=by
 cases e : F j with
 | false=>rfl
 | true=>rw [S.anti i j hij hj e] at h; cases h
theorem w_side (C : Cmp M A E s kd κ U) {l : Bool} {key : Keyed} {arr : Array Keyed} {b n i : Nat} {F : Nat→Bool} (S : Side κ U l key arr b n F) {st : SortSt} {Q : Option Bool→SortSt→Prop} (hk : kindOf st = kd) (hi : i < n)
  (q : Q (some (F i)) st) : wpS M A E s (bey l key arr b i) Q st:=by
 obtain ⟨p,h1,h2,h3⟩:=S.at' i hi
 exact w_bey C hk h1 h2 S.uk (by rw [h3]; exact q)
theorem w_gUp (C : Cmp M A E s kd κ U) {l : Bool} {key : Keyed} {arr : Array Keyed} {b n h : Nat} {F : Nat→Bool} (S : Side κ U l key arr b n F) {st : SortSt} {Q : GS3→SortSt→Prop} (hk : kindOf st = kd) (hh : h < n) (h0 : F h = true)
  (q : ∀ x y,x < y→h + x < n→F (h + x) = true→(y ≥ n - h∨F (h + y) = false)→Q (none,x,y) st) : wpS M A E s (gUp l key arr b n h) Q st:=by
 unfold gUp
 refine wpS_forRange (I:=fun k c st'=>st' = st∧∃ x y,c = (none,x,y)∧x < y∧k < y∧h + x < n∧F (h + x) = true) ?_ ?_ ⟨rfl,0,1,rfl,by omega,by omega,by omega,h0⟩
 ·rintro k c st' _ hkn ⟨rfl,x,y,rfl,hxy,hky,hxn,hF⟩
  dsimp only
  by_cases hy : y ≥ n - h
  ·rw [if_pos hy]
   exact wpS_pure (q x y hxy hxn hF (.inl hy))
  ·rw [if_neg hy]
   refine wpS_bind (w_side C S hk (by omega) ?_)
   dsimp only
   cases e : F (h + y) with
   | false=>exact wpS_pure (q x y hxy hxn hF (.inr e))
   | true=>exact wpS_pure ⟨rfl,y,2 * y + 1,rfl,by omega,by omega,by omega,e⟩
 ·rintro c st' ⟨rfl,x,y,rfl,hxy,hky,hxn,hF⟩
  exact q x y hxy hxn hF (.inl (by omega))
theorem w_gDn (C : Cmp M A E s kd κ U) {l : Bool} {key : Keyed} {arr : Array Keyed} {b n h : Nat} {F : Nat→Bool} (S : Side κ U l key arr b n F) {st : SortSt} {Q : GS3→SortSt→Prop} (hk : kindOf st = kd) (hh : h < n) (h0 : F h = false)
  (q : ∀ x y,x < y→x≤h→F (h - x) = false→(y ≥ h + 1∨F (h - y) = true)→Q (none,x,y) st) : wpS M A E s (gDn l key arr b n h) Q st:=by
 unfold gDn
 refine wpS_forRange (I:=fun k c st'=>st' = st∧∃ x y,c = (none,x,y)∧x < y∧k < y∧x≤h∧F (h - x) = false) ?_ ?_ ⟨rfl,0,1,rfl,by omega,by omega,by omega,h0⟩
 ·rintro k c st' _ hkn ⟨rfl,x,y,rfl,hxy,hky,hxn,hF⟩
  dsimp only
  by_cases hy : y ≥ h + 1
  ·rw [if_pos hy]
   exact wpS_pure (q x y hxy hxn hF (.inl hy))
  ·rw [if_neg hy]
   refine wpS_bind (w_side C S hk (by omega) ?_)
   dsimp only
   cases e : F (h - y) with
   | true=>exact wpS_pure (q x y hxy hxn hF (.inr e))
   | false=>exact wpS_pure ⟨rfl,y,2 * y + 1,rfl,by omega,by omega,by omega,e⟩
 ·rintro c st' ⟨rfl,x,y,rfl,hxy,hky,hxn,hF⟩
  exact q x y hxy hxn hF (.inl (by omega))
theorem w_gBi (C : Cmp M A E s kd κ U) {l : Bool} {key : Keyed} {arr : Array Keyed} {b n lo hi : Nat} {F : Nat→Bool} (S : Side κ U l key arr b n F) {st : SortSt} {Q : Option Nat→SortSt→Prop} (hk : kindOf st = kd) (hlo : lo≤hi) (hhi : hi≤n)
  (hl : ∀ i,i < lo→F i = true) (hr : ∀ i,hi≤i→i < n→F i = false)
  (q : ∀ r,r≤n→(∀ i,i < r→F i = true)→(∀ i,r≤i→i < n→F i = false)→Q (some r) st) : wpS M A E s (gBi l key arr b n lo hi) Q st:=by
 unfold gBi
 refine wpS_bind (wpS_forRange (I:=fun k c st'=>st' = st∧∃ x y,c = (none,x,y)∧x≤y∧y≤n∧y - x≤n - k∧(∀ i,i < x→F i = true)∧(∀ i,y≤i→i < n→F i = false)) ?_ ?_ ⟨rfl,lo,hi,rfl,hlo,hhi,by omega,hl,hr⟩)
 ·rintro k c st' _ hkn ⟨rfl,x,y,rfl,hxy,hyn,hm,h1,h2⟩
  dsimp only
  by_cases hy : x ≥ y
  ·rw [if_pos hy]
   refine wpS_pure (wpS_pure (q y hyn (fun i hi'=>h1 i (by omega)) h2))
  ·rw [if_neg hy]
   refine wpS_bind (w_side C S hk (by omega) ?_)
   dsimp only
   cases e : F (x + (y - x) / 2) with
   | true=>exact wpS_pure ⟨rfl,_,y,rfl,by omega,hyn,by omega,fun i hi'=>S.anti i _ (by omega) (by omega) e,h2⟩
   | false=>exact wpS_pure ⟨rfl,x,_,rfl,by omega,by omega,by omega,h1,fun i hi' hin=>S.fl hi' hin e⟩
 ·rintro c st' ⟨rfl,x,y,rfl,hxy,hyn,hm,h1,h2⟩
  exact wpS_pure (q y hyn (fun i hi'=>h1 i (by omega)) h2)
theorem w_gallop (C : Cmp M A E s kd κ U) {l : Bool} {key : Keyed} {arr : Array Keyed} {b n h : Nat} {F : Nat→Bool} (S : Side κ U l key arr b n F) {st : SortSt} {Q : Option Nat→SortSt→Prop} (hk : kindOf st = kd) (hh : h < n)
  (q : ∀ r,r≤n→(∀ i,i < r→F i = true)→(∀ i,r≤i→i < n→F i = false)→Q (some r) st) : wpS M A E s (gallop' l key arr b n h) Q st:=by
 rw [gallop'_eq]
 refine wpS_bind (w_side C S hk hh ?_)
 dsimp only
 cases e : F h with
 | true =>
  simp only [if_true]
  refine wpS_bind (w_gUp C S hk hh e fun x y hxy hxn hF hor=>?_)
  dsimp only
  refine w_gBi C S hk (by omega) (by omega) (fun i hi=>S.anti i (h + x) (by omega) hxn hF) (fun i hi hin=>?_) q
  rcases hor with g | g
  ·omega
  ·by_cases hy : y ≥ n - h
   ·omega
   ·exact S.fl (i:=h + y) (by omega) hin g
 | false =>
  simp only [Bool.false_eq_true,if_false]
  refine wpS_bind (w_gDn C S hk hh e fun x y hxy hxn hF hor=>?_)
  dsimp only
  refine w_gBi C S hk (by omega) (by omega) (fun i hi=>?_) (fun i hi hin=>S.fl (i:=h - x) (by omega) hin hF) q
  rcases hor with g | g
  ·omega
  ·by_cases hy : y ≥ h + 1
   ·omega
   ·exact S.anti i (h - y) (by omega) (by omega) g
end
end ST
namespace ST
open PySem PyProof.Rows
set_option autoImplicit false
noncomputable def Srt (κ : Keyed→Nat) (l : List Keyed) : Prop:=l.Pairwise fun x y=>κ x≤κ y
structure Mg (κ : Keyed→Nat) (W o ra rb : List Keyed) : Prop where
 perm : (o ++ ra ++ rb).Perm W
 sa : Srt κ (o ++ ra)
 sb : Srt κ (o ++ rb)
section
variable {κ : Keyed→Nat} {W o ra rb c : List Keyed}
theorem Mg.stepA (h : Mg κ W o (c ++ ra) rb) (hc : ∀ x∈c,∀ y∈rb,κ x≤κ y) : Mg κ W (o ++ c) ra rb:=by
 obtain ⟨h1,h2,h3⟩:=h
 refine ⟨by simpa [List.append_assoc] using h1,by simpa [List.append_assoc] using h2,?_⟩
 unfold Srt at h2 h3 ⊢
 simp only [List.pairwise_append,List.mem_append] at h2 h3 ⊢
 exact ⟨⟨h2.1,h2.2.1.1,fun x hx y hy=>h2.2.2 x hx y (.inl hy)⟩,h3.2.1,fun x hx y hy=>hx.elim (fun z=>h3.2.2 x z y hy) fun z=>hc x z y hy⟩
theorem Mg.stepB (h : Mg κ W o ra (c ++ rb)) (hc : ∀ y∈c,∀ x∈ra,κ y≤κ x) : Mg κ W (o ++ c) ra rb:=by
 obtain ⟨h1,h2,h3⟩:=h
 refine ⟨?_,?_,by simpa [List.append_assoc] using h3⟩
 ·refine List.Perm.trans ?_ h1
  simp only [List.append_assoc]
  refine List.Perm.append_left o ?_
  rw [← List.append_assoc,← List.append_assoc]
  exact List.Perm.append_right rb List.perm_append_comm
 ·unfold Srt at h2 h3 ⊢
  simp only [List.pairwise_append,List.mem_append] at h2 h3 ⊢
  exact ⟨⟨h2.1,h3.2.1.1,fun x hx y hy=>h3.2.2 x hx y (.inl hy)⟩,h2.2.1,fun x hx y hy=>hx.elim (fun z=>h2.2.2 x z y hy) fun z=>hc x z y hy⟩
theorem Mg.fin1 (h : Mg κ W o ra rb) (hc : ∀ x∈ra,∀ y∈rb,κ x≤κ y) : (o ++ ra ++ rb).Perm W∧Srt κ (o ++ ra ++ rb):=by
 have:=Mg.stepA (ra:=[]) (c:=ra) (by simpa using h) hc
 exact ⟨h.perm,this.sb⟩
theorem Mg.fin2 (h : Mg κ W o ra rb) (hc : ∀ y∈rb,∀ x∈ra,κ y≤κ x) : (o ++ rb ++ ra).Perm W∧Srt κ (o ++ rb ++ ra):=by
 have:=Mg.stepB (rb:=[]) (c:=rb) (by simpa using h) hc
 refine ⟨?_,this.sa⟩
 have:=this.perm
 simpa using this
end
noncomputable def mergeLo' : Array Keyed→Array Keyed→SM (Array Keyed):=sortPriv% PySem.Builtin.mergeLo
noncomputable def setMg' : Nat→SM Unit:=sortPriv% PySem.Builtin.setMinGallop
noncomputable def dn (a b o : Array Keyed) (i j : Nat) : Array Keyed:=o ++ a.extract i a.size ++ b.extract j b.size
noncomputable def ls (a b o : Array Keyed) (i j : Nat) : Array Keyed:=o ++ b.extract j b.size ++ a.extract i a.size
noncomputable abbrev T5:=Option (Array Keyed) × Array Keyed × Nat × Nat × Nat
noncomputable abbrev T6:=Option (Array Keyed) × Array Keyed × Nat × Nat × Nat × Nat
noncomputable abbrev T7:=Option (Array Keyed) × Array Keyed × Nat × Nat × Nat × Nat × Nat
noncomputable def lo1b (a b : Array Keyed) (mg : Nat) (o : Array Keyed) (i j ca cb : Nat) : SM (ForInStep T6):=do
 let y ← elem' b j
 let x ← elem' a i
 let r ← lt' y x
 match r with
 | some w =>
  if w = true then do
   let y ← elem' b j
   if (j + 1 == b.size) = true then pure (.done (some (dn a b (o.push y) i (j + 1)),o.push y,i,j + 1,0,cb + 1))
   else if cb + 1 ≥ mg then pure (.done (none,o.push y,i,j + 1,0,cb + 1))
   else pure (.yield (none,o.push y,i,j + 1,0,cb + 1))
  else do
   let x ← elem' a i
   if (i + 1 + 1 == a.size) = true then pure (.done (some (ls a b (o.push x) (i + 1) j),o.push x,i + 1,j,ca + 1,0))
   else if ca + 1 ≥ mg then pure (.done (none,o.push x,i + 1,j,ca + 1,0))
   else pure (.yield (none,o.push x,i + 1,j,ca + 1,0))
 | _=>pure (.done (some (dn a b o i j),o,i,j,ca,cb))
noncomputable def lo1 (a b : Array Keyed) (mg : Nat) (o : Array Keyed) (i j : Nat) : SM T6 :=
 forIn [0:a.size + b.size] ((none,o,i,j,0,0) : T6) fun _ c=>lo1b a b mg c.2.1 c.2.2.1 c.2.2.2.1 c.2.2.2.2.1 c.2.2.2.2.2
noncomputable def lo2d (a b : Array Keyed) (mg : Nat) (o : Array Keyed) (i j ca cb : Nat) : SM (ForInStep T7):=do
 let x ← elem' a i
 if (i + 1 + 1 == a.size) = true then pure (.done (some (ls a b (o.push x) (i + 1) j),o.push x,i + 1,j,mg,ca,cb))
 else if (decide (ca < 7) && decide (cb < 7)) = true then pure (.done (none,o.push x,i + 1,j,mg,ca,cb))
 else pure (.yield (none,o.push x,i + 1,j,mg,ca,cb))
noncomputable def lo2c (a b : Array Keyed) (mg : Nat) (o : Array Keyed) (i j ca cb : Nat) : SM (ForInStep T7):=do
 let y ← elem' b j
 if (j + 1 == b.size) = true then pure (.done (some (dn a b (o.push y) i (j + 1)),o.push y,i,j + 1,mg,ca,cb))
 else do
  let x ← elem' a i
  let r ← gallop' true x b (j + 1) (b.size - (j + 1)) 0
  match r with
  | some k =>
   if k > 0 then
    if (j + 1 + k == b.size) = true then pure (.done (some (dn a b (o.push y ++ b.extract (j + 1) (j + 1 + k)) i (j + 1 + k)),o.push y ++ b.extract (j + 1) (j + 1 + k),i,j + 1 + k,mg,ca,k))
    else lo2d a b mg (o.push y ++ b.extract (j + 1) (j + 1 + k)) i (j + 1 + k) ca k
   else lo2d a b mg (o.push y) i (j + 1) ca k
  | _=>pure (.done (some (dn a b (o.push y) i (j + 1)),o.push y,i,j + 1,mg,ca,cb))
noncomputable def lo2b (a b : Array Keyed) (mg : Nat) (o : Array Keyed) (i j ca cb : Nat) : SM (ForInStep T7):=do
 setMg' mg
 let y ← elem' b j
 let r ← gallop' false y a i (a.size - i) 0
 match r with
 | some k =>
  if k > 0 then
   if (i + k + 1 == a.size) = true then pure (.done (some (ls a b (o ++ a.extract i (i + k)) (i + k) j),o ++ a.extract i (i + k),i + k,j,mg,k,cb))
   else if (i + k == a.size) = true then pure (.done (some (dn a b (o ++ a.extract i (i + k)) (i + k) j),o ++ a.extract i (i + k),i + k,j,mg,k,cb))
   else lo2c a b mg (o ++ a.extract i (i + k)) (i + k) j k cb
  else lo2c a b mg o i j k cb
 | _=>pure (.done (some (dn a b o i j),o,i,j,mg,ca,cb))
noncomputable def lo2 (a b : Array Keyed) (mg : Nat) (o : Array Keyed) (i j ca cb : Nat) : SM T7 :=
 forIn [0:a.size + b.size] ((none,o,i,j,mg,ca,cb) : T7) fun _ c =>
  if c.2.2.2.2.1 > 1 then lo2b a b (c.2.2.2.2.1 - 1) c.2.1 c.2.2.1 c.2.2.2.1 c.2.2.2.2.2.1 c.2.2.2.2.2.2
  else lo2b a b c.2.2.2.2.1 c.2.1 c.2.2.1 c.2.2.2.1 c.2.2.2.2.2.1 c.2.2.2.2.2.2
noncomputable def lo3 (a b : Array Keyed) (o : Array Keyed) (i j mg : Nat) : SM (ForInStep T5):=do
 let c ← lo1 a b mg o i j
 match c.1 with
 | some r=>pure (.done (some r,c.2.1,c.2.2.1,c.2.2.2.1,mg))
 | none=>do
  liftM (rule "list.sort.gallop")
  let d ← lo2 a b (mg + 1) c.2.1 c.2.2.1 c.2.2.2.1 c.2.2.2.2.1 c.2.2.2.2.2
  match d.1 with
  | some r=>pure (.done (some r,d.2.1,d.2.2.1,d.2.2.2.1,d.2.2.2.2.1))
  | none=>do
   setMg' (d.2.2.2.2.1 + 1)
   pure (.yield (none,d.2.1,d.2.2.1,d.2.2.2.1,d.2.2.2.2.1 + 1))
noncomputable def lo4 (a b : Array Keyed) (o : Array Keyed) (i j mg : Nat) : SM (Array Keyed):=do
 let c ← forIn [0:a.size + b.size] ((none,o,i,j,mg) : T5) fun _ c=>lo3 a b c.2.1 c.2.2.1 c.2.2.2.1 c.2.2.2.2
 match c.1 with
 | some r=>pure r
 | none=>liftM (unsupported "internal:list.sort.merge-bound")
theorem mergeLo'_eq (a b : Array Keyed) : mergeLo' a b = (do
  liftM (rule "list.sort.merge-lo")
  let y ← elem' b 0
  if (1 == b.size) = true then pure (dn a b #[y] 0 1)
  else if (0 + 1 == a.size) = true then pure (ls a b #[y] 0 1)
  else do
   let st ← get
   lo4 a b #[y] 0 1 (gallopOf st)):=by
 have e1 : ∀ (mg : Nat) (o : Array Keyed) (i j : Nat) (c : T5),c = (none,o,i,j,mg)→True:=fun _ _ _ _ _ _=>trivial
 refine congrArg (bind _) (funext fun _=>congrArg (bind _) (funext fun y=>?_))
 dsimp only
 refine congrArg (ite _ _) (congrArg (ite _ _) (congrArg (bind _) (funext fun st=>?_)))
 unfold lo4
 refine congr (congrArg bind (congrArg (forIn _ _) (funext fun _=>funext fun c=>?_))) (funext fun c=>?_)
 ·obtain ⟨_,o,i,j,mg⟩:=c
  unfold lo3
  refine congrArg (bind _) (funext fun c=>?_)
  obtain ⟨c,o,i,j,ca,cb⟩:=c
  cases c with
  | some r=>rfl
  | none =>
   refine congrArg (bind _) (funext fun _=>?_)
   dsimp only
   refine congrArg (bind _) (funext fun c=>?_)
   obtain ⟨c,o,i,j,mg,ca,cb⟩:=c
   cases c <;> rfl
 ·obtain ⟨c,o,i,j,mg⟩:=c
  cases c <;> rfl
end ST
namespace ST
open PySem PyProof.Rows
set_option autoImplicit false
noncomputable def Kp (st st' : SortSt) : Prop:=kindOf st' = kindOf st∧arrOf st' = arrOf st∧pendingOf st' = pendingOf st∧failedOf st' = failedOf st
theorem Kp.refl (st : SortSt) : Kp st st:=⟨rfl,rfl,rfl,rfl⟩
theorem Kp.trans {st st' st'' : SortSt} (h : Kp st st') (g : Kp st' st'') : Kp st st'':=⟨g.1.trans h.1,g.2.1.trans h.2.1,g.2.2.1.trans h.2.2.1,g.2.2.2.trans h.2.2.2⟩
theorem w_setMg {M : Model} {A : Around} {E : Value→Shared→Prop} {s : Shared} {g : Nat} {st : SortSt} {Q : Unit→SortSt→Prop} (q : ∀ st',Kp st st'→Q () st') : wpS M A E s (setMg' g) Q st :=
 wpS_modify (f:=fun s=>SortSt.mk' (kindOf s) (arrOf s) (pendingOf s) g (failedOf s)) (q _ ⟨rfl,rfl,rfl,rfl⟩)
theorem dropA {a : Array Keyed} {i : Nat} (h : i < a.size) : a.toList.drop i = a[i] :: a.toList.drop (i + 1):=by
 rw [List.drop_eq_getElem_cons (by simpa using h)]; simp
theorem extA {a : Array Keyed} {i k : Nat} : (a.extract i k).toList = (a.toList.drop i).take (k - i):=by
 simp [Array.toList_extract,List.extract_eq_take_drop]
theorem extE {a : Array Keyed} {i : Nat} : (a.extract i a.size).toList = a.toList.drop i:=by
 rw [extA,List.take_of_length_le]
 simp
theorem cutA {a : Array Keyed} {i k : Nat} : a.toList.drop i = (a.extract i (i + k)).toList ++ a.toList.drop (i + k):=by
 rw [extA,show i + k - i = k by omega,← List.drop_drop,List.take_append_drop]
theorem mem_ext {a : Array Keyed} {i k : Nat} (h : i + k≤a.size) {p : Keyed} (hp : p∈(a.extract i (i + k)).toList) : ∃ t,t < k∧a[i + t]? = some p:=by
 obtain ⟨t,ht,e⟩:=List.getElem_of_mem hp
 have ht' : t < k:=by simp at ht; omega
 refine ⟨t,ht',?_⟩
 rw [← e]
 simp
theorem Srt.hd {κ : Keyed→Nat} {x : Keyed} {l : List Keyed} (h : Srt κ (x :: l)) : ∀ y∈x :: l,κ x≤κ y:=fun y hy=>by
 rcases List.mem_cons.mp hy with rfl | hy
 ·exact Nat.le_refl _
 ·exact (List.pairwise_cons.mp h).1 y hy
theorem Srt.right {κ : Keyed→Nat} {l r : List Keyed} (h : Srt κ (l ++ r)) : Srt κ r:=(List.pairwise_append.mp h).2.1
theorem dn_list {a b o : Array Keyed} {i j : Nat} : (dn a b o i j).toList = o.toList ++ a.toList.drop i ++ b.toList.drop j:=by
 unfold dn; rw [Array.toList_append,Array.toList_append,extE,extE]
theorem ls_list {a b o : Array Keyed} {i j : Nat} : (ls a b o i j).toList = o.toList ++ b.toList.drop j ++ a.toList.drop i:=by
 unfold ls; rw [Array.toList_append,Array.toList_append,extE,extE]
noncomputable def Res (κ : Keyed→Nat) (W : List Keyed) (r : Array Keyed) : Prop:=r.toList.Perm W∧Srt κ r.toList
noncomputable def At (κ : Keyed→Nat) (W : List Keyed) (a b o : Array Keyed) (i j : Nat) : Prop:=Mg κ W o.toList (a.toList.drop i) (b.toList.drop j)
section
variable {κ : Keyed→Nat} {W : List Keyed} {a b o : Array Keyed} {i j k : Nat}
theorem At.ha (h : At κ W a b o i j) (hi : i < a.size) : ∀ x∈a.toList.drop i,κ a[i]≤κ x:=by
 have:=h.sa.right; rw [dropA hi] at this ⊢; exact this.hd
theorem At.hb (h : At κ W a b o i j) (hj : j < b.size) : ∀ x∈b.toList.drop j,κ b[j]≤κ x:=by
 have:=h.sb.right; rw [dropA hj] at this ⊢; exact this.hd
theorem At.pushB (h : At κ W a b o i j) (hj : j < b.size) (hc : ∀ x∈a.toList.drop i,κ b[j]≤κ x) : At κ W a b (o.push b[j]) i (j + 1):=by
 unfold At at h ⊢
 rw [dropA hj] at h
 rw [Array.toList_push]
 exact Mg.stepB (c:=[b[j]]) h fun y hy x hx=>by rw [List.mem_singleton.mp hy]; exact hc x hx
theorem At.pushA (h : At κ W a b o i j) (hi : i < a.size) (hc : ∀ y∈b.toList.drop j,κ a[i]≤κ y) : At κ W a b (o.push a[i]) (i + 1) j:=by
 unfold At at h ⊢
 rw [dropA hi] at h
 rw [Array.toList_push]
 exact Mg.stepA (c:=[a[i]]) h fun y hy x hx=>by rw [List.mem_singleton.mp hy]; exact hc x hx
theorem At.chunkA (h : At κ W a b o i j) (hk : i + k≤a.size) (hc : ∀ t p,t < k→a[i + t]? = some p→∀ y∈b.toList.drop j,κ p≤κ y) : At κ W a b (o ++ a.extract i (i + k)) (i + k) j:=by
 unfold At at h ⊢
 rw [cutA (k:=k)] at h
 rw [Array.toList_append]
 exact Mg.stepA h fun x hx y hy=>by
  obtain ⟨t,ht,e⟩:=mem_ext hk hx
  exact hc t x ht e y hy
theorem At.chunkB (h : At κ W a b o i j) (hk : j + k≤b.size) (hc : ∀ t p,t < k→b[j + t]? = some p→∀ x∈a.toList.drop i,κ p≤κ x) : At κ W a b (o ++ b.extract j (j + k)) i (j + k):=by
 unfold At at h ⊢
 rw [cutA (a:=b) (k:=k)] at h
 rw [Array.toList_append]
 exact Mg.stepB h fun x hx y hy=>by
  obtain ⟨t,ht,e⟩:=mem_ext hk hx
  exact hc t x ht e y hy
theorem At.endB (h : At κ W a b o i j) (hj : j = b.size) : Res κ W (dn a b o i j):=by
 have e : b.toList.drop j = []:=by subst hj; simp
 have:=Mg.fin1 h (by rw [e]; intro _ _ y hy; cases hy)
 unfold Res; rw [dn_list]; exact this
theorem At.endA (h : At κ W a b o i j) (hi : i = a.size) : Res κ W (dn a b o i j):=by
 have e : a.toList.drop i = []:=by subst hi; simp
 have:=Mg.fin1 h (by rw [e]; intro _ hy; cases hy)
 unfold Res; rw [dn_list]; exact this
theorem At.endL (h : At κ W a b o i j) (hl : ∀ y∈b.toList,∀ x∈a.toList.drop (a.size - 1),κ y≤κ x) (hi : i + 1 = a.size) : Res κ W (ls a b o i j):=by
 have:=Mg.fin2 h (fun y hy x hx=>hl y (List.mem_of_mem_drop hy) x (by rw [← hi,Nat.add_sub_cancel]; exact hx))
 unfold Res; rw [ls_list]; exact this
end
section
variable {M : Model} {A : Around} {E : Value→Shared→Prop} {s : Shared} {kd : SortKind} {κ : Keyed→Nat} {U : Keyed→Prop} {W : List Keyed} {a b : Array Keyed}
structure PreL (κ : Keyed→Nat) (U : Keyed→Prop) (a b : Array Keyed) : Prop where
 ua : ∀ p∈a.toList,U p
 ub : ∀ p∈b.toList,U p
 sa : Srt κ a.toList
 sb : Srt κ b.toList
 last : ∀ y∈b.toList,∀ x∈a.toList.drop (a.size - 1),κ y≤κ x
theorem someA {a : Array Keyed} {i : Nat} (h : i < a.size) : a[i]? = some a[i]:=by simp [h]
theorem memA {a : Array Keyed} {i : Nat} (h : i < a.size) : a[i]∈a.toList:=by simp
theorem srt_le {a : Array Keyed} (sa : Srt κ a.toList) {i j : Nat} (hj : j < a.size) (hij : i≤j) : κ (a[i]'(by omega))≤κ a[j]:=by
 by_cases e : i = j
 ·subst e; exact Nat.le_refl _
 ·have:=List.pairwise_iff_getElem.mp sa i j (by simp; omega) (by simpa using hj) (by omega)
  simpa using this
theorem side_mk {a : Array Keyed} {i n : Nat} (l : Bool) {key : Keyed} (hn : i + n≤a.size) (ua : ∀ p∈a.toList,U p) (sa : ∀ x y (hx : x < a.size) (hy : y < a.size),i≤x→x≤y→y < i + n→κ a[x]≤κ a[y]) (uk : U key) :
  Side κ U l key a i n fun t=>match a[i + t]? with
   | some p=>gb l κ key p
   | none=>false:=by
 refine ⟨uk,fun t ht=>⟨a[i + t],someA (by omega),ua _ (memA (by omega)),by rw [someA (by omega)]⟩,fun x y hxy hy h=>?_⟩
 rw [someA (by omega)] at h ⊢
 have:=sa (i + x) (i + y) (by omega) (by omega) (by omega) (by omega) (by omega)
 unfold gb at h ⊢
 cases l <;> simp at h ⊢ <;> omega
theorem PreL.sideA (P : PreL κ U a b) {i : Nat} (l : Bool) {key : Keyed} (hi : i≤a.size) (uk : U key) :
  Side κ U l key a i (a.size - i) fun t=>match a[i + t]? with
   | some p=>gb l κ key p
   | none=>false:=side_mk l (by omega) P.ua (fun x y _ hy _ hxy _=>srt_le P.sa hy hxy) uk
theorem PreL.sideB (P : PreL κ U a b) {i : Nat} (l : Bool) {key : Keyed} (hi : i≤b.size) (uk : U key) :
  Side κ U l key b i (b.size - i) fun t=>match b[i + t]? with
   | some p=>gb l κ key p
   | none=>false:=side_mk l (by omega) P.ub (fun x y _ hy _ hxy _=>srt_le P.sb hy hxy) uk
noncomputable def In (κ : Keyed→Nat) (W : List Keyed) (a b o : Array Keyed) (i j : Nat) : Prop:=At κ W a b o i j∧i + 1 < a.size∧j < b.size
theorem w_lo1 (C : Cmp M A E s kd κ U) (P : PreL κ U a b) {mg i j : Nat} {o : Array Keyed} {st : SortSt} {Q : T6→SortSt→Prop} (hk : kindOf st = kd) (h : In κ W a b o i j)
  (q1 : ∀ r c,Res κ W r→Q (some r,c) st) (q2 : ∀ o' i' j' ca cb,In κ W a b o' i' j'→i + j + 1≤i' + j'→Q (none,o',i',j',ca,cb) st) : wpS M A E s (lo1 a b mg o i j) Q st:=by
 unfold lo1
 refine wpS_forRange (I:=fun k c st'=>st' = st∧∃ o' i' j' ca cb,c = (none,o',i',j',ca,cb)∧In κ W a b o' i' j'∧i + j + k≤i' + j') ?_ ?_ ⟨rfl,o,i,j,0,0,rfl,h,by omega⟩
 ·rintro k c st' _ hkn ⟨rfl,o',i',j',ca,cb,rfl,⟨h1,h2,h3⟩,hp⟩
  dsimp only
  unfold lo1b
  refine wpS_bind (w_elem (someA h3) (wpS_bind (w_elem (someA (by omega)) (wpS_bind (C.lt hk (P.ub _ (memA h3)) (P.ua _ (memA (by omega))) ?_)))))
  dsimp only
  by_cases hw : κ b[j'] < κ (a[i']'(by omega))
  ·rw [decide_eq_true hw,if_pos rfl]
   refine wpS_bind (w_elem (someA h3) ?_)
   have h':=h1.pushB h3 fun x hx=>Nat.le_trans (Nat.le_of_lt hw) (h1.ha (by omega) x hx)
   by_cases hj : j' + 1 = b.size
   ·rw [if_pos (by simpa using hj)]
    exact wpS_pure (q1 _ _ (h'.endB hj))
   ·rw [if_neg (by simpa using hj)]
    by_cases hm : cb + 1 ≥ mg
    ·rw [if_pos hm]; exact wpS_pure (q2 _ _ _ _ _ ⟨h',h2,by omega⟩ (by omega))
    ·rw [if_neg hm]; exact wpS_pure ⟨rfl,_,_,_,_,_,rfl,⟨h',h2,by omega⟩,by omega⟩
  ·rw [decide_eq_false hw,if_neg (by simp)]
   refine wpS_bind (w_elem (someA (by omega)) ?_)
   have h':=h1.pushA (by omega) fun y hy=>Nat.le_trans (Nat.le_of_not_lt hw) (h1.hb h3 y hy)
   by_cases hj : i' + 1 + 1 = a.size
   ·rw [if_pos (by simpa using hj)]
    exact wpS_pure (q1 _ _ (h'.endL P.last hj))
   ·rw [if_neg (by simpa using hj)]
    by_cases hm : ca + 1 ≥ mg
    ·rw [if_pos hm]; exact wpS_pure (q2 _ _ _ _ _ ⟨h',by omega,h3⟩ (by omega))
    ·rw [if_neg hm]; exact wpS_pure ⟨rfl,_,_,_,_,_,rfl,⟨h',by omega,h3⟩,by omega⟩
 ·rintro c st' ⟨rfl,o',i',j',ca,cb,rfl,h1,hp⟩
  exact q2 _ _ _ _ _ h1 (by have:=h1.2; omega)
theorem w_lo2d (P : PreL κ U a b) {mg i j ca cb : Nat} {o : Array Keyed} {st : SortSt} {Q : ForInStep T7→SortSt→Prop} (h : In κ W a b o i j) (hc : ∀ y∈b.toList.drop j,κ (a[i]'(by have:=h.2; omega))≤κ y)
  (q1 : ∀ r c,Res κ W r→Q (.done (some r,c)) st) (q2 : ∀ o' i' j' mg ca cb,In κ W a b o' i' j'→i + j≤i' + j'→Q (.done (none,o',i',j',mg,ca,cb)) st∧Q (.yield (none,o',i',j',mg,ca,cb)) st) : wpS M A E s (lo2d a b mg o i j ca cb) Q st:=by
 obtain ⟨h1,h2,h3⟩:=h
 unfold lo2d
 refine wpS_bind (w_elem (someA (by omega)) ?_)
 have h':=h1.pushA (by omega) hc
 by_cases hj : i + 1 + 1 = a.size
 ·rw [if_pos (by simpa using hj)]
  exact wpS_pure (q1 _ _ (h'.endL P.last hj))
 ·rw [if_neg (by simpa using hj)]
  by_cases hm : (decide (ca < 7) && decide (cb < 7)) = true
  ·rw [if_pos hm]; exact wpS_pure (q2 _ _ _ _ _ _ ⟨h',by omega,h3⟩ (by omega)).1
  ·rw [if_neg hm]; exact wpS_pure (q2 _ _ _ _ _ _ ⟨h',by omega,h3⟩ (by omega)).2
theorem gb_t {key p : Keyed} (h : gb true κ key p = true) : κ p < κ key:=by simpa [gb] using h
theorem gb_f {key p : Keyed} (h : gb true κ key p = false) : κ key≤κ p:=by simpa [gb] using h
theorem gb_t' {key p : Keyed} (h : gb false κ key p = true) : κ p≤κ key:=by simpa [gb] using h
theorem gb_f' {key p : Keyed} (h : gb false κ key p = false) : κ key < κ p:=by simpa [gb] using h
theorem w_lo2c (C : Cmp M A E s kd κ U) (P : PreL κ U a b) {mg i j ca cb : Nat} {o : Array Keyed} {st : SortSt} {Q : ForInStep T7→SortSt→Prop} (hk : kindOf st = kd) (h : In κ W a b o i j) (hc : ∀ x∈a.toList.drop i,κ (b[j]'h.2.2)≤κ x)
  (q1 : ∀ r c,Res κ W r→Q (.done (some r,c)) st) (q2 : ∀ o' i' j' mg ca cb,In κ W a b o' i' j'→i + j≤i' + j'→Q (.done (none,o',i',j',mg,ca,cb)) st∧Q (.yield (none,o',i',j',mg,ca,cb)) st) : wpS M A E s (lo2c a b mg o i j ca cb) Q st:=by
 obtain ⟨h1,h2,h3⟩:=h
 unfold lo2c
 refine wpS_bind (w_elem (someA h3) ?_)
 have h':=h1.pushB h3 hc
 by_cases hj : j + 1 = b.size
 ·rw [if_pos (by simpa using hj)]
  exact wpS_pure (q1 _ _ (h'.endB hj))
 ·rw [if_neg (by simpa using hj)]
  have hi : i < a.size:=by omega
  refine wpS_bind (w_elem (someA hi) (wpS_bind (w_gallop C (P.sideB (i:=j + 1) true (by omega) (P.ua _ (memA hi))) hk (by omega) fun k hkn f1 f2=>?_)))
  dsimp only
  have hrest : ∀ y∈b.toList.drop (j + 1 + k),κ a[i]≤κ y:=fun y hy=>by
   obtain ⟨t,ht,e⟩:=List.getElem_of_mem hy
   have ht' : j + 1 + (k + t) < b.size:=by simp at ht; omega
   have:=f2 (k + t) (by omega) (by omega)
   rw [someA ht'] at this
   have:=gb_f this
   rw [← e]
   simpa [Nat.add_assoc] using this
  by_cases hk0 : k > 0
  ·rw [if_pos hk0]
   have h'':=h'.chunkB (k:=k) (by omega) fun t p ht e x hx=>by
    have:=f1 t ht
    simp only [e] at this
    exact Nat.le_trans (Nat.le_of_lt (gb_t this)) (h1.ha hi x hx)
   by_cases he : j + 1 + k = b.size
   ·rw [if_pos (by simpa using he)]
    exact wpS_pure (q1 _ _ (h''.endB he))
   ·rw [if_neg (by simpa using he)]
    exact w_lo2d P ⟨h'',h2,by omega⟩ hrest q1 fun o' i' j' mg ca cb hI hp=>q2 _ _ _ _ _ _ hI (by omega)
  ·rw [if_neg hk0]
   have : k = 0:=by omega
   subst this
   exact w_lo2d P ⟨h',h2,by omega⟩ hrest q1 fun o' i' j' mg ca cb hI hp=>q2 _ _ _ _ _ _ hI (by omega)
theorem w_lo2b (C : Cmp M A E s kd κ U) (P : PreL κ U a b) {mg i j ca cb : Nat} {o : Array Keyed} {st : SortSt} {Q : ForInStep T7→SortSt→Prop} (hk : kindOf st = kd) (h : In κ W a b o i j)
  (q1 : ∀ r c st',Kp st st'→Res κ W r→Q (.done (some r,c)) st') (q2 : ∀ o' i' j' mg ca cb st',Kp st st'→In κ W a b o' i' j'→i + j≤i' + j'→Q (.done (none,o',i',j',mg,ca,cb)) st'∧Q (.yield (none,o',i',j',mg,ca,cb)) st') :
  wpS M A E s (lo2b a b mg o i j ca cb) Q st:=by
 obtain ⟨h1,h2,h3⟩:=h
 unfold lo2b
 refine wpS_bind (w_setMg fun st' kp=>wpS_bind (w_elem (someA h3) (wpS_bind (w_gallop C (P.sideA (i:=i) false (by omega) (P.ub _ (memA h3))) (kp.1.trans hk) (by omega) fun k hkn f1 f2=>?_))))
 dsimp only
 have hrest : ∀ x∈a.toList.drop (i + k),κ b[j]≤κ x:=fun x hx=>by
  obtain ⟨t,ht,e⟩:=List.getElem_of_mem hx
  have ht' : i + (k + t) < a.size:=by simp at ht; omega
  have:=f2 (k + t) (by omega) (by omega)
  rw [someA ht'] at this
  have:=gb_f' this
  rw [← e]
  refine Nat.le_of_lt ?_
  simpa [Nat.add_assoc] using this
 by_cases hk0 : k > 0
 ·rw [if_pos hk0]
  have h':=h1.chunkA (k:=k) (by omega) fun t p ht e y hy=>by
   have:=f1 t ht
   simp only [e] at this
   exact Nat.le_trans (gb_t' this) (h1.hb h3 y hy)
  by_cases he : i + k + 1 = a.size
  ·rw [if_pos (by simpa using he)]
   exact wpS_pure (q1 _ _ _ kp (h'.endL P.last he))
  ·rw [if_neg (by simpa using he)]
   by_cases he2 : i + k = a.size
   ·rw [if_pos (by simpa using he2)]
    exact wpS_pure (q1 _ _ _ kp (h'.endA he2))
   ·rw [if_neg (by simpa using he2)]
    exact w_lo2c C P (kp.1.trans hk) ⟨h',by omega,h3⟩ hrest (fun r c hr=>q1 r c _ kp hr) fun o' i' j' mg ca cb hI hp=>q2 _ _ _ _ _ _ _ kp hI (by omega)
 ·rw [if_neg hk0]
  have : k = 0:=by omega
  subst this
  exact w_lo2c C P (kp.1.trans hk) ⟨h1,h2,h3⟩ hrest (fun r c hr=>q1 r c _ kp hr) fun o' i' j' mg ca cb hI hp=>q2 _ _ _ _ _ _ _ kp hI (by omega)
theorem w_lo2 (C : Cmp M A E s kd κ U) (P : PreL κ U a b) {mg i j ca cb : Nat} {o : Array Keyed} {st : SortSt} {Q : T7→SortSt→Prop} (hk : kindOf st = kd) (h : In κ W a b o i j)
  (q1 : ∀ r c st',Kp st st'→Res κ W r→Q (some r,c) st') (q2 : ∀ o' i' j' mg ca cb st',Kp st st'→In κ W a b o' i' j'→i + j≤i' + j'→Q (none,o',i',j',mg,ca,cb) st') : wpS M A E s (lo2 a b mg o i j ca cb) Q st:=by
 unfold lo2
 refine wpS_forRange (I:=fun k c st'=>Kp st st'∧∃ o' i' j' mg ca cb,c = (none,o',i',j',mg,ca,cb)∧In κ W a b o' i' j'∧i + j≤i' + j') ?_ ?_ ⟨Kp.refl _,o,i,j,mg,ca,cb,rfl,h,by omega⟩
 ·rintro k c st' _ hkn ⟨kp,o',i',j',mg,ca,cb,rfl,hI,hp⟩
  dsimp only
  have go : ∀ g,wpS M A E s (lo2b a b g o' i' j' ca cb) (fun r st'=>match r with
   | .done c'=>Q c' st'
   | .yield c'=>Kp st st'∧∃ o' i' j' mg ca cb,c' = (none,o',i',j',mg,ca,cb)∧In κ W a b o' i' j'∧i + j≤i' + j') st':=fun g =>
   w_lo2b C P (kp.1.trans hk) hI (fun r c st'' kp' hr=>q1 r c st'' (kp.trans kp') hr) fun o' i' j' mg ca cb st'' kp' hI' hp' =>
    ⟨q2 _ _ _ _ _ _ _ (kp.trans kp') hI' (by omega),kp.trans kp',_,_,_,_,_,_,rfl,hI',by omega⟩
  by_cases hm : mg > 1
  ·rw [if_pos hm]; exact wpS_mono (go _) fun r _ h=>by cases r <;> exact h
  ·rw [if_neg hm]; exact wpS_mono (go _) fun r _ h=>by cases r <;> exact h
 ·rintro c st' ⟨kp,o',i',j',mg,ca,cb,rfl,hI,hp⟩
  exact q2 _ _ _ _ _ _ _ kp hI hp
theorem w_lo4 (C : Cmp M A E s kd κ U) (P : PreL κ U a b) {mg i j : Nat} {o : Array Keyed} {st : SortSt} {Q : Array Keyed→SortSt→Prop} (hk : kindOf st = kd) (h : In κ W a b o i j) (hij : 1≤i + j)
  (q : ∀ r st',Kp st st'→Res κ W r→Q r st') : wpS M A E s (lo4 a b o i j mg) Q st:=by
 unfold lo4
 refine wpS_bind (wpS_forRange (I:=fun k c st'=>Kp st st'∧∃ o' i' j' mg,c = (none,o',i',j',mg)∧In κ W a b o' i' j'∧k + 1≤i' + j') ?_ ?_ ⟨Kp.refl _,o,i,j,mg,rfl,h,by omega⟩)
 ·rintro k c st' _ hkn ⟨kp,o',i',j',mg,rfl,hI,hp⟩
  dsimp only
  unfold lo3
  refine wpS_bind (w_lo1 C P (kp.1.trans hk) hI (fun r c hr=>wpS_pure (wpS_pure (q r _ kp hr))) fun o2 i2 j2 ca cb hI2 hp2=>?_)
  dsimp only
  refine wpS_bind (wpS_lift (wpAny_rule ⟨rfl,?_⟩))
  refine wpS_bind (w_lo2 C P (kp.1.trans hk) hI2 (fun r c st3 kp3 hr=>wpS_pure (wpS_pure (q r _ (kp.trans kp3) hr))) fun o3 i3 j3 mg3 ca cb st3 kp3 hI3 hp3=>?_)
  dsimp only
  exact wpS_bind (w_setMg fun st4 kp4=>wpS_pure ⟨(kp.trans kp3).trans kp4,_,_,_,_,rfl,hI3,by omega⟩)
 ·rintro c st' ⟨kp,o',i',j',mg,rfl,⟨_,h2,h3⟩,hp⟩
  exfalso; omega
theorem w_mergeLo (C : Cmp M A E s kd κ U) (P : PreL κ U a b) (ha : 0 < a.size) (hb : 0 < b.size) (h0 : ∀ x∈a.toList,κ b[0]≤κ x) {st : SortSt} {Q : Array Keyed→SortSt→Prop} (hk : kindOf st = kd)
  (q : ∀ r st',Kp st st'→Res κ (a.toList ++ b.toList) r→Q r st') : wpS M A E s (mergeLo' a b) Q st:=by
 rw [mergeLo'_eq]
 refine wpS_bind (wpS_lift (wpAny_rule ⟨rfl,?_⟩))
 refine wpS_bind (w_elem (someA hb) ?_)
 have h1 : At κ (a.toList ++ b.toList) a b #[] 0 0:=⟨by simp,by simpa using P.sa,by simpa using P.sb⟩
 have h2 : At κ (a.toList ++ b.toList) a b #[b[0]] 0 1:=h1.pushB hb (by simpa using h0)
 by_cases e1 : 1 = b.size
 ·rw [if_pos (by simpa using e1)]
  exact wpS_pure (q _ _ (Kp.refl _) (h2.endB e1))
 ·rw [if_neg (by simpa using e1)]
  by_cases e2 : 0 + 1 = a.size
  ·rw [if_pos (by simpa using e2)]
   exact wpS_pure (q _ _ (Kp.refl _) (h2.endL P.last e2))
  ·rw [if_neg (by simpa using e2)]
   exact wpS_bind (wpS_get (w_lo4 C P hk ⟨h2,by omega,by omega⟩ (by omega) q))
end
end ST
namespace ST
open PySem PyProof.Rows
set_option autoImplicit false
structure Mh (κ : Keyed→Nat) (W ra rb o : List Keyed) : Prop where
 perm : (ra ++ rb ++ o).Perm W
 sa : Srt κ (ra ++ o)
 sb : Srt κ (rb ++ o)
section
variable {κ : Keyed→Nat} {W o ra rb c : List Keyed}
theorem Mh.stepB (h : Mh κ W ra (rb ++ c) o) (hc : ∀ y∈c,∀ x∈ra,κ x≤κ y) : Mh κ W ra rb (c ++ o):=by
 obtain ⟨h1,h2,h3⟩:=h
 refine ⟨by simpa [List.append_assoc] using h1,?_,by simpa [List.append_assoc] using h3⟩
 unfold Srt at h2 h3 ⊢
 simp only [List.pairwise_append,List.mem_append] at h2 h3 ⊢
 exact ⟨h2.1,⟨h3.1.2.1,h3.2.1,fun x hx y hy=>h3.2.2 x (.inr hx) y hy⟩,fun x hx y hy=>hy.elim (fun z=>hc y z x hx) fun z=>h2.2.2 x hx y z⟩
theorem Mh.stepA (h : Mh κ W (ra ++ c) rb o) (hc : ∀ x∈c,∀ y∈rb,κ y≤κ x) : Mh κ W ra rb (c ++ o):=by
 obtain ⟨h1,h2,h3⟩:=h
 refine ⟨?_,by simpa [List.append_assoc] using h2,?_⟩
 ·refine List.Perm.trans ?_ h1
  simp only [List.append_assoc]
  refine List.Perm.append_left ra ?_
  rw [← List.append_assoc,← List.append_assoc]
  exact List.Perm.append_right o List.perm_append_comm
 ·unfold Srt at h2 h3 ⊢
  simp only [List.pairwise_append,List.mem_append] at h2 h3 ⊢
  exact ⟨h3.1,⟨h2.1.2.1,h2.2.1,fun x hx y hy=>h2.2.2 x (.inr hx) y hy⟩,fun x hx y hy=>hy.elim (fun z=>hc y z x hx) fun z=>h3.2.2 x hx y z⟩
theorem Mh.fin1 (h : Mh κ W ra rb o) (hc : ∀ y∈rb,∀ x∈ra,κ x≤κ y) : (ra ++ rb ++ o).Perm W∧Srt κ (ra ++ rb ++ o):=by
 have:=Mh.stepB (rb:=[]) (c:=rb) (by simpa using h) hc
 exact ⟨h.perm,by have:=this.sa; simpa [List.append_assoc] using this⟩
theorem Mh.fin2 (h : Mh κ W ra rb o) (hc : ∀ x∈ra,∀ y∈rb,κ y≤κ x) : (rb ++ ra ++ o).Perm W∧Srt κ (rb ++ ra ++ o):=by
 have:=Mh.stepA (ra:=[]) (c:=ra) (by simpa using h) hc
 refine ⟨?_,by have:=this.sb; simpa [List.append_assoc] using this⟩
 have:=this.perm
 simpa [List.append_assoc] using this
end
noncomputable def mergeHi' : Array Keyed→Array Keyed→SM (Array Keyed):=sortPriv% PySem.Builtin.mergeHi
noncomputable def dh (a b : Array Keyed) (i j : Nat) (o : Array Keyed) : Array Keyed:=a.extract 0 i ++ b.extract 0 j ++ o.reverse
noncomputable def fh (a b : Array Keyed) (i j : Nat) (o : Array Keyed) : Array Keyed:=b.extract 0 j ++ a.extract 0 i ++ o.reverse
noncomputable abbrev H5:=Option (Array Keyed) × Nat × Nat × Array Keyed × Nat
noncomputable abbrev H6:=Option (Array Keyed) × Nat × Nat × Array Keyed × Nat × Nat
noncomputable abbrev H7:=Option (Array Keyed) × Nat × Nat × Array Keyed × Nat × Nat × Nat
noncomputable def hi1b (a b : Array Keyed) (mg i j : Nat) (o : Array Keyed) (ca cb : Nat) : SM (ForInStep H6):=do
 let y ← elem' b (j - 1)
 let x ← elem' a (i - 1)
 let r ← lt' y x
 match r with
 | some w =>
  if w = true then do
   let x ← elem' a (i - 1)
   if (i - 1 == 0) = true then pure (.done (some (dh a b (i - 1) j (o.push x)),i - 1,j,o.push x,ca + 1,0))
   else if ca + 1 ≥ mg then pure (.done (none,i - 1,j,o.push x,ca + 1,0))
   else pure (.yield (none,i - 1,j,o.push x,ca + 1,0))
  else do
   let y ← elem' b (j - 1)
   if (j - 1 == 1) = true then pure (.done (some (fh a b i (j - 1) (o.push y)),i,j - 1,o.push y,0,cb + 1))
   else if cb + 1 ≥ mg then pure (.done (none,i,j - 1,o.push y,0,cb + 1))
   else pure (.yield (none,i,j - 1,o.push y,0,cb + 1))
 | _=>pure (.done (some (dh a b i j o),i,j,o,ca,cb))
noncomputable def hi1 (a b : Array Keyed) (mg i j : Nat) (o : Array Keyed) : SM H6 :=
 forIn [0:a.size + b.size] ((none,i,j,o,0,0) : H6) fun _ c=>hi1b a b mg c.2.1 c.2.2.1 c.2.2.2.1 c.2.2.2.2.1 c.2.2.2.2.2
noncomputable def hi2d (a b : Array Keyed) (mg i j : Nat) (o : Array Keyed) (ca cb : Nat) : SM (ForInStep H7):=do
 let x ← elem' a (i - 1)
 if (i - 1 == 0) = true then pure (.done (some (dh a b (i - 1) j (o.push x)),i - 1,j,o.push x,mg,ca,cb))
 else if (decide (ca < 7) && decide (cb < 7)) = true then pure (.done (none,i - 1,j,o.push x,mg,ca,cb))
 else pure (.yield (none,i - 1,j,o.push x,mg,ca,cb))
noncomputable def hi2c (a b : Array Keyed) (mg i j : Nat) (o : Array Keyed) (ca cb : Nat) : SM (ForInStep H7):=do
 let y ← elem' b (j - 1)
 if (j - 1 == 1) = true then pure (.done (some (fh a b i (j - 1) (o.push y)),i,j - 1,o.push y,mg,ca,cb))
 else do
  let x ← elem' a (i - 1)
  let r ← gallop' true x b 0 (j - 1) (j - 1 - 1)
  match r with
  | some k =>
   if j - 1 - k > 0 then
    if (k == 1) = true then pure (.done (some (fh a b i k (o.push y ++ (b.extract k (j - 1)).reverse)),i,k,o.push y ++ (b.extract k (j - 1)).reverse,mg,ca,j - 1 - k))
    else if (k == 0) = true then pure (.done (some (dh a b i k (o.push y ++ (b.extract k (j - 1)).reverse)),i,k,o.push y ++ (b.extract k (j - 1)).reverse,mg,ca,j - 1 - k))
    else hi2d a b mg i k (o.push y ++ (b.extract k (j - 1)).reverse) ca (j - 1 - k)
   else hi2d a b mg i (j - 1) (o.push y) ca (j - 1 - k)
  | _=>pure (.done (some (dh a b i (j - 1) (o.push y)),i,j - 1,o.push y,mg,ca,cb))
noncomputable def hi2b (a b : Array Keyed) (mg i j : Nat) (o : Array Keyed) (ca cb : Nat) : SM (ForInStep H7):=do
 setMg' mg
 let y ← elem' b (j - 1)
 let r ← gallop' false y a 0 i (i - 1)
 match r with
 | some k =>
  if i - k > 0 then
   if (k == 0) = true then pure (.done (some (dh a b k j (o ++ (a.extract k i).reverse)),k,j,o ++ (a.extract k i).reverse,mg,i - k,cb))
   else hi2c a b mg k j (o ++ (a.extract k i).reverse) (i - k) cb
  else hi2c a b mg i j o (i - k) cb
 | _=>pure (.done (some (dh a b i j o),i,j,o,mg,ca,cb))
noncomputable def hi2 (a b : Array Keyed) (mg i j : Nat) (o : Array Keyed) (ca cb : Nat) : SM H7 :=
 forIn [0:a.size + b.size] ((none,i,j,o,mg,ca,cb) : H7) fun _ c =>
  if c.2.2.2.2.1 > 1 then hi2b a b (c.2.2.2.2.1 - 1) c.2.1 c.2.2.1 c.2.2.2.1 c.2.2.2.2.2.1 c.2.2.2.2.2.2
  else hi2b a b c.2.2.2.2.1 c.2.1 c.2.2.1 c.2.2.2.1 c.2.2.2.2.2.1 c.2.2.2.2.2.2
noncomputable def hi3 (a b : Array Keyed) (i j : Nat) (o : Array Keyed) (mg : Nat) : SM (ForInStep H5):=do
 let c ← hi1 a b mg i j o
 match c.1 with
 | some r=>pure (.done (some r,c.2.1,c.2.2.1,c.2.2.2.1,mg))
 | none=>do
  liftM (rule "list.sort.gallop")
  let d ← hi2 a b (mg + 1) c.2.1 c.2.2.1 c.2.2.2.1 c.2.2.2.2.1 c.2.2.2.2.2
  match d.1 with
  | some r=>pure (.done (some r,d.2.1,d.2.2.1,d.2.2.2.1,d.2.2.2.2.1))
  | none=>do
   setMg' (d.2.2.2.2.1 + 1)
   pure (.yield (none,d.2.1,d.2.2.1,d.2.2.2.1,d.2.2.2.2.1 + 1))
noncomputable def hi4 (a b : Array Keyed) (i j : Nat) (o : Array Keyed) (mg : Nat) : SM (Array Keyed):=do
 let c ← forIn [0:a.size + b.size] ((none,i,j,o,mg) : H5) fun _ c=>hi3 a b c.2.1 c.2.2.1 c.2.2.2.1 c.2.2.2.2
 match c.1 with
 | some r=>pure r
 | none=>liftM (unsupported "internal:list.sort.merge-bound")
theorem mergeHi'_eq (a b : Array Keyed) : mergeHi' a b = (do
  liftM (rule "list.sort.merge-hi")
  let x ← elem' a (a.size - 1)
  if (a.size - 1 == 0) = true then pure (dh a b (a.size - 1) b.size #[x])
  else if (b.size == 1) = true then pure (fh a b (a.size - 1) b.size #[x])
  else do
   let st ← get
   hi4 a b (a.size - 1) b.size #[x] (gallopOf st)):=by
 refine congrArg (bind _) (funext fun _=>congrArg (bind _) (funext fun y=>?_))
 dsimp only
 refine congrArg (ite _ _) (congrArg (ite _ _) (congrArg (bind _) (funext fun st=>?_)))
 unfold hi4
 refine congr (congrArg bind (congrArg (forIn _ _) (funext fun _=>funext fun c=>?_))) (funext fun c=>?_)
 ·obtain ⟨_,i,j,o,mg⟩:=c
  unfold hi3
  refine congrArg (bind _) (funext fun c=>?_)
  obtain ⟨c,i,j,o,ca,cb⟩:=c
  cases c with
  | some r=>rfl
  | none =>
   refine congrArg (bind _) (funext fun _=>?_)
   dsimp only
   refine congrArg (bind _) (funext fun c=>?_)
   obtain ⟨c,i,j,o,mg,ca,cb⟩:=c
   cases c <;> rfl
 ·obtain ⟨c,i,j,o,mg⟩:=c
  cases c <;> rfl
theorem takeA {a : Array Keyed} {i : Nat} (h0 : 0 < i) (h : i≤a.size) : a.toList.take i = a.toList.take (i - 1) ++ [a[i - 1]'(by omega)]:=by
 obtain ⟨n,rfl⟩ : ∃ n,i = n + 1:=⟨i - 1,by omega⟩
 rw [List.take_add_one]
 simp
theorem cutT {a : Array Keyed} {k i : Nat} (h : k≤i) : a.toList.take i = a.toList.take k ++ (a.extract k i).toList:=by
 rw [extA]
 obtain ⟨m,rfl⟩ : ∃ m,i = k + m:=⟨i - k,by omega⟩
 rw [show k + m - k = m by omega,List.take_add]
theorem ext0 {a : Array Keyed} {i : Nat} : (a.extract 0 i).toList = a.toList.take i:=by rw [extA]; simp
theorem dh_list {a b o : Array Keyed} {i j : Nat} : (dh a b i j o).toList = a.toList.take i ++ b.toList.take j ++ o.toList.reverse:=by
 unfold dh; rw [Array.toList_append,Array.toList_append,ext0,ext0,Array.toList_reverse]
theorem fh_list {a b o : Array Keyed} {i j : Nat} : (fh a b i j o).toList = b.toList.take j ++ a.toList.take i ++ o.toList.reverse:=by
 unfold fh; rw [Array.toList_append,Array.toList_append,ext0,ext0,Array.toList_reverse]
theorem revC {o c : Array Keyed} : (o ++ c.reverse).toList.reverse = c.toList ++ o.toList.reverse:=by simp
theorem revP {o : Array Keyed} {x : Keyed} : (o.push x).toList.reverse = [x] ++ o.toList.reverse:=by simp
noncomputable def Ah (κ : Keyed→Nat) (W : List Keyed) (a b : Array Keyed) (i j : Nat) (o : Array Keyed) : Prop:=Mh κ W (a.toList.take i) (b.toList.take j) o.toList.reverse
section
variable {κ : Keyed→Nat} {W : List Keyed} {a b o : Array Keyed} {i j k : Nat}
theorem srt_last {l : List Keyed} {x : Keyed} (h : Srt κ (l ++ [x])) : ∀ y∈l ++ [x],κ y≤κ x:=fun y hy=>by
 rcases List.mem_append.mp hy with hy | hy
 ·exact (List.pairwise_append.mp h).2.2 y hy x (List.mem_singleton.mpr rfl)
 ·rw [List.mem_singleton.mp hy]; exact Nat.le_refl _
theorem Srt.left {l r : List Keyed} (h : Srt κ (l ++ r)) : Srt κ l:=(List.pairwise_append.mp h).1
theorem Ah.ha (h : Ah κ W a b i j o) (h0 : 0 < i) (hi : i≤a.size) : ∀ x∈a.toList.take i,κ x≤κ (a[i - 1]'(by omega)):=by
 have:=h.sa.left; rw [takeA h0 hi] at this ⊢; exact srt_last this
theorem Ah.hb (h : Ah κ W a b i j o) (h0 : 0 < j) (hj : j≤b.size) : ∀ x∈b.toList.take j,κ x≤κ (b[j - 1]'(by omega)):=by
 have:=h.sb.left; rw [takeA h0 hj] at this ⊢; exact srt_last this
theorem Ah.pushA (h : Ah κ W a b i j o) (h0 : 0 < i) (hi : i≤a.size) (hc : ∀ y∈b.toList.take j,κ y≤κ (a[i - 1]'(by omega))) : Ah κ W a b (i - 1) j (o.push (a[i - 1]'(by omega))):=by
 unfold Ah at h ⊢
 rw [takeA h0 hi] at h
 rw [revP]
 exact Mh.stepA h fun y hy x hx=>by rw [List.mem_singleton.mp hy]; exact hc x hx
theorem Ah.pushB (h : Ah κ W a b i j o) (h0 : 0 < j) (hj : j≤b.size) (hc : ∀ y∈a.toList.take i,κ y≤κ (b[j - 1]'(by omega))) : Ah κ W a b i (j - 1) (o.push (b[j - 1]'(by omega))):=by
 unfold Ah at h ⊢
 rw [takeA h0 hj] at h
 rw [revP]
 exact Mh.stepB h fun y hy x hx=>by rw [List.mem_singleton.mp hy]; exact hc x hx
theorem mem_ext2 {a : Array Keyed} {k i : Nat} (h : i≤a.size) {p : Keyed} (hp : p∈(a.extract k i).toList) : ∃ t,k≤t∧t < i∧a[t]? = some p:=by
 obtain ⟨t,ht,e⟩:=List.getElem_of_mem hp
 simp at ht
 refine ⟨k + t,by omega,by omega,?_⟩
 rw [← e]
 simp
theorem Ah.chunkA (h : Ah κ W a b i j o) (hk : k≤i) (hi : i≤a.size) (hc : ∀ t p,k≤t→t < i→a[t]? = some p→∀ y∈b.toList.take j,κ y≤κ p) : Ah κ W a b k j (o ++ (a.extract k i).reverse):=by
 unfold Ah at h ⊢
 rw [cutT hk] at h
 rw [revC]
 exact Mh.stepA h fun x hx y hy=>by
  obtain ⟨t,h1,h2,e⟩:=mem_ext2 hi hx
  exact hc t x h1 h2 e y hy
theorem Ah.chunkB (h : Ah κ W a b i j o) (hk : k≤j) (hj : j≤b.size) (hc : ∀ t p,k≤t→t < j→b[t]? = some p→∀ y∈a.toList.take i,κ y≤κ p) : Ah κ W a b i k (o ++ (b.extract k j).reverse):=by
 unfold Ah at h ⊢
 rw [cutT (a:=b) hk] at h
 rw [revC]
 exact Mh.stepB h fun x hx y hy=>by
  obtain ⟨t,h1,h2,e⟩:=mem_ext2 hj hx
  exact hc t x h1 h2 e y hy
theorem Ah.endA (h : Ah κ W a b i j o) (hi : i = 0) : Res κ W (dh a b i j o):=by
 have:=Mh.fin1 h (by subst hi; intro _ _ x hx; simp at hx)
 unfold Res; rw [dh_list]; exact this
theorem Ah.endB (h : Ah κ W a b i j o) (hj : j = 0) : Res κ W (dh a b i j o):=by
 have:=Mh.fin1 h (by subst hj; intro x hx; simp at hx)
 unfold Res; rw [dh_list]; exact this
theorem Ah.endF (h : Ah κ W a b i j o) (hl : ∀ x∈a.toList,∀ y∈b.toList.take 1,κ y≤κ x) (hj : j = 1) : Res κ W (fh a b i j o):=by
 have:=Mh.fin2 h (fun x hx y hy=>hl x (List.mem_of_mem_take hx) y (by subst hj; exact hy))
 unfold Res; rw [fh_list]; exact this
end
end ST
namespace ST
open PySem PyProof.Rows
set_option autoImplicit false
section
variable {M : Model} {A : Around} {E : Value→Shared→Prop} {s : Shared} {kd : SortKind} {κ : Keyed→Nat} {U : Keyed→Prop} {W : List Keyed} {a b : Array Keyed}
structure PreH (κ : Keyed→Nat) (U : Keyed→Prop) (a b : Array Keyed) : Prop where
 ua : ∀ p∈a.toList,U p
 ub : ∀ p∈b.toList,U p
 sa : Srt κ a.toList
 sb : Srt κ b.toList
 first : ∀ x∈a.toList,∀ y∈b.toList.take 1,κ y≤κ x
theorem PreH.sideA (P : PreH κ U a b) {n : Nat} (l : Bool) {key : Keyed} (hn : n≤a.size) (uk : U key) :
  Side κ U l key a 0 n fun t=>match a[0 + t]? with
   | some p=>gb l κ key p
   | none=>false:=side_mk l (by omega) P.ua (fun x y _ hy _ hxy _=>srt_le P.sa hy hxy) uk
theorem PreH.sideB (P : PreH κ U a b) {n : Nat} (l : Bool) {key : Keyed} (hn : n≤b.size) (uk : U key) :
  Side κ U l key b 0 n fun t=>match b[0 + t]? with
   | some p=>gb l κ key p
   | none=>false:=side_mk l (by omega) P.ub (fun x y _ hy _ hxy _=>srt_le P.sb hy hxy) uk
noncomputable def Ih (κ : Keyed→Nat) (W : List Keyed) (a b : Array Keyed) (i j : Nat) (o : Array Keyed) : Prop:=Ah κ W a b i j o∧0 < i∧i≤a.size∧1 < j∧j≤b.size
theorem mem_take {a : Array Keyed} {k : Nat} {p : Keyed} (hp : p∈a.toList.take k) : ∃ t,t < k∧a[t]? = some p:=by
 obtain ⟨t,ht,e⟩:=List.getElem_of_mem hp
 simp at ht
 refine ⟨t,by omega,?_⟩
 rw [← e]
 simp
theorem w_hi1 (C : Cmp M A E s kd κ U) (P : PreH κ U a b) {mg i j : Nat} {o : Array Keyed} {st : SortSt} {Q : H6→SortSt→Prop} (hk : kindOf st = kd) (h : Ih κ W a b i j o)
  (q1 : ∀ r c,Res κ W r→Q (some r,c) st) (q2 : ∀ i' j' o' ca cb,Ih κ W a b i' j' o'→i' + j' + 1≤i + j→Q (none,i',j',o',ca,cb) st) : wpS M A E s (hi1 a b mg i j o) Q st:=by
 unfold hi1
 refine wpS_forRange (I:=fun k c st'=>st' = st∧∃ i' j' o' ca cb,c = (none,i',j',o',ca,cb)∧Ih κ W a b i' j' o'∧i' + j' + k≤i + j) ?_ ?_ ⟨rfl,i,j,o,0,0,rfl,h,by omega⟩
 ·rintro k c st' _ hkn ⟨rfl,i',j',o',ca,cb,rfl,⟨h1,h2,h3,h4,h5⟩,hp⟩
  dsimp only
  unfold hi1b
  have hA : i' - 1 < a.size:=by omega
  have hB : j' - 1 < b.size:=by omega
  refine wpS_bind (w_elem (someA hB) (wpS_bind (w_elem (someA hA) (wpS_bind (C.lt hk (P.ub _ (memA hB)) (P.ua _ (memA hA)) ?_)))))
  dsimp only
  by_cases hw : κ b[j' - 1] < κ a[i' - 1]
  ·rw [decide_eq_true hw,if_pos rfl]
   refine wpS_bind (w_elem (someA hA) ?_)
   have h':=h1.pushA h2 h3 fun y hy=>Nat.le_trans (h1.hb (by omega) h5 y hy) (Nat.le_of_lt hw)
   by_cases hj : i' - 1 = 0
   ·rw [if_pos (by simpa using hj)]
    exact wpS_pure (q1 _ _ (h'.endA hj))
   ·rw [if_neg (by simpa using hj)]
    by_cases hm : ca + 1 ≥ mg
    ·rw [if_pos hm]; exact wpS_pure (q2 _ _ _ _ _ ⟨h',by omega,by omega,h4,h5⟩ (by omega))
    ·rw [if_neg hm]; exact wpS_pure ⟨rfl,_,_,_,_,_,rfl,⟨h',by omega,by omega,h4,h5⟩,by omega⟩
  ·rw [decide_eq_false hw,if_neg (by simp)]
   refine wpS_bind (w_elem (someA hB) ?_)
   have h':=h1.pushB (by omega) h5 fun y hy=>Nat.le_trans (h1.ha h2 h3 y hy) (Nat.le_of_not_lt hw)
   by_cases hj : j' - 1 = 1
   ·rw [if_pos (by simpa using hj)]
    exact wpS_pure (q1 _ _ (h'.endF P.first hj))
   ·rw [if_neg (by simpa using hj)]
    by_cases hm : cb + 1 ≥ mg
    ·rw [if_pos hm]; exact wpS_pure (q2 _ _ _ _ _ ⟨h',h2,h3,by omega,by omega⟩ (by omega))
    ·rw [if_neg hm]; exact wpS_pure ⟨rfl,_,_,_,_,_,rfl,⟨h',h2,h3,by omega,by omega⟩,by omega⟩
 ·rintro c st' ⟨rfl,i',j',o',ca,cb,rfl,h1,hp⟩
  exact q2 _ _ _ _ _ h1 (by have:=h1.2; omega)
theorem w_hi2d {mg i j ca cb : Nat} {o : Array Keyed} {st : SortSt} {Q : ForInStep H7→SortSt→Prop} (h : Ih κ W a b i j o) (hc : ∀ y∈b.toList.take j,κ y≤κ (a[i - 1]'(by have:=h.2; omega)))
  (q1 : ∀ r c,Res κ W r→Q (.done (some r,c)) st) (q2 : ∀ i' j' o' mg ca cb,Ih κ W a b i' j' o'→i' + j'≤i + j→Q (.done (none,i',j',o',mg,ca,cb)) st∧Q (.yield (none,i',j',o',mg,ca,cb)) st) : wpS M A E s (hi2d a b mg i j o ca cb) Q st:=by
 obtain ⟨h1,h2,h3,h4,h5⟩:=h
 unfold hi2d
 refine wpS_bind (w_elem (someA (by omega)) ?_)
 have h':=h1.pushA h2 h3 hc
 by_cases hj : i - 1 = 0
 ·rw [if_pos (by simpa using hj)]
  exact wpS_pure (q1 _ _ (h'.endA hj))
 ·rw [if_neg (by simpa using hj)]
  by_cases hm : (decide (ca < 7) && decide (cb < 7)) = true
  ·rw [if_pos hm]; exact wpS_pure (q2 _ _ _ _ _ _ ⟨h',by omega,by omega,h4,h5⟩ (by omega)).1
  ·rw [if_neg hm]; exact wpS_pure (q2 _ _ _ _ _ _ ⟨h',by omega,by omega,h4,h5⟩ (by omega)).2
theorem w_hi2c (C : Cmp M A E s kd κ U) (P : PreH κ U a b) {mg i j ca cb : Nat} {o : Array Keyed} {st : SortSt} {Q : ForInStep H7→SortSt→Prop} (hk : kindOf st = kd) (h : Ih κ W a b i j o)
  (hc : ∀ x∈a.toList.take i,κ x≤κ (b[j - 1]'(by have:=h.2; omega)))
  (q1 : ∀ r c,Res κ W r→Q (.done (some r,c)) st) (q2 : ∀ i' j' o' mg ca cb,Ih κ W a b i' j' o'→i' + j'≤i + j→Q (.done (none,i',j',o',mg,ca,cb)) st∧Q (.yield (none,i',j',o',mg,ca,cb)) st) : wpS M A E s (hi2c a b mg i j o ca cb) Q st:=by
 obtain ⟨h1,h2,h3,h4,h5⟩:=h
 unfold hi2c
 have hA : i - 1 < a.size:=by omega
 refine wpS_bind (w_elem (someA (by omega)) ?_)
 have h':=h1.pushB (by omega) h5 hc
 by_cases hj : j - 1 = 1
 ·rw [if_pos (by simpa using hj)]
  exact wpS_pure (q1 _ _ (h'.endF P.first hj))
 ·rw [if_neg (by simpa using hj)]
  refine wpS_bind (w_elem (someA hA) (wpS_bind (w_gallop C (P.sideB (n:=j - 1) true (by omega) (P.ua _ (memA hA))) hk (by omega) fun k hkn f1 f2=>?_)))
  dsimp only
  have hrest : ∀ y∈b.toList.take k,κ y≤κ a[i - 1]:=fun y hy=>by
   obtain ⟨t,ht,e⟩:=mem_take hy
   have:=f1 t ht
   rw [Nat.zero_add,e] at this
   exact Nat.le_of_lt (gb_t this)
  by_cases hk0 : j - 1 - k > 0
  ·rw [if_pos hk0]
   have h'':=h'.chunkB (k:=k) (by omega) (by omega) fun t p ht ht2 e x hx=>by
    have:=f2 t ht ht2
    simp only [Nat.zero_add,e] at this
    exact Nat.le_trans (h1.ha h2 h3 x hx) (gb_f this)
   by_cases he : k = 1
   ·rw [if_pos (by simpa using he)]
    exact wpS_pure (q1 _ _ (h''.endF P.first he))
   ·rw [if_neg (by simpa using he)]
    by_cases he2 : k = 0
    ·rw [if_pos (by simpa using he2)]
     exact wpS_pure (q1 _ _ (h''.endB he2))
    ·rw [if_neg (by simpa using he2)]
     exact w_hi2d ⟨h'',h2,h3,by omega,by omega⟩ hrest q1 fun i' j' o' mg ca cb hI hp=>q2 _ _ _ _ _ _ hI (by omega)
  ·rw [if_neg hk0]
   have : k = j - 1:=by omega
   subst this
   exact w_hi2d ⟨h',h2,h3,by omega,by omega⟩ hrest q1 fun i' j' o' mg ca cb hI hp=>q2 _ _ _ _ _ _ hI (by omega)
theorem w_hi2b (C : Cmp M A E s kd κ U) (P : PreH κ U a b) {mg i j ca cb : Nat} {o : Array Keyed} {st : SortSt} {Q : ForInStep H7→SortSt→Prop} (hk : kindOf st = kd) (h : Ih κ W a b i j o)
  (q1 : ∀ r c st',Kp st st'→Res κ W r→Q (.done (some r,c)) st') (q2 : ∀ i' j' o' mg ca cb st',Kp st st'→Ih κ W a b i' j' o'→i' + j'≤i + j→Q (.done (none,i',j',o',mg,ca,cb)) st'∧Q (.yield (none,i',j',o',mg,ca,cb)) st') :
  wpS M A E s (hi2b a b mg i j o ca cb) Q st:=by
 obtain ⟨h1,h2,h3,h4,h5⟩:=h
 unfold hi2b
 have hB : j - 1 < b.size:=by omega
 refine wpS_bind (w_setMg fun st' kp=>wpS_bind (w_elem (someA hB) (wpS_bind (w_gallop C (P.sideA (n:=i) false (by omega) (P.ub _ (memA hB))) (kp.1.trans hk) (by omega) fun k hkn f1 f2=>?_))))
 dsimp only
 have hrest : ∀ x∈a.toList.take k,κ x≤κ b[j - 1]:=fun x hx=>by
  obtain ⟨t,ht,e⟩:=mem_take hx
  have:=f1 t ht
  rw [Nat.zero_add,e] at this
  exact gb_t' this
 by_cases hk0 : i - k > 0
 ·rw [if_pos hk0]
  have h':=h1.chunkA (k:=k) (by omega) h3 fun t p ht ht2 e y hy=>by
   have:=f2 t ht ht2
   simp only [Nat.zero_add,e] at this
   exact Nat.le_trans (h1.hb (by omega) h5 y hy) (Nat.le_of_lt (gb_f' this))
  by_cases he : k = 0
  ·rw [if_pos (by simpa using he)]
   exact wpS_pure (q1 _ _ _ kp (h'.endA he))
  ·rw [if_neg (by simpa using he)]
   exact w_hi2c C P (kp.1.trans hk) ⟨h',by omega,by omega,h4,h5⟩ hrest (fun r c hr=>q1 r c _ kp hr) fun i' j' o' mg ca cb hI hp=>q2 _ _ _ _ _ _ _ kp hI (by omega)
 ·rw [if_neg hk0]
  have : k = i:=by omega
  subst this
  exact w_hi2c C P (kp.1.trans hk) ⟨h1,h2,h3,h4,h5⟩ hrest (fun r c hr=>q1 r c _ kp hr) fun i' j' o' mg ca cb hI hp=>q2 _ _ _ _ _ _ _ kp hI (by omega)
theorem w_hi2 (C : Cmp M A E s kd κ U) (P : PreH κ U a b) {mg i j ca cb : Nat} {o : Array Keyed} {st : SortSt} {Q : H7→SortSt→Prop} (hk : kindOf st = kd) (h : Ih κ W a b i j o)
  (q1 : ∀ r c st',Kp st st'→Res κ W r→Q (some r,c) st') (q2 : ∀ i' j' o' mg ca cb st',Kp st st'→Ih κ W a b i' j' o'→i' + j'≤i + j→Q (none,i',j',o',mg,ca,cb) st') : wpS M A E s (hi2 a b mg i j o ca cb) Q st:=by
 unfold hi2
 refine wpS_forRange (I:=fun k c st'=>Kp st st'∧∃ i' j' o' mg ca cb,c = (none,i',j',o',mg,ca,cb)∧Ih κ W a b i' j' o'∧i' + j'≤i + j) ?_ ?_ ⟨Kp.refl _,i,j,o,mg,ca,cb,rfl,h,by omega⟩
 ·rintro k c st' _ hkn ⟨kp,i',j',o',mg,ca,cb,rfl,hI,hp⟩
  dsimp only
  have go : ∀ g,wpS M A E s (hi2b a b g i' j' o' ca cb) (fun r st'=>match r with
   | .done c'=>Q c' st'
   | .yield c'=>Kp st st'∧∃ i' j' o' mg ca cb,c' = (none,i',j',o',mg,ca,cb)∧Ih κ W a b i' j' o'∧i' + j'≤i + j) st':=fun g =>
   w_hi2b C P (kp.1.trans hk) hI (fun r c st'' kp' hr=>q1 r c st'' (kp.trans kp') hr) fun i' j' o' mg ca cb st'' kp' hI' hp' =>
    ⟨q2 _ _ _ _ _ _ _ (kp.trans kp') hI' (by omega),kp.trans kp',_,_,_,_,_,_,rfl,hI',by omega⟩
  by_cases hm : mg > 1
  ·rw [if_pos hm]; exact wpS_mono (go _) fun r _ h=>by cases r <;> exact h
  ·rw [if_neg hm]; exact wpS_mono (go _) fun r _ h=>by cases r <;> exact h
 ·rintro c st' ⟨kp,i',j',o',mg,ca,cb,rfl,hI,hp⟩
  exact q2 _ _ _ _ _ _ _ kp hI hp
theorem w_hi4 (C : Cmp M A E s kd κ U) (P : PreH κ U a b) {mg i j : Nat} {o : Array Keyed} {st : SortSt} {Q : Array Keyed→SortSt→Prop} (hk : kindOf st = kd) (h : Ih κ W a b i j o) (hij : i + j + 1≤a.size + b.size)
  (q : ∀ r st',Kp st st'→Res κ W r→Q r st') : wpS M A E s (hi4 a b i j o mg) Q st:=by
 unfold hi4
 refine wpS_bind (wpS_forRange (I:=fun k c st'=>Kp st st'∧∃ i' j' o' mg,c = (none,i',j',o',mg)∧Ih κ W a b i' j' o'∧i' + j' + k + 1≤a.size + b.size) ?_ ?_ ⟨Kp.refl _,i,j,o,mg,rfl,h,by omega⟩)
 ·rintro k c st' _ hkn ⟨kp,i',j',o',mg,rfl,hI,hp⟩
  dsimp only
  unfold hi3
  refine wpS_bind (w_hi1 C P (kp.1.trans hk) hI (fun r c hr=>wpS_pure (wpS_pure (q r _ kp hr))) fun i2 j2 o2 ca cb hI2 hp2=>?_)
  dsimp only
  refine wpS_bind (wpS_lift (wpAny_rule ⟨rfl,?_⟩))
  refine wpS_bind (w_hi2 C P (kp.1.trans hk) hI2 (fun r c st3 kp3 hr=>wpS_pure (wpS_pure (q r _ (kp.trans kp3) hr))) fun i3 j3 o3 mg3 ca cb st3 kp3 hI3 hp3=>?_)
  dsimp only
  exact wpS_bind (w_setMg fun st4 kp4=>wpS_pure ⟨(kp.trans kp3).trans kp4,_,_,_,_,rfl,hI3,by omega⟩)
 ·rintro c st' ⟨kp,i',j',o',mg,rfl,⟨_,h2,h3,h4,h5⟩,hp⟩
  exfalso; omega
theorem w_mergeHi (C : Cmp M A E s kd κ U) (P : PreH κ U a b) (ha : 0 < a.size) (hb : 0 < b.size) (h0 : ∀ y∈b.toList,κ y≤κ (a[a.size - 1]'(by omega))) {st : SortSt} {Q : Array Keyed→SortSt→Prop} (hk : kindOf st = kd)
  (q : ∀ r st',Kp st st'→Res κ (a.toList ++ b.toList) r→Q r st') : wpS M A E s (mergeHi' a b) Q st:=by
 rw [mergeHi'_eq]
 refine wpS_bind (wpS_lift (wpAny_rule ⟨rfl,?_⟩))
 refine wpS_bind (w_elem (someA (by omega)) ?_)
 have ea : a.toList.take a.size = a.toList:=List.take_of_length_le (by simp)
 have eb : b.toList.take b.size = b.toList:=List.take_of_length_le (by simp)
 have h1 : Ah κ (a.toList ++ b.toList) a b a.size b.size #[]:=by
  unfold Ah; rw [ea,eb]; exact ⟨by simp,by simpa using P.sa,by simpa using P.sb⟩
 have h2 : Ah κ (a.toList ++ b.toList) a b (a.size - 1) b.size #[a[a.size - 1]'(by omega)]:=h1.pushA ha (Nat.le_refl _) (by rw [eb]; exact h0)
 by_cases e1 : a.size - 1 = 0
 ·rw [if_pos (by simpa using e1)]
  exact wpS_pure (q _ _ (Kp.refl _) (h2.endA e1))
 ·rw [if_neg (by simpa using e1)]
  by_cases e2 : b.size = 1
  ·rw [if_pos (by simpa using e2)]
   exact wpS_pure (q _ _ (Kp.refl _) (h2.endF P.first e2))
  ·rw [if_neg (by simpa using e2)]
   exact wpS_bind (wpS_get (w_hi4 C P hk ⟨h2,by omega,by omega,by omega,Nat.le_refl _⟩ (by omega) q))
end
end ST
namespace ST
open PySem PyProof.Rows
set_option autoImplicit false
noncomputable def Kn (κ : Keyed→Nat) (xs : Array Keyed) (i : Nat) : Nat:=match xs[i]? with
 | some p=>κ p
 | none=>0
noncomputable def Kf (κ : Keyed→Nat) (st : SortSt) (lo i : Nat) : Nat:=Kn κ (arrOf st) (lo + i)
noncomputable def Up (f : Nat→Nat) (n : Nat) : Prop:=∀ i j,i≤j→j < n→f i≤f j
noncomputable def Dn (f : Nat→Nat) (n : Nat) : Prop:=∀ i j,i≤j→j < n→f j≤f i
structure Bs (kd : SortKind) (U : Keyed→Prop) (a₀ p₀ : Array Keyed) (pd : Array (Nat × Nat × Nat)) (lo : Nat) (st : SortSt) : Prop where
 perm : (arrOf st).Perm a₀
 kind : kindOf st = kd
 failed : failedOf st = none
 pend : pendingOf st = pd
 pre : ∀ i,i < lo→(arrOf st)[i]? = p₀[i]?
noncomputable abbrev R2:=Option (Option Nat) × Nat
noncomputable abbrev R3:=Option (Option Nat) × Nat × Nat
noncomputable def asc (lo a n : Nat) : SM R2 :=
 forIn [a:n] ((none,a) : R2) fun _ c=>do
  let x ← ltAt' (lo + c.2) (lo + c.2 - 1)
  match x with
  | some w=>if w = true then pure (.done (none,c.2)) else pure (.yield (none,c.2 + 1))
  | _=>pure (.done (some none,c.2))
noncomputable def desB (lo m q : Nat) : SM (ForInStep R3):=do
 let x ← ltAt' (lo + m) (lo + m - 1)
 match x with
 | some w =>
  if w = true then
   if q > 0 then do
    reverseSlice' (lo + m - (q + 1)) (lo + m)
    pure (.yield (none,m + 1,0))
   else pure (.yield (none,m + 1,0))
  else do
   let x ← ltAt' (lo + m - 1) (lo + m)
   match x with
   | some l=>if l = true then pure (.done (none,m,q)) else pure (.yield (none,m + 1,q + 1))
   | _=>pure (.done (some none,m,q))
 | _=>pure (.done (some none,m,q))
noncomputable def des (lo a n : Nat) : SM R3:=forIn [a:n] ((none,a,0) : R3) fun _ c=>desB lo c.2.1 c.2.2
noncomputable def tl3 (lo m n : Nat) : SM (Option Nat):=do
 reverseSlice' lo (lo + m)
 let c ← asc lo m n
 match c.1 with
 | some r=>pure r
 | none=>pure (some c.2)
noncomputable def dpt (lo m n : Nat) : SM (Option Nat):=do
 liftM (rule "list.sort.descending-run")
 let c ← des lo (m + 1) n
 match c.1 with
 | some r=>pure r
 | none =>
  if c.2.2 > 0 then do
   reverseSlice' (lo + c.2.1 - (c.2.2 + 1)) (lo + c.2.1)
   tl3 lo c.2.1 n
  else tl3 lo c.2.1 n
theorem countRun'_cut (lo n : Nat) : countRun' lo n = (do
  let c ← asc lo 1 n
  match c.1 with
  | some r=>pure r
  | none =>
   if (c.2 == n) = true then pure (some c.2)
   else if c.2 > 1 then do
    let x ← ltAt' lo (lo + c.2 - 1)
    match x with
    | some w=>if w = true then pure (some c.2) else do
      reverseSlice' lo (lo + c.2)
      dpt lo c.2 n
    | _=>pure none
   else dpt lo c.2 n):=by
 rw [countRun'_eq]
 refine congrArg (bind _) (funext fun c=>?_)
 obtain ⟨c,m⟩:=c
 cases c with
 | some r=>rfl
 | none =>
  dsimp only
  refine congrArg (ite _ _) ?_
  have T : ∀ (k : Nat) (g : R2→SM (Option Nat)),(∀ c,g c = match c.1 with
    | some r=>pure r
    | none=>pure (some c.2))→(do reverseSlice' lo (lo + k); let c ← asc lo k n; g c) = tl3 lo k n:=fun k g hg=>by
   unfold tl3
   exact congrArg (bind _) (funext fun _=>congrArg (bind _) (funext fun c=>hg c))
  have D : ∀ (g : R3→SM (Option Nat)),(∀ c,g c = match c.1 with
    | some r=>pure r
    | none=>if c.2.2 > 0 then (do reverseSlice' (lo + c.2.1 - (c.2.2 + 1)) (lo + c.2.1); tl3 lo c.2.1 n) else tl3 lo c.2.1 n)→(do liftM (rule "list.sort.descending-run"); let c ← des lo (m + 1) n; g c) = dpt lo m n:=fun g hg=>by
   unfold dpt
   exact congrArg (bind _) (funext fun _=>congrArg (bind _) (funext fun c=>hg c))
  by_cases h : m > 1
  ·rw [if_pos h,if_pos h]
   refine congrArg (bind _) (funext fun x=>?_)
   rcases x with _ | _ | _
   ·rfl
   ·refine congrArg (bind _) (funext fun _=>D _ fun c=>?_)
    obtain ⟨c,k,q⟩:=c
    cases c with
    | some r=>rfl
    | none =>
     show (if q > 0 then _ else _) = (if q > 0 then _ else _)
     exact congr (congrArg (ite _) (congrArg (bind _) (funext fun _=>T k _ fun c=>by obtain ⟨c,k⟩:=c; cases c <;> rfl))) (T k _ fun c=>by obtain ⟨c,k⟩:=c; cases c <;> rfl)
   ·rfl
  ·rw [if_neg h,if_neg h]
   refine D _ fun c=>?_
   obtain ⟨c,k,q⟩:=c
   cases c with
   | some r=>rfl
   | none =>
    show (if q > 0 then _ else _) = (if q > 0 then _ else _)
    exact congr (congrArg (ite _) (congrArg (bind _) (funext fun _=>T k _ fun c=>by obtain ⟨c,k⟩:=c; cases c <;> rfl))) (T k _ fun c=>by obtain ⟨c,k⟩:=c; cases c <;> rfl)
end ST
namespace ST
open PySem PyProof.Rows
set_option autoImplicit false
section
variable {M : Model} {A : Around} {E : Value→Shared→Prop} {s : Shared} {kd : SortKind} {κ : Keyed→Nat} {U : Keyed→Prop} {a₀ p₀ : Array Keyed} {pd : Array (Nat × Nat × Nat)} {lo : Nat} {st : SortSt}
theorem Bs.size (h : Bs kd U a₀ p₀ pd lo st) : (arrOf st).size = a₀.size:=h.perm.size_eq
theorem Bs.at' (h : Bs kd U a₀ p₀ pd lo st) (hU : ∀ p∈a₀.toList,U p) {i : Nat} (hi : i < a₀.size) : ∃ p,(arrOf st)[i]? = some p∧U p:=by
 have hi' : i < (arrOf st).size:=by rw [h.size]; exact hi
 exact ⟨(arrOf st)[i],someA hi',hU _ ((Array.perm_iff_toList_perm.mp h.perm).mem_iff.mp (memA hi'))⟩
theorem Bs.set (h : Bs kd U a₀ p₀ pd lo st) {xs : Array Keyed} (hp : xs.Perm (arrOf st)) (hq : ∀ i,i < lo→xs[i]? = (arrOf st)[i]?) : Bs kd U a₀ p₀ pd lo (setArr st xs) :=
 ⟨hp.trans h.perm,h.kind,h.failed,h.pend,fun i hi=>(hq i hi).trans (h.pre i hi)⟩
theorem w_ltAt (C : Cmp M A E s kd κ U) (hU : ∀ p∈a₀.toList,U p) (B : Bs kd U a₀ p₀ pd lo st) {i j : Nat} {Q : Option Bool→SortSt→Prop} (hi : i < a₀.size) (hj : j < a₀.size)
  (q : Q (some (decide (Kn κ (arrOf st) i < Kn κ (arrOf st) j))) st) : wpS M A E s (ltAt' i j) Q st:=by
 obtain ⟨x,e1,u1⟩:=B.at' hU hi
 obtain ⟨y,e2,u2⟩:=B.at' hU hj
 rw [ltAt'_eq]
 refine wpS_bind (wpS_get (wpS_bind (w_elem e1 (wpS_bind (w_elem e2 (C.lt B.kind u1 u2 ?_))))))
 unfold Kn at q
 rw [e1,e2] at q
 exact q
theorem Kn_congr {xs ys : Array Keyed} {i j : Nat} (h : xs[i]? = ys[j]?) : Kn κ xs i = Kn κ ys j:=by unfold Kn; rw [h]
theorem mir_at {xs : Array Keyed} {i j k : Nat} (hj : j≤xs.size) : Kn κ (mirror xs i j ((j - i) / 2)) k = if i≤k∧k < j then Kn κ xs (i + j - 1 - k) else Kn κ xs k:=by
 have e:=getElem?_mirror_all (i:=i) hj k
 split at e <;> rename_i c
 ·rw [if_pos c]; exact Kn_congr e
 ·rw [if_neg c]; exact Kn_congr e
theorem w_rev {i j : Nat} {Q : Unit→SortSt→Prop} (B : Bs kd U a₀ p₀ pd lo st) (hi : lo≤i) (hj : j≤a₀.size)
  (q : ∀ st',Bs kd U a₀ p₀ pd lo st'→(∀ k,Kn κ (arrOf st') k = if i≤k∧k < j then Kn κ (arrOf st) (i + j - 1 - k) else Kn κ (arrOf st) k)→Q () st') : wpS M A E s (reverseSlice' i j) Q st:=by
 rw [reverseSlice'_eq]
 have hz : j≤(arrOf st).size:=by rw [B.size]; exact hj
 refine wpS_modify (q _ (B.set (mirror_perm _ _ _ _) fun k hk=>?_) fun k=>mir_at hz)
 rw [getElem?_mirror_all hz,if_neg (by omega)]
theorem w_asc (C : Cmp M A E s kd κ U) (hU : ∀ p∈a₀.toList,U p) (B : Bs kd U a₀ p₀ pd lo st) {a n : Nat} {Q : R2→SortSt→Prop} (hn : lo + n≤a₀.size) (ha : 1≤a) (han : a≤n) (hs : Up (Kf κ st lo) a)
  (q : ∀ m,a≤m→m≤n→Up (Kf κ st lo) m→(m = n∨Kf κ st lo m < Kf κ st lo (m - 1))→Q (none,m) st) : wpS M A E s (asc lo a n) Q st:=by
 unfold asc
 refine wpS_forRange (I:=fun x c st'=>st' = st∧c = (none,x)∧Up (Kf κ st lo) x) ?_ ?_ ⟨rfl,rfl,hs⟩
 ·rintro x c st' hax hxn ⟨rfl,rfl,h⟩
  dsimp only
  refine wpS_bind (w_ltAt C hU B (by omega) (by omega) ?_)
  rw [show lo + x - 1 = lo + (x - 1) by omega]
  dsimp only
  by_cases hw : Kn κ (arrOf st') (lo + x) < Kn κ (arrOf st') (lo + (x - 1))
  ·rw [decide_eq_true hw,if_pos rfl]
   exact wpS_pure (q x hax (by omega) h (.inr hw))
  ·rw [decide_eq_false hw,if_neg (by simp)]
   refine wpS_pure ⟨rfl,rfl,fun i j hij hj=>?_⟩
   by_cases e : j < x
   ·exact h i j hij e
   ·obtain rfl : j = x:=by omega
    by_cases e2 : i = j
    ·subst e2; exact Nat.le_refl _
    ·exact Nat.le_trans (h i (j - 1) (by omega) (by omega)) (Nat.le_of_not_lt hw)
 ·rintro c st' ⟨rfl,rfl,h⟩
  rw [show max a n = n by omega] at h ⊢
  exact q n han (Nat.le_refl _) h (.inl rfl)
theorem w_tl3 (C : Cmp M A E s kd κ U) (hU : ∀ p∈a₀.toList,U p) (B : Bs kd U a₀ p₀ pd lo st) {m n : Nat} {Q : Option Nat→SortSt→Prop} (hn : lo + n≤a₀.size) (h1 : 1≤m) (hmn : m≤n) (hs : Dn (Kf κ st lo) m)
  (q : ∀ k st',Bs kd U a₀ p₀ pd lo st'→1≤k→k≤n→Up (Kf κ st' lo) k→Q (some k) st') : wpS M A E s (tl3 lo m n) Q st:=by
 unfold tl3
 refine wpS_bind (w_rev (κ:=κ) B (Nat.le_refl _) (by omega) fun st' B' hk=>?_)
 refine wpS_bind (w_asc C hU B' hn h1 hmn (fun i j hij hj=>?_) fun k h2 h3 h4 _=>wpS_pure (q k st' B' (by omega) h3 h4))
 unfold Kf
 rw [hk,hk,if_pos (by omega),if_pos (by omega)]
 have:=hs (m - 1 - j) (m - 1 - i) (by omega) (by omega)
 unfold Kf at this
 rw [show lo + (lo + m) - 1 - (lo + i) = lo + (m - 1 - i) by omega,show lo + (lo + m) - 1 - (lo + j) = lo + (m - 1 - j) by omega]
 exact this
theorem rev_eq {st st' : SortSt} {i j : Nat} (hk : ∀ k,Kn κ (arrOf st') k = if i≤k∧k < j then Kn κ (arrOf st) (i + j - 1 - k) else Kn κ (arrOf st) k) (he : ∀ k,i≤k→k < j→Kn κ (arrOf st) k = Kn κ (arrOf st) (j - 1)) :
  Kf κ st' lo = Kf κ st lo:=by
 funext t
 unfold Kf
 rw [hk]
 split
 ·rename_i c; rw [he _ (by omega) (by omega),he (lo + t) (by omega) (by omega)]
 ·rfl
theorem w_des (C : Cmp M A E s kd κ U) (hU : ∀ p∈a₀.toList,U p) (B : Bs kd U a₀ p₀ pd lo st) {a n : Nat} {Q : R3→SortSt→Prop} (hn : lo + n≤a₀.size) (ha : 1≤a) (han : a≤n) (hs : Dn (Kf κ st lo) a)
  (q : ∀ m e st',Bs kd U a₀ p₀ pd lo st'→a≤m→m≤n→Dn (Kf κ st' lo) m→e + 1≤m→(∀ k,m - (e + 1)≤k→k < m→Kf κ st' lo k = Kf κ st' lo (m - 1))→Q (none,m,e) st') : wpS M A E s (des lo a n) Q st:=by
 unfold des
 refine wpS_forRange (I:=fun x c st'=>∃ e,c = (none,x,e)∧Bs kd U a₀ p₀ pd lo st'∧Dn (Kf κ st' lo) x∧e + 1≤x∧∀ k,x - (e + 1)≤k→k < x→Kf κ st' lo k = Kf κ st' lo (x - 1)) ?_ ?_
  ⟨0,rfl,B,hs,by omega,fun k h1 h2=>by congr 1; omega⟩
 ·rintro x c st' hax hxn ⟨e,rfl,B',h,hex,heq⟩
  dsimp only
  unfold desB
  refine wpS_bind (w_ltAt C hU B' (by omega) (by omega) ?_)
  rw [show lo + x - 1 = lo + (x - 1) by omega]
  dsimp only
  by_cases hw : Kn κ (arrOf st') (lo + x) < Kn κ (arrOf st') (lo + (x - 1))
  ·rw [decide_eq_true hw,if_pos rfl]
   have next : ∀ st2,Kf κ st2 lo = Kf κ st' lo→Dn (Kf κ st2 lo) (x + 1):=fun st2 e2 i j hij hj=>by
    rw [e2]
    by_cases c : j < x
    ·exact h i j hij c
    ·obtain rfl : j = x:=by omega
     by_cases c2 : i = j
     ·subst c2; exact Nat.le_refl _
     ·exact Nat.le_trans (Nat.le_of_lt hw) (h i (j - 1) (by omega) (by omega))
   by_cases he : e > 0
   ·rw [if_pos he]
    refine wpS_bind (w_rev (κ:=κ) B' (by omega) (by omega) fun st2 B2 hk=>wpS_pure ⟨0,rfl,B2,next st2 (rev_eq hk fun k h1 h2=>?_),by omega,fun k h1 h2=>by congr 1; omega⟩)
    have:=heq (k - lo) (by omega) (by omega)
    unfold Kf at this
    rw [show lo + (k - lo) = k by omega] at this
    rw [this]; congr 1; omega
   ·rw [if_neg he]
    exact wpS_pure ⟨0,rfl,B',next st' rfl,by omega,fun k h1 h2=>by congr 1; omega⟩
  ·rw [decide_eq_false hw,if_neg (by simp)]
   refine wpS_bind (w_ltAt C hU B' (by omega) (by omega) ?_)
   dsimp only
   by_cases hv : Kn κ (arrOf st') (lo + (x - 1)) < Kn κ (arrOf st') (lo + x)
   ·rw [decide_eq_true hv,if_pos rfl]
    exact wpS_pure (q x e st' B' hax (by omega) h hex heq)
   ·rw [decide_eq_false hv,if_neg (by simp)]
    have exx : Kf κ st' lo x = Kf κ st' lo (x - 1):=by unfold Kf; omega
    refine wpS_pure ⟨e + 1,rfl,B',fun i j hij hj=>?_,by omega,fun k h1 h2=>?_⟩
    ·by_cases c : j < x
     ·exact h i j hij c
     ·obtain rfl : j = x:=by omega
      by_cases c2 : i = j
      ·subst c2; exact Nat.le_refl _
      ·rw [exx]; exact h i (j - 1) (by omega) (by omega)
    ·rw [show x + 1 - 1 = x by omega]
     by_cases c : k = x
     ·subst c; rfl
     ·rw [exx]; exact heq k (by omega) (by omega)
 ·rintro c st' ⟨e,rfl,B',h,hex,heq⟩
  rw [show max a n = n by omega] at h hex heq ⊢
  exact q n e st' B' han (Nat.le_refl _) h hex heq
theorem w_dpt (C : Cmp M A E s kd κ U) (hU : ∀ p∈a₀.toList,U p) (B : Bs kd U a₀ p₀ pd lo st) {m n : Nat} {Q : Option Nat→SortSt→Prop} (hn : lo + n≤a₀.size) (hmn : m + 1≤n) (hs : Dn (Kf κ st lo) (m + 1))
  (q : ∀ k st',Bs kd U a₀ p₀ pd lo st'→1≤k→k≤n→Up (Kf κ st' lo) k→Q (some k) st') : wpS M A E s (dpt lo m n) Q st:=by
 unfold dpt
 refine wpS_bind (wpS_lift (wpAny_rule ⟨rfl,?_⟩))
 refine wpS_bind (w_des C hU B hn (by omega) hmn hs fun k e st' B' h1 h2 h3 h4 h5=>?_)
 dsimp only
 by_cases he : e > 0
 ·rw [if_pos he]
  refine wpS_bind (w_rev (κ:=κ) B' (by omega) (by omega) fun st2 B2 hk=>w_tl3 C hU B2 hn (by omega) h2 ?_ q)
  rw [rev_eq hk fun t c1 c2=>?_]
  ·exact h3
  ·have:=h5 (t - lo) (by omega) (by omega)
   unfold Kf at this
   rw [show lo + (t - lo) = t by omega] at this
   rw [this]; congr 1; omega
 ·rw [if_neg he]
  exact w_tl3 C hU B' hn (by omega) h2 h3 q
theorem w_countRun (C : Cmp M A E s kd κ U) (hU : ∀ p∈a₀.toList,U p) (B : Bs kd U a₀ p₀ pd lo st) {n : Nat} {Q : Option Nat→SortSt→Prop} (hn : lo + n≤a₀.size) (h1 : 1≤n)
  (q : ∀ k st',Bs kd U a₀ p₀ pd lo st'→1≤k→k≤n→Up (Kf κ st' lo) k→Q (some k) st') : wpS M A E s (countRun' lo n) Q st:=by
 rw [countRun'_cut]
 refine wpS_bind (w_asc C hU B hn (Nat.le_refl 1) h1 (fun i j hij hj=>by obtain rfl : i = j:=(by omega); exact Nat.le_refl _) fun m g1 g2 g3 g4=>?_)
 dsimp only
 by_cases hm : m = n
 ·rw [if_pos (by simpa using hm)]
  exact wpS_pure (q m st B g1 g2 g3)
 ·rw [if_neg (by simpa using hm)]
  have hlt:=g4.resolve_left hm
  by_cases h2 : m > 1
  ·rw [if_pos h2]
   refine wpS_bind (w_ltAt C hU B (by omega) (by omega) ?_)
   rw [show lo + m - 1 = lo + (m - 1) by omega]
   dsimp only
   by_cases hw : Kn κ (arrOf st) lo < Kn κ (arrOf st) (lo + (m - 1))
   ·rw [decide_eq_true hw,if_pos rfl]
    exact wpS_pure (q m st B g1 g2 g3)
   ·rw [decide_eq_false hw,if_neg (by simp)]
    have all : ∀ k,k < m→Kf κ st lo k = Kf κ st lo (m - 1):=fun k hk=>by
     have a1:=g3 0 k (by omega) hk
     have a2:=g3 k (m - 1) (by omega) (by omega)
     have a3 : Kf κ st lo (m - 1)≤Kf κ st lo 0:=Nat.le_of_not_lt hw
     omega
    refine wpS_bind (w_rev (κ:=κ) B (Nat.le_refl _) (by omega) fun st2 B2 hk=>w_dpt C hU B2 hn (by omega) ?_ q)
    rw [rev_eq hk fun t c1 c2=>?_]
    ·intro i j hij hj
     by_cases c : j < m
     ·rw [all i (by omega),all j c]; exact Nat.le_refl _
     ·obtain rfl : j = m:=by omega
      by_cases c2 : i = j
      ·subst c2; exact Nat.le_refl _
      ·rw [all i (by omega)]; exact Nat.le_of_lt hlt
    ·have:=all (t - lo) (by omega)
     unfold Kf at this
     rw [show lo + (t - lo) = t by omega] at this
     rw [this]; congr 1; omega
  ·rw [if_neg h2]
   obtain rfl : m = 1:=by omega
   refine w_dpt C hU B hn (by omega) (fun i j hij hj=>?_) q
   by_cases c : i = j
   ·subst c; exact Nat.le_refl _
   ·obtain rfl : i = 0:=by omega
    obtain rfl : j = 1:=by omega
    exact Nat.le_of_lt hlt
theorem bub_at {xs : Array Keyed} {src d k : Nat} (hs : src < xs.size) (hd : d≤src) : Kn κ (bubble xs src d) k = if k = src - d then Kn κ xs src else if src - d < k∧k≤src then Kn κ xs (k - 1) else Kn κ xs k:=by
 have e:=getElem?_bubble hs d hd k
 by_cases c1 : k = src - d
 ·rw [if_pos c1] at e ⊢; exact Kn_congr e
 ·rw [if_neg c1] at e ⊢
  by_cases c2 : src - d < k∧k≤src
  ·rw [if_pos c2] at e ⊢; exact Kn_congr e
  ·rw [if_neg c2] at e ⊢; exact Kn_congr e
theorem w_binarySort (C : Cmp M A E s kd κ U) (hU : ∀ p∈a₀.toList,U p) (B : Bs kd U a₀ p₀ pd lo st) {n m : Nat} {Q : Bool→SortSt→Prop} (hn : lo + n≤a₀.size) (hm : m≤n) (hs : Up (Kf κ st lo) m)
  (q : ∀ st',Bs kd U a₀ p₀ pd lo st'→Up (Kf κ st' lo) n→Q true st') : wpS M A E s (binarySort' lo n m) Q st:=by
 rw [binarySort'_eq]
 refine wpS_bind (wpS_forRange (I:=fun k c st'=>c = (none,())∧Bs kd U a₀ p₀ pd lo st'∧Up (Kf κ st' lo) (min k n)) ?_ ?_ ⟨rfl,B,fun i j hij hj=>?_⟩)
 ·rintro k c st' hk1 hk2 ⟨rfl,B',h⟩
  rw [show min k n = k by omega] at h
  dsimp only
  refine wpS_bind (wpS_mono (wpS_forRange (I:=fun x c st2=>st2 = st'∧∃ l r,c = (none,l,r)∧l≤r∧r≤k∧r - l≤k - x∧(∀ i,i < l→Kf κ st' lo i≤Kf κ st' lo k)∧(∀ i,r≤i→i < k→Kf κ st' lo k < Kf κ st' lo i))
   (Q:=fun c st2=>st2 = st'∧∃ l r,c = (none,l,r)∧l≤k∧(∀ i,i < l→Kf κ st' lo i≤Kf κ st' lo k)∧(∀ i,l≤i→i < k→Kf κ st' lo k < Kf κ st' lo i)) ?_ ?_ ⟨rfl,0,k,rfl,by omega,by omega,by omega,fun i hi=>by omega,fun i h1 h2=>by omega⟩) ?_)
  ·rintro x c st2 _ hx ⟨rfl,l,r,rfl,h1,h2,h3,h4,h5⟩
   dsimp only
   by_cases hge : l ≥ r
   ·rw [if_pos hge]
    exact wpS_pure ⟨rfl,l,r,rfl,by omega,h4,fun i c1 c2=>h5 i (by omega) c2⟩
   ·rw [if_neg hge]
    refine wpS_bind (w_ltAt C hU B' (by omega) (by omega) ?_)
    dsimp only
    by_cases hw : Kn κ (arrOf st2) (lo + k) < Kn κ (arrOf st2) (lo + (l + r) / 2)
    ·rw [decide_eq_true hw,if_pos rfl]
     exact wpS_pure ⟨rfl,l,(l + r) / 2,rfl,by omega,by omega,by omega,h4,fun i c1 c2=>Nat.lt_of_lt_of_le hw (h _ _ c1 c2)⟩
    ·rw [decide_eq_false hw,if_neg (by simp)]
     exact wpS_pure ⟨rfl,(l + r) / 2 + 1,r,rfl,by omega,by omega,by omega,fun i c1=>Nat.le_trans (h i ((l + r) / 2) (by omega) (by omega)) (Nat.le_of_not_lt hw),h5⟩
  ·rintro c st2 ⟨rfl,l,r,rfl,h1,h2,h3,h4,h5⟩
   exact ⟨rfl,l,r,rfl,by omega,h4,fun i c1 c2=>h5 i (by omega) c2⟩
  ·rintro c st2 ⟨rfl,l,r,rfl,h1,h4,h5⟩
   show wpS _ _ _ _ (do moveDown' (lo + k) (lo + l); pure (ForInStep.yield (none,()))) _ _
   rw [moveDown'_eq]
   have hz : lo + k < (arrOf st2).size:=by rw [B'.size]; omega
   refine wpS_bind (wpS_modify (wpS_pure ⟨rfl,B'.set (bubble_perm _ _ _) fun i hi=>?_,?_⟩))
   ·rw [getElem?_bubble hz _ (by omega),if_neg (by omega),if_neg (by omega)]
   ·rw [show min (k + 1) n = k + 1 by omega]
    intro i j hij hj
    have e : ∀ t,Kf κ (setArr st2 (bubble (arrOf st2) (lo + k) (lo + k - (lo + l)))) lo t = if t = l then Kf κ st2 lo k else if l < t∧t≤k then Kf κ st2 lo (t - 1) else Kf κ st2 lo t:=fun t=>by
     show Kn κ (bubble (arrOf st2) (lo + k) (lo + k - (lo + l))) (lo + t) = _
     rw [bub_at hz (by omega)]
     unfold Kf
     repeat' split
     all_goals first | rfl | (exfalso; omega) | (congr 1; omega)
    rw [e,e]
    repeat' split
    all_goals first
     | (exfalso; omega)
     | exact Nat.le_refl _
     | exact h4 _ (by omega)
     | exact Nat.le_of_lt (h5 _ (by omega) (by omega))
     | exact h _ _ (by omega) (by omega)
 ·rintro c st' ⟨rfl,B',h⟩
  rw [show min (max (max m 1) n) n = n by omega] at h
  exact wpS_pure (q st' B' h)
 ·by_cases c : m = 0
  ·obtain rfl : i = j:=by omega
   exact Nat.le_refl _
  ·exact hs i j hij (by omega)
end
end ST
namespace ST
open PySem PyProof.Rows
set_option autoImplicit false
noncomputable def mfin (sa : Nat) (m : Array Keyed) : SM Bool:=do
 modify fun s=>setArr s (m.toList.zipIdx.foldl (fun a x=>match x with
  | (p,j)=>a.setIfInBounds (sa + j) p) (arrOf s))
 let s ← get
 pure (failedOf s).isNone
noncomputable def mAt (arr : Array Keyed) (sa na sb nb : Nat) : SM Bool :=
 if (na == 0) = true then pure true else do
  let x ← elem' arr (sa + na - 1)
  let r ← gallop' true x arr sb nb (nb - 1)
  match r with
  | some k =>
   if (k == 0) = true then pure true
   else if na≤k then do
    let m ← mergeLo' (arr.extract sa sb) (arr.extract sb (sb + k))
    mfin sa m
   else do
    let m ← mergeHi' (arr.extract sa sb) (arr.extract sb (sb + k))
    mfin sa m
  | _=>pure false
theorem putAt (sa : Nat) : ∀ (l : List Keyed) (j : Nat) (xs : Array Keyed),sa + j + l.length≤xs.size →
  ((l.zipIdx j).foldl (fun a x=>match x with
   | (p,j)=>a.setIfInBounds (sa + j) p) xs).toList = xs.toList.take (sa + j) ++ l ++ xs.toList.drop (sa + j + l.length)
 | [],j,xs,h=>by simp
 | p :: l,j,xs,h=>by
  rw [List.zipIdx_cons,List.foldl_cons,putAt sa l (j + 1) _ (by simp at h ⊢; omega)]
  have hs : sa + j < xs.size:=by simp at h; omega
  have e : (xs.setIfInBounds (sa + j) p).toList = xs.toList.set (sa + j) p:=by simp
  rw [e,show sa + (j + 1) = sa + j + 1 by omega,List.take_add_one]
  have e1 : (xs.toList.set (sa + j) p)[sa + j]? = some p:=by simp [hs]
  have e2 : (xs.toList.set (sa + j) p).take (sa + j) = xs.toList.take (sa + j):=by rw [List.take_set_of_le (Nat.le_refl _)]
  have e3 : (xs.toList.set (sa + j) p).drop (sa + j + 1 + l.length) = xs.toList.drop (sa + j + 1 + l.length):=by rw [List.drop_set_of_lt (by omega)]
  rw [e1,e2,e3]
  simp [Nat.add_assoc,Nat.add_comm,Nat.add_left_comm]
theorem w_set {M : Model} {A : Around} {E : Value→Shared→Prop} {s : Shared} {st st' : SortSt} {Q : PUnit→SortSt→Prop} (h : Q ⟨⟩ st') : wpS M A E s (set st' : SM PUnit) Q st:=by
 unfold wpS; rw [StateT.run_set]; exact wpAny_pure ⟨rfl,h⟩
theorem w_mergeAt_eq {M : Model} {A : Around} {E : Value→Shared→Prop} {s : Shared} {kd : SortKind} {arr : Array Keyed} {n1 n2 pw g : Nat} {Q : Bool→SortSt→Prop}
  (h : wpS M A E s (do
   set (SortSt.mk' kd arr ((#[(0,n1,pw),(n1,n2,0)].setIfInBounds 0 (0,n1 + n2,pw)).eraseIdxIfInBounds (0 + 1)) g none)
   let x ← elem' arr n1
   let r ← gallop' false x arr 0 n1 0
   match r with
   | some k=>mAt arr (0 + k) (n1 - k) n1 n2
   | _=>pure false) Q (SortSt.mk' kd arr #[(0,n1,pw),(n1,n2,0)] g none)) : wpS M A E s (mergeAt' 0) Q (SortSt.mk' kd arr #[(0,n1,pw),(n1,n2,0)] g none):=by
 refine wpS_bind (m:=get) (wpS_get ?_)
 exact h
theorem four {κ : Keyed→Nat} {P X Y Z m : List Keyed} (h1 : Srt κ (P ++ X)) (h2 : Srt κ (Y ++ Z)) (h3 : ∀ x∈P,∀ y∈Y ++ Z,κ x≤κ y) (h4 : ∀ x∈X,∀ z∈Z,κ x≤κ z) (hm : m.Perm (X ++ Y)) (hs : Srt κ m) :
  Srt κ (P ++ m ++ Z)∧(P ++ m ++ Z).Perm (P ++ X ++ (Y ++ Z)):=by
 constructor
 ·unfold Srt at *
  simp only [List.pairwise_append,List.mem_append] at h1 h2 h3 ⊢
  refine ⟨⟨h1.1,hs,fun x hx y hy=>?_⟩,h2.2.1,fun x hx z hz=>?_⟩
  ·rcases List.mem_append.mp (hm.mem_iff.mp hy) with hy | hy
   ·exact h1.2.2 x hx y hy
   ·exact h3 x hx y (.inl hy)
  ·rcases hx with hx | hx
   ·exact h3 x hx z (.inr hz)
   ·rcases List.mem_append.mp (hm.mem_iff.mp hx) with hx | hx
    ·exact h4 x hx z hz
    ·exact h2.2.2 x hx z hz
 ·rw [List.append_assoc,List.append_assoc]
  refine List.Perm.append_left P ?_
  rw [← List.append_assoc]
  exact List.Perm.append_right Z hm
end ST
namespace ST
open PySem PyProof.Rows
set_option autoImplicit false
section
variable {M : Model} {A : Around} {E : Value→Shared→Prop} {s : Shared} {kd : SortKind} {κ : Keyed→Nat} {U : Keyed→Prop}
theorem Kn_at {xs : Array Keyed} {i : Nat} (h : i < xs.size) : Kn κ xs i = κ xs[i]:=by unfold Kn; rw [someA h]
theorem Kn_some {xs : Array Keyed} {i : Nat} {p : Keyed} (h : xs[i]? = some p) : Kn κ xs i = κ p:=by unfold Kn; rw [h]
theorem mem_dropA {a : Array Keyed} {k : Nat} {p : Keyed} (hp : p∈a.toList.drop k) : ∃ t,k + t < a.size∧a[k + t]? = some p:=by
 obtain ⟨t,ht,e⟩:=List.getElem_of_mem hp
 simp at ht
 refine ⟨t,by omega,?_⟩
 rw [← e]
 simp
theorem srt_up {xs : Array Keyed} {lo n : Nat} (h : Up (fun i=>Kn κ xs (lo + i)) n) (hn : lo + n≤xs.size) : Srt κ ((xs.toList.drop lo).take n):=by
 unfold Srt
 rw [List.pairwise_iff_getElem]
 intro i j hi hj hij
 simp at hi hj
 have:=h i j (by omega) (by omega)
 dsimp only at this
 rw [Kn_at (by omega),Kn_at (by omega)] at this
 simpa using this
theorem srt_all {xs : Array Keyed} {n1 n2 : Nat} (hz : xs.size = n1 + n2) (h1 : Up (Kn κ xs) n1) (h2 : Up (fun i=>Kn κ xs (n1 + i)) n2) (h : ∀ i j,i < n1→j < n2→Kn κ xs i≤Kn κ xs (n1 + j)) : Srt κ xs.toList:=by
 have : Up (fun i=>Kn κ xs (0 + i)) (n1 + n2):=fun i j hij hj=>by
  dsimp only
  rw [Nat.zero_add,Nat.zero_add]
  by_cases c1 : j < n1
  ·exact h1 i j hij c1
  ·obtain ⟨j',rfl⟩ : ∃ j',j = n1 + j':=⟨j - n1,by omega⟩
   by_cases c2 : i < n1
   ·exact h i j' c2 (by omega)
   ·obtain ⟨i',rfl⟩ : ∃ i',i = n1 + i':=⟨i - n1,by omega⟩
    exact h2 i' j' (by omega) (by omega)
 have:=srt_up this (by omega)
 rw [List.drop_zero,List.take_of_length_le (by simp; omega)] at this
 exact this
theorem w_mfin {sa : Nat} {m : Array Keyed} {st : SortSt} {Q : Bool→SortSt→Prop} (hf : failedOf st = none) (hz : sa + m.size≤(arrOf st).size)
  (q : ∀ st',kindOf st' = kindOf st→failedOf st' = none→pendingOf st' = pendingOf st→(arrOf st').toList = (arrOf st).toList.take sa ++ m.toList ++ (arrOf st).toList.drop (sa + m.size)→Q true st') : wpS M A E s (mfin sa m) Q st:=by
 unfold mfin
 refine wpS_bind (wpS_modify (wpS_bind (wpS_get (wpS_pure ?_))))
 have e:=putAt sa m.toList 0 (arrOf st) (by simpa using hz)
 have : (failedOf st).isNone = true:=by rw [hf]; rfl
 show Q (failedOf st).isNone _
 rw [this]
 refine q _ rfl hf rfl ?_
 simpa using e
theorem w_mergeAt (C : Cmp M A E s kd κ U) {arr : Array Keyed} {n1 n2 pw g : Nat} {Q : Bool→SortSt→Prop} (hU : ∀ p∈arr.toList,U p) (hz : arr.size = n1 + n2) (h1 : 0 < n1) (h2 : 0 < n2) (s1 : Up (Kn κ arr) n1) (s2 : Up (fun i=>Kn κ arr (n1 + i)) n2)
  (q : ∀ st',kindOf st' = kd→failedOf st' = none→(pendingOf st').size≤1→(arrOf st').toList.Perm arr.toList→Srt κ (arrOf st').toList→Q true st') : wpS M A E s (mergeAt' 0) Q (SortSt.mk' kd arr #[(0,n1,pw),(n1,n2,0)] g none):=by
 refine w_mergeAt_eq ?_
 have psz : (((#[(0,n1,pw),(n1,n2,0)] : Array (Nat × Nat × Nat)).setIfInBounds 0 (0,n1 + n2,pw)).eraseIdxIfInBounds (0 + 1)).size≤1:=by
  simp [Array.eraseIdxIfInBounds]
 generalize (((#[(0,n1,pw),(n1,n2,0)] : Array (Nat × Nat × Nat)).setIfInBounds 0 (0,n1 + n2,pw)).eraseIdxIfInBounds (0 + 1)) = p1 at psz ⊢
 refine wpS_bind (w_set ?_)
 have hb : n1 < arr.size:=by omega
 have up1 : ∀ x y (hx : x < arr.size) (hy : y < arr.size),0≤x→x≤y→y < 0 + n1→κ arr[x]≤κ arr[y]:=fun x y hx hy _ hxy hn=>by
  have:=s1 x y hxy (by omega)
  rwa [Kn_at hx,Kn_at hy] at this
 have up2 : ∀ x y (hx : x < arr.size) (hy : y < arr.size),n1≤x→x≤y→y < n1 + n2→κ arr[x]≤κ arr[y]:=fun x y hx hy hnx hxy hn=>by
  have:=s2 (x - n1) (y - n1) (by omega) (by omega)
  dsimp only at this
  rw [show n1 + (x - n1) = x by omega,show n1 + (y - n1) = y by omega] at this
  rwa [Kn_at hx,Kn_at hy] at this
 refine wpS_bind (w_elem (someA hb) (wpS_bind (w_gallop C (side_mk false (by omega) hU up1 (hU _ (memA hb))) rfl h1 fun k hk f1 f2=>?_)))
 dsimp only
 rw [Nat.zero_add]
 have lowK : ∀ t,t < k→Kn κ arr t≤κ arr[n1]:=fun t ht=>by
  have:=f1 t ht
  rw [Nat.zero_add,someA (by omega)] at this
  rw [Kn_at (by omega)]
  exact gb_t' this
 have highK : ∀ t,k≤t→t < n1→κ arr[n1] < Kn κ arr t:=fun t ht ht2=>by
  have:=f2 t ht ht2
  rw [Nat.zero_add,someA (by omega)] at this
  rw [Kn_at (by omega)]
  exact gb_f' this
 have first2 : ∀ j,j < n2→κ arr[n1]≤Kn κ arr (n1 + j):=fun j hj=>by
  have:=s2 0 j (by omega) hj
  dsimp only at this
  rwa [Nat.add_zero,Kn_at hb] at this
 unfold mAt
 by_cases e1 : n1 - k = 0
 ·rw [if_pos (by simpa using e1)]
  exact wpS_pure (q _ rfl rfl psz (List.Perm.refl _) (srt_all hz s1 s2 fun i j hi hj=>Nat.le_trans (lowK i (by omega)) (first2 j hj)))
 ·rw [if_neg (by simpa using e1)]
  have hl : n1 - 1 < arr.size:=by omega
  rw [show k + (n1 - k) - 1 = n1 - 1 by omega]
  refine wpS_bind (w_elem (someA hl) (wpS_bind (w_gallop C (side_mk true (by omega) hU up2 (hU _ (memA hl))) rfl (by omega) fun nb hnb g1 g2=>?_)))
  dsimp only
  have lowB : ∀ t,t < nb→Kn κ arr (n1 + t) < κ arr[n1 - 1]:=fun t ht=>by
   have:=g1 t ht
   rw [someA (by omega)] at this
   rw [Kn_at (by omega)]
   exact gb_t this
  have highB : ∀ t,nb≤t→t < n2→κ arr[n1 - 1]≤Kn κ arr (n1 + t):=fun t ht ht2=>by
   have:=g2 t ht ht2
   rw [someA (by omega)] at this
   rw [Kn_at (by omega)]
   exact gb_f this
  have last1 : ∀ i,i < n1→Kn κ arr i≤κ arr[n1 - 1]:=fun i hi=>by
   have:=s1 i (n1 - 1) (by omega) (by omega)
   rwa [Kn_at hl] at this
  by_cases e2 : nb = 0
  ·rw [if_pos (by simpa using e2)]
   exact wpS_pure (q _ rfl rfl psz (List.Perm.refl _) (srt_all hz s1 s2 fun i j hi hj=>Nat.le_trans (last1 i hi) (highB j (by omega) hj)))
  ·rw [if_neg (by simpa using e2)]
   have cX : arr.toList.take n1 = arr.toList.take k ++ (arr.extract k n1).toList:=cutT hk
   have cY : arr.toList.drop n1 = (arr.extract n1 (n1 + nb)).toList ++ arr.toList.drop (n1 + nb):=cutA
   have sX : Srt κ (arr.toList.take k ++ (arr.extract k n1).toList):=by
    rw [← cX]
    have:=srt_up (κ:=κ) (xs:=arr) (lo:=0) (n:=n1) (by simpa using s1) (by omega)
    simpa using this
   have sY : Srt κ ((arr.extract n1 (n1 + nb)).toList ++ arr.toList.drop (n1 + nb)):=by
    rw [← cY]
    have:=srt_up (κ:=κ) (xs:=arr) (lo:=n1) (n:=n2) s2 (by omega)
    rwa [List.take_of_length_le (by simp; omega)] at this
   have inX : ∀ x∈(arr.extract k n1).toList,∃ t,k≤t∧t < n1∧κ x = Kn κ arr t:=fun x hx=>by
    obtain ⟨t,c1,c2,e⟩:=mem_ext2 (by omega) hx
    exact ⟨t,c1,c2,(Kn_some e).symm⟩
   have inY : ∀ x∈(arr.extract n1 (n1 + nb)).toList,∃ t,t < nb∧κ x = Kn κ arr (n1 + t):=fun x hx=>by
    obtain ⟨t,c1,e⟩:=mem_ext (by omega) hx
    exact ⟨t,c1,(Kn_some e).symm⟩
   have zX : (arr.extract k n1).size = n1 - k:=by simp; omega
   have zY : (arr.extract n1 (n1 + nb)).size = nb:=by simp; omega
   have uX : ∀ p∈(arr.extract k n1).toList,U p:=fun p hp=>hU p (by
    have : p∈arr.toList.take n1:=by rw [cX]; exact List.mem_append_right _ hp
    exact List.mem_of_mem_take this)
   have uY : ∀ p∈(arr.extract n1 (n1 + nb)).toList,U p:=fun p hp=>hU p (by
    have : p∈arr.toList.drop n1:=by rw [cY]; exact List.mem_append_left _ hp
    exact List.mem_of_mem_drop this)
   have fin : ∀ r st',Kp (SortSt.mk' kd arr p1 g none) st'→Res κ ((arr.extract k n1).toList ++ (arr.extract n1 (n1 + nb)).toList) r→wpS M A E s (mfin k r) Q st':=fun r st' kp hr=>by
    obtain ⟨k1,k2,k3,k4⟩:=kp
    have k2' : arrOf st' = arr:=k2
    have rz : r.size = n1 - k + nb:=by
     have:=hr.1.length_eq
     rw [List.length_append,Array.length_toList,Array.length_toList,Array.length_toList,zX,zY] at this
     exact this
    obtain ⟨f1',f2'⟩:=four sX sY (fun x hx y hy=>by
     obtain ⟨t,c1,e⟩:=mem_take hx
     rw [← cY] at hy
     obtain ⟨u,c2,e'⟩:=mem_dropA hy
     rw [← Kn_some (κ:=κ) e,← Kn_some (κ:=κ) e']
     exact Nat.le_trans (lowK t c1) (first2 u (by omega))) (fun x hx z hz'=>by
     obtain ⟨t,c1,c2,e⟩:=inX x hx
     obtain ⟨u,c3,e'⟩:=mem_dropA hz'
     rw [e,← Kn_some (κ:=κ) e',Nat.add_assoc]
     exact Nat.le_trans (last1 t c2) (highB (nb + u) (by omega) (by omega))) hr.1 hr.2
    refine w_mfin (by rw [k4]) (by rw [k2',rz,hz]; omega) fun st2 c1 c2 c3 c4=>?_
    rw [k2',rz,show k + (n1 - k + nb) = n1 + nb by omega] at c4
    refine q st2 (c1.trans k1) c2 (by rw [c3,k3]; exact psz) ?_ ?_
    ·rw [c4]
     refine f2'.trans ?_
     rw [← cX,← cY,List.take_append_drop]
    ·rw [c4]; exact f1'
   by_cases e3 : n1 - k≤nb
   ·rw [if_pos e3]
    refine wpS_bind (w_mergeLo C ⟨uX,uY,sX.right,sY.left,fun y hy x hx=>?_⟩ (by omega) (by omega) (fun x hx=>?_) rfl fin)
    ·obtain ⟨t,c1,e⟩:=inY y hy
     have : x = arr[n1 - 1]:=by
      rw [zX] at hx
      obtain ⟨u,c2,e'⟩:=mem_dropA hx
      rw [zX] at c2
      have : u = 0:=by omega
      subst this
      rw [Array.getElem?_extract_of_lt (by omega)] at e'
      have e':=Option.some.inj e'
      rw [← e']
      congr 1
      omega
     rw [e,this]; exact Nat.le_of_lt (lowB t c1)
    ·obtain ⟨t,c1,c2,e⟩:=inX x hx
     rw [e]
     have : κ ((arr.extract n1 (n1 + nb))[0]'(by omega)) = κ arr[n1]:=by simp
     rw [this]
     exact Nat.le_of_lt (highK t c1 c2)
   ·rw [if_neg e3]
    refine wpS_bind (w_mergeHi C ⟨uX,uY,sX.right,sY.left,fun x hx y hy=>?_⟩ (by omega) (by omega) (fun y hy=>?_) rfl fin)
    ·obtain ⟨t,c1,c2,e⟩:=inX x hx
     have : y = arr[n1]:=by
      obtain ⟨u,c2,e'⟩:=mem_take hy
      have : u = 0:=by omega
      subst this
      rw [Array.getElem?_extract_of_lt (by omega)] at e'
      have e':=Option.some.inj e'
      rw [← e']
      congr 1
     rw [e,this]; exact Nat.le_of_lt (highK t c1 c2)
    ·obtain ⟨t,c1,e⟩:=inY y hy
     rw [e]
     have : κ ((arr.extract k n1)[(arr.extract k n1).size - 1]'(by omega)) = κ arr[n1 - 1]:=by
      simp only [zX,Array.getElem_extract]
      congr 2
      omega
     rw [this]; exact Nat.le_of_lt (lowB t c1)
end
end ST
namespace ST
open PySem PyProof.Rows
set_option autoImplicit false
theorem minRun_two {n : Nat} (h1 : 1≤n) (h2 : n < 128) : minRun' n n 0≤n∧n≤2 * minRun' n n 0:=by
 obtain ⟨f,rfl⟩ : ∃ f,n = f + 1:=⟨n - 1,by omega⟩
 rw [minRun'_succ]
 by_cases h : f + 1 < 64
 ·rw [if_pos h]; omega
 ·rw [if_neg h]
  obtain ⟨g,rfl⟩ : ∃ g,f = g + 1:=⟨f - 1,by omega⟩
  rw [minRun'_succ,if_pos (by omega)]
  omega
section
variable {M : Model} {A : Around} {E : Value→Shared→Prop} {s : Shared} {kd : SortKind} {κ : Keyed→Nat} {U : Keyed→Prop} {a₀ : Array Keyed}
structure Bq (kd : SortKind) (a₀ : Array Keyed) (st : SortSt) : Prop where
 perm : (arrOf st).Perm a₀
 kind : kindOf st = kd
 failed : failedOf st = none
noncomputable def Two (κ : Keyed→Nat) (n : Nat) (st : SortSt) : Prop :=
 ((pendingOf st).size≤1∧Up (Kf κ st 0) n)∨∃ n1 pw,0 < n1∧n1 < n∧pendingOf st = #[(0,n1,pw),(n1,n - n1,0)]∧Up (Kf κ st 0) n1∧Up (Kf κ st n1) (n - n1)
theorem w_sortRuns (C : Cmp M A E s kd κ U) (hU : ∀ p∈a₀.toList,U p) {st : SortSt} {Q : Unit→SortSt→Prop} (hp : arrOf st = a₀) (hk : kindOf st = kd) (hf : failedOf st = none) (hpd : pendingOf st = #[]) (h1 : 2≤a₀.size) (h2 : a₀.size < 128)
  (q : ∀ st',(arrOf st').toList.Perm a₀.toList→failedOf st' = none→Srt κ (arrOf st').toList→Q () st') : wpS M A E s sortRuns' Q st:=by
 rw [sortRuns'_eq]
 refine wpS_bind (wpS_get ?_)
 dsimp only
 rw [hp]
 have h3:=minRun_two (by omega) h2
 generalize hn : a₀.size = n at h1 h2 h3 ⊢
 generalize minRun' n n 0 = mr at h3 ⊢
 refine wpS_bind (wpS_mono (wpS_forRange
  (I:=fun x c st'=>(x = 0∧c = (none,0)∧Bq kd a₀ st'∧pendingOf st' = #[])∨(x = 1∧∃ n1,c = (none,n1)∧Bq kd a₀ st'∧pendingOf st' = #[(0,n1,0)]∧mr≤n1∧n1≤n∧Up (Kf κ st' 0) n1)∨(2≤x∧c = (none,n)∧Bq kd a₀ st'∧Two κ n st'))
  (Q:=fun c st'=>c = (none,n)∧Bq kd a₀ st'∧Two κ n st') ?step ?fin (.inl ⟨rfl,rfl,⟨hp ▸ Array.Perm.refl _,hk,hf⟩,hpd⟩)) ?post)
 case fin =>
  rintro c st' (⟨hx,_⟩ | ⟨hx,_⟩ | ⟨_,h⟩)
  ·omega
  ·omega
  ·exact h
 case step =>
  rintro x c st' _ hx (⟨rfl,rfl,B,hP⟩ | ⟨rfl,n1,rfl,B,hP,g1,g2,g3⟩ | ⟨h,rfl,B,T⟩)
  ·dsimp only
   rw [if_neg (by omega)]
   have B0 : Bs kd U a₀ (arrOf st') #[] 0 st':=⟨B.perm,B.kind,B.failed,hP,fun i hi=>rfl⟩
   refine wpS_bind (w_countRun C hU B0 (by omega) (by omega) fun m st2 B2 hm1 hm2 hs2=>?_)
   dsimp only
   have fin : ∀ st3 k,Bs kd U a₀ (arrOf st') #[] 0 st3→mr≤k→k≤n→Up (Kf κ st3 0) k→wpS M A E s (do
     modify fun s=>setPending s ((pendingOf s).push (0,k,0))
     pure (ForInStep.yield ((none : Option Unit),0 + k))) (fun r st'=>match r with
      | .done c'=>c' = (none,n)∧Bq kd a₀ st'∧Two κ n st'
      | .yield c'=>(0 + 1 = 0∧c' = (none,0)∧Bq kd a₀ st'∧pendingOf st' = #[])∨(0 + 1 = 1∧∃ n1,c' = (none,n1)∧Bq kd a₀ st'∧pendingOf st' = #[(0,n1,0)]∧mr≤n1∧n1≤n∧Up (Kf κ st' 0) n1)∨(2≤0 + 1∧c' = (none,n)∧Bq kd a₀ st'∧Two κ n st')) st3:=fun st3 k B3 hk1 hk2 hs3=>by
    refine wpS_bind (wpS_modify (wpS_pure (.inr (.inl ⟨rfl,k,by rw [Nat.zero_add],⟨B3.perm,B3.kind,B3.failed⟩,?_,hk1,hk2,hs3⟩))))
    show (pendingOf st3).push _ = _
    rw [B3.pend]; rfl
   by_cases hlt : m < mr
   ·rw [if_pos hlt]
    refine wpS_bind (wpS_lift (wpAny_rule ⟨rfl,?_⟩))
    try dsimp only
    rw [show min (n - 0) (mr) = mr by omega]
    refine wpS_bind (w_binarySort C hU B2 (by omega) (by omega) hs2 fun st3 B3 hs3=>?_)
    simp only [Bool.not_true,Bool.false_eq_true,if_false]
    refine wpS_bind (wpS_get ?_)
    have hb : (pendingOf st3).back? = none:=by rw [B3.pend]; rfl
    rw [hb]
    dsimp only
    exact wpS_mono (fin st3 _ B3 (Nat.le_refl _) (by omega) hs3) fun r _ h=>by
     cases r with
     | done _=>exact h
     | yield _ =>
      rcases h with h | h | h
      ·exact .inl h
      ·exact .inr (.inl ⟨trivial,h.2⟩)
      ·exact .inr (.inr h)
   ·rw [if_neg hlt]
    refine wpS_bind (wpS_get ?_)
    have hb : (pendingOf st2).back? = none:=by rw [B2.pend]; rfl
    rw [hb]
    dsimp only
    exact wpS_mono (fin st2 m B2 (by omega) (by omega) hs2) fun r _ h=>by cases r <;> exact h
  ·dsimp only
   by_cases hge : n1 ≥ n
   ·rw [if_pos hge]
    obtain rfl : n1 = n:=by omega
    exact wpS_pure ⟨rfl,B,.inl ⟨by rw [hP]; exact Nat.le_refl _,g3⟩⟩
   ·rw [if_neg hge]
    have B0 : Bs kd U a₀ (arrOf st') #[(0,n1,0)] n1 st':=⟨B.perm,B.kind,B.failed,hP,fun i hi=>rfl⟩
    refine wpS_bind (w_countRun C hU B0 (by omega) (by omega) fun m st2 B2 hm1 hm2 hs2=>?_)
    dsimp only
    have low : ∀ st3,Bs kd U a₀ (arrOf st') #[(0,n1,0)] n1 st3→Up (Kf κ st3 0) n1:=fun st3 B3 i j hij hj=>by
     have:=g3 i j hij hj
     unfold Kf at this ⊢
     rw [Nat.zero_add,Nat.zero_add] at this ⊢
     rwa [Kn_congr (B3.pre i (by omega)),Kn_congr (B3.pre j (by omega))]
    by_cases hlt : m < mr
    ·rw [if_pos hlt]
     refine wpS_bind (wpS_lift (wpAny_rule ⟨rfl,?_⟩))
     try dsimp only
     rw [show min (n - n1) (mr) = n - n1 by omega]
     refine wpS_bind (w_binarySort C hU B2 (by omega) (by omega) hs2 fun st3 B3 hs3=>?_)
     simp only [Bool.not_true,Bool.false_eq_true,if_false]
     refine wpS_bind (wpS_get ?_)
     have hb : (pendingOf st3).back? = some (0,n1,0):=by rw [B3.pend]; rfl
     rw [hb]
     dsimp only
     refine wpS_bind (wpS_mono (wpS_forRange (I:=fun _ c st4=>st4 = st3∧c = (none,())) (Q:=fun c st4=>st4 = st3∧c = (none,())) ?_ (fun _ _ hh=>hh) ⟨rfl,rfl⟩) ?_)
     ·rintro x c st4 _ _ ⟨rfl,rfl⟩
      refine wpS_bind (wpS_get ?_)
      try dsimp only
      rw [if_neg (by rw [B3.pend]; simp)]
      exact wpS_pure ⟨rfl,rfl⟩
     ·rintro c st4 ⟨rfl,rfl⟩
      dsimp only
      refine wpS_bind (wpS_modify (wpS_bind (wpS_modify (wpS_pure (.inr (.inr ⟨by omega,?_,⟨B3.perm,B3.kind,B3.failed⟩,.inr ⟨n1,power' n (2 * 0 + n1) (2 * 0 + n1 + n1 + (n - n1)) n,by omega,by omega,?_,low st4 B3,hs3⟩⟩))))))
      ·rw [show n1 + (n - n1) = n by omega]
      ·show ((pendingOf st4).modify ((pendingOf st4).size - 1) _).push _ = _
       rw [B3.pend]; rfl
    ·rw [if_neg hlt]
     obtain rfl : m = n - n1:=by omega
     refine wpS_bind (wpS_get ?_)
     have hb : (pendingOf st2).back? = some (0,n1,0):=by rw [B2.pend]; rfl
     rw [hb]
     dsimp only
     refine wpS_bind (wpS_mono (wpS_forRange (I:=fun _ c st4=>st4 = st2∧c = (none,())) (Q:=fun c st4=>st4 = st2∧c = (none,())) ?_ (fun _ _ hh=>hh) ⟨rfl,rfl⟩) ?_)
     ·rintro x c st4 _ _ ⟨rfl,rfl⟩
      refine wpS_bind (wpS_get ?_)
      try dsimp only
      rw [if_neg (by rw [B2.pend]; simp)]
      exact wpS_pure ⟨rfl,rfl⟩
     ·rintro c st4 ⟨rfl,rfl⟩
      dsimp only
      refine wpS_bind (wpS_modify (wpS_bind (wpS_modify (wpS_pure (.inr (.inr ⟨by omega,?_,⟨B2.perm,B2.kind,B2.failed⟩,.inr ⟨n1,power' n (2 * 0 + n1) (2 * 0 + n1 + n1 + (n - n1)) n,by omega,by omega,?_,low st4 B2,hs2⟩⟩))))))
      ·rw [show n1 + (n - n1) = n by omega]
      ·show ((pendingOf st4).modify ((pendingOf st4).size - 1) _).push _ = _
       rw [B2.pend]; rfl
  ·dsimp only
   rw [if_pos (Nat.le_refl _)]
   exact wpS_pure ⟨rfl,B,T⟩
 case post =>
  rintro c st' ⟨rfl,B,T⟩
  dsimp only
  have hz : (arrOf st').size = n:=by rw [B.perm.size_eq,hn]
  have done : ∀ st2 : SortSt,(pendingOf st2).size≤1→(arrOf st2).toList.Perm a₀.toList→failedOf st2 = none→Srt κ (arrOf st2).toList→True:=fun _ _ _ _ _=>trivial
  refine wpS_bind (wpS_mono (wpS_forRange (I:=fun x c st2=>c = (none,())∧(((pendingOf st2).size≤1∧(arrOf st2).toList.Perm a₀.toList∧failedOf st2 = none∧Srt κ (arrOf st2).toList)∨(x = 0∧st2 = st')))
   (Q:=fun c st2=>c = (none,())∧(arrOf st2).toList.Perm a₀.toList∧failedOf st2 = none∧Srt κ (arrOf st2).toList) ?_ ?_ ⟨rfl,.inr ⟨rfl,rfl⟩⟩) ?_)
  ·rintro x c st2 _ _ ⟨rfl,h | ⟨rfl,rfl⟩⟩
   ·refine wpS_bind (wpS_get ?_)
    try dsimp only
    rw [if_pos h.1]
    exact wpS_pure ⟨rfl,h.2⟩
   ·refine wpS_bind (wpS_get ?_)
    try dsimp only
    rcases T with ⟨t1,t2⟩ | ⟨n1,pw,t1,t2,t3,t4,t5⟩
    ·rw [if_pos t1]
     refine wpS_pure ⟨rfl,Array.perm_iff_toList_perm.mp B.perm,B.failed,?_⟩
     have:=srt_up (κ:=κ) (xs:=arrOf st2) (lo:=0) (n:=n) t2 (by omega)
     rw [List.drop_zero,List.take_of_length_le (by simp; omega)] at this
     exact this
    ·have e : st2 = SortSt.mk' kd (arrOf st2) #[(0,n1,pw),(n1,n - n1,0)] (gallopOf st2) none:=by
      rw [← B.kind,← B.failed,← t3]
     have tz : (pendingOf st2).size = 2:=by rw [t3]; rfl
     rw [if_neg (by omega)]
     simp only [tz]
     simp only [show (2 - 2 : Nat) = 0 from rfl,gt_iff_lt,Nat.lt_irrefl,if_false,Option.any_none,Bool.false_eq_true]
     generalize hA : arrOf st2 = arr at e t4 t5 hz
     have hpm : arr.toList.Perm a₀.toList:=by rw [← hA]; exact Array.perm_iff_toList_perm.mp B.perm
     generalize gallopOf st2 = gg at e
     have hk4 : Up (Kn κ arr) n1:=fun i j hij hj=>by
      have:=t4 i j hij hj
      unfold Kf at this
      rwa [hA,Nat.zero_add,Nat.zero_add] at this
     have hk5 : Up (fun i=>Kn κ arr (n1 + i)) (n - n1):=fun i j hij hj=>by
      have:=t5 i j hij hj
      unfold Kf at this
      rwa [hA] at this
     rw [e]
     refine wpS_bind (w_mergeAt C (fun p hp=>hU p (hpm.mem_iff.mp hp)) (by omega) t1 (by omega) hk4 hk5 fun st3 k1 k2 k3 k4 k5=>?_)
     simp only [Bool.not_true,Bool.false_eq_true,if_false]
     exact wpS_pure ⟨rfl,.inl ⟨k3,k4.trans hpm,k2,k5⟩⟩
  ·rintro c st2 ⟨rfl,h | ⟨h,_⟩⟩
   ·exact ⟨rfl,h.2⟩
   ·omega
  ·rintro c st2 ⟨rfl,h⟩
   exact wpS_pure (q st2 h.1 h.2.1 h.2.2)
end
end ST
namespace ST
open PySem PyProof.Rows
set_option autoImplicit false
noncomputable abbrev P2:=Int × Int
noncomputable def lx (p q : P2) : Bool:=decide (p.1 < q.1) || (decide (p.1 = q.1) && decide (p.2 < q.2))
noncomputable def rnk (l : List P2) (p : P2) : Nat:=l.countP fun q=>lx q p
theorem lx_iff {p q : P2} : lx p q = true ↔ p.1 < q.1∨(p.1 = q.1∧p.2 < q.2):=by simp [lx]
theorem rnk_le {l : List P2} {p q : P2} (h : lx p q = false) : rnk l q≤rnk l p:=by
 unfold rnk
 refine List.countP_mono_left fun r _ hr=>?_
 have h' : ¬ lx p q = true:=by rw [h]; simp
 rw [lx_iff] at hr h' ⊢
 omega
theorem rnk_lt {l : List P2} {p q : P2} (hp : p∈l) (h : lx p q = true) : rnk l p < rnk l q:=by
 unfold rnk
 induction l with
 | nil=>cases hp
 | cons r l ih =>
  have mono : l.countP (fun t=>lx t p)≤l.countP (fun t=>lx t q):=List.countP_mono_left fun r _ hr=>by
   rw [lx_iff] at hr h ⊢; omega
  rw [List.countP_cons,List.countP_cons]
  by_cases e : r = p
  ·subst e
   have : lx r r = false:=by simp [lx]
   rw [this,h]; simp; omega
  ·have hp' : p∈l:=by
    rcases List.mem_cons.mp hp with rfl | z
    ·exact absurd rfl e
    ·exact z
   have:=ih hp'
   by_cases e2 : lx r p = true
   ·have : lx r q = true:=by rw [lx_iff] at e2 h ⊢; omega
    rw [e2,this]; simp; omega
   ·rw [if_neg e2]; split <;> omega
theorem rnk_iff {l : List P2} {p q : P2} (hp : p∈l) : decide (rnk l p < rnk l q) = lx p q:=by
 cases h : lx p q with
 | true=>exact decide_eq_true (rnk_lt hp h)
 | false=>exact decide_eq_false (Nat.not_lt.mpr (rnk_le h))
noncomputable def PairAt (h : Heap) (v : Value) (p : P2) : Prop:=∃ (a : Addr) (o : Obj) (t u : Tok) (n : Nat),v = .ref a∧h.get? a = some o∧o.cls = .type "tuple"∧o.data = .seq #[.int p.1 t,.int p.2 u] n
theorem PairAt.one {h : Heap} {v : Value} {p q : P2} (a : PairAt h v p) (b : PairAt h v q) : p = q:=by
 obtain ⟨a,o,t,u,n,rfl,h1,h2,h3⟩:=a
 obtain ⟨a',o',t',u',n',e,h1',h2',h3'⟩:=b
 cases e
 rw [h1] at h1'
 cases h1'
 rw [h3] at h3'
 have:=congrArg Array.toList (Data.seq.inj h3').1
 simp at this
 exact Prod.ext this.1.1 this.2.1
open Classical in
noncomputable def prOf (h : Heap) (v : Value) : P2:=if hx : ∃ p,PairAt h v p then hx.choose else (0,0)
theorem PairAt.of {h : Heap} {v : Value} {p : P2} (a : PairAt h v p) : prOf h v = p:=by
 unfold prOf
 have hx : ∃ p,PairAt h v p:=⟨p,a⟩
 rw [dif_pos hx]
 exact hx.choose_spec.one a
theorem PairAt.keep {h h' : Heap} {v : Value} {p : P2} (a : PairAt h v p) (k : ∀ b o,h.get? b = some o→o.cls = .type "tuple"→h'.get? b = some o) : PairAt h' v p:=by
 obtain ⟨a,o,t,u,n,rfl,h1,h2,h3⟩:=a
 exact ⟨a,o,t,u,n,rfl,k a o h1 h2,h2,h3⟩
noncomputable def kap (h : Heap) (l : List P2) (x : Keyed) : Nat:=rnk l (prOf h x.1)
noncomputable def Ok (h : Heap) (l : List P2) (x : Keyed) : Prop:=∃ p∈l,PairAt h x.1 p
section
variable {prog : Program} {w : World} {A : Around} {E : Value→Shared→Prop} {s : Shared} {l : List P2}
theorem cmp_pairs : Cmp (model prog w) A E s (tuples' true) (kap s.heap l) (Ok s.heap l):=⟨fun {st x y Q} hk ux uy q=>by
 obtain ⟨p,hp,ax⟩:=ux
 obtain ⟨r,hr,ay⟩:=uy
 unfold kap at q
 rw [ax.of,ay.of,rnk_iff hp] at q
 obtain ⟨a,o,t,u,n,e1,h1,_,h3⟩:=ax
 obtain ⟨a',o',t',u',n',e1',h1',_,h3'⟩:=ay
 rw [lt'_eq]
 refine wpS_bind (wpS_get ?_)
 rw [hk,e1,e1']
 refine wpS_bind (wpS_lift (wpAny_attempt (PySem.W.kat_lt h1 h3 h1' h3' ?_)))
 have z : decide ((#[Value.int p.1 t,Value.int p.2 u] : Array Value).size < (#[Value.int r.1 t',Value.int r.2 u'] : Array Value).size) = false:=by simp
 rw [z]
 show PySem.W.KatLex prog w A true false _ [(Value.int p.1 t,Value.int r.1 t'),(Value.int p.2 u,Value.int r.2 u')] 0 s
 refine PySem.W.kat_cons (wpAny_eqBool_int ?_)
 by_cases c1 : p.1 = r.1
 ·rw [show (p.1 == r.1) = true by simpa using c1]
  refine PySem.W.kat_yes (PySem.W.kat_cons (wpAny_eqBool_int ?_))
  by_cases c2 : p.2 = r.2
  ·rw [show (p.2 == r.2) = true by simpa using c2]
   refine PySem.W.kat_yes (PySem.W.kat_nil ⟨rfl,wpS_pure ?_⟩)
   have : lx p r = false:=by unfold lx; simp; omega
   rw [this] at q; exact q
  ·rw [show (p.2 == r.2) = false by simpa using c2]
   refine PySem.W.kat_no (PySem.W.kat_one _ _ (PyProof.Rows.lt_int ?_))
   refine ⟨rfl,wpS_pure ?_⟩
   have : lx p r = decide (p.2 < r.2):=by unfold lx; simp [c1]
   rw [this] at q; exact q
 ·rw [show (p.1 == r.1) = false by simpa using c1]
  refine PySem.W.kat_no (oneLt_int ⟨rfl,wpS_pure ?_⟩)
  have : lx p r = decide (p.1 < r.1):=by unfold lx; simp [c1]
  rw [this] at q; exact q⟩
theorem kat_of : ∀ {h : Heap} {vs : List Value} {ps : List P2},Paired (PairAt h) vs ps→∃ fs : List Value,PySem.W.KatTups h vs fs∧fs.length = vs.length∧∀ v∈fs,∃ i t,v = Value.int i t
 | _,_,_,.nil=>⟨[],PySem.W.KatTups.nil,rfl,fun _ h=>by cases h⟩
 | _,_,_,.cons a r=>by
  obtain ⟨fs,h1,h2,h3⟩:=kat_of r
  obtain ⟨a,o,t,u,n,rfl,g1,g2,g3⟩:=a
  refine ⟨Value.int _ t :: fs,PySem.W.KatTups.cons g1 g2 g3 rfl h1,by simp [h2],fun v hv=>?_⟩
  rcases List.mem_cons.mp hv with rfl | hv
  ·exact ⟨_,_,rfl⟩
  ·exact h3 v hv
theorem pr_mem {α β : Type} {F : α→β→Prop} : ∀ {l : List α} {r : List β},Paired F l r→∀ v∈l,∃ p∈r,F v p
 | _,_,.nil,_,h=>by cases h
 | _,_,.cons a r,v,h=>by
  rcases List.mem_cons.mp h with rfl | h
  ·exact ⟨_,List.mem_cons_self,a⟩
  ·obtain ⟨p,h1,h2⟩:=pr_mem r v h
   exact ⟨p,List.mem_cons_of_mem _ h1,h2⟩
theorem zip_mem {vs : List Value} {x : Keyed} (h : x∈(vs.toArray.zip vs.toArray).toList) : x.1∈vs∧x.1 = x.2:=by
 have e : (vs.toArray.zip vs.toArray).toList = vs.map fun v=>(v,v):=by
  rw [Array.toList_zip]
  simp [List.zip_eq_zipWith]
 rw [e] at h
 obtain ⟨v,hv,rfl⟩:=List.mem_map.mp h
 exact ⟨hv,rfl⟩
noncomputable def SOut (h : Heap) (vs : List Value) (out : Array Value) : Prop:=out.toList.Perm vs∧(out.toList.map (prOf h)).Pairwise fun p q=>lx q p = false
theorem out_of {h : Heap} {vs : List Value} {ps : List P2} (hP : ∀ v∈vs,∃ p∈ps,PairAt h v p) {xs : Array Keyed} (h1 : xs.toList.Perm (vs.toArray.zip vs.toArray).toList) (h2 : Srt (kap h ps) xs.toList)   : SOut h vs (xs.map (·.2)):=by
 have e : (vs.toArray.zip vs.toArray).toList = vs.map fun v=>(v,v):=by
  rw [Array.toList_zip]
  simp [List.zip_eq_zipWith]
 rw [e] at h1
 have dia : ∀ x∈xs.toList,x.1 = x.2∧x.2∈vs:=fun x hx=>by
  obtain ⟨v,hv,rfl⟩:=List.mem_map.mp (h1.mem_iff.mp hx)
  exact ⟨rfl,hv⟩
 refine ⟨?_,?_⟩
 ·rw [Array.toList_map]
  have:=h1.map (·.2)
  rwa [List.map_map,show ((fun x : Keyed=>x.2) ∘ fun v=>(v,v)) = id from rfl,List.map_id] at this
 ·rw [Array.toList_map,List.map_map,List.pairwise_map]
  refine List.Pairwise.imp_of_mem (fun {x y} hx hy hxy=>?_) h2
  have dx:=dia x hx
  have dy:=dia y hy
  unfold kap at hxy
  rw [dx.1,dy.1] at hxy
  obtain ⟨q,hq,aq⟩:=hP y.2 dy.2
  show lx (prOf h y.2) (prOf h x.2) = false
  cases c : lx (prOf h y.2) (prOf h x.2) with
  | false=>rfl
  | true =>
   have:=rnk_lt (l:=ps) (by rw [aq.of]; exact hq) c
   omega
theorem w_list_sort {a : Addr} {vs : List Value} {ps : List P2} {n : Nat} {P : Fin→Shared→Prop} (ho : s.heap.get? a = some (seqObj "list" vs.toArray n)) (hP : Paired (PairAt s.heap) vs ps) (hl : vs.length < 128)
  (q : ∀ out,SOut s.heap vs out→P (.done (.ret .none)) { s with heap:=sortedHeap s.heap a vs out }) : wpAny (model prog w) A (Builtin.«list.sort» ⟨[.ref a],[]⟩) P E s:=by
 rw [list_sort_plain]
 have hlt : a < s.heap.objs.size:=Heap.lt_size ho
 refine wpAny_bind (listItems_at ho rfl (wpAny_bind (listUpdate_at ho rfl ?_ (by rw [List.size_toArray,sizeLine_eq]; omega) (Nat.zero_le _))))
 obtain ⟨ep,g1⟩ : ∃ ep,(s.heap.update a (Obj.mapSeq fun _=>#[])).get? a = some (seqObj "list" #[] ep):=⟨_,get?_update_seq ho fun _=>#[]⟩
 refine wpAny_bind (seqEpoch_at g1 rfl ?_)
 refine wpAny_bind (wpAny_newTuple ?_ (by rw [sizeLine_eq]; simp; omega))
 refine wpAny_bind (wpAny_newList ?_)
 refine wpAny_holding ?_
 have hz1 : (s.heap.update a (Obj.mapSeq fun _=>#[])).objs.size = s.heap.objs.size:=Heap.size_update ..
 have up : ∀ b o,(s.heap.update a (Obj.mapSeq fun _=>#[])).get? b = some o→(((s.heap.update a (Obj.mapSeq fun _=>#[])).push (seqObj "tuple" vs.toArray 0)).push (seqObj "list" #[] 0)).get? b = some o:=fun b o e=>Heap.get?_push_of_some _ (Heap.get?_push_of_some _ e)
 have g2:=up a _ g1
 have kp : ∀ b o,s.heap.get? b = some o→o.cls = .type "tuple"→(((s.heap.update a (Obj.mapSeq fun _=>#[])).push (seqObj "tuple" vs.toArray 0)).push (seqObj "list" #[] 0)).get? b = some o:=fun b o e c=>by
  refine up b o ?_
  rw [Heap.get?_update_other _ _ fun z=>?_]
  ·exact e
  ·subst z
   rw [ho] at e
   cases e
   exact absurd c (by simp)
 generalize hH : ((s.heap.update a (Obj.mapSeq fun _=>#[])).push (seqObj "tuple" vs.toArray 0)).push (seqObj "list" #[] 0) = H2 at g2 kp
 show wpAny (model prog w) A _ P E { s with heap:=H2 }
 dsimp only
 have mem : ∀ v∈vs,∃ p∈ps,PairAt s.heap v p:=pr_mem hP
 have fin : ∀ st' : SortSt,(arrOf st').toList.Perm (vs.toArray.zip vs.toArray).toList→Srt (kap s.heap ps) (arrOf st').toList→P (.done (.ret .none)) { s with heap:=H2.update a (Obj.mapSeq fun _=>(arrOf st').map (·.2)) }:=fun st' c1 c2=>by
  have:=q _ (out_of mem c1 c2)
  unfold sortedHeap at this
  rwa [hH] at this
 have sz : ∀ st' : SortSt,(arrOf st').toList.Perm (vs.toArray.zip vs.toArray).toList→((arrOf st').map (·.2)).size≤sizeLine + 1:=fun st' c1=>by
  have:=c1.length_eq
  simp at this
  rw [Array.size_map,this,sizeLine_eq]; omega
 by_cases h2 : vs.toArray.size < 2
 ·rw [if_pos h2,if_pos h2]
  refine wpAny_bind (wpAny_pure ?_)
  rw [StateT.run_pure]
  refine wpAny_bind (wpAny_pure ?_)
  dsimp only
  have c2 : Srt (kap s.heap ps) (vs.toArray.zip vs.toArray).toList:=by
   unfold Srt
   rw [List.pairwise_iff_getElem]
   intro i j hi hj hij
   simp at hi hj h2
   omega
  refine wpAny_bind (seqEpoch_at g2 rfl (wpAny_bind (listUpdate_at g2 rfl ?_ (Nat.zero_le _) (sz (SortSt.mk' general' (vs.toArray.zip vs.toArray) #[] 7 none) (List.Perm.refl _)))))
  simp only [bne_self_eq_false,Bool.false_eq_true,if_false]
  exact wpAny_pure (fin (SortSt.mk' general' (vs.toArray.zip vs.toArray) #[] 7 none) (List.Perm.refl _) c2)
 ·rw [if_neg h2,if_neg h2]
  have hP2 : Paired (PairAt H2) vs ps:=hP.mono fun v p a=>a.keep kp
  obtain ⟨fs,f1,f2,f3⟩:=kat_of hP2
  refine wpAny_bind (PySem.W.kat_kind (s:={ s with heap:=H2 }) (T:=.type "int") f1 (by simp at h2; omega) (fun v hv=>?_) (by rfl) ?_)
  ·obtain ⟨i,t,rfl⟩:=f3 v hv
   exact .now
  have same : ∀ x : Keyed,x∈(vs.toArray.zip vs.toArray).toList→kap H2 ps x = kap s.heap ps x:=fun x hx=>by
   obtain ⟨p,_,ap⟩:=mem x.1 (zip_mem hx).1
   unfold kap
   rw [ap.of,(ap.keep kp).of]
  refine wpAny_bind (wpAny_mono (w_sortRuns (a₀:=vs.toArray.zip vs.toArray) (Q:=fun _ st'=>(arrOf st').toList.Perm (vs.toArray.zip vs.toArray).toList∧failedOf st' = none∧Srt (kap s.heap ps) (arrOf st').toList) (cmp_pairs (s:={ s with heap:=H2 }) (l:=ps)) (fun x hx=>?_) rfl rfl rfl rfl (by simp at h2 ⊢; omega) (by simp; omega) fun st' c1 c2 c3=>⟨c1,c2,?_⟩) ?_ fun _ _ e=>e)
  ·obtain ⟨p,hp,ap⟩:=mem x.1 (zip_mem hx).1
   exact ⟨p,hp,ap.keep kp⟩
  ·refine List.Pairwise.imp_of_mem (fun {x y} hx hy hxy=>?_) c3
   have e1:=same x (c1.mem_iff.mp hx)
   have e2:=same y (c1.mem_iff.mp hy)
   have hxy : kap H2 ps x≤kap H2 ps y:=hxy
   show kap s.heap ps x≤kap s.heap ps y
   rw [← e1,← e2]; exact hxy
  ·rintro ⟨⟨⟩,st'⟩ s' ⟨rfl,c1,c2,c3⟩
   dsimp only
   refine wpAny_bind (seqEpoch_at g2 rfl (wpAny_bind (listUpdate_at g2 rfl ?_ (Nat.zero_le _) (sz st' c1))))
   rw [c2]
   simp only [bne_self_eq_false,Bool.false_eq_true,if_false]
   exact wpAny_pure (fin st' c1 c3)
end
end ST
namespace ST
open PySem PyProof.Rows
set_option autoImplicit false
section
variable {prog : Program} {w : World} {A : Around} {E : Value→Shared→Prop} {s : Shared}
theorem w_sorted {l : Addr} {vs : List Value} {ps : List P2} {Q : Value→Shared→Prop} (hl : s.heap.IsList l vs.toArray) (hP : Paired (PairAt s.heap) vs ps) (hn : vs.length < 128)
  (q : ∀ out,SOut s.heap vs out→Q (.ref (s.heap.objs.size + 1)) { s with heap:=sortedAll s.heap vs out }) : wpAny (model prog w) A (call (.builtin "sorted") [.ref l]) Q E s:=by
 refine Calls.call_function_entry kind_sorted plain_sorted entry_sorted (args_sorted1 _) ?_
 unfold Builtin.«sorted»
 refine wpAny_bind (m:=checkCount "sorted" 1 1 _) (wpAny_pure (wpAny_bind (collect_list hl ?_ (by rw [sizeLine_eq]; omega))))
 refine wpAny_bind (wpAny_newList ?_ (by rw [sizeLine_eq]; omega))
 have z1 : ((s.heap.push (seqObj "list" #[] 0)).update s.heap.objs.size (Obj.mapSeq (· ++ vs.toArray))).objs.size = s.heap.objs.size + 1:=by rw [Heap.size_update,size_push']
 have k1 : ∀ b o,s.heap.get? b = some o→(((s.heap.push (seqObj "list" #[] 0)).update s.heap.objs.size (Obj.mapSeq (· ++ vs.toArray))).push (seqObj "list" vs.toArray 0)).get? b = some o:=fun b o e=>by
  refine Heap.get?_push_of_some _ ?_
  rw [Heap.get?_update_other _ _ (Nat.ne_of_gt (Heap.lt_size e))]
  exact Heap.get?_push_of_some _ e
 have g1 : (((s.heap.push (seqObj "list" #[] 0)).update s.heap.objs.size (Obj.mapSeq (· ++ vs.toArray))).push (seqObj "list" vs.toArray 0)).get? (s.heap.objs.size + 1) = some (seqObj "list" vs.toArray 0):=by
  rw [← z1]; exact Heap.get?_push_size _ rfl
 show wpAny _ _ _ _ _ { s with heap:=((s.heap.push (seqObj "list" #[] 0)).update s.heap.objs.size (Obj.mapSeq (· ++ vs.toArray))).push (seqObj "list" vs.toArray 0) }
 rw [z1]
 have hP2:=hP.mono fun v p (a : PairAt s.heap v p)=>a.keep (h':=((s.heap.push (seqObj "list" #[] 0)).update s.heap.objs.size (Obj.mapSeq (· ++ vs.toArray))).push (seqObj "list" vs.toArray 0)) fun b o e _=>k1 b o e
 refine wpAny_bind (wpAny_holding (wpAny_call_entry slot_list_sort ⟨_,g1,rfl⟩ entry_list_sort (w_list_sort g1 hP2 hn fun out so=>⟨_,rfl,?_⟩) (args_list_sort _)))
 refine wpAny_pure ⟨_,rfl,q out ⟨so.1,?_⟩⟩
 have e : out.toList.map (prOf s.heap) = out.toList.map (prOf (((s.heap.push (seqObj "list" #[] 0)).update s.heap.objs.size (Obj.mapSeq (· ++ vs.toArray))).push (seqObj "list" vs.toArray 0))):=by
  refine List.map_congr_left fun v hv=>?_
  obtain ⟨p,_,ap⟩:=pr_mem hP v (so.1.mem_iff.mp hv)
  rw [ap.of,(ap.keep fun b o e _=>k1 b o e).of]
 rw [e]; exact so.2
end
theorem perm_lift {α β : Type} {f : α→β} {l k : List β} (h : l.Perm k) : ∀ m : List α,k = m.map f→∃ m' : List α,m'.Perm m∧l = m'.map f:=by
 induction h with
 | nil =>
  intro m e
  cases m with
  | nil=>exact ⟨[],.refl _,rfl⟩
  | cons _ _=>cases e
 | cons x _ ih =>
  intro m e
  cases m with
  | nil=>cases e
  | cons a m =>
   simp only [List.map_cons,List.cons.injEq] at e
   obtain ⟨m',h1,h2⟩:=ih m e.2
   exact ⟨a :: m',h1.cons a,by rw [List.map_cons,← h2,e.1]⟩
 | swap x y l =>
  intro m e
  match m,e with
  | a :: b :: m,e =>
   simp only [List.map_cons,List.cons.injEq] at e
   exact ⟨b :: a :: m,.swap _ _ _,by rw [List.map_cons,List.map_cons,e.1,e.2.1,e.2.2]⟩
 | trans _ _ ih1 ih2 =>
  intro m e
  obtain ⟨m1,h1,e1⟩:=ih2 m e
  obtain ⟨m2,h2,e2⟩:=ih1 m1 e1
  exact ⟨m2,h2.trans h1,e2⟩
noncomputable def insP (p : P2) : List P2→List P2
 | []=>[p]
 | q :: r=>if lx q p = true then q :: insP p r else p :: q :: r
noncomputable def srtP : List P2→List P2
 | []=>[]
 | p :: r=>insP p (srtP r)
noncomputable abbrev PS (l : List P2) : Prop:=l.Pairwise fun p q=>lx q p = false
theorem lx_tr {p q r : P2} (h : lx q p = false) (h' : lx r q = false) : lx r p = false:=by
 cases e : lx r p with
 | false=>rfl
 | true =>
  have a : ¬ lx q p = true:=by rw [h]; simp
  have b : ¬ lx r q = true:=by rw [h']; simp
  rw [lx_iff] at a b e; omega
theorem insP_perm (p : P2) : ∀ l,(insP p l).Perm (p :: l)
 | []=>.refl _
 | q :: r=>by
  unfold insP
  split
  ·exact ((insP_perm p r).cons q).trans (.swap _ _ _)
  ·exact .refl _
theorem insP_srt (p : P2) : ∀ {l},PS l→PS (insP p l)
 | [],_=>List.pairwise_singleton _ _
 | q :: r,h=>by
  have h':=List.pairwise_cons.mp h
  unfold insP
  split
  ·rename_i c
   refine List.pairwise_cons.mpr ⟨fun t ht=>?_,insP_srt p h'.2⟩
   rcases List.mem_cons.mp ((insP_perm p r).mem_iff.mp ht) with rfl | ht
   ·cases e : lx t q with
    | false=>rfl
    | true=>rw [lx_iff] at c e; omega
   ·exact h'.1 t ht
  ·rename_i c
   have c' : lx q p = false:=by simpa using c
   refine List.pairwise_cons.mpr ⟨fun t ht=>?_,h⟩
   rcases List.mem_cons.mp ht with rfl | ht
   ·exact c'
   ·exact lx_tr c' (h'.1 t ht)
theorem srtP_perm : ∀ l,(srtP l).Perm l
 | []=>.refl _
 | p :: r=>(insP_perm p _).trans ((srtP_perm r).cons p)
theorem srtP_srt : ∀ l,PS (srtP l)
 | []=>.nil
 | p :: r=>insP_srt p (srtP_srt r)
theorem srt_uniq : ∀ {l k : List P2},l.Perm k→PS l→PS k→l = k
 | [],k,h,_,_=>h.nil_eq
 | p :: l,[],h,_,_=>absurd h.length_eq (by simp)
 | p :: l,q :: k,h,h1,h2=>by
  have a:=List.pairwise_cons.mp h1
  have b:=List.pairwise_cons.mp h2
  have e : p = q:=by
   have hp : p∈q :: k:=h.mem_iff.mp List.mem_cons_self
   have hq : q∈p :: l:=h.mem_iff.mpr List.mem_cons_self
   rcases List.mem_cons.mp hp with e | hp
   ·exact e
   ·rcases List.mem_cons.mp hq with e | hq
    ·exact e.symm
    ·have x1:=a.1 q hq
     have x2:=b.1 p hp
     have y1 : ¬ lx q p = true:=by rw [x1]; simp
     have y2 : ¬ lx p q = true:=by rw [x2]; simp
     rw [lx_iff] at y1 y2
     exact Prod.ext (by omega) (by omega)
  subst e
  rw [srt_uniq (List.Perm.cons_inv h) a.2 b.2]
end ST
namespace VM
open PySem L2 ST
noncomputable def prD (p : P2) : PyData:=.tuple [.int p.1,.int p.2]
noncomputable def prsOf : List PyData→Option (List P2)
 | []=>some []
 | .tuple [.int a,.int b] :: r=>(prsOf r).map fun l=>(a,b) :: l
 | _=>none
theorem prsOf_eq : ∀ {ds : List PyData} {ps : List P2},prsOf ds = some ps→ds = ps.map prD
 | [],ps,h=>by cases h; rfl
 | d :: r,ps,h=>by
  unfold prsOf at h
  split at h
  ·rename_i e; cases e
  ·rename_i a b r' e
   cases e
   cases q : prsOf r with
   | none=>rw [q] at h; cases h
   | some l=>rw [q] at h; cases h; rw [prsOf_eq q]; rfl
  ·cases h
theorem prsOf_map : ∀ (ps : List P2),prsOf (ps.map prD) = some ps
 | []=>rfl
 | p :: r=>by show (prsOf (r.map prD)).map _ = _; rw [prsOf_map r]; rfl
noncomputable def sortD : PyData→Option PyData
 | .list ds=>match prsOf ds with
  | some ps=>if ps.length < 128 then some (.list ((srtP ps).map prD)) else none
  | none=>none
 | _=>none
noncomputable def PrV (K : PySem.W.Frag) (H : Hp) (y : V) (p : P2) : Prop:=∃ a,y = .ref a∧SqT K H a [.int p.1,.int p.2]
noncomputable def rSortP (K : PySem.W.Frag) : List V→Hp→VK→Prop:=fun vs H Q=>∃ a ys ps,vs = [.ref a]∧SqL K H a ys∧Paired (PrV K H) ys ps∧ys.length < 128 ∧
 ∀ q (m : List (V × P2)),H q = none→m.Perm (ys.zip ps)→PS (m.map (·.2))→Q (.ref q) (upd H q (.lst (m.map (·.1))))
theorem paired_of {α β : Type} {R : α→β→Prop} : ∀ (m : List (β × α)),(∀ x∈m,R x.2 x.1)→Paired R (m.map (·.2)) (m.map (·.1))
 | [],_=>.nil
 | x :: m,h=>.cons (h x List.mem_cons_self) (paired_of m fun y hy=>h y (List.mem_cons_of_mem _ hy))
theorem paired_zip {α β : Type} {R : α→β→Prop} : ∀ {l : List α} {k : List β},Paired R l k→∀ x∈l.zip k,R x.1 x.2
 | _,_,.nil,_,h=>by cases h
 | _,_,.cons a r,x,h=>by
  rw [List.zip_cons_cons] at h
  rcases List.mem_cons.mp h with rfl | h
  ·exact a
  ·exact paired_zip r x h
theorem call_sortP {X : Cx} : CallR X (.builtin "sorted") (rSortP X.K):=by
 intro pins s σ H xs us Q I r h
 obtain ⟨a,ys,ps,rfl,hq,hp,hn,q⟩:=h
 obtain ⟨u,rfl,rx⟩:=vals1 r
 cases rx
 obtain ⟨its,rv,pl,hz⟩:=I.list hq
 have hl:=rv.length
 have pairs : ∀ {ys : List V} {ps : List P2} {its : List Value},Paired (PrV X.K H) ys ps→Vals ys its→Paired (PairAt s.heap) its ps:=fun {ys ps}=>by
  induction ys generalizing ps with
  | nil=>intro its h v; cases h; cases v; exact .nil
  | cons y ys ih =>
   intro its h v
   cases h with
   | cons h1 h2=>cases v with
    | cons v1 v2 =>
     obtain ⟨b,rfl,hb⟩:=h1
     cases v1
     obtain ⟨its',r',⟨o,e,c,n,d⟩,_⟩:=I.tuple hb
     refine .cons ?_ (ih h2 v2)
     cases r' with
     | cons c1 c2=>cases c2 with
      | cons c3 c4 =>
       cases c4
       obtain ⟨t,rfl⟩:=c1
       obtain ⟨t',rfl⟩:=c3
       exact ⟨b,o,t,t',n,rfl,e,c,by simpa using d⟩
 have pa:=pairs hp rv
 have pz:=paired_zip pa
 refine w_sorted pl.isList pa (by omega) fun out so=>?_
 obtain ⟨m,m1,m2⟩:=perm_lift (f:=Prod.fst) so.1 (its.zip ys) (by rw [List.map_fst_zip]; omega)
 have hv : ∀ x∈m,RelV x.2 x.1:=fun x hx=>by
  have h1:=m1.mem_iff.mp hx
  have h2 : (x.2,x.1)∈ys.zip its:=by
   obtain ⟨k,hk,e⟩:=List.getElem_of_mem h1
   rw [List.getElem_zip] at e
   rw [← e]
   exact List.mem_iff_getElem.mpr ⟨k,by simp at hk ⊢; omega,by rw [List.getElem_zip]⟩
  exact paired_zip rv _ h2
 have hvals : Vals (m.map (·.2)) out.toList:=by rw [m2]; exact paired_of m hv
 have hlen : (m.map (·.2)).length = ys.length:=by rw [List.length_map,m1.length_eq,List.length_zip]; omega
 obtain ⟨ep,hat⟩:=PyProof.Rows.sortedAll_at s.heap its out
 have hfr : H (s.heap.objs.size + 1) = none:=I.hok.fresh (Nat.le_succ _)
 have key:=q (s.heap.objs.size + 1) (m.map fun x=>(x.2,prOf s.heap x.1)) hfr ?_ ?_
 ·refine ⟨.ref (s.heap.objs.size + 1),upd H (s.heap.objs.size + 1) (.lst (m.map (·.2))),I.laid (t':=s.toks) (fun b ob e=>PyProof.Rows.sortedAll_old e) (Nat.le_succ _) ?_,rfl,?_⟩
  ·exact ⟨by rw [hlen]; exact hz,out.toList,ep,hvals,by rw [hat]⟩
  ·rw [List.map_map] at key; exact key
 ·have e2 : ys.zip ps = (its.zip ys).map fun x=>(x.2,prOf s.heap x.1):=by
   refine List.ext_getElem (by have:=hp.length; simp; omega) fun i h1 h2=>?_
   simp only [List.getElem_zip,List.getElem_map]
   have:=pz (its[i]'(by simp at h2; omega),ps[i]'(by simp at h1; omega)) (List.mem_iff_getElem.mpr ⟨i,by simp at h1 h2 ⊢; omega,by rw [List.getElem_zip]⟩)
   rw [this.of]
  rw [e2]
  exact m1.map _
 ·have:=so.2
  rw [m2,List.map_map] at this
  rw [List.map_map]; exact this
theorem hasP {K : PySem.W.Frag} {F : Hp} : ∀ {ps : List P2} {xs : List V},HasL K F (ps.map prD) xs→Paired (PrV K F) xs ps
 | [],xs,h=>by
  have h' : xs = []:=h
  subst h'; exact .nil
 | p :: ps,xs,h=>by
  obtain ⟨v,r,rfl,⟨a,zs,rfl,h1,h2⟩,h3⟩:=h
  obtain ⟨v1,r1,rfl,e1,v2,r2,rfl,e2,e3⟩:=h2
  have e1 : v1 = .int p.1:=e1
  have e2 : v2 = .int p.2:=e2
  have e3 : r2 = []:=e3
  subst e1 e2 e3
  exact .cons ⟨a,rfl,h1⟩ (hasP h3)
theorem has_of {K : PySem.W.Frag} {F : Hp} : ∀ {m : List (V × P2)},(∀ x∈m,PrV K F x.1 x.2)→HasL K F ((m.map (·.2)).map prD) (m.map (·.1))
 | [],_=>rfl
 | x :: m,h=>by
  obtain ⟨a,e,h1⟩:=h x List.mem_cons_self
  exact ⟨x.1,m.map (·.1),rfl,⟨a,_,e,h1,_,_,rfl,rfl,_,_,rfl,rfl,rfl⟩,has_of fun y hy=>h y (List.mem_cons_of_mem _ hy)⟩
theorem PrV.same {K : PySem.W.Frag} {H H' : Hp} (e : Same H H') {y : V} {p : P2} (h : PrV K H y p) : PrV K H' y p:=let ⟨a,h1,h2⟩:=h; ⟨a,h1,e.seqT h2⟩
theorem dSortP {X : Cx} {e : Expr} {f : VE} (he : PE X e (tCB (rSortP X.K) (tCons (tV X.K RM f) tNil))) : PE X e (tV X.K RN (v1 sortD f)):=he.imp fun _ H Q q=>by
 obtain ⟨ioA,G,H₀,S,F,I,d,e,q⟩:=q
 unfold v1 at e
 split at e
 ·rename_i x q1
  unfold sortD at e
  split at e
  ·split at e
   ·rename_i ds _ ps hps
    split at e
    ·rename_i hn
     cases e
     refine ⟨ioA,G,H₀,S,F,I,_,q1,fun v F1 H1 g1 hx=>?_⟩
     obtain ⟨p,xs,rfl,h1,h2⟩:=RM.list g1.fh hx
     rw [prsOf_eq hps] at h2
     have hp:=hasP h2
     have hl:=hp.length
     refine ⟨p,xs,ps,rfl,h1,hp.mono fun y p h=>h.same g1.fh,by omega,fun z m hz hm hs=>?_⟩
     have e1 : m.map (·.2) = srtP ps:=by
      refine srt_uniq ?_ hs (srtP_srt ps)
      refine ((hm.map (·.2)).trans ?_).trans (srtP_perm ps).symm
      rw [List.map_snd_zip (by omega)]
     have hh:=has_of (K:=X.K) (F:=F1) (m:=m) fun x hx=>paired_zip hp x (hm.mem_iff.mp hx)
     rw [e1] at hh
     exact q _ F1 _ (g1.trans (Grow.alloc g1.fh hz)) ⟨_,z,_,rfl,rfl,g1.hh.free hz,g1.fh.free hz,upd_same,hh⟩
    ·cases e
   ·cases e
  ·cases e
 ·cases e
end VM
namespace VM
open PySem PySem.Spec PyProof.Rows L2 ST
noncomputable def bkStep (bs : List (List P2)) (q : Pq) : List (List P2):=bs.set q.1.toNat ((bs.getD q.1.toNat []) ++ [(q.2.2.1,q.2.1),(q.2.2.2 + 1,-q.2.1)])
noncomputable def bkOf (n : Nat) (sp : List Pq) : List (List P2):=sp.foldl bkStep (List.replicate n [])
noncomputable def bkD (bs : List (List P2)) : PyData:=.list (bs.map fun b=>.list (b.map prD))
noncomputable def inB (n : Nat) (q : Pq) : Bool:=decide (0≤q.1) && decide (q.1 < n)
noncomputable def gBuck (ip ic : Nat) (js : List Nat) (fi : VE) (g : VS) : VS:=fun S=>match S[ip]?,fi (S.set ic none) with
 | some (some (.fr,.list pds)),some (.list sds)=>(match psOf sds with
  | some sp=>if pds.length < 1000∧sp.length < 1000∧sp.all (inB pds.length) = true∧((ic :: js).all fun j=>decide (j < S.length)) = true then g ((forget js (S.set ic none)).set ic (some (.fr,bkD (bkOf pds.length sp)))) else .fail
  | none=>.fail)
 | _,_=>.fail
theorem bk_len : ∀ (sp : List Pq) (bs : List (List P2)),(sp.foldl bkStep bs).length = bs.length
 | [],_=>rfl
 | q :: r,bs=>by rw [List.foldl_cons,bk_len r,bkStep,List.length_set]
theorem bk_short : ∀ (sp : List Pq) (bs : List (List P2)) (m : Nat),(∀ b∈bs,b.length≤m)→∀ b∈sp.foldl bkStep bs,b.length≤m + 2 * sp.length
 | [],bs,m,h,b,hb=>by simpa using h b hb
 | q :: r,bs,m,h,b,hb=>by
  rw [List.foldl_cons] at hb
  have:=bk_short r (bkStep bs q) (m + 2) (fun b hb=>by
   unfold bkStep at hb
   rcases List.mem_or_eq_of_mem_set hb with z | z
   ·have:=h b z; omega
   ·rw [z,List.length_append]
    have : ((bs.getD q.1.toNat []).length≤m):=by
     rw [List.getD_eq_getElem?_getD]
     cases e : bs[q.1.toNat]? with
     | none=>simp
     | some c=>exact h c (List.mem_of_getElem? e)
    show _ + 2≤m + 2
    omega) b hb
  rw [List.length_cons]; omega
noncomputable def PrT (H₁ H : Hp) (y : V) (p : P2) : Prop:=∃ t,y = .ref t∧H t = some (.tup [.int p.1,.int p.2])∧H₁ t = none
theorem PrT.same {H₁ H H' : Hp} {y : V} {p : P2} (h : PrT H₁ H y p) (k : ∀ t xs,H t = some (.tup xs)→H' t = some (.tup xs)) : PrT H₁ H' y p:=let ⟨t,a,b,c⟩:=h; ⟨t,a,k t _ b,c⟩
theorem paired_snoc {α β : Type} {R : α→β→Prop} : ∀ {l : List α} {r : List β} {a : α} {b : β},Paired R l r→R a b→Paired R (l ++ [a]) (r ++ [b])
 | _,_,_,_,.nil,h=>.cons h .nil
 | _,_,_,_,.cons x r,h=>.cons x (paired_snoc r h)
structure Bks (H₁ H : Hp) (D : Addr) (as : List Addr) (bs : List (List P2)) : Prop where
 top : H D = some (.lst (as.map V.ref))
 len : as.length = bs.length
 nd : (D :: as).Nodup
 new : ∀ b∈D :: as,H₁ b = none
 at' : ∀ (j : Nat) b ps,as[j]? = some b→bs[j]? = some ps→∃ ys,H b = some (.lst ys)∧Paired (PrT H₁ H) ys ps
theorem Bks.grow {H₁ H H' : Hp} {D : Addr} {as : List Addr} {bs : List (List P2)} (h : Bks H₁ H D as bs) (k : Same H H') : Bks H₁ H' D as bs :=
 ⟨k _ _ h.top,h.len,h.nd,h.new,fun j b ps e1 e2=>let ⟨ys,a,p⟩:=h.at' j b ps e1 e2; ⟨ys,k _ _ a,p.mono fun y q z=>z.same fun t xs e=>k _ _ e⟩⟩
theorem Bks.app {H₁ H : Hp} {D : Addr} {as : List Addr} {bs : List (List P2)} (h : Bks H₁ H D as bs) {k : Nat} {b t : Addr} {ps : List P2} {p : P2} {ys : List V} (e1 : as[k]? = some b) (e2 : bs[k]? = some ps) (ey : H b = some (.lst ys)) (py : Paired (PrT H₁ H) ys ps)
  (ht : H t = some (.tup [.int p.1,.int p.2])) (hn : H₁ t = none) : Bks H₁ (upd H b (.lst (ys ++ [.ref t]))) D as (bs.set k (ps ++ [p])):=by
 have hbD : D ≠ b:=fun z=>(List.nodup_cons.mp h.nd).1 (z ▸ List.mem_of_getElem? e1)
 have kt : ∀ u xs,H u = some (.tup xs)→upd H b (.lst (ys ++ [.ref t])) u = some (.tup xs):=fun u xs e=>by
  rw [upd_ne fun z=>by subst z; rw [ey] at e; cases e]; exact e
 refine ⟨by rw [upd_ne hbD]; exact h.top,by rw [List.length_set]; exact h.len,h.nd,h.new,fun j c qs g1 g2=>?_⟩
 by_cases hj : j = k
 ·subst hj
  rw [e1] at g1
  cases g1
  have hl : j < bs.length:=by
   rcases Nat.lt_or_ge j bs.length with z | z
   ·exact z
   ·rw [List.getElem?_eq_none z] at e2; cases e2
  rw [List.getElem?_set_self hl] at g2
  cases g2
  exact ⟨_,upd_same,paired_snoc (py.mono fun y q z=>z.same kt) ⟨t,rfl,kt _ _ ht,hn⟩⟩
 ·rw [List.getElem?_set_ne (Ne.symm hj)] at g2
  obtain ⟨zs,a,q⟩:=h.at' j c qs g1 g2
  have hcb : c ≠ b:=fun z=>by
   subst z
   have nd2:=(List.nodup_cons.mp h.nd).2
   exact hj ((List.getElem?_inj (by
    rcases Nat.lt_or_ge j as.length with z | z
    ·exact z
    ·rw [List.getElem?_eq_none z] at g1; cases g1) nd2).mp (g1.trans e1.symm))
  exact ⟨zs,by rw [upd_ne hcb]; exact a,q.mono fun y q z=>z.same kt⟩
section
variable {X : Cx} {s1 s2 : Stmt} {rest : List Stmt} {g : VS} {fi : VE} {ip ic ia inm ift ilt : Nat}
noncomputable def tpA (ic ia : Nat) (K : PySem.W.Frag) (ta tb : TE) : TS:=tDrop (tBM K "list" rAppM (tOp (rIxLM K) (vR ic) (vR ia)) (tCons (tTup (tCons ta (tCons tb tNil))) tNil))
theorem tup2 {ta tb : TE} {σ : St} {H : Hp} {Q : List V→Hp→Prop} : tCons (tTup (tCons ta (tCons tb tNil))) tNil σ H Q = ta σ H fun x H1=>tb σ H1 fun y H2=>([x,y] : List V).length≤sizeLine∧∀ p,H2 p = none→Q [.ref p] (upd H2 p (.tup [x,y])):=rfl
theorem op1 {g : Int→Int→V} {ta : TE} {j : Int} {σ : St} {H : Hp} {Q : VK} : tOp (rM g) ta (tC (.int j)) σ H Q = ta σ H fun x H1=>rM g x (.int j) H1 Q:=rfl
theorem un1 {g : Int→V} {ta : TE} {σ : St} {H : Hp} {Q : VK} : tUn (rU g) ta σ H Q = ta σ H fun x H1=>∃ i,x = .int i∧Q (g i) H1:=rfl
theorem sBuck
  (h1 : PS X s1 (tAsg (tLC (iList X.K (vR ip)) [none] (gName 0) tTrue (tLst tNil)) (gName ic)))
  (h2 : PS X s2 (tFor (iList X.K (tV X.K RS fi)) (gTupM X.K 4 (gConsM (gName ia) (gConsM (gName inm) (gConsM (gName ift) (gConsM (gName ilt) gNilM)))))
   (tSeq (tpA ic ia X.K (vR ift) (vR inm)) (tpA ic ia X.K (tOp (rM fun i j=>.int (i + j)) (vR ilt) (tC (.int 1))) (tUn (rU fun i=>.int (-i)) (vR inm))))))
  (hr : PSs X rest (tVS X.K g)) (nd : [ip,ic,ia,inm,ift,ilt].Nodup) :
  PSs X (s1 :: s2 :: rest) (tVS X.K (gBuck ip ic [ia,inm,ift,ilt] fi g)):=PSs.imp (pss_cons h1 (pss_cons h2 hr)) fun D σ H q=>by
 obtain ⟨ioA,G,H₀,S,F,I,q⟩:=q
 unfold gBuck at q
 split at q
 ·rename_i pds sds e1 efi
  split at q
  ·rename_i sp esp
   split at q
   ·rename_i hc
    obtain ⟨c1,c2,c3,c4⟩:=hc
    have epd:=psOf_some esp
    subst epd
    obtain ⟨vp,hvp,a,xs,rfl,hq,hx⟩:=I.slot ip .fr _ e1
    simp only [List.nodup_cons,List.mem_cons,List.not_mem_nil,not_or,or_false,not_false_eq_true,List.nodup_nil,and_true] at nd
    obtain ⟨⟨n1,n2,n3,n4,n5⟩,⟨m1,m2,m3,m4⟩,⟨k1,k2,k3⟩,⟨l1,l2⟩,r1⟩:=nd
    have hqH : SqL X.K H a xs:=I.sub.seq hq
    have hlen : pds.length = xs.length:=hx.length
    have hjs : ∀ j∈[ic,ia,inm,ift,ilt],j < σ.length:=fun j hj=>by
     have h':=of_decide_eq_true (List.all_eq_true.mp c4 j hj)
     rw [I.len] at h'
     exact h'
    have b0:=hjs ic (by simp)
    have b1:=hjs ia (by simp)
    have b2:=hjs inm (by simp)
    have b3:=hjs ift (by simp)
    have b4:=hjs ilt (by simp)
    show tLC (iList X.K (vR ip)) [none] (gName 0) tTrue (tLst tNil) σ H _
    unfold tLC iList
    refine vR_at (v:=.ref a) hvp ⟨a,rfl,⟨xs,hqH⟩,?_⟩
    refine lcL (xs:=xs) hqH (size_big (by omega)) (fun i ys Hh=>∃ as : List Addr,ys = as.map V.ref∧as.Nodup∧(∀ b∈as,H b = none)∧∀ b∈as,Hh b = some (.lst [])) ⟨[],rfl,.nil,by simp,by simp⟩ ?_ ?_
    ·rintro Dl i x ys H' N hxi hD hDn hyl hsame ⟨as,rfl,a1,a2,a3⟩ hN
     refine ⟨CapK.set CapK.refl rfl,Nat.zero_le _,fun t ht=>?_⟩
     have hDt : Dl ≠ t:=ne_of_none hD ht
     have hHt : H t = none:=hsame.free (by rw [hide_ne hDt.symm]; exact ht)
     refine hN _ _ (by rw [upd_ne hDt]; exact hD) (hide_same_hide (same_upd_new ht)) ⟨as ++ [t],by simp,?_,?_,?_⟩
     ·refine List.nodup_append.mpr ⟨a1,by simp,fun b hb c hc=>?_⟩
      rw [List.mem_singleton.mp hc]
      intro z
      subst z
      have:=a3 b hb
      rw [hide_ne hDt.symm,ht] at this; cases this
     ·intro b hb
      rcases List.mem_append.mp hb with z | z
      ·exact a2 b z
      ·rw [List.mem_singleton.mp z]; exact hHt
     ·intro b hb
      rcases List.mem_append.mp hb with z | z
      ·exact hide_same_hide (same_upd_new ht) _ _ (a3 b z)
      ·rw [List.mem_singleton.mp z,hide_ne hDt.symm,upd_same]
    ·rintro Dl ys H6 hD hDn hyl hsame ⟨as,rfl,a1,a2,a3⟩
     have hsm6 : Same H H6:=hsame.trans hide_same
     have hDas : Dl ∉ as:=fun z=>by have:=a3 Dl z; rw [hide_at] at this; cases this
     have hal : as.length = pds.length:=by rw [hlen,← hyl,List.length_map]
     have B0 : Bks H H6 Dl as (List.replicate pds.length []):=⟨hD,by rw [List.length_replicate]; exact hal,List.nodup_cons.mpr ⟨hDas,a1⟩,fun b hb=>by
      rcases List.mem_cons.mp hb with rfl | hb
      ·exact hDn
      ·exact a2 b hb,fun j b ps g1 g2=>by
      have : ps = []:=by
       rw [List.getElem?_replicate] at g2
       split at g2
       ·cases g2; rfl
       ·cases g2
      subst this
      exact ⟨[],hide_same _ _ (a3 b (List.mem_of_getElem? g1)),.nil⟩⟩
     have g6 : Grow F H F H6:=⟨hsm6,Same.refl _,I.sub.trans hsm6,fun _ _ e=>.inl e,fun _ _ _ e=>e⟩
     have I6 : VI X.K ioA G H₀ (S.set ic none) F (σ.set ic (some (.ref Dl))) H6:=(I.grow g6).forget (σ':=σ.set ic (some (.ref Dl))) (js:=[ic]) (by rw [List.length_set]) fun k hk=>by
      rw [List.getElem?_set_ne fun z=>hk (by rw [z]; simp)]
     change tSeq (tFor (iList X.K (tV X.K RS fi)) _ _) (tVS X.K g) D (σ.set ic (some (.ref Dl))) H6
     unfold tSeq
     rw [tFor_eq]
     refine ⟨ioA,G,H₀,S.set ic none,F,I6,_,efi,fun v F1 H1 g1 hv=>?_⟩
     obtain ⟨sa,zs,rfl,hqs,hzs⟩:=hv
     have hq1 : SqL X.K H1 sa zs:=g1.fh.seq hqs
     have hlz : sp.length = zs.length:=by rw [← hzs.length,List.length_map]
     refine ⟨sa,rfl,⟨zs,hq1⟩,?_⟩
     have B1:=B0.grow g1.hh
     have F1n : ∀ b∈Dl :: as,∀ o,F1 b ≠ some o:=fun b hb o e=>by
      have hmu : ∃ ys,H6 b = some (.lst ys):=by
       rcases List.mem_cons.mp hb with rfl | hb
       ·exact ⟨_,hD⟩
       ·exact ⟨_,hide_same _ _ (a3 b hb)⟩
      obtain ⟨ys,hmu⟩:=hmu
      have e2:=g1.fh _ _ e
      rw [g1.hh _ _ hmu] at e2
      cases e2
      rcases g1.new b _ e with z | z | z
      ·have:=I.sub _ _ z
       rw [B0.new b hb] at this; cases this
      ·rw [hmu] at z; cases z
      ·simp [imo] at z
     have seqO : ∀ H',(∀ b o,b ∉ as→H1 b = some o→H' b = some o)→Same F1 H':=fun H' k b o e=>k b o (fun z=>F1n b (List.mem_cons_of_mem _ z) o e) (g1.fh _ _ e)
     refine forL (xs:=zs) (fun i σ' H'=>Bks H H' Dl as ((sp.take i).foldl bkStep (List.replicate pds.length []))∧(∀ b o,b ∉ as→H1 b = some o→H' b = some o)∧σ'.length = σ.length∧(∀ k,k ∉ [ia,inm,ift,ilt]→σ'[k]? = (σ.set ic (some (.ref Dl)))[k]?)) ?_ ?_ ?_ ?_
     ·exact ⟨B1,fun _ _ _ e=>e,by rw [List.length_set],fun _ _=>rfl⟩
     ·rintro i σ' H' _ ⟨_,hs,_⟩
      exact (seqO H' hs).seq hqs
     ·rintro i x σ' H' hxi ⟨hB,hs,hsl,hsk⟩
      obtain ⟨dd,hdd,hxv⟩:=hzs.get hxi
      rw [List.getElem?_map] at hdd
      obtain ⟨qq,eqq,rfl⟩:=Option.map_eq_some_iff.mp hdd
      obtain ⟨t,ws,rfl,hT,hY⟩:=hxv
      obtain ⟨y1,r1',rfl,hy1,hY⟩:=hY
      obtain ⟨y2,r2',rfl,hy2,hY⟩:=hY
      obtain ⟨y3,r3',rfl,hy3,hY⟩:=hY
      obtain ⟨y4,r4',rfl,hy4,hY⟩:=hY
      have hY' : r4' = []:=hY
      subst hY'
      have z1 : y1 = .int qq.1:=hy1
      have z2 : y2 = .int qq.2.1:=hy2
      have z3 : y3 = .int qq.2.2.1:=hy3
      have z4 : y4 = .int qq.2.2.2:=hy4
      subst z1 z2 z3 z4
      have hTH : SqT X.K H' t [.int qq.1,.int qq.2.1,.int qq.2.2.1,.int qq.2.2.2]:=(seqO H' hs).seqT hT
      refine ⟨_,hTH,rfl,?_⟩
      simp only [gConsM,gNilM,gName]
      generalize hσ : (((σ'.set ia (some (V.int qq.1))).set inm (some (.int qq.2.1))).set ift (some (.int qq.2.2.1))).set ilt (some (.int qq.2.2.2)) = σ2
      have hl2 : σ2.length = σ.length:=by rw [← hσ]; simp only [List.length_set]; exact hsl
      have hk2 : ∀ k,k ∉ [ia,inm,ift,ilt]→σ2[k]? = (σ.set ic (some (.ref Dl)))[k]?:=fun k hk=>by
       have hk':=hk
       simp only [List.mem_cons,List.not_mem_nil,not_or,or_false] at hk
       rw [← hσ,List.getElem?_set_ne (Ne.symm hk.2.2.2),List.getElem?_set_ne (Ne.symm hk.2.2.1),List.getElem?_set_ne (Ne.symm hk.2.1),List.getElem?_set_ne (Ne.symm hk.1)]
       exact hsk k hk'
      have gc : σ2[ic]? = some (some (.ref Dl)):=by
       rw [hk2 ic (by simp only [List.mem_cons,List.not_mem_nil,not_or,or_false]; exact ⟨m1,m2,m3,m4⟩),List.getElem?_set_self b0]
      have ga : σ2[ia]? = some (some (.int qq.1)):=by
       rw [← hσ,List.getElem?_set_ne (Ne.symm k3),List.getElem?_set_ne (Ne.symm k2),List.getElem?_set_ne (Ne.symm k1),List.getElem?_set_self (by omega)]
      have gn : σ2[inm]? = some (some (.int qq.2.1)):=by
       rw [← hσ,List.getElem?_set_ne (Ne.symm l2),List.getElem?_set_ne (Ne.symm l1),List.getElem?_set_self (by simp only [List.length_set]; omega)]
      have gf : σ2[ift]? = some (some (.int qq.2.2.1)):=by
       rw [← hσ,List.getElem?_set_ne (Ne.symm r1),List.getElem?_set_self (by simp only [List.length_set]; omega)]
      have gl : σ2[ilt]? = some (some (.int qq.2.2.2)):=by
       rw [← hσ,List.getElem?_set_self (by simp only [List.length_set]; omega)]
      have hin:=List.all_eq_true.mp c3 qq (List.mem_of_getElem? eqq)
      have hin0 : 0≤qq.1∧qq.1 < (pds.length : Int):=by simpa [inB] using hin
      obtain ⟨kk,hkk⟩ : ∃ kk : Nat,qq.1 = (kk : Int):=⟨qq.1.toNat,by omega⟩
      have hkn : kk < as.length:=by omega
      generalize hbs : (sp.take i).foldl bkStep (List.replicate pds.length []) = bs at hB
      have hbl : bs.length = pds.length:=by rw [← hbs,bk_len,List.length_replicate]
      have hbk : kk < bs.length:=by omega
      have et : (sp.take (i + 1)).foldl bkStep (List.replicate pds.length []) = bkStep bs qq:=by
       rw [List.take_add_one,eqq,List.foldl_append,hbs]; rfl
      have hsh : ∀ b∈bs,b.length≤2000:=fun b hb=>by
       rw [← hbs] at hb
       have:=bk_short (sp.take i) (List.replicate pds.length []) 0 (fun c hc=>by rw [List.eq_of_mem_replicate hc]; simp) b hb
       rw [List.length_take] at this
       omega
      have ea : as[kk]? = some as[kk]:=List.getElem?_eq_getElem hkn
      have eb : bs[kk]? = some bs[kk]:=List.getElem?_eq_getElem hbk
      obtain ⟨ys,ey,py⟩:=hB.at' kk _ _ ea eb
      have hyl2 : ys.length≤2000:=by rw [py.length]; exact hsh _ (List.getElem_mem hbk)
      have hix : ∀ {H2 : Hp},H2 Dl = some (.lst (as.map V.ref))→∀ {Q : VK},Q (.ref as[kk]) H2→tOp (rIxLM X.K) (vR ic) (vR ia) σ2 H2 Q:=fun {H2} ht {Q} hQ=>by
       refine vR_at (v:=.ref Dl) gc (vR_at (v:=.int qq.1) ga ⟨as.map V.ref,.ref as[kk],SqL.of ht,?_,hQ⟩)
       rw [hkk]
       exact atI_nat (by rw [List.getElem?_map,ea]; rfl)
      refine hix hB.top ⟨.inl ⟨rfl,ys,SqL.of ey⟩,?_⟩
      rw [tup2]
      refine vR_at (v:=.int qq.2.2.1) gf (vR_at (v:=.int qq.2.1) gn ⟨by show 2≤sizeLine; decide,fun t1 ht1=>?_⟩)
      have hH1t : H t1 = none:=by
       cases e : H t1 with
       | none=>rfl
       | some o =>
        have h61:=g1.hh _ _ (hsm6 _ _ e)
        have:=hs t1 o (fun z=>by rw [a2 t1 z] at e; cases e) h61
        rw [ht1] at this; cases this
      have ey1 : upd H' t1 (.tup [.int qq.2.2.1,.int qq.2.1]) as[kk] = some (.lst ys):=same_upd_new ht1 _ _ ey
      have hB1:=(hB.grow (same_upd_new (o:=.tup [.int qq.2.2.1,.int qq.2.1]) ht1)).app (p:=(qq.2.2.1,qq.2.1)) (t:=t1) ea eb ey1 (py.mono fun y q z=>z.same fun u xs e=>same_upd_new ht1 _ _ e) upd_same hH1t
      refine ⟨ys,ey1,size_big (by omega),?_⟩
      generalize hH2 : upd (upd H' t1 (.tup [.int qq.2.2.1,.int qq.2.1])) as[kk] (.lst (ys ++ [.ref t1])) = H2 at hB1
      have hs2 : ∀ b o,b ∉ as→H1 b = some o→H2 b = some o:=fun b o hb e=>by
       rw [← hH2,upd_ne fun z=>hb (by rw [z]; exact List.getElem_mem hkn)]
       exact same_upd_new ht1 _ _ (hs b o hb e)
      have eb2 : (bs.set kk (bs[kk] ++ [(qq.2.2.1,qq.2.1)]))[kk]? = some (bs[kk] ++ [(qq.2.2.1,qq.2.1)]):=List.getElem?_set_self hbk
      obtain ⟨ys2,ey2,py2⟩:=hB1.at' kk _ _ ea eb2
      have hyl3 : ys2.length≤2001:=by rw [py2.length,List.length_append]; have:=hsh _ (List.getElem_mem hbk); simp; omega
      refine hix hB1.top ⟨.inl ⟨rfl,ys2,SqL.of ey2⟩,?_⟩
      rw [tup2,op1]
      refine vR_at (v:=.int qq.2.2.2) gl ?_
      simp only [rM,un1]
      refine vR_at (v:=.int qq.2.1) gn ⟨_,rfl,by show 2≤sizeLine; decide,fun t2 ht2=>?_⟩
      have hH2t : H t2 = none:=by
       cases e : H t2 with
       | none=>rfl
       | some o =>
        have h61:=g1.hh _ _ (hsm6 _ _ e)
        have:=hs2 t2 o (fun z=>by rw [a2 t2 z] at e; cases e) h61
        rw [ht2] at this; cases this
      have ey3 : upd H2 t2 (.tup [.int (qq.2.2.2 + 1),.int (-qq.2.1)]) as[kk] = some (.lst ys2):=same_upd_new ht2 _ _ ey2
      have hB2:=(hB1.grow (same_upd_new (o:=.tup [.int (qq.2.2.2 + 1),.int (-qq.2.1)]) ht2)).app (p:=(qq.2.2.2 + 1,-qq.2.1)) (t:=t2) ea eb2 ey3 (py2.mono fun y q z=>z.same fun u xs e=>same_upd_new ht2 _ _ e) upd_same hH2t
      refine ⟨ys2,ey3,size_big (by omega),?_⟩
      refine ⟨?_,fun b o hb e=>?_,hl2,hk2⟩
      ·rw [et]
       have : bkStep bs qq = (bs.set kk (bs[kk] ++ [(qq.2.2.1,qq.2.1)])).set kk (bs[kk] ++ [(qq.2.2.1,qq.2.1)] ++ [(qq.2.2.2 + 1,-qq.2.1)]):=by
        unfold bkStep
        rw [List.set_set,hkk,Int.toNat_natCast,List.getD_eq_getElem?_getD,eb]
        simp
       rw [this]; exact hB2
      ·rw [upd_ne fun z=>hb (by rw [z]; exact List.getElem_mem hkn)]
       exact same_upd_new ht2 _ _ (hs2 b o hb e)
     ·rintro σ3 H3 ⟨hB,hs,hsl,hsk⟩
      rw [← hlz,List.take_length] at hB
      have eb : sp.foldl bkStep (List.replicate pds.length []) = bkOf pds.length sp:=rfl
      rw [eb] at hB
      have hsm3 : Same H H3:=fun b o e=>hs b o (fun z=>by rw [a2 b z] at e; cases e) (g1.hh _ _ (hsm6 _ _ e))
      have gr : Grow F H (wide F H3) H3:=wide_grow ⟨hsm3,Same.refl _,I.sub.trans hsm3,fun _ _ e=>.inl e,fun _ _ _ e=>e⟩
      have hD3 : H3 Dl = some (.lst (as.map V.ref)):=hB.top
      have hb3 : ∀ b∈Dl :: as,∃ ys,H3 b = some (.lst ys):=fun b hb=>by
       rcases List.mem_cons.mp hb with rfl | hb
       ·exact ⟨_,hD3⟩
       ·obtain ⟨j,hj,rfl⟩:=List.getElem_of_mem hb
        obtain ⟨ys,e,_⟩:=hB.at' j as[j] ((bkOf pds.length sp)[j]'(by have:=hB.len; omega)) (List.getElem?_eq_getElem hj) (List.getElem?_eq_getElem _)
        exact ⟨ys,e⟩
      let F3 : Hp:=fun b=>if b∈Dl :: as then H3 b else wide F H3 b
      have F3in : ∀ b,b∈Dl :: as→F3 b = H3 b:=fun b hb=>if_pos hb
      have F3out : ∀ b,b ∉ Dl :: as→F3 b = wide F H3 b:=fun b hb=>if_neg hb
      have g3 : Grow F H F3 H3:=by
       refine ⟨hsm3,fun b o e=>?_,fun b o e=>?_,fun b o e=>?_,fun b o u e=>?_⟩
       ·by_cases hb : b∈Dl :: as
        ·have:=I.sub _ _ e
         rw [hB.new b hb] at this; cases this
        ·rw [F3out b hb]; exact gr.ff _ _ e
       ·by_cases hb : b∈Dl :: as
        ·rw [F3in b hb] at e; exact e
        ·rw [F3out b hb] at e; exact gr.fh _ _ e
       ·by_cases hb : b∈Dl :: as
        ·exact .inr (.inl (hB.new b hb))
        ·rw [F3out b hb] at e; exact gr.new _ _ e
       ·by_cases hb : b∈Dl :: as
        ·obtain ⟨ys,e'⟩:=hb3 b hb
         rw [F3in b hb,e'] at e; cases e
        ·rw [F3out b hb] at e; exact gr.pl _ _ _ e
      have hL : Has X.K F3 (bkD (bkOf pds.length sp)) (.ref Dl):=by
       refine ⟨Dl,as.map V.ref,rfl,SqL.of (by rw [F3in _ List.mem_cons_self]; exact hD3),?_⟩
       refine hasL_of (by rw [List.length_map,List.length_map]; exact hB.len.symm) fun j d v hd hv=>?_
       rw [List.getElem?_map] at hd hv
       obtain ⟨ps,eps,rfl⟩:=Option.map_eq_some_iff.mp hd
       obtain ⟨b,eb',rfl⟩:=Option.map_eq_some_iff.mp hv
       obtain ⟨ys,ey,py⟩:=hB.at' j b ps eb' eps
       have hb : b∈Dl :: as:=List.mem_cons_of_mem _ (List.mem_of_getElem? eb')
       refine ⟨b,ys,rfl,SqL.of (by rw [F3in b hb]; exact ey),?_⟩
       have key : ∀ {ys : List V} {ps : List P2},Paired (PrT H H3) ys ps→HasL X.K F3 (ps.map prD) ys:=fun {ys}=>by
        induction ys with
        | nil=>intro ps h; cases h; exact rfl
        | cons y ys ih =>
         intro ps h
         cases h with
         | cons h1 h2 =>
          obtain ⟨t,rfl,ht,hn⟩:=h1
          have htn : t ∉ Dl :: as:=fun z=>by
           obtain ⟨us,e'⟩:=hb3 t z
           rw [e'] at ht; cases ht
          refine ⟨_,ys,rfl,⟨t,_,rfl,SqT.of (by rw [F3out t htn]; exact wide_imo ht rfl),_,_,rfl,rfl,_,_,rfl,rfl,rfl⟩,ih h2⟩
       exact key py
      have gc3 : σ3[ic]? = some (some (.ref Dl)):=by
       rw [hsk ic (by simp only [List.mem_cons,List.not_mem_nil,not_or,or_false]; exact ⟨m1,m2,m3,m4⟩),List.getElem?_set_self b0]
      have es : σ3.set ic (some (.ref Dl)) = σ3:=by
       refine List.ext_getElem? fun k=>?_
       by_cases hk : k = ic
       ·subst hk; rw [List.getElem?_set_self (by omega),gc3]
       ·rw [List.getElem?_set_ne (Ne.symm hk)]
      have I3 : VI X.K ioA G H₀ (forget [ia,inm,ift,ilt] (S.set ic none)) F3 σ3 H3:=(I.grow g3).forget (σ':=σ3) (js:=[ic,ia,inm,ift,ilt]) hsl fun k hk=>by
       rw [List.mem_cons,not_or] at hk
       rw [hsk k hk.2,List.getElem?_set_ne (Ne.symm hk.1)]
      have I4:=I3.set (i:=ic) hL
      rw [es] at I4
      exact ⟨ioA,G,H₀,_,F3,I4,q⟩
   ·exact q.elim
  ·exact q.elim
 ·exact q.elim
end
end VM
namespace Pg
open PySem L2 VM
noncomputable def g_spans_of : VS :=
 (gSeq (gOw 2 (vLst a0))
 (gSeq (gFor (vItems (vF 1)) (gT 4 (gC (gN 3) (gC (gN 4) (gC (gN 5) (gC (gN 6) g0)))))
 (gSeq (gAs (vC (.int 0)) (gN 7))
 (gFor (vItems (vF 3)) (gN 8)
 (gSeq (gApp 2 (aC (vTup (aC (vF 8) (aC (vF 4) (aC (v2 addD (vN 5) (vN 7)) (aC (v2 addD (vN 6) (vN 7)) a0))))) a0))
 (gAug addD 7 (v2 ixDt (v2 ixDt (vN 0) (vN 8)) (vC (.int 3))))))))
 (gRetO 2)))
noncomputable def m_spans_of : FnM:=fnM 2 9 g_spans_of
noncomputable def g_set_out : VS :=
 (gSeq (gOw 3 (v2 repD (vLst (aC (vC (.int 0)) a0)) (vCB lenD (aC (vN 0) a0))))
 (gSeq (gFor (vItems (vCall m_spans_of (aC (vF 0) (aC (vF 1) a0)))) (gT 4 (gC (gN 4) (gC (gN 5) (gC (gN 6) (gC (gN 7) g0)))))
 (gIf (vB (vCh leD leD (vN 6) (vN 2) (vN 7)))
 (gAugI addD 3 (vN 4) (vF 5))
 gNop))
 (gRetO 3)))
noncomputable def m_set_out : FnM:=fnM 3 8 g_set_out
end Pg
set_option hygiene false in
local macro_rules | `(tactic| walk_at "e0")=>`(tactic| (try simp only [fnM_eq,ob_some,ob_none,bFn_r,bFn_n,ini,gSeq_eq,bSeq_n,bSeq_r,bSeq_b,bSeq_c,gIf_eq,bIf_t,bIf_f,tAnd_eq,bAnd_t,bAnd_f,tOr_eq,bOr_t,bOr_f,tNot2,vAnd_eq,bAndE_t,bAndE_f,vOr_eq,bOrE_t,bOrE_f,vIf_eq,bIfE_t,bIfE_f,v2_eq,b2_s,b1_s,v1_eq,aC_eq,bC_s,bC1_s,a0,gAs_eq,bAs_s,bNx_s,gC_eq,bG_s,g0,vCall_eq,bCall_s,vCallN_eq,bCallN_s,vCallW_eq,bCallW_s,bResW_s,vCallWN_eq,bCallWN_s,bResWN_s,bIm_t,vImm_eq,bImm_s,bRes_s,bResN_s,vCh_eq,bCh_t,bCh_f,atI_0,atI_1,atI_2,atI_3,gFor_eq,bFor_s,gRet,gRetN,gRetO,gEx,gN,gT,gOw_eq,gOwF_eq,bOw_s,vLC_eq,vLCW_eq,bL_s,gFz,frz,gApp,gPut,gAug,gAugI,gNop,gFail,gClr,gPop,gRv,gIns,gPopAt,vSetLen,ownL,noIo_eq,nio_ob,nio_n,nio_fr,nio_ow,vN,vF,vC,vB,vTru,truD,vNot,imm,immL,ixDt,oN,oI,vSlL,vSlT,vRev,negD,vTup,vLst,vCB,lenD,absD,min2D,max2D,int1D,vIsi,isi_list,isi_int,isi_bool_i,isi_tuple,vListOf,immR,vItems,vItemsT,vRng1,vRng2,vEnum,vZip,capFr,capG,capOne,cTrue,addD_i,subD_i,ltD_i,leD_i,gtD_i,geD_i,xorD_i,eqD_i,neD_i,Int.reduceToNat,Int.reducePow,isD_n,isnD_n,isNoneD,List.length_cons,List.length_nil,List.map_cons,List.map_nil,List.replicate,List.cons_append,List.nil_append,List.append_nil,List.getElem?_cons_zero,List.getElem?_cons_succ,List.set_cons_zero,List.set_cons_succ,Nat.reduceAdd,Nat.reduceSub,Nat.reduceLeDiff,Nat.reduceEqDiff,Bool.and_true,Bool.true_and,Bool.not_true,Bool.not_false,Bool.false_eq_true,↓reduceIte,if_true,if_false]))
namespace PL
open PySem L2 VM
noncomputable def cellI (ns : List Int) (k : Int) : Int:=ns.getD k.toNat 0
theorem atI_ints {ns : List Int} {k : Int} (h0 : 0≤k) (h1 : k < ns.length) : atI (ns.map PyData.int) k = some (.int (cellI ns k)):=by
 obtain ⟨j,rfl⟩ : ∃ j : Nat,k = j:=⟨k.toNat,by omega⟩
 have hj : j < ns.length:=by omega
 refine atI_nat ?_
 simp [hj,cellI]
noncomputable def divN (n : Int) : Nat→Int
 | 0=>n
 | k + 1=>divN n k / 1000000000000
noncomputable def mixO (x k : Int) : Int:=((x * x + 16807 * x + k) % 2147483629) * ((x * x + 16807 * x + k) % 2147483629) % 2147483587
noncomputable def mixI (c k : Int) : Int:=if c % 2 = 0 then divN ((if c < 0 then -c else c) / 2) k.toNat else mixO ((c + 7919 * k) % 2147483629) k
theorem mod_in (a : Int) {b : Int} (h : 0 < b) : 0≤a % b∧a % b < b:=⟨Int.emod_nonneg a (by omega),Int.emod_lt_of_pos a h⟩
noncomputable def greatI (c k : Int) : Int:=if mixI c k % 3 = 0 then 1 + c % 999999999999999999999999999999999999999999999999999999999999 else if mixI c k % 3 = 1 then 1 + mixI c k / 3 % 1000 else 1 + mixI c k / 3 % 4
theorem greatI_pos (c k : Int) : 1≤greatI c k:=by
 unfold greatI
 have a:=mod_in c (show (0 : Int) < 999999999999999999999999999999999999999999999999999999999999 by decide)
 have b:=mod_in (mixI c k / 3) (show (0 : Int) < 1000 by decide)
 have d:=mod_in (mixI c k / 3) (show (0 : Int) < 4 by decide)
 split
 ·omega
 ·split <;> omega
theorem mod_next {a d m : Int} (ha : 0≤a∧a < m) (hd : 1≤d∧d≤m - 1) : 0≤(a + d) % m∧(a + d) % m < m∧(a + d) % m ≠ a:=by
 have h1:=Int.emod_nonneg (a + d) (show m ≠ 0 by omega)
 have h2:=Int.emod_lt_of_pos (a + d) (show 0 < m by omega)
 refine ⟨h1,h2,?_⟩
 by_cases h : a + d < m
 ·rw [Int.emod_eq_of_lt (by omega) h]; omega
 ·have e : (a + d) % m = a + d - m:=by
   rw [← Int.emod_eq_of_lt (show 0≤a + d - m by omega) (show a + d - m < m by omega),Int.sub_emod_right]
  rw [e]; omega
theorem great_in (c k : Int) : 1≤greatI c k∧greatI c k≤1000000000000000000000000000000000000000000000000000000000000:=by
 refine ⟨greatI_pos c k,?_⟩
 unfold greatI
 have a:=mod_in c (show (0 : Int) < 999999999999999999999999999999999999999999999999999999999999 by decide)
 have b:=mod_in (mixI c k / 3) (show (0 : Int) < 1000 by decide)
 have d:=mod_in (mixI c k / 3) (show (0 : Int) < 4 by decide)
 split
 ·omega
 ·split <;> omega
theorem ne_nil (ds : List PyData) (h : (PyData.list ds).depth≤60) : neD (.list ds) (.list []) = some (.bool !ds.isEmpty):=by
 unfold neD
 rw [if_pos h]
 cases ds <;> simp [PyData.eqv,PyData.eqvAll]
noncomputable abbrev Row:=List Nat × Int × Int × Int
noncomputable def jD (j : Nat) : PyData:=.int (j : Int)
noncomputable def rowD (r : Row) : PyData:=.tuple [.list (r.1.map jD),.int r.2.1,.int r.2.2.1,.int r.2.2.2]
noncomputable def lenAt (ps : List Pq) (j : Nat) : Int:=(ps.getD j (0,0,0,0)).2.2.2
noncomputable def lenW (ps : List Pq) (w : List Nat) : Int:=(w.map (lenAt ps)).sum
noncomputable def owB (v : Option PyData) : Option (Tg × PyData):=v.map fun d=>(Tg.ow,d)
theorem owB_some (d : PyData) : owB (some d) = some (Tg.ow,d):=rfl
theorem owB_none : owB none = none:=rfl
theorem nio_owB (o : Option PyData) : nio (some (owB o)) = true:=by cases o <;> rfl
theorem catD_s {xs ys : List PyData} (h : xs.length + ys.length≤16000000) : catD (.list xs) (.list ys) = some (.list (xs ++ ys)):=if_pos (Nat.le_of_lt (size_big h))
theorem atI_snoc {α : Type} (xs : List α) (y : α) : atI (xs ++ [y]) (-1) = some y:=by
 unfold atI
 rw [ixN_last (by simp)]
 simp
theorem depth_rows (rs : List Row) : PyData.depthAll (rs.map rowD)≤3:=by
 induction rs with
 | nil=>simp [PyData.depthAll]
 | cons r rs ih =>
  have w1 : ∀ v : List Nat,PyData.depthAll (v.map jD)≤1:=fun v=>by
   induction v with
   | nil=>simp [PyData.depthAll]
   | cons a v ih=>simp only [List.map_cons,PyData.depthAll,jD,PyData.depth]; omega
  have:=w1 r.1
  have : (rowD r).depth≤3:=by simp only [rowD,PyData.depth,PyData.depthAll]; omega
  simp only [List.map_cons,PyData.depthAll]
  omega
theorem depth_ps (ps : List Pq) : PyData.depthAll (ps.map pD)≤2:=by
 induction ps with
 | nil=>simp [PyData.depthAll]
 | cons q ps ih =>
  have : (pD q).depth≤2:=by simp [pD,PyData.depth,PyData.depthAll]
  simp only [List.map_cons,PyData.depthAll]
  omega
theorem can_all {α : Type} (f : α→PyData) (h : ∀ a,(f a).canLay0 = true) : ∀ xs : List α,PyData.canLayAll0 (xs.map f) = true
 | []=>rfl
 | a :: r=>by simp only [List.map_cons,PyData.canLayAll0,h a,can_all f h r,Bool.and_true]
theorem can_row (r : Row) : (rowD r).canLay0 = true:=by
 have:=can_all jD (fun _=>rfl) r.1
 simp only [rowD,PyData.canLay0,PyData.canLayAll0,this,Bool.and_true]
theorem can_p (q : Pq) : (pD q).canLay0 = true:=rfl
theorem eq_handed (ps : List Pq) (rs : List Row) : eqD (.list [.list (ps.map pD),.list (rs.map rowD)]) (.list [.list (ps.map pD),.list (rs.map rowD)]) = some (.bool true):=by
 have d1:=depth_rows rs
 have d2:=depth_ps ps
 unfold eqD
 rw [if_pos (by simp only [PyData.depth,PyData.depthAll]; omega),SeqAt.eqv_refl]
 simp only [PyData.canLay0,PyData.canLayAll0,can_all rowD can_row rs,can_all pD can_p ps,Bool.and_true]
structure PsOk (ps : List Pq) : Prop where
 two : 2≤ps.length
 ten : ps.length≤10
 l1 : ∀ q∈ps,1≤q.2.2.2
 lC : ∀ q∈ps,q.2.2.2≤10000000000000000000000000000000000000000000000000000000000
 ne : ∀ q∈ps,q.1 ≠ q.2.1
structure RowOk (ps : List Pq) (r : Row) : Prop where
 w1 : r.1 ≠ []
 w5 : r.1.length≤5
 ix : ∀ j∈r.1,j < ps.length
 n1 : 1≤r.2.1
 nB : r.2.1≤1000000000000000000000000000000000000000000000000000000000000
 f0 : 0≤r.2.2.1
 fl : r.2.2.1≤r.2.2.2
 lB : r.2.2.2≤200000000000000000000000000000000000000000000000000000000000
theorem get_at {ps : List Pq} {j : Nat} (h : j < ps.length) : ps[j]? = some (ps.getD j (0,0,0,0)):=by
 rw [List.getD_eq_getElem?_getD,List.getElem?_eq_getElem h]; rfl
noncomputable def lim (ps : List Pq) (m : Int) (r : Row) : Int:=if m - lenW ps r.1 < r.2.2.2 then m - lenW ps r.1 else r.2.2.2
noncomputable def come1 (ps : List Pq) (m : Int) (r : Row) : Int:=r.2.1 * (if lim ps m r - r.2.2.1 + 1 > 0 then lim ps m r - r.2.2.1 + 1 else 0)
noncomputable def come (ps : List Pq) (m : Int) : List Row→Int
 | []=>0
 | r :: rs=>come1 ps m r + come ps m rs
noncomputable abbrev Leg:=Nat × Int × Int × Int
noncomputable def legsF (ps : List Pq) (n f l : Int) : List Nat→Int→List Leg
 | [],_=>[]
 | j :: w,t=>(j,n,f + t,l + t) :: legsF ps n f l w (t + lenAt ps j)
noncomputable def legs (ps : List Pq) : List Row→List Leg
 | []=>[]
 | r :: rs=>legsF ps r.2.1 r.2.2.1 r.2.2.2 r.1 0 ++ legs ps rs
noncomputable def spD (s : Leg) : PyData:=.tuple [.int (s.1 : Int),.int s.2.1,.int s.2.2.1,.int s.2.2.2]
theorem legsF_length (ps : List Pq) (n f l : Int) : ∀ (w : List Nat) (t : Int),(legsF ps n f l w t).length = w.length
 | [],_=>rfl
 | _ :: w,t=>by rw [legsF,List.length_cons,List.length_cons,legsF_length ps n f l w]
theorem legsF_ix (ps : List Pq) (n f l : Int) : ∀ (w : List Nat) (t : Int) (s : Leg),s∈legsF ps n f l w t→s.1∈w
 | [],_,s,h=>by simp [legsF] at h
 | j :: w,t,s,h=>by
  rw [legsF] at h
  rcases List.mem_cons.mp h with rfl | h
  ·exact List.mem_cons_self
  ·exact List.mem_cons_of_mem _ (legsF_ix ps n f l w _ s h)
theorem legs_ix {ps : List Pq} : ∀ {rs : List Row},(∀ r∈rs,RowOk ps r)→∀ s∈legs ps rs,s.1 < ps.length
 | [],_,s,h=>by simp [legs] at h
 | r :: rs,R,s,h=>by
  rw [legs] at h
  rcases List.mem_append.mp h with h | h
  ·exact (R r List.mem_cons_self).ix _ (legsF_ix _ _ _ _ _ _ _ h)
  ·exact legs_ix (fun r hr=>R r (List.mem_cons_of_mem _ hr)) s h
theorem legs_length {ps : List Pq} : ∀ {rs : List Row},(∀ r∈rs,RowOk ps r)→(legs ps rs).length≤5 * rs.length
 | [],_=>by simp [legs]
 | r :: rs,R=>by
  have a:=(R r List.mem_cons_self).w5
  have b:=legs_length (ps:=ps) (rs:=rs) fun r hr=>R r (List.mem_cons_of_mem _ hr)
  rw [legs,List.length_append,legsF_length,List.length_cons]
  omega
noncomputable def bodyI : VS := (gSeq (gApp 2 (aC (vTup (aC (vF 8) (aC (vF 4) (aC (v2 addD (vN 5) (vN 7)) (aC (v2 addD (vN 6) (vN 7)) a0))))) a0))
 (gAug addD 7 (v2 ixDt (v2 ixDt (vN 0) (vN 8)) (vC (.int 3)))))
theorem spans_in {ps : List Pq} {all : PyData} {wd : PyData} {n f l : Int} : ∀ (w : List Nat) (acc : List Leg) (t : Int) (x8 : Option PyData),(∀ j∈w,j < ps.length)→acc.length + w.length≤16000000→∃ t' x8',forG (gN 8) bodyI (w.map jD) [some (Tg.fr,.list (ps.map pD)),some (Tg.fr,all),some (Tg.ow,.list (acc.map spD)),some (Tg.fr,wd),some (Tg.fr,.int n),some (Tg.fr,.int f),some (Tg.fr,.int l),some (Tg.fr,.int t),ob x8]
  = .nxt [some (Tg.fr,.list (ps.map pD)),some (Tg.fr,all),some (Tg.ow,.list ((acc ++ legsF ps n f l w t).map spD)),some (Tg.fr,wd),some (Tg.fr,.int n),some (Tg.fr,.int f),some (Tg.fr,.int l),some (Tg.fr,.int t'),ob x8']
 | [],acc,t,x8,_,_=>⟨t,x8,by simp [forG,legsF]⟩
 | j :: w,acc,t,x8,hj,hb=>by
  simp only [List.length_cons] at hb
  obtain ⟨t',x8',hx⟩:=spans_in (all:=all) (wd:=wd) (n:=n) (f:=f) (l:=l) w (acc ++ [(j,n,f + t,l + t)]) (t + lenAt ps j) (some (.int (j : Int))) (fun i hi=>hj i (List.mem_cons_of_mem _ hi)) (by rw [List.length_append]; simp only [List.length_cons,List.length_nil]; omega)
  refine ⟨t',x8',?_⟩
  rw [List.map_cons,forG]
  unfold jD bodyI at *
  walk_at "e0"
  rw [if_pos (by rw [List.length_map]; exact size_big (by omega))]
  walk_at "e0"
  rw [atI_of pD (get_at (hj j List.mem_cons_self))]
  have e1 : (ps.getD j (0,0,0,0)).2.2.2 = lenAt ps j:=rfl
  unfold pD at hx ⊢
  walk_at "e0"
  rw [e1,legsF]
  rw [List.append_assoc,List.map_append,List.map_cons,List.map_nil] at hx
  simp only [ob_some,List.cons_append,List.nil_append] at hx
  exact hx
theorem e_spans {ps : List Pq} {rs : List Row} (R : ∀ r∈rs,RowOk ps r) (hl : rs.length≤1000) : Pg.m_spans_of [psD ps,.list (rs.map rowD)] = some (true,.list ((legs ps rs).map spD)):=by
 unfold Pg.m_spans_of Pg.g_spans_of psD
 walk_at "e0"
 have key : ∀ (all : PyData) (xs : List Row) (acc : List Leg) (x3 x4 x5 x6 x7 x8 : Option PyData),(∀ r∈xs,RowOk ps r)→acc.length + 5 * xs.length≤16000000→∃ x3' x4' x5' x6' x7' x8',forG (gT 4 (gC (gN 3) (gC (gN 4) (gC (gN 5) (gC (gN 6) g0)))))
   (gSeq (gAs (vC (.int 0)) (gN 7)) (gFor (vItems (vF 3)) (gN 8) bodyI)) (xs.map rowD) [some (Tg.fr,.list (ps.map pD)),some (Tg.fr,all),some (Tg.ow,.list (acc.map spD)),ob x3,ob x4,ob x5,ob x6,ob x7,ob x8]
   = .nxt [some (Tg.fr,.list (ps.map pD)),some (Tg.fr,all),some (Tg.ow,.list ((acc ++ legs ps xs).map spD)),ob x3',ob x4',ob x5',ob x6',ob x7',ob x8']:=fun all xs=>by
  induction xs with
  | nil=>intro acc x3 x4 x5 x6 x7 x8 _ _; exact ⟨x3,x4,x5,x6,x7,x8,by simp [forG,legs]⟩
  | cons r xs ih =>
   intro acc x3 x4 x5 x6 x7 x8 h hb
   have ro:=h r List.mem_cons_self
   have w5:=ro.w5
   simp only [List.length_cons] at hb
   obtain ⟨w,n,f,l⟩:=r
   simp only at w5
   obtain ⟨t',y8,hi⟩:=spans_in (ps:=ps) (all:=all) (wd:=.list (w.map jD)) (n:=n) (f:=f) (l:=l) w acc 0 x8 ro.ix (by omega)
   obtain ⟨y3,y4,y5,y6,y7,z8,hx⟩:=ih (acc ++ legsF ps n f l w 0) (some (.list (w.map jD))) (some (.int n)) (some (.int f)) (some (.int l)) (some (.int t')) y8 (fun r hr=>h r (List.mem_cons_of_mem _ hr)) (by rw [List.length_append,legsF_length]; omega)
   refine ⟨y3,y4,y5,y6,y7,z8,?_⟩
   rw [List.map_cons,forG]
   unfold rowD
   walk_at "e0"
   simp only [ob_some] at hi hx
   rw [hi]
   simp only
   rw [legs,← List.append_assoc]
   exact hx
 obtain ⟨x3,x4,x5,x6,x7,x8,hx⟩:=key (.list (rs.map rowD)) rs [] none none none none none none R (by simp; omega)
 simp only [ob_none,List.map_nil,List.nil_append] at hx
 unfold bodyI at hx
 rw [hx]
 walk_at "e0"
noncomputable def setF (m : Int) : List Leg→List Int→List Int
 | [],c=>c
 | s :: r,c=>setF m r (if s.2.2.1≤m∧m≤s.2.2.2 then c.set s.1 (c.getD s.1 0 + s.2.1) else c)
theorem setF_length (m : Int) : ∀ (ss : List Leg) (c : List Int),(setF m ss c).length = c.length
 | [],_=>rfl
 | s :: r,c=>by
  rw [setF,setF_length m r]
  split
  ·rw [List.length_set]
  ·rfl
theorem at_int {c : List Int} {j : Nat} (h : j < c.length) : (c.map PyData.int)[j]? = some (.int (c.getD j 0)):=by
 rw [List.getElem?_map,List.getD_eq_getElem?_getD,List.getElem?_eq_getElem h]; rfl
theorem e_set {ps : List Pq} {rs : List Row} {m : Int} (hp : ps.length≤1000) (R : ∀ r∈rs,RowOk ps r) (hl : rs.length≤1000) : Pg.m_set_out [psD ps,.list (rs.map rowD),.int m] = some (true,.list ((setF m (legs ps rs) (List.replicate ps.length 0)).map .int)):=by
 unfold Pg.m_set_out Pg.g_set_out
 have es:=e_spans R hl
 unfold psD at es ⊢
 walk_at "e0"
 rw [List.length_map,repD_one _ (by omega)]
 walk_at "e0"
 rw [es]
 walk_at "e0"
 have key : ∀ (all : PyData) (xs : List Leg) (c : List Int) (x4 x5 x6 x7 : Option PyData),(∀ s∈xs,s.1 < c.length)→∃ x4' x5' x6' x7',forG (gT 4 (gC (gN 4) (gC (gN 5) (gC (gN 6) (gC (gN 7) g0)))))
   (gIf (vB (vCh leD leD (vN 6) (vN 2) (vN 7))) (gAugI addD 3 (vN 4) (vF 5)) gNop) (xs.map spD) [some (Tg.fr,.list (ps.map pD)),some (Tg.fr,all),some (Tg.fr,.int m),some (Tg.ow,.list (c.map .int)),ob x4,ob x5,ob x6,ob x7]
   = .nxt [some (Tg.fr,.list (ps.map pD)),some (Tg.fr,all),some (Tg.fr,.int m),some (Tg.ow,.list ((setF m xs c).map .int)),ob x4',ob x5',ob x6',ob x7']:=fun all xs=>by
  induction xs with
  | nil=>intro c x4 x5 x6 x7 _; exact ⟨x4,x5,x6,x7,by simp [forG,setF]⟩
  | cons s xs ih =>
   intro c x4 x5 x6 x7 h
   have hs:=h s List.mem_cons_self
   have hr : ∀ c' : List Int,c'.length = c.length→∀ s∈xs,s.1 < c'.length:=fun c' e s hs=>by rw [e]; exact h s (List.mem_cons_of_mem _ hs)
   obtain ⟨j,n,f,l⟩:=s
   rw [List.map_cons,forG,setF]
   unfold spD
   walk_at "e0"
   by_cases h1 : f≤m
   ·by_cases h2 : m≤l
    ·obtain ⟨y4,y5,y6,y7,hx⟩:=ih (c.set j (c.getD j 0 + n)) (some (.int (j : Int))) (some (.int n)) (some (.int f)) (some (.int l)) (hr _ (by rw [List.length_set]))
     refine ⟨y4,y5,y6,y7,?_⟩
     simp only [h1,decide_true,bCh_t]
     walk_at "e0"
     simp only [h2,decide_true]
     walk_at "e0"
     simp only [List.length_map,ixN_of hs,at_int hs]
     walk_at "e0"
     simp only [ob_some,List.map_set] at hx
     simp only [and_self,↓reduceIte]
     exact hx
    ·obtain ⟨y4,y5,y6,y7,hx⟩:=ih c (some (.int (j : Int))) (some (.int n)) (some (.int f)) (some (.int l)) (hr _ rfl)
     refine ⟨y4,y5,y6,y7,?_⟩
     simp only [h1,decide_true,bCh_t]
     walk_at "e0"
     simp only [h2,decide_false]
     walk_at "e0"
     simp only [ob_some] at hx
     simp only [and_false,↓reduceIte]
     exact hx
   ·obtain ⟨y4,y5,y6,y7,hx⟩:=ih c (some (.int (j : Int))) (some (.int n)) (some (.int f)) (some (.int l)) (hr _ rfl)
    refine ⟨y4,y5,y6,y7,?_⟩
    simp only [h1,decide_false,bCh_f]
    walk_at "e0"
    simp only [ob_some] at hx
    simp only [false_and,↓reduceIte]
    exact hx
 obtain ⟨x4,x5,x6,x7,hx⟩:=key (.list (rs.map rowD)) (legs ps rs) (List.replicate ps.length 0) none none none none (by rw [List.length_replicate]; exact legs_ix R)
 simp only [ob_none,List.map_replicate] at hx
 rw [hx]
 walk_at "e0"
end PL
namespace K43
open PySem L2 VM
seal L2.PE L2.PT L2.PW L2.PA L2.PS L2.PSs L2.PG L2.PGs L2.PI L2.PIfs L2.PO L2.OpR L2.UnR L2.CallR L2.IxR L2.MtR L2.PSet L2.PIp VM.OpD VM.CallD
set_option maxHeartbeats 4000000
noncomputable def top (i : Nat) : Stmt:=PySem.Challenge.pw_leavehall_k43_most_at_once.main.body.getD i (.Pass ⟨0,0,0,0⟩)
theorem sc_spans_of : FnScope ["passages","plan","spans","walk","number","first","last","later","passage"] ["passages","plan"] (defScope (top 3)):=⟨rfl,rfl,rfl,by decide +kernel,rfl,by decide +kernel,by decide +kernel⟩
theorem ok_spans_of {P : Program} {w : World} {K : PySem.W.Frag} {mg : Str → Option Value} {base : Heap} {f : Addr} {fd : FuncData} (F : Fun K "spans_of" "spans_of" (top 3) f fd) (B : Bl mg) (KT : Kits K)  : FnOk P w K mg base CX0 1 f fd ["passages", "plan"] (spV K Pg.m_spans_of) := by
  have nd := sc_spans_of.nd
  have vt := (show (["passages", "plan", "spans", "walk", "number", "first", "last", "later", "passage"] : List Str).all (fun x => visB (defScope (top 3)) x && plain x) = true by decide +kernel)
  refine fnV (k := 0) (n := 2) (nN := 9) (g := Pg.g_spans_of) F sc_spans_of rfl rfl fun cdv A outer s H E hr => ?_
  exact (sSeq (sOw (i := 2) (ps_set nd rfl (lo (sc := (defScope (top 3))) (by decide +kernel)) (dLst pa0)))
 (sSeq (sFor (ps_for PassesOwn.never rfl (itL (dF (pV vt 1))) (tgT (n := 4) rfl (tgC (tgN (pg_name (i := 3) nd rfl (lo (sc := (defScope (top 3))) (by decide +kernel)))) (tgC (tgN (pg_name (i := 4) nd rfl (lo (sc := (defScope (top 3))) (by decide +kernel)))) (tgC (tgN (pg_name (i := 5) nd rfl (lo (sc := (defScope (top 3))) (by decide +kernel)))) (tgC (tgN (pg_name (i := 6) nd rfl (lo (sc := (defScope (top 3))) (by decide +kernel)))) tg0)))))
 (sSeq (sAs (ps_asg dInt (tgN (pg_name (i := 7) nd rfl (lo (sc := (defScope (top 3))) (by decide +kernel))))))
 (sOne (sFor (ps_for PassesOwn.never rfl (itL (dF (pV vt 3))) (tgN (pg_name (i := 8) nd rfl (lo (sc := (defScope (top 3))) (by decide +kernel))))
 (sSeq (sApp (i := 2) (ps_expr (peApp (pV vt 2) (paC (dTup (paC (dF (pV vt 8)) (paC (dF (pV vt 4)) (paC (dOp oAdd hAdd (mw (dN (pV vt 5))) (mw (dN (pV vt 7)))) (paC (dOp oAdd hAdd (mw (dN (pV vt 6))) (mw (dN (pV vt 7)))) pa0))))) pa0))))
 (sOne (sAug hAdd (psAug (i := 7) nd rfl (lo (sc := (defScope (top 3))) (by decide +kernel)) (dIx (sm (dIx (dN (pV vt 0)) (mw (dN (pV vt 8))))) (sw dInt)) iAdd))))))))))
 (sOne (sRetO (pV vt 2)))))
theorem sc_set_out : FnScope ["passages","plan","moment","counts","passage","number","first","last"] ["passages","plan","moment"] (defScope (top 1)):=⟨rfl,rfl,rfl,by decide +kernel,rfl,by decide +kernel,by decide +kernel⟩
theorem ok_set_out {P : Program} {w : World} {K : PySem.W.Frag} {mg : Str → Option Value} {base : Heap} {f : Addr} {fd : FuncData} (F : Fun K "set_out" "set_out" (top 1) f fd) (B : Bl mg) (KT : Kits K) (Cspans_of : Cal P w K mg base 1 "spans_of" ["passages", "plan"] (spV K Pg.m_spans_of)) : FnOk P w K mg base CX0 2 f fd ["passages", "plan", "moment"] (spV K Pg.m_set_out) := by
  have nd := sc_set_out.nd
  have vt := (show (["passages", "plan", "moment", "counts", "passage", "number", "first", "last"] : List Str).all (fun x => visB (defScope (top 1)) x && plain x) = true by decide +kernel)
  refine fnV (k := 1) (n := 3) (nN := 8) (g := Pg.g_set_out) F sc_set_out rfl rfl fun cdv A outer s H E hr => ?_
  exact (sSeq (sOw (i := 3) (ps_set nd rfl (lo (sc := (defScope (top 1))) (by decide +kernel)) (dRep (dLst (paC dInt pa0)) (sw (dCB (pe_callB cLen (gl (sc := (defScope (top 1))) (by decide +kernel)) B.len PySem.boot_len (pwC (mw (dN (pV vt 0))) pw0)) hLen)))))
 (sSeq (sFor (ps_for PassesOwn.never rfl (itL (dCal (peCal Cspans_of (hr.mono (by decide)) (gl (sc := (defScope (top 1))) (by decide +kernel)) (paC (dF (pV vt 0)) (paC (dF (pV vt 1)) pa0))))) (tgT (n := 4) rfl (tgC (tgN (pg_name (i := 4) nd rfl (lo (sc := (defScope (top 1))) (by decide +kernel)))) (tgC (tgN (pg_name (i := 5) nd rfl (lo (sc := (defScope (top 1))) (by decide +kernel)))) (tgC (tgN (pg_name (i := 6) nd rfl (lo (sc := (defScope (top 1))) (by decide +kernel)))) (tgC (tgN (pg_name (i := 7) nd rfl (lo (sc := (defScope (top 1))) (by decide +kernel)))) tg0)))))
 (sOne (sIf (cCh oLe hLe oLe hLe (mw (dN (pV vt 6))) (mw (dN (pV vt 2))) (mw (dN (pV vt 7))))
 (sOne (sAugI hAdd (i := 3) (ps_augS (pV vt 3) (mw (dN (pV vt 4))) getL (dF (pV vt 5)) iAdd setL)))
 sNil))))
 (sOne (sRetO (pV vt 3)))))
noncomputable def g_highest : VS :=
 (gSeq (gAs (vC (.int 0)) (gN 1))
 (gSeq (gAs (vC (.int 0)) (gN 2))
 (gSeq (gFor (vItems (v1 sortD (vN 0))) (gT 2 (gC (gN 3) (gC (gN 4) g0)))
 (gSeq (gAug addD 1 (vF 4))
 (gAs (vCB max2D (aC (vN 2) (aC (vN 1) a0))) (gN 2))))
 (gRetO 2))))
noncomputable def m_highest : FnM:=fnM 1 5 g_highest
theorem sc_highest : FnScope ["changes","count","most","moment","change"] ["changes"] (defScope (top 4)):=⟨rfl,rfl,rfl,by decide +kernel,rfl,by decide +kernel,by decide +kernel⟩
theorem ok_highest {P : Program} {w : World} {K : PySem.W.Frag} {mg : Str → Option Value} {base : Heap} {f : Addr} {fd : FuncData} (F : Fun K "highest" "highest" (top 4) f fd) (B : Bl mg) (KT : Kits K)  : FnOk P w K mg base CX0 1 f fd ["changes"] (spV K m_highest) := by
  have nd := sc_highest.nd
  have vt := (show (["changes", "count", "most", "moment", "change"] : List Str).all (fun x => visB (defScope (top 4)) x && plain x) = true by decide +kernel)
  refine fnV (k := 0) (n := 1) (nN := 5) (g := g_highest) F sc_highest rfl rfl fun cdv A outer s H E hr => ?_
  exact (sSeq (sAs (ps_asg dInt (tgN (pg_name (i := 1) nd rfl (lo (sc := (defScope (top 4))) (by decide +kernel))))))
 (sSeq (sAs (ps_asg dInt (tgN (pg_name (i := 2) nd rfl (lo (sc := (defScope (top 4))) (by decide +kernel))))))
 (sSeq (sFor (ps_for PassesOwn.never rfl (itL (ns (dSortP (pe_callB call_sortP (gl (sc := (defScope (top 4))) (by decide +kernel)) B.sorted PyProof.Rows.boot_sorted (pa_cons (dN (pV vt 0)) pa_nil))))) (tgT (n := 2) rfl (tgC (tgN (pg_name (i := 3) nd rfl (lo (sc := (defScope (top 4))) (by decide +kernel)))) (tgC (tgN (pg_name (i := 4) nd rfl (lo (sc := (defScope (top 4))) (by decide +kernel)))) tg0)))
 (sSeq (sAug hAdd (psAug (i := 1) nd rfl (lo (sc := (defScope (top 4))) (by decide +kernel)) (dF (pV vt 4)) iAdd))
 (sOne (sAs (ps_asg (dCB (pe_callB (call_max2 rfl) (gl (sc := (defScope (top 4))) (by decide +kernel)) B.max PyProof.Rows.boot_max (pwC (mw (dN (pV vt 2))) (pwC (mw (dN (pV vt 1))) pw0))) hMax2) (tgN (pg_name (i := 2) nd rfl (lo (sc := (defScope (top 4))) (by decide +kernel))))))))))
 (sOne (sRetO (pV vt 2))))))
noncomputable def g_most_at_once : VS :=
 (gBuck 0 2 [3, 4, 5, 6] (vCall Pg.m_spans_of (aC (vF 0) (aC (vF 1) a0)))
 (gRetN (vLC (vItems (vF 2)) [none] (gN 0) cTrue (vCall m_highest (aC (vF 0) a0)))))
noncomputable def m_most_at_once : FnM:=fnM 2 7 g_most_at_once
theorem sc_most_at_once : FnScope ["passages","plan","changes","passage","number","first","last"] ["passages","plan"] (defScope (top 2)):=⟨rfl,rfl,rfl,by decide +kernel,rfl,by decide +kernel,by decide +kernel⟩
theorem ok_most_at_once {P : Program} {w : World} {K : PySem.W.Frag} {mg : Str → Option Value} {base : Heap} {f : Addr} {fd : FuncData} (F : Fun K "most_at_once" "most_at_once" (top 2) f fd) (B : Bl mg) (KT : Kits K) (Cspans_of : Cal P w K mg base 1 "spans_of" ["passages", "plan"] (spV K Pg.m_spans_of)) (Chighest : Cal P w K mg base 1 "highest" ["changes"] (spV K m_highest)) : FnOk P w K mg base CX0 2 f fd ["passages", "plan"] (spV K m_most_at_once) := by
  have nd := sc_most_at_once.nd
  have vt := (show (["passages", "plan", "changes", "passage", "number", "first", "last"] : List Str).all (fun x => visB (defScope (top 2)) x && plain x) = true by decide +kernel)
  refine fnV (k := 1) (n := 2) (nN := 7) (g := g_most_at_once) F sc_most_at_once rfl rfl fun cdv A outer s H E hr => ?_
  exact (sBuck (ps_setLC (i := 2) nd rfl (lo (sc := (defScope (top 2))) (by decide +kernel)) (N' := ["passage"]) (cap := [none]) ["passages", "plan", "changes", "passage", "number", "first", "last"] (defScope (top 2)) rfl (by decide +kernel) rfl rfl (pi_list (pV vt 0)) (fun _ _ _ _ _ => (pgC (i := 0) (show (["passage"] : List Str).Nodup by decide +kernel) (by decide +kernel))) (fun _ _ _ _ _ => pif_nil) (fun _ _ _ _ _ => (pe_lst pa_nil)))
 (ps_for PassesOwn.never rfl (pi_list (dCal (peCal Cspans_of (hr.mono (by decide)) (gl (sc := (defScope (top 2))) (by decide +kernel)) (paC (dF (pV vt 0)) (paC (dF (pV vt 1)) pa0))))) (pgTup (n := 4) rfl (pgsCons (pg_name (i := 3) nd rfl (lo (sc := (defScope (top 2))) (by decide +kernel))) (pgsCons (pg_name (i := 4) nd rfl (lo (sc := (defScope (top 2))) (by decide +kernel))) (pgsCons (pg_name (i := 5) nd rfl (lo (sc := (defScope (top 2))) (by decide +kernel))) (pgsCons (pg_name (i := 6) nd rfl (lo (sc := (defScope (top 2))) (by decide +kernel))) pgsNil))))) (pss_cons (ps_expr (peApp (peIx ixL (pV vt 2) (pV vt 3)) (pa_cons (pe_tup (pa_cons (pV vt 5) (pa_cons (pV vt 4) pa_nil))) pa_nil))) (pss_one (ps_expr (peApp (peIx ixL (pV vt 2) (pV vt 3)) (pa_cons (pe_tup (pa_cons (pe_op oAdd (pV vt 6) pe_int) (pa_cons (pe_un un_neg (pV vt 4)) pa_nil))) pa_nil))))))
 (sOne (sRetN (dLC (pe_lc (te := tV K RS _) (tc := tVT K _) (g := tVG K _ _) (N' := ["changes_here"]) (cap := [none]) ["passages", "plan", "changes", "passage", "number", "first", "last"] (defScope (top 2)) rfl (by decide +kernel) rfl rfl (itL (dF (pV vt 2))) (fun _ _ _ _ _ => (tgN (pgC (i := 0) (show (["changes_here"] : List Str).Nodup by decide +kernel) (by decide +kernel)))) (fun _ _ _ _ _ => ifN) (fun _ _ _ _ _ => (dCal (peCal Chighest (hr.mono (by decide)) (glC (by decide +kernel)) (paC (dF (pVc (by decide +kernel) 0)) pa0))))))))
 (by decide))
noncomputable def g__law_cell_at : VS :=
 (gSeq (gIf (vB (v2 ltD (vN 1) (vCB lenD (aC (vN 0) a0))))
 (gRet (v2 ixDt (vN 0) (vN 1)))
 gNop)
 (gRet (vC (.int 0))))
noncomputable def m__law_cell_at : FnM:=fnM 2 2 g__law_cell_at
theorem sc__law_cell_at : FnScope ["_law_script","_law_k"] ["_law_script","_law_k"] (defScope (top 6)):=⟨rfl,rfl,rfl,by decide +kernel,rfl,by decide +kernel,by decide +kernel⟩
theorem ok__law_cell_at {P : Program} {w : World} {K : PySem.W.Frag} {mg : Str → Option Value} {base : Heap} {f : Addr} {fd : FuncData} (F : Fun K "_law_cell_at" "_law_cell_at" (top 6) f fd) (B : Bl mg) (KT : Kits K)  : FnOk P w K mg base CX0 1 f fd ["_law_script", "_law_k"] (spV K m__law_cell_at) := by
  have nd := sc__law_cell_at.nd
  have vt := (show (["_law_script", "_law_k"] : List Str).all (fun x => visB (defScope (top 6)) x && plain x) = true by decide +kernel)
  refine fnV (k := 0) (n := 2) (nN := 2) (g := g__law_cell_at) F sc__law_cell_at rfl rfl fun cdv A outer s H E hr => ?_
  exact (sSeq (sIf (cCmp oLt hLt (mw (dN (pV vt 1))) (sw (dCB (pe_callB cLen (gl (sc := (defScope (top 6))) (by decide +kernel)) B.len PySem.boot_len (pwC (mw (dN (pV vt 0))) pw0)) hLen)))
 (sOne (sRet (dIx (dN (pV vt 0)) (mw (dN (pV vt 1))))))
 sNil)
 (sOne (sRet dInt)))
noncomputable def g__law_mixed : VS :=
 (gSeq (gIf (vB (v2 eqD (v2 modD (vN 0) (vC (.int 2))) (vC (.int 0))))
 (gSeq (gAs (v2 divD (vCB absD (aC (vN 0) a0)) (vC (.int 2))) (gN 2))
 (gSeq (gFor (vRng1 (aC (vN 1) a0)) (gN 3)
 (gAs (v2 divD (vN 2) (v2 powD (vC (.int 10)) (vC (.int 12)))) (gN 2)))
 (gRetO 2)))
 gNop)
 (gSeq (gAs (v2 modD (v2 addD (vN 0) (v2 mulD (vC (.int 7919)) (vN 1))) (vC (.int 2147483629))) (gN 2))
 (gSeq (gAs (v2 modD (v2 addD (v2 addD (v2 mulD (vN 2) (vN 2)) (v2 mulD (vC (.int 16807)) (vN 2))) (vN 1)) (vC (.int 2147483629))) (gN 2))
 (gRet (v2 modD (v2 mulD (vN 2) (vN 2)) (vC (.int 2147483587)))))))
noncomputable def m__law_mixed : FnM:=fnM 2 4 g__law_mixed
theorem sc__law_mixed : FnScope ["_law_cell","_law_k","_law_number","_law_time"] ["_law_cell","_law_k"] (defScope (top 7)):=⟨rfl,rfl,rfl,by decide +kernel,rfl,by decide +kernel,by decide +kernel⟩
theorem ok__law_mixed {P : Program} {w : World} {K : PySem.W.Frag} {mg : Str → Option Value} {base : Heap} {f : Addr} {fd : FuncData} (F : Fun K "_law_mixed" "_law_mixed" (top 7) f fd) (B : Bl mg) (KT : Kits K)  : FnOk P w K mg base CX0 1 f fd ["_law_cell", "_law_k"] (spV K m__law_mixed) := by
  have nd := sc__law_mixed.nd
  have vt := (show (["_law_cell", "_law_k", "_law_number", "_law_time"] : List Str).all (fun x => visB (defScope (top 7)) x && plain x) = true by decide +kernel)
  refine fnV (k := 0) (n := 2) (nN := 4) (g := g__law_mixed) F sc__law_mixed rfl rfl fun cdv A outer s H E hr => ?_
  exact (sSeq (sIf (cCmp (op_eqD hr.units) hEq (sw (dOp oMod hMod (mw (dN (pV vt 0))) (sw dInt))) (sw dInt))
 (sSeq (sAs (ps_asg (dOp oDiv hDiv (sw (dCB (pe_callB cAbs (gl (sc := (defScope (top 7))) (by decide +kernel)) B.abs PyProof.Rows.boot_abs (pwC (mw (dN (pV vt 0))) pw0)) hAbs)) (sw dInt)) (tgN (pg_name (i := 2) nd rfl (lo (sc := (defScope (top 7))) (by decide +kernel))))))
 (sSeq (sFor (ps_for PassesOwn.never rfl (itR1 (pi_range1 (gl (sc := (defScope (top 7))) (by decide +kernel)) B.range (pwC (mw (dN (pV vt 1))) pw0))) (tgN (pg_name (i := 3) nd rfl (lo (sc := (defScope (top 7))) (by decide +kernel))))
 (sOne (sAs (ps_asg (dOp oDiv hDiv (mw (dN (pV vt 2))) (sw (dOp oPow hPow (sw dInt) (sw dInt)))) (tgN (pg_name (i := 2) nd rfl (lo (sc := (defScope (top 7))) (by decide +kernel)))))))))
 (sOne (sRetO (pV vt 2)))))
 sNil)
 (sSeq (sAs (ps_asg (dOp oMod hMod (sw (dOp oAdd hAdd (mw (dN (pV vt 0))) (sw (dOp oMul hMul (sw dInt) (mw (dN (pV vt 1))))))) (sw dInt)) (tgN (pg_name (i := 2) nd rfl (lo (sc := (defScope (top 7))) (by decide +kernel))))))
 (sSeq (sAs (ps_asg (dOp oMod hMod (sw (dOp oAdd hAdd (sw (dOp oAdd hAdd (sw (dOp oMul hMul (mw (dN (pV vt 2))) (mw (dN (pV vt 2))))) (sw (dOp oMul hMul (sw dInt) (mw (dN (pV vt 2))))))) (mw (dN (pV vt 1))))) (sw dInt)) (tgN (pg_name (i := 2) nd rfl (lo (sc := (defScope (top 7))) (by decide +kernel))))))
 (sOne (sRet (dOp oMod hMod (sw (dOp oMul hMul (mw (dN (pV vt 2))) (mw (dN (pV vt 2))))) (sw dInt)))))))
noncomputable def g__law_whole : VS :=
 (gRet (vAnd (vIsi "int" (vN 0)) (vNot (vIsi "bool" (vN 0)))))
noncomputable def m__law_whole : FnM:=fnM 1 1 g__law_whole
theorem sc__law_whole : FnScope ["_law_found"] ["_law_found"] (defScope (top 8)):=⟨rfl,rfl,rfl,by decide +kernel,rfl,by decide +kernel,by decide +kernel⟩
theorem ok__law_whole {P : Program} {w : World} {K : PySem.W.Frag} {mg : Str→Option Value} {base : Heap} {f : Addr} {fd : FuncData} (F : Fun K "_law_whole" "_law_whole" (top 8) f fd) (B : Bl mg) (KT : Kits K)  : FnOk P w K mg base CX0 1 f fd ["_law_found"] (spV K m__law_whole):=by
 have nd:=sc__law_whole.nd
 have vt:=(show (["_law_found"] : List Str).all (fun x=>visB (defScope (top 8)) x && plain x) = true by decide +kernel)
 refine fnV (k:=0) (n:=1) (nN:=1) (g:=g__law_whole) F sc__law_whole rfl rfl fun cdv A outer s H E hr=>?_
 exact (sOne (sRet (dAnd (dIsi KT.int (pe_callB cIsi (gl (sc:=(defScope (top 8))) (by decide +kernel)) B.isinstance PyProof.Rows.boot_isinstance (pa_cons (mw (dN (pV vt 0))) (pa_cons (pe_bltn (v:=.ty "int") (gl (sc:=(defScope (top 8))) (by decide +kernel)) B.int PyProof.Rows.boot_int rfl) pa_nil)))) (dOne (dNot (dIsi KT.bool (pe_callB cIsi (gl (sc:=(defScope (top 8))) (by decide +kernel)) B.isinstance PyProof.Rows.boot_isinstance (pa_cons (mw (dN (pV vt 0))) (pa_cons (pe_bltn (v:=.ty "bool") (gl (sc:=(defScope (top 8))) (by decide +kernel)) B.bool PyProof.Rows.boot_bool rfl) pa_nil)))))))))
noncomputable def g__law_great : VS :=
 (gSeq (gAs (vCall m__law_mixed (aC (vF 0) (aC (vF 1) a0))) (gN 2))
 (gSeq (gIf (vB (v2 eqD (v2 modD (vN 2) (vC (.int 3))) (vC (.int 0))))
 (gRet (v2 addD (vC (.int 1)) (v2 modD (vN 0) (v2 subD (v2 powD (vC (.int 10)) (vC (.int 60))) (vC (.int 1))))))
 gNop)
 (gSeq (gIf (vB (v2 eqD (v2 modD (vN 2) (vC (.int 3))) (vC (.int 1))))
 (gRet (v2 addD (vC (.int 1)) (v2 modD (v2 divD (vN 2) (vC (.int 3))) (vC (.int 1000)))))
 gNop)
 (gRet (v2 addD (vC (.int 1)) (v2 modD (v2 divD (vN 2) (vC (.int 3))) (vC (.int 4))))))))
noncomputable def m__law_great : FnM:=fnM 2 3 g__law_great
theorem sc__law_great : FnScope ["_law_cell","_law_k","_law_number"] ["_law_cell","_law_k"] (defScope (top 9)):=⟨rfl,rfl,rfl,by decide +kernel,rfl,by decide +kernel,by decide +kernel⟩
theorem ok__law_great {P : Program} {w : World} {K : PySem.W.Frag} {mg : Str → Option Value} {base : Heap} {f : Addr} {fd : FuncData} (F : Fun K "_law_great" "_law_great" (top 9) f fd) (B : Bl mg) (KT : Kits K) (C_law_mixed : Cal P w K mg base 1 "_law_mixed" ["_law_cell", "_law_k"] (spV K m__law_mixed)) : FnOk P w K mg base CX0 2 f fd ["_law_cell", "_law_k"] (spV K m__law_great) := by
  have nd := sc__law_great.nd
  have vt := (show (["_law_cell", "_law_k", "_law_number"] : List Str).all (fun x => visB (defScope (top 9)) x && plain x) = true by decide +kernel)
  refine fnV (k := 1) (n := 2) (nN := 3) (g := g__law_great) F sc__law_great rfl rfl fun cdv A outer s H E hr => ?_
  exact (sSeq (sAs (ps_asg (dCal (peCal C_law_mixed (hr.mono (by decide)) (gl (sc := (defScope (top 9))) (by decide +kernel)) (paC (dF (pV vt 0)) (paC (dF (pV vt 1)) pa0)))) (tgN (pg_name (i := 2) nd rfl (lo (sc := (defScope (top 9))) (by decide +kernel))))))
 (sSeq (sIf (cCmp (op_eqD hr.units) hEq (sw (dOp oMod hMod (mw (dN (pV vt 2))) (sw dInt))) (sw dInt))
 (sOne (sRet (dOp oAdd hAdd (sw dInt) (sw (dOp oMod hMod (mw (dN (pV vt 0))) (sw (dOp oSub hSub (sw (dOp oPow hPow (sw dInt) (sw dInt))) (sw dInt))))))))
 sNil)
 (sSeq (sIf (cCmp (op_eqD hr.units) hEq (sw (dOp oMod hMod (mw (dN (pV vt 2))) (sw dInt))) (sw dInt))
 (sOne (sRet (dOp oAdd hAdd (sw dInt) (sw (dOp oMod hMod (sw (dOp oDiv hDiv (mw (dN (pV vt 2))) (sw dInt))) (sw dInt))))))
 sNil)
 (sOne (sRet (dOp oAdd hAdd (sw dInt) (sw (dOp oMod hMod (sw (dOp oDiv hDiv (mw (dN (pV vt 2))) (sw dInt))) (sw dInt)))))))))
noncomputable def g__law_far : VS :=
 (gSeq (gIf (vB (v2 ltD (vN 1) (vCB lenD (aC (vN 0) a0))))
 (gRet (vCall m__law_mixed (aC (v2 ixDt (vN 0) (vN 1)) (aC (vF 2) a0))))
 gNop)
 (gRet (vCall m__law_mixed (aC (vCall m__law_cell_at (aC (vF 0) (aC (vC (.int 0)) a0))) (aC (v2 addD (v2 addD (vC (.int 20)) (vN 1)) (v2 mulD (vC (.int 7)) (vN 2))) a0)))))
noncomputable def m__law_far : FnM:=fnM 3 3 g__law_far
theorem sc__law_far : FnScope ["_law_script","_law_at","_law_k"] ["_law_script","_law_at","_law_k"] (defScope (top 10)):=⟨rfl,rfl,rfl,by decide +kernel,rfl,by decide +kernel,by decide +kernel⟩
theorem ok__law_far {P : Program} {w : World} {K : PySem.W.Frag} {mg : Str → Option Value} {base : Heap} {f : Addr} {fd : FuncData} (F : Fun K "_law_far" "_law_far" (top 10) f fd) (B : Bl mg) (KT : Kits K) (C_law_mixed : Cal P w K mg base 1 "_law_mixed" ["_law_cell", "_law_k"] (spV K m__law_mixed)) (C_law_cell_at : Cal P w K mg base 1 "_law_cell_at" ["_law_script", "_law_k"] (spV K m__law_cell_at)) : FnOk P w K mg base CX0 2 f fd ["_law_script", "_law_at", "_law_k"] (spV K m__law_far) := by
  have nd := sc__law_far.nd
  have vt := (show (["_law_script", "_law_at", "_law_k"] : List Str).all (fun x => visB (defScope (top 10)) x && plain x) = true by decide +kernel)
  refine fnV (k := 1) (n := 3) (nN := 3) (g := g__law_far) F sc__law_far rfl rfl fun cdv A outer s H E hr => ?_
  exact (sSeq (sIf (cCmp oLt hLt (mw (dN (pV vt 1))) (sw (dCB (pe_callB cLen (gl (sc := (defScope (top 10))) (by decide +kernel)) B.len PySem.boot_len (pwC (mw (dN (pV vt 0))) pw0)) hLen)))
 (sOne (sRet (dCal (peCal C_law_mixed (hr.mono (by decide)) (gl (sc := (defScope (top 10))) (by decide +kernel)) (paC (dIx (dN (pV vt 0)) (mw (dN (pV vt 1)))) (paC (dF (pV vt 2)) pa0))))))
 sNil)
 (sOne (sRet (dCal (peCal C_law_mixed (hr.mono (by decide)) (gl (sc := (defScope (top 10))) (by decide +kernel)) (paC (dCal (peCal C_law_cell_at (hr.mono (by decide)) (gl (sc := (defScope (top 10))) (by decide +kernel)) (paC (dF (pV vt 0)) (paC dInt pa0)))) (paC (dOp oAdd hAdd (sw (dOp oAdd hAdd (sw dInt) (mw (dN (pV vt 1))))) (sw (dOp oMul hMul (sw dInt) (mw (dN (pV vt 2)))))) pa0)))))))
noncomputable def g__law_joined : VS :=
 (gSeq (gAs (vCall m__law_mixed (aC (vCall m__law_cell_at (aC (vF 0) (aC (vC (.int 0)) a0))) (aC (vC (.int 0)) a0))) (gN 1))
 (gSeq (gAs (v2 addD (vC (.int 2)) (v2 modD (vN 1) (vC (.int 5)))) (gN 2))
 (gSeq (gOw 3 (vLst a0))
 (gSeq (gFor (vRng1 (aC (v2 addD (vC (.int 2)) (v2 modD (v2 divD (vN 1) (vC (.int 5))) (vC (.int 9)))) a0)) (gN 4)
 (gSeq (gAs (vCall m__law_cell_at (aC (vF 0) (aC (v2 addD (vC (.int 2)) (vN 4)) a0))) (gN 5))
 (gSeq (gAs (vCall m__law_far (aC (vF 0) (aC (v2 addD (vC (.int 2)) (vN 4)) (aC (vC (.int 0)) a0)))) (gN 6))
 (gSeq (gAs (v2 modD (vN 6) (vN 2)) (gN 7))
 (gSeq (gAs (v2 modD (v2 addD (v2 addD (vN 7) (vC (.int 1))) (v2 modD (v2 divD (vN 6) (vN 2)) (v2 subD (vN 2) (vC (.int 1))))) (vN 2)) (gN 8))
 (gSeq (gAs (v2 addD (vC (.int 1)) (v2 modD (v2 divD (vN 6) (vC (.int 40))) (vC (.int 5)))) (gN 9))
 (gSeq (gIf (vB (v2 eqD (v2 modD (v2 divD (vN 6) (vC (.int 200))) (vC (.int 4))) (vC (.int 0))))
 (gAs (v2 addD (vC (.int 1)) (v2 modD (vN 5) (v2 powD (vC (.int 10)) (vC (.int 58))))) (gN 9))
 gNop)
 (gApp 3 (aC (vTup (aC (vF 7) (aC (vF 8) (aC (v2 addD (vC (.int 1)) (v2 modD (v2 divD (vN 6) (vC (.int 800))) (vC (.int 9)))) (aC (vF 9) a0))))) a0)))))))))
 (gRetO 3)))))
noncomputable def m__law_joined : FnM:=fnM 1 10 g__law_joined
theorem sc__law_joined : FnScope ["_law_script","_law_number","_law_many","_law_found","_law_k","_law_cell","_law_one","_law_a","_law_b","_law_length"] ["_law_script"] (defScope (top 11)):=⟨rfl,rfl,rfl,by decide +kernel,rfl,by decide +kernel,by decide +kernel⟩
theorem ok__law_joined {P : Program} {w : World} {K : PySem.W.Frag} {mg : Str → Option Value} {base : Heap} {f : Addr} {fd : FuncData} (F : Fun K "_law_joined" "_law_joined" (top 11) f fd) (B : Bl mg) (KT : Kits K) (C_law_mixed : Cal P w K mg base 1 "_law_mixed" ["_law_cell", "_law_k"] (spV K m__law_mixed)) (C_law_cell_at : Cal P w K mg base 1 "_law_cell_at" ["_law_script", "_law_k"] (spV K m__law_cell_at)) (C_law_far : Cal P w K mg base 2 "_law_far" ["_law_script", "_law_at", "_law_k"] (spV K m__law_far)) : FnOk P w K mg base CX0 3 f fd ["_law_script"] (spV K m__law_joined) := by
  have nd := sc__law_joined.nd
  have vt := (show (["_law_script", "_law_number", "_law_many", "_law_found", "_law_k", "_law_cell", "_law_one", "_law_a", "_law_b", "_law_length"] : List Str).all (fun x => visB (defScope (top 11)) x && plain x) = true by decide +kernel)
  refine fnV (k := 2) (n := 1) (nN := 10) (g := g__law_joined) F sc__law_joined rfl rfl fun cdv A outer s H E hr => ?_
  exact (sSeq (sAs (ps_asg (dCal (peCal C_law_mixed (hr.mono (by decide)) (gl (sc := (defScope (top 11))) (by decide +kernel)) (paC (dCal (peCal C_law_cell_at (hr.mono (by decide)) (gl (sc := (defScope (top 11))) (by decide +kernel)) (paC (dF (pV vt 0)) (paC dInt pa0)))) (paC dInt pa0)))) (tgN (pg_name (i := 1) nd rfl (lo (sc := (defScope (top 11))) (by decide +kernel))))))
 (sSeq (sAs (ps_asg (dOp oAdd hAdd (sw dInt) (sw (dOp oMod hMod (mw (dN (pV vt 1))) (sw dInt)))) (tgN (pg_name (i := 2) nd rfl (lo (sc := (defScope (top 11))) (by decide +kernel))))))
 (sSeq (sOw (i := 3) (ps_set nd rfl (lo (sc := (defScope (top 11))) (by decide +kernel)) (dLst pa0)))
 (sSeq (sFor (ps_for PassesOwn.never rfl (itR1 (pi_range1 (gl (sc := (defScope (top 11))) (by decide +kernel)) B.range (pwC (sw (dOp oAdd hAdd (sw dInt) (sw (dOp oMod hMod (sw (dOp oDiv hDiv (mw (dN (pV vt 1))) (sw dInt))) (sw dInt))))) pw0))) (tgN (pg_name (i := 4) nd rfl (lo (sc := (defScope (top 11))) (by decide +kernel))))
 (sSeq (sAs (ps_asg (dCal (peCal C_law_cell_at (hr.mono (by decide)) (gl (sc := (defScope (top 11))) (by decide +kernel)) (paC (dF (pV vt 0)) (paC (dOp oAdd hAdd (sw dInt) (mw (dN (pV vt 4)))) pa0)))) (tgN (pg_name (i := 5) nd rfl (lo (sc := (defScope (top 11))) (by decide +kernel))))))
 (sSeq (sAs (ps_asg (dCal (peCal C_law_far (hr.mono (by decide)) (gl (sc := (defScope (top 11))) (by decide +kernel)) (paC (dF (pV vt 0)) (paC (dOp oAdd hAdd (sw dInt) (mw (dN (pV vt 4)))) (paC dInt pa0))))) (tgN (pg_name (i := 6) nd rfl (lo (sc := (defScope (top 11))) (by decide +kernel))))))
 (sSeq (sAs (ps_asg (dOp oMod hMod (mw (dN (pV vt 6))) (mw (dN (pV vt 2)))) (tgN (pg_name (i := 7) nd rfl (lo (sc := (defScope (top 11))) (by decide +kernel))))))
 (sSeq (sAs (ps_asg (dOp oMod hMod (sw (dOp oAdd hAdd (sw (dOp oAdd hAdd (mw (dN (pV vt 7))) (sw dInt))) (sw (dOp oMod hMod (sw (dOp oDiv hDiv (mw (dN (pV vt 6))) (mw (dN (pV vt 2))))) (sw (dOp oSub hSub (mw (dN (pV vt 2))) (sw dInt))))))) (mw (dN (pV vt 2)))) (tgN (pg_name (i := 8) nd rfl (lo (sc := (defScope (top 11))) (by decide +kernel))))))
 (sSeq (sAs (ps_asg (dOp oAdd hAdd (sw dInt) (sw (dOp oMod hMod (sw (dOp oDiv hDiv (mw (dN (pV vt 6))) (sw dInt))) (sw dInt)))) (tgN (pg_name (i := 9) nd rfl (lo (sc := (defScope (top 11))) (by decide +kernel))))))
 (sSeq (sIf (cCmp (op_eqD hr.units) hEq (sw (dOp oMod hMod (sw (dOp oDiv hDiv (mw (dN (pV vt 6))) (sw dInt))) (sw dInt))) (sw dInt))
 (sOne (sAs (ps_asg (dOp oAdd hAdd (sw dInt) (sw (dOp oMod hMod (mw (dN (pV vt 5))) (sw (dOp oPow hPow (sw dInt) (sw dInt)))))) (tgN (pg_name (i := 9) nd rfl (lo (sc := (defScope (top 11))) (by decide +kernel)))))))
 sNil)
 (sOne (sApp (i := 3) (ps_expr (peApp (pV vt 3) (paC (dTup (paC (dF (pV vt 7)) (paC (dF (pV vt 8)) (paC (dOp oAdd hAdd (sw dInt) (sw (dOp oMod hMod (sw (dOp oDiv hDiv (mw (dN (pV vt 6))) (sw dInt))) (sw dInt)))) (paC (dF (pV vt 9)) pa0))))) pa0)))))))))))))
 (sOne (sRetO (pV vt 3)))))))
noncomputable def g__law_walk : VS :=
 (gSeq (gAs (vCall m__law_mixed (aC (vF 0) (aC (vC (.int 0)) a0))) (gN 2))
 (gSeq (gOw 3 (vLst (aC (v2 modD (vN 2) (vCB lenD (aC (vN 1) a0))) a0)))
 (gSeq (gFor (vRng1 (aC (v2 modD (v2 divD (vN 2) (vC (.int 16))) (vC (.int 5))) a0)) (gN 4)
 (gSeq (gAs (v2 ixDt (v2 ixDt (vN 1) (v2 ixDt (vN 3) (v1 negD (vC (.int 1))))) (vC (.int 1))) (gN 5))
 (gSeq (gOwF 6 (vLCW (vRng1 (aC (vCB lenD (aC (vN 1) a0)) a0)) [none, some 5, some 3, some 1] (gN 0) (tAnd2 (vB (v2 eqD (v2 ixDt (v2 ixDt (vN 3) (vN 0)) (vC (.int 0))) (vN 1))) (vB (v2 notInD (vN 0) (vN 2)))) (vF 0)))
 (gIf (vB (v2 neD (vN 6) (vLst a0)))
 (gApp 3 (aC (v2 ixDt (vN 6) (v2 modD (v2 divD (vN 2) (v2 addD (vC (.int 7)) (vN 4))) (vCB lenD (aC (vN 6) a0)))) a0))
 gNop))))
 (gSeq (gWh (vB (v2 eqD (v2 ixDt (v2 ixDt (vN 1) (v2 ixDt (vN 3) (v1 negD (vC (.int 1))))) (vC (.int 1))) (v2 ixDt (v2 ixDt (vN 1) (v2 ixDt (vN 3) (vC (.int 0)))) (vC (.int 0)))))
 (gPop 3))
 (gRetO 3)))))
noncomputable def m__law_walk : FnM:=fnM 2 7 g__law_walk
theorem sc__law_walk : FnScope ["_law_cell","_law_passages","_law_number","_law_walk_here","_law_k","_law_room","_law_more"] ["_law_cell","_law_passages"] (defScope (top 12)):=⟨rfl,rfl,rfl,by decide +kernel,rfl,by decide +kernel,by decide +kernel⟩
theorem ok__law_walk {P : Program} {w : World} {K : PySem.W.Frag} {mg : Str → Option Value} {base : Heap} {f : Addr} {fd : FuncData} (F : Fun K "_law_walk" "_law_walk" (top 12) f fd) (B : Bl mg) (KT : Kits K) (C_law_mixed : Cal P w K mg base 1 "_law_mixed" ["_law_cell", "_law_k"] (spV K m__law_mixed)) : FnOk P w K mg base CX0 2 f fd ["_law_cell", "_law_passages"] (spV K m__law_walk) := by
  have nd := sc__law_walk.nd
  have vt := (show (["_law_cell", "_law_passages", "_law_number", "_law_walk_here", "_law_k", "_law_room", "_law_more"] : List Str).all (fun x => visB (defScope (top 12)) x && plain x) = true by decide +kernel)
  refine fnV (k := 1) (n := 2) (nN := 7) (g := g__law_walk) F sc__law_walk rfl rfl fun cdv A outer s H E hr => ?_
  exact (sSeq (sAs (ps_asg (dCal (peCal C_law_mixed (hr.mono (by decide)) (gl (sc := (defScope (top 12))) (by decide +kernel)) (paC (dF (pV vt 0)) (paC dInt pa0)))) (tgN (pg_name (i := 2) nd rfl (lo (sc := (defScope (top 12))) (by decide +kernel))))))
 (sSeq (sOw (i := 3) (ps_set nd rfl (lo (sc := (defScope (top 12))) (by decide +kernel)) (dLst (paC (dOp oMod hMod (mw (dN (pV vt 2))) (sw (dCB (pe_callB cLen (gl (sc := (defScope (top 12))) (by decide +kernel)) B.len PySem.boot_len (pwC (mw (dN (pV vt 1))) pw0)) hLen))) pa0))))
 (sSeq (sFor (ps_for PassesOwn.never rfl (itR1 (pi_range1 (gl (sc := (defScope (top 12))) (by decide +kernel)) B.range (pwC (sw (dOp oMod hMod (sw (dOp oDiv hDiv (mw (dN (pV vt 2))) (sw dInt))) (sw dInt))) pw0))) (tgN (pg_name (i := 4) nd rfl (lo (sc := (defScope (top 12))) (by decide +kernel))))
 (sSeq (sAs (ps_asg (dIx (sm (dIx (dN (pV vt 1)) (sw (dIx (dN (pV vt 3)) (sw (dNeg (sw dInt))))))) (sw dInt)) (tgN (pg_name (i := 5) nd rfl (lo (sc := (defScope (top 12))) (by decide +kernel))))))
 (sSeq (sOwF (tAsg_imp (ps_setLC (i := 6) nd rfl (lo (sc := (defScope (top 12))) (by decide +kernel)) (te := tV K RS _) (tc := tVT K _) (g := tVG K _ _) (N' := ["_law_at", "_law_room", "_law_walk_here", "_law_passages"]) (cap := [none, some 5, some 3, some 1]) ["_law_cell", "_law_passages", "_law_number", "_law_walk_here", "_law_k", "_law_room", "_law_more"] (defScope (top 12)) rfl (by decide +kernel) rfl rfl (itR1 (pi_range1 (gl (sc := (defScope (top 12))) (by decide +kernel)) B.range (pwC (sw (dCB (pe_callB cLen (gl (sc := (defScope (top 12))) (by decide +kernel)) B.len PySem.boot_len (pwC (mw (dN (pV vt 1))) pw0)) hLen)) pw0))) (fun _ _ _ _ _ => (tgN (pgC (i := 0) (show (["_law_at", "_law_room", "_law_walk_here", "_law_passages"] : List Str).Nodup by decide +kernel) (by decide +kernel)))) (fun _ _ _ _ _ => (pif_one (PW.pt (wAnd (cCmp (op_eqD hr.units) hEq (sw (dIx (sm (dIx (dN (pVc (by decide +kernel) 3)) (mw (dN (pVc (by decide +kernel) 0))))) (sw dInt))) (mw (dN (pVc (by decide +kernel) 1)))) (wAnd1 (cCmp op_notIn_seq hNotIn (mw (dN (pVc (by decide +kernel) 0))) (mw (dN (pVc (by decide +kernel) 2))))))))) (fun _ _ _ _ _ => (dF (pVc (by decide +kernel) 0)))) fun _ _ _ q => rdLCW rfl q))
 (sOne (sIf (cCmp (op_neD hr.units) hNe (mw (dN (pV vt 6))) (nw (dLst pa0)))
 (sOne (sApp (i := 3) (ps_expr (peApp (pV vt 3) (paC (dIx (dN (pV vt 6)) (sw (dOp oMod hMod (sw (dOp oDiv hDiv (mw (dN (pV vt 2))) (sw (dOp oAdd hAdd (sw dInt) (mw (dN (pV vt 4))))))) (sw (dCB (pe_callB cLen (gl (sc := (defScope (top 12))) (by decide +kernel)) B.len PySem.boot_len (pwC (mw (dN (pV vt 6))) pw0)) hLen))))) pa0)))))
 sNil))))))
 (sSeq (sWh (ps_while PassesOwn.never (cCmp (op_eqD hr.units) hEq (sw (dIx (sm (dIx (dN (pV vt 1)) (sw (dIx (dN (pV vt 3)) (sw (dNeg (sw dInt))))))) (sw dInt))) (sw (dIx (sm (dIx (dN (pV vt 1)) (sw (dIx (dN (pV vt 3)) (sw dInt))))) (sw dInt))))
 (sOne (sPop (i := 3) (ps_expr (pePop (pV vt 3)))))))
 (sOne (sRetO (pV vt 3)))))))
noncomputable def g__law_plan : VS :=
 (gSeq (gOw 2 (vLst a0))
 (gSeq (gFor (vItems (vF 0)) (gN 3)
 (gSeq (gAs (vCall m__law_mixed (aC (vF 3) (aC (vC (.int 1)) a0))) (gN 4))
 (gSeq (gAs (v2 modD (v2 divD (vN 4) (vC (.int 4))) (vC (.int 6))) (gN 5))
 (gSeq (gIf (vB (v2 eqD (v2 modD (vN 4) (vC (.int 4))) (vC (.int 0))))
 (gAs (v2 modD (vN 3) (v2 powD (vC (.int 10)) (vC (.int 58)))) (gN 5))
 gNop)
 (gSeq (gAs (v2 addD (vN 5) (v2 modD (v2 divD (vN 4) (vC (.int 24))) (vC (.int 5)))) (gN 6))
 (gSeq (gIf (vB (v2 eqD (v2 modD (v2 divD (vN 4) (vC (.int 120))) (vC (.int 4))) (vC (.int 0))))
 (gAs (v2 addD (vN 5) (v2 modD (vN 3) (v2 powD (vC (.int 10)) (vC (.int 59))))) (gN 6))
 gNop)
 (gSeq (gApp 2 (aC (vTup (aC (vCall m__law_walk (aC (vF 3) (aC (vF 1) a0))) (aC (vCall m__law_great (aC (vF 3) (aC (vC (.int 2)) a0))) (aC (vF 5) (aC (vF 6) a0))))) a0))
 (gIf (vB (v2 eqD (v2 modD (v2 divD (vN 4) (vC (.int 480))) (vC (.int 5))) (vC (.int 0))))
 (gApp 2 (aC (vTup (aC (vListOf (v2 ixDt (v2 ixDt (vN 2) (v1 negD (vC (.int 1)))) (vC (.int 0)))) (aC (v2 addD (vC (.int 1)) (v2 modD (v2 divD (vN 4) (vC (.int 2400))) (vC (.int 9)))) (aC (v2 addD (vN 6) (vC (.int 1))) (aC (v2 addD (v2 addD (vN 6) (vC (.int 1))) (v2 modD (v2 divD (vN 4) (vC (.int 21600))) (vC (.int 3)))) a0))))) a0))
 gNop))))))))
 (gRetO 2)))
noncomputable def m__law_plan : FnM:=fnM 2 7 g__law_plan
theorem sc__law_plan : FnScope ["_law_cells","_law_passages","_law_plan_here","_law_cell","_law_number","_law_first","_law_last"] ["_law_cells","_law_passages"] (defScope (top 13)):=⟨rfl,rfl,rfl,by decide +kernel,rfl,by decide +kernel,by decide +kernel⟩
theorem ok__law_plan {P : Program} {w : World} {K : PySem.W.Frag} {mg : Str → Option Value} {base : Heap} {f : Addr} {fd : FuncData} (F : Fun K "_law_plan" "_law_plan" (top 13) f fd) (B : Bl mg) (KT : Kits K) (C_law_mixed : Cal P w K mg base 1 "_law_mixed" ["_law_cell", "_law_k"] (spV K m__law_mixed)) (C_law_walk : Cal P w K mg base 2 "_law_walk" ["_law_cell", "_law_passages"] (spV K m__law_walk)) (C_law_great : Cal P w K mg base 2 "_law_great" ["_law_cell", "_law_k"] (spV K m__law_great)) : FnOk P w K mg base CX0 3 f fd ["_law_cells", "_law_passages"] (spV K m__law_plan) := by
  have nd := sc__law_plan.nd
  have vt := (show (["_law_cells", "_law_passages", "_law_plan_here", "_law_cell", "_law_number", "_law_first", "_law_last"] : List Str).all (fun x => visB (defScope (top 13)) x && plain x) = true by decide +kernel)
  refine fnV (k := 2) (n := 2) (nN := 7) (g := g__law_plan) F sc__law_plan rfl rfl fun cdv A outer s H E hr => ?_
  exact (sSeq (sOw (i := 2) (ps_set nd rfl (lo (sc := (defScope (top 13))) (by decide +kernel)) (dLst pa0)))
 (sSeq (sFor (ps_for PassesOwn.never rfl (itL (dF (pV vt 0))) (tgN (pg_name (i := 3) nd rfl (lo (sc := (defScope (top 13))) (by decide +kernel))))
 (sSeq (sAs (ps_asg (dCal (peCal C_law_mixed (hr.mono (by decide)) (gl (sc := (defScope (top 13))) (by decide +kernel)) (paC (dF (pV vt 3)) (paC dInt pa0)))) (tgN (pg_name (i := 4) nd rfl (lo (sc := (defScope (top 13))) (by decide +kernel))))))
 (sSeq (sAs (ps_asg (dOp oMod hMod (sw (dOp oDiv hDiv (mw (dN (pV vt 4))) (sw dInt))) (sw dInt)) (tgN (pg_name (i := 5) nd rfl (lo (sc := (defScope (top 13))) (by decide +kernel))))))
 (sSeq (sIf (cCmp (op_eqD hr.units) hEq (sw (dOp oMod hMod (mw (dN (pV vt 4))) (sw dInt))) (sw dInt))
 (sOne (sAs (ps_asg (dOp oMod hMod (mw (dN (pV vt 3))) (sw (dOp oPow hPow (sw dInt) (sw dInt)))) (tgN (pg_name (i := 5) nd rfl (lo (sc := (defScope (top 13))) (by decide +kernel)))))))
 sNil)
 (sSeq (sAs (ps_asg (dOp oAdd hAdd (mw (dN (pV vt 5))) (sw (dOp oMod hMod (sw (dOp oDiv hDiv (mw (dN (pV vt 4))) (sw dInt))) (sw dInt)))) (tgN (pg_name (i := 6) nd rfl (lo (sc := (defScope (top 13))) (by decide +kernel))))))
 (sSeq (sIf (cCmp (op_eqD hr.units) hEq (sw (dOp oMod hMod (sw (dOp oDiv hDiv (mw (dN (pV vt 4))) (sw dInt))) (sw dInt))) (sw dInt))
 (sOne (sAs (ps_asg (dOp oAdd hAdd (mw (dN (pV vt 5))) (sw (dOp oMod hMod (mw (dN (pV vt 3))) (sw (dOp oPow hPow (sw dInt) (sw dInt)))))) (tgN (pg_name (i := 6) nd rfl (lo (sc := (defScope (top 13))) (by decide +kernel)))))))
 sNil)
 (sSeq (sApp (i := 2) (ps_expr (peApp (pV vt 2) (paC (dTup (paC (dCal (peCal C_law_walk (hr.mono (by decide)) (gl (sc := (defScope (top 13))) (by decide +kernel)) (paC (dF (pV vt 3)) (paC (dF (pV vt 1)) pa0)))) (paC (dCal (peCal C_law_great (hr.mono (by decide)) (gl (sc := (defScope (top 13))) (by decide +kernel)) (paC (dF (pV vt 3)) (paC dInt pa0)))) (paC (dF (pV vt 5)) (paC (dF (pV vt 6)) pa0))))) pa0))))
 (sOne (sIf (cCmp (op_eqD hr.units) hEq (sw (dOp oMod hMod (sw (dOp oDiv hDiv (mw (dN (pV vt 4))) (sw dInt))) (sw dInt))) (sw dInt))
 (sOne (sApp (i := 2) (ps_expr (peApp (pV vt 2) (paC (dTup (paC (ns (dListOf (pe_callTy cList (gl (sc := (defScope (top 13))) (by decide +kernel)) B.list PyProof.Rows.boot_list (pa_cons (sm (dIx (sm (dIx (dN (pV vt 2)) (sw (dNeg (sw dInt))))) (sw dInt))) pa_nil)))) (paC (dOp oAdd hAdd (sw dInt) (sw (dOp oMod hMod (sw (dOp oDiv hDiv (mw (dN (pV vt 4))) (sw dInt))) (sw dInt)))) (paC (dOp oAdd hAdd (mw (dN (pV vt 6))) (sw dInt)) (paC (dOp oAdd hAdd (sw (dOp oAdd hAdd (mw (dN (pV vt 6))) (sw dInt))) (sw (dOp oMod hMod (sw (dOp oDiv hDiv (mw (dN (pV vt 4))) (sw dInt))) (sw dInt)))) pa0))))) pa0)))))
 sNil))))))))))
 (sOne (sRetO (pV vt 2)))))
noncomputable def g__law_legs : VS :=
 (gSeq (gOw 2 (vLst a0))
 (gSeq (gFor (vItems (vF 1)) (gT 4 (gC (gN 3) (gC (gN 4) (gC (gN 5) (gC (gN 6) g0)))))
 (gFor (vRng1 (aC (vCB lenD (aC (vN 3) a0)) a0)) (gN 7)
 (gSeq (gAs (vCB sumD (aC (vLC (vItems (vSlL (vN 3) oN (oI (vN 7)))) [none, some 0] (gN 0) cTrue (v2 ixDt (v2 ixDt (vN 1) (vN 0)) (vC (.int 3)))) a0)) (gN 8))
 (gApp 2 (aC (vTup (aC (v2 ixDt (vN 3) (vN 7)) (aC (v2 addD (vN 5) (vN 8)) (aC (v2 addD (vN 6) (vN 8)) (aC (vF 4) a0))))) a0)))))
 (gRetO 2)))
noncomputable def m__law_legs : FnM:=fnM 2 9 g__law_legs
theorem sc__law_legs : FnScope ["_law_passages","_law_plan_here","_law_found","_law_walk_here","_law_number","_law_first","_law_last","_law_k","_law_later"] ["_law_passages","_law_plan_here"] (defScope (top 14)):=⟨rfl,rfl,rfl,by decide +kernel,rfl,by decide +kernel,by decide +kernel⟩
theorem ok__law_legs {P : Program} {w : World} {K : PySem.W.Frag} {mg : Str → Option Value} {base : Heap} {f : Addr} {fd : FuncData} (F : Fun K "_law_legs" "_law_legs" (top 14) f fd) (B : Bl mg) (KT : Kits K)  : FnOk P w K mg base CX0 1 f fd ["_law_passages", "_law_plan_here"] (spV K m__law_legs) := by
  have nd := sc__law_legs.nd
  have vt := (show (["_law_passages", "_law_plan_here", "_law_found", "_law_walk_here", "_law_number", "_law_first", "_law_last", "_law_k", "_law_later"] : List Str).all (fun x => visB (defScope (top 14)) x && plain x) = true by decide +kernel)
  refine fnV (k := 0) (n := 2) (nN := 9) (g := g__law_legs) F sc__law_legs rfl rfl fun cdv A outer s H E hr => ?_
  exact (sSeq (sOw (i := 2) (ps_set nd rfl (lo (sc := (defScope (top 14))) (by decide +kernel)) (dLst pa0)))
 (sSeq (sFor (ps_for PassesOwn.never rfl (itL (dF (pV vt 1))) (tgT (n := 4) rfl (tgC (tgN (pg_name (i := 3) nd rfl (lo (sc := (defScope (top 14))) (by decide +kernel)))) (tgC (tgN (pg_name (i := 4) nd rfl (lo (sc := (defScope (top 14))) (by decide +kernel)))) (tgC (tgN (pg_name (i := 5) nd rfl (lo (sc := (defScope (top 14))) (by decide +kernel)))) (tgC (tgN (pg_name (i := 6) nd rfl (lo (sc := (defScope (top 14))) (by decide +kernel)))) tg0)))))
 (sOne (sFor (ps_for PassesOwn.never rfl (itR1 (pi_range1 (gl (sc := (defScope (top 14))) (by decide +kernel)) B.range (pwC (sw (dCB (pe_callB cLen (gl (sc := (defScope (top 14))) (by decide +kernel)) B.len PySem.boot_len (pwC (mw (dN (pV vt 3))) pw0)) hLen)) pw0))) (tgN (pg_name (i := 7) nd rfl (lo (sc := (defScope (top 14))) (by decide +kernel))))
 (sSeq (sAs (ps_asg (dCB (pe_callB (cSum rfl) (gl (sc := (defScope (top 14))) (by decide +kernel)) B.sum PyProof.Rows.boot_sum (pwC (nw (dLC (pe_lc (te := tV K RS _) (tc := tVT K _) (g := tVG K _ _) (N' := ["_law_at", "_law_passages"]) (cap := [none, some 0]) ["_law_passages", "_law_plan_here", "_law_found", "_law_walk_here", "_law_number", "_law_first", "_law_last", "_law_k", "_law_later"] (defScope (top 14)) rfl (by decide +kernel) rfl rfl (itL (ns (dSlL (dN (pV vt 3)) poN (poI (mw (dN (pV vt 7))))))) (fun _ _ _ _ _ => (tgN (pgC (i := 0) (show (["_law_at", "_law_passages"] : List Str).Nodup by decide +kernel) (by decide +kernel)))) (fun _ _ _ _ _ => ifN) (fun _ _ _ _ _ => (dIx (sm (dIx (dN (pVc (by decide +kernel) 1)) (mw (dN (pVc (by decide +kernel) 0))))) (sw dInt)))))) pw0)) hSum) (tgN (pg_name (i := 8) nd rfl (lo (sc := (defScope (top 14))) (by decide +kernel))))))
 (sOne (sApp (i := 2) (ps_expr (peApp (pV vt 2) (paC (dTup (paC (dIx (dN (pV vt 3)) (mw (dN (pV vt 7)))) (paC (dOp oAdd hAdd (mw (dN (pV vt 5))) (mw (dN (pV vt 8)))) (paC (dOp oAdd hAdd (mw (dN (pV vt 6))) (mw (dN (pV vt 8)))) (paC (dF (pV vt 4)) pa0))))) pa0)))))))))))
 (sOne (sRetO (pV vt 2)))))
noncomputable def g__law_now : VS :=
 (gSeq (gOw 3 (v2 repD (vLst (aC (vC (.int 0)) a0)) (vN 1)))
 (gSeq (gFor (vItems (vF 0)) (gT 4 (gC (gN 4) (gC (gN 5) (gC (gN 6) (gC (gN 7) g0)))))
 (gIf (tAnd2 (vB (v2 leD (vN 5) (vN 2))) (vB (v2 leD (vN 2) (vN 6))))
 (gPut 3 (vN 4) (v2 addD (v2 ixDt (vN 3) (vN 4)) (vN 7)))
 gNop))
 (gRetO 3)))
noncomputable def m__law_now : FnM:=fnM 3 8 g__law_now
theorem sc__law_now : FnScope ["_law_legs_here","_law_size","_law_moment","_law_found","_law_at","_law_first","_law_last","_law_number"] ["_law_legs_here","_law_size","_law_moment"] (defScope (top 15)):=⟨rfl,rfl,rfl,by decide +kernel,rfl,by decide +kernel,by decide +kernel⟩
theorem ok__law_now {P : Program} {w : World} {K : PySem.W.Frag} {mg : Str → Option Value} {base : Heap} {f : Addr} {fd : FuncData} (F : Fun K "_law_now" "_law_now" (top 15) f fd) (B : Bl mg) (KT : Kits K)  : FnOk P w K mg base CX0 1 f fd ["_law_legs_here", "_law_size", "_law_moment"] (spV K m__law_now) := by
  have nd := sc__law_now.nd
  have vt := (show (["_law_legs_here", "_law_size", "_law_moment", "_law_found", "_law_at", "_law_first", "_law_last", "_law_number"] : List Str).all (fun x => visB (defScope (top 15)) x && plain x) = true by decide +kernel)
  refine fnV (k := 0) (n := 3) (nN := 8) (g := g__law_now) F sc__law_now rfl rfl fun cdv A outer s H E hr => ?_
  exact (sSeq (sOw (i := 3) (ps_set nd rfl (lo (sc := (defScope (top 15))) (by decide +kernel)) (dRep (dLst (paC dInt pa0)) (mw (dN (pV vt 1))))))
 (sSeq (sFor (ps_for PassesOwn.never rfl (itL (dF (pV vt 0))) (tgT (n := 4) rfl (tgC (tgN (pg_name (i := 4) nd rfl (lo (sc := (defScope (top 15))) (by decide +kernel)))) (tgC (tgN (pg_name (i := 5) nd rfl (lo (sc := (defScope (top 15))) (by decide +kernel)))) (tgC (tgN (pg_name (i := 6) nd rfl (lo (sc := (defScope (top 15))) (by decide +kernel)))) (tgC (tgN (pg_name (i := 7) nd rfl (lo (sc := (defScope (top 15))) (by decide +kernel)))) tg0)))))
 (sOne (sIf (PW.pt (wAnd (cCmp oLe hLe (mw (dN (pV vt 5))) (mw (dN (pV vt 2)))) (wAnd1 (cCmp oLe hLe (mw (dN (pV vt 2))) (mw (dN (pV vt 6)))))))
 (sOne (sPut (i := 3) (ps_asg (dOp oAdd hAdd (sw (dIx (dN (pV vt 3)) (mw (dN (pV vt 4))))) (mw (dN (pV vt 7)))) (pg_sub (pV vt 3) (mw (dN (pV vt 4))) setL))))
 sNil))))
 (sOne (sRetO (pV vt 3)))))
noncomputable def g__law_moments : VS :=
 (gSeq (gOw 2 (vLst (aC (vC (.int 0)) (aC (v2 powD (vC (.int 10)) (vC (.int 59))) a0))))
 (gSeq (gFor (vEnum (aC (vF 1) a0)) (gT 2 (gC (gN 3) (gC (gN 4) g0)))
 (gSeq (gApp 2 (aC (v2 modD (vCall m__law_mixed (aC (vF 4) (aC (vC (.int 0)) a0))) (vC (.int 20))) a0))
 (gIf (vB (v2 neD (vN 0) (vLst a0)))
 (gSeq (gAs (v2 ixDt (vN 0) (v2 modD (vCall m__law_mixed (aC (vF 4) (aC (vC (.int 1)) a0))) (vCB lenD (aC (vN 0) a0)))) (gN 5))
 (gOw 2 (v2 catD (vN 2) (vLst (aC (vCB max2D (aC (v2 subD (v2 ixDt (vN 5) (vC (.int 1))) (vC (.int 1))) (aC (vC (.int 0)) a0))) (aC (v2 ixDt (vN 5) (vC (.int 1))) (aC (v2 ixDt (vN 5) (vC (.int 2))) (aC (v2 addD (v2 ixDt (vN 5) (vC (.int 2))) (vC (.int 1))) a0))))))))
 gNop)))
 (gRetO 2)))
noncomputable def m__law_moments : FnM:=fnM 2 6 g__law_moments
theorem sc__law_moments : FnScope ["_law_legs_here","_law_cells","_law_found","_law_k","_law_cell","_law_leg"] ["_law_legs_here","_law_cells"] (defScope (top 16)):=⟨rfl,rfl,rfl,by decide +kernel,rfl,by decide +kernel,by decide +kernel⟩
theorem ok__law_moments {P : Program} {w : World} {K : PySem.W.Frag} {mg : Str → Option Value} {base : Heap} {f : Addr} {fd : FuncData} (F : Fun K "_law_moments" "_law_moments" (top 16) f fd) (B : Bl mg) (KT : Kits K) (C_law_mixed : Cal P w K mg base 1 "_law_mixed" ["_law_cell", "_law_k"] (spV K m__law_mixed)) : FnOk P w K mg base CX0 2 f fd ["_law_legs_here", "_law_cells"] (spV K m__law_moments) := by
  have nd := sc__law_moments.nd
  have vt := (show (["_law_legs_here", "_law_cells", "_law_found", "_law_k", "_law_cell", "_law_leg"] : List Str).all (fun x => visB (defScope (top 16)) x && plain x) = true by decide +kernel)
  refine fnV (k := 1) (n := 2) (nN := 6) (g := g__law_moments) F sc__law_moments rfl rfl fun cdv A outer s H E hr => ?_
  exact (sSeq (sOw (i := 2) (ps_set nd rfl (lo (sc := (defScope (top 16))) (by decide +kernel)) (dLst (paC dInt (paC (dOp oPow hPow (sw dInt) (sw dInt)) pa0)))))
 (sSeq (sFor (ps_for PassesOwn.never rfl (itE (pi_enum (gl (sc := (defScope (top 16))) (by decide +kernel)) B.enumerate (paC (dF (pV vt 1)) pa0))) (tgT (n := 2) rfl (tgC (tgN (pg_name (i := 3) nd rfl (lo (sc := (defScope (top 16))) (by decide +kernel)))) (tgC (tgN (pg_name (i := 4) nd rfl (lo (sc := (defScope (top 16))) (by decide +kernel)))) tg0)))
 (sSeq (sApp (i := 2) (ps_expr (peApp (pV vt 2) (paC (dOp oMod hMod (sw (dCal (peCal C_law_mixed (hr.mono (by decide)) (gl (sc := (defScope (top 16))) (by decide +kernel)) (paC (dF (pV vt 4)) (paC dInt pa0))))) (sw dInt)) pa0))))
 (sOne (sIf (cCmp (op_neD hr.units) hNe (mw (dN (pV vt 0))) (nw (dLst pa0)))
 (sSeq (sAs (ps_asg (dIx (dN (pV vt 0)) (sw (dOp oMod hMod (sw (dCal (peCal C_law_mixed (hr.mono (by decide)) (gl (sc := (defScope (top 16))) (by decide +kernel)) (paC (dF (pV vt 4)) (paC dInt pa0))))) (sw (dCB (pe_callB cLen (gl (sc := (defScope (top 16))) (by decide +kernel)) B.len PySem.boot_len (pwC (mw (dN (pV vt 0))) pw0)) hLen))))) (tgN (pg_name (i := 5) nd rfl (lo (sc := (defScope (top 16))) (by decide +kernel))))))
 (sOne (sOw (i := 2) (ps_set nd rfl (lo (sc := (defScope (top 16))) (by decide +kernel)) (dCat (dN (pV vt 2)) (nm (dLst (paC (dCB (pe_callB (call_max2 rfl) (gl (sc := (defScope (top 16))) (by decide +kernel)) B.max PyProof.Rows.boot_max (pwC (sw (dOp oSub hSub (sw (dIx (dN (pV vt 5)) (sw dInt))) (sw dInt))) (pwC (sw dInt) pw0))) hMax2) (paC (dIx (dN (pV vt 5)) (sw dInt)) (paC (dIx (dN (pV vt 5)) (sw dInt)) (paC (dOp oAdd hAdd (sw (dIx (dN (pV vt 5)) (sw dInt))) (sw dInt)) pa0)))))))))))
 sNil)))))
 (sOne (sRetO (pV vt 2)))))
noncomputable def g__law_copied : VS :=
 (gRetN (vLC (vItems (vF 0)) [none, none, none, none] (gT 4 (gC (gN 0) (gC (gN 1) (gC (gN 2) (gC (gN 3) g0))))) cTrue (vTup (aC (vListOf (vN 0)) (aC (vF 1) (aC (vF 2) (aC (vF 3) a0)))))))
noncomputable def m__law_copied : FnM:=fnM 1 1 g__law_copied
theorem sc__law_copied : FnScope ["_law_plan_here"] ["_law_plan_here"] (defScope (top 17)):=⟨rfl,rfl,rfl,by decide +kernel,rfl,by decide +kernel,by decide +kernel⟩
theorem ok__law_copied {P : Program} {w : World} {K : PySem.W.Frag} {mg : Str→Option Value} {base : Heap} {f : Addr} {fd : FuncData} (F : Fun K "_law_copied" "_law_copied" (top 17) f fd) (B : Bl mg) (KT : Kits K)  : FnOk P w K mg base CX0 1 f fd ["_law_plan_here"] (spV K m__law_copied):=by
 have nd:=sc__law_copied.nd
 have vt:=(show (["_law_plan_here"] : List Str).all (fun x=>visB (defScope (top 17)) x && plain x) = true by decide +kernel)
 refine fnV (k:=0) (n:=1) (nN:=1) (g:=g__law_copied) F sc__law_copied rfl rfl fun cdv A outer s H E hr=>?_
 exact (sOne (sRetN (dLC (pe_lc (te:=tV K RS _) (tc:=tVT K _) (g:=tVG K _ _) (N':=["_law_walk_here","_law_number","_law_first","_law_last"]) (cap:=[none,none,none,none]) ["_law_plan_here"] (defScope (top 17)) rfl (by decide +kernel) rfl rfl (itL (dF (pV vt 0))) (fun _ _ _ _ _=>(tgT (n:=4) rfl (tgC (tgN (pgC (i:=0) (show (["_law_walk_here","_law_number","_law_first","_law_last"] : List Str).Nodup by decide +kernel) (by decide +kernel))) (tgC (tgN (pgC (i:=1) (show (["_law_walk_here","_law_number","_law_first","_law_last"] : List Str).Nodup by decide +kernel) (by decide +kernel))) (tgC (tgN (pgC (i:=2) (show (["_law_walk_here","_law_number","_law_first","_law_last"] : List Str).Nodup by decide +kernel) (by decide +kernel))) (tgC (tgN (pgC (i:=3) (show (["_law_walk_here","_law_number","_law_first","_law_last"] : List Str).Nodup by decide +kernel) (by decide +kernel))) tg0)))))) (fun _ _ _ _ _=>ifN) (fun _ _ _ _ _=>(dTup (paC (ns (dListOf (pe_callTy cList (glC (by decide +kernel)) B.list PyProof.Rows.boot_list (pa_cons (dN (pVc (by decide +kernel) 0)) pa_nil)))) (paC (dF (pVc (by decide +kernel) 1)) (paC (dF (pVc (by decide +kernel) 2)) (paC (dF (pVc (by decide +kernel) 3)) pa0))))))))))
noncomputable def g__law_numbers : VS :=
 (gSeq (gIf (tOr2 (tNot2 (vB (vIsi "list" (vN 0)))) (vB (v2 neD (vCB lenD (aC (vN 0) a0)) (vCB lenD (aC (vN 1) a0)))))
 (gRet (vC (.bool false)))
 gNop)
 (gSeq (gFor (vZip (aC (vF 0) (aC (vF 1) a0))) (gT 2 (gC (gN 2) (gC (gN 3) g0)))
 (gIf (tOr2 (tNot2 (vB (vCall m__law_whole (aC (vF 2) a0)))) (vB (v2 neD (vN 2) (vN 3))))
 (gRet (vC (.bool false)))
 gNop))
 (gRet (vC (.bool true)))))
noncomputable def m__law_numbers : FnM:=fnM 2 4 g__law_numbers
theorem sc__law_numbers : FnScope ["_law_found","_law_due","_law_one","_law_other"] ["_law_found","_law_due"] (defScope (top 18)):=⟨rfl,rfl,rfl,by decide +kernel,rfl,by decide +kernel,by decide +kernel⟩
theorem ok__law_numbers {P : Program} {w : World} {K : PySem.W.Frag} {mg : Str → Option Value} {base : Heap} {f : Addr} {fd : FuncData} (F : Fun K "_law_numbers" "_law_numbers" (top 18) f fd) (B : Bl mg) (KT : Kits K) (C_law_whole : Cal P w K mg base 1 "_law_whole" ["_law_found"] (spV K m__law_whole)) : FnOk P w K mg base CX0 2 f fd ["_law_found", "_law_due"] (spV K m__law_numbers) := by
  have nd := sc__law_numbers.nd
  have vt := (show (["_law_found", "_law_due", "_law_one", "_law_other"] : List Str).all (fun x => visB (defScope (top 18)) x && plain x) = true by decide +kernel)
  refine fnV (k := 1) (n := 2) (nN := 4) (g := g__law_numbers) F sc__law_numbers rfl rfl fun cdv A outer s H E hr => ?_
  exact (sSeq (sIf (PW.pt (wOr (cNot (cVal (dIsi KT.list (pe_callB cIsi (gl (sc := (defScope (top 18))) (by decide +kernel)) B.isinstance PyProof.Rows.boot_isinstance (pa_cons (mw (dN (pV vt 0))) (pa_cons (pe_bltn (v := .ty "list") (gl (sc := (defScope (top 18))) (by decide +kernel)) B.list PyProof.Rows.boot_list rfl) pa_nil)))))) (wOr1 (cCmp (op_neD hr.units) hNe (sw (dCB (pe_callB cLen (gl (sc := (defScope (top 18))) (by decide +kernel)) B.len PySem.boot_len (pwC (mw (dN (pV vt 0))) pw0)) hLen)) (sw (dCB (pe_callB cLen (gl (sc := (defScope (top 18))) (by decide +kernel)) B.len PySem.boot_len (pwC (mw (dN (pV vt 1))) pw0)) hLen))))))
 (sOne (sRet dBool))
 sNil)
 (sSeq (sFor (ps_for PassesOwn.never rfl (itZ (pi_zip (gl (sc := (defScope (top 18))) (by decide +kernel)) B.zip (paC (dF (pV vt 0)) (paC (dF (pV vt 1)) pa0)))) (tgT (n := 2) rfl (tgC (tgN (pg_name (i := 2) nd rfl (lo (sc := (defScope (top 18))) (by decide +kernel)))) (tgC (tgN (pg_name (i := 3) nd rfl (lo (sc := (defScope (top 18))) (by decide +kernel)))) tg0)))
 (sOne (sIf (PW.pt (wOr (cNot (cVal (dCal (peCal C_law_whole (hr.mono (by decide)) (gl (sc := (defScope (top 18))) (by decide +kernel)) (paC (dF (pV vt 2)) pa0))))) (wOr1 (cCmp (op_neD hr.units) hNe (mw (dN (pV vt 2))) (mw (dN (pV vt 3)))))))
 (sOne (sRet dBool))
 sNil))))
 (sOne (sRet dBool))))
noncomputable def g_law : VS :=
 (gSeq (gAs (vCall m__law_joined (aC (vF 0) a0)) (gN 1))
 (gSeq (gAs (vCall m__law_plan (aC (vSlL (vN 0) (oI (vC (.int 12))) (oI (vC (.int 32)))) (aC (vF 1) a0))) (gN 2))
 (gSeq (gAs (vCall m__law_legs (aC (vF 1) (aC (vF 2) a0))) (gN 3))
 (gSeq (gOw 4 (v2 repD (vLst (aC (vC (.int 0)) a0)) (vCB lenD (aC (vN 1) a0))))
 (gSeq (gFor (vItems (vF 3)) (gT 4 (gC (gN 5) (gC (gN 6) (gC (gN 7) (gC (gN 8) g0)))))
 (gPut 4 (vN 5) (vCB max2D (aC (v2 ixDt (vN 4) (vN 5)) (aC (v2 ixDt (vCall m__law_now (aC (vF 3) (aC (vCB lenD (aC (vN 1) a0)) (aC (vF 6) a0)))) (vN 5)) a0)))))
 (gSeq (gAs (vLst (aC (vListOf (vN 1)) (aC (vCall m__law_copied (aC (vF 2) a0)) a0))) (gN 9))
 (gSeq (gOw 10 (vCallN m_most_at_once (aC (v2 ixDt (vN 9) (vC (.int 0))) (aC (v2 ixDt (vN 9) (vC (.int 1))) a0))))
 (gSeq (gIf (tNot2 (vB (vCallW m__law_numbers (aC (vN 10) (aC (vN 4) a0)))))
 (gRet (vC (.bool false)))
 gNop)
 (gSeq (gFor (vItems (vCall m__law_moments (aC (vF 3) (aC (vSlL (vN 0) (oI (vC (.int 32))) (oI (vC (.int 36)))) a0)))) (gN 11)
 (gFz 4 (gFor (vZip (aC (vCall Pg.m_set_out (aC (v2 ixDt (vN 9) (vC (.int 0))) (aC (v2 ixDt (vN 9) (vC (.int 1))) (aC (vF 11) a0)))) (aC (vF 4) a0))) (gT 2 (gC (gN 12) (gC (gN 13) g0)))
 (gIf (vB (v2 gtD (vN 12) (vN 13)))
 (gRet (vC (.bool false)))
 gNop))))
 (gSeq (gClr 10)
 (gSeq (gIf (tNot2 (vB (vCallW m__law_numbers (aC (vCall m_most_at_once (aC (v2 ixDt (vN 9) (vC (.int 0))) (aC (v2 ixDt (vN 9) (vC (.int 1))) a0))) (aC (vN 4) a0)))))
 (gRet (vC (.bool false)))
 gNop)
 (gRet (vAnd (v2 eqD (vN 9) (vLst (aC (vF 1) (aC (vF 2) a0)))) (vCall m__law_numbers (aC (vCall m_most_at_once (aC (v2 ixDt (vN 9) (vC (.int 0))) (aC (vLst a0) a0))) (aC (v2 repD (vLst (aC (vC (.int 0)) a0)) (vCB lenD (aC (vN 1) a0))) a0))))))))))))))))
noncomputable def m_law : FnM:=fnM 1 14 g_law
theorem sc_law : FnScope ["_law_script","_law_passages","_law_plan_here","_law_legs_here","_law_due","_law_at","_law_first","_law_last","_law_number","_law_handed","_law_found","_law_moment","_law_one","_law_other"] ["_law_script"] (defScope (top 19)):=⟨rfl,rfl,rfl,by decide +kernel,rfl,by decide +kernel,by decide +kernel⟩
theorem ok_law {P : Program} {w : World} {K : PySem.W.Frag} {mg : Str → Option Value} {base : Heap} {f : Addr} {fd : FuncData} (F : Fun K "law" "law" (top 19) f fd) (B : Bl mg) (KT : Kits K) (C_law_joined : Cal P w K mg base 3 "_law_joined" ["_law_script"] (spV K m__law_joined)) (C_law_plan : Cal P w K mg base 3 "_law_plan" ["_law_cells", "_law_passages"] (spV K m__law_plan)) (C_law_legs : Cal P w K mg base 1 "_law_legs" ["_law_passages", "_law_plan_here"] (spV K m__law_legs)) (Cmost_at_once : Cal P w K mg base 2 "most_at_once" ["passages", "plan"] (spV K m_most_at_once)) (C_law_moments : Cal P w K mg base 2 "_law_moments" ["_law_legs_here", "_law_cells"] (spV K m__law_moments)) (C_law_copied : Cal P w K mg base 1 "_law_copied" ["_law_plan_here"] (spV K m__law_copied)) (C_law_numbers : Cal P w K mg base 2 "_law_numbers" ["_law_found", "_law_due"] (spV K m__law_numbers)) (Cset_out : Cal P w K mg base 2 "set_out" ["passages", "plan", "moment"] (spV K Pg.m_set_out)) (C_law_now : Cal P w K mg base 1 "_law_now" ["_law_legs_here", "_law_size", "_law_moment"] (spV K m__law_now)) : FnOk P w K mg base CX0 4 f fd ["_law_script"] (spV K m_law) := by
  have nd := sc_law.nd
  have vt := (show (["_law_script", "_law_passages", "_law_plan_here", "_law_legs_here", "_law_due", "_law_at", "_law_first", "_law_last", "_law_number", "_law_handed", "_law_found", "_law_moment", "_law_one", "_law_other"] : List Str).all (fun x => visB (defScope (top 19)) x && plain x) = true by decide +kernel)
  refine fnV (k := 3) (n := 1) (nN := 14) (g := g_law) F sc_law rfl rfl fun cdv A outer s H E hr => ?_
  exact (sSeq (sAs (ps_asg (dCal (peCal C_law_joined (hr.mono (by decide)) (gl (sc := (defScope (top 19))) (by decide +kernel)) (paC (dF (pV vt 0)) pa0))) (tgN (pg_name (i := 1) nd rfl (lo (sc := (defScope (top 19))) (by decide +kernel))))))
 (sSeq (sAs (ps_asg (dCal (peCal C_law_plan (hr.mono (by decide)) (gl (sc := (defScope (top 19))) (by decide +kernel)) (paC (ns (dSlL (dN (pV vt 0)) (poI (sw dInt)) (poI (sw dInt)))) (paC (dF (pV vt 1)) pa0)))) (tgN (pg_name (i := 2) nd rfl (lo (sc := (defScope (top 19))) (by decide +kernel))))))
 (sSeq (sAs (ps_asg (dCal (peCal C_law_legs (hr.mono (by decide)) (gl (sc := (defScope (top 19))) (by decide +kernel)) (paC (dF (pV vt 1)) (paC (dF (pV vt 2)) pa0)))) (tgN (pg_name (i := 3) nd rfl (lo (sc := (defScope (top 19))) (by decide +kernel))))))
 (sSeq (sOw (i := 4) (ps_set nd rfl (lo (sc := (defScope (top 19))) (by decide +kernel)) (dRep (dLst (paC dInt pa0)) (sw (dCB (pe_callB cLen (gl (sc := (defScope (top 19))) (by decide +kernel)) B.len PySem.boot_len (pwC (mw (dN (pV vt 1))) pw0)) hLen)))))
 (sSeq (sFor (ps_for PassesOwn.never rfl (itL (dF (pV vt 3))) (tgT (n := 4) rfl (tgC (tgN (pg_name (i := 5) nd rfl (lo (sc := (defScope (top 19))) (by decide +kernel)))) (tgC (tgN (pg_name (i := 6) nd rfl (lo (sc := (defScope (top 19))) (by decide +kernel)))) (tgC (tgN (pg_name (i := 7) nd rfl (lo (sc := (defScope (top 19))) (by decide +kernel)))) (tgC (tgN (pg_name (i := 8) nd rfl (lo (sc := (defScope (top 19))) (by decide +kernel)))) tg0)))))
 (sOne (sPut (i := 4) (ps_asg (dCB (pe_callB (call_max2 rfl) (gl (sc := (defScope (top 19))) (by decide +kernel)) B.max PyProof.Rows.boot_max (pwC (sw (dIx (dN (pV vt 4)) (mw (dN (pV vt 5))))) (pwC (sw (dIx (sm (dCal (peCal C_law_now (hr.mono (by decide)) (gl (sc := (defScope (top 19))) (by decide +kernel)) (paC (dF (pV vt 3)) (paC (dCB (pe_callB cLen (gl (sc := (defScope (top 19))) (by decide +kernel)) B.len PySem.boot_len (pwC (mw (dN (pV vt 1))) pw0)) hLen) (paC (dF (pV vt 6)) pa0)))))) (mw (dN (pV vt 5))))) pw0))) hMax2) (pg_sub (pV vt 4) (mw (dN (pV vt 5))) setL))))))
 (sSeq (sAs (ps_asg (ns (dLst (paC (ns (dListOf (pe_callTy cList (gl (sc := (defScope (top 19))) (by decide +kernel)) B.list PyProof.Rows.boot_list (pa_cons (dN (pV vt 1)) pa_nil)))) (paC (dCal (peCal C_law_copied (hr.mono (by decide)) (gl (sc := (defScope (top 19))) (by decide +kernel)) (paC (dF (pV vt 2)) pa0))) pa0)))) (tgN (pg_name (i := 9) nd rfl (lo (sc := (defScope (top 19))) (by decide +kernel))))))
 (sSeq (sOw (i := 10) (ps_set nd rfl (lo (sc := (defScope (top 19))) (by decide +kernel)) (dCalN (peCal Cmost_at_once (hr.mono (by decide)) (gl (sc := (defScope (top 19))) (by decide +kernel)) (paC (dIx (dN (pV vt 9)) (sw dInt)) (paC (dIx (dN (pV vt 9)) (sw dInt)) pa0))))))
 (sSeq (sIf (cNot (cVal (dCalW (peCal C_law_numbers (hr.mono (by decide)) (gl (sc := (defScope (top 19))) (by decide +kernel)) (pwC (mw (dN (pV vt 10))) (pwC (mw (dN (pV vt 4))) pw0))))))
 (sOne (sRet dBool))
 sNil)
 (sSeq (sFor (ps_for PassesOwn.never rfl (itL (dCal (peCal C_law_moments (hr.mono (by decide)) (gl (sc := (defScope (top 19))) (by decide +kernel)) (paC (dF (pV vt 3)) (paC (ns (dSlL (dN (pV vt 0)) (poI (sw dInt)) (poI (sw dInt)))) pa0))))) (tgN (pg_name (i := 11) nd rfl (lo (sc := (defScope (top 19))) (by decide +kernel))))
 (sOne (sFz (i := 4) (sFor (ps_for PassesOwn.never rfl (itZ (pi_zip (gl (sc := (defScope (top 19))) (by decide +kernel)) B.zip (paC (dCal (peCal Cset_out (hr.mono (by decide)) (gl (sc := (defScope (top 19))) (by decide +kernel)) (paC (dIx (dN (pV vt 9)) (sw dInt)) (paC (dIx (dN (pV vt 9)) (sw dInt)) (paC (dF (pV vt 11)) pa0))))) (paC (dF (pV vt 4)) pa0)))) (tgT (n := 2) rfl (tgC (tgN (pg_name (i := 12) nd rfl (lo (sc := (defScope (top 19))) (by decide +kernel)))) (tgC (tgN (pg_name (i := 13) nd rfl (lo (sc := (defScope (top 19))) (by decide +kernel)))) tg0)))
 (sOne (sIf (cCmp oGt hGt (mw (dN (pV vt 12))) (mw (dN (pV vt 13))))
 (sOne (sRet dBool))
 sNil))))))))
 (sSeq (sClr (i := 10) (ps_expr (peClr (pV vt 10))))
 (sSeq (sIf (cNot (cVal (dCalW (peCal C_law_numbers (hr.mono (by decide)) (gl (sc := (defScope (top 19))) (by decide +kernel)) (pwC (sw (dCal (peCal Cmost_at_once (hr.mono (by decide)) (gl (sc := (defScope (top 19))) (by decide +kernel)) (paC (dIx (dN (pV vt 9)) (sw dInt)) (paC (dIx (dN (pV vt 9)) (sw dInt)) pa0))))) (pwC (mw (dN (pV vt 4))) pw0))))))
 (sOne (sRet dBool))
 sNil)
 (sOne (sRet (dAnd (dCmp (op_eqD hr.units) hEq (mw (dN (pV vt 9))) (nw (dLst (paC (dF (pV vt 1)) (paC (dF (pV vt 2)) pa0))))) (dOne (dCal (peCal C_law_numbers (hr.mono (by decide)) (gl (sc := (defScope (top 19))) (by decide +kernel)) (paC (dCal (peCal Cmost_at_once (hr.mono (by decide)) (gl (sc := (defScope (top 19))) (by decide +kernel)) (paC (dIx (dN (pV vt 9)) (sw dInt)) (paC (ns (dLst pa0)) pa0)))) (paC (ns (dRep (dLst (paC dInt pa0)) (sw (dCB (pe_callB cLen (gl (sc := (defScope (top 19))) (by decide +kernel)) B.len PySem.boot_len (pwC (mw (dN (pV vt 1))) pw0)) hLen)))) pa0)))))))))))))))))))
end K43
namespace K43
open PySem L2 VM PL
theorem e_cell {ns : List Int} {k : Int} (h0 : 0≤k) : m__law_cell_at [.list (ns.map .int),.int k] = some (false,.int (cellI ns k)):=by
 unfold m__law_cell_at g__law_cell_at
 walk_at "e0"
 simp only [List.length_map]
 by_cases h : k < ns.length
 ·simp only [h,decide_true]
  walk_at "e0"
  rw [atI_ints h0 h]
  walk_at "e0"
 ·simp only [h,decide_false]
  walk_at "e0"
  have e : cellI ns k = 0:=by
   unfold cellI
   rw [List.getD_eq_getElem?_getD,List.getElem?_eq_none (by omega)]
   rfl
  rw [e]
theorem e_mix {c k : Int} (h0 : 0≤k) (h1 : k≤100) : m__law_mixed [.int c,.int k] = some (false,.int (mixI c k)):=by
 unfold m__law_mixed g__law_mixed mixI
 walk_at "e0"
 simp only [modD_i (show (0 : Int) < 2 by decide),eqD_i]
 walk_at "e0"
 by_cases h : c % 2 = 0
 ·simp only [h,decide_true]
  walk_at "e0"
  simp only [divD_i (show (0 : Int) < 2 by decide) (by decide)]
  walk_at "e0"
  rw [if_pos (by omega)]
  walk_at "e0"
  have key:=forG_fun (t:=gN 3) (g:=gAs (v2 divD (vN 2) (v2 powD (vC (.int 10)) (vC (.int 12)))) (gN 2))
   (fun i=>[some (Tg.fr,.int c),some (Tg.fr,.int k),some (Tg.fr,.int (divN ((if c < 0 then -c else c) / 2) i)),if i = 0 then none else some (Tg.fr,.int ((i - 1 : Nat) : Int))]) (rangeD 0 k.toNat) 0 ?_
  ·simp only [divN,↓reduceIte,Nat.zero_add,rangeD_length] at key
   rw [key]
   walk_at "e0"
  ·intro j d hj
   obtain ⟨hj,rfl⟩:=rangeD_get hj
   refine ⟨[some (Tg.fr,.int c),some (Tg.fr,.int k),some (Tg.fr,.int (divN ((if c < 0 then -c else c) / 2) j)),some (Tg.fr,.int (j : Int))],?_,?_⟩
   ·cases j <;> (walk_at "e0"; simp [nio])
   ·walk_at "e0"
    simp only [powD_i (show (0 : Int)≤12 by decide) (by decide) (show (0 : Int)≤10 by decide) (by decide)]
    walk_at "e0"
    simp only [divD_i (show (0 : Int) < 1000000000000 by decide) (by decide)]
    walk_at "e0"
    simp [divN]
 ·simp only [h,decide_false]
  walk_at "e0"
  rw [mulD_i (by decide) (by decide) (by omega) (by omega)]
  walk_at "e0"
  simp only [modD_i (show (0 : Int) < 2147483629 by decide)]
  walk_at "e0"
  have b:=mod_in (c + 7919 * k) (show (0 : Int) < 2147483629 by decide)
  generalize (c + 7919 * k) % 2147483629 = x at *
  rw [mulD_i (by omega) (by omega) (by omega) (by omega)]
  walk_at "e0"
  rw [mulD_i (by omega) (by omega) (by omega) (by omega)]
  walk_at "e0"
  simp only [modD_i (show (0 : Int) < 2147483629 by decide)]
  walk_at "e0"
  have b:=mod_in (x * x + 16807 * x + k) (show (0 : Int) < 2147483629 by decide)
  unfold mixO
  generalize (x * x + 16807 * x + k) % 2147483629 = y at *
  rw [mulD_i (by omega) (by omega) (by omega) (by omega)]
  walk_at "e0"
  simp only [modD_i (show (0 : Int) < 2147483587 by decide)]
  walk_at "e0"
theorem e_great {c k : Int} (h0 : 0≤k) (h1 : k≤100) : m__law_great [.int c,.int k] = some (false,.int (greatI c k)):=by
 unfold m__law_great g__law_great greatI
 walk_at "e0"
 simp only [e_mix h0 h1]
 walk_at "e0"
 simp only [modD_i (show (0 : Int) < 3 by decide),eqD_i]
 walk_at "e0"
 generalize mixI c k = n
 by_cases h : n % 3 = 0
 ·simp only [h,decide_true]
  walk_at "e0"
  simp only [powD_i (show (0 : Int)≤60 by decide) (by decide) (show (0 : Int)≤10 by decide) (by decide)]
  walk_at "e0"
  rw [modD_i (by decide)]
  walk_at "e0"
  rfl
 ·simp only [h,decide_false]
  walk_at "e0"
  simp only [modD_i (show (0 : Int) < 3 by decide),eqD_i]
  walk_at "e0"
  by_cases h2 : n % 3 = 1
  ·simp only [h2,decide_true]
   walk_at "e0"
   simp only [divD_i (show (0 : Int) < 3 by decide) (by decide)]
   walk_at "e0"
   simp only [modD_i (show (0 : Int) < 1000 by decide)]
   walk_at "e0"
  ·simp only [h2,decide_false]
   walk_at "e0"
   simp only [divD_i (show (0 : Int) < 3 by decide) (by decide)]
   walk_at "e0"
   simp only [modD_i (show (0 : Int) < 4 by decide)]
   walk_at "e0"
theorem e_far {ns : List Int} {at_ k : Int} (h0 : 0≤at_) (h1 : at_≤60) (k0 : 0≤k) (k1 : k≤2) : ∃ n,m__law_far [.list (ns.map .int),.int at_,.int k] = some (false,.int n):=by
 unfold m__law_far g__law_far
 walk_at "e0"
 simp only [List.length_map]
 by_cases h : at_ < ns.length
 ·simp only [h,decide_true]
  walk_at "e0"
  rw [atI_ints h0 h]
  walk_at "e0"
  rw [e_mix k0 (by omega)]
  walk_at "e0"
  exact ⟨_,rfl⟩
 ·simp only [h,decide_false]
  walk_at "e0"
  rw [e_cell (by decide)]
  walk_at "e0"
  rw [mulD_i (by decide) (by decide) (by omega) (by omega)]
  walk_at "e0"
  rw [e_mix (by omega) (by omega)]
  walk_at "e0"
  exact ⟨_,rfl⟩
structure QOk (q : Pq) : Prop where
 l1 : 1≤q.2.2.2
 lC : q.2.2.2≤10000000000000000000000000000000000000000000000000000000000
 ne : q.1 ≠ q.2.1
theorem e_joined {ns : List Int} : ∃ ps,m__law_joined [.list (ns.map .int)] = some (true,psD ps)∧PsOk ps:=by
 unfold m__law_joined g__law_joined
 walk_at "e0"
 rw [e_cell (by decide)]
 walk_at "e0"
 rw [e_mix (by decide) (by decide)]
 walk_at "e0"
 generalize mixI (cellI ns 0) 0 = n
 simp only [modD_i (show (0 : Int) < 5 by decide)]
 walk_at "e0"
 simp only [divD_i (show (0 : Int) < 5 by decide) (by decide)]
 walk_at "e0"
 simp only [modD_i (show (0 : Int) < 9 by decide)]
 walk_at "e0"
 have hm:=mod_in n (show (0 : Int) < 5 by decide)
 have hk:=mod_in (n / 5) (show (0 : Int) < 9 by decide)
 generalize hM : 2 + n % 5 = m
 have m2 : 2≤m∧m≤6:=by omega
 generalize hZ : 2 + n / 5 % 9 = z
 have z2 : 2≤z∧z≤10:=by omega
 clear hM hZ hm hk
 rw [if_pos (by omega)]
 walk_at "e0"
 generalize hF : forG _ _ (rangeD 0 z.toNat) _ = o
 obtain ⟨S',rfl,hS⟩ : ∃ S',o = .nxt S'∧∃ (qs : List Pq) (x4 x5 x6 x7 x8 x9 : Option PyData),S' = [some (Tg.fr,.list (ns.map .int)),some (Tg.fr,.int n),some (Tg.fr,.int m),some (Tg.ow,.list (qs.map pD)),ob x4,ob x5,ob x6,ob x7,ob x8,ob x9]∧qs.length = 0 + (rangeD 0 z.toNat).length∧∀ q∈qs,QOk q:=by
  rw [← hF]
  refine forG_ok (fun i S=>∃ (qs : List Pq) (x4 x5 x6 x7 x8 x9 : Option PyData),S = [some (Tg.fr,.list (ns.map .int)),some (Tg.fr,.int n),some (Tg.fr,.int m),some (Tg.ow,.list (qs.map pD)),ob x4,ob x5,ob x6,ob x7,ob x8,ob x9]∧qs.length = i∧∀ q∈qs,QOk q) _ 0 _ ⟨[],none,none,none,none,none,none,rfl,rfl,by simp⟩ ?_
  rintro j d S hj ⟨qs,x4,x5,x6,x7,x8,x9,rfl,hq,ha⟩
  obtain ⟨hj,rfl⟩:=rangeD_get hj
  have hjz : (j : Int) < z:=by omega
  refine ⟨[some (Tg.fr,.list (ns.map .int)),some (Tg.fr,.int n),some (Tg.fr,.int m),some (Tg.ow,.list (qs.map pD)),some (Tg.fr,.int (0 + (j : Int))),ob x5,ob x6,ob x7,ob x8,ob x9],by walk_at "e0",?_⟩
  simp only [Int.zero_add]
  walk_at "e0"
  rw [e_cell (by omega)]
  walk_at "e0"
  obtain ⟨one,e1⟩:=e_far (ns:=ns) (at_:=2 + j) (k:=0) (by omega) (by omega) (by decide) (by decide)
  rw [e1]
  walk_at "e0"
  simp only [modD_i (show (0 : Int) < m by omega)]
  walk_at "e0"
  simp only [divD_i (show (0 : Int) < m by omega) (by omega)]
  walk_at "e0"
  simp only [modD_i (show (0 : Int) < m - 1 by omega)]
  walk_at "e0"
  simp only [modD_i (show (0 : Int) < m by omega)]
  walk_at "e0"
  simp only [divD_i (show (0 : Int) < 40 by decide) (by decide)]
  walk_at "e0"
  simp only [modD_i (show (0 : Int) < 5 by decide)]
  walk_at "e0"
  simp only [divD_i (show (0 : Int) < 200 by decide) (by decide)]
  walk_at "e0"
  simp only [modD_i (show (0 : Int) < 4 by decide),eqD_i]
  walk_at "e0"
  have a:=mod_in one (show 0 < m by omega)
  have d:=mod_in (one / m) (show 0 < m - 1 by omega)
  have e : one % m + 1 + one / m % (m - 1) = one % m + (1 + one / m % (m - 1)):=by omega
  rw [e]
  have nx:=mod_next (a:=one % m) (d:=1 + one / m % (m - 1)) (m:=m) a (by omega)
  generalize (one % m + (1 + one / m % (m - 1))) % m = b at *
  generalize one % m = aa at *
  generalize hI : bIf _ _ _ _ = o2
  obtain ⟨L,L1,LC,rfl⟩ : ∃ L : Int,1≤L∧L≤10000000000000000000000000000000000000000000000000000000000∧o2 = .nxt [some (Tg.fr,.list (ns.map .int)),some (Tg.fr,.int n),some (Tg.fr,.int m),some (Tg.ow,.list (qs.map pD)),some (Tg.fr,.int (j : Int)),some (Tg.fr,.int (cellI ns (2 + j))),some (Tg.fr,.int one),some (Tg.fr,.int aa),some (Tg.fr,.int b),some (Tg.fr,.int L)]:=by
   rw [← hI]
   by_cases hc : one / 200 % 4 = 0
   ·simp only [hc,decide_true]
    walk_at "e0"
    simp only [powD_i (show (0 : Int)≤58 by decide) (by decide) (show (0 : Int)≤10 by decide) (by decide)]
    walk_at "e0"
    rw [modD_i (by decide)]
    walk_at "e0"
    have hL:=mod_in (cellI ns (2 + j)) (show (0 : Int) < 10000000000000000000000000000000000000000000000000000000000 by decide)
    exact ⟨1 + cellI ns (2 + j) % 10000000000000000000000000000000000000000000000000000000000,by omega,by omega,rfl⟩
   ·simp only [hc,decide_false]
    walk_at "e0"
    have hL:=mod_in (one / 40) (show (0 : Int) < 5 by decide)
    exact ⟨1 + one / 40 % 5,by omega,by omega,rfl⟩
  clear hI
  walk_at "e0"
  simp only [divD_i (show (0 : Int) < 800 by decide) (by decide)]
  walk_at "e0"
  simp only [modD_i (show (0 : Int) < 9 by decide)]
  walk_at "e0"
  rw [if_pos (by rw [List.length_map]; exact size_big (by omega))]
  refine ⟨_,.inl rfl,qs ++ [(aa,b,1 + one / 800 % 9,L)],some (.int (j : Int)),some (.int (cellI ns (2 + j))),some (.int one),some (.int aa),some (.int b),some (.int L),?_,by rw [List.length_append,hq]; rfl,fun q h=>?_⟩
  ·rw [List.map_append]; rfl
  ·rcases List.mem_append.mp h with h | h
   ·exact ha q h
   ·rw [List.mem_singleton.mp h]; exact ⟨L1,LC,fun z=>nx.2.2 z.symm⟩
 obtain ⟨qs,x4,x5,x6,x7,x8,x9,rfl,hq,ha⟩:=hS
 rw [rangeD_length] at hq
 walk_at "e0"
 exact ⟨qs,rfl,by omega,by omega,fun q h=>(ha q h).l1,fun q h=>(ha q h).lC,fun q h=>(ha q h).ne⟩
theorem pD_eq (q : Pq) : pD q = .tuple [.int q.1,.int q.2.1,.int q.2.2.1,.int q.2.2.2]:=rfl
theorem jD_eq (j : Nat) : jD j = .int (j : Int):=rfl
theorem atI_lastJ {w : List Nat} (h : w ≠ []) : atI (w.map jD) (-1) = some (jD (w.getLast h)):=by
 unfold atI
 rw [ixN_last (by rw [List.length_map]; exact List.length_pos_iff.mpr h)]
 have e : (w.map jD)[(w.map jD).length - 1]? = some (jD (w.getLast h)):=by
  rw [List.length_map,List.getElem?_map,← List.getLast?_eq_getElem?,List.getLast?_eq_getLast h]; rfl
 exact e
theorem notIn_j (j : Nat) (w : List Nat) : ∃ b,notInD (.int (j : Int)) (.list (w.map jD)) = some (.bool b)∧(b = true→j ∉ w):=by
 have e : w.map jD = (w.map fun j : Nat=>(j : Int)).map PyData.int:=by rw [List.map_map]; rfl
 unfold notInD
 rw [e]
 simp only [intsOf_map]
 refine ⟨_,rfl,fun h hj=>?_⟩
 have : ((j : Nat) : Int)∈w.map fun j : Nat=>(j : Int):=List.mem_map.mpr ⟨j,hj,rfl⟩
 simp at h
 exact h j hj rfl
theorem pops {ps : List Pq} (P : PsOk ps) {c n : PyData} {x4 x5 x6 : Option PyData} : ∀ (k : Nat) (w : List Nat),w.length = k→w ≠ []→(∀ j∈w,j < ps.length)→w.Nodup→∃ w',w' ≠ []∧w'.length≤w.length∧(∀ j∈w',j < ps.length)∧w'.Nodup∧∃ f,
  whileN (vB (v2 eqD (v2 ixDt (v2 ixDt (vN 1) (v2 ixDt (vN 3) (v1 negD (vC (.int 1))))) (vC (.int 1))) (v2 ixDt (v2 ixDt (vN 1) (v2 ixDt (vN 3) (vC (.int 0)))) (vC (.int 0))))) (gPop 3) f
   [some (Tg.fr,c),some (Tg.fr,.list (ps.map pD)),some (Tg.fr,n),some (Tg.ow,.list (w.map jD)),ob x4,ob x5,ob x6] = .nxt [some (Tg.fr,c),some (Tg.fr,.list (ps.map pD)),some (Tg.fr,n),some (Tg.ow,.list (w'.map jD)),ob x4,ob x5,ob x6]:=fun k=>by
 induction k with
 | zero=>intro w e h; exact absurd (List.eq_nil_of_length_eq_zero e) h
 | succ k ih =>
  intro w e h hw hnd
  have hlast:=hw _ (List.getLast_mem h)
  obtain ⟨j0,r,rfl⟩ : ∃ j0 r,w = j0 :: r:=by
   cases w with
   | nil=>exact absurd rfl h
   | cons a r=>exact ⟨a,r,rfl⟩
  have h0:=hw j0 List.mem_cons_self
  have cond : ∀ q q0 : Pq,ps[(j0 :: r).getLast h]? = some q→ps[j0]? = some q0→vB (v2 eqD (v2 ixDt (v2 ixDt (vN 1) (v2 ixDt (vN 3) (v1 negD (vC (.int 1))))) (vC (.int 1))) (v2 ixDt (v2 ixDt (vN 1) (v2 ixDt (vN 3) (vC (.int 0)))) (vC (.int 0))))
   [some (Tg.fr,c),some (Tg.fr,.list (ps.map pD)),some (Tg.fr,n),some (Tg.ow,.list ((j0 :: r).map jD)),ob x4,ob x5,ob x6] = some (decide (q.2.1 = q0.1)):=fun q q0 h1 h2=>by
   walk_at "e0"
   have e3:=atI_lastJ h
   rw [List.map_cons] at e3
   rw [e3,jD_eq ((j0 :: r).getLast h)]
   walk_at "e0"
   rw [atI_of pD h1,pD_eq q]
   walk_at "e0"
   rw [jD_eq j0]
   walk_at "e0"
   rw [atI_of pD h2,pD_eq q0]
   walk_at "e0"
  have g1:=get_at hlast
  have g2:=get_at h0
  by_cases hc : (ps.getD ((j0 :: r).getLast h) (0,0,0,0)).2.1 = (ps.getD j0 (0,0,0,0)).1
  ·have hr : r ≠ []:=by
    intro z
    subst z
    simp only [List.getLast_singleton] at hc
    exact P.ne _ (List.mem_of_getElem? g2) hc.symm
   obtain ⟨w',h1,h2,h3,h5,f,h4⟩:=ih (j0 :: r).dropLast (by rw [List.length_dropLast]; omega) (by cases r with | nil=>exact absurd rfl hr | cons b t=>simp) (fun j hj=>hw j (List.dropLast_subset _ hj)) (hnd.sublist (List.dropLast_sublist _))
   refine ⟨w',h1,by rw [List.length_dropLast] at h2; omega,h3,h5,f + 1,?_⟩
   rw [whileN,cond _ _ g1 g2]
   simp only [hc,decide_true]
   have ep : gPop 3 [some (Tg.fr,c),some (Tg.fr,.list (ps.map pD)),some (Tg.fr,n),some (Tg.ow,.list ((j0 :: r).map jD)),ob x4,ob x5,ob x6] = .nxt [some (Tg.fr,c),some (Tg.fr,.list (ps.map pD)),some (Tg.fr,n),some (Tg.ow,.list ((j0 :: r).dropLast.map jD)),ob x4,ob x5,ob x6]:=by
    walk_at "e0"
    rw [if_neg (by simp),List.map_dropLast]
    rfl
   rw [ep]
   exact h4
  ·refine ⟨j0 :: r,h,Nat.le_refl _,hw,hnd,1,?_⟩
   rw [whileN,cond _ _ g1 g2]
   simp only [hc,decide_false]
theorem e_walk {c : Int} {ps : List Pq} (P : PsOk ps) : ∃ w : List Nat,m__law_walk [.int c,psD ps] = some (true,.list (w.map jD))∧w ≠ []∧w.length≤5∧(∀ j∈w,j < ps.length)∧w.Nodup:=by
 unfold m__law_walk g__law_walk
 have two:=P.two
 have ten:=P.ten
 walk_at "e0"
 rw [e_mix (by decide) (by decide)]
 unfold psD
 walk_at "e0"
 generalize mixI c 0 = n
 simp only [List.length_map]
 rw [modD_i (by omega)]
 walk_at "e0"
 simp only [divD_i (show (0 : Int) < 16 by decide) (by decide)]
 walk_at "e0"
 simp only [modD_i (show (0 : Int) < 5 by decide)]
 walk_at "e0"
 have hz:=mod_in (n / 16) (show (0 : Int) < 5 by decide)
 generalize n / 16 % 5 = z at *
 rw [if_pos (by omega)]
 walk_at "e0"
 obtain ⟨i0,hi0,hil⟩ : ∃ i0 : Nat,n % (ps.length : Int) = i0∧i0 < ps.length:=by
  have:=mod_in n (show (0 : Int) < ps.length by omega)
  exact ⟨(n % (ps.length : Int)).toNat,by omega,by omega⟩
 rw [hi0]
 generalize hF : forG _ _ (rangeD 0 z.toNat) _ = o
 obtain ⟨S',rfl,w,x4,x5,x6,rfl,wn,wl,wi,wd⟩ : ∃ S',o = .nxt S'∧∃ (w : List Nat) (x4 x5 x6 : Option PyData),S' = [some (Tg.fr,.int c),some (Tg.fr,.list (ps.map pD)),some (Tg.fr,.int n),some (Tg.ow,.list (w.map jD)),ob x4,ob x5,ob x6]∧w ≠ []∧w.length≤1 + (0 + (rangeD 0 z.toNat).length)∧(∀ j∈w,j < ps.length)∧w.Nodup:=by
  rw [← hF]
  refine forG_ok (fun i S=>∃ (w : List Nat) (x4 x5 x6 : Option PyData),S = [some (Tg.fr,.int c),some (Tg.fr,.list (ps.map pD)),some (Tg.fr,.int n),some (Tg.ow,.list (w.map jD)),ob x4,ob x5,ob x6]∧w ≠ []∧w.length≤1 + i∧(∀ j∈w,j < ps.length)∧w.Nodup) _ 0 _ ⟨[i0],none,none,none,rfl,by simp,by simp,by simp; exact hil,by simp⟩ ?_
  rintro j d S hj ⟨w,x4,x5,x6,rfl,wn,wl,wi,wd⟩
  obtain ⟨hj,rfl⟩:=rangeD_get hj
  refine ⟨[some (Tg.fr,.int c),some (Tg.fr,.list (ps.map pD)),some (Tg.fr,.int n),some (Tg.ow,.list (w.map jD)),some (Tg.fr,.int (0 + (j : Int))),ob x5,ob x6],by walk_at "e0",?_⟩
  simp only [Int.zero_add]
  walk_at "e0"
  rw [atI_lastJ wn]
  have hlast:=wi _ (List.getLast_mem wn)
  generalize w.getLast wn = jl at *
  rw [jD_eq jl]
  walk_at "e0"
  rw [atI_of pD (get_at hlast),pD_eq (ps.getD jl (0,0,0,0))]
  walk_at "e0"
  generalize (ps.getD jl (0,0,0,0)).2.1 = room
  simp only [List.length_map]
  rw [if_pos (by omega)]
  rw [bLCW_s (by rw [rangeD_length]; exact size_big (by omega))]
  have fil : ∀ i : Nat,∃ b : Bool,(b = true→i ∉ w)∧(i < ps.length→(tAnd2 (vB (v2 eqD (v2 ixDt (v2 ixDt (vN 3) (vN 0)) (vC (.int 0))) (vN 1))) (vB (v2 notInD (vN 0) (vN 2)))) [some (Tg.fr,.int (i : Int)),some (Tg.fr,.int room),some (Tg.fr,.list (w.map jD)),some (Tg.fr,.list (ps.map pD))] = some b):=fun i=>by
   by_cases hi : i < ps.length
   ·have e5:=atI_of pD (get_at hi)
    rw [pD_eq (ps.getD i (0,0,0,0))] at e5
    by_cases hr : (ps.getD i (0,0,0,0)).1 = room
    ·obtain ⟨b,hb,hbn⟩:=notIn_j i w
     refine ⟨b,hbn,fun _=>?_⟩
     walk_at "e0"
     rw [e5]
     walk_at "e0"
     simp only [hr,decide_true]
     walk_at "e0"
     rw [hb]
    ·refine ⟨false,fun z=>by (cases z),fun _=>?_⟩
     walk_at "e0"
     rw [e5]
     walk_at "e0"
     simp only [hr,decide_false]
     walk_at "e0"
   ·exact ⟨false,fun z=>by (cases z),fun z=>absurd z hi⟩
  obtain ⟨p,hp⟩:=Classical.axiomOfChoice fil
  rw [lcD_filter (p:=fun d=>match d with | .int i=>p i.toNat | _=>false) (f:=fun d=>d) (by
   intro d hd
   obtain ⟨i,hi⟩:=List.mem_iff_getElem?.mp hd
   obtain ⟨hi,rfl⟩:=rangeD_get hi
   refine ⟨[some (Tg.fr,.int (i : Int)),some (Tg.fr,.int room),some (Tg.fr,.list (w.map jD)),some (Tg.fr,.list (ps.map pD))],by simp only [Int.zero_add]; walk_at "e0",?_,fun _=>?_⟩
   ·rw [(hp i).2 (by omega)]
    simp
   ·simp only [Int.zero_add]; walk_at "e0")]
  have em : ((rangeD 0 (ps.length : Int).toNat).filter fun d=>match d with | .int i=>p i.toNat | _=>false).map (fun d=>d) = (((List.range ps.length).filter p).map jD):=by
   rw [List.map_id'']
   ·unfold rangeD
    rw [List.filter_map,Int.toNat_natCast]
    have : ((fun d=>match d with | PyData.int i=>p i.toNat | _=>false) ∘ fun i : Nat=>PyData.int (0 + (i : Int))) = p:=by funext i; simp
    rw [this]
    exact List.map_congr_left fun i _=>by simp [jD]
   ·intro d; rfl
  rw [em]
  have hmore : ∀ i∈(List.range ps.length).filter p,i < ps.length∧i ∉ w:=fun i hi=>⟨List.mem_range.mp (List.mem_filter.mp hi).1,(hp i).1 (List.mem_filter.mp hi).2⟩
  generalize (List.range ps.length).filter p = more at *
  walk_at "e0"
  rw [ne_nil _ (by
   have : ∀ v : List Nat,PyData.depthAll (v.map jD)≤1:=fun v=>by
    induction v with
    | nil=>simp [PyData.depthAll]
    | cons a v ih=>simp only [List.map_cons,PyData.depthAll,jD,PyData.depth]; omega
   have:=this more
   simp only [PyData.depth]; omega)]
  walk_at "e0"
  cases more with
  | nil =>
   simp only [List.map_nil,List.isEmpty_nil]
   walk_at "e0"
   exact ⟨_,.inl rfl,w,some (.int (j : Int)),some (.int room),some (.list []),rfl,wn,by omega,wi,wd⟩
  | cons a t =>
   simp only [List.map_cons,List.isEmpty_cons]
   walk_at "e0"
   rw [divD_i (show (0 : Int) < 7 + (j : Int) by omega) (by omega)]
   walk_at "e0"
   simp only [List.length_map]
   rw [modD_i (by omega)]
   walk_at "e0"
   obtain ⟨i,hi,hl⟩ : ∃ i : Nat,n / (7 + (j : Int)) % ((t.length + 1 : Nat) : Int) = i∧i < (a :: t).length:=by
    have:=mod_in (n / (7 + (j : Int))) (show (0 : Int) < ((t.length + 1 : Nat) : Int) by omega)
    exact ⟨(n / (7 + (j : Int)) % ((t.length + 1 : Nat) : Int)).toNat,by omega,by rw [List.length_cons]; omega⟩
   rw [hi]
   have e6:=atI_of jD (List.getElem?_eq_getElem hl)
   rw [List.map_cons] at e6
   rw [e6]
   have hin:=hmore _ (List.getElem_mem hl)
   generalize (a :: t)[i] = nx at *
   walk_at "e0"
   simp only [List.length_map]
   rw [if_pos (size_big (by omega))]
   refine ⟨_,.inl rfl,w ++ [nx],some (.int (j : Int)),some (.int room),some (.list (jD a :: t.map jD)),?_,by simp,by rw [List.length_append]; simp; omega,fun k hk=>?_,?_⟩
   ·rw [List.map_append]; rfl
   ·rcases List.mem_append.mp hk with h | h
    ·exact wi k h
    ·rw [List.mem_singleton.mp h]; exact hin.1
   ·refine List.nodup_append.mpr ⟨wd,by simp,fun b hb c hc=>?_⟩
    rw [List.mem_singleton.mp hc]
    intro z
    exact hin.2 (z ▸ hb)
 rw [rangeD_length] at wl
 walk_at "e0"
 obtain ⟨w',h1,h2,h3,h5,f,h4⟩:=pops P (c:=.int c) (n:=.int n) (x4:=x4) (x5:=x5) (x6:=x6) _ w rfl wn wi wd
 rw [gWh_eq h4 (by simp)]
 walk_at "e0"
 exact ⟨w',rfl,h1,by omega,h3,h5⟩
theorem e_plan {cs : List Int} {ps : List Pq} (P : PsOk ps) (hcs : cs.length≤63) : ∃ rs : List Row,m__law_plan [.list (cs.map .int),psD ps] = some (true,.list (rs.map rowD))∧(∀ r∈rs,RowOk ps r∧r.1.Nodup)∧rs.length≤2 * cs.length:=by
 unfold m__law_plan g__law_plan
 walk_at "e0"
 generalize hF : forG _ _ (cs.map PyData.int) _ = o
 obtain ⟨S',rfl,rs,x3,x4,x5,x6,rfl,hl,ha⟩ : ∃ S',o = .nxt S'∧∃ (rs : List Row) (x3 x4 x5 x6 : Option PyData),S' = [some (Tg.fr,.list (cs.map .int)),some (Tg.fr,psD ps),some (Tg.ow,.list (rs.map rowD)),ob x3,ob x4,ob x5,ob x6]∧rs.length≤2 * (0 + (cs.map PyData.int).length)∧∀ r∈rs,RowOk ps r∧r.1.Nodup:=by
  rw [← hF]
  refine forG_ok (fun i S=>∃ (rs : List Row) (x3 x4 x5 x6 : Option PyData),S = [some (Tg.fr,.list (cs.map .int)),some (Tg.fr,psD ps),some (Tg.ow,.list (rs.map rowD)),ob x3,ob x4,ob x5,ob x6]∧rs.length≤2 * i∧∀ r∈rs,RowOk ps r∧r.1.Nodup) _ 0 _ ⟨[],none,none,none,none,rfl,by simp,by simp⟩ ?_
  rintro j d S hj ⟨rs,x3,x4,x5,x6,rfl,hl,ha⟩
  have hjl : j < cs.length:=by have:=(List.getElem?_eq_some_iff.mp hj).1; rwa [List.length_map] at this
  rw [List.getElem?_map] at hj
  obtain ⟨c,hc,rfl⟩:=Option.map_eq_some_iff.mp hj
  refine ⟨[some (Tg.fr,.list (cs.map .int)),some (Tg.fr,psD ps),some (Tg.ow,.list (rs.map rowD)),some (Tg.fr,.int c),ob x4,ob x5,ob x6],by walk_at "e0",?_⟩
  walk_at "e0"
  rw [e_mix (by decide) (by decide)]
  walk_at "e0"
  generalize mixI c 1 = n
  simp only [divD_i (show (0 : Int) < 4 by decide) (by decide)]
  walk_at "e0"
  simp only [modD_i (show (0 : Int) < 6 by decide)]
  walk_at "e0"
  simp only [modD_i (show (0 : Int) < 4 by decide),eqD_i]
  walk_at "e0"
  generalize hI : bIf _ _ _ _ = o2
  obtain ⟨f,f0,fB,rfl⟩ : ∃ f : Int,0≤f∧f≤10000000000000000000000000000000000000000000000000000000000∧o2 = .nxt [some (Tg.fr,.list (cs.map .int)),some (Tg.fr,psD ps),some (Tg.ow,.list (rs.map rowD)),some (Tg.fr,.int c),some (Tg.fr,.int n),some (Tg.fr,.int f),ob x6]:=by
   rw [← hI]
   by_cases h : n % 4 = 0
   ·simp only [h,decide_true]
    walk_at "e0"
    simp only [powD_i (show (0 : Int)≤58 by decide) (by decide) (show (0 : Int)≤10 by decide) (by decide)]
    walk_at "e0"
    rw [modD_i (by decide)]
    walk_at "e0"
    have hL:=mod_in c (show (0 : Int) < 10000000000000000000000000000000000000000000000000000000000 by decide)
    exact ⟨c % 10000000000000000000000000000000000000000000000000000000000,by omega,by omega,rfl⟩
   ·simp only [h,decide_false]
    walk_at "e0"
    have hL:=mod_in (n / 4) (show (0 : Int) < 6 by decide)
    exact ⟨n / 4 % 6,by omega,by omega,rfl⟩
  clear hI
  walk_at "e0"
  simp only [divD_i (show (0 : Int) < 24 by decide) (by decide)]
  walk_at "e0"
  simp only [modD_i (show (0 : Int) < 5 by decide)]
  walk_at "e0"
  simp only [divD_i (show (0 : Int) < 120 by decide) (by decide)]
  walk_at "e0"
  simp only [modD_i (show (0 : Int) < 4 by decide),eqD_i]
  walk_at "e0"
  generalize hI : bIf _ _ _ _ = o2
  obtain ⟨l,l0,lB,rfl⟩ : ∃ l : Int,f≤l∧l≤f + 100000000000000000000000000000000000000000000000000000000000∧o2 = .nxt [some (Tg.fr,.list (cs.map .int)),some (Tg.fr,psD ps),some (Tg.ow,.list (rs.map rowD)),some (Tg.fr,.int c),some (Tg.fr,.int n),some (Tg.fr,.int f),some (Tg.fr,.int l)]:=by
   rw [← hI]
   by_cases h : n / 120 % 4 = 0
   ·simp only [h,decide_true]
    walk_at "e0"
    simp only [powD_i (show (0 : Int)≤59 by decide) (by decide) (show (0 : Int)≤10 by decide) (by decide)]
    walk_at "e0"
    rw [modD_i (by decide)]
    walk_at "e0"
    have hL:=mod_in c (show (0 : Int) < 100000000000000000000000000000000000000000000000000000000000 by decide)
    exact ⟨f + c % 100000000000000000000000000000000000000000000000000000000000,by omega,by omega,rfl⟩
   ·simp only [h,decide_false]
    walk_at "e0"
    have hL:=mod_in (n / 24) (show (0 : Int) < 5 by decide)
    exact ⟨f + n / 24 % 5,by omega,by omega,rfl⟩
  clear hI
  walk_at "e0"
  obtain ⟨w,ew,wn,w5,wi,wd⟩:=e_walk (c:=c) P
  rw [ew]
  walk_at "e0"
  rw [e_great (by decide) (by decide)]
  walk_at "e0"
  have hg:=great_in c 2
  generalize greatI c 2 = g at *
  have ro : RowOk ps (w,g,f,l):=⟨wn,w5,wi,hg.1,hg.2,f0,l0,by simp only; omega⟩
  simp only [List.length_map]
  rw [if_pos (size_big (by omega))]
  walk_at "e0"
  simp only [divD_i (show (0 : Int) < 480 by decide) (by decide)]
  walk_at "e0"
  simp only [modD_i (show (0 : Int) < 5 by decide),eqD_i]
  walk_at "e0"
  by_cases h : n / 480 % 5 = 0
  ·simp only [h,decide_true]
   walk_at "e0"
   rw [atI_snoc]
   walk_at "e0"
   simp only [divD_i (show (0 : Int) < 2400 by decide) (by decide)]
   walk_at "e0"
   simp only [modD_i (show (0 : Int) < 9 by decide)]
   walk_at "e0"
   simp only [divD_i (show (0 : Int) < 21600 by decide) (by decide)]
   walk_at "e0"
   simp only [modD_i (show (0 : Int) < 3 by decide)]
   walk_at "e0"
   simp only [List.length_append,List.length_map,List.length_cons,List.length_nil]
   rw [if_pos (size_big (by omega))]
   have b1:=mod_in (n / 2400) (show (0 : Int) < 9 by decide)
   have b2:=mod_in (n / 21600) (show (0 : Int) < 3 by decide)
   refine ⟨_,.inl rfl,rs ++ [(w,g,f,l),(w,1 + n / 2400 % 9,l + 1,l + 1 + n / 21600 % 3)],some (.int c),some (.int n),some (.int f),some (.int l),?_,by rw [List.length_append]; simp; omega,fun r hr=>?_⟩
   ·rw [List.map_append,List.append_assoc]; rfl
   ·rcases List.mem_append.mp hr with hr | hr
    ·exact ha r hr
    ·simp only [List.mem_cons,List.not_mem_nil,or_false] at hr
     rcases hr with rfl | rfl
     ·exact ⟨ro,wd⟩
     ·exact ⟨⟨wn,w5,wi,by simp only; omega,by simp only; omega,by simp only; omega,by simp only; omega,by simp only; omega⟩,wd⟩
  ·simp only [h,decide_false]
   walk_at "e0"
   refine ⟨_,.inl rfl,rs ++ [(w,g,f,l)],some (.int c),some (.int n),some (.int f),some (.int l),?_,by rw [List.length_append]; simp; omega,fun r hr=>?_⟩
   ·rw [List.map_append]; rfl
   ·rcases List.mem_append.mp hr with hr | hr
    ·exact ha r hr
    ·rw [List.mem_singleton.mp hr]; exact ⟨ro,wd⟩
 rw [List.length_map] at hl
 walk_at "e0"
 exact ⟨rs,rfl,ha,by omega⟩
theorem e_copied {rs : List Row} (h : rs.length≤1000) : m__law_copied [.list (rs.map rowD)] = some (true,.list (rs.map rowD)):=by
 unfold m__law_copied g__law_copied
 walk_at "e0"
 rw [bLC_s rfl (by rw [List.length_map]; exact size_big (by omega))]
 rw [lcD_map (f:=fun d=>d) (by
  intro d hd
  obtain ⟨r,hr,rfl⟩:=List.mem_map.mp hd
  refine ⟨[some (Tg.fr,.list (r.1.map jD)),some (Tg.fr,.int r.2.1),some (Tg.fr,.int r.2.2.1),some (Tg.fr,.int r.2.2.2)],?_,rfl,?_⟩
  ·unfold rowD; walk_at "e0"
  ·walk_at "e0"
   rfl)]
 walk_at "e0"
 rw [List.map_id'']
 intro d; rfl
theorem e_whole (n : Int) : m__law_whole [.int n] = some (false,.bool true):=by
 unfold m__law_whole g__law_whole
 walk_at "e0"
theorem e_numbers (xs : List Int) : m__law_numbers [.list (xs.map .int),.list (xs.map .int)] = some (false,.bool true):=by
 unfold m__law_numbers g__law_numbers
 walk_at "e0"
 simp only [decide_true]
 walk_at "e0"
 have key : ∀ (a b : PyData) (ys : List Int) (x y : Option PyData),∃ x' y',forG (gT 2 (gC (gN 2) (gC (gN 3) g0)))
   (gIf (tOr2 (tNot2 (vB (vCall m__law_whole (aC (vF 2) a0)))) (vB (v2 neD (vN 2) (vN 3)))) (gRet (vC (.bool false))) gNop) (zipD (ys.map .int) (ys.map .int)) [some (Tg.fr,a),some (Tg.fr,b),ob x,ob y] = .nxt [some (Tg.fr,a),some (Tg.fr,b),ob x',ob y']:=fun a b ys=>by
  induction ys with
  | nil=>intro x y; exact ⟨x,y,rfl⟩
  | cons i ys ih =>
   intro x y
   obtain ⟨x',y',hx⟩:=ih (some (.int i)) (some (.int i))
   refine ⟨x',y',?_⟩
   have ez : zipD ((i :: ys).map PyData.int) ((i :: ys).map .int) = .tuple [.int i,.int i] :: zipD (ys.map .int) (ys.map .int):=rfl
   rw [ez,forG]
   walk_at "e0"
   rw [e_whole]
   walk_at "e0"
   simp only [decide_true]
   walk_at "e0"
   simp only [ob_some] at hx
   exact hx
 obtain ⟨x',y',hx⟩:=key (.list (xs.map .int)) (.list (xs.map .int)) xs none none
 simp only [ob_none] at hx
 rw [hx]
 walk_at "e0"
theorem script_cut {ns : List Int} (lo hi : Int) (hl : ns.length≤63) : ∃ cs : List Int,cutD (ns.map .int) (some lo) (some hi) = cs.map .int∧cs.length≤63:=by
 refine ⟨_,cutD_map _ _ _ _,?_⟩
 rw [List.length_take,List.length_drop]
 omega
theorem script_cut20 {ns : List Int} : ∃ cs : List Int,cutD (ns.map .int) (some 12) (some 32) = cs.map .int∧cs.length≤20:=by
 refine ⟨_,cutD_map _ _ _ _,?_⟩
 rw [List.length_take,List.length_drop]
 have e1 : HT.sIx ns.length ns.length (some 32) = min 32 ns.length:=HT.sIx_nat _ _ 32
 have e2 : HT.sIx ns.length 0 (some 12) = min 12 ns.length:=HT.sIx_nat _ _ 12
 rw [e1,e2]
 omega
end K43
namespace K43
open PySem L2 VM PL
noncomputable def lgD (s : Leg) : PyData:=.tuple [.int (s.1 : Int),.int s.2.2.1,.int s.2.2.2,.int s.2.1]
theorem legsF_get (ps : List Pq) (n f l : Int) : ∀ (w : List Nat) (t : Int) (j x : Nat),w[j]? = some x→(legsF ps n f l w t)[j]? = some (x,n,f + (t + lenW ps (w.take j)),l + (t + lenW ps (w.take j)))
 | [],_,j,x,h=>by simp at h
 | a :: w,t,0,x,h=>by
  simp only [List.getElem?_cons_zero,Option.some.injEq] at h
  subst h
  simp [legsF,lenW]
 | a :: w,t,j + 1,x,h=>by
  rw [List.getElem?_cons_succ] at h
  have e : lenW ps (a :: w.take j) = lenAt ps a + lenW ps (w.take j):=by simp [lenW]
  rw [legsF,List.getElem?_cons_succ,legsF_get ps n f l w _ j x h,List.take_succ_cons,e]
  simp only [Int.add_assoc]
theorem cut_take {α : Type} (f : α→PyData) (xs : List α) {k : Nat} (h : k≤xs.length) : cutD (xs.map f) none (some (k : Int)) = (xs.take k).map f:=by
 rw [cutD_map,HT.sIx_none,HT.sIx_nat,List.drop_zero,Nat.sub_zero,Nat.min_eq_left h]
theorem e_legs {ps : List Pq} {rs : List Row} (R : ∀ r ∈ rs, RowOk ps r) (hl : rs.length ≤ 1000) : m__law_legs [psD ps, .list (rs.map rowD)] = some (true, .list ((legs ps rs).map lgD)) := by
  unfold m__law_legs g__law_legs psD
  walk_at "e0"
  have key : ∀ (all : PyData) (xs : List Row) (acc : List Leg) (x3 x4 x5 x6 x7 x8 : Option PyData), (∀ r ∈ xs, RowOk ps r) → acc.length + 5 * xs.length ≤ 1000000 → ∃ x3' x4' x5' x6' x7' x8', forG (gT 4 (gC (gN 3) (gC (gN 4) (gC (gN 5) (gC (gN 6) g0)))))
      (gFor (vRng1 (aC (vCB lenD (aC (vN 3) a0)) a0)) (gN 7)
 (gSeq (gAs (vCB sumD (aC (vLC (vItems (vSlL (vN 3) oN (oI (vN 7)))) [none, some 0] (gN 0) cTrue (v2 ixDt (v2 ixDt (vN 1) (vN 0)) (vC (.int 3)))) a0)) (gN 8))
 (gApp 2 (aC (vTup (aC (v2 ixDt (vN 3) (vN 7)) (aC (v2 addD (vN 5) (vN 8)) (aC (v2 addD (vN 6) (vN 8)) (aC (vF 4) a0))))) a0)))) (xs.map rowD) [some (Tg.fr, .list (ps.map pD)), some (Tg.fr, all), some (Tg.ow, .list (acc.map lgD)), ob x3, ob x4, ob x5, ob x6, ob x7, ob x8]
      = .nxt [some (Tg.fr, .list (ps.map pD)), some (Tg.fr, all), some (Tg.ow, .list ((acc ++ legs ps xs).map lgD)), ob x3', ob x4', ob x5', ob x6', ob x7', ob x8'] := fun all xs => by
    induction xs with
    | nil => intro acc x3 x4 x5 x6 x7 x8 _ _; exact ⟨x3, x4, x5, x6, x7, x8, by simp [forG, legs]⟩
    | cons r xs ih =>
      intro acc x3 x4 x5 x6 x7 x8 h hb
      have ro := h r List.mem_cons_self
      have w5 := ro.w5
      have wi := ro.ix
      simp only [List.length_cons] at hb
      obtain ⟨w, n, f, l⟩ := r
      simp only at w5 wi
      rw [List.map_cons, forG]
      unfold rowD
      walk_at "e0"
      simp only [List.length_map]
      rw [if_pos (by omega)]
      walk_at "e0"
      simp only [Int.toNat_natCast]
      generalize hF : forG (gN 7) _ (rangeD 0 w.length) _ = o
      obtain ⟨S', rfl, y7, y8, rfl⟩ : ∃ S', o = .nxt S' ∧ ∃ (y7 y8 : Option PyData), S' = [some (Tg.fr, .list (ps.map pD)), some (Tg.fr, all), some (Tg.ow, .list ((acc ++ (legsF ps n f l w 0).take (0 + (rangeD 0 w.length).length)).map lgD)), some (Tg.fr, .list (w.map jD)), some (Tg.fr, .int n), some (Tg.fr, .int f), some (Tg.fr, .int l), ob y7, ob y8] := by
        rw [← hF]
        refine forG_ok (fun i S => ∃ (y7 y8 : Option PyData), S = [some (Tg.fr, .list (ps.map pD)), some (Tg.fr, all), some (Tg.ow, .list ((acc ++ (legsF ps n f l w 0).take i).map lgD)), some (Tg.fr, .list (w.map jD)), some (Tg.fr, .int n), some (Tg.fr, .int f), some (Tg.fr, .int l), ob y7, ob y8]) _ 0 _ ⟨x7, x8, by rw [List.take_zero, List.append_nil]⟩ ?_
        rintro j d S hj ⟨y7, y8, rfl⟩
        obtain ⟨hjw, rfl⟩ := rangeD_get hj
        refine ⟨[some (Tg.fr, .list (ps.map pD)), some (Tg.fr, all), some (Tg.ow, .list ((acc ++ (legsF ps n f l w 0).take (0 + j)).map lgD)), some (Tg.fr, .list (w.map jD)), some (Tg.fr, .int n), some (Tg.fr, .int f), some (Tg.fr, .int l), some (Tg.fr, .int (0 + (j : Int))), ob y8], by walk_at "e0", ?_⟩
        simp only [Int.zero_add, Nat.zero_add]
        walk_at "e0"
        rw [cut_take jD w (Nat.le_of_lt hjw)]
        rw [bLC_s rfl (by rw [List.length_map, List.length_take]; exact size_big (by omega))]
        rw [lcD_map (f := fun d => match d with | .int j => .int (lenAt ps j.toNat) | _ => .none) (by
          intro d hd
          obtain ⟨i, hi, rfl⟩ := List.mem_map.mp hd
          have hil := wi i (List.mem_of_mem_take hi)
          refine ⟨[some (Tg.fr, .int (i : Int)), some (Tg.fr, .list (ps.map pD))], ?_, rfl, ?_⟩
          · unfold jD; walk_at "e0"
          · walk_at "e0"
            rw [atI_of pD (get_at hil)]
            unfold pD jD lenAt
            walk_at "e0"
            simp only [Int.toNat_natCast])]
        walk_at "e0"
        rw [List.map_map]
        have e : ((w.take j).map ((fun d => match d with | .int j => PyData.int (lenAt ps j.toNat) | _ => .none) ∘ jD)) = ((w.take j).map (lenAt ps)).map .int := by
          rw [List.map_map]
          exact List.map_congr_left fun j _ => by simp [jD]
        rw [e]
        simp only [sumD, intsOf_map]
        walk_at "e0"
        have e2 : w[j]? = some w[j] := List.getElem?_eq_getElem hjw
        rw [atI_of jD e2]
        walk_at "e0"
        have e3 := legsF_get ps n f l w 0 j _ e2
        have hlf := legsF_length ps n f l w 0
        simp only [List.length_map, List.length_append, List.length_take]
        rw [if_pos (size_big (by omega))]
        refine ⟨_, .inl rfl, some (.int (j : Int)), some (.int ((w.take j).map (lenAt ps)).sum), ?_⟩
        rw [List.take_succ, e3]
        simp only [Int.zero_add, Option.toList, List.map_append, List.map_cons, List.map_nil, ob_some, List.append_assoc]
        rfl
      rw [rangeD_length, Nat.zero_add, ← legsF_length ps n f l w 0, List.take_length]
      obtain ⟨y3, y4, y5, y6, z7, z8, hx⟩ := ih (acc ++ legsF ps n f l w 0) (some (.list (w.map jD))) (some (.int n)) (some (.int f)) (some (.int l)) y7 y8 (fun r hr => h r (List.mem_cons_of_mem _ hr)) (by rw [List.length_append, legsF_length]; omega)
      refine ⟨y3, y4, y5, y6, z7, z8, ?_⟩
      rw [legs, ← List.append_assoc]
      simp only [ob_some] at hx
      exact hx
  obtain ⟨x3, x4, x5, x6, x7, x8, hx⟩ := key (.list (rs.map rowD)) rs [] none none none none none none R (by simp; omega)
  simp only [ob_none, List.map_nil, List.nil_append] at hx
  rw [hx]
  walk_at "e0"
theorem e_now {ss : List Leg} {k : Nat} {m : Int} (hk : k ≤ 1000) (h : ∀ s ∈ ss, s.1 < k) : m__law_now [.list (ss.map lgD), .int (k : Int), .int m] = some (true, .list ((setF m ss (List.replicate k 0)).map .int)) := by
  unfold m__law_now g__law_now
  walk_at "e0"
  rw [repD_one _ (by omega)]
  walk_at "e0"
  have key : ∀ (a b : PyData) (xs : List Leg) (c : List Int) (x4 x5 x6 x7 : Option PyData), (∀ s ∈ xs, s.1 < c.length) → ∃ x4' x5' x6' x7', forG (gT 4 (gC (gN 4) (gC (gN 5) (gC (gN 6) (gC (gN 7) g0)))))
      (gIf (tAnd2 (vB (v2 leD (vN 5) (vN 2))) (vB (v2 leD (vN 2) (vN 6))))
 (gPut 3 (vN 4) (v2 addD (v2 ixDt (vN 3) (vN 4)) (vN 7)))
 gNop) (xs.map lgD) [some (Tg.fr, a), some (Tg.fr, b), some (Tg.fr, .int m), some (Tg.ow, .list (c.map .int)), ob x4, ob x5, ob x6, ob x7]
      = .nxt [some (Tg.fr, a), some (Tg.fr, b), some (Tg.fr, .int m), some (Tg.ow, .list ((setF m xs c).map .int)), ob x4', ob x5', ob x6', ob x7'] := fun a b xs => by
    induction xs with
    | nil => intro c x4 x5 x6 x7 _; exact ⟨x4, x5, x6, x7, by simp [forG, setF]⟩
    | cons s xs ih =>
      intro c x4 x5 x6 x7 h
      have hs := h s List.mem_cons_self
      have hr : ∀ c' : List Int, c'.length = c.length → ∀ s ∈ xs, s.1 < c'.length := fun c' e s hs => by rw [e]; exact h s (List.mem_cons_of_mem _ hs)
      obtain ⟨j, n, f, l⟩ := s
      rw [List.map_cons, forG, setF]
      unfold lgD
      walk_at "e0"
      by_cases h1 : f ≤ m
      · by_cases h2 : m ≤ l
        · obtain ⟨y4, y5, y6, y7, hx⟩ := ih (c.set j (c.getD j 0 + n)) (some (.int (j : Int))) (some (.int f)) (some (.int l)) (some (.int n)) (hr _ (by rw [List.length_set]))
          refine ⟨y4, y5, y6, y7, ?_⟩
          simp only [h1, decide_true]
          walk_at "e0"
          simp only [h2, decide_true]
          walk_at "e0"
          have hs' : j < c.length := hs
          rw [atI_nat (at_int hs')]
          walk_at "e0"
          simp only [List.length_map, ixN_of hs]
          walk_at "e0"
          simp only [ob_some, List.map_set] at hx
          simp only [and_self, ↓reduceIte]
          exact hx
        · obtain ⟨y4, y5, y6, y7, hx⟩ := ih c (some (.int (j : Int))) (some (.int f)) (some (.int l)) (some (.int n)) (hr _ rfl)
          refine ⟨y4, y5, y6, y7, ?_⟩
          simp only [h1, decide_true]
          walk_at "e0"
          simp only [h2, decide_false]
          walk_at "e0"
          simp only [ob_some] at hx
          simp only [and_false, ↓reduceIte]
          exact hx
      · obtain ⟨y4, y5, y6, y7, hx⟩ := ih c (some (.int (j : Int))) (some (.int f)) (some (.int l)) (some (.int n)) (hr _ rfl)
        refine ⟨y4, y5, y6, y7, ?_⟩
        simp only [h1, decide_false]
        walk_at "e0"
        simp only [ob_some] at hx
        simp only [false_and, ↓reduceIte]
        exact hx
  obtain ⟨x4, x5, x6, x7, hx⟩ := key (.list (ss.map lgD)) (.int (k : Int)) ss (List.replicate k 0) none none none none (by rw [List.length_replicate]; exact h)
  simp only [ob_none, List.map_replicate] at hx
  rw [hx]
  walk_at "e0"
theorem depth_legs (ss : List Leg) : PyData.depthAll (ss.map lgD)≤2:=by
 induction ss with
 | nil=>simp [PyData.depthAll]
 | cons q ps ih =>
  have : (lgD q).depth≤2:=by simp [lgD,PyData.depth,PyData.depthAll]
  simp only [List.map_cons,PyData.depthAll]
  omega
theorem e_moments {ss : List Leg} {cs : List Int} (hc : cs.length≤63) : ∃ ms : List Int,m__law_moments [.list (ss.map lgD),.list (cs.map .int)] = some (true,.list (ms.map .int)):=by
 unfold m__law_moments g__law_moments
 walk_at "e0"
 simp only [powD_i (show (0 : Int)≤59 by decide) (by decide) (show (0 : Int)≤10 by decide) (by decide)]
 walk_at "e0"
 generalize hF : forG _ _ (enumD 0 (cs.map PyData.int)) _ = o
 obtain ⟨S',rfl,ms,x3,x4,x5,rfl,hl⟩ : ∃ S',o = .nxt S'∧∃ (ms : List Int) (x3 x4 x5 : Option PyData),S' = [some (Tg.fr,.list (ss.map lgD)),some (Tg.fr,.list (cs.map .int)),some (Tg.ow,.list (ms.map .int)),ob x3,ob x4,ob x5]∧ms.length≤2 + 5 * (0 + (enumD 0 (cs.map PyData.int)).length):=by
  rw [← hF]
  refine forG_ok (fun i S=>∃ (ms : List Int) (x3 x4 x5 : Option PyData),S = [some (Tg.fr,.list (ss.map lgD)),some (Tg.fr,.list (cs.map .int)),some (Tg.ow,.list (ms.map .int)),ob x3,ob x4,ob x5]∧ms.length≤2 + 5 * i) _ 0 _ ⟨[0,100000000000000000000000000000000000000000000000000000000000],none,none,none,rfl,by simp⟩ ?_
  rintro j d S hj ⟨ms,x3,x4,x5,rfl,hl⟩
  rw [enumD_get,List.getElem?_map] at hj
  cases eq : cs[j]? with
  | none=>rw [eq] at hj; cases hj
  | some c =>
   rw [eq] at hj
   have hjl : j < cs.length:=(List.getElem?_eq_some_iff.mp eq).1
   cases hj
   refine ⟨[some (Tg.fr,.list (ss.map lgD)),some (Tg.fr,.list (cs.map .int)),some (Tg.ow,.list (ms.map .int)),some (Tg.fr,.int ((0 + j : Nat) : Int)),some (Tg.fr,.int c),ob x5],by walk_at "e0",?_⟩
   walk_at "e0"
   rw [e_mix (by decide) (by decide)]
   walk_at "e0"
   simp only [modD_i (show (0 : Int) < 20 by decide)]
   walk_at "e0"
   simp only [List.length_map]
   rw [if_pos (size_big (by omega))]
   walk_at "e0"
   generalize mixI c 0 % 20 = y0 at *
   have dr:=depth_legs ss
   rw [ne_nil _ (by simp only [PyData.depth]; omega)]
   walk_at "e0"
   cases ss with
   | nil =>
    simp only [List.map_nil,List.isEmpty_nil]
    walk_at "e0"
    refine ⟨_,.inl rfl,ms ++ [y0],some (.int ((0 + j : Nat) : Int)),some (.int c),x5,?_,by rw [List.length_append]; simp; omega⟩
    rw [List.map_append]; rfl
   | cons r0 rs =>
    simp only [List.map_cons,List.isEmpty_cons]
    walk_at "e0"
    rw [e_mix (by decide) (by decide)]
    walk_at "e0"
    simp only [List.length_map]
    rw [modD_i (by omega)]
    walk_at "e0"
    obtain ⟨i,hi,hil⟩ : ∃ i : Nat,mixI c 1 % ((rs.length + 1 : Nat) : Int) = i∧i < (r0 :: rs).length:=by
     have:=mod_in (mixI c 1) (show (0 : Int) < ((rs.length + 1 : Nat) : Int) by omega)
     exact ⟨(mixI c 1 % ((rs.length + 1 : Nat) : Int)).toNat,by omega,by rw [List.length_cons]; omega⟩
    rw [hi]
    have e6:=atI_of lgD (List.getElem?_eq_getElem hil)
    rw [List.map_cons] at e6
    rw [e6]
    generalize (r0 :: rs)[i] = r at *
    obtain ⟨w,n,f,l⟩:=r
    have e7 : lgD (w,n,f,l) = .tuple [.int (w : Int),.int f,.int l,.int n]:=rfl
    rw [e7]
    walk_at "e0"
    have ec : ∀ y,catD (.list (ms.map PyData.int ++ [.int y0])) (.list [.int y,.int f,.int l,.int (l + 1)]) = some (.list ((ms ++ [y0,y,f,l,l + 1]).map .int)):=fun y=>by
     rw [catD_s (by simp only [List.length_append,List.length_map,List.length_cons,List.length_nil]; omega)]
     simp
    rw [ec]
    walk_at "e0"
    exact ⟨_,.inl rfl,_,some (.int ((0 + j : Nat) : Int)),some (.int c),some (.tuple [.int (w : Int),.int f,.int l,.int n]),rfl,by rw [List.length_append]; simp; omega⟩
 walk_at "e0"
 exact ⟨ms,rfl⟩
end K43
namespace K43
open PySem L2 VM PL ST
noncomputable def cnt (j : Nat) (m : Int) : List Leg→Int
 | []=>0
 | s :: r=>(if s.1 = j∧s.2.2.1≤m∧m≤s.2.2.2 then s.2.1 else 0) + cnt j m r
noncomputable def evs (j : Nat) : List Leg→List P2
 | []=>[]
 | s :: r=>if s.1 = j then (s.2.2.1,s.2.1) :: (s.2.2.2 + 1,-s.2.1) :: evs j r else evs j r
noncomputable def smT (t : Int) : List P2→Int
 | []=>0
 | p :: r=>(if p.1≤t then p.2 else 0) + smT t r
noncomputable def sm : List P2→Int
 | []=>0
 | p :: r=>p.2 + sm r
structure LegOk (s : Leg) : Prop where
 n1 : 1≤s.2.1
 fl : s.2.2.1≤s.2.2.2
theorem smT_evs (j : Nat) (t : Int) : ∀ {ss : List Leg},(∀ s∈ss,LegOk s)→smT t (evs j ss) = cnt j t ss
 | [],_=>rfl
 | s :: r,h=>by
  have ih:=smT_evs j t (ss:=r) fun s hs=>h s (List.mem_cons_of_mem _ hs)
  have hs:=h s List.mem_cons_self
  have fl:=hs.fl
  rw [evs,cnt]
  by_cases e : s.1 = j
  ·rw [if_pos e,smT,smT,ih]
   by_cases c1 : s.2.2.1≤t
   ·by_cases c2 : t≤s.2.2.2
    ·rw [if_pos c1,if_neg (by show ¬ s.2.2.2 + 1≤t; omega),if_pos ⟨e,c1,c2⟩]; omega
    ·rw [if_pos c1,if_pos (by show s.2.2.2 + 1≤t; omega),if_neg (fun z=>c2 z.2.2)]
     show s.2.1 + (-s.2.1 + _) = _
     omega
   ·rw [if_neg c1,if_neg (by show ¬ s.2.2.2 + 1≤t; omega),if_neg (fun z=>c1 z.2.1)]; omega
  ·rw [if_neg e,if_neg (fun z=>e z.1),ih]; omega
theorem smT_perm {l k : List P2} (t : Int) (h : l.Perm k) : smT t l = smT t k:=by
 induction h with
 | nil=>rfl
 | cons x _ ih=>rw [smT,smT,ih]
 | swap x y l=>simp only [smT]; omega
 | trans _ _ a b=>exact a.trans b
theorem smT_append (t : Int) : ∀ (l k : List P2),smT t (l ++ k) = smT t l + smT t k
 | [],k=>by rw [List.nil_append,smT]; omega
 | p :: r,k=>by rw [List.cons_append,smT,smT,smT_append t r k]; omega
theorem smT_all {t : Int} : ∀ {l : List P2},(∀ p∈l,p.1≤t)→smT t l = sm l
 | [],_=>rfl
 | p :: r,h=>by rw [smT,sm,if_pos (h p List.mem_cons_self),smT_all fun q hq=>h q (List.mem_cons_of_mem _ hq)]
theorem smT_none {t : Int} : ∀ {l : List P2},(∀ p∈l,t < p.1)→smT t l = 0
 | [],_=>rfl
 | p :: r,h=>by rw [smT,if_neg (by have:=h p List.mem_cons_self; omega),smT_none fun q hq=>h q (List.mem_cons_of_mem _ hq)]; omega
theorem smT_nonneg {t : Int} : ∀ {l : List P2},(∀ p∈l,p.1≤t→0≤p.2)→0≤smT t l
 | [],_=>Int.le_refl _
 | p :: r,h=>by
  have ih:=smT_nonneg (t:=t) (l:=r) fun q hq=>h q (List.mem_cons_of_mem _ hq)
  have:=h p List.mem_cons_self
  rw [smT]
  split
  ·rename_i c; have:=this c; omega
  ·omega
theorem cnt_at (j : Nat) (m : Int) (all : List Leg) (ha : ∀ s∈all,LegOk s) : ∀ ss : List Leg,(∀ s∈ss,s∈all)→cnt j m ss≤0∨∃ s∈ss,s.1 = j∧s.2.2.1≤m∧m≤s.2.2.2∧∀ u∈ss,u.1 = j→u.2.2.1≤m→m≤u.2.2.2→u.2.2.1≤s.2.2.1
 | [],_=>.inl (Int.le_refl _)
 | s :: r,h=>by
  by_cases c : s.1 = j∧s.2.2.1≤m∧m≤s.2.2.2
  ·right
   rcases cnt_at j m all ha r fun u hu=>h u (List.mem_cons_of_mem _ hu) with z | ⟨u,hu,c1,c2,c3,c4⟩
   ·by_cases e : ∃ u∈r,u.1 = j∧u.2.2.1≤m∧m≤u.2.2.2
    ·exfalso
     have pos : ∀ (r : List Leg),(∀ u∈r,LegOk u)→(∃ u∈r,u.1 = j∧u.2.2.1≤m∧m≤u.2.2.2)→0 < cnt j m r:=fun r=>by
      induction r with
      | nil=>rintro _ ⟨u,hu,_⟩; cases hu
      | cons v r ih =>
       rintro hr ⟨u,hu,hc⟩
       have hv:=(hr v List.mem_cons_self).n1
       have nn : ∀ (r : List Leg),(∀ u∈r,LegOk u)→0≤cnt j m r:=fun r=>by
        induction r with
        | nil=>intro _; exact Int.le_refl _
        | cons v r ih =>
         intro hr
         have:=ih fun u hu=>hr u (List.mem_cons_of_mem _ hu)
         have:=(hr v List.mem_cons_self).n1
         rw [cnt]; split <;> omega
       rw [cnt]
       rcases List.mem_cons.mp hu with rfl | hu
       ·rw [if_pos hc]
        have:=nn r fun u hu=>hr u (List.mem_cons_of_mem _ hu)
        omega
       ·have:=ih (fun u hu=>hr u (List.mem_cons_of_mem _ hu)) ⟨u,hu,hc⟩
        split <;> omega
     have:=pos r (fun u hu=>ha u (h u (List.mem_cons_of_mem _ hu))) e
     omega
    ·refine ⟨s,List.mem_cons_self,c.1,c.2.1,c.2.2,fun u hu d1 d2 d3=>?_⟩
     rcases List.mem_cons.mp hu with rfl | hu
     ·exact Int.le_refl _
     ·exact absurd ⟨u,hu,d1,d2,d3⟩ e
   ·by_cases g : s.2.2.1≤u.2.2.1
    ·refine ⟨u,List.mem_cons_of_mem _ hu,c1,c2,c3,fun v hv d1 d2 d3=>?_⟩
     rcases List.mem_cons.mp hv with rfl | hv
     ·exact g
     ·exact c4 v hv d1 d2 d3
    ·refine ⟨s,List.mem_cons_self,c.1,c.2.1,c.2.2,fun v hv d1 d2 d3=>?_⟩
     rcases List.mem_cons.mp hv with rfl | hv
     ·exact Int.le_refl _
     ·have:=c4 v hv d1 d2 d3; omega
  ·rcases cnt_at j m all ha r fun u hu=>h u (List.mem_cons_of_mem _ hu) with z | ⟨u,hu,c1,c2,c3,c4⟩
   ·left; rw [cnt,if_neg c]; omega
   ·right
    refine ⟨u,List.mem_cons_of_mem _ hu,c1,c2,c3,fun v hv d1 d2 d3=>?_⟩
    rcases List.mem_cons.mp hv with rfl | hv
    ·exact absurd ⟨d1,d2,d3⟩ c
    ·exact c4 v hv d1 d2 d3
theorem cnt_mono {j : Nat} {m m' : Int} : ∀ {ss : List Leg},(∀ s∈ss,LegOk s)→(∀ s∈ss,s.1 = j→s.2.2.1≤m→m≤s.2.2.2→s.2.2.1≤m'∧m'≤s.2.2.2)→cnt j m ss≤cnt j m' ss
 | [],_,_=>Int.le_refl _
 | s :: r,h,k=>by
  have ih:=cnt_mono (ss:=r) (fun u hu=>h u (List.mem_cons_of_mem _ hu)) fun u hu=>k u (List.mem_cons_of_mem _ hu)
  have n1:=(h s List.mem_cons_self).n1
  rw [cnt,cnt]
  by_cases c : s.1 = j∧s.2.2.1≤m∧m≤s.2.2.2
  ·have:=k s List.mem_cons_self c.1 c.2.1 c.2.2
   rw [if_pos c,if_pos ⟨c.1,this.1,this.2⟩]; omega
  ·rw [if_neg c]; split <;> omega
theorem cnt_first (j : Nat) (m : Int) {ss : List Leg} (h : ∀ s∈ss,LegOk s) : cnt j m ss≤0∨∃ s∈ss,s.1 = j∧cnt j m ss≤cnt j s.2.2.1 ss:=by
 rcases cnt_at j m ss h ss fun _ z=>z with z | ⟨s,hs,c1,c2,c3,c4⟩
 ·exact .inl z
 ·refine .inr ⟨s,hs,c1,cnt_mono h fun u hu d1 d2 d3=>?_⟩
  have:=c4 u hu d1 d2 d3
  omega
noncomputable def hiP : List P2→Int→Int→Int
 | [],_,m=>m
 | p :: r,c,m=>hiP r (c + p.2) (if c + p.2 > m then c + p.2 else m)
theorem hiP_ge : ∀ (l : List P2) (c m : Int),m≤hiP l c m∧∀ i,0 < i→i≤l.length→c + sm (l.take i)≤hiP l c m
 | [],c,m=>⟨Int.le_refl _,fun i h1 h2=>by simp at h2; omega⟩
 | p :: r,c,m=>by
  have ih:=hiP_ge r (c + p.2) (if c + p.2 > m then c + p.2 else m)
  rw [hiP]
  have h0 : m≤(if c + p.2 > m then c + p.2 else m):=by split <;> omega
  have h00 : c + p.2≤(if c + p.2 > m then c + p.2 else m):=by split <;> omega
  refine ⟨Int.le_trans h0 ih.1,fun i h1 h2=>?_⟩
  obtain ⟨k,rfl⟩ : ∃ k,i = k + 1:=⟨i - 1,by omega⟩
  rw [List.take_succ_cons,sm]
  by_cases hk : k = 0
  ·subst hk
   rw [List.take_zero,sm]
   have:=Int.le_trans h00 ih.1
   omega
  ·have:=ih.2 k (by omega) (by simp at h2; omega)
   omega
theorem hiP_at : ∀ (l : List P2) (c m : Int),hiP l c m = m∨∃ i,0 < i∧i≤l.length∧hiP l c m = c + sm (l.take i)
 | [],c,m=>.inl rfl
 | p :: r,c,m=>by
  rw [hiP]
  rcases hiP_at r (c + p.2) (if c + p.2 > m then c + p.2 else m) with h | ⟨i,h1,h2,h3⟩
  ·rw [h]
   split
   ·exact .inr ⟨1,by omega,by simp,by rw [List.take_succ_cons,List.take_zero,sm,sm]; omega⟩
   ·exact .inl rfl
  ·refine .inr ⟨i + 1,by omega,by simp; omega,?_⟩
   rw [h3,List.take_succ_cons,sm]; omega
theorem pre_le {l : List P2} (hs : PS l) {i : Nat} (h1 : 0 < i) (h2 : i≤l.length) : ∃ t,sm (l.take i)≤smT t l:=by
 obtain ⟨k,rfl⟩ : ∃ k,i = k + 1:=⟨i - 1,by omega⟩
 have hk : k < l.length:=by omega
 have lowB : ∀ p∈l.take k,lx l[k] p = false:=fun p hp=>by
  obtain ⟨j,hj,rfl⟩:=List.getElem_of_mem hp
  simp at hj
  have:=List.pairwise_iff_getElem.mp hs j k (by omega) hk (by omega)
  simpa using this
 have highB : ∀ p∈l.drop (k + 1),lx p l[k] = false:=fun p hp=>by
  obtain ⟨j,hj,rfl⟩:=List.getElem_of_mem hp
  simp at hj
  have:=List.pairwise_iff_getElem.mp hs k (k + 1 + j) hk (by omega) (by omega)
  simpa using this
 have e : l = l.take (k + 1) ++ l.drop (k + 1):=(List.take_append_drop _ _).symm
 have e1 : l.take (k + 1) = l.take k ++ [l[k]]:=by rw [List.take_add_one,List.getElem?_eq_getElem hk]; rfl
 have nl : ∀ {p q : P2},lx p q = false→¬ (p.1 < q.1∨(p.1 = q.1∧p.2 < q.2)):=fun {p q} h z=>by rw [lx_iff.mpr z] at h; cases h
 generalize l[k] = x at *
 by_cases c : 0≤x.2
 ·refine ⟨x.1,?_⟩
  have t1 : smT x.1 (l.take (k + 1)) = sm (l.take (k + 1)):=smT_all fun p hp=>by
   rw [e1] at hp
   rcases List.mem_append.mp hp with hp | hp
   ·have:=nl (lowB p hp); omega
   ·rw [List.mem_singleton.mp hp]; exact Int.le_refl _
  have t2 : 0≤smT x.1 (l.drop (k + 1)):=smT_nonneg fun p hp hx=>by
   have:=nl (highB p hp); omega
  have:=smT_append x.1 (l.take (k + 1)) (l.drop (k + 1))
  rw [← e] at this
  omega
 ·refine ⟨x.1 - 1,?_⟩
  have t2 : smT (x.1 - 1) (l.drop (k + 1)) = 0:=smT_none fun p hp=>by
   have:=nl (highB p hp); omega
  have:=smT_append (x.1 - 1) (l.take (k + 1)) (l.drop (k + 1))
  rw [← e,t2] at this
  rw [this]
  have key : ∀ m : List P2,(∀ p∈m,lx x p = false)→sm m≤smT (x.1 - 1) m:=fun m=>by
   induction m with
   | nil=>intro _; exact Int.le_refl _
   | cons p r ih =>
    intro h
    have:=ih fun q hq=>h q (List.mem_cons_of_mem _ hq)
    have:=nl (h p List.mem_cons_self)
    rw [sm,smT]
    split <;> omega
  have:=key (l.take (k + 1)) fun p hp=>by
   rw [e1] at hp
   rcases List.mem_append.mp hp with hp | hp
   ·exact lowB p hp
   ·rw [List.mem_singleton.mp hp]
    cases z : lx x x with
    | false=>rfl
    | true=>rw [lx_iff] at z; omega
  omega
theorem at_pre {l : List P2} (hs : PS l) (t : Int) : ∃ i,i≤l.length∧smT t l = sm (l.take i):=by
 induction l with
 | nil=>exact ⟨0,Nat.le_refl _,rfl⟩
 | cons p r ih =>
  have h:=List.pairwise_cons.mp hs
  obtain ⟨i,h1,h2⟩:=ih h.2
  by_cases c : p.1≤t
  ·exact ⟨i + 1,by simp; omega,by rw [List.take_succ_cons,smT,sm,if_pos c,h2]⟩
  ·refine ⟨0,by simp,?_⟩
   rw [List.take_zero,smT,if_neg c,smT_none fun q hq=>?_]
   ·rfl
   ·have:=h.1 q hq
    have : ¬ (q.1 < p.1∨(q.1 = p.1∧q.2 < p.2)):=fun z=>by rw [lx_iff.mpr z] at this; cases this
    omega
theorem hi_ok (j : Nat) {ss : List Leg} (h : ∀ s∈ss,LegOk s) : (∀ m,cnt j m ss≤hiP (srtP (evs j ss)) 0 0)∧(hiP (srtP (evs j ss)) 0 0 = 0∨∃ s∈ss,s.1 = j∧hiP (srtP (evs j ss)) 0 0≤cnt j s.2.2.1 ss)∧0≤hiP (srtP (evs j ss)) 0 0:=by
 have sr:=srtP_srt (evs j ss)
 have ge:=hiP_ge (srtP (evs j ss)) 0 0
 have es : ∀ t,smT t (srtP (evs j ss)) = cnt j t ss:=fun t=>by rw [smT_perm t (srtP_perm _),smT_evs j t h]
 refine ⟨fun m=>?_,?_,ge.1⟩
 ·obtain ⟨i,h1,h2⟩:=at_pre sr m
  rw [es] at h2
  rw [h2]
  by_cases hi : i = 0
  ·subst hi; rw [List.take_zero]; exact ge.1
  ·have:=ge.2 i (by omega) h1; omega
 ·rcases hiP_at (srtP (evs j ss)) 0 0 with z | ⟨i,h1,h2,h3⟩
  ·exact .inl z
  ·obtain ⟨t,ht⟩:=pre_le sr h1 h2
   rw [es] at ht
   rcases cnt_first j t h with z | ⟨s,hs,c1,c2⟩
   ·left; have:=ge.1; omega
   ·exact .inr ⟨s,hs,c1,by omega⟩
noncomputable def dueF (all : List Leg) : List Leg→List Int→List Int
 | [],d=>d
 | s :: r,d=>dueF all r (d.set s.1 (if cnt s.1 s.2.2.1 all > d.getD s.1 0 then cnt s.1 s.2.2.1 all else d.getD s.1 0))
theorem dueF_length (all : List Leg) : ∀ (ss : List Leg) (d : List Int),(dueF all ss d).length = d.length
 | [],_=>rfl
 | s :: r,d=>by rw [dueF,dueF_length all r,List.length_set]
theorem getD_set (d : List Int) (i j : Nat) (x : Int) (h : i < d.length) : (d.set i x).getD j 0 = if i = j then x else d.getD j 0:=by
 rw [List.getD_eq_getElem?_getD,List.getD_eq_getElem?_getD]
 by_cases e : i = j
 ·subst e; rw [if_pos rfl,List.getElem?_set_self h]; rfl
 ·rw [if_neg e,List.getElem?_set_ne e]
theorem dueF_ok (all : List Leg) (j : Nat) : ∀ (ss : List Leg) (d : List Int),(∀ s∈ss,s.1 < d.length)→d.getD j 0≤(dueF all ss d).getD j 0∧(∀ s∈ss,s.1 = j→cnt j s.2.2.1 all≤(dueF all ss d).getD j 0) ∧
  ((dueF all ss d).getD j 0 = d.getD j 0∨∃ s∈ss,s.1 = j∧(dueF all ss d).getD j 0 = cnt j s.2.2.1 all)
 | [],d,_=>⟨Int.le_refl _,fun _ h=>(by cases h),.inl rfl⟩
 | s :: r,d,h=>by
  have hl:=h s List.mem_cons_self
  have ih:=dueF_ok all j r (d.set s.1 (if cnt s.1 s.2.2.1 all > d.getD s.1 0 then cnt s.1 s.2.2.1 all else d.getD s.1 0)) fun u hu=>by rw [List.length_set]; exact h u (List.mem_cons_of_mem _ hu)
  rw [getD_set _ _ _ _ hl] at ih
  rw [dueF]
  generalize (dueF all r (d.set s.1 (if cnt s.1 s.2.2.1 all > d.getD s.1 0 then cnt s.1 s.2.2.1 all else d.getD s.1 0))).getD j 0 = y at *
  by_cases e : s.1 = j
  ·rw [if_pos e,e] at ih
   refine ⟨by have:=ih.1; split at this <;> omega,fun u hu c=>?_,?_⟩
   ·rcases List.mem_cons.mp hu with rfl | hu
    ·have:=ih.1; split at this <;> omega
    ·exact ih.2.1 u hu c
   ·rcases ih.2.2 with z | ⟨u,hu,c1,c2⟩
    ·split at z
     ·exact .inr ⟨s,List.mem_cons_self,e,z⟩
     ·exact .inl z
    ·exact .inr ⟨u,List.mem_cons_of_mem _ hu,c1,c2⟩
  ·rw [if_neg e] at ih
   refine ⟨ih.1,fun u hu c=>?_,?_⟩
   ·rcases List.mem_cons.mp hu with rfl | hu
    ·exact absurd c e
    ·exact ih.2.1 u hu c
   ·rcases ih.2.2 with z | ⟨u,hu,c1,c2⟩
    ·exact .inl z
    ·exact .inr ⟨u,List.mem_cons_of_mem _ hu,c1,c2⟩
theorem due_hi {k j : Nat} {ss : List Leg} (h : ∀ s∈ss,LegOk s) (hk : ∀ s∈ss,s.1 < k) : (dueF ss ss (List.replicate k 0)).getD j 0 = hiP (srtP (evs j ss)) 0 0:=by
 obtain ⟨a1,a2,a3⟩:=hi_ok j h
 obtain ⟨b1,b2,b3⟩:=dueF_ok ss j ss (List.replicate k 0) (fun s hs=>by rw [List.length_replicate]; exact hk s hs)
 have z0 : (List.replicate k (0 : Int)).getD j 0 = 0:=by
  rw [List.getD_eq_getElem?_getD,List.getElem?_replicate]; split <;> rfl
 rw [z0] at b1 b3
 apply Int.le_antisymm
 ·rcases b3 with z | ⟨s,hs,c1,c2⟩
  ·rw [z]; exact a3
  ·rw [c2]; exact a1 _
 ·rcases a2 with z | ⟨s,hs,c1,c2⟩
  ·rw [z]; exact b1
  ·have:=b2 s hs c1; omega
theorem due_eq {k : Nat} {ss : List Leg} (h : ∀ s∈ss,LegOk s) (hk : ∀ s∈ss,s.1 < k) : dueF ss ss (List.replicate k 0) = (List.range k).map fun j=>hiP (srtP (evs j ss)) 0 0:=by
 refine List.ext_getElem (by rw [dueF_length,List.length_replicate,List.length_map,List.length_range]) fun j h1 h2=>?_
 have:=due_hi (j:=j) h hk
 rw [List.getD_eq_getElem?_getD,List.getElem?_eq_getElem h1] at this
 simpa using this
theorem setF_cnt (m : Int) (j : Nat) : ∀ (ss : List Leg) (c : List Int),(∀ s∈ss,s.1 < c.length)→(setF m ss c).getD j 0 = c.getD j 0 + cnt j m ss
 | [],c,_=>by rw [setF,cnt]; omega
 | s :: r,c,h=>by
  have hl:=h s List.mem_cons_self
  rw [setF,setF_cnt m j r _ fun u hu=>by
   split
   ·rw [List.length_set]; exact h u (List.mem_cons_of_mem _ hu)
   ·exact h u (List.mem_cons_of_mem _ hu)]
  rw [cnt]
  by_cases c1 : s.2.2.1≤m∧m≤s.2.2.2
  ·rw [if_pos c1,getD_set _ _ _ _ hl]
   by_cases e : s.1 = j
   ·rw [if_pos e,if_pos ⟨e,c1⟩,e]; omega
   ·rw [if_neg e,if_neg (fun z=>e z.1)]; omega
  ·rw [if_neg c1,if_neg (fun z=>c1 z.2)]; omega
noncomputable def pqS (s : Leg) : Pq:=((s.1 : Int),s.2.1,s.2.2.1,s.2.2.2)
theorem bk_evs (j : Nat) : ∀ (ss : List Leg) (bs : List (List P2)),(∀ s∈ss,s.1 < bs.length)→((ss.map pqS).foldl bkStep bs).getD j [] = bs.getD j [] ++ evs j ss
 | [],bs,_=>by rw [List.map_nil,List.foldl_nil,evs,List.append_nil]
 | s :: r,bs,h=>by
  have hl:=h s List.mem_cons_self
  rw [List.map_cons,List.foldl_cons,bk_evs j r _ fun u hu=>by unfold bkStep; rw [List.length_set]; exact h u (List.mem_cons_of_mem _ hu),evs]
  have e0 : (pqS s).1.toNat = s.1:=Int.toNat_natCast _
  unfold bkStep
  rw [e0,List.getD_eq_getElem?_getD,List.getD_eq_getElem?_getD (l:=bs) (i:=j)]
  by_cases e : s.1 = j
  ·subst e
   rw [if_pos rfl,List.getElem?_set_self hl,List.getD_eq_getElem?_getD]
   simp only [Option.getD_some,List.append_assoc]
   rfl
  ·rw [if_neg e,List.getElem?_set_ne e]
theorem bk_eq {k : Nat} {ss : List Leg} (hk : ∀ s∈ss,s.1 < k) : bkOf k (ss.map pqS) = (List.range k).map fun j=>evs j ss:=by
 refine List.ext_getElem (by unfold bkOf; rw [bk_len,List.length_replicate,List.length_map,List.length_range]) fun j h1 h2=>?_
 have:=bk_evs j ss (List.replicate k []) (fun s hs=>by rw [List.length_replicate]; exact hk s hs)
 have z0 : (List.replicate k ([] : List P2)).getD j [] = []:=by
  rw [List.getD_eq_getElem?_getD,List.getElem?_replicate]; split <;> rfl
 rw [z0,List.nil_append,List.getD_eq_getElem?_getD] at this
 unfold bkOf at h1 ⊢
 rw [List.getElem?_eq_getElem h1] at this
 simpa using this
theorem evs_append (j : Nat) : ∀ (l k : List Leg),evs j (l ++ k) = evs j l ++ evs j k
 | [],_=>rfl
 | s :: r,k=>by
  rw [List.cons_append,evs,evs,evs_append j r k]
  split <;> rfl
theorem evs_legsF {ps : List Pq} {n f l : Int} (j : Nat) : ∀ (w : List Nat) (t : Int),w.Nodup→(evs j (legsF ps n f l w t)).length≤2∧(j ∉ w→(evs j (legsF ps n f l w t)).length = 0)
 | [],_,_=>⟨Nat.zero_le _,fun _=>rfl⟩
 | x :: w,t,nd=>by
  have nd':=List.nodup_cons.mp nd
  have ih:=evs_legsF (ps:=ps) (n:=n) (f:=f) (l:=l) j w (t + lenAt ps x) nd'.2
  rw [legsF,evs]
  by_cases e : x = j
  ·subst e
   rw [if_pos rfl]
   refine ⟨?_,fun z=>absurd List.mem_cons_self z⟩
   have:=ih.2 nd'.1
   simp only [List.length_cons]
   omega
  ·rw [if_neg e]
   exact ⟨ih.1,fun z=>ih.2 fun y=>z (List.mem_cons_of_mem _ y)⟩
theorem evs_short {ps : List Pq} (j : Nat) : ∀ {rs : List Row},(∀ r∈rs,r.1.Nodup)→(evs j (legs ps rs)).length≤2 * rs.length
 | [],_=>Nat.zero_le _
 | r :: rs,h=>by
  have ih:=evs_short (ps:=ps) j (rs:=rs) fun u hu=>h u (List.mem_cons_of_mem _ hu)
  have h1:=(evs_legsF (ps:=ps) (n:=r.2.1) (f:=r.2.2.1) (l:=r.2.2.2) j r.1 0 (h r List.mem_cons_self)).1
  rw [legs,evs_append,List.length_append,List.length_cons]
  omega
theorem legsF_ok {ps : List Pq} {n f l : Int} (hn : 1≤n) (hf : f≤l) : ∀ (w : List Nat) (t : Int),∀ s∈legsF ps n f l w t,LegOk s
 | [],_,_,h=>by cases h
 | x :: w,t,s,h=>by
  rw [legsF] at h
  rcases List.mem_cons.mp h with rfl | h
  ·exact ⟨hn,by show f + t≤l + t; omega⟩
  ·exact legsF_ok hn hf w _ s h
theorem legs_ok {ps : List Pq} : ∀ {rs : List Row},(∀ r∈rs,RowOk ps r)→∀ s∈legs ps rs,LegOk s
 | [],_,_,h=>by cases h
 | r :: rs,R,s,h=>by
  rw [legs] at h
  have hr:=R r List.mem_cons_self
  rcases List.mem_append.mp h with h | h
  ·exact legsF_ok hr.n1 hr.fl _ _ s h
  ·exact legs_ok (fun u hu=>R u (List.mem_cons_of_mem _ hu)) s h
end K43
set_option hygiene false in
local macro_rules | `(tactic| walk_at "e1")=>`(tactic| (try simp only [owB_some,owB_none,nio_owB,fnM_eq,ob_some,ob_none,bFn_r,bFn_n,ini,gSeq_eq,bSeq_n,bSeq_r,bSeq_b,bSeq_c,gIf_eq,bIf_t,bIf_f,tAnd_eq,bAnd_t,bAnd_f,tOr_eq,bOr_t,bOr_f,tNot2,vAnd_eq,bAndE_t,bAndE_f,vOr_eq,bOrE_t,bOrE_f,vIf_eq,bIfE_t,bIfE_f,v2_eq,b2_s,b1_s,v1_eq,aC_eq,bC_s,bC1_s,a0,gAs_eq,bAs_s,bNx_s,gC_eq,bG_s,g0,vCall_eq,bCall_s,vCallN_eq,bCallN_s,vCallW_eq,bCallW_s,bResW_s,vCallWN_eq,bCallWN_s,bResWN_s,bIm_t,vImm_eq,bImm_s,bRes_s,bResN_s,vCh_eq,bCh_t,bCh_f,atI_0,atI_1,atI_2,atI_3,gFor_eq,bFor_s,gRet,gRetN,gRetO,gEx,gN,gT,gOw_eq,gOwF_eq,bOw_s,vLC_eq,vLCW_eq,bL_s,gFz,frz,gApp,gPut,gAug,gAugI,gNop,gFail,gClr,gPop,gRv,gIns,gPopAt,vSetLen,ownL,noIo_eq,nio_ob,nio_n,nio_fr,nio_ow,vN,vF,vC,vB,vTru,truD,vNot,imm,immL,ixDt,oN,oI,vSlL,vSlT,vRev,negD,vTup,vLst,vCB,lenD,absD,min2D,max2D,int1D,vIsi,isi_list,isi_int,isi_bool_i,isi_tuple,vListOf,immR,vItems,vItemsT,vRng1,vRng2,vEnum,vZip,capFr,capG,capOne,cTrue,addD_i,subD_i,ltD_i,leD_i,gtD_i,geD_i,xorD_i,eqD_i,neD_i,Int.reduceToNat,Int.reducePow,isD_n,isnD_n,isNoneD,List.length_cons,List.length_nil,List.map_cons,List.map_nil,List.replicate,List.cons_append,List.nil_append,List.append_nil,List.getElem?_cons_zero,List.getElem?_cons_succ,List.set_cons_zero,List.set_cons_succ,Nat.reduceAdd,Nat.reduceSub,Nat.reduceLeDiff,Nat.reduceEqDiff,Bool.and_true,Bool.true_and,Bool.not_true,Bool.not_false,Bool.false_eq_true,↓reduceIte,if_true,if_false]))
namespace K43
open PySem L2 VM PL ST
theorem sortD_map {ps : List P2} (h : ps.length < 128) : sortD (.list (ps.map prD)) = some (.list ((srtP ps).map prD)):=by
 unfold sortD
 simp only [prsOf_map]
 rw [if_pos h]
theorem e_highest {ps : List P2} (h : ps.length < 128) : m_highest [.list (ps.map prD)] = some (false, .int (hiP (srtP ps) 0 0)) := by
  unfold m_highest g_highest
  walk_at "e1"
  rw [sortD_map h]
  walk_at "e1"
  have key : ∀ (L : PyData) (l : List P2) (c m : Int) (x3 x4 : Option PyData), ∃ c' x3' x4', forG (gT 2 (gC (gN 3) (gC (gN 4) g0))) (gSeq (gAug addD 1 (vF 4))
 (gAs (vCB max2D (aC (vN 2) (aC (vN 1) a0))) (gN 2))) (l.map prD) [some (Tg.fr, L), some (Tg.fr, .int c), some (Tg.fr, .int m), ob x3, ob x4] = .nxt [some (Tg.fr, L), some (Tg.fr, .int c'), some (Tg.fr, .int (hiP l c m)), ob x3', ob x4'] := fun L l => by
    induction l with
    | nil => intro c m x3 x4; exact ⟨c, x3, x4, by simp [forG, hiP]⟩
    | cons p l ih =>
      intro c m x3 x4
      obtain ⟨c', y3, y4, hx⟩ := ih (c + p.2) (if c + p.2 > m then c + p.2 else m) (some (.int p.1)) (some (.int p.2))
      refine ⟨c', y3, y4, ?_⟩
      rw [List.map_cons, forG, hiP]
      unfold prD at hx ⊢
      walk_at "e1"
      simp only [ob_some] at hx
      exact hx
  obtain ⟨c', x3, x4, hx⟩ := key (.list (ps.map prD)) (srtP ps) 0 0 none none
  simp only [ob_none] at hx
  rw [hx]
  walk_at "e1"
theorem e_most {ps : List Pq} {rs : List Row} (hp : ps.length≤10) (R : ∀ r∈rs,RowOk ps r) (N : ∀ r∈rs,r.1.Nodup) (hl : rs.length≤40) : m_most_at_once [psD ps,.list (rs.map rowD)] = some (true,.list ((dueF (legs ps rs) (legs ps rs) (List.replicate ps.length 0)).map .int)):=by
 unfold m_most_at_once g_most_at_once
 have es:=e_spans R (by omega)
 unfold psD at es ⊢
 walk_at "e1"
 unfold gBuck
 have hix:=legs_ix R
 have hlen:=legs_length R
 have e0 : (legs ps rs).map spD = ((legs ps rs).map pqS).map pD:=by rw [List.map_map]; rfl
 have fi : vCall Pg.m_spans_of (aC (vF 0) (aC (vF 1) a0)) (List.set [some (Tg.fr,PyData.list (ps.map pD)),some (Tg.fr,.list (rs.map rowD)),none,none,none,none,none] 2 none) = some (.list (((legs ps rs).map pqS).map pD)):=by
  walk_at "e1"
  rw [es,e0]
  walk_at "e1"
 rw [fi]
 simp only [List.getElem?_cons_zero,psOf_map]
 have hall : ((legs ps rs).map pqS).all (inB (ps.map pD).length) = true:=by
  rw [List.all_eq_true]
  intro q hq
  obtain ⟨s,hs,rfl⟩:=List.mem_map.mp hq
  have:=hix s hs
  simp only [inB,pqS,List.length_map,Bool.and_eq_true,decide_eq_true_eq]
  exact ⟨decide_eq_true (Int.natCast_nonneg _),Int.ofNat_lt.mpr this⟩
 rw [if_pos ⟨by rw [List.length_map]; omega,by rw [List.length_map]; omega,hall,rfl⟩]
 ·simp only [forget,List.foldl_cons,List.foldl_nil,List.set_cons_succ,List.set_cons_zero,List.length_map,bk_eq hix,bkD]
  walk_at "e1"
  rw [bLC_s rfl (by rw [List.length_map,List.length_map,List.length_range]; exact size_big (by omega))]
  rw [lcD_map (f:=fun d=>match d with
   | .list l=>(match prsOf l with
    | some b=>.int (hiP (srtP b) 0 0)
    | none=>.none)
   | _=>.none) (by
   intro d hd
   rw [List.map_map] at hd
   obtain ⟨j,hj,rfl⟩:=List.mem_map.mp hd
   have hs:=evs_short (ps:=ps) j N
   refine ⟨[some (Tg.fr,.list ((evs j (legs ps rs)).map prD))],?_,rfl,?_⟩
   ·simp only [Function.comp]
    walk_at "e1"
   ·walk_at "e1"
    rw [e_highest (by omega)]
    walk_at "e1"
    simp only [Function.comp,prsOf_map])]
  walk_at "e1"
  rw [due_eq (legs_ok R) hix,List.map_map,List.map_map,List.map_map]
  simp only [Function.comp_def,prsOf_map]
theorem zip_ints (xs ys : List Int) : zipD (xs.map PyData.int) (ys.map PyData.int) = (xs.zip ys).map fun p=>.tuple [.int p.1,.int p.2]:=by
 induction xs generalizing ys with
 | nil=>simp [zipD]
 | cons x xs ih =>
  cases ys with
  | nil=>simp [zipD]
  | cons y ys =>
   have:=ih ys
   simp only [zipD,List.map_cons,List.zipWith_cons_cons,List.zip_cons_cons] at this ⊢
   rw [this]
theorem e_law {ns : List Int} (hl : ns.length≤63) : m_law [.list (ns.map .int)] = some (false,.bool true):=by
 obtain ⟨ps,ej,P⟩:=e_joined (ns:=ns)
 obtain ⟨c1,ec1,hc1⟩:=script_cut20 (ns:=ns)
 obtain ⟨c2,ec2,hc2⟩:=script_cut (ns:=ns) 32 36 hl
 obtain ⟨rs,ep,RN,hrl⟩:=e_plan (cs:=c1) P (by omega)
 have R : ∀ r∈rs,RowOk ps r:=fun r hr=>(RN r hr).1
 have N : ∀ r∈rs,r.1.Nodup:=fun r hr=>(RN r hr).2
 have ten:=P.ten
 have eg:=e_legs (ps:=ps) R (by omega)
 obtain ⟨ms,em⟩:=e_moments (ss:=legs ps rs) hc2
 have ey:=e_copied (rs:=rs) (by omega)
 have eh:=eq_handed ps rs
 have hix:=legs_ix R
 have emo:=e_most ten R N (by omega)
 have en0:=e_most (rs:=[]) ten (by simp) (by simp) (by simp)
 have eq:=e_numbers (dueF (legs ps rs) (legs ps rs) (List.replicate ps.length 0))
 have ez:=e_numbers (List.replicate ps.length 0)
 unfold m_law g_law
 walk_at "e1"
 rw [ej]
 walk_at "e1"
 rw [ec1]
 walk_at "e1"
 rw [ep]
 walk_at "e1"
 rw [eg]
 walk_at "e1"
 unfold psD at *
 walk_at "e1"
 rw [List.length_map,repD_one _ (by omega)]
 walk_at "e1"
 have key : ∀ (s0 s2 s3 : PyData) (xs : List Leg) (c : List Int) (x5 x6 x7 x8 x9 x10 x11 x12 x13 : Option PyData),s3 = .list ((legs ps rs).map lgD)→c.length = ps.length→(∀ s∈xs,s.1 < ps.length)→∃ x5' x6' x7' x8',forG (gT 4 (gC (gN 5) (gC (gN 6) (gC (gN 7) (gC (gN 8) g0)))))
   (gPut 4 (vN 5) (vCB max2D (aC (v2 ixDt (vN 4) (vN 5)) (aC (v2 ixDt (vCall m__law_now (aC (vF 3) (aC (vCB lenD (aC (vN 1) a0)) (aC (vF 6) a0)))) (vN 5)) a0)))) (xs.map lgD)
   [some (Tg.fr,s0),some (Tg.fr,.list (ps.map pD)),some (Tg.fr,s2),some (Tg.fr,s3),some (Tg.ow,.list (c.map .int)),ob x5,ob x6,ob x7,ob x8,ob x9,ob x10,ob x11,ob x12,ob x13]
   = .nxt [some (Tg.fr,s0),some (Tg.fr,.list (ps.map pD)),some (Tg.fr,s2),some (Tg.fr,s3),some (Tg.ow,.list ((dueF (legs ps rs) xs c).map .int)),ob x5',ob x6',ob x7',ob x8',ob x9,ob x10,ob x11,ob x12,ob x13]:=fun s0 s2 s3 xs=>by
  induction xs with
  | nil=>intro c x5 x6 x7 x8 x9 x10 x11 x12 x13 _ _ _; exact ⟨x5,x6,x7,x8,by simp [forG,dueF]⟩
  | cons s xs ih =>
   intro c x5 x6 x7 x8 x9 x10 x11 x12 x13 e3 hc h
   have hs:=h s List.mem_cons_self
   obtain ⟨j,n,f,l⟩:=s
   have hs : j < ps.length:=hs
   obtain ⟨y5,y6,y7,y8,hx⟩:=ih (c.set j (if cnt j f (legs ps rs) > c.getD j 0 then cnt j f (legs ps rs) else c.getD j 0)) (some (.int (j : Int))) (some (.int f)) (some (.int l)) (some (.int n)) x9 x10 x11 x12 x13 e3 (by rw [List.length_set]; exact hc) (fun u hu=>h u (List.mem_cons_of_mem _ hu))
   refine ⟨y5,y6,y7,y8,?_⟩
   have en:=e_now (ss:=legs ps rs) (k:=ps.length) (m:=f) (by omega) hix
   have sl:=setF_length f (legs ps rs) (List.replicate ps.length 0)
   rw [List.length_replicate] at sl
   have sc:=setF_cnt f j (legs ps rs) (List.replicate ps.length 0) (by rw [List.length_replicate]; exact hix)
   have z0 : (List.replicate ps.length (0 : Int)).getD j 0 = 0:=by
    rw [List.getD_eq_getElem?_getD,List.getElem?_replicate]; split <;> rfl
   rw [z0,Int.zero_add] at sc
   rw [List.map_cons,forG,dueF]
   unfold lgD at *
   subst e3
   walk_at "e1"
   rw [atI_nat (at_int (show j < c.length by omega))]
   walk_at "e1"
   simp only [List.length_map]
   rw [en]
   walk_at "e1"
   rw [atI_nat (at_int (show j < (setF f (legs ps rs) (List.replicate ps.length 0)).length by omega)),sc]
   walk_at "e1"
   simp only [List.length_map,ixN_of (show j < c.length by omega)]
   walk_at "e1"
   simp only [ob_some,List.map_set] at hx
   exact hx
 obtain ⟨x5,x6,x7,x8,hx⟩:=key (.list (ns.map .int)) (.list (rs.map rowD)) _ (legs ps rs) (List.replicate ps.length 0) none none none none none none none none none rfl (by rw [List.length_replicate]) hix
 simp only [ob_none,List.map_replicate] at hx
 rw [hx]
 clear key
 generalize hD : dueF (legs ps rs) (legs ps rs) (List.replicate ps.length 0) = due at *
 have hdl : due.length = ps.length:=by rw [← hD,dueF_length,List.length_replicate]
 walk_at "e1"
 rw [ey]
 walk_at "e1"
 rw [emo]
 walk_at "e1"
 rw [eq]
 walk_at "e1"
 rw [ec2]
 walk_at "e1"
 rw [em]
 walk_at "e1"
 have le : ∀ (m : Int) (j : Nat),(setF m (legs ps rs) (List.replicate ps.length 0)).getD j 0≤due.getD j 0:=fun m j=>by
  have sc:=setF_cnt m j (legs ps rs) (List.replicate ps.length 0) (by rw [List.length_replicate]; exact hix)
  have z0 : (List.replicate ps.length (0 : Int)).getD j 0 = 0:=by
   rw [List.getD_eq_getElem?_getD,List.getElem?_replicate]; split <;> rfl
  rw [z0,Int.zero_add] at sc
  rw [sc,← hD,due_hi (legs_ok R) hix]
  exact (hi_ok j (legs_ok R)).1 m
 generalize hF : forG _ _ (ms.map PyData.int) _ = o
 obtain ⟨S',rfl,t4,x11,x12,x13,rfl,ht⟩ : ∃ S',o = .nxt S'∧∃ (t4 : Tg) (x11 x12 x13 : Option PyData),S' = [some (Tg.fr,.list (ns.map .int)),some (Tg.fr,.list (ps.map pD)),some (Tg.fr,.list (rs.map rowD)),some (Tg.fr,.list ((legs ps rs).map lgD)),some (t4,.list (due.map .int)),ob x5,ob x6,ob x7,ob x8,some (Tg.fr,.list [.list (ps.map pD),.list (rs.map rowD)]),some (Tg.ow,.list (due.map .int)),ob x11,ob x12,ob x13]∧(t4 = .ow∨t4 = .fr):=by
  rw [← hF]
  refine forG_ok (fun i S=>∃ (t4 : Tg) (x11 x12 x13 : Option PyData),S = [some (Tg.fr,.list (ns.map .int)),some (Tg.fr,.list (ps.map pD)),some (Tg.fr,.list (rs.map rowD)),some (Tg.fr,.list ((legs ps rs).map lgD)),some (t4,.list (due.map .int)),ob x5,ob x6,ob x7,ob x8,some (Tg.fr,.list [.list (ps.map pD),.list (rs.map rowD)]),some (Tg.ow,.list (due.map .int)),ob x11,ob x12,ob x13]∧(t4 = .ow∨t4 = .fr)) _ 0 _ ⟨.ow,none,none,none,rfl,.inl rfl⟩ ?_
  rintro j d S hj ⟨t4,x11,x12,x13,rfl,ht⟩
  rw [List.getElem?_map] at hj
  obtain ⟨m,hmm,rfl⟩:=Option.map_eq_some_iff.mp hj
  have es:=e_set (m:=m) (by omega) R (by omega)
  unfold psD at es
  have sl:=setF_length m (legs ps rs) (List.replicate ps.length 0)
  rw [List.length_replicate] at sl
  have lem:=le m
  generalize setF m (legs ps rs) (List.replicate ps.length 0) = ys at *
  refine ⟨[some (Tg.fr,.list (ns.map .int)),some (Tg.fr,.list (ps.map pD)),some (Tg.fr,.list (rs.map rowD)),some (Tg.fr,.list ((legs ps rs).map lgD)),some (t4,.list (due.map .int)),ob x5,ob x6,ob x7,ob x8,some (Tg.fr,.list [.list (ps.map pD),.list (rs.map rowD)]),some (Tg.ow,.list (due.map .int)),some (Tg.fr,.int m),ob x12,ob x13],by walk_at "e1",?_⟩
  have inner : ∀ (zs : List (Int × Int)) (y12 y13 : Option PyData),(∀ p∈zs,p.1≤p.2)→∃ y12' y13',forG (gT 2 (gC (gN 12) (gC (gN 13) g0))) (gIf (vB (v2 gtD (vN 12) (vN 13))) (gRet (vC (.bool false))) gNop) (zs.map fun p=>.tuple [.int p.1,.int p.2])
    [some (Tg.fr,.list (ns.map .int)),some (Tg.fr,.list (ps.map pD)),some (Tg.fr,.list (rs.map rowD)),some (Tg.fr,.list ((legs ps rs).map lgD)),some (Tg.fr,.list (due.map .int)),ob x5,ob x6,ob x7,ob x8,some (Tg.fr,.list [.list (ps.map pD),.list (rs.map rowD)]),some (Tg.ow,.list (due.map .int)),some (Tg.fr,.int m),ob y12,ob y13]
    = .nxt [some (Tg.fr,.list (ns.map .int)),some (Tg.fr,.list (ps.map pD)),some (Tg.fr,.list (rs.map rowD)),some (Tg.fr,.list ((legs ps rs).map lgD)),some (Tg.fr,.list (due.map .int)),ob x5,ob x6,ob x7,ob x8,some (Tg.fr,.list [.list (ps.map pD),.list (rs.map rowD)]),some (Tg.ow,.list (due.map .int)),some (Tg.fr,.int m),ob y12',ob y13']:=fun zs=>by
   induction zs with
   | nil=>intro y12 y13 _; exact ⟨y12,y13,by simp [forG]⟩
   | cons p zs ih =>
    intro y12 y13 h
    obtain ⟨z12,z13,hz⟩:=ih (some (.int p.1)) (some (.int p.2)) (fun q hq=>h q (List.mem_cons_of_mem _ hq))
    refine ⟨z12,z13,?_⟩
    have hp : ¬ p.2 < p.1:=by have:=h p List.mem_cons_self; omega
    rw [List.map_cons,forG]
    walk_at "e1"
    simp only [hp,decide_false]
    walk_at "e1"
    simp only [ob_some] at hz
    exact hz
  have hz : ∀ p∈ys.zip due,p.1≤p.2:=fun p hp=>by
   obtain ⟨k,hk,rfl⟩:=List.getElem_of_mem hp
   have:=lem k
   rw [List.length_zip] at hk
   rw [List.getD_eq_getElem?_getD,List.getD_eq_getElem?_getD,List.getElem?_eq_getElem (by omega),List.getElem?_eq_getElem (by omega)] at this
   simpa using this
  obtain ⟨y12,y13,hin⟩:=inner (ys.zip due) x12 x13 hz
  rcases ht with rfl | rfl
  ·walk_at "e1"
   rw [es]
   walk_at "e1"
   rw [zip_ints,hin]
   exact ⟨_,.inl rfl,.fr,some (.int m),y12,y13,rfl,.inr rfl⟩
  ·walk_at "e1"
   rw [es]
   walk_at "e1"
   rw [zip_ints,hin]
   exact ⟨_,.inl rfl,.fr,some (.int m),y12,y13,rfl,.inr rfl⟩
 have e5 : dueF (legs ps []) (legs ps []) (List.replicate ps.length 0) = List.replicate ps.length 0:=rfl
 rw [e5,List.map_nil] at en0
 have ez2:=ez
 rw [List.map_replicate] at ez2
 rcases ht with rfl | rfl
 ·walk_at "e1"
  rw [emo]
  walk_at "e1"
  rw [eq]
  walk_at "e1"
  rw [eh]
  walk_at "e1"
  rw [en0]
  walk_at "e1"
  rw [List.length_map,repD_one _ (by omega)]
  walk_at "e1"
  rw [List.map_replicate,ez2]
  walk_at "e1"
 ·walk_at "e1"
  rw [emo]
  walk_at "e1"
  rw [eq]
  walk_at "e1"
  rw [eh]
  walk_at "e1"
  rw [en0]
  walk_at "e1"
  rw [List.length_map,repD_one _ (by omega)]
  walk_at "e1"
  rw [List.map_replicate,ez2]
  walk_at "e1"
end K43
namespace K43
open PySem L2 VM
set_option maxHeartbeats 4000000
theorem all_mk {l : PySem.W.OpenLaw} {w : World} {K : PySem.W.Frag} {h : Heap} {mg : Str→Option Value} {fa f0 f1 f2 f3 f4 f5 f6 f7 f8 f9 f10 f11 f12 f13 f14 f15 f16 f17 : Addr} (X : K.In h) (G : h.Ns mainGlobals mg) (hfa : mg "law" = some (.ref fa)) {od0 an0 od1 an1 od2 an2 od3 an3 od4 an4 od5 an5 od6 an6 od7 an7 od8 an8 od9 an9 od10 an10 od11 an11 od12 an12 od13 an13 od14 an14 od15 an15 od16 an16 od17 an17 : Option Addr} {sl0 sl1 sl2 sl3 sl4 sl5 sl6 sl7 sl8 sl9 sl10 sl11 sl12 sl13 sl14 sl15 sl16 sl17 : Array (Option Value)} {oc0 kV0 dc0 pm0 cd0 ct0 oc1 kV1 dc1 pm1 cd1 ct1 oc2 kV2 dc2 pm2 cd2 ct2 oc3 kV3 dc3 pm3 cd3 ct3 oc4 kV4 dc4 pm4 cd4 ct4 oc5 kV5 dc5 pm5 cd5 ct5 oc6 kV6 dc6 pm6 cd6 ct6 oc7 kV7 dc7 pm7 cd7 ct7 oc8 kV8 dc8 pm8 cd8 ct8 oc9 kV9 dc9 pm9 cd9 ct9 oc10 kV10 dc10 pm10 cd10 ct10 oc11 kV11 dc11 pm11 cd11 ct11 oc12 kV12 dc12 pm12 cd12 ct12 oc13 kV13 dc13 pm13 cd13 ct13 oc14 kV14 dc14 pm14 cd14 ct14 oc15 kV15 dc15 pm15 cd15 ct15 oc16 kV16 dc16 pm16 cd16 ct16 oc17 kV17 dc17 pm17 cd17 ct17 : Value}
  (a0 : PySem.W.nsIn K mainGlobals "spans_of" = some (some (.ref f0))) (l0 : K.lookup f0 = some ⟨oc0,od0,.func (PySem.W.fnOf "spans_of" "spans_of" (defArgs (top 3)) (defBody (top 3)) (defScope (top 3)) .none kV0 dc0 pm0 an0 cd0 ct0),sl0⟩) (c0 : PySem.W.codeIn K cd0 "spans_of" = true) (k0 : PySem.W.keepIn K (.ref f0) = true)
  (a1 : PySem.W.nsIn K mainGlobals "set_out" = some (some (.ref f1))) (l1 : K.lookup f1 = some ⟨oc1,od1,.func (PySem.W.fnOf "set_out" "set_out" (defArgs (top 1)) (defBody (top 1)) (defScope (top 1)) .none kV1 dc1 pm1 an1 cd1 ct1),sl1⟩) (c1 : PySem.W.codeIn K cd1 "set_out" = true) (k1 : PySem.W.keepIn K (.ref f1) = true)
  (a2 : PySem.W.nsIn K mainGlobals "highest" = some (some (.ref f2))) (l2 : K.lookup f2 = some ⟨oc2,od2,.func (PySem.W.fnOf "highest" "highest" (defArgs (top 4)) (defBody (top 4)) (defScope (top 4)) .none kV2 dc2 pm2 an2 cd2 ct2),sl2⟩) (c2 : PySem.W.codeIn K cd2 "highest" = true) (k2 : PySem.W.keepIn K (.ref f2) = true)
  (a3 : PySem.W.nsIn K mainGlobals "most_at_once" = some (some (.ref f3))) (l3 : K.lookup f3 = some ⟨oc3,od3,.func (PySem.W.fnOf "most_at_once" "most_at_once" (defArgs (top 2)) (defBody (top 2)) (defScope (top 2)) .none kV3 dc3 pm3 an3 cd3 ct3),sl3⟩) (c3 : PySem.W.codeIn K cd3 "most_at_once" = true) (k3 : PySem.W.keepIn K (.ref f3) = true)
  (a4 : PySem.W.nsIn K mainGlobals "_law_cell_at" = some (some (.ref f4))) (l4 : K.lookup f4 = some ⟨oc4,od4,.func (PySem.W.fnOf "_law_cell_at" "_law_cell_at" (defArgs (top 6)) (defBody (top 6)) (defScope (top 6)) .none kV4 dc4 pm4 an4 cd4 ct4),sl4⟩) (c4 : PySem.W.codeIn K cd4 "_law_cell_at" = true) (k4 : PySem.W.keepIn K (.ref f4) = true)
  (a5 : PySem.W.nsIn K mainGlobals "_law_mixed" = some (some (.ref f5))) (l5 : K.lookup f5 = some ⟨oc5,od5,.func (PySem.W.fnOf "_law_mixed" "_law_mixed" (defArgs (top 7)) (defBody (top 7)) (defScope (top 7)) .none kV5 dc5 pm5 an5 cd5 ct5),sl5⟩) (c5 : PySem.W.codeIn K cd5 "_law_mixed" = true) (k5 : PySem.W.keepIn K (.ref f5) = true)
  (a6 : PySem.W.nsIn K mainGlobals "_law_whole" = some (some (.ref f6))) (l6 : K.lookup f6 = some ⟨oc6,od6,.func (PySem.W.fnOf "_law_whole" "_law_whole" (defArgs (top 8)) (defBody (top 8)) (defScope (top 8)) .none kV6 dc6 pm6 an6 cd6 ct6),sl6⟩) (c6 : PySem.W.codeIn K cd6 "_law_whole" = true) (k6 : PySem.W.keepIn K (.ref f6) = true)
  (a7 : PySem.W.nsIn K mainGlobals "_law_great" = some (some (.ref f7))) (l7 : K.lookup f7 = some ⟨oc7,od7,.func (PySem.W.fnOf "_law_great" "_law_great" (defArgs (top 9)) (defBody (top 9)) (defScope (top 9)) .none kV7 dc7 pm7 an7 cd7 ct7),sl7⟩) (c7 : PySem.W.codeIn K cd7 "_law_great" = true) (k7 : PySem.W.keepIn K (.ref f7) = true)
  (a8 : PySem.W.nsIn K mainGlobals "_law_far" = some (some (.ref f8))) (l8 : K.lookup f8 = some ⟨oc8,od8,.func (PySem.W.fnOf "_law_far" "_law_far" (defArgs (top 10)) (defBody (top 10)) (defScope (top 10)) .none kV8 dc8 pm8 an8 cd8 ct8),sl8⟩) (c8 : PySem.W.codeIn K cd8 "_law_far" = true) (k8 : PySem.W.keepIn K (.ref f8) = true)
  (a9 : PySem.W.nsIn K mainGlobals "_law_joined" = some (some (.ref f9))) (l9 : K.lookup f9 = some ⟨oc9,od9,.func (PySem.W.fnOf "_law_joined" "_law_joined" (defArgs (top 11)) (defBody (top 11)) (defScope (top 11)) .none kV9 dc9 pm9 an9 cd9 ct9),sl9⟩) (c9 : PySem.W.codeIn K cd9 "_law_joined" = true) (k9 : PySem.W.keepIn K (.ref f9) = true)
  (a10 : PySem.W.nsIn K mainGlobals "_law_walk" = some (some (.ref f10))) (l10 : K.lookup f10 = some ⟨oc10,od10,.func (PySem.W.fnOf "_law_walk" "_law_walk" (defArgs (top 12)) (defBody (top 12)) (defScope (top 12)) .none kV10 dc10 pm10 an10 cd10 ct10),sl10⟩) (c10 : PySem.W.codeIn K cd10 "_law_walk" = true) (k10 : PySem.W.keepIn K (.ref f10) = true)
  (a11 : PySem.W.nsIn K mainGlobals "_law_plan" = some (some (.ref f11))) (l11 : K.lookup f11 = some ⟨oc11,od11,.func (PySem.W.fnOf "_law_plan" "_law_plan" (defArgs (top 13)) (defBody (top 13)) (defScope (top 13)) .none kV11 dc11 pm11 an11 cd11 ct11),sl11⟩) (c11 : PySem.W.codeIn K cd11 "_law_plan" = true) (k11 : PySem.W.keepIn K (.ref f11) = true)
  (a12 : PySem.W.nsIn K mainGlobals "_law_legs" = some (some (.ref f12))) (l12 : K.lookup f12 = some ⟨oc12,od12,.func (PySem.W.fnOf "_law_legs" "_law_legs" (defArgs (top 14)) (defBody (top 14)) (defScope (top 14)) .none kV12 dc12 pm12 an12 cd12 ct12),sl12⟩) (c12 : PySem.W.codeIn K cd12 "_law_legs" = true) (k12 : PySem.W.keepIn K (.ref f12) = true)
  (a13 : PySem.W.nsIn K mainGlobals "_law_now" = some (some (.ref f13))) (l13 : K.lookup f13 = some ⟨oc13,od13,.func (PySem.W.fnOf "_law_now" "_law_now" (defArgs (top 15)) (defBody (top 15)) (defScope (top 15)) .none kV13 dc13 pm13 an13 cd13 ct13),sl13⟩) (c13 : PySem.W.codeIn K cd13 "_law_now" = true) (k13 : PySem.W.keepIn K (.ref f13) = true)
  (a14 : PySem.W.nsIn K mainGlobals "_law_moments" = some (some (.ref f14))) (l14 : K.lookup f14 = some ⟨oc14,od14,.func (PySem.W.fnOf "_law_moments" "_law_moments" (defArgs (top 16)) (defBody (top 16)) (defScope (top 16)) .none kV14 dc14 pm14 an14 cd14 ct14),sl14⟩) (c14 : PySem.W.codeIn K cd14 "_law_moments" = true) (k14 : PySem.W.keepIn K (.ref f14) = true)
  (a15 : PySem.W.nsIn K mainGlobals "_law_copied" = some (some (.ref f15))) (l15 : K.lookup f15 = some ⟨oc15,od15,.func (PySem.W.fnOf "_law_copied" "_law_copied" (defArgs (top 17)) (defBody (top 17)) (defScope (top 17)) .none kV15 dc15 pm15 an15 cd15 ct15),sl15⟩) (c15 : PySem.W.codeIn K cd15 "_law_copied" = true) (k15 : PySem.W.keepIn K (.ref f15) = true)
  (a16 : PySem.W.nsIn K mainGlobals "_law_numbers" = some (some (.ref f16))) (l16 : K.lookup f16 = some ⟨oc16,od16,.func (PySem.W.fnOf "_law_numbers" "_law_numbers" (defArgs (top 18)) (defBody (top 18)) (defScope (top 18)) .none kV16 dc16 pm16 an16 cd16 ct16),sl16⟩) (c16 : PySem.W.codeIn K cd16 "_law_numbers" = true) (k16 : PySem.W.keepIn K (.ref f16) = true)
  (a17 : PySem.W.nsIn K mainGlobals "law" = some (some (.ref f17))) (l17 : K.lookup f17 = some ⟨oc17,od17,.func (PySem.W.fnOf "law" "law" (defArgs (top 19)) (defBody (top 19)) (defScope (top 19)) .none kV17 dc17 pm17 an17 cd17 ct17),sl17⟩) (c17 : PySem.W.codeIn K cd17 "law" = true) (k17 : PySem.W.keepIn K (.ref f17) = true)
  (z_len : PySem.W.nsIn K mainGlobals "len" = some none)
  (z_list : PySem.W.nsIn K mainGlobals "list" = some none)
  (z_range : PySem.W.nsIn K mainGlobals "range" = some none)
  (z_enumerate : PySem.W.nsIn K mainGlobals "enumerate" = some none)
  (z_zip : PySem.W.nsIn K mainGlobals "zip" = some none)
  (z_abs : PySem.W.nsIn K mainGlobals "abs" = some none)
  (z_sum : PySem.W.nsIn K mainGlobals "sum" = some none)
  (z_min : PySem.W.nsIn K mainGlobals "min" = some none)
  (z_max : PySem.W.nsIn K mainGlobals "max" = some none)
  (z_int : PySem.W.nsIn K mainGlobals "int" = some none)
  (z_bool : PySem.W.nsIn K mainGlobals "bool" = some none)
  (z_tuple : PySem.W.nsIn K mainGlobals "tuple" = some none)
  (z_str : PySem.W.nsIn K mainGlobals "str" = some none)
  (z_sorted : PySem.W.nsIn K mainGlobals "sorted" = some none)
  (z_set : PySem.W.nsIn K mainGlobals "set" = some none)
  (z_isinstance : PySem.W.nsIn K mainGlobals "isinstance" = some none) :
  ∃ fd : FuncData,(∀ (s : Shared) (v : Value),BindsTo s fd ⟨[v],[]⟩ [("_law_script",v)])∧∀ base : Heap,K.In base→base.Ns mainGlobals mg→FnOk l.prog w K mg base CX0 4 fa fd ["_law_script"] (spLaw K):=by
 have e:=hfa.symm.trans (PySem.W.mg_of X G a17)
 cases e
 have B : Bl mg:=⟨PySem.W.mg_none_of X G z_len,PySem.W.mg_none_of X G z_list,PySem.W.mg_none_of X G z_range,PySem.W.mg_none_of X G z_enumerate,PySem.W.mg_none_of X G z_zip,PySem.W.mg_none_of X G z_abs,PySem.W.mg_none_of X G z_sum,PySem.W.mg_none_of X G z_min,PySem.W.mg_none_of X G z_max,PySem.W.mg_none_of X G z_int,PySem.W.mg_none_of X G z_bool,PySem.W.mg_none_of X G z_tuple,PySem.W.mg_none_of X G z_str,PySem.W.mg_none_of X G z_sorted,PySem.W.mg_none_of X G z_set,PySem.W.mg_none_of X G z_isinstance⟩
 have F0:=fun_mk (st:=top 3) l0 c0 k0
 have b0:=F0.binds (ps:=["passages","plan"]) fun _ _ _ _ _ _ us hl=>by obtain ⟨x0,x1,rfl⟩:=len2 hl; exact rfl
 have F1:=fun_mk (st:=top 1) l1 c1 k1
 have b1:=F1.binds (ps:=["passages","plan","moment"]) fun _ _ _ _ _ _ us hl=>by obtain ⟨x0,x1,x2,rfl⟩:=len3 hl; exact rfl
 have F2:=fun_mk (st:=top 4) l2 c2 k2
 have b2:=F2.binds (ps:=["changes"]) fun _ _ _ _ _ _ us hl=>by obtain ⟨x0,rfl⟩:=len1 hl; exact rfl
 have F3:=fun_mk (st:=top 2) l3 c3 k3
 have b3:=F3.binds (ps:=["passages","plan"]) fun _ _ _ _ _ _ us hl=>by obtain ⟨x0,x1,rfl⟩:=len2 hl; exact rfl
 have F4:=fun_mk (st:=top 6) l4 c4 k4
 have b4:=F4.binds (ps:=["_law_script","_law_k"]) fun _ _ _ _ _ _ us hl=>by obtain ⟨x0,x1,rfl⟩:=len2 hl; exact rfl
 have F5:=fun_mk (st:=top 7) l5 c5 k5
 have b5:=F5.binds (ps:=["_law_cell","_law_k"]) fun _ _ _ _ _ _ us hl=>by obtain ⟨x0,x1,rfl⟩:=len2 hl; exact rfl
 have F6:=fun_mk (st:=top 8) l6 c6 k6
 have b6:=F6.binds (ps:=["_law_found"]) fun _ _ _ _ _ _ us hl=>by obtain ⟨x0,rfl⟩:=len1 hl; exact rfl
 have F7:=fun_mk (st:=top 9) l7 c7 k7
 have b7:=F7.binds (ps:=["_law_cell","_law_k"]) fun _ _ _ _ _ _ us hl=>by obtain ⟨x0,x1,rfl⟩:=len2 hl; exact rfl
 have F8:=fun_mk (st:=top 10) l8 c8 k8
 have b8:=F8.binds (ps:=["_law_script","_law_at","_law_k"]) fun _ _ _ _ _ _ us hl=>by obtain ⟨x0,x1,x2,rfl⟩:=len3 hl; exact rfl
 have F9:=fun_mk (st:=top 11) l9 c9 k9
 have b9:=F9.binds (ps:=["_law_script"]) fun _ _ _ _ _ _ us hl=>by obtain ⟨x0,rfl⟩:=len1 hl; exact rfl
 have F10:=fun_mk (st:=top 12) l10 c10 k10
 have b10:=F10.binds (ps:=["_law_cell","_law_passages"]) fun _ _ _ _ _ _ us hl=>by obtain ⟨x0,x1,rfl⟩:=len2 hl; exact rfl
 have F11:=fun_mk (st:=top 13) l11 c11 k11
 have b11:=F11.binds (ps:=["_law_cells","_law_passages"]) fun _ _ _ _ _ _ us hl=>by obtain ⟨x0,x1,rfl⟩:=len2 hl; exact rfl
 have F12:=fun_mk (st:=top 14) l12 c12 k12
 have b12:=F12.binds (ps:=["_law_passages","_law_plan_here"]) fun _ _ _ _ _ _ us hl=>by obtain ⟨x0,x1,rfl⟩:=len2 hl; exact rfl
 have F13:=fun_mk (st:=top 15) l13 c13 k13
 have b13:=F13.binds (ps:=["_law_legs_here","_law_size","_law_moment"]) fun _ _ _ _ _ _ us hl=>by obtain ⟨x0,x1,x2,rfl⟩:=len3 hl; exact rfl
 have F14:=fun_mk (st:=top 16) l14 c14 k14
 have b14:=F14.binds (ps:=["_law_legs_here","_law_cells"]) fun _ _ _ _ _ _ us hl=>by obtain ⟨x0,x1,rfl⟩:=len2 hl; exact rfl
 have F15:=fun_mk (st:=top 17) l15 c15 k15
 have b15:=F15.binds (ps:=["_law_plan_here"]) fun _ _ _ _ _ _ us hl=>by obtain ⟨x0,rfl⟩:=len1 hl; exact rfl
 have F16:=fun_mk (st:=top 18) l16 c16 k16
 have b16:=F16.binds (ps:=["_law_found","_law_due"]) fun _ _ _ _ _ _ us hl=>by obtain ⟨x0,x1,rfl⟩:=len2 hl; exact rfl
 have F17:=fun_mk (st:=top 19) l17 c17 k17
 refine ⟨PySem.W.fnOf "law" "law" (defArgs (top 19)) (defBody (top 19)) (defScope (top 19)) .none kV17 dc17 pm17 an17 cd17 ct17,fun s v=>.of_eq rfl,fun base _ _=>?_⟩
 have Cspans_of : Cal l.prog w K mg base 1 "spans_of" ["passages","plan"] (spV K Pg.m_spans_of):=⟨_,_,ok_spans_of F0 B (kits K) ,PySem.W.mg_of X G a0,k0,b0⟩
 have Cset_out : Cal l.prog w K mg base 2 "set_out" ["passages","plan","moment"] (spV K Pg.m_set_out):=⟨_,_,ok_set_out F1 B (kits K) Cspans_of,PySem.W.mg_of X G a1,k1,b1⟩
 have Chighest : Cal l.prog w K mg base 1 "highest" ["changes"] (spV K m_highest):=⟨_,_,ok_highest F2 B (kits K) ,PySem.W.mg_of X G a2,k2,b2⟩
 have Cmost_at_once : Cal l.prog w K mg base 2 "most_at_once" ["passages","plan"] (spV K m_most_at_once):=⟨_,_,ok_most_at_once F3 B (kits K) Cspans_of Chighest,PySem.W.mg_of X G a3,k3,b3⟩
 have C_law_cell_at : Cal l.prog w K mg base 1 "_law_cell_at" ["_law_script","_law_k"] (spV K m__law_cell_at):=⟨_,_,ok__law_cell_at F4 B (kits K) ,PySem.W.mg_of X G a4,k4,b4⟩
 have C_law_mixed : Cal l.prog w K mg base 1 "_law_mixed" ["_law_cell","_law_k"] (spV K m__law_mixed):=⟨_,_,ok__law_mixed F5 B (kits K) ,PySem.W.mg_of X G a5,k5,b5⟩
 have C_law_whole : Cal l.prog w K mg base 1 "_law_whole" ["_law_found"] (spV K m__law_whole):=⟨_,_,ok__law_whole F6 B (kits K) ,PySem.W.mg_of X G a6,k6,b6⟩
 have C_law_great : Cal l.prog w K mg base 2 "_law_great" ["_law_cell","_law_k"] (spV K m__law_great):=⟨_,_,ok__law_great F7 B (kits K) C_law_mixed,PySem.W.mg_of X G a7,k7,b7⟩
 have C_law_far : Cal l.prog w K mg base 2 "_law_far" ["_law_script","_law_at","_law_k"] (spV K m__law_far):=⟨_,_,ok__law_far F8 B (kits K) C_law_mixed C_law_cell_at,PySem.W.mg_of X G a8,k8,b8⟩
 have C_law_joined : Cal l.prog w K mg base 3 "_law_joined" ["_law_script"] (spV K m__law_joined):=⟨_,_,ok__law_joined F9 B (kits K) C_law_mixed C_law_cell_at C_law_far,PySem.W.mg_of X G a9,k9,b9⟩
 have C_law_walk : Cal l.prog w K mg base 2 "_law_walk" ["_law_cell","_law_passages"] (spV K m__law_walk):=⟨_,_,ok__law_walk F10 B (kits K) C_law_mixed,PySem.W.mg_of X G a10,k10,b10⟩
 have C_law_plan : Cal l.prog w K mg base 3 "_law_plan" ["_law_cells","_law_passages"] (spV K m__law_plan):=⟨_,_,ok__law_plan F11 B (kits K) C_law_mixed C_law_walk C_law_great,PySem.W.mg_of X G a11,k11,b11⟩
 have C_law_legs : Cal l.prog w K mg base 1 "_law_legs" ["_law_passages","_law_plan_here"] (spV K m__law_legs):=⟨_,_,ok__law_legs F12 B (kits K) ,PySem.W.mg_of X G a12,k12,b12⟩
 have C_law_now : Cal l.prog w K mg base 1 "_law_now" ["_law_legs_here","_law_size","_law_moment"] (spV K m__law_now):=⟨_,_,ok__law_now F13 B (kits K) ,PySem.W.mg_of X G a13,k13,b13⟩
 have C_law_moments : Cal l.prog w K mg base 2 "_law_moments" ["_law_legs_here","_law_cells"] (spV K m__law_moments):=⟨_,_,ok__law_moments F14 B (kits K) C_law_mixed,PySem.W.mg_of X G a14,k14,b14⟩
 have C_law_copied : Cal l.prog w K mg base 1 "_law_copied" ["_law_plan_here"] (spV K m__law_copied):=⟨_,_,ok__law_copied F15 B (kits K) ,PySem.W.mg_of X G a15,k15,b15⟩
 have C_law_numbers : Cal l.prog w K mg base 2 "_law_numbers" ["_law_found","_law_due"] (spV K m__law_numbers):=⟨_,_,ok__law_numbers F16 B (kits K) C_law_whole,PySem.W.mg_of X G a16,k16,b16⟩
 exact (ok_law (P:=l.prog) (w:=w) (base:=base) F17 B (kits K) C_law_joined C_law_plan C_law_legs Cmost_at_once C_law_moments C_law_copied C_law_numbers Cset_out C_law_now).imp (law_sp fun ns hl=>e_law hl)
end K43
open PySem PySem.W PyProof.Rows
set_option maxRecDepth 100000 in
set_option maxHeartbeats 0 in
theorem PySem.Challenge.cw_leavehall_k43_most_at_once_holds : PySem.Challenge.rw_leavehall_k43_most_at_once.Holds := by
 w_on; o_law; k_head; (case hw=>w_witness2)
 k_fill
 refine VM.walk (l:=PySem.Challenge.rw_leavehall_k43_most_at_once) (k:=4) (x:="_law_script") rfl rfl ⟨rfl,by decide,by decide⟩ (fun w h Y=>PySem.W.kIn_of Y) ?F
 case F =>
  intro w mg fa h KX G hmg
  refine' K43.all_mk KX G hmg ?a0 ?l0 ?c0 ?k0 ?a1 ?l1 ?c1 ?k1 ?a2 ?l2 ?c2 ?k2 ?a3 ?l3 ?c3 ?k3 ?a4 ?l4 ?c4 ?k4 ?a5 ?l5 ?c5 ?k5 ?a6 ?l6 ?c6 ?k6 ?a7 ?l7 ?c7 ?k7 ?a8 ?l8 ?c8 ?k8 ?a9 ?l9 ?c9 ?k9 ?a10 ?l10 ?c10 ?k10 ?a11 ?l11 ?c11 ?k11 ?a12 ?l12 ?c12 ?k12 ?a13 ?l13 ?c13 ?k13 ?a14 ?l14 ?c14 ?k14 ?a15 ?l15 ?c15 ?k15 ?a16 ?l16 ?c16 ?k16 ?a17 ?l17 ?c17 ?k17 ?z_len ?z_list ?z_range ?z_enumerate ?z_zip ?z_abs ?z_sum ?z_min ?z_max ?z_int ?z_bool ?z_tuple ?z_str ?z_sorted ?z_set ?z_isinstance
  (case a0=>k_is)
  (case l0=>k_is)
  (case c0=>k_is)
  (case k0=>k_is)
  (case a1=>k_is)
  (case l1=>k_is)
  (case c1=>k_is)
  (case k1=>k_is)
  (case a2=>k_is)
  (case l2=>k_is)
  (case c2=>k_is)
  (case k2=>k_is)
  (case a3=>k_is)
  (case l3=>k_is)
  (case c3=>k_is)
  (case k3=>k_is)
  (case a4=>k_is)
  (case l4=>k_is)
  (case c4=>k_is)
  (case k4=>k_is)
  (case a5=>k_is)
  (case l5=>k_is)
  (case c5=>k_is)
  (case k5=>k_is)
  (case a6=>k_is)
  (case l6=>k_is)
  (case c6=>k_is)
  (case k6=>k_is)
  (case a7=>k_is)
  (case l7=>k_is)
  (case c7=>k_is)
  (case k7=>k_is)
  (case a8=>k_is)
  (case l8=>k_is)
  (case c8=>k_is)
  (case k8=>k_is)
  (case a9=>k_is)
  (case l9=>k_is)
  (case c9=>k_is)
  (case k9=>k_is)
  (case a10=>k_is)
  (case l10=>k_is)
  (case c10=>k_is)
  (case k10=>k_is)
  (case a11=>k_is)
  (case l11=>k_is)
  (case c11=>k_is)
  (case k11=>k_is)
  (case a12=>k_is)
  (case l12=>k_is)
  (case c12=>k_is)
  (case k12=>k_is)
  (case a13=>k_is)
  (case l13=>k_is)
  (case c13=>k_is)
  (case k13=>k_is)
  (case a14=>k_is)
  (case l14=>k_is)
  (case c14=>k_is)
  (case k14=>k_is)
  (case a15=>k_is)
  (case l15=>k_is)
  (case c15=>k_is)
  (case k15=>k_is)
  (case a16=>k_is)
  (case l16=>k_is)
  (case c16=>k_is)
  (case k16=>k_is)
  (case a17=>k_is)
  (case l17=>k_is)
  (case c17=>k_is)
  (case k17=>k_is)
  (case z_len=>k_is)
  (case z_list=>k_is)
  (case z_range=>k_is)
  (case z_enumerate=>k_is)
  (case z_zip=>k_is)
  (case z_abs=>k_is)
  (case z_sum=>k_is)
  (case z_min=>k_is)
  (case z_max=>k_is)
  (case z_int=>k_is)
  (case z_bool=>k_is)
  (case z_tuple=>k_is)
  (case z_str=>k_is)
  (case z_sorted=>k_is)
  (case z_set=>k_is)
  (case z_isinstance=>k_is)
