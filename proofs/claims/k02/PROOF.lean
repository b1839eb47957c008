import PyProof.Rows.All
import Wide.All
import OpenK.AllK
import Wide.FinOn
import Lean
import PyProof.EqAt
import PyProof.EqKinds
import PyProof.TupleCall
import PySem.Challenge.RW_leavehall_k02_halls_refused
set_option Elab.async false
set_option linter.all false
set_option maxRecDepth 100000
namespace L2
open PySem PySem.Spec PyProof.Rows
noncomputable abbrev Key:=Sum Int Str
noncomputable def keyIs : Key→Value→Bool
 | .inl k,v=>Value.isInt k v
 | .inr x,v=>Value.isStrOf x v
noncomputable def keyH (w : World) : Key→Int
 | .inl k=>hashInt k
 | .inr x=>hashStr w x
theorem keyIs_shape : ∀ {k : Key} {v : Value},keyIs k v = true→(∃ i t,k = Sum.inl i∧v = Value.int i t)∨(∃ x t,k = Sum.inr x∧v = Value.str x t)
 | .inl i,v,h=>by
  obtain ⟨t,e⟩:=Value.isInt_shape (k:=i) (v:=v) h
  exact .inl ⟨i,t,rfl,e⟩
 | .inr x,v,h=>by
  obtain ⟨t,e⟩:=Value.isStrOf_shape (x:=x) (v:=v) h
  exact .inr ⟨x,t,rfl,e⟩
theorem key_ll (a b : Int) : decide ((Sum.inl a : Key) = Sum.inl b) = (a == b):=by
 by_cases e : a = b
 ·subst e; simp
 ·have h : ¬ (Sum.inl a : Key) = Sum.inl b:=fun q=>e (Sum.inl.inj q)
  rw [decide_eq_false h]
  exact (beq_eq_false_iff_ne.mpr e).symm
theorem key_rr (a b : Str) : decide ((Sum.inr a : Key) = Sum.inr b) = decide (a = b):=by
 by_cases e : a = b
 ·subst e; simp
 ·have h : ¬ (Sum.inr a : Key) = Sum.inr b:=fun q=>e (Sum.inr.inj q)
  rw [decide_eq_false h,decide_eq_false e]
theorem key_lr (a : Int) (b : Str) : decide ((Sum.inl a : Key) = Sum.inr b) = false:=decide_eq_false (fun q=>nomatch q)
theorem key_rl (a : Str) (b : Int) : decide ((Sum.inr a : Key) = Sum.inl b) = false:=decide_eq_false (fun q=>nomatch q)
noncomputable def mixKind (prog : Program) (w : World) : PySem.KeyKind prog w Key where
 is:=keyIs
 hash:=keyH w
 inj:=fun v a b ha hb=>by
  rcases keyIs_shape ha with ⟨i,t,rfl,rfl⟩ | ⟨x,t,rfl,rfl⟩
  ·rcases keyIs_shape hb with ⟨j,u,rfl,e⟩ | ⟨y,u,rfl,e⟩
   ·injection e with e1 _; rw [e1]
   ·exact nomatch e
  ·rcases keyIs_shape hb with ⟨j,u,rfl,e⟩ | ⟨y,u,rfl,e⟩
   ·exact nomatch e
   ·injection e with e1 _; rw [e1]
 byValue:=fun k v h=>by
  rcases keyIs_shape h with ⟨i,t,rfl,rfl⟩ | ⟨x,t,rfl,rfl⟩ <;> rfl
 pyHash:=fun hv h=>by
  rcases keyIs_shape hv with ⟨i,t,rfl,rfl⟩ | ⟨x,t,rfl,rfl⟩
  ·exact wpAny_pyHash_int h
  ·exact wpAny_pyHash_str h
 eqBool:=fun hu hv h=>by
  rcases keyIs_shape hu with ⟨i,t,rfl,rfl⟩ | ⟨x,t,rfl,rfl⟩
  ·rcases keyIs_shape hv with ⟨j,u,rfl,rfl⟩ | ⟨y,u,rfl,rfl⟩
   ·rw [key_ll] at h; exact wpAny_eqBool_int h
   ·rw [key_lr] at h; exact SeqAt.EqAt.int_str i t y u _ _ _ _ h
  ·rcases keyIs_shape hv with ⟨j,u,rfl,rfl⟩ | ⟨y,u,rfl,rfl⟩
   ·rw [key_rl] at h; exact SeqAt.EqAt.str_int x t j u _ _ _ _ h
   ·rw [key_rr] at h; exact wpAny_eqBool_str h
 «strs»:=fun k x t v h=>by
  rcases keyIs_shape h with ⟨i,u,rfl,e⟩ | ⟨y,u,rfl,e⟩
  ·exact nomatch e
  ·injection e with e1 _
   subst e1
   cases v <;> rfl
end L2
namespace L2
open PySem PySem.Spec PyProof.Rows
inductive V where
 | non | bl (b : Bool) | int (i : Int) | str (x : Str) | byt (b : Array UInt8) | flt (b : UInt64) | ref (a : Addr) | ty (n : String)
 deriving DecidableEq
noncomputable def RelV : V→Value→Prop
 | .non,u=>u = Value.none
 | .bl b,u=>u = Value.bool b
 | .int i,u=>∃ t,u = Value.int i t
 | .str x,u=>∃ t,u = Value.str x t
 | .byt b,u=>∃ t,u = Value.bytes b t
 | .flt b,u=>∃ t,u = Value.float b t
 | .ref a,u=>u = Value.ref a
 | .ty n,u=>u = Value.type n
noncomputable abbrev Vals : List V→List Value→Prop:=Paired RelV
theorem Vals.length {xs : List V} {us : List Value} (r : Vals xs us) : xs.length = us.length:=Paired.length r
theorem Vals.get : ∀ {xs : List V} {us : List Value} {i : Nat} {x : V},Vals xs us→xs[i]? = some x→∃ u,us[i]? = some u∧RelV x u
 | _,_,_,_,.nil,e=>by simp at e
 | _,_,0,_,.cons r _,e=>by simp at e; subst e; exact ⟨_,rfl,r⟩
 | _,_,i + 1,x,.cons _ t,e=>by
  obtain ⟨u,h1,h2⟩:=Vals.get (i:=i) (x:=x) t (by simpa using e)
  exact ⟨u,by simpa using h1,h2⟩
theorem Vals.set {x : V} {u : Value} (r : RelV x u) : ∀ {xs : List V} {us : List Value} (i : Nat),Vals xs us→Vals (xs.set i x) (us.set i u)
 | _,_,_,.nil=>.nil
 | _,_,0,.cons _ t=>.cons r t
 | _,_,i + 1,.cons q t=>.cons q (Vals.set r i t)
theorem Vals.append : ∀ {xs ys : List V} {us ws : List Value},Vals xs us→Vals ys ws→Vals (xs ++ ys) (us ++ ws)
 | _,_,_,_,.nil,s=>s
 | _,_,_,_,.cons r t,s=>.cons r (Vals.append t s)
theorem Vals.take : ∀ {xs : List V} {us : List Value} (n : Nat),Vals xs us→Vals (xs.take n) (us.take n)
 | _,_,0,_=>.nil
 | _,_,_ + 1,.nil=>.nil
 | _,_,n + 1,.cons r t=>.cons r (Vals.take n t)
theorem Vals.drop : ∀ {xs : List V} {us : List Value} (n : Nat),Vals xs us→Vals (xs.drop n) (us.drop n)
 | _,_,0,r=>r
 | _,_,_ + 1,.nil=>.nil
 | _,_,n + 1,.cons _ t=>Vals.drop n t
noncomputable def RelO : Option V→Option Value→Prop
 | some v,some u=>RelV v u
 | none,none=>True
 | _,_=>False
noncomputable def KV {κ : Type} : List (κ × V)→List (κ × Value)→Prop:=Paired fun (p : κ × V) (q : κ × Value)=>p.1 = q.1∧RelV p.2 q.2
noncomputable def kV : Key→V
 | .inl i=>.int i
 | .inr x=>.str x
inductive HO where
 | lst (xs : List V)
 | tup (xs : List V)
 | dK (kvs : List (Key × V)) | dT (kvs : List (List Key × V))
 | set (S : Int→Bool) (n : Nat)
 | ins (C dx : Addr) (fs : List (Str × V))
 | own (x : Addr)
 | xd (fs : List (Str × V))
 | met (f x : Addr)
 | rng (lo hi : Int)
 | frz (o : Obj) (u : HO)
 | tbl (ps : Array Value)
 | ext (φ : Heap→Prop)
noncomputable abbrev Hp:=Addr→Option HO
noncomputable def upd (H : Hp) (a : Addr) (o : HO) : Hp:=fun b=>if b = a then some o else H b
theorem upd_same {H : Hp} {a : Addr} {o : HO} : upd H a o a = some o:=by unfold upd; rw [if_pos rfl]
theorem upd_ne {H : Hp} {a b : Addr} {o : HO} (h : b ≠ a) : upd H a o b = H b:=by unfold upd; rw [if_neg h]
theorem ne_of_none {H : Hp} {a b : Addr} {o : HO} (h : H a = some o) (h' : H b = none) : a ≠ b:=by
 intro e; subst e; rw [h] at h'; cases h'
section
variable (P : Program) (w : World)
noncomputable def ObjOk (H : Hp) (h : Heap) (a : Addr) : HO→Prop
 | .lst xs=>xs.length≤sizeLine∧∃ (its : List Value) (n : Nat),Vals xs its∧h.get? a = some { cls:=.type "list",data:=.seq its.toArray n }
 | .tup xs=>xs.length≤sizeLine∧∃ its : List Value,Vals xs its∧IsTup h a its.toArray
 | .dK kvs=>kvs.length≤sizeLine∧(a == sysModules) = false∧∃ vs,KV kvs vs∧h.DictOf (mixKind P w) a vs
 | .dT kvs=>kvs.length≤sizeLine∧(a == sysModules) = false∧∃ xs : List (List Key × Addr × Value),
   Paired (fun (p : List Key × V) (q : List Key × Addr × Value)=>p.1 = q.1∧H q.2.1 = some (.tup (p.1.map kV))∧RelV p.2 q.2.2) kvs xs ∧
   ∃ o es ep,h.get? a = some o∧o.ExactDict∧o.data = .dict es ep∧es.toList = xs.map (entryOfKey (tupleKind (mixKind P w)))∧(xs.map (·.1)).Nodup
 | .set S n=>h.SetOf (intKind P w) a S n
 | .ins C dx fs=>H dx = some (.own a)∧fs.length≤1000∧dx ≠ a∧h.get? a = some (PySem.W.instObj C dx) ∧
   ∃ mA,h.Ns1 dx mA∧(∀ f,RelO (fs.lookup f) (mA f))∧PySem.Within mA (fs.map (·.1))
 | .own _=>∃ o,h.get? a = some o
 | .xd fs=>∃ mA,h.Ns1 a mA∧∀ f,RelO (fs.lookup f) (mA f)
 | .rng lo hi=>∃ t u v,h.get? a = some { cls:=.type "range",data:=.fields #[.int lo t,.int hi u,.int 1 v] }
 | .frz o u=>h.get? a = some o∧ObjOk H h a u
 | .tbl ps=>h.get? a = some { cls:=.none,data:=.fields ps }
 | .met f x=>h.get? a = some (PySem.W.methodObj (.ref f) (.ref x))
 | .ext φ=>φ h∧(∃ o,h.get? a = some o)∧∀ h1 h2 : Heap,φ h1→(∀ o,h1.get? a = some o→h2.get? a = some o)→φ h2
noncomputable def HOk (H : Hp) (h : Heap) : Prop:=∀ a o,H a = some o→ObjOk P w H h a o
end
section
variable {P : Program} {w : World} {H H' : Hp} {h h' : Heap} {a : Addr} {o : HO}
theorem ObjOk.lt (x : ObjOk P w H h a o) : a < h.objs.size:=by
 cases o with
 | lst xs=>obtain ⟨_,_,_,_,e⟩:=x; exact Heap.lt_size e
 | tup xs=>obtain ⟨_,_,_,p⟩:=x; exact p.lt
 | dK kvs=>obtain ⟨_,_,_,_,o,_,_,e,_⟩:=x; exact Heap.lt_size e
 | dT kvs=>obtain ⟨_,_,_,_,o,_,_,e,_⟩:=x; exact Heap.lt_size e
 | set S n=>obtain ⟨o,_,_,_,e,_⟩:=x; exact Heap.lt_size e
 | ins C dx fs=>obtain ⟨_,_,_,e,_⟩:=x; exact Heap.lt_size e
 | own y=>obtain ⟨_,e⟩:=x; exact Heap.lt_size e
 | xd fs=>obtain ⟨_,⟨_,_,_,e,_⟩,_⟩:=x; exact Heap.lt_size e
 | rng lo hi=>obtain ⟨_,_,_,e⟩:=x; exact Heap.lt_size e
 | frz ob u=>obtain ⟨e,_⟩:=x; exact Heap.lt_size e
 | tbl ps=>exact Heap.lt_size (show h.get? a = some _ from x)
 | met f y=>exact Heap.lt_size (show h.get? a = some _ from x)
 | ext φ=>obtain ⟨_,⟨_,e⟩,_⟩:=x; exact Heap.lt_size e
theorem Paired.mapP {α β : Type} {F G : α→β→Prop} : ∀ {l₁ : List α} {l₂ : List β},Paired F l₁ l₂→(∀ a b,F a b→G a b)→Paired G l₁ l₂
 | _,_,.nil,_=>.nil
 | _,_,.cons r t,f=>.cons (f _ _ r) (Paired.mapP t f)
theorem ObjOk.stay (x : ObjOk P w H h a o) (k : ∀ b u,(b = a∨H b = some (.own a))→h.get? b = some u→h'.get? b = some u)
  (ho : ∀ b,H b = some (.own a)→H' b = some (.own a)) (ht : ∀ b xs,H b = some (.tup xs)→H' b = some (.tup xs)) : ObjOk P w H' h' a o:=by
 induction o with
 | lst xs=>obtain ⟨z,its,n,r,e⟩:=x; exact ⟨z,its,n,r,k _ _ (.inl rfl) e⟩
 | tup xs=>obtain ⟨z,its,r,ob,e,c⟩:=x; exact ⟨z,its,r,ob,k _ _ (.inl rfl) e,c⟩
 | dK kvs=>obtain ⟨z,y,vs,r,ob,es,ep,e,c⟩:=x; exact ⟨z,y,vs,r,ob,es,ep,k _ _ (.inl rfl) e,c⟩
 | dT kvs =>
  obtain ⟨z,y,xs,r,ob,es,ep,e,c⟩:=x
  exact ⟨z,y,xs,Paired.mapP r fun p q z=>⟨z.1,ht _ _ z.2.1,z.2.2⟩,ob,es,ep,k _ _ (.inl rfl) e,c⟩
 | set S n=>obtain ⟨ob,es,ep,t,e,c⟩:=x; exact ⟨ob,es,ep,t,k _ _ (.inl rfl) e,c⟩
 | ins C dx fs =>
  obtain ⟨d,z,ne,e,mA,⟨od,es,ep,e2,c⟩,r⟩:=x
  exact ⟨ho _ d,z,ne,k _ _ (.inl rfl) e,mA,⟨od,es,ep,k _ _ (.inr d) e2,c⟩,r⟩
 | own y=>obtain ⟨ob,e⟩:=x; exact ⟨ob,k _ _ (.inl rfl) e⟩
 | xd fs=>obtain ⟨mA,⟨od,es,ep,e,c⟩,r⟩:=x; exact ⟨mA,⟨od,es,ep,k _ _ (.inl rfl) e,c⟩,r⟩
 | rng lo hi=>obtain ⟨t,u,v,e⟩:=x; exact ⟨t,u,v,k _ _ (.inl rfl) e⟩
 | frz ob u ih=>obtain ⟨e,q⟩:=x; exact ⟨k _ _ (.inl rfl) e,ih q⟩
 | tbl ps =>
  have e : h.get? a = some { cls:=.none,data:=.fields ps }:=x
  show h'.get? a = some { cls:=.none,data:=.fields ps }
  exact k a _ (.inl rfl) e
 | met f y =>
  have e : h.get? a = some (PySem.W.methodObj (.ref f) (.ref y)):=x
  show h'.get? a = some (PySem.W.methodObj (.ref f) (.ref y))
  exact k a _ (.inl rfl) e
 | ext φ=>obtain ⟨p,⟨o,e⟩,st⟩:=x; exact ⟨st _ _ p fun o q=>k _ _ (.inl rfl) q,⟨o,k _ _ (.inl rfl) e⟩,st⟩
theorem HOk.lt (x : HOk P w H h) (e : H a = some o) : a < h.objs.size:=(x a o e).lt
theorem HOk.fresh (x : HOk P w H h) (e : h.objs.size≤a) : H a = none:=by
 cases q : H a with
 | none=>rfl
 | some u=>exact absurd (Nat.lt_of_lt_of_le (x.lt q) e) (Nat.lt_irrefl _)
theorem HOk.kept (x : HOk P w H h) (k : ∀ b u,h.get? b = some u→h'.get? b = some u) : HOk P w H h':=fun a o e =>
 (x a o e).stay (fun b u _ q=>k b u q) (fun _ q=>q) fun _ _ q=>q
theorem HOk.laid (x : HOk P w H h) (k : ∀ b u,h.get? b = some u→h'.get? b = some u) (hp : h.objs.size≤a) (new : ObjOk P w (upd H a o) h' a o) : HOk P w (upd H a o) h':=fun b u e=>by
 have hn:=x.fresh hp
 by_cases hb : b = a
 ·subst hb; rw [upd_same] at e; cases e; exact new
 ·rw [upd_ne hb] at e
  exact (x b u e).stay (fun c v _ q=>k c v q) (fun c q=>by rw [upd_ne (ne_of_none q hn)]; exact q) fun c xs q=>by rw [upd_ne (ne_of_none q hn)]; exact q
end
noncomputable def Rd (H : Hp) (a : Addr) (u : HO) : Prop:=H a = some u∨∃ o,H a = some (.frz o u)
theorem Rd.ok {P : Program} {w : World} {H : Hp} {h : Heap} {a : Addr} {u : HO} (r : Rd H a u) (x : HOk P w H h) : ObjOk P w H h a u:=by
 rcases r with r | ⟨o,r⟩
 ·exact x a u r
 ·obtain ⟨_,q⟩:=x a _ r
  exact q
noncomputable def Mut : Option HO→Prop
 | some (.lst _)=>True
 | some (.dK _)=>True
 | some (.dT _)=>True
 | some (.set _ _)=>True
 | some (.ins _ _ _)=>True
 | some (.ext _)=>True
 | _=>False
section
variable {P : Program} {w : World} {H : Hp} {h h' : Heap} {x e : Addr} {o' : HO}
theorem HOk.write (ok : HOk P w H h) (mu : Mut (H x)) (he : e = x∨H e = some (.own x)) (k : ∀ b u,b ≠ e→h.get? b = some u→h'.get? b = some u) (heo : ∃ u,h'.get? e = some u)
  (new : ObjOk P w (upd H x o') h' x o') : HOk P w (upd H x o') h':=fun b u q=>by
 have nown : ∀ c y,H c = some (.own y)→c ≠ x:=fun c y r z=>by subst z; rw [r] at mu; exact mu
 have ntup : ∀ c xs,H c = some (.tup xs)→c ≠ x:=fun c xs r z=>by subst z; rw [r] at mu; exact mu
 by_cases hb : b = x
 ·subst hb; rw [upd_same] at q; cases q; exact new
 ·rw [upd_ne hb] at q
  by_cases hbe : b = e
  ·have q' : H b = some (.own x):=by
    rcases he with z | z
    ·exact absurd (hbe.trans z) hb
    ·rw [hbe]; exact z
   rw [q] at q'; cases q'
   obtain ⟨v,hv⟩:=heo
   exact ⟨v,by rw [hbe]; exact hv⟩
  ·refine (ok b u q).stay (fun c v hc r=>k c v ?_ r) (fun c r=>by rw [upd_ne (nown c b r)]; exact r) fun c xs r=>by rw [upd_ne (ntup c xs r)]; exact r
   rcases hc with rfl | hc
   ·exact hbe
   ·rintro rfl
    rcases he with z | z
    ·exact nown c b hc z
    ·rw [hc] at z; cases z; exact hb rfl
end
structure Un (fs ex : List Addr) (H H' : Hp) (h h' : Heap) : Prop where
 keep : ∀ b o,h.get? b = some o→H b = none→b ∉ fs→b ∉ ex→h'.get? b = some o
 slot : ∀ b o,h.get? b = some o→H b = none→b∈fs→b ∉ ex→∃ sl,h'.get? b = some { o with slots:=sl }
 free : ∀ b o,h.get? b = some o→H b = none→b ∉ ex→H' b = none
 there : ∀ b o,h.get? b = some o→b ∉ ex→∃ o',h'.get? b = some o'
 tups : ∀ b xs,H b = some (.tup xs)→H' b = some (.tup xs)
 frzs : ∀ b o u,H b = some (.frz o u)→H' b = some (.frz o u)
 tbls : ∀ b ps,H b = some (.tbl ps)→∃ more,H' b = some (.tbl (ps ++ more))
section
variable {fs fs' ex ex' : List Addr} {H H1 H2 : Hp} {h h1 h2 h' : Heap} {a x e : Addr} {o : HO}
theorem Un.any (u : Un fs ex H H1 h h1) {b : Addr} {ob : Obj} (q : h.get? b = some ob) (n : H b = none) (hx : b ∉ ex) : ∃ sl,h1.get? b = some { ob with slots:=sl }:=by
 by_cases hb : b∈fs
 ·exact u.slot b ob q n hb hx
 ·exact ⟨ob.slots,u.keep b ob q n hb hx⟩
theorem Un.trans (a : Un fs ex H H1 h h1) (b : Un fs ex H1 H2 h1 h2) : Un fs ex H H2 h h2 where
 keep:=fun c ob q n hc hx=>b.keep c ob (a.keep c ob q n hc hx) (a.free c ob q n hx) hc hx
 slot:=fun c ob q n hc hx=>by
  obtain ⟨sl,e1⟩:=a.slot c ob q n hc hx
  obtain ⟨sl',e2⟩:=b.slot c _ e1 (a.free c ob q n hx) hc hx
  exact ⟨sl',e2⟩
 free:=fun c ob q n hx=>by
  obtain ⟨o',e1⟩:=a.there c ob q hx
  exact b.free c o' e1 (a.free c ob q n hx) hx
 there:=fun c ob q hx=>by
  obtain ⟨o',e1⟩:=a.there c ob q hx
  exact b.there c o' e1 hx
 tups:=fun c xs q=>b.tups c xs (a.tups c xs q)
 frzs:=fun c ob xs q=>b.frzs c ob xs (a.frzs c ob xs q)
 tbls:=fun c ps q=>by
  obtain ⟨m1,e1⟩:=a.tbls c ps q
  obtain ⟨m2,e2⟩:=b.tbls c _ e1
  exact ⟨m1 ++ m2,by rw [e2,Array.append_assoc]⟩
theorem Un.kept (k : ∀ b u,h.get? b = some u→h'.get? b = some u) : Un fs ex H H h h' :=
 ⟨fun b ob q _ _ _=>k b ob q,fun b ob q _ _ _=>⟨ob.slots,k b ob q⟩,fun _ _ _ n _=>n,fun b ob q _=>⟨ob,k b ob q⟩,fun _ _ q=>q,fun _ _ _ q=>q,fun _ ps q=>⟨#[],by rw [q]; simp⟩⟩
theorem Un.refl : Un fs ex H H h h:=Un.kept fun _ _ q=>q
theorem Un.laid (k : ∀ b u,h.get? b = some u→h'.get? b = some u) (hp : h.objs.size≤a) (hn : H a = none) : Un fs ex H (upd H a o) h h' where
 keep:=fun b u q _ _ _=>k b u q
 slot:=fun b u q _ _ _=>⟨u.slots,k b u q⟩
 free:=fun b u q n _=>by rw [upd_ne (Nat.ne_of_lt (Nat.lt_of_lt_of_le (Heap.lt_size q) hp))]; exact n
 there:=fun b u q _=>⟨u,k b u q⟩
 tups:=fun b xs q=>by rw [upd_ne (ne_of_none q hn)]; exact q
 frzs:=fun b u xs q=>by rw [upd_ne (ne_of_none q hn)]; exact q
 tbls:=fun b ps q=>⟨#[],by rw [upd_ne (ne_of_none q hn),q]; simp⟩
theorem Un.write (mu : Mut (H x)) (he : e = x∨H e = some (.own x)) (k : ∀ b u,b ≠ e→h.get? b = some u→h'.get? b = some u) (heo : ∃ u,h'.get? e = some u) : Un fs ex H (upd H x o) h h':=by
 have hx : ∀ b,H b = none→b ≠ x:=fun b n z=>by subst z; rw [n] at mu; exact mu
 have hb : ∀ b,H b = none→b ≠ e:=fun b n z=>by
  subst z
  rcases he with r | r
  ·exact hx b n r
  ·rw [n] at r; cases r
 have hm : ∀ b u,H b = some u→¬ Mut (some u)→b ≠ x:=fun b u q nm z=>by subst z; rw [q] at mu; exact nm mu
 refine ⟨fun b u q n _ _=>k b u (hb b n) q,fun b u q n _ _=>⟨u.slots,k b u (hb b n) q⟩,fun b u q n _=>by rw [upd_ne (hx b n)]; exact n,fun b u q _=>?_,
  fun b xs q=>by rw [upd_ne (hm b _ q fun z=>z)]; exact q,fun b u xs q=>by rw [upd_ne (hm b _ q fun z=>z)]; exact q,fun b ps q=>⟨#[],by rw [upd_ne (hm b _ q fun z=>z),q]; simp⟩⟩
 by_cases hbe : b = e
 ·subst hbe; exact heo
 ·exact ⟨u,k b u hbe q⟩
end
noncomputable def trk (h : Heap) (H : Hp) : List Addr:=(List.range h.objs.size).filter fun a=>(H a).isSome
noncomputable def hidT (h : Heap) (H : Hp) : Heap:=PySem.W.hideAll h (trk h H)
theorem hidT_size (h : Heap) (H : Hp) : (hidT h H).objs.size = h.objs.size:=PySem.W.hideAll_size _ _
theorem hidT_get {h : Heap} {H : Hp} {b : Addr} {o : Obj} (e : h.get? b = some o) (n : H b = none) : (hidT h H).get? b = some o :=
 PySem.W.hideAll_get _ e fun hm=>by
  have q : (H b).isSome = true:=(List.mem_filter.mp hm).2
  rw [n] at q; simp at q
theorem of_hidT {h : Heap} {H : Hp} {b : Addr} {o : Obj} (e : (hidT h H).get? b = some o) : h.get? b = some o∧H b = none:=by
 have e' : h.get? b = some o:=PySem.W.of_hideAll (trk h H) e
 refine ⟨e',?_⟩
 cases q : H b with
 | none=>rfl
 | some x =>
  have hm : b∈trk h H:=List.mem_filter.mpr ⟨List.mem_range.mpr (Heap.lt_size e'),by simp [q]⟩
  have z : (hidT h H).get? b = none:=PySem.W.hideAll_none (trk h H) hm
  rw [z] at e; cases e
noncomputable def allNews (g h : Heap) (L : Addr) : List (Addr × Obj):=(List.range h.objs.size).filterMap fun a=>if a = L∨(g.get? a).isSome = true then none else (h.get? a).map fun o=>(a,o)
noncomputable def rest (g h : Heap) (L d : Addr) : List (Addr × Obj):=(allNews g h L).filter fun p=>decide (p.1 ≠ d)
end L2
namespace L2
open PySem PySem.Spec PyProof.Rows
structure Mod (K : PySem.W.Frag) (mg : Str→Option Value) (base : Heap) : Prop where
 kin : K.In base
 glob : base.Ns mainGlobals mg
 blt : ∃ mb,base.Ns builtinsNs mb∧∀ x : Str,x ≠ "__name__"→mb x = bootBuiltins x
 nolimit : base.NoLimit
structure Cx where
 prog : Program
 w : World
 K : PySem.W.Frag
 mg : Str→Option Value
 base : Heap
 A : Around
 N : List Str
 s₀ : Shared
 H₀ : Hp
 env : Env
 outer : List Env
 stack : List Env
 ex : List Addr
 fn : Str→Bool
 calm : Bool
 pn : List (Addr × Obj)
 xe : Value→Shared→Prop
noncomputable def frs (l : List Env) : List Addr:=l.filterMap (·.frame)
noncomputable abbrev Cx.fs (X : Cx) : List Addr:=frs X.outer
noncomputable def Vis (sc : Scope) (x : Str) : Prop:=sc.names.lookup x = some .local∨sc.names.lookup x = some .cell∨sc.names.lookup x = some .free
noncomputable def Loc (sc : Scope) (x : Str) : Prop:=sc.names.lookup x = some .local∨sc.names.lookup x = some .cell
noncomputable def Look (env : Env) (h : Heap) (m : Str→Option Value) (x : Str) (u : Value) : Prop :=
 (env.kindOf x = some .local∧m x = some u)∨((env.kindOf x = some .cell∨env.kindOf x = some .free)∧∃ c,env.cells.lookup x = some c∧h.IsCell c (some u))
structure Cx.Ok (X : Cx) : Prop where
 mod : Mod X.K X.mg X.base
 kind : X.env.scope.kind = .function
 glob : X.env.globals = mainGlobals
 blt : X.env.builtins = builtinsNs
 above : X.s₀.heap.objs.size≤X.env.locals
 inj : ∀ x y c,X.env.cells.lookup x = some c→X.env.cells.lookup y = some c→x = y
 has : ∀ x,(X.env.kindOf x = some .cell∨X.env.kindOf x = some .free)→∃ c,X.env.cells.lookup x = some c
 cab : ∀ x c,X.fn x = true→X.env.cells.lookup x = some c→X.s₀.heap.objs.size≤c
 hd : X.calm = true→X.A.handled = none
 frames : X.A.frames = some X.stack
 stk : X.stack = X.outer∨(X.stack = X.env :: X.outer∧X.env.frame = some X.env.locals)
 exf : ∀ b∈X.ex,b ≠ X.env.locals∧∀ x c,X.env.cells.lookup x = some c→c ≠ b
 bs : ∀ b o,X.base.get? b = some o→X.s₀.heap.get? b = some o∧X.H₀ b = none
 bsz : X.base.objs.size≤X.s₀.heap.objs.size
 noex : ∀ b o,X.base.get? b = some o→b ∉ X.ex
 exfs : ∀ b∈X.ex,b ∉ X.fs
 funs : X.s₀.heap.FunFrames X.base X.outer
 frf : ∀ b∈X.fs,X.H₀ b = none
structure Inv (X : Cx) (pins : List (Addr × Obj)) (σ : List (Option V)) (H : Hp) (s : Shared) : Prop where
 ok : X.Ok
 os : s.os = X.s₀.os
 bare : AllBare s.gens
 base : Un X.fs X.ex X.H₀ H X.s₀.heap s.heap
 loc : ∃ m,s.heap.Ns X.env.locals m∧∀ (i : Nat) (x : Str) (v : V),X.N[i]? = some x→σ[i]? = some (some v)→Vis X.env.scope x→∃ u,RelV v u∧Look X.env s.heap m x u
 cell : ∀ x c,X.env.cells.lookup x = some c→∃ v,s.heap.IsCell c v
 free : H X.env.locals = none
 freeC : ∀ x c,X.env.cells.lookup x = some c→H c = none
 pin : ∀ p∈X.pn ++ pins,s.heap.get? p.1 = some p.2∧H p.1 = none∧p.1 ≠ X.env.locals∧p.1 ∉ X.fs∧∀ v,p.2.data ≠ .cell v
 hok : HOk X.prog X.w H s.heap
 len : σ.length = X.N.length
section
variable {X : Cx} {pins : List (Addr × Obj)} {σ : List (Option V)} {H H' : Hp} {s : Shared} {h' : Heap}
theorem Cx.Ok.nofr (ok : X.Ok) {b : Addr} {o : Obj} (e : X.base.get? b = some o) : b ∉ X.fs:=fun hb=>by
 have:=(ok.funs.mem hb).1
 rw [e] at this; cases this
theorem Inv.bs (I : Inv X pins σ H s) : ∀ b o,X.base.get? b = some o→s.heap.get? b = some o∧H b = none:=fun b o e =>
 ⟨I.base.keep b o (I.ok.bs b o e).1 (I.ok.bs b o e).2 (I.ok.nofr e) (I.ok.noex b o e),I.base.free b o (I.ok.bs b o e).1 (I.ok.bs b o e).2 (I.ok.noex b o e)⟩
theorem Inv.bk (I : Inv X pins σ H s) : ∀ b o,X.base.get? b = some o→s.heap.get? b = some o:=fun b o e=>(I.bs b o e).1
theorem Inv.mod (I : Inv X pins σ H s) : Mod X.K X.mg X.base:=I.ok.mod
theorem Inv.kIn (I : Inv X pins σ H s) : X.K.In s.heap:=I.ok.mod.kin.keeps I.bk
theorem Inv.fr (I : Inv X pins σ H s) : ∃ m,Fr X.base X.env.locals s.heap m :=
 let ⟨m,hn,_⟩:=I.loc
 ⟨m,hn,I.bk,Nat.le_trans I.ok.bsz I.ok.above⟩
theorem Inv.lt (I : Inv X pins σ H s) : X.env.locals < s.heap.objs.size:=let ⟨_,hn,_⟩:=I.loc; hn.lt
theorem Inv.sz (I : Inv X pins σ H s) : X.s₀.heap.objs.size≤s.heap.objs.size:=Nat.le_trans I.ok.above (Nat.le_of_lt I.lt)
theorem Inv.nofs (I : Inv X pins σ H s) {a : Addr} (h : s.heap.objs.size≤a) : a ∉ X.fs:=fun hb=>by
 obtain ⟨_,o,ho,_⟩:=I.ok.funs.mem hb
 exact absurd (Nat.lt_of_lt_of_le (Heap.lt_size ho) (Nat.le_trans I.sz h)) (Nat.lt_irrefl _)
theorem Inv.cne (I : Inv X pins σ H s) : ∀ x c,X.env.cells.lookup x = some c→c ≠ X.env.locals:=fun x c e z=>by
 obtain ⟨v,o,ho,hd⟩:=I.cell x c e
 obtain ⟨m,⟨o',es,ep,ho',hd',_⟩,_⟩:=I.loc
 rw [z,ho'] at ho; cases ho; rw [hd'] at hd; cases hd
theorem Inv.funs (I : Inv X pins σ H s) : s.heap.FunFrames X.base X.outer:=by
 have all : ∀ (l : List Env),(∀ b∈frs l,b∈X.fs)→X.s₀.heap.FunFrames X.base l→s.heap.FunFrames X.base l:=by
  intro l
  induction l with
  | nil=>intro _ _; trivial
  | cons env r ih =>
   intro hs hl
   obtain ⟨hk,⟨L,o,hf,hn,ho,hd⟩,hr⟩:=hl
   have hL : L∈X.fs:=hs L (by unfold frs; rw [List.filterMap_cons,hf]; exact List.mem_cons_self)
   obtain ⟨sl,e⟩:=I.base.slot L o ho (I.ok.frf L hL) hL fun z=>I.ok.exfs L z hL
   exact ⟨hk,⟨L,_,hf,hn,e,hd⟩,ih (fun b hb=>hs b (by unfold frs; rw [List.filterMap_cons,hf]; exact List.mem_cons_of_mem _ hb)) hr⟩
 exact all X.outer (fun _ hb=>hb) I.ok.funs
theorem Inv.stack (I : Inv X pins σ H s) : s.heap.FunFrames X.base X.stack:=by
 rcases I.ok.stk with e | ⟨e,hf⟩
 ·rw [e]; exact I.funs
 ·rw [e]
  obtain ⟨m,hn,_⟩:=I.loc
  refine .cons (by rw [I.ok.kind]; decide) hf hn ?_ I.funs
  exact Heap.get?_none_of_le (Nat.le_trans I.ok.bsz I.ok.above)
theorem Inv.stkSub (I : Inv X pins σ H s) : ∀ b∈frs X.stack,b∈X.env.locals :: X.fs:=fun b hb=>by
 rcases I.ok.stk with e | ⟨e,hf⟩
 ·rw [e] at hb; exact List.mem_cons_of_mem _ hb
 ·rw [e] at hb
  unfold frs at hb
  rw [List.filterMap_cons,hf] at hb
  exact hb
theorem Inv.stkFree (I : Inv X pins σ H s) : ∀ b∈frs X.stack,H b = none:=fun b hb=>by
 rcases List.mem_cons.mp (I.stkSub b hb) with e | hb
 ·rw [e]; exact I.free
 ·obtain ⟨_,o,ho,_⟩:=I.ok.funs.mem hb
  exact I.base.free b o ho (I.ok.frf b hb) fun z=>I.ok.exfs b z hb
theorem Inv.step {g' : Array GenState} {t' : Nat} {d' : Drawn} {ch : List Addr} (I : Inv X pins σ H s)
  (hch : ∀ b∈ch,(b∈X.ex∨X.s₀.heap.objs.size≤b)∧b ≠ X.env.locals∧(∀ x c,X.env.cells.lookup x = some c→c ≠ b)∧∀ p∈X.pn ++ pins,p.1 ≠ b)
  (keep : ∀ b o,b ≠ X.env.locals→b ∉ X.fs→b ∉ ch→s.heap.get? b = some o→H b = none→h'.get? b = some o)
  (slot : ∀ b o,b ≠ X.env.locals→b∈X.fs→b ∉ ch→s.heap.get? b = some o→H b = none→∃ sl,h'.get? b = some { o with slots:=sl }) (free : ∀ b o,b ∉ ch→s.heap.get? b = some o→H b = none→H' b = none)
  (there : ∀ b o,b ∉ ch→s.heap.get? b = some o→∃ o',h'.get? b = some o')
  (tups : ∀ b xs,H b = some (.tup xs)→H' b = some (.tup xs)) (frzs : ∀ b o u,H b = some (.frz o u)→H' b = some (.frz o u)) (tbls : ∀ b ps,H b = some (.tbl ps)→∃ more,H' b = some (.tbl (ps ++ more)))
  (ns : ∀ m,s.heap.Ns X.env.locals m→h'.Ns X.env.locals m) (hok : HOk X.prog X.w H' h') (hg : AllBare g') :
  Inv X pins σ H' { s with heap:=h',gens:=g',drawn:=d',toks:=t' }:=by
 have neL : ∀ b o,X.s₀.heap.get? b = some o→b ≠ X.env.locals:=fun b o e=>Nat.ne_of_lt (Nat.lt_of_lt_of_le (Heap.lt_size e) I.ok.above)
 have neC : ∀ b o,X.s₀.heap.get? b = some o→b ∉ X.ex→b ∉ ch:=fun b o e hx hb=>by
  rcases (hch b hb).1 with z | z
  ·exact hx z
  ·exact absurd (Nat.lt_of_lt_of_le (Heap.lt_size e) z) (Nat.lt_irrefl _)
 have cellK : ∀ x c,X.env.cells.lookup x = some c→∀ v,s.heap.IsCell c v→h'.IsCell c v:=fun x c e v ⟨o,ho,hd⟩=>by
  have nch : c ∉ ch:=fun z=>(hch c z).2.2.1 x c e rfl
  by_cases hc : c∈X.fs
  ·obtain ⟨sl,q⟩:=slot c o (I.cne x c e) hc nch ho (I.freeC x c e)
   exact ⟨_,q,hd⟩
  ·exact ⟨o,keep c o (I.cne x c e) hc nch ho (I.freeC x c e),hd⟩
 refine ⟨I.ok,I.os,hg,⟨fun b o e n hb hx=>?_,fun b o e n hb hx=>?_,fun b o e n hx=>?_,fun b o e hx=>?_,fun b xs e=>tups b xs (I.base.tups b xs e),fun b o xs e=>frzs b o xs (I.base.frzs b o xs e),fun b ps e=>?_⟩,?_,fun x c e=>?_,?_,fun x c e=>?_,fun p hp=>?_,hok,I.len⟩
 ·exact keep b o (neL b o e) hb (neC b o e hx) (I.base.keep b o e n hb hx) (I.base.free b o e n hx)
 ·obtain ⟨sl,e1⟩:=I.base.slot b o e n hb hx
  obtain ⟨sl',e2⟩:=slot b _ (neL b o e) hb (neC b o e hx) e1 (I.base.free b o e n hx)
  exact ⟨sl',e2⟩
 ·obtain ⟨o',e1⟩:=I.base.there b o e hx
  exact free b o' (neC b o e hx) e1 (I.base.free b o e n hx)
 ·obtain ⟨o',e1⟩:=I.base.there b o e hx
  exact there b o' (neC b o e hx) e1
 ·obtain ⟨m1,e1⟩:=I.base.tbls b ps e
  obtain ⟨m2,e2⟩:=tbls b _ e1
  exact ⟨m1 ++ m2,by rw [e2,Array.append_assoc]⟩
 ·obtain ⟨m,hn,hl⟩:=I.loc
  refine ⟨m,ns m hn,fun i x v e1 e2 e3=>?_⟩
  obtain ⟨u,r,l⟩:=hl i x v e1 e2 e3
  refine ⟨u,r,?_⟩
  rcases l with l | ⟨k,c,e,z⟩
  ·exact .inl l
  ·exact .inr ⟨k,c,e,cellK x c e _ z⟩
 ·obtain ⟨v,z⟩:=I.cell x c e
  exact ⟨v,cellK x c e v z⟩
 ·obtain ⟨m,⟨o,_,_,ho,_⟩,_⟩:=I.loc
  exact free _ o (fun z=>(hch _ z).2.1 rfl) ho I.free
 ·obtain ⟨v,o,ho,hd⟩:=I.cell x c e
  exact free c o (fun z=>(hch c z).2.2.1 x c e rfl) ho (I.freeC x c e)
 ·obtain ⟨e,n,ne,nf,d⟩:=I.pin p hp
  have nch : p.1 ∉ ch:=fun z=>(hch p.1 z).2.2.2 p hp rfl
  exact ⟨keep p.1 p.2 ne nf nch e n,free p.1 p.2 nch e n,ne,nf,d⟩
theorem Inv.un {t' : Nat} (I : Inv X pins σ H s) (u : Un X.fs [] H H' s.heap h') (hok : HOk X.prog X.w H' h') : Inv X pins σ H' { s with heap:=h',toks:=t' }:=by
 obtain ⟨m,⟨o,es,ep,ho,r⟩,_⟩:=id I.loc
 obtain ⟨sl,hL⟩:=u.any ho I.free (by simp)
 exact I.step (g':=s.gens) (d':=s.drawn) (ch:=[]) (fun _ z=>nomatch z) (fun b o _ hb _ e n=>u.keep b o e n hb (by simp)) (fun b o _ hb _ e n=>u.slot b o e n hb (by simp)) (fun b o _ e n=>u.free b o e n (by simp)) (fun b o _ e=>u.there b o e (by simp)) u.tups u.frzs u.tbls (fun m' hm=>by
  obtain ⟨o',es',ep',ho',r'⟩:=hm
  rw [ho] at ho'; cases ho'
  exact ⟨_,es',ep',hL,r'⟩) hok I.bare
theorem Inv.call {g' : Array GenState} {t' : Nat} {d' : Drawn} {ch : List Addr} (I : Inv X pins σ H s) (u : Un (frs X.stack) ch H H' s.heap h') (hok : HOk X.prog X.w H' h') (hg : AllBare g')
  (hch : ∀ b∈ch,(b∈X.ex∨X.s₀.heap.objs.size≤b)∧b ≠ X.env.locals∧(∀ x c,X.env.cells.lookup x = some c→c ≠ b)∧∀ p∈X.pn ++ pins,p.1 ≠ b) :
  Inv X pins σ H' { s with heap:=h',gens:=g',drawn:=d',toks:=t' }:=by
 obtain ⟨m,⟨o,es,ep,ho,r⟩,_⟩:=id I.loc
 obtain ⟨sl,hL⟩:=u.any ho I.free fun z=>(hch _ z).2.1 rfl
 exact I.step (ch:=ch) hch (fun b o hL hb hc e n=>u.keep b o e n (fun z=>(List.mem_cons.mp (I.stkSub b z)).elim hL hb) hc) (fun b o _ _ hc e n=>u.any e n hc) (fun b o hc e n=>u.free b o e n hc) (fun b o hc e=>u.there b o e hc) u.tups u.frzs u.tbls (fun m' hm=>by
  obtain ⟨o',es',ep',ho',r'⟩:=hm
  rw [ho] at ho'; cases ho'
  exact ⟨_,es',ep',hL,r'⟩) hok hg
theorem Inv.turned {t' : Nat} {it : Addr} (I : Inv X pins σ H s) (k : ∀ b o,b ≠ it→s.heap.get? b = some o→h'.get? b = some o) (hn : H it = none) (hL : it ≠ X.env.locals)
  (h1 : it∈X.ex∨X.s₀.heap.objs.size≤it) (h2 : ∀ x c,X.env.cells.lookup x = some c→c ≠ it) (h3 : ∀ p∈X.pn ++ pins,p.1 ≠ it) : Inv X pins σ H { s with heap:=h',toks:=t' }:=by
 have nit : ∀ b u,H b = some u→b ≠ it:=fun b u e z=>by rw [z,hn] at e; cases e
 refine I.step (g':=s.gens) (d':=s.drawn) (ch:=[it]) (fun b hb=>?_) (fun b o _ _ hc e _=>k b o (fun z=>hc (by simp [z])) e) (fun b o _ _ hc e _=>⟨o.slots,k b o (fun z=>hc (by simp [z])) e⟩) (fun _ _ _ _ n=>n)
  (fun b o hc e=>⟨o,k b o (fun z=>hc (by simp [z])) e⟩) (fun _ _ e=>e) (fun _ _ _ e=>e) (fun b ps e=>⟨#[],by rw [e]; simp⟩) (fun m hm=>?_) (fun b u e=>?_) I.bare
 ·have e : b = it:=by simpa using hb
  subst e
  exact ⟨h1,hL,h2,h3⟩
 ·obtain ⟨o,es,ep,ho,r⟩:=hm
  exact ⟨o,es,ep,k _ o (Ne.symm hL) ho,r⟩
 ·refine (I.hok b u e).stay (fun c v hc q=>k c v ?_ q) (fun _ q=>q) fun _ _ q=>q
  rcases hc with z | z
  ·rw [z]; exact nit b u e
  ·exact nit c _ z
theorem Inv.tok (I : Inv X pins σ H s) (t : Nat) : Inv X pins σ H { s with toks:=t }:=I.un (h':=s.heap) (t':=t) Un.refl I.hok
theorem Inv.kept {t' : Nat} (I : Inv X pins σ H s) (k : ∀ b u,s.heap.get? b = some u→h'.get? b = some u) : Inv X pins σ H { s with heap:=h',toks:=t' }:=I.un (Un.kept k) (I.hok.kept k)
theorem Inv.laid {a : Addr} {o : HO} {t' : Nat} (I : Inv X pins σ H s) (k : ∀ b u,s.heap.get? b = some u→h'.get? b = some u) (hp : s.heap.objs.size≤a) (new : ObjOk X.prog X.w (upd H a o) h' a o) :
  Inv X pins σ (upd H a o) { s with heap:=h',toks:=t' }:=I.un (Un.laid k hp (I.hok.fresh hp)) (I.hok.laid k hp new)
theorem Inv.write {x e : Addr} {o : HO} {t' : Nat} (I : Inv X pins σ H s) (mu : Mut (H x)) (he : e = x∨H e = some (.own x)) (k : ∀ b u,b ≠ e→s.heap.get? b = some u→h'.get? b = some u) (heo : ∃ u,h'.get? e = some u)
  (new : ObjOk X.prog X.w (upd H x o) h' x o) : Inv X pins σ (upd H x o) { s with heap:=h',toks:=t' }:=I.un (Un.write mu he k heo) (I.hok.write mu he k heo new)
theorem Inv.weak {σ' : List (Option V)} (I : Inv X pins σ H s) (hl : σ'.length = σ.length) (w : ∀ (i : Nat) v,σ'[i]? = some (some v)→σ[i]? = some (some v)) : Inv X pins σ' H s :=
 ⟨I.ok,I.os,I.bare,I.base,let ⟨m,hn,hl'⟩:=I.loc; ⟨m,hn,fun i x v e1 e2 e3=>hl' i x v e1 (w i v e2) e3⟩,I.cell,I.free,I.freeC,I.pin,I.hok,hl.trans I.len⟩
theorem Inv.pins_of {pins' : List (Addr × Obj)} (I : Inv X pins σ H s) (h : ∀ p∈pins',s.heap.get? p.1 = some p.2∧H p.1 = none∧p.1 ≠ X.env.locals∧p.1 ∉ X.fs∧∀ v,p.2.data ≠ .cell v) : Inv X pins' σ H s :=
 ⟨I.ok,I.os,I.bare,I.base,I.loc,I.cell,I.free,I.freeC,fun p hp=>(List.mem_append.mp hp).elim (fun z=>I.pin p (List.mem_append_left _ z)) (h p),I.hok,I.len⟩
theorem nodup_ix {N : List Str} (hN : N.Nodup) {i j : Nat} {x : Str} (a : N[i]? = some x) (b : N[j]? = some x) : i = j:=by
 obtain ⟨h1,e1⟩:=List.getElem?_eq_some_iff.mp a
 obtain ⟨h2,e2⟩:=List.getElem?_eq_some_iff.mp b
 exact (List.getElem_inj hN).mp (e1.trans e2.symm)
theorem store_ok2 {M : Model} {A : Around} {E : Value→Shared→Prop} {i : Nat} {x : Str} {v : V} {u : Value} {Q : Unit→Shared→Prop} (I : Inv X pins σ H s) (hN : X.N.Nodup) (hi : X.N[i]? = some x) (hx : Loc X.env.scope x) (r : RelV v u)
  (h : ∀ s',Inv X pins (σ.set i (some v)) H s'→(∃ a,Heap.SameBut a s.heap s'.heap∧(a = X.env.locals∨X.env.cells.lookup x = some a))→Q () s') (hf : X.fn x = true∨X.env.scope.names.lookup x = some .local:=by first | exact .inl rfl | exact .inr rfl | assumption) : wpAny M A (storeName X.env x u) Q E s:=by
 obtain ⟨m,hn,hl⟩:=id I.loc
 have hcls : (X.env.scope.kind == .class || (X.env.scope.kind == .module && X.env.locals != X.env.globals)) = false:=by rw [I.ok.kind]; rfl
 have hiσ : i < σ.length:=by rw [I.len]; exact (List.getElem?_eq_some_iff.mp hi).1
 have cne:=I.cne
 have tracked : ∀ {a : Addr} {h' : Heap},(∃ o,s.heap.get? a = some o∧H a = none)→Heap.SameBut a s.heap h'→HOk X.prog X.w H h':=fun {a h'} ha hs b ob e=>by
  obtain ⟨_,_,hfree⟩:=ha
  refine (I.hok b ob e).stay (fun c w' hc q=>(hs.2 c ?_).trans q) (fun _ q=>q) fun _ _ q=>q
  rintro rfl
  rcases hc with rfl | hc
  ·rw [hfree] at e; cases e
  ·rw [hfree] at hc; cases hc
 rcases hx with hk | hk
 ·refine wpAny_storeName_local hk hn (fun h' hn' hs=>?_) hcls
  obtain ⟨oL,_,_,hoL,_⟩:=id hn
  refine h _ ⟨I.ok,I.os,I.bare,⟨fun b o e n hb hx=>?_,fun b o e n hb hx=>?_,I.base.free,fun b o e hx=>?_,I.base.tups,I.base.frzs,I.base.tbls⟩,⟨_,hn',fun j y v' e1 e2 e3=>?_⟩,fun y c e=>?_,I.free,I.freeC,fun p hp=>?_,tracked ⟨oL,hoL,I.free⟩ hs,by simpa using I.len⟩ ⟨_,hs,.inl rfl⟩
  ·exact (hs.2 b (Nat.ne_of_lt (Nat.lt_of_lt_of_le (Heap.lt_size e) I.ok.above))).trans (I.base.keep b o e n hb hx)
  ·obtain ⟨sl,e1⟩:=I.base.slot b o e n hb hx
   exact ⟨sl,(hs.2 b (Nat.ne_of_lt (Nat.lt_of_lt_of_le (Heap.lt_size e) I.ok.above))).trans e1⟩
  ·obtain ⟨o',e1⟩:=I.base.there b o e hx
   exact ⟨o',(hs.2 b (Nat.ne_of_lt (Nat.lt_of_lt_of_le (Heap.lt_size e) I.ok.above))).trans e1⟩
  ·by_cases hj : j = i
   ·subst hj
    rw [hi] at e1; cases e1
    rw [List.getElem?_set_self hiσ] at e2
    cases e2
    exact ⟨u,r,.inl ⟨hk,by simp⟩⟩
   ·rw [List.getElem?_set_ne (Ne.symm hj)] at e2
    obtain ⟨u',r',q⟩:=hl j y v' e1 e2 e3
    refine ⟨u',r',?_⟩
    rcases q with ⟨k,e⟩ | ⟨k,c,e,z⟩
    ·refine .inl ⟨k,?_⟩
     have : y ≠ x:=fun e=>hj (nodup_ix hN e1 (e ▸ hi))
     simp [this,e]
    ·exact .inr ⟨k,c,e,z.sameBut hs (cne y c e)⟩
  ·obtain ⟨w',z⟩:=I.cell y c e
   exact ⟨w',z.sameBut hs (cne y c e)⟩
  ·obtain ⟨e,n,ne,nf,d⟩:=I.pin p hp
   exact ⟨(hs.2 p.1 ne).trans e,n,ne,nf,d⟩
 ·have hfn : X.fn x = true:=by
   rcases hf with z | z
   ·exact z
   ·rw [z] at hk; cases hk
  obtain ⟨c,hc⟩:=I.ok.has x (.inl hk)
  obtain ⟨w',z⟩:=I.cell x c hc
  refine wpAny_storeName_cell I.ok.kind hk hc z (fun h' hc' hs=>?_)
  obtain ⟨oc,hoc,hocd⟩:=id z
  refine h { s with heap:=h' } ⟨I.ok,I.os,I.bare,⟨fun b o e n hb hx=>?_,fun b o e n hb hx=>?_,I.base.free,fun b o e hx=>?_,I.base.tups,I.base.frzs,I.base.tbls⟩,⟨m,hn.sameBut hs (Ne.symm (cne x c hc)),fun j y v' e1 e2 e3=>?_⟩,fun y c' e=>?_,I.free,I.freeC,fun p hp=>?_,tracked ⟨oc,hoc,I.freeC x c hc⟩ hs,by simpa using I.len⟩ ⟨c,hs,.inr hc⟩
  ·exact (hs.2 b (Nat.ne_of_lt (Nat.lt_of_lt_of_le (Heap.lt_size e) (I.ok.cab x c hfn hc)))).trans (I.base.keep b o e n hb hx)
  ·obtain ⟨sl,e1⟩:=I.base.slot b o e n hb hx
   exact ⟨sl,(hs.2 b (Nat.ne_of_lt (Nat.lt_of_lt_of_le (Heap.lt_size e) (I.ok.cab x c hfn hc)))).trans e1⟩
  ·obtain ⟨o',e1⟩:=I.base.there b o e hx
   exact ⟨o',(hs.2 b (Nat.ne_of_lt (Nat.lt_of_lt_of_le (Heap.lt_size e) (I.ok.cab x c hfn hc)))).trans e1⟩
  ·by_cases hj : j = i
   ·subst hj
    rw [hi] at e1; cases e1
    rw [List.getElem?_set_self hiσ] at e2
    cases e2
    exact ⟨u,r,.inr ⟨.inl hk,c,hc,hc'⟩⟩
   ·rw [List.getElem?_set_ne (Ne.symm hj)] at e2
    obtain ⟨u',r',q⟩:=hl j y v' e1 e2 e3
    refine ⟨u',r',?_⟩
    rcases q with q | ⟨k,c',e,z'⟩
    ·exact .inl q
    ·refine .inr ⟨k,c',e,z'.sameBut hs ?_⟩
     rintro rfl
     exact hj (nodup_ix hN e1 (I.ok.inj _ _ _ e hc ▸ hi))
  ·by_cases hcc : c' = c
   ·subst hcc; exact ⟨_,hc'⟩
   ·obtain ⟨w2,z2⟩:=I.cell y c' e
    exact ⟨w2,z2.sameBut hs hcc⟩
  ·obtain ⟨e,n,ne,nf,d⟩:=I.pin p hp
   refine ⟨(hs.2 p.1 ?_).trans e,n,ne,nf,d⟩
   intro q
   rw [q,hoc] at e
   have q' : oc = p.2:=Option.some.inj e
   exact d w' (by rw [← q']; exact hocd)
theorem store_ok {M : Model} {A : Around} {E : Value→Shared→Prop} {i : Nat} {x : Str} {v : V} {u : Value} {Q : Unit→Shared→Prop} (I : Inv X pins σ H s) (hN : X.N.Nodup) (hi : X.N[i]? = some x) (hx : Loc X.env.scope x) (r : RelV v u)
  (h : ∀ s',Inv X pins (σ.set i (some v)) H s'→Q () s') (hf : X.fn x = true∨X.env.scope.names.lookup x = some .local:=by first | exact .inl rfl | exact .inr rfl | assumption) : wpAny M A (storeName X.env x u) Q E s :=
 store_ok2 I hN hi hx r (fun s' I' _=>h s' I') hf
theorem Inv.call' {s' : Shared} {ch : List Addr} (I : Inv X pins σ H s) (ho : s'.os = s.os) (u : Un (frs X.stack) ch H H' s.heap s'.heap) (hok : HOk X.prog X.w H' s'.heap) (hg : AllBare s'.gens)
  (hch : ∀ b∈ch,(b∈X.ex∨X.s₀.heap.objs.size≤b)∧b ≠ X.env.locals∧(∀ x c,X.env.cells.lookup x = some c→c ≠ b)∧∀ p∈X.pn ++ pins,p.1 ≠ b) : Inv X pins σ H' s':=by
 obtain ⟨h',g',d',t',o'⟩:=s'
 have e : o' = s.os:=ho
 subst e
 exact I.call (g':=g') (t':=t') (d':=d') u hok hg hch
end
noncomputable abbrev XK:=Value→Option Addr→Hp→Prop
noncomputable abbrev St:=List (Option V)
noncomputable abbrev VK:=V→Hp→Prop
noncomputable abbrev TE:=St→Hp→VK→Prop
noncomputable abbrev TT:=St→Hp→(Bool→Hp→Prop)→Prop
noncomputable abbrev TA:=St→Hp→(List V→Hp→Prop)→Prop
structure Ends where
 nx : St→Hp→Prop
 rt : VK
 bk : St→Hp→Prop:=fun _ _=>False
 ct : St→Hp→Prop:=fun _ _=>False
noncomputable abbrev TS:=Ends→St→Hp→Prop
noncomputable def EP (X : Cx) (pins : List (Addr × Obj)) (σ : St) (Q : VK) (u : Value) (s' : Shared) : Prop:=∃ v H',Inv X pins σ H' s'∧RelV v u∧Q v H'
noncomputable def TP (X : Cx) (pins : List (Addr × Obj)) (σ : St) (Q : Bool→Hp→Prop) (b : Bool) (s' : Shared) : Prop:=∃ H',Inv X pins σ H' s'∧Q b H'
noncomputable def AP (X : Cx) (pins : List (Addr × Obj)) (σ : St) (Q : List V→Hp→Prop) (us : List Value) (s' : Shared) : Prop:=∃ vs H',Inv X pins σ H' s'∧Vals vs us∧Q vs H'
noncomputable def SP (X : Cx) (pins : List (Addr × Obj)) (D : Ends) (f : Flow) (s' : Shared) : Prop :=
 match f with
 | .next=>∃ σ' H',Inv X pins σ' H' s'∧D.nx σ' H'
 | .brk=>∃ σ' H',Inv X pins σ' H' s'∧D.bk σ' H'
 | .cont=>∃ σ' H',Inv X pins σ' H' s'∧D.ct σ' H'
 | .ret u=>∃ v σ' H',Inv X pins σ' H' s'∧RelV v u∧D.rt v H'
noncomputable def PE (X : Cx) (e : Expr) (t : TE) : Prop :=
 ∀ (pins : List (Addr × Obj)) (s : Shared) (σ : St) (H : Hp) (Q : VK),Inv X pins σ H s→t σ H Q→wpAny (model X.prog X.w) X.A (eval e X.env) (EP X pins σ Q) X.xe s
noncomputable def PT (X : Cx) (e : Expr) (t : TT) : Prop :=
 ∀ (pins : List (Addr × Obj)) (s : Shared) (σ : St) (H : Hp) (Q : Bool→Hp→Prop),Inv X pins σ H s→t σ H Q→wpAny (model X.prog X.w) X.A (isTrue e X.env (eval e X.env)) (TP X pins σ Q) X.xe s
noncomputable def PW (X : Cx) (e : Expr) (t : TT) : Prop :=
 ∀ (whole : Sem Value) (pins : List (Addr × Obj)) (s : Shared) (σ : St) (H : Hp) (Q : Bool→Hp→Prop),Inv X pins σ H s→t σ H Q→wpAny (model X.prog X.w) X.A (isTrue e X.env whole) (TP X pins σ Q) X.xe s
theorem PW.pt {X : Cx} {e : Expr} {t : TT} (h : PW X e t) : PT X e t:=h _
noncomputable def PA (X : Cx) (es : List Expr) (t : TA) : Prop :=
 ∀ (pos : Pos) (pins : List (Addr × Obj)) (s : Shared) (σ : St) (H : Hp) (Q : List V→Hp→Prop),Inv X pins σ H s→t σ H Q→wpAny (model X.prog X.w) X.A (spliced (backTo pos (starEach es X.env))) (AP X pins σ Q) X.xe s
noncomputable def PS (X : Cx) (st : Stmt) (t : TS) : Prop :=
 ∀ (pins : List (Addr × Obj)) (s : Shared) (σ : St) (H : Hp) (D : Ends),Inv X pins σ H s→t D σ H→wpAny (model X.prog X.w) X.A (exec st X.env) (SP X pins D) X.xe s
noncomputable def PSs (X : Cx) (st : List Stmt) (t : TS) : Prop :=
 ∀ (pins : List (Addr × Obj)) (s : Shared) (σ : St) (H : Hp) (D : Ends),Inv X pins σ H s→t D σ H→wpAny (model X.prog X.w) X.A (execs st X.env) (SP X pins D) X.xe s
theorem thn {α : Type} {t : Sem α} {Q Q' : α→Shared→Prop} {M : Model} {A : Around} {E : Value→Shared→Prop} {s : Shared} (h : wpAny M A t Q E s) (hQ : ∀ a s,Q a s→Q' a s) : wpAny M A t Q' E s:=wpAny_mono h hQ fun _ _ x=>x
end L2
namespace L2
open PySem PySem.Spec PyProof.Rows
section
variable {X : Cx}
theorem bin {a b : Expr} {ta tb : TE} (ha : PE X a ta) (hb : PE X b tb) {pins : List (Addr × Obj)} {s : Shared} {σ : St} {H : Hp} {R : V→V→Hp→Prop} (I : Inv X pins σ H s) (h : ta σ H fun x H1=>tb σ H1 fun y H2=>R x y H2)
  {α : Type} {Q : α→Shared→Prop} {f : Value→Value→Sem α}
  (hf : ∀ v u s2 x y H2,Inv X pins σ H2 s2→RelV x v→RelV y u→R x y H2→wpAny (model X.prog X.w) X.A (f v u) Q X.xe s2) :
  wpAny (model X.prog X.w) X.A (eval a X.env) (fun v s₁=>wpAny (model X.prog X.w) X.A (eval b X.env) (fun u s₂=>wpAny (model X.prog X.w) X.A (f v u) Q X.xe s₂) X.xe s₁) X.xe s:=by
 refine thn (ha pins s σ H _ I h) fun v s1 ⟨x,H1,I1,r1,q1⟩=>?_
 refine thn (hb pins s1 σ H1 _ I1 q1) fun u s2 ⟨y,H2,I2,r2,q2⟩=>?_
 exact hf v u s2 x y H2 I2 r1 r2 q2
noncomputable def tVar (i : Nat) : TE:=fun σ H Q=>∃ v,σ[i]? = some (some v)∧Q v H
noncomputable def tC (v : V) : TE:=fun _ H Q=>Q v H
theorem pe_var {i : Nat} {x : Str} {pos : Pos} (hN : X.N[i]? = some x) (hv : Vis X.env.scope x) (hd : (x == ("__debug__" : Str)) = false:=by decide) (hcd : (x == ("__classdict__" : Str)) = false:=by decide) : PE X (.Name x pos) (tVar i):=by
 intro pins s σ H Q I h
 obtain ⟨v,e,h⟩:=h
 obtain ⟨m,hn,hl⟩:=I.loc
 obtain ⟨u,r,l⟩:=hl i x v hN e hv
 have fin : EP X pins σ Q u s:=⟨v,H,I,r,h⟩
 rcases l with ⟨hk,hm⟩ | ⟨hk,c,hc,hcell⟩
 ·exact wpAny_Name (wpAny_loadName_local I.ok.kind hk hn hm fin) hd
 ·rcases hk with hk | hk
  ·exact wpAny_Name (wpAny_loadName_cell I.ok.kind hk hc hcell fin) hd
  ·exact wpAny_Name (wpAny_loadName_free I.ok.kind hk hc hcell fin hcd) hd
theorem pe_int {i j pos} : PE X (.Constant (.int i) j pos) (tC (.int i)):=fun _ _ _ H _ I h=>wpAny_Constant_int ⟨.int i,H,I.tok _,⟨_,rfl⟩,h⟩
theorem pe_bl {b j pos} : PE X (.Constant (.bool b) j pos) (tC (.bl b)):=fun _ _ _ H _ I h=>Constant_bool ⟨.bl b,H,I,rfl,h⟩
theorem pe_non {j pos} : PE X (.Constant .none j pos) (tC .non):=fun _ _ _ H _ I h=>Constant_none ⟨.non,H,I,rfl,h⟩
theorem pe_str {x j pos} : PE X (.Constant (.str x) j pos) (tC (.str x)):=fun _ _ _ H _ I h=>Calls.Constant_str ⟨.str x,H,I.tok _,⟨_,rfl⟩,h⟩
noncomputable def Gl (X : Cx) (x : Str) : Prop:=X.env.kindOf x = some .globalImplicit
theorem ld_glob {E : Value→Shared→Prop} {pins : List (Addr × Obj)} {s : Shared} {σ : St} {H : Hp} {x : Str} {u : Value} {pos : Pos} {Q : Value→Shared→Prop} (I : Inv X pins σ H s) (hg : Gl X x) (hm : X.mg x = some u) (h : Q u s)
  (hd : (x == ("__debug__" : Str)) = false:=by decide) : wpAny (model X.prog X.w) X.A (eval (.Name x pos) X.env) Q E s :=
 Calls.Name_function_global I.ok.kind hg (Calls.loadGlobal_global (by rw [I.ok.glob]; exact I.mod.glob.keeps I.bk) hm h) hd
theorem ld_blt {E : Value→Shared→Prop} {pins : List (Addr × Obj)} {s : Shared} {σ : St} {H : Hp} {x : Str} {u : Value} {pos : Pos} {Q : Value→Shared→Prop} (I : Inv X pins σ H s) (hg : Gl X x) (hm : X.mg x = none) (hv : bootBuiltins x = some u) (h : Q u s)
  (hn : x ≠ "__name__":=by decide) (hd : (x == ("__debug__" : Str)) = false:=by decide) : wpAny (model X.prog X.w) X.A (eval (.Name x pos) X.env) Q E s:=by
 obtain ⟨mb,h1,h2⟩:=I.mod.blt
 exact Calls.Name_function_global I.ok.kind hg (Calls.loadGlobal_builtin (by rw [I.ok.glob]; exact I.mod.glob.keeps I.bk) hm (by rw [I.ok.blt]; exact h1.keeps I.bk) ((h2 x hn).trans hv) h) hd
theorem pe_glob {x : Str} {v : V} {u : Value} {pos : Pos} (hg : Gl X x) (hm : X.mg x = some u) (r : RelV v u) (hd : (x == ("__debug__" : Str)) = false:=by decide) : PE X (.Name x pos) (tC v) :=
 fun _ _ _ H _ I h=>ld_glob I hg hm ⟨v,H,I,r,h⟩ hd
theorem pe_bltn {x : Str} {v : V} {u : Value} {pos : Pos} (hg : Gl X x) (hm : X.mg x = none) (hv : bootBuiltins x = some u) (r : RelV v u) (hn : x ≠ "__name__":=by decide) (hd : (x == ("__debug__" : Str)) = false:=by decide) : PE X (.Name x pos) (tC v) :=
 fun _ _ _ H _ I h=>ld_blt I hg hm hv ⟨v,H,I,r,h⟩ hn hd
variable {a b : Expr} {ta tb : TE} {pos : Pos}
noncomputable def PC (X : Cx) (op : CmpOp) (a b : Expr) (t : TE) : Prop :=
 ∀ (pins : List (Addr × Obj)) (s : Shared) (σ : St) (H : Hp) (Q : VK),Inv X pins σ H s→t σ H Q →
  wpAny (model X.prog X.w) X.A (eval a X.env) (fun v s₁=>wpAny (model X.prog X.w) X.A (eval b X.env) (fun u s₂=>wpAny (model X.prog X.w) X.A (compareOp op v u) (EP X pins σ Q) X.xe s₂) X.xe s₁) X.xe s
theorem nobehind (b : Expr) {op : CmpOp} (h : op ≠ .In) (h2 : op ≠ .NotIn) : behindInMarks op b = false:=by
 have e1 : (op == CmpOp.In) = false:=by cases op <;> first | rfl | exact absurd rfl h
 have e2 : (op == CmpOp.NotIn) = false:=by cases op <;> first | rfl | exact absurd rfl h2
 cases b <;> simp [behindInMarks,e1,e2]
noncomputable def tIsN (ta : TE) : TE:=fun σ H Q=>ta σ H fun x H1=>Q (.bl (decide (x = .non))) H1
theorem RelV.none_iff {x : V} {v : Value} (r : RelV x v) : (v == Value.none) = decide (x = .non):=by
 cases x with
 | non=>cases r; rfl
 | bl _=>cases r; rfl
 | int _=>obtain ⟨t,rfl⟩:=r; rfl
 | str _=>obtain ⟨t,rfl⟩:=r; rfl
 | byt _=>obtain ⟨t,rfl⟩:=r; rfl
 | flt _=>obtain ⟨t,rfl⟩:=r; rfl
 | ref _=>cases r; rfl
 | ty _=>cases r; rfl
theorem pc_isN {j pos'} (ha : PE X a ta) : PC X .Is a (.Constant .none j pos') (tIsN ta):=by
 intro pins s σ H Q I h
 refine thn (ha pins s σ H _ I h) fun v s1 ⟨x,H1,I1,r1,q1⟩=>?_
 exact Constant_none (is_none_gen ⟨.bl _,H1,I1,by rw [r1.none_iff]; rfl,q1⟩)
noncomputable def tB (t : TE) : TT:=fun σ H Q=>t σ H fun x H1=>∃ c,x = .bl c∧Q c H1
theorem pe_cmp {op : CmpOp} {t : TE} (h : PC X op a b t) (h1 : behindInMarks op b = false:=by first | exact nobehind _ (by decide) (by decide) | rfl) : PE X (.Compare a [op] [b] pos) t:=fun pins s σ H Q I hw=>wpAny_Compare1 (h pins s σ H Q I hw) h1
theorem pt_cmp {op : CmpOp} {t : TE} (h : PC X op a b t) (h1 : behindInMarks op b = false:=by first | exact nobehind _ (by decide) (by decide) | rfl) : PT X (.Compare a [op] [b] pos) (tB t):=by
 intro pins s σ H Q I hw
 refine wpAny_isTrue_Compare1 (thn (h pins s σ H _ I hw) fun v s1 h1=>thn h1 fun u s2 h2=>thn h2 fun c s3 ⟨x,H1,I1,r1,q1⟩=>?_) h1
 obtain ⟨d,rfl,q⟩:=q1
 cases r1
 exact wpAny_truthy_bool ⟨H1,I1,q⟩
variable {tA tB' : TT} {rest : List Expr}
noncomputable def tAnd (t u : TT) : TT:=fun σ H Q=>t σ H fun c H1=>if c = true then u σ H1 Q else Q false H1
noncomputable def tOr (t u : TT) : TT:=fun σ H Q=>t σ H fun c H1=>if c = true then Q true H1 else u σ H1 Q
noncomputable def tNot (t : TT) : TT:=fun σ H Q=>t σ H fun c H1=>Q (!c) H1
theorem pw_and1 (ha : PT X a tA) : PW X (.BoolOp .And [a] pos) tA:=by
 intro wh pins s σ H Q I h
 refine isTrue_and (thn (ha pins s σ H Q I h) fun c s1 e=>?_)
 cases c with
 | true=>exact isTrue_and_nil e
 | false=>exact e
theorem pw_or1 (ha : PT X a tA) : PW X (.BoolOp .Or [a] pos) tA:=by
 intro wh pins s σ H Q I h
 refine isTrue_or (thn (ha pins s σ H Q I h) fun c s1 e=>?_)
 cases c with
 | false=>exact isTrue_or_nil e
 | true=>exact e
theorem pw_and (ha : PT X a tA) (hb : PW X (.BoolOp .And (b :: rest) pos) tB') : PW X (.BoolOp .And (a :: b :: rest) pos) (tAnd tA tB'):=by
 intro wh pins s σ H Q I h
 refine isTrue_and (thn (ha pins s σ H _ I h) fun c s1 ⟨H1,I1,q1⟩=>?_)
 cases c with
 | true=>exact hb wh pins s1 σ H1 Q I1 q1
 | false=>exact ⟨H1,I1,q1⟩
theorem pw_or (ha : PT X a tA) (hb : PW X (.BoolOp .Or (b :: rest) pos) tB') : PW X (.BoolOp .Or (a :: b :: rest) pos) (tOr tA tB'):=by
 intro wh pins s σ H Q I h
 refine isTrue_or (thn (ha pins s σ H _ I h) fun c s1 ⟨H1,I1,q1⟩=>?_)
 cases c with
 | true=>exact ⟨H1,I1,q1⟩
 | false=>exact hb wh pins s1 σ H1 Q I1 q1
theorem pt_not (ha : PT X a tA) : PT X (.UnaryOp .Not a pos) (tNot tA):=by
 intro pins s σ H Q I h
 exact isTrue_not (ha pins s σ H (fun c H1=>Q (!c) H1) I h)
noncomputable def tAndV (ta tb : TE) : TE:=fun σ H Q=>ta σ H fun x H1=>∃ c,x = .bl c∧if c = true then tb σ H1 Q else Q (.bl false) H1
noncomputable def tOrV (ta tb : TE) : TE:=fun σ H Q=>ta σ H fun x H1=>∃ c,x = .bl c∧if c = true then Q (.bl true) H1 else tb σ H1 Q
theorem pe_one {op} {t : TE} (h : PE X a t) : PE X (.BoolOp op [a] pos) t:=fun pins s σ H Q I hw=>BoolOp_one (h pins s σ H Q I hw)
theorem pe_and (ha : PE X a ta) (hb : PE X (.BoolOp .And (b :: rest) pos) tb) : PE X (.BoolOp .And (a :: b :: rest) pos) (tAndV ta tb):=by
 intro pins s σ H Q I h
 refine BoolOp_and (thn (ha pins s σ H _ I h) fun v s1 ⟨x,H1,I1,r1,q1⟩=>?_)
 obtain ⟨c,rfl,q1⟩:=q1
 cases r1
 refine wpAny_truthy_bool ?_
 cases c with
 | true=>exact hb pins s1 σ H1 Q I1 q1
 | false=>exact ⟨.bl false,H1,I1,rfl,q1⟩
theorem pe_or (ha : PE X a ta) (hb : PE X (.BoolOp .Or (b :: rest) pos) tb) : PE X (.BoolOp .Or (a :: b :: rest) pos) (tOrV ta tb):=by
 intro pins s σ H Q I h
 refine BoolOp_or (thn (ha pins s σ H _ I h) fun v s1 ⟨x,H1,I1,r1,q1⟩=>?_)
 obtain ⟨c,rfl,q1⟩:=q1
 cases r1
 refine wpAny_truthy_bool ?_
 cases c with
 | false=>exact hb pins s1 σ H1 Q I1 q1
 | true=>exact ⟨.bl true,H1,I1,rfl,q1⟩
end
end L2
namespace L2
open PySem PySem.Spec PyProof.Rows
noncomputable def SqL (K : PySem.W.Frag) (H : Hp) (a : Addr) (xs : List V) : Prop :=
 Rd H a (.lst xs) ∨
  ∃ (o : Obj) (its : Array Value) (n : Nat),K.lookup a = some o∧o.cls = .type "list"∧o.dict = none∧o.data = .seq its n∧its.size≤sizeLine∧Vals xs its.toList
noncomputable def SqT (K : PySem.W.Frag) (H : Hp) (a : Addr) (xs : List V) : Prop :=
 Rd H a (.tup xs) ∨
  ∃ (o : Obj) (its : Array Value) (n : Nat),K.lookup a = some o∧o.cls = .type "tuple"∧o.data = .seq its n∧its.size≤sizeLine∧Vals xs its.toList
noncomputable def absV : Value→Option V
 | .none=>some .non
 | .bool b=>some (.bl b)
 | .int i _=>some (.int i)
 | .str x _=>some (.str x)
 | .bytes b _=>some (.byt b)
 | .float b _=>some (.flt b)
 | .ref a=>some (.ref a)
 | .type n=>some (.ty n)
 | _=>none
theorem RelV.abs {x : V} {u : Value} (r : RelV x u) : absV u = some x:=by
 cases x with
 | non=>cases r; rfl
 | bl _=>cases r; rfl
 | int _=>obtain ⟨t,rfl⟩:=r; rfl
 | str _=>obtain ⟨t,rfl⟩:=r; rfl
 | byt _=>obtain ⟨t,rfl⟩:=r; rfl
 | flt _=>obtain ⟨t,rfl⟩:=r; rfl
 | ref _=>cases r; rfl
 | ty _=>cases r; rfl
theorem RelV.inj {x y : V} {u : Value} (r : RelV x u) (q : RelV y u) : x = y:=Option.some.inj (r.abs.symm.trans q.abs)
theorem Vals.inj : ∀ {xs ys : List V} {us : List Value},Vals xs us→Vals ys us→xs = ys
 | _,_,_,.nil,.nil=>rfl
 | _,_,_,.cons r t,.cons r' t'=>by rw [r.inj r',Vals.inj t t']
section
variable {X : Cx} {pins : List (Addr × Obj)} {σ : St} {H : Hp} {s : Shared} {a : Addr} {xs ys : List V}
theorem SqL.of {K : PySem.W.Frag} (h : H a = some (.lst xs)) : SqL K H a xs:=.inl (.inl h)
theorem SqT.of {K : PySem.W.Frag} (h : H a = some (.tup xs)) : SqT K H a xs:=.inl (.inl h)
theorem Inv.list (I : Inv X pins σ H s) (h : SqL X.K H a xs) : ∃ its : List Value,Vals xs its∧PlainL s.heap a its.toArray∧xs.length≤sizeLine:=by
 rcases h with h | ⟨o,its,n,hk,hc,hd,hs,hz,r⟩
 ·obtain ⟨z,its,n,r,e⟩:=h.ok I.hok
  exact ⟨its,r,⟨_,n,e,rfl,rfl,rfl⟩,z⟩
 ·refine ⟨its.toList,r,⟨o,n,I.kIn a o hk,hc,hd,by simpa using hs⟩,?_⟩
  have e:=r.length
  simp only [Array.length_toList] at e
  omega
theorem Inv.tuple (I : Inv X pins σ H s) (h : SqT X.K H a xs) : ∃ its : List Value,Vals xs its∧IsTup s.heap a its.toArray∧xs.length≤sizeLine:=by
 rcases h with h | ⟨o,its,n,hk,hc,hs,hz,r⟩
 ·obtain ⟨z,its,r,p⟩:=h.ok I.hok
  exact ⟨its,r,p,z⟩
 ·refine ⟨its.toList,r,⟨o,I.kIn a o hk,hc,n,by simpa using hs⟩,?_⟩
  have e:=r.length
  simp only [Array.length_toList] at e
  omega
theorem Inv.list_inj (I : Inv X pins σ H s) (h : SqL X.K H a xs) (h' : SqL X.K H a ys) : xs = ys:=by
 obtain ⟨its,r,⟨o,n,e,_,_,d⟩,_⟩:=I.list h
 obtain ⟨its',r',⟨o',n',e',_,_,d'⟩,_⟩:=I.list h'
 rw [e] at e'; cases e'
 rw [d] at d'
 injection d' with d1 _
 have : its = its':=by simpa using congrArg Array.toList d1
 subst this
 exact r.inj r'
end
noncomputable abbrev Cx.wish (X : Cx) (E : Value→Shared→Prop) : Cx:={ X with xe:=E }
noncomputable abbrev Cx.nox (X : Cx) : Cx:=X.wish fun _ _=>False
theorem Cx.Ok.wish {X : Cx} (ok : X.Ok) (E : Value→Shared→Prop) : (X.wish E).Ok :=
 ⟨ok.mod,ok.kind,ok.glob,ok.blt,ok.above,ok.inj,ok.has,ok.cab,ok.hd,ok.frames,ok.stk,ok.exf,ok.bs,ok.bsz,ok.noex,ok.exfs,ok.funs,ok.frf⟩
theorem Cx.Ok.unwish {X : Cx} {E : Value→Shared→Prop} (ok : (X.wish E).Ok) : X.Ok :=
 ⟨ok.mod,ok.kind,ok.glob,ok.blt,ok.above,ok.inj,ok.has,ok.cab,ok.hd,ok.frames,ok.stk,ok.exf,ok.bs,ok.bsz,ok.noex,ok.exfs,ok.funs,ok.frf⟩
section
variable {X : Cx} {pins : List (Addr × Obj)} {σ : St} {H : Hp} {s : Shared} {E : Value→Shared→Prop}
theorem Inv.wish (I : Inv X pins σ H s) (E : Value→Shared→Prop) : Inv (X.wish E) pins σ H s:=⟨I.ok.wish E,I.os,I.bare,I.base,I.loc,I.cell,I.free,I.freeC,I.pin,I.hok,I.len⟩
theorem Inv.unwish (I : Inv (X.wish E) pins σ H s) : Inv X pins σ H s:=⟨I.ok.unwish,I.os,I.bare,I.base,I.loc,I.cell,I.free,I.freeC,I.pin,I.hok,I.len⟩
theorem SP.unwish {D : Ends} {f : Flow} {s' : Shared} (h : SP (X.wish E) pins D f s') : SP X pins D f s':=by
 cases f with
 | next=>obtain ⟨σ',H',I,q⟩:=h; exact ⟨σ',H',I.unwish,q⟩
 | brk=>obtain ⟨σ',H',I,q⟩:=h; exact ⟨σ',H',I.unwish,q⟩
 | cont=>obtain ⟨σ',H',I,q⟩:=h; exact ⟨σ',H',I.unwish,q⟩
 | ret u=>obtain ⟨v,σ',H',I,r,q⟩:=h; exact ⟨v,σ',H',I.unwish,r,q⟩
theorem PSs.nox {st : List Stmt} {t : TS} (h : PSs X.nox st t) : PSs X st t:=fun pins s σ H D I hw =>
 wpAny_mono (h pins s σ H D (I.wish _) hw) (fun _ _ q=>q.unwish) fun _ _ z=>False.elim z
end
section
variable {X : Cx} {st : Stmt} {rest : List Stmt} {t u : TS} {e : Expr} {te : TE} {pos : Pos}
noncomputable def tNext : TS:=fun D σ H=>D.nx σ H
noncomputable def tSeq (t u : TS) : TS:=fun D σ H=>t { D with nx:=u D } σ H
theorem pss_nil : PSs X [] tNext:=fun _ _ σ H _ I h=>wpAny_execs_nil ⟨σ,H,I,h⟩
theorem pss_cons (h1 : PS X st t) (h2 : PSs X rest u) : PSs X (st :: rest) (tSeq t u):=by
 intro pins s σ H D I h
 refine wpAny_execs_cons (thn (h1 pins s σ H { D with nx:=u D } I h) fun f s1 q=>?_)
 cases f with
 | next =>
  obtain ⟨σ',H',I',q⟩:=q
  exact h2 pins s1 σ' H' D I' q
 | ret v=>exact q
 | brk=>exact q
 | cont=>exact q
theorem pss_one (h1 : PS X st t) : PSs X [st] t:=by
 intro pins s σ H D I h
 refine wpAny_execs_cons (thn (h1 pins s σ H D I h) fun f s1 q=>?_)
 cases f with
 | next=>exact wpAny_execs_nil q
 | ret v=>exact q
 | brk=>exact q
 | cont=>exact q
theorem Inv.quiet {pins : List (Addr × Obj)} {σ : St} {H : Hp} {s : Shared} (I : Inv X pins σ H s) : interactive X.env = false:=by simp [interactive,I.ok.kind]
noncomputable def tDrop (te : TE) : TS:=fun D σ H=>te σ H fun _ H1=>D.nx σ H1
theorem ps_expr (he : PE X e te) (hs : swapsWith e none pos.line X.env = pure false:=by rfl) : PS X (.Expr e pos) (tDrop te):=by
 intro pins s σ H D I h
 exact wpAny_Expr_any (thn (he pins s σ H _ I h) fun v s1 ⟨x,H1,I1,r1,q1⟩=>⟨σ,H1,I1,q1⟩) I.quiet hs
noncomputable def tRet (te : TE) : TS:=fun D σ H=>te σ H D.rt
theorem ps_ret (he : PE X e te) : PS X (.Return (some e) pos) (tRet te):=by
 intro pins s σ H D I h
 exact wpAny_Return_some (thn (he pins s σ H _ I h) fun v s1 ⟨x,H1,I1,r1,q1⟩=>⟨x,σ,H1,I1,r1,q1⟩)
noncomputable def tIfS (c : TT) (t u : TS) : TS:=fun D σ H=>c σ H fun b H1=>if b = true then t D σ H1 else u D σ H1
theorem ps_if {c : Expr} {a b : List Stmt} {tc : TT} (hc : PT X c tc) (ha : PSs X a t) (hb : PSs X b u) : PS X (.If c a b pos) (tIfS tc t u):=by
 intro pins s σ H D I h
 refine wpAny_If (thn (hc pins s σ H _ I h) fun d s1 ⟨H1,I1,q1⟩=>?_)
 cases d with
 | true=>exact ha pins s1 σ H1 D I1 q1
 | false=>exact hb pins s1 σ H1 D I1 q1
end
noncomputable abbrev TG:=V→St→Hp→(St→Hp→Prop)→Prop
noncomputable abbrev TGs:=List V→St→Hp→(St→Hp→Prop)→Prop
noncomputable def PG (X : Cx) (target : Expr) (t : TG) : Prop :=
 ∀ (pins : List (Addr × Obj)) (s : Shared) (σ : St) (H : Hp) (v : V) (u : Value) (Q : St→Hp→Prop),Inv X pins σ H s→RelV v u→t v σ H Q →
  wpAny (model X.prog X.w) X.A (assign target X.env u) (fun _ s'=>∃ σ' H',Inv X pins σ' H' s'∧Q σ' H') X.xe s
noncomputable def PGs (X : Cx) (ts : List Expr) (t : TGs) : Prop :=
 ∀ (pins : List (Addr × Obj)) (s : Shared) (σ : St) (H : Hp) (vs : List V) (us : List Value) (Q : St→Hp→Prop),Inv X pins σ H s→Vals vs us→t vs σ H Q →
  wpAny (model X.prog X.w) X.A (assignInOrder ((assignEach ts X.env).map (·.2)) us) (fun _ s'=>∃ σ' H',Inv X pins σ' H' s'∧Q σ' H') X.xe s
noncomputable abbrev TSet:=V→V→V→Hp→(Hp→Prop)→Prop
noncomputable def PSet (X : Cx) (t : TSet) : Prop :=
 ∀ (pins : List (Addr × Obj)) (s : Shared) (σ : St) (H : Hp) (o i v : V) (ov iv u : Value) (Q : Hp→Prop),Inv X pins σ H s→RelV o ov→RelV i iv→RelV v u→t o i v H Q →
  wpAny (model X.prog X.w) X.A (setItem ov iv u) (fun _ s'=>∃ H',Inv X pins σ H' s'∧Q H') X.xe s
noncomputable abbrev TIp:=V→V→Hp→VK→Prop
noncomputable def PIp (X : Cx) (op : Operator) (t : TIp) : Prop :=
 ∀ (pins : List (Addr × Obj)) (s : Shared) (σ : St) (H : Hp) (x y : V) (v u : Value) (Q : VK),Inv X pins σ H s→RelV x v→RelV y u→t x y H Q →
  wpAny (model X.prog X.w) X.A (inplaceOp op v u) (EP X pins σ Q) X.xe s
section
variable {X : Cx} {pos : Pos}
noncomputable def gName (i : Nat) : TG:=fun v σ H Q=>Q (σ.set i (some v)) H
theorem pg_name {i : Nat} {x : Str} (hN : X.N.Nodup) (hi : X.N[i]? = some x) (hx : Loc X.env.scope x) (hf : X.fn x = true∨X.env.scope.names.lookup x = some .local:=by first | exact .inl rfl | exact .inr rfl | assumption) : PG X (.Name x pos) (gName i):=by
 intro pins s σ H v u Q I r h
 exact wpAny_assign_Name (store_ok I hN hi hx r (fun s' I'=>⟨_,H,I',h⟩) hf)
noncomputable def gTup (K : PySem.W.Frag) (n : Nat) (t : TGs) : TG:=fun v σ H Q=>∃ a xs,v = .ref a∧SqT K H a xs∧xs.length = n∧t xs σ H Q
theorem pg_tup {es : List Expr} {k : Nat} {t : TGs} {n : Nat} (hc : X.calm = true) (h : PGs X es t)
  (hn : (assignEach es X.env).length = n:=by rfl) (hst : (assignEach es X.env).findIdx? (·.1) = none:=by rfl) : PG X (.Tuple es k pos) (gTup X.K n t):=by
 intro pins s σ H v u Q I r hw
 obtain ⟨a,xs,e1,hq,hl,hw⟩:=hw
 subst e1
 cases r
 obtain ⟨its,rv,ht,hz⟩:=I.tuple hq
 refine assign_Tuple_tuple (I.ok.hd hc) ht (by simp [hn,← hl,rv.length]) hst fun h' hx=>?_
 have I1 : Inv X pins σ H { s with heap:=h' }:=I.kept (t':=s.toks) fun b o e=>hx b o (Nat.ne_of_lt (Heap.lt_size e)) e
 exact h pins _ σ H xs _ Q I1 (by simpa using rv) hw
noncomputable def gSub (to ti : TE) (t : TSet) : TG:=fun v σ H Q=>to σ H fun o H1=>ti σ H1 fun i H2=>t o i v H2 fun H3=>Q σ H3
theorem pg_sub {o i : Expr} {to ti : TE} {t : TSet} (ho : PE X o to) (hi : PE X i ti) (hs : PSet X t)
  (ha : ∀ v,assign (.Subscript o i pos) X.env v = (do
   let ov ← holding [v] (eval o X.env)
   let iv ← holding [v,ov] (eval i X.env)
   standAt pos
   holding [v,ov,iv] (setItem ov iv v)
   release [v,ov,iv] []):=by intro _; rfl) : PG X (.Subscript o i pos) (gSub to ti t):=by
 intro pins s σ H v u Q I r h
 rw [ha]
 refine wpAny_bind (wpAny_holding (thn (ho pins s σ H _ I h) fun ov s1 ⟨x,H1,I1,r1,q1⟩=>?_))
 refine wpAny_bind (wpAny_holding (thn (hi pins s1 σ H1 _ I1 q1) fun iv s2 ⟨y,H2,I2,r2,q2⟩=>?_))
 refine wpAny_bind (wpAny_standAt (wpAny_bind (wpAny_holding (thn (hs pins s2 σ H2 x y v ov iv u _ I2 r1 r2 r q2) fun _ s3 ⟨H3,I3,q3⟩=>?_))))
 exact wpAny_release ⟨σ,H3,I3,q3⟩
noncomputable def tAsg (te : TE) (g : TG) : TS:=fun D σ H=>te σ H fun x H1=>g x σ H1 D.nx
theorem ps_asg {tg e : Expr} {te : TE} {g : TG} (he : PE X e te) (hg : PG X tg g) (hs : swapsWithSole [tg] e pos.line X.env = pure false:=by rfl) (hw : swappedStores [tg] e X.env = pure none:=by rfl)
  (h1 : (assignEach [tg] X.env).map (·.2) = [assign tg X.env]:=by rfl) : PS X (.Assign [tg] e pos) (tAsg te g):=by
 intro pins s σ H D I h
 refine wpAny_Assign_stores (thn (he pins s σ H _ I h) fun v s1 ⟨x,H1,I1,r1,q1⟩=>?_) hs hw
 rw [h1]
 exact thn (hg pins s1 σ H1 x v _ I1 r1 q1) fun _ s2 q=>q
theorem ps_set {i : Nat} {x : Str} {e : Expr} {te : TE} {pos' : Pos} (hN : X.N.Nodup) (hi : X.N[i]? = some x) (hx : Loc X.env.scope x) (he : PE X e te) (hs : swapsWith e (some (.Name x pos')) pos.line X.env = pure false:=by rfl) (hf : X.fn x = true∨X.env.scope.names.lookup x = some .local:=by first | exact .inl rfl | exact .inr rfl | assumption) :
  PS X (.Assign [.Name x pos'] e pos) (tAsg te (gName i)):=by
 intro pins s σ H D I h
 refine wpAny_Assign_Name (thn (he pins s σ H _ I h) fun v s1 ⟨y,H1,I1,r1,q1⟩=>?_) hs
 exact store_ok I1 hN hi hx r1 (fun s2 I2=>⟨_,H1,I2,q1⟩) hf
end
section
variable {X : Cx} {pos : Pos}
end
structure It where
 go : Nat→Hp→Prop
 yld : Nat→Hp→V→Hp→Prop
 stop : Nat→Hp→Prop
noncomputable def FpOk (X : Cx) (pins : List (Addr × Obj)) (H : Hp) (b : Addr) : Prop :=
 H b = none∧b ≠ X.env.locals∧b ∉ X.fs∧(b∈X.ex∨X.s₀.heap.objs.size≤b)∧(∀ x c,X.env.cells.lookup x = some c→c ≠ b)∧∀ p∈X.pn ++ pins,p.1 ≠ b
theorem Inv.fpOk {X : Cx} {pins : List (Addr × Obj)} {σ : St} {H H' : Hp} {s : Shared} {b : Addr} (I : Inv X pins σ H s) (hb : s.heap.objs.size≤b) (hn : H' b = none) : FpOk X pins H' b:=by
 refine ⟨hn,Nat.ne_of_gt (Nat.lt_of_lt_of_le I.lt hb),I.nofs hb,.inr (Nat.le_trans I.sz hb),fun x c e z=>?_,fun p hp z=>?_⟩
 ·obtain ⟨v,q⟩:=I.cell x c e
  exact absurd (Nat.lt_of_lt_of_le q.lt (by rw [z]; exact hb)) (Nat.lt_irrefl _)
 ·exact absurd (Nat.lt_of_lt_of_le (Heap.lt_size (I.pin p hp).1) (by rw [z]; exact hb)) (Nat.lt_irrefl _)
structure Turn (P : Program) (w : World) (K : PySem.W.Frag) (tg : Expr) (J : It) (fp : List Addr) (it : Addr) (tn : Nat→Heap→Prop) : Prop where
 mem : it∈fp
 obj : ∀ i h,tn i h→∀ b∈fp,∃ o,h.get? b = some o∧∀ v,o.data ≠ .cell v
 keep : ∀ i h h',tn i h→(∀ b∈fp,∀ o,h.get? b = some o→h'.get? b = some o)→tn i h'
 item : ∀ (X : Cx),X.prog = P→X.w = w→X.K = K→X.calm = true→∀ (i : Nat) (pins : List (Addr × Obj)) (s : Shared) (σ : St) (H : Hp) (E : Value→Shared→Prop),Inv X pins σ H s→(∀ b∈fp,FpOk X pins H b)→tn i s.heap→J.go i H →
  wpAny (model P w) X.A (pyNext (.ref it)) (fun r s1=>∃ u,r = some u ∧
   wpAny (model P w) X.A (letOwnedTupleGo tg (.ref it) u) (fun _ s2=>∃ x H',Inv X pins σ H' s2∧RelV x u∧J.yld i H x H'∧tn (i + 1) s2.heap∧∀ b∈fp,H' b = none) E s1) E s
 done : ∀ (X : Cx),X.prog = P→X.w = w→X.K = K→X.calm = true→∀ (i : Nat) (pins : List (Addr × Obj)) (s : Shared) (σ : St) (H : Hp) (E : Value→Shared→Prop),Inv X pins σ H s→(∀ b∈fp,FpOk X pins H b)→tn i s.heap→J.stop i H →
  wpAny (model P w) X.A (pyNext (.ref it)) (fun r s1=>r = none∧Inv X pins σ H s1) E s
 self : ∀ (A : Around) (i : Nat) (s : Shared) (Q : Value→Shared→Prop) (E : Value→Shared→Prop),tn i s.heap→Q (.ref it) s→wpAny (model P w) A (pyIter (.ref it)) Q E s
noncomputable abbrev TI:=St→Hp→(It→Hp→Prop)→Prop
noncomputable def PIE (X : Cx) (pins : List (Addr × Obj)) (σ : St) (tg : Expr) (R : It→Hp→Prop) (itv : Value) (s2 : Shared) : Prop :=
 ∃ (it : Addr) (fp : List Addr) (tn : Nat→Heap→Prop) (J : It) (H' : Hp),itv = .ref it∧Inv X pins σ H' s2∧Turn X.prog X.w X.K tg J fp it tn∧tn 0 s2.heap∧(∀ b∈fp,FpOk X pins H' b)∧R J H'
noncomputable def PI (X : Cx) (tg iter : Expr) (wi : TI) : Prop :=
 ∀ (pins : List (Addr × Obj)) (s : Shared) (σ : St) (H : Hp) (R : It→Hp→Prop),Inv X pins σ H s→wi σ H R →
  wpAny (model X.prog X.w) X.A (eval iter X.env) (fun v s1=>wpAny (model X.prog X.w) X.A (pyIter v) (PIE X pins σ tg R) X.xe s1) X.xe s
theorem go_of {M : Model} {A : Around} {E : Value → Shared → Prop} {s : Shared} {tg : Expr} {it : Addr} {u : Value} {o : Obj} {n : String} {vs : Array Value} {Q : Unit → Shared → Prop} (ho : s.heap.get? it = some o) (hc : o.cls = .type n) (hd : o.data = .fields vs)
    (hn : ["enumerate", "zip", "dict_itemiterator", "dict_reverseitemiterator", "odict_iterator", "itertools.zip_longest", "itertools.pairwise"].contains n = false) (hQ : Q () s) : wpAny M A (letOwnedTupleGo tg (.ref it) u) Q E s := by
  unfold letOwnedTupleGo
  cases tg <;> first
    | exact wpAny_pure hQ
    | (cases u <;> first
        | exact wpAny_pure hQ
        | (refine wpAny_bind (wpAny_load ho ?_)
           rw [hc, hd]
           show wpAny M A (if (["enumerate", "zip", "dict_itemiterator", "dict_reverseitemiterator", "odict_iterator", "itertools.zip_longest", "itertools.pairwise"].contains n && vs[0]? == some (rawInt _)) = true then _ else _) Q E s
           rw [if_neg (by intro h; rw [hn, Bool.false_and] at h; cases h)]
           exact wpAny_pure hQ))
noncomputable def Itl (K : PySem.W.Frag) (a : Addr) : It :=
 ⟨fun i H=>∃ xs x,SqL K H a xs∧xs[i]? = some x,fun i H x H'=>H' = H∧∀ xs,SqL K H a xs→xs[i]? = some x,fun i H=>∃ xs,SqL K H a xs∧xs.length≤i⟩
noncomputable def Itr (lo : Int) (n : Nat) : It:=⟨fun i _=>i < n,fun i H x H'=>H' = H∧x = .int (lo + i),fun i _=>n≤i⟩
theorem turn_list {P : Program} {w : World} {K : PySem.W.Frag} {tg : Expr} (a it : Addr) : Turn P w K tg (Itl K a) [it] it (fun i h=>h.IsListIter it a i) where
 mem:=by simp
 obj:=fun i h st b hb=>by
  have e : b = it:=by simpa using hb
  subst e
  obtain ⟨o,e,c,d⟩:=st
  exact ⟨o,e,fun v z=>by rw [d] at z; cases z⟩
 keep:=fun i h h' st k=>st.at fun o e=>k it (by simp) o e
 item:=by
  intro X hP hw hK hc i pins s σ H E I hf st hg
  subst hP hw hK
  obtain ⟨xs,x,hq,hx⟩:=hg
  obtain ⟨its,rv,p,hz⟩:=I.list hq
  obtain ⟨u,hu,ru⟩:=rv.get hx
  obtain ⟨f0,f1,f2,f3,f4,f5⟩:=hf it (by simp)
  refine wpAny_pyNext_list_item st p.isList (x:=u) (by simpa using hu) fun h' st' sb=>?_
  have I1 : Inv X pins σ H { s with heap:=h' }:=I.turned (t':=s.toks) (fun b o hb e=>(sb.2 b hb).trans e) f0 f1 f3 f4 f5
  obtain ⟨o,e,c,d⟩:=id st'
  exact ⟨u,rfl,go_of (s:={ s with heap:=h' }) e c d (by decide) ⟨x,H,I1,ru,⟨rfl,fun ys hy=>by rw [I.list_inj hy hq]; exact hx⟩,st',fun b hb=>(hf b hb).1⟩⟩
 done:=by
  intro X hP hw hK hc i pins s σ H E I hf st hg
  subst hP hw hK
  obtain ⟨xs,hq,hx⟩:=hg
  obtain ⟨its,rv,p,hz⟩:=I.list hq
  obtain ⟨f0,f1,f2,f3,f4,f5⟩:=hf it (by simp)
  have hl:=rv.length
  exact wpAny_pyNext_list_end (I.ok.hd hc) st p.isList (by simp; omega) fun h' eb=>⟨rfl,I.turned (t':=s.toks) (fun b o hb e=>eb b o hb e) f0 f1 f3 f4 f5⟩
 self:=fun _ _ _ _ _ st h=>wpAny_pyIter_listiter st h
theorem turn_range {P : Program} {w : World} {K : PySem.W.Frag} {tg : Expr} (it : Addr) (lo : Int) (n : Nat) : Turn P w K tg (Itr lo n) [it] it (fun i h=>IsRangeIter h it (lo + (i : Nat) * 1) ((n : Int) - (i : Nat)) 1) where
 mem:=by simp
 obj:=fun i h st b hb=>by
  have e : b = it:=by simpa using hb
  subst e
  exact ⟨_,st,fun v z=>by
   have z' : Data.fields _ = Data.cell v:=z
   cases z'⟩
 keep:=fun i h h' st k=>k it (by simp) _ st
 item:=by
  intro X hP hw hK hc i pins s σ H E I hf st hg
  subst hP hw hK
  obtain ⟨f0,f1,f2,f3,f4,f5⟩:=hf it (by simp)
  have W:=Walks.range (prog:=X.prog) (w:=X.w) (I.ok.hd hc) it lo 1 n
  refine W.item i s _ _ hg st fun v h' tk hv st' kk=>?_
  obtain ⟨t,rfl⟩:=hv
  have I1 : Inv X pins σ H { s with heap:=h',toks:=tk }:=I.turned (fun b o hb e=>kk b o (by simpa using hb) e) f0 f1 f3 f4 f5
  refine ⟨_,rfl,go_of (s:={ s with heap:=h',toks:=tk }) (n:="range_iterator") st' rfl rfl (by decide) ⟨.int (lo + i),H,I1,⟨t,?_⟩,⟨rfl,rfl⟩,st',fun b hb=>(hf b hb).1⟩⟩
  rw [Int.mul_one]
 done:=by
  intro X hP hw hK hc i pins s σ H E I hf st hg
  subst hP hw hK
  obtain ⟨f0,f1,f2,f3,f4,f5⟩:=hf it (by simp)
  exact wpAny_pyNext_range_end (I.ok.hd hc) st (by have : n≤i:=hg; omega) fun h' eb=>⟨rfl,I.turned (t':=s.toks) (fun b o hb e=>eb b o hb e) f0 f1 f3 f4 f5⟩
 self:=fun _ _ _ _ _ st h=>wpAny_pyIter_rangeiter st h
end L2
namespace L2
open PySem PySem.Spec PyProof.Rows
section
variable {X : Cx} {tg : Expr}
noncomputable def iList (K : PySem.W.Frag) (tl : TE) : TI:=fun σ H R=>tl σ H fun x H1=>∃ a,x = .ref a∧(∃ xs,SqL K H1 a xs)∧R (Itl K a) H1
theorem pi_list {l : Expr} {tl : TE} (hl : PE X l tl) : PI X tg l (iList X.K tl):=by
 intro pins s σ H R I h
 refine thn (hl pins s σ H _ I h) fun v s1 ⟨x,H1,I1,r1,q1⟩=>?_
 obtain ⟨a,e,⟨xs,hq⟩,q⟩:=q1
 subst e
 cases r1
 obtain ⟨its,rv,p,hz⟩:=I1.list hq
 refine wpAny_pyIter_list p.isList ?_
 refine ⟨s1.heap.objs.size,[s1.heap.objs.size],_,_,H1,rfl,I1.kept (t':=s1.toks) fun b o e=>Heap.get?_push_of_some _ e,turn_list a _,⟨_,Heap.get?_push_size _ rfl,rfl,rfl⟩,fun b hb=>?_,q⟩
 have e : b = s1.heap.objs.size:=by simpa using hb
 subst e
 exact I1.fpOk (Nat.le_refl _) (I1.hok.fresh (Nat.le_refl _))
theorem range_it {pins : List (Addr × Obj)} {σ : St} {H : Hp} {s : Shared} {R : It→Hp→Prop} {E : Value→Shared→Prop} {lo hi : Int} {t u v : Tok} {tk : Nat} (I : Inv X pins σ H s) (h1 : -(2 ^ 62)≤lo) (h2 : lo < 2 ^ 62) (h3 : -(2 ^ 62)≤hi) (h4 : hi < 2 ^ 62)
  (q : R (Itr lo (hi - lo).toNat) H) : wpAny (model X.prog X.w) X.A (pyIter (.ref s.heap.objs.size)) (PIE X pins σ tg R) E { s with heap:=s.heap.push { cls:=.type "range",data:=.fields #[.int lo t,.int hi u,.int 1 v] },toks:=tk }:=by
 refine wpAny_pyIter_range (IsRange.new ..) (small_one h1 h2 h3 h4) ?_
 have I1 : Inv X pins σ H { s with heap:=s.heap.push { cls:=.type "range",data:=.fields #[.int lo t,.int hi u,.int 1 v] },toks:=tk }:=I.kept fun b o e=>Heap.get?_push_of_some _ e
 refine ⟨(s.heap.push { cls:=.type "range",data:=.fields #[.int lo t,.int hi u,.int 1 v] }).objs.size,[(s.heap.push { cls:=.type "range",data:=.fields #[.int lo t,.int hi u,.int 1 v] }).objs.size],_,_,H,rfl,
  I1.kept (t':=tk) fun b o e=>Heap.get?_push_of_some _ e,turn_range _ lo (hi - lo).toNat,?_,fun b hb=>?_,q⟩
 ·have e1 : lo + ((0 : Nat) : Int) * 1 = lo:=by simp
  have e2 : (((hi - lo).toNat : Nat) : Int) - ((0 : Nat) : Int) = Builtin.Range.rangeSize lo hi 1:=by rw [rangeSize_one]; split <;> omega
  show IsRangeIter _ _ (lo + ((0 : Nat) : Int) * 1) ((((hi - lo).toNat : Nat) : Int) - ((0 : Nat) : Int)) 1
  rw [e1,e2]
  exact Heap.get?_push_size _ rfl
 ·have e : b = (s.heap.push { cls:=.type "range",data:=.fields #[.int lo t,.int hi u,.int 1 v] }).objs.size:=by simpa using hb
  subst e
  exact I1.fpOk (Nat.le_refl _) (I1.hok.fresh (Nat.le_refl _))
noncomputable def iRng1 (ta : TA) : TI:=fun σ H R=>ta σ H fun vs H1=>∃ j : Int,vs = [.int j]∧-(2 ^ 62)≤j∧j < 2 ^ 62∧R (Itr 0 j.toNat) H1
theorem pi_range1 {a : Expr} {ta : TA} {p pos : Pos} (hg : Gl X "range") (hm : X.mg "range" = none) (ha : PA X [a] ta) (hs : starEach [a] X.env = [(false,eval a X.env)]:=by rfl) : PI X tg (.Call (.Name "range" p) [a] [] pos) (iRng1 ta):=by
 intro pins s σ H R I h
 refine Call_ (ld_blt I hg hm boot_range (PyProof.Rows.callWith_type1 (thn (ha pos pins s σ H _ I h) fun us s1 ⟨vs,H1,I1,r1,q1⟩=>?_) hs rfl))
 obtain ⟨j,e,q1,q2,q⟩:=q1
 subst e
 cases r1 with
 | cons r rr =>
  cases rr
  obtain ⟨t,rfl⟩:=r
  exact call_range_1 (range_it I1 (by omega) (by omega) q1 q2 (by simpa using q))
noncomputable def tFor (wi : TI) (g : TG) (tb : TS) : TS:=fun D σ H=>wi σ H fun J H1=>∃ W : Nat→Nat→St→Hp→Prop,(∃ m,W 0 m σ H1)∧∀ i m σ H,W i m σ H →
 (J.stop i H∧D.nx σ H)∨(J.go i H∧∃ N : St→Hp→Prop,(∀ σ' H',N σ' H'→∃ m',m' < m∧W (i + 1) m' σ' H')∧∀ x H',J.yld i H x H'→g x σ H' fun σ2 H2=>tb { D with nx:=N,ct:=N,bk:=D.nx } σ2 H2)
noncomputable def pinsAt (fp : List Addr) (h : Heap) : List (Addr × Obj):=fp.filterMap fun b=>(h.get? b).map fun o=>(b,o)
theorem mem_pinsAt {fp : List Addr} {h : Heap} {b : Addr} {o : Obj} (hb : b∈fp) (e : h.get? b = some o) : (b,o)∈pinsAt fp h:=List.mem_filterMap.mpr ⟨b,hb,by rw [e]; rfl⟩
theorem of_pinsAt {fp : List Addr} {h : Heap} {p : Addr × Obj} (hp : p∈pinsAt fp h) : p.1∈fp∧h.get? p.1 = some p.2:=by
 obtain ⟨b,hb,e⟩:=List.mem_filterMap.mp hp
 cases q : h.get? b with
 | none=>rw [q] at e; cases e
 | some o =>
  rw [q] at e
  have e' : (b,o) = p:=Option.some.inj e
  subst e'
  exact ⟨hb,q⟩
theorem Inv.pinned {pins : List (Addr × Obj)} {σ : St} {H : Hp} {s : Shared} {fp : List Addr} (I : Inv X pins σ H s) (hf : ∀ b∈fp,FpOk X pins H b) (ho : ∀ b∈fp,∃ o,s.heap.get? b = some o∧∀ v,o.data ≠ .cell v) : Inv X (pins ++ pinsAt fp s.heap) σ H s :=
 I.pins_of fun p hp=>(List.mem_append.mp hp).elim (fun z=>I.pin p (List.mem_append_right _ z)) fun z=>by
  obtain ⟨hb,e⟩:=of_pinsAt z
  obtain ⟨f0,f1,f2,_⟩:=hf p.1 hb
  obtain ⟨o,e',d⟩:=ho p.1 hb
  rw [e] at e'; cases e'
  exact ⟨e,f0,f1,f2,d⟩
theorem Inv.unpinned {pins pl : List (Addr × Obj)} {σ : St} {H : Hp} {s : Shared} (I : Inv X (pins ++ pl) σ H s) : Inv X pins σ H s:=I.pins_of fun p hp=>I.pin p (List.mem_append_right _ (List.mem_append_left _ hp))
theorem ps_for {iter : Expr} {body : List Stmt} {wi : TI} {g : TG} {tb : TS} {pos : Pos} (hp : PassesOwn (model X.prog X.w) X.A X.env X.xe) (hc : X.calm = true) (hi : PI X tg iter wi) (hg : PG X tg g) (hb : PSs X body tb)
  (hs : ∀ x,foldedSetIterable iter X.env x = pure x:=by intro _; rfl) : PS X (.For tg iter body [] pos) (tFor wi g tb):=by
 intro pins s σ H D I h
 refine wpAny_For (thn (hi pins s σ H _ I h) fun v s1 h1=>thn h1 fun itv s2 h2=>?_) hs
 obtain ⟨it,fp,tn,J,H2,e,I2,T,st2,f2,W,⟨m0,w0⟩,turn⟩:=h2
 subst e
 have stat : ∀ {H' : Hp},(∀ b∈fp,H' b = none)→∀ b∈fp,FpOk X pins H' b:=fun hn b hb=>⟨hn b hb,(f2 b hb).2⟩
 refine codeAny_forLoop_any (fun n s'=>∃ i σ' H',Inv X pins σ' H' s'∧tn i s'.heap∧(∀ b∈fp,H' b = none)∧W i n σ' H') ?_ m0 ⟨0,σ,H2,I2,st2,fun b hb=>(f2 b hb).1,w0⟩
 rintro n s3 ⟨i,σ3,H3,I3,st3,fr3,w3⟩
 rcases turn i n σ3 H3 w3 with ⟨stop,qn⟩ | ⟨go,N,hN,step⟩
 ·refine wpAny_passesOwn hp (thn (T.done X rfl rfl rfl hc i pins s3 σ3 H3 X.xe I3 (stat fr3) st3 stop) fun r s4 ⟨hr,I4⟩=>?_)
  subst hr
  exact wpAny_execs_nil ⟨σ3,H3,I4,qn⟩
 ·refine wpAny_passesOwn hp (thn (T.item X rfl rfl rfl hc i pins s3 σ3 H3 X.xe I3 (stat fr3) st3 go) fun r s4 ⟨u,hr,h4⟩=>?_)
  subst hr
  refine wpAny_passesOwn hp (thn h4 fun _ s5 ⟨x,H5,I5,r5,y5,st5,fr5⟩=>?_)
  have I5':=I5.pinned (stat fr5) (T.obj _ _ st5)
  refine wpAny_passesOwn hp (thn (hg _ s5 σ3 H5 x u _ I5' r5 (step x H5 y5)) fun _ s6 ⟨σ6,H6,I6,q6⟩=>?_)
  refine wpAny_passesOwn hp (thn (hb _ s6 σ6 H6 _ I6 q6) fun f s7 q7=>?_)
  have again : ∀ {σ7 : St} {H7 : Hp},Inv X (pins ++ pinsAt fp s5.heap) σ7 H7 s7→N σ7 H7→∃ m,m < n∧∃ i σ' H',Inv X pins σ' H' s7∧tn i s7.heap∧(∀ b∈fp,H' b = none)∧W i m σ' H':=fun {σ7 H7} I7 n7=>by
   obtain ⟨m',hm,w7⟩:=hN σ7 H7 n7
   refine ⟨m',hm,i + 1,σ7,H7,I7.unpinned,T.keep _ _ _ st5 fun b hb o e=>(I7.pin (b,o) (List.mem_append_right _ (List.mem_append_right _ (mem_pinsAt hb e)))).1,fun b hb=>?_,w7⟩
   obtain ⟨o,e,d⟩:=T.obj _ _ st5 b hb
   exact (I7.pin (b,o) (List.mem_append_right _ (List.mem_append_right _ (mem_pinsAt hb e)))).2.1
  cases f with
  | next=>obtain ⟨σ7,H7,I7,n7⟩:=q7; exact again I7 n7
  | cont=>obtain ⟨σ7,H7,I7,n7⟩:=q7; exact again I7 n7
  | brk=>obtain ⟨σ7,H7,I7,q7⟩:=q7; exact ⟨σ7,H7,I7.unpinned,q7⟩
  | ret v=>obtain ⟨x7,σ7,H7,I7,r7,q7⟩:=q7; exact ⟨x7,σ7,H7,I7.unpinned,r7,q7⟩
end
end L2
namespace L2
open PySem PySem.Spec PyProof.Rows
noncomputable abbrev R2:=V→V→Hp→VK→Prop
noncomputable def OpR (X : Cx) (f : Value→Value→Sem Value) (r : R2) : Prop :=
 ∀ (pins : List (Addr × Obj)) (s : Shared) (σ : St) (H : Hp) (x y : V) (v u : Value) (Q : VK),Inv X pins σ H s→RelV x v→RelV y u→r x y H Q →
  wpAny (model X.prog X.w) X.A (f v u) (EP X pins σ Q) X.xe s
noncomputable def UnR (X : Cx) (f : Value→Sem Value) (r : V→Hp→VK→Prop) : Prop :=
 ∀ (pins : List (Addr × Obj)) (s : Shared) (σ : St) (H : Hp) (x : V) (v : Value) (Q : VK),Inv X pins σ H s→RelV x v→r x H Q →
  wpAny (model X.prog X.w) X.A (f v) (EP X pins σ Q) X.xe s
noncomputable def CallR (X : Cx) (f : Value) (r : List V→Hp→VK→Prop) : Prop :=
 ∀ (pins : List (Addr × Obj)) (s : Shared) (σ : St) (H : Hp) (xs : List V) (us : List Value) (Q : VK),Inv X pins σ H s→Vals xs us→r xs H Q →
  wpAny (model X.prog X.w) X.A (call f us) (EP X pins σ Q) X.xe s
noncomputable def tOp (r : R2) (ta tb : TE) : TE:=fun σ H Q=>ta σ H fun x H1=>tb σ H1 fun y H2=>r x y H2 Q
noncomputable def tUn (r : V→Hp→VK→Prop) (ta : TE) : TE:=fun σ H Q=>ta σ H fun x H1=>r x H1 Q
noncomputable def rI (C : Int→Int→Prop) (g : Int→Int→V) : R2:=fun x y H Q=>∃ i j,x = .int i∧y = .int j∧C i j∧Q (g i j) H
noncomputable def rI0 (g : Int→Int→V) : R2:=fun x y H Q=>∃ i j,x = .int i∧y = .int j∧Q (g i j) H
noncomputable def rU (g : Int→V) : V→Hp→VK→Prop:=fun x H Q=>∃ i,x = .int i∧Q (g i) H
section
variable {X : Cx} {a b c : Expr} {ta tb tc : TE} {pos : Pos}
theorem binT (ha : PE X a ta) (hb : PE X b tb) {pins : List (Addr × Obj)} {s : Shared} {σ : St} {H : Hp} {R : V→V→Hp→Prop} (I : Inv X pins σ H s)
  (h : ta σ H fun x H1=>tb σ H1 fun y H2=>R x y H2) {Q : Value→Shared→Prop} {f : Value→Value→Sem Value}
  (hf : ∀ v u s2 x y H2,Inv X pins σ H2 s2→RelV x v→RelV y u→R x y H2→wpAny (model X.prog X.w) X.A (f v u) Q X.xe s2) :
  wpAny (model X.prog X.w) X.A (eval a X.env) (fun v s₁=>wpAny (model X.prog X.w) X.A (eval b X.env) (fun u s₂=>wpAny (model X.prog X.w) X.A (f v u) Q X.xe s₂) X.xe s₁) X.xe s:=by
 refine thn (ha pins s σ H _ I h) fun v s1 ⟨x,H1,I1,r1,q1⟩=>?_
 refine thn (hb pins s1 σ H1 _ I1 q1) fun u s2 ⟨y,H2,I2,r2,q2⟩=>?_
 exact hf v u s2 x y H2 I2 r1 r2 q2
theorem pe_op {op : Operator} {r : R2} (ho : OpR X (binaryOp op) r) (ha : PE X a ta) (hb : PE X b tb) : PE X (.BinOp a op b pos) (tOp r ta tb):=by
 intro pins s σ H Q I h
 exact wpAny_BinOp (binT ha hb I h fun v u s2 x y H2 I2 rx ry q=>ho pins s2 σ H2 x y v u Q I2 rx ry q)
theorem pe_un {op : UnaryOp} {r : V→Hp→VK→Prop} (ho : UnR X (unaryOp op) r) (ha : PE X a ta) : PE X (.UnaryOp op a pos) (tUn r ta):=by
 intro pins s σ H Q I h
 exact UnaryOp_ (thn (ha pins s σ H _ I h) fun v s1 ⟨x,H1,I1,r1,q1⟩=>ho pins s1 σ H1 x v Q I1 r1 q1)
theorem opI {f : Value→Value→Sem Value} {C : Int→Int→Prop} {g : Int→Int→Int}
  (rule : ∀ (i j : Int) (t u : Tok) (s : Shared) (Q : Value→Shared→Prop) (E : Value→Shared→Prop),C i j→Q (.int (g i j) s.toks) { s with toks:=s.toks + 1 }→wpAny (model X.prog X.w) X.A (f (.int i t) (.int j u)) Q E s) :
  OpR X f (rI C fun i j=>.int (g i j)):=by
 intro pins s σ H x y v u Q I rx ry h
 obtain ⟨i,j,rfl,rfl,hc,q⟩:=h
 obtain ⟨t,rfl⟩:=rx
 obtain ⟨t',rfl⟩:=ry
 exact rule i j t t' s _ _ hc ⟨.int (g i j),H,I.tok _,⟨_,rfl⟩,q⟩
theorem opI0 {f : Value→Value→Sem Value} {g : Int→Int→Int}
  (rule : ∀ (i j : Int) (t u : Tok) (s : Shared) (Q : Value→Shared→Prop) (E : Value→Shared→Prop),Q (.int (g i j) s.toks) { s with toks:=s.toks + 1 }→wpAny (model X.prog X.w) X.A (f (.int i t) (.int j u)) Q E s) :
  OpR X f (rI0 fun i j=>.int (g i j)):=by
 intro pins s σ H x y v u Q I rx ry h
 obtain ⟨i,j,rfl,rfl,q⟩:=h
 obtain ⟨t,rfl⟩:=rx
 obtain ⟨t',rfl⟩:=ry
 exact rule i j t t' s _ _ ⟨.int (g i j),H,I.tok _,⟨_,rfl⟩,q⟩
theorem opB0 {f : Value→Value→Sem Value} {g : Int→Int→Bool}
  (rule : ∀ (i j : Int) (t u : Tok) (s : Shared) (Q : Value→Shared→Prop) (E : Value→Shared→Prop),Q (.bool (g i j)) s→wpAny (model X.prog X.w) X.A (f (.int i t) (.int j u)) Q E s) :
  OpR X f (rI0 fun i j=>.bl (g i j)):=by
 intro pins s σ H x y v u Q I rx ry h
 obtain ⟨i,j,rfl,rfl,q⟩:=h
 obtain ⟨t,rfl⟩:=rx
 obtain ⟨t',rfl⟩:=ry
 exact rule i j t t' s _ _ ⟨.bl (g i j),H,I,rfl,q⟩
noncomputable def CPow (i j : Int) : Prop:=0≤j∧j≤1000000∧i.natAbs < 2 ^ 64
theorem op_add : OpR X (binaryOp .Add) (rI0 fun i j=>.int (i + j)):=opI0 fun _ _ _ _ _ _ _ q=>add_int q
theorem op_sub : OpR X (binaryOp .Sub) (rI0 fun i j=>.int (i - j)):=opI0 fun _ _ _ _ _ _ _ q=>sub_int q
theorem op_mod : OpR X (binaryOp .Mod) (rI (fun _ j=>0 < j) fun i j=>.int (i % j)):=opI fun i j _ _ _ _ _ hc q=>by
 have h1 : (0 : Int) < j:=hc
 exact mod_int' (by omega) (by rw [Int.fmod_eq_emod_of_nonneg i (by omega)]; exact q)
theorem op_pow : OpR X (binaryOp .Pow) (rI CPow fun i j=>.int (i ^ j.toNat)):=opI fun _ _ _ _ _ _ _ hc q=>pow_int_small hc.1 hc.2.1 hc.2.2 q
theorem unI {f : Value→Sem Value} {g : Int→Int}
  (rule : ∀ (i : Int) (t : Tok) (s : Shared) (Q : Value→Shared→Prop) (E : Value→Shared→Prop),Q (.int (g i) s.toks) { s with toks:=s.toks + 1 }→wpAny (model X.prog X.w) X.A (f (.int i t)) Q E s) :
  UnR X f (rU fun i=>.int (g i)):=by
 intro pins s σ H x v Q I rx h
 obtain ⟨i,rfl,q⟩:=h
 obtain ⟨t,rfl⟩:=rx
 exact rule i t s _ _ ⟨.int (g i),H,I.tok _,⟨_,rfl⟩,q⟩
theorem un_neg : UnR X (unaryOp .USub) (rU fun i=>.int (-i)):=unI fun _ _ _ _ _ q=>neg_int q
end
section
variable {X : Cx} {a b c : Expr} {ta tb tc : TE} {pos : Pos}
theorem fin_bl {pins : List (Addr × Obj)} {σ : St} {H : Hp} {s : Shared} {Q : VK} {k k' : Bool} (I : Inv X pins σ H s) (q : Q (.bl k) H) (e : k = k') : EP X pins σ Q (.bool k') s:=by
 subst e
 exact ⟨.bl k,H,I,rfl,q⟩
theorem op_lt : OpR X (compareOp .Lt) (rI0 fun i j=>.bl (decide (i < j))):=opB0 fun _ _ _ _ _ _ _ q=>lt_int q
theorem op_le : OpR X (compareOp .LtE) (rI0 fun i j=>.bl (decide (i≤j))):=opB0 fun _ _ _ _ _ _ _ q=>le_int q
theorem op_gt : OpR X (compareOp .Gt) (rI0 fun i j=>.bl (decide (j < i))):=opB0 fun _ _ _ _ _ _ _ q=>gt_int q
theorem op_ge : OpR X (compareOp .GtE) (rI0 fun i j=>.bl (decide (j≤i))):=opB0 fun _ _ _ _ _ _ _ q=>ge_int q
theorem op_isN : OpR X (compareOp .Is) (fun x y H Q=>y = .non∧Q (.bl (decide (x = .non))) H):=by
 intro pins s σ H x y v u Q I rx ry h
 obtain ⟨rfl,q⟩:=h
 cases ry
 refine is_none_gen (fin_bl I q ?_)
 cases x <;> first
  | (cases rx; rfl)
  | (obtain ⟨t,rfl⟩:=rx; rfl)
theorem op_notN : OpR X (compareOp .IsNot) (fun x y H Q=>y = .non∧Q (.bl (!decide (x = .non))) H):=by
 intro pins s σ H x y v u Q I rx ry h
 obtain ⟨rfl,q⟩:=h
 cases ry
 refine isnot_none_gen (fin_bl I q ?_)
 cases x <;> first
  | (cases rx; rfl)
  | (obtain ⟨t,rfl⟩:=rx; rfl)
theorem nomark (b : Expr) {op : CmpOp} (h : op ≠ .In:=by decide) (h2 : op ≠ .NotIn:=by decide) : behindInMarks op b = false:=by
 have e1 : (op == CmpOp.In) = false:=by cases op <;> first | rfl | exact absurd rfl h
 have e2 : (op == CmpOp.NotIn) = false:=by cases op <;> first | rfl | exact absurd rfl h2
 cases b <;> simp [behindInMarks,e1,e2]
theorem pe_cmpR {op : CmpOp} {r : R2} (ho : OpR X (compareOp op) r) (ha : PE X a ta) (hb : PE X b tb) (hm : behindInMarks op b = false) : PE X (.Compare a [op] [b] pos) (tOp r ta tb):=by
 intro pins s σ H Q I h
 exact wpAny_Compare1 (binT ha hb I h fun v u s2 x y H2 I2 rx ry q=>ho pins s2 σ H2 x y v u Q I2 rx ry q) hm
theorem line63 : (sizeLine : Nat) < 2 ^ 63:=by rw [sizeLine_eq]; decide
theorem vals1 {x : V} {us : List Value} (r : Vals [x] us) : ∃ u,us = [u]∧RelV x u:=by
 cases r with
 | cons r1 r2=>cases r2; exact ⟨_,rfl,r1⟩
theorem call_abs : CallR X (.builtin "abs") (fun xs H Q=>∃ i,xs = [.int i]∧Q (.int (if i < 0 then -i else i)) H):=by
 intro pins s σ H xs us Q I r h
 obtain ⟨i,rfl,q⟩:=h
 obtain ⟨u,rfl,t,rfl⟩:=vals1 r
 exact call_abs_int fun u tk=>⟨.int (if i < 0 then -i else i),H,I.tok _,⟨_,rfl⟩,q⟩
end
end L2
namespace L2
open PySem PySem.Spec PyProof.Rows
structure ObjM (h : Heap) (x dx C : Addr) (mA : Str→Option Value) : Prop where
 obj : h.get? x = some (PySem.W.instObj C dx)
 ns : h.Ns1 dx mA
 ne : dx ≠ x
theorem lookIn_ns {h : Heap} {dx : Addr} {mA : Str→Option Value} (n : h.Ns1 dx mA) : ∃ od,h.get? dx = some od∧∀ name,PySem.W.lookIn name od = some (mA name):=by
 obtain ⟨o,es,ep,ho,hd,hk,_,hm⟩:=n
 refine ⟨o,ho,fun name=>?_⟩
 have e:=hm name
 unfold nsFind findBy at e
 rw [← Array.find?_toList] at e
 unfold PySem.W.lookIn
 rw [hd]
 dsimp only
 split
 ·rename_i y q
  rw [q] at e
  exact congrArg some e
 ·rename_i q
  rw [q] at e
  have a : es.toList.any (·.refKey) = false:=by
   rw [List.any_eq_false]
   intro y hy
   obtain ⟨z,t,hkey⟩:=hk y (Array.mem_toList_iff.mp hy)
   simp [DictEntry.refKey,hkey]
  have a' : ¬ es.toList.any (·.refKey) = true:=by rw [a]; exact Bool.false_ne_true
  rw [if_neg a']
  exact congrArg some e
section
variable {prog : Program} {w : World} {A : Around} {E : Value→Shared→Prop} {s : Shared} {K : PySem.W.Frag} {x dx C f : Addr} {mA : Str→Option Value} {name : Str} {v : Value}
end
theorem RelO.some_of {v : V} {o : Option Value} (r : RelO (some v) o) : ∃ u,o = some u∧RelV v u:=by
 cases o with
 | none=>exact (show False from r).elim
 | some u=>exact ⟨u,rfl,r⟩
theorem handed_of {v : V} {u : Value} (r : RelV v u) : PySem.W.handedIn u = true:=by
 cases v with
 | non=>cases (show u = Value.none from r); rfl
 | bl b=>cases (show u = Value.bool b from r); rfl
 | int i=>obtain ⟨t,e⟩:=(show ∃ t,u = Value.int i t from r); cases e; rfl
 | str x=>obtain ⟨t,e⟩:=(show ∃ t,u = Value.str x t from r); cases e; rfl
 | byt b=>obtain ⟨t,e⟩:=(show ∃ t,u = Value.bytes b t from r); cases e; rfl
 | flt b=>obtain ⟨t,e⟩:=(show ∃ t,u = Value.float b t from r); cases e; rfl
 | ref a=>cases (show u = Value.ref a from r); rfl
 | ty n=>cases (show u = Value.type n from r); rfl
section
variable {P : Program} {w : World} {H H' : Hp} {h h' : Heap} {a C dx : Addr} {fs fs' : List (Str × V)}
end
structure Cls (K : PySem.W.Frag) (C : Addr) : Prop where
 pg : PySem.W.plainGet K C Str.empty = true
 hd : PySem.W.hasDictIn K C = true
 po : PySem.W.plainOver K C = true
 sa : PySem.W.findIn K (.ref C) "__setattr__" = some (some (.builtin "object.__setattr__"))
structure Con (K : PySem.W.Frag) (C : Addr) (f : Str) (v : V) (u : Value) : Prop where
 at_ : PySem.W.findIn K (.ref C) f = some (some u)
 rel : RelV v u
 get : PySem.W.specialIn K u "__get__" = some none
 cp : PySem.W.copiedNames.contains f = false
structure Meth (K : PySem.W.Frag) (C : Addr) (m : Str) (f : Addr) : Prop where
 at_ : PySem.W.findIn K (.ref C) m = some (some (.ref f))
 fn : PySem.W.isFn K (.ref f) = true
 kp : PySem.W.keepIn K (.ref f) = true
section
variable {X : Cx} {pins : List (Addr × Obj)} {σ : St} {H : Hp} {s : Shared} {a C dx : Addr} {fs : List (Str × V)} {f : Str} {v : V} {A : Around} {E : Value→Shared→Prop}
theorem attr_of {prog : Program} {w : World} {env : Env} {e : Expr} {f : Str} {pos : Pos} {s : Shared} {Q : Value→Shared→Prop} (hb : attributeBase e f env (eval e env) = eval e env)
  (h : wpAny (model prog w) A (eval e env) (fun o s₁=>wpAny (model prog w) A (getAttr o f true) Q E s₁) E s) : wpAny (model prog w) A (eval (.Attribute e f pos) env) Q E s :=
 Attribute_any_ h (by rw [arm_eval_Attribute,hb])
end
section
variable {X : Cx} {o e value : Expr} {f : Str} {pos pos' tpos : Pos} {ta tv : TE}
end
section
variable {X : Cx} {pins : List (Addr × Obj)} {σ : St} {H : Hp} {s : Shared} {A : Around} {E : Value→Shared→Prop} {Q : Value→Shared→Prop} {c : Value} {b : Bool}
inductive TyOf (K : PySem.W.Frag) (H : Hp) : V→Value→Prop where
 | non : TyOf K H .non (.type "NoneType")
 | bl (x : Bool) : TyOf K H (.bl x) (.type "bool")
 | int (i : Int) : TyOf K H (.int i) (.type "int")
 | str (x : Str) : TyOf K H (.str x) (.type "str")
 | flt (x : UInt64) : TyOf K H (.flt x) (.type "float")
 | lst {a : Addr} {xs : List V} (e : H a = some (.lst xs)) : TyOf K H (.ref a) (.type "list")
 | frz {a : Addr} {o : Obj} {xs : List V} (e : H a = some (.frz o (.lst xs))) : TyOf K H (.ref a) (.type "list")
 | tup {a : Addr} {xs : List V} (e : H a = some (.tup xs)) : TyOf K H (.ref a) (.type "tuple")
 | dK {a : Addr} {kvs : List (Key × V)} (e : H a = some (.dK kvs)) : TyOf K H (.ref a) (.type "dict")
 | dT {a : Addr} {kvs : List (List Key × V)} (e : H a = some (.dT kvs)) : TyOf K H (.ref a) (.type "dict")
 | ins {a C dx : Addr} {fs : List (Str × V)} (e : H a = some (.ins C dx fs)) (cl : Cls K C) (ha : PySem.W.findIn K (.ref C) "__class__" = some (some (.builtin "object.__class__")))
   (hn : PySem.W.specialIn K (.builtin "object.__class__") "__get__" = some (some (.builtin "getset_descriptor.__get__"))) (htk : PySem.W.takesIn K (.builtin "object.__class__") = some true)
   (hm : PySem.W.mroIn K C (.type "object") = some true) : TyOf K H (.ref a) (.ref C)
end
end L2
namespace L2
open PySem PySem.Spec PyProof.Rows
structure Room (k : Nat) (A : Around) : Prop where
 hd : A.handled = none
 dp : A.depth + 3 * k + 5 < recursionLimit
 un : A.units + 16 * k + 200 < cLine
theorem Room.mono {j k : Nat} {A : Around} (r : Room k A) (h : j≤k) : Room j A:=⟨r.hd,by have:=r.dp; omega,by have:=r.un; omega⟩
theorem Room.deeper {k : Nat} {A : Around} (r : Room (k + 1) A) (env : Env) : Room k (A.deeper env) :=
 ⟨r.hd,by have:=r.dp; show A.depth + 1 + 3 * k + 5 < _; omega,by have:=r.un; show A.units + 3 + 16 * k + 200 < _; omega⟩
theorem make_depth {A : Around} {C : Addr} {us : List Value} {kw : List (Str × Value)} : (A.under (.builtin "type.__call__" ⟨.ref C :: us,kw⟩)).depth = A.depth + 1:=by
 first | rfl | simp [Around.under,Code.weight,Code.isCreation,Code.isGuard,Code.isCaller,Code.frames,Code.isFrame,guardIds]
theorem make_units {A : Around} {C : Addr} {us : List Value} {kw : List (Str × Value)} : (A.under (.builtin "type.__call__" ⟨.ref C :: us,kw⟩)).units = A.units + 1:=by
 first | rfl | simp [Around.under,Code.cUnits,Code.frames,Code.isFrame]
theorem Room.make {k : Nat} {A : Around} (r : Room (k + 1) A) (C : Addr) (us : List Value) (kw : List (Str × Value)) : Room k (A.under (.builtin "type.__call__" ⟨.ref C :: us,kw⟩)) :=
 ⟨r.hd,by have:=r.dp; rw [make_depth]; omega,by have:=r.un; rw [make_units]; omega⟩
theorem Room.depth {k : Nat} {A : Around} (r : Room k A) : A.depth < recursionLimit:=by have:=r.dp; omega
theorem Room.units {k : Nat} {A : Around} (r : Room k A) : A.units + 64 < cLine:=by have:=r.un; omega
noncomputable def tNil : TA:=fun _ H Q=>Q [] H
noncomputable def tCons (ta : TE) (tr : TA) : TA:=fun σ H Q=>ta σ H fun x H1=>tr σ H1 fun xs H2=>Q (x :: xs) H2
section
variable {X : Cx} {e : Expr} {es : List Expr} {te : TE} {t : TA} {pos : Pos}
theorem pa_nil : PA X [] tNil:=fun _ _ _ _ H Q I h=>Calls.spliced_nil ⟨[],H,I,.nil,h⟩
theorem pa_cons (ha : PE X e te) (hr : PA X es t) (hs : starEach (e :: es) X.env = (false,eval e X.env) :: starEach es X.env:=by rfl) : PA X (e :: es) (tCons te t):=by
 intro pos pins s σ H Q I h
 rw [hs]
 show wpAny _ _ (spliced ((false,eval e X.env) :: backTo pos (starEach es X.env))) _ _ s
 refine Calls.spliced_cons (thn (ha pins s σ H _ I h) fun u s1 ⟨x,H1,I1,r1,q1⟩=>?_)
 exact thn (hr pos pins s1 σ H1 _ I1 q1) fun us s2 ⟨xs,H2,I2,r2,q2⟩=>⟨x :: xs,H2,I2,.cons r1 r2,q2⟩
noncomputable def tTup (t : TA) : TE:=fun σ H Q=>t σ H fun xs H1=>xs.length≤sizeLine∧∀ p,H1 p = none→Q (.ref p) (upd H1 p (.tup xs))
noncomputable def tLst (t : TA) : TE:=fun σ H Q=>t σ H fun xs H1=>xs.length≤sizeLine∧∀ p,H1 p = none→Q (.ref p) (upd H1 p (.lst xs))
theorem pe_tup {x1} (h : PA X es t) : PE X (.Tuple es x1 pos) (tTup t):=by
 intro pins s σ H Q I hq
 refine wpAny_Tuple_spliced (thn (h pos pins s σ H _ I hq) fun us s1 ⟨xs,H1,I1,r,z,q⟩=>⟨by rw [← r.length]; exact z,?_⟩)
 have hf : H1 s1.heap.objs.size = none:=I1.hok.fresh (Nat.le_refl _)
 refine ⟨.ref s1.heap.objs.size,upd H1 s1.heap.objs.size (.tup xs),I1.laid (t':=s1.toks) (fun b u e=>Heap.get?_push_of_some _ e) (Nat.le_refl _) ?_,rfl,q _ hf⟩
 exact ⟨z,us,r,⟨_,Heap.get?_push_size _ rfl,rfl,_,rfl⟩⟩
theorem pe_lst (h : PA X es t) : PE X (.List es pos) (tLst t):=by
 intro pins s σ H Q I hq
 refine wpAny_List_spliced (thn (h pos pins s σ H _ I hq) fun us s1 ⟨xs,H1,I1,r,z,q⟩=>⟨by rw [← r.length]; exact z,?_⟩)
 have hf : H1 s1.heap.objs.size = none:=I1.hok.fresh (Nat.le_refl _)
 refine ⟨.ref s1.heap.objs.size,upd H1 s1.heap.objs.size (.lst xs),I1.laid (t':=s1.toks) (fun b u e=>Heap.get?_push_of_some _ e) (Nat.le_refl _) ?_,rfl,q _ hf⟩
 exact ⟨z,us,0,r,Heap.get?_push_size _ rfl⟩
end
noncomputable abbrev Sp:=List V→Hp→VK→XK→Prop
noncomputable abbrev CXT:=List Env→Hp→Shared→XK→Value→Shared→Prop
structure Env0 (P : Program) (w : World) (K : PySem.W.Frag) (mg : Str→Option Value) (base : Heap) (A : Around) (outer : List Env) (s : Shared) (H : Hp) : Prop where
 frames : A.frames = some outer
 mod : Mod K mg base
 bs : ∀ b o,base.get? b = some o→s.heap.get? b = some o∧H b = none
 bsz : base.objs.size≤s.heap.objs.size
 funs : s.heap.FunFrames base outer
 frf : ∀ b∈frs outer,H b = none
 hok : HOk P w H s.heap
 bare : AllBare s.gens
noncomputable def CE (outer : List Env) (P : Program) (w : World) (H : Hp) (s : Shared) (Q : VK) (u : Value) (s' : Shared) : Prop :=
 ∃ v H',s'.os = s.os∧AllBare s'.gens∧Un (frs outer) [] H H' s.heap s'.heap∧HOk P w H' s'.heap∧RelV v u∧Q v H'
noncomputable def CR (CX : CXT) (outer : List Env) (P : Program) (w : World) (H : Hp) (s : Shared) (Q : VK) (E : XK) (r : Result) (s' : Shared) : Prop :=
 match r with
 | .ok (.ret u)=>CE outer P w H s Q u s'
 | .ok _=>False
 | .error e=>CX outer H s E e s'
structure FnOk (P : Program) (w : World) (K : PySem.W.Frag) (mg : Str→Option Value) (base : Heap) (CX : CXT) (k : Nat) (f : Addr) (fd : FuncData) (ps : List Str) (sp : Sp) : Prop where
 len : ∀ vs H Q E,sp vs H Q E→vs.length = ps.length
 run : ∀ (A : Around) (outer : List Env) (s : Shared) (H : Hp) (args : Args) (us : List Value) (vs : List V) (Q : VK) (E : XK),Room k A→Env0 P w K mg base A outer s H→BindsTo s fd args (ps.zip us)→Vals vs us→sp vs H Q E →
  codeAny (model P w) A (.call (.ref f) args) (CR CX outer P w H s Q E) s
theorem FnOk.imp {P : Program} {w : World} {K : PySem.W.Frag} {mg : Str→Option Value} {base : Heap} {CX : CXT} {k : Nat} {f : Addr} {fd : FuncData} {ps : List Str} {sp sp' : Sp} (F : FnOk P w K mg base CX k f fd ps sp)
  (h : ∀ vs H Q E,sp' vs H Q E→sp vs H Q E) : FnOk P w K mg base CX k f fd ps sp' :=
 ⟨fun vs H Q E q=>F.len vs H Q E (h _ _ _ _ q),fun A outer s H args us vs Q E hr he hb hv hs=>F.run A outer s H args us vs Q E hr he hb hv (h _ _ _ _ hs)⟩
theorem Env0.make {P : Program} {w : World} {K : PySem.W.Frag} {mg : Str→Option Value} {base : Heap} {A : Around} {outer : List Env} {s : Shared} {H : Hp} (e : Env0 P w K mg base A outer s H) (C : Addr) (us : List Value) (kw : List (Str × Value)) :
  Env0 P w K mg base (A.under (.builtin "type.__call__" ⟨.ref C :: us,kw⟩)) outer s H:=⟨by first | exact e.frames | (simpa [Around.under,Code.envs,Code.isFrame,pushEnvs] using e.frames),e.mod,e.bs,e.bsz,e.funs,e.frf,e.hok,e.bare⟩
section
variable {X : Cx} {pins : List (Addr × Obj)} {σ : St} {H : Hp} {s s' : Shared}
theorem Inv.env0 (I : Inv X pins σ H s) : Env0 X.prog X.w X.K X.mg X.base X.A X.stack s H :=
 ⟨I.ok.frames,I.ok.mod,I.bs,Nat.le_trans I.ok.bsz I.sz,I.stack,I.stkFree,I.hok,I.bare⟩
theorem Inv.after {Q : VK} {u : Value} (I : Inv X pins σ H s) (h : CE X.stack X.prog X.w H s Q u s') : EP X pins σ Q u s':=by
 obtain ⟨v,H',os,bare,un,hok,r,q⟩:=h
 obtain ⟨hh,g,d,t,os'⟩:=s'
 obtain rfl : os' = s.os:=os
 exact ⟨v,H',I.call (h':=hh) (g':=g) (d':=d) (t':=t) (ch:=[]) un hok bare (fun b z=>absurd z (by simp)),r,q⟩
end
noncomputable def tCall (sp : Sp) (dvs : List V) (E : XK) (t : TA) : TE:=fun σ H Q=>t σ H fun vs H1=>sp (vs ++ dvs) H1 Q E
noncomputable def Binds (K : PySem.W.Frag) (fd : FuncData) (ps : List Str) (ds : List Value) : Prop :=
 ∀ (s : Shared) (us : List Value),K.In s.heap→(us ++ ds).length = ps.length→BindsTo s fd ⟨us,[]⟩ (ps.zip (us ++ ds))
theorem Binds.all {K : PySem.W.Frag} {fd : FuncData} {ps : List Str} (h : ∀ us : List Value,us.length = ps.length→bindArgs fd ⟨us,[]⟩ = pure (ps.zip us)) : Binds K fd ps []:=fun s us _ hl=>by
 rw [List.append_nil] at hl ⊢
 exact .of_eq (h us hl)
noncomputable def Passes (CX : CXT) (X : Cx) (E : XK) : Prop:=∀ (pins : List (Addr × Obj)) (σ : St) (H : Hp) (s : Shared) (e : Value) (s' : Shared),Inv X pins σ H s→CX X.stack H s E e s'→X.xe e s'
section
variable {X : Cx} {CX : CXT} {k : Nat} {f C : Addr} {fd : FuncData} {ps : List Str} {sp : Sp} {dvs : List V} {ds : List Value} {E : XK} {x m : Str} {p pos apos : Pos} {e o : Expr} {es : List Expr} {ta : TE} {t : TA}
theorem run_fn {pins : List (Addr × Obj)} {σ : St} {H : Hp} {s : Shared} {Q : VK} {us : List Value} {vs : List V} (F : FnOk X.prog X.w X.K X.mg X.base CX k f fd ps sp) (hr : Room k X.A) (hb : Binds X.K fd ps ds) (hd : Vals dvs ds) (hx : Passes CX X E)
  (I : Inv X pins σ H s) (r : Vals vs us) (h : sp (vs ++ dvs) H Q E) : wpAny (model X.prog X.w) X.A (call (.ref f) us) (EP X pins σ Q) X.xe s:=by
 have r2 : Vals (vs ++ dvs) (us ++ ds):=r.append hd
 have hl : (us ++ ds).length = ps.length:=by rw [← r2.length]; exact F.len _ _ _ _ h
 refine wpAny_call (codeAny_mono (F.run X.A X.stack s H ⟨us,[]⟩ (us ++ ds) (vs ++ dvs) Q E hr I.env0 (hb s us I.kIn hl) r2 h) fun r s' hq=>?_)
 cases r with
 | error e=>exact hx pins σ H s e s' I hq
 | ok fl =>
  cases fl with
  | ret u=>exact I.after hq
  | next=>exact False.elim hq
  | brk=>exact False.elim hq
  | cont=>exact False.elim hq
theorem pe_call (F : FnOk X.prog X.w X.K X.mg X.base CX k f fd ps sp) (hr : Room k X.A) (hg : Gl X x) (hm : X.mg x = some (.ref f)) (hk : PySem.W.keepIn X.K (.ref f) = true) (hb : Binds X.K fd ps ds) (hd : Vals dvs ds) (hx : Passes CX X E)
  (ha : PA X (e :: es) t) (hdb : (x == ("__debug__" : Str)) = false:=by decide) (he : starEach (e :: es) X.env = (false,eval e X.env) :: starEach es X.env:=by rfl) (hpl : (backTo pos (starEach es X.env)).any (·.1) = false:=by rfl) :
  PE X (.Call (.Name x p) (e :: es) [] pos) (tCall sp dvs E t):=by
 intro pins s σ H Q I h
 refine wpAny_Call_Name_kw (ld_glob I hg hm ?_ hdb)
 refine PySem.W.callWith_K (h₀:=X.base) I.ok.mod.kin hk (thn (ha pos pins s σ H _ I h) fun us s1 ⟨vs,H1,I1,r,q⟩=>⟨I1.kIn,?_⟩) he hpl
 exact run_fn F hr hb hd hx I1 r q
structure Mk (K : PySem.W.Frag) (C f : Addr) : Prop where
 makes : PySem.W.makesIn K C = true
 init : PySem.W.findIn K (.ref C) "__init__" = some (some (.ref f))
 fn : PySem.W.isFn K (.ref f) = true
 kp : PySem.W.keepIn K (.ref C) = true
end
section
variable {X : Cx} {CX : CXT} {k : Nat} {f C : Addr} {fd : FuncData} {ps ks : List Str} {sp : Sp} {E : XK} {x m : Str} {p pos apos kpos : Pos} {e o : Expr} {es : List Expr} {kws : List Keyword} {te ta : TE} {t tk : TA} {nm : Option Str}
structure KBinds (K : PySem.W.Frag) (fd : FuncData) (ps ks : List Str) (g : List Value→List Value→List Value) (gV : List V→List V→List V) : Prop where
 to : ∀ (s : Shared) (us ws : List Value),K.In s.heap→(g us ws).length = ps.length→BindsTo s fd ⟨us,ks.zip ws⟩ (ps.zip (g us ws))
 rel : ∀ {vs : List V} {us : List Value} {zs : List V} {ws : List Value},Vals vs us→Vals zs ws→Vals (gV vs zs) (g us ws)
variable {g : List Value→List Value→List Value} {gV : List V→List V→List V}
end
structure FnScope (N P : List Str) (sc : Scope) : Prop where
 kind : sc.kind = .function
 co : sc.isCoroutine = false
 gen : sc.isGenerator = false
 nd : N.Nodup
 pre : N.take P.length = P
 par : ∀ x∈P,sc.names.lookup x = some .local∨sc.names.lookup x = some .cell
 nofree : ∀ y∈sc.names,y.2 ≠ .free
theorem bindL_out {kindOf : Str→Option NameKind} {x : Str} : ∀ {binds : List (Str × Value)} {m : Str→Option Value},(∀ v,(x,v) ∉ binds)→bindL kindOf binds m x = m x
 | [],_,_=>rfl
 | (n,v) :: r,m,h=>by
  unfold bindL
  rw [bindL_out fun w hw=>h w (List.mem_cons_of_mem _ hw)]
  split
  ·have : x ≠ n:=by rintro rfl; exact h v List.mem_cons_self
   simp [this]
  ·rfl
theorem bindC_out {kindOf : Str→Option NameKind} {x : Str} : ∀ {binds : List (Str × Value)} {m : Str→Option Value},(∀ v,(x,v) ∉ binds)→bindC kindOf binds m x = m x
 | [],_,_=>rfl
 | (n,v) :: r,m,h=>by
  unfold bindC
  rw [bindC_out fun w hw=>h w (List.mem_cons_of_mem _ hw)]
  split
  ·rfl
  ·have : x ≠ n:=by rintro rfl; exact h v List.mem_cons_self
   simp [this]
theorem bindL_get {kindOf : Str→Option NameKind} {x : Str} {v : Value} : ∀ {P : List Str} {vs : List Value} {i : Nat} {m : Str→Option Value},P.Nodup→P[i]? = some x→vs[i]? = some v→kindOf x = some .local →
  bindL kindOf (P.zip vs) m x = some v
 | [],_,_,_,_,h,_,_=>by simp at h
 | _ :: _,[],_,_,_,_,h,_=>by simp at h
 | p :: P,w :: vs,0,m,nd,h1,h2,hk=>by
  simp at h1 h2; subst h1; subst h2
  show bindL kindOf ((p,w) :: P.zip vs) m p = _
  unfold bindL
  rw [bindL_out fun v hv=>(List.nodup_cons.mp nd).1 (List.of_mem_zip hv).1,if_pos hk]
  simp
 | p :: P,w :: vs,i + 1,m,nd,h1,h2,hk=>by
  show bindL kindOf ((p,w) :: P.zip vs) m x = _
  unfold bindL
  exact bindL_get (i:=i) (List.nodup_cons.mp nd).2 (by simpa using h1) (by simpa using h2) hk
theorem bindC_get {kindOf : Str→Option NameKind} {x : Str} {v : Value} : ∀ {P : List Str} {vs : List Value} {i : Nat} {m : Str→Option Value},P.Nodup→P[i]? = some x→vs[i]? = some v→kindOf x ≠ some .local →
  bindC kindOf (P.zip vs) m x = some v
 | [],_,_,_,_,h,_,_=>by simp at h
 | _ :: _,[],_,_,_,_,h,_=>by simp at h
 | p :: P,w :: vs,0,m,nd,h1,h2,hk=>by
  simp at h1 h2; subst h1; subst h2
  show bindC kindOf ((p,w) :: P.zip vs) m p = _
  unfold bindC
  rw [bindC_out fun v hv=>(List.nodup_cons.mp nd).1 (List.of_mem_zip hv).1,if_neg hk]
  simp
 | p :: P,w :: vs,i + 1,m,nd,h1,h2,hk=>by
  show bindC kindOf ((p,w) :: P.zip vs) m x = _
  unfold bindC
  exact bindC_get (i:=i) (List.nodup_cons.mp nd).2 (by simpa using h1) (by simpa using h2) hk
noncomputable def start (N : List Str) (vs : List V) : St:=vs.map some ++ List.replicate (N.length - vs.length) none
noncomputable def cxOf (CX : CXT) (P : Program) (w : World) (K : PySem.W.Frag) (mg : Str→Option Value) (base : Heap) (N : List Str) (qual : Str) (scope : Scope) (f : Addr) (cd : Value) (A : Around) (outer : List Env) (s : Shared) (H : Hp) (E : XK) : Cx where
 prog:=P
 w:=w
 K:=K
 mg:=mg
 base:=base
 A:=A.deeper (envOfC qual scope s.heap.objs.size f cd)
 N:=N
 s₀:=s
 H₀:=H
 env:=envOfC qual scope s.heap.objs.size f cd
 outer:=outer
 stack:=envOfC qual scope s.heap.objs.size f cd :: outer
 ex:=[]
 calm:=true
 fn:=fun _=>true
 pn:=[]
 xe:=fun e s'=>wpAny (model P w) (A.deeper (envOfC qual scope s.heap.objs.size f cd)) (leaving (envOfC qual scope s.heap.objs.size f cd) e) (fun _ s''=>CX outer H s E e s'') (fun e' s''=>CX outer H s E e' s'') s'
theorem cell_has {sc : Scope} {n : Nat} {x : Str} (h : sc.names.lookup x = some .cell) : ∃ c,(cellsFrom n sc.names []).lookup x = some c:=by
 have q:=PySem.W.cellsFrom_some sc.names n [] (.inl h)
 exact Option.isSome_iff_exists.mp q
theorem inv_start {CX : CXT} {P : Program} {w : World} {K : PySem.W.Frag} {mg : Str→Option Value} {base : Heap} {N ps : List Str} {qual : Str} {scope : Scope} {f : Addr} {cd : Value} {A : Around} {outer : List Env} {s s1 : Shared} {H : Hp} {E : XK} {us : List Value} {vs : List V}
  (S : FnScope N ps scope) (hd : A.handled = none) (e0 : Env0 P w K mg base A outer s H) (hl : vs.length = ps.length) (r : Vals vs us)
  (x : InCallC s s.heap.objs.size (bindL (envOfC qual scope s.heap.objs.size f cd).kindOf (ps.zip us) fun _=>none) (cellsFrom (s.heap.objs.size + 1) scope.names []) (bindC (envOfC qual scope s.heap.objs.size f cd).kindOf (ps.zip us) fun _=>none) s1) :
  Inv (cxOf CX P w K mg base N qual scope f cd A outer s H E) [] (start N vs) H s1:=by
 have hpl : ps.length≤N.length:=by have:=congrArg List.length S.pre; rw [List.length_take] at this; omega
 obtain ⟨h1,tk,rfl,hk⟩:=x.done
 have noA : ∀ b : Addr,b ∉ (cxOf CX P w K mg base N qual scope f cd A outer s H E).ex:=fun b z=>absurd (show b∈([] : List Addr) from z) (by simp)
 refine ⟨⟨e0.mod,S.kind,rfl,rfl,Nat.le_refl _,fun y z c h1 h2=>?_,fun y hy=>?_,fun y c _ h=>?_,fun _=>hd,Around.frames_deeper e0.frames,.inr ⟨rfl,rfl⟩,fun b z=>absurd z (noA b),e0.bs,e0.bsz,fun b _ _=>noA b,fun b z=>absurd z (noA b),e0.funs,e0.frf⟩,
  rfl,e0.bare,Un.kept hk,⟨_,x.toInCall.ns,fun i y v h1 h2 h3=>?_⟩,fun y c h=>⟨_,x.cell y c h⟩,e0.hok.fresh (Nat.le_refl _),fun y c h=>?_,fun p hp=>absurd (show p∈([] : List (Addr × Obj)) from hp) (by simp),e0.hok.kept hk,?_⟩
 ·exact name_of_addr x.apart (PySem.mem_of_lookup h1) (PySem.mem_of_lookup h2)
 ·have hy : scope.names.lookup y = some .cell∨scope.names.lookup y = some .free:=hy
  rcases hy with hy | hy
  ·exact cell_has hy
  ·exact absurd rfl (S.nofree _ (PySem.mem_of_lookup hy))
 ·exact Nat.le_of_lt (x.above y c (PySem.mem_of_lookup h))
 ·have hi : i < vs.length:=by
   unfold start at h2
   by_cases hi : i < vs.length
   ·exact hi
   ·rw [List.getElem?_append_right (by simpa using hi)] at h2
    rw [List.getElem?_replicate] at h2
    split at h2 <;> cases h2
  have ha : vs[i]? = some v:=by
   unfold start at h2
   rw [List.getElem?_append_left (by simpa using hi),List.getElem?_map] at h2
   cases e : vs[i]? with
   | none=>rw [e] at h2; cases h2
   | some a=>rw [e] at h2; cases h2; rfl
  obtain ⟨u,hu,rv⟩:=r.get ha
  have hp : ps[i]? = some y:=by
   rw [← S.pre,List.getElem?_take_of_lt (by omega)]; exact h1
  have ndP : ps.Nodup:=by rw [← S.pre]; exact S.nd.sublist (List.take_sublist _ _)
  refine ⟨u,rv,?_⟩
  rcases S.par y (List.mem_of_getElem? hp) with k | k
  ·exact .inl ⟨k,bindL_get ndP hp hu k⟩
  ·obtain ⟨c,e⟩:=cell_has (n:=s.heap.objs.size + 1) k
   refine .inr ⟨.inl k,c,e,?_⟩
   have q:=x.cell y c e
   rw [bindC_get ndP hp hu (by show scope.names.lookup y ≠ _; rw [k]; decide)] at q
   exact q
 ·exact e0.hok.fresh (Nat.le_of_lt (x.above y c (PySem.mem_of_lookup h)))
 ·unfold start
  show _ = N.length
  rw [List.length_append,List.length_map,List.length_replicate]
  omega
theorem fn_of {CX : CXT} {P : Program} {w : World} {K : PySem.W.Frag} {mg : Str→Option Value} {base : Heap} {k : Nat} {f : Addr} {name qual : Str} {params : Arguments} {body : List Stmt} {scope : Scope} {dV kV doc pm cdv ct oc : Value} {an od : Option Addr}
  {osl : Array (Option Value)} {N ps : List Str} {sp : Sp} (lk : K.lookup f = some ⟨oc,od,.func (PySem.W.fnOf name qual params body scope dV kV doc pm an cdv ct),osl⟩) (hcd : PySem.W.codeIn K cdv qual = true) (S : FnScope N ps scope)
  (len : ∀ vs H Q E,sp vs H Q E→vs.length = ps.length)
  (hbody : ∀ (A : Around) (outer : List Env) (s : Shared) (H : Hp) (vs : List V) (Q : VK) (E : XK),Room k (A.deeper (envOfC qual scope s.heap.objs.size f cdv))→sp vs H Q E →
   ∃ t,PSs (cxOf CX P w K mg base N qual scope f cdv A outer s H E) body t∧t { nx:=fun _ H'=>Q .non H',rt:=Q } (start N vs) H) :
  FnOk P w K mg base CX (k + 1) f (PySem.W.fnOf name qual params body scope dV kV doc pm an cdv ct) ps sp:=by
 refine ⟨len,fun A outer s H args us vs Q E hr e0 hb r hsp=>?_⟩
 have hl:=len _ _ _ _ hsp
 have KX : K.In s.heap:=e0.mod.kin.keeps fun b o e=>(e0.bs b o e).1
 have lim : s.heap.NoLimit:=e0.mod.nolimit.keeps fun b o e=>(e0.bs b o e).1
 have hkind : ∀ y∈ps.zip us,scope.names.lookup y.1 = some .local∨(scope.names.lookup y.1 = some .cell∧((cellsFrom (s.heap.objs.size + 1) scope.names []).lookup y.1).isSome = true):=fun ⟨n,v⟩ hy=>by
  rcases S.par n (List.of_mem_zip hy).1 with q | q
  ·exact .inl q
  ·exact .inr ⟨q,PySem.W.cellsFrom_some _ _ _ (.inl q)⟩
 refine codeAny_call_function hr.depth (KX _ _ lk) rfl S.co S.gen rfl (PySem.W.codeRec_of KX hcd) (hb _ _ _ _ ?_)
 refine wpAny_newFunctionEnv_cells S.kind hkind fun env he s1 x=>?_
 subst he
 refine ⟨lim.keeps x.toInCall.keep,codeAny_func ?_⟩
 obtain ⟨t,ht,hq⟩:=hbody A outer s H vs Q E (hr.deeper _) hsp
 have I : Inv (cxOf CX P w K mg base N qual scope f cdv A outer s H E) [] (start N vs) H s1:=inv_start S hr.hd e0 hl r x
 refine wpAny_mono (ht [] s1 (start N vs) H _ I hq) (fun fl s' hs=>?_) fun e s' hs=>hs
 have fin : ∀ {σ' : St} {H' : Hp} {v : V} {u : Value},Inv (cxOf CX P w K mg base N qual scope f cdv A outer s H E) [] σ' H' s'→RelV v u→Q v H'→CE outer P w H s Q u s' :=
  fun {σ' H' v u} J rv q=>⟨v,H',J.os,J.bare,J.base,J.hok,rv,q⟩
 cases fl with
 | ret u =>
  obtain ⟨v,σ',H',J,rv,q⟩:=hs
  exact fin J rv q
 | next =>
  obtain ⟨σ',H',J,q⟩:=hs
  exact fin (v:=V.non) (u:=Value.none) J rfl q
 | brk =>
  obtain ⟨_,_,_,q⟩:=hs
  exact False.elim q
 | cont =>
  obtain ⟨_,_,_,q⟩:=hs
  exact False.elim q
end L2
namespace L2
open PySem PySem.Spec PyProof.Rows
section
variable {X : Cx} {x : Str} {p pos : Pos} {e : Expr} {es : List Expr} {t : TA} {id T : String} {r : List V→Hp→VK→Prop}
noncomputable def tCB (r : List V→Hp→VK→Prop) (t : TA) : TE:=fun σ H Q=>t σ H fun vs H1=>r vs H1 Q
theorem pe_callB (hc : CallR X (.builtin id) r) (hg : Gl X x) (hm : X.mg x = none) (hv : bootBuiltins x = some (.builtin id)) (ha : PA X (e :: es) t) (hn : x ≠ "__name__":=by decide) (hdb : (x == ("__debug__" : Str)) = false:=by decide)
  (he : starEach (e :: es) X.env = (false,eval e X.env) :: starEach es X.env:=by rfl) (hpl : (backTo pos (starEach es X.env)).any (·.1) = false:=by rfl) : PE X (.Call (.Name x p) (e :: es) [] pos) (tCB r t):=by
 intro pins s σ H Q I h
 refine wpAny_Call_Name_kw (ld_blt I hg hm hv ?_ hn hdb)
 exact PyProof.Rows.callWith_builtin1 (thn (ha pos pins s σ H _ I h) fun us s1 ⟨vs,H1,I1,r1,q1⟩=>hc pins s1 σ H1 vs us Q I1 r1 q1) he hpl
theorem pe_callTy (hc : CallR X (.type T) r) (hg : Gl X x) (hm : X.mg x = none) (hv : bootBuiltins x = some (.type T)) (ha : PA X (e :: es) t) (hn : x ≠ "__name__":=by decide) (hdb : (x == ("__debug__" : Str)) = false:=by decide)
  (he : starEach (e :: es) X.env = (false,eval e X.env) :: starEach es X.env:=by rfl) (hpl : (backTo pos (starEach es X.env)).any (·.1) = false:=by rfl) : PE X (.Call (.Name x p) (e :: es) [] pos) (tCB r t):=by
 intro pins s σ H Q I h
 refine wpAny_Call_Name_kw (ld_blt I hg hm hv ?_ hn hdb)
 exact PyProof.Rows.callWith_type1 (thn (ha pos pins s σ H _ I h) fun us s1 ⟨vs,H1,I1,r1,q1⟩=>hc pins s1 σ H1 vs us Q I1 r1 q1) he hpl
end
end L2
namespace HT
open PySem PyProof.Rows
section
open PySem.SeqAt
open PySem.AutoSeq1 (wpAny_loadPart')
open PySem.MeetsSeq PySem.MeetsSeq2 PySem.MeetsSeq3
end
section
variable {prog : Program} {w : World} {A : Around} {E : Value→Shared→Prop} {s : Shared}
theorem cat_tup {t b : Addr} {vs ws : List Value} {Q : Value→Shared→Prop} (ht : IsTup s.heap t vs.toArray) (hb : IsTup s.heap b ws.toArray) (hv : vs ≠ [])
  (h1 : ws = []→Q (.ref t) s) (h2 : ws ≠ []→Q (.ref s.heap.objs.size) { s with heap:=s.heap.push { cls:=.type "tuple",data:=.seq (vs ++ ws).toArray } })
  (hsz : vs.length + ws.length≤sizeLine) : wpAny (model prog w) A (binaryOp .Add (.ref t) (.ref b)) Q E s:=by
 obtain ⟨⟨cls,dd,data,sl⟩,ho,hc,n,hd⟩:=id ht
 obtain ⟨⟨cls2,dd2,data2,sl2⟩,ho2,hc2,n2,hd2⟩:=id hb
 simp only at hc hd hc2 hd2
 subst hc hd hc2 hd2
 have e : vs.toArray ++ ws.toArray = (vs ++ ws).toArray:=by simp
 by_cases hw : ws = []
 ·exact concat_meets ⟨_,ho,rfl⟩ ⟨_,ho2,rfl⟩ noFill_tuple_add seq_tuple_add PySem.F.slot_tuple_add PySem.F.entry_tuple_add (PySem.F.args_tuple_add_2 _ _)
   (tuple_addW1 t b vs.toArray ws.toArray n n2 dd dd2 sl sl2 (by simpa using hv) (by simp [hw])) ⟨ho,ho2,h1 hw⟩
 ·refine concat_meets ⟨_,ho,rfl⟩ ⟨_,ho2,rfl⟩ noFill_tuple_add seq_tuple_add PySem.F.slot_tuple_add PySem.F.entry_tuple_add (PySem.F.args_tuple_add_2 _ _)
   (tuple_addW2 t b vs.toArray ws.toArray n n2 dd dd2 sl sl2 (by simpa using hv) (by simpa using hw) (by rw [List.size_toArray,List.size_toArray]; exact hsz)) ⟨ho,ho2,?_⟩
  rw [e]
  exact h2 hw
noncomputable def sIx (n d : Nat) : Option Int→Nat
 | none=>d
 | some v=>if v < 0 then (v + (n : Int)).toNat else min v.toNat n
theorem sIx_le (n d : Nat) (hd : d≤n) (o : Option Int) : sIx n d o≤n:=by
 cases o with
 | none=>exact hd
 | some v =>
  show (if v < 0 then (v + (n : Int)).toNat else min v.toNat n)≤n
  by_cases hv : v < 0
  ·rw [if_pos hv]; omega
  ·rw [if_neg hv]; exact Nat.min_le_right _ _
theorem clip_eq (v : Int) (n d : Nat) : (if v < 0 then max (v + (n : Int)) 0 else min v (n : Int)) = ((sIx n d (some v) : Nat) : Int):=by
 show (if v < 0 then max (v + (n : Int)) 0 else min v (n : Int)) = (((if v < 0 then (v + (n : Int)).toNat else min v.toNat n) : Nat) : Int)
 by_cases hv : v < 0
 ·simp only [if_pos hv]; omega
 ·simp only [if_neg hv]; omega
theorem adjust_gen (lo hi : Option Int) (n : Nat) : Builtin.Slice.sliceAdjust lo hi 1 (n : Int) = (((sIx n 0 lo : Nat) : Int),((sIx n n hi : Nat) : Int)):=by
 have h1 : ¬ ((1 : Int) < 0):=by omega
 unfold Builtin.Slice.sliceAdjust
 simp only [h1,if_false]
 refine Prod.ext ?_ ?_
 ·cases lo with
  | none=>rfl
  | some v=>exact clip_eq v n 0
 ·cases hi with
  | none=>rfl
  | some v=>exact clip_eq v n n
theorem places_gen (i j : Nat) : Builtin.Slice.slicePlaces (i : Int) (j : Int) 1 = j - i:=by
 unfold Builtin.Slice.slicePlaces
 have h1 : (1 : Int) > 0:=by omega
 simp only [h1,if_true,Int.ediv_one]
 split <;> omega
theorem slicePart_ {v : Value} {o : Option Int} {Q : Option Int→Shared→Prop} (p : IsPart v o) (h : Q o s) : wpAny (model prog w) A (Builtin.Slice.slicePartIndex v) Q E s:=by
 cases p with
 | none=>exact slicePart_none h
 | int i t=>exact slicePart_int h
theorem sliceApplied_gen {sl : Addr} {vl vu : Value} {lo hi : Option Int} {n : Nat} {Q : Int × Int × Nat→Shared→Prop} (hs : s.heap.IsSliceOf sl vl vu .none) (pl : IsPart vl lo) (pu : IsPart vu hi)
  (h : Q (((sIx n 0 lo : Nat) : Int),1,sIx n n hi - sIx n 0 lo) s) : wpAny (model prog w) A (Builtin.Slice.sliceApplied (.ref sl) (pure (n : Int))) Q E s:=by
 obtain ⟨os,hos,hcs,hds⟩:=id hs
 unfold Builtin.Slice.sliceApplied Builtin.Slice.sliceFields
 refine wpAny_bind (wpAny_bind (wpAny_field hos hds (x:=vl) rfl (wpAny_bind (wpAny_field hos hds (x:=vu) rfl (wpAny_bind (wpAny_field hos hds (x:=.none) rfl (wpAny_pure ?_)))))))
 refine wpAny_bind (slicePart_none ?_)
 show wpAny _ _ (if ((1 : Int) == 0) = true then _ else _) _ _ s
 rw [if_neg (by decide)]
 refine wpAny_bind (slicePart_ pl (wpAny_bind (slicePart_ pu (wpAny_bind (wpAny_pure ?_)))))
 show wpAny _ _ (match Builtin.Slice.sliceAdjust lo hi 1 (n : Int) with | (lo,hi)=>pure (lo,(1 : Int),Builtin.Slice.slicePlaces lo hi 1)) _ _ s
 rw [adjust_gen lo hi n]
 show wpAny _ _ (pure (((sIx n 0 lo : Nat) : Int),(1 : Int),Builtin.Slice.slicePlaces ((sIx n 0 lo : Nat) : Int) ((sIx n n hi : Nat) : Int) 1)) _ _ s
 rw [places_gen]
 exact wpAny_pure h
theorem pick_gen (xs : Array Value) (i k : Nat) : ((List.range k).filterMap fun (m : Nat)=>xs[((i : Int) + (m : Int) * 1).toNat]?).toArray = ((xs.toList.drop i).take k).toArray:=by
 have e : (fun (m : Nat)=>xs[((i : Int) + (m : Int) * 1).toNat]?) = fun m=>xs[i + m]?:=by
  funext m
  have : ((i : Int) + (m : Int) * 1).toNat = i + m:=by omega
  rw [this]
 rw [e]
 have:=pick_run xs i k
 rw [List.filterMap_map] at this
 have e2 : ((fun x=>xs[x]?) ∘ fun x=>i + x) = fun m=>xs[i + m]?:=rfl
 rw [e2] at this
 rw [this]
theorem getItem_tuple_cut {t sl : Addr} {items : Array Value} {vl vu : Value} {lo hi : Option Int} {Q : Value→Shared→Prop} (ht : IsTup s.heap t items) (hs : s.heap.IsSliceOf sl vl vu .none) (pl : IsPart vl lo) (pu : IsPart vu hi)
  (hw : ¬ (sIx items.size 0 lo = 0∧sIx items.size items.size hi = items.size))
  (h : Q (.ref s.heap.objs.size) { s with heap:=s.heap.push { cls:=.type "tuple",data:=.seq ((items.toList.drop (sIx items.size 0 lo)).take (sIx items.size items.size hi - sIx items.size 0 lo)).toArray } })
  (hsz : items.size≤sizeLine) : wpAny (model prog w) A (getItem (.ref t) (.ref sl)) Q E s:=by
 have htake : sizeOk (.seq ((items.toList.drop (sIx items.size 0 lo)).take (sIx items.size items.size hi - sIx items.size 0 lo)).toArray):=by
  show ((items.toList.drop (sIx items.size 0 lo)).take (sIx items.size items.size hi - sIx items.size 0 lo)).toArray.size≤sizeLine
  rw [List.size_toArray,List.length_take,List.length_drop,Array.length_toList]
  omega
 have hj : sIx items.size items.size hi≤items.size:=sIx_le _ _ (Nat.le_refl _) hi
 obtain ⟨os,hos,hcs,hds⟩:=id hs
 have hTs : s.TypeIs (.ref sl) "slice":=⟨os,hos,hcs⟩
 unfold getItem
 try with_reducible refine wpAny_holding ?_
 first | refine wpAny_bind (wpAny_pure ?_) | skip
 refine wpAny_bind (wpAny_sequenceKey ht.typeIs (by decide) ?_)
 refine wpAny_bind (wpAny_callSpecial?_slot (name:=Str.ofString "__getitem__") ht.typeIs PyProof.Rows.slot_tuple_getitem
  (wpAny_call_entry PyProof.Rows.slot_tuple_getitem ht.typeIs entry_tuple_getitem ?_ (args_tuple_getitem _ _)))
 show wpAny _ _ (Builtin.Tuple.tupleItemsOf (.ref t) >>= _) _ _ s
 refine wpAny_bind (tupleItemsOf_ ht ?_)
 refine wpAny_bind (wpAny_typeOf hTs ?_)
 rw [if_pos (by decide)]
 refine wpAny_bind (sliceApplied_gen hs pl pu ?_)
 have hno : ¬ ((((sIx items.size 0 lo : Nat) : Int) == 0 && (1 : Int) == 1 && (sIx items.size items.size hi - sIx items.size 0 lo) == items.size) = true):=by
  intro q
  rw [Bool.and_eq_true,Bool.and_eq_true] at q
  have q1 : ((sIx items.size 0 lo : Nat) : Int) = 0:=eq_of_beq q.1.1
  have q2 : sIx items.size items.size hi - sIx items.size 0 lo = items.size:=eq_of_beq q.2
  exact hw ⟨by omega,by omega⟩
 show wpAny _ _ (if (((sIx items.size 0 lo : Nat) : Int) == 0 && (1 : Int) == 1 && (sIx items.size items.size hi - sIx items.size 0 lo) == items.size) = true then _ else _) _ _ s
 rw [if_neg hno,pick_gen]
 first
  | exact wpAny_bind (m:=Builtin.Tuple.tupleExact _) (wpAny_newObj_type (wpAny_pure ⟨_,rfl,wpAny_pure h⟩) htake)
  | exact wpAny_bind (m:=Builtin.Tuple.tupleExact _) (wpAny_newObj_type (wpAny_bind (wpAny_pure (wpAny_pure ⟨_,rfl,wpAny_pure h⟩))) htake)
  | exact wpAny_bind (wpAny_bind (m:=Builtin.Tuple.tupleExact _) (wpAny_newObj_type (wpAny_pure (wpAny_pure ⟨_,rfl,wpAny_pure h⟩)) htake))
  | exact wpAny_bind (wpAny_bind (m:=Builtin.Tuple.tupleExact _) (wpAny_newObj_type (wpAny_pure ⟨_,rfl,wpAny_pure h⟩) htake))
end
end HT
namespace L2
open PySem PySem.Spec PyProof.Rows
noncomputable abbrev TO:=St→Hp→(Option Int→Hp→Prop)→Prop
noncomputable def PO (X : Cx) (e : Option Expr) (t : TO) : Prop :=
 ∀ (pins : List (Addr × Obj)) (s : Shared) (σ : St) (H : Hp) (Q : Option Int→Hp→Prop),Inv X pins σ H s→t σ H Q →
  wpAny (model X.prog X.w) X.A (evalPart e X.env) (fun u s'=>∃ o H',Inv X pins σ H' s'∧IsPart u o∧Q o H') X.xe s
noncomputable def tNoPart : TO:=fun _ H Q=>Q none H
noncomputable def tPart (t : TE) : TO:=fun σ H Q=>t σ H fun x H1=>∃ i,x = .int i∧Q (some i) H1
section
variable {X : Cx} {e : Expr} {te : TE} {lo hi : Option Expr} {tl th : TO} {pos p2 : Pos}
theorem po_none : PO X none tNoPart:=by
 intro pins s σ H Q I h
 rw [evalPart_none]
 exact wpAny_pure ⟨none,H,I,.none,h⟩
theorem po_some (h : PE X e te) : PO X (some e) (tPart te):=by
 intro pins s σ H Q I hw
 rw [evalPart_some]
 refine thn (h pins s σ H _ I hw) fun u s1 ⟨x,H1,I1,r1,q1⟩=>?_
 obtain ⟨i,rfl,q⟩:=q1
 obtain ⟨t,rfl⟩:=r1
 exact ⟨some i,H1,I1,.int i t,q⟩
noncomputable def SlR (X : Cx) (r : V→Option Int→Option Int→Hp→VK→Prop) : Prop :=
 ∀ (pins : List (Addr × Obj)) (s : Shared) (σ : St) (H : Hp) (x : V) (v vl vu : Value) (lo hi : Option Int) (sl : Addr) (Q : VK),Inv X pins σ H s→RelV x v→s.heap.IsSliceOf sl vl vu .none→IsPart vl lo→IsPart vu hi→r x lo hi H Q →
  ∃ T id,typeLookup (.type T) "__getitem__" = pure (some (.builtin id))∧s.TypeIs v T∧wpAny (model X.prog X.w) X.A (getItem v (.ref sl)) (EP X pins σ Q) X.xe s
noncomputable def tSl (r : V→Option Int→Option Int→Hp→VK→Prop) (te : TE) (tl th : TO) : TE:=fun σ H Q=>te σ H fun x H1=>tl σ H1 fun l H2=>th σ H2 fun u H3=>r x l u H3 Q
theorem pe_slice {r : V→Option Int→Option Int→Hp→VK→Prop} (hr : SlR X r) (he : PE X e te) (hl : PO X lo tl) (hu : PO X hi th) : PE X (.Subscript e (.Slice lo hi none p2) pos) (tSl r te tl th):=by
 intro pins s σ H Q I h
 refine Subscript_ (thn (he pins s σ H _ I h) fun v s1 ⟨x,H1,I1,r1,q1⟩=>?_)
 refine wpAny_Slice (thn (hl pins s1 σ H1 _ I1 q1) fun vl s2 ⟨l,H2,I2,pl,q2⟩=>thn (hu pins s2 σ H2 _ I2 q2) fun vu s3 ⟨u,H3,I3,pu,q3⟩=>?_)
 rw [evalPart_none]
 refine wpAny_pure ?_
 have I4 : Inv X pins σ H3 { s3 with heap:=s3.heap.push { cls:=.type "slice",data:=.fields #[vl,vu,.none] } }:=I3.kept (t':=s3.toks) fun b ob q=>Heap.get?_push_of_some _ q
 obtain ⟨T,id,hT,ht,hg⟩:=hr pins { s3 with heap:=s3.heap.push { cls:=.type "slice",data:=.fields #[vl,vu,.none] } } σ H3 x v vl vu l u s3.heap.objs.size Q I4 r1 (Heap.IsSliceOf.new ..) pl pu q3
 show wpAny (model X.prog X.w) X.A (subscriptTail e (.Slice lo hi none p2) v (.ref s3.heap.objs.size)) (EP X pins σ Q) X.xe { s3 with heap:=s3.heap.push { cls:=.type "slice",data:=.fields #[vl,vu,.none] } }
 exact tail_any (ops:=[.ref s3.heap.objs.size,v]) ht hT hg (by with_unfolding_all rfl)
noncomputable def cutV (xs : List V) (lo hi : Option Int) : List V:=(xs.drop (HT.sIx xs.length 0 lo)).take (HT.sIx xs.length xs.length hi - HT.sIx xs.length 0 lo)
theorem cutV_length (xs : List V) (lo hi : Option Int) : (cutV xs lo hi).length≤xs.length:=by
 unfold cutV
 rw [List.length_take,List.length_drop]
 omega
noncomputable def rSlT (K : PySem.W.Frag) : V→Option Int→Option Int→Hp→VK→Prop:=fun x lo hi H Q=>∃ a xs,x = .ref a∧SqT K H a xs ∧
 ¬ (HT.sIx xs.length 0 lo = 0∧HT.sIx xs.length xs.length hi = xs.length)∧∀ p,H p = none→Q (.ref p) (upd H p (.tup (cutV xs lo hi)))
theorem sl_tup : SlR X (rSlT X.K):=by
 intro pins s σ H x v vl vu lo hi sl Q I rx hs pl pu h
 obtain ⟨a,xs,rfl,hx,hw,q⟩:=h
 cases rx
 obtain ⟨its,r,ht,hz⟩:=I.tuple hx
 have hlen : its.toArray.size = xs.length:=by rw [List.size_toArray]; exact r.length.symm
 refine ⟨"tuple",_,PyProof.Rows.slot_tuple_getitem.lookup,ht.typeIs,?_⟩
 refine HT.getItem_tuple_cut ht hs pl pu (by rw [hlen]; exact hw) ?_ (by rw [hlen]; exact hz)
 rw [hlen]
 refine ⟨.ref s.heap.objs.size,_,I.laid (t':=s.toks) (o:=.tup (cutV xs lo hi)) (fun b ob q=>Heap.get?_push_of_some _ q) (Nat.le_refl _) ?_,rfl,q _ (I.hok.fresh (Nat.le_refl _))⟩
 exact ⟨Nat.le_trans (cutV_length xs lo hi) hz,_,(r.drop (HT.sIx xs.length 0 lo)).take (HT.sIx xs.length xs.length hi - HT.sIx xs.length 0 lo),IsTup.new _ _⟩
noncomputable def rCatT (K : PySem.W.Frag) : R2:=fun x y H Q=>∃ a b xs ys,x = .ref a∧y = .ref b∧SqT K H a xs∧SqT K H b ys∧xs ≠ []∧xs.length + ys.length≤sizeLine ∧
 (ys = []→Q (.ref a) H)∧(ys ≠ []→∀ p,H p = none→Q (.ref p) (upd H p (.tup (xs ++ ys))))
theorem Vals.nil_iff {xs : List V} {us : List Value} (r : Vals xs us) : us = [] ↔ xs = []:=by
 cases r with
 | nil=>simp
 | cons _ _=>simp
theorem op_catT : OpR X (binaryOp .Add) (rCatT X.K):=by
 intro pins s σ H x y v u Q I rx ry h
 obtain ⟨a,b,xs,ys,rfl,rfl,ha,hb,hx,hz,q1,q2⟩:=h
 cases rx
 cases ry
 obtain ⟨its,r1,p1,_⟩:=I.tuple ha
 obtain ⟨its2,r2,p2,_⟩:=I.tuple hb
 refine HT.cat_tup p1 p2 (fun z=>hx (r1.nil_iff.mp z)) (fun z=>⟨.ref a,H,I,rfl,q1 (r2.nil_iff.mp z)⟩) (fun z=>?_) (by rw [← r1.length,← r2.length]; exact hz)
 refine ⟨.ref s.heap.objs.size,_,I.laid (t':=s.toks) (o:=.tup (xs ++ ys)) (fun b ob q=>Heap.get?_push_of_some _ q) (Nat.le_refl _) ?_,rfl,q2 (fun w=>z (r2.nil_iff.mpr w)) _ (I.hok.fresh (Nat.le_refl _))⟩
 exact ⟨by rw [List.length_append]; exact hz,_,r1.append r2,IsTup.new _ _⟩
end
end L2
namespace L2
open PySem PySem.Spec PyProof.Rows
noncomputable def ixN (n : Nat) (i : Int) : Option Nat:=if 0≤i then (if i < n then some i.toNat else none) else if -(n : Int)≤i then some (i + n).toNat else none
noncomputable def atI {α : Type} (xs : List α) (i : Int) : Option α:=(ixN xs.length i).bind fun j=>xs[j]?
theorem ixN_seq {n : Nat} {i : Int} {j : Nat} (h : ixN n i = some j) : seqIndex? i n = some j∧j < n∧-(n : Int)≤i∧i < n:=by
 unfold ixN at h
 by_cases h0 : 0≤i
 ·rw [if_pos h0] at h
  by_cases h1 : i < n
  ·rw [if_pos h1] at h
   have e : i.toNat = j:=Option.some.inj h
   exact ⟨by rw [seqIndex_of h0 h1,e],by omega,by omega,h1⟩
  ·rw [if_neg h1] at h; cases h
 ·rw [if_neg h0] at h
  by_cases h1 : -(n : Int)≤i
  ·rw [if_pos h1] at h
   have e : (i + n).toNat = j:=Option.some.inj h
   exact ⟨by rw [seqIndex_neg (by omega) h1,e],by omega,h1,by omega⟩
  ·rw [if_neg h1] at h; cases h
theorem atI_get {α : Type} {xs : List α} {i : Int} {v : α} (h : atI xs i = some v) : ∃ j,seqIndex? i xs.length = some j∧xs[j]? = some v∧j < xs.length∧-(xs.length : Int)≤i∧i < xs.length:=by
 unfold atI at h
 cases e : ixN xs.length i with
 | none=>rw [e] at h; cases h
 | some j =>
  rw [e] at h
  obtain ⟨h1,h2,h3,h4⟩:=ixN_seq e
  exact ⟨j,h1,h,h2,h3,h4⟩
theorem atI_nat {α : Type} {xs : List α} {j : Nat} {v : α} (h : xs[j]? = some v) : atI xs (j : Int) = some v:=by
 have hj : j < xs.length:=(List.getElem?_eq_some_iff.mp h).1
 have e : ixN xs.length (j : Int) = some j:=by
  unfold ixN
  rw [if_pos (by omega),if_pos (by omega)]; simp
 unfold atI; rw [e]; exact h
noncomputable def PlainIx (b : Expr) : Prop:=∀ o i,subscripted b false o i = operate [o,i] (getItem o i)
noncomputable def IxR (X : Cx) (r : R2) : Prop :=
 ∀ (value slice : Expr) (pins : List (Addr × Obj)) (s : Shared) (σ : St) (H : Hp) (x y : V) (v u : Value) (Q : VK),Inv X pins σ H s→RelV x v→RelV y u→r x y H Q →
  subscripted slice false v u = operate [v,u] (getItem v u)→wpAny (model X.prog X.w) X.A (subscriptTail value slice v u) (EP X pins σ Q) X.xe s
noncomputable def MtR (X : Cx) (id : String) (r : V→List V→Hp→VK→Prop) : Prop :=
 ∀ (pins : List (Addr × Obj)) (s : Shared) (σ : St) (H : Hp) (x : V) (xs : List V) (v : Value) (us : List Value) (Q : VK),Inv X pins σ H s→RelV x v→Vals xs us→r x xs H Q →
  wpAny (model X.prog X.w) X.A (call (.builtin id) (v :: us)) (EP X pins σ Q) X.xe s
section
variable {X : Cx} {a b : Expr} {ta tb : TE} {pos : Pos}
theorem IxR.or {r r' : R2} (h : IxR X r) (h' : IxR X r') : IxR X (fun x y H Q=>r x y H Q∨r' x y H Q):=by
 intro value slice pins s σ H x y v u Q I rx ry q hs
 rcases q with q | q
 ·exact h value slice pins s σ H x y v u Q I rx ry q hs
 ·exact h' value slice pins s σ H x y v u Q I rx ry q hs
theorem pe_ix {r : R2} (hr : IxR X r) (ha : PE X a ta) (hb : PE X b tb) (hs : PlainIx b) : PE X (.Subscript a b pos) (tOp r ta tb):=by
 intro pins s σ H Q I h
 exact Subscript_ (binT ha hb I h fun v u s2 x y H2 I2 rx ry q=>hr a b pins s2 σ H2 x y v u Q I2 rx ry q (hs _ _))
noncomputable def rIxL (K : PySem.W.Frag) : R2:=fun x y H Q=>∃ p xs i v,x = .ref p∧y = .int i∧SqL K H p xs∧atI xs i = some v∧Q v H
noncomputable def rIxT (K : PySem.W.Frag) : R2:=fun x y H Q=>∃ p xs i v,x = .ref p∧y = .int i∧SqT K H p xs∧atI xs i = some v∧Q v H
theorem ix_list : IxR X (rIxL X.K):=by
 intro value slice pins s σ H x y v u Q I rx ry h hs
 obtain ⟨p,xs,i,z,rfl,rfl,hq,he,q⟩:=h
 cases rx
 obtain ⟨t,rfl⟩:=ry
 obtain ⟨its,r,pl,hz⟩:=I.list hq
 obtain ⟨j,h1,h2,h3,h4,h5⟩:=atI_get he
 obtain ⟨w,ew,rw'⟩:=r.get h2
 have hl:=r.length
 have hn:=line63
 have fin : EP X pins σ Q w s:=⟨z,H,I,rw',q⟩
 by_cases h0 : 0≤i
 ·have hj : i.toNat = j:=by
   rw [seqIndex_of h0 h5] at h1
   exact Option.some.inj h1
  exact item_listR pl.isList h0 (by omega) (by rw [hj]; simpa using ew) fin hs
 ·have hj : (i + (its.toArray.size : Int)).toNat = j:=by
   rw [seqIndex_neg (by omega) h4] at h1
   rw [List.size_toArray,← hl]
   exact Option.some.inj h1
  exact subscriptTail_builtinR (x:=w) pl.isList.typeIs slot_list_getitem.lookup
   (wpAny_getItem_list_neg (Q:=fun r s'=>r = w∧EP X pins σ Q r s') pl.isList (by omega) (by rw [List.size_toArray] <;> omega) (by omega) (by rw [hj]; simpa using ew) ⟨rfl,fin⟩) hs
theorem ix_tup : IxR X (rIxT X.K):=by
 intro value slice pins s σ H x y v u Q I rx ry h hs
 obtain ⟨p,xs,i,z,rfl,rfl,hq,he,q⟩:=h
 cases rx
 obtain ⟨t,rfl⟩:=ry
 obtain ⟨its,r,pl,hz⟩:=I.tuple hq
 obtain ⟨j,h1,h2,h3,h4,h5⟩:=atI_get he
 obtain ⟨w,ew,rw'⟩:=r.get h2
 have hl:=r.length
 have hn:=line63
 have fin : EP X pins σ Q w s:=⟨z,H,I,rw',q⟩
 exact subscriptTail_builtinR (x:=w) pl.typeIs slot_tuple_getitem.lookup
  (getItem_tuple (j:=j) (Q:=fun r s'=>r = w∧EP X pins σ Q r s') pl (by omega) (by omega) (by rw [List.size_toArray,← hl]; exact h1) (by simpa using ew) ⟨rfl,fin⟩) hs
theorem mapSeq_set (its : List Value) (n j : Nat) (u : Value) : Obj.mapSeq (·.setIfInBounds j u) { cls:=.type "list",data:=.seq its.toArray n } = { cls:=.type "list",data:=.seq (its.set j u).toArray n }:=by
 simp [Obj.mapSeq]
theorem Inv.lst {pins : List (Addr × Obj)} {σ : St} {H : Hp} {s : Shared} {p : Addr} {xs : List V} (I : Inv X pins σ H s) (h : H p = some (.lst xs)) :
  ∃ (its : List Value) (n : Nat),Vals xs its∧s.heap.get? p = some { cls:=.type "list",data:=.seq its.toArray n }∧xs.length≤sizeLine:=by
 obtain ⟨z,its,n,r,e⟩:=I.hok p _ h
 exact ⟨its,n,r,e,z⟩
theorem Inv.lstUpd {pins : List (Addr × Obj)} {σ : St} {H : Hp} {s : Shared} {p : Addr} {xs ys : List V} {its its' : List Value} {n n' : Nat} {f : Obj→Obj} (I : Inv X pins σ H s) (h : H p = some (.lst xs))
  (ho : s.heap.get? p = some { cls:=.type "list",data:=.seq its.toArray n }) (hf : f { cls:=.type "list",data:=.seq its.toArray n } = { cls:=.type "list",data:=.seq its'.toArray n' }) (r : Vals ys its') (hz : ys.length≤sizeLine) (t : Nat) :
  Inv X pins σ (upd H p (.lst ys)) { s with heap:=s.heap.update p f,toks:=t }:=by
 have e : (s.heap.update p f).get? p = some { cls:=.type "list",data:=.seq its'.toArray n' }:=by
  rw [Heap.get?_update_self f ho (by rw [hf] <;> rfl),hf]
 refine I.write (x:=p) (e:=p) (by rw [h]; trivial) (.inl rfl) (fun b u hb q=>(Heap.get?_update_other _ _ (Ne.symm hb)).trans q) ⟨_,e⟩ ?_
 exact ⟨hz,its',n',r,e⟩
noncomputable def rSetL : V→V→V→Hp→(Hp→Prop)→Prop:=fun o i v H Q=>∃ p xs k j,o = .ref p∧i = .int k∧H p = some (.lst xs)∧ixN xs.length k = some j∧Q (upd H p (.lst (xs.set j v)))
theorem set_list : PSet X rSetL:=by
 intro pins s σ H o i v ov iv u Q I ro ri rv h
 obtain ⟨p,xs,k,j,rfl,rfl,hp,hj,q⟩:=h
 cases ro
 obtain ⟨t,rfl⟩:=ri
 obtain ⟨its,n,r,ho,hz⟩:=I.lst hp
 obtain ⟨h1,h2,h3,h4⟩:=ixN_seq hj
 have hl:=r.length
 have hn:=line63
 have I' : Inv X pins σ (upd H p (.lst (xs.set j v))) { s with heap:=s.heap.update p (Obj.mapSeq (·.setIfInBounds j u)) } :=
  I.lstUpd hp ho (mapSeq_set its n j u) (r.set rv j) (by rw [List.length_set]; exact hz) s.toks
 by_cases h0 : 0≤k
 ·have hk : k.toNat = j:=by
   rw [seqIndex_of h0 h4] at h1
   exact Option.some.inj h1
  exact PySem.W.ki_setAt ho h0 (by omega) (by rw [List.size_toArray,← hl]; exact h4) (by rw [hk]; exact ⟨_,I',q⟩)
 ·have hk : (k + (its.toArray.size : Int)).toNat = j:=by
   rw [seqIndex_neg (by omega) h3] at h1
   rw [List.size_toArray,← hl]
   exact Option.some.inj h1
  exact PySem.W.ki_setBack ho (by omega) (by rw [List.size_toArray,← hl]; exact h3) (by omega) (by rw [hk]; exact ⟨_,I',q⟩)
theorem slice_bounds (lo hi : Option Int) (n : Nat) : (sliceBounds lo hi none n).1 = ((HT.sIx n 0 lo : Nat) : Int)∧(sliceBounds lo hi none n).2.1 = ((HT.sIx n n hi : Nat) : Int)∧(sliceBounds lo hi none n).2.2 = 1:=by
 refine ⟨?_,?_,rfl⟩
 ·cases lo with
  | none=>simp [sliceBounds,HT.sIx]
  | some i =>
   simp only [sliceBounds,HT.sIx,Option.getD_none,show (1 : Int) > 0 by decide,if_true]
   by_cases h : i < 0
   ·simp only [h,if_true] <;> omega
   ·simp only [h,if_false] <;> omega
 ·cases hi with
  | none=>simp [sliceBounds,HT.sIx]
  | some i =>
   simp only [sliceBounds,HT.sIx,Option.getD_none,show (1 : Int) > 0 by decide,if_true]
   by_cases h : i < 0
   ·simp only [h,if_true] <;> omega
   ·simp only [h,if_false] <;> omega
theorem slicePick_cut (its : List Value) (lo hi : Option Int) : slicePick its.toArray lo hi none = ((its.drop (HT.sIx its.length 0 lo)).take (HT.sIx its.length its.length hi - HT.sIx its.length 0 lo)).toArray:=by
 obtain ⟨h1,h2,h3⟩:=slice_bounds lo hi its.toArray.size
 unfold slicePick
 rw [h1,h2,h3]
 simp only [sliceRange_one,pick_run,List.size_toArray] <;> rfl
noncomputable def rSlL (K : PySem.W.Frag) : V→Option Int→Option Int→Hp→VK→Prop:=fun x lo hi H Q=>∃ a xs,x = .ref a∧SqL K H a xs∧∀ p,H p = none→Q (.ref p) (upd H p (.lst (cutV xs lo hi)))
theorem sl_list : SlR X (rSlL X.K):=by
 intro pins s σ H x v vl vu lo hi sl Q I rx hs pl pu h
 obtain ⟨a,xs,rfl,hx,q⟩:=h
 cases rx
 obtain ⟨its,r,ht,hz⟩:=I.list hx
 have hlen:=r.length
 refine ⟨"list",_,slot_list_getitem.lookup,ht.isList.typeIs,?_⟩
 refine wpAny_getItem_list_slice ht.isList hs pl pu .none (by simp) ?_ (by rw [List.size_toArray] <;> omega)
 rw [slicePick_cut,← hlen]
 refine ⟨.ref s.heap.objs.size,_,I.laid (t':=s.toks) (o:=.lst (cutV xs lo hi)) (fun b ob q=>Heap.get?_push_of_some _ q) (Nat.le_refl _) ?_,rfl,q _ (I.hok.fresh (Nat.le_refl _))⟩
 exact ⟨Nat.le_trans (cutV_length xs lo hi) hz,_,0,(r.drop (HT.sIx xs.length 0 lo)).take (HT.sIx xs.length xs.length hi - HT.sIx xs.length 0 lo),Heap.get?_push_size _ rfl⟩
theorem call_len_seq : CallR X (.builtin "len") (fun xs H Q=>∃ p ys,xs = [.ref p]∧(SqL X.K H p ys∨SqT X.K H p ys)∧Q (.int ys.length) H):=by
 intro pins s σ H xs us Q I r h
 obtain ⟨p,ys,rfl,hq,q⟩:=h
 obtain ⟨u,rfl,rx⟩:=vals1 r
 cases rx
 have hn:=line63
 rcases hq with hq | hq
 ·obtain ⟨its,r',pl,hz⟩:=I.list hq
  have hlen:=r'.length
  exact Calls.call_len_list pl.isList (by simp only [List.size_toArray] <;> omega) ⟨.int ys.length,H,I.tok _,⟨s.toks + 1,by rw [List.size_toArray,hlen]⟩,q⟩
 ·obtain ⟨its,r',pl,hz⟩:=I.tuple hq
  have hlen:=r'.length
  exact len_tuple pl (by simp only [List.size_toArray] <;> omega) ⟨.int ys.length,H,I.tok _,⟨s.toks + 1,by rw [List.size_toArray,hlen]⟩,q⟩
theorem call_list_of : CallR X (.type "list") (fun xs H Q=>∃ p ys,xs = [.ref p]∧(SqL X.K H p ys∨SqT X.K H p ys)∧∀ l,H l = none→Q (.ref l) (upd H l (.lst ys))):=by
 intro pins s σ H xs us Q I r h
 obtain ⟨p,ys,rfl,hq,q⟩:=h
 obtain ⟨u,rfl,rx⟩:=vals1 r
 cases rx
 have fin : ∀ (its : List Value),Vals ys its→ys.length≤sizeLine→∀ (h' : Heap) (c' : Nat),(∀ b o',s.heap.get? b = some o'→h'.get? b = some o') →
   h'.get? s.heap.objs.size = some { cls:=.type "list",dict:=none,data:=.seq its.toArray c',slots:=#[] }→EP X pins σ Q (.ref s.heap.objs.size) { s with heap:=h' }:=fun its r' hz h' c' kp e =>
  ⟨.ref s.heap.objs.size,_,I.laid (t':=s.toks) kp (Nat.le_refl _) (show ObjOk X.prog X.w _ h' _ (.lst ys) from ⟨hz,its,c',r',e⟩),rfl,q _ (I.hok.fresh (Nat.le_refl _))⟩
 rcases hq with hq | hq
 ·obtain ⟨its,r',pl,hz⟩:=I.list hq
  have hlen:=r'.length
  obtain ⟨o,ho,hc,n,hd⟩:=pl.isList
  exact call_list_seq p (.inl rfl) ho hc hd (fun h' c' kp e=>fin its r' hz h' c' kp e) (by simp only [List.size_toArray] <;> omega)
 ·obtain ⟨its,r',pl,hz⟩:=I.tuple hq
  have hlen:=r'.length
  obtain ⟨o,ho,hc,n,hd⟩:=pl
  exact call_list_seq p (.inr rfl) ho hc hd (fun h' c' kp e=>fin its r' hz h' c' kp e) (by simp only [List.size_toArray] <;> omega)
noncomputable def tyV (K : PySem.W.Frag) (T : String) (x : V) (H : Hp) : Prop:=match x with
 | .str _=>T = "str"
 | .int _=>T = "int"
 | .ref p=>(T = "list"∧∃ xs,SqL K H p xs)∨(T = "tuple"∧∃ o,K.lookup p = some o∧o.cls = .type "tuple"∧o.dict = none) ∨
   (T = "dict"∧((∃ kvs,H p = some (.dK kvs))∨∃ kvs,H p = some (.dT kvs)))∨(T = "set"∧∃ S n,H p = some (.set S n))
 | _=>False
theorem tyV_is {pins : List (Addr × Obj)} {σ : St} {H : Hp} {s : Shared} {T : String} {x : V} {v : Value} (I : Inv X pins σ H s) (r : RelV x v) (ty : tyV X.K T x H) :
  s.TypeIs v T∧∀ a,v = .ref a→∃ ob,s.heap.get? a = some ob∧ob.dict = none:=by
 cases x with
 | str z =>
  obtain ⟨t,rfl⟩:=r
  cases (show T = "str" from ty)
  exact ⟨typeIs_str s z t,fun _ e=>nomatch e⟩
 | int i =>
  obtain ⟨t,rfl⟩:=r
  cases (show T = "int" from ty)
  exact ⟨typeIs_int s i t,fun _ e=>nomatch e⟩
 | ref p =>
  cases r
  rcases ty with ⟨rfl,xs,hq⟩ | ⟨rfl,o,hk,hc,hd⟩ | ⟨rfl,hk⟩ | ⟨rfl,S,n,hk⟩
  ·obtain ⟨its,_,pl,_⟩:=I.list hq
   refine ⟨pl.isList.typeIs,fun a e=>?_⟩
   cases e
   obtain ⟨o,n,e,c,hd,_⟩:=pl
   exact ⟨o,e,hd⟩
  ·refine ⟨⟨o,I.kIn p o hk,hc⟩,fun a e=>?_⟩
   cases e
   exact ⟨o,I.kIn _ o hk,hd⟩
  ·have z : ∃ o,s.heap.get? p = some o∧o.ExactDict:=by
    rcases hk with ⟨kvs,hk⟩ | ⟨kvs,hk⟩
    ·obtain ⟨_,_,_,_,o,_,_,e,ex,_⟩:=I.hok p _ hk
     exact ⟨o,e,ex⟩
    ·obtain ⟨_,_,_,_,o,_,_,e,ex,_⟩:=I.hok p _ hk
     exact ⟨o,e,ex⟩
   obtain ⟨o,e,ex⟩:=z
   refine ⟨⟨o,e,ex.1⟩,fun a e2=>?_⟩
   cases e2
   exact ⟨o,e,ex.2.1⟩
  ·obtain ⟨o,_,_,_,e,ex,_⟩:=I.hok p _ hk
   refine ⟨⟨o,e,ex.1⟩,fun a e2=>?_⟩
   cases e2
   exact ⟨o,e,ex.2.1⟩
 | _=>exact False.elim ty
noncomputable def tBM (K : PySem.W.Frag) (T : String) (r : V→List V→Hp→VK→Prop) (to : TE) (t : TA) : TE:=fun σ H Q=>to σ H fun x H1=>tyV K T x H1∧t σ H1 fun xs H2=>r x xs H2 Q
variable {o e : Expr} {es : List Expr} {to : TE} {t : TA} {name : Str} {apos cpos : Pos} {T id : String} {r : V→List V→Hp→VK→Prop}
theorem pe_bm (pa : PlainAttrs T) (slot : Slot T name id) (hty : typeOf (.builtin id) = pure (.type "method_descriptor")) (hm : MtR X id r) (ho : PE X o to) (ha : PA X (e :: es) t)
  (hbase : attributeBase o name X.env (eval o X.env) = eval o X.env:=by rfl)
  (hfew : ((backTo cpos (starEach (e :: es) X.env)).all (fun x=>!x.1) && (backToKw cpos (keywordEach [] X.env)).all (fun x=>x.1.isSome)
   && decide ((e :: es).length + ([] : List Keyword).length + (if ([] : List Keyword).isEmpty then 0 else 1) < 30)) = true:=by rfl)
  (hline : (apos.endLine == cpos.line) = true:=by rfl) (hs : starEach (e :: es) X.env = (false,eval e X.env) :: starEach es X.env:=by rfl) (hplain : (backTo cpos (starEach es X.env)).any (·.1) = false:=by rfl) :
  PE X (.Call (.Attribute o name apos) (e :: es) [] cpos) (tBM X.K T r to t):=by
 intro pins s σ H Q I h
 refine wpAny_Call_method_late hbase hfew hline rfl (thn (ho pins s σ H _ I h) fun v s1 ⟨x,H1,I1,r1,ty,q1⟩=>?_)
 obtain ⟨h1,h2⟩:=tyV_is I1 r1 ty
 refine ⟨T,id,pa,slot,hty,h1,h2,?_⟩
 have hA:=ha cpos pins s1 σ H1 _ I1 q1
 rw [hs] at hA ⊢
 refine Calls.callWith_builtin (by show (false || (backTo cpos (starEach es X.env)).any (·.1)) = false; rw [hplain] <;> rfl) (Calls.evalArgs_plain ?_)
 exact thn hA fun us s2 ⟨vs,H2,I2,r2,q2⟩=>hm pins s2 σ H2 x vs v us Q I2 r1 r2 q2
end
end L2
namespace L2
open PySem PySem.Spec PyProof.Rows
noncomputable def MtM (X : Cx) (id : String) (r : V→List V→Hp→VK→Prop) : Prop :=
 ∀ (pins : List (Addr × Obj)) (s : Shared) (σ : St) (H : Hp) (x : V) (xs : List V) (v : Value) (us : List Value) (Q : VK),Inv X pins σ H s→RelV x v→Vals xs us→r x xs H Q →
  wpAny (model X.prog X.w) X.A (call (.builtin id) (v :: us)) (EP X pins σ Q) X.xe s
theorem Vals.one : ∀ {x : V} {us : List Value},Vals [x] us→∃ u,us = [u]∧RelV x u
 | _,_,.cons r .nil=>⟨_,rfl,r⟩
theorem Vals.dropLast {xs : List V} {us : List Value} (h : Vals xs us) : Vals xs.dropLast us.dropLast:=by
 induction h with
 | nil=>exact .nil
 | cons r t ih =>
  cases t with
  | nil=>exact .nil
  | cons q t'=>exact .cons r ih
theorem Vals.eraseIdx : ∀ {xs : List V} {us : List Value} (i : Nat),Vals xs us→Vals (xs.eraseIdx i) (us.eraseIdx i)
 | _,_,_,.nil=>.nil
 | _,_,0,.cons _ t=>t
 | _,_,i + 1,.cons r t=>.cons r (Vals.eraseIdx i t)
theorem Vals.reverse {xs : List V} {us : List Value} (h : Vals xs us) : Vals xs.reverse us.reverse:=by
 induction h with
 | nil=>exact .nil
 | cons r t ih=>rw [List.reverse_cons,List.reverse_cons]; exact Vals.append ih (.cons r .nil)
section
variable {X : Cx} {pins : List (Addr × Obj)} {σ : St} {H : Hp} {s : Shared} {l b : Addr} {xs ys zs : List V}
theorem Inv.lset {its its' : List Value} {n : Nat} {f : Array Value→Array Value} {t' : Nat} (I : Inv X pins σ H s) (hH : H l = some (.lst xs))
  (e : s.heap.get? l = some { cls:=.type "list",data:=.seq its.toArray n }) (hf : f its.toArray = its'.toArray) (hv : Vals ys its') (hz : ys.length≤sizeLine) :
  Inv X pins σ (upd H l (.lst ys)) { s with heap:=s.heap.update l (Obj.mapSeq f),toks:=t' }:=by
 have q:=PySem.IsL.update e f
 rw [hf] at q
 refine I.write (x:=l) (e:=l) (by rw [hH]; exact trivial) (.inl rfl) (fun b' u hb hu=>(Heap.get?_update_other s.heap (Obj.mapSeq f) (Ne.symm hb)).trans hu) ⟨_,q⟩ ?_
 exact ⟨hz,its',_,hv,q⟩
theorem Inv.lnew {its : List Value} {t' : Nat} (I : Inv X pins σ H s) (hv : Vals ys its) (hz : ys.length≤sizeLine) :
  Inv X pins σ (upd H s.heap.objs.size (.lst ys)) { s with heap:=s.heap.push { cls:=.type "list",data:=.seq its.toArray },toks:=t' } :=
 I.laid (fun _ _ q=>Heap.get?_push_of_some _ q) (Nat.le_refl _) ⟨hz,its,0,hv,Heap.get?_push_size _ rfl⟩
theorem Inv.fresh (I : Inv X pins σ H s) : H s.heap.objs.size = none:=I.hok.fresh (Nat.le_refl _)
theorem Inv.lstM (I : Inv X pins σ H s) (hH : H l = some (.lst xs)) : xs.length≤sizeLine∧∃ (its : List Value) (n : Nat),Vals xs its∧xs.length = its.length∧s.heap.get? l = some { cls:=.type "list",data:=.seq its.toArray n }:=by
 obtain ⟨z,its,n,r,e⟩:=I.hok l _ hH
 exact ⟨z,its,n,r,r.length,e⟩
end
section
variable {X : Cx}
noncomputable def rAppend : V→List V→Hp→VK→Prop:=fun x vs H Q=>∃ l xs y,x = .ref l∧vs = [y]∧H l = some (.lst xs)∧xs.length < sizeLine∧Q .non (upd H l (.lst (xs ++ [y])))
theorem mt_append : MtM X "list.append" rAppend:=by
 intro pins s σ H x vs v us Q I rx rv h
 obtain ⟨l,xs,y,rfl,rfl,hH,hz,q⟩:=h
 cases rx
 obtain ⟨u,rfl,ru⟩:=rv.one
 obtain ⟨z,its,n,r,hl,e⟩:=I.lstM hH
 refine call_meets F.slot_list_append ⟨_,e,rfl⟩ F.entry_list_append (F.args_list_append_2 _ _) (PySem.list_append l its.toArray n u (by rw [List.size_toArray]; omega)) ⟨e,?_⟩
 refine ⟨.non,_,I.lset (its':=its ++ [u]) hH e (by simp) (r.append (.cons ru .nil)) ?_,rfl,q⟩
 rw [List.length_append,List.length_singleton]
 omega
end
section
variable {prog : Program} {w : World} {A : Around} {E : Value→Shared→Prop} {s : Shared}
end
section
variable {X : Cx}
end
end L2
namespace Att
open PySem PySem.W PySem.Calls PyProof.Rows
theorem ints_of_wellAll {P : Params} {h : Heap} : ∀ (ns : List Int) (vs : List Value),WellAll P h vs (ns.map WData.int)→IntsAre vs ns:=by
 intro ns
 induction ns with
 | nil =>
  intro vs w
  rw [List.map_nil] at w
  cases w
  exact .nil
 | cons n ns ih =>
  intro vs w
  rw [List.map_cons] at w
  cases w with
  | cons a b =>
   cases a
   exact .cons _ _ (ih _ b)
theorem script_of {l : OpenLaw} {n : Nat} (hn : l.most = some n) {P : Params} {h : Heap} {args : List WData} {vals : List Value}
  (hpre : l.row.toRowW.claim.pre args = true) (hwl : WellAll P h vals args) :
  ∃ a vs ns,vals = [Value.ref a]∧args = [WData.list (ns.map WData.int)]∧h.get? a = some { cls:=.type "list",data:=.seq vs.toArray }∧IntsAre vs ns∧ns.length≤n:=by
 have hsh : WShape.hasAll [] args [.list .int] = true:=(pre_splitW hpre).1
 have hc : l.pre.holds [] { args:=args } = true:=(pre_splitW hpre).2
 obtain ⟨d,r,rfl,h1,h2⟩:=hasAllW_cons hsh
 obtain rfl:=hasAllW_nil h2
 obtain ⟨xs,rfl,h3⟩:=hasW_list h1
 obtain ⟨ns,rfl⟩:=items_int h3
 have hlen : ns.length≤n:=by
  unfold OpenLaw.pre at hc
  have h4 : (WTm.not (.lt (.lit (.int (n : Int))) (.len (.arg 0)))).holds [] { args:=[.list (ns.map .int)] } = true:=by
   have h4:=(holds_andW hc).1
   rw [hn] at h4
   exact h4
  have h5:=condW_of h4 (w_not (w_lt w_lit (w_len_list (w_arg rfl))))
  rw [List.length_map] at h5
  refine Nat.le_of_not_lt fun q=>?_
  have q' : (n : Int) < ((ns.length : Nat) : Int):=by omega
  first
   | (rw [decide_eq_true q'] at h5; exact absurd h5 (by decide))
   | (simp at h5; omega)
 cases hwl with
 | cons w1 w2 =>
  cases w2
  cases w1 with
  | list ho hall=>exact ⟨_,_,ns,rfl,rfl,ho,ints_of_wellAll ns _ hall,hlen⟩
theorem post_true (l : OpenLaw) (args : List WData) : l.row.toRowW.claim.post args (.bool true) args = true :=
 postW_of (r:=l.row.toRowW) (X:=(true == true))
  (show WShape.has [] (.bool true) .bool = true by first | rfl | decide | simp [WShape.has,WShape.arms,WShape.armsAll])
  (show (WTm.eq .res (.lit (.bool true))).value [] { args:=args,res:=some (.bool true),after:=args } = some (.bool (true == true)) from w_eq_bool (w_res rfl) w_lit) rfl
theorem attach_call {l : OpenLaw} {n : Nat} {q : Program} {loose : List Str} {XP : (Str→Option Value)→Heap→Prop} {YP : World→Heap→Prop} {d : DefRec}
  (hn : l.most = some n) (hdf : d.params.defaults = [])
  (call : ∀ (w : World) (s₀ s₁ : Shared) (mg mb : Str→Option Value) (fa : Addr) (o : Obj) (pm cd doc : Value) (a : Addr) (vs : List Value) (ns : List Int),
   Ground q loose [] XP w s₀ mg mb s₁.heap→YP w s₁.heap →
   s₁.heap.get? fa = some o→o.data = .func (docDef d.name d.params d.body d.scope pm cd doc)→s₁.heap.CodeRec cd d.name→mg d.name = some (.ref fa) →
   s₁.heap.get? a = some { cls:=.type "list",data:=.seq vs.toArray }→IntsAre vs ns→ns.length≤n→s₁.gens = #[] →
   codeAny (model l.prog w) callerA (.call (.ref fa) ⟨[.ref a],[]⟩) (fun r s'=>r = .ok (.ret (.bool true))∧OldK s₁.heap s'.heap∧s'.os = s₁.os∧AllBare s'.gens) s₁) :
  WalkO q loose XP YP l.row.toRowW d [] (fun f vs=>PySem.call f vs):=by
 intro w s₀ s₁ mg mb G Y fa o pm cd doc dV kV ho hd hcd hD hmg hg args vals as hpre hlay hrd hwl hlo
 obtain rfl : dV = .none:=Dflts.none hD hdf
 obtain rfl : kV = .none:=Dflts.noKw hD
 obtain ⟨a,vs,ns,rfl,rfl,hobj,hints,hlen⟩:=script_of hn hpre hwl
 refine enter_call (codeAny_mono (call w s₀ s₁ mg mb fa o pm cd doc a vs ns G Y ho (fd_plain hd) hcd hmg hobj hints hlen hg) fun r s' hq=>?_)
 obtain ⟨rfl,h2,h3,h4⟩:=hq
 exact ⟨.inl ⟨.bool true,.bool true,[],rfl,fun _=>rfl,.bool true,post_true l _,fun _=>⟨List.Pairwise.nil,fun _ hm=>(nomatch hm)⟩⟩,h2,h3,h4⟩
section
variable {prog : Program} {w : World} {A : Around} {E : Value→Shared→Prop} {s : Shared} {K : Frag}
end
end Att
namespace L2
open PySem PySem.Spec PyProof.Rows
theorem vals_ints : ∀ {vs : List Value} {ns : List Int},IntsAre vs ns→Vals (ns.map V.int) vs
 | _,_,.nil=>.nil
 | _,_,.cons n t h=>.cons ⟨t,rfl⟩ (vals_ints h)
noncomputable def Only (H : Hp) : Prop:=∀ b,H b = none∨∃ o xs,H b = some (.frz o (.lst xs))
theorem law_call {P : Program} {w : World} {K : PySem.W.Frag} {mg mb : Str→Option Value} {CX : CXT} {k : Nat} {fa a : Addr} {fd : FuncData} {x : Str} {sp : Sp} {s₁ : Shared} {vs : List Value} {ns : List Int}
  (KX : K.In s₁.heap) (hns : s₁.heap.Ns mainGlobals mg) (hb : s₁.heap.Ns builtinsNs mb) (hbb : ∀ x : Str,x ≠ "__name__"→mb x = bootBuiltins x) (hlim : s₁.heap.NoLimit) (hg : s₁.gens = #[])
  (ha : s₁.heap.get? a = some { cls:=.type "list",data:=.seq vs.toArray }) (hi : IntsAre vs ns) (hl : ns.length≤sizeLine) (hr : Room k callerA)
  (F : ∀ base : Heap,K.In base→base.Ns mainGlobals mg→FnOk P w K mg base CX k fa fd [x] sp) (hbind : ∀ (s : Shared) (u : Value),BindsTo s fd ⟨[u],[]⟩ [(x,u)])
  (hsp : ∀ H : Hp,Only H→SqL K H a (ns.map V.int)→sp [.ref a] H (fun v _=>v = .bl true) fun _ _ _=>False)
  (hCX : ∀ H e s',CX [] H s₁ (fun _ _ _=>False) e s'→False) :
  codeAny (model P w) callerA (.call (.ref fa) ⟨[.ref a],[]⟩) (fun r s'=>r = .ok (.ret (.bool true))∧OldK s₁.heap s'.heap∧s'.os = s₁.os∧AllBare s'.gens) s₁:=by
 have rv:=vals_ints hi
 have lenV:=hi.length
 have core : ∀ H : Hp,Only H→SqL K H a (ns.map V.int)→HOk P w H s₁.heap→(∀ b,H b ≠ none→b = a)→(H a ≠ none→K.lookup a = none) →
   codeAny (model P w) callerA (.call (.ref fa) ⟨[.ref a],[]⟩) (fun r s'=>r = .ok (.ret (.bool true))∧OldK s₁.heap s'.heap∧s'.os = s₁.os∧AllBare s'.gens) s₁:=by
  intro H hO hS hok hA hK
  have base_of : ∀ {b : Addr} {o : Obj},s₁.heap.get? b = some o→H b = none→(hidT s₁.heap H).get? b = some o:=fun e n=>hidT_get e n
  have noA : ∀ {b : Addr} {o : Obj} {es : Array DictEntry} {ep : Nat},s₁.heap.get? b = some o→o.data = .dict es ep→H b = none:=fun {b o es ep} e d=>by
   cases q : H b with
   | none=>rfl
   | some u =>
    have e' : b = a:=hA b (by rw [q]; simp)
    subst e'
    rw [ha] at e; cases e
    have d' : Data.seq vs.toArray _ = Data.dict es ep:=d
    cases d'
  have nsK : ∀ {b : Addr} {m : Str→Option Value},s₁.heap.Ns b m→(hidT s₁.heap H).Ns b m:=fun {b m} ⟨o,es,ep,e,d,r⟩=>⟨o,es,ep,base_of e (noA e d),d,r⟩
  have hKb : K.In (hidT s₁.heap H):=fun b o e=>base_of (KX b o e) (by
   cases q : H b with
   | none=>rfl
   | some u =>
    have e' : b = a:=hA b (by rw [q]; simp)
    subst e'
    rw [hK (by rw [q]; simp)] at e; cases e)
  have hM : Mod K mg (hidT s₁.heap H):=⟨hKb,nsK hns,⟨mb,nsK hb,hbb⟩,let ⟨mc,h1,h2⟩:=hlim; ⟨mc,nsK h1,h2⟩⟩
  have e0 : Env0 P w K mg (hidT s₁.heap H) callerA [] s₁ H:=⟨rfl,hM,fun b o e=>of_hidT e,Nat.le_of_eq (hidT_size _ _),trivial,fun b hb=>absurd (show b∈([] : List Addr) from hb) (by simp),hok,.of_eq hg⟩
  refine codeAny_mono ((F _ hKb (nsK hns)).run callerA [] s₁ H ⟨[.ref a],[]⟩ [.ref a] [.ref a] _ _ hr e0 (hbind s₁ (.ref a)) (.cons rfl .nil) (hsp H hO hS)) fun r s' h=>?_
  cases r with
  | error e=>exact (hCX H e s' h).elim
  | ok fl =>
   cases fl with
   | next=>exact False.elim h
   | brk=>exact False.elim h
   | cont=>exact False.elim h
   | ret u =>
    obtain ⟨v,H',os,bare,un,hok',r',q⟩:=h
    have q' : v = .bl true:=q
    subst q'
    obtain rfl : u = Value.bool true:=r'
    refine ⟨rfl,OldK.of_keep fun b o e=>?_,os,bare⟩
    cases q : H b with
    | none=>exact un.keep b o e q (by intro z; exact absurd (show b∈([] : List Addr) from z) (by simp)) (by simp)
    | some u =>
     rcases hO b with z | ⟨ob,xs,z⟩
     ·rw [q] at z; cases z
     ·have z2:=un.frzs b ob _ z
      obtain ⟨e1,_⟩:=hok b _ z
      obtain ⟨e2,_⟩:=hok' b _ z2
      rw [e] at e1; cases e1
      exact e2
 cases hk : K.lookup a with
 | some o =>
  have e:=KX a o hk
  rw [ha] at e
  cases e
  refine core (fun _=>none) (fun _=>.inl rfl) (.inr ⟨_,vs.toArray,_,hk,rfl,rfl,rfl,by rw [List.size_toArray,lenV]; exact hl,by simpa using rv⟩) (fun b u z=>by have z' : (none : Option HO) = some u:=z; cases z') (fun b z=>absurd rfl z) fun z=>absurd rfl z
 | none =>
  refine core (fun b=>if b = a then some (.frz { cls:=.type "list",data:=.seq vs.toArray } (.lst (ns.map V.int))) else none) (fun b=>?_) (.inl (.inr ⟨{ cls:=.type "list",data:=.seq vs.toArray },if_pos rfl⟩)) (fun b u z=>?_) (fun b z=>?_) fun _=>hk
  ·by_cases hb : b = a
   ·exact .inr ⟨_,_,if_pos hb⟩
   ·exact .inl (if_neg hb)
  ·by_cases hb : b = a
   ·have z':=(if_pos hb).symm.trans z
    cases z'
    subst hb
    exact ⟨ha,by rw [List.length_map]; exact hl,vs,_,rv,ha⟩
   ·have z':=(if_neg hb).symm.trans z
    cases z'
  ·by_cases hb : b = a
   ·exact hb
   ·exact absurd (if_neg hb) z
end L2
namespace L2
open PySem PySem.Spec PyProof.Rows
theorem walk_of {l : PySem.W.OpenLaw} {n k : Nat} {q : Program} {loose : List Str} {XP : (Str→Option Value)→Heap→Prop} {YP : World→Heap→Prop} {d : DefRec} {K : Params→PySem.W.Frag} {CX : World→CXT} {sp : World→Sp} {x : Str}
  (hn : l.most = some n) (hn2 : n≤sizeLine) (hdf : d.params.defaults = []) (hr : Room k callerA)
  (hY : ∀ (w : World) (h : Heap),YP w h→(K w.params).In h)
  (F : ∀ (w : World) (mg : Str→Option Value) (fa : Addr) (h : Heap),(K w.params).In h→h.Ns mainGlobals mg→mg d.name = some (.ref fa) →
   ∃ fd : FuncData,(∀ (s : Shared) (u : Value),BindsTo s fd ⟨[u],[]⟩ [(x,u)]) ∧
    ∀ base : Heap,(K w.params).In base→base.Ns mainGlobals mg→FnOk l.prog w (K w.params) mg base (CX w) k fa fd [x] (sp w))
  (hsp : ∀ (w : World) (H : Hp) (a : Addr) (ns : List Int),ns.length≤n→Only H→SqL (K w.params) H a (ns.map V.int)→sp w [.ref a] H (fun v _=>v = .bl true) fun _ _ _=>False)
  (hCX : ∀ (w : World) (H : Hp) (s : Shared) (e : Value) (s' : Shared),CX w [] H s (fun _ _ _=>False) e s'→False) :
  PySem.W.WalkO q loose XP YP l.row.toRowW d [] (fun f vs=>PySem.call f vs):=by
 refine Att.attach_call hn hdf fun w s₀ s₁ mg mb fa o pm cd doc a vs ns G Y ho hd hcd hmg hobj hints hlen hg=>?_
 have KX:=hY w _ Y
 obtain ⟨fd,hb,hF⟩:=F w mg fa _ KX G.T.g hmg
 exact law_call KX G.T.g G.T.b G.T.builtins G.T.nolimit hg hobj hints (Nat.le_trans hlen hn2) hr hF hb (fun H hO hS=>hsp w H a ns hlen hO hS) fun H e s'=>hCX w H s₁ e s'
end L2
namespace L2
open PySem PySem.Spec PyProof.Rows
noncomputable def inClass (s : Stmt) (j : Nat) : Stmt:=match s with
 | .ClassDef _ _ _ body _ _ _ _ _ _ _=>body.getD j (.Pass ⟨0,0,0,0⟩)
 | _=>.Pass ⟨0,0,0,0⟩
noncomputable def defArgs (s : Stmt) : Arguments:=match s with
 | .FunctionDef _ a _ _ _ _ _ _ _ _=>a
 | _=>{ posonlyargs:=[],args:=[],vararg:=none,kwonlyargs:=[],kw_defaults:=[],kwarg:=none,defaults:=[] }
noncomputable def defBody (s : Stmt) : List Stmt:=match s with
 | .FunctionDef _ _ b _ _ _ _ _ _ _=>b
 | _=>[]
noncomputable def defScope (s : Stmt) : Scope:=match s with
 | .FunctionDef _ _ _ _ _ _ sc _ _ _=>sc
 | _=>{ kind:=.function,names:=[],isGenerator:=false,isCoroutine:=false }
noncomputable abbrev CX0 : CXT:=fun _ _ _ _ _ _=>False
noncomputable abbrev E0 : XK:=fun _ _ _=>False
theorem pass0 {X : Cx} : Passes CX0 X E0:=fun _ _ _ _ _ _ _ h=>h.elim
structure Fun (K : PySem.W.Frag) (x qual : Str) (st : Stmt) (f : Addr) (fd : FuncData) : Prop where
 ex : ∃ (oc : Value) (od : Option Addr) (kV doc pm : Value) (an : Option Addr) (cdv ct : Value) (osl : Array (Option Value)),
  fd = PySem.W.fnOf x qual (defArgs st) (defBody st) (defScope st) .none kV doc pm an cdv ct∧K.lookup f = some ⟨oc,od,.func fd,osl⟩∧PySem.W.codeIn K cdv qual = true
 kp : PySem.W.keepIn K (.ref f) = true
section
variable {P : Program} {w : World} {K : PySem.W.Frag} {mg : Str→Option Value} {base : Heap}
theorem Fun.ok {x qual : Str} {st : Stmt} {f : Addr} {fd : FuncData} {N ps : List Str} {k : Nat} {sp : Sp} (F : Fun K x qual st f fd) (S : FnScope N ps (defScope st)) (len : ∀ vs H Q E,sp vs H Q E→vs.length = ps.length)
  (hbody : ∀ (cdv : Value) (A : Around) (outer : List Env) (s : Shared) (H : Hp) (vs : List V) (Q : VK) (E : XK),Room k (A.deeper (envOfC qual (defScope st) s.heap.objs.size f cdv))→sp vs H Q E →
   ∃ t,PSs (cxOf CX0 P w K mg base N qual (defScope st) f cdv A outer s H E).nox (defBody st) t∧t { nx:=fun _ H'=>Q .non H',rt:=Q } (start N vs) H) : FnOk P w K mg base CX0 (k + 1) f fd ps sp:=by
 obtain ⟨oc,od,kV,doc,pm,an,cdv,ct,osl,rfl,lk,hcd⟩:=F.ex
 refine fn_of lk hcd S len fun A outer s H vs Q E hr hsp=>?_
 obtain ⟨t,h,q⟩:=hbody cdv A outer s H vs Q E hr hsp
 exact ⟨t,h.nox,q⟩
theorem Fun.binds {x qual : Str} {st : Stmt} {f : Addr} {fd : FuncData} {ps : List Str} (F : Fun K x qual st f fd)
  (h : ∀ (kV doc pm : Value) (an : Option Addr) (cdv ct : Value) (us : List Value),us.length = ps.length→bindArgs (PySem.W.fnOf x qual (defArgs st) (defBody st) (defScope st) .none kV doc pm an cdv ct) ⟨us,[]⟩ = pure (ps.zip us)) : Binds K fd ps []:=by
 obtain ⟨oc,od,kV,doc,pm,an,cdv,ct,osl,rfl,lk,hcd⟩:=F.ex
 exact .all (h kV doc pm an cdv ct)
theorem fun_mk {x qual : Str} {st : Stmt} {f : Addr} {oc : Value} {od an : Option Addr} {osl : Array (Option Value)} {kV doc pm cdv ct : Value} (l : K.lookup f = some ⟨oc,od,.func (PySem.W.fnOf x qual (defArgs st) (defBody st) (defScope st) .none kV doc pm an cdv ct),osl⟩)
  (c : PySem.W.codeIn K cdv qual = true) (k : PySem.W.keepIn K (.ref f) = true) : Fun K x qual st f (PySem.W.fnOf x qual (defArgs st) (defBody st) (defScope st) .none kV doc pm an cdv ct):=⟨⟨oc,od,kV,doc,pm,an,cdv,ct,osl,rfl,l,c⟩,k⟩
end
theorem small1000 {n : Nat} (h : n≤1000) : n < sizeLine:=Nat.lt_of_le_of_lt h (by decide)
section
variable {X : Cx}
end
noncomputable def Same (H H' : Hp) : Prop:=∀ b o,H b = some o→H' b = some o
theorem Same.refl (H : Hp) : Same H H:=fun _ _ h=>h
theorem Same.trans {H H1 H2 : Hp} (a : Same H H1) (b : Same H1 H2) : Same H H2:=fun c o h=>b c o (a c o h)
theorem Same.free {H H' : Hp} (e : Same H H') {l : Addr} (h : H' l = Option.none) : H l = Option.none:=by
 cases q : H l with
 | none=>rfl
 | some o =>
  rw [e l o q] at h
  cases h
theorem Same.seq {K : PySem.W.Frag} {H H' : Hp} {a : Addr} {xs : List V} (e : Same H H') (h : SqL K H a xs) : SqL K H' a xs:=by
 rcases h with (h | ⟨o,h⟩) | h
 ·exact .inl (.inl (e _ _ h))
 ·exact .inl (.inr ⟨o,e _ _ h⟩)
 ·exact .inr h
end L2
namespace L2
open PySem PySem.Spec PyProof.Rows
theorem PE.imp {X : Cx} {e : Expr} {t t' : TE} (h : PE X e t) (ht : ∀ σ H Q,t' σ H Q→t σ H Q) : PE X e t':=fun pins s σ H Q I q=>h pins s σ H Q I (ht σ H Q q)
section
variable {X : Cx} {pins : List (Addr × Obj)} {σ : List (Option V)} {H : Hp} {s : Shared} {h' : Heap}
theorem Inv.turns {fp : List Addr} {t' : Nat} (I : Inv X pins σ H s) (k : ∀ b o,b ∉ fp→s.heap.get? b = some o→h'.get? b = some o) (hf : ∀ b∈fp,FpOk X pins H b) : Inv X pins σ H { s with heap:=h',toks:=t' }:=by
 have nit : ∀ b u,H b = some u→b ∉ fp:=fun b u e z=>by rw [(hf b z).1] at e; cases e
 refine I.step (g':=s.gens) (d':=s.drawn) (ch:=fp) (fun b hb=>⟨(hf b hb).2.2.2.1,(hf b hb).2.1,(hf b hb).2.2.2.2.1,(hf b hb).2.2.2.2.2⟩) (fun b o _ _ hc e _=>k b o hc e) (fun b o _ _ hc e _=>⟨o.slots,k b o hc e⟩) (fun _ _ _ _ n=>n)
  (fun b o hc e=>⟨o,k b o hc e⟩) (fun _ _ e=>e) (fun _ _ _ e=>e) (fun b ps e=>⟨#[],by rw [e]; simp⟩) (fun m hm=>?_) (fun b u e=>?_) I.bare
 ·obtain ⟨o,es,ep,ho,r⟩:=hm
  exact ⟨o,es,ep,k _ o (fun z=>(hf _ z).2.1 rfl) ho,r⟩
 ·refine (I.hok b u e).stay (fun c v hc q=>k c v ?_ q) (fun _ q=>q) fun _ _ q=>q
  rcases hc with z | z
  ·rw [z]; exact nit b u e
  ·exact nit c _ z
theorem Inv.turnLay {fp : List Addr} {T : Addr} {o : HO} {t' : Nat} (I : Inv X pins σ H s) (k : ∀ b o,b ∉ fp→s.heap.get? b = some o→h'.get? b = some o) (hf : ∀ b∈fp,FpOk X pins H b) (hT : s.heap.objs.size≤T)
  (new : ObjOk X.prog X.w (upd H T o) h' T o) : Inv X pins σ (upd H T o) { s with heap:=h',toks:=t' }:=by
 have hn : H T = none:=I.hok.fresh hT
 have nit : ∀ b u,H b = some u→b ∉ fp:=fun b u e z=>by rw [(hf b z).1] at e; cases e
 have neT : ∀ {b : Addr} {u : Obj},s.heap.get? b = some u→b ≠ T:=fun e=>Nat.ne_of_lt (Nat.lt_of_lt_of_le (Heap.lt_size e) hT)
 refine I.step (g':=s.gens) (d':=s.drawn) (ch:=fp) (fun b hb=>⟨(hf b hb).2.2.2.1,(hf b hb).2.1,(hf b hb).2.2.2.2.1,(hf b hb).2.2.2.2.2⟩) (fun b o _ _ hc e _=>k b o hc e) (fun b o _ _ hc e _=>⟨o.slots,k b o hc e⟩)
  (fun b o _ e n=>by rw [upd_ne (neT e)]; exact n)
  (fun b o hc e=>⟨o,k b o hc e⟩) (fun b xs e=>by rw [upd_ne (ne_of_none e hn)]; exact e) (fun b _ _ e=>by rw [upd_ne (ne_of_none e hn)]; exact e) (fun b ps e=>⟨#[],by rw [upd_ne (ne_of_none e hn),e]; simp⟩) (fun m hm=>?_) (fun b u e=>?_) I.bare
 ·obtain ⟨o,es,ep,ho,r⟩:=hm
  exact ⟨o,es,ep,k _ o (fun z=>(hf _ z).2.1 rfl) ho,r⟩
 ·by_cases hb : b = T
  ·subst hb; rw [upd_same] at e; cases e; exact new
  ·rw [upd_ne hb] at e
   refine (I.hok b u e).stay (fun c v hc q=>k c v ?_ q) (fun c q=>by rw [upd_ne (ne_of_none q hn)]; exact q) fun c xs q=>by rw [upd_ne (ne_of_none q hn)]; exact q
   rcases hc with z | z
   ·rw [z]; exact nit b u e
   ·exact nit c _ z
end
noncomputable def Ite (K : PySem.W.Frag) (a : Addr) : It :=
  ⟨fun i H => ∃ xs x, SqL K H a xs ∧ xs[i]? = some x,
   fun i H v H' => ∃ p x, H p = none ∧ v = .ref p ∧ (∀ xs, SqL K H a xs → xs[i]? = some x) ∧ H' = upd H p (.tup [.int (i : Int), x]),
   fun i H => ∃ xs, SqL K H a xs ∧ xs.length ≤ i⟩
theorem turn_enum {P : Program} {w : World} {K : PySem.W.Frag} {elts : List Expr} {k : Nat} {pos : Pos} (a e it : Addr) (hei : e ≠ it) :
  Turn P w K (.Tuple elts k pos) (Ite K a) [e,it] e (fun i h=>(∃ old,IsEnum h e it (i : Nat) old)∧h.IsListIter it a i) where
 mem:=by simp
 obj:=fun i h st b hb=>by
  obtain ⟨⟨old,he⟩,⟨o,e1,c,d⟩⟩:=st
  rcases List.mem_cons.mp hb with rfl | hb
  ·exact ⟨_,he,fun v z=>by have z' : Data.fields _ = Data.cell v:=z; cases z'⟩
  ·rw [List.mem_singleton.mp hb]
   exact ⟨o,e1,fun v z=>by rw [d] at z; cases z⟩
 keep:=fun i h h' st k=>by
  obtain ⟨⟨old,he⟩,st⟩:=st
  exact ⟨⟨old,k e (by simp) _ he⟩,st.at fun o e=>k it (by simp) o e⟩
 item:=by
  intro X hP hw hK hc i pins s σ H E I hf st hg
  subst hP hw hK
  obtain ⟨⟨old,he⟩,hit⟩:=st
  obtain ⟨xs,x,hq,hx⟩:=hg
  obtain ⟨its,rv,p,hz⟩:=I.list hq
  obtain ⟨u,hu,ru⟩:=rv.get hx
  refine wpAny_pyNext_enum_item he hit p.isList (x:=u) (by simpa using hu) hei fun h' ho hit' hT hsz hk=>?_
  refine ⟨_,rfl,wpAny_letOwnedTupleGo_enum ho fun h2 he2 hs2=>?_⟩
  have hlt : e < s.heap.objs.size:=Heap.lt_size he
  have hT2 : h2.get? s.heap.objs.size = some { cls:=.type "tuple",data:=.seq #[.int i s.toks,u] }:=(hs2.2 _ (Nat.ne_of_gt hlt)).trans hT
  refine ⟨.ref s.heap.objs.size,upd H s.heap.objs.size (.tup [.int (i : Int),x]),?_,rfl,⟨_,x,I.hok.fresh (Nat.le_refl _),rfl,fun ys hy=>by rw [I.list_inj hy hq]; exact hx,rfl⟩,⟨⟨u,by simpa using he2⟩,hit'.at fun o y=>(hs2.2 it hei.symm).trans y⟩,fun b hb=>?_⟩
  ·refine I.turnLay (fp:=[e,it]) (fun b o hb q=>?_) hf (Nat.le_refl _) ⟨by show 2≤sizeLine; decide,[.int i s.toks,u],.cons ⟨_,rfl⟩ (.cons ru .nil),⟨_,hT2,rfl,_,rfl⟩⟩
   have h1 : b ≠ e:=fun z=>hb (by simp [z])
   have h2' : b ≠ it:=fun z=>hb (by simp [z])
   exact (hs2.2 b h1).trans (hk b o h1 h2' q)
  ·have hne : b ≠ s.heap.objs.size:=by
    rcases List.mem_cons.mp hb with rfl | hb
    ·exact Nat.ne_of_lt hlt
    ·rw [List.mem_singleton.mp hb]
     obtain ⟨_,y,_⟩:=hit
     exact Nat.ne_of_lt (Heap.lt_size y)
   rw [upd_ne hne]; exact (hf b hb).1
 done:=by
  intro X hP hw hK hc i pins s σ H E I hf st hg
  subst hP hw hK
  obtain ⟨⟨old,he⟩,hit⟩:=st
  obtain ⟨xs,hq,hx⟩:=hg
  obtain ⟨its,rv,p,hz⟩:=I.list hq
  have hl:=rv.length
  refine wpAny_pyNext_enum_end (I.ok.hd hc) he hit p.isList (by simp; omega) fun h' eb=>⟨rfl,I.turns (t':=s.toks) (fp:=[e,it]) (fun b o hb q=>eb b o (fun z=>hb (by simp [z])) q) hf⟩
 self:=fun _ _ _ _ _ st h=>by
  obtain ⟨⟨old,he⟩,_⟩:=st
  exact wpAny_pyIter_enum he h
section
variable {X : Cx}
noncomputable def iEnum (K : PySem.W.Frag) (ta : TA) : TI:=fun σ H R=>ta σ H fun vs H1=>∃ a,vs = [.ref a]∧(∃ xs,SqL K H1 a xs)∧R (Ite K a) H1
theorem pi_enum {elts : List Expr} {k : Nat} {tpos : Pos} {l : Expr} {ta : TA} {p pos : Pos} (hg : Gl X "enumerate") (hm : X.mg "enumerate" = none) (ha : PA X [l] ta) (hs : starEach [l] X.env = [(false,eval l X.env)]:=by rfl) :
  PI X (.Tuple elts k tpos) (.Call (.Name "enumerate" p) [l] [] pos) (iEnum X.K ta):=by
 intro pins s σ H R I h
 refine Call_ (ld_blt I hg hm boot_enumerate (PyProof.Rows.callWith_type1 (thn (ha pos pins s σ H _ I h) fun us s1 ⟨vs,H1,I1,r1,q1⟩=>?_) hs rfl))
 obtain ⟨a,e,⟨xs,hq⟩,q⟩:=q1
 subst e
 cases r1 with
 | cons r rr =>
  cases rr
  cases r
  obtain ⟨its,rv,pl,hz⟩:=I1.list hq
  refine call_enumerate_list pl.isList fun h' hE hI hsz hk=>?_
  refine wpAny_pyIter_enum hE ?_
  have hne : s1.heap.objs.size + 1 ≠ s1.heap.objs.size:=Nat.succ_ne_self _
  refine ⟨_,[s1.heap.objs.size + 1,s1.heap.objs.size],_,_,H1,rfl,I1.kept (t':=s1.toks) hk,turn_enum a _ s1.heap.objs.size hne,⟨⟨.none,hE⟩,hI⟩,fun b hb=>?_,q⟩
  have hb' : s1.heap.objs.size≤b:=by
   rcases List.mem_cons.mp hb with rfl | hb
   ·exact Nat.le_succ _
   ·rw [List.mem_singleton.mp hb]; exact Nat.le_refl _
  exact I1.fpOk hb' (I1.hok.fresh hb')
end
structure ZipOff (z TI TO i1 i2 : Addr) : Prop where
 TIz : TI ≠ z
 TOz : TO ≠ z
 i1z : i1 ≠ z
 i2z : i2 ≠ z
 TITO : TI ≠ TO
 TIi1 : TI ≠ i1
 TIi2 : TI ≠ i2
 TOi1 : TO ≠ i1
 TOi2 : TO ≠ i2
 i12 : i1 ≠ i2
section
variable {X : Cx}
end
end L2
namespace L2
open PySem PySem.Spec PyProof.Rows
theorem closure_of {env : Env} : ∀ (names : List (Str × NameKind)) (acc : List (Str × Addr)),(∀ y∈names,y.2 = .free→∃ c,env.cells.lookup y.1 = some c)→(∀ x c,acc.lookup x = some c→env.cells.lookup x = some c) →
  ∃ cl : List (Str × Addr),(forIn names acc fun (x : Str × NameKind) (r : List (Str × Addr))=>(match x with | (name,kind)=>if (kind == NameKind.free) = true then do let c ← cellOf env name; pure (ForInStep.yield ((name,c) :: r)) else pure (ForInStep.yield r) : Sem (ForInStep (List (Str × Addr)))) : Sem (List (Str × Addr))) = pure cl ∧
   (∀ x c,cl.lookup x = some c→env.cells.lookup x = some c)∧(∀ x,(x,NameKind.free)∈names→∃ c,cl.lookup x = some c)∧∀ x c,acc.lookup x = some c→∃ c',cl.lookup x = some c'
 | [],acc,_,ha=>⟨acc,rfl,ha,fun _ h=>(nomatch h),fun x c h=>⟨c,h⟩⟩
 | (n,k) :: r,acc,hf,ha=>by
  by_cases hk : k = .free
  ·subst hk
   obtain ⟨c,hc⟩:=hf (n,.free) List.mem_cons_self rfl
   have ha' : ∀ x c',((n,c) :: acc).lookup x = some c'→env.cells.lookup x = some c':=fun x c' h=>by
    rw [List.lookup_cons] at h
    cases hx : x == n with
    | true =>
     rw [hx] at h
     cases h
     rw [eq_of_beq hx]; exact hc
    | false =>
     rw [hx] at h
     exact ha x c' h
   obtain ⟨cl,e,h1,h2,h3⟩:=closure_of r ((n,c) :: acc) (fun y hy=>hf y (List.mem_cons_of_mem _ hy)) ha'
   refine ⟨cl,?_,h1,fun x hx=>?_,fun x c' hx=>?_⟩
   ·rw [List.forIn_cons]
    have ec : cellOf env n = pure c:=by unfold cellOf; rw [hc]
    simp only [beq_self_eq_true,if_true,ec]
    exact e
   ·rcases List.mem_cons.mp hx with z | z
    ·cases z
     exact h3 n c (by rw [List.lookup_cons,beq_self_eq_true])
    ·exact h2 x z
   ·by_cases hxn : (x == n) = true
    ·exact h3 x c (by rw [List.lookup_cons,hxn])
    ·exact h3 x c' (by rw [List.lookup_cons]; simp only [hxn]; exact hx)
  ·obtain ⟨cl,e,h1,h2,h3⟩:=closure_of r acc (fun y hy=>hf y (List.mem_cons_of_mem _ hy)) ha
   refine ⟨cl,?_,h1,fun x hx=>?_,h3⟩
   ·rw [List.forIn_cons]
    have eb : (k == NameKind.free) = false:=by simpa using hk
    simp only [eb,Bool.false_eq_true,if_false]
    exact e
   ·rcases List.mem_cons.mp hx with z | z
    ·cases z; exact absurd rfl hk
    ·exact h2 x z
theorem closureFor_of {scope : Scope} {env : Env} (hf : ∀ y∈scope.names,y.2 = .free→∃ c,env.cells.lookup y.1 = some c) :
  ∃ cl : List (Str × Addr),closureFor scope env = pure cl∧(∀ x c,cl.lookup x = some c→env.cells.lookup x = some c)∧∀ x,(x,NameKind.free)∈scope.names→∃ c,cl.lookup x = some c:=by
 obtain ⟨cl,e,h1,h2,_⟩:=closure_of (env:=env) scope.names [] hf (fun x c h=>by simp at h)
 refine ⟨cl,?_,h1,h2⟩
 unfold closureFor
 show (forIn scope.names ([] : List (Str × Addr)) _ >>= fun c=>pure c) = pure cl
 refine Eq.trans (congrArg (fun (q : Sem (List (Str × Addr)))=>q >>= fun c=>pure c) e) ?_
 rfl
theorem relabel_from {scope : Scope} {env : Env} {x : Str} {k : NameKind} : ∀ {names : List (Str × NameKind)},(names.map fun (n,k)=>if (k == NameKind.free && env.scope.kind == .function && env.kindOf n == some .cell) then (n,NameKind.cell) else (n,k)).lookup x = some k →
  ∃ k',(x,k')∈names∧(k = k'∨(k' = .free∧k = .cell))
 | [],h=>by simp at h
 | (n,j) :: r,h=>by
  have h' : List.lookup x ((if (j == NameKind.free && env.scope.kind == .function && env.kindOf n == some .cell) = true then (n,NameKind.cell) else (n,j)) :: (r.map fun (n,k)=>if (k == NameKind.free && env.scope.kind == .function && env.kindOf n == some .cell) then (n,NameKind.cell) else (n,k))) = some k:=h
  by_cases hc : (j == NameKind.free && env.scope.kind == .function && env.kindOf n == some .cell) = true
  ·rw [if_pos hc,List.lookup_cons] at h'
   cases hx : x == n with
   | true =>
    rw [hx] at h'
    cases h'
    have ej : j = .free:=by
     simp only [Bool.and_eq_true] at hc
     exact eq_of_beq hc.1.1
    rw [eq_of_beq hx]
    exact ⟨.free,by rw [ej]; exact List.mem_cons_self,.inr ⟨rfl,rfl⟩⟩
   | false =>
    rw [hx] at h'
    obtain ⟨k',hm,q⟩:=relabel_from (scope:=scope) (env:=env) (names:=r) h'
    exact ⟨k',List.mem_cons_of_mem _ hm,q⟩
  ·rw [if_neg hc,List.lookup_cons] at h'
   cases hx : x == n with
   | true =>
    rw [hx] at h'
    cases h'
    rw [eq_of_beq hx]
    exact ⟨_,List.mem_cons_self,.inl rfl⟩
   | false =>
    rw [hx] at h'
    obtain ⟨k',hm,q⟩:=relabel_from (scope:=scope) (env:=env) (names:=r) h'
    exact ⟨k',List.mem_cons_of_mem _ hm,q⟩
theorem relabel_free {env : Env} {x : Str} : ∀ {names : List (Str × NameKind)},names.lookup x = some .free →
  (names.map fun (n,k)=>if (k == NameKind.free && env.scope.kind == .function && env.kindOf n == some .cell) then (n,NameKind.cell) else (n,k)).lookup x = some .cell ∨
  (names.map fun (n,k)=>if (k == NameKind.free && env.scope.kind == .function && env.kindOf n == some .cell) then (n,NameKind.cell) else (n,k)).lookup x = some .free
 | [],h=>by simp at h
 | (n,j) :: r,h=>by
  have ih:=@relabel_free env x r
  show List.lookup x ((if (j == NameKind.free && env.scope.kind == .function && env.kindOf n == some .cell) = true then (n,NameKind.cell) else (n,j)) :: _) = _∨List.lookup x ((if (j == NameKind.free && env.scope.kind == .function && env.kindOf n == some .cell) = true then (n,NameKind.cell) else (n,j)) :: _) = _
  by_cases hc : (j == NameKind.free && env.scope.kind == .function && env.kindOf n == some .cell) = true
  ·rw [if_pos hc,List.lookup_cons]
   cases hx : x == n with
   | true=>exact .inl rfl
   | false =>
    rw [List.lookup_cons,hx] at h
    exact ih h
  ·rw [if_neg hc,List.lookup_cons]
   cases hx : x == n with
   | true =>
    rw [List.lookup_cons,hx] at h
    exact .inr h
   | false =>
    rw [List.lookup_cons,hx] at h
    exact ih h
noncomputable def capB (N : List Str) (sc scope : Scope) : List Str→List (Option Nat)→Bool
 | [],[]=>true
 | _ :: xs,none :: cs=>capB N sc scope xs cs
 | x :: xs,some j :: cs=>(match N[j]? with | some y=>y == x | none=>false) && (match sc.names.lookup x with | some .cell=>true | some .free=>true | _=>false) &&
   (match scope.names.lookup x with | some .free=>true | _=>false) && capB N sc scope xs cs
 | _,_=>false
theorem capB_len {N : List Str} {sc scope : Scope} : ∀ {xs : List Str} {cs : List (Option Nat)},capB N sc scope xs cs = true→cs.length = xs.length
 | [],[],_=>rfl
 | _ :: xs,none :: cs,h=>congrArg (· + 1) (capB_len (xs:=xs) (cs:=cs) h)
 | x :: xs,some j :: cs,h=>by
  simp only [capB,Bool.and_eq_true] at h
  exact congrArg (· + 1) (capB_len (xs:=xs) (cs:=cs) h.2)
 | [],_ :: _,h=>by simp [capB] at h
 | _ :: _,[],h=>by simp [capB] at h
theorem capB_at {N : List Str} {sc scope : Scope} : ∀ {xs : List Str} {cs : List (Option Nat)},capB N sc scope xs cs = true→∀ (i : Nat) (x : Str) (j : Nat),xs[i]? = some x→cs[i]? = some (some j) →
  N[j]? = some x∧(sc.names.lookup x = some .cell∨sc.names.lookup x = some .free)∧scope.names.lookup x = some .free
 | [],[],_,i,x,j,h,_=>by simp at h
 | _ :: xs,none :: cs,h,0,x,j,_,h2=>by simp at h2
 | _ :: xs,none :: cs,h,i + 1,x,j,h1,h2=>capB_at (xs:=xs) (cs:=cs) h i x j (by simpa using h1) (by simpa using h2)
 | y :: xs,some k :: cs,h,0,x,j,h1,h2=>by
  simp only [capB,Bool.and_eq_true] at h
  obtain ⟨⟨⟨a,b⟩,c⟩,_⟩:=h
  have e1 : y = x:=by simpa using h1
  have e2 : k = j:=by simpa using h2
  subst e1 e2
  refine ⟨?_,?_,?_⟩
  ·cases q : N[k]? with
   | none=>rw [q] at a; simp at a
   | some z=>rw [q] at a; rw [eq_of_beq a]
  ·cases q : sc.names.lookup y with
   | none=>rw [q] at b; simp at b
   | some z=>rw [q] at b; cases z <;> first | exact .inl rfl | exact .inr rfl | simp at b
  ·cases q : scope.names.lookup y with
   | none=>rw [q] at c; simp at c
   | some z=>rw [q] at c; cases z <;> first | rfl | simp at c
 | y :: xs,some k :: cs,h,i + 1,x,j,h1,h2=>by
  simp only [capB,Bool.and_eq_true] at h
  exact capB_at (xs:=xs) (cs:=cs) h.2 i x j (by simpa using h1) (by simpa using h2)
 | [],_ :: _,h,_,_,_,_,_=>by simp [capB] at h
 | _ :: _,[],h,_,_,_,_,_=>by simp [capB] at h
noncomputable def lcB (N : List Str) (sc scope : Scope) (N' : List Str) (cap : List (Option Nat)) : Bool :=
 capB N sc scope N' cap && (scope.kind == .function) && (scope.names.all fun y=>y.2 != .cell) &&
 (scope.names.all fun y=>y.2 != .local || scope.names.lookup y.1 == some .local) &&
 (scope.names.all fun y=>y.2 != .free || sc.names.lookup y.1 == some .cell || sc.names.lookup y.1 == some .free)
noncomputable def capSt (cap : List (Option Nat)) (σ : St) : St:=cap.map fun o=>match o with
 | none=>none
 | some j=>match σ[j]? with
  | some v=>v
  | none=>none
noncomputable def lcCx (X : Cx) (scope : Scope) (N' : List Str) (cl : List (Str × Addr)) (C : Addr) (s : Shared) (H : Hp) (ex : List Addr) : Cx :=
 { X with N:=N',s₀:=s,H₀:=H,env:=compEnvC scope cl C X.env,outer:=X.stack,ex:=ex,fn:=fun _=>false,pn:=[],xe:=fun _ _=>False }
section
variable {X : Cx} {pins : List (Addr × Obj)} {σ : St} {H : Hp} {s : Shared}
theorem lc_inv {scope : Scope} {N' : List Str} {cap : List (Option Nat)} {cl : List (Str × Addr)} {ex : List Addr} {h₁ : Heap} {m : Str→Option Value} (hB : lcB X.N X.env.scope scope N' cap = true) (I : Inv X pins σ H s)
  (c1 : ∀ x c,cl.lookup x = some c→X.env.cells.lookup x = some c) (c2 : ∀ x,(x,NameKind.free)∈scope.names→∃ c,cl.lookup x = some c) (hf : ∀ b∈ex,FpOk X pins H b) (hex : ∀ b∈ex,b < s.heap.objs.size)
  (hn : h₁.Ns s.heap.objs.size m) (hk : ∀ b o,s.heap.get? b = some o→h₁.get? b = some o) {t' : Nat} :
  Inv (lcCx X scope N' cl s.heap.objs.size s H ex) [] (capSt cap σ) H { s with heap:=h₁,toks:=t' }:=by
 simp only [lcB,Bool.and_eq_true] at hB
 obtain ⟨⟨⟨⟨b1,b2⟩,b3⟩,b4⟩,b5⟩:=hB
 have kind : scope.kind = .function:=eq_of_beq b2
 have nocell : ∀ y∈scope.names,y.2 ≠ .cell:=fun y hy=>by
  have:=List.all_eq_true.mp b3 y hy
  simpa using this
 have ok : (lcCx X scope N' cl s.heap.objs.size s H ex).Ok:=by
  refine ⟨I.ok.mod,kind,I.ok.glob,I.ok.blt,Nat.le_refl _,fun x y c e1 e2=>I.ok.inj x y c (c1 x c e1) (c1 y c e2),fun x hx=>?_,fun x c e _=>(by cases e),I.ok.hd,I.ok.frames,.inl rfl,fun b hb=>⟨Nat.ne_of_lt (hex b hb),fun x c e=>(hf b hb).2.2.2.2.1 x c (c1 x c e)⟩,
   I.bs,Nat.le_trans I.ok.bsz I.sz,fun b o e hb=>?_,fun b hb hb2=>?_,I.stack,I.stkFree⟩
  ·have hx' : ∃ k,(relabel scope X.env).names.lookup x = some k∧(k = .cell∨k = .free):=by
    rcases hx with z | z
    ·exact ⟨.cell,z,.inl rfl⟩
    ·exact ⟨.free,z,.inr rfl⟩
   obtain ⟨k,e,hkk⟩:=hx'
   obtain ⟨k',hm,q⟩:=relabel_from (scope:=scope) (env:=X.env) (names:=scope.names) e
   have ek : k' = .free:=by
    rcases q with q | q
    ·rw [← q]
     rcases hkk with z | z
     ·exact absurd (q.symm.trans z) (nocell _ hm)
     ·exact z
    ·exact q.1
   rw [ek] at hm
   exact c2 x hm
  ·rcases (hf b hb).2.2.2.1 with z | z
   ·exact I.ok.noex b o e z
   ·exact absurd (Nat.lt_of_lt_of_le (Nat.lt_of_lt_of_le (Heap.lt_size e) I.ok.bsz) z) (Nat.lt_irrefl _)
  ·rcases List.mem_cons.mp (I.stkSub b hb2) with z | z
   ·exact (hf b hb).2.1 z
   ·exact (hf b hb).2.2.1 z
 refine ⟨ok,rfl,I.bare,Un.kept hk,⟨m,hn,fun i x v e1 e2 e3=>?_⟩,fun x c e=>?_,I.hok.fresh (Nat.le_refl _),fun x c e=>I.freeC x c (c1 x c e),fun p hp=>absurd (show p∈([] : List (Addr × Obj)) from hp) (by simp),I.hok.kept hk,?_⟩
 ·have e2' : (capSt cap σ)[i]? = some (some v):=e2
  unfold capSt at e2'
  rw [List.getElem?_map] at e2'
  cases ec : cap[i]? with
  | none=>rw [ec] at e2'; simp at e2'
  | some o =>
   rw [ec] at e2'
   cases o with
   | none=>simp at e2'
   | some j =>
    simp only [Option.map_some,Option.some.injEq] at e2'
    have ej : σ[j]? = some (some v):=by
     cases q : σ[j]? with
     | none=>rw [q] at e2'; simp at e2'
     | some z=>rw [q] at e2'; simp only at e2'; rw [e2']
    obtain ⟨q1,q2,q3⟩:=capB_at b1 i x j e1 ec
    obtain ⟨m0,hn0,hl0⟩:=I.loc
    obtain ⟨u,r,l⟩:=hl0 j x v q1 ej (by rcases q2 with z | z; exact .inr (.inl z); exact .inr (.inr z))
    refine ⟨u,r,?_⟩
    rcases l with ⟨kl,_⟩ | ⟨_,c,hc,z⟩
    ·have kl' : X.env.scope.names.lookup x = some .local:=kl
     rcases q2 with q2 | q2 <;> (rw [q2] at kl'; cases kl')
    ·obtain ⟨o,ho,hd⟩:=z
     obtain ⟨c',hc'⟩:=c2 x (PySem.mem_of_lookup q3)
     have : c' = c:=by
      have:=c1 x c' hc'
      rw [hc] at this
      exact (Option.some.inj this).symm
     subst this
     exact .inr ⟨relabel_free q3,c',hc',o,hk _ _ ho,hd⟩
 ·obtain ⟨v,o,ho,hd⟩:=I.cell x c (c1 x c e)
  exact ⟨v,o,hk _ _ ho,hd⟩
 ·show (capSt cap σ).length = N'.length
  unfold capSt
  rw [List.length_map]
  exact capB_len b1
end
noncomputable def tTrue : TT:=fun _ H Q=>Q true H
noncomputable def PIfs (X : Cx) (ifs : List Expr) (t : TT) : Prop :=
 ∀ (pins : List (Addr × Obj)) (s : Shared) (σ : St) (H : Hp) (Q : Bool→Hp→Prop),Inv X pins σ H s→t σ H Q →
  wpAny (model X.prog X.w) X.A (forIn ifs true fun c r=>if r = true then do let ok ← isTrue c X.env (eval c X.env); pure (ForInStep.yield ok) else pure (ForInStep.yield r)) (TP X pins σ Q) X.xe s
theorem pif_nil {X : Cx} : PIfs X [] tTrue:=fun _ _ _ H _ I h=>wpAny_tests_nil ⟨H,I,h⟩
section
variable {prog : Program} {w : World} {A : Around} {R : Result→Shared→Prop} {s : Shared}
theorem compLoop_go {elt target iter : Expr} {ifs : List Expr} {scope : Scope} {pos : Pos} {it acc : Value} {env : Env} (I : Nat→Shared→Prop)
  (turn : ∀ n s,I n s→wpAny (model prog w) A (pyNext it) (fun r s₁=>match r with
   | none=>R (.ok .next) s₁
   | some v=>wpAny (model prog w) A (letOwnedTupleGo target it v) (fun _ s₁'=>wpAny (model prog w) A (assign target env v) (fun _ s₂ =>
     wpAny (model prog w) A (forIn ifs true fun c r=>if r = true then do let ok ← isTrue c env (eval c env); pure (ForInStep.yield ok) else pure (ForInStep.yield r)) (fun ok s₃ =>
      if ok = true then wpAny (model prog w) A (eval elt env) (fun x s₄ =>
       wpAny (model prog w) A (call (.builtin "list.append") [acc,x]) (fun _ s₅=>∃ m,m < n∧I m s₅) (fun _ _=>False) s₄) (fun _ _=>False) s₃
      else ∃ m,m < n∧I m s₃) (fun _ _=>False) s₂) (fun _ _=>False) s₁') (fun _ _=>False) s₁) (fun _ _=>False) s)
  (n : Nat) (h : I n s) :
  codeAny (model prog w) A (.compLoop (.ListComp elt [⟨target,iter,ifs,0⟩] scope pos) 0 it acc env) R s:=by
 refine codeAny_loop rfl I (fun n s hI=>?_) n h
 show wpAny _ A ((compTurn (.ListComp elt [⟨target,iter,ifs,0⟩] scope pos) 0 it acc env).onRaise (fun x=>do noteFrame x env; theTreesLotGoes x)) _ _ s
 refine wpAny_noted ?_
 rw [compTurn_list]
 refine wpAny_bind (wpAny_standAt (wpAny_bind (wpAny_mono (turn n s hI) (fun r s₁ h₁=>?_) fun _ _ h'=>h'.elim)))
 cases r with
 | none=>exact wpAny_pure h₁
 | some v =>
  refine wpAny_bind (wpAny_mono h₁ (fun _ s₁' h₁'=>wpAny_bind (wpAny_mono h₁' (fun _ s₂ h₂=>wpAny_bind (wpAny_mono h₂ (fun ok s₃ h₃=>?_) fun _ _ h'=>h'.elim)) fun _ _ h'=>h'.elim)) fun _ _ h'=>h'.elim)
  cases ok with
  | false=>exact wpAny_pure ⟨rfl,h₃⟩
  | true =>
   exact wpAny_bind (wpAny_bind (wpAny_mono h₃ (fun x s₄ h₄=>wpAny_bind (wpAny_mono h₄ (fun _ s₅ h₅=>wpAny_pure (wpAny_pure ⟨rfl,h₅⟩)) fun _ _ h'=>h'.elim)) fun _ _ h'=>h'.elim))
end
noncomputable def CapK (a b : St) : Prop:=∀ (j : Nat) v,a[j]? = some (some v)→b[j]? = some (some v)
theorem CapK.refl {a : St} : CapK a a:=fun _ _ h=>h
theorem CapK.set {a b : St} {i : Nat} {v : Option V} (h : CapK a b) (hi : a[i]? = some none) : CapK a (b.set i v):=fun j u e=>by
 by_cases hj : j = i
 ·subst hj; rw [hi] at e; cases e
 ·rw [List.getElem?_set_ne (Ne.symm hj)]; exact h j u e
noncomputable def lcRd (J : It) (cap : List (Option Nat)) (g : TG) (tc : TT) (te : TE) (σ : St) (H1 : Hp) (Q : VK) : Prop :=
 ∀ D,H1 D = none→∃ W : Nat→Nat→Hp→Prop,(∃ m,W 0 m (upd H1 D (.lst [])))∧∀ i m H,W i m H →
  (J.stop i H∧Q (.ref D) H)∨(J.go i H∧∀ x H',J.yld i H x H'→g x (capSt cap σ) H' fun σ2 H2=>CapK (capSt cap σ) σ2∧tc σ2 H2 fun b H3 =>
   if b = true then te σ2 H3 fun y H4=>∃ xs,H4 D = some (.lst xs)∧xs.length < sizeLine∧∃ m',m' < m∧W (i + 1) m' (upd H4 D (.lst (xs ++ [y])))
   else ∃ m',m' < m∧W (i + 1) m' H3)
noncomputable def tLC (wi : TI) (cap : List (Option Nat)) (g : TG) (tc : TT) (te : TE) : TE:=fun σ H Q=>wi σ H fun J H1=>lcRd J cap g tc te σ H1 Q
section
variable {X : Cx} {pins : List (Addr × Obj)} {σ : St} {H : Hp} {s : Shared} {tg elt iter : Expr} {ifs : List Expr} {scope : Scope} {pos : Pos} {N' : List Str} {cap : List (Option Nat)} {g : TG} {tc : TT} {te : TE}
theorem lc_block {E : Value→Shared→Prop} {J : It} {fp : List Addr} {it : Addr} {tn : Nat→Heap→Prop} {Q : VK} {cl : List (Str × Addr)} {RR : Value→Addr→Result→Shared→Prop} (hc : X.calm = true) (hB : lcB X.N X.env.scope scope N' cap = true)
  (hg : ∀ cl C s₀ H₀ ex,PG (lcCx X scope N' cl C s₀ H₀ ex) tg g) (hi : ∀ cl C s₀ H₀ ex,PIfs (lcCx X scope N' cl C s₀ H₀ ex) ifs tc) (he : ∀ cl C s₀ H₀ ex,PE (lcCx X scope N' cl C s₀ H₀ ex) elt te)
  (c1 : ∀ x c,cl.lookup x = some c→X.env.cells.lookup x = some c) (c2 : ∀ x,(x,NameKind.free)∈scope.names→∃ c,cl.lookup x = some c)
  (I : Inv X pins σ H s) (T : Turn X.prog X.w X.K tg J fp it tn) (st : tn 0 s.heap) (hf : ∀ b∈fp,FpOk X pins H b) (rd : lcRd J cap g tc te σ H Q)
  (hRR : ∀ D C s' m H',Inv X pins σ H' s'→s'.heap.Ns C m→FpOk X pins H' C→Q (.ref D) H'→RR (.ref D) C (.ok .next) s') :
  wpAny (model X.prog X.w) X.A (newList []) (fun acc s₃=>wpAny (model X.prog X.w) X.A (newFunctionEnv scope X.env.globals cl [] X.env.qual none .none (some X.env)) (fun cenv s₄ =>
   codeAny (model X.prog X.w) X.A (.compStart (.ListComp elt [⟨tg,iter,ifs,0⟩] scope pos) 0 (.ref it) acc { cenv with scope:=relabel scope X.env }) (RR acc cenv.locals) s₄) E s₃) E s:=by
 have hB':=hB
 simp only [lcB,Bool.and_eq_true] at hB'
 obtain ⟨⟨⟨⟨b1,b2⟩,b3⟩,b4⟩,b5⟩:=hB'
 have kind : scope.kind = .function:=eq_of_beq b2
 have nocell : ∀ y∈scope.names,y.2 ≠ .cell:=fun y hy=>by
  have:=List.all_eq_true.mp b3 y hy
  simpa using this
 have hfp : ∀ b∈fp,b < s.heap.objs.size:=fun b hb=>let ⟨o,e,_⟩:=T.obj 0 _ st b hb; Heap.lt_size e
 refine wpAny_newObj_type (wpAny_newFunctionEnv nocell (by intro y hy; simp at hy) (fun h₁ hns₁ hsb₁=>?_) kind)
 dsimp only at hns₁ hsb₁ ⊢
 have I3 : Inv X pins σ (upd H s.heap.objs.size (.lst [])) { s with heap:=s.heap.push { cls:=.type "list",data:=.seq ([] : List Value).toArray },toks:=s.toks }:=I.lnew (ys:=[]) (its:=[]) .nil (Nat.zero_le _)
 generalize hs3 : ({ s with heap:=s.heap.push { cls:=.type "list",data:=.seq ([] : List Value).toArray },toks:=s.toks } : Shared) = s3 at I3
 have eh : s3.heap = s.heap.push { cls:=.type "list",data:=.seq ([] : List Value).toArray }:=by rw [← hs3]
 have sz3 : s3.heap.objs.size = s.heap.objs.size + 1:=by rw [eh,Heap.size_push]
 obtain ⟨W,⟨m0,w0⟩,turn⟩:=rd s.heap.objs.size (I.hok.fresh (Nat.le_refl _))
 have hf3 : ∀ b∈fp,FpOk X pins (upd H s.heap.objs.size (.lst [])) b:=fun b hb=>⟨by rw [upd_ne (Nat.ne_of_lt (hfp b hb))]; exact (hf b hb).1,(hf b hb).2⟩
 have hex3 : ∀ b∈fp,b < s3.heap.objs.size:=fun b hb=>by rw [sz3]; exact Nat.lt_succ_of_lt (hfp b hb)
 have hns₁' : h₁.Ns s3.heap.objs.size (fun x=>([] : List (Str × Value)).reverse.lookup x):=by rw [eh]; exact hns₁
 have old : ∀ b o,s3.heap.get? b = some o→h₁.get? b = some o:=fun b o e=>by
  refine hsb₁.extBut b o ?_ (Heap.get?_push_of_some _ (by rw [← eh]; exact e))
  rw [← eh]
  exact Nat.ne_of_lt (Heap.lt_size e)
 have I4:=lc_inv (t':=s.toks) hB I3 c1 c2 hf3 hex3 hns₁' old
 have old0 : ∀ b o,s.heap.get? b = some o→h₁.get? b = some o:=fun b o e=>old b o (by rw [eh]; exact Heap.get?_push_of_some _ e)
 have st4 : tn 0 h₁:=T.keep _ _ _ st fun b _ o e=>old0 b o e
 have eC : (s.heap.push { cls:=.type "list",data:=.seq ([] : List Value).toArray }).objs.size = s3.heap.objs.size:=by rw [eh]
 have stat : ∀ {H' : Hp},(∀ b∈fp,H' b = none)→∀ b∈fp,FpOk (lcCx X scope N' cl s3.heap.objs.size s3 (upd H s.heap.objs.size (.lst [])) fp) [] H' b:=fun hn b hb =>
  ⟨hn b hb,Nat.ne_of_lt (hex3 b hb),fun z=>by
   rcases List.mem_cons.mp (I3.stkSub b z) with q | q
   ·exact (hf b hb).2.1 q
   ·exact (hf b hb).2.2.1 q,.inl hb,fun x c e=>(hf b hb).2.2.2.2.1 x c (c1 x c e),fun p hp=>absurd (show p∈([] : List (Addr × Obj)) from hp) (by simp)⟩
 have loop : ∀ s₃ : Shared,s₃ = { s with heap:=h₁,toks:=s.toks + ([] : List (Str × Value)).length } →
   codeAny (model X.prog X.w) X.A (.compLoop (.ListComp elt [⟨tg,iter,ifs,0⟩] scope pos) 0 (.ref it) (.ref s.heap.objs.size) (compEnvC scope cl s3.heap.objs.size X.env)) (RR (.ref s.heap.objs.size) s3.heap.objs.size) s₃:=by
  rintro s₃ rfl
  refine compLoop_go (fun n s'=>∃ i σ' H',Inv (lcCx X scope N' cl s3.heap.objs.size s3 (upd H s.heap.objs.size (.lst [])) fp) [] σ' H' s'∧(∀ (j : Nat) v,(capSt cap σ)[j]? = some (some v)→σ'[j]? = some (some v))∧tn i s'.heap∧(∀ b∈fp,H' b = none)∧W i n H') ?_ m0 ?_
  ·rintro n s' ⟨i,σ',H',I',wk,st',fr',w'⟩
   have I'':=I'.weak (σ':=capSt cap σ) (by rw [I'.len]; show (capSt cap σ).length = N'.length; unfold capSt; rw [List.length_map]; exact capB_len b1) wk
   rcases turn i n H' w' with ⟨stop,q⟩ | ⟨go,step⟩
   ·refine thn (T.done (lcCx X scope N' cl s3.heap.objs.size s3 (upd H s.heap.objs.size (.lst [])) fp) rfl rfl rfl hc i [] s' (capSt cap σ) H' _ I'' (stat fr') st' stop) fun r s4 ⟨hr,I4'⟩=>?_
    subst hr
    have u : Un (frs X.stack) fp H H' s.heap s4.heap:=(Un.laid (o:=.lst []) (fun b o e=>by show s3.heap.get? b = some o; rw [eh]; exact Heap.get?_push_of_some _ e) (Nat.le_refl _) (I.hok.fresh (Nat.le_refl _))).trans I4'.base
    have IX : Inv X pins σ H' s4:=I.call' (I4'.os.trans (by show s3.os = s.os; rw [← hs3])) u I4'.hok I4'.bare fun b hb=>⟨(hf b hb).2.2.2.1,(hf b hb).2.1,(hf b hb).2.2.2.2.1,(hf b hb).2.2.2.2.2⟩
    obtain ⟨m',hm',_⟩:=I4'.loc
    exact hRR _ _ s4 m' H' IX hm' (I.fpOk (by rw [sz3]; exact Nat.le_succ _) I4'.free) q
   ·refine thn (T.item (lcCx X scope N' cl s3.heap.objs.size s3 (upd H s.heap.objs.size (.lst [])) fp) rfl rfl rfl hc i [] s' (capSt cap σ) H' _ I'' (stat fr') st' go) fun r s4 ⟨v,hr,h4⟩=>?_
    subst hr
    refine thn h4 fun _ s5 ⟨x,H5,I5,r5,y5,st5,fr5⟩=>?_
    have I5':=I5.pinned (stat fr5) (T.obj _ _ st5)
    refine thn (hg _ _ _ _ _ _ s5 (capSt cap σ) H5 x v _ I5' r5 (step x H5 y5)) fun _ s6 ⟨σ6,H6,I6,kc6,q6⟩=>?_
    refine thn (hi _ _ _ _ _ _ s6 σ6 H6 _ I6 q6) fun ok s7 ⟨H7,I7,q7⟩=>?_
    have keepT : ∀ {s8 : Shared} {σ8 : St} {H8 : Hp},Inv (lcCx X scope N' cl s3.heap.objs.size s3 (upd H s.heap.objs.size (.lst [])) fp) ([] ++ pinsAt fp s5.heap) σ8 H8 s8→tn (i + 1) s8.heap∧∀ b∈fp,H8 b = none:=fun {s8 σ8 H8} I8 =>
     ⟨T.keep _ _ _ st5 fun b hb o e=>(I8.pin (b,o) (List.mem_append_right _ (List.mem_append_right _ (mem_pinsAt hb e)))).1,fun b hb=>by
      obtain ⟨o,e,d⟩:=T.obj _ _ st5 b hb
      exact (I8.pin (b,o) (List.mem_append_right _ (List.mem_append_right _ (mem_pinsAt hb e)))).2.1⟩
    have again : ∀ {s8 : Shared} {H8 : Hp} {m' : Nat},Inv (lcCx X scope N' cl s3.heap.objs.size s3 (upd H s.heap.objs.size (.lst [])) fp) ([] ++ pinsAt fp s5.heap) σ6 H8 s8→m' < n→W (i + 1) m' H8 →
      ∃ m,m < n∧∃ i σ' H',Inv (lcCx X scope N' cl s3.heap.objs.size s3 (upd H s.heap.objs.size (.lst [])) fp) [] σ' H' s8∧(∀ (j : Nat) v,(capSt cap σ)[j]? = some (some v)→σ'[j]? = some (some v))∧tn i s8.heap∧(∀ b∈fp,H' b = none)∧W i m H':=fun {s8 H8 m'} I8 lt w8=>by
     obtain ⟨k1,k2⟩:=keepT I8
     exact ⟨m',lt,i + 1,σ6,H8,I8.unpinned,kc6,k1,k2,w8⟩
    cases ok with
    | false =>
     rw [if_neg Bool.false_ne_true] at q7 ⊢
     obtain ⟨m',lt,w8⟩:=q7
     exact again I7 lt w8
    | true =>
     rw [if_pos rfl] at q7 ⊢
     refine thn (he _ _ _ _ _ _ s7 σ6 H7 _ I7 q7) fun y s8 ⟨vy,H8,I8,ry,xs,hD,hz,m',lt,w8⟩=>?_
     refine thn (mt_append (X:=lcCx X scope N' cl s3.heap.objs.size s3 (upd H s.heap.objs.size (.lst [])) fp) _ s8 σ6 H8 (.ref s.heap.objs.size) [vy] _ _ (fun _ H'=>H' = upd H8 s.heap.objs.size (.lst (xs ++ [vy]))) I8 rfl (.cons ry .nil) ⟨_,xs,vy,rfl,rfl,hD,hz,rfl⟩) fun _ s9 ⟨_,H9,I9,_,e9⟩=>?_
     subst e9
     exact again I9 lt w8
  ·have eS : ({ s3 with heap:=h₁,toks:=s.toks } : Shared) = { s with heap:=h₁,toks:=s.toks + ([] : List (Str × Value)).length }:=by rw [← hs3]; rfl
   exact ⟨0,capSt cap σ,upd H s.heap.objs.size (.lst []),eS ▸ I4,fun _ _ h=>h,st4,fun b hb=>(hf3 b hb).1,w0⟩
 rw [eC]
 exact codeAny_compStart_list (loop _ rfl) (T.self _ 0 _ _ _ st4 (loop _ rfl))
theorem lcB_names (hB : lcB X.N X.env.scope scope N' cap = true) : ∀ x∈scope.names,x.2 = .local→scope.names.lookup x.1 = some .local:=fun y hy e=>by
 simp only [lcB,Bool.and_eq_true] at hB
 have:=List.all_eq_true.mp hB.1.2 y hy
 rw [e] at this
 simpa using this
theorem lcB_clos (hB : lcB X.N X.env.scope scope N' cap = true) (ok : X.Ok) : ∃ cl : List (Str × Addr),closureFor scope X.env = pure cl∧(∀ x c,cl.lookup x = some c→X.env.cells.lookup x = some c)∧∀ x,(x,NameKind.free)∈scope.names→∃ c,cl.lookup x = some c:=by
 refine closureFor_of fun y hy e=>ok.has y.1 ?_
 simp only [lcB,Bool.and_eq_true] at hB
 have:=List.all_eq_true.mp hB.2 y hy
 rw [e] at this
 simp only [bne_self_eq_false,Bool.false_or,Bool.or_eq_true] at this
 rcases this with z | z
 ·exact .inl (eq_of_beq z)
 ·exact .inr (eq_of_beq z)
theorem pe_lc {wi : TI} (N : List Str) (sc : Scope) (hc : X.calm = true) (hB0 : lcB N sc scope N' cap = true) (hNN : X.N = N) (hsc : X.env.scope = sc) (hit : PI X tg iter wi)
  (hg : ∀ cl C s₀ H₀ ex,PG (lcCx X scope N' cl C s₀ H₀ ex) tg g) (hi : ∀ cl C s₀ H₀ ex,PIfs (lcCx X scope N' cl C s₀ H₀ ex) ifs tc) (he : ∀ cl C s₀ H₀ ex,PE (lcCx X scope N' cl C s₀ H₀ ex) elt te)
  (hs : ∀ x,foldedSetIterable iter X.env x = pure x:=by intro _; rfl) : PE X (.ListComp elt [⟨tg,iter,ifs,0⟩] scope pos) (tLC wi cap g tc te):=by
 intro pins s σ H Q I h
 have hB : lcB X.N X.env.scope scope N' cap = true:=by rw [hNN,hsc]; exact hB0
 have kind : scope.kind = .function:=by
  simp only [lcB,Bool.and_eq_true] at hB
  exact eq_of_beq hB.1.1.1.2
 obtain ⟨cl,ecl,c1,c2⟩:=lcB_clos hB I.ok
 rw [eval_ListComp]
 refine wpAny_comprehension_free (use:=none) rfl hs ecl kind (lcB_names hB) (thn (hit pins s σ H _ I h) fun v s1 h1=>thn h1 fun itv s2 h2=>?_)
 obtain ⟨it,fp,tn,J,H2,e,I2,T,st2,f2,rd⟩:=h2
 subst e
 refine lc_block (RR:=fun acc C=>compPost (model X.prog X.w) X.A X.xe none (EP X pins σ Q) acc C) hc hB hg hi he c1 c2 I2 T st2 f2 rd fun D C s' m H' I' hm fC q=>?_
 exact ⟨m,hm,fun h' hs'=>⟨.ref D,H',I'.turned (t':=s'.toks) (it:=C) (fun b o hb e=>(hs'.2 b hb).trans e) fC.1 fC.2.1 fC.2.2.2.1 fC.2.2.2.2.1 fC.2.2.2.2.2,rfl,q⟩⟩
theorem ps_setLC {wi : TI} {i : Nat} {y : Str} {ypos spos : Pos} (hN : X.N.Nodup) (hiy : X.N[i]? = some y) (hy : Loc X.env.scope y) (N : List Str) (sc : Scope) (hc : X.calm = true) (hB0 : lcB N sc scope N' cap = true) (hNN : X.N = N) (hsc : X.env.scope = sc) (hit : PI X tg iter wi)
  (hg : ∀ cl C s₀ H₀ ex,PG (lcCx X scope N' cl C s₀ H₀ ex) tg g) (hi : ∀ cl C s₀ H₀ ex,PIfs (lcCx X scope N' cl C s₀ H₀ ex) ifs tc) (he : ∀ cl C s₀ H₀ ex,PE (lcCx X scope N' cl C s₀ H₀ ex) elt te)
  (hsw : swapsWith (.ListComp elt [⟨tg,iter,ifs,0⟩] scope pos) (some (.Name y ypos)) spos.line X.env = pure true:=by rfl)
  (hs : ∀ x,foldedSetIterable iter X.env x = pure x:=by intro _; rfl) (hf : X.fn y = true∨X.env.scope.names.lookup y = some .local:=by first | exact .inl rfl | exact .inr rfl | assumption) :
  PS X (.Assign [.Name y ypos] (.ListComp elt [⟨tg,iter,ifs,0⟩] scope pos) spos) (tAsg (tLC wi cap g tc te) (gName i)):=by
 intro pins s σ H D I h
 have hB : lcB X.N X.env.scope scope N' cap = true:=by rw [hNN,hsc]; exact hB0
 have kind : scope.kind = .function:=by
  simp only [lcB,Bool.and_eq_true] at hB
  exact eq_of_beq hB.1.1.1.2
 obtain ⟨cl,ecl,c1,c2⟩:=lcB_clos hB I.ok
 rw [exec_Assign_Name_used _ _ _ _ hsw]
 refine wpAny_bind (wpAny_standAt (wpAny_bind ?_))
 show wpAny _ X.A (do let _ ← comprehension (.ListComp elt [⟨tg,iter,ifs,0⟩] scope pos) scope X.env _ (newList []) false (eval iter X.env) (some (assign (.Name y ypos) X.env))) _ _ s
 refine wpAny_bind (wpAny_mono (wpAny_comprehension_free (use:=some (assign (.Name y ypos) X.env)) (Q:=fun _ s'=>SP X pins D .next s') rfl hs ecl kind (lcB_names hB)
  (thn (hit pins s σ H _ I h) fun v s1 h1=>thn h1 fun itv s2 h2=>?_)) (fun _ s' hq=>wpAny_pure (wpAny_pure hq)) fun _ _ e=>e)
 obtain ⟨it,fp,tn,J,H2,e,I2,T,st2,f2,rd⟩:=h2
 subst e
 refine lc_block (RR:=fun acc C=>compPost (model X.prog X.w) X.A X.xe (some (assign (.Name y ypos) X.env)) (fun _ s'=>SP X pins D .next s') acc C) hc hB hg hi he c1 c2 I2 T st2 f2 rd fun Da C s' m H' I' hm fC q=>?_
 show wpAny _ X.A (assign (.Name y ypos) X.env (.ref Da)) _ _ _
 refine wpAny_assign_Name (store_ok2 (v:=.ref Da) I' hN hiy hy rfl (fun s'' I'' ⟨a,hsa,hav⟩=>?_) hf)
 have haC : C ≠ a:=by
  rcases hav with z | z
  ·rw [z]; exact fC.2.1
  ·exact (fC.2.2.2.2.1 y a z).symm
 refine ⟨m,hm.sameBut hsa haC,fun h' hs'=>⟨σ.set i (some (.ref Da)),H',I''.turned (t':=s''.toks) (it:=C) (fun b o hb e=>(hs'.2 b hb).trans e) fC.1 fC.2.1 fC.2.2.2.1 fC.2.2.2.2.1 fC.2.2.2.2.2,q⟩⟩
end
end L2
namespace L2
open PySem PySem.Spec PyProof.Rows
noncomputable def CDivB (_ j : Int) : Prop:=0 < j∧j.natAbs.log2 < 9000
noncomputable def CMulB (i j : Int) : Prop:=i.natAbs < 2 ^ 8000∧j.natAbs < 2 ^ 8000
theorem bits_le {i : Int} (h : i.natAbs < 2 ^ 8000) : Builtin.Int.intBits i≤2 ^ 20:=by
 unfold Builtin.Int.intBits
 split
 ·exact Nat.zero_le _
 ·rename_i h0
  have hz : i.natAbs ≠ 0:=by
   intro z
   apply h0
   have : i = 0:=by omega
   rw [this]; rfl
  have : i.natAbs.log2 < 8000:=(Nat.log2_lt hz).mpr h
  have e : (2 : Nat) ^ 20 = 1048576:=by decide
  omega
section
variable {X : Cx}
theorem op_fdivB : OpR X (binaryOp .FloorDiv) (rI CDivB fun i j=>.int (i / j)):=opI fun i j _ _ _ _ _ hc q=>by
 have e : i.fdiv j = i / j:=by rw [Int.fdiv_eq_ediv_of_nonneg _ (Int.le_of_lt hc.1)]
 exact floordiv_int (Int.ne_of_gt hc.1) (by rw [e]; exact q) (.inl (PyProof.noPylong_of_log2 hc.2))
theorem op_mulB : OpR X (binaryOp .Mult) (rI CMulB fun i j=>.int (i * j)):=opI fun _ _ _ _ _ _ _ hc q=>mul_int q (IntMulOk.of_bits (bits_le hc.1) (bits_le hc.2))
end
theorem ints_vals : ∀ {ns : List Int} {vs : List Value},Vals (ns.map V.int) vs→IntsAre vs ns
 | [],_,.nil=>.nil
 | n :: ns,_,.cons r t=>by
  obtain ⟨k,rfl⟩:=r
  exact .cons n k (ints_vals t)
section
variable {X : Cx}
theorem call_minL (hc : X.calm = true) : CallR X (.builtin "min") (fun xs H Q=>∃ (p : Addr) (ns : List Int),xs = [.ref p]∧SqL X.K H p (ns.map V.int)∧0 < ns.length∧∀ M,M∈ns→(∀ a,a∈ns→M≤a)→Q (.int M) H):=by
 intro pins s σ H xs us Q I r q
 obtain ⟨p,ns,rfl,hq,hne,q⟩:=q
 obtain ⟨u,rfl,ru⟩:=r.one
 cases ru
 obtain ⟨its,rv,pl,hz⟩:=I.list hq
 have hi:=ints_vals rv
 obtain ⟨zs,e⟩:=hi.allInts.items
 have hns : ns = zs.toList.map (·.1):=by rw [← hi.numsOf,← nums_intItems,← e]
 have hl:=pl.isList
 rw [e] at hl
 have hsz : 0 < zs.size:=by
  have h3:=hne; rw [hns,List.length_map,Array.length_toList] at h3; exact h3
 refine min_intList (I.ok.hd hc) hl hsz fun v h' tk hv hk=>?_
 obtain ⟨t,rfl⟩:=intItems_at hv
 obtain ⟨h1,h2⟩:=argBest_lt (numAt zs) (zs.size - 1)
 refine ⟨.int _,H,I.kept hk,⟨t,rfl⟩,q _ ?_ fun a ha=>?_⟩
 ·rw [hns,numAt_eq]; exact getD_mem (by rw [List.length_map,Array.length_toList]; omega)
 ·rw [hns] at ha
  obtain ⟨j,hj,rfl⟩:=mem_getD ha
  rw [List.length_map,Array.length_toList] at hj
  rw [← numAt_eq]; exact h2 j (by omega)
end
section
variable {X : Cx} {e : Expr} {te : TE} {pos p2 p3 p4 : Pos} {j : Nat}
end
mutual
noncomputable def Has (K : PySem.W.Frag) (H : Hp) : PyData→V→Prop
 | .none,v=>v = .non
 | .bool b,v=>v = .bl b
 | .int i,v=>v = .int i
 | .str x,v=>v = .str x∧(PyData.str x).canLay0 = true
 | .list ds,v=>∃ a xs,v = .ref a∧SqL K H a xs∧HasL K H ds xs
 | .tuple ds,v=>∃ a xs,v = .ref a∧SqT K H a xs∧HasL K H ds xs
 | .dict _,_=>False
noncomputable def HasL (K : PySem.W.Frag) (H : Hp) : List PyData→List V→Prop
 | [],vs=>vs = []
 | d :: ds,vs=>∃ v r,vs = v :: r∧Has K H d v∧HasL K H ds r
end
theorem Same.seqT {K : PySem.W.Frag} {H H' : Hp} {a : Addr} {xs : List V} (e : Same H H') (h : SqT K H a xs) : SqT K H' a xs:=by
 rcases h with (h | ⟨o,h⟩) | h
 ·exact .inl (.inl (e _ _ h))
 ·exact .inl (.inr ⟨o,e _ _ h⟩)
 ·exact .inr h
mutual
theorem Has.same {K : PySem.W.Frag} {H H' : Hp} (e : Same H H') : ∀ {d : PyData} {v : V},Has K H d v→Has K H' d v
 | .none,_,h=>h
 | .bool _,_,h=>h
 | .int _,_,h=>h
 | .str _,_,h=>h
 | .list _,_,⟨a,xs,h1,h2,h3⟩=>⟨a,xs,h1,e.seq h2,HasL.same e h3⟩
 | .tuple _,_,⟨a,xs,h1,h2,h3⟩=>⟨a,xs,h1,e.seqT h2,HasL.same e h3⟩
theorem HasL.same {K : PySem.W.Frag} {H H' : Hp} (e : Same H H') : ∀ {ds : List PyData} {vs : List V},HasL K H ds vs→HasL K H' ds vs
 | [],_,h=>h
 | _ :: _,_,⟨v,r,h1,h2,h3⟩=>⟨v,r,h1,Has.same e h2,HasL.same e h3⟩
end
theorem HasL.length {K : PySem.W.Frag} {H : Hp} : ∀ {ds : List PyData} {vs : List V},HasL K H ds vs→ds.length = vs.length
 | [],vs,h=>by
  have h' : vs = []:=h
  rw [h']; rfl
 | _ :: _,_,⟨v,r,h1,_,h3⟩=>by rw [h1]; exact congrArg (· + 1) (HasL.length h3)
theorem HasL.at {K : PySem.W.Frag} {H : Hp} : ∀ {ds : List PyData} {vs : List V} {i : Nat} {d : PyData},HasL K H ds vs→ds[i]? = some d→∃ v,vs[i]? = some v∧Has K H d v
 | [],_,i,d,_,e=>by simp at e
 | d' :: _,_,0,d,⟨u,r,h1,h2,h3⟩,e=>by
  have : d' = d:=by simpa using e
  subst this; rw [h1]; exact ⟨u,rfl,h2⟩
 | _ :: ds,_,i + 1,d,⟨u,r,h1,h2,h3⟩,e=>by
  obtain ⟨v,q1,q2⟩:=HasL.at (i:=i) (d:=d) h3 (by simpa using e)
  rw [h1]; exact ⟨v,by simpa using q1,q2⟩
theorem HasL.snoc {K : PySem.W.Frag} {H : Hp} {d : PyData} {v : V} (hv : Has K H d v) : ∀ {ds : List PyData} {vs : List V},HasL K H ds vs→HasL K H (ds ++ [d]) (vs ++ [v])
 | [],vs,h=>by
  have h' : vs = []:=h
  rw [h']; exact ⟨v,[],rfl,hv,rfl⟩
 | _ :: _,_,⟨u,r,h1,h2,h3⟩=>by rw [h1]; exact ⟨u,r ++ [v],rfl,h2,HasL.snoc hv h3⟩
theorem HasL.append {K : PySem.W.Frag} {H : Hp} {es : List PyData} {us : List V} (h2 : HasL K H es us) : ∀ {ds : List PyData} {vs : List V},HasL K H ds vs→HasL K H (ds ++ es) (vs ++ us)
 | [],vs,h=>by
  have h' : vs = []:=h
  rw [h']; exact h2
 | _ :: _,_,⟨u,r,g1,g2,g3⟩=>by rw [g1]; exact ⟨u,r ++ us,rfl,g2,HasL.append h2 g3⟩
theorem HasL.reverse {K : PySem.W.Frag} {H : Hp} : ∀ {ds : List PyData} {vs : List V},HasL K H ds vs→HasL K H ds.reverse vs.reverse
 | [],vs,h=>by
  have h' : vs = []:=h
  rw [h']; rfl
 | _ :: _,_,⟨u,r,g1,g2,g3⟩=>by rw [g1,List.reverse_cons,List.reverse_cons]; exact HasL.snoc g2 (HasL.reverse g3)
theorem HasL.set {K : PySem.W.Frag} {H : Hp} {d : PyData} {v : V} (hv : Has K H d v) : ∀ {ds : List PyData} {vs : List V} (i : Nat),HasL K H ds vs→HasL K H (ds.set i d) (vs.set i v)
 | [],vs,_,h=>by
  have h' : vs = []:=h
  rw [h']; rfl
 | _ :: _,_,0,⟨u,r,g1,g2,g3⟩=>by rw [g1]; exact ⟨v,r,rfl,hv,g3⟩
 | _ :: _,_,i + 1,⟨u,r,g1,g2,g3⟩=>by rw [g1]; exact ⟨u,r.set i v,rfl,g2,HasL.set hv i g3⟩
theorem HasL.ints {K : PySem.W.Frag} {H : Hp} : ∀ {ns : List Int} {vs : List V},HasL K H (ns.map PyData.int) vs ↔ vs = ns.map V.int
 | [],_=>Iff.rfl
 | n :: ns,vs=>by
  constructor
  ·rintro ⟨v,r,h1,h2,h3⟩
   have h2' : v = .int n:=h2
   rw [h1,h2',HasL.ints.mp h3]; rfl
  ·rintro rfl
   exact ⟨.int n,ns.map V.int,rfl,rfl,HasL.ints.mpr rfl⟩
section
variable {X : Cx} {pins : List (Addr × Obj)} {σ : St} {H : Hp} {s : Shared}
mutual
theorem Has.reads (I : Inv X pins σ H s) : ∀ {d : PyData} {v : V} {u : Value},Has X.K H d v→RelV v u→∃ as,Reads s.heap u d as
 | .none,v,u,h,r=>by
  have h' : v = .non:=h
  subst h'; cases r; exact ⟨_,.none⟩
 | .bool b,v,u,h,r=>by
  have h' : v = .bl b:=h
  subst h'; cases r; exact ⟨_,.bool b⟩
 | .int i,v,u,h,r=>by
  have h' : v = .int i:=h
  subst h'; obtain ⟨t,rfl⟩:=r; exact ⟨_,.int i t⟩
 | .str x,v,u,h,r=>by
  have h' : v = .str x:=h.1
  subst h'; obtain ⟨t,rfl⟩:=r; exact ⟨_,.str x t⟩
 | .list ds,v,u,h,r=>by
  obtain ⟨a,xs,rfl,hq,hl⟩:=h
  cases r
  obtain ⟨its,rv,⟨o,n,e,c,_,d⟩,hz⟩:=I.list hq
  obtain ⟨as,ra⟩:=HasL.reads I hl rv
  exact ⟨_,.list e c d (by simpa using ra)⟩
 | .tuple ds,v,u,h,r=>by
  obtain ⟨a,xs,rfl,hq,hl⟩:=h
  cases r
  obtain ⟨its,rv,⟨o,e,c,n,d⟩,hz⟩:=I.tuple hq
  obtain ⟨as,ra⟩:=HasL.reads I hl rv
  exact ⟨_,.tuple e c d (by simpa using ra)⟩
 | .dict _,_,_,h,_=>False.elim h
theorem HasL.reads (I : Inv X pins σ H s) : ∀ {ds : List PyData} {vs : List V} {us : List Value},HasL X.K H ds vs→Vals vs us→∃ as,ReadsAll s.heap us ds as
 | [],vs,us,h,r=>by
  have h' : vs = []:=h
  subst h'; cases r; exact ⟨_,.nil⟩
 | d :: ds,vs,us,h,r=>by
  obtain ⟨v,rr,rfl,h1,h2⟩:=h
  cases r with
  | cons r1 r2 =>
   obtain ⟨as,a1⟩:=Has.reads I h1 r1
   obtain ⟨bs,a2⟩:=HasL.reads I h2 r2
   exact ⟨_,.cons a1 a2⟩
end
end
mutual
theorem Has.can {K : PySem.W.Frag} {H : Hp} : ∀ {d : PyData} {v : V},Has K H d v→d.canLay0 = true
 | .none,_,_=>rfl
 | .bool _,_,_=>rfl
 | .int _,_,_=>rfl
 | .str _,_,h=>h.2
 | .list ds,_,⟨_,_,_,_,h⟩=>by simp only [PyData.canLay0]; exact HasL.can h
 | .tuple ds,_,⟨_,_,_,_,h⟩=>by simp only [PyData.canLay0]; exact HasL.can h
theorem HasL.can {K : PySem.W.Frag} {H : Hp} : ∀ {ds : List PyData} {vs : List V},HasL K H ds vs→PyData.canLayAll0 ds = true
 | [],_,_=>rfl
 | d :: ds,_,⟨_,_,_,h1,h2⟩=>by simp only [PyData.canLayAll0,Bool.and_eq_true]; exact ⟨Has.can h1,HasL.can h2⟩
end
noncomputable def rEqD (K : PySem.W.Frag) : R2:=fun x y H Q=>∃ d e,Has K H d x∧Has K H e y∧d.depth≤60∧Q (.bl (PyData.eqv d e)) H
noncomputable def rNeD (K : PySem.W.Frag) : R2:=fun x y H Q=>∃ d e,Has K H d x∧Has K H e y∧d.depth≤60∧Q (.bl (!PyData.eqv d e)) H
section
variable {X : Cx}
theorem op_eqD (hu : X.A.units + 64 < cLine) : OpR X (compareOp .Eq) (rEqD X.K):=by
 intro pins s σ H x y v u Q I rx ry h
 obtain ⟨d,e,hd,he,hk,q⟩:=h
 obtain ⟨as,ra⟩:=hd.reads I rx
 obtain ⟨bs,rb⟩:=he.reads I ry
 exact SeqAt.compareEq_reads ra rb hd.can he.can (by have:=Nat.min_le_left d.depth e.depth; omega) ⟨.bl _,H,I,rfl,q⟩
theorem op_neD (hu : X.A.units + 64 < cLine) : OpR X (compareOp .NotEq) (rNeD X.K):=by
 intro pins s σ H x y v u Q I rx ry h
 obtain ⟨d,e,hd,he,hk,q⟩:=h
 obtain ⟨as,ra⟩:=hd.reads I rx
 obtain ⟨bs,rb⟩:=he.reads I ry
 exact SeqAt.compareNe_reads ra rb hd.can he.can (by have:=Nat.min_le_left d.depth e.depth; omega) ⟨.bl _,H,I,rfl,q⟩
end
end L2
namespace L2
open PySem PySem.Spec PyProof.Rows
noncomputable def vR (i : Nat) : TE:=fun σ H Q=>match σ[i]? with
 | some (some v)=>Q v H
 | _=>False
noncomputable def visB (sc : Scope) (x : Str) : Bool:=match sc.names.lookup x with
 | some .local=>true
 | some .cell=>true
 | some .free=>true
 | _=>false
noncomputable def locB (sc : Scope) (x : Str) : Bool:=match sc.names.lookup x with
 | some .local=>true
 | some .cell=>true
 | _=>false
noncomputable def glB (sc : Scope) (x : Str) : Bool:=match sc.names.lookup x with
 | some .globalImplicit=>true
 | _=>false
noncomputable def visC (sc : Scope) (x : Str) : Bool:=match sc.names.lookup x with
 | some .local=>true
 | some .free=>true
 | _=>false
noncomputable def plain (x : Str) : Bool:=!(x == ("__debug__" : Str)) && !(x == ("__classdict__" : Str))
theorem vis_of {sc : Scope} {x : Str} (h : visB sc x = true) : Vis sc x:=by
 unfold visB at h
 split at h
 ·rename_i e; exact .inl e
 ·rename_i e; exact .inr (.inl e)
 ·rename_i e; exact .inr (.inr e)
 ·cases h
theorem lo {sc : Scope} {x : Str} (h : locB sc x = true) : Loc sc x:=by
 unfold locB at h
 split at h
 ·rename_i e; exact .inl e
 ·rename_i e; exact .inr e
 ·cases h
theorem visC_of {sc : Scope} {env : Env} {x : Str} (h : visC sc x = true) : Vis (relabel sc env) x:=by
 unfold visC at h
 split at h
 ·rename_i e; exact .inl (lookup_relabel_local e)
 ·rename_i e; exact .inr (relabel_free e)
 ·cases h
noncomputable def locC (sc : Scope) (x : Str) : Bool:=match sc.names.lookup x with
 | some .local=>true
 | _=>false
theorem loC {sc : Scope} {env : Env} {x : Str} (h : locC sc x = true) : (relabel sc env).names.lookup x = some .local:=by
 unfold locC at h
 split at h
 ·rename_i e; exact lookup_relabel_local e
 ·cases h
theorem relabel_glob {env : Env} {x : Str} : ∀ {names : List (Str × NameKind)},names.lookup x = some .globalImplicit →
  (names.map fun (n,k)=>if (k == NameKind.free && env.scope.kind == .function && env.kindOf n == some .cell) then (n,NameKind.cell) else (n,k)).lookup x = some .globalImplicit
 | [],h=>by simp at h
 | (n,j) :: r,h=>by
  have ih:=@relabel_glob env x r
  show List.lookup x ((if (j == NameKind.free && env.scope.kind == .function && env.kindOf n == some .cell) = true then (n,NameKind.cell) else (n,j)) :: _) = _
  by_cases hc : (j == NameKind.free && env.scope.kind == .function && env.kindOf n == some .cell) = true
  ·rw [if_pos hc,List.lookup_cons]
   rw [List.lookup_cons] at h
   cases hx : x == n with
   | true =>
    rw [hx] at h
    simp only [Bool.and_eq_true] at hc
    have ej : j = .free:=eq_of_beq hc.1.1
    rw [ej] at h; cases h
   | false=>rw [hx] at h; exact ih h
  ·rw [if_neg hc,List.lookup_cons]
   rw [List.lookup_cons] at h
   cases hx : x == n with
   | true=>rw [hx] at h; exact h
   | false=>rw [hx] at h; exact ih h
section
variable {X : Cx}
theorem gl {sc : Scope} {x : Str} (h : glB sc x = true) (hs : X.env.scope = sc:=by rfl) : Gl X x:=by
 unfold glB at h
 split at h
 ·rename_i e; show X.env.scope.names.lookup x = _; rw [hs]; exact e
 ·cases h
theorem vR_of {e : Expr} {i : Nat} (h : PE X e (tVar i)) : PE X e (vR i):=h.imp fun σ H Q h=>by
 unfold vR at h
 unfold tVar
 split at h
 ·rename_i v e; exact ⟨v,e,h⟩
 ·exact h.elim
theorem plain_of {x : Str} (h : plain x = true) : (x == ("__debug__" : Str)) = false∧(x == ("__classdict__" : Str)) = false:=by
 unfold plain at h
 simpa using h
theorem pV {N : List Str} {sc : Scope} (vt : N.all (fun x=>visB sc x && plain x) = true) (i : Nat) {x : Str} {pos : Pos} (hN : X.N[i]? = some x:=by rfl) (hXN : X.N = N:=by rfl) (hXs : X.env.scope = sc:=by rfl) : PE X (.Name x pos) (vR i):=by
 have h:=List.all_eq_true.mp vt x (by rw [← hXN]; exact List.mem_of_getElem? hN)
 rw [Bool.and_eq_true] at h
 exact vR_of (pe_var hN (by rw [hXs]; exact vis_of h.1) (plain_of h.2).1 (plain_of h.2).2)
end
section
variable {X : Cx} {scope : Scope} {N' : List Str} {cl : List (Str × Addr)} {C : Addr} {s₀ : Shared} {H₀ : Hp} {ex : List Addr} {x : Str} {pos : Pos}
theorem pVc (vt : N'.all (fun x=>visC scope x && plain x) = true) (i : Nat) (hN : N'[i]? = some x:=by rfl) : PE (lcCx X scope N' cl C s₀ H₀ ex) (.Name x pos) (vR i):=by
 have h:=List.all_eq_true.mp vt x (List.mem_of_getElem? hN)
 rw [Bool.and_eq_true] at h
 exact vR_of (pe_var hN (visC_of (env:=X.env) h.1) (plain_of h.2).1 (plain_of h.2).2)
theorem pgC {i : Nat} (hN : N'.Nodup) (h : locC scope x = true) (hi : N'[i]? = some x:=by rfl) : PG (lcCx X scope N' cl C s₀ H₀ ex) (.Name x pos) (gName i) :=
 pg_name hN hi (.inl (loC (env:=X.env) h)) (.inr (loC (env:=X.env) h))
theorem glC (h : glB scope x = true) : Gl (lcCx X scope N' cl C s₀ H₀ ex) x:=by
 unfold glB at h
 split at h
 ·rename_i e; show (relabel scope X.env).names.lookup x = _; exact relabel_glob e
 ·cases h
end
section
variable {X : Cx}
theorem OpR.imp {f : Value→Value→Sem Value} {r r' : R2} (h : OpR X f r) (hi : ∀ x y H Q,r' x y H Q→r x y H Q) : OpR X f r':=fun pins s σ H x y v u Q I rx ry q=>h pins s σ H x y v u Q I rx ry (hi x y H Q q)
theorem IxR.imp {r r' : R2} (h : IxR X r) (hi : ∀ x y H Q,r' x y H Q→r x y H Q) : IxR X r':=fun a b pins s σ H x y v u Q I rx ry q=>h a b pins s σ H x y v u Q I rx ry (hi x y H Q q)
theorem UnR.imp {f : Value→Sem Value} {r r' : V→Hp→VK→Prop} (h : UnR X f r) (hi : ∀ x H Q,r' x H Q→r x H Q) : UnR X f r':=fun pins s σ H x v Q I rx q=>h pins s σ H x v Q I rx (hi x H Q q)
theorem CallR.imp {f : Value} {r r' : List V→Hp→VK→Prop} (h : CallR X f r) (hi : ∀ xs H Q,r' xs H Q→r xs H Q) : CallR X f r':=fun pins s σ H xs us Q I rx q=>h pins s σ H xs us Q I rx (hi xs H Q q)
theorem PIp.imp {op : Operator} {r r' : TIp} (h : PIp X op r) (hi : ∀ x y H Q,r' x y H Q→r x y H Q) : PIp X op r':=fun pins s σ H x y v u Q I rx ry q=>h pins s σ H x y v u Q I rx ry (hi x y H Q q)
theorem PSet.imp {r r' : TSet} (h : PSet X r) (hi : ∀ x y z H Q,r' x y z H Q→r x y z H Q) : PSet X r':=fun pins s σ H x y z v u w Q I rx ry rz q=>h pins s σ H x y z v u w Q I rx ry rz (hi x y z H Q q)
end
noncomputable def rM (g : Int→Int→V) : R2:=fun x y H Q=>match x,y with
 | .int i,.int j=>Q (g i j) H
 | _,_=>False
noncomputable def rMC (C : Int→Int→Prop) (g : Int→Int→V) : R2:=fun x y H Q=>match x,y with
 | .int i,.int j=>C i j∧Q (g i j) H
 | _,_=>False
noncomputable def isNon : V→Bool
 | .non=>true
 | _=>false
theorem isNon_eq (x : V) : decide (x = .non) = isNon x:=by cases x <;> simp [isNon]
section
variable {X : Cx}
theorem opM {f : Value→Value→Sem Value} {g : Int→Int→V} (h : OpR X f (rI0 g)) : OpR X f (rM g):=h.imp fun x y H Q q=>by
 cases x <;> first | exact False.elim q | (cases y <;> first | exact False.elim q | exact ⟨_,_,rfl,rfl,q⟩)
theorem opMC {f : Value→Value→Sem Value} {C : Int→Int→Prop} {g : Int→Int→V} (h : OpR X f (rI C g)) : OpR X f (rMC C g):=h.imp fun x y H Q q=>by
 cases x <;> first | exact False.elim q | (cases y <;> first | exact False.elim q | exact ⟨_,_,rfl,rfl,q.1,q.2⟩)
theorem oAdd : OpR X (binaryOp .Add) (rM fun i j=>.int (i + j)):=opM op_add
theorem oSub : OpR X (binaryOp .Sub) (rM fun i j=>.int (i - j)):=opM op_sub
theorem oMul : OpR X (binaryOp .Mult) (rMC CMulB fun i j=>.int (i * j)):=opMC op_mulB
theorem oDiv : OpR X (binaryOp .FloorDiv) (rMC CDivB fun i j=>.int (i / j)):=opMC op_fdivB
theorem oMod : OpR X (binaryOp .Mod) (rMC (fun _ j=>0 < j) fun i j=>.int (i % j)):=opMC op_mod
theorem oPow : OpR X (binaryOp .Pow) (rMC CPow fun i j=>.int (i ^ j.toNat)):=opMC op_pow
theorem oLt : OpR X (compareOp .Lt) (rM fun i j=>.bl (decide (i < j))):=opM op_lt
theorem oLe : OpR X (compareOp .LtE) (rM fun i j=>.bl (decide (i≤j))):=opM op_le
theorem oGt : OpR X (compareOp .Gt) (rM fun i j=>.bl (decide (j < i))):=opM op_gt
theorem oGe : OpR X (compareOp .GtE) (rM fun i j=>.bl (decide (j≤i))):=opM op_ge
noncomputable def rIsN : R2:=fun x y H Q=>match y with
 | .non=>Q (.bl (isNon x)) H
 | _=>False
noncomputable def rNotN : R2:=fun x y H Q=>match y with
 | .non=>Q (.bl (!isNon x)) H
 | _=>False
theorem oIsN : OpR X (compareOp .Is) rIsN:=op_isN.imp fun x y H Q q=>by
 cases y <;> first | exact False.elim q | (refine ⟨rfl,?_⟩; rw [isNon_eq]; exact q)
theorem oNotN : OpR X (compareOp .IsNot) rNotN:=op_notN.imp fun x y H Q q=>by
 cases y <;> first | exact False.elim q | (refine ⟨rfl,?_⟩; rw [isNon_eq]; exact q)
noncomputable def rUM (g : Int→V) : V→Hp→VK→Prop:=fun x H Q=>match x with
 | .int i=>Q (g i) H
 | _=>False
theorem uNeg : UnR X (unaryOp .USub) (rUM fun i=>.int (-i)):=un_neg.imp fun x H Q q=>by
 cases x <;> first | exact False.elim q | exact ⟨_,rfl,q⟩
end
noncomputable def tTM (t : TE) : TT:=fun σ H Q=>t σ H fun x H'=>match x with
 | .bl k=>Q k H'
 | _=>False
noncomputable def tAndM (ta tb : TE) : TE:=fun σ H Q=>ta σ H fun x H1=>match x with
 | .bl c=>if c = true then tb σ H1 Q else Q (.bl false) H1
 | _=>False
noncomputable def tNotM (ta : TE) : TE:=fun σ H Q=>ta σ H fun x H1=>match x with
 | .bl c=>Q (.bl (!c)) H1
 | _=>False
noncomputable def tChM (r r' : R2) (ta tb tc : TE) : TE:=fun σ H Q=>ta σ H fun x H1=>tb σ H1 fun y H2=>r x y H2 fun z H3=>match z with
 | .bl k=>if k = true then tc σ H3 fun w' H4=>r' y w' H4 Q else Q (.bl false) H3
 | _=>False
section
variable {X : Cx} {a b c e : Expr} {ta tb tc t : TE} {pos : Pos} {rest : List Expr}
theorem ptC {op : CmpOp} {r : R2} (ho : OpR X (compareOp op) r) (ha : PE X a ta) (hb : PE X b tb) (hm : behindInMarks op b = false:=by first | exact nomark _ | rfl) : PT X (.Compare a [op] [b] pos) (tTM (tOp r ta tb)):=by
 intro pins s σ H Q I h
 refine wpAny_isTrue_Compare1 (thn (ha pins s σ H _ I h) fun v s1 ⟨x,H1,I1,r1,q1⟩=>thn (hb pins s1 σ H1 _ I1 q1) fun u s2 ⟨y,H2,I2,r2,q2⟩ =>
  thn (ho pins s2 σ H2 x y v u _ I2 r1 r2 q2) fun c s3 ⟨z,H3,I3,r3,q3⟩=>?_) hm
 cases z <;> first | exact False.elim q3 | (cases r3; exact wpAny_truthy_bool ⟨H3,I3,q3⟩)
theorem peC {op : CmpOp} {r : R2} (ho : OpR X (compareOp op) r) (ha : PE X a ta) (hb : PE X b tb) (hm : behindInMarks op b = false:=by first | exact nomark _ | rfl) : PE X (.Compare a [op] [b] pos) (tOp r ta tb):=pe_cmpR ho ha hb hm
theorem ptV (h : PE X e t) (he : ∀ whole,isTrue e X.env whole = (do let v ← whole; standAt e.pos; holding [v] (truthy v)):=by intro _; rfl) : PT X e (tTM t):=by
 intro pins s σ H Q I hw
 refine isTrue_plain (thn (h pins s σ H _ I hw) fun v s1 ⟨x,H1,I1,r1,q1⟩=>?_) (he _)
 cases x <;> first | exact False.elim q1 | (cases r1; exact wpAny_truthy_bool ⟨H1,I1,q1⟩)
theorem peAnd (ha : PE X a ta) (hb : PE X (.BoolOp .And (b :: rest) pos) tb) : PE X (.BoolOp .And (a :: b :: rest) pos) (tAndM ta tb):=by
 intro pins s σ H Q I h
 refine BoolOp_and (thn (ha pins s σ H _ I h) fun v s1 ⟨x,H1,I1,r1,q1⟩=>?_)
 cases x with
 | bl c =>
  cases r1
  refine wpAny_truthy_bool ?_
  cases c with
  | true=>exact hb pins s1 σ H1 Q I1 q1
  | false=>exact ⟨.bl false,H1,I1,rfl,q1⟩
 | _=>exact False.elim q1
theorem peNot (ha : PE X a ta) : PE X (.UnaryOp .Not a pos) (tNotM ta):=by
 intro pins s σ H Q I h
 refine UnaryOp_ (thn (ha pins s σ H _ I h) fun v s1 ⟨x,H1,I1,r1,q1⟩=>?_)
 cases x with
 | bl c=>cases r1; exact not_of (wpAny_truthy_bool ⟨.bl (!c),H1,I1,rfl,q1⟩)
 | _=>exact False.elim q1
theorem peCh {op op' : CmpOp} {r r' : R2} (ho : OpR X (compareOp op) r) (ho' : OpR X (compareOp op') r') (ha : PE X a ta) (hb : PE X b tb) (hc : PE X c tc)
  (hm : lastMarks [op,op'] [b,c] = false:=by with_unfolding_all rfl) : PE X (.Compare a [op,op'] [b,c] pos) (tChM r r' ta tb tc):=by
 intro pins s σ H Q I h
 refine Compare_chain (thn (ha pins s σ H _ I h) fun v s1 ⟨x,H1,I1,r1,q1⟩=>chain_link (thn (hb pins s1 σ H1 _ I1 q1) fun u s2 ⟨y,H2,I2,r2,q2⟩ =>
  thn (ho pins s2 σ H2 x y v u _ I2 r1 r2 q2) fun d s3 ⟨z,H3,I3,r3,q3⟩=>?_)) hm
 cases z with
 | bl k =>
  cases r3
  refine wpAny_truthy_bool ?_
  cases k with
  | false=>exact ite_ff ⟨.bl false,H3,I3,rfl,q3⟩
  | true=>exact ite_tt (chain_last (thn (hc pins s3 σ H3 _ I3 q3) fun w' s4 ⟨z',H4,I4,r4,q4⟩=>ho' pins s4 σ H4 y z' u w' Q I4 r2 r4 q4))
 | _=>exact False.elim q3
end
noncomputable def rIxLM (K : PySem.W.Frag) : R2:=fun x y H Q=>match x,y with
 | .ref p,.int i=>∃ xs v,SqL K H p xs∧atI xs i = some v∧Q v H
 | _,_=>False
section
variable {X : Cx} {a b o e : Expr} {ta tb to te : TE} {pos apos cpos : Pos}
theorem ixN_len {n m : Nat} {i : Int} (h : n = m) : ixN n i = ixN m i:=by rw [h]
noncomputable def rSetM : TSet:=fun o i v H Q=>match o,i with
 | .ref p,.int k=>∃ xs j,H p = some (.lst xs)∧ixN xs.length k = some j∧Q (upd H p (.lst (xs.set j v)))
 | _,_=>False
theorem setL : PSet X rSetM:=set_list.imp fun x y z H Q q=>by
 cases x <;> first | exact False.elim q | (cases y <;> first | exact False.elim q | (obtain ⟨xs,j,h1,h2,h3⟩:=q; exact ⟨_,xs,_,j,rfl,rfl,h1,h2,h3⟩))
noncomputable def rLenM (K : PySem.W.Frag) : List V→Hp→VK→Prop:=fun xs H Q=>match xs with
 | [.ref p]=>∃ ys,(SqL K H p ys∨SqT K H p ys)∧Q (.int ys.length) H
 | _=>False
theorem cLen : CallR X (.builtin "len") (rLenM X.K):=call_len_seq.imp fun xs H Q q=>by
 match xs,q with
 | [.ref p],⟨ys,h1,h2⟩=>exact ⟨p,ys,rfl,h1,h2⟩
noncomputable def rAbsM : List V→Hp→VK→Prop:=fun xs H Q=>match xs with
 | [.int i]=>Q (.int (if i < 0 then -i else i)) H
 | _=>False
theorem cAbs : CallR X (.builtin "abs") rAbsM:=call_abs.imp fun xs H Q q=>by
 match xs,q with
 | [.int i],q=>exact ⟨i,rfl,q⟩
noncomputable def rListM (K : PySem.W.Frag) : List V→Hp→VK→Prop:=fun xs H Q=>match xs with
 | [.ref p]=>∃ ys,(SqL K H p ys∨SqT K H p ys)∧∀ l,H l = none→Q (.ref l) (upd H l (.lst ys))
 | _=>False
theorem cList : CallR X (.type "list") (rListM X.K):=call_list_of.imp fun xs H Q q=>by
 match xs,q with
 | [.ref p],⟨ys,h1,h2⟩=>exact ⟨p,ys,rfl,h1,h2⟩
noncomputable def rMinM (K : PySem.W.Frag) : List V→Hp→VK→Prop:=fun xs H Q=>match xs with
 | [.ref p]=>∃ ns : List Int,SqL K H p (ns.map V.int)∧0 < ns.length∧∀ M,M∈ns→(∀ a,a∈ns→M≤a)→Q (.int M) H
 | _=>False
theorem cMin (hc : X.calm = true) : CallR X (.builtin "min") (rMinM X.K):=(call_minL hc).imp fun xs H Q q=>by
 match xs,q with
 | [.ref p],⟨ys,h1,h2,h3⟩=>exact ⟨p,ys,rfl,h1,h2,h3⟩
noncomputable def rAppM : V→List V→Hp→VK→Prop:=fun x vs H Q=>match x,vs with
 | .ref l,[y]=>∃ ys,H l = some (.lst ys)∧ys.length < sizeLine∧Q .non (upd H l (.lst (ys ++ [y])))
 | _,_=>False
theorem mApp : MtR X "list.append" rAppM:=fun pins s σ H x xs v us Q I rx rv q=>mt_append pins s σ H x xs v us Q I rx rv (by
 match x,xs,q with
 | .ref l,[y],⟨ys,h1,h2,h3⟩=>exact ⟨l,ys,y,rfl,rfl,h1,h2,h3⟩)
theorem peApp {to : TE} {t : TA} (ho : PE X o to) (ha : PA X [e] t)
  (hbase : attributeBase o "append" X.env (eval o X.env) = eval o X.env:=by rfl)
  (hfew : ((backTo cpos (starEach [e] X.env)).all (fun x=>!x.1) && (backToKw cpos (keywordEach [] X.env)).all (fun x=>x.1.isSome)
   && decide (([e] : List Expr).length + ([] : List Keyword).length + (if ([] : List Keyword).isEmpty then 0 else 1) < 30)) = true:=by rfl)
  (hline : (apos.endLine == cpos.line) = true:=by rfl) (hs : starEach [e] X.env = (false,eval e X.env) :: starEach [] X.env:=by rfl) (hplain : (backTo cpos (starEach [] X.env)).any (·.1) = false:=by rfl) :
  PE X (.Call (.Attribute o "append" apos) [e] [] cpos) (tBM X.K "list" rAppM to t):=pe_bm PySem.F.plainAttrs_list PySem.F.slot_list_append PySem.F.type_list_append mApp ho ha hbase hfew hline hs hplain
structure Cal (P : Program) (w : World) (K : PySem.W.Frag) (mg : Str→Option Value) (base : Heap) (k : Nat) (x : Str) (ps : List Str) (sp : Sp) : Prop where
 ex : ∃ f fd,FnOk P w K mg base CX0 k f fd ps sp∧mg x = some (.ref f)∧PySem.W.keepIn K (.ref f) = true∧Binds K fd ps []
theorem peCal {k : Nat} {x : Str} {ps : List Str} {sp : Sp} {p : Pos} {es : List Expr} {t : TA} (C : Cal X.prog X.w X.K X.mg X.base k x ps sp) (hr : Room k X.A) (hg : Gl X x) (ha : PA X (e :: es) t)
  (hdb : (x == ("__debug__" : Str)) = false:=by decide) (he : starEach (e :: es) X.env = (false,eval e X.env) :: starEach es X.env:=by rfl) (hpl : (backTo pos (starEach es X.env)).any (·.1) = false:=by rfl) :
  PE X (.Call (.Name x p) (e :: es) [] pos) (tCall sp [] E0 t):=by
 obtain ⟨f,fd,F,hm,hk,hb⟩:=C.ex
 exact pe_call F hr hg hm hk hb .nil pass0 ha hdb he hpl
noncomputable def gNilM : TGs:=fun vs σ H Q=>match vs with
 | []=>Q σ H
 | _=>False
noncomputable def gConsM (t : TG) (u : TGs) : TGs:=fun vs σ H Q=>match vs with
 | v :: r=>t v σ H fun σ' H'=>u r σ' H' Q
 | []=>False
noncomputable def gTupM (K : PySem.W.Frag) (n : Nat) (t : TGs) : TG:=fun v σ H Q=>match v with
 | .ref a=>∃ xs,SqT K H a xs∧xs.length = n∧t xs σ H Q
 | _=>False
theorem pgsNil : PGs X [] gNilM:=by
 intro pins s σ H vs us Q I r h
 cases vs with
 | nil=>cases r; exact assignInOrder_nil ⟨σ,H,I,h⟩
 | cons _ _=>exact False.elim h
theorem pgsCons {es : List Expr} {t : TG} {u : TGs} (h1 : PG X e t) (h2 : PGs X es u)
  (hs : (assignEach (e :: es) X.env).map (·.2) = assign e X.env :: (assignEach es X.env).map (·.2):=by rfl) : PGs X (e :: es) (gConsM t u):=by
 intro pins s σ H vs us Q I r h
 cases vs with
 | nil=>exact False.elim h
 | cons v vr =>
  cases r with
  | cons r rr =>
   rw [hs]
   refine assignInOrder_cons (thn (h1 pins s σ H _ _ _ I r h) fun _ s1 ⟨σ1,H1,I1,q1⟩=>?_)
   exact h2 pins s1 σ1 H1 _ _ Q I1 rr q1
theorem pgTup {es : List Expr} {k n : Nat} {t : TGs} (hc : X.calm = true) (h : PGs X es t)
  (hn : (assignEach es X.env).length = n:=by rfl) (hst : (assignEach es X.env).findIdx? (·.1) = none:=by rfl) : PG X (.Tuple es k pos) (gTupM X.K n t):=by
 intro pins s σ H v u Q I r hw
 cases v with
 | ref a =>
  obtain ⟨xs,hq,hl,hw⟩:=hw
  exact pg_tup hc h hn hst pins s σ H (.ref a) u Q I r ⟨a,xs,rfl,hq,hl,hw⟩
 | _=>exact False.elim hw
end
end L2
namespace L2
open PySem PySem.Spec PyProof.Rows
noncomputable def forRd (J : It) (g : TG) (tb : TS) (D : Ends) (σ : St) (H1 : Hp) : Prop:=∃ W : Nat→Nat→St→Hp→Prop,(∃ m,W 0 m σ H1)∧∀ i m σ H,W i m σ H →
 (J.stop i H∧D.nx σ H)∨(J.go i H∧∃ N : St→Hp→Prop,(∀ σ' H',N σ' H'→∃ m',m' < m∧W (i + 1) m' σ' H')∧∀ x H',J.yld i H x H'→g x σ H' fun σ2 H2=>tb { D with nx:=N,ct:=N,bk:=D.nx } σ2 H2)
theorem tFor_eq {wi : TI} {g : TG} {tb : TS} {D : Ends} {σ : St} {H : Hp} : tFor wi g tb D σ H = wi σ H fun J H1=>forRd J g tb D σ H1:=rfl
theorem CapK.nil : CapK [] []:=CapK.refl
theorem ixN_last {n : Nat} (h : 0 < n) : ixN n (-1) = some (n - 1):=by
 unfold ixN
 rw [if_neg (by decide),if_pos (by omega)]
 congr 1
 omega
theorem same_upd_new {H : Hp} {p : Addr} {o : HO} (h : H p = none) : Same H (upd H p o):=fun b u e=>by rw [upd_ne (ne_of_none e h)]; exact e
end L2
namespace L2
open PySem
theorem PT.imp {X : Cx} {e : Expr} {t t' : TT} (h : PT X e t) (ht : ∀ σ H Q,t' σ H Q→t σ H Q) : PT X e t':=fun pins s σ H Q I q=>h pins s σ H Q I (ht σ H Q q)
theorem PW.imp {X : Cx} {e : Expr} {t t' : TT} (h : PW X e t) (ht : ∀ σ H Q,t' σ H Q→t σ H Q) : PW X e t':=fun wh pins s σ H Q I q=>h wh pins s σ H Q I (ht σ H Q q)
theorem PS.imp {X : Cx} {e : Stmt} {t t' : TS} (h : PS X e t) (ht : ∀ D σ H,t' D σ H→t D σ H) : PS X e t':=fun pins s σ H Q I q=>h pins s σ H Q I (ht Q σ H q)
theorem PSs.imp {X : Cx} {e : List Stmt} {t t' : TS} (h : PSs X e t) (ht : ∀ D σ H,t' D σ H→t D σ H) : PSs X e t':=fun pins s σ H Q I q=>h pins s σ H Q I (ht Q σ H q)
theorem PA.imp {X : Cx} {e : List Expr} {t t' : TA} (h : PA X e t) (ht : ∀ σ H Q,t' σ H Q→t σ H Q) : PA X e t':=fun pos pins s σ H Q I q=>h pos pins s σ H Q I (ht σ H Q q)
theorem PG.imp {X : Cx} {e : Expr} {t t' : TG} (h : PG X e t) (ht : ∀ v σ H Q,t' v σ H Q→t v σ H Q) : PG X e t':=fun pins s σ H v u Q I r q=>h pins s σ H v u Q I r (ht v σ H Q q)
theorem PI.imp {X : Cx} {tg e : Expr} {t t' : TI} (h : PI X tg e t) (ht : ∀ σ H Q,t' σ H Q→t σ H Q) : PI X tg e t':=fun pins s σ H Q I q=>h pins s σ H Q I (ht σ H Q q)
theorem PO.imp {X : Cx} {e : Option Expr} {t t' : TO} (h : PO X e t) (ht : ∀ σ H Q,t' σ H Q→t σ H Q) : PO X e t':=fun pins s σ H Q I q=>h pins s σ H Q I (ht σ H Q q)
end L2
namespace VM
open PySem L2
noncomputable abbrev St:=L2.St
inductive Tg where
 | fr | ow | io | rf | ce
 deriving DecidableEq
noncomputable def Tg.dat : Tg→Bool
 | .rf=>false
 | .ce=>false
 | _=>true
noncomputable def Tg.own : Tg→Bool
 | .fr=>false
 | .rf=>false
 | _=>true
noncomputable abbrev GS:=List (Option (Tg × PyData))
noncomputable abbrev VE:=GS→Option PyData
noncomputable def imo : HO→Bool
 | .tup _=>true
 | .frz _ (.tup _)=>true
 | _=>false
structure Grow (F H F' H' : Hp) : Prop where
 hh : Same H H'
 ff : Same F F'
 fh : Same F' H'
 new : ∀ a o,F' a = some o→F a = some o∨H a = none∨imo o = true
 pl : ∀ a o u,F' a = some (.frz o (.lst u))→F a = some (.frz o (.lst u))
theorem Grow.refl {F H : Hp} (h : Same F H) : Grow F H F H:=⟨Same.refl _,Same.refl _,h,fun _ _ e=>.inl e,fun _ _ _ e=>e⟩
theorem Grow.trans {F H F1 H1 F2 H2 : Hp} (a : Grow F H F1 H1) (b : Grow F1 H1 F2 H2) : Grow F H F2 H2:=⟨a.hh.trans b.hh,a.ff.trans b.ff,b.fh,fun p o e=>by
 rcases b.new p o e with h | h | h
 ·exact a.new p o h
 ·exact .inr (.inl (a.hh.free h))
 ·exact .inr (.inr h),fun p o u e=>a.pl p o u (b.pl p o u e)⟩
theorem Grow.alloc {F H : Hp} {p : Addr} {o : HO} (h : Same F H) (hp : H p = none) : Grow F H F (upd H p o) :=
 ⟨same_upd_new hp,Same.refl _,h.trans (same_upd_new hp),fun _ _ e=>.inl e,fun _ _ _ e=>e⟩
theorem Grow.allocF {F H : Hp} {p : Addr} {o : HO} (h : Same F H) (hp : H p = none) (ho : ∀ x u,o ≠ .frz x u:=by intros; intro z; cases z) : Grow F H (upd F p o) (upd H p o):=by
 have hF : F p = none:=h.free hp
 refine ⟨same_upd_new hp,same_upd_new hF,fun b u e=>?_,fun b u e=>?_,fun b x u e=>?_⟩
 ·by_cases hb : b = p
  ·subst hb; rw [upd_same] at e ⊢; exact e
  ·rw [upd_ne hb] at e ⊢; exact h b u e
 ·by_cases hb : b = p
  ·subst hb; exact .inr (.inl hp)
  ·rw [upd_ne hb] at e; exact .inl e
 ·by_cases hb : b = p
  ·subst hb; rw [upd_same] at e; exact absurd (Option.some.inj e) (ho _ _)
  ·rw [upd_ne hb] at e; exact e
mutual
noncomputable def imm : PyData→Bool
 | .none=>true
 | .bool _=>true
 | .int _=>true
 | .str _=>true
 | .tuple ds=>immL ds
 | _=>false
noncomputable def immL : List PyData→Bool
 | []=>true
 | d :: ds=>imm d && immL ds
end
noncomputable def wide (F H : Hp) : Hp:=fun a=>match H a with
 | some o=>if imo o = true then some o else F a
 | none=>none
theorem wide_imo {F H : Hp} {a : Addr} {o : HO} (h : H a = some o) (hi : imo o = true) : wide F H a = some o:=by
 unfold wide; rw [h]; simp only [hi,if_true]
theorem wide_grow {F H F1 H' : Hp} (g : Grow F H F1 H') : Grow F H (wide F1 H') H':=by
 have key : ∀ a o,F1 a = some o→wide F1 H' a = some o:=fun a o e=>by
  have e2:=g.fh a o e
  unfold wide; rw [e2]
  by_cases hi : imo o = true
  ·simp only [hi,if_true]
  ·simp only [hi]; exact e
 refine ⟨g.hh,fun a o e=>key a o (g.ff a o e),fun a o e=>?_,fun a o e=>?_,fun a x u e=>?_⟩
 ·unfold wide at e
  cases q : H' a with
  | none=>rw [q] at e; cases e
  | some u =>
   rw [q] at e
   by_cases hi : imo u = true
   ·simp only [hi,if_true] at e; exact e
   ·simp only [hi] at e
    rw [← q]; exact g.fh a o e
 ·unfold wide at e
  cases q : H' a with
  | none=>rw [q] at e; cases e
  | some u =>
   rw [q] at e
   by_cases hi : imo u = true
   ·simp only [hi,if_true] at e
    cases e
    exact .inr (.inr hi)
   ·simp only [hi] at e
    exact g.new a o e
 ·unfold wide at e
  cases q : H' a with
  | none=>rw [q] at e; cases e
  | some w =>
   rw [q] at e
   by_cases hi : imo w = true
   ·simp only [hi,if_true] at e
    cases e
    cases hi
   ·simp only [hi] at e
    exact g.pl a x u e
theorem wide_none {F H : Hp} {a : Addr} {xs : List V} (h : H a = some (.lst xs)) (hf : F a = none) : wide F H a = none:=by
 unfold wide; rw [h]; simpa [imo] using hf
theorem wide_tup {K : PySem.W.Frag} {F H : Hp} {a : Addr} {xs : List V} (h : SqT K H a xs) : SqT K (wide F H) a xs:=by
 rcases h with (h | ⟨o,h⟩) | h
 ·exact .inl (.inl (wide_imo h rfl))
 ·exact .inl (.inr ⟨o,wide_imo h rfl⟩)
 ·exact .inr h
mutual
theorem imm_wide {K : PySem.W.Frag} {F H : Hp} : ∀ {d : PyData} {v : V},imm d = true→Has K H d v→Has K (wide F H) d v
 | .none,_,_,h=>h
 | .bool _,_,_,h=>h
 | .int _,_,_,h=>h
 | .str _,_,_,h=>h
 | .list _,_,f,_=>by simp [imm] at f
 | .tuple ds,_,f,⟨a,xs,e,hq,hl⟩=>⟨a,xs,e,wide_tup hq,immL_wide (by simpa [imm] using f) hl⟩
 | .dict _,_,f,_=>by simp [imm] at f
theorem immL_wide {K : PySem.W.Frag} {F H : Hp} : ∀ {ds : List PyData} {vs : List V},immL ds = true→HasL K H ds vs→HasL K (wide F H) ds vs
 | [],_,_,h=>h
 | d :: ds,_,f,⟨v,r,h1,h2,h3⟩=>by
  simp only [immL,Bool.and_eq_true] at f
  exact ⟨v,r,h1,imm_wide f.1 h2,immL_wide f.2 h3⟩
end
noncomputable def OwnAt (K : PySem.W.Frag) (H₀ F H : Hp) (d : PyData) (v : V) : Prop:=∃ a ds xs,d = .list ds∧v = .ref a∧H a = some (.lst xs)∧F a = none∧H₀ a = none∧HasL K F ds xs
noncomputable def ItemIs (K : PySem.W.Frag) (F : Hp) : PyData→V→Prop
 | .dict [(.int i,.none)],v=>∃ a : Addr,i = (a : Int)∧v = .ref a
 | d,v=>Has K F d v
noncomputable def ItemsAre (K : PySem.W.Frag) (F : Hp) : List PyData→List V→Prop
 | [],vs=>vs = []
 | d :: ds,vs=>∃ v r,vs = v :: r∧ItemIs K F d v∧ItemsAre K F ds r
noncomputable def KeysAre (K : PySem.W.Frag) (F : Hp) : List (PyData × PyData)→List (L2.Key × V)→Prop
 | [],vs=>vs = []
 | (k,d) :: ds,vs=>∃ k' v r,vs = (k',v) :: r∧(match k with | .int i=>k' = Sum.inl i | .str x=>k' = Sum.inr x | _=>False)∧ItemIs K F d v∧KeysAre K F ds r
noncomputable def FldsAre (K : PySem.W.Frag) (F : Hp) : List (PyData × PyData)→List (Str × V)→Prop
 | [],vs=>vs = []
 | (k,d) :: ds,vs=>∃ x v r,vs = (x,v) :: r∧k = .str x∧ItemIs K F d v∧FldsAre K F ds r
noncomputable def CellIs (K : PySem.W.Frag) (F : Hp) : PyData→HO→Prop
 | .list ds,o=>∃ xs,o = .lst xs∧ItemsAre K F ds xs
 | .dict ks,o=>∃ kvs,o = .dK kvs∧KeysAre K F ks kvs
 | .tuple [.int C,.int dx,.dict fs],o=>∃ C' dx' fvs,C = ((C' : Nat) : Int)∧dx = ((dx' : Nat) : Int)∧o = .ins C' dx' fvs∧FldsAre K F fs fvs
 | .tuple [.int C],o=>∃ C',C = ((C' : Nat) : Int)∧o = .own C'
 | _,_=>False
noncomputable def CellAt (K : PySem.W.Frag) (H₀ F H : Hp) (d : PyData) (v : V) : Prop:=∃ a c o,d = .tuple [.int ((a : Addr) : Int),c]∧v = .ref a∧H a = some o∧F a = none∧H₀ a = none∧CellIs K F c o
theorem ItemIs.same {K : PySem.W.Frag} {F F' : Hp} (e : Same F F') {d : PyData} {v : V} (h : ItemIs K F d v) : ItemIs K F' d v:=by
 unfold ItemIs at h ⊢
 split at h
 ·exact h
 ·exact Has.same e h
theorem ItemsAre.same {K : PySem.W.Frag} {F F' : Hp} (e : Same F F') : ∀ {ds : List PyData} {vs : List V},ItemsAre K F ds vs→ItemsAre K F' ds vs
 | [],_,h=>h
 | _ :: _,_,⟨v,r,h1,h2,h3⟩=>⟨v,r,h1,h2.same e,ItemsAre.same e h3⟩
theorem KeysAre.same {K : PySem.W.Frag} {F F' : Hp} (e : Same F F') : ∀ {ds : List (PyData × PyData)} {vs : List (L2.Key × V)},KeysAre K F ds vs→KeysAre K F' ds vs
 | [],_,h=>h
 | (_,_) :: _,_,⟨k,v,r,h1,h2,h3,h4⟩=>⟨k,v,r,h1,h2,h3.same e,KeysAre.same e h4⟩
theorem FldsAre.same {K : PySem.W.Frag} {F F' : Hp} (e : Same F F') : ∀ {ds : List (PyData × PyData)} {vs : List (Str × V)},FldsAre K F ds vs→FldsAre K F' ds vs
 | [],_,h=>h
 | (_,_) :: _,_,⟨k,v,r,h1,h2,h3,h4⟩=>⟨k,v,r,h1,h2,h3.same e,FldsAre.same e h4⟩
theorem CellIs.same {K : PySem.W.Frag} {F F' : Hp} (e : Same F F') {c : PyData} {o : HO} (h : CellIs K F c o) : CellIs K F' c o:=by
 unfold CellIs at h ⊢
 split at h
 ·obtain ⟨xs,h1,h2⟩:=h; exact ⟨xs,h1,h2.same e⟩
 ·obtain ⟨xs,h1,h2⟩:=h; exact ⟨xs,h1,h2.same e⟩
 ·obtain ⟨C',dx',fvs,h1,h2,h3,h4⟩:=h; exact ⟨C',dx',fvs,h1,h2,h3,h4.same e⟩
 ·exact h
 ·exact h.elim
theorem CellIs.mut {K : PySem.W.Frag} {F : Hp} {c : PyData} {o : HO} (h : CellIs K F c o) : imo o = false:=by
 unfold CellIs at h
 split at h
 ·obtain ⟨xs,rfl,_⟩:=h; rfl
 ·obtain ⟨xs,rfl,_⟩:=h; rfl
 ·obtain ⟨C',dx',fvs,_,_,rfl,_⟩:=h; rfl
 ·obtain ⟨C',_,rfl⟩:=h; rfl
 ·exact h.elim
noncomputable def SlotOk (K : PySem.W.Frag) (ioA : Nat→Option Addr) (H₀ F H : Hp) (i : Nat) : Tg→PyData→V→Prop
 | .fr,d,v=>Has K F d v
 | .ow,d,v=>OwnAt K H₀ F H d v
 | .io,d,v=>OwnAt K H₀ F H d v∧∃ a,v = .ref a∧ioA i = some a
 | .rf,d,v=>∃ a : Addr,d = .int (a : Int)∧v = .ref a
 | .ce,d,v=>CellAt K H₀ F H d v
structure VI (K : PySem.W.Frag) (ioA : Nat→Option Addr) (G H₀ : Hp) (S : GS) (F : Hp) (σ : St) (H : Hp) : Prop where
 len : S.length = σ.length
 same : Same H₀ H
 gf : Same G F
 new : ∀ a o,F a = some o→G a = some o∨H₀ a = none∨imo o = true
 sub : Same F H
 slot : ∀ (i : Nat) t d,S[i]? = some (some (t,d))→∃ v,σ[i]? = some (some v)∧SlotOk K ioA H₀ F H i t d v
 inj : ∀ (i j : Nat) t t' d d' v,S[i]? = some (some (t,d))→S[j]? = some (some (t',d'))→t.own = true→t'.own = true→σ[i]? = some (some v)→σ[j]? = some (some v)→i = j
 pl : ∀ a o u,F a = some (.frz o (.lst u))→G a = some (.frz o (.lst u))
section
variable {K : PySem.W.Frag} {ioA : Nat→Option Addr} {G H₀ F H F' H' : Hp} {S : GS} {σ : St}
theorem OwnAt.grow {d : PyData} {v : V} (g : Grow F H F' H') (h : OwnAt K H₀ F H d v) : OwnAt K H₀ F' H' d v:=by
 obtain ⟨a,ds,xs,e1,e2,e3,e4,e5,e6⟩:=h
 refine ⟨a,ds,xs,e1,e2,g.hh _ _ e3,?_,e5,e6.same g.ff⟩
 cases q : F' a with
 | none=>rfl
 | some o =>
  rcases g.new a o q with z | z | z
  ·rw [e4] at z; cases z
  ·rw [e3] at z; cases z
  ·have:=g.fh a o q
   rw [g.hh _ _ e3] at this
   cases this
   simp [imo] at z
theorem CellAt.grow {d : PyData} {v : V} (g : Grow F H F' H') (h : CellAt K H₀ F H d v) : CellAt K H₀ F' H' d v:=by
 obtain ⟨a,c,o,e1,e2,e3,e4,e5,e6⟩:=h
 refine ⟨a,c,o,e1,e2,g.hh _ _ e3,?_,e5,e6.same g.ff⟩
 cases q : F' a with
 | none=>rfl
 | some o' =>
  rcases g.new a o' q with z | z | z
  ·rw [e4] at z; cases z
  ·rw [e3] at z; cases z
  ·have:=g.fh a o' q
   rw [g.hh _ _ e3] at this
   cases this
   rw [e6.mut] at z; cases z
theorem VI.grow (I : VI K ioA G H₀ S F σ H) (g : Grow F H F' H') : VI K ioA G H₀ S F' σ H' where
 len:=I.len
 same:=I.same.trans g.hh
 gf:=I.gf.trans g.ff
 new:=fun a o e=>by
  rcases g.new a o e with z | z | z
  ·exact I.new a o z
  ·exact .inr (.inl (I.same.free z))
  ·exact .inr (.inr z)
 sub:=g.fh
 slot:=fun i t d e=>by
  obtain ⟨v,e1,h⟩:=I.slot i t d e
  refine ⟨v,e1,?_⟩
  cases t with
  | fr=>exact Has.same g.ff h
  | ow=>exact OwnAt.grow g h
  | io=>exact ⟨OwnAt.grow g h.1,h.2⟩
  | rf=>exact h
  | ce=>exact CellAt.grow g h
 inj:=I.inj
 pl:=fun a o u e=>I.pl a o u (g.pl a o u e)
end
noncomputable abbrev Rel:=PySem.W.Frag→Hp→Hp→Hp→Hp→PyData→V→Prop
noncomputable def RW : Rel:=fun K _ _ _ H' d v=>Has K H' d v
noncomputable def RS : Rel:=fun K _ _ F' _ d v=>Has K F' d v
noncomputable def RM : Rel:=fun K _ _ F' H' d v=>Has K F' d v∨∃ ds a xs,d = .list ds∧v = .ref a∧SqL K H' a xs∧HasL K F' ds xs
noncomputable def RN : Rel:=fun K _ H F' H' d v=>∃ ds a xs,d = .list ds∧v = .ref a∧H a = none∧F' a = none∧H' a = some (.lst xs)∧HasL K F' ds xs
noncomputable def tV (K : PySem.W.Frag) (R : Rel) (f : VE) : TE:=fun σ H Q=>∃ ioA G H₀ S F,VI K ioA G H₀ S F σ H∧∃ d,f S = some d∧∀ v F' H',Grow F H F' H'→R K F H F' H' d v→Q v H'
theorem tV.imp {K : PySem.W.Frag} {R R' : Rel} {f f' : VE} {σ : St} {H : Hp} {Q : VK} (hf : ∀ S d,f S = some d→f' S = some d)
  (hR : ∀ (F F' H' : Hp) S d v,f S = some d→Grow F H F' H'→R' K F H F' H' d v→∃ F'',Grow F H F'' H'∧R K F H F'' H' d v) (h : tV K R f σ H Q) : tV K R' f' σ H Q:=by
 obtain ⟨ioA,G,H₀,S,F,I,d,e,q⟩:=h
 refine ⟨ioA,G,H₀,S,F,I,d,hf S d e,fun v F' H' g r=>?_⟩
 obtain ⟨F'',g2,r2⟩:=hR F F' H' S d v e g r
 exact q v F'' H' g2 r2
section
variable {X : Cx} {e : Expr} {f : VE}
theorem sw (h : PE X e (tV X.K RS f)) : PE X e (tV X.K RW f):=h.imp fun _ _ _ q=>tV.imp (fun _ _ h=>h) (fun F F' H' S d v _ g r=>⟨F',g,Has.same g.fh r⟩) q
theorem sm (h : PE X e (tV X.K RS f)) : PE X e (tV X.K RM f):=h.imp fun _ _ _ q=>tV.imp (fun _ _ h=>h) (fun F F' H' S d v _ g r=>⟨F',g,.inl r⟩) q
theorem mw (h : PE X e (tV X.K RM f)) : PE X e (tV X.K RW f):=h.imp fun _ _ _ q=>tV.imp (fun _ _ h=>h) (fun F F' H' S d v _ g r=>⟨F',g,by
 rcases r with r | ⟨ds,a,xs,rfl,rfl,h1,h2⟩
 ·exact Has.same g.fh r
 ·exact ⟨a,xs,rfl,h1,h2.same g.fh⟩⟩) q
theorem nm (h : PE X e (tV X.K RN f)) : PE X e (tV X.K RM f):=h.imp fun _ _ _ q=>tV.imp (fun _ _ h=>h) (fun F F' H' S d v _ g r=>⟨F',g,by
 obtain ⟨ds,a,xs,h1,h2,h3,h4,h5,h6⟩:=r
 exact .inr ⟨ds,a,xs,h1,h2,SqL.of h5,h6⟩⟩) q
theorem RN.frz {K : PySem.W.Frag} {F H F' H' : Hp} {d : PyData} {v : V} (g : Grow F H F' H') (r : RN K F H F' H' d v) : ∃ F'',Grow F H F'' H'∧RS K F H F'' H' d v:=by
 obtain ⟨ds,a,xs,h1,h2,h3,h4,h5,h6⟩:=r
 refine ⟨upd F' a (.lst xs),⟨g.hh,g.ff.trans (same_upd_new h4),fun b o e=>?_,fun b o e=>?_,fun b x u e=>?_⟩,?_⟩
 ·by_cases hb : b = a
  ·subst hb; rw [upd_same] at e; cases e; exact h5
  ·rw [upd_ne hb] at e; exact g.fh b o e
 ·by_cases hb : b = a
  ·subst hb; exact .inr (.inl h3)
  ·rw [upd_ne hb] at e; exact g.new b o e
 ·by_cases hb : b = a
  ·subst hb; rw [upd_same] at e; cases e
  ·rw [upd_ne hb] at e; exact g.pl b x u e
 ·rw [h1]; exact ⟨a,xs,h2,SqL.of upd_same,h6.same (same_upd_new h4)⟩
theorem ns (h : PE X e (tV X.K RN f)) : PE X e (tV X.K RS f):=h.imp fun _ _ _ q=>tV.imp (fun _ _ h=>h) (fun F F' H' S d v _ g r=>RN.frz g r) q
theorem nw (h : PE X e (tV X.K RN f)) : PE X e (tV X.K RW f):=mw (nm h)
noncomputable def vImm (f : VE) : VE:=fun S=>match f S with
 | some d=>if imm d = true then some d else none
 | none=>none
theorem vImm_some {f : VE} {S : GS} {d : PyData} (h : vImm f S = some d) : f S = some d∧imm d = true:=by
 unfold vImm at h
 cases q : f S with
 | none=>rw [q] at h; cases h
 | some u =>
  rw [q] at h
  simp only at h
  split at h
  ·cases h; exact ⟨rfl,by assumption⟩
  ·cases h
theorem ws (h : PE X e (tV X.K RW f)) : PE X e (tV X.K RS (vImm f)):=h.imp fun _ H Q q=>by
 refine tV.imp (fun S d h=>(vImm_some h).1) (fun F F' H' S d v he g r=>⟨wide F' H',wide_grow g,imm_wide (vImm_some he).2 r⟩) q
end
noncomputable def vN (i : Nat) : VE:=fun S=>match S[i]? with
 | some (some (.fr,d))=>some d
 | some (some (.ow,d))=>some d
 | some (some (.io,d))=>some d
 | _=>none
noncomputable def vF (i : Nat) : VE:=fun S=>match S[i]? with
 | some (some (.fr,d))=>some d
 | _=>none
noncomputable def vC (d : PyData) : VE:=fun _=>some d
section
variable {X : Cx} {e : Expr} {pos : Pos}
theorem dN {i : Nat} (h : PE X e (vR i)) : PE X e (tV X.K RM (vN i)):=h.imp fun σ H Q q=>by
 obtain ⟨ioA,G,H₀,S,F,I,d,e,q⟩:=q
 unfold vN at e
 split at e
 ·rename_i d' hS
  cases e
  obtain ⟨v,hv,hs⟩:=I.slot i .fr d hS
  unfold vR; rw [hv]
  exact q v F H (Grow.refl I.sub) (.inl hs)
 ·rename_i d' hS
  cases e
  obtain ⟨v,hv,hs⟩:=I.slot i .ow d hS
  unfold vR; rw [hv]
  obtain ⟨a,ds,xs,e1,e2,e3,e4,e5,e6⟩:=hs
  exact q v F H (Grow.refl I.sub) (.inr ⟨ds,a,xs,e1,e2,SqL.of e3,e6⟩)
 ·rename_i d' hS
  cases e
  obtain ⟨v,hv,hs⟩:=I.slot i .io d hS
  unfold vR; rw [hv]
  obtain ⟨a,ds,xs,e1,e2,e3,e4,e5,e6⟩:=hs.1
  exact q v F H (Grow.refl I.sub) (.inr ⟨ds,a,xs,e1,e2,SqL.of e3,e6⟩)
 ·cases e
theorem dF {i : Nat} (h : PE X e (vR i)) : PE X e (tV X.K RS (vF i)):=h.imp fun σ H Q q=>by
 obtain ⟨ioA,G,H₀,S,F,I,d,e,q⟩:=q
 unfold vF at e
 split at e
 ·rename_i d' hS
  cases e
  obtain ⟨v,hv,hs⟩:=I.slot i .fr d hS
  unfold vR; rw [hv]
  exact q v F H (Grow.refl I.sub) hs
 ·cases e
theorem dC {v : V} {d : PyData} (h : PE X e (tC v)) (hv : ∀ H,Has X.K H d v) : PE X e (tV X.K RS (vC d)):=h.imp fun σ H Q q=>by
 obtain ⟨ioA,G,H₀,S,F,I,d',e,q⟩:=q
 cases e
 exact q v F H (Grow.refl I.sub) (hv F)
theorem dInt {i j} : PE X (.Constant (.int i) j pos) (tV X.K RS (vC (.int i))):=dC pe_int fun _=>rfl
theorem dBool {b j} : PE X (.Constant (.bool b) j pos) (tV X.K RS (vC (.bool b))):=dC pe_bl fun _=>rfl
theorem dNone {j} : PE X (.Constant .none j pos) (tV X.K RS (vC .none)):=dC pe_non fun _=>rfl
end
noncomputable def v2 (h : PyData→PyData→Option PyData) (fa fb : VE) : VE:=fun S=>match fa S with
 | some x=>match fb S with
  | some y=>h x y
  | none=>none
 | none=>none
theorem v2_some {h : PyData→PyData→Option PyData} {fa fb : VE} {S : GS} {d : PyData} (e : v2 h fa fb S = some d) : ∃ x y,fa S = some x∧fb S = some y∧h x y = some d:=by
 unfold v2 at e
 cases q : fa S with
 | none=>rw [q] at e; cases e
 | some x =>
  rw [q] at e
  cases q2 : fb S with
  | none=>rw [q2] at e; cases e
  | some y=>rw [q2] at e; exact ⟨x,y,rfl,rfl,e⟩
noncomputable def OpD (K : PySem.W.Frag) (h : PyData→PyData→Option PyData) (r : R2) : Prop:=∀ H x y dx dy d Q,h dx dy = some d→Has K H dx x→Has K H dy y→(∀ v,(∀ H',Has K H' d v)→Q v H)→r x y H Q
theorem rd2 {K : PySem.W.Frag} {h : PyData→PyData→Option PyData} {r : R2} {fa fb : VE} (hd : OpD K h r) {σ : St} {H : Hp} {Q : VK} (q : tV K RS (v2 h fa fb) σ H Q) : tOp r (tV K RW fa) (tV K RW fb) σ H Q:=by
 obtain ⟨ioA,G,H₀,S,F,I,d,e,q⟩:=q
 obtain ⟨x,y,ex,ey,e⟩:=v2_some e
 refine ⟨ioA,G,H₀,S,F,I,x,ex,fun v F1 H1 g1 hx=>⟨ioA,G,H₀,S,F1,I.grow g1,y,ey,fun u F2 H2 g2 hy=>?_⟩⟩
 exact hd H2 v u x y d Q e (Has.same g2.hh hx) hy fun w hw=>q w F2 H2 (g1.trans g2) (hw F2)
section
variable {X : Cx} {a b : Expr} {fa fb : VE} {pos : Pos} {h : PyData→PyData→Option PyData} {r : R2}
theorem dOp {op : Operator} (ho : OpR X (binaryOp op) r) (hd : OpD X.K h r) (ha : PE X a (tV X.K RW fa)) (hb : PE X b (tV X.K RW fb)) : PE X (.BinOp a op b pos) (tV X.K RS (v2 h fa fb)) :=
 (pe_op ho ha hb).imp fun _ _ _ q=>rd2 hd q
theorem dCmp {op : CmpOp} (ho : OpR X (compareOp op) r) (hd : OpD X.K h r) (ha : PE X a (tV X.K RW fa)) (hb : PE X b (tV X.K RW fb)) (hm : behindInMarks op b = false:=by first | exact nomark _ | rfl) : PE X (.Compare a [op] [b] pos) (tV X.K RS (v2 h fa fb)) :=
 (peC ho ha hb hm).imp fun _ _ _ q=>rd2 hd q
end
noncomputable def iop (g : Int→Int→PyData) : PyData→PyData→Option PyData
 | .int a,.int b=>some (g a b)
 | _,_=>none
noncomputable def iopC (C : Int→Int→Prop) [∀ a b,Decidable (C a b)] (g : Int→Int→PyData) : PyData→PyData→Option PyData
 | .int a,.int b=>if C a b then some (g a b) else none
 | _,_=>none
noncomputable def flat0 (d : PyData) (v : V) : Prop:=∀ (K : PySem.W.Frag) (H : Hp),Has K H d v
theorem opd_iop {K : PySem.W.Frag} {g : Int→Int→PyData} {gv : Int→Int→V} (hg : ∀ a b,flat0 (g a b) (gv a b)) : OpD K (iop g) (rM gv):=by
 intro H x y dx dy d Q e hx hy q
 cases dx <;> first | (simp [iop] at e; done) | skip
 cases dy <;> first | (simp [iop] at e; done) | skip
 simp only [iop,Option.some.injEq] at e
 subst e
 have ex : x = _:=hx
 have ey : y = _:=hy
 subst ex ey
 exact q _ fun H'=>hg _ _ K H'
theorem opd_iopC {K : PySem.W.Frag} {C : Int→Int→Prop} [∀ a b,Decidable (C a b)] {C' : Int→Int→Prop} {g : Int→Int→PyData} {gv : Int→Int→V} (hc : ∀ a b,C a b→C' a b) (hg : ∀ a b,flat0 (g a b) (gv a b)) : OpD K (iopC C g) (rMC C' gv):=by
 intro H x y dx dy d Q e hx hy q
 cases dx <;> first | (simp [iopC] at e; done) | skip
 cases dy <;> first | (simp [iopC] at e; done) | skip
 simp only [iopC] at e
 split at e
 ·rename_i hC
  cases e
  have ex : x = _:=hx
  have ey : y = _:=hy
  subst ex ey
  exact ⟨hc _ _ hC,q _ fun H'=>hg _ _ K H'⟩
 ·cases e
set_option exponentiation.threshold 9000
noncomputable def BMul (i j : Int) : Prop:=i.natAbs < 2 ^ 2000∧j.natAbs < 2 ^ 2000
noncomputable instance (i j : Int) : Decidable (BMul i j):=inferInstanceAs (Decidable (_∧_))
noncomputable def BDiv (_ j : Int) : Prop:=0 < j∧j.natAbs < 2 ^ 2000
noncomputable instance (i j : Int) : Decidable (BDiv i j):=inferInstanceAs (Decidable (_∧_))
noncomputable def BMod (_ j : Int) : Prop:=0 < j
noncomputable instance (i j : Int) : Decidable (BMod i j):=inferInstanceAs (Decidable (_ < _))
noncomputable def BPow (i j : Int) : Prop:=0≤j∧j≤1000∧i.natAbs < 2 ^ 60
noncomputable instance (i j : Int) : Decidable (BPow i j):=inferInstanceAs (Decidable (_∧_∧_))
theorem BMul.ok {i j : Int} (h : BMul i j) : CMulB i j:=by
 have e : (2 : Nat) ^ 2000≤2 ^ 8000:=Nat.pow_le_pow_right (by decide) (by decide)
 exact ⟨Nat.lt_of_lt_of_le h.1 e,Nat.lt_of_lt_of_le h.2 e⟩
theorem BDiv.ok {i j : Int} (h : BDiv i j) : CDivB i j:=⟨h.1,by
 have hz : j.natAbs ≠ 0:=by have:=h.1; omega
 have:=(Nat.log2_lt hz).mpr h.2
 omega⟩
theorem BPow.ok {i j : Int} (h : BPow i j) : CPow i j:=⟨h.1,by have:=h.2.1; omega,Nat.lt_trans h.2.2 (by decide)⟩
noncomputable abbrev addD:=iop fun a b=>.int (a + b)
noncomputable abbrev subD:=iop fun a b=>.int (a - b)
noncomputable abbrev mulD:=iopC BMul fun a b=>.int (a * b)
noncomputable abbrev divD:=iopC BDiv fun a b=>.int (a / b)
noncomputable abbrev modD:=iopC BMod fun a b=>.int (a % b)
noncomputable abbrev powD:=iopC BPow fun a b=>.int (a ^ b.toNat)
noncomputable abbrev ltD:=iop fun a b=>.bool (decide (a < b))
noncomputable abbrev leD:=iop fun a b=>.bool (decide (a≤b))
noncomputable abbrev gtD:=iop fun a b=>.bool (decide (b < a))
noncomputable abbrev geD:=iop fun a b=>.bool (decide (b≤a))
section
variable {K : PySem.W.Frag}
theorem hAdd : OpD K addD (rM fun i j=>.int (i + j)):=opd_iop fun _ _ _ _=>rfl
theorem hSub : OpD K subD (rM fun i j=>.int (i - j)):=opd_iop fun _ _ _ _=>rfl
theorem hMul : OpD K mulD (rMC CMulB fun i j=>.int (i * j)):=opd_iopC (fun _ _ h=>h.ok) fun _ _ _ _=>rfl
theorem hDiv : OpD K divD (rMC CDivB fun i j=>.int (i / j)):=opd_iopC (fun _ _ h=>h.ok) fun _ _ _ _=>rfl
theorem hMod : OpD K modD (rMC (fun _ j=>0 < j) fun i j=>.int (i % j)):=opd_iopC (fun _ _ h=>h) fun _ _ _ _=>rfl
theorem hPow : OpD K powD (rMC CPow fun i j=>.int (i ^ j.toNat)):=opd_iopC (fun _ _ h=>h.ok) fun _ _ _ _=>rfl
theorem hLt : OpD K ltD (rM fun i j=>.bl (decide (i < j))):=opd_iop fun _ _ _ _=>rfl
theorem hLe : OpD K leD (rM fun i j=>.bl (decide (i≤j))):=opd_iop fun _ _ _ _=>rfl
theorem hGt : OpD K gtD (rM fun i j=>.bl (decide (j < i))):=opd_iop fun _ _ _ _=>rfl
theorem hGe : OpD K geD (rM fun i j=>.bl (decide (j≤i))):=opd_iop fun _ _ _ _=>rfl
end
noncomputable def eqD : PyData→PyData→Option PyData:=fun x y=>if x.depth≤60 then some (.bool (PyData.eqv x y)) else none
noncomputable def neD : PyData→PyData→Option PyData:=fun x y=>if x.depth≤60 then some (.bool (!PyData.eqv x y)) else none
theorem hEq {K : PySem.W.Frag} : OpD K eqD (rEqD K):=by
 intro H x y dx dy d Q e hx hy q
 unfold eqD at e
 split at e
 ·cases e; exact ⟨dx,dy,hx,hy,by assumption,q _ fun _=>rfl⟩
 ·cases e
theorem hNe {K : PySem.W.Frag} : OpD K neD (rNeD K):=by
 intro H x y dx dy d Q e hx hy q
 unfold neD at e
 split at e
 ·cases e; exact ⟨dx,dy,hx,hy,by assumption,q _ fun _=>rfl⟩
 ·cases e
noncomputable def isNoneD : PyData→Bool
 | .none=>true
 | _=>false
noncomputable def isD : PyData→PyData→Option PyData:=fun x y=>if isNoneD y then some (.bool (isNoneD x)) else none
noncomputable def isnD : PyData→PyData→Option PyData:=fun x y=>if isNoneD y then some (.bool (!isNoneD x)) else none
theorem isNone_of {K : PySem.W.Frag} {H : Hp} {d : PyData} {x : V} (h : Has K H d x) : isNon x = isNoneD d:=by
 cases d with
 | none=>have e : x = .non:=h; rw [e]; rfl
 | bool b=>have e : x = .bl b:=h; rw [e]; rfl
 | int i=>have e : x = .int i:=h; rw [e]; rfl
 | str y=>have e : x = .str y:=h.1; rw [e]; rfl
 | list ds=>obtain ⟨a,xs,rfl,_⟩:=h; rfl
 | tuple ds=>obtain ⟨a,xs,rfl,_⟩:=h; rfl
 | dict k=>exact h.elim
theorem none_of {K : PySem.W.Frag} {H : Hp} {d : PyData} {x : V} (h : Has K H d x) (e : isNoneD d = true) : x = .non:=by
 cases d <;> first | exact h | (simp [isNoneD] at e)
theorem hIs {K : PySem.W.Frag} : OpD K isD rIsN:=by
 intro H x y dx dy d Q e hx hy q
 unfold isD at e
 split at e
 ·rename_i hn
  cases e
  have:=none_of hy hn
  subst this
  show Q (.bl (isNon x)) H
  rw [isNone_of hx]; exact q _ fun _=>rfl
 ·cases e
theorem hIsn {K : PySem.W.Frag} : OpD K isnD rNotN:=by
 intro H x y dx dy d Q e hx hy q
 unfold isnD at e
 split at e
 ·rename_i hn
  cases e
  have:=none_of hy hn
  subst this
  show Q (.bl (!isNon x)) H
  rw [isNone_of hx]; exact q _ fun _=>rfl
 ·cases e
noncomputable abbrev VT:=GS→Option Bool
noncomputable def tVT (K : PySem.W.Frag) (f : VT) : TT:=fun σ H Q=>∃ ioA G H₀ S F,VI K ioA G H₀ S F σ H∧∃ b,f S = some b∧∀ F' H',Grow F H F' H'→Q b H'
noncomputable def vB (f : VE) : VT:=fun S=>match f S with
 | some (.bool b)=>some b
 | _=>none
theorem vB_some {f : VE} {S : GS} {b : Bool} (h : vB f S = some b) : f S = some (.bool b):=by
 unfold vB at h
 split at h
 ·cases h; assumption
 ·cases h
noncomputable def tAnd2 (f g : VT) : VT:=fun S=>match f S with
 | some true=>g S
 | some false=>some false
 | none=>none
noncomputable def tOr2 (f g : VT) : VT:=fun S=>match f S with
 | some true=>some true
 | some false=>g S
 | none=>none
noncomputable def tNot2 (f : VT) : VT:=fun S=>match f S with
 | some b=>some !b
 | none=>none
noncomputable def truD : PyData→Option Bool
 | .none=>some false
 | .bool b=>some b
 | .int i=>some (i != 0)
 | .list ds=>some (!ds.isEmpty)
 | .tuple ds=>some (!ds.isEmpty)
 | _=>none
noncomputable def vTru (f : VE) : VT:=fun S=>match f S with
 | some d=>truD d
 | none=>none
theorem HasL.isEmpty {K : PySem.W.Frag} {H : Hp} {ds : List PyData} {vs : List V} (h : HasL K H ds vs) : vs.isEmpty = ds.isEmpty:=by
 have:=h.length
 cases ds <;> cases vs <;> simp_all
section
variable {X : Cx} {a b e : Expr} {fa fb f : VE} {ta tb : VT} {pos : Pos} {h : PyData→PyData→Option PyData} {r : R2} {rest : List Expr}
theorem rdTM {t : TE} {σ : St} {H : Hp} {Q : Bool→Hp→Prop} {K : PySem.W.Frag} (ht : ∀ Q',tV K RS f σ H Q'→t σ H Q') (q : tVT K (vB f) σ H Q) : tTM t σ H Q:=by
 obtain ⟨ioA,G,H₀,S,F,I,b,e,q⟩:=q
 refine ht _ ⟨ioA,G,H₀,S,F,I,.bool b,vB_some e,fun v F' H' g hv=>?_⟩
 have ev : v = .bl b:=hv
 subst ev
 exact q F' H' g
theorem cCmp {op : CmpOp} (ho : OpR X (compareOp op) r) (hd : OpD X.K h r) (ha : PE X a (tV X.K RW fa)) (hb : PE X b (tV X.K RW fb)) (hm : behindInMarks op b = false:=by first | exact nomark _ | rfl) : PT X (.Compare a [op] [b] pos) (tVT X.K (vB (v2 h fa fb))) :=
 PT.imp (ptC ho ha hb hm) fun _ _ _ q=>rdTM (fun _ q=>rd2 hd q) q
theorem cVal (he : PE X e (tV X.K RS f)) (hp : ∀ whole,isTrue e X.env whole = (do let v ← whole; standAt e.pos; holding [v] (truthy v)):=by intro _; rfl) : PT X e (tVT X.K (vB f)) :=
 PT.imp (ptV he hp) fun _ _ _ q=>rdTM (fun _ q=>q) q
theorem cNot (ha : PT X a (tVT X.K ta)) : PT X (.UnaryOp .Not a pos) (tVT X.K (tNot2 ta)):=PT.imp (pt_not ha) fun _ _ _ q=>by
 obtain ⟨ioA,G,H₀,S,F,I,b,e,q⟩:=q
 unfold tNot2 at e
 cases q2 : ta S with
 | none=>rw [q2] at e; cases e
 | some c =>
  rw [q2] at e
  cases e
  exact ⟨ioA,G,H₀,S,F,I,c,q2,fun F' H' g=>q F' H' g⟩
theorem wAnd1 (ha : PT X a (tVT X.K ta)) : PW X (.BoolOp .And [a] pos) (tVT X.K ta):=pw_and1 ha
theorem wOr1 (ha : PT X a (tVT X.K ta)) : PW X (.BoolOp .Or [a] pos) (tVT X.K ta):=pw_or1 ha
theorem wAnd (ha : PT X a (tVT X.K ta)) (hb : PW X (.BoolOp .And (b :: rest) pos) (tVT X.K tb)) : PW X (.BoolOp .And (a :: b :: rest) pos) (tVT X.K (tAnd2 ta tb)):=PW.imp (pw_and ha hb) fun _ _ _ q=>by
 obtain ⟨ioA,G,H₀,S,F,I,b,e,q⟩:=q
 unfold tAnd2 at e
 cases q2 : ta S with
 | none=>rw [q2] at e; cases e
 | some c =>
  rw [q2] at e
  refine ⟨ioA,G,H₀,S,F,I,c,q2,fun F' H' g=>?_⟩
  cases c with
  | true=>rw [if_pos rfl]; exact ⟨ioA,G,H₀,S,F',I.grow g,b,e,fun F2 H2 g2=>q F2 H2 (g.trans g2)⟩
  | false=>rw [if_neg Bool.false_ne_true]; cases e; exact q F' H' g
theorem wOr (ha : PT X a (tVT X.K ta)) (hb : PW X (.BoolOp .Or (b :: rest) pos) (tVT X.K tb)) : PW X (.BoolOp .Or (a :: b :: rest) pos) (tVT X.K (tOr2 ta tb)):=PW.imp (pw_or ha hb) fun _ _ _ q=>by
 obtain ⟨ioA,G,H₀,S,F,I,b,e,q⟩:=q
 unfold tOr2 at e
 cases q2 : ta S with
 | none=>rw [q2] at e; cases e
 | some c =>
  rw [q2] at e
  refine ⟨ioA,G,H₀,S,F,I,c,q2,fun F' H' g=>?_⟩
  cases c with
  | false=>rw [if_neg Bool.false_ne_true]; exact ⟨ioA,G,H₀,S,F',I.grow g,b,e,fun F2 H2 g2=>q F2 H2 (g.trans g2)⟩
  | true=>rw [if_pos rfl]; cases e; exact q F' H' g
end
noncomputable def vAnd (f g : VE) : VE:=fun S=>match f S with
 | some (.bool true)=>g S
 | some (.bool false)=>some (.bool false)
 | _=>none
noncomputable def vOr (f g : VE) : VE:=fun S=>match f S with
 | some (.bool true)=>some (.bool true)
 | some (.bool false)=>g S
 | _=>none
noncomputable def vNot (f : VE) : VE:=fun S=>match f S with
 | some (.bool b)=>some (.bool !b)
 | _=>none
noncomputable def vCh (h h' : PyData→PyData→Option PyData) (fa fb fc : VE) : VE:=fun S=>match fa S with
 | some x=>match fb S with
  | some y=>match h x y with
   | some (.bool true)=>(match fc S with
    | some z=>h' y z
    | none=>none)
   | some (.bool false)=>some (.bool false)
   | _=>none
  | none=>none
 | none=>none
noncomputable def vIf (c : VT) (f g : VE) : VE:=fun S=>match c S with
 | some true=>f S
 | some false=>g S
 | none=>none
section
variable {X : Cx} {a b c e : Expr} {fa fb fc f : VE} {tc : VT} {pos : Pos} {h h' : PyData→PyData→Option PyData} {r r' : R2} {rest : List Expr} {R : Rel}
theorem dAnd (ha : PE X a (tV X.K RS fa)) (hb : PE X (.BoolOp .And (b :: rest) pos) (tV X.K RS fb)) : PE X (.BoolOp .And (a :: b :: rest) pos) (tV X.K RS (vAnd fa fb)):=(peAnd ha hb).imp fun _ _ _ q=>by
 obtain ⟨ioA,G,H₀,S,F,I,d,e,q⟩:=q
 unfold vAnd at e
 split at e
 ·rename_i q2
  refine ⟨ioA,G,H₀,S,F,I,_,q2,fun v F' H' g hv=>?_⟩
  have ev : v = .bl true:=hv
  subst ev
  simp only [if_true]
  exact ⟨ioA,G,H₀,S,F',I.grow g,d,e,fun w F2 H2 g2 hw=>q w F2 H2 (g.trans g2) hw⟩
 ·rename_i q2
  cases e
  refine ⟨ioA,G,H₀,S,F,I,_,q2,fun v F' H' g hv=>?_⟩
  have ev : v = .bl false:=hv
  subst ev
  simp only [Bool.false_eq_true,if_false]
  exact q _ F' H' g rfl
 ·cases e
theorem dNot (ha : PE X a (tV X.K RS fa)) : PE X (.UnaryOp .Not a pos) (tV X.K RS (vNot fa)):=(peNot ha).imp fun _ _ _ q=>by
 obtain ⟨ioA,G,H₀,S,F,I,d,e,q⟩:=q
 unfold vNot at e
 split at e
 ·rename_i b q2
  cases e
  refine ⟨ioA,G,H₀,S,F,I,_,q2,fun v F' H' g hv=>?_⟩
  have ev : v = .bl b:=hv
  subst ev
  exact q _ F' H' g rfl
 ·cases e
theorem dOne {op} (h : PE X a (tV X.K R f)) : PE X (.BoolOp op [a] pos) (tV X.K R f):=pe_one h
theorem rdCh {K : PySem.W.Frag} {σ : St} {H : Hp} {Q : VK} (hd : OpD K h r) (hd' : OpD K h' r') (q : tV K RS (vCh h h' fa fb fc) σ H Q) : tChM r r' (tV K RW fa) (tV K RW fb) (tV K RW fc) σ H Q:=by
 obtain ⟨ioA,G,H₀,S,F,I,d,e,q⟩:=q
 unfold vCh at e
 cases qa : fa S with
 | none=>rw [qa] at e; cases e
 | some x =>
  rw [qa] at e
  cases qb : fb S with
  | none=>rw [qb] at e; cases e
  | some y =>
   rw [qb] at e
   simp only at e
   refine ⟨ioA,G,H₀,S,F,I,x,qa,fun v F1 H1 g1 hx=>⟨ioA,G,H₀,S,F1,I.grow g1,y,qb,fun u F2 H2 g2 hy=>?_⟩⟩
   split at e
   ·rename_i q3
    cases qc : fc S with
    | none=>rw [qc] at e; cases e
    | some z =>
     rw [qc] at e
     refine hd H2 v u x y _ _ q3 (Has.same g2.hh hx) hy fun k hk=>?_
     have ek : k = .bl true:=hk H2
     subst ek
     simp only [if_true]
     refine ⟨ioA,G,H₀,S,F2,(I.grow g1).grow g2,z,qc,fun w F3 H3 g3 hw=>?_⟩
     exact hd' H3 u w y z d Q e (Has.same g3.hh hy) hw fun k hk=>q k F3 H3 ((g1.trans g2).trans g3) (hk F3)
   ·rename_i q3
    cases e
    refine hd H2 v u x y _ _ q3 (Has.same g2.hh hx) hy fun k hk=>?_
    have ek : k = .bl false:=hk H2
    subst ek
    simp only [Bool.false_eq_true,if_false]
    exact q _ F2 H2 (g1.trans g2) rfl
   ·cases e
theorem dCh {op op' : CmpOp} (ho : OpR X (compareOp op) r) (hd : OpD X.K h r) (ho' : OpR X (compareOp op') r') (hd' : OpD X.K h' r') (ha : PE X a (tV X.K RW fa)) (hb : PE X b (tV X.K RW fb)) (hc : PE X c (tV X.K RW fc))
  (hm : lastMarks [op,op'] [b,c] = false:=by with_unfolding_all rfl) : PE X (.Compare a [op,op'] [b,c] pos) (tV X.K RS (vCh h h' fa fb fc)):=(peCh ho ho' ha hb hc hm).imp fun _ _ _ q=>rdCh hd hd' q
end
end VM
namespace VM
open PySem L2
section
variable {K : PySem.W.Frag} {F H F' H' : Hp}
theorem HasL.atI {ds : List PyData} {xs : List V} {i : Int} {d : PyData} (h : HasL K H ds xs) (e : L2.atI ds i = some d) : ∃ v,L2.atI xs i = some v∧Has K H d v:=by
 unfold L2.atI at e ⊢
 rw [ixN_len h.length.symm]
 cases q : ixN ds.length i with
 | none=>rw [q] at e; cases e
 | some j =>
  rw [q] at e
  exact h.at e
theorem HasL.drop : ∀ {ds : List PyData} {vs : List V} (n : Nat),HasL K H ds vs→HasL K H (ds.drop n) (vs.drop n)
 | _,_,0,h=>h
 | [],vs,n + 1,h=>by
  have h' : vs = []:=h
  rw [h']; rfl
 | _ :: _,_,n + 1,⟨_,_,g1,_,g3⟩=>by rw [g1]; exact HasL.drop n g3
theorem HasL.take : ∀ {ds : List PyData} {vs : List V} (n : Nat),HasL K H ds vs→HasL K H (ds.take n) (vs.take n)
 | _,_,0,_=>by simp only [List.take_zero]; rfl
 | [],vs,n + 1,h=>by
  have h' : vs = []:=h
  rw [h']; rfl
 | _ :: _,_,n + 1,⟨u,r,g1,g2,g3⟩=>by rw [g1]; exact ⟨u,r.take n,rfl,g2,HasL.take n g3⟩
theorem RM.list {ds : List PyData} {v : V} (fh : Same F' H') (r : RM K F H F' H' (.list ds) v) : ∃ a xs,v = .ref a∧SqL K H' a xs∧HasL K F' ds xs:=by
 rcases r with ⟨a,xs,rfl,h1,h2⟩ | ⟨ds',a,xs,e,rfl,h1,h2⟩
 ·exact ⟨a,xs,rfl,fh.seq h1,h2⟩
 ·cases e; exact ⟨a,xs,rfl,h1,h2⟩
theorem RM.tuple {ds : List PyData} {v : V} (fh : Same F' H') (r : RM K F H F' H' (.tuple ds) v) : ∃ a xs,v = .ref a∧SqT K H' a xs∧HasL K F' ds xs:=by
 rcases r with ⟨a,xs,rfl,h1,h2⟩ | ⟨ds',a,xs,e,rfl,h1,h2⟩
 ·exact ⟨a,xs,rfl,fh.seqT h1,h2⟩
 ·cases e
theorem RM.grow {F2 H2 : Hp} {d : PyData} {v : V} (g : Grow F' H' F2 H2) (r : RM K F H F' H' d v) : RM K F H F2 H2 d v:=by
 rcases r with r | ⟨ds,a,xs,e,e2,h1,h2⟩
 ·exact .inl (Has.same g.ff r)
 ·exact .inr ⟨ds,a,xs,e,e2,g.hh.seq h1,h2.same g.ff⟩
end
noncomputable def ixDt : PyData→PyData→Option PyData
 | .list ds,.int i=>atI ds i
 | .tuple ds,.int i=>atI ds i
 | _,_=>none
section
variable {X : Cx} {a b e : Expr} {fa fb f : VE} {pos p2 : Pos}
theorem dIx (ha : PE X a (tV X.K RM fa)) (hb : PE X b (tV X.K RW fb)) (hs : PlainIx b:=by intro _ _; rfl) : PE X (.Subscript a b pos) (tV X.K RS (v2 ixDt fa fb)) :=
 (pe_ix (ix_list.or ix_tup) ha hb hs).imp fun _ _ Q q=>by
  obtain ⟨ioA,G,H₀,S,F,I,d,e,q⟩:=q
  obtain ⟨x,y,ex,ey,e⟩:=v2_some e
  refine ⟨ioA,G,H₀,S,F,I,x,ex,fun v F1 H1 g1 hx=>⟨ioA,G,H₀,S,F1,I.grow g1,y,ey,fun u F2 H2 g2 hy=>?_⟩⟩
  have hx2:=RM.grow g2 hx
  unfold ixDt at e
  split at e
  ·rename_i ds i
   have eu : u = .int i:=hy
   obtain ⟨p,xs,rfl,h1,h2⟩:=RM.list g2.fh hx2
   obtain ⟨w,hw,hw2⟩:=HasL.atI h2 e
   exact .inl ⟨p,xs,i,w,rfl,eu,h1,hw,q w F2 H2 (g1.trans g2) hw2⟩
  ·rename_i ds i
   have eu : u = .int i:=hy
   obtain ⟨p,xs,rfl,h1,h2⟩:=RM.tuple g2.fh hx2
   obtain ⟨w,hw,hw2⟩:=HasL.atI h2 e
   exact .inr ⟨p,xs,i,w,rfl,eu,h1,hw,q w F2 H2 (g1.trans g2) hw2⟩
  ·cases e
noncomputable def tVO (K : PySem.W.Frag) (f : GS→Option (Option Int)) : TO:=fun σ H Q=>∃ ioA G H₀ S F,VI K ioA G H₀ S F σ H∧∃ o,f S = some o∧∀ F' H',Grow F H F' H'→Q o H'
noncomputable def oN : GS→Option (Option Int):=fun _=>some none
noncomputable def oI (f : VE) : GS→Option (Option Int):=fun S=>match f S with
 | some (.int i)=>some (some i)
 | _=>none
theorem poN : PO X none (tVO X.K oN):=PO.imp po_none fun _ H Q q=>by
 obtain ⟨ioA,G,H₀,S,F,I,o,e,q⟩:=q
 cases e
 exact q F H (Grow.refl I.sub)
theorem poI (h : PE X e (tV X.K RW f)) : PO X (some e) (tVO X.K (oI f)):=PO.imp (po_some h) fun _ H Q q=>by
 obtain ⟨ioA,G,H₀,S,F,I,o,e,q⟩:=q
 unfold oI at e
 split at e
 ·rename_i i q2
  cases e
  refine ⟨ioA,G,H₀,S,F,I,_,q2,fun v F' H' g hv=>⟨i,hv,q F' H' g⟩⟩
 ·cases e
noncomputable def cutD (xs : List PyData) (lo hi : Option Int) : List PyData:=(xs.drop (HT.sIx xs.length 0 lo)).take (HT.sIx xs.length xs.length hi - HT.sIx xs.length 0 lo)
theorem HasL.cut {K : PySem.W.Frag} {H : Hp} {ds : List PyData} {vs : List V} {lo hi : Option Int} (h : HasL K H ds vs) : HasL K H (cutD ds lo hi) (cutV vs lo hi):=by
 unfold cutD cutV
 rw [h.length]
 exact HasL.take _ (HasL.drop _ h)
noncomputable def vSlL (f : VE) (l u : GS→Option (Option Int)) : VE:=fun S=>match f S,l S,u S with
 | some (.list ds),some lo,some hi=>some (.list (cutD ds lo hi))
 | _,_,_=>none
noncomputable def vSlT (f : VE) (l u : GS→Option (Option Int)) : VE:=fun S=>match f S,l S,u S with
 | some (.tuple ds),some lo,some hi=>if HT.sIx ds.length 0 lo = 0∧HT.sIx ds.length ds.length hi = ds.length then none else some (.tuple (cutD ds lo hi))
 | _,_,_=>none
variable {lo hi : Option Expr} {fl fu : GS→Option (Option Int)}
theorem dSlL (he : PE X e (tV X.K RM f)) (hl : PO X lo (tVO X.K fl)) (hu : PO X hi (tVO X.K fu)) : PE X (.Subscript e (.Slice lo hi none p2) pos) (tV X.K RN (vSlL f fl fu)) :=
 (pe_slice sl_list he hl hu).imp fun _ H Q q=>by
  obtain ⟨ioA,G,H₀,S,F,I,d,e,q⟩:=q
  unfold vSlL at e
  split at e
  ·rename_i ds l u q1 q2 q3
   cases e
   refine ⟨ioA,G,H₀,S,F,I,_,q1,fun v F1 H1 g1 hx=>⟨ioA,G,H₀,S,F1,I.grow g1,l,q2,fun F2 H2 g2=>⟨ioA,G,H₀,S,F2,(I.grow g1).grow g2,u,q3,fun F3 H3 g3=>?_⟩⟩⟩
   obtain ⟨p,xs,rfl,h1,h2⟩:=RM.list g3.fh (RM.grow (g2.trans g3) hx)
   have g:=(g1.trans g2).trans g3
   refine ⟨p,xs,rfl,h1,fun z hz=>q _ F3 _ (g.trans (Grow.alloc g3.fh hz)) ⟨_,z,_,rfl,rfl,g.hh.free hz,g3.fh.free hz,upd_same,HasL.cut h2⟩⟩
  ·cases e
theorem dSlT (he : PE X e (tV X.K RM f)) (hl : PO X lo (tVO X.K fl)) (hu : PO X hi (tVO X.K fu)) : PE X (.Subscript e (.Slice lo hi none p2) pos) (tV X.K RS (vSlT f fl fu)) :=
 (pe_slice sl_tup he hl hu).imp fun _ H Q q=>by
  obtain ⟨ioA,G,H₀,S,F,I,d,e,q⟩:=q
  unfold vSlT at e
  split at e
  ·rename_i ds l u q1 q2 q3
   split at e
   ·cases e
   ·rename_i hw
    cases e
    refine ⟨ioA,G,H₀,S,F,I,_,q1,fun v F1 H1 g1 hx=>⟨ioA,G,H₀,S,F1,I.grow g1,l,q2,fun F2 H2 g2=>⟨ioA,G,H₀,S,F2,(I.grow g1).grow g2,u,q3,fun F3 H3 g3=>?_⟩⟩⟩
    obtain ⟨p,xs,rfl,h1,h2⟩:=RM.tuple g3.fh (RM.grow (g2.trans g3) hx)
    have g:=(g1.trans g2).trans g3
    refine ⟨p,xs,rfl,h1,by rw [← h2.length]; exact hw,fun z hz=>q _ _ _ (g.trans (Grow.allocF g3.fh hz)) ⟨z,_,rfl,SqT.of upd_same,HasL.same (same_upd_new (g3.fh.free hz)) (HasL.cut h2)⟩⟩
  ·cases e
noncomputable def vRev (f : VE) : VE:=fun S=>match f S with
 | some (.list ds)=>some (.list ds.reverse)
 | _=>none
noncomputable def negD : PyData→Option PyData
 | .int i=>some (.int (-i))
 | _=>none
noncomputable def v1 (h : PyData→Option PyData) (f : VE) : VE:=fun S=>match f S with
 | some x=>h x
 | none=>none
theorem dNeg (ha : PE X a (tV X.K RW f)) : PE X (.UnaryOp .USub a pos) (tV X.K RS (v1 negD f)):=(pe_un uNeg ha).imp fun _ H Q q=>by
 obtain ⟨ioA,G,H₀,S,F,I,d,e,q⟩:=q
 unfold v1 at e
 split at e
 ·rename_i x q1
  unfold negD at e
  split at e
  ·rename_i i
   cases e
   refine ⟨ioA,G,H₀,S,F,I,_,q1,fun v F1 H1 g1 hx=>?_⟩
   have ev : v = .int i:=hx
   subst ev
   exact q _ F1 H1 g1 rfl
  ·cases e
 ·cases e
end
noncomputable abbrev VA:=GS→Option (List PyData)
noncomputable def tVA (K : PySem.W.Frag) (f : VA) : TA:=fun σ H Q=>∃ ioA G H₀ S F,VI K ioA G H₀ S F σ H∧∃ ds,f S = some ds∧∀ vs F' H',Grow F H F' H'→HasL K F' ds vs→Q vs H'
noncomputable def tVAW (K : PySem.W.Frag) (f : VA) : TA:=fun σ H Q=>∃ ioA G H₀ S F,VI K ioA G H₀ S F σ H∧∃ ds,f S = some ds∧∀ vs F' H',Grow F H F' H'→HasL K H' ds vs→Q vs H'
noncomputable def a0 : VA:=fun _=>some []
noncomputable def aC (f : VE) (fs : VA) : VA:=fun S=>match f S with
 | some d=>match fs S with
  | some ds=>some (d :: ds)
  | none=>none
 | none=>none
theorem aC_some {f : VE} {fs : VA} {S : GS} {ds : List PyData} (h : aC f fs S = some ds) : ∃ d r,f S = some d∧fs S = some r∧ds = d :: r:=by
 unfold aC at h
 cases q : f S with
 | none=>rw [q] at h; cases h
 | some d =>
  rw [q] at h
  cases q2 : fs S with
  | none=>rw [q2] at h; cases h
  | some r=>rw [q2] at h; cases h; exact ⟨d,r,rfl,rfl,rfl⟩
section
variable {X : Cx} {e : Expr} {es : List Expr} {f : VE} {fs : VA} {pos : Pos}
theorem pa0 : PA X [] (tVA X.K a0):=PA.imp pa_nil fun _ H Q q=>by
 obtain ⟨ioA,G,H₀,S,F,I,d,e,q⟩:=q
 cases e
 exact q [] F H (Grow.refl I.sub) rfl
theorem pw0 : PA X [] (tVAW X.K a0):=PA.imp pa_nil fun _ H Q q=>by
 obtain ⟨ioA,G,H₀,S,F,I,d,e,q⟩:=q
 cases e
 exact q [] F H (Grow.refl I.sub) rfl
theorem paC (he : PE X e (tV X.K RS f)) (hr : PA X es (tVA X.K fs)) (hs : starEach (e :: es) X.env = (false,eval e X.env) :: starEach es X.env:=by rfl) : PA X (e :: es) (tVA X.K (aC f fs)):=PA.imp (pa_cons he hr hs) fun _ H Q q=>by
 obtain ⟨ioA,G,H₀,S,F,I,ds,e,q⟩:=q
 obtain ⟨d,r,e1,e2,rfl⟩:=aC_some e
 exact ⟨ioA,G,H₀,S,F,I,d,e1,fun v F1 H1 g1 hx=>⟨ioA,G,H₀,S,F1,I.grow g1,r,e2,fun vs F2 H2 g2 hy=>q _ F2 H2 (g1.trans g2) ⟨v,vs,rfl,Has.same g2.ff hx,hy⟩⟩⟩
theorem pwC (he : PE X e (tV X.K RW f)) (hr : PA X es (tVAW X.K fs)) (hs : starEach (e :: es) X.env = (false,eval e X.env) :: starEach es X.env:=by rfl) : PA X (e :: es) (tVAW X.K (aC f fs)):=PA.imp (pa_cons he hr hs) fun _ H Q q=>by
 obtain ⟨ioA,G,H₀,S,F,I,ds,e,q⟩:=q
 obtain ⟨d,r,e1,e2,rfl⟩:=aC_some e
 exact ⟨ioA,G,H₀,S,F,I,d,e1,fun v F1 H1 g1 hx=>⟨ioA,G,H₀,S,F1,I.grow g1,r,e2,fun vs F2 H2 g2 hy=>q _ F2 H2 (g1.trans g2) ⟨v,vs,rfl,Has.same g2.hh hx,hy⟩⟩⟩
noncomputable def vTup (fs : VA) : VE:=fun S=>match fs S with
 | some ds=>if ds.length≤1000 then some (.tuple ds) else none
 | none=>none
noncomputable def vLst (fs : VA) : VE:=fun S=>match fs S with
 | some ds=>if ds.length≤1000 then some (.list ds) else none
 | none=>none
theorem vTup_some {S : GS} {d : PyData} (h : vTup fs S = some d) : ∃ ds,fs S = some ds∧ds.length≤1000∧d = .tuple ds:=by
 unfold vTup at h
 split at h
 ·split at h
  ·cases h; exact ⟨_,by assumption,by assumption,rfl⟩
  ·cases h
 ·cases h
theorem vLst_some {S : GS} {d : PyData} (h : vLst fs S = some d) : ∃ ds,fs S = some ds∧ds.length≤1000∧d = .list ds:=by
 unfold vLst at h
 split at h
 ·split at h
  ·cases h; exact ⟨_,by assumption,by assumption,rfl⟩
  ·cases h
 ·cases h
theorem dTup {x1} (h : PA X es (tVA X.K fs)) : PE X (.Tuple es x1 pos) (tV X.K RS (vTup fs)):=(pe_tup h).imp fun _ H Q q=>by
 obtain ⟨ioA,G,H₀,S,F,I,d,e,q⟩:=q
 obtain ⟨ds,e1,hl,rfl⟩:=vTup_some e
 refine ⟨ioA,G,H₀,S,F,I,ds,e1,fun vs F1 H1 g1 hx=>⟨by rw [← hx.length]; exact Nat.le_of_lt (small1000 hl),fun p hp=>?_⟩⟩
 exact q _ _ _ (g1.trans (Grow.allocF g1.fh hp)) ⟨p,vs,rfl,SqT.of upd_same,HasL.same (same_upd_new (g1.fh.free hp)) hx⟩
theorem dLst (h : PA X es (tVA X.K fs)) : PE X (.List es pos) (tV X.K RN (vLst fs)):=(pe_lst h).imp fun _ H Q q=>by
 obtain ⟨ioA,G,H₀,S,F,I,d,e,q⟩:=q
 obtain ⟨ds,e1,hl,rfl⟩:=vLst_some e
 refine ⟨ioA,G,H₀,S,F,I,ds,e1,fun vs F1 H1 g1 hx=>⟨by rw [← hx.length]; exact Nat.le_of_lt (small1000 hl),fun p hp=>?_⟩⟩
 exact q _ _ _ (g1.trans (Grow.alloc g1.fh hp)) ⟨ds,p,vs,rfl,rfl,g1.hh.free hp,g1.fh.free hp,upd_same,hx⟩
end
noncomputable def CallD (K : PySem.W.Frag) (h : List PyData→Option PyData) (r : List V→Hp→VK→Prop) : Prop:=∀ H vs ds d Q,h ds = some d→HasL K H ds vs→(∀ v,(∀ H',Has K H' d v)→Q v H)→r vs H Q
noncomputable def vCB (h : List PyData→Option PyData) (fs : VA) : VE:=fun S=>match fs S with
 | some ds=>h ds
 | none=>none
theorem dCB {X : Cx} {e : Expr} {h : List PyData→Option PyData} {r : List V→Hp→VK→Prop} {fs : VA} (he : PE X e (tCB r (tVAW X.K fs))) (hd : CallD X.K h r) : PE X e (tV X.K RS (vCB h fs)):=he.imp fun _ H Q q=>by
 obtain ⟨ioA,G,H₀,S,F,I,d,e,q⟩:=q
 unfold vCB at e
 split at e
 ·rename_i ds q1
  exact ⟨ioA,G,H₀,S,F,I,ds,q1,fun vs F1 H1 g1 hx=>hd H1 vs ds d Q e hx fun v hv=>q v F1 H1 g1 (hv F1)⟩
 ·cases e
noncomputable def lenD : List PyData→Option PyData
 | [.list ds]=>some (.int ds.length)
 | [.tuple ds]=>some (.int ds.length)
 | _=>none
noncomputable def absD : List PyData→Option PyData
 | [.int i]=>some (.int (if i < 0 then -i else i))
 | _=>none
noncomputable def intsOf : List PyData→Option (List Int)
 | []=>some []
 | .int i :: r=>match intsOf r with
  | some ns=>some (i :: ns)
  | none=>none
 | _=>none
theorem intsOf_some : ∀ {ds : List PyData} {ns : List Int},intsOf ds = some ns→ds = ns.map PyData.int
 | [],_,h=>by cases h; rfl
 | .int i :: r,ns,h=>by
  unfold intsOf at h
  cases q : intsOf r with
  | none=>rw [q] at h; cases h
  | some ms=>rw [q] at h; cases h; rw [intsOf_some q]; rfl
 | .none :: _,_,h=>by cases h
 | .bool _ :: _,_,h=>by cases h
 | .str _ :: _,_,h=>by cases h
 | .list _ :: _,_,h=>by cases h
 | .tuple _ :: _,_,h=>by cases h
 | .dict _ :: _,_,h=>by cases h
theorem intsOf_map (ns : List Int) : intsOf (ns.map PyData.int) = some ns:=by
 induction ns with
 | nil=>rfl
 | cons n ns ih=>simp only [List.map_cons,intsOf,ih]
noncomputable def sumD : List PyData→Option PyData
 | [.list ds]=>match intsOf ds with
  | some ns=>some (.int ns.sum)
  | none=>none
 | _=>none
noncomputable def leastOf : List Int→Int
 | []=>0
 | [n]=>n
 | n :: r=>min n (leastOf r)
theorem leastOf_spec : ∀ {ns : List Int},ns ≠ []→leastOf ns∈ns∧∀ a∈ns,leastOf ns≤a
 | [n],_=>by simp [leastOf]
 | n :: m :: r,_=>by
  obtain ⟨h1,h2⟩:=leastOf_spec (ns:=m :: r) (by simp)
  have e : leastOf (n :: m :: r) = min n (leastOf (m :: r)):=rfl
  rw [e]
  refine ⟨?_,fun a ha=>?_⟩
  ·by_cases hle : n≤leastOf (m :: r)
   ·rw [Int.min_eq_left hle]; exact List.mem_cons_self
   ·rw [Int.min_eq_right (by omega)]; exact List.mem_cons_of_mem _ h1
  ·rcases List.mem_cons.mp ha with rfl | ha
   ·exact Int.min_le_left ..
   ·exact Int.le_trans (Int.min_le_right ..) (h2 a ha)
noncomputable def minD : List PyData→Option PyData
 | [.list ds]=>match intsOf ds with
  | some (n :: r)=>some (.int (leastOf (n :: r)))
  | _=>none
 | _=>none
noncomputable def min2D : List PyData→Option PyData
 | [.int i,.int j]=>some (.int (if j < i then j else i))
 | _=>none
noncomputable def max2D : List PyData→Option PyData
 | [.int i,.int j]=>some (.int (if j > i then j else i))
 | _=>none
noncomputable def int1D : List PyData→Option PyData
 | [.int i]=>some (.int i)
 | [.bool k]=>some (.int (if k then 1 else 0))
 | _=>none
section
variable {K : PySem.W.Frag}
theorem HasL.one {H : Hp} {d : PyData} {vs : List V} (h : HasL K H [d] vs) : ∃ v,vs = [v]∧Has K H d v:=by
 obtain ⟨v,r,rfl,h1,h2⟩:=h
 have h2' : r = []:=h2
 rw [h2']; exact ⟨v,rfl,h1⟩
theorem hLen : CallD K lenD (rLenM K):=by
 intro H vs ds d Q e hx q
 unfold lenD at e
 split at e
 ·obtain ⟨v,rfl,a,xs,rfl,h1,h2⟩:=HasL.one hx
  cases e
  exact ⟨xs,.inl h1,by rw [← h2.length]; exact q _ fun _=>rfl⟩
 ·obtain ⟨v,rfl,a,xs,rfl,h1,h2⟩:=HasL.one hx
  cases e
  exact ⟨xs,.inr h1,by rw [← h2.length]; exact q _ fun _=>rfl⟩
 ·cases e
theorem hAbs : CallD K absD rAbsM:=by
 intro H vs ds d Q e hx q
 unfold absD at e
 split at e
 ·obtain ⟨v,rfl,h1⟩:=HasL.one hx
  have ev : v = .int _:=h1
  subst ev
  cases e
  exact q _ fun _=>rfl
 ·cases e
theorem hMin : CallD K minD (rMinM K):=by
 intro H vs ds d Q e hx q
 unfold minD at e
 split at e
 ·split at e
  ·rename_i n r hn
   obtain ⟨v,rfl,a,xs,rfl,h1,h2⟩:=HasL.one hx
   cases e
   rw [intsOf_some hn] at h2
   rw [HasL.ints.mp h2] at h1
   refine ⟨n :: r,h1,by simp,fun M hM hA=>?_⟩
   obtain ⟨g1,g2⟩:=leastOf_spec (ns:=n :: r) (by simp)
   have : M = leastOf (n :: r):=Int.le_antisymm (hA _ g1) (g2 _ hM)
   rw [this]
   exact q _ fun _=>rfl
  ·cases e
 ·cases e
end
noncomputable def tyD : PyData→String
 | .none=>"NoneType"
 | .bool _=>"bool"
 | .int _=>"int"
 | .str _=>"str"
 | .list _=>"list"
 | .tuple _=>"tuple"
 | .dict _=>"dict"
noncomputable def isiD (T : String) (d : PyData) : Option PyData:=match d with
 | .dict _=>none
 | _=>some (.bool (tyD d == T || (tyD d == "bool" && T == "int")))
noncomputable def rIsi (K : PySem.W.Frag) (T : String) : List V→Hp→VK→Prop:=fun xs H Q=>∃ x d b,xs = [x,.ty T]∧Has K H d x∧PySem.W.kitOne K (.type (tyD d)) (.type T) = some b∧Q (.bl b) H
theorem cIsi {X : Cx} {T : String} : CallR X (.builtin "isinstance") (rIsi X.K T):=by
 intro pins s σ H xs us Q I r h
 obtain ⟨x,d,b,rfl,hd,e,q⟩:=h
 cases r with
 | cons rx rr =>
  cases rr with
  | cons r2 rr =>
   cases rr
   rename_i u u2
   cases (show u2 = Value.type T from r2)
   have fin : ∀ tk,EP X pins σ Q (.bool b) { s with toks:=tk }:=fun tk=>⟨.bl b,H,I.kept (t':=tk) fun _ _ h=>h,rfl,q⟩
   cases d with
   | none=>cases (show x = .non from hd); cases (show u = Value.none from rx); exact PySem.W.kia_one PySem.W.kitx_none I.kIn True.intro e (fun z=>nomatch z) fin
   | bool y=>cases (show x = .bl y from hd); cases (show u = Value.bool y from rx); exact PySem.W.kia_one PySem.W.kitx_bool I.kIn True.intro e (fun z=>nomatch z) fin
   | int i=>cases (show x = .int i from hd); obtain ⟨t,q⟩:=(show ∃ t,u = Value.int i t from rx); cases q; exact PySem.W.kia_one PySem.W.kitx_int I.kIn True.intro e (fun z=>nomatch z) fin
   | str y=>cases (show x = .str y from hd.1); obtain ⟨t,q⟩:=(show ∃ t,u = Value.str y t from rx); cases q; exact PySem.W.kia_one PySem.W.kitx_str I.kIn True.intro e (fun z=>nomatch z) fin
   | list ds =>
    obtain ⟨a,ys,rfl,h1,_⟩:=hd
    cases (show u = Value.ref a from rx)
    obtain ⟨its,rv,⟨o,n,e1,c,_,_⟩,hz⟩:=I.list h1
    exact PySem.W.kia_one PySem.W.kitx_list I.kIn ⟨o,e1,c⟩ e (fun z=>nomatch z) fin
   | tuple ds =>
    obtain ⟨a,ys,rfl,h1,_⟩:=hd
    cases (show u = Value.ref a from rx)
    obtain ⟨its,rv,⟨o,e1,c,_⟩,hz⟩:=I.tuple h1
    exact PySem.W.kia_one PySem.W.kitx_tuple I.kIn ⟨o,e1,c⟩ e (fun z=>nomatch z) fin
   | dict k=>exact hd.elim
structure KitT (K : PySem.W.Frag) (T : String) : Prop where
 ok : ∀ d d',isiD T d = some (.bool d')→PySem.W.kitOne K (.type (tyD d)) (.type T) = some d'
noncomputable def vIsi (T : String) (f : VE) : VE:=v1 (isiD T) f
theorem isiD_bool {T : String} {d x : PyData} (h : isiD T d = some x) : ∃ b,x = .bool b:=by
 cases d <;> first | (simp [isiD] at h; done) | (simp only [isiD,Option.some.injEq] at h; exact ⟨_,h.symm⟩)
theorem dIsi {X : Cx} {e : Expr} {T : String} {f : VE} (kt : KitT X.K T) (he : PE X e (tCB (rIsi X.K T) (tCons (tV X.K RW f) (tCons (tC (.ty T)) tNil)))) : PE X e (tV X.K RS (vIsi T f)):=he.imp fun _ H Q q=>by
 obtain ⟨ioA,G,H₀,S,F,I,d,e,q⟩:=q
 unfold vIsi v1 at e
 split at e
 ·rename_i x q1
  obtain ⟨b,rfl⟩:=isiD_bool e
  exact ⟨ioA,G,H₀,S,F,I,x,q1,fun v F1 H1 g1 hx=>⟨v,x,b,rfl,hx,kt.ok x b e,q _ F1 H1 g1 rfl⟩⟩
 ·cases e
noncomputable def vListOf (f : VE) : VE:=fun S=>match f S with
 | some (.list ds)=>some (.list ds)
 | some (.tuple ds)=>some (.list ds)
 | _=>none
theorem dListOf {X : Cx} {e : Expr} {f : VE} (he : PE X e (tCB (rListM X.K) (tCons (tV X.K RM f) tNil))) : PE X e (tV X.K RN (vListOf f)):=he.imp fun _ H Q q=>by
 obtain ⟨ioA,G,H₀,S,F,I,d,e,q⟩:=q
 unfold vListOf at e
 split at e
 ·rename_i ds q1
  cases e
  refine ⟨ioA,G,H₀,S,F,I,_,q1,fun v F1 H1 g1 hx=>?_⟩
  obtain ⟨p,xs,rfl,h1,h2⟩:=RM.list g1.fh hx
  exact ⟨xs,.inl h1,fun z hz=>q _ F1 _ (g1.trans (Grow.alloc g1.fh hz)) ⟨_,z,_,rfl,rfl,g1.hh.free hz,g1.fh.free hz,upd_same,h2⟩⟩
 ·rename_i ds q1
  cases e
  refine ⟨ioA,G,H₀,S,F,I,_,q1,fun v F1 H1 g1 hx=>?_⟩
  obtain ⟨p,xs,rfl,h1,h2⟩:=RM.tuple g1.fh hx
  exact ⟨xs,.inr h1,fun z hz=>q _ F1 _ (g1.trans (Grow.alloc g1.fh hz)) ⟨_,z,_,rfl,rfl,g1.hh.free hz,g1.fh.free hz,upd_same,h2⟩⟩
 ·cases e
end VM
namespace VM
open PySem L2
noncomputable abbrev FnM:=List PyData→Option (Bool × PyData)
noncomputable def RB : Bool→Rel
 | true=>RN
 | false=>RS
noncomputable def spV (K : PySem.W.Frag) (m : FnM) : Sp:=fun vs H Q _=>∃ G ds,Same G H∧HasL K G ds vs∧∃ b d,m ds = some (b,d)∧∀ v F' H',Grow G H F' H'→RB b K G H F' H' d v→Q v H'
noncomputable def vCall (m : FnM) (fs : VA) : VE:=fun S=>match fs S with
 | some ds=>match m ds with
  | some (_,d)=>some d
  | none=>none
 | none=>none
noncomputable def vCallN (m : FnM) (fs : VA) : VE:=fun S=>match fs S with
 | some ds=>match m ds with
  | some (true,d)=>some d
  | _=>none
 | none=>none
noncomputable def immR : Bool→PyData→Bool
 | true,.list ds=>immL ds
 | true,_=>false
 | false,d=>imm d
noncomputable def vCallW (m : FnM) (fs : VA) : VE:=fun S=>match fs S with
 | some ds=>match m ds with
  | some (b,d)=>if immR b d = true then some d else none
  | none=>none
 | none=>none
noncomputable def vCallWN (m : FnM) (fs : VA) : VE:=fun S=>match fs S with
 | some ds=>match m ds with
  | some (true,.list es)=>if immL es = true then some (.list es) else none
  | _=>none
 | none=>none
section
variable {X : Cx} {e : Expr} {m : FnM} {fs : VA}
theorem dCal (he : PE X e (tCall (spV X.K m) [] E0 (tVA X.K fs))) : PE X e (tV X.K RS (vCall m fs)):=he.imp fun _ H Q q=>by
 obtain ⟨ioA,G,H₀,S,F,I,d,e,q⟩:=q
 unfold vCall at e
 split at e
 ·rename_i ds q1
  split at e
  ·rename_i b d' q2
   cases e
   refine ⟨ioA,G,H₀,S,F,I,ds,q1,fun vs F1 H1 g1 hx=>?_⟩
   show spV X.K m (vs ++ []) H1 Q E0
   rw [List.append_nil]
   refine ⟨F1,ds,g1.fh,hx,b,_,q2,fun v F' H' g hv=>?_⟩
   cases b with
   | false=>exact q v F' H' (g1.trans g) hv
   | true =>
    obtain ⟨F'',g2,r2⟩:=RN.frz g hv
    exact q v F'' H' (g1.trans g2) r2
  ·cases e
 ·cases e
theorem dCalW (he : PE X e (tCall (spV X.K m) [] E0 (tVAW X.K fs))) : PE X e (tV X.K RS (vCallW m fs)):=he.imp fun _ H Q q=>by
 obtain ⟨ioA,G,H₀,S,F,I,d,e,q⟩:=q
 unfold vCallW at e
 split at e
 ·rename_i ds q1
  split at e
  ·rename_i b d' q2
   split at e
   ·rename_i hi
    cases e
    refine ⟨ioA,G,H₀,S,F,I,ds,q1,fun vs F1 H1 g1 hx=>?_⟩
    show spV X.K m (vs ++ []) H1 Q E0
    rw [List.append_nil]
    refine ⟨H1,ds,Same.refl _,hx,b,_,q2,fun v F' H' g hv=>?_⟩
    have gw : Grow F1 H1 (wide F1 H') H':=wide_grow ⟨g.hh,Same.refl _,g1.fh.trans g.hh,fun _ _ e=>.inl e,fun _ _ _ e=>e⟩
    cases b with
    | false=>exact q v _ H' (g1.trans gw) (imm_wide hi (Has.same g.fh hv))
    | true =>
     obtain ⟨es,a,xs,rfl,h2,h3,h4,h5,h6⟩:=hv
     have hF1 : F1 a = none:=g1.fh.free h3
     obtain ⟨F'',g2,r2⟩:=RN.frz (K:=X.K) (d:=.list es) gw ⟨es,a,xs,rfl,h2,h3,wide_none h5 hF1,h5,immL_wide hi (h6.same g.fh)⟩
     exact q v F'' H' (g1.trans g2) r2
   ·cases e
  ·cases e
 ·cases e
end
structure ItOk (K : PySem.W.Frag) (F : Hp) (J : It) (ds : List PyData) : Prop where
 go : ∀ (i : Nat) d F' H',ds[i]? = some d→Same F F'→Same F' H'→J.go i H'∧∀ x H'',J.yld i H' x H''→∃ F'',Grow F' H' F'' H''∧Has K F'' d x
 stop : ∀ (i : Nat) F' H',ds.length≤i→Same F F'→Same F' H'→J.stop i H'
noncomputable def tVI (K : PySem.W.Frag) (f : VA) : TI:=fun σ H R=>∃ ioA G H₀ S F,VI K ioA G H₀ S F σ H∧∃ ds,f S = some ds∧∀ J F' H',Grow F H F' H'→ItOk K F' J ds→R J H'
noncomputable def vItems (f : VE) : VA:=fun S=>match f S with
 | some (.list ds)=>some ds
 | _=>none
noncomputable def vItemsT (f : VE) : VA:=fun S=>match f S with
 | some (.tuple ds)=>some ds
 | _=>none
noncomputable def rangeD (lo : Int) (n : Nat) : List PyData:=(List.range n).map fun (i : Nat)=>PyData.int (lo + i)
noncomputable def vRng1 (fs : VA) : VA:=fun S=>match fs S with
 | some [.int j]=>@ite _ (-(2 ^ 62)≤j∧j < 2 ^ 62) (Classical.propDecidable _) (some (rangeD 0 j.toNat)) none
 | _=>none
noncomputable def vRng2 (fs : VA) : VA:=fun S=>match fs S with
 | some [.int i,.int j]=>@ite _ ((-(2 ^ 62)≤i∧i < 2 ^ 62)∧-(2 ^ 62)≤j∧j < 2 ^ 62) (Classical.propDecidable _) (some (rangeD i (j - i).toNat)) none
 | _=>none
noncomputable def enumD : Nat→List PyData→List PyData
 | _,[]=>[]
 | i,d :: r=>.tuple [.int i,d] :: enumD (i + 1) r
theorem enumD_get : ∀ (k : Nat) (ds : List PyData) (i : Nat),(enumD k ds)[i]? = ds[i]?.map fun d=>.tuple [.int ((k + i : Nat) : Int),d]
 | _,[],_=>by simp [enumD]
 | k,d :: r,0=>by simp [enumD]
 | k,d :: r,i + 1=>by
  simp only [enumD,List.getElem?_cons_succ]
  rw [enumD_get (k + 1) r i]
  have e : k + 1 + i = k + (i + 1):=by omega
  rw [e]
theorem enumD_length (k : Nat) (ds : List PyData) : (enumD k ds).length = ds.length:=by
 induction ds generalizing k with
 | nil=>rfl
 | cons d r ih=>simp [enumD,ih]
noncomputable def zipD (ds es : List PyData) : List PyData:=List.zipWith (fun a b=>PyData.tuple [a,b]) ds es
noncomputable def vEnum (fs : VA) : VA:=fun S=>match fs S with
 | some [.list ds]=>some (enumD 0 ds)
 | _=>none
noncomputable def vZip (fs : VA) : VA:=fun S=>match fs S with
 | some [.list ds,.list es]=>some (zipD ds es)
 | _=>none
section
variable {X : Cx} {tg l : Expr} {f : VE} {fs : VA} {p pos tpos : Pos} {elts : List Expr} {k : Nat}
theorem itok_list {K : PySem.W.Frag} {F : Hp} {a : Addr} {xs : List V} {ds : List PyData} (h1 : SqL K F a xs) (h2 : HasL K F ds xs) : ItOk K F (Itl K a) ds where
 go:=fun i d F' H' e f1 f2=>by
  obtain ⟨v,ev,hv⟩:=h2.at e
  have hq:=(f1.trans f2).seq h1
  refine ⟨⟨xs,v,hq,ev⟩,fun x H'' y=>?_⟩
  obtain ⟨e1,y⟩:=y
  subst e1
  have:=y xs hq
  rw [ev] at this
  cases this
  exact ⟨F',Grow.refl f2,Has.same f1 hv⟩
 stop:=fun i F' H' e f1 f2=>⟨xs,(f1.trans f2).seq h1,by rw [← h2.length]; exact e⟩
theorem itok_rng {K : PySem.W.Frag} {F : Hp} {lo : Int} {n : Nat} : ItOk K F (Itr lo n) (rangeD lo n) where
 go:=fun i d F' H' e f1 f2=>by
  unfold rangeD at e
  rw [List.getElem?_map] at e
  by_cases hi : i < n
  ·rw [List.getElem?_range hi] at e
   cases e
   refine ⟨hi,fun x H'' y=>?_⟩
   obtain ⟨e1,e2⟩:=y
   subst e1 e2
   exact ⟨F',Grow.refl f2,rfl⟩
  ·rw [List.getElem?_eq_none (by simp; omega)] at e
   cases e
 stop:=fun i F' H' e f1 f2=>by
  unfold rangeD at e
  show n≤i
  simpa using e
theorem itok_enum {K : PySem.W.Frag} {F : Hp} {a : Addr} {xs : List V} {ds : List PyData} (h1 : SqL K F a xs) (h2 : HasL K F ds xs) : ItOk K F (Ite K a) (enumD 0 ds) where
 go:=fun i d F' H' e f1 f2=>by
  rw [enumD_get] at e
  cases q : ds[i]? with
  | none=>rw [q] at e; cases e
  | some d0 =>
   rw [q] at e
   cases e
   obtain ⟨v,ev,hv⟩:=h2.at q
   have hq:=(f1.trans f2).seq h1
   refine ⟨⟨xs,v,hq,ev⟩,fun x H'' y=>?_⟩
   obtain ⟨pp,z,hn,e1,hz,e2⟩:=y
   subst e1 e2
   have:=hz xs hq
   rw [ev] at this
   cases this
   have gr : Grow F' H' (upd F' pp (.tup [.int (i : Int),v])) (upd H' pp (.tup [.int (i : Int),v])):=Grow.allocF f2 hn
   refine ⟨_,gr,pp,_,rfl,SqT.of upd_same,_,_,rfl,?_,_,_,rfl,Has.same (f1.trans gr.ff) hv,rfl⟩
   show V.int (i : Int) = V.int ((0 + i : Nat) : Int)
   rw [Nat.zero_add]
 stop:=fun i F' H' e f1 f2=>⟨xs,(f1.trans f2).seq h1,by rw [← h2.length]; rw [enumD_length] at e; exact e⟩
theorem itL (hl : PE X l (tV X.K RS f)) : PI X tg l (tVI X.K (vItems f)):=PI.imp (pi_list hl) fun _ H Q q=>by
 obtain ⟨ioA,G,H₀,S,F,I,ds,e,q⟩:=q
 unfold vItems at e
 split at e
 ·rename_i q1
  cases e
  refine ⟨ioA,G,H₀,S,F,I,_,q1,fun v F' H' g hv=>?_⟩
  obtain ⟨a,xs,rfl,h1,h2⟩:=hv
  exact ⟨a,rfl,⟨xs,g.fh.seq h1⟩,q _ F' H' g (itok_list h1 h2)⟩
 ·cases e
theorem itR1 (h : PI X tg l (iRng1 (tVAW X.K fs))) : PI X tg l (tVI X.K (vRng1 fs)):=PI.imp h fun _ H Q q=>by
 obtain ⟨ioA,G,H₀,S,F,I,ds,e,q⟩:=q
 unfold vRng1 at e
 split at e
 ·rename_i j q1
  split at e
  ·rename_i hj
   cases e
   refine ⟨ioA,G,H₀,S,F,I,_,q1,fun vs F' H' g hv=>?_⟩
   obtain ⟨v,rfl,hv'⟩:=HasL.one hv
   have ev : v = .int j:=hv'
   exact ⟨j,by rw [ev],hj.1,hj.2,q _ F' H' g itok_rng⟩
  ·cases e
 ·cases e
theorem itE (h : PI X tg l (iEnum X.K (tVA X.K fs))) : PI X tg l (tVI X.K (vEnum fs)):=PI.imp h fun _ H Q q=>by
 obtain ⟨ioA,G,H₀,S,F,I,ds,e,q⟩:=q
 unfold vEnum at e
 split at e
 ·rename_i es q1
  cases e
  refine ⟨ioA,G,H₀,S,F,I,_,q1,fun vs F' H' g hv=>?_⟩
  obtain ⟨v,rfl,a,xs,rfl,h1,h2⟩:=HasL.one hv
  exact ⟨a,rfl,⟨xs,g.fh.seq h1⟩,q _ F' H' g (itok_enum h1 h2)⟩
 ·cases e
end
section
variable {K : PySem.W.Frag} {ioA : Nat→Option Addr} {G H₀ F H : Hp} {S : GS} {σ : St}
theorem VI.set (I : VI K ioA G H₀ S F σ H) {i : Nat} {d : PyData} {v : V} (hd : Has K F d v) : VI K ioA G H₀ (S.set i (some (.fr,d))) F (σ.set i (some v)) H where
 pl:=I.pl
 len:=by rw [List.length_set,List.length_set]; exact I.len
 same:=I.same
 gf:=I.gf
 new:=I.new
 sub:=I.sub
 slot:=fun j t d' e=>by
  by_cases hj : j = i
  ·subst hj
   by_cases hl : j < S.length
   ·rw [List.getElem?_set_self hl] at e
    cases e
    exact ⟨v,List.getElem?_set_self (by rw [← I.len]; exact hl),hd⟩
   ·rw [List.getElem?_eq_none (by rw [List.length_set]; omega)] at e
    cases e
  ·rw [List.getElem?_set_ne (Ne.symm hj)] at e ⊢
   exact I.slot j t d' e
 inj:=fun j k t t' d1 d2 u e1 e2 n1 n2 v1 v2=>by
  have h1 : j ≠ i:=fun z=>by
   subst z
   by_cases hl : j < S.length
   ·rw [List.getElem?_set_self hl] at e1; cases e1; exact (Bool.false_ne_true n1)
   ·rw [List.getElem?_eq_none (by rw [List.length_set]; omega)] at e1; cases e1
  have h2 : k ≠ i:=fun z=>by
   subst z
   by_cases hl : k < S.length
   ·rw [List.getElem?_set_self hl] at e2; cases e2; exact (Bool.false_ne_true n2)
   ·rw [List.getElem?_eq_none (by rw [List.length_set]; omega)] at e2; cases e2
  rw [List.getElem?_set_ne (Ne.symm h1)] at e1 v1
  rw [List.getElem?_set_ne (Ne.symm h2)] at e2 v2
  exact I.inj j k t t' d1 d2 u e1 e2 n1 n2 v1 v2
end
noncomputable abbrev VG:=PyData→GS→Option GS
noncomputable abbrev VGs:=List PyData→GS→Option GS
noncomputable def noIo (S : GS) (i : Nat) : Bool:=match S[i]? with
 | some (some (.io,_))=>false
 | _=>true
noncomputable def gN (i : Nat) : VG:=fun d S=>if noIo S i = true then some (S.set i (some (.fr,d))) else none
noncomputable def g0 : VGs:=fun ds S=>match ds with
 | []=>some S
 | _=>none
noncomputable def gC (t : VG) (u : VGs) : VGs:=fun ds S=>match ds with
 | d :: r=>match t d S with
  | some S1=>u r S1
  | none=>none
 | []=>none
noncomputable def gT (n : Nat) (u : VGs) : VG:=fun d S=>match d with
 | .tuple ds=>if ds.length = n then u ds S else none
 | _=>none
noncomputable def tVG (K : PySem.W.Frag) (t : VG) (js : List Nat) : TG:=fun v σ H Q=>∃ ioA G H₀ S F,VI K ioA G H₀ S F σ H∧∃ d S',Has K F d v∧t d S = some S'∧∀ σ',(∀ (j : Nat),j ∉ js→σ'[j]? = σ[j]?)→VI K ioA G H₀ S' F σ' H→Q σ' H
noncomputable def tVGs (K : PySem.W.Frag) (t : VGs) (js : List Nat) : TGs:=fun vs σ H Q=>∃ ioA G H₀ S F,VI K ioA G H₀ S F σ H∧∃ ds S',HasL K F ds vs∧t ds S = some S'∧∀ σ',(∀ (j : Nat),j ∉ js→σ'[j]? = σ[j]?)→VI K ioA G H₀ S' F σ' H→Q σ' H
section
variable {X : Cx} {e : Expr} {es : List Expr} {t : VG} {u : VGs} {js ks : List Nat} {pos : Pos}
theorem tgN {i : Nat} (h : PG X e (gName i)) : PG X e (tVG X.K (gN i) [i]):=PG.imp h fun v σ H Q q=>by
 obtain ⟨ioA,G,H₀,S,F,I,d,S',hd,e,q⟩:=q
 unfold gN at e
 split at e
 ·cases e
  exact q _ (fun j hj=>List.getElem?_set_ne (fun z=>hj (by simp [z]))) (I.set hd)
 ·cases e
theorem PGs.imp {t t' : TGs} (h : PGs X es t) (ht : ∀ v σ H Q,t' v σ H Q→t v σ H Q) : PGs X es t':=fun pins s σ H v u Q I r q=>h pins s σ H v u Q I r (ht v σ H Q q)
theorem tg0 : PGs X [] (tVGs X.K g0 []):=PGs.imp pgsNil fun vs σ H Q q=>by
 obtain ⟨ioA,G,H₀,S,F,I,ds,S',hd,e,q⟩:=q
 unfold g0 at e
 split at e
 ·cases e
  have hd' : vs = []:=hd
  rw [hd']
  exact q σ (fun _ _=>rfl) I
 ·cases e
theorem tgC (h1 : PG X e (tVG X.K t js)) (h2 : PGs X es (tVGs X.K u ks)) (hs : (assignEach (e :: es) X.env).map (·.2) = assign e X.env :: (assignEach es X.env).map (·.2):=by rfl) : PGs X (e :: es) (tVGs X.K (gC t u) (js ++ ks)):=PGs.imp (pgsCons h1 h2 hs) fun vs σ H Q q=>by
 obtain ⟨ioA,G,H₀,S,F,I,ds,S',hd,e,q⟩:=q
 unfold gC at e
 split at e
 ·rename_i d r
  split at e
  ·rename_i S1 q1
   obtain ⟨v,rr,rfl,hv,hr⟩:=hd
   refine ⟨ioA,G,H₀,S,F,I,d,S1,hv,q1,fun σ1 k1 I1=>⟨ioA,G,H₀,S1,F,I1,r,S',hr,e,fun σ2 k2 I2=>q σ2 (fun j hj=>?_) I2⟩⟩
   rw [k2 j (fun z=>hj (List.mem_append_right _ z)),k1 j (fun z=>hj (List.mem_append_left _ z))]
  ·cases e
 ·cases e
theorem tgT {k n : Nat} (hc : X.calm = true) (h : PGs X es (tVGs X.K u js)) (hn : (assignEach es X.env).length = n:=by rfl) (hst : (assignEach es X.env).findIdx? (·.1) = none:=by rfl) : PG X (.Tuple es k pos) (tVG X.K (gT n u) js):=PG.imp (pgTup hc h hn hst) fun v σ H Q q=>by
 obtain ⟨ioA,G,H₀,S,F,I,d,S',hd,e,q⟩:=q
 unfold gT at e
 split at e
 ·rename_i ds
  split at e
  ·rename_i hl
   obtain ⟨a,xs,rfl,h1,h2⟩:=hd
   exact ⟨xs,I.sub.seqT h1,by rw [← h2.length]; exact hl,ioA,G,H₀,S,F,I,ds,S',h2,e,q⟩
  ·cases e
 ·cases e
end
noncomputable def capOne (S : GS) : Option Nat→Option (Tg × PyData)
 | none=>none
 | some j=>match S[j]? with
  | some (some (.fr,d))=>some (.fr,d)
  | some (some (.ow,d))=>some (.fr,d)
  | some (some (.io,d))=>some (.fr,d)
  | _=>none
noncomputable def capFr (S : GS) : List (Option Nat)→Bool
 | []=>true
 | none :: r=>capFr S r
 | some j :: r=>(match S[j]? with
  | some (some (.fr,_))=>true
  | some (some _)=>false
  | _=>true) && capFr S r
noncomputable def capG (cap : List (Option Nat)) (S : GS) : GS:=cap.map (capOne S)
noncomputable def lcD (t : VG) (fc : VT) (fe : VE) (S : GS) : List PyData→Option (List PyData)
 | []=>some []
 | d :: r=>match t d S with
  | none=>none
  | some S2=>match fc S2 with
   | none=>none
   | some false=>lcD t fc fe S r
   | some true=>match fe S2 with
    | none=>none
    | some e=>match lcD t fc fe S r with
     | none=>none
     | some es=>some (e :: es)
noncomputable def vLC (fi : VA) (cap : List (Option Nat)) (t : VG) (fc : VT) (fe : VE) : VE:=fun S=>match fi S with
 | some ds=>@ite _ (capFr S cap = true∧ds.length < sizeLine) (Classical.propDecidable _) (match lcD t fc fe (capG cap S) ds with
  | some es=>some (.list es)
  | none=>none) none
 | none=>none
noncomputable def vLCW (fi : VA) (cap : List (Option Nat)) (t : VG) (fc : VT) (fe : VE) : VE:=fun S=>match fi S with
 | some ds=>@ite _ (ds.length < sizeLine) (Classical.propDecidable _) (match lcD t fc (vImm fe) (capG cap S) ds with
  | some es=>some (.list es)
  | none=>none) none
 | none=>none
theorem capG_get {cap : List (Option Nat)} {S : GS} {i : Nat} {t : Tg} {d : PyData} (h : (capG cap S)[i]? = some (some (t,d))) : ∃ j t',cap[i]? = some (some j)∧S[j]? = some (some (t',d))∧t'.dat = true∧t = .fr:=by
 unfold capG at h
 rw [List.getElem?_map] at h
 cases q : cap[i]? with
 | none=>rw [q] at h; cases h
 | some o =>
  rw [q] at h
  cases o with
  | none=>simp [capOne] at h
  | some j =>
   simp only [Option.map_some,capOne,Option.some.injEq] at h
   split at h
   ·rename_i d' hS
    cases h
    exact ⟨j,.fr,rfl,hS,rfl,rfl⟩
   ·rename_i d' hS
    cases h
    exact ⟨j,.ow,rfl,hS,rfl,rfl⟩
   ·rename_i d' hS
    cases h
    exact ⟨j,.io,rfl,hS,rfl,rfl⟩
   ·cases h
theorem capFr_get {S : GS} : ∀ {cap : List (Option Nat)} {i j : Nat} {t : Tg} {d : PyData},capFr S cap = true→cap[i]? = some (some j)→S[j]? = some (some (t,d))→t = .fr
 | [],i,j,t,d,_,h,_=>by simp at h
 | none :: r,0,j,t,d,_,h,_=>by simp at h
 | none :: r,i + 1,j,t,d,hc,h,hs=>capFr_get (cap:=r) (i:=i) hc (by simpa using h) hs
 | some k :: r,0,j,t,d,hc,h,hs=>by
  have e : k = j:=by simpa using h
  subst e
  unfold capFr at hc
  rw [hs] at hc
  cases t <;> simp at hc ⊢
 | some k :: r,i + 1,j,t,d,hc,h,hs=>by
  unfold capFr at hc
  rw [Bool.and_eq_true] at hc
  exact capFr_get (cap:=r) (i:=i) hc.2 (by simpa using h) hs
theorem capSt_get {cap : List (Option Nat)} {σ : St} {i j : Nat} {v : V} (h : cap[i]? = some (some j)) (hs : σ[j]? = some (some v)) : (capSt cap σ)[i]? = some (some v):=by
 unfold capSt
 rw [List.getElem?_map,h]
 simp only [Option.map_some,hs]
section
variable {K : PySem.W.Frag} {ioA : Nat→Option Addr} {G H₀ F H : Hp} {S : GS} {σ : St} {cap : List (Option Nat)}
theorem VI.block (I : VI K ioA G H₀ S F σ H) {R : Hp} (hR : Same R H) (hv : ∀ (i j : Nat) t d v,cap[i]? = some (some j)→S[j]? = some (some (t,d))→σ[j]? = some (some v)→t.dat = true→SlotOk K ioA H₀ F H j t d v→Has K R d v) :
  VI K (fun _=>none) R H (capG cap S) R (capSt cap σ) H where
 pl:=fun _ _ _ e=>e
 len:=by unfold capG capSt; rw [List.length_map,List.length_map]
 same:=Same.refl _
 gf:=Same.refl _
 new:=fun _ _ e=>.inl e
 sub:=hR
 slot:=fun i t d e=>by
  obtain ⟨j,t',h1,h2,h3,rfl⟩:=capG_get e
  obtain ⟨v,hv1,hs⟩:=I.slot j t' d h2
  exact ⟨v,capSt_get h1 hv1,hv i j t' d v h1 h2 hv1 h3 hs⟩
 inj:=fun i j t t' d d' v e1 _ n1=>by
  obtain ⟨_,_,_,_,_,rfl⟩:=capG_get e1
  exact absurd n1 Bool.false_ne_true
theorem VI.block_fr (I : VI K ioA G H₀ S F σ H) (hc : capFr S cap = true) : VI K (fun _=>none) F H (capG cap S) F (capSt cap σ) H :=
 I.block I.sub fun i j t d v h1 h2 _ _ hs=>by
  have:=capFr_get hc h1 h2
  subst this
  exact hs
end
theorem capK_of {cap : List (Option Nat)} {σ σ' : St} {js : List Nat} (hjs : (js.all fun j=>cap[j]? == some none) = true) (k : ∀ (j : Nat),j ∉ js→σ'[j]? = (capSt cap σ)[j]?) : CapK (capSt cap σ) σ':=fun j v e=>by
 by_cases hj : j∈js
 ·have:=List.all_eq_true.mp hjs j hj
  have hc : cap[j]? = some none:=by simpa using this
  unfold capSt at e
  rw [List.getElem?_map,hc] at e
  simp at e
 ·rw [k j hj]; exact e
theorem rdLC' {K : PySem.W.Frag} {fi : VA} {cap : List (Option Nat)} {t : VG} {js : List Nat} {fc : VT} {fe fe' : VE} (hjs : (js.all fun j=>cap[j]? == some none) = true) {σ : St} {H : Hp} {Q : VK} {ioA : Nat→Option Addr} {G H₀ F : Hp} {S : GS} {ds es : List PyData}
  (I : VI K ioA G H₀ S F σ H) (e1 : fi S = some ds) (hlen : ds.length < sizeLine) (e2 : lcD t fc fe (capG cap S) ds = some es)
  (Rf : Hp→Hp→Hp) (hb : ∀ F' H',Grow F H F' H'→VI K (fun _=>none) (Rf F' H') H' (capG cap S) (Rf F' H') (capSt cap σ) H'∧Same F' (Rf F' H'))
  (hr : ∀ (F' H' F2 H2 : Hp) S2 d v,fe S2 = some d→Same F' H'→Grow (Rf F' H') H' F2 H2→Has K F2 d v→∃ F3,Grow F' H' F3 H2∧Has K F3 d v) (hfe : ∀ S d,fe S = some d→fe' S = some d)
  (q : ∀ v F' H',Grow F H F' H'→RN K F H F' H' (.list es) v→Q v H') : tLC (tVI K fi) cap (tVG K t js) (tVT K fc) (tV K RS fe') σ H Q:=by
 refine ⟨ioA,G,H₀,S,F,I,ds,e1,fun J F1 H1 g1 it D hD=>?_⟩
 refine ⟨fun i m H'=>∃ F' es1 es2 ys,m = ds.length - i∧i≤ds.length∧H' D = some (.lst ys)∧F' D = none∧HasL K F' es1 ys∧Grow F1 H1 F' H'∧es1.length≤i∧lcD t fc fe (capG cap S) (ds.drop i) = some es2∧es1 ++ es2 = es,?_,?_⟩
 ·exact ⟨_,F1,[],es,[],rfl,Nat.zero_le _,upd_same,g1.fh.free hD,rfl,Grow.alloc g1.fh hD,Nat.zero_le _,e2,rfl⟩
 ·rintro i m H' ⟨F',es1,es2,ys,rfl,hi,hDl,hFD,hh,g,hle,hr2,happ⟩
  by_cases hlt : i < ds.length
  ·have hd : ds[i]? = some ds[i]:=by simp [hlt]
   rw [List.drop_eq_getElem_cons hlt] at hr2
   obtain ⟨go,yl⟩:=it.go i ds[i] F' H' hd g.ff g.fh
   refine .inr ⟨go,fun x H2 y=>?_⟩
   obtain ⟨F2,g2,hx⟩:=yl x H2 y
   obtain ⟨IB,hR⟩:=hb F2 H2 ((g1.trans g).trans g2)
   have hr':=hr F2 H2
   generalize Rf F2 H2 = R at *
   generalize ds[i] = d0 at *
   unfold lcD at hr2
   cases q1 : t d0 (capG cap S) with
   | none=>rw [q1] at hr2; cases hr2
   | some S2 =>
    rw [q1] at hr2
    simp only at hr2
    refine ⟨fun _=>none,R,H2,capG cap S,R,IB,d0,S2,Has.same hR hx,q1,fun σ2 k2 I2=>⟨capK_of hjs k2,?_⟩⟩
    have D2 : H2 D = some (.lst ys):=g2.hh _ _ hDl
    cases q2 : fc S2 with
    | none=>rw [q2] at hr2; cases hr2
    | some b =>
     rw [q2] at hr2
     refine ⟨fun _=>none,R,H2,S2,R,I2,b,q2,fun F3 H3 g3=>?_⟩
     cases b with
     | false =>
      simp only [Bool.false_eq_true,if_false]
      have gg : Grow F' H' F2 H3:=⟨g2.hh.trans g3.hh,g2.ff,hR.trans (g3.ff.trans g3.fh),g2.new,g2.pl⟩
      have hF2 : F2 D = none:=by
       cases z : F2 D with
       | none=>rfl
       | some o =>
        rcases g2.new D o z with w | w | w
        ·rw [hFD] at w; cases w
        ·rw [hDl] at w; cases w
        ·have:=g2.fh D o z
         rw [D2] at this; cases this; simp [imo] at w
      exact ⟨ds.length - (i + 1),by omega,F2,es1,es2,ys,rfl,hlt,g3.hh _ _ D2,hF2,hh.same g2.ff,g.trans gg,by omega,hr2,happ⟩
     | true =>
      simp only [if_true] at hr2 ⊢
      cases q3 : fe S2 with
      | none=>rw [q3] at hr2; cases hr2
      | some e0 =>
       rw [q3] at hr2
       simp only at hr2
       cases q4 : lcD t fc fe (capG cap S) (ds.drop (i + 1)) with
       | none=>rw [q4] at hr2; cases hr2
       | some es3 =>
        rw [q4] at hr2
        cases hr2
        refine ⟨fun _=>none,R,H2,S2,F3,I2.grow g3,e0,hfe _ _ q3,fun v F4 H4 g4 hv=>?_⟩
        obtain ⟨F5,g5,hv5⟩:=hr' F4 H4 S2 e0 v q3 g2.fh (g3.trans g4) hv
        have D4 : H4 D = some (.lst ys):=g5.hh _ _ D2
        have g25:=g2.trans g5
        have hF5 : F5 D = none:=by
         cases z : F5 D with
         | none=>rfl
         | some o =>
          rcases g25.new D o z with w | w | w
          ·rw [hFD] at w; cases w
          ·rw [hDl] at w; cases w
          ·have:=g25.fh D o z
           rw [D4] at this; cases this; simp [imo] at w
        have hly:=hh.length
        refine ⟨ys,D4,by omega,ds.length - (i + 1),by omega,F5,es1 ++ [e0],es3,ys ++ [v],rfl,hlt,upd_same,hF5,HasL.snoc hv5 (hh.same g25.ff),?_,by simp; omega,rfl,by simpa using happ⟩
        have g15:=g.trans g25
        refine ⟨fun b o e=>?_,g15.ff,fun b o e=>?_,g15.new,g15.pl⟩
        ·rw [upd_ne (ne_of_none e hD)]; exact g15.hh b o e
        ·rw [upd_ne (ne_of_none e hF5)]; exact g15.fh b o e
  ·have hie : i = ds.length:=by omega
   subst hie
   rw [List.drop_eq_nil_of_le (Nat.le_refl _)] at hr2
   cases hr2
   rw [List.append_nil] at happ
   subst happ
   refine .inl ⟨it.stop _ F' H' (Nat.le_refl _) g.ff g.fh,q _ F' H' (g1.trans g) ⟨_,D,ys,rfl,rfl,g1.hh.free hD,hFD,hDl,hh⟩⟩
theorem rdLC {K : PySem.W.Frag} {fi : VA} {cap : List (Option Nat)} {t : VG} {js : List Nat} {fc : VT} {fe : VE} (hjs : (js.all fun j=>cap[j]? == some none) = true) {σ : St} {H : Hp} {Q : VK} (q : tV K RN (vLC fi cap t fc fe) σ H Q) :
  tLC (tVI K fi) cap (tVG K t js) (tVT K fc) (tV K RS fe) σ H Q:=by
 obtain ⟨ioA,G,H₀,S,F,I,d,e,q⟩:=q
 unfold vLC at e
 split at e
 ·rename_i ds e1
  split at e
  ·rename_i hc
   split at e
   ·rename_i es e2
    cases e
    exact rdLC' hjs I e1 hc.2 e2 (fun F' _=>F') (fun F' H' g=>⟨(I.grow g).block_fr hc.1,Same.refl _⟩) (fun F' H' F2 H2 S2 d v _ _ g2 hv=>⟨F2,g2,hv⟩) (fun _ _ h=>h) q
   ·cases e
  ·cases e
 ·cases e
noncomputable def cTrue : VT:=fun _=>some true
theorem PIfs.imp {X : Cx} {ifs : List Expr} {t t' : TT} (h : PIfs X ifs t) (ht : ∀ σ H Q,t' σ H Q→t σ H Q) : PIfs X ifs t':=fun pins s σ H Q I q=>h pins s σ H Q I (ht σ H Q q)
theorem ifN {X : Cx} : PIfs X [] (tVT X.K cTrue):=PIfs.imp pif_nil fun _ H Q q=>by
 obtain ⟨ioA,G,H₀,S,F,I,b,e,q⟩:=q
 cases e
 exact q F H (Grow.refl I.sub)
theorem dLC {X : Cx} {e : Expr} {fi : VA} {cap : List (Option Nat)} {t : VG} {js : List Nat} {fc : VT} {fe : VE} (he : PE X e (tLC (tVI X.K fi) cap (tVG X.K t js) (tVT X.K fc) (tV X.K RS fe))) (hjs : (js.all fun j=>cap[j]? == some none) = true:=by rfl) : PE X e (tV X.K RN (vLC fi cap t fc fe)) :=
 he.imp fun _ _ _ q=>rdLC hjs q
end VM
namespace VM
open PySem L2
inductive Out where
 | fail
 | nxt (S : GS)
 | ret (S : GS) (b : Bool) (d : PyData)
 | brk (S : GS)
 | cnt (S : GS)
noncomputable abbrev VS:=GS→Out
noncomputable def RR (K : PySem.W.Frag) (H₀ : Hp) (S : GS) (σ : St) (F H : Hp) : Bool→PyData→V→Prop
 | false,d,v=>Has K F d v
 | true,d,v=>OwnAt K H₀ F H d v∧∀ (i : Nat) t d',S[i]? = some (some (t,d'))→t.own = true→σ[i]? ≠ some (some v)
noncomputable def OutOk (K : PySem.W.Frag) (ioA : Nat→Option Addr) (G H₀ : Hp) (D : Ends) : Out→Prop
 | .fail=>False
 | .nxt S=>∀ F σ H,VI K ioA G H₀ S F σ H→D.nx σ H
 | .brk S=>∀ F σ H,VI K ioA G H₀ S F σ H→D.bk σ H
 | .cnt S=>∀ F σ H,VI K ioA G H₀ S F σ H→D.ct σ H
 | .ret S b d=>∀ v F σ H,VI K ioA G H₀ S F σ H→RR K H₀ S σ F H b d v→D.rt v H
noncomputable def tVS (K : PySem.W.Frag) (g : VS) : TS:=fun D σ H=>∃ ioA G H₀ S F,VI K ioA G H₀ S F σ H∧OutOk K ioA G H₀ D (g S)
section
variable {K : PySem.W.Frag} {ioA : Nat→Option Addr} {G H₀ F H F' H' : Hp} {S : GS} {σ : St} {D : Ends}
theorem VI.self (I : VI K ioA G H₀ S F σ H) : VI K ioA F H₀ S F σ H:=⟨I.len,I.same,Same.refl _,fun _ _ e=>.inl e,I.sub,I.slot,I.inj,fun _ _ _ e=>e⟩
theorem VI.rebase {S' : GS} {σ' : St} (I : VI K ioA G H₀ S F σ H) (J : VI K ioA F H₀ S' F' σ' H') : VI K ioA G H₀ S' F' σ' H':=⟨J.len,J.same,I.gf.trans J.gf,fun a o e=>by
 rcases J.new a o e with z | z | z
 ·exact I.new a o z
 ·exact .inr (.inl z)
 ·exact .inr (.inr z),J.sub,J.slot,J.inj,fun a o u e=>I.pl a o u (J.pl a o u e)⟩
end
noncomputable def gNop : VS:=fun S=>.nxt S
noncomputable def gSeq (g1 g2 : VS) : VS:=fun S=>match g1 S with
 | .nxt S1=>g2 S1
 | o=>o
noncomputable def gIf (c : VT) (g1 g2 : VS) : VS:=fun S=>match c S with
 | some true=>g1 S
 | some false=>g2 S
 | none=>.fail
section
variable {X : Cx} {s : Stmt} {rest a b : List Stmt} {g g1 g2 : VS} {c : Expr} {tc : VT} {pos : Pos}
theorem sNil : PSs X [] (tVS X.K gNop):=PSs.imp pss_nil fun D σ H q=>by
 obtain ⟨ioA,G,H₀,S,F,I,q⟩:=q
 exact q F σ H I
theorem sOne (h : PS X s (tVS X.K g)) : PSs X [s] (tVS X.K g):=pss_one h
theorem sSeq (h1 : PS X s (tVS X.K g1)) (h2 : PSs X rest (tVS X.K g2)) : PSs X (s :: rest) (tVS X.K (gSeq g1 g2)):=PSs.imp (pss_cons h1 h2) fun D σ H q=>by
 obtain ⟨ioA,G,H₀,S,F,I,q⟩:=q
 refine ⟨ioA,G,H₀,S,F,I,?_⟩
 unfold gSeq at q
 cases e : g1 S with
 | fail=>rw [e] at q; exact q
 | brk S1=>rw [e] at q; exact q
 | cnt S1=>rw [e] at q; exact q
 | ret S1 b d=>rw [e] at q; exact q
 | nxt S1=>rw [e] at q; exact fun F' σ' H' I'=>⟨ioA,G,H₀,S1,F',I',q⟩
theorem sIf (hc : PT X c (tVT X.K tc)) (ha : PSs X a (tVS X.K g1)) (hb : PSs X b (tVS X.K g2)) : PS X (.If c a b pos) (tVS X.K (gIf tc g1 g2)):=PS.imp (ps_if hc ha hb) fun D σ H q=>by
 obtain ⟨ioA,G,H₀,S,F,I,q⟩:=q
 unfold gIf at q
 cases e : tc S with
 | none=>rw [e] at q; exact q.elim
 | some k =>
  rw [e] at q
  refine ⟨ioA,G,H₀,S,F,I,k,e,fun F' H' g=>?_⟩
  cases k with
  | true=>simp only [if_true]; exact ⟨ioA,G,H₀,S,F',I.grow g,q⟩
  | false=>simp only [Bool.false_eq_true,if_false]; exact ⟨ioA,G,H₀,S,F',I.grow g,q⟩
noncomputable def gFail : VS:=fun _=>.fail
end
noncomputable def gRet (f : VE) : VS:=fun S=>match f S with
 | some d=>.ret S false d
 | none=>.fail
noncomputable def gRetN (f : VE) : VS:=fun S=>match f S with
 | some d=>.ret S true d
 | none=>.fail
noncomputable def gRetO (i : Nat) : VS:=fun S=>match S[i]? with
 | some (some (.ow,d))=>.ret (S.set i none) true d
 | some (some (.fr,d))=>.ret S false d
 | _=>.fail
section
variable {K : PySem.W.Frag} {ioA : Nat→Option Addr} {G H₀ F H F' H' : Hp} {S : GS} {σ : St}
theorem set_none_get {S : GS} {i j : Nat} {x : Tg × PyData} (h : (S.set i none)[j]? = some (some x)) : j ≠ i∧S[j]? = some (some x):=by
 by_cases hj : j = i
 ·subst hj
  by_cases hl : j < S.length
  ·rw [List.getElem?_set_self hl] at h; cases h
  ·rw [List.getElem?_eq_none (by rw [List.length_set]; omega)] at h; cases h
 ·rw [List.getElem?_set_ne (Ne.symm hj)] at h; exact ⟨hj,h⟩
theorem VI.drop (I : VI K ioA G H₀ S F σ H) (i : Nat) : VI K ioA G H₀ (S.set i none) F σ H where
 pl:=I.pl
 len:=by rw [List.length_set]; exact I.len
 same:=I.same
 gf:=I.gf
 new:=I.new
 sub:=I.sub
 slot:=fun j t d e=>I.slot j t d (set_none_get e).2
 inj:=fun j k t t' d d' v e1 e2=>I.inj j k t t' d d' v (set_none_get e1).2 (set_none_get e2).2
theorem own_alloc (I : VI K ioA G H₀ S F σ H) {i : Nat} {t : Tg} {d : PyData} {a : Addr} (e : S[i]? = some (some (t,d))) (ht : t.own = true) (hv : σ[i]? = some (some (.ref a))) : ∃ xs,H a = some xs:=by
 obtain ⟨v,hv',hs⟩:=I.slot i t d e
 rw [hv] at hv'
 cases hv'
 cases t with
 | fr=>cases ht
 | rf=>cases ht
 | ow=>obtain ⟨a',ds,xs,_,e2,e3,_⟩:=hs; cases e2; exact ⟨_,e3⟩
 | io=>obtain ⟨a',ds,xs,_,e2,e3,_⟩:=hs.1; cases e2; exact ⟨_,e3⟩
 | ce=>obtain ⟨a',c,o,_,e2,e3,_⟩:=hs; cases e2; exact ⟨_,e3⟩
theorem RN.own {d : PyData} {v : V} (I : VI K ioA G H₀ S F σ H) (r : RN K F H F' H' d v) : OwnAt K H₀ F' H' d v∧∀ (i : Nat) t d',S[i]? = some (some (t,d'))→t.own = true→σ[i]? ≠ some (some v):=by
 obtain ⟨ds,a,xs,h1,h2,h3,h4,h5,h6⟩:=r
 refine ⟨⟨a,ds,xs,h1,h2,h5,h4,I.same.free h3,h6⟩,fun i t d' e ht hv=>?_⟩
 rw [h2] at hv
 obtain ⟨ys,hy⟩:=own_alloc I e ht hv
 rw [h3] at hy; cases hy
end
section
variable {X : Cx} {e : Expr} {f : VE} {pos : Pos} {s : Stmt}
theorem sRet (he : PE X e (tV X.K RS f)) : PS X (.Return (some e) pos) (tVS X.K (gRet f)):=PS.imp (ps_ret he) fun D σ H q=>by
 obtain ⟨ioA,G,H₀,S,F,I,q⟩:=q
 unfold gRet at q
 cases e : f S with
 | none=>rw [e] at q; exact q.elim
 | some d=>rw [e] at q; exact ⟨ioA,G,H₀,S,F,I,d,e,fun v F' H' g hv=>q v F' σ H' (I.grow g) hv⟩
theorem sRetO {i : Nat} (he : PE X e (vR i)) : PS X (.Return (some e) pos) (tVS X.K (gRetO i)):=PS.imp (ps_ret he) fun D σ H q=>by
 obtain ⟨ioA,G,H₀,S,F,I,q⟩:=q
 unfold gRetO at q
 split at q
 ·rename_i d hS
  obtain ⟨v,hv,hs⟩:=I.slot i .ow d hS
  show vR i σ H D.rt
  unfold vR; rw [hv]
  refine q v F σ H (I.drop i) ⟨hs,fun j t d' e ht hv'=>?_⟩
  obtain ⟨hj,e⟩:=set_none_get e
  exact hj (I.inj j i t .ow d' d v e hS ht rfl hv' hv)
 ·rename_i d hS
  obtain ⟨v,hv,hs⟩:=I.slot i .fr d hS
  show vR i σ H D.rt
  unfold vR; rw [hv]
  exact q v F σ H I hs
 ·exact q.elim
noncomputable def gEx (f : VE) : VS:=fun S=>match f S with
 | some _=>.nxt S
 | none=>.fail
noncomputable def gAs (f : VE) (t : VG) : VS:=fun S=>match f S with
 | some d=>match t d S with
  | some S'=>.nxt S'
  | none=>.fail
 | none=>.fail
theorem sAs {t : VG} {js : List Nat} (h : PS X s (tAsg (tV X.K RS f) (tVG X.K t js))) : PS X s (tVS X.K (gAs f t)):=PS.imp h fun D σ H q=>by
 obtain ⟨ioA,G,H₀,S,F,I,q⟩:=q
 unfold gAs at q
 cases e : f S with
 | none=>rw [e] at q; exact q.elim
 | some d =>
  rw [e] at q
  simp only at q
  cases e2 : t d S with
  | none=>rw [e2] at q; exact q.elim
  | some S' =>
   rw [e2] at q
   exact ⟨ioA,G,H₀,S,F,I,d,e,fun v F' H' g hv=>⟨ioA,G,H₀,S,F',I.grow g,d,S',hv,e2,fun σ' _ I'=>q F' σ' H' I'⟩⟩
noncomputable def gOw (i : Nat) (f : VE) : VS:=fun S=>match f S with
 | some d=>if noIo S i = true then .nxt (S.set i (some (.ow,d))) else .fail
 | none=>.fail
theorem VI.setOwn {K : PySem.W.Frag} {ioA : Nat→Option Addr} {G H₀ F H : Hp} {S : GS} {σ : St} {i : Nat} {d : PyData} {v : V} (I : VI K ioA G H₀ S F σ H) (ho : OwnAt K H₀ F H d v) (hn : ∀ (i : Nat) t d',S[i]? = some (some (t,d'))→t.own = true→σ[i]? ≠ some (some v)) :
  VI K ioA G H₀ (S.set i (some (.ow,d))) F (σ.set i (some v)) H where
 pl:=I.pl
 len:=by rw [List.length_set,List.length_set]; exact I.len
 same:=I.same
 gf:=I.gf
 new:=I.new
 sub:=I.sub
 slot:=fun j t d' e=>by
  by_cases hj : j = i
  ·subst hj
   by_cases hl : j < S.length
   ·rw [List.getElem?_set_self hl] at e
    cases e
    exact ⟨v,List.getElem?_set_self (by rw [← I.len]; exact hl),ho⟩
   ·rw [List.getElem?_eq_none (by rw [List.length_set]; omega)] at e
    cases e
  ·rw [List.getElem?_set_ne (Ne.symm hj)] at e ⊢
   exact I.slot j t d' e
 inj:=fun j k t t' d1 d2 u e1 e2 n1 n2 v1 v2=>by
  have at_i : ∀ {j : Nat} {t : Tg} {d1 : PyData} {u : V},(S.set i (some (.ow,d)))[j]? = some (some (t,d1))→(σ.set i (some v))[j]? = some (some u)→j = i→u = v:=fun {j t d1 u} e1 v1 z=>by
   subst z
   by_cases hl : j < S.length
   ·rw [List.getElem?_set_self (by rw [← I.len]; exact hl)] at v1
    exact (Option.some.inj (Option.some.inj v1)).symm
   ·rw [List.getElem?_eq_none (by rw [List.length_set]; omega)] at e1; cases e1
  by_cases hj : j = i
  ·by_cases hk : k = i
   ·rw [hj,hk]
   ·have:=at_i e1 v1 hj
    subst this
    rw [List.getElem?_set_ne (Ne.symm hk)] at e2 v2
    exact absurd v2 (hn k t' d2 e2 n2)
  ·by_cases hk : k = i
   ·have:=at_i e2 v2 hk
    subst this
    rw [List.getElem?_set_ne (Ne.symm hj)] at e1 v1
    exact absurd v1 (hn j t d1 e1 n1)
   ·rw [List.getElem?_set_ne (Ne.symm hj)] at e1 v1
    rw [List.getElem?_set_ne (Ne.symm hk)] at e2 v2
    exact I.inj j k t t' d1 d2 u e1 e2 n1 n2 v1 v2
theorem sOw {i : Nat} (h : PS X s (tAsg (tV X.K RN f) (gName i))) : PS X s (tVS X.K (gOw i f)):=PS.imp h fun D σ H q=>by
 obtain ⟨ioA,G,H₀,S,F,I,q⟩:=q
 unfold gOw at q
 cases e : f S with
 | none=>rw [e] at q; exact q.elim
 | some d =>
  rw [e] at q
  simp only at q
  split at q
  ·refine ⟨ioA,G,H₀,S,F,I,d,e,fun v F' H' g hv=>?_⟩
   obtain ⟨h1,h2⟩:=RN.own I hv
   exact q F' _ H' ((I.grow g).setOwn h1 h2)
  ·exact q.elim
theorem tAsg_imp {te te' : TE} {g : TG} (h : PS X s (tAsg te g)) (hi : ∀ σ H Q,te' σ H Q→te σ H Q) : PS X s (tAsg te' g):=PS.imp h fun D σ H q=>hi σ H _ q
noncomputable def frz (i : Nat) (S : GS) : GS:=match S[i]? with
 | some (some (.ow,d))=>S.set i (some (.fr,d))
 | _=>S
noncomputable def gFz (i : Nat) (g : VS) : VS:=fun S=>g (frz i S)
theorem VI.frz {K : PySem.W.Frag} {ioA : Nat→Option Addr} {G H₀ F H : Hp} {S : GS} {σ : St} (I : VI K ioA G H₀ S F σ H) (i : Nat) : ∃ F',VI K ioA G H₀ (frz i S) F' σ H:=by
 unfold VM.frz
 split
 ·rename_i d hS
  obtain ⟨v,hv,a,ds,xs,rfl,rfl,e3,e4,e5,e6⟩:=I.slot i .ow d hS
  have hl : i < S.length:=by
   by_cases h : i < S.length
   ·exact h
   ·rw [List.getElem?_eq_none (by omega)] at hS; cases hS
  have s1 : Same F (upd F a (.lst xs)):=same_upd_new e4
  have s2 : Same (upd F a (.lst xs)) H:=fun b o e=>by
   by_cases hb : b = a
   ·subst hb; rw [upd_same] at e; cases e; exact e3
   ·rw [upd_ne hb] at e; exact I.sub b o e
  refine ⟨upd F a (.lst xs),⟨by rw [List.length_set]; exact I.len,I.same,I.gf.trans s1,fun b o e=>?_,s2,fun j t d' e=>?_,fun j k t t' d1 d2 u g1 g2 n1 n2 v1 v2=>?_,fun b x u e=>by
   by_cases hb : b = a
   ·subst hb; rw [upd_same] at e; cases e
   ·rw [upd_ne hb] at e; exact I.pl b x u e⟩⟩
  ·by_cases hb : b = a
   ·subst hb; exact .inr (.inl e5)
   ·rw [upd_ne hb] at e; exact I.new b o e
  ·by_cases hj : j = i
   ·subst hj
    rw [List.getElem?_set_self hl] at e
    cases e
    exact ⟨_,hv,a,xs,rfl,SqL.of upd_same,e6.same s1⟩
   ·rw [List.getElem?_set_ne (Ne.symm hj)] at e
    obtain ⟨u,hu,hs⟩:=I.slot j t d' e
    have ow : t.own = true→OwnAt K H₀ F H d' u→OwnAt K H₀ (upd F a (.lst xs)) H d' u:=fun ht ⟨b,ds',ys,h1,h2,h3,h4,h5,h6⟩=>by
     refine ⟨b,ds',ys,h1,h2,h3,?_,h5,h6.same s1⟩
     have : b ≠ a:=fun z=>by
      subst z
      exact hj (I.inj j i t .ow d' _ _ e hS ht rfl hu (by rw [h2]; exact hv))
     rw [upd_ne this]; exact h4
    refine ⟨u,hu,?_⟩
    cases t with
    | fr=>exact Has.same s1 hs
    | ow=>exact ow rfl hs
    | io=>exact ⟨ow rfl hs.1,hs.2⟩
    | rf=>exact hs
    | ce =>
     obtain ⟨b,c,o,h1,h2,h3,h4,h5,h6⟩:=hs
     refine ⟨b,c,o,h1,h2,h3,?_,h5,h6.same s1⟩
     have : b ≠ a:=fun z=>by
      subst z
      exact hj (I.inj j i .ce .ow d' _ _ e hS rfl rfl hu (by rw [h2]; exact hv))
     rw [upd_ne this]; exact h4
  ·have nj : ∀ {j : Nat} {t : Tg} {d1 : PyData},(S.set i (some (.fr,.list ds)))[j]? = some (some (t,d1))→t.own = true→S[j]? = some (some (t,d1)):=fun {j t d1} g1 n1=>by
    by_cases hj : j = i
    ·subst hj; rw [List.getElem?_set_self hl] at g1; cases g1; exact absurd n1 Bool.false_ne_true
    ·rw [List.getElem?_set_ne (Ne.symm hj)] at g1; exact g1
   exact I.inj j k t t' d1 d2 u (nj g1 n1) (nj g2 n2) n1 n2 v1 v2
 ·exact ⟨F,I⟩
theorem sFz {i : Nat} {g : VS} (h : PS X s (tVS X.K g)) : PS X s (tVS X.K (gFz i g)):=PS.imp h fun D σ H q=>by
 obtain ⟨ioA,G,H₀,S,F,I,q⟩:=q
 obtain ⟨F',I'⟩:=I.frz i
 exact ⟨ioA,G,H₀,_,F',I',q⟩
end
section
variable {K : PySem.W.Frag} {ioA : Nat→Option Addr} {G H₀ F H : Hp} {S : GS} {σ : St}
noncomputable def ownL (S : GS) (i : Nat) : Option (Tg × List PyData):=match S[i]? with
 | some (some (.ow,.list ds))=>some (.ow,ds)
 | some (some (.io,.list ds))=>some (.io,ds)
 | _=>none
theorem ownL_some {i : Nat} {t : Tg} {ds : List PyData} (h : ownL S i = some (t,ds)) : S[i]? = some (some (t,.list ds))∧t.own = true:=by
 unfold ownL at h
 split at h
 ·cases h; exact ⟨by assumption,rfl⟩
 ·cases h; exact ⟨by assumption,rfl⟩
 ·cases h
theorem ownL_tag {i : Nat} {t : Tg} {ds : List PyData} (h : ownL S i = some (t,ds)) : t = .ow∨t = .io:=by
 unfold ownL at h
 split at h
 ·cases h; exact .inl rfl
 ·cases h; exact .inr rfl
 ·cases h
theorem VI.own (I : VI K ioA G H₀ S F σ H) {i : Nat} {t : Tg} {ds : List PyData} (h : ownL S i = some (t,ds)) : ∃ a xs,σ[i]? = some (some (.ref a))∧H a = some (.lst xs)∧HasL K F ds xs ∧
  ∀ (ds' : List PyData) (xs' : List V) (F' H' : Hp),Grow F H F' H'→HasL K F' ds' xs'→VI K ioA G H₀ (S.set i (some (t,.list ds'))) F' σ (upd H' a (.lst xs')):=by
 obtain ⟨hS,ht⟩:=ownL_some h
 obtain ⟨v,hv,hs⟩:=I.slot i t _ hS
 have ho : OwnAt K H₀ F H (.list ds) v:=by
  rcases ownL_tag h with rfl | rfl
  ·exact hs
  ·exact hs.1
 obtain ⟨a,ds0,xs,e1,rfl,e3,e4,e5,e6⟩:=ho
 cases e1
 have hl : i < S.length:=by
  by_cases h : i < S.length
  ·exact h
  ·rw [List.getElem?_eq_none (by omega)] at hS; cases hS
 refine ⟨a,xs,hv,e3,e6,fun ds' xs' F' H' g hx=>?_⟩
 have J:=I.grow g
 have hF' : F' a = none:=by
  cases q : F' a with
  | none=>rfl
  | some o =>
   rcases g.new a o q with z | z | z
   ·rw [e4] at z; cases z
   ·rw [e3] at z; cases z
   ·have:=g.fh a o q
    rw [g.hh _ _ e3] at this; cases this; simp [imo] at z
 refine ⟨by rw [List.length_set]; exact I.len,fun b o e=>?_,J.gf,J.new,fun b o e=>?_,fun j t' d' e=>?_,fun j k t1 t2 d1 d2 u g1 g2 n1 n2 v1 v2=>?_,J.pl⟩
 ·rw [upd_ne (ne_of_none e e5)]; exact J.same b o e
 ·rw [upd_ne (ne_of_none e hF')]; exact J.sub b o e
 ·by_cases hj : j = i
  ·subst hj
   rw [List.getElem?_set_self hl] at e
   cases e
   refine ⟨_,hv,?_⟩
   have o : OwnAt K H₀ F' (upd H' a (.lst xs')) (.list ds') (.ref a):=⟨a,ds',xs',rfl,rfl,upd_same,hF',e5,hx⟩
   rcases ownL_tag h with rfl | rfl
   ·exact o
   ·exact ⟨o,hs.2⟩
  ·rw [List.getElem?_set_ne (Ne.symm hj)] at e
   obtain ⟨u,hu,hs'⟩:=J.slot j t' d' e
   have ow : t'.own = true→OwnAt K H₀ F' H' d' u→OwnAt K H₀ F' (upd H' a (.lst xs')) d' u:=fun ht' ⟨b,ds1,ys,h1,h2,h3,h4,h5,h6⟩=>by
    refine ⟨b,ds1,ys,h1,h2,?_,h4,h5,h6⟩
    have : b ≠ a:=fun z=>by
     subst z
     exact hj (I.inj j i t' t d' _ _ e hS ht' ht hu (by rw [h2]; exact hv))
    rw [upd_ne this]; exact h3
   refine ⟨u,hu,?_⟩
   cases t' with
   | fr=>exact hs'
   | ow=>exact ow rfl hs'
   | io=>exact ⟨ow rfl hs'.1,hs'.2⟩
   | rf=>exact hs'
   | ce =>
    obtain ⟨b,c,o,h1,h2,h3,h4,h5,h6⟩:=hs'
    refine ⟨b,c,o,h1,h2,?_,h4,h5,h6⟩
    have : b ≠ a:=fun z=>by
     subst z
     exact hj (I.inj j i .ce t d' _ _ e hS rfl ht hu (by rw [h2]; exact hv))
    rw [upd_ne this]; exact h3
 ·have nj : ∀ {j : Nat} {t1 : Tg} {d1 : PyData},(S.set i (some (t,.list ds')))[j]? = some (some (t1,d1))→t1.own = true→∃ d2,S[j]? = some (some (t1,d2)):=fun {j t1 d1} g1 n1=>by
   by_cases hj : j = i
   ·subst hj; rw [List.getElem?_set_self hl] at g1; cases g1; exact ⟨_,hS⟩
   ·rw [List.getElem?_set_ne (Ne.symm hj)] at g1; exact ⟨_,g1⟩
  obtain ⟨d3,q1⟩:=nj g1 n1
  obtain ⟨d4,q2⟩:=nj g2 n2
  exact I.inj j k t1 t2 d3 d4 u q1 q2 n1 n2 v1 v2
end
noncomputable def gApp (i : Nat) (fs : VA) : VS:=fun S=>match ownL S i,fs S with
 | some (t,ds),some [d]=>@ite _ (ds.length < sizeLine) (Classical.propDecidable _) (.nxt (S.set i (some (t,.list (ds ++ [d]))))) .fail
 | _,_=>.fail
noncomputable def gPut (i : Nat) (fk f : VE) : VS:=fun S=>match f S,fk S,ownL S i with
 | some d,some (.int k),some (t,ds)=>(match ixN ds.length k with
  | some j=>.nxt (S.set i (some (t,.list (ds.set j d))))
  | none=>.fail)
 | _,_,_=>.fail
noncomputable def gAugI (h : PyData→PyData→Option PyData) (i : Nat) (fk f : VE) : VS:=fun S=>match ownL S i,fk S,f S with
 | some (t,ds),some (.int k),some y=>(match ixN ds.length k with
  | some j=>(match ds[j]? with
   | some x=>(match h x y with
    | some z=>.nxt (S.set i (some (t,.list (ds.set j z))))
    | none=>.fail)
   | none=>.fail)
  | none=>.fail)
 | _,_,_=>.fail
noncomputable def gAug (h : PyData→PyData→Option PyData) (i : Nat) (f : VE) : VS:=fun S=>match S[i]?,f S with
 | some (some (.fr,x)),some y=>(match h x y with
  | some z=>.nxt (S.set i (some (.fr,z)))
  | none=>.fail)
 | _,_=>.fail
section
variable {X : Cx} {s : Stmt} {fs : VA} {f fk : VE} {h : PyData→PyData→Option PyData}
theorem sApp {i : Nat} (hp : PS X s (tDrop (tBM X.K "list" rAppM (vR i) (tVA X.K fs)))) : PS X s (tVS X.K (gApp i fs)):=PS.imp hp fun D σ H q=>by
 obtain ⟨ioA,G,H₀,S,F,I,q⟩:=q
 unfold gApp at q
 split at q
 ·rename_i t ds d q1 q2
  split at q
  ·rename_i hz
   obtain ⟨a,xs,hv,hH,hx,nx⟩:=I.own q1
   unfold tDrop tBM vR
   simp only [hv]
   refine ⟨.inl ⟨rfl,xs,SqL.of hH⟩,ioA,G,H₀,S,F,I,[d],q2,fun vs F' H' g hvs=>?_⟩
   obtain ⟨v,rfl,hv2⟩:=HasL.one hvs
   refine ⟨xs,g.hh _ _ hH,by rw [← hx.length]; exact hz,q F' σ _ (nx _ _ F' H' g (HasL.snoc hv2 (hx.same g.ff)))⟩
  ·exact q.elim
 ·exact q.elim
theorem sPut {i : Nat} (hp : PS X s (tAsg (tV X.K RS f) (gSub (vR i) (tV X.K RW fk) rSetM))) : PS X s (tVS X.K (gPut i fk f)):=PS.imp hp fun D σ H q=>by
 obtain ⟨ioA,G,H₀,S,F,I,q⟩:=q
 unfold gPut at q
 split at q
 ·rename_i d k t ds q1 q2 q3
  split at q
  ·rename_i j q4
   refine ⟨ioA,G,H₀,S,F,I,d,q1,fun v F1 H1 g1 hv=>?_⟩
   obtain ⟨a,xs,hv',hH,hx,nx⟩:=(I.grow g1).own q3
   show vR i σ H1 _
   unfold vR; rw [hv']
   refine ⟨ioA,G,H₀,S,F1,I.grow g1,_,q2,fun u F2 H2 g2 hu=>?_⟩
   have eu : u = .int k:=hu
   subst eu
   refine ⟨xs,j,g2.hh _ _ hH,by rw [← hx.length]; exact q4,q F2 σ _ (nx _ _ F2 H2 g2 (HasL.set (Has.same g2.ff hv) j (hx.same g2.ff)))⟩
  ·exact q.elim
 ·exact q.elim
end
noncomputable def forG (t : VG) (g : VS) : List PyData→GS→Out
 | [],S=>.nxt S
 | d :: r,S=>match t d S with
  | none=>.fail
  | some S1=>match g S1 with
   | .nxt S2=>forG t g r S2
   | .cnt S2=>forG t g r S2
   | .brk S2=>.nxt S2
   | .ret S2 b e=>.ret S2 b e
   | .fail=>.fail
noncomputable def gFor (fi : VA) (t : VG) (g : VS) : VS:=fun S=>match fi S with
 | some ds=>forG t g ds S
 | none=>.fail
section
variable {X : Cx} {s : Stmt} {t : VG} {js : List Nat} {g : VS} {fi : VA} {tc : VT}
theorem sFor (hp : PS X s (tFor (tVI X.K fi) (tVG X.K t js) (tVS X.K g))) : PS X s (tVS X.K (gFor fi t g)):=PS.imp hp fun D σ H q=>by
 obtain ⟨ioA,G,H₀,S,F,I,q⟩:=q
 unfold gFor at q
 split at q
 ·rename_i ds q1
  refine ⟨ioA,G,H₀,S,F,I,ds,q1,fun J F1 H1 g1 it=>?_⟩
  have I1:=I.grow g1
  refine ⟨fun i m σ' H'=>∃ S' F',m = ds.length - i∧i≤ds.length∧VI X.K ioA F1 H₀ S' F' σ' H'∧OutOk X.K ioA G H₀ D (forG t g (ds.drop i) S'),⟨_,S,F1,rfl,Nat.zero_le _,I1.self,q⟩,?_⟩
  rintro i m σ' H' ⟨S',F',rfl,hi,I',q'⟩
  by_cases hlt : i < ds.length
  ·have hd : ds[i]? = some ds[i]:=by simp [hlt]
   rw [List.drop_eq_getElem_cons hlt] at q'
   obtain ⟨go,yl⟩:=it.go i ds[i] F' H' hd I'.gf I'.sub
   generalize ds[i] = d0 at *
   unfold forG at q'
   cases q2 : t d0 S' with
   | none=>rw [q2] at q'; exact q'.elim
   | some S1 =>
    rw [q2] at q'
    simp only at q'
    refine .inr ⟨go,fun σ2 H2=>∃ m',m' < ds.length - i∧∃ S2 F2,m' = ds.length - (i + 1)∧i + 1≤ds.length∧VI X.K ioA F1 H₀ S2 F2 σ2 H2∧OutOk X.K ioA G H₀ D (forG t g (ds.drop (i + 1)) S2),fun _ _ h=>h,fun x H2 y=>?_⟩
    obtain ⟨F2,g2,hx⟩:=yl x H2 y
    refine ⟨ioA,F1,H₀,S',F2,I'.grow g2,d0,S1,hx,q2,fun σ3 _ I3=>⟨ioA,F1,H₀,S1,F2,I3,?_⟩⟩
    cases q3 : g S1 with
    | fail=>rw [q3] at q'; exact q'.elim
    | nxt S2=>rw [q3] at q'; exact fun F4 σ4 H4 I4=>⟨_,by omega,S2,F4,rfl,hlt,I4,q'⟩
    | cnt S2=>rw [q3] at q'; exact fun F4 σ4 H4 I4=>⟨_,by omega,S2,F4,rfl,hlt,I4,q'⟩
    | brk S2=>rw [q3] at q'; exact fun F4 σ4 H4 I4=>q' F4 σ4 H4 (I1.rebase I4)
    | ret S2 b e=>rw [q3] at q'; exact fun v F4 σ4 H4 I4 r=>q' v F4 σ4 H4 (I1.rebase I4) r
  ·have e : i = ds.length:=by omega
   subst e
   rw [List.drop_eq_nil_of_le (Nat.le_refl _)] at q'
   exact .inl ⟨it.stop _ F' H' (Nat.le_refl _) I'.gf I'.sub,q' F' σ' H' (I1.rebase I')⟩
 ·exact q.elim
end
noncomputable def ini (nN : Nat) (ds : List PyData) : GS:=ds.map (fun d=>some (.fr,d)) ++ List.replicate (nN - ds.length) none
noncomputable def fnM (n nN : Nat) (g : VS) : FnM:=fun ds=>if ds.length = n then (match g (ini nN ds) with
 | .ret _ b d=>some (b,d)
 | .nxt _=>some (false,.none)
 | _=>none) else none
theorem ini_get {nN : Nat} {ds : List PyData} {i : Nat} {t : Tg} {d : PyData} (h : (ini nN ds)[i]? = some (some (t,d))) : ds[i]? = some d∧t = .fr:=by
 unfold ini at h
 by_cases hi : i < ds.length
 ·rw [List.getElem?_append_left (by simpa using hi),List.getElem?_map] at h
  cases q : ds[i]? with
  | none=>rw [q] at h; cases h
  | some d'=>rw [q] at h; simp at h; exact ⟨by rw [h.2],h.1.symm⟩
 ·rw [List.getElem?_append_right (by simpa using hi),List.getElem?_replicate] at h
  split at h
  ·cases h
  ·cases h
section
variable {P : Program} {w : World} {K : PySem.W.Frag} {mg : Str→Option Value} {base : Heap}
theorem ini_ok {G H : Hp} {N : List Str} {ds : List PyData} {vs : List V} (hs : Same G H) (h : HasL K G ds vs) : VI K (fun _=>none) G H (ini N.length ds) G (L2.start N vs) H where
 pl:=fun _ _ _ e=>e
 len:=by unfold ini L2.start; simp [h.length]
 same:=Same.refl _
 gf:=Same.refl _
 new:=fun _ _ e=>.inl e
 sub:=hs
 slot:=fun i t d e=>by
  obtain ⟨e1,rfl⟩:=ini_get e
  obtain ⟨v,hv,hh⟩:=h.at e1
  refine ⟨v,?_,hh⟩
  have hl : i < vs.length:=by
   by_cases z : i < vs.length
   ·exact z
   ·rw [List.getElem?_eq_none (by omega)] at hv; cases hv
  unfold L2.start
  rw [List.getElem?_append_left (by simpa using hl),List.getElem?_map,hv]
  rfl
 inj:=fun i j t t' d d' v e1 _ n1=>by
  rw [(ini_get e1).2] at n1; exact absurd n1 Bool.false_ne_true
theorem fnV0 {x qual : Str} {st : Stmt} {f : Addr} {fd : FuncData} {N ps : List Str} {k : Nat} {g : VS} (F : Fun K x qual st f fd) (S : FnScope N ps (defScope st))
  (hb : ∀ (cdv : Value) (A : Around) (outer : List Env) (s : Shared) (H : Hp) (E : XK),Room k (A.deeper (PyProof.Rows.envOfC qual (defScope st) s.heap.objs.size f cdv))→PSs (cxOf CX0 P w K mg base N qual (defScope st) f cdv A outer s H E).nox (defBody st) (tVS K g)) :
  FnOk P w K mg base CX0 (k + 1) f fd ps (spV K (fnM ps.length N.length g)):=by
 refine F.ok S (fun vs H Q E h=>?_) (fun cdv A outer s H vs Q E hr h=>⟨_,hb cdv A outer s H E hr,?_⟩)
 ·obtain ⟨G,ds,_,hx,b,d,e,_⟩:=h
  unfold fnM at e
  split at e
  ·rename_i hl; rw [← hx.length]; exact hl
  ·cases e
 ·obtain ⟨G,ds,hs,hx,b,d,e,q⟩:=h
  unfold fnM at e
  split at e
  ·refine ⟨fun _=>none,G,H,ini N.length ds,G,ini_ok hs hx,?_⟩
   split at e
   ·rename_i S' b' d' e2
    cases e
    rw [e2]
    intro v F' σ' H' I r
    refine q v F' H' ⟨I.same,I.gf,I.sub,I.new,I.pl⟩ ?_
    cases b with
    | false=>exact r
    | true =>
     obtain ⟨⟨a,es,xs,h1,h2,h3,h4,h5,h6⟩,_⟩:=r
     exact ⟨es,a,xs,h1,h2,h5,h4,h3,h6⟩
   ·rename_i S' e2
    cases e
    rw [e2]
    intro F' σ' H' I
    exact q .non F' H' ⟨I.same,I.gf,I.sub,I.new,I.pl⟩ rfl
   ·cases e
  ·cases e
theorem fnV {x qual : Str} {st : Stmt} {f : Addr} {fd : FuncData} {N ps : List Str} {k n nN : Nat} {g : VS} (F : Fun K x qual st f fd) (S : FnScope N ps (defScope st)) (hn : ps.length = n) (hN : N.length = nN)
  (hb : ∀ (cdv : Value) (A : Around) (outer : List Env) (s : Shared) (H : Hp) (E : XK),Room k (A.deeper (PyProof.Rows.envOfC qual (defScope st) s.heap.objs.size f cdv))→PSs (cxOf CX0 P w K mg base N qual (defScope st) f cdv A outer s H E).nox (defBody st) (tVS K g)) :
  FnOk P w K mg base CX0 (k + 1) f fd ps (spV K (fnM n nN g)):=by
 subst hn hN
 exact fnV0 F S hb
end
end VM
namespace VM
open PySem L2
open PyProof.Rows (list_addW)
noncomputable def rCatS (K : PySem.W.Frag) : R2:=fun x y H Q=>∃ l b xs zs,x = .ref l∧y = .ref b∧SqL K H l xs∧SqL K H b zs∧xs.length + zs.length≤sizeLine∧∀ p,H p = none→Q (.ref p) (upd H p (.lst (xs ++ zs)))
theorem op_catS {X : Cx} : OpR X (binaryOp .Add) (rCatS X.K):=by
 intro pins s σ H x y v u Q I rx ry h
 obtain ⟨l,b,xs,zs,rfl,rfl,hH,hB,hz,q⟩:=h
 cases rx
 cases ry
 obtain ⟨its,r,pl,z⟩:=I.list hH
 obtain ⟨its2,r2,pl2,z2⟩:=I.list hB
 have hl:=r.length
 have hl2:=r2.length
 obtain ⟨⟨cls,dd,data,sl⟩,n,ho,hc,hdd,hd⟩:=pl
 obtain ⟨⟨cls2,dd2,data2,sl2⟩,n2,ho2,hc2,hdd2,hd2⟩:=pl2
 simp only at hc hd hc2 hd2
 subst hc hd hc2 hd2
 have e : its.toArray ++ its2.toArray = (its ++ its2).toArray:=by simp
 refine concat_meets ⟨_,ho,rfl⟩ ⟨_,ho2,rfl⟩ noFill_list_add seq_list_add PySem.F.slot_list_add PySem.F.entry_list_add (PySem.F.args_list_add_2 _ _) (list_addW l b its.toArray its2.toArray n n2 dd dd2 sl sl2 (by rw [List.size_toArray,List.size_toArray]; omega)) ⟨ho,ho2,?_⟩
 rw [e]
 exact ⟨.ref _,_,I.lnew (t':=s.toks) (r.append r2) (by rw [List.length_append]; omega),rfl,q _ I.fresh⟩
section
variable {X : Cx} {a b e : Expr} {fa fb f : VE} {pos : Pos} {s : Stmt} {fs : VA}
end
noncomputable abbrev xorD:=iop fun a b=>.int (Builtin.bitXor a b)
noncomputable def gOwF (i : Nat) (f : VE) : VS:=fun S=>match f S with
 | some d=>if noIo S i = true then .nxt (S.set i (some (.fr,d))) else .fail
 | none=>.fail
section
variable {X : Cx} {e : Expr} {f : VE} {pos : Pos} {s : Stmt}
noncomputable def gClr (i : Nat) : VS:=fun S=>match ownL S i with
 | some (t,_)=>.nxt (S.set i (some (t,.list [])))
 | none=>.fail
noncomputable def gPop (i : Nat) : VS:=fun S=>match ownL S i with
 | some (t,ds)=>if ds = [] then .fail else .nxt (S.set i (some (t,.list ds.dropLast)))
 | none=>.fail
theorem HasL.dropLast {K : PySem.W.Frag} {H : Hp} {ds : List PyData} {vs : List V} (h : HasL K H ds vs) : HasL K H ds.dropLast vs.dropLast:=by
 rw [List.dropLast_eq_take,List.dropLast_eq_take,h.length]
 exact HasL.take _ h
end
structure Bl (mg : Str→Option Value) : Prop where
 len : mg "len" = none
 list : mg "list" = none
 range : mg "range" = none
 enumerate : mg "enumerate" = none
 zip : mg "zip" = none
 abs : mg "abs" = none
 sum : mg "sum" = none
 min : mg "min" = none
 max : mg "max" = none
 int : mg "int" = none
 bool : mg "bool" = none
 tuple : mg "tuple" = none
 str : mg "str" = none
 sorted : mg "sorted" = none
 set : mg "set" = none
 isinstance : mg "isinstance" = none
structure Kits (K : PySem.W.Frag) : Prop where
 int : KitT K "int"
 bool : KitT K "bool"
 list : KitT K "list"
 tuple : KitT K "tuple"
end VM
namespace VM
open PySem L2
theorem kit_int {K : PySem.W.Frag} : KitT K "int":=⟨fun d d' h=>by
 cases d with
 | none=>cases h; kernel_rfl
 | bool _=>cases h; kernel_rfl
 | int _=>cases h; kernel_rfl
 | str _=>cases h; kernel_rfl
 | list _=>cases h; kernel_rfl
 | tuple _=>cases h; kernel_rfl
 | dict _=>cases h⟩
theorem kit_bool {K : PySem.W.Frag} : KitT K "bool":=⟨fun d d' h=>by
 cases d with
 | none=>cases h; kernel_rfl
 | bool _=>cases h; kernel_rfl
 | int _=>cases h; kernel_rfl
 | str _=>cases h; kernel_rfl
 | list _=>cases h; kernel_rfl
 | tuple _=>cases h; kernel_rfl
 | dict _=>cases h⟩
theorem kit_list {K : PySem.W.Frag} : KitT K "list":=⟨fun d d' h=>by
 cases d with
 | none=>cases h; kernel_rfl
 | bool _=>cases h; kernel_rfl
 | int _=>cases h; kernel_rfl
 | str _=>cases h; kernel_rfl
 | list _=>cases h; kernel_rfl
 | tuple _=>cases h; kernel_rfl
 | dict _=>cases h⟩
theorem kit_tuple {K : PySem.W.Frag} : KitT K "tuple":=⟨fun d d' h=>by
 cases d with
 | none=>cases h; kernel_rfl
 | bool _=>cases h; kernel_rfl
 | int _=>cases h; kernel_rfl
 | str _=>cases h; kernel_rfl
 | list _=>cases h; kernel_rfl
 | tuple _=>cases h; kernel_rfl
 | dict _=>cases h⟩
theorem kits (K : PySem.W.Frag) : Kits K:=⟨kit_int,kit_bool,kit_list,kit_tuple⟩
noncomputable def spLaw (K : PySem.W.Frag) : Sp:=fun vs H Q _=>∃ (a : Addr) (ns : List Int),vs = [.ref a]∧SqL K H a (ns.map V.int)∧ns.length≤63∧∀ H',Q (.bl true) H'
theorem walk {k : Nat} {x : Str} {l : PySem.W.OpenLaw} {q : Program} {loose : List Str} {XP : (Str→Option Value)→Heap→Prop} {YP : World→Heap→Prop} {d : DefRec} {K : Params→PySem.W.Frag} (hn : l.most = some 63) (hdf : d.params.defaults = []) (hr : Room k callerA)
  (hY : ∀ (w : World) (h : Heap),YP w h→(K w.params).In h)
  (F : ∀ (w : World) (mg : Str→Option Value) (fa : Addr) (h : Heap),(K w.params).In h→h.Ns mainGlobals mg→mg d.name = some (.ref fa) →
   ∃ fd : FuncData,(∀ (s : Shared) (u : Value),BindsTo s fd ⟨[u],[]⟩ [(x,u)])∧∀ base : Heap,(K w.params).In base→base.Ns mainGlobals mg→FnOk l.prog w (K w.params) mg base CX0 k fa fd [x] (spLaw (K w.params))) :
  PySem.W.WalkO q loose XP YP l.row.toRowW d [] (fun f vs=>PySem.call f vs) :=
 L2.walk_of (n:=63) (k:=k) (x:=x) (CX:=fun _=>CX0) (sp:=fun w=>spLaw (K w.params)) hn (by decide) hdf hr hY F (fun _ _ a ns hl _ hS=>⟨a,ns,rfl,hS,hl,fun _=>rfl⟩) fun _ _ _ _ _ z=>z
end VM
namespace VM
open PySem L2
noncomputable def HasIO (K : PySem.W.Frag) (F : Hp) (v0 : V) : List (Option PyData)→List V→Prop
 | [],vs=>vs = []
 | some d :: r,vs=>∃ v us,vs = v :: us∧Has K F d v∧HasIO K F v0 r us
 | none :: r,vs=>∃ us,vs = v0 :: us∧HasIO K F v0 r us
theorem HasIO.length {K : PySem.W.Frag} {F : Hp} {v0 : V} : ∀ {os : List (Option PyData)} {vs : List V},HasIO K F v0 os vs→os.length = vs.length
 | [],vs,h=>by have h' : vs = []:=h; rw [h']; rfl
 | some _ :: _,_,⟨v,us,h1,_,h3⟩=>by rw [h1]; exact congrArg (· + 1) (HasIO.length h3)
 | none :: _,_,⟨us,h1,h3⟩=>by rw [h1]; exact congrArg (· + 1) (HasIO.length h3)
theorem HasIO.at {K : PySem.W.Frag} {F : Hp} {v0 : V} : ∀ {os : List (Option PyData)} {vs : List V} {i : Nat} {o : Option PyData},HasIO K F v0 os vs→os[i]? = some o→∃ v,vs[i]? = some v∧match o with | some d=>Has K F d v | none=>v = v0
 | [],_,i,o,_,e=>by simp at e
 | some d :: _,_,0,o,⟨v,us,h1,h2,h3⟩,e=>by
  have e' : some d = o:=by simpa using e
  subst e'; rw [h1]; exact ⟨v,rfl,h2⟩
 | none :: _,_,0,o,⟨us,h1,h3⟩,e=>by
  have e' : none = o:=by simpa using e
  subst e'; rw [h1]; exact ⟨v0,rfl,rfl⟩
 | some _ :: r,_,i + 1,o,⟨v,us,h1,h2,h3⟩,e=>by
  obtain ⟨u,q1,q2⟩:=HasIO.at (i:=i) (o:=o) h3 (by simpa using e)
  rw [h1]; exact ⟨u,by simpa using q1,q2⟩
 | none :: r,_,i + 1,o,⟨us,h1,h3⟩,e=>by
  obtain ⟨u,q1,q2⟩:=HasIO.at (i:=i) (o:=o) h3 (by simpa using e)
  rw [h1]; exact ⟨u,by simpa using q1,q2⟩
noncomputable abbrev VIO:=GS→Option (List (Option PyData))
section
variable {X : Cx} {e : Expr} {es : List Expr} {f : VE} {fs : VIO} {j : Nat}
end
noncomputable abbrev FnIO:=List (Option PyData)→List PyData→Option (Bool × PyData × List PyData)
section
variable {X : Cx} {s : Stmt} {m : FnIO} {j : Nat} {fs : VIO}
end
section
variable {P : Program} {w : World} {K : PySem.W.Frag} {mg : Str→Option Value} {base : Heap}
end
end VM
namespace VM
open PySem L2
section
variable {X : Cx} {o e1 e2 : Expr} {apos cpos : Pos}
noncomputable def gRv (i : Nat) : VS:=fun S=>match ownL S i with
 | some (t,ds)=>.nxt (S.set i (some (t,.list ds.reverse)))
 | none=>.fail
noncomputable def insAt {α : Type} (k : Nat) (y : α) (xs : List α) : List α:=xs.take k ++ y :: xs.drop k
noncomputable def gIns (i : Nat) (fs : VA) : VS:=fun S=>match ownL S i,fs S with
 | some (t,ds),some [.int k,d]=>@ite _ (ds.length < sizeLine∧0≤k∧k < 2 ^ 62) (Classical.propDecidable _) (.nxt (S.set i (some (t,.list (insAt k.toNat d ds))))) .fail
 | _,_=>.fail
noncomputable def gPopAt (i : Nat) (fs : VA) : VS:=fun S=>match ownL S i,fs S with
 | some (t,ds),some [.int k]=>@ite _ (k.toNat < ds.length∧0≤k∧k < 2 ^ 62) (Classical.propDecidable _) (.nxt (S.set i (some (t,.list (ds.eraseIdx k.toNat))))) .fail
 | _,_=>.fail
end
end VM
namespace VM
open PySem L2
noncomputable def unlike (ns : List Int) : List Int:=PyProof.Rows.firstMet (fun i=>ns.getD i 0) ns.length
section
variable {X : Cx}
noncomputable def setLenD : PyData→Option PyData
 | .list ds=>match intsOf ds with
  | some ns=>@ite _ (ns.length≤4000) (Classical.propDecidable _) (some (.int (unlike ns).length)) none
  | none=>none
 | _=>none
noncomputable def vSetLen (f : VE) : VE:=v1 setLenD f
end
end VM
namespace VM
open PySem PyProof PyProof.Rows L2
section
variable {X : Cx} {a b c : Expr} {ta tb tc : TE} {fa fb fc : VE} {pos : Pos} {h h' : PyData→PyData→Option PyData} {r r' : R2}
end
end VM
namespace VM
open PySem PySem.Spec PyProof.Rows L2
section
variable {X : Cx} {tg : Expr}
end
end VM
namespace VM
open PySem L2
set_option exponentiation.threshold 3000
theorem lt2000 {j : Int} (h1 : -10000000000000000000000000000000000000000000000000000000000000000000000000000000000000000000000000000 < j) (h2 : j < 10000000000000000000000000000000000000000000000000000000000000000000000000000000000000000000000000000) : j.natAbs < 2 ^ 2000:=by
 have e : (10000000000000000000000000000000000000000000000000000000000000000000000000000000000000000000000000000 : Nat)≤2 ^ 2000:=Nat.le_trans (show (10000000000000000000000000000000000000000000000000000000000000000000000000000000000000000000000000000 : Nat)≤2 ^ 340 by decide +kernel) (Nat.pow_le_pow_right (by decide) (by decide))
 omega
theorem mulD_i {a b : Int} (h1 : -10000000000000000000000000000000000000000000000000000000000000000000000000000000000000000000000000000 < a) (h2 : a < 10000000000000000000000000000000000000000000000000000000000000000000000000000000000000000000000000000) (h3 : -10000000000000000000000000000000000000000000000000000000000000000000000000000000000000000000000000000 < b) (h4 : b < 10000000000000000000000000000000000000000000000000000000000000000000000000000000000000000000000000000) : mulD (.int a) (.int b) = some (.int (a * b)):=if_pos ⟨lt2000 h1 h2,lt2000 h3 h4⟩
theorem divD_i {a b : Int} (h0 : 0 < b) (h1 : b < 10000000000000000000000000000000000000000000000000000000000000000000000000000000000000000000000000000) : divD (.int a) (.int b) = some (.int (a / b)):=if_pos ⟨h0,lt2000 (by omega) h1⟩
theorem modD_i {a b : Int} (h0 : 0 < b) : modD (.int a) (.int b) = some (.int (a % b)):=if_pos h0
theorem powD_i {a b : Int} (h0 : 0≤b) (h1 : b≤1000) (h2 : 0≤a) (h3 : a < 1152921504606846976) : powD (.int a) (.int b) = some (.int (a ^ b.toNat)):=if_pos ⟨h0,h1,by omega⟩
theorem eqD_i (a b : Int) : eqD (.int a) (.int b) = some (.bool (decide (a = b))):=by
 have : PyData.depth (.int a)≤60:=by simp [PyData.depth]
 unfold eqD
 rw [if_pos this]
 simp only [PyData.eqv,Bool.beq_eq_decide_eq]
theorem neD_i (a b : Int) : neD (.int a) (.int b) = some (.bool (!decide (a = b))):=by
 have : PyData.depth (.int a)≤60:=by simp [PyData.depth]
 unfold neD
 rw [if_pos this]
 simp only [PyData.eqv,Bool.beq_eq_decide_eq]
theorem isD_n (x : PyData) : isD x .none = some (.bool (isNoneD x)):=rfl
theorem isnD_n (x : PyData) : isnD x .none = some (.bool (!isNoneD x)):=rfl
theorem forG_ok {t : VG} {g : VS} (P : Nat → GS → Prop) : ∀ (ds : List PyData) (i : Nat) (S : GS), P i S →
    (∀ (j : Nat) d S, ds[j]? = some d → P (i + j) S → ∃ S1, t d S = some S1 ∧ ∃ S2, (g S1 = .nxt S2 ∨ g S1 = .cnt S2) ∧ P (i + j + 1) S2) → ∃ S', forG t g ds S = .nxt S' ∧ P (i + ds.length) S'
  | [], i, S, h, _ => ⟨S, rfl, h⟩
  | d :: r, i, S, h, st => by
    obtain ⟨S1, e1, S2, e2, p2⟩ := st 0 d S rfl h
    obtain ⟨S', e3, p3⟩ := forG_ok P r (i + 1) S2 p2 fun j d' S' e p => by
      have e' : i + 1 + j = i + (j + 1) := by omega
      rw [e'] at p ⊢
      exact st (j + 1) d' S' (by simpa using e) p
    refine ⟨S', ?_, by rw [List.length_cons]; have e' : i + 1 + r.length = i + (r.length + 1) := by omega
                       rw [← e']; exact p3⟩
    simp only [forG, e1]
    rcases e2 with e2 | e2 <;> (rw [e2]; exact e3)
theorem forG_fun {t : VG} {g : VS} (f : Nat→GS) : ∀ (ds : List PyData) (i : Nat),
  (∀ (j : Nat) d,ds[j]? = some d→∃ S1,t d (f (i + j)) = some S1∧g S1 = .nxt (f (i + j + 1)))→forG t g ds (f i) = .nxt (f (i + ds.length))
 | [],i,_=>rfl
 | d :: r,i,st=>by
  obtain ⟨S1,e1,e2⟩:=st 0 d rfl
  have e3:=forG_fun f r (i + 1) fun j d' e=>by
   have e' : i + 1 + j = i + (j + 1):=by omega
   rw [e']
   exact st (j + 1) d' (by simpa using e)
  simp only [forG]
  rw [show i + 0 = i from rfl] at e1
  rw [e1]
  simp only
  rw [e2]
  simp only
  rw [show i + 0 + 1 = i + 1 from rfl,e3,List.length_cons]
  have e' : i + 1 + r.length = i + (r.length + 1):=by omega
  rw [e']
theorem lcD_map {t : VG} {fc : VT} {fe : VE} {S : GS} {f : PyData→PyData} : ∀ {ds : List PyData},(∀ d∈ds,∃ S2,t d S = some S2∧fc S2 = some true∧fe S2 = some (f d))→lcD t fc fe S ds = some (ds.map f)
 | [],_=>rfl
 | d :: r,h=>by
  obtain ⟨S2,e1,e2,e3⟩:=h d List.mem_cons_self
  have ih:=lcD_map (ds:=r) (f:=f) fun x hx=>h x (List.mem_cons_of_mem _ hx)
  simp only [lcD,e1,e2,e3,ih,List.map_cons]
theorem rangeD_get {lo : Int} {n j : Nat} {d : PyData} (h : (rangeD lo n)[j]? = some d) : j < n∧d = .int (lo + j):=by
 unfold rangeD at h
 rw [List.getElem?_map] at h
 by_cases hj : j < n
 ·rw [List.getElem?_range hj] at h
  cases h
  exact ⟨hj,rfl⟩
 ·rw [List.getElem?_eq_none (by simp; omega)] at h
  cases h
theorem rangeD_length (lo : Int) (n : Nat) : (rangeD lo n).length = n:=by simp [rangeD]
theorem cutD_map {α : Type} (f : α→PyData) (xs : List α) (lo hi : Option Int) : cutD (xs.map f) lo hi = ((xs.drop (HT.sIx xs.length 0 lo)).take (HT.sIx xs.length xs.length hi - HT.sIx xs.length 0 lo)).map f:=by
 unfold cutD
 rw [List.length_map,List.map_take,List.map_drop]
end VM
namespace VM
open PySem L2
noncomputable def bSeq (o : Out) (g : VS) : Out:=match o with
 | .nxt S=>g S
 | o=>o
noncomputable def bIf (o : Option Bool) (g1 g2 : VS) (S : GS) : Out:=match o with
 | some true=>g1 S
 | some false=>g2 S
 | none=>.fail
noncomputable def bAnd (o : Option Bool) (g : VT) (S : GS) : Option Bool:=match o with
 | some true=>g S
 | some false=>some false
 | none=>none
noncomputable def bOr (o : Option Bool) (g : VT) (S : GS) : Option Bool:=match o with
 | some true=>some true
 | some false=>g S
 | none=>none
noncomputable def bAndE (o : Option PyData) (g : VE) (S : GS) : Option PyData:=match o with
 | some (.bool true)=>g S
 | some (.bool false)=>some (.bool false)
 | _=>none
noncomputable def bOrE (o : Option PyData) (g : VE) (S : GS) : Option PyData:=match o with
 | some (.bool true)=>some (.bool true)
 | some (.bool false)=>g S
 | _=>none
noncomputable def bIfE (o : Option Bool) (f g : VE) (S : GS) : Option PyData:=match o with
 | some true=>f S
 | some false=>g S
 | none=>none
noncomputable def b2 (h : PyData→PyData→Option PyData) (o : Option PyData) (fb : VE) (S : GS) : Option PyData:=match o with
 | some x=>(match fb S with
  | some y=>h x y
  | none=>none)
 | none=>none
noncomputable def b1 (h : PyData→Option PyData) (o : Option PyData) : Option PyData:=match o with
 | some y=>h y
 | none=>none
noncomputable def bC (o : Option PyData) (fs : VA) (S : GS) : Option (List PyData):=match o with
 | some d=>(match fs S with
  | some ds=>some (d :: ds)
  | none=>none)
 | none=>none
noncomputable def bC1 (d : PyData) (o : Option (List PyData)) : Option (List PyData):=match o with
 | some ds=>some (d :: ds)
 | none=>none
noncomputable def bAs (o : Option PyData) (t : VG) (S : GS) : Out:=match o with
 | some d=>(match t d S with
  | some S'=>.nxt S'
  | none=>.fail)
 | none=>.fail
noncomputable def bNx (o : Option GS) : Out:=match o with
 | some S'=>.nxt S'
 | none=>.fail
noncomputable def bG (o : Option GS) (u : VGs) (r : List PyData) : Option GS:=match o with
 | some S1=>u r S1
 | none=>none
noncomputable def bRes (o : Option (Bool × PyData)) : Option PyData:=match o with
 | some (_,d)=>some d
 | none=>none
noncomputable def bResN (o : Option (Bool × PyData)) : Option PyData:=match o with
 | some (true,d)=>some d
 | _=>none
noncomputable def bIm : Bool→PyData→Option PyData
 | true,d=>some d
 | false,_=>none
theorem bIm_eq (b : Bool) (d : PyData) : bIm b d = if b = true then some d else none:=by cases b <;> rfl
theorem bIm_t (d : PyData) : bIm true d = some d:=rfl
noncomputable def bResW (o : Option (Bool × PyData)) : Option PyData:=match o with
 | some (b,d)=>bIm (immR b d) d
 | none=>none
noncomputable def bResWN (o : Option (Bool × PyData)) : Option PyData:=match o with
 | some (true,.list es)=>bIm (immL es) (.list es)
 | _=>none
noncomputable def bCall (m : FnM) (o : Option (List PyData)) : Option PyData:=match o with
 | some ds=>bRes (m ds)
 | none=>none
noncomputable def bCallN (m : FnM) (o : Option (List PyData)) : Option PyData:=match o with
 | some ds=>bResN (m ds)
 | none=>none
noncomputable def bCallW (m : FnM) (o : Option (List PyData)) : Option PyData:=match o with
 | some ds=>bResW (m ds)
 | none=>none
noncomputable def bCallWN (m : FnM) (o : Option (List PyData)) : Option PyData:=match o with
 | some ds=>bResWN (m ds)
 | none=>none
noncomputable def bFor (o : Option (List PyData)) (t : VG) (g : VS) (S : GS) : Out:=match o with
 | some ds=>forG t g ds S
 | none=>.fail
noncomputable def bFn (o : Out) : Option (Bool × PyData):=match o with
 | .ret _ b d=>some (b,d)
 | .nxt _=>some (false,.none)
 | _=>none
noncomputable def bCh (h' : PyData→PyData→Option PyData) (y : PyData) (o : Option PyData) (fc : VE) (S : GS) : Option PyData:=match o with
 | some (.bool true)=>(match fc S with
  | some z=>h' y z
  | none=>none)
 | some (.bool false)=>some (.bool false)
 | _=>none
section
variable {g g1 g2 : VS} {S : GS} {t : VG} {u : VGs} {f fa fb fc : VE} {c c2 : VT} {fs : VA} {h h' : PyData→PyData→Option PyData} {d x y : PyData} {r : List PyData} {m : FnM} {b : Bool}
theorem gSeq_eq : gSeq g1 g2 S = bSeq (g1 S) g2:=rfl
theorem bSeq_n : bSeq (.nxt S) g = g S:=rfl
theorem bSeq_r : bSeq (.ret S b d) g = .ret S b d:=rfl
theorem bSeq_b : bSeq (.brk S) g = .brk S:=rfl
theorem bSeq_c : bSeq (.cnt S) g = .cnt S:=rfl
theorem gIf_eq : gIf c g1 g2 S = bIf (c S) g1 g2 S:=rfl
theorem bIf_t : bIf (some true) g1 g2 S = g1 S:=rfl
theorem bIf_f : bIf (some false) g1 g2 S = g2 S:=rfl
theorem tAnd_eq : tAnd2 c c2 S = bAnd (c S) c2 S:=rfl
theorem bAnd_t : bAnd (some true) c S = c S:=rfl
theorem bAnd_f : bAnd (some false) c S = some false:=rfl
theorem tOr_eq : tOr2 c c2 S = bOr (c S) c2 S:=rfl
theorem bOr_t : bOr (some true) c S = some true:=rfl
theorem bOr_f : bOr (some false) c S = c S:=rfl
theorem vAnd_eq : vAnd fa fb S = bAndE (fa S) fb S:=rfl
theorem bAndE_t : bAndE (some (.bool true)) f S = f S:=rfl
theorem bAndE_f : bAndE (some (.bool false)) f S = some (.bool false):=rfl
theorem vOr_eq : vOr fa fb S = bOrE (fa S) fb S:=rfl
theorem bOrE_t : bOrE (some (.bool true)) f S = some (.bool true):=rfl
theorem bOrE_f : bOrE (some (.bool false)) f S = f S:=rfl
theorem vIf_eq : vIf c fa fb S = bIfE (c S) fa fb S:=rfl
theorem bIfE_t : bIfE (some true) fa fb S = fa S:=rfl
theorem bIfE_f : bIfE (some false) fa fb S = fb S:=rfl
theorem v2_eq : v2 h fa fb S = b2 h (fa S) fb S:=rfl
theorem b2_s : b2 h (some x) fb S = b1 (h x) (fb S):=rfl
theorem b1_s {k : PyData→Option PyData} : b1 k (some y) = k y:=rfl
theorem v1_eq {k : PyData→Option PyData} : v1 k f S = b1 k (f S):=rfl
theorem aC_eq : aC f fs S = bC (f S) fs S:=rfl
theorem bC_s : bC (some d) fs S = bC1 d (fs S):=rfl
theorem bC1_s : bC1 d (some r) = some (d :: r):=rfl
theorem gAs_eq : gAs f t S = bAs (f S) t S:=rfl
theorem bAs_s : bAs (some d) t S = bNx (t d S):=rfl
theorem bNx_s : bNx (some S) = .nxt S:=rfl
theorem gC_eq : gC t u (d :: r) S = bG (t d S) u r:=rfl
theorem bG_s : bG (some S) u r = u r S:=rfl
theorem vCall_eq : vCall m fs S = bCall m (fs S):=by unfold vCall bCall bRes; rfl
theorem bCall_s {ds : List PyData} : bCall m (some ds) = bRes (m ds):=rfl
theorem vCallN_eq : vCallN m fs S = bCallN m (fs S):=by unfold vCallN bCallN bResN; rfl
theorem bCallN_s {ds : List PyData} : bCallN m (some ds) = bResN (m ds):=rfl
theorem vCallW_eq : vCallW m fs S = bCallW m (fs S):=by unfold vCallW bCallW bResW; simp only [bIm_eq] <;> rfl
theorem bCallW_s {ds : List PyData} : bCallW m (some ds) = bResW (m ds):=rfl
theorem bResW_s : bResW (some (b,d)) = bIm (immR b d) d:=rfl
theorem vCallWN_eq : vCallWN m fs S = bCallWN m (fs S):=by unfold vCallWN bCallWN bResWN; simp only [bIm_eq] <;> rfl
theorem bCallWN_s {ds : List PyData} : bCallWN m (some ds) = bResWN (m ds):=rfl
theorem bResWN_s : bResWN (some (true,.list r)) = bIm (immL r) (.list r):=rfl
theorem bRes_s : bRes (some (b,d)) = some d:=rfl
theorem bResN_s : bResN (some (true,d)) = some d:=rfl
theorem fnM_eq {n nN : Nat} {ds : List PyData} (e : ds.length = n) : fnM n nN g ds = bFn (g (ini nN ds)):=by unfold fnM; rw [if_pos e]; rfl
theorem bFn_r : bFn (.ret S b d) = some (b,d):=rfl
theorem bFn_n : bFn (.nxt S) = some (false,.none):=rfl
theorem vCh_eq : vCh h h' fa fb fc S = (match fa S with
 | some x=>(match fb S with
  | some y=>bCh h' y (h x y) fc S
  | none=>none)
 | none=>none):=rfl
theorem bCh_t : bCh h' y (some (.bool true)) fc S = b1 (h' y) (fc S):=rfl
theorem bCh_f : bCh h' y (some (.bool false)) fc S = some (.bool false):=rfl
theorem atI_0 {α : Type} (x : α) (r : List α) : atI (x :: r) 0 = some x:=atI_nat (j:=0) rfl
theorem atI_1 {α : Type} (x y : α) (r : List α) : atI (x :: y :: r) 1 = some y:=atI_nat (j:=1) rfl
theorem atI_2 {α : Type} (x y z : α) (r : List α) : atI (x :: y :: z :: r) 2 = some z:=atI_nat (j:=2) rfl
theorem atI_3 {α : Type} (x y z w : α) (r : List α) : atI (x :: y :: z :: w :: r) 3 = some w:=atI_nat (j:=3) rfl
theorem gFor_eq {fi : VA} : gFor fi t g S = bFor (fi S) t g S:=rfl
theorem bFor_s {ds : List PyData} : bFor (some ds) t g S = forG t g ds S:=rfl
end
end VM
namespace VM
open PySem L2
noncomputable def bL (o : Option (List PyData)) : Option PyData:=match o with
 | some es=>some (.list es)
 | none=>none
noncomputable def bLC (o : Option (List PyData)) (cap : List (Option Nat)) (t : VG) (fc : VT) (fe : VE) (S : GS) : Option PyData:=match o with
 | some ds=>@ite _ (capFr S cap = true∧ds.length < sizeLine) (Classical.propDecidable _) (bL (lcD t fc fe (capG cap S) ds)) none
 | none=>none
noncomputable def bLCW (o : Option (List PyData)) (cap : List (Option Nat)) (t : VG) (fc : VT) (fe : VE) (S : GS) : Option PyData:=match o with
 | some ds=>@ite _ (ds.length < sizeLine) (Classical.propDecidable _) (bL (lcD t fc (vImm fe) (capG cap S) ds)) none
 | none=>none
noncomputable def bOw (o : Option PyData) (b : Bool) (i : Nat) (t : Tg) (S : GS) : Out:=match o with
 | some d=>if b = true then .nxt (S.set i (some (t,d))) else .fail
 | none=>.fail
section
variable {S : GS} {cap : List (Option Nat)} {t : VG} {fc : VT} {fe f : VE} {fi : VA} {ds es : List PyData} {i : Nat} {d : PyData} {T : Tg} {b : Bool}
theorem vLC_eq : vLC fi cap t fc fe S = bLC (fi S) cap t fc fe S:=by unfold vLC bLC bL; rfl
theorem bLC_s (h1 : capFr S cap = true) (h2 : ds.length < sizeLine) : bLC (some ds) cap t fc fe S = bL (lcD t fc fe (capG cap S) ds):=if_pos ⟨h1,h2⟩
theorem vLCW_eq : vLCW fi cap t fc fe S = bLCW (fi S) cap t fc fe S:=by unfold vLCW bLCW bL; rfl
theorem bL_s : bL (some es) = some (.list es):=rfl
theorem gOw_eq : gOw i f S = bOw (f S) (noIo S i) i .ow S:=rfl
theorem gOwF_eq : gOwF i f S = bOw (f S) (noIo S i) i .fr S:=rfl
theorem bOw_s : bOw (some d) true i T S = .nxt (S.set i (some (T,d))):=rfl
noncomputable def bImm (o : Option PyData) : Option PyData:=match o with
 | some d=>bIm (imm d) d
 | none=>none
theorem vImm_eq : vImm f S = bImm (f S):=by unfold vImm bImm; simp only [bIm_eq] <;> rfl
theorem bImm_s : bImm (some d) = bIm (imm d) d:=rfl
theorem size_big {n : Nat} (h : n≤16000000) : n < sizeLine:=by have e : sizeLine = 16777216:=rfl; omega
end
end VM
namespace VM
open PySem L2
noncomputable def ob (v : Option PyData) : Option (Tg × PyData):=v.map fun d=>(Tg.fr,d)
theorem ob_some (d : PyData) : ob (some d) = some (Tg.fr,d):=rfl
theorem ob_none : ob none = none:=rfl
theorem noIo_ob (o : Option PyData) : (match ob o with | some (.io,_)=>false | _=>true) = true:=by cases o <;> rfl
theorem atI_of {α : Type} (f : α→PyData) {xs : List α} {i : Nat} {x : α} (h : xs[i]? = some x) : atI (xs.map f) (i : Int) = some (f x):=atI_nat (by rw [List.getElem?_map,h]; rfl)
theorem ixN_of {n i : Nat} (h : i < n) : ixN n (i : Int) = some i:=by
 unfold ixN
 rw [if_pos (by omega),if_pos (by omega)]
 simp
end VM
namespace VM
open PySem L2
theorem addD_i (a b : Int) : addD (.int a) (.int b) = some (.int (a + b)):=rfl
theorem subD_i (a b : Int) : subD (.int a) (.int b) = some (.int (a - b)):=rfl
theorem ltD_i (a b : Int) : ltD (.int a) (.int b) = some (.bool (decide (a < b))):=rfl
theorem leD_i (a b : Int) : leD (.int a) (.int b) = some (.bool (decide (a≤b))):=rfl
theorem gtD_i (a b : Int) : gtD (.int a) (.int b) = some (.bool (decide (b < a))):=rfl
theorem geD_i (a b : Int) : geD (.int a) (.int b) = some (.bool (decide (b≤a))):=rfl
theorem xorD_i (a b : Int) : xorD (.int a) (.int b) = some (.int (Builtin.bitXor a b)):=rfl
noncomputable def nio : Option (Option (Tg × PyData))→Bool
 | some (some (.io,_))=>false
 | _=>true
theorem noIo_eq (S : GS) (i : Nat) : noIo S i = nio (S[i]?):=rfl
theorem nio_ob (o : Option PyData) : nio (some (ob o)) = true:=by cases o <;> rfl
theorem nio_n : nio (some none) = true:=rfl
theorem nio_fr (d : PyData) : nio (some (some (.fr,d))) = true:=rfl
theorem nio_ow (d : PyData) : nio (some (some (.ow,d))) = true:=rfl
end VM
namespace VM
open PySem L2
theorem isi_list (ds : List PyData) : isiD "list" (.list ds) = some (.bool true):=by simp [isiD,tyD]
theorem isi_int (i : Int) : isiD "int" (.int i) = some (.bool true):=by simp [isiD,tyD]
theorem isi_bool_i (i : Int) : isiD "bool" (.int i) = some (.bool false):=by simp [isiD,tyD]
theorem isi_tuple (ds : List PyData) : isiD "tuple" (.tuple ds) = some (.bool true):=by simp [isiD,tyD]
end VM
namespace L2
open PySem PySem.Spec PyProof.Rows
section
variable {κ : Type} [DecidableEq κ]
noncomputable def valV (kvs : List (κ × V)) (k : κ) : Option V:=(kvs.find? fun kv=>decide (kv.1 = k)).map (·.2)
noncomputable def putK (kvs : List (κ × V)) (k : κ) (v : V) : List (κ × V) :=
 if (kvs.any fun kv=>decide (kv.1 = k)) = true then kvs.map (fun kv=>if kv.1 = k then (kv.1,v) else kv) else kvs ++ [(k,v)]
noncomputable def dropK (kvs : List (κ × V)) (k : κ) : List (κ × V):=kvs.filter fun kv=>decide (kv.1 ≠ k)
theorem RelO.getD {o : Option V} {u : Option Value} {d : V} {d' : Value} (r : RelO o u) (rd : RelV d d') : RelV (o.getD d) (u.getD d'):=by
 cases o with
 | none=>cases u with
  | none=>exact rd
  | some _=>exact (show False from r).elim
 | some _=>cases u with
  | none=>exact (show False from r).elim
  | some _=>exact r
theorem KV.any {kvs : List (κ × V)} {vs : List (κ × Value)} (r : KV kvs vs) (k : κ) : (kvs.any fun kv=>decide (kv.1 = k)) = vs.any fun kv=>decide (kv.1 = k):=by
 unfold KV at r
 induction r with
 | nil=>rfl
 | cons h t ih=>rw [List.any_cons,List.any_cons,ih,h.1]
theorem KV.drop {kvs : List (κ × V)} {vs : List (κ × Value)} (r : KV kvs vs) (k : κ) : KV (dropK kvs k) (without vs k):=by
 unfold KV at r ⊢
 unfold dropK without
 induction r with
 | nil=>exact .nil
 | @cons p q ps qs h t ih =>
  obtain ⟨h1,h2⟩:=h
  rw [List.filter_cons,List.filter_cons]
  by_cases e : p.1 = k
  ·have a : ¬ decide (p.1 ≠ k) = true:=by simp [e]
   have b : ¬ decide (q.1 ≠ k) = true:=by simp [h1.symm.trans e]
   rw [if_neg a,if_neg b]; exact ih
  ·have e' : ¬ q.1 = k:=fun z=>e (h1.trans z)
   have a : decide (p.1 ≠ k) = true:=by simp [e]
   have b : decide (q.1 ≠ k) = true:=by simp [e']
   rw [if_pos a,if_pos b]; exact .cons ⟨h1,h2⟩ ih
theorem KV.length {kvs : List (κ × V)} {vs : List (κ × Value)} (r : KV kvs vs) : kvs.length = vs.length:=Paired.length r
end
noncomputable abbrev KT (H : Hp) : List (List Key × V)→List (List Key × Addr × Value)→Prop:=Paired fun p q=>p.1 = q.1∧H q.2.1 = some (.tup (p.1.map kV))∧RelV p.2 q.2.2
section
variable {P : Program} {w : World} {H : Hp} {h : Heap} {a : Addr}
end
noncomputable def DGet (H : Hp) (a : Addr) (y : V) (r : Option V) : Prop :=
 (∃ kvs k,Rd H a (.dK kvs)∧y = kV k∧r = valV kvs k)∨∃ kvs k b,Rd H a (.dT kvs)∧y = .ref b∧H b = some (.tup (k.map kV))∧r = valV kvs k
noncomputable def DPut (H : Hp) (a : Addr) (y v : V) (H' : Hp) : Prop :=
 (∃ kvs k,H a = some (.dK kvs)∧y = kV k∧kvs.length < sizeLine∧H' = upd H a (.dK (putK kvs k v))) ∨
 ∃ kvs k b,H a = some (.dT kvs)∧y = .ref b∧H b = some (.tup (k.map kV))∧kvs.length < sizeLine∧H' = upd H a (.dT (putK kvs k v))
theorem DGet.k {H : Hp} {a : Addr} {kvs : List (Key × V)} {k : Key} (e : H a = some (.dK kvs)) : DGet H a (kV k) (valV kvs k):=.inl ⟨kvs,k,.inl e,rfl,rfl⟩
theorem DGet.t {H : Hp} {a b : Addr} {kvs : List (List Key × V)} {k : List Key} (e : H a = some (.dT kvs)) (eb : H b = some (.tup (k.map kV))) : DGet H a (.ref b) (valV kvs k):=.inr ⟨kvs,k,b,.inl e,rfl,eb,rfl⟩
theorem DPut.k {H : Hp} {a : Addr} {kvs : List (Key × V)} {k : Key} {v : V} (e : H a = some (.dK kvs)) (hl : kvs.length < sizeLine) : DPut H a (kV k) v (upd H a (.dK (putK kvs k v))):=.inl ⟨kvs,k,e,rfl,hl,rfl⟩
theorem DPut.t {H : Hp} {a b : Addr} {kvs : List (List Key × V)} {k : List Key} {v : V} (e : H a = some (.dT kvs)) (eb : H b = some (.tup (k.map kV))) (hl : kvs.length < sizeLine) :
  DPut H a (.ref b) v (upd H a (.dT (putK kvs k v))):=.inr ⟨kvs,k,b,e,rfl,eb,hl,rfl⟩
section
variable {X : Cx} {pins : List (Addr × Obj)} {σ : St} {H : Hp} {s : Shared} {a : Addr} {y v : V} {u r : Value} {o : Option V} {A : Around} {E : Value→Shared→Prop}
end
section
variable {X : Cx} {pins : List (Addr × Obj)} {σ : St} {H : Hp} {s : Shared} {a : Addr} {kvs : List (Key × V)} {k : Key} {u : Value} {A : Around} {E : Value→Shared→Prop}
end
section
variable {X : Cx} {o i e value : Expr} {pos pos' tpos : Pos} {td ty tv : TE}
end
section
variable {X : Cx} {pos : Pos}
end
structure M1 (X : Cx) (o : Expr) (m : Str) (apos : Pos) (e : Expr) (cpos : Pos) : Prop where
 base : attributeBase o m X.env (eval o X.env) = eval o X.env
 few : ((backTo cpos (starEach [e] X.env)).all (fun x=>!x.1) && (backToKw cpos (keywordEach [] X.env)).all (fun x=>x.1.isSome)
  && decide (([e] : List Expr).length + ([] : List Keyword).length + (if ([] : List Keyword).isEmpty then 0 else 1) < 30)) = true
 line : (apos.endLine == cpos.line) = true
 trees : backTo cpos (starEach [e] X.env) = [(false,eval e X.env)]
structure M2 (X : Cx) (o : Expr) (m : Str) (apos : Pos) (e f : Expr) (cpos : Pos) : Prop where
 base : attributeBase o m X.env (eval o X.env) = eval o X.env
 few : ((backTo cpos (starEach [e,f] X.env)).all (fun x=>!x.1) && (backToKw cpos (keywordEach [] X.env)).all (fun x=>x.1.isSome)
  && decide (([e,f] : List Expr).length + ([] : List Keyword).length + (if ([] : List Keyword).isEmpty then 0 else 1) < 30)) = true
 line : (apos.endLine == cpos.line) = true
 trees : backTo cpos (starEach [e,f] X.env) = [(false,eval e X.env),(false,eval f X.env)]
section
variable {X : Cx} {pins : List (Addr × Obj)} {σ : St} {H : Hp} {s : Shared} {a : Addr} {y d : V} {u r : Value} {o : Option V} {A : Around} {E : Value→Shared→Prop}
end
section
variable {X : Cx} {o e f : Expr} {apos cpos : Pos} {td ty tx : TE}
end
section
variable {X : Cx} {pins : List (Addr × Obj)} {σ : St} {H : Hp} {s : Shared} {a : Addr} {kvs : List (Key × V)} {A : Around} {E : Value→Shared→Prop}
end
section
variable {X : Cx} {pins : List (Addr × Obj)} {σ : St} {H : Hp} {s : Shared} {a : Addr} {y : V} {u : Value} {A : Around} {E : Value→Shared→Prop}
end
end L2
namespace VM
theorem len1 {α : Type} : ∀ {us : List α},us.length = 1→∃ x0,us = [x0]
 | [x0],_=>⟨x0,rfl⟩
 | [],h=>by cases h
 | _ :: _ :: _,h=>by cases h
theorem len2 {α : Type} : ∀ {us : List α},us.length = 2→∃ x0 x1,us = [x0,x1]
 | [],h=>by cases h
 | x0 :: r,h=>by
  obtain ⟨x1,rfl⟩:=len1 (us:=r) (by simpa using h)
  exact ⟨x0,x1,rfl⟩
theorem len3 {α : Type} : ∀ {us : List α},us.length = 3→∃ x0 x1 x2,us = [x0,x1,x2]
 | [],h=>by cases h
 | x0 :: r,h=>by
  obtain ⟨x1,x2,rfl⟩:=len2 (us:=r) (by simpa using h)
  exact ⟨x0,x1,x2,rfl⟩
theorem len4 {α : Type} : ∀ {us : List α},us.length = 4→∃ x0 x1 x2 x3,us = [x0,x1,x2,x3]
 | [],h=>by cases h
 | x0 :: r,h=>by
  obtain ⟨x1,x2,x3,rfl⟩:=len3 (us:=r) (by simpa using h)
  exact ⟨x0,x1,x2,x3,rfl⟩
end VM
namespace VM
open PySem L2 PySem.W PySem.Calls PyProof.Rows
section
variable {X : Cx}
end
end VM
namespace VM
open PySem L2
noncomputable abbrev Pq:=Int × Int × Int × Int
noncomputable def pD (q : Pq) : PyData:=.tuple [.int q.1,.int q.2.1,.int q.2.2.1,.int q.2.2.2]
noncomputable def psD (ps : List Pq) : PyData:=.list (ps.map pD)
structure MI (K : PySem.W.Frag) (G H₀ : Hp) (D : Addr) (bs : List Addr) (f : Nat→List PyData) (H : Hp) : Prop where
 ex : ∃ F,Same H₀ H∧Same G F∧Same F H∧(∀ a o,F a = some o→G a = some o∨imo o = true)∧F D = none∧H₀ D = none∧H D = some (.lst (bs.map V.ref))∧D ∉ bs∧bs.Nodup ∧
  (∀ b∈bs,F b = none∧H₀ b = none)∧∀ (u : Nat) b,bs[u]? = some b→∃ ys,H b = some (.lst ys)∧HasL K F (f u) ys
section
variable {K : PySem.W.Frag} {G H₀ H : Hp} {D : Addr} {bs : List Addr} {f f' : Nat→List PyData}
end
end VM
namespace VM
open PySem PySem.Spec PyProof.Rows L2
section
variable {K : PySem.W.Frag} {ioA : Nat→Option Addr} {G H₀ F H : Hp} {S : GS} {σ σ' : St}
end
theorem vR_at {i : Nat} {σ : St} {H : Hp} {Q : VK} {v : V} (e : σ[i]? = some (some v)) (q : Q v H) : vR i σ H Q:=by unfold vR; rw [e]; exact q
section
variable {X : Cx} {s1 s2 s3 : Stmt} {rest : List Stmt} {g : VS} {ip is_ iw ia ib iwd il idue : Nat}
end
end VM
namespace EX
open PySem
theorem mapF {o : Obj} {vs : Array Value} (f : Array Value→Array Value) (hd : o.data = .fields vs) : o.mapFields f = { o with data:=.fields (f vs) }:=by
 obtain ⟨c,d,dt,sl⟩:=o
 cases hd
 rfl
structure Fly (fr : List Addr) (e T : Addr) (h h' : Heap) : Prop where
 keep : ∀ b o,b ∉ fr→b ≠ e→h.get? b = some o→h'.get? b = some o
 slot : ∀ b o,b ≠ e→h.get? b = some o→∃ sl,h'.get? b = some { o with slots:=sl }
 self : ∀ o vs,h.get? e = some o→o.data = .fields vs→∃ ws,h'.get? e = some { o with data:=.fields ws }∧ws[0]? = vs[0]?∧ws[1]? = some (.ref T)
 new : h.objs.size≤T
 ent : ∃ oT ts,h'.get? T = some oT∧oT.data = .fields ts∧ts[3]? = some .none
 ne : T ≠ e
section
variable {M : Model} {A : Around} {E : Value→Shared→Prop} {s : Shared} {base : Heap} {env : Env} {outer : List Env} {L e : Addr} {oe : Obj} {vs : Array Value} {Q : Unit→Shared→Prop}
theorem entry {head : Value} {had : Bool} (hfr : A.frames = some (env :: outer)) (hl : s.heap.FunFrames base (env :: outer)) (hf : env.frame = some L) (he : s.heap.get? e = some oe) (hd : oe.data = .fields vs) (hz : 1 < vs.size)
  (k : ∀ h' T,Fly ((env :: outer).filterMap (·.frame)) e T s.heap h'→Q () { s with heap:=h' }) :
  wpAny M A (do let fo ← frameOf env; let pl ← entryPlaceOf L had; let nw ← EntryCells.newEntry head fo .none (rawInt L) .none pl; setField (.ref e) 1 nw)
   (fun _ s'=>wpAny M A (setFlight (.ref e) none) Q E s') E s:=by
 have nfr : e ∉ (env :: outer).filterMap (·.frame):=fun z=>by
  obtain ⟨_,o,ho,no⟩:=hl.mem z
  rw [he] at ho
  cases ho
  exact no vs hd
 refine wpAny_bind (wpAny_frameOf_fun hfr hl hf fun g1 so=>?_)
 refine wpAny_bind (wpAny_entryPlaceOf fun pl hpl=>?_)
 unfold EntryCells.newEntry newFields
 refine wpAny_bind (wpAny_newObj_type ?_ (hpl.sizeOk5 _ _ _ _ _))
 generalize hts : ([head,.ref L,.none,rawInt L,.none] ++ (if pl.isEmpty then List.replicate 6 Value.none else pl)).toArray = ts
 have z3 : 3 < ts.size:=by rw [← hts]; simp only [List.size_toArray,List.length_append,List.length_cons,List.length_nil]; omega
 generalize hob : ({ cls:=.type "traceback",dict:=none,data:=.fields ts } : Obj) = ob
 have hobd : ob.data = .fields ts:=by rw [← hob]
 have hobf : ob.isFreed = false:=Obj.isFreed_of_fields hobd
 have e1 : g1.get? e = some oe:=(so.2.1 e nfr).trans he
 have lt : e < g1.objs.size:=Heap.lt_size e1
 have ne : g1.objs.size ≠ e:=Nat.ne_of_gt lt
 have e2 : (g1.push ob).get? e = some oe:=Heap.get?_push_of_some _ e1
 refine wpAny_setField e2 hd hz ?_
 have d3:=Obj.data_mapFields hd (·.setIfInBounds 1 (Value.ref g1.objs.size))
 have e3:=Heap.get?_update_self (Obj.mapFields (·.setIfInBounds 1 (Value.ref g1.objs.size))) e2 (Obj.isFreed_of_fields d3)
 have t3:=(Heap.get?_update_other (g1.push ob) (Obj.mapFields (·.setIfInBounds 1 (Value.ref g1.objs.size))) ne.symm).trans (Heap.get?_push_size g1 hobf)
 unfold setFlight
 refine wpAny_bind (wpAny_field e3 d3 (x:=.ref g1.objs.size) (by simp [hz]) ?_)
 rw [if_pos (show (Value.ref g1.objs.size != Value.none) = true from by simp)]
 refine wpAny_setField t3 hobd z3 (k _ g1.objs.size ?_)
 have kp : ∀ b o,b ≠ e→g1.get? b = some o→((((g1.push ob).update e (Obj.mapFields (·.setIfInBounds 1 (Value.ref g1.objs.size)))).update g1.objs.size (Obj.mapFields (·.setIfInBounds 3 ((none : Option Addr).elim Value.none fun f=>rawInt f))))).get? b = some o:=fun b o hb q=>by
  rw [Heap.get?_update_other _ _ (Nat.ne_of_gt (Heap.lt_size q)),Heap.get?_update_other _ _ hb.symm]
  exact Heap.get?_push_of_some _ q
 refine ⟨fun b o hb hbe q=>kp b o hbe ((so.2.1 b hb).trans q),fun b o hbe q=>?_,fun o ws q qd=>?_,?_,?_,ne⟩
 ·obtain ⟨sl,q1⟩:=so.2.2 b o q
  exact ⟨sl,kp b _ hbe q1⟩
 ·rw [he] at q
  cases q
  rw [hd] at qd
  cases qd
  refine ⟨vs.setIfInBounds 1 (Value.ref g1.objs.size),?_,by rw [Array.getElem?_setIfInBounds_ne (by decide)],by simp [hz]⟩
  rw [Heap.get?_update_other _ _ ne,e3,mapF _ hd]
 ·exact Nat.le_of_eq so.1.symm
 ·refine ⟨_,_,Heap.get?_update_self _ t3 (Obj.isFreed_of_fields (Obj.data_mapFields hobd _)),Obj.data_mapFields hobd _,?_⟩
  simp [z3]
theorem leave (hfr : A.frames = some (env :: outer)) (hl : s.heap.FunFrames base (env :: outer)) (hf : env.frame = some L) (he : s.heap.get? e = some oe) (hd : oe.data = .fields vs) (h1 : vs[1]? = some .none)
  (k : ∀ h' T,Fly ((env :: outer).filterMap (·.frame)) e T s.heap h'→Q () { s with heap:=h' }) : wpAny M A (leaving env (.ref e)) Q E s:=by
 unfold leaving noteFrame
 simp only [hf]
 refine wpAny_bind (wpAny_bind (wpAny_field he hd h1 ?_))
 rw [if_neg (by decide)]
 exact entry hfr hl hf he hd (Array.getElem?_eq_some_iff.mp h1).1 k
theorem land {T0 : Addr} {o0 : Obj} {ts : Array Value} (hfr : A.frames = some (env :: outer)) (hl : s.heap.FunFrames base (env :: outer)) (hf : env.frame = some L) (he : s.heap.get? e = some oe) (hd : oe.data = .fields vs) (h1 : vs[1]? = some (.ref T0))
  (ne : T0 ≠ e) (h0 : s.heap.get? T0 = some o0) (d0 : o0.data = .fields ts) (h3 : ts[3]? = some .none)
  (k : ∀ h1 h' T,(∀ b o,b ≠ T0→s.heap.get? b = some o→h1.get? b = some o)→h1.objs.size = s.heap.objs.size→Fly ((env :: outer).filterMap (·.frame)) e T h1 h'→Q () { s with heap:=h' }) :
  wpAny M A (noteFrame (.ref e) env) (fun _ s'=>wpAny M A (setFlight (.ref e) none) Q E s') E s:=by
 unfold noteFrame
 simp only [hf]
 refine wpAny_bind (wpAny_field he hd h1 ?_)
 rw [if_pos (show (Value.ref T0 != Value.none) = true from by simp)]
 refine wpAny_bind (wpAny_field h0 d0 h3 ?_)
 rw [if_neg (by simp [rawInt])]
 have z3:=(Array.getElem?_eq_some_iff.mp h3).1
 refine wpAny_bind (wpAny_setField h0 d0 z3 ?_)
 have nT : T0 ∉ (env :: outer).filterMap (·.frame):=fun z=>by
  obtain ⟨_,o,ho,no⟩:=hl.mem z
  rw [h0] at ho
  cases ho
  exact no ts d0
 have kp : ∀ b o,b ≠ T0→s.heap.get? b = some o→(s.heap.update T0 (Obj.mapFields (·.setIfInBounds 3 Value.none))).get? b = some o:=fun b o hb q=>(Heap.get?_update_other _ _ hb.symm).trans q
 refine entry (base:=base) hfr ?_ hf (kp e oe ne.symm he) hd (Array.getElem?_eq_some_iff.mp h1).1 fun h' T fl=>k _ h' T kp (Heap.size_after_update ..) fl
 exact hl.of_keeps fun b o ho no=>⟨o,kp b o (fun z=>by subst z; rw [h0] at ho; cases ho; exact no ts d0) ho,rfl⟩
end
end EX
namespace EX
open PySem PySem.W
open Builtin Builtin.ObjectAttr
set_option maxHeartbeats 1000000
noncomputable abbrev bmV : List Value:=[.type "ValueError",.type "Exception",.type "BaseException",.type "object"]
structure XC (K : Frag) (C D : Addr) : Prop where
 obj : ∃ (nm q : Str) (N : Addr) (bs : List Value) (sn : List Str) (sub : List Value) (ab : Bool) (col : Option Bool) (dd : Option Addr) (k0 k1 k2 k3 k5 : Option Value),
  K.lookup C = some (excClassObj nm q C N bs (.ref D :: bmV) true sn sub ab col dd k0 k1 k2 k3 k5 "ValueError.__new__")
 tl : tailIn K bmV (.ref D :: bmV) = true
section
variable {prog : Program} {w : World} {A : Around} {E : Value→Shared→Prop} {h : Heap} {g : Array GenState} {d : Drawn} {t : Nat} {os : OsState} {K : Frag} {C D fI x : Addr}
theorem made_type {rest : List Value} {Q : Fin→Shared→Prop} (X : K.In h) (c : XC K C D) (hi : findIn K (.ref C) "__init__" = some (some (.ref fI))) (hf : isFn K (.ref fI) = true)
  (hq : ∀ h' e,h.objs.size≤e→Heap.MadeExcOf h h' e (.ref C) rest→wpAny (model prog w) A (call (.ref fI) (.ref e :: rest)) (fun r s'=>r = .none∧Q (.done (.ret (.ref e))) s') E ⟨h',g,d,t,os⟩) (hrest : rest.length≤sizeLine) :
  wpAny (model prog w) A (Builtin.«type.__call__» ⟨.ref C :: rest,[]⟩) Q E ⟨h,g,d,t,os⟩:=by
 obtain ⟨nm,q,N,bs,sn,sub,ab,col,dd,k0,k1,k2,k3,k5,lk⟩:=c.obj
 have hC:=X _ _ lk
 have T:=tail_of_in X c.tl
 have FV:=PySem.F.excBase_ValueError
 repeat (first | with_reducible refine wpAny_loadPart_at hC ?_ | with_reducible refine wpAny_madeBy_exc hC ?_ | wp_step)
 refine codeAny_call_builtin_code (Code.quiet_builtin _ FV.quiet) (wpAny_check_new_subU FV FV.hasB T hC ?_)
 refine codeAny_exc_new_subU FV FV.hasB FV T hC ?_ hrest
 show wpAny _ _ _ _ _ _
 generalize hot : ({ cls:=.type "tuple",data:=.seq rest.toArray } : Obj) = ot
 generalize hoe : ({ cls:=.ref C,data:=.fields #[.ref h.objs.size,.none,.none,.none,.bool false,.none] } : Obj) = oe
 have kp : ∀ b o,h.get? b = some o→((h.push ot).push oe).get? b = some o:=fun b o z=>Heap.get?_push_of_some _ (Heap.get?_push_of_some _ z)
 have X1 : K.In ((h.push ot).push oe):=X.keeps kp
 have hC1:=kp _ _ hC
 have gete : ((h.push ot).push oe).get? (h.objs.size + 1) = some oe:=by
  have z:=Heap.get?_push_size (h.push ot) (o:=oe) (by rw [← hoe]; rfl)
  rwa [Heap.size_push] at z
 have hcl : oe.cls = .ref C:=by rw [← hoe]
 have hcC : (Value.ref C :: (.ref D :: bmV)).contains (.ref C) = true:=by simp
 unfold isInstance
 repeat (first | (with_reducible refine wpAny_loadPart_at gete ?_; rw [hcl]) | (with_reducible refine wpAny_isSubtype_exc hC1 ?_; rw [hcC]) | wp_step)
 show wpAny _ _ (typeLookup (.ref C) _) _ _ _
 refine (looks_findIn X1 hi).at ?_
 refine wpAny_holding (wpAny_bind ?_)
 unfold bindSpecial
 refine wpAny_bind ((looks_typeIn X1 (beq_iff_eq.mp hf)).at ?_)
 rw [if_pos (by decide)]
 refine wpAny_pure (wpAny_bind (wpAny_mono (hq _ (h.objs.size + 1) (Nat.le_succ _) ⟨kp,Heap.get?_none_of_le (Nat.le_succ _),h.objs.size,by rw [gete,← hoe],Heap.get?_none_of_le (Nat.le_refl _),?_⟩) (fun r s' hr=>?_) fun _ _ z=>z))
 ·rw [← hot]
  exact Heap.get?_push_of_some _ (Heap.get?_push_at rfl rfl)
 ·obtain ⟨rfl,hQ⟩:=hr
  wp_walk
  exact hQ
theorem made {rest : List Value} {Q : Value→Shared→Prop} (X : K.In h) (c : XC K C D) (hi : findIn K (.ref C) "__init__" = some (some (.ref fI))) (hf : isFn K (.ref fI) = true)
  (hq : ∀ h' e,h.objs.size≤e→Heap.MadeExcOf h h' e (.ref C) rest→wpAny (model prog w) (A.under (.builtin "type.__call__" ⟨.ref C :: rest,[]⟩)) (call (.ref fI) (.ref e :: rest)) (fun r s'=>r = .none∧Q (.ref e) s') E ⟨h',g,d,t,os⟩)
  (hrest : rest.length≤sizeLine) : wpAny (model prog w) A (call (.ref C) rest) Q E ⟨h,g,d,t,os⟩:=by
 obtain ⟨nm,q,N,bs,sn,sub,ab,col,dd,k0,k1,k2,k3,k5,lk⟩:=c.obj
 have hC:=X _ _ lk
 have f1:=tc_lookup
 have f2:=tc_bind (.ref C)
 have hT : (⟨h,g,d,t,os⟩ : Shared).TypeIs (.ref C) "type":=⟨_,hC,rfl⟩
 refine wpAny_call (codeAny_of_tree ?_)
 show wpAny _ _ (callAny (.ref C) _) _ _ _
 repeat (any_goals (first | assumption | with_reducible refine wpAny_loadPart_at hC ?_ | wp_step))
 refine ⟨rfl,codeAny_call_builtin_at (Code.quiet_builtin _ (by decide +kernel)) entry_typeCall (wpAny_check_type_call_sub hC (made_type X c hi hf (fun h' e hz hm=>hq h' e hz hm) hrest))⟩
theorem init_base {e : Addr} {oe : Obj} {vs : Array Value} {v : Value} {Q : Value→Shared→Prop} (X : K.In h) (c : XC K C D) (he : h.get? e = some oe) (hcl : oe.cls = .ref C) (hd : oe.data = .fields vs) {t0 : Addr} (h0 : vs[0]? = some (.ref t0))
  (hq : ∀ h',(∀ b o,b ≠ e→h.get? b = some o→h'.get? b = some o)→h'.get? e = some { oe with data:=.fields (vs.setIfInBounds 0 (.ref h.objs.size)) }→Q .none ⟨h',g,d,t,os⟩) :
  wpAny (model prog w) A (call (.builtin "ValueError.__init__") [.ref e,v]) Q E ⟨h,g,d,t,os⟩:=by
 obtain ⟨nm,q,N,bs,sn,sub,ab,col,dd,k0,k1,k2,k3,k5,lk⟩:=c.obj
 have hC:=X _ _ lk
 have T:=tail_of_in X c.tl
 have FV:=PySem.F.excBase_ValueError
 have hz:=(Array.getElem?_eq_some_iff.mp h0).1
 refine wpAny_call (codeAny_call_builtin FV.init.plain FV.initEntry (wpAny_check_init_subU FV T hC he hcl ?_))
 unfold Builtin.«BaseException.__init__»
 have e1 : (h.push { cls:=.type "tuple",data:=.seq #[v] }).get? e = some oe:=Heap.get?_push_of_some _ he
 have nd : (Value.ref t0 == doubtfulMember) = false:=by simp [doubtfulMember,rawInt]
 repeat (first | with_reducible refine wpAny_field e1 hd h0 ?_ | with_reducible refine wpAny_setField e1 hd hz ?_ | wp_step)
 refine hq _ (fun b o hb z=>(Heap.get?_update_other _ _ hb.symm).trans (Heap.get?_push_of_some _ z)) ?_
 rw [Heap.get?_update_self _ e1 (Obj.isFreed_of_fields (Obj.data_mapFields hd _)),mapF _ hd]
theorem put_first {o : Obj} {f : Str} {v : Value} {Q : Unit→Shared→Prop} (X : K.In h) (c : XC K C D) (hs : findIn K (.ref C) "__setattr__" = some (some (.builtin "object.__setattr__"))) (hf : findIn K (.ref C) f = some none)
  (hx : h.get? x = some o) (hcl : o.cls = .ref C) {vs : Array Value} (hd : o.data = .fields vs) (hdn : o.dict = none)
  (hq : ∀ h' tk,(∀ b ob,b ≠ x→h.get? b = some ob→h'.get? b = some ob)→h'.get? x = some { o with dict:=some h.objs.size }→h'.Ns1 h.objs.size (fun y=>if y = f then some v else none)→Q () ⟨h',g,d,tk,os⟩) :
  wpAny (model prog w) A (setAttr (.ref x) f v) Q E ⟨h,g,d,t,os⟩:=by
 obtain ⟨nm,q,N,bs,sn,sub,ab,col,dd,k0,k1,k2,k3,k5,lk⟩:=c.obj
 have hC:=X _ _ lk
 have SF:=PySem.F.store_ValueError
 have f3:=SF.slot.bind (.ref x)
 have L1:=looks_findIn (M:=model prog w) X hs
 have L2:=looks_findIn (M:=model prog w) X hf
 unfold setAttr callSpecial? specialOf
 repeat (any_goals (first | assumption | (with_reducible refine wpAny_loadPart_at hx ?_; rw [hcl]) | with_reducible refine L1.at ?_ | wp_step))
 have hco : (Value.ref C :: (.ref D :: bmV)).contains (.type "object") = true:=by simp [bmV]
 have ck:=SF.args (.ref x) (.str f t) v
 refine codeAny_call_builtin SF.slot.plain SF.entry ?_
 refine @check_slot (model prog w) _ _ ⟨h,g,d,t + 1,os⟩ "object.__setattr__" "object" "__setattr__" (.ref x) [.str f t,v] [] _ SF.kind SF.split ?_ ck ?_
 ·refine Looks.andThen (a:=.ref C) (hcl ▸ (Looks.ld hx).andThen .now) ?_
  intro A' Q' E' s' k z
  obtain ⟨h2,g2,d2,t2,o2⟩:=s'
  refine wpAny_isSubtype_exc (k _ _ hC) ?_
  rw [hco]
  exact z
 have hpass:=SF.passes (.ref x)
 unfold Builtin.«object.__setattr__»
 repeat (first | rw [refuse_eq] | (rw [refuseLoop_ref,refuseLoop_ref,hpass]) | (with_reducible refine wpAny_loadPart_at hx ?_; rw [hcl]) | with_reducible refine wpAny_mroOf_exc hC ?_ | with_reducible refine L2.at ?_ | wp_step)
 rw [hdn,hd,if_neg (by simp [typeHasDict])]
 have hx1 : (h.push { cls:=.type "dict",data:=.dict #[] }).get? x = some o:=Heap.get?_push_of_some _ hx
 have hxs : x ≠ h.objs.size:=Nat.ne_of_lt (Heap.lt_size hx)
 refine wpAny_bind (wpAny_alloc' (wpAny_bind (wpAny_update' hx1 (wpAny_pure ?_))))
 generalize hg : ((h.push { cls:=.type "dict",data:=.dict #[] }).update x fun o=>{ cls:=o.cls,dict:=some h.objs.size,data:=o.data,slots:=o.slots }) = g1
 have gd : g1.get? h.objs.size = some { cls:=.type "dict",data:=.dict #[] }:=by rw [← hg]; exact (Heap.get?_update_ne _ _ _ _ hxs.symm).trans (Heap.get?_push_at rfl rfl)
 have gx : g1.get? x = some { o with dict:=some h.objs.size }:=by
  rw [← hg]
  refine Heap.get?_update_self _ hx1 (Obj.isFreed_of_fields (vs:=vs) hd)
 have gk : ∀ b ob,b ≠ x→h.get? b = some ob→g1.get? b = some ob:=fun b ob hb z=>by rw [← hg]; exact (Heap.get?_update_ne _ _ _ _ hb).trans (Heap.get?_push_of_some _ z)
 have nd : g1.Ns h.objs.size (fun _=>none):=⟨_,#[],_,gd,rfl,fun e he=>absurd he (by simp),fun _=>rfl⟩
 show wpAny _ _ (storeInDict h.objs.size (.str f t) f v) _ _ _
 unfold storeInDict newKeyGuard
 refine wpAny_bind (wpAny_pure (wpAny_bind (wpAny_nsSet1 (Heap.Ns1.of_empty nd) fun h' hn' sb=>?_)))
 obtain ⟨oD,esD,epD,hoD,hdD,hcD⟩:=hn'.count (Within.cons f v Within.nil)
 refine wpAny_bind (wpAny_lookBehind hoD (by rw [hdD]; exact pastItsLine_dict (Nat.le_trans hcD (by rw [List.length_cons,List.length_nil,sizeLine_eq]; omega))) ?_)
 wp_walk
 refine hq h' _ (fun b ob hb z=>(sb.2 b (Nat.ne_of_lt (Heap.lt_size z))).trans (gk b ob hb z)) ((sb.2 x hxs).trans gx) ?_
 exact hn'
end
end EX
namespace EX
open PySem PySem.W
open Builtin Builtin.ObjectAttr
set_option maxHeartbeats 1000000
structure XR (K : Frag) (C : Addr) : Prop where
 ga : findIn K (.ref C) "__getattribute__" = some (some (.builtin "BaseException.__getattribute__"))
 gt : findIn K (.ref C) "__getattr__" = some none
 hd : hasDictIn K C = true
 sub : mroIn K C (.type "BaseException") = some true
 ob : mroIn K C (.type "object") = some true
section
variable {prog : Program} {w : World} {A : Around} {E : Value→Shared→Prop} {h : Heap} {g : Array GenState} {d : Drawn} {t : Nat} {os : OsState} {K : Frag} {C D x : Addr} {ox : Obj} {od : Option Obj} {f : Str}
theorem exc_entry {tk : Tok} {fo : Found} {R : Result→Shared→Prop} (X : K.In h) (c : XR K C) (I : InstAt h x ox C od) (hf : findObj K C od f = some fo)
  (hq : match fo with | .value v=>R (.ok (.ret v)) ⟨h,g,d,t,os⟩ | .bind gg a=>wpAny (model prog w) A.in1 (call gg [a,.ref x,.ref C]) (fun v s'=>R (.ok (.ret v)) s') (fun e s'=>R (.error e) s') ⟨h,g,d,t,os⟩ | _=>False) :
  codeAny (model prog w) A (.call (.builtin "BaseException.__getattribute__") ⟨[.ref x,.str f tk],[]⟩) R ⟨h,g,d,t,os⟩:=by
 have FA:=PySem.F.excAttr_ValueError
 have L0:=I.type (M:=model prog w)
 have L1:=looks_find (M:=model prog w) X I hf
 refine codeAny_call_builtin FA.ga.plain PySem.F.entry_bexc_ga ?_
 refine @check_slot (model prog w) _ _ ⟨h,g,d,t,os⟩ "BaseException.__getattribute__" "BaseException" "__getattribute__" (.ref x) [.str f tk] [] _ (by decide +kernel) (by decide +kernel) (L0.andThen (looks_mroIn X c.sub)) (PySem.F.args_bexc_ga _ _) ?_
 unfold Builtin.«object.__getattribute__»
 repeat lk
 cases fo with
 | value v=>exact wpAny_pure hq
 | bind gg a=>exact wpAny_bind (wpAny_holding (wpAny_mono hq (fun _ _ z=>wpAny_pure z) fun _ _ z=>z))
 | _=>exact hq.elim
theorem by_exc {tk : Tok} {fill expr : Bool} {fo : Found} {v : Value} {Q : Value→Shared→Prop} (X : K.In h) (c : XR K C) (I : InstAt h x ox C od) (hf : findObj K C od f = some fo) (hv : handedIn v = true)
  (hq : match fo with | .value u=>u = v | .bind gg a=>∀ A' (R : Result→Shared→Prop),R (.ok (.ret v)) ⟨h,g,d,t,os⟩→codeAny (model prog w) A' (.call gg ⟨[a,.ref x,.ref C],[]⟩) R ⟨h,g,d,t,os⟩ | _=>False) (q : Q v ⟨h,g,d,t,os⟩) :
  wpAny (model prog w) A (getAttrBy (.ref x) (.str f tk) fill expr) Q E ⟨h,g,d,t,os⟩:=by
 have FA:=PySem.F.excAttr_ValueError
 have L0:=I.type (M:=model prog w)
 have L1:=looks_findIn (M:=model prog w) X c.ga
 have L2:=looks_findIn (M:=model prog w) X c.gt
 have f3:=FA.ga.bind (.ref x)
 have hx0 : (expr && onTheHeap (Value.builtin "BaseException.__getattribute__")) = false:=by cases expr <;> rfl
 have hx2 : (Value.builtin "BaseException.__getattribute__" == Value.builtin "object.__getattribute__") = false:=by decide +kernel
 have hx1 : (onTheHeap (Value.ref C) && Value.builtin "BaseException.__getattribute__" == Value.builtin "object.__getattribute__") = false:=by rw [hx2]; rfl
 unfold getAttrBy
 repeat (any_goals (first | assumption | with_reducible refine Looks.at (by assumption) ?_ | wp_step))
 refine exc_entry X c I hf ?_
 have fin : wpAny (model prog w) A (handedOut v) Q E ⟨h,g,d,t,os⟩:=by rw [handedOut_of hv]; exact wpAny_pure q
 cases fo with
 | value u=>cases (show u = v from hq); exact fin
 | bind gg a=>exact wpAny_call (hq _ _ fin)
 | _=>exact hq.elim
theorem get_own {expr : Bool} {od : Obj} {v : Value} {Q : Value→Shared→Prop} (X : K.In h) (c : XR K C) (I : InstAt h x ox C (some od)) (hf : findIn K (.ref C) f = some none) (hl : lookIn f od = some (some v)) (hv : handedIn v = true)
  (q : Q v ⟨h,g,d,t + 1,os⟩) : wpAny (model prog w) A (getAttr (.ref x) f expr) Q E ⟨h,g,d,t,os⟩:=by
 unfold getAttr
 exact wpAny_bind (wpAny_mkText (by_exc X c I (findObj_own c.hd hf rfl hl) hv rfl q))
structure XI (K : Frag) (C : Addr) : Prop extends XR K C where
 ca : findIn K (.ref C) "__class__" = some (some (.builtin "object.__class__"))
 gg : specialIn K (.builtin "object.__class__") "__get__" = some (some (.builtin "getset_descriptor.__get__"))
 tk : takesIn K (.builtin "object.__class__") = some true
theorem kitx_exc (c : XI K C) {od : Obj} : KitX K (.ref x) (.ref C) (fun h=>InstAt h x ox C (some od)) where
 ty:=fun _ _ _ I=>I.type
 it:=fun _ _ X _=>by
  obtain ⟨cd,hc,_⟩:=any_some c.hd
  unfold clsIn at hc
  split at hc
  ·rename_i ho
   intro A' Q' E' s' k q
   unfold isType loadHead
   exact wpAny_bind (wpAny_loadPart (k _ _ (X _ _ ho)) (wpAny_pure q))
  ·cases hc
 ne:=fun h tp dd its n sl X htp=>by
  obtain ⟨cd,hc,_⟩:=any_some c.hd
  refine Bool.eq_false_iff.mpr fun q=>?_
  have e : C = tp:=Value.ref.inj (beq_iff_eq.mp q)
  subst e
  unfold clsIn at hc
  split at hc
  ·rename_i ho
   have z:=(X _ _ ho).symm.trans htp
   cases z
  ·cases hc
 ca:=fun {prog w A E Q s} X I k=>by
  obtain ⟨h,g,d,t,os⟩:=s
  unfold getAttr? getAttrBy?
  refine wpAny_bind (wpAny_mkText (wpAny_bind (wpAny_attempt ?_)))
  refine by_exc X c.toXR I (findObj_data (by obtain ⟨cd,hc,_⟩:=any_some c.hd; rw [hc]; rfl) c.ca c.gg c.tk) rfl (fun A' R r=>?_) (wpAny_pure k)
  exact class_get (s:=⟨h,g,d,t + 1,os⟩) X I c.ob r
theorem isinst {cl : Value} {b : Bool} {od : Obj} {Q : Value→Shared→Prop} (X : K.In h) (c : XI K C) (I : InstAt h x ox C (some od)) (e : kitOne K (.ref C) cl = some b) (q : ∀ tk,Q (.bool b) ⟨h,g,d,tk,os⟩) :
  wpAny (model prog w) A (call (.builtin "isinstance") [.ref x,cl]) Q E ⟨h,g,d,t,os⟩:=kia_one (s:=⟨h,g,d,t,os⟩) (kitx_exc c) X I e (fun z=>nomatch z) q
theorem raise {s : Shared} {env : Env} {ex : Expr} {pos : Pos} {Q : Flow→Shared→Prop} (hh : A.handled = none)
  (hw : wpAny (model prog w) A (eval ex env) (fun v s1=>∃ e oe vs D C,v = .ref e∧K.In s1.heap∧XC K C D∧s1.heap.get? e = some oe∧oe.cls = .ref C∧oe.data = .fields vs∧vs[1]? = some .none∧E (.ref e) s1) E s) :
  wpAny (model prog w) A (exec (.Raise (some ex) none pos) env) Q E s:=by
 rw [arm_exec_Raise]
 have go : wpAny (model prog w) A (raiseStmt env (some (do let v ← eval ex env; standAt pos; pure v)) none) Q E s:=by
  unfold raiseStmt
  refine wpAny_bind (wpAny_bind (wpAny_mono hw (fun v s1 h1=>wpAny_bind (wpAny_standAt (wpAny_pure ?_))) fun _ _ z=>z))
  obtain ⟨e,oe,vs,D,C,rfl,X,c,he,hcl,hd,h1,hE⟩:=h1
  obtain ⟨nm,q,N,bs,sn,sub,ab,col,dd,k0,k1,k2,k3,k5,lk⟩:=c.obj
  have hC:=X _ _ lk
  obtain ⟨hp,g1,d1,t1,os1⟩:=s1
  have hcB : (Value.ref C :: (.ref D :: bmV)).contains (.type "BaseException") = true:=by simp [bmV]
  repeat (first | (with_reducible refine wpAny_loadPart_at he ?_; first | rw [hcl] | rw [hd]) | with_reducible refine wpAny_loadPart_at hC ?_ | (with_reducible refine wpAny_isSubtype_exc hC ?_; rw [hcB]) | with_reducible refine wpAny_field he hd h1 ?_ | wp_step)
  exact wpAny_raiseNew_none hh hE
 first
  | exact wpAny_bind (wpAny_standAt go)
  | (simp only [evalOpt,Option.map]; exact wpAny_bind (wpAny_standAt go))
theorem catches {e : Addr} {cl : Addr} {b : Bool} {oe : Obj} {Q : Bool→Shared→Prop} (X : K.In h) (he : h.get? e = some oe) (hcl : oe.cls = .ref C) (hx : mroIn K cl (.type "BaseException") = some true) (ht : typeIn K (.ref cl) = some (.type "type")) (hm : mroIn K C (.ref cl) = some b) (q : Q b ⟨h,g,d,t,os⟩) :
  wpAny (model prog w) A (excMatches (.ref e) (.ref cl)) Q E ⟨h,g,d,t,os⟩:=by
 have L0 : Looks (model prog w) h (typeOf (.ref e)) (.ref C):=hcl ▸ (Looks.ld he).andThen .now
 have L1:=looks_mroIn (M:=model prog w) X hx
 have L2:=looks_mroIn (M:=model prog w) X hm
 have L3:=looks_typeIn (M:=model prog w) X ht
 have f:=tc_notTuple
 obtain ⟨ocl,lk,hcd⟩ : ∃ ocl,h.get? cl = some ocl∧∃ cd,ocl.data = .cls cd:=by
  unfold mroIn clsIn at hx
  split at hx
  ·rename_i ho
   exact ⟨_,X _ _ ho,_,rfl⟩
  ·cases hx
 obtain ⟨cd,hcd⟩:=hcd
 unfold excMatches isExcClass isInstance isType loadHead
 repeat (any_goals (first | assumption | with_reducible refine Looks.at (by assumption) ?_ | (with_reducible refine wpAny_loadPart_at lk ?_; rw [hcd]) | wp_step))
 cases b <;> (wp_walk; exact q)
end
end EX
namespace EX
open PySem PySem.Spec PyProof.Rows L2
set_option maxHeartbeats 1000000
noncomputable def IsE (e C : Addr) (dx : Option Addr) (tb : Value) : HO:=.ext fun h=>∃ oe vs t0,h.get? e = some oe∧oe.cls = .ref C∧oe.dict = dx∧oe.data = .fields vs∧vs[0]? = some (.ref t0)∧vs[1]? = some tb
section
variable {P : Program} {w : World} {H : Hp} {h : Heap} {e C : Addr} {dx : Option Addr} {tb : Value} {oe : Obj} {vs : Array Value} {t0 : Addr}
theorem isE_mk (he : h.get? e = some oe) (hc : oe.cls = .ref C) (hd : oe.dict = dx) (hv : oe.data = .fields vs) (h0 : vs[0]? = some (.ref t0)) (h1 : vs[1]? = some tb) : ObjOk P w H h e (IsE e C dx tb) :=
 ⟨⟨oe,vs,t0,he,hc,hd,hv,h0,h1⟩,⟨oe,he⟩,fun _ _ ⟨o,ws,u,a,b⟩ k=>⟨o,ws,u,k o a,b⟩⟩
theorem isE_at (ok : HOk P w H h) (x : H e = some (IsE e C dx tb)) : ∃ oe vs t0,h.get? e = some oe∧oe.cls = .ref C∧oe.dict = dx∧oe.data = .fields vs∧vs[0]? = some (.ref t0)∧vs[1]? = some tb:=(ok e _ x).1
end
section
variable {X : Cx} {k : Nat} {f C D : Addr} {fd : FuncData} {ps : List Str} {sp : Sp} {x : Str} {p pos apos : Pos} {e : Expr} {es : List Expr} {t : TA} {te : TE}
theorem run_mk {pins : List (Addr × Obj)} {σ : L2.St} {H : Hp} {s : Shared} {Q : VK} {us : List Value} {vs : List V} (c : XC X.K C D) (hi : PySem.W.findIn X.K (.ref C) "__init__" = some (some (.ref f))) (hf : PySem.W.isFn X.K (.ref f) = true)
  (F : FnOk X.prog X.w X.K X.mg X.base CX0 k f fd ps sp) (hr : Room (k + 1) X.A) (hb : Binds X.K fd ps []) (I : Inv X pins σ H s) (r : Vals vs us) (hz : us.length≤sizeLine)
  (h : ∀ e,H e = none→sp (.ref e :: vs) (upd H e (IsE e C none .none)) (fun v H2=>v = .non∧Q (.ref e) H2) E0) : wpAny (model X.prog X.w) X.A (call (.ref C) us) (EP X pins σ Q) X.xe s:=by
 obtain ⟨hp,gs,dr,tk,os⟩:=s
 refine made I.kIn c hi hf (fun h' e hle m=>?_) hz
 obtain ⟨t0,he,_,_⟩:=m.there
 have I2:=I.laid (a:=e) (o:=IsE e C none .none) (h':=h') (t':=tk) m.keeps hle (isE_mk he rfl rfl rfl (t0:=t0) rfl rfl)
 have hq:=h e (I.hok.fresh hle)
 have r2 : Vals (V.ref e :: vs) (Value.ref e :: us):=.cons rfl r
 have hl : (Value.ref e :: us ++ []).length = ps.length:=by
  have z:=r2.length
  rw [F.len _ _ _ _ hq] at z
  rw [List.append_nil]
  exact z.symm
 have bb:=hb ⟨h',gs,dr,tk,os⟩ (Value.ref e :: us) I2.kIn hl
 rw [List.append_nil] at bb
 refine wpAny_call (codeAny_mono (F.run _ X.stack _ _ ⟨Value.ref e :: us,[]⟩ (Value.ref e :: us) _ _ E0 (hr.make C us []) (I2.env0.make C us []) bb r2 hq) fun r s' hq'=>?_)
 cases r with
 | error e=>exact hq'.elim
 | ok fl =>
  cases fl with
  | ret u =>
   obtain ⟨v,H',I3,rv,ev,q3⟩:=I2.after hq'
   subst ev
   exact ⟨rv,V.ref e,H',I3,rfl,q3⟩
  | next=>exact False.elim hq'
  | brk=>exact False.elim hq'
  | cont=>exact False.elim hq'
noncomputable def tMk (C : Addr) (sp : Sp) (t : TA) : TE:=fun σ H Q=>t σ H fun vs H1=>vs.length≤sizeLine∧∀ e,H1 e = none→sp (.ref e :: vs) (upd H1 e (IsE e C none .none)) (fun v H2=>v = .non∧Q (.ref e) H2) E0
theorem pe_mk (c : XC X.K C D) (hi : PySem.W.findIn X.K (.ref C) "__init__" = some (some (.ref f))) (hf : PySem.W.isFn X.K (.ref f) = true) (kp : PySem.W.keepIn X.K (.ref C) = true)
  (F : FnOk X.prog X.w X.K X.mg X.base CX0 k f fd ps sp) (hr : Room (k + 1) X.A) (hb : Binds X.K fd ps []) (hg : Gl X x) (hm : X.mg x = some (.ref C))
  (ha : PA X (e :: es) t) (hdb : (x == ("__debug__" : Str)) = false:=by decide) (he : starEach (e :: es) X.env = (false,eval e X.env) :: starEach es X.env:=by rfl) (hpl : (backTo pos (starEach es X.env)).any (·.1) = false:=by rfl) :
  PE X (.Call (.Name x p) (e :: es) [] pos) (tMk C sp t):=by
 intro pins s σ H Q I h
 refine wpAny_Call_Name_kw (ld_glob I hg hm ?_ hdb)
 refine PySem.W.callWith_K (h₀:=X.base) I.ok.mod.kin kp (thn (ha pos pins s σ H _ I h) fun us s1 ⟨vs,H1,I1,r,q⟩=>⟨I1.kIn,?_⟩) he hpl
 have z : us.length≤sizeLine:=by rw [← r.length]; exact q.1
 exact run_mk c hi hf F hr hb I1 r z q.2
noncomputable def tBase (C : Addr) (t : TA) : TE:=fun σ H Q=>t σ H fun vs H1=>∃ e y dx tb,vs = [.ref e,y]∧H1 e = some (IsE e C dx tb)∧Q .non H1
structure XD (K : PySem.W.Frag) (D : Addr) : Prop where
 ga : PySem.W.specialIn K (.ref D) "__getattribute__" = some (some (.builtin "type.__getattribute__"))
 rd : PySem.W.readsIn K D (.type "type") = true
 fi : PySem.W.findCls K (.ref D) (.type "type") "__init__" = some (.val (.builtin "ValueError.__init__"))
theorem pe_base {pl : Sem Bool} (c : XC X.K C D) (cd : XD X.K D) (hg : Gl X x) (hm : X.mg x = some (.ref D)) (ha : PA X (e :: es) t) (hdb : (x == ("__debug__" : Str)) = false:=by decide)
  (he : starEach (e :: es) X.env = (false,eval e X.env) :: starEach es X.env:=by rfl) (hpl : (backTo pos (starEach es X.env)).any (·.1) = false:=by rfl)
  (ht : eval (.Call (.Attribute (.Name x p) "__init__" apos) (e :: es) [] pos) X.env = (do
   let ov ← eval (.Name x p) X.env
   standAt apos.atName
   let (f,first) ← holding [ov] (getMethod ov "__init__" pl)
   callWith pos f first (backTo pos (starEach (e :: es) X.env)) (backToKw pos (keywordEach [] X.env))):=by rfl) :
  PE X (.Call (.Attribute (.Name x p) "__init__" apos) (e :: es) [] pos) (tBase C t):=by
 intro pins s σ H Q I h
 refine PySem.W.methodCall_KW (pl:=pl) (ld_glob I hg hm ?_ hdb) ht
 refine PySem.W.method_cls I.kIn cd.ga (PySem.W.cls_value I.kIn cd.rd cd.fi rfl ?_)
 have I0:=I.tok (s.toks + 1)
 refine callWith_builtin1 (thn (ha pos pins _ σ H _ I0 h) fun us s1 ⟨vs,H1,I1,r,e,y,dx,tb,ev,hE,q⟩=>?_) he hpl
 subst ev
 cases r with
 | cons r1 r2 =>
  cases r2 with
  | cons r2 r3 =>
   cases r3
   cases r1
   obtain ⟨oe,ws,t0,g1,g2,g3,g4,g5,g6⟩:=isE_at I1.hok hE
   obtain ⟨hp,gs,dr,tk,os⟩:=s1
   refine init_base I1.kIn c g1 g2 g4 g5 fun h' kp ge=>?_
   have z0:=(Array.getElem?_eq_some_iff.mp g5).1
   have I2 : Inv X pins σ (upd H1 e (IsE e C dx tb)) ⟨h',gs,dr,tk,os⟩:=I1.write (x:=e) (e:=e) (h':=h') (t':=tk) (by rw [hE]; exact True.intro) (.inl rfl) (fun b u hb z=>kp b u hb z) ⟨_,ge⟩
    (isE_mk ge g2 g3 rfl (t0:=hp.objs.size) (by simp [z0]) (by rw [Array.getElem?_setIfInBounds_ne (by decide)]; exact g6))
   have eq : upd H1 e (IsE e C dx tb) = H1:=by
    funext b
    by_cases hb : b = e
    ·subst hb; rw [upd_same,hE]
    ·rw [upd_ne hb]
   rw [eq] at I2
   exact ⟨.non,H1,I2,rfl,q⟩
noncomputable def sPut (C : Addr) (ta tv : TE) (f : Str) : TS:=fun D σ H=>tv σ H fun y H1=>ta σ H1 fun x H2=>∃ a tb,x = .ref a∧H2 a = some (IsE a C none tb) ∧
 ∀ dx,H2 dx = none→D.nx σ (upd (upd H2 dx (.xd [(f,y)])) a (IsE a C (some dx) tb))
theorem ps_put {o value : Expr} {fl : Str} {pos' : Pos} {ta tv : TE} (c : XC X.K C D) (hs0 : PySem.W.findIn X.K (.ref C) "__setattr__" = some (some (.builtin "object.__setattr__"))) (hf : PySem.W.findIn X.K (.ref C) fl = some none)
  (ha : PE X o ta) (hv : PE X value tv) (hs : swapsWith value (some (.Attribute o fl pos')) pos.line X.env = pure false) : PS X (.Assign [.Attribute o fl pos'] value pos) (sPut C ta tv fl):=by
 intro pins s σ H Dn I h
 refine plainObj_wpAny_Assign_Attribute (thn (hv pins s σ H _ I h) fun u s1 ⟨y,H1,I1,ry,q⟩=>thn (ha pins s1 σ H1 _ I1 q) fun ov s2 ⟨x,H2,I2,rx,a,tb,ex,ea,q2⟩=>?_) hs
 subst ex
 obtain rfl : ov = Value.ref a:=rx
 obtain ⟨oe,ws,t0,g1,g2,g3,g4,g5,g6⟩:=isE_at I2.hok ea
 obtain ⟨hp,gs,dr,tk,os⟩:=s2
 refine put_first I2.kIn c hs0 hf g1 g2 g4 g3 fun h' tk' kp gx ns=>?_
 have fr:=I2.hok.fresh (Nat.le_refl _)
 have hne : hp.objs.size ≠ a:=Nat.ne_of_gt (Heap.lt_size g1)
 refine ⟨σ,_,?_,q2 hp.objs.size fr⟩
 have na : ∀ b,H2 b = none→b ≠ a:=fun b z z'=>by rw [z',ea] at z; cases z
 have nd : ∀ b o,hp.get? b = some o→b ≠ hp.objs.size:=fun b o z=>Nat.ne_of_lt (Heap.lt_size z)
 have nt : ∀ b o,H2 b = some o→b ≠ hp.objs.size:=fun b o z z'=>by rw [z',fr] at z; cases z
 have up : ∀ b o,H2 b = some o→b ≠ a→upd (upd H2 hp.objs.size (.xd [(fl,y)])) a (IsE a C (some hp.objs.size) tb) b = some o:=fun b o z hb=>by rw [upd_ne hb,upd_ne (nt b o z)]; exact z
 refine I2.un (h':=h') (t':=tk') ⟨fun b o z n _ _=>kp b o (na b n) z,fun b o z n _ _=>⟨o.slots,kp b o (na b n) z⟩,fun b o z n _=>?_,fun b o z _=>?_,fun b xs z=>up b _ z (fun z'=>by rw [z',ea] at z; cases z),fun b o u z=>up b _ z (fun z'=>by rw [z',ea] at z; cases z),
  fun b ps z=>⟨#[],by rw [Array.append_empty]; exact up b _ z (fun z'=>by rw [z',ea] at z; cases z)⟩⟩ fun b o z=>?_
 ·rw [upd_ne (na b n),upd_ne (nd b o z)]; exact n
 ·by_cases hb : b = a
  ·subst hb; exact ⟨_,gx⟩
  ·exact ⟨o,kp b o hb z⟩
 ·by_cases hb : b = a
  ·subst hb
   rw [upd_same] at z
   cases z
   exact isE_mk gx g2 rfl g4 g5 g6
  ·rw [upd_ne hb] at z
   by_cases hd : b = hp.objs.size
   ·subst hd
    rw [upd_same] at z
    cases z
    refine ⟨_,ns,fun g=>?_⟩
    by_cases hg : g = fl
    ·subst hg
     rw [if_pos rfl]
     have l : List.lookup g [(g,y)] = some y:=by simp [List.lookup]
     rw [l]
     exact ry
    ·rw [if_neg hg]
     have l : List.lookup g [(fl,y)] = none:=by
      have : (g == fl) = false:=by simpa using hg
      simp [List.lookup,this]
     rw [l]
     exact True.intro
   ·rw [upd_ne hd] at z
    refine (I2.hok b o z).stay (fun b' u hb' z'=>kp b' u ?_ z') (fun b' z'=>up b' _ z' (fun z''=>by rw [z'',ea] at z'; cases z')) (fun b' xs z'=>up b' _ z' (fun z''=>by rw [z'',ea] at z'; cases z'))
    rcases hb' with rfl | hb'
    ·exact hb
    ·intro z''
     rw [z'',ea] at hb'
     cases hb'
end
end EX
namespace EX
open PySem PySem.Spec PyProof.Rows L2
set_option maxHeartbeats 1000000
noncomputable def CXE (P : Program) (w : World) : CXT:=fun outer H s E ev s'=>∃ e C dx T H',ev = .ref e∧s'.os = s.os∧AllBare s'.gens∧Un (frs outer) [] H H' s.heap s'.heap∧HOk P w H' s'.heap∧H' e = some (IsE e C dx (.ref T)) ∧
 (∃ oT ts,s'.heap.get? T = some oT∧oT.data = .fields ts∧ts[3]? = some .none)∧H' T = none∧s.heap.objs.size≤T∧T ≠ e∧E (.ref e) dx H'
theorem frs_mem {env : Env} {outer : List Env} {L b : Addr} (hf : env.frame = some L) (h : b∈(env :: outer).filterMap (·.frame)) : b = L∨b∈frs outer:=by
 rw [List.filterMap_cons,hf] at h
 exact List.mem_cons.mp h
theorem frz_ne {H : Hp} {e C b : Addr} {dx : Option Addr} {tb : Value} (ea : H e = some (IsE e C dx tb)) {o : HO} (z : H b = some o) (n : ∀ φ,o ≠ .ext φ) : b ≠ e:=fun q=>by
 rw [q,ea] at z
 exact n _ (Option.some.inj z).symm
theorem go_out {P : Program} {w : World} {K : PySem.W.Frag} {mg : Str→Option Value} {base : Heap} {N : List Str} {qual : Str} {scope : Scope} {f : Addr} {cdv : Value} {A : Around} {outer : List Env} {s s1 : Shared} {H H1 : Hp} {E : XK} {pins : List (Addr × Obj)} {σ : L2.St} {e C : Addr} {dx : Option Addr}
  (I : Inv (cxOf (CXE P w) P w K mg base N qual scope f cdv A outer s H E) pins σ H1 s1) (hE : H1 e = some (IsE e C dx .none)) (q : ∀ T,E (.ref e) dx (upd H1 e (IsE e C dx (.ref T)))) :
  (cxOf (CXE P w) P w K mg base N qual scope f cdv A outer s H E).xe (.ref e) s1:=by
 obtain ⟨oe,vs,t0,g1,g2,g3,g4,g5,g6⟩:=isE_at I.hok hE
 have ub : Un (frs outer) [] H H1 s.heap s1.heap:=I.base
 have stk:=I.stkFree
 refine leave (base:=base) I.ok.frames I.stack rfl g1 g4 g6 fun h' T fl=>?_
 have nT : ∀ b o,s1.heap.get? b = some o→b ≠ T:=fun b o z=>Nat.ne_of_lt (Nat.lt_of_lt_of_le (Heap.lt_size z) fl.new)
 have hT1 : H1 T = none:=I.hok.fresh fl.new
 have no : ∀ b : Addr,b ∉ ([] : List Addr):=fun b z=>absurd z (by simp)
 obtain ⟨ws,x1,x2,x3⟩:=fl.self oe vs g1 g4
 have up : ∀ b o,H1 b = some o→b ≠ e→upd H1 e (IsE e C dx (.ref T)) b = some o:=fun b o z n=>by rw [upd_ne n]; exact z
 refine ⟨e,C,dx,T,upd H1 e (IsE e C dx (.ref T)),rfl,I.os,I.bare,⟨fun b o z n hb _=>?_,fun b o z n hb _=>?_,fun b o z n _=>?_,fun b o z _=>?_,fun b xs z=>?_,fun b o u z=>?_,fun b ps z=>?_⟩,fun b o z=>?_,upd_same,fl.ent,by rw [upd_ne fl.ne]; exact hT1,?_,fl.ne,q T⟩
 ·have n1:=ub.free b o z n (no b)
  refine fl.keep b o (fun m=>?_) (fun y=>by rw [y,hE] at n1; cases n1) (ub.keep b o z n hb (no b))
  rcases frs_mem (L:=s.heap.objs.size) rfl m with y | y
  ·rw [y] at z; exact absurd (Heap.lt_size z) (Nat.lt_irrefl _)
  ·exact hb y
 ·have n1:=ub.free b o z n (no b)
  obtain ⟨sl,z1⟩:=ub.any z n (no b)
  obtain ⟨sl',z2⟩:=fl.slot b _ (fun y=>by rw [y,hE] at n1; cases n1) z1
  exact ⟨sl',z2⟩
 ·have n1:=ub.free b o z n (no b)
  rw [upd_ne fun y=>by rw [y,hE] at n1; cases n1]
  exact n1
 ·obtain ⟨o',z1⟩:=ub.there b o z (no b)
  by_cases hb : b = e
  ·subst hb; exact ⟨_,x1⟩
  ·obtain ⟨sl,z2⟩:=fl.slot b _ hb z1
   exact ⟨_,z2⟩
 ·have z1:=ub.tups b xs z
  exact up b _ z1 (frz_ne hE z1 fun φ y=>by cases y)
 ·have z1:=ub.frzs b o u z
  exact up b _ z1 (frz_ne hE z1 fun φ y=>by cases y)
 ·obtain ⟨m,z1⟩:=ub.tbls b ps z
  exact ⟨m,up b _ z1 (frz_ne hE z1 fun φ y=>by cases y)⟩
 ·by_cases hb : b = e
  ·subst hb
   rw [upd_same] at z
   cases z
   exact isE_mk x1 g2 g3 rfl (x2.trans g5) x3
  ·rw [upd_ne hb] at z
   refine (I.hok b o z).stay (fun b' u hb' z'=>?_) (fun b' z'=>up b' _ z' (frz_ne hE z' fun φ y=>by cases y)) (fun b' xs z'=>up b' _ z' (frz_ne hE z' fun φ y=>by cases y))
   have tr : ∃ o',H1 b' = some o'∧b' ≠ e:=by
    rcases hb' with rfl | hb'
    ·exact ⟨o,z,hb⟩
    ·exact ⟨_,hb',frz_ne hE hb' fun φ y=>by cases y⟩
   obtain ⟨o',y1,y2⟩:=tr
   refine fl.keep b' u (fun m=>?_) y2 z'
   rw [stk b' m] at y1
   cases y1
 ·exact Nat.le_trans I.sz fl.new
noncomputable def tRaise (K : PySem.W.Frag) (E : XK) (te : TE) : TS:=fun _ σ H=>te σ H fun x H1=>∃ e C D dx,x = .ref e∧XC K C D∧H1 e = some (IsE e C dx .none)∧∀ T,E (.ref e) dx (upd H1 e (IsE e C dx (.ref T)))
theorem ps_raise {P : Program} {w : World} {K : PySem.W.Frag} {mg : Str→Option Value} {base : Heap} {N : List Str} {qual : Str} {scope : Scope} {f : Addr} {cdv : Value} {A : Around} {outer : List Env} {s : Shared} {H : Hp} {E : XK} {ex : Expr} {pos : Pos} {te : TE}
  (he : PE (cxOf (CXE P w) P w K mg base N qual scope f cdv A outer s H E) ex te) : PS (cxOf (CXE P w) P w K mg base N qual scope f cdv A outer s H E) (.Raise (some ex) none pos) (tRaise K E te):=by
 intro pins s0 σ H0 D I h
 refine raise (K:=K) (I.ok.hd rfl) (thn (he pins s0 σ H0 _ I h) fun v s1 ⟨x,H1,I1,rx,e,C,D',dx,ex,c,hE,q⟩=>?_)
 subst ex
 obtain rfl : v = Value.ref e:=rx
 obtain ⟨oe,vs,t0,g1,g2,g3,g4,g5,g6⟩:=isE_at I1.hok hE
 exact ⟨e,oe,vs,D',C,rfl,I1.kIn,c,g1,g2,g4,g6,go_out I1 hE q⟩
end EX
namespace EX
open PySem PySem.Spec PyProof.Rows L2
set_option maxHeartbeats 1000000
noncomputable abbrev inX (X : Cx) (e : Addr) : Cx:={ X with A:=X.A.mark (some (.ref e)),calm:=false,xe:=fun _ _=>False }
section
variable {X : Cx} {pins : List (Addr × Obj)} {σ : L2.St} {H : Hp} {s : Shared} {e : Addr}
theorem inX_ok (ok : X.Ok) : (inX X e).Ok:=⟨ok.mod,ok.kind,ok.glob,ok.blt,ok.above,ok.inj,ok.has,ok.cab,(fun z=>by cases z),ok.frames,ok.stk,ok.exf,ok.bs,ok.bsz,ok.noex,ok.exfs,ok.funs,ok.frf⟩
theorem inX_inv (I : Inv X pins σ H s) : Inv (inX X e) pins σ H s:=⟨inX_ok I.ok,I.os,I.bare,I.base,I.loc,I.cell,I.free,I.freeC,I.pin,I.hok,I.len⟩
theorem inX_out (ok : X.Ok) (I : Inv (inX X e) pins σ H s) : Inv X pins σ H s:=⟨ok,I.os,I.bare,I.base,I.loc,I.cell,I.free,I.freeC,I.pin,I.hok,I.len⟩
structure Rec (X : Cx) (pins : List (Addr × Obj)) (H : Hp) (s : Shared) (T : Addr) : Prop where
 ent : ∃ oT ts,s.heap.get? T = some oT∧oT.data = .fields ts∧ts[3]? = some .none
 no : H T = none
 ne : T ≠ X.env.locals
 ab : X.s₀.heap.objs.size≤T
 cl : ∀ x c,X.env.cells.lookup x = some c→c ≠ T
 pn : ∀ p∈X.pn ++ pins,p.1 ≠ T
theorem rec_of {s1 : Shared} {H1 : Hp} {T : Addr} (I : Inv X pins σ H1 s1) (z : s1.heap.objs.size≤T) (ent : ∃ oT ts,s.heap.get? T = some oT∧oT.data = .fields ts∧ts[3]? = some .none) (no : H T = none) : Rec X pins H s T :=
 ⟨ent,no,fun y=>absurd I.lt (by rw [← y]; exact Nat.not_lt.mpr z),Nat.le_trans I.sz z,fun x c hc y=>by
  obtain ⟨v,o,ho,_⟩:=I.cell x c hc
  exact absurd (Heap.lt_size ho) (by rw [y]; exact Nat.not_lt.mpr z),fun p hp y=>absurd (Heap.lt_size (I.pin p hp).1) (by rw [y]; exact Nat.not_lt.mpr z)⟩
theorem land_ok {M : Model} {A : Around} {E : Value→Shared→Prop} {EE : XK} {ev : Value} {s' : Shared} {R : Shared→Prop} (hA : A.frames = some X.stack) (I : Inv X pins σ H s) (hq : CXE X.prog X.w X.stack H s EE ev s') (hst : X.stack = X.env :: X.outer) (hfr : X.env.frame = some X.env.locals)
  (go : ∀ e C dx T H' T2 s3,ev = .ref e→EE (.ref e) dx H'→H' e = some (IsE e C dx (.ref T))→HOk X.prog X.w H' s'.heap→Inv X pins σ (upd H' e (IsE e C dx (.ref T2))) s3→Rec X pins (upd H' e (IsE e C dx (.ref T2))) s3 T2→R s3) :
  wpAny M A (noteFrame ev X.env) (fun _ s2=>wpAny M A (setFlight ev none) (fun _ s3=>R s3) E s2) E s':=by
 obtain ⟨e,C,dx,T,H',rfl,os,bare,un,hok,hE,⟨oT,ts,t1,t2,t3⟩,hT,hz,hne,q⟩:=hq
 have I' : Inv X pins σ H' s':=I.call' (ch:=[]) os un hok bare (fun b z=>absurd z (by simp))
 have RT : Rec X pins H' s' T:=rec_of I hz ⟨oT,ts,t1,t2,t3⟩ hT
 obtain ⟨oe,vs,t0,g1,g2,g3,g4,g5,g6⟩:=isE_at I'.hok hE
 have stk:=I'.stkFree
 have fs:=I'.stack
 rw [hst] at fs hA
 refine land (base:=X.base) hA fs hfr g1 g4 g6 hne t1 t2 t3 fun h1 h2 T2 kp sz fl=>?_
 have stk' : ∀ b∈(X.env :: X.outer).filterMap (·.frame),H' b = none:=by rw [← hst]; exact stk
 obtain ⟨ws,x1,x2,x3⟩:=fl.self oe vs (kp e oe hne.symm g1) g4
 have up : ∀ b o,H' b = some o→b ≠ e→upd H' e (IsE e C dx (.ref T2)) b = some o:=fun b o z n=>by rw [upd_ne n]; exact z
 have z2 : s'.heap.objs.size≤T2:=by rw [← sz]; exact fl.new
 have nm : ∀ b,b ∉ ([T] : List Addr)→b ≠ T:=fun b z y=>z (by rw [y]; exact List.mem_cons_self)
 have ne2 : T2 ≠ e:=fl.ne
 have I3 : Inv X pins σ (upd H' e (IsE e C dx (.ref T2))) { s' with heap:=h2 }:=by
  refine I'.call (ch:=[T]) (h':=h2) (g':=s'.gens) (d':=s'.drawn) (t':=s'.toks) ⟨fun b o z n hb hc=>?_,fun b o z n hb hc=>?_,fun b o z n hc=>?_,fun b o z hc=>?_,fun b xs z=>up b _ z (frz_ne hE z fun φ y=>by cases y),fun b o u z=>up b _ z (frz_ne hE z fun φ y=>by cases y),
   fun b ps z=>⟨#[],by rw [Array.append_empty]; exact up b _ z (frz_ne hE z fun φ y=>by cases y)⟩⟩ (fun b o z=>?_) I'.bare (fun b hb=>?_)
  ·exact fl.keep b o (by rw [← hst]; exact hb) (fun y=>by rw [y,hE] at n; cases n) (kp b o (nm b hc) z)
  ·exact fl.slot b o (fun y=>by rw [y,hE] at n; cases n) (kp b o (nm b hc) z)
  ·rw [upd_ne fun y=>by rw [y,hE] at n; cases n]; exact n
  ·by_cases hb : b = e
   ·subst hb; exact ⟨_,x1⟩
   ·obtain ⟨sl,y⟩:=fl.slot b o hb (kp b o (nm b hc) z)
    exact ⟨_,y⟩
  ·by_cases hb : b = e
   ·subst hb
    rw [upd_same] at z
    cases z
    exact isE_mk x1 g2 g3 rfl (x2.trans g5) x3
   ·rw [upd_ne hb] at z
    refine (I'.hok b o z).stay (fun b' u hb' z'=>?_) (fun b' z'=>up b' _ z' (frz_ne hE z' fun φ y=>by cases y)) (fun b' xs z'=>up b' _ z' (frz_ne hE z' fun φ y=>by cases y))
    have tr : ∃ o',H' b' = some o'∧b' ≠ e:=by
     rcases hb' with rfl | hb'
     ·exact ⟨o,z,hb⟩
     ·exact ⟨_,hb',frz_ne hE hb' fun φ y=>by cases y⟩
    obtain ⟨o',y1,y2⟩:=tr
    refine fl.keep b' u (fun m=>?_) y2 (kp b' u (fun y=>by rw [y,hT] at y1; cases y1) z')
    rw [stk' b' m] at y1
    cases y1
  ·obtain rfl : b = T:=by simpa using hb
   exact ⟨.inr RT.ab,RT.ne,RT.cl,RT.pn⟩
 exact go e C dx T H' T2 _ rfl q hE hok I3 (rec_of I' z2 fl.ent (by rw [upd_ne ne2]; exact I'.hok.fresh z2))
theorem goes {M : Model} {A : Around} {E : Value→Shared→Prop} {i : Nat} {n : Str} {pos : Pos} {Q : Unit→Shared→Prop} (I : Inv X pins σ H s) (hN : X.N.Nodup) (hi : X.N[i]? = some n) (hl : X.env.scope.names.lookup n = some .local)
  (h : ∀ s',Inv X pins (σ.set i none) H s'→Q () s') : wpAny M A (do bindName X.env n .none; unbindBehindTheSuite X.env n pos) Q E s:=by
 refine wpAny_bind (wpAny_bindName (store_ok (v:=.non) I hN hi (.inl hl) rfl (fun s1 I1=>?_) (.inr hl)))
 obtain ⟨m,hn,hlk⟩:=id I1.loc
 have hiσ : i < σ.length:=by rw [I.len]; exact (List.getElem?_eq_some_iff.mp hi).1
 have hk : X.env.kindOf n = some .local:=hl
 have hp : (X.env.scope.kind == .class || (X.env.scope.kind == .module && X.env.locals != X.env.globals)) = false:=by rw [I.ok.kind]; rfl
 obtain ⟨u,_,lk⟩:=hlk i n .non hi (by rw [List.getElem?_set_self hiσ]) (.inl hl)
 have hm : m n = some u:=by
  rcases lk with ⟨_,z⟩ | ⟨z,_⟩
  ·exact z
  ·rw [hk] at z
   rcases z with z | z <;> cases z
 unfold unbindBehindTheSuite
 refine wpAny_onRaise ?_
 unfold unbindName
 refine wpAny_bind (wpAny_point (wpAny_bind ?_))
 unfold deleteName
 simp only [hk,hp]
 rw [if_neg (by decide)]
 refine wpAny_bind (wpAny_nsDel_keeps hn fun h2 v hn2 sb=>?_)
 rw [hm]
 simp only [if_true,Option.isSome_some,Bool.not_true,Bool.false_eq_true,if_false]
 refine wpAny_pure (wpAny_point (h _ ?_))
 have ne0 : ∀ b o,X.s₀.heap.get? b = some o→b ≠ X.env.locals:=fun b o z y=>absurd (Heap.lt_size z) (by rw [y]; exact Nat.not_lt.mpr I.ok.above)
 have cell : ∀ c v,c ≠ X.env.locals→s1.heap.IsCell c v→h2.IsCell c v:=fun c v y ⟨o,z,r⟩=>⟨o,(sb.2 c y).trans z,r⟩
 have B:=I1.base
 refine ⟨I.ok,I1.os,I1.bare,⟨fun b o z n hf hx=>(sb.2 b (ne0 b o z)).trans (B.keep b o z n hf hx),fun b o z n hf hx=>?_,fun b o z n hx=>B.free b o z n hx,fun b o z hx=>?_,B.tups,B.frzs,B.tbls⟩,⟨_,hn2,fun j x w hj hσ hv=>?_⟩,fun x c hc=>?_,I1.free,I1.freeC,fun p hp'=>?_,fun b o z=>?_,by rw [List.length_set]; exact I.len⟩
 ·obtain ⟨sl,y⟩:=B.slot b o z n hf hx
  exact ⟨sl,(sb.2 b (ne0 b o z)).trans y⟩
 ·obtain ⟨o',y⟩:=B.there b o z hx
  exact ⟨o',(sb.2 b (ne0 b o z)).trans y⟩
 ·have hji : j ≠ i:=fun y=>by subst y; rw [List.getElem?_set_self hiσ] at hσ; cases hσ
  have hxn : x ≠ n:=fun y=>by
   subst y
   have q:=(List.getElem?_inj (List.getElem?_eq_some_iff.mp hj).1 hN).mp (hj.trans hi.symm)
   exact hji q
  obtain ⟨u',r',lk'⟩:=hlk j x w hj (by rw [List.getElem?_set_ne hji.symm] at hσ ⊢; exact hσ) hv
  refine ⟨u',r',?_⟩
  rcases lk' with ⟨a,b⟩ | ⟨a,c,b1,b2⟩
  ·exact .inl ⟨a,(if_neg hxn).trans b⟩
  ·exact .inr ⟨a,c,b1,cell c _ (I.cne x c b1) b2⟩
 ·obtain ⟨w,hw⟩:=I1.cell x c hc
  exact ⟨w,cell c _ (I.cne x c hc) hw⟩
 ·obtain ⟨a,b,c,d1,d2⟩:=I1.pin p hp'
  exact ⟨(sb.2 p.1 c).trans a,b,c,d1,d2⟩
 ·refine (I1.hok b o z).stay (fun c w hc q=>(sb.2 c ?_).trans q) (fun _ q=>q) fun _ _ q=>q
  rintro rfl
  rcases hc with rfl | hc
  ·rw [I1.free] at z; cases z
  ·rw [I1.free] at hc; cases hc
end
end EX
namespace EX
open PySem PySem.Spec PyProof.Rows L2
set_option maxHeartbeats 1000000
noncomputable def tTry (K : PySem.W.Frag) (sp : Sp) (Y : Addr) (i : Nat) (t : TA) (tS : TS) : TS:=fun D σ H=>t σ H fun vs H1=>sp vs H1 (fun _ H2=>D.nx σ H2) fun ev dx H2=>∃ e C tb,ev = .ref e∧H2 e = some (IsE e C dx tb)∧PySem.W.mroIn K C (.ref Y) = some true ∧
 ∀ T,tS { nx:=fun σ' H'=>D.nx (σ'.set i none) H',rt:=fun _ _=>False } (σ.set i (some (.ref e))) (upd H2 e (IsE e C dx (.ref T)))
section
variable {X : Cx} {k i : Nat} {f Y : Addr} {fd : FuncData} {ps : List Str} {sp : Sp} {x y n : Str} {p pos cpos epos hpos np : Pos} {e : Expr} {es : List Expr} {b0 : Stmt} {suite : List Stmt} {t : TA} {tS : TS}
theorem isE_class {P : Program} {w : World} {H : Hp} {h : Heap} {e C C' : Addr} {dx dx' : Option Addr} {tb tb' : Value} (ok : HOk P w H h) (a : H e = some (IsE e C dx tb)) (b : H e = some (IsE e C' dx' tb')) : C = C':=by
 obtain ⟨o1,_,_,a1,a2,_⟩:=isE_at ok a
 obtain ⟨o2,_,_,b1,b2,_⟩:=isE_at ok b
 rw [a1] at b1
 cases b1
 rw [a2] at b2
 cases b2
 rfl
theorem cr_err {CX : CXT} {outer : List Env} {P : Program} {w : World} {H : Hp} {s s' : Shared} {Q : VK} {E : XK} {ev : Value} (h : CR CX outer P w H s Q E (.error ev) s') : CX outer H s E ev s':=h
theorem ps_try (F : FnOk X.prog X.w X.K X.mg X.base (CXE X.prog X.w) k f fd ps sp) (hr : Room k X.A) (hg : Gl X x) (hm : X.mg x = some (.ref f)) (hk : PySem.W.keepIn X.K (.ref f) = true) (hb : Binds X.K fd ps []) (ha : PA X.nox (e :: es) t)
  (hst : X.stack = X.env :: X.outer) (hfr : X.env.frame = some X.env.locals) (hgy : Gl X y) (hmy : X.mg y = some (.ref Y)) (hY1 : PySem.W.mroIn X.K Y (.type "BaseException") = some true) (hY2 : PySem.W.typeIn X.K (.ref Y) = some (.type "type"))
  (hN : X.N.Nodup) (hi : X.N[i]? = some n) (hl : X.env.scope.names.lookup n = some .local) (hS : ∀ e,PSs (inX X e) (b0 :: suite) tS)
  (hdb : (x == ("__debug__" : Str)) = false:=by decide) (hdy : (y == ("__debug__" : Str)) = false:=by decide) (he : starEach (e :: es) X.env = (false,eval e X.env) :: starEach es X.env:=by rfl) (hpl : (backTo cpos (starEach es X.env)).any (·.1) = false:=by rfl)
  (hs : swapsWith (.Call (.Name x p) (e :: es) [] cpos) none epos.line X.env = pure false:=by rfl) :
  PS X (.Try [.Expr (.Call (.Name x p) (e :: es) [] cpos) epos] [.ExceptHandler (some (.Name y np)) (some n) (b0 :: suite) hpos] [] [] pos) (tTry X.K sp Y i t tS):=by
 intro pins s σ H D I h
 refine wpAny_Try_except (wpAny_execs_cons (wpAny_Expr_any ?_ I.quiet hs))
 refine wpAny_Call_Name_kw (ld_glob I hg hm ?_ hdb)
 refine PySem.W.callWith_K (h₀:=X.base) I.ok.mod.kin hk (wpAny_mono (ha cpos pins s σ H _ (I.wish _) h) (fun us s1 ⟨vs,H1,I1',r,q⟩=>?_) fun _ _ z=>z.elim) he hpl
 have I1 : Inv X pins σ H1 s1:=I1'.unwish
 refine ⟨I1.kIn,?_⟩
 have hl' : us.length = ps.length:=by rw [← r.length]; exact F.len _ _ _ _ q
 have bb:=hb s1 us I1.kIn (by rw [List.append_nil]; exact hl')
 rw [List.append_nil] at bb
 refine wpAny_call (codeAny_mono (F.run X.A X.stack s1 H1 ⟨us,[]⟩ us vs _ _ hr I1.env0 bb r q) fun r s' hq=>?_)
 cases r with
 | ok fl =>
  cases fl with
  | ret u =>
   obtain ⟨v,H2,I2,rv,q2⟩:=I1.after hq
   exact wpAny_execs_nil (wpAny_execs_nil ⟨σ,H2,I2,q2⟩)
  | next=>exact False.elim hq
  | brk=>exact False.elim hq
  | cont=>exact False.elim hq
 | error ev =>
  have hq':=cr_err hq
  refine land_ok I.ok.frames I1 hq' hst hfr fun e C dx T H' T2 s3 hev qE hE hok I3 R3=>?_
  subst hev
  obtain ⟨e',C',tb,z,hE',hm1,qS⟩:=qE
  cases z
  have hc:=isE_class hok hE' hE
  subst hc
  obtain ⟨oe,vs,t0,g1,g2,g3,g4,g5,g6⟩:=isE_at I3.hok (upd_same (H:=H') (a:=e) (o:=IsE e C' dx (.ref T2)))
  obtain ⟨oT,ts,t1,t2,t3⟩:=R3.ent
  refine wpAny_handleBy_cons (codeAny_handlers_test (ld_glob (X:=inX X e) (inX_inv I3) hgy hmy ?_ hdy)) (by intro z; cases z)
  obtain ⟨hp,gs,dr,tk,os⟩:=s3
  refine catches I3.kIn g1 g2 hY1 hY2 hm1 ?_
  refine codeAny_handlers_suite_as ?_
  unfold setFlight
  refine wpAny_bind (wpAny_field g1 g4 g6 ?_)
  rw [if_pos (show (Value.ref T2 != Value.none) = true from by simp)]
  refine wpAny_setField t1 t2 (Array.getElem?_eq_some_iff.mp t3).1 ?_
  have I4:=I3.turned (t':=tk) (it:=T2) (h':=hp.update T2 (Obj.mapFields (·.setIfInBounds 3 Value.none))) (fun b o hb z=>(Heap.get?_update_other _ _ hb.symm).trans z) R3.no R3.ne (.inr R3.ab) R3.cl R3.pn
  refine store_ok (v:=.ref e) I4 hN hi (.inl hl) rfl (fun s5 I5=>?_) (.inr hl)
  refine wpAny_mono (hS e pins s5 _ _ _ (inX_inv I5) (qS T2)) (fun fl s6 q6=>?_) fun _ _ z=>z.elim
  cases fl with
  | next =>
   obtain ⟨σ',H6,I6,dn⟩:=q6
   exact goes (inX_out I.ok I6) hN hi hl fun s7 I7=>⟨σ'.set i none,H6,I7,dn⟩
  | brk=>obtain ⟨_,_,_,z⟩:=q6; exact z.elim
  | cont=>obtain ⟨_,_,_,z⟩:=q6; exact z.elim
  | ret u=>obtain ⟨_,_,_,_,_,z⟩:=q6; exact z.elim
end
end EX
namespace EX
open PySem PySem.Spec PyProof.Rows L2 VM
set_option maxHeartbeats 1000000
section
variable {K : PySem.W.Frag} {S : GS} {σ : L2.St} {H : Hp}
noncomputable def FrAt (K : PySem.W.Frag) (H : Hp) : GS→L2.St→Prop
 | [],σ=>σ = []
 | none :: S,σ=>∃ x r,σ = x :: r∧FrAt K H S r
 | some (t,d) :: S,σ=>∃ v r,σ = some v :: r∧t = .fr∧Has K H d v∧FrAt K H S r
theorem FrAt.len : ∀ {S : GS} {σ : L2.St},FrAt K H S σ→S.length = σ.length
 | [],σ,h=>by rw [show σ = [] from h]; rfl
 | none :: S,σ,⟨x,r,e,h⟩=>by rw [e,List.length_cons,List.length_cons,FrAt.len h]
 | some (t,d) :: S,σ,⟨v,r,e,_,_,h⟩=>by rw [e,List.length_cons,List.length_cons,FrAt.len h]
theorem FrAt.slot : ∀ {S : GS} {σ : L2.St},FrAt K H S σ→∀ (i : Nat) t d,S[i]? = some (some (t,d))→t = .fr∧∃ v,σ[i]? = some (some v)∧Has K H d v
 | [],σ,_,i,t,d,e=>by simp at e
 | none :: S,σ,⟨x,r,e,h⟩,i,t,d,e2=>by
  subst e
  cases i with
  | zero=>cases e2
  | succ i=>exact FrAt.slot h i t d e2
 | some (t0,d0) :: S,σ,⟨v,r,e,h1,h2,h⟩,i,t,d,e2=>by
  subst e
  cases i with
  | zero=>cases e2; exact ⟨h1,v,rfl,h2⟩
  | succ i=>exact FrAt.slot h i t d e2
theorem FrAt.grow {H' : Hp} (k : Same H H') : ∀ {S : GS} {σ : L2.St},FrAt K H S σ→FrAt K H' S σ
 | [],_,h=>h
 | none :: _,_,⟨x,r,e,h⟩=>⟨x,r,e,FrAt.grow k h⟩
 | some (_,_) :: _,_,⟨v,r,e,h1,h2,h⟩=>⟨v,r,e,h1,Has.same k h2,FrAt.grow k h⟩
theorem FrAt.vi (h : FrAt K H S σ) : VI K (fun _=>none) H H S H σ H where
 len:=h.len
 same:=Same.refl _
 gf:=Same.refl _
 new:=fun _ _ e=>.inl e
 sub:=Same.refl _
 slot:=fun i t d e=>by
  obtain ⟨rfl,v,e1,e2⟩:=h.slot i t d e
  exact ⟨v,e1,e2⟩
 inj:=fun i j t t' d d' v e1 _ o1 _ _ _=>by
  obtain ⟨rfl,_⟩:=h.slot i t d e1
  cases o1
 pl:=fun _ _ _ e=>e
theorem tVT_at {f : VT} {b : Bool} {Q : Bool→Hp→Prop} (h : FrAt K H S σ) (e : f S = some b) (q : ∀ H',Same H H'→Q b H') : tVT K f σ H Q :=
 ⟨_,_,_,S,H,h.vi,b,e,fun _ H' g=>q H' g.hh⟩
theorem tV_at {f : VE} {d : PyData} {Q : VK} (h : FrAt K H S σ) (e : f S = some d) (q : ∀ v H',Same H H'→Has K H' d v→Q v H') : tV K RS f σ H Q :=
 ⟨_,_,_,S,H,h.vi,d,e,fun v _ H' g hv=>q v H' g.hh (Has.same g.fh hv)⟩
theorem tVA_at {f : VA} {ds : List PyData} {Q : List V→Hp→Prop} (h : FrAt K H S σ) (e : f S = some ds) (q : ∀ vs H',Same H H'→HasL K H' ds vs→Q vs H') : tVA K f σ H Q :=
 ⟨_,_,_,S,H,h.vi,ds,e,fun vs _ H' g hv=>q vs H' g.hh (HasL.same g.fh hv)⟩
theorem tVI_at {f : VA} {ds : List PyData} {R : It→Hp→Prop} (h : FrAt K H S σ) (e : f S = some ds) (q : ∀ J F' H',Same H H'→Same F' H'→ItOk K F' J ds→R J H') : tVI K f σ H R :=
 ⟨_,_,_,S,H,h.vi,ds,e,fun J F' H' g hj=>q J F' H' g.hh g.fh hj⟩
theorem forV {J : It} {F : Hp} {ds : List PyData} {g : TG} {tb : TS} {D : Ends} (hJ : ItOk K F J ds) (Pv : Nat→L2.St→Hp→Prop) (h0 : Pv 0 σ H) (hF : ∀ i σ H,Pv i σ H→Same F H)
  (hs : ∀ i d σ H x H1,ds[i]? = some d→Pv i σ H→Same H H1→Has K H1 d x→g x σ H1 fun σ2 H2=>tb { D with nx:=Pv (i + 1),ct:=Pv (i + 1),bk:=D.nx } σ2 H2) (hd : ∀ σ H,Pv ds.length σ H→D.nx σ H) : forRd J g tb D σ H:=by
 refine ⟨fun i m σ H=>m = ds.length - i∧i≤ds.length∧Pv i σ H,⟨ds.length,by simp,Nat.zero_le _,h0⟩,?_⟩
 rintro i m σ H ⟨rfl,hi,p⟩
 by_cases hlt : i < ds.length
 ·obtain ⟨a,b⟩:=hJ.go i ds[i] F H (List.getElem?_eq_getElem hlt) (Same.refl _) (hF i σ H p)
  refine .inr ⟨a,Pv (i + 1),fun σ' H' p'=>⟨ds.length - (i + 1),by omega,rfl,hlt,p'⟩,fun x H' y=>?_⟩
  obtain ⟨F2,gr,hx⟩:=b x H' y
  exact hs i _ σ H x H' (List.getElem?_eq_getElem hlt) p gr.hh (Has.same gr.fh hx)
 ·have e : i = ds.length:=by omega
  subst e
  exact .inl ⟨hJ.stop _ F H (Nat.le_refl _) (Same.refl _) (hF _ σ H p),hd σ H p⟩
end
section
variable {P : Program} {w : World} {K : PySem.W.Frag} {mg : Str→Option Value} {base : Heap}
theorem okE {x qual : Str} {st : Stmt} {f : Addr} {fd : FuncData} {N ps : List Str} {k : Nat} {sp : Sp} (F : Fun K x qual st f fd) (S : FnScope N ps (defScope st)) (len : ∀ vs H Q E,sp vs H Q E→vs.length = ps.length)
  (hbody : ∀ (cdv : Value) (A : Around) (outer : List Env) (s : Shared) (H : Hp) (vs : List V) (Q : VK) (E : XK),Room k (A.deeper (envOfC qual (defScope st) s.heap.objs.size f cdv))→sp vs H Q E →
   ∃ t,PSs (cxOf (CXE P w) P w K mg base N qual (defScope st) f cdv A outer s H E) (defBody st) t∧t { nx:=fun _ H'=>Q .non H',rt:=Q } (start N vs) H) : FnOk P w K mg base (CXE P w) (k + 1) f fd ps sp:=by
 obtain ⟨oc,od,kV,doc,pm,an,cdv,ct,osl,rfl,lk,hcd⟩:=F.ex
 exact fn_of lk hcd S len fun A outer s H vs Q E hr hsp=>hbody cdv A outer s H vs Q E hr hsp
theorem calm {f : Addr} {fd : FuncData} {ps : List Str} {k : Nat} {sp sp' : Sp} (F : FnOk P w K mg base (CXE P w) k f fd ps sp) (h : ∀ vs H Q E,sp' vs H Q E→sp vs H Q E0) : FnOk P w K mg base CX0 k f fd ps sp' :=
 ⟨fun vs H Q E q=>F.len vs H Q E0 (h _ _ _ _ q),fun A outer s H args us vs Q E hr he hb hv hs=>codeAny_mono (F.run A outer s H args us vs Q E0 hr he hb hv (h _ _ _ _ hs)) fun r s' q=>by
  cases r with
  | ok fl=>cases fl <;> exact q
  | error ev =>
   obtain ⟨_,_,_,_,_,_,_,_,_,_,_,_,_,_,_,z⟩:=cr_err q
   exact z.elim⟩
structure FunD (K : PySem.W.Frag) (x qual : Str) (st : Stmt) (f : Addr) (fd : FuncData) : Prop where
 ex : ∃ (oc : Value) (od : Option Addr) (dV kV doc pm : Value) (an : Option Addr) (cdv ct : Value) (osl : Array (Option Value)),
  fd = PySem.W.fnOf x qual (defArgs st) (defBody st) (defScope st) dV kV doc pm an cdv ct∧K.lookup f = some ⟨oc,od,.func fd,osl⟩∧PySem.W.codeIn K cdv qual = true
theorem FunD.ok {x qual : Str} {st : Stmt} {f : Addr} {fd : FuncData} {N ps : List Str} {k : Nat} {sp : Sp} (F : FunD K x qual st f fd) (S : FnScope N ps (defScope st)) (len : ∀ vs H Q E,sp vs H Q E→vs.length = ps.length)
  (hbody : ∀ (cdv : Value) (A : Around) (outer : List Env) (s : Shared) (H : Hp) (vs : List V) (Q : VK) (E : XK),Room k (A.deeper (envOfC qual (defScope st) s.heap.objs.size f cdv))→sp vs H Q E →
   ∃ t,PSs (cxOf CX0 P w K mg base N qual (defScope st) f cdv A outer s H E).nox (defBody st) t∧t { nx:=fun _ H'=>Q .non H',rt:=Q } (start N vs) H) : FnOk P w K mg base CX0 (k + 1) f fd ps sp:=by
 obtain ⟨oc,od,dV,kV,doc,pm,an,cdv,ct,osl,rfl,lk,hcd⟩:=F.ex
 refine fn_of lk hcd S len fun A outer s H vs Q E hr hsp=>?_
 obtain ⟨t,h,q⟩:=hbody cdv A outer s H vs Q E hr hsp
 exact ⟨t,h.nox,q⟩
end
section
variable {X : Cx} {e : Expr} {te : TE} {C : Addr}
noncomputable def tFmt (a b : Str) (te : TE) : TE:=fun σ H Q=>te σ H fun x H1=>∃ n : Int,x = .int n∧n.natAbs.log2 < 1920∧(Str.empty ++ a ++ toString n).length≤sizeLine∧(Str.empty ++ a ++ toString n ++ b).length≤sizeLine∧∀ y,Q (.str y) H1
theorem pe_fmt {a b : Str} {j1 j2 : Nat} {p1 p2 p3 pos : Pos} (he : PE X e te) (h0 : (Str.empty ++ a).length≤sizeLine:=by decide) : PE X (.JoinedStr [.Constant (.str a) j1 p1,.FormattedValue e (-1) none p2,.Constant (.str b) j2 p3] pos) (tFmt a b te):=by
 intro pins s σ H Q I h
 refine JoinedStr_many (joinParts_cons (Calls.Constant_str ?_))
 dsimp only
 refine ⟨h0,joinParts_cons (FormattedValue_plain (thn (he pins _ σ H _ (I.tok _) h) fun u s1 ⟨x,H1,I1,rx,n,ex,hn,z1,z2,q⟩=>?_))⟩
 subst ex
 obtain ⟨t,rfl⟩:=rx
 refine formatField_int_small hn ⟨z1,joinParts_cons (Calls.Constant_str ⟨z2,joinParts_nil ?_ z2⟩)⟩
 exact ⟨.str (Str.empty ++ a ++ toString n ++ b),H1,I1.tok _,⟨_,rfl⟩,q _⟩
noncomputable def tGetE (K : PySem.W.Frag) (ta : TE) (f : Str) : TE:=fun σ H Q=>ta σ H fun x H1=>∃ a C dx tb fs v,x = .ref a∧H1 a = some (IsE a C (some dx) tb)∧H1 dx = some (.xd fs)∧XR K C∧PySem.W.findIn K (.ref C) f = some none∧fs.lookup f = some v∧Q v H1
theorem inst_of {P : Program} {w : World} {H : Hp} {h : Heap} {a dx : Addr} {tb : Value} {fs : List (Str × V)} (ok : HOk P w H h) (ea : H a = some (IsE a C (some dx) tb)) (ed : H dx = some (.xd fs)) :
  ∃ (oe od : Obj) (mA : Str→Option Value),PySem.W.InstAt h a oe C (some od)∧(∀ name,PySem.W.lookIn name od = some (mA name))∧∀ f,RelO (fs.lookup f) (mA f):=by
 obtain ⟨oe,vs,t0,g1,g2,g3,g4,g5,g6⟩:=isE_at ok ea
 obtain ⟨mA,ns,rl⟩:=(show ∃ mA,h.Ns1 dx mA∧∀ f,RelO (fs.lookup f) (mA f) from ok dx _ ed)
 obtain ⟨od,ho,hl⟩:=lookIn_ns ns
 refine ⟨oe,od,mA,⟨g1,g2,?_,?_⟩,hl,rl⟩
 ·unfold PySem.W.notCls
  rw [g4]
 ·rw [g3]
  exact ho
theorem pe_getE {f : Str} {pos : Pos} (he : PE X e te) (hb : attributeBase e f X.env (eval e X.env) = eval e X.env:=by rfl) : PE X (.Attribute e f pos) (tGetE X.K te f):=by
 intro pins s σ H Q I h
 refine attr_of hb (thn (he pins s σ H _ I h) fun u s1 ⟨x,H1,I1,rx,a,C,dx,tb,fs,v,ex,ea,ed,c,n,l,q⟩=>?_)
 subst ex
 obtain rfl : u = Value.ref a:=rx
 obtain ⟨oe,od,mA,IA,hl,rl⟩:=inst_of I1.hok ea ed
 obtain ⟨u,hu,ru⟩:=RelO.some_of (v:=v) (o:=mA f) (by rw [← l]; exact rl f)
 obtain ⟨hp,gs,dr,tk,os⟩:=s1
 exact get_own I1.kIn c IA n (by rw [hl,hu]) (handed_of ru) ⟨v,H1,I1.tok _,ru,q⟩
noncomputable def rIsE (K : PySem.W.Frag) : List V→Hp→VK→Prop:=fun xs H Q=>∃ a C dx tb fs cv cl b,xs = [.ref a,cv]∧(∀ u,RelV cv u→u = cl)∧H a = some (IsE a C (some dx) tb)∧H dx = some (.xd fs)∧XI K C∧PySem.W.kitOne K (.ref C) cl = some b∧Q (.bl b) H
theorem cIsE : CallR X (.builtin "isinstance") (rIsE X.K):=by
 intro pins s σ H xs us Q I r h
 obtain ⟨a,C,dx,tb,fs,cv,cl,b,rfl,hcv,ea,ed,c,hk,q⟩:=h
 cases r with
 | cons r1 r2 =>
  cases r2 with
  | cons r2 r3 =>
   cases r3
   cases r1
   cases hcv _ r2
   obtain ⟨oe,od,mA,IA,hl,rl⟩:=inst_of I.hok ea ed
   obtain ⟨hp,gs,dr,tk,os⟩:=s
   exact isinst I.kIn c IA hk fun tk'=>⟨.bl b,H,I.tok tk',rfl,q⟩
end
end EX
namespace EX
open PySem PySem.W
theorem tail_of_exc {K : Frag} {D : Addr} {newId : String} (h : excIn K D bmV newId = true) : tailIn K bmV (.ref D :: bmV) = true:=by
 unfold excIn at h
 split at h
 ·rename_i dd cd sl ho
  split at h
  ·rename_i C' bm k0 k1 k2 k3 n k5 hm hs
   simp only [Bool.and_eq_true] at h
   have t0 : tailIn K bmV bmV = true:=by
    show tailIn K bmV (.type "ValueError" :: [.type "Exception",.type "BaseException",.type "object"]) = true
    unfold tailIn
    simp
   have t1 : tailIn K bmV (.ref D :: bmV) = ((.ref D :: bmV) == bmV || match K.lookup D with
     | some ⟨_,_,.cls cd,_⟩=>nsOkIn K cd.ns && nsIn K cd.ns "__init__" == some none && tailIn K bmV bmV
     | _=>false):=rfl
   rw [t1,ho]
   dsimp only
   rw [h.1.2,h.2,t0]
   simp
  ·cases h
 ·cases h
end EX
namespace EX
open PySem PySem.Spec PyProof.Rows L2 VM
set_option maxHeartbeats 1000000
theorem cat0 {prog : Program} {w : World} {A : Around} {E : Value→Shared→Prop} {s : Shared} {t b : Addr} {ws : List Value} {Q : Value→Shared→Prop} (ht : IsTup s.heap t (#[] : Array Value)) (hb : IsTup s.heap b ws.toArray) (h1 : Q (.ref b) s) : wpAny (model prog w) A (binaryOp .Add (.ref t) (.ref b)) Q E s:=by
 obtain ⟨⟨cls,dd,data,sl⟩,ho,hc,n,hd⟩:=id ht
 obtain ⟨⟨cls2,dd2,data2,sl2⟩,ho2,hc2,n2,hd2⟩:=id hb
 simp only at hc hd hc2 hd2
 subst hc hd hc2 hd2
 exact concat_meets ⟨_,ho,rfl⟩ ⟨_,ho2,rfl⟩ noFill_tuple_add seq_tuple_add PySem.F.slot_tuple_add PySem.F.entry_tuple_add (PySem.F.args_tuple_add_2 _ _) (tuple_addW0 t b #[] ws.toArray n n2 dd dd2 sl sl2 rfl) ⟨ho,ho2,h1⟩
section
variable {X : Cx} {a b : Expr} {fa fb : VE} {pos : Pos}
noncomputable def rCatT2 (K : PySem.W.Frag) : R2:=fun x y H Q=>∃ a b xs ys,x = .ref a∧y = .ref b∧SqT K H a xs∧SqT K H b ys∧xs.length + ys.length≤sizeLine ∧
 (xs = []→Q (.ref b) H)∧(xs ≠ []→ys = []→Q (.ref a) H)∧(xs ≠ []→ys ≠ []→∀ p,H p = none→Q (.ref p) (upd H p (.tup (xs ++ ys))))
theorem op_catT2 : OpR X (binaryOp .Add) (rCatT2 X.K):=by
 intro pins s σ H x y v u Q I rx ry h
 obtain ⟨a,b,xs,ys,rfl,rfl,ha,hb,hz,q0,q1,q2⟩:=h
 by_cases hx : xs = []
 ·subst hx
  cases rx
  cases ry
  obtain ⟨its,r1,p1,_⟩:=I.tuple ha
  obtain ⟨its2,r2,p2,_⟩:=I.tuple hb
  cases r1
  exact cat0 p1 p2 ⟨.ref b,H,I,rfl,q0 rfl⟩
 ·exact op_catT pins s σ H _ _ v u Q I rx ry ⟨a,b,xs,ys,rfl,rfl,ha,hb,hx,hz,q1 hx,q2 hx⟩
noncomputable def catT2D : PyData→PyData→Option PyData
 | .tuple xs,.tuple ys=>@ite _ (xs.length + ys.length≤sizeLine) (Classical.propDecidable _) (some (.tuple (xs ++ ys))) none
 | _,_=>none
theorem catT2_i {xs ys : List PyData} (h : xs.length + ys.length≤sizeLine) : catT2D (.tuple xs) (.tuple ys) = some (.tuple (xs ++ ys)):=if_pos h
theorem dCatT2 (ha : PE X a (tV X.K RS fa)) (hb : PE X b (tV X.K RS fb)) : PE X (.BinOp a .Add b pos) (tV X.K RS (v2 catT2D fa fb)):=(pe_op op_catT2 ha hb).imp fun _ H Q q=>by
 obtain ⟨ioA,G,H₀,S,F,I,d,e,q⟩:=q
 obtain ⟨x,y,ex,ey,e⟩:=v2_some e
 refine ⟨ioA,G,H₀,S,F,I,x,ex,fun v F1 H1 g1 hx=>⟨ioA,G,H₀,S,F1,I.grow g1,y,ey,fun u F2 H2 g2 hy=>?_⟩⟩
 unfold catT2D at e
 split at e
 ·rename_i dx dy
  split at e
  ·rename_i hz
   cases e
   obtain ⟨p,xs,rfl,h1,h2⟩:=Has.same g2.ff hx
   obtain ⟨p',ys,rfl,h3,h4⟩:=hy
   have g:=g1.trans g2
   have hl:=h2.length
   have hl4:=h4.length
   refine ⟨p,p',xs,ys,rfl,rfl,g2.fh.seqT h1,g2.fh.seqT h3,by rw [← hl,← hl4]; exact hz,fun z=>?_,fun _ z=>?_,fun _ _ z hz=>?_⟩
   ·rw [z] at hl
    have : dx = []:=List.eq_nil_of_length_eq_zero hl
    subst this
    exact q _ F2 H2 g ⟨p',ys,rfl,h3,h4⟩
   ·rw [z] at hl4
    have : dy = []:=List.eq_nil_of_length_eq_zero hl4
    subst this
    rw [List.append_nil] at q
    exact q _ F2 H2 g ⟨p,xs,rfl,h1,h2⟩
   ·exact q _ _ _ (g.trans (Grow.allocF g2.fh hz)) ⟨z,_,rfl,SqT.of upd_same,(h4.append h2).same (same_upd_new (g2.fh.free hz))⟩
  ·cases e
 ·cases e
end
end EX
namespace K02
open PySem L2 VM
seal L2.PE L2.PT L2.PW L2.PA L2.PS L2.PSs L2.PG L2.PGs L2.PI L2.PIfs L2.PO L2.OpR L2.UnR L2.CallR L2.IxR L2.MtR L2.PSet L2.PIp VM.OpD VM.CallD
set_option maxHeartbeats 4000000
noncomputable def top (i : Nat) : Stmt:=PySem.Challenge.pw_leavehall_k02_halls_refused.main.body.getD i (.Pass ⟨0,0,0,0⟩)
noncomputable def g_is_room : VS :=
 (gRet (vCh leD ltD (vC (.int 0)) (vN 1) (vN 0)))
noncomputable def m_is_room : FnM:=fnM 2 2 g_is_room
theorem sc_is_room : FnScope ["many","room"] ["many","room"] (defScope (top 11)):=⟨rfl,rfl,rfl,by decide +kernel,rfl,by decide +kernel,by decide +kernel⟩
theorem ok_is_room {P : Program} {w : World} {K : PySem.W.Frag} {mg : Str→Option Value} {base : Heap} {f : Addr} {fd : FuncData} (F : Fun K "is_room" "is_room" (top 11) f fd) (B : Bl mg) (KT : Kits K)  : FnOk P w K mg base CX0 1 f fd ["many","room"] (spV K m_is_room):=by
 have nd:=sc_is_room.nd
 have vt:=(show (["many","room"] : List Str).all (fun x=>visB (defScope (top 11)) x && plain x) = true by decide +kernel)
 refine fnV (k:=0) (n:=2) (nN:=2) (g:=g_is_room) F sc_is_room rfl rfl fun cdv A outer s H E hr=>?_
 exact (sOne (sRet (dCh oLe hLe oLt hLt (sw dInt) (mw (dN (pV vt 1))) (mw (dN (pV vt 0))))))
noncomputable def g_is_passage : VS :=
 (gSeq (gAs (v2 ixDt (vN 1) (vC (.int 0))) (gN 2))
 (gSeq (gAs (v2 ixDt (vN 1) (vC (.int 1))) (gN 3))
 (gSeq (gIf (tOr2 (vB (v2 eqD (vN 2) (vN 3))) (tOr2 (tNot2 (vB (vCall m_is_room (aC (vF 0) (aC (vF 2) a0))))) (tNot2 (vB (vCall m_is_room (aC (vF 0) (aC (vF 3) a0)))))))
 (gRet (vC (.bool false)))
 gNop)
 (gRet (vAnd (v2 geD (v2 ixDt (vN 1) (vC (.int 2))) (vC (.int 1))) (v2 geD (v2 ixDt (vN 1) (vC (.int 3))) (vC (.int 1))))))))
noncomputable def m_is_passage : FnM:=fnM 2 4 g_is_passage
theorem sc_is_passage : FnScope ["many","passage","a","b"] ["many","passage"] (defScope (top 12)):=⟨rfl,rfl,rfl,by decide +kernel,rfl,by decide +kernel,by decide +kernel⟩
theorem ok_is_passage {P : Program} {w : World} {K : PySem.W.Frag} {mg : Str → Option Value} {base : Heap} {f : Addr} {fd : FuncData} (F : Fun K "is_passage" "is_passage" (top 12) f fd) (B : Bl mg) (KT : Kits K) (Cis_room : Cal P w K mg base 1 "is_room" ["many", "room"] (spV K m_is_room)) : FnOk P w K mg base CX0 2 f fd ["many", "passage"] (spV K m_is_passage) := by
  have nd := sc_is_passage.nd
  have vt := (show (["many", "passage", "a", "b"] : List Str).all (fun x => visB (defScope (top 12)) x && plain x) = true by decide +kernel)
  refine fnV (k := 1) (n := 2) (nN := 4) (g := g_is_passage) F sc_is_passage rfl rfl fun cdv A outer s H E hr => ?_
  exact (sSeq (sAs (ps_asg (dIx (dN (pV vt 1)) (sw dInt)) (tgN (pg_name (i := 2) nd rfl (lo (sc := (defScope (top 12))) (by decide +kernel))))))
 (sSeq (sAs (ps_asg (dIx (dN (pV vt 1)) (sw dInt)) (tgN (pg_name (i := 3) nd rfl (lo (sc := (defScope (top 12))) (by decide +kernel))))))
 (sSeq (sIf (PW.pt (wOr (cCmp (op_eqD hr.units) hEq (mw (dN (pV vt 2))) (mw (dN (pV vt 3)))) (wOr (cNot (cVal (dCal (peCal Cis_room (hr.mono (by decide)) (gl (sc := (defScope (top 12))) (by decide +kernel)) (paC (dF (pV vt 0)) (paC (dF (pV vt 2)) pa0)))))) (wOr1 (cNot (cVal (dCal (peCal Cis_room (hr.mono (by decide)) (gl (sc := (defScope (top 12))) (by decide +kernel)) (paC (dF (pV vt 0)) (paC (dF (pV vt 3)) pa0))))))))))
 (sOne (sRet dBool))
 sNil)
 (sOne (sRet (dAnd (dCmp oGe hGe (sw (dIx (dN (pV vt 1)) (sw dInt))) (sw dInt)) (dOne (dCmp oGe hGe (sw (dIx (dN (pV vt 1)) (sw dInt))) (sw dInt)))))))))
noncomputable def g__law_cell_at : VS :=
 (gSeq (gIf (vB (v2 ltD (vN 1) (vCB lenD (aC (vN 0) a0))))
 (gRet (v2 ixDt (vN 0) (vN 1)))
 gNop)
 (gRet (vC (.int 0))))
noncomputable def m__law_cell_at : FnM:=fnM 2 2 g__law_cell_at
theorem sc__law_cell_at : FnScope ["_law_script","_law_k"] ["_law_script","_law_k"] (defScope (top 14)):=⟨rfl,rfl,rfl,by decide +kernel,rfl,by decide +kernel,by decide +kernel⟩
theorem ok__law_cell_at {P : Program} {w : World} {K : PySem.W.Frag} {mg : Str → Option Value} {base : Heap} {f : Addr} {fd : FuncData} (F : Fun K "_law_cell_at" "_law_cell_at" (top 14) f fd) (B : Bl mg) (KT : Kits K)  : FnOk P w K mg base CX0 1 f fd ["_law_script", "_law_k"] (spV K m__law_cell_at) := by
  have nd := sc__law_cell_at.nd
  have vt := (show (["_law_script", "_law_k"] : List Str).all (fun x => visB (defScope (top 14)) x && plain x) = true by decide +kernel)
  refine fnV (k := 0) (n := 2) (nN := 2) (g := g__law_cell_at) F sc__law_cell_at rfl rfl fun cdv A outer s H E hr => ?_
  exact (sSeq (sIf (cCmp oLt hLt (mw (dN (pV vt 1))) (sw (dCB (pe_callB cLen (gl (sc := (defScope (top 14))) (by decide +kernel)) B.len PySem.boot_len (pwC (mw (dN (pV vt 0))) pw0)) hLen)))
 (sOne (sRet (dIx (dN (pV vt 0)) (mw (dN (pV vt 1))))))
 sNil)
 (sOne (sRet dInt)))
noncomputable def g__law_mixed : VS :=
 (gSeq (gIf (vB (v2 eqD (v2 modD (vN 0) (vC (.int 2))) (vC (.int 0))))
 (gSeq (gAs (v2 divD (vCB absD (aC (vN 0) a0)) (vC (.int 2))) (gN 2))
 (gSeq (gFor (vRng1 (aC (vN 1) a0)) (gN 3)
 (gAs (v2 divD (vN 2) (v2 powD (vC (.int 10)) (vC (.int 12)))) (gN 2)))
 (gRetO 2)))
 gNop)
 (gSeq (gAs (v2 modD (v2 addD (vN 0) (v2 mulD (vC (.int 7919)) (vN 1))) (vC (.int 2147483629))) (gN 2))
 (gSeq (gAs (v2 modD (v2 addD (v2 addD (v2 mulD (vN 2) (vN 2)) (v2 mulD (vC (.int 16807)) (vN 2))) (vN 1)) (vC (.int 2147483629))) (gN 2))
 (gRet (v2 modD (v2 mulD (vN 2) (vN 2)) (vC (.int 2147483587)))))))
noncomputable def m__law_mixed : FnM:=fnM 2 4 g__law_mixed
theorem sc__law_mixed : FnScope ["_law_cell","_law_k","_law_number","_law_time"] ["_law_cell","_law_k"] (defScope (top 15)):=⟨rfl,rfl,rfl,by decide +kernel,rfl,by decide +kernel,by decide +kernel⟩
theorem ok__law_mixed {P : Program} {w : World} {K : PySem.W.Frag} {mg : Str → Option Value} {base : Heap} {f : Addr} {fd : FuncData} (F : Fun K "_law_mixed" "_law_mixed" (top 15) f fd) (B : Bl mg) (KT : Kits K)  : FnOk P w K mg base CX0 1 f fd ["_law_cell", "_law_k"] (spV K m__law_mixed) := by
  have nd := sc__law_mixed.nd
  have vt := (show (["_law_cell", "_law_k", "_law_number", "_law_time"] : List Str).all (fun x => visB (defScope (top 15)) x && plain x) = true by decide +kernel)
  refine fnV (k := 0) (n := 2) (nN := 4) (g := g__law_mixed) F sc__law_mixed rfl rfl fun cdv A outer s H E hr => ?_
  exact (sSeq (sIf (cCmp (op_eqD hr.units) hEq (sw (dOp oMod hMod (mw (dN (pV vt 0))) (sw dInt))) (sw dInt))
 (sSeq (sAs (ps_asg (dOp oDiv hDiv (sw (dCB (pe_callB cAbs (gl (sc := (defScope (top 15))) (by decide +kernel)) B.abs PyProof.Rows.boot_abs (pwC (mw (dN (pV vt 0))) pw0)) hAbs)) (sw dInt)) (tgN (pg_name (i := 2) nd rfl (lo (sc := (defScope (top 15))) (by decide +kernel))))))
 (sSeq (sFor (ps_for PassesOwn.never rfl (itR1 (pi_range1 (gl (sc := (defScope (top 15))) (by decide +kernel)) B.range (pwC (mw (dN (pV vt 1))) pw0))) (tgN (pg_name (i := 3) nd rfl (lo (sc := (defScope (top 15))) (by decide +kernel))))
 (sOne (sAs (ps_asg (dOp oDiv hDiv (mw (dN (pV vt 2))) (sw (dOp oPow hPow (sw dInt) (sw dInt)))) (tgN (pg_name (i := 2) nd rfl (lo (sc := (defScope (top 15))) (by decide +kernel)))))))))
 (sOne (sRetO (pV vt 2)))))
 sNil)
 (sSeq (sAs (ps_asg (dOp oMod hMod (sw (dOp oAdd hAdd (mw (dN (pV vt 0))) (sw (dOp oMul hMul (sw dInt) (mw (dN (pV vt 1))))))) (sw dInt)) (tgN (pg_name (i := 2) nd rfl (lo (sc := (defScope (top 15))) (by decide +kernel))))))
 (sSeq (sAs (ps_asg (dOp oMod hMod (sw (dOp oAdd hAdd (sw (dOp oAdd hAdd (sw (dOp oMul hMul (mw (dN (pV vt 2))) (mw (dN (pV vt 2))))) (sw (dOp oMul hMul (sw dInt) (mw (dN (pV vt 2))))))) (mw (dN (pV vt 1))))) (sw dInt)) (tgN (pg_name (i := 2) nd rfl (lo (sc := (defScope (top 15))) (by decide +kernel))))))
 (sOne (sRet (dOp oMod hMod (sw (dOp oMul hMul (mw (dN (pV vt 2))) (mw (dN (pV vt 2))))) (sw dInt)))))))
noncomputable def g__law_whole : VS :=
 (gRet (vAnd (vIsi "int" (vN 0)) (vNot (vIsi "bool" (vN 0)))))
noncomputable def m__law_whole : FnM:=fnM 1 1 g__law_whole
theorem sc__law_whole : FnScope ["_law_found"] ["_law_found"] (defScope (top 16)):=⟨rfl,rfl,rfl,by decide +kernel,rfl,by decide +kernel,by decide +kernel⟩
theorem ok__law_whole {P : Program} {w : World} {K : PySem.W.Frag} {mg : Str→Option Value} {base : Heap} {f : Addr} {fd : FuncData} (F : Fun K "_law_whole" "_law_whole" (top 16) f fd) (B : Bl mg) (KT : Kits K)  : FnOk P w K mg base CX0 1 f fd ["_law_found"] (spV K m__law_whole):=by
 have nd:=sc__law_whole.nd
 have vt:=(show (["_law_found"] : List Str).all (fun x=>visB (defScope (top 16)) x && plain x) = true by decide +kernel)
 refine fnV (k:=0) (n:=1) (nN:=1) (g:=g__law_whole) F sc__law_whole rfl rfl fun cdv A outer s H E hr=>?_
 exact (sOne (sRet (dAnd (dIsi KT.int (pe_callB cIsi (gl (sc:=(defScope (top 16))) (by decide +kernel)) B.isinstance PyProof.Rows.boot_isinstance (pa_cons (mw (dN (pV vt 0))) (pa_cons (pe_bltn (v:=.ty "int") (gl (sc:=(defScope (top 16))) (by decide +kernel)) B.int PyProof.Rows.boot_int rfl) pa_nil)))) (dOne (dNot (dIsi KT.bool (pe_callB cIsi (gl (sc:=(defScope (top 16))) (by decide +kernel)) B.isinstance PyProof.Rows.boot_isinstance (pa_cons (mw (dN (pV vt 0))) (pa_cons (pe_bltn (v:=.ty "bool") (gl (sc:=(defScope (top 16))) (by decide +kernel)) B.bool PyProof.Rows.boot_bool rfl) pa_nil)))))))))
noncomputable def g__law_great : VS :=
 (gSeq (gAs (vCall m__law_mixed (aC (vF 0) (aC (vF 1) a0))) (gN 2))
 (gSeq (gIf (vB (v2 eqD (v2 modD (vN 2) (vC (.int 3))) (vC (.int 0))))
 (gRet (v2 addD (vC (.int 1)) (v2 modD (vN 0) (v2 subD (v2 powD (vC (.int 10)) (vC (.int 60))) (vC (.int 1))))))
 gNop)
 (gSeq (gIf (vB (v2 eqD (v2 modD (vN 2) (vC (.int 3))) (vC (.int 1))))
 (gRet (v2 addD (vC (.int 1)) (v2 modD (v2 divD (vN 2) (vC (.int 3))) (vC (.int 1000)))))
 gNop)
 (gRet (v2 addD (vC (.int 1)) (v2 modD (v2 divD (vN 2) (vC (.int 3))) (vC (.int 4))))))))
noncomputable def m__law_great : FnM:=fnM 2 3 g__law_great
theorem sc__law_great : FnScope ["_law_cell","_law_k","_law_number"] ["_law_cell","_law_k"] (defScope (top 17)):=⟨rfl,rfl,rfl,by decide +kernel,rfl,by decide +kernel,by decide +kernel⟩
theorem ok__law_great {P : Program} {w : World} {K : PySem.W.Frag} {mg : Str → Option Value} {base : Heap} {f : Addr} {fd : FuncData} (F : Fun K "_law_great" "_law_great" (top 17) f fd) (B : Bl mg) (KT : Kits K) (C_law_mixed : Cal P w K mg base 1 "_law_mixed" ["_law_cell", "_law_k"] (spV K m__law_mixed)) : FnOk P w K mg base CX0 2 f fd ["_law_cell", "_law_k"] (spV K m__law_great) := by
  have nd := sc__law_great.nd
  have vt := (show (["_law_cell", "_law_k", "_law_number"] : List Str).all (fun x => visB (defScope (top 17)) x && plain x) = true by decide +kernel)
  refine fnV (k := 1) (n := 2) (nN := 3) (g := g__law_great) F sc__law_great rfl rfl fun cdv A outer s H E hr => ?_
  exact (sSeq (sAs (ps_asg (dCal (peCal C_law_mixed (hr.mono (by decide)) (gl (sc := (defScope (top 17))) (by decide +kernel)) (paC (dF (pV vt 0)) (paC (dF (pV vt 1)) pa0)))) (tgN (pg_name (i := 2) nd rfl (lo (sc := (defScope (top 17))) (by decide +kernel))))))
 (sSeq (sIf (cCmp (op_eqD hr.units) hEq (sw (dOp oMod hMod (mw (dN (pV vt 2))) (sw dInt))) (sw dInt))
 (sOne (sRet (dOp oAdd hAdd (sw dInt) (sw (dOp oMod hMod (mw (dN (pV vt 0))) (sw (dOp oSub hSub (sw (dOp oPow hPow (sw dInt) (sw dInt))) (sw dInt))))))))
 sNil)
 (sSeq (sIf (cCmp (op_eqD hr.units) hEq (sw (dOp oMod hMod (mw (dN (pV vt 2))) (sw dInt))) (sw dInt))
 (sOne (sRet (dOp oAdd hAdd (sw dInt) (sw (dOp oMod hMod (sw (dOp oDiv hDiv (mw (dN (pV vt 2))) (sw dInt))) (sw dInt))))))
 sNil)
 (sOne (sRet (dOp oAdd hAdd (sw dInt) (sw (dOp oMod hMod (sw (dOp oDiv hDiv (mw (dN (pV vt 2))) (sw dInt))) (sw dInt)))))))))
noncomputable def g__law_passage : VS :=
 (gSeq (gAs (vCall m__law_mixed (aC (vF 0) (aC (vC (.int 0)) a0))) (gN 2))
 (gSeq (gAs (v2 modD (vN 2) (vN 1)) (gN 3))
 (gSeq (gAs (v2 modD (v2 addD (v2 addD (vN 3) (vC (.int 1))) (v2 modD (v2 divD (vN 2) (vN 1)) (v2 subD (vN 1) (vC (.int 1))))) (vN 1)) (gN 4))
 (gRet (vTup (aC (vF 3) (aC (vF 4) (aC (vCall m__law_great (aC (vF 0) (aC (vC (.int 1)) a0))) (aC (vCall m__law_great (aC (vF 0) (aC (vC (.int 2)) a0))) a0)))))))))
noncomputable def m__law_passage : FnM:=fnM 2 5 g__law_passage
theorem sc__law_passage : FnScope ["_law_cell","_law_many","_law_number","_law_a","_law_b"] ["_law_cell","_law_many"] (defScope (top 18)):=⟨rfl,rfl,rfl,by decide +kernel,rfl,by decide +kernel,by decide +kernel⟩
theorem ok__law_passage {P : Program} {w : World} {K : PySem.W.Frag} {mg : Str → Option Value} {base : Heap} {f : Addr} {fd : FuncData} (F : Fun K "_law_passage" "_law_passage" (top 18) f fd) (B : Bl mg) (KT : Kits K) (C_law_mixed : Cal P w K mg base 1 "_law_mixed" ["_law_cell", "_law_k"] (spV K m__law_mixed)) (C_law_great : Cal P w K mg base 2 "_law_great" ["_law_cell", "_law_k"] (spV K m__law_great)) : FnOk P w K mg base CX0 3 f fd ["_law_cell", "_law_many"] (spV K m__law_passage) := by
  have nd := sc__law_passage.nd
  have vt := (show (["_law_cell", "_law_many", "_law_number", "_law_a", "_law_b"] : List Str).all (fun x => visB (defScope (top 18)) x && plain x) = true by decide +kernel)
  refine fnV (k := 2) (n := 2) (nN := 5) (g := g__law_passage) F sc__law_passage rfl rfl fun cdv A outer s H E hr => ?_
  exact (sSeq (sAs (ps_asg (dCal (peCal C_law_mixed (hr.mono (by decide)) (gl (sc := (defScope (top 18))) (by decide +kernel)) (paC (dF (pV vt 0)) (paC dInt pa0)))) (tgN (pg_name (i := 2) nd rfl (lo (sc := (defScope (top 18))) (by decide +kernel))))))
 (sSeq (sAs (ps_asg (dOp oMod hMod (mw (dN (pV vt 2))) (mw (dN (pV vt 1)))) (tgN (pg_name (i := 3) nd rfl (lo (sc := (defScope (top 18))) (by decide +kernel))))))
 (sSeq (sAs (ps_asg (dOp oMod hMod (sw (dOp oAdd hAdd (sw (dOp oAdd hAdd (mw (dN (pV vt 3))) (sw dInt))) (sw (dOp oMod hMod (sw (dOp oDiv hDiv (mw (dN (pV vt 2))) (mw (dN (pV vt 1))))) (sw (dOp oSub hSub (mw (dN (pV vt 1))) (sw dInt))))))) (mw (dN (pV vt 1)))) (tgN (pg_name (i := 4) nd rfl (lo (sc := (defScope (top 18))) (by decide +kernel))))))
 (sOne (sRet (dTup (paC (dF (pV vt 3)) (paC (dF (pV vt 4)) (paC (dCal (peCal C_law_great (hr.mono (by decide)) (gl (sc := (defScope (top 18))) (by decide +kernel)) (paC (dF (pV vt 0)) (paC dInt pa0)))) (paC (dCal (peCal C_law_great (hr.mono (by decide)) (gl (sc := (defScope (top 18))) (by decide +kernel)) (paC (dF (pV vt 0)) (paC dInt pa0)))) pa0))))))))))
noncomputable def g__law_hall : VS :=
 (gSeq (gAs (vCall m__law_mixed (aC (vCall m__law_cell_at (aC (vF 0) (aC (vC (.int 0)) a0))) (aC (vC (.int 0)) a0))) (gN 1))
 (gSeq (gAs (v2 ixDt (vLst (aC (vC (.int 2)) (aC (vC (.int 3)) (aC (vC (.int 4)) (aC (vC (.int 5)) (aC (vC (.int 6)) (aC (vC (.int 7)) (aC (vC (.int 8)) (aC (vC (.int 40)) a0))))))))) (v2 modD (vN 1) (vC (.int 8)))) (gN 2))
 (gSeq (gAs (v2 modD (v2 divD (vN 1) (vC (.int 8))) (vN 2)) (gN 3))
 (gSeq (gAs (v2 modD (v2 addD (v2 addD (vN 3) (vC (.int 1))) (v2 modD (v2 divD (v2 divD (vN 1) (vC (.int 8))) (vN 2)) (v2 subD (vN 2) (vC (.int 1))))) (vN 2)) (gN 4))
 (gSeq (gOw 5 (vLC (vItems (vSlL (vN 0) (oI (vC (.int 3))) (oI (vC (.int 63))))) [none, some 2] (gN 0) cTrue (vCall m__law_passage (aC (vF 0) (aC (vF 1) a0)))))
 (gSeq (gIf (tAnd2 (vB (v2 gtD (vCB lenD (aC (vN 5) a0)) (vC (.int 1)))) (vB (v2 eqD (v2 modD (v2 divD (vN 1) (vC (.int 40000))) (vC (.int 3))) (vC (.int 0)))))
 (gPut 5 (v1 negD (vC (.int 1))) (v2 ixDt (vN 5) (vC (.int 0))))
 gNop)
 (gFz 5 (gRet (vTup (aC (vF 2) (aC (vF 5) (aC (vF 3) (aC (vF 4) a0)))))))))))))
noncomputable def m__law_hall : FnM:=fnM 1 6 g__law_hall
theorem sc__law_hall : FnScope ["_law_script","_law_number","_law_many","_law_start","_law_goal","_law_passages"] ["_law_script"] (defScope (top 19)):=⟨rfl,rfl,rfl,by decide +kernel,rfl,by decide +kernel,by decide +kernel⟩
theorem ok__law_hall {P : Program} {w : World} {K : PySem.W.Frag} {mg : Str → Option Value} {base : Heap} {f : Addr} {fd : FuncData} (F : Fun K "_law_hall" "_law_hall" (top 19) f fd) (B : Bl mg) (KT : Kits K) (C_law_mixed : Cal P w K mg base 1 "_law_mixed" ["_law_cell", "_law_k"] (spV K m__law_mixed)) (C_law_cell_at : Cal P w K mg base 1 "_law_cell_at" ["_law_script", "_law_k"] (spV K m__law_cell_at)) (C_law_passage : Cal P w K mg base 3 "_law_passage" ["_law_cell", "_law_many"] (spV K m__law_passage)) : FnOk P w K mg base CX0 4 f fd ["_law_script"] (spV K m__law_hall) := by
  have nd := sc__law_hall.nd
  have vt := (show (["_law_script", "_law_number", "_law_many", "_law_start", "_law_goal", "_law_passages"] : List Str).all (fun x => visB (defScope (top 19)) x && plain x) = true by decide +kernel)
  refine fnV (k := 3) (n := 1) (nN := 6) (g := g__law_hall) F sc__law_hall rfl rfl fun cdv A outer s H E hr => ?_
  exact (sSeq (sAs (ps_asg (dCal (peCal C_law_mixed (hr.mono (by decide)) (gl (sc := (defScope (top 19))) (by decide +kernel)) (paC (dCal (peCal C_law_cell_at (hr.mono (by decide)) (gl (sc := (defScope (top 19))) (by decide +kernel)) (paC (dF (pV vt 0)) (paC dInt pa0)))) (paC dInt pa0)))) (tgN (pg_name (i := 1) nd rfl (lo (sc := (defScope (top 19))) (by decide +kernel))))))
 (sSeq (sAs (ps_asg (dIx (nm (dLst (paC dInt (paC dInt (paC dInt (paC dInt (paC dInt (paC dInt (paC dInt (paC dInt pa0)))))))))) (sw (dOp oMod hMod (mw (dN (pV vt 1))) (sw dInt)))) (tgN (pg_name (i := 2) nd rfl (lo (sc := (defScope (top 19))) (by decide +kernel))))))
 (sSeq (sAs (ps_asg (dOp oMod hMod (sw (dOp oDiv hDiv (mw (dN (pV vt 1))) (sw dInt))) (mw (dN (pV vt 2)))) (tgN (pg_name (i := 3) nd rfl (lo (sc := (defScope (top 19))) (by decide +kernel))))))
 (sSeq (sAs (ps_asg (dOp oMod hMod (sw (dOp oAdd hAdd (sw (dOp oAdd hAdd (mw (dN (pV vt 3))) (sw dInt))) (sw (dOp oMod hMod (sw (dOp oDiv hDiv (sw (dOp oDiv hDiv (mw (dN (pV vt 1))) (sw dInt))) (mw (dN (pV vt 2))))) (sw (dOp oSub hSub (mw (dN (pV vt 2))) (sw dInt))))))) (mw (dN (pV vt 2)))) (tgN (pg_name (i := 4) nd rfl (lo (sc := (defScope (top 19))) (by decide +kernel))))))
 (sSeq (sOw (tAsg_imp (ps_setLC (i := 5) nd rfl (lo (sc := (defScope (top 19))) (by decide +kernel)) (te := tV K RS _) (tc := tVT K _) (g := tVG K _ _) (N' := ["_law_cell", "_law_many"]) (cap := [none, some 2]) ["_law_script", "_law_number", "_law_many", "_law_start", "_law_goal", "_law_passages"] (defScope (top 19)) rfl (by decide +kernel) rfl rfl (itL (ns (dSlL (dN (pV vt 0)) (poI (sw dInt)) (poI (sw dInt))))) (fun _ _ _ _ _ => (tgN (pgC (i := 0) (show (["_law_cell", "_law_many"] : List Str).Nodup by decide +kernel) (by decide +kernel)))) (fun _ _ _ _ _ => ifN) (fun _ _ _ _ _ => (dCal (peCal C_law_passage (hr.mono (by decide)) (glC (by decide +kernel)) (paC (dF (pVc (by decide +kernel) 0)) (paC (dF (pVc (by decide +kernel) 1)) pa0)))))) fun _ _ _ q => rdLC rfl q))
 (sSeq (sIf (PW.pt (wAnd (cCmp oGt hGt (sw (dCB (pe_callB cLen (gl (sc := (defScope (top 19))) (by decide +kernel)) B.len PySem.boot_len (pwC (mw (dN (pV vt 5))) pw0)) hLen)) (sw dInt)) (wAnd1 (cCmp (op_eqD hr.units) hEq (sw (dOp oMod hMod (sw (dOp oDiv hDiv (mw (dN (pV vt 1))) (sw dInt))) (sw dInt))) (sw dInt)))))
 (sOne (sPut (i := 5) (ps_asg (dIx (dN (pV vt 5)) (sw dInt)) (pg_sub (pV vt 5) (sw (dNeg (sw dInt))) setL))))
 sNil)
 (sOne (sFz (i := 5) (sRet (dTup (paC (dF (pV vt 2)) (paC (dF (pV vt 5)) (paC (dF (pV vt 3)) (paC (dF (pV vt 4)) pa0))))))))))))))
noncomputable def g__law_no_room : VS :=
 (gRet (v2 ixDt (vLst (aC (v1 negD (vC (.int 1))) (aC (vF 1) (aC (v2 addD (v2 addD (vN 1) (vC (.int 1))) (v2 modD (v2 divD (vN 0) (vC (.int 5))) (vC (.int 1000)))) (aC (v2 subD (v1 negD (vC (.int 2))) (v2 modD (v2 divD (vN 0) (vC (.int 5))) (vC (.int 1000)))) (aC (v2 powD (vC (.int 10)) (vC (.int 59))) a0)))))) (v2 modD (vN 0) (vC (.int 5)))))
noncomputable def m__law_no_room : FnM:=fnM 2 2 g__law_no_room
theorem sc__law_no_room : FnScope ["_law_number","_law_many"] ["_law_number","_law_many"] (defScope (top 21)):=⟨rfl,rfl,rfl,by decide +kernel,rfl,by decide +kernel,by decide +kernel⟩
theorem ok__law_no_room {P : Program} {w : World} {K : PySem.W.Frag} {mg : Str→Option Value} {base : Heap} {f : Addr} {fd : FuncData} (F : Fun K "_law_no_room" "_law_no_room" (top 21) f fd) (B : Bl mg) (KT : Kits K)  : FnOk P w K mg base CX0 1 f fd ["_law_number","_law_many"] (spV K m__law_no_room):=by
 have nd:=sc__law_no_room.nd
 have vt:=(show (["_law_number","_law_many"] : List Str).all (fun x=>visB (defScope (top 21)) x && plain x) = true by decide +kernel)
 refine fnV (k:=0) (n:=2) (nN:=2) (g:=g__law_no_room) F sc__law_no_room rfl rfl fun cdv A outer s H E hr=>?_
 exact (sOne (sRet (dIx (nm (dLst (paC (dNeg (sw dInt)) (paC (dF (pV vt 1)) (paC (dOp oAdd hAdd (sw (dOp oAdd hAdd (mw (dN (pV vt 1))) (sw dInt))) (sw (dOp oMod hMod (sw (dOp oDiv hDiv (mw (dN (pV vt 0))) (sw dInt))) (sw dInt)))) (paC (dOp oSub hSub (sw (dNeg (sw dInt))) (sw (dOp oMod hMod (sw (dOp oDiv hDiv (mw (dN (pV vt 0))) (sw dInt))) (sw dInt)))) (paC (dOp oPow hPow (sw dInt) (sw dInt)) pa0))))))) (sw (dOp oMod hMod (mw (dN (pV vt 0))) (sw dInt))))))
noncomputable def g__law_spoiled : VS :=
 (gSeq (gAs (vCall m__law_mixed (aC (vF 0) (aC (vC (.int 3)) a0))) (gN 3))
 (gSeq (gAs (v2 modD (v2 divD (vN 3) (vC (.int 2))) (vC (.int 4))) (gN 4))
 (gSeq (gAs (v2 addD (vC (.int 2)) (v2 modD (vN 3) (vC (.int 2)))) (gN 5))
 (gSeq (gAs (v2 ixDt (vLst (aC (vC (.int 0)) (aC (v2 subD (v1 negD (vC (.int 1))) (v2 modD (vN 0) (v2 powD (vC (.int 10)) (vC (.int 59))))) a0))) (v2 modD (v2 divD (vN 3) (vC (.int 8))) (vC (.int 2)))) (gN 6))
 (gSeq (gIf (vB (v2 eqD (vN 4) (vC (.int 0))))
 (gSeq (gAs (v2 modD (vN 3) (vC (.int 2))) (gN 5))
 (gAs (v2 ixDt (vN 1) (v2 subD (vC (.int 1)) (vN 5))) (gN 6)))
 gNop)
 (gSeq (gIf (tOr2 (vB (v2 eqD (vN 4) (vC (.int 1)))) (vB (v2 eqD (vN 4) (vC (.int 2)))))
 (gSeq (gAs (v2 modD (vN 3) (vC (.int 2))) (gN 5))
 (gAs (vCall m__law_no_room (aC (v2 divD (vN 3) (vC (.int 8))) (aC (vF 2) a0))) (gN 6)))
 gNop)
 (gRet (v2 EX.catT2D (v2 EX.catT2D (vSlT (vN 1) oN (oI (vN 5))) (vTup (aC (vF 6) a0))) (vSlT (vN 1) (oI (v2 addD (vN 5) (vC (.int 1)))) oN)))))))))
noncomputable def m__law_spoiled : FnM:=fnM 3 7 g__law_spoiled
theorem sc__law_spoiled : FnScope ["_law_cell","_law_passage_here","_law_many","_law_number","_law_way","_law_place_here","_law_spoiled_here"] ["_law_cell","_law_passage_here","_law_many"] (defScope (top 22)):=⟨rfl,rfl,rfl,by decide +kernel,rfl,by decide +kernel,by decide +kernel⟩
theorem ok__law_spoiled {P : Program} {w : World} {K : PySem.W.Frag} {mg : Str → Option Value} {base : Heap} {f : Addr} {fd : FuncData} (F : Fun K "_law_spoiled" "_law_spoiled" (top 22) f fd) (B : Bl mg) (KT : Kits K) (C_law_mixed : Cal P w K mg base 1 "_law_mixed" ["_law_cell", "_law_k"] (spV K m__law_mixed)) (C_law_no_room : Cal P w K mg base 1 "_law_no_room" ["_law_number", "_law_many"] (spV K m__law_no_room)) : FnOk P w K mg base CX0 2 f fd ["_law_cell", "_law_passage_here", "_law_many"] (spV K m__law_spoiled) := by
  have nd := sc__law_spoiled.nd
  have vt := (show (["_law_cell", "_law_passage_here", "_law_many", "_law_number", "_law_way", "_law_place_here", "_law_spoiled_here"] : List Str).all (fun x => visB (defScope (top 22)) x && plain x) = true by decide +kernel)
  refine fnV (k := 1) (n := 3) (nN := 7) (g := g__law_spoiled) F sc__law_spoiled rfl rfl fun cdv A outer s H E hr => ?_
  exact (sSeq (sAs (ps_asg (dCal (peCal C_law_mixed (hr.mono (by decide)) (gl (sc := (defScope (top 22))) (by decide +kernel)) (paC (dF (pV vt 0)) (paC dInt pa0)))) (tgN (pg_name (i := 3) nd rfl (lo (sc := (defScope (top 22))) (by decide +kernel))))))
 (sSeq (sAs (ps_asg (dOp oMod hMod (sw (dOp oDiv hDiv (mw (dN (pV vt 3))) (sw dInt))) (sw dInt)) (tgN (pg_name (i := 4) nd rfl (lo (sc := (defScope (top 22))) (by decide +kernel))))))
 (sSeq (sAs (ps_asg (dOp oAdd hAdd (sw dInt) (sw (dOp oMod hMod (mw (dN (pV vt 3))) (sw dInt)))) (tgN (pg_name (i := 5) nd rfl (lo (sc := (defScope (top 22))) (by decide +kernel))))))
 (sSeq (sAs (ps_asg (dIx (nm (dLst (paC dInt (paC (dOp oSub hSub (sw (dNeg (sw dInt))) (sw (dOp oMod hMod (mw (dN (pV vt 0))) (sw (dOp oPow hPow (sw dInt) (sw dInt)))))) pa0)))) (sw (dOp oMod hMod (sw (dOp oDiv hDiv (mw (dN (pV vt 3))) (sw dInt))) (sw dInt)))) (tgN (pg_name (i := 6) nd rfl (lo (sc := (defScope (top 22))) (by decide +kernel))))))
 (sSeq (sIf (cCmp (op_eqD hr.units) hEq (mw (dN (pV vt 4))) (sw dInt))
 (sSeq (sAs (ps_asg (dOp oMod hMod (mw (dN (pV vt 3))) (sw dInt)) (tgN (pg_name (i := 5) nd rfl (lo (sc := (defScope (top 22))) (by decide +kernel))))))
 (sOne (sAs (ps_asg (dIx (dN (pV vt 1)) (sw (dOp oSub hSub (sw dInt) (mw (dN (pV vt 5)))))) (tgN (pg_name (i := 6) nd rfl (lo (sc := (defScope (top 22))) (by decide +kernel))))))))
 sNil)
 (sSeq (sIf (PW.pt (wOr (cCmp (op_eqD hr.units) hEq (mw (dN (pV vt 4))) (sw dInt)) (wOr1 (cCmp (op_eqD hr.units) hEq (mw (dN (pV vt 4))) (sw dInt)))))
 (sSeq (sAs (ps_asg (dOp oMod hMod (mw (dN (pV vt 3))) (sw dInt)) (tgN (pg_name (i := 5) nd rfl (lo (sc := (defScope (top 22))) (by decide +kernel))))))
 (sOne (sAs (ps_asg (dCal (peCal C_law_no_room (hr.mono (by decide)) (gl (sc := (defScope (top 22))) (by decide +kernel)) (paC (dOp oDiv hDiv (mw (dN (pV vt 3))) (sw dInt)) (paC (dF (pV vt 2)) pa0)))) (tgN (pg_name (i := 6) nd rfl (lo (sc := (defScope (top 22))) (by decide +kernel))))))))
 sNil)
 (sOne (sRet (EX.dCatT2 (EX.dCatT2 (dSlT (dN (pV vt 1)) poN (poI (mw (dN (pV vt 5))))) (dTup (paC (dF (pV vt 6)) pa0))) (dSlT (dN (pV vt 1)) (poI (sw (dOp oAdd hAdd (mw (dN (pV vt 5))) (sw dInt)))) poN))))))))))
noncomputable def g__law_rooms : VS :=
 (gSeq (gAs (vCall m__law_mixed (aC (vCall m__law_cell_at (aC (vF 0) (aC (vC (.int 1)) a0))) (aC (vC (.int 0)) a0))) (gN 4))
 (gSeq (gAs (v2 modD (vN 4) (vC (.int 8))) (gN 5))
 (gSeq (gIf (vB (v2 eqD (vN 5) (vC (.int 0))))
 (gRet (vTup (aC (v2 subD (vC (.int 1)) (v2 modD (v2 divD (vN 4) (vC (.int 8))) (vC (.int 3)))) (aC (vF 2) (aC (vF 3) a0)))))
 gNop)
 (gSeq (gIf (vB (v2 eqD (vN 5) (vC (.int 1))))
 (gRet (vTup (aC (vF 1) (aC (vCall m__law_no_room (aC (v2 divD (vN 4) (vC (.int 8))) (aC (vF 1) a0))) (aC (vF 3) a0)))))
 gNop)
 (gSeq (gIf (vB (v2 eqD (vN 5) (vC (.int 2))))
 (gRet (vTup (aC (vF 1) (aC (vF 2) (aC (vCall m__law_no_room (aC (v2 divD (vN 4) (vC (.int 8))) (aC (vF 1) a0))) a0)))))
 gNop)
 (gSeq (gIf (vB (v2 eqD (vN 5) (vC (.int 3))))
 (gRet (vTup (aC (vF 1) (aC (vF 3) (aC (vF 3) a0)))))
 gNop)
 (gRet (vTup (aC (vF 1) (aC (vF 2) (aC (vF 3) a0)))))))))))
noncomputable def m__law_rooms : FnM:=fnM 4 6 g__law_rooms
theorem sc__law_rooms : FnScope ["_law_script","_law_many","_law_start","_law_goal","_law_number","_law_way"] ["_law_script","_law_many","_law_start","_law_goal"] (defScope (top 23)):=⟨rfl,rfl,rfl,by decide +kernel,rfl,by decide +kernel,by decide +kernel⟩
theorem ok__law_rooms {P : Program} {w : World} {K : PySem.W.Frag} {mg : Str → Option Value} {base : Heap} {f : Addr} {fd : FuncData} (F : Fun K "_law_rooms" "_law_rooms" (top 23) f fd) (B : Bl mg) (KT : Kits K) (C_law_mixed : Cal P w K mg base 1 "_law_mixed" ["_law_cell", "_law_k"] (spV K m__law_mixed)) (C_law_cell_at : Cal P w K mg base 1 "_law_cell_at" ["_law_script", "_law_k"] (spV K m__law_cell_at)) (C_law_no_room : Cal P w K mg base 1 "_law_no_room" ["_law_number", "_law_many"] (spV K m__law_no_room)) : FnOk P w K mg base CX0 2 f fd ["_law_script", "_law_many", "_law_start", "_law_goal"] (spV K m__law_rooms) := by
  have nd := sc__law_rooms.nd
  have vt := (show (["_law_script", "_law_many", "_law_start", "_law_goal", "_law_number", "_law_way"] : List Str).all (fun x => visB (defScope (top 23)) x && plain x) = true by decide +kernel)
  refine fnV (k := 1) (n := 4) (nN := 6) (g := g__law_rooms) F sc__law_rooms rfl rfl fun cdv A outer s H E hr => ?_
  exact (sSeq (sAs (ps_asg (dCal (peCal C_law_mixed (hr.mono (by decide)) (gl (sc := (defScope (top 23))) (by decide +kernel)) (paC (dCal (peCal C_law_cell_at (hr.mono (by decide)) (gl (sc := (defScope (top 23))) (by decide +kernel)) (paC (dF (pV vt 0)) (paC dInt pa0)))) (paC dInt pa0)))) (tgN (pg_name (i := 4) nd rfl (lo (sc := (defScope (top 23))) (by decide +kernel))))))
 (sSeq (sAs (ps_asg (dOp oMod hMod (mw (dN (pV vt 4))) (sw dInt)) (tgN (pg_name (i := 5) nd rfl (lo (sc := (defScope (top 23))) (by decide +kernel))))))
 (sSeq (sIf (cCmp (op_eqD hr.units) hEq (mw (dN (pV vt 5))) (sw dInt))
 (sOne (sRet (dTup (paC (dOp oSub hSub (sw dInt) (sw (dOp oMod hMod (sw (dOp oDiv hDiv (mw (dN (pV vt 4))) (sw dInt))) (sw dInt)))) (paC (dF (pV vt 2)) (paC (dF (pV vt 3)) pa0))))))
 sNil)
 (sSeq (sIf (cCmp (op_eqD hr.units) hEq (mw (dN (pV vt 5))) (sw dInt))
 (sOne (sRet (dTup (paC (dF (pV vt 1)) (paC (dCal (peCal C_law_no_room (hr.mono (by decide)) (gl (sc := (defScope (top 23))) (by decide +kernel)) (paC (dOp oDiv hDiv (mw (dN (pV vt 4))) (sw dInt)) (paC (dF (pV vt 1)) pa0)))) (paC (dF (pV vt 3)) pa0))))))
 sNil)
 (sSeq (sIf (cCmp (op_eqD hr.units) hEq (mw (dN (pV vt 5))) (sw dInt))
 (sOne (sRet (dTup (paC (dF (pV vt 1)) (paC (dF (pV vt 2)) (paC (dCal (peCal C_law_no_room (hr.mono (by decide)) (gl (sc := (defScope (top 23))) (by decide +kernel)) (paC (dOp oDiv hDiv (mw (dN (pV vt 4))) (sw dInt)) (paC (dF (pV vt 1)) pa0)))) pa0))))))
 sNil)
 (sSeq (sIf (cCmp (op_eqD hr.units) hEq (mw (dN (pV vt 5))) (sw dInt))
 (sOne (sRet (dTup (paC (dF (pV vt 1)) (paC (dF (pV vt 3)) (paC (dF (pV vt 3)) pa0))))))
 sNil)
 (sOne (sRet (dTup (paC (dF (pV vt 1)) (paC (dF (pV vt 2)) (paC (dF (pV vt 3)) pa0))))))))))))
end K02
set_option hygiene false in
local macro_rules | `(tactic| walk_at "e0")=>`(tactic| (try simp only [fnM_eq,ob_some,ob_none,bFn_r,bFn_n,ini,gSeq_eq,bSeq_n,bSeq_r,bSeq_b,bSeq_c,gIf_eq,bIf_t,bIf_f,tAnd_eq,bAnd_t,bAnd_f,tOr_eq,bOr_t,bOr_f,tNot2,vAnd_eq,bAndE_t,bAndE_f,vOr_eq,bOrE_t,bOrE_f,vIf_eq,bIfE_t,bIfE_f,v2_eq,b2_s,b1_s,v1_eq,aC_eq,bC_s,bC1_s,a0,gAs_eq,bAs_s,bNx_s,gC_eq,bG_s,g0,vCall_eq,bCall_s,vCallN_eq,bCallN_s,vCallW_eq,bCallW_s,bResW_s,vCallWN_eq,bCallWN_s,bResWN_s,bIm_t,vImm_eq,bImm_s,bRes_s,bResN_s,vCh_eq,bCh_t,bCh_f,atI_0,atI_1,atI_2,atI_3,gFor_eq,bFor_s,gRet,gRetN,gRetO,gEx,gN,gT,gOw_eq,gOwF_eq,bOw_s,vLC_eq,vLCW_eq,bL_s,gFz,frz,gApp,gPut,gAug,gAugI,gNop,gFail,gClr,gPop,ownL,noIo_eq,nio_ob,nio_n,nio_fr,nio_ow,vN,vF,vC,vB,vTru,truD,vNot,imm,immL,ixDt,oN,oI,vSlL,vSlT,vRev,negD,vTup,vLst,vCB,lenD,absD,min2D,max2D,int1D,vIsi,isi_list,isi_int,isi_bool_i,isi_tuple,vListOf,immR,vItems,vItemsT,vRng1,vRng2,vEnum,vZip,capFr,capG,capOne,cTrue,addD_i,subD_i,ltD_i,leD_i,gtD_i,geD_i,xorD_i,eqD_i,neD_i,Int.reduceToNat,Int.reducePow,isD_n,isnD_n,isNoneD,List.length_cons,List.length_nil,List.map_cons,List.map_nil,List.replicate,List.cons_append,List.nil_append,List.append_nil,List.getElem?_cons_zero,List.getElem?_cons_succ,List.set_cons_zero,List.set_cons_succ,Nat.reduceAdd,Nat.reduceSub,Nat.reduceLeDiff,Nat.reduceEqDiff,Bool.and_true,Bool.true_and,Bool.not_true,Bool.not_false,Bool.false_eq_true,↓reduceIte,if_true,if_false]))
namespace K02
open PySem L2 VM
noncomputable abbrev Pq:=Int × Int × Int × Int
noncomputable def pD (q : Pq) : PyData:=.tuple [.int q.1,.int q.2.1,.int q.2.2.1,.int q.2.2.2]
noncomputable def psD (ps : List Pq) : PyData:=.list (ps.map pD)
noncomputable def isRoom (m r : Int) : Bool:=decide (0≤r) && decide (r < m)
noncomputable def isPas (m : Int) (q : Pq) : Bool:=!decide (q.1 = q.2.1) && isRoom m q.1 && isRoom m q.2.1 && decide (1≤q.2.2.1) && decide (1≤q.2.2.2)
structure Good (m : Int) (ps : List Pq) (s g : Int) : Prop where
 two : 2≤m
 ne : s ≠ g
 rs : isRoom m s = true
 rg : isRoom m g = true
 all : ∀ q∈ps,isPas m q = true
theorem e_room (m r : Int) : m_is_room [.int m,.int r] = some (false,.bool (isRoom m r)):=by
 unfold m_is_room g_is_room isRoom
 walk_at "e0"
 by_cases h : 0≤r
 ·simp only [h,decide_true,bCh_t]; walk_at "e0"
 ·simp only [h,decide_false,bCh_f]; walk_at "e0"; simp
theorem e_pas (m : Int) (q : Pq) : m_is_passage [.int m,pD q] = some (false,.bool (isPas m q)):=by
 obtain ⟨a,b,w,l⟩:=q
 unfold m_is_passage g_is_passage pD isPas
 walk_at "e0"
 by_cases h : a = b
 ·simp only [h,decide_true]; walk_at "e0"; simp
 ·simp only [h,decide_false]
  walk_at "e0"
  simp only [e_room]
  walk_at "e0"
  cases h1 : isRoom m a
  ·walk_at "e0"; simp
  ·walk_at "e0"
   simp only [e_room]
   walk_at "e0"
   cases h2 : isRoom m b
   ·walk_at "e0"; simp
   ·walk_at "e0"
    by_cases h3 : 1≤w
    ·simp only [h3,decide_true]; walk_at "e0"
    ·simp only [h3,decide_false]; walk_at "e0"; simp
noncomputable def cellI (ns : List Int) (k : Int) : Int:=ns.getD k.toNat 0
theorem atI_ints {ns : List Int} {k : Int} (h0 : 0≤k) (h1 : k < ns.length) : atI (ns.map PyData.int) k = some (.int (cellI ns k)):=by
 obtain ⟨j,rfl⟩ : ∃ j : Nat,k = j:=⟨k.toNat,by omega⟩
 have hj : j < ns.length:=by omega
 refine atI_nat ?_
 simp [hj,cellI]
theorem e_cell {ns : List Int} {k : Int} (h0 : 0≤k) : m__law_cell_at [.list (ns.map .int),.int k] = some (false,.int (cellI ns k)):=by
 unfold m__law_cell_at g__law_cell_at
 walk_at "e0"
 simp only [List.length_map]
 by_cases h : k < ns.length
 ·simp only [h,decide_true]
  walk_at "e0"
  rw [atI_ints h0 h]
  walk_at "e0"
 ·simp only [h,decide_false]
  walk_at "e0"
  have e : cellI ns k = 0:=by
   unfold cellI
   rw [List.getD_eq_getElem?_getD,List.getElem?_eq_none (by omega)]
   rfl
  rw [e]
noncomputable def divN (n : Int) : Nat→Int
 | 0=>n
 | k + 1=>divN n k / 1000000000000
noncomputable def mixO (x k : Int) : Int:=((x * x + 16807 * x + k) % 2147483629) * ((x * x + 16807 * x + k) % 2147483629) % 2147483587
noncomputable def mixI (c k : Int) : Int:=if c % 2 = 0 then divN ((if c < 0 then -c else c) / 2) k.toNat else mixO ((c + 7919 * k) % 2147483629) k
theorem mod_in (a : Int) {b : Int} (h : 0 < b) : 0≤a % b∧a % b < b:=⟨Int.emod_nonneg a (by omega),Int.emod_lt_of_pos a h⟩
theorem e_mix {c k : Int} (h0 : 0≤k) (h1 : k≤100) : m__law_mixed [.int c,.int k] = some (false,.int (mixI c k)):=by
 unfold m__law_mixed g__law_mixed mixI
 walk_at "e0"
 simp only [modD_i (show (0 : Int) < 2 by decide),eqD_i]
 walk_at "e0"
 by_cases h : c % 2 = 0
 ·simp only [h,decide_true]
  walk_at "e0"
  simp only [divD_i (show (0 : Int) < 2 by decide) (by decide)]
  walk_at "e0"
  rw [if_pos (by omega)]
  walk_at "e0"
  have key:=forG_fun (t:=gN 3) (g:=gAs (v2 divD (vN 2) (v2 powD (vC (.int 10)) (vC (.int 12)))) (gN 2))
   (fun i=>[some (Tg.fr,.int c),some (Tg.fr,.int k),some (Tg.fr,.int (divN ((if c < 0 then -c else c) / 2) i)),if i = 0 then none else some (Tg.fr,.int ((i - 1 : Nat) : Int))]) (rangeD 0 k.toNat) 0 ?_
  ·simp only [divN,↓reduceIte,Nat.zero_add,rangeD_length] at key
   rw [key]
   walk_at "e0"
  ·intro j d hj
   obtain ⟨hj,rfl⟩:=rangeD_get hj
   refine ⟨[some (Tg.fr,.int c),some (Tg.fr,.int k),some (Tg.fr,.int (divN ((if c < 0 then -c else c) / 2) j)),some (Tg.fr,.int (j : Int))],?_,?_⟩
   ·cases j <;> (walk_at "e0"; simp <;> rfl)
   ·walk_at "e0"
    simp only [powD_i (show (0 : Int)≤12 by decide) (by decide) (show (0 : Int)≤10 by decide) (by decide)]
    walk_at "e0"
    simp only [divD_i (show (0 : Int) < 1000000000000 by decide) (by decide)]
    walk_at "e0"
    simp [divN]
 ·simp only [h,decide_false]
  walk_at "e0"
  rw [mulD_i (by decide) (by decide) (by omega) (by omega)]
  walk_at "e0"
  simp only [modD_i (show (0 : Int) < 2147483629 by decide)]
  walk_at "e0"
  have b:=mod_in (c + 7919 * k) (show (0 : Int) < 2147483629 by decide)
  generalize (c + 7919 * k) % 2147483629 = x at *
  rw [mulD_i (by omega) (by omega) (by omega) (by omega)]
  walk_at "e0"
  rw [mulD_i (by omega) (by omega) (by omega) (by omega)]
  walk_at "e0"
  simp only [modD_i (show (0 : Int) < 2147483629 by decide)]
  walk_at "e0"
  have b:=mod_in (x * x + 16807 * x + k) (show (0 : Int) < 2147483629 by decide)
  unfold mixO
  generalize (x * x + 16807 * x + k) % 2147483629 = y at *
  rw [mulD_i (by omega) (by omega) (by omega) (by omega)]
  walk_at "e0"
  simp only [modD_i (show (0 : Int) < 2147483587 by decide)]
  walk_at "e0"
noncomputable def greatI (c k : Int) : Int:=if mixI c k % 3 = 0 then 1 + c % 999999999999999999999999999999999999999999999999999999999999 else if mixI c k % 3 = 1 then 1 + mixI c k / 3 % 1000 else 1 + mixI c k / 3 % 4
theorem e_great {c k : Int} (h0 : 0≤k) (h1 : k≤100) : m__law_great [.int c,.int k] = some (false,.int (greatI c k)):=by
 unfold m__law_great g__law_great greatI
 walk_at "e0"
 simp only [e_mix h0 h1]
 walk_at "e0"
 simp only [modD_i (show (0 : Int) < 3 by decide),eqD_i]
 walk_at "e0"
 generalize mixI c k = n
 by_cases h : n % 3 = 0
 ·simp only [h,decide_true]
  walk_at "e0"
  simp only [powD_i (show (0 : Int)≤60 by decide) (by decide) (show (0 : Int)≤10 by decide) (by decide)]
  walk_at "e0"
  rw [modD_i (by decide)]
  walk_at "e0"
  rfl
 ·simp only [h,decide_false]
  walk_at "e0"
  simp only [modD_i (show (0 : Int) < 3 by decide),eqD_i]
  walk_at "e0"
  by_cases h2 : n % 3 = 1
  ·simp only [h2,decide_true]
   walk_at "e0"
   simp only [divD_i (show (0 : Int) < 3 by decide) (by decide)]
   walk_at "e0"
   simp only [modD_i (show (0 : Int) < 1000 by decide)]
   walk_at "e0"
  ·simp only [h2,decide_false]
   walk_at "e0"
   simp only [divD_i (show (0 : Int) < 3 by decide) (by decide)]
   walk_at "e0"
   simp only [modD_i (show (0 : Int) < 4 by decide)]
   walk_at "e0"
theorem greatI_pos (c k : Int) : 1≤greatI c k:=by
 unfold greatI
 have a:=mod_in c (show (0 : Int) < 999999999999999999999999999999999999999999999999999999999999 by decide)
 have b:=mod_in (mixI c k / 3) (show (0 : Int) < 1000 by decide)
 have d:=mod_in (mixI c k / 3) (show (0 : Int) < 4 by decide)
 split
 ·omega
 ·split <;> omega
noncomputable def passI (c m : Int) : Pq:=(mixI c 0 % m,(mixI c 0 % m + 1 + mixI c 0 / m % (m - 1)) % m,greatI c 1,greatI c 2)
theorem e_passage {c m : Int} (h2 : 2≤m) (h40 : m≤40) : m__law_passage [.int c,.int m] = some (false,pD (passI c m)):=by
 unfold m__law_passage g__law_passage passI
 walk_at "e0"
 simp only [e_mix (show (0 : Int)≤0 by decide) (by decide)]
 walk_at "e0"
 simp only [modD_i (show (0 : Int) < m by omega),divD_i (show (0 : Int) < m by omega) (by omega)]
 walk_at "e0"
 simp only [modD_i (show (0 : Int) < m by omega),divD_i (show (0 : Int) < m by omega) (by omega)]
 walk_at "e0"
 simp only [modD_i (show (0 : Int) < m - 1 by omega)]
 walk_at "e0"
 simp only [modD_i (show (0 : Int) < m by omega)]
 walk_at "e0"
 simp only [e_great (show (0 : Int)≤1 by decide) (by decide)]
 walk_at "e0"
 simp only [e_great (show (0 : Int)≤2 by decide) (by decide)]
 walk_at "e0"
 rfl
theorem mod_next {a d m : Int} (ha : 0≤a∧a < m) (hd : 1≤d∧d≤m - 1) : 0≤(a + d) % m∧(a + d) % m < m∧(a + d) % m ≠ a:=by
 have h1:=Int.emod_nonneg (a + d) (show m ≠ 0 by omega)
 have h2:=Int.emod_lt_of_pos (a + d) (show 0 < m by omega)
 refine ⟨h1,h2,?_⟩
 by_cases h : a + d < m
 ·rw [Int.emod_eq_of_lt (by omega) h]; omega
 ·have e : (a + d) % m = a + d - m:=by
   rw [← Int.emod_eq_of_lt (show 0≤a + d - m by omega) (show a + d - m < m by omega),Int.sub_emod_right]
  rw [e]; omega
theorem ends_ok {n m : Int} (h2 : 2≤m) : isRoom m (n % m) = true∧isRoom m ((n % m + 1 + n / m % (m - 1)) % m) = true∧n % m ≠ (n % m + 1 + n / m % (m - 1)) % m:=by
 have a:=mod_in n (show 0 < m by omega)
 have d:=mod_in (n / m) (show 0 < m - 1 by omega)
 have e : n % m + 1 + n / m % (m - 1) = n % m + (1 + n / m % (m - 1)):=by omega
 rw [e]
 have nx:=mod_next (a:=n % m) (d:=1 + n / m % (m - 1)) (m:=m) a (by omega)
 simp only [isRoom,Bool.and_eq_true,decide_eq_true_eq]
 exact ⟨a,⟨nx.1,nx.2.1⟩,fun z=>nx.2.2 z.symm⟩
theorem passI_ok {c m : Int} (h2 : 2≤m) : isPas m (passI c m) = true:=by
 obtain ⟨h1,h3,h4⟩:=ends_ok (n:=mixI c 0) h2
 have g1:=greatI_pos c 1
 have g2:=greatI_pos c 2
 unfold isPas passI
 simp only [h1,h3,h4,g1,g2,decide_true,decide_false,Bool.not_false,Bool.and_self]
noncomputable def menuI (i : Int) : Int:=if i = 0 then 2 else if i = 1 then 3 else if i = 2 then 4 else if i = 3 then 5 else if i = 4 then 6 else if i = 5 then 7 else if i = 6 then 8 else 40
theorem menu_at {n : Int} : atI [PyData.int 2,.int 3,.int 4,.int 5,.int 6,.int 7,.int 8,.int 40] (n % 8) = some (.int (menuI (n % 8)))∧2≤menuI (n % 8)∧menuI (n % 8)≤40:=by
 have h:=mod_in n (show (0 : Int) < 8 by decide)
 generalize n % 8 = i at *
 have : i = 0∨i = 1∨i = 2∨i = 3∨i = 4∨i = 5∨i = 6∨i = 7:=by omega
 rcases this with rfl | rfl | rfl | rfl | rfl | rfl | rfl | rfl <;> exact ⟨rfl,by decide,by decide⟩
theorem e_hall {ns : List Int} (hl : ns.length≤63) : ∃ m ps s g,m__law_hall [.list (ns.map .int)] = some (false,.tuple [.int m,psD ps,.int s,.int g])∧Good m ps s g∧m≤40∧ps.length≤63:=by
 unfold m__law_hall g__law_hall
 walk_at "e0"
 simp only [e_cell (show (0 : Int)≤0 by decide)]
 walk_at "e0"
 simp only [e_mix (show (0 : Int)≤0 by decide) (by decide)]
 walk_at "e0"
 generalize mixI (cellI ns 0) 0 = n
 simp only [modD_i (show (0 : Int) < 8 by decide)]
 walk_at "e0"
 obtain ⟨e,h2,h40⟩:=menu_at (n:=n)
 rw [e]
 generalize menuI (n % 8) = m at *
 walk_at "e0"
 simp only [divD_i (show (0 : Int) < 8 by decide) (by decide)]
 walk_at "e0"
 simp only [modD_i (show (0 : Int) < m by omega)]
 walk_at "e0"
 simp only [divD_i (show (0 : Int) < 8 by decide) (by decide)]
 walk_at "e0"
 simp only [divD_i (show (0 : Int) < m by omega) (by omega)]
 walk_at "e0"
 simp only [modD_i (show (0 : Int) < m - 1 by omega)]
 walk_at "e0"
 simp only [modD_i (show (0 : Int) < m by omega)]
 walk_at "e0"
 rw [cutD_map]
 obtain ⟨hs,hg,hne⟩:=ends_ok (n:=n / 8) h2
 generalize n / 8 % m = s at *
 generalize (s + 1 + n / 8 / m % (m - 1)) % m = g at *
 generalize hms : ((ns.drop (HT.sIx ns.length 0 (some 3))).take (HT.sIx ns.length ns.length (some 63) - HT.sIx ns.length 0 (some 3))) = ms
 have hml : ms.length≤63:=by rw [← hms,List.length_take,List.length_drop]; omega
 clear hms
 rw [bLC_s rfl (by rw [List.length_map]; exact size_big (by omega))]
 rw [lcD_map (f:=fun d=>match d with | .int c=>pD (passI c m) | _=>.none) (by
  intro d hd
  obtain ⟨c,hc,rfl⟩:=List.mem_map.mp hd
  refine ⟨[some (Tg.fr,.int c),some (Tg.fr,.int m)],?_,rfl,?_⟩
  ·walk_at "e0"
  ·walk_at "e0"
   simp only [e_passage h2 h40]
   walk_at "e0")]
 rw [List.map_map]
 have em : (ms.map ((fun d=>match d with | .int c=>pD (passI c m) | _=>PyData.none) ∘ PyData.int)) = (ms.map fun c=>passI c m).map pD:=by
  rw [List.map_map]; rfl
 rw [em]
 have hall : ∀ q∈ms.map fun c=>passI c m,isPas m q = true:=fun q hq=>by
  obtain ⟨c,_,rfl⟩:=List.mem_map.mp hq
  exact passI_ok h2
 have hpl : (ms.map fun c=>passI c m).length≤63:=by rw [List.length_map]; exact hml
 generalize (ms.map fun c=>passI c m) = ps at *
 walk_at "e0"
 simp only [List.length_map]
 have fin : ∀ ps' : List Pq,(∀ q∈ps',isPas m q = true)→Good m ps' s g:=fun ps' h=>⟨h2,hne,hs,hg,h⟩
 by_cases hb : 1 < (ps.length : Int)
 ·simp only [hb,decide_true]
  walk_at "e0"
  simp only [divD_i (show (0 : Int) < 40000 by decide) (by decide)]
  walk_at "e0"
  simp only [modD_i (show (0 : Int) < 3 by decide),eqD_i]
  walk_at "e0"
  by_cases hc : n / 40000 % 3 = 0
  ·simp only [hc,decide_true]
   walk_at "e0"
   obtain ⟨q,r,rfl⟩ : ∃ q r,ps = q :: r:=by
    cases ps with
    | nil=>simp at hb
    | cons q r=>exact ⟨q,r,rfl⟩
   walk_at "e0"
   rw [ixN_last (Nat.succ_pos _)]
   walk_at "e0"
   refine ⟨m,(q :: r).set ((List.map pD r).length + 1 - 1) q,s,g,?_,fin _ (fun q' hq'=>?_),h40,by rw [List.length_set]; exact hpl⟩
   ·unfold psD
    rw [List.map_set]
    rfl
   ·rcases List.mem_or_eq_of_mem_set hq' with z | z
    ·exact hall q' z
    ·rw [z]; exact hall q List.mem_cons_self
  ·simp only [hc,decide_false]
   walk_at "e0"
   exact ⟨m,ps,s,g,rfl,fin ps hall,h40,hpl⟩
 ·simp only [hb,decide_false]
  walk_at "e0"
  exact ⟨m,ps,s,g,rfl,fin ps hall,h40,hpl⟩
theorem depth_psD (ps : List Pq) : (psD ps).depth≤60:=by
 have key : ∀ ps : List Pq,PyData.depthAll (ps.map pD)≤2:=fun ps=>by
  induction ps with
  | nil=>simp [PyData.depthAll]
  | cons q ps ih =>
   have : (pD q).depth≤2:=by simp [pD,PyData.depth,PyData.depthAll]
   simp only [List.map_cons,PyData.depthAll]
   omega
 have:=key ps
 show PyData.depth (.list _)≤60
 simp only [PyData.depth]
 omega
theorem can_psD (ps : List Pq) : (psD ps).canLay0 = true:=by
 have key : ∀ ps : List Pq,PyData.canLayAll0 (ps.map pD) = true:=fun ps=>by
  induction ps with
  | nil=>rfl
  | cons q ps ih=>simp only [List.map_cons,PyData.canLayAll0,ih,Bool.and_true]; rfl
 show PyData.canLay0 (.list _) = true
 simp only [PyData.canLay0]
 exact key ps
theorem ne_psD (ps : List Pq) : neD (psD ps) (psD ps) = some (.bool false):=by
 unfold neD
 rw [if_pos (depth_psD ps),SeqAt.eqv_refl _ (can_psD ps)]
 rfl
end K02
set_option hygiene false in
local macro_rules | `(tactic| walk_at "e1")=>`(tactic| (try simp only [fnM_eq,ob_some,ob_none,bFn_r,bFn_n,ini,gSeq_eq,bSeq_n,bSeq_r,bSeq_b,bSeq_c,gIf_eq,bIf_t,bIf_f,tAnd_eq,bAnd_t,bAnd_f,tOr_eq,bOr_t,bOr_f,tNot2,vAnd_eq,bAndE_t,bAndE_f,vOr_eq,bOrE_t,bOrE_f,vIf_eq,bIfE_t,bIfE_f,v2_eq,b2_s,b1_s,v1_eq,aC_eq,bC_s,bC1_s,a0,gAs_eq,bAs_s,bNx_s,gC_eq,bG_s,g0,vCall_eq,bCall_s,vCallN_eq,bCallN_s,vCallW_eq,bCallW_s,bResW_s,vCallWN_eq,bCallWN_s,bResWN_s,bIm_t,vImm_eq,bImm_s,bRes_s,bResN_s,vCh_eq,bCh_t,bCh_f,atI_0,atI_1,atI_2,atI_3,gFor_eq,bFor_s,gRet,gRetN,gRetO,gEx,gN,gT,gOw_eq,gOwF_eq,bOw_s,vLC_eq,vLCW_eq,bL_s,gFz,frz,gApp,gPut,gAug,gAugI,gNop,gFail,gClr,gPop,gRv,gIns,gPopAt,vSetLen,ownL,noIo_eq,nio_ob,nio_n,nio_fr,nio_ow,vN,vF,vC,vB,vTru,truD,vNot,imm,immL,ixDt,oN,oI,vSlL,vSlT,vRev,negD,vTup,vLst,vCB,lenD,absD,min2D,max2D,int1D,vIsi,isi_list,isi_int,isi_bool_i,isi_tuple,vListOf,immR,vItems,vItemsT,vRng1,vRng2,vEnum,vZip,capFr,capG,capOne,cTrue,addD_i,subD_i,ltD_i,leD_i,gtD_i,geD_i,xorD_i,eqD_i,neD_i,Int.reduceToNat,Int.reducePow,isD_n,isnD_n,isNoneD,List.length_cons,List.length_nil,List.map_cons,List.map_nil,List.replicate,List.cons_append,List.nil_append,List.append_nil,List.getElem?_cons_zero,List.getElem?_cons_succ,List.set_cons_zero,List.set_cons_succ,Nat.reduceAdd,Nat.reduceSub,Nat.reduceLeDiff,Nat.reduceEqDiff,Bool.and_true,Bool.true_and,Bool.not_true,Bool.not_false,Bool.false_eq_true,↓reduceIte,if_true,if_false]))
namespace K02
open PySem PySem.Spec PyProof.Rows L2 VM EX
set_option maxHeartbeats 4000000
noncomputable abbrev ini0 : Stmt:=inClass (top 2) 0
section
variable {P : Program} {w : World} {K : PySem.W.Frag} {mg : Str→Option Value} {base : Heap} {C D : Addr}
structure Cls2 (K : PySem.W.Frag) (mg : Str→Option Value) (C D f0 : Addr) : Prop where
 xc : XC K C D
 xd : XD K D
 xi : XI K C
 ini : PySem.W.findIn K (.ref C) "__init__" = some (some (.ref f0))
 fn : PySem.W.isFn K (.ref f0) = true
 kp : PySem.W.keepIn K (.ref C) = true
 sa : PySem.W.findIn K (.ref C) "__setattr__" = some (some (.builtin "object.__setattr__"))
 pl : PySem.W.findIn K (.ref C) "place" = some none
 gC : mg "NoHall" = some (.ref C)
 gD : mg "HallError" = some (.ref D)
 cc : PySem.W.mroIn K C (.ref C) = some true
 cd : PySem.W.mroIn K C (.ref D) = some true
 bC : PySem.W.mroIn K C (.type "BaseException") = some true
 bD : PySem.W.mroIn K D (.type "BaseException") = some true
 tC : PySem.W.typeIn K (.ref C) = some (.type "type")
 tD : PySem.W.typeIn K (.ref D) = some (.type "type")
noncomputable def PlaceV (v : V) : Prop:=v = .non∨∃ n : Int,v = .int n∧0≤n∧n < 100
noncomputable def spInit (C : Addr) : Sp:=fun vs H Q _=>∃ e v,vs = [.ref e,v]∧PlaceV v∧H e = some (IsE e C none .none)∧∀ dx,H dx = none→Q .non (upd (upd H dx (.xd [("place",v)])) e (IsE e C (some dx) .none))
theorem sc_init : FnScope ["self","place"] ["self","place"] (defScope ini0):=⟨rfl,rfl,rfl,by decide +kernel,rfl,by decide +kernel,by decide +kernel⟩
theorem fmt_small : ∀ n : Nat,n < 100→(n : Int).natAbs.log2 < 1920∧(Str.empty ++ "passage " ++ toString (n : Int)).length≤sizeLine∧(Str.empty ++ "passage " ++ toString (n : Int) ++ " is wrong").length≤sizeLine:=by decide +kernel
theorem ok_init {f0 : Addr} {fd : FuncData} (F : FunD K "__init__" "NoHall.__init__" ini0 f0 fd) (c : Cls2 K mg C D f0) : FnOk P w K mg base CX0 1 f0 fd ["self","place"] (spInit C):=by
 have vt:=(show (["self","place"] : List Str).all (fun x=>visB (defScope ini0) x && plain x) = true by decide +kernel)
 refine FunD.ok (k:=0) F sc_init (fun vs H Q E h=>by obtain ⟨_,_,rfl,_⟩:=h; rfl) fun cdv A outer s H vs Q E hr hsp=>?_
 obtain ⟨e,v,rfl,hv,hE,hq⟩:=hsp
 refine ⟨_,pss_cons (ps_if (pt_cmp (pc_isN (pV vt 1))) (pss_one (ps_expr (pe_base c.xc c.xd (gl (sc:=defScope ini0) (by decide +kernel)) c.gD (pa_cons (pV vt 0) (pa_cons pe_str pa_nil)))))
  (pss_one (ps_expr (pe_base c.xc c.xd (gl (sc:=defScope ini0) (by decide +kernel)) c.gD (pa_cons (pV vt 0) (pa_cons (pe_fmt (pV vt 1)) pa_nil))))))
  (pss_one (ps_put c.xc c.sa c.pl (pV vt 0) (pV vt 1) rfl)),?_⟩
 have fin : sPut C (vR 0) (vR 1) "place" { nx:=fun _ H'=>Q .non H',rt:=Q } [some (.ref e),some v] H:=by
  refine vR_at (v:=v) rfl (vR_at (v:=.ref e) rfl ⟨e,.none,rfl,hE,fun dx hd=>hq dx hd⟩)
 rcases hv with rfl | ⟨n,rfl,h0,h1⟩
 ·unfold tSeq tIfS tB tIsN
  refine vR_at (v:=.non) rfl ⟨true,by simp,?_⟩
  dsimp only
  rw [if_pos rfl]
  unfold tDrop tBase tCons tNil
  exact vR_at (v:=.ref e) rfl ⟨e,.str "this is no hall",none,.none,rfl,hE,fin⟩
 ·unfold tSeq tIfS tB tIsN
  refine vR_at (v:=.int n) rfl ⟨false,by simp,?_⟩
  dsimp only
  rw [if_neg (by decide)]
  unfold tDrop tBase tCons tNil tFmt
  obtain ⟨k,rfl⟩:=Int.eq_ofNat_of_zero_le h0
  obtain ⟨z1,z2,z3⟩:=fmt_small k (by omega)
  refine vR_at (v:=.ref e) rfl (vR_at (v:=.int k) rfl ⟨k,rfl,z1,z2,z3,fun y=>⟨e,.str y,none,.none,rfl,hE,fin⟩⟩)
noncomputable def badHall (m s g : Int) : Bool:=decide (m < 2) || decide (s = g) || !isRoom m s || !isRoom m g
noncomputable def verdict (m : Int) (ps : List Pq) (s g : Int) : Option (Option Nat):=if badHall m s g = true then some none else (ps.findIdx? fun q=>!isPas m q).map some
noncomputable def plV : Option Nat→V
 | none=>.non
 | some i=>.int (i : Int)
structure Exc (H : Hp) (C e dx : Addr) (v : V) : Prop where
 at_ : ∃ tb,H e = some (IsE e C (some dx) tb)
 dct : H dx = some (.xd [("place",v)])
noncomputable def spLook (K : PySem.W.Frag) (C : Addr) : Sp:=fun vs H Q E=>∃ m ps s g,HasL K H [.int m,psD ps,.int s,.int g] vs∧ps.length≤63∧match verdict m ps s g with
 | none=>∀ H',Same H H'→Q .non H'
 | some pl=>∀ e dx H',Same H H'→H e = none→H dx = none→Exc H' C e dx (plV pl)→E (.ref e) (some dx) H'
theorem sc_look : FnScope ["many","passages","start","goal","number","passage"] ["many","passages","start","goal"] (defScope (top 10)):=⟨rfl,rfl,rfl,by decide +kernel,rfl,by decide +kernel,by decide +kernel⟩
theorem rd_raise {te : TE} {E : XK} {D' : Ends} {σ : L2.St} {H0 H : Hp} {f0 : Addr} (c : Cls2 K mg C D f0) {v : V} (hv : PlaceV v) (sm : Same H0 H) (ht : ∀ R : VK,R v H→te σ H R) (q : ∀ e dx H',Same H0 H'→H0 e = none→H0 dx = none→Exc H' C e dx v→E (.ref e) (some dx) H') :
  tRaise K E (tMk C (spInit C) (tCons te tNil)) D' σ H:=by
 unfold tRaise tMk tCons tNil
 refine ht _ ⟨by show 1≤sizeLine; decide,fun e he=>⟨e,v,rfl,hv,upd_same,fun dx hd=>⟨rfl,e,C,D,some dx,rfl,c.xc,upd_same,fun T=>?_⟩⟩⟩
 have hde : dx ≠ e:=fun z=>by subst z; rw [upd_same] at hd; cases hd
 rw [upd_ne hde] at hd
 refine q e dx _ (fun b o z=>?_) (sm.free he) (sm.free hd) ⟨⟨_,upd_same⟩,by rw [upd_ne hde,upd_ne hde,upd_same]⟩
 have z1:=sm b o z
 have nb : b ≠ e:=fun y=>by subst y; rw [he] at z1; cases z1
 have nd : b ≠ dx:=fun y=>by subst y; rw [hd] at z1; cases z1
 rw [upd_ne nb,upd_ne nb,upd_ne nd,upd_ne nb]
 exact z1
theorem ok_look {f f0 : Addr} {fd fd0 : FuncData} (F : Fun K "look_at_hall" "look_at_hall" (top 10) f fd) (B : Bl mg) (KT : Kits K) (c : Cls2 K mg C D f0) (F0 : FnOk P w K mg base CX0 1 f0 fd0 ["self","place"] (spInit C)) (b0 : Binds K fd0 ["self","place"] [])
  (Cis_room : Cal P w K mg base 1 "is_room" ["many","room"] (spV K m_is_room)) (Cis_passage : Cal P w K mg base 2 "is_passage" ["many","passage"] (spV K m_is_passage)) : FnOk P w K mg base (CXE P w) 3 f fd ["many","passages","start","goal"] (spLook K C):=by
 have nd:=sc_look.nd
 have vt:=(show (["many","passages","start","goal","number","passage"] : List Str).all (fun x=>visB (defScope (top 10)) x && plain x) = true by decide +kernel)
 refine okE (k:=2) F sc_look (fun vs H Q E h=>by
  obtain ⟨m,ps,s,g,hl,_⟩:=h
  exact hl.length.symm) fun cdv A outer s H vs Q E hr hsp=>?_
 refine ⟨_,pss_cons (ps_if (PW.pt (wOr (cCmp oLt hLt (mw (dN (pV vt 0))) (sw dInt)) (wOr (cCmp (op_eqD hr.units) hEq (mw (dN (pV vt 2))) (mw (dN (pV vt 3)))) (wOr (cNot (cVal (dCal (peCal Cis_room (hr.mono (by decide)) (gl (sc:=(defScope (top 10))) (by decide +kernel)) (paC (dF (pV vt 0)) (paC (dF (pV vt 2)) pa0)))))) (wOr1 (cNot (cVal (dCal (peCal Cis_room (hr.mono (by decide)) (gl (sc:=(defScope (top 10))) (by decide +kernel)) (paC (dF (pV vt 0)) (paC (dF (pV vt 3)) pa0)))))))))))
   (pss_one (ps_raise (pe_mk c.xc c.ini c.fn c.kp F0 hr b0 (gl (sc:=(defScope (top 10))) (by decide +kernel)) c.gC (pa_cons pe_non pa_nil)))) pss_nil)
  (pss_one (ps_for PassesOwn.leaving rfl (itE (pi_enum (gl (sc:=(defScope (top 10))) (by decide +kernel)) B.enumerate (paC (dF (pV vt 1)) pa0))) (pgTup (n:=2) rfl (pgsCons (pg_name (i:=4) nd rfl (lo (sc:=(defScope (top 10))) (by decide +kernel))) (pgsCons (pg_name (i:=5) nd rfl (lo (sc:=(defScope (top 10))) (by decide +kernel))) pgsNil)))
   (pss_one (ps_if (cNot (cVal (dCal (peCal Cis_passage (hr.mono (by decide)) (gl (sc:=(defScope (top 10))) (by decide +kernel)) (paC (dF (pV vt 0)) (paC (dF (pV vt 5)) pa0))))))
    (pss_one (ps_raise (pe_mk c.xc c.ini c.fn c.kp F0 hr b0 (gl (sc:=(defScope (top 10))) (by decide +kernel)) c.gC (pa_cons (pV vt 4) pa_nil)))) pss_nil)))),?_⟩
 obtain ⟨m,ps,st,go,hl,hz,hq⟩:=hsp
 obtain ⟨v0,r0,rfl,a0',hl⟩:=hl
 obtain ⟨v1,r1,rfl,a1,hl⟩:=hl
 obtain ⟨v2,r2,rfl,a2,hl⟩:=hl
 obtain ⟨v3,r3,rfl,a3,hl⟩:=hl
 cases hl
 unfold tSeq tIfS
 have fr : FrAt K H [some (Tg.fr,.int m),some (Tg.fr,psD ps),some (Tg.fr,.int st),some (Tg.fr,.int go),none,none] [some v0,some v1,some v2,some v3,none,none] :=
  ⟨v0,_,rfl,rfl,a0',v1,_,rfl,rfl,a1,v2,_,rfl,rfl,a2,v3,_,rfl,rfl,a3,none,_,rfl,none,_,rfl,rfl⟩
 refine tVT_at (b:=badHall m st go) fr ?_ fun H1 s1=>?_
 ·unfold badHall
  walk_at "e1"
  by_cases h1 : m < 2
  ·simp only [h1,decide_true,Bool.true_or]
   walk_at "e1"
  simp only [h1,decide_false,Bool.false_or]
  walk_at "e1"
  by_cases h2 : st = go
  ·simp only [h2,decide_true,Bool.true_or]
   walk_at "e1"
  simp only [h2,decide_false,Bool.false_or]
  walk_at "e1"
  simp only [e_room]
  walk_at "e1"
  cases h3 : isRoom m st
  ·simp only [h3,Bool.not_false,Bool.true_or]
   walk_at "e1"
  simp only [h3,Bool.not_true,Bool.false_or]
  walk_at "e1"
  simp only [e_room]
  walk_at "e1"
 unfold verdict at hq
 cases hb : badHall m st go
 ·rw [hb,if_neg (by decide)] at hq
  dsimp only
  rw [if_neg (by decide)]
  unfold tNext
  dsimp only
  rw [tFor_eq]
  have fr1:=fr.grow s1
  refine tVI_at (ds:=enumD 0 (ps.map pD)) fr1 ?_ fun J F' H2 s2 f2 hJ=>?_
  ·unfold psD
   walk_at "e1"
  have s12:=s1.trans s2
  refine forV hJ (fun i σ' H'=>(∃ x y,σ' = [some v0,some v1,some v2,some v3,x,y])∧Same H2 H'∧∀ j q,j < i→ps[j]? = some q→isPas m q = true) ⟨⟨none,none,rfl⟩,Same.refl _,fun j q z=>absurd z (Nat.not_lt_zero _)⟩ (fun i σ' H' p=>f2.trans p.2.1) ?_ ?_
  ·rintro i d σ' H' x H3 hd ⟨⟨x0,y0,rfl⟩,s3,hall⟩ s4 hx
   rw [enumD_get,List.getElem?_map] at hd
   cases eq : ps[i]? with
   | none=>rw [eq] at hd; cases hd
   | some q =>
    rw [eq] at hd
    cases hd
    obtain ⟨a,xs,rfl,hsq,w0,r0,rfl,b0',w1,r1,rfl,b1,hnil⟩:=hx
    cases hnil
    have s123:=(s12.trans s3).trans s4
    refine ⟨[w0,w1],hsq,rfl,?_⟩
    have fr3 : FrAt K H3 [some (Tg.fr,.int m),some (Tg.fr,psD ps),some (Tg.fr,.int st),some (Tg.fr,.int go),some (Tg.fr,.int ((0 + i : Nat) : Int)),some (Tg.fr,pD q)] [some v0,some v1,some v2,some v3,some w0,some w1] :=
     ⟨v0,_,rfl,rfl,Has.same s123 a0',v1,_,rfl,rfl,Has.same s123 a1,v2,_,rfl,rfl,Has.same s123 a2,v3,_,rfl,rfl,Has.same s123 a3,w0,_,rfl,rfl,b0',w1,_,rfl,rfl,b1,rfl⟩
    show tVT K _ [some v0,some v1,some v2,some v3,some w0,some w1] H3 _
    refine tVT_at (b:=!isPas m q) fr3 ?_ fun H4 s5=>?_
    ·walk_at "e1"
     simp only [e_pas]
     walk_at "e1"
    have ew : w0 = .int (i : Int):=by
     have z : w0 = .int ((0 + i : Nat) : Int):=b0'
     rw [z,Nat.zero_add]
    subst ew
    have hlt : i < ps.length:=(List.getElem?_eq_some_iff.mp eq).1
    cases hp : isPas m q
    ·show (if true = true then _ else _)
     rw [if_pos rfl]
     refine rd_raise c (v:=.int (i : Int)) (.inr ⟨i,rfl,by omega,by omega⟩) (s123.trans s5) (fun R r=>vR_at (v:=.int (i : Int)) rfl r) ?_
     have fi : ps.findIdx? (fun q=>!isPas m q) = some i:=by
      rw [List.findIdx?_eq_some_iff_getElem]
      refine ⟨hlt,?_,fun j hj=>?_⟩
      ·rw [(List.getElem?_eq_some_iff.mp eq).2,hp]; rfl
      ·rw [hall j _ hj (List.getElem?_eq_getElem (by omega))]; decide
     rw [fi] at hq
     exact hq
    ·show (if false = true then _ else _)
     rw [if_neg (by decide)]
     refine ⟨⟨_,_,rfl⟩,(s3.trans s4).trans s5,fun j q' hj e'=>?_⟩
     by_cases hji : j = i
     ·subst hji; rw [eq] at e'; cases e'; exact hp
     ·exact hall j q' (by omega) e'
  ·rintro σ' H' ⟨_,s3,hall⟩
   have fi : ps.findIdx? (fun q=>!isPas m q) = none:=by
    rw [List.findIdx?_eq_none_iff]
    intro q hq'
    obtain ⟨j,hj⟩:=List.getElem?_of_mem hq'
    rw [hall j q (by rw [enumD_length,List.length_map]; exact (List.getElem?_eq_some_iff.mp hj).1) hj]; rfl
   rw [fi] at hq
   exact hq H' (s12.trans s3)
 ·rw [hb,if_pos rfl] at hq
  dsimp only
  rw [if_pos rfl]
  exact rd_raise c (v:=.non) (.inl rfl) s1 (fun R r=>r) hq
end
end K02
namespace K02
open PySem PySem.Spec PyProof.Rows L2 VM EX
set_option maxHeartbeats 4000000
section
variable {P : Program} {w : World} {K : PySem.W.Frag} {mg : Str→Option Value} {base : Heap} {C D : Addr}
noncomputable def spCaught (K : PySem.W.Frag) (C : Addr) : Sp:=fun vs H Q _=>∃ m ps s g,HasL K H [.int m,psD ps,.int s,.int g] vs∧ps.length≤63∧match verdict m ps s g with
 | none=>∀ H',Same H H'→Q .non H'
 | some pl=>∀ e dx H',Same H H'→Exc H' C e dx (plV pl)→Q (.ref e) H'
theorem Exc.upd {H : Hp} {e dx : Addr} {v : V} {T : Value} (h : Exc H C e dx v) : Exc (upd H e (IsE e C (some dx) T)) C e dx v∧dx ≠ e:=by
 obtain ⟨⟨tb,h1⟩,h2⟩:=h
 have ne : dx ≠ e:=fun z=>by rw [z,h1] at h2; cases h2
 exact ⟨⟨⟨_,upd_same⟩,by rw [upd_ne ne]; exact h2⟩,ne⟩
theorem sc_caught : FnScope ["_law_many","_law_passages","_law_start","_law_goal","_law_caught_here","e"] ["_law_many","_law_passages","_law_start","_law_goal"] (defScope (top 24)):=⟨rfl,rfl,rfl,by decide +kernel,rfl,by decide +kernel,by decide +kernel⟩
theorem ok_caught {f f0 f1 : Addr} {fd fd1 : FuncData} (F : Fun K "_law_caught" "_law_caught" (top 24) f fd) (c : Cls2 K mg C D f0) (F1 : FnOk P w K mg base (CXE P w) 3 f1 fd1 ["many","passages","start","goal"] (spLook K C)) (g1 : mg "look_at_hall" = some (.ref f1)) (k1 : PySem.W.keepIn K (.ref f1) = true) (b1 : Binds K fd1 ["many","passages","start","goal"] []) :
  FnOk P w K mg base CX0 4 f fd ["_law_many","_law_passages","_law_start","_law_goal"] (spCaught K C):=by
 have nd:=sc_caught.nd
 have vt:=(show (["_law_many","_law_passages","_law_start","_law_goal","_law_caught_here","e"] : List Str).all (fun x=>visB (defScope (top 24)) x && plain x) = true by decide +kernel)
 refine Fun.ok (k:=3) F sc_caught (fun vs H Q E h=>by
  obtain ⟨m,ps,s,g,hl,_⟩:=h
  exact hl.length.symm) fun cdv A outer s H vs Q E hr hsp=>?_
 refine ⟨_,pss_cons (ps_set (i:=4) nd rfl (lo (sc:=defScope (top 24)) (by decide +kernel)) pe_non)
  (pss_cons (ps_try (i:=5) F1 hr (gl (sc:=defScope (top 24)) (by decide +kernel)) g1 k1 b1 (paC (dF (pV vt 0)) (paC (dF (pV vt 1)) (paC (dF (pV vt 2)) (paC (dF (pV vt 3)) pa0)))) rfl rfl (gl (sc:=defScope (top 24)) (by decide +kernel)) c.gD c.bD c.tD nd rfl (show (defScope (top 24)).names.lookup ("e" : Str) = some .local by decide +kernel)
   (fun _=>pss_one (ps_set (i:=4) nd rfl (lo (sc:=defScope (top 24)) (by decide +kernel)) (pV vt 5))))
  (pss_one (ps_ret (pV vt 4)))),?_⟩
 obtain ⟨m,ps,st,go,hl,hz,hq⟩:=hsp
 obtain ⟨v0,r0,rfl,a0',hl⟩:=hl
 obtain ⟨v1,r1,rfl,a1,hl⟩:=hl
 obtain ⟨v2,r2,rfl,a2,hl⟩:=hl
 obtain ⟨v3,r3,rfl,a3,hl⟩:=hl
 cases hl
 unfold tSeq tAsg tC gName tTry tRet
 have fr : FrAt K H [some (Tg.fr,.int m),some (Tg.fr,psD ps),some (Tg.fr,.int st),some (Tg.fr,.int go),none,none] [some v0,some v1,some v2,some v3,some .non,none] :=
  ⟨v0,_,rfl,rfl,a0',v1,_,rfl,rfl,a1,v2,_,rfl,rfl,a2,v3,_,rfl,rfl,a3,some .non,_,rfl,none,_,rfl,rfl⟩
 refine tVA_at (ds:=[.int m,psD ps,.int st,.int go]) fr rfl fun vs H1 s1 hl=>⟨m,ps,st,go,hl,hz,?_⟩
 cases hv : verdict m ps st go with
 | none =>
  rw [hv] at hq
  exact fun H' s2=>show vR 4 [some v0,some v1,some v2,some v3,some .non,none] H' Q from vR_at (v:=.non) rfl (hq H' (s1.trans s2))
 | some pl =>
  rw [hv] at hq
  intro e dx H' s2 n1 n2 ex
  obtain ⟨tb,h1⟩:=ex.at_
  refine ⟨e,C,tb,rfl,h1,c.cd,fun T=>vR_at (v:=.ref e) rfl (show vR 4 [some v0,some v1,some v2,some v3,some (.ref e),none] (upd H' e (IsE e C (some dx) (.ref T))) Q from vR_at (v:=.ref e) rfl (hq e dx _ (fun b o z=>?_) ex.upd.1))⟩
  rw [upd_ne fun y=>by subst y; rw [s1 _ _ z] at n1; cases n1]
  exact s2 _ _ (s1 _ _ z)
noncomputable def suiteOf : Stmt→List Stmt
 | .Try _ [.ExceptHandler _ _ b _] _ _ _=>b
 | _=>[]
noncomputable def placeV : Option (Option Nat)→V
 | none=>.int (-1)
 | some pl=>plV pl
noncomputable def spPlace (K : PySem.W.Frag) : Sp:=fun vs H Q _=>∃ m ps s g,HasL K H [.int m,psD ps,.int s,.int g] vs∧ps.length≤63∧∀ H',Same H H'→Q (placeV (verdict m ps s g)) H'
theorem sc_place : FnScope ["_law_many","_law_passages","_law_start","_law_goal","_law_place_here","e"] ["_law_many","_law_passages","_law_start","_law_goal"] (defScope (top 25)):=⟨rfl,rfl,rfl,by decide +kernel,rfl,by decide +kernel,by decide +kernel⟩
theorem ok_place {f f0 f1 : Addr} {fd fd1 : FuncData} (F : Fun K "_law_place" "_law_place" (top 25) f fd) (c : Cls2 K mg C D f0) (F1 : FnOk P w K mg base (CXE P w) 3 f1 fd1 ["many","passages","start","goal"] (spLook K C)) (g1 : mg "look_at_hall" = some (.ref f1)) (k1 : PySem.W.keepIn K (.ref f1) = true) (b1 : Binds K fd1 ["many","passages","start","goal"] []) :
  FnOk P w K mg base CX0 4 f fd ["_law_many","_law_passages","_law_start","_law_goal"] (spPlace K):=by
 have nd:=sc_place.nd
 have vt:=(show (["_law_many","_law_passages","_law_start","_law_goal","_law_place_here","e"] : List Str).all (fun x=>visB (defScope (top 25)) x && plain x) = true by decide +kernel)
 refine Fun.ok (k:=3) F sc_place (fun vs H Q E h=>by
  obtain ⟨m,ps,s,g,hl,_⟩:=h
  exact hl.length.symm) fun cdv A outer s H vs Q E hr hsp=>?_
 have hS : ∀ e,PSs (inX (cxOf CX0 P w K mg base ["_law_many","_law_passages","_law_start","_law_goal","_law_place_here","e"] "_law_place" (defScope (top 25)) f cdv A outer s H E).nox e) (suiteOf ((defBody (top 25)).getD 1 (.Pass ⟨0,0,0,0⟩))) (tAsg (tGetE K (vR 5) "place") (gName 4)):=fun _ =>
  pss_one (ps_set (i:=4) nd rfl (lo (sc:=defScope (top 25)) (by decide +kernel)) (pe_getE (pV vt 5)))
 refine ⟨_,pss_cons (ps_set (i:=4) nd rfl (lo (sc:=defScope (top 25)) (by decide +kernel)) (pe_un un_neg pe_int))
  (pss_cons (ps_try (i:=5) F1 hr (gl (sc:=defScope (top 25)) (by decide +kernel)) g1 k1 b1 (paC (dF (pV vt 0)) (paC (dF (pV vt 1)) (paC (dF (pV vt 2)) (paC (dF (pV vt 3)) pa0)))) rfl rfl (gl (sc:=defScope (top 25)) (by decide +kernel)) c.gC c.bC c.tC nd rfl (show (defScope (top 25)).names.lookup ("e" : Str) = some .local by decide +kernel)
   hS)
  (pss_one (ps_ret (pV vt 4)))),?_⟩
 obtain ⟨m,ps,st,go,hl,hz,hq⟩:=hsp
 obtain ⟨v0,r0,rfl,a0',hl⟩:=hl
 obtain ⟨v1,r1,rfl,a1,hl⟩:=hl
 obtain ⟨v2,r2,rfl,a2,hl⟩:=hl
 obtain ⟨v3,r3,rfl,a3,hl⟩:=hl
 cases hl
 unfold tSeq tAsg tUn tC gName tTry tRet tGetE
 refine ⟨1,rfl,?_⟩
 have fr : FrAt K H [some (Tg.fr,.int m),some (Tg.fr,psD ps),some (Tg.fr,.int st),some (Tg.fr,.int go),none,none] [some v0,some v1,some v2,some v3,some (.int (-1)),none] :=
  ⟨v0,_,rfl,rfl,a0',v1,_,rfl,rfl,a1,v2,_,rfl,rfl,a2,v3,_,rfl,rfl,a3,some (.int (-1)),_,rfl,none,_,rfl,rfl⟩
 refine tVA_at (ds:=[.int m,psD ps,.int st,.int go]) fr rfl fun vs H1 s1 hl=>⟨m,ps,st,go,hl,hz,?_⟩
 cases hv : verdict m ps st go with
 | none =>
  rw [hv] at hq
  exact fun H' s2=>show vR 4 [some v0,some v1,some v2,some v3,some (.int (-1)),none] H' Q from vR_at (v:=.int (-1)) rfl (hq H' (s1.trans s2))
 | some pl =>
  rw [hv] at hq
  intro e dx H' s2 n1 n2 ex
  obtain ⟨tb,h1⟩:=ex.at_
  refine ⟨e,C,tb,rfl,h1,c.cc,fun T=>vR_at (v:=.ref e) rfl ⟨e,C,dx,.ref T,[("place",plV pl)],plV pl,rfl,upd_same,ex.upd.1.dct,c.xi.toXR,c.pl,rfl,show vR 4 [some v0,some v1,some v2,some v3,some (plV pl),none] (upd H' e (IsE e C (some dx) (.ref T))) Q from vR_at (v:=plV pl) rfl (hq _ (fun b o z=>?_))⟩⟩
  rw [upd_ne fun y=>by subst y; rw [s1 _ _ z] at n1; cases n1]
  exact s2 _ _ (s1 _ _ z)
end
end K02
namespace K02
open PySem PySem.Spec PyProof.Rows L2 VM EX
set_option maxHeartbeats 4000000
section
variable {P : Program} {w : World} {K : PySem.W.Frag} {mg : Str→Option Value} {base : Heap} {C D : Addr}
structure Cls7 (K : PySem.W.Frag) (mg : Str→Option Value) (C : Addr) : Prop where
 o1 : ∃ a,mg "NoName" = some (.ref a)∧PySem.W.kitOne K (.ref C) (.ref a) = some false
 o2 : ∃ a,mg "Twice" = some (.ref a)∧PySem.W.kitOne K (.ref C) (.ref a) = some false
 o3 : ∃ a,mg "TooMany" = some (.ref a)∧PySem.W.kitOne K (.ref C) (.ref a) = some false
 o4 : ∃ a,mg "NoPassage" = some (.ref a)∧PySem.W.kitOne K (.ref C) (.ref a) = some false
 o5 : ∃ a,mg "NoWidth" = some (.ref a)∧PySem.W.kitOne K (.ref C) (.ref a) = some false
 o6 : ∃ a,mg "NoLine" = some (.ref a)∧PySem.W.kitOne K (.ref C) (.ref a) = some false
 o0 : PySem.W.kitOne K (.ref C) (.ref C) = some true
 ov : PySem.W.kitOne K (.ref C) (.type "ValueError") = some true
 nv : mg "ValueError" = none
noncomputable def spIs (C : Addr) : Sp:=fun vs H Q _=>∃ e dx v,vs = [.ref e,.int 0]∧Exc H C e dx v∧∀ H',Same H H'→Q (.bl true) H'
theorem sc_is : FnScope ["_law_caught_here","_law_at","_law_told"] ["_law_caught_here","_law_at"] (defScope (top 20)):=⟨rfl,rfl,rfl,by decide +kernel,rfl,by decide +kernel,by decide +kernel⟩
theorem Exc.grow {H H' : Hp} {e dx : Addr} {v : V} (h : Exc H C e dx v) (k : Same H H') : Exc H' C e dx v:=let ⟨⟨tb,a⟩,b⟩:=h; ⟨⟨tb,k _ _ a⟩,k _ _ b⟩
theorem rdIs {te : TE} {σ : L2.St} {H : Hp} {Q : VK} {e dx a : Addr} {v : V} {b : Bool} (ht : ∀ R : VK,R (.ref e) H→te σ H R) (x : Exc H C e dx v) (xi : XI K C) (hk : PySem.W.kitOne K (.ref C) (.ref a) = some b) (q : Q (.bl b) H) :
  tCB (rIsE K) (tCons te (tCons (tC (.ref a)) tNil)) σ H Q:=by
 unfold tCB tCons tNil tC
 obtain ⟨tb,h1⟩:=x.at_
 exact ht _ ⟨e,C,dx,tb,_,.ref a,.ref a,b,rfl,fun u r=>r,h1,x.dct,xi,hk,q⟩
theorem ok_is {f f0 : Addr} {fd : FuncData} (F : Fun K "_law_is" "_law_is" (top 20) f fd) (B : Bl mg) (KT : Kits K) (c : Cls2 K mg C D f0) (o : Cls7 K mg C) : FnOk P w K mg base CX0 2 f fd ["_law_caught_here","_law_at"] (spIs C):=by
 have nd:=sc_is.nd
 have vt:=(show (["_law_caught_here","_law_at","_law_told"] : List Str).all (fun x=>visB (defScope (top 20)) x && plain x) = true by decide +kernel)
 obtain ⟨a1,g1,k1⟩:=o.o1
 obtain ⟨a2,g2,k2⟩:=o.o2
 obtain ⟨a3,g3,k3⟩:=o.o3
 obtain ⟨a4,g4,k4⟩:=o.o4
 obtain ⟨a5,g5,k5⟩:=o.o5
 obtain ⟨a6,g6,k6⟩:=o.o6
 refine Fun.ok (k:=1) F sc_is (fun vs H Q E h=>by obtain ⟨_,_,_,rfl,_⟩:=h; rfl) fun cdv A outer s H vs Q E hr hsp=>?_
 have isi : ∀ {x : Str} {a : Addr} {p p2 p3 pos : Pos},Gl (cxOf CX0 P w K mg base ["_law_caught_here","_law_at","_law_told"] "_law_is" (defScope (top 20)) f cdv A outer s H E).nox x→mg x = some (.ref a)→(x == ("__debug__" : Str)) = false →
   PE (cxOf CX0 P w K mg base ["_law_caught_here","_law_at","_law_told"] "_law_is" (defScope (top 20)) f cdv A outer s H E).nox (.Call (.Name "isinstance" p) [.Name "_law_caught_here" p2,.Name x p3] [] pos) (tCB (rIsE K) (tCons (vR 0) (tCons (tC (.ref a)) tNil))):=fun hg hm hd =>
  pe_callB cIsE (gl (sc:=defScope (top 20)) (by decide +kernel)) B.isinstance boot_isinstance (pa_cons (pV vt 0) (pa_cons (pe_glob hg hm rfl hd) pa_nil))
 refine ⟨_,pss_cons (ps_set (i:=2) nd rfl (lo (sc:=defScope (top 20)) (by decide +kernel)) (pe_lst (pa_cons (isi (gl (sc:=defScope (top 20)) (by decide +kernel)) c.gC (by decide)) (pa_cons (isi (gl (sc:=defScope (top 20)) (by decide +kernel)) g1 (by decide)) (pa_cons (isi (gl (sc:=defScope (top 20)) (by decide +kernel)) g2 (by decide)) pa_nil)))))
  (pss_cons (ps_set (i:=2) nd rfl (lo (sc:=defScope (top 20)) (by decide +kernel)) (pe_op op_catS (pV vt 2) (pe_lst (pa_cons (isi (gl (sc:=defScope (top 20)) (by decide +kernel)) g3 (by decide)) (pa_cons (isi (gl (sc:=defScope (top 20)) (by decide +kernel)) g4 (by decide)) (pa_cons (isi (gl (sc:=defScope (top 20)) (by decide +kernel)) g5 (by decide)) pa_nil))))))
  (pss_cons (ps_set (i:=2) nd rfl (lo (sc:=defScope (top 20)) (by decide +kernel)) (pe_op op_catS (pV vt 2) (pe_lst (pa_cons (isi (gl (sc:=defScope (top 20)) (by decide +kernel)) g6 (by decide)) pa_nil))))
  (pss_cons (ps_if (cCmp (op_neD hr.units) hNe (mw (dN (pV vt 2))) (nw (dLC (pe_lc (te:=tV K RS _) (tc:=tVT K _) (g:=tVG K _ _) (N':=["_law_k","_law_at"]) (cap:=[none,some 1]) ["_law_caught_here","_law_at","_law_told"] (defScope (top 20)) rfl (by decide +kernel) rfl rfl (itR1 (pi_range1 (gl (sc:=(defScope (top 20))) (by decide +kernel)) B.range (pwC (sw dInt) pw0))) (fun _ _ _ _ _=>(tgN (pgC (i:=0) (show (["_law_k","_law_at"] : List Str).Nodup by decide +kernel) (by decide +kernel)))) (fun _ _ _ _ _=>ifN) (fun _ _ _ _ _=>(dCmp (op_eqD hr.units) hEq (mw (dN (pVc (by decide +kernel) 0))) (mw (dN (pVc (by decide +kernel) 1)))))))))
   (pss_one (ps_ret pe_bl)) pss_nil)
  (pss_one (ps_ret (pe_or (pe_and (dCmp (op_eqD hr.units) hEq (mw (dN (pV vt 1))) (sw dInt)) (pe_one (pe_cmp (pc_isN (pV vt 0))))) (pe_one (pe_callB cIsE (gl (sc:=defScope (top 20)) (by decide +kernel)) B.isinstance boot_isinstance (pa_cons (pV vt 0) (pa_cons (pe_bltn (v:=.ty "ValueError") (gl (sc:=defScope (top 20)) (by decide +kernel)) o.nv (by decide +kernel) rfl) pa_nil)))))))))),?_⟩
 obtain ⟨e,dx,v,rfl,ex,hq⟩:=hsp
 unfold tSeq tAsg tLst gName tOp
 have go : ∀ {H' : Hp} {x : Option V} {a : Addr} {b : Bool} {Q' : VK},Same H H'→PySem.W.kitOne K (.ref C) (.ref a) = some b→Q' (.bl b) H'→tCB (rIsE K) (tCons (vR 0) (tCons (tC (.ref a)) tNil)) [some (.ref e),some (.int 0),x] H' Q':=fun sm hk q =>
  rdIs (fun R r=>vR_at (v:=.ref e) rfl r) (ex.grow sm) c.xi hk q
 refine go (Same.refl _) o.o0 (go (Same.refl _) k1 (go (Same.refl _) k2 ⟨by show 3≤sizeLine; decide,fun p1 hp1=>?_⟩))
 have s1:=same_upd_new (o:=.lst [.bl true,.bl false,.bl false]) hp1
 dsimp only
 refine vR_at (v:=.ref p1) rfl ?_
 refine go s1 k3 (go s1 k4 (go s1 k5 ⟨by show 3≤sizeLine; decide,fun p2 hp2=>?_⟩))
 have s2:=same_upd_new (o:=.lst [.bl false,.bl false,.bl false]) hp2
 refine ⟨p1,p2,_,_,rfl,rfl,SqL.of (s2 _ _ upd_same),SqL.of upd_same,by show 6≤sizeLine; decide,fun p3 hp3=>?_⟩
 have s3:=same_upd_new (o:=.lst ([.bl true,.bl false,.bl false] ++ [.bl false,.bl false,.bl false])) hp3
 have s13:=(s1.trans s2).trans s3
 dsimp only
 refine vR_at (v:=.ref p3) rfl ?_
 refine go s13 k6 ⟨by show 1≤sizeLine; decide,fun p4 hp4=>?_⟩
 have s4:=same_upd_new (o:=.lst [.bl false]) hp4
 refine ⟨p3,p4,_,_,rfl,rfl,SqL.of (s4 _ _ upd_same),SqL.of upd_same,by show 7≤sizeLine; decide,fun p5 hp5=>?_⟩
 have s5:=same_upd_new (o:=.lst (([.bl true,.bl false,.bl false] ++ [.bl false,.bl false,.bl false]) ++ [.bl false])) hp5
 have s15:=(s13.trans s4).trans s5
 have fr : FrAt K (upd (upd (upd (upd (upd H p1 (.lst [.bl true,.bl false,.bl false])) p2 (.lst [.bl false,.bl false,.bl false])) p3 (.lst ([.bl true,.bl false,.bl false] ++ [.bl false,.bl false,.bl false]))) p4 (.lst [.bl false])) p5 (.lst (([.bl true,.bl false,.bl false] ++ [.bl false,.bl false,.bl false]) ++ [.bl false])))
   [none,some (Tg.fr,.int 0),some (Tg.fr,.list [.bool true,.bool false,.bool false,.bool false,.bool false,.bool false,.bool false])] [some (.ref e),some (.int 0),some (.ref p5)] :=
  ⟨some (.ref e),_,rfl,.int 0,_,rfl,rfl,rfl,.ref p5,_,rfl,rfl,⟨p5,_,rfl,SqL.of upd_same,_,_,rfl,rfl,_,_,rfl,rfl,_,_,rfl,rfl,_,_,rfl,rfl,_,_,rfl,rfl,_,_,rfl,rfl,_,_,rfl,rfl,rfl⟩,rfl⟩
 dsimp only
 unfold tIfS
 refine tVT_at (b:=false) fr ?_ fun H6 s6=>?_
 ·walk_at "e1"
  rw [if_pos (by decide)]
  walk_at "e1"
  rw [bLC_s (by rfl) (by show 7 < sizeLine; decide)]
  rw [lcD_map (f:=fun d=>match d with | .int j=>.bool (decide (j = 0)) | d=>d)]
  ·walk_at "e1"
   rfl
  ·intro d hd
   have hd' : d∈[PyData.int 0,.int 1,.int 2,.int 3,.int 4,.int 5,.int 6]:=hd
   simp only [List.mem_cons,List.not_mem_nil,or_false] at hd'
   rcases hd' with rfl | rfl | rfl | rfl | rfl | rfl | rfl
   all_goals
    refine ⟨_,rfl,rfl,?_⟩
    walk_at "e1"
 rw [if_neg (by decide)]
 unfold tNext tRet tOrV tAndV
 refine tV_at (fr.grow s6) (d:=.bool false) ?_ fun x H7 s7 hx=>?_
 ·walk_at "e1"
  simp
 cases (show x = .bl false from hx)
 refine ⟨false,rfl,?_⟩
 rw [if_neg (by decide)]
 refine ⟨false,rfl,?_⟩
 rw [if_neg (by decide)]
 have s17:=(s15.trans s6).trans s7
 obtain ⟨⟨tb,h1⟩,h2⟩:=ex.grow s17
 unfold tCB tCons tNil tC
 exact vR_at (v:=.ref e) rfl ⟨e,C,dx,tb,_,.ty "ValueError",.type "ValueError",true,rfl,fun u r=>r,h1,h2,c.xi,o.ov,hq _ s17⟩
end
end K02
namespace K02
open PySem L2 VM
set_option maxHeartbeats 4000000
theorem e_whole (n : Int) : m__law_whole [.int n] = some (false,.bool true):=by
 unfold m__law_whole g__law_whole
 walk_at "e1"
theorem e_noroom {n m : Int} (h2 : 2≤m) (h40 : m≤40) : ∃ r,m__law_no_room [.int n,.int m] = some (false,.int r)∧isRoom m r = false:=by
 unfold m__law_no_room g__law_no_room
 have q0:=mod_in n (show (0 : Int) < 5 by decide)
 have q1:=mod_in (n / 5) (show (0 : Int) < 1000 by decide)
 walk_at "e1"
 simp only [divD_i (show (0 : Int) < 5 by decide) (by decide)]
 walk_at "e1"
 simp only [modD_i (show (0 : Int) < 1000 by decide)]
 walk_at "e1"
 simp only [divD_i (show (0 : Int) < 5 by decide) (by decide)]
 walk_at "e1"
 simp only [modD_i (show (0 : Int) < 1000 by decide)]
 walk_at "e1"
 simp only [powD_i (show (0 : Int)≤59 by decide) (by decide) (show (0 : Int)≤10 by decide) (by decide)]
 walk_at "e1"
 simp only [modD_i (show (0 : Int) < 5 by decide)]
 walk_at "e1"
 generalize n % 5 = a at *
 generalize n / 5 % 1000 = b at *
 have h : a = 0∨a = 1∨a = 2∨a = 3∨a = 4:=by omega
 rcases h with rfl | rfl | rfl | rfl | rfl
 ·exact ⟨-1,rfl,by unfold isRoom; simp⟩
 ·exact ⟨m,rfl,by unfold isRoom; simp⟩
 ·exact ⟨m + 1 + b,rfl,by unfold isRoom; simp; omega⟩
 ·exact ⟨-2 - b,rfl,by unfold isRoom; simp; omega⟩
 ·exact ⟨10 ^ 59,rfl,by unfold isRoom; simp; omega⟩
theorem not_room {m s r : Int} (hs : isRoom m s = true) (hr : isRoom m r = false) : r ≠ s:=fun e=>by rw [e,hs] at hr; cases hr
theorem e_rooms {ns : List Int} {m s g : Int} {ps : List Pq} (G : Good m ps s g) (h40 : m≤40) : ∃ a b c,m__law_rooms [.list (ns.map .int),.int m,.int s,.int g] = some (false,.tuple [.int a,.int b,.int c])∧((a = m∧b = s∧c = g)∨((a,b,c) ≠ (m,s,g)∧(decide (a < 2) || decide (b = c) || !isRoom a b || !isRoom a c) = true)):=by
 unfold m__law_rooms g__law_rooms
 have h2:=G.two
 walk_at "e1"
 simp only [e_cell (show (0 : Int)≤1 by decide)]
 walk_at "e1"
 simp only [e_mix (show (0 : Int)≤0 by decide) (by decide)]
 walk_at "e1"
 generalize mixI (cellI ns 1) 0 = n
 simp only [modD_i (show (0 : Int) < 8 by decide)]
 walk_at "e1"
 by_cases c0 : n % 8 = 0
 ·simp only [c0,decide_true]
  walk_at "e1"
  simp only [divD_i (show (0 : Int) < 8 by decide) (by decide)]
  walk_at "e1"
  simp only [modD_i (show (0 : Int) < 3 by decide)]
  walk_at "e1"
  have q:=mod_in (n / 8) (show (0 : Int) < 3 by decide)
  refine ⟨_,_,_,rfl,.inr ⟨fun e=>?_,?_⟩⟩
  ·have:=(Prod.mk.inj e).1
   omega
  ·have : 1 - n / 8 % 3 < 2:=by omega
   simp [this]
 simp only [c0,decide_false]
 walk_at "e1"
 by_cases c1 : n % 8 = 1
 ·simp only [c1,decide_true]
  walk_at "e1"
  simp only [divD_i (show (0 : Int) < 8 by decide) (by decide)]
  walk_at "e1"
  obtain ⟨r,e,hr⟩:=e_noroom (n:=n / 8) h2 h40
  simp only [e]
  walk_at "e1"
  refine ⟨_,_,_,rfl,.inr ⟨fun z=>not_room G.rs hr (Prod.mk.inj (Prod.mk.inj z).2).1,?_⟩⟩
  simp [hr]
 simp only [c1,decide_false]
 walk_at "e1"
 by_cases c2 : n % 8 = 2
 ·simp only [c2,decide_true]
  walk_at "e1"
  simp only [divD_i (show (0 : Int) < 8 by decide) (by decide)]
  walk_at "e1"
  obtain ⟨r,e,hr⟩:=e_noroom (n:=n / 8) h2 h40
  simp only [e]
  walk_at "e1"
  refine ⟨_,_,_,rfl,.inr ⟨fun z=>not_room G.rg hr (Prod.mk.inj (Prod.mk.inj z).2).2,?_⟩⟩
  simp [hr]
 simp only [c2,decide_false]
 walk_at "e1"
 by_cases c3 : n % 8 = 3
 ·simp only [c3,decide_true]
  walk_at "e1"
  refine ⟨_,_,_,rfl,.inr ⟨fun z=>G.ne (Prod.mk.inj (Prod.mk.inj z).2).1.symm,?_⟩⟩
  simp
 simp only [c3,decide_false]
 walk_at "e1"
 exact ⟨_,_,_,rfl,.inl ⟨rfl,rfl,rfl⟩⟩
theorem isPas_false {m : Int} {q : Pq} (h : q.1 = q.2.1∨isRoom m q.1 = false∨isRoom m q.2.1 = false∨q.2.2.1 < 1∨q.2.2.2 < 1) : isPas m q = false:=by
 unfold isPas
 rcases h with h | h | h | h | h
 ·simp [h]
 ·simp [h]
 ·simp [h]
 ·have : ¬ 1≤q.2.2.1:=by omega
  simp [this]
 ·have : ¬ 1≤q.2.2.2:=by omega
  simp [this]
section
variable {a b c' w : Option (Tg × PyData)} {q1 q2 q3 q4 x : Int}
noncomputable def tlS (a : Option (Tg × PyData)) (q1 q2 q3 q4 : Int) (b c' w : Option (Tg × PyData)) (p x : Int) : GS:=[a,some (Tg.fr,PyData.tuple [PyData.int q1,PyData.int q2,PyData.int q3,PyData.int q4]),b,c',w,some (Tg.fr,PyData.int p),some (Tg.fr,PyData.int x)]
noncomputable def gTl : VS:=gRet (v2 EX.catT2D (v2 EX.catT2D (vSlT (vN 1) oN (oI (vN 5))) (vTup (aC (vF 6) a0))) (vSlT (vN 1) (oI (v2 addD (vN 5) (vC (PyData.int 1)))) oN))
theorem tl0 : gTl (tlS a q1 q2 q3 q4 b c' w 0 x) = .ret (tlS a q1 q2 q3 q4 b c' w 0 x) false (.tuple [.int x,.int q2,.int q3,.int q4]):=by
 have c1 : cutD [PyData.int q1,PyData.int q2,PyData.int q3,PyData.int q4] none (some 0) = []:=rfl
 have c2 : cutD [PyData.int q1,PyData.int q2,PyData.int q3,PyData.int q4] (some (0 + 1)) none = [PyData.int q2,PyData.int q3,PyData.int q4]:=rfl
 have k1 : EX.catT2D (.tuple []) (.tuple [PyData.int x]) = some (.tuple [PyData.int x]):=EX.catT2_i (show 0 + 1≤sizeLine by decide)
 have k2 : EX.catT2D (.tuple [PyData.int x]) (.tuple [PyData.int q2,PyData.int q3,PyData.int q4]) = some (.tuple [PyData.int x,PyData.int q2,PyData.int q3,PyData.int q4]):=EX.catT2_i (show 1 + 3≤sizeLine by decide)
 unfold gTl tlS
 walk_at "e1"
 rw [if_neg (by decide),c1]
 walk_at "e1"
 rw [k1]
 walk_at "e1"
 rw [if_neg (by decide),c2]
 walk_at "e1"
 rw [k2]
theorem tl1 : gTl (tlS a q1 q2 q3 q4 b c' w 1 x) = .ret (tlS a q1 q2 q3 q4 b c' w 1 x) false (.tuple [.int q1,.int x,.int q3,.int q4]):=by
 have c1 : cutD [PyData.int q1,PyData.int q2,PyData.int q3,PyData.int q4] none (some 1) = [PyData.int q1]:=rfl
 have c2 : cutD [PyData.int q1,PyData.int q2,PyData.int q3,PyData.int q4] (some (1 + 1)) none = [PyData.int q3,PyData.int q4]:=rfl
 have k1 : EX.catT2D (.tuple [PyData.int q1]) (.tuple [PyData.int x]) = some (.tuple [PyData.int q1,PyData.int x]):=EX.catT2_i (show 1 + 1≤sizeLine by decide)
 have k2 : EX.catT2D (.tuple [PyData.int q1,PyData.int x]) (.tuple [PyData.int q3,PyData.int q4]) = some (.tuple [PyData.int q1,PyData.int x,PyData.int q3,PyData.int q4]):=EX.catT2_i (show 2 + 2≤sizeLine by decide)
 unfold gTl tlS
 walk_at "e1"
 rw [if_neg (by decide),c1]
 walk_at "e1"
 rw [k1]
 walk_at "e1"
 rw [if_neg (by decide),c2]
 walk_at "e1"
 rw [k2]
theorem tl2 : gTl (tlS a q1 q2 q3 q4 b c' w 2 x) = .ret (tlS a q1 q2 q3 q4 b c' w 2 x) false (.tuple [.int q1,.int q2,.int x,.int q4]):=by
 have c1 : cutD [PyData.int q1,PyData.int q2,PyData.int q3,PyData.int q4] none (some 2) = [PyData.int q1,PyData.int q2]:=rfl
 have c2 : cutD [PyData.int q1,PyData.int q2,PyData.int q3,PyData.int q4] (some (2 + 1)) none = [PyData.int q4]:=rfl
 have k1 : EX.catT2D (.tuple [PyData.int q1,PyData.int q2]) (.tuple [PyData.int x]) = some (.tuple [PyData.int q1,PyData.int q2,PyData.int x]):=EX.catT2_i (show 2 + 1≤sizeLine by decide)
 have k2 : EX.catT2D (.tuple [PyData.int q1,PyData.int q2,PyData.int x]) (.tuple [PyData.int q4]) = some (.tuple [PyData.int q1,PyData.int q2,PyData.int x,PyData.int q4]):=EX.catT2_i (show 3 + 1≤sizeLine by decide)
 unfold gTl tlS
 walk_at "e1"
 rw [if_neg (by decide),c1]
 walk_at "e1"
 rw [k1]
 walk_at "e1"
 rw [if_neg (by decide),c2]
 walk_at "e1"
 rw [k2]
theorem tl3 : gTl (tlS a q1 q2 q3 q4 b c' w 3 x) = .ret (tlS a q1 q2 q3 q4 b c' w 3 x) false (.tuple [.int q1,.int q2,.int q3,.int x]):=by
 have c1 : cutD [PyData.int q1,PyData.int q2,PyData.int q3,PyData.int q4] none (some 3) = [PyData.int q1,PyData.int q2,PyData.int q3]:=rfl
 have c2 : cutD [PyData.int q1,PyData.int q2,PyData.int q3,PyData.int q4] (some (3 + 1)) none = []:=rfl
 have k1 : EX.catT2D (.tuple [PyData.int q1,PyData.int q2,PyData.int q3]) (.tuple [PyData.int x]) = some (.tuple [PyData.int q1,PyData.int q2,PyData.int q3,PyData.int x]):=EX.catT2_i (show 3 + 1≤sizeLine by decide)
 have k2 : EX.catT2D (.tuple [PyData.int q1,PyData.int q2,PyData.int q3,PyData.int x]) (.tuple []) = some (.tuple [PyData.int q1,PyData.int q2,PyData.int q3,PyData.int x]):=EX.catT2_i (show 4 + 0≤sizeLine by decide)
 unfold gTl tlS
 walk_at "e1"
 rw [if_neg (by decide),c1]
 walk_at "e1"
 rw [k1]
 walk_at "e1"
 rw [if_neg (by decide),c2]
 walk_at "e1"
 rw [k2]
end
theorem e_spoiled {c m : Int} {q : Pq} (h2 : 2≤m) (h40 : m≤40) : ∃ q',m__law_spoiled [.int c,pD q,.int m] = some (false,pD q')∧isPas m q' = false:=by
 obtain ⟨q1,q2,q3,q4⟩:=q
 have eg : gRet (v2 EX.catT2D (v2 EX.catT2D (vSlT (vN 1) oN (oI (vN 5))) (vTup (aC (vF 6) a0))) (vSlT (vN 1) (oI (v2 addD (vN 5) (vC (PyData.int 1)))) oN)) = gTl:=rfl
 unfold m__law_spoiled g__law_spoiled pD
 rw [eg]
 dsimp only
 walk_at "e1"
 simp only [e_mix (show (0 : Int)≤3 by decide) (by decide)]
 walk_at "e1"
 generalize mixI c 3 = n
 simp only [divD_i (show (0 : Int) < 2 by decide) (by decide)]
 walk_at "e1"
 simp only [modD_i (show (0 : Int) < 4 by decide)]
 walk_at "e1"
 simp only [modD_i (show (0 : Int) < 2 by decide)]
 walk_at "e1"
 simp only [powD_i (show (0 : Int)≤59 by decide) (by decide) (show (0 : Int)≤10 by decide) (by decide)]
 walk_at "e1"
 simp only [modD_i (show (0 : Int) < 100000000000000000000000000000000000000000000000000000000000 by decide)]
 walk_at "e1"
 simp only [divD_i (show (0 : Int) < 8 by decide) (by decide)]
 walk_at "e1"
 simp only [modD_i (show (0 : Int) < 2 by decide)]
 walk_at "e1"
 have hz : ∃ z,atI [PyData.int 0,PyData.int (-1 - c % 100000000000000000000000000000000000000000000000000000000000)] (n / 8 % 2) = some (.int z)∧z < 1:=by
  have q:=mod_in (n / 8) (show (0 : Int) < 2 by decide)
  have q':=mod_in c (show (0 : Int) < 100000000000000000000000000000000000000000000000000000000000 by decide)
  have h : n / 8 % 2 = 0∨n / 8 % 2 = 1:=by omega
  rcases h with h | h
  ·exact ⟨0,by rw [h]; rfl,by decide⟩
  ·exact ⟨_,by rw [h]; rfl,by omega⟩
 obtain ⟨z,ez,hz⟩:=hz
 rw [ez]
 walk_at "e1"
 have hp:=mod_in n (show (0 : Int) < 2 by decide)
 have hw:=mod_in (n / 2) (show (0 : Int) < 4 by decide)
 have hp : n % 2 = 0∨n % 2 = 1:=by omega
 have hw : n / 2 % 4 = 0∨n / 2 % 4 = 1∨n / 2 % 4 = 2∨n / 2 % 4 = 3:=by omega
 rcases hw with hw | hw | hw | hw
 ·rw [hw]
  walk_at "e1"
  simp only [decide_true,decide_false]
  walk_at "e1"
  simp only [modD_i (show (0 : Int) < 2 by decide)]
  walk_at "e1"
  rcases hp with hp | hp
  ·rw [hp]
   simp only [show (1 : Int) - 0 = 1 from rfl]
   walk_at "e1"
   simp only [show decide ((0 : Int) = 1) = false from rfl]
   walk_at "e1"
   simp only [show decide ((0 : Int) = 2) = false from rfl]
   walk_at "e1"
   exact ⟨(q2,q2,q3,q4),(congrArg bFn tl0).trans rfl,isPas_false (.inl rfl)⟩
  ·rw [hp]
   simp only [show (1 : Int) - 1 = 0 from rfl]
   walk_at "e1"
   simp only [show decide ((0 : Int) = 1) = false from rfl]
   walk_at "e1"
   simp only [show decide ((0 : Int) = 2) = false from rfl]
   walk_at "e1"
   exact ⟨(q1,q1,q3,q4),(congrArg bFn tl1).trans rfl,isPas_false (.inl rfl)⟩
 ·obtain ⟨r,er,hr⟩:=e_noroom (n:=n / 8) h2 h40
  rw [hw]
  walk_at "e1"
  simp only [show decide ((1 : Int) = 0) = false from rfl]
  walk_at "e1"
  simp only [decide_true]
  walk_at "e1"
  simp only [modD_i (show (0 : Int) < 2 by decide)]
  walk_at "e1"
  simp only [divD_i (show (0 : Int) < 8 by decide) (by decide)]
  walk_at "e1"
  simp only [er]
  walk_at "e1"
  rcases hp with hp | hp
  ·rw [hp]
   exact ⟨(r,q2,q3,q4),(congrArg bFn tl0).trans rfl,isPas_false (.inr (.inl hr))⟩
  ·rw [hp]
   exact ⟨(q1,r,q3,q4),(congrArg bFn tl1).trans rfl,isPas_false (.inr (.inr (.inl hr)))⟩
 ·obtain ⟨r,er,hr⟩:=e_noroom (n:=n / 8) h2 h40
  rw [hw]
  walk_at "e1"
  simp only [show decide ((2 : Int) = 0) = false from rfl]
  walk_at "e1"
  simp only [show decide ((2 : Int) = 1) = false from rfl]
  walk_at "e1"
  simp only [decide_true]
  walk_at "e1"
  simp only [modD_i (show (0 : Int) < 2 by decide)]
  walk_at "e1"
  simp only [divD_i (show (0 : Int) < 8 by decide) (by decide)]
  walk_at "e1"
  simp only [er]
  walk_at "e1"
  rcases hp with hp | hp
  ·rw [hp]
   exact ⟨(r,q2,q3,q4),(congrArg bFn tl0).trans rfl,isPas_false (.inr (.inl hr))⟩
  ·rw [hp]
   exact ⟨(q1,r,q3,q4),(congrArg bFn tl1).trans rfl,isPas_false (.inr (.inr (.inl hr)))⟩
 ·rw [hw]
  walk_at "e1"
  simp only [show decide ((3 : Int) = 0) = false from rfl]
  walk_at "e1"
  simp only [show decide ((3 : Int) = 1) = false from rfl]
  walk_at "e1"
  simp only [show decide ((3 : Int) = 2) = false from rfl]
  walk_at "e1"
  rcases hp with hp | hp
  ·rw [hp]
   exact ⟨(q1,q2,z,q4),(congrArg bFn tl2).trans rfl,isPas_false (.inr (.inr (.inr (.inl hz))))⟩
  ·rw [hp]
   exact ⟨(q1,q2,q3,z),(congrArg bFn tl3).trans rfl,isPas_false (.inr (.inr (.inr (.inr hz))))⟩
end K02
namespace K02
open PySem L2 VM
set_option maxHeartbeats 4000000
noncomputable def gA : VS :=
 (gSeq (gAs (vCall m__law_hall (aC (vF 0) a0)) (gT 4 (gC (gN 1) (gC (gN 2) (gC (gN 3) (gC (gN 4) g0))))))
 (gSeq (gAs (vCall m__law_rooms (aC (vF 0) (aC (vF 1) (aC (vF 3) (aC (vF 4) a0))))) (gN 5))
 (gSeq (gAs (vCall m__law_mixed (aC (vCall m__law_cell_at (aC (vF 0) (aC (vC (.int 2)) a0))) (aC (vC (.int 4)) a0))) (gN 6))
 (gSeq (gOw 7 (vListOf (vN 2)))
 (gSeq (gOw 8 (vLst a0))
 (gSeq (gFor (vRng1 (aC (v2 modD (vN 6) (vC (.int 4))) a0)) (gN 9)
 (gIf (vB (v2 gtD (vCB lenD (aC (vN 2) a0)) (vC (.int 0))))
 (gSeq (gAs (v2 modD (v2 divD (vN 6) (v2 addD (vC (.int 4)) (v2 mulD (vC (.int 3)) (vN 9)))) (vCB lenD (aC (vN 2) a0))) (gN 10))
 (gSeq (gPut 7 (vN 10) (vCall m__law_spoiled (aC (vCall m__law_cell_at (aC (vF 0) (aC (v2 addD (vC (.int 2)) (vN 9)) a0))) (aC (v2 ixDt (vN 2) (vN 10)) (aC (vF 1) a0)))))
 (gApp 8 (aC (vF 10) a0))))
 gNop))
 (gAs (vListOf (vN 7)) (gN 11))))))))
noncomputable def gLp : VS :=
 (gIf (vB (v2 gtD (vCB lenD (aC (vN 2) a0)) (vC (.int 0))))
 (gSeq (gAs (v2 modD (v2 divD (vN 6) (v2 addD (vC (.int 4)) (v2 mulD (vC (.int 3)) (vN 9)))) (vCB lenD (aC (vN 2) a0))) (gN 10))
 (gSeq (gPut 7 (vN 10) (vCall m__law_spoiled (aC (vCall m__law_cell_at (aC (vF 0) (aC (v2 addD (vC (.int 2)) (vN 9)) a0))) (aC (v2 ixDt (vN 2) (vN 10)) (aC (vF 1) a0)))))
 (gApp 8 (aC (vF 10) a0))))
 gNop)
noncomputable def m_look_at_hall : FnM:=fun ds=>@ite _ (∃ m ps s g,ds = [.int m,psD ps,.int s,.int g]∧ps.length≤63∧Good m ps s g) (Classical.propDecidable _) (some (false,.none)) none
noncomputable def gD : VS :=
 (gSeq (gIf (vB (v2 neD (vN 7) (vN 11)))
 (gRet (vC (.bool false)))
 gNop)
 (gSeq (gFz 8 (gFor (vItems (vF 8)) (gN 10)
 (gPut 7 (vN 10) (v2 ixDt (vN 2) (vN 10)))))
 (gRet (v2 isD (vCallW m_look_at_hall (aC (vN 1) (aC (vN 7) (aC (vN 3) (aC (vN 4) a0))))) (vC .none)))))
theorem e_look {m s g : Int} {ps : List Pq} (hl : ps.length≤63) (G : Good m ps s g) : m_look_at_hall [.int m,psD ps,.int s,.int g] = some (false,.none):=if_pos ⟨m,ps,s,g,rfl,hl,G⟩
structure Spoil (m : Int) (ps hs : List Pq) (js : List Int) : Prop where
 len : hs.length = ps.length
 rng : ∀ j∈js,0≤j∧j < ps.length
 bad : ∀ (i : Nat) q,hs[i]? = some q→(i : Int)∈js→isPas m q = false
 same : ∀ (i : Nat) q,hs[i]? = some q→(i : Int) ∉ js→ps[i]? = some q
theorem Spoil.step {m : Int} {ps hs : List Pq} {js : List Int} (h : Spoil m ps hs js) {k : Nat} (hk : k < ps.length) {q : Pq} (hq : isPas m q = false) : Spoil m ps (hs.set k q) (js ++ [(k : Int)]) where
 len:=by rw [List.length_set]; exact h.len
 rng:=fun j hj=>by
  rcases List.mem_append.mp hj with z | z
  ·exact h.rng j z
  ·obtain rfl : j = (k : Int):=by simpa using z
   omega
 bad:=fun i q' e hi=>by
  by_cases hik : k = i
  ·subst hik
   rw [List.getElem?_set_self (by rw [h.len]; exact hk)] at e
   cases e
   exact hq
  ·rw [List.getElem?_set_ne hik] at e
   rcases List.mem_append.mp hi with z | z
   ·exact h.bad i q' e z
   ·have : (i : Int) = (k : Int):=by simpa using z
    omega
 same:=fun i q' e hi=>by
  have h1 : (i : Int) ∉ js:=fun z=>hi (List.mem_append_left _ z)
  have hik : k ≠ i:=fun z=>hi (List.mem_append_right _ (by rw [z]; exact List.mem_cons_self))
  rw [List.getElem?_set_ne hik] at e
  exact h.same i q' e h1
noncomputable def st1 (ns : List Int) (m : Int) (ps : List Pq) (s g a b c n : Int) (hs : List Pq) (js : List Int) (x y z : Option (Tg × PyData)) : GS :=
 [some (Tg.fr,.list (ns.map .int)),some (Tg.fr,.int m),some (Tg.fr,psD ps),some (Tg.fr,.int s),some (Tg.fr,.int g),some (Tg.fr,.tuple [.int a,.int b,.int c]),some (Tg.fr,.int n),some (Tg.ow,psD hs),some (Tg.ow,.list (js.map .int)),x,y,z,none,none]
theorem e_Lp {ns : List Int} {m s g a b c n : Int} {ps hs : List Pq} {js : List Int} {v2 : Option PyData} {j : Nat} (h2 : 2≤m) (h40 : m≤40) (hj : j < 4) (hpl : ps.length≤63) (hsp : Spoil m ps hs js) (hjs : js.length≤10) :
  ∃ hs' js' v2',gLp (st1 ns m ps s g a b c n hs js (ob (some (.int (0 + (j : Int))))) (ob v2) none) = .nxt (st1 ns m ps s g a b c n hs' js' (ob (some (.int (0 + (j : Int))))) (ob v2') none)∧Spoil m ps hs' js'∧js'.length≤js.length + 1:=by
 unfold gLp st1
 simp only [psD]
 walk_at "e1"
 rw [List.length_map]
 by_cases hp : ps.length = 0
 ·rw [hp]
  simp only [show decide ((0 : Int) < ((0 : Nat) : Int)) = false from rfl]
  walk_at "e1"
  exact ⟨hs,js,v2,rfl,hsp,by omega⟩
 ·have h0 : (0 : Int) < (ps.length : Int):=by omega
  simp only [h0,decide_true]
  walk_at "e1"
  rw [mulD_i (by omega) (by omega) (by omega) (by omega)]
  walk_at "e1"
  rw [divD_i (by omega) (by omega)]
  walk_at "e1"
  rw [List.length_map,modD_i h0]
  walk_at "e1"
  have hr:=mod_in (n / (4 + 3 * (0 + (j : Int)))) h0
  obtain ⟨k,hk⟩:=Int.eq_ofNat_of_zero_le hr.1
  rw [hk] at hr ⊢
  have hkl : k < ps.length:=by omega
  rw [e_cell (by omega)]
  walk_at "e1"
  have ek : ps[k]? = some ps[k]:=List.getElem?_eq_getElem hkl
  rw [atI_of pD ek]
  walk_at "e1"
  obtain ⟨q',eq,hq'⟩:=e_spoiled (c:=cellI ns (2 + (0 + (j : Int)))) (q:=ps[k]) h2 h40
  rw [eq]
  walk_at "e1"
  rw [ixN_of (by rw [List.length_map,hsp.len]; exact hkl)]
  walk_at "e1"
  refine ⟨hs.set k q',js ++ [(k : Int)],some (.int (k : Int)),?_,hsp.step hkl hq',by simp⟩
  rw [List.map_set,List.map_append,if_pos (by rw [List.length_map]; exact size_big (by omega))]
  rfl
theorem e_A {ns : List Int} (hl : ns.length≤63) : ∃ m ps s g a b c n hs js v1 v2,gA (ini 14 [.list (ns.map .int)]) = .nxt (st1 ns m ps s g a b c n hs js (ob v1) (ob v2) (some (Tg.fr,psD hs)))∧Good m ps s g∧ps.length≤63∧Spoil m ps hs js∧js.length≤3 ∧
  ((a = m∧b = s∧c = g)∨((a,b,c) ≠ (m,s,g)∧(decide (a < 2) || decide (b = c) || !isRoom a b || !isRoom a c) = true)):=by
 unfold gA
 obtain ⟨m,ps,s,g,eh,G,h40,hpl⟩:=e_hall hl
 obtain ⟨a,b,c,er,hr⟩:=e_rooms (ns:=ns) G h40
 walk_at "e1"
 simp only [eh]
 walk_at "e1"
 simp only [er]
 walk_at "e1"
 simp only [e_cell (show (0 : Int)≤2 by decide)]
 walk_at "e1"
 simp only [e_mix (show (0 : Int)≤4 by decide) (by decide)]
 walk_at "e1"
 generalize mixI (cellI ns 2) 4 = n
 simp only [psD]
 walk_at "e1"
 have hn:=mod_in n (show (0 : Int) < 4 by decide)
 simp only [modD_i (show (0 : Int) < 4 by decide)]
 walk_at "e1"
 rw [if_pos (by omega)]
 walk_at "e1"
 generalize hk : (n % 4).toNat = k
 have hk3 : k≤3:=by omega
 have key:=forG_ok (t:=gN 9) (g:=gLp) (fun i S=>∃ hs js v1 v2,S = st1 ns m ps s g a b c n hs js (ob v1) (ob v2) none∧Spoil m ps hs js∧js.length≤i) (rangeD 0 k) 0
  (st1 ns m ps s g a b c n ps [] none none none) ⟨ps,[],none,none,rfl,⟨rfl,(fun j hj=>by cases hj),(fun i q _ hj=>by cases hj),fun i q e _=>e⟩,Nat.le_refl _⟩ ?_
 ·obtain ⟨S',e,hs,js,v1,v2,rfl,hsp,hjl⟩:=key
  rw [rangeD_length,Nat.zero_add] at hjl
  refine ⟨m,ps,s,g,a,b,c,n,hs,js,v1,v2,?_,G,hpl,hsp,by omega,hr⟩
  show bSeq (forG (gN 9) gLp (rangeD 0 k) (st1 ns m ps s g a b c n ps [] none none none)) _ = _
  rw [e]
  unfold st1 psD
  walk_at "e1"
 ·rintro j d S hj ⟨hs,js,v1,v2,rfl,hsp,hjl⟩
  obtain ⟨hj,rfl⟩:=rangeD_get hj
  refine ⟨st1 ns m ps s g a b c n hs js (ob (some (.int (0 + (j : Int))))) (ob v2) none,?_,?_⟩
  ·unfold st1
   cases v1 <;> (simp only [ob,Option.map]; walk_at "e1")
  ·obtain ⟨hs',js',v2',e,hsp',hjl'⟩:=e_Lp (ns:=ns) (s:=s) (g:=g) (a:=a) (b:=b) (c:=c) (n:=n) (v2:=v2) (j:=j) G.two h40 (by omega) hpl hsp (by omega)
   exact ⟨_,.inl e,hs',js',some (.int (0 + (j : Int))),v2',rfl,hsp',by omega⟩
theorem Spoil.first {m : Int} {ps hs : List Pq} {js : List Int} (h : Spoil m ps hs js) (hp : ∀ q∈ps,isPas m q = true) : (js = []→hs = ps∧hs.findIdx? (fun q=>!isPas m q) = none)∧(∀ j r,js = j :: r→∃ k : Nat,hs.findIdx? (fun q=>!isPas m q) = some k∧k < 63 + ps.length∧leastOf js = (k : Int)):=by
 have good : ∀ (i : Nat) q,hs[i]? = some q→(i : Int) ∉ js→isPas m q = true:=fun i q e n=>hp q (List.mem_of_getElem? (h.same i q e n))
 refine ⟨fun e=>?_,fun j r e=>?_⟩
 ·subst e
  constructor
  ·refine List.ext_getElem? fun i=>?_
   cases q : hs[i]? with
   | none =>
    have : ps.length≤i:=by rw [← h.len]; exact List.getElem?_eq_none_iff.mp q
    exact (List.getElem?_eq_none_iff.mpr this).symm
   | some x=>exact (h.same i x q (by simp)).symm
  ·rw [List.findIdx?_eq_none_iff]
   intro q hq
   obtain ⟨i,hi⟩:=List.getElem?_of_mem hq
   rw [good i q hi (by simp)]
   rfl
 ·obtain ⟨l1,l2⟩:=leastOf_spec (ns:=js) (by rw [e]; simp)
  obtain ⟨r0,r1⟩:=h.rng _ l1
  obtain ⟨k,hk⟩:=Int.eq_ofNat_of_zero_le r0
  rw [hk] at l1 r1
  have hkl : k < hs.length:=by rw [h.len]; omega
  refine ⟨k,?_,by omega,hk⟩
  rw [List.findIdx?_eq_some_iff_getElem]
  refine ⟨hkl,?_,fun i hi=>?_⟩
  ·rw [h.bad k _ (List.getElem?_eq_getElem hkl) l1]; rfl
  ·have hil : i < hs.length:=by omega
   rw [good i _ (List.getElem?_eq_getElem hil) fun z=>by have:=l2 _ z; omega]
   decide
theorem e_D {ns : List Int} {m s g a b c n : Int} {ps hs : List Pq} {js : List Int} {x y : Option PyData} (G : Good m ps s g) (hpl : ps.length≤63) (hsp : Spoil m ps hs js) :
  ∃ S,gD [some (Tg.fr,.list (ns.map .int)),some (Tg.fr,.int m),some (Tg.fr,psD ps),some (Tg.fr,.int s),some (Tg.fr,.int g),some (Tg.fr,.tuple [.int a,.int b,.int c]),some (Tg.fr,.int n),some (Tg.ow,psD hs),some (Tg.ow,.list (js.map .int)),ob x,ob y,some (Tg.fr,psD hs),none,none] = .ret S false (.bool true):=by
 unfold gD
 walk_at "e1"
 rw [ne_psD]
 walk_at "e1"
 have key:=forG_ok (t:=gN 10) (g:=gPut 7 (vN 10) (v2 ixDt (vN 2) (vN 10)))
  (fun i S=>∃ hs' y',S = [some (Tg.fr,.list (ns.map .int)),some (Tg.fr,.int m),some (Tg.fr,psD ps),some (Tg.fr,.int s),some (Tg.fr,.int g),some (Tg.fr,.tuple [.int a,.int b,.int c]),some (Tg.fr,.int n),some (Tg.ow,psD hs'),some (Tg.fr,.list (js.map .int)),ob x,ob y',some (Tg.fr,psD hs),none,none] ∧
   hs'.length = ps.length∧∀ (k : Nat) q,hs'[k]? = some q→(k : Int) ∉ js.drop i→ps[k]? = some q) (js.map .int) 0 _ ⟨hs,y,rfl,hsp.len,hsp.same⟩ ?_
 ·obtain ⟨S',e,hs',y',rfl,hl,hall⟩:=key
  rw [e]
  have eq : hs' = ps:=by
   refine List.ext_getElem? fun i=>?_
   cases q : hs'[i]? with
   | none =>
    have : ps.length≤i:=by rw [← hl]; exact List.getElem?_eq_none_iff.mp q
    exact (List.getElem?_eq_none_iff.mpr this).symm
   | some z=>exact (hall i z q (by rw [List.length_map,Nat.zero_add,List.drop_length]; simp)).symm
  subst eq
  walk_at "e1"
  rw [e_look hpl G]
  walk_at "e1"
  exact ⟨_,rfl⟩
 ·rintro j d S hj ⟨hs',y',rfl,hl,hall⟩
  rw [Nat.zero_add] at hall ⊢
  rw [List.getElem?_map] at hj
  cases ej : js[j]? with
  | none=>rw [ej] at hj; cases hj
  | some l =>
   rw [ej] at hj
   cases hj
   obtain ⟨r0,r1⟩:=hsp.rng l (List.mem_of_getElem? ej)
   obtain ⟨k,rfl⟩:=Int.eq_ofNat_of_zero_le r0
   have hkl : k < ps.length:=by omega
   refine ⟨[some (Tg.fr,.list (ns.map .int)),some (Tg.fr,.int m),some (Tg.fr,psD ps),some (Tg.fr,.int s),some (Tg.fr,.int g),some (Tg.fr,.tuple [.int a,.int b,.int c]),some (Tg.fr,.int n),some (Tg.ow,psD hs'),some (Tg.fr,.list (js.map .int)),ob x,ob (some (.int (k : Int))),some (Tg.fr,psD hs),none,none],?_,_,.inl ?_,hs'.set k ps[k],some (.int (k : Int)),rfl,by rw [List.length_set]; exact hl,?_⟩
   ·cases y' <;> (simp only [ob,Option.map]; walk_at "e1")
   ·unfold psD
    walk_at "e1"
    rw [atI_of pD (List.getElem?_eq_getElem hkl)]
    walk_at "e1"
    rw [ixN_of (by rw [List.length_map,hl]; exact hkl)]
    walk_at "e1"
    rw [List.map_set]
   ·intro i q e hi
    by_cases hik : k = i
    ·subst hik
     rw [List.getElem?_set_self (by rw [hl]; exact hkl)] at e
     rw [List.getElem?_eq_getElem hkl]
     exact e
    ·rw [List.getElem?_set_ne hik] at e
     refine hall i q e fun z=>?_
     have hd : js.drop j = (k : Int) :: js.drop (j + 1):=by
      rw [List.drop_eq_getElem_cons (List.getElem?_eq_some_iff.mp ej).1,(List.getElem?_eq_some_iff.mp ej).2]
     rw [hd] at z
     rcases List.mem_cons.mp z with z | z
     ·omega
     ·exact hi z
end K02
namespace K02
open PySem PySem.Spec PyProof.Rows L2 VM EX
set_option maxHeartbeats 4000000
section
variable {X : Cx} {st : Stmt} {rest : List Stmt} {g1 g2 : VS} {u : TS}
theorem sThen (h1 : PS X st (tVS X.K g1)) (h2 : PSs X rest (tSeq (tVS X.K g2) u)) : PSs X (st :: rest) (tSeq (tVS X.K (gSeq g1 g2)) u):=PSs.imp (pss_cons h1 h2) fun D σ H q=>by
 obtain ⟨ioA,G,H₀,S,F,I,q⟩:=q
 refine ⟨ioA,G,H₀,S,F,I,?_⟩
 unfold gSeq at q
 cases e : g1 S with
 | fail=>rw [e] at q; exact q
 | brk S1=>rw [e] at q; exact q
 | cnt S1=>rw [e] at q; exact q
 | ret S1 b d=>rw [e] at q; exact q
 | nxt S1=>rw [e] at q; exact fun F' σ' H' I'=>⟨ioA,G,H₀,S1,F',I',q⟩
end
section
variable {K : PySem.W.Frag} {ioA : Nat→Option Addr} {G H₀ F H : Hp} {S : GS} {σ : L2.St}
theorem grow_same {H' : Hp} (h : Same F H) (k : Same H H') : Grow F H F H':=⟨k,Same.refl _,h.trans k,fun _ _ e=>.inl e,fun _ _ _ e=>e⟩
theorem VI.less {S' : GS} (I : VI K ioA G H₀ S F σ H) (hl : S'.length = S.length) (h : ∀ (i : Nat) t d,S'[i]? = some (some (t,d))→S[i]? = some (some (t,d))) : VI K ioA G H₀ S' F σ H :=
 ⟨hl.trans I.len,I.same,I.gf,I.new,I.sub,fun i t d e=>I.slot i t d (h i t d e),fun i j t t' d d' v e1 e2=>I.inj i j t t' d d' v (h i t d e1) (h j t' d' e2),I.pl⟩
theorem VI.skip {i : Nat} {v : V} (I : VI K ioA G H₀ S F σ H) (hn : S[i]? = some none) : VI K ioA G H₀ S F (σ.set i (some v)) H where
 len:=by rw [List.length_set]; exact I.len
 same:=I.same
 gf:=I.gf
 new:=I.new
 sub:=I.sub
 slot:=fun j t d e=>by
  obtain ⟨u,e1,e2⟩:=I.slot j t d e
  have hji : i ≠ j:=fun z=>by subst z; rw [hn] at e; cases e
  exact ⟨u,by rw [List.getElem?_set_ne hji]; exact e1,e2⟩
 inj:=fun j k t t' d d' u e1 e2 o1 o2 s1 s2=>by
  have hj : i ≠ j:=fun z=>by subst z; rw [hn] at e1; cases e1
  have hk : i ≠ k:=fun z=>by subst z; rw [hn] at e2; cases e2
  rw [List.getElem?_set_ne hj] at s1
  rw [List.getElem?_set_ne hk] at s2
  exact I.inj j k t t' d d' u e1 e2 o1 o2 s1 s2
 pl:=I.pl
end
theorem eqv3 (a b c m s g : Int) : PyData.eqv (.tuple [.int a,.int b,.int c]) (.tuple [.int m,.int s,.int g]) = (decide (a = m) && (decide (b = s) && decide (c = g))):=by
 simp only [PyData.eqv,PyData.eqvAll,Bool.and_true]
 rfl
section
variable {P : Program} {w : World} {K : PySem.W.Frag} {mg : Str→Option Value} {base : Heap} {C D : Addr}
noncomputable def plD : Option (Option Nat)→PyData
 | none=>.int (-1)
 | some none=>.none
 | some (some i)=>.int (i : Int)
theorem has_plD {H : Hp} (v : Option (Option Nat)) : Has K H (plD v) (placeV v):=by
 cases v with
 | none=>rfl
 | some p=>cases p <;> rfl
noncomputable def CaughtIs (C : Addr) (V' : Option (Option Nat)) (H : Hp) (v : V) : Prop:=match V' with
 | none=>v = .non
 | some pl=>∃ e dx,v = .ref e∧Exc H C e dx (plV pl)
theorem CaughtIs.grow {V' : Option (Option Nat)} {H H' : Hp} {v : V} (h : CaughtIs C V' H v) (k : Same H H') : CaughtIs C V' H' v:=by
 cases V' with
 | none=>exact h
 | some pl=>obtain ⟨e,dx,h1,h2⟩:=h; exact ⟨e,dx,h1,h2.grow k⟩
theorem caught_all {vs : List V} {H2 : Hp} {Q : VK} {E : XK} {a b c : Int} {hs : List Pq} (hl : HasL K H2 [.int a,psD hs,.int b,.int c] vs) (hz : hs.length≤63) (h : ∀ v H3,Same H2 H3→CaughtIs C (verdict a hs b c) H3 v→Q v H3) : spCaught K C vs H2 Q E:=by
 refine ⟨a,hs,b,c,hl,hz,?_⟩
 cases hv : verdict a hs b c with
 | none =>
  rw [hv] at h
  exact fun H' s=>h _ H' s rfl
 | some pl =>
  rw [hv] at h
  exact fun e dx H' s x=>h _ H' s ⟨e,dx,rfl,x⟩
theorem ne3 (a b c m s g : Int) : neD (.tuple [.int a,.int b,.int c]) (.tuple [.int m,.int s,.int g]) = some (.bool (!(decide (a = m) && (decide (b = s) && decide (c = g))))):=by
 unfold neD
 rw [if_pos (by simp [PyData.depth,PyData.depthAll]),eqv3]
theorem ne_nil' (js : List Int) : neD (.list (js.map .int)) (.list []) = some (.bool !js.isEmpty):=by
 have key : PyData.depthAll (js.map .int)≤1:=by
  induction js with
  | nil=>simp [PyData.depthAll]
  | cons q js ih=>simp only [List.map_cons,PyData.depthAll,PyData.depth]; omega
 unfold neD
 rw [if_pos (by simp only [PyData.depth]; omega)]
 cases js with
 | nil=>simp [PyData.eqv,PyData.eqvAll]
 | cons j r=>simp [PyData.eqv,PyData.eqvAll]
theorem look_calm : ∀ vs H Q E,spV K m_look_at_hall vs H Q E→spLook K C vs H Q E0:=by
 rintro vs H Q E ⟨Gh,ds,sm,hl,b,d,e,q⟩
 unfold m_look_at_hall at e
 split at e
 ·rename_i h
  cases e
  obtain ⟨m,ps,s,g,rfl,hz,G⟩:=h
  refine ⟨m,ps,s,g,HasL.same sm hl,hz,?_⟩
  have hv : verdict m ps s g = none:=by
   have h1 : badHall m s g = false:=by
    unfold badHall
    have:=G.two
    have h1 : ¬ m < 2:=by omega
    simp [h1,G.ne,G.rs,G.rg]
   unfold verdict
   rw [h1,if_neg (by decide)]
   have fi : ps.findIdx? (fun q=>!isPas m q) = none:=by
    rw [List.findIdx?_eq_none_iff]
    intro x hx
    rw [G.all x hx]
    rfl
   rw [fi]
   rfl
  rw [hv]
  exact fun H' k=>q .non Gh H' ⟨k,Same.refl _,sm.trans k,fun _ _ z=>.inl z,fun _ _ _ z=>z⟩ rfl
 ·cases e
theorem sc_law : FnScope ["_law_script","_law_many","_law_passages","_law_start","_law_goal","_law_rooms_here","_law_number","_law_handed","_law_places","_law_k","_law_at","_law_spoiled_here","_law_caught_here","_law_place_here"] ["_law_script"] (defScope (top 26)):=⟨rfl,rfl,rfl,by decide +kernel,rfl,by decide +kernel,by decide +kernel⟩
theorem ok_law {f : Addr} {fd : FuncData} (F : Fun K "law" "law" (top 26) f fd) (B : Bl mg) (KT : Kits K) (C_law_hall : Cal P w K mg base 4 "_law_hall" ["_law_script"] (spV K m__law_hall)) (C_law_rooms : Cal P w K mg base 2 "_law_rooms" ["_law_script", "_law_many", "_law_start", "_law_goal"] (spV K m__law_rooms)) (C_law_mixed : Cal P w K mg base 1 "_law_mixed" ["_law_cell", "_law_k"] (spV K m__law_mixed)) (C_law_cell_at : Cal P w K mg base 1 "_law_cell_at" ["_law_script", "_law_k"] (spV K m__law_cell_at)) (C_law_spoiled : Cal P w K mg base 2 "_law_spoiled" ["_law_cell", "_law_passage_here", "_law_many"] (spV K m__law_spoiled)) (C_law_whole : Cal P w K mg base 1 "_law_whole" ["_law_found"] (spV K m__law_whole)) (C_law_caught : Cal P w K mg base 4 "_law_caught" ["_law_many", "_law_passages", "_law_start", "_law_goal"] (spCaught K C)) (C_law_place : Cal P w K mg base 4 "_law_place" ["_law_many", "_law_passages", "_law_start", "_law_goal"] (spPlace K)) (C_law_is : Cal P w K mg base 2 "_law_is" ["_law_caught_here", "_law_at"] (spIs C)) (Clook_at_hall : Cal P w K mg base 3 "look_at_hall" ["many", "passages", "start", "goal"] (spV K m_look_at_hall)) : FnOk P w K mg base CX0 5 f fd ["_law_script"] (spLaw K) := by
  have nd := sc_law.nd
  have vt := (show (["_law_script", "_law_many", "_law_passages", "_law_start", "_law_goal", "_law_rooms_here", "_law_number", "_law_handed", "_law_places", "_law_k", "_law_at", "_law_spoiled_here", "_law_caught_here", "_law_place_here"] : List Str).all (fun x => visB (defScope (top 26)) x && plain x) = true by decide +kernel)
  refine Fun.ok (k := 4) F sc_law (fun vs H Q E h => by obtain ⟨_, _, rfl, _⟩ := h; rfl) fun cdv A outer s0 H vs Q E hr hsp => ?_
  refine ⟨_, (sThen (sAs (ps_asg (dCal (peCal C_law_hall (hr.mono (by decide)) (gl (sc := (defScope (top 26))) (by decide +kernel)) (paC (dF (pV vt 0)) pa0))) (tgT (n := 4) rfl (tgC (tgN (pg_name (i := 1) nd rfl (lo (sc := (defScope (top 26))) (by decide +kernel)))) (tgC (tgN (pg_name (i := 2) nd rfl (lo (sc := (defScope (top 26))) (by decide +kernel)))) (tgC (tgN (pg_name (i := 3) nd rfl (lo (sc := (defScope (top 26))) (by decide +kernel)))) (tgC (tgN (pg_name (i := 4) nd rfl (lo (sc := (defScope (top 26))) (by decide +kernel)))) tg0)))))))
    (sThen (sAs (ps_asg (dCal (peCal C_law_rooms (hr.mono (by decide)) (gl (sc := (defScope (top 26))) (by decide +kernel)) (paC (dF (pV vt 0)) (paC (dF (pV vt 1)) (paC (dF (pV vt 3)) (paC (dF (pV vt 4)) pa0)))))) (tgN (pg_name (i := 5) nd rfl (lo (sc := (defScope (top 26))) (by decide +kernel))))))
    (sThen (sAs (ps_asg (dCal (peCal C_law_mixed (hr.mono (by decide)) (gl (sc := (defScope (top 26))) (by decide +kernel)) (paC (dCal (peCal C_law_cell_at (hr.mono (by decide)) (gl (sc := (defScope (top 26))) (by decide +kernel)) (paC (dF (pV vt 0)) (paC dInt pa0)))) (paC dInt pa0)))) (tgN (pg_name (i := 6) nd rfl (lo (sc := (defScope (top 26))) (by decide +kernel))))))
    (sThen (sOw (i := 7) (ps_set nd rfl (lo (sc := (defScope (top 26))) (by decide +kernel)) (dListOf (pe_callTy cList (gl (sc := (defScope (top 26))) (by decide +kernel)) B.list PyProof.Rows.boot_list (pa_cons (dN (pV vt 2)) pa_nil)))))
    (sThen (sOw (i := 8) (ps_set nd rfl (lo (sc := (defScope (top 26))) (by decide +kernel)) (dLst pa0)))
    (sThen (sFor (ps_for PassesOwn.never rfl (itR1 (pi_range1 (gl (sc := (defScope (top 26))) (by decide +kernel)) B.range (pwC (sw (dOp oMod hMod (mw (dN (pV vt 6))) (sw dInt))) pw0))) (tgN (pg_name (i := 9) nd rfl (lo (sc := (defScope (top 26))) (by decide +kernel))))
 (sOne (sIf (cCmp oGt hGt (sw (dCB (pe_callB cLen (gl (sc := (defScope (top 26))) (by decide +kernel)) B.len PySem.boot_len (pwC (mw (dN (pV vt 2))) pw0)) hLen)) (sw dInt))
 (sSeq (sAs (ps_asg (dOp oMod hMod (sw (dOp oDiv hDiv (mw (dN (pV vt 6))) (sw (dOp oAdd hAdd (sw dInt) (sw (dOp oMul hMul (sw dInt) (mw (dN (pV vt 9))))))))) (sw (dCB (pe_callB cLen (gl (sc := (defScope (top 26))) (by decide +kernel)) B.len PySem.boot_len (pwC (mw (dN (pV vt 2))) pw0)) hLen))) (tgN (pg_name (i := 10) nd rfl (lo (sc := (defScope (top 26))) (by decide +kernel))))))
 (sSeq (sPut (i := 7) (ps_asg (dCal (peCal C_law_spoiled (hr.mono (by decide)) (gl (sc := (defScope (top 26))) (by decide +kernel)) (paC (dCal (peCal C_law_cell_at (hr.mono (by decide)) (gl (sc := (defScope (top 26))) (by decide +kernel)) (paC (dF (pV vt 0)) (paC (dOp oAdd hAdd (sw dInt) (mw (dN (pV vt 9)))) pa0)))) (paC (dIx (dN (pV vt 2)) (mw (dN (pV vt 10)))) (paC (dF (pV vt 1)) pa0))))) (pg_sub (pV vt 7) (mw (dN (pV vt 10))) setL)))
 (sOne (sApp (i := 8) (ps_expr (peApp (pV vt 8) (paC (dF (pV vt 10)) pa0)))))))
 sNil))))
    (pss_cons (sAs (ps_asg (ns (dListOf (pe_callTy cList (gl (sc := (defScope (top 26))) (by decide +kernel)) B.list PyProof.Rows.boot_list (pa_cons (dN (pV vt 7)) pa_nil)))) (tgN (pg_name (i := 11) nd rfl (lo (sc := (defScope (top 26))) (by decide +kernel))))))
    (pss_cons (ps_set (i := 12) nd rfl (lo (sc := (defScope (top 26))) (by decide +kernel)) (peCal C_law_caught (hr.mono (by decide)) (gl (sc := (defScope (top 26))) (by decide +kernel)) (pwC (sw (dIx (dN (pV vt 5)) (sw dInt))) (pwC (mw (dN (pV vt 7))) (pwC (sw (dIx (dN (pV vt 5)) (sw dInt))) (pwC (sw (dIx (dN (pV vt 5)) (sw dInt))) pw0))))))
    (pss_cons (ps_set (i := 13) nd rfl (lo (sc := (defScope (top 26))) (by decide +kernel)) (peCal C_law_place (hr.mono (by decide)) (gl (sc := (defScope (top 26))) (by decide +kernel)) (pwC (sw (dIx (dN (pV vt 5)) (sw dInt))) (pwC (mw (dN (pV vt 7))) (pwC (sw (dIx (dN (pV vt 5)) (sw dInt))) (pwC (sw (dIx (dN (pV vt 5)) (sw dInt))) pw0))))))
    (pss_cons (ps_if (cCmp (op_neD hr.units) hNe (mw (dN (pV vt 5))) (sw (dTup (paC (dF (pV vt 1)) (paC (dF (pV vt 3)) (paC (dF (pV vt 4)) pa0)))))) (pss_one (ps_if (PW.pt (pw_or (pt_not (ptV (peCal C_law_is (hr.mono (by decide)) (gl (sc := (defScope (top 26))) (by decide +kernel)) (pa_cons (pV vt 12) (pa_cons pe_int pa_nil))))) (pw_or1 (cCmp oNotN hIsn (mw (dN (pV vt 13))) (sw dNone))))) (pss_one (ps_ret pe_bl)) pss_nil))
      (pss_one (ps_if (cCmp (op_neD hr.units) hNe (mw (dN (pV vt 8))) (nw (dLst pa0))) (pss_one (ps_if (PW.pt (pw_or (pt_not (ptV (peCal C_law_is (hr.mono (by decide)) (gl (sc := (defScope (top 26))) (by decide +kernel)) (pa_cons (pV vt 12) (pa_cons pe_int pa_nil))))) (pw_or (cNot (cVal (dCal (peCal C_law_whole (hr.mono (by decide)) (gl (sc := (defScope (top 26))) (by decide +kernel)) (paC (dF (pV vt 13)) pa0))))) (pw_or1 (cCmp (op_neD hr.units) hNe (mw (dN (pV vt 13))) (sw (dCB (pe_callB (cMin rfl) (gl (sc := (defScope (top 26))) (by decide +kernel)) B.min PyProof.Rows.boot_min (pwC (mw (dN (pV vt 8))) pw0)) hMin))))))) (pss_one (ps_ret pe_bl)) pss_nil))
        (pss_one (ps_if (ptC oNotN (pV vt 12) pe_non) (pss_one (ps_ret pe_bl)) pss_nil)))))
    (sSeq (sIf (cCmp (op_neD hr.units) hNe (mw (dN (pV vt 7))) (mw (dN (pV vt 11))))
 (sOne (sRet dBool))
 sNil)
 (sSeq (sFz (i := 8) (sFor (ps_for PassesOwn.never rfl (itL (dF (pV vt 8))) (tgN (pg_name (i := 10) nd rfl (lo (sc := (defScope (top 26))) (by decide +kernel))))
 (sOne (sPut (i := 7) (ps_asg (dIx (dN (pV vt 2)) (mw (dN (pV vt 10)))) (pg_sub (pV vt 7) (mw (dN (pV vt 10))) setL)))))))
 (sOne (sRet (dCmp oIsN hIs (sw (dCalW (peCal Clook_at_hall (hr.mono (by decide)) (gl (sc := (defScope (top 26))) (by decide +kernel)) (pwC (mw (dN (pV vt 1))) (pwC (mw (dN (pV vt 7))) (pwC (mw (dN (pV vt 3))) (pwC (mw (dN (pV vt 4))) pw0))))))) (sw dNone)))))))))))))))), ?_⟩
  obtain ⟨sc, ns, rfl, hsc, hns, hq⟩ := hsp
  obtain ⟨m, ps, s, g, a, b, c, n, hs, js, v1, v2, eA, G, hpl, hsl, hjl, hr'⟩ := e_A hns
  have hhl : hs.length ≤ 63 := by rw [hsl.len]; exact hpl
  have fr0 : FrAt K H (ini 14 [.list (ns.map .int)]) [some (.ref sc), none, none, none, none, none, none, none, none, none, none, none, none, none] :=
    ⟨.ref sc, _, rfl, rfl, ⟨sc, _, rfl, hsc, HasL.ints.mpr rfl⟩, none, _, rfl, none, _, rfl, none, _, rfl, none, _, rfl, none, _, rfl, none, _, rfl, none, _, rfl, none, _, rfl, none, _, rfl, none, _, rfl, none, _, rfl, none, _, rfl, none, _, rfl, rfl⟩
  unfold tSeq
  refine ⟨_, _, _, _, _, fr0.vi, ?_⟩
  show OutOk K _ _ _ _ (gA (ini 14 [.list (ns.map .int)]))
  rw [eA]
  intro F1 σ1 H1 I1
  have I1' := I1
  unfold st1 at I1
  unfold tAsg gName tCall
  refine ⟨_, _, _, _, F1, I1, [.int a, psD hs, .int b, .int c], ?_, fun vs F2 H2 g2 hl2 => ?_⟩
  · walk_at "e1"
  try dsimp only
  rw [List.append_nil]
  have I2 := I1.grow g2
  refine caught_all hl2 hhl fun v H3 s3 hv => ?_
  generalize hV : verdict a hs b c = V at hv
  try dsimp only
  have I3 := VI.skip (i := 12) (v := v) (VI.grow I2 (grow_same I2.sub s3)) rfl
  refine ⟨_, _, _, _, F2, I3, [.int a, psD hs, .int b, .int c], ?_, fun vs' F4 H4 g4 hl4 => ?_⟩
  · walk_at "e1"
  try dsimp only
  rw [List.append_nil]
  refine ⟨a, hs, b, c, hl4, hhl, fun H5 s5 => ?_⟩
  rw [hV]
  try dsimp only
  have I4 := I3.grow g4
  have I5 := VI.set (i := 13) (I4.grow (grow_same I4.sub s5)) (has_plD (K := K) (H := F4) V)
  simp only [List.set_cons_zero, List.set_cons_succ] at I5
  have hv5 : CaughtIs C V H5 v := hv.grow (g4.hh.trans s5)
  have hlen : σ1.length = 14 := I1.len.symm
  have σ12 : ((σ1.set 12 (some v)).set 13 (some (placeV V)))[12]? = some (some v) := by
    rw [List.getElem?_set_ne (by decide), List.getElem?_set_self (by omega)]
  generalize (σ1.set 12 (some v)).set 13 (some (placeV V)) = σ5 at I5 σ12 ⊢
  have fin : ∀ F6 H6, VI K (fun _ => none) H H [some (Tg.fr, .list (ns.map .int)), some (Tg.fr, .int m), some (Tg.fr, psD ps), some (Tg.fr, .int s), some (Tg.fr, .int g), some (Tg.fr, .tuple [.int a, .int b, .int c]), some (Tg.fr, .int n), some (Tg.ow, psD hs), some (Tg.ow, .list (js.map .int)), ob v1, ob v2, some (Tg.fr, psD hs), none, some (Tg.fr, plD V)] F6 σ5 H6 →
      tVS K gD { nx := fun _ H' => Q .non H', rt := Q } σ5 H6 := fun F6 H6 I6 => by
    obtain ⟨S7, e7⟩ := e_D (ns := ns) (a := a) (b := b) (c := c) (n := n) (x := v1) (y := v2) G hpl hsl
    refine ⟨_, _, _, _, F6, VI.less I6 (S' := [some (Tg.fr, .list (ns.map .int)), some (Tg.fr, .int m), some (Tg.fr, psD ps), some (Tg.fr, .int s), some (Tg.fr, .int g), some (Tg.fr, .tuple [.int a, .int b, .int c]), some (Tg.fr, .int n), some (Tg.ow, psD hs), some (Tg.ow, .list (js.map .int)), ob v1, ob v2, some (Tg.fr, psD hs), none, none]) rfl (fun i t d e => ?_), ?_⟩
    · rcases Nat.lt_or_ge i 13 with hi | hi
      · have : ∀ (l : GS) (x y : Option (Tg × PyData)), l.length = 13 → (l ++ [x])[i]? = (l ++ [y])[i]? := fun l x y hl => by
          rw [List.getElem?_append_left (by omega), List.getElem?_append_left (by omega)]
        rw [← e]
        exact this [some (Tg.fr, .list (ns.map .int)), some (Tg.fr, .int m), some (Tg.fr, psD ps), some (Tg.fr, .int s), some (Tg.fr, .int g), some (Tg.fr, .tuple [.int a, .int b, .int c]), some (Tg.fr, .int n), some (Tg.ow, psD hs), some (Tg.ow, .list (js.map .int)), ob v1, ob v2, some (Tg.fr, psD hs), none] _ _ rfl
      · rcases Nat.lt_or_ge i 14 with hi' | hi'
        · obtain rfl : i = 13 := by omega
          cases e
        · rw [List.getElem?_eq_none (by exact hi')] at e
          cases e
    · rw [e7]
      intro u F8 σ8 H8 I8 r8
      cases (show u = .bl true from r8)
      exact hq H8
  unfold tIfS tRet tOr tNot tTM tCons tNil tOp tC tNext
  rcases hr' with ⟨ea, eb, ec⟩ | ⟨hne, hbad⟩
  · subst ea eb ec
    have hbH : badHall a b c = false := by
      unfold badHall
      have := G.two
      have h1 : ¬ a < 2 := by omega
      simp [h1, G.ne, G.rs, G.rg]
    unfold verdict at hV
    rw [hbH, if_neg (by decide)] at hV
    obtain ⟨f1, f2⟩ := hsl.first G.all
    refine ⟨_, _, _, _, F4, I5, false, ?_, fun F6 H6 g6 => ?_⟩
    · walk_at "e1"
      rw [ne3]
      simp
    have I6 := I5.grow g6
    have hv6 := hv5.grow g6.hh
    try dsimp only
    rw [if_neg (by decide)]
    refine ⟨_, _, _, _, F6, I6, !js.isEmpty, ?_, fun F7 H7 g7 => ?_⟩
    · walk_at "e1"
      rw [ne_nil']
    have I7 := I6.grow g7
    have hv7 := hv6.grow g7.hh
    try dsimp only
    cases hj : js with
    | nil =>
      rw [if_neg (by simp)]
      rw [(f1 hj).2] at hV
      have hV : V = none := hV.symm
      subst hV
      cases (show v = .non from hv7)
      refine vR_at σ12 ?_
      exact (show (if false = true then Q (.bl false) H7 else tVS K gD { nx := fun _ H' => Q .non H', rt := Q } σ5 H7) from by rw [if_neg (by decide)]; exact fin F7 H7 I7)
    | cons j r =>
      obtain ⟨k, fk, _, lk⟩ := f2 j r hj
      rw [fk] at hV
      have hV : V = some (some k) := hV.symm
      subst hV
      obtain ⟨e, dx, rfl, ex⟩ := hv7
      rw [if_pos (by simp)]
      refine vR_at σ12 ⟨e, dx, _, rfl, ex, fun H8 s8 => ?_⟩
      show (if (!true) = true then _ else _)
      rw [if_neg (by decide)]
      have I8 := I7.grow (grow_same I7.sub s8)
      refine ⟨_, _, _, _, F7, I8, false, ?_, fun F9 H9 g9 => ?_⟩
      · simp only [plD]
        walk_at "e1"
        rw [e_whole]
        walk_at "e1"
      have I9 := I8.grow g9
      try dsimp only
      rw [if_neg (by decide)]
      refine ⟨_, _, _, _, F9, I9, false, ?_, fun F10 H10 g10 => ?_⟩
      · simp only [plD]
        walk_at "e1"
        have em : minD [.list (js.map .int)] = some (.int (k : Int)) := by
          show (match intsOf (js.map .int) with | some (n :: r) => some (PyData.int (leastOf (n :: r))) | _ => none) = _
          rw [intsOf_map, hj]
          show some (PyData.int (leastOf (j :: r))) = _
          rw [← hj, lk]
        rw [em]
        walk_at "e1"
        simp
      try dsimp only
      rw [if_neg (by decide)]
      exact fin F10 H10 (I9.grow g10)
  · have hbH : badHall a b c = true := hbad
    unfold verdict at hV
    rw [hbH, if_pos rfl] at hV
    have hV : V = some none := hV.symm
    subst hV
    refine ⟨_, _, _, _, F4, I5, true, ?_, fun F6 H6 g6 => ?_⟩
    · walk_at "e1"
      rw [ne3]
      have z : (decide (a = m) && (decide (b = s) && decide (c = g))) = false := by
        rw [Bool.eq_false_iff]
        intro z
        simp only [Bool.and_eq_true, decide_eq_true_eq] at z
        exact hne (by rw [z.1, z.2.1, z.2.2])
      rw [z]
      rfl
    have I6 := I5.grow g6
    obtain ⟨e, dx, rfl, ex⟩ := hv5.grow g6.hh
    try dsimp only
    rw [if_pos rfl]
    refine vR_at σ12 ⟨e, dx, _, rfl, ex, fun H8 s8 => ?_⟩
    show (if (!true) = true then _ else _)
    rw [if_neg (by decide)]
    have I8 := I6.grow (grow_same I6.sub s8)
    refine ⟨_, _, _, _, F6, I8, false, ?_, fun F9 H9 g9 => ?_⟩
    · simp only [plD]
      walk_at "e1"
    try dsimp only
    rw [if_neg (by decide)]
    exact fin F9 H9 (I8.grow g9)
end
end K02
namespace K02
open PySem L2 VM
set_option maxHeartbeats 4000000
theorem all_mk {l : PySem.W.OpenLaw} {w : World} {K : PySem.W.Frag} {h : Heap} {mg : Str→Option Value} {fa C D fi NN TT f0 f1 f2 f3 f4 f5 f6 f7 f8 f9 f10 f11 f12 f13 f14 f15 e0 e1 e2 e3 e4 e5 : Addr} (X : K.In h) (G : h.Ns mainGlobals mg) (hfa : mg "law" = some (.ref fa)) {odi odT ani dd od0 an0 od1 an1 od2 an2 od3 an3 od4 an4 od5 an5 od6 an6 od7 an7 od8 an8 od9 an9 od10 an10 od11 an11 od12 an12 od13 an13 od14 an14 od15 an15 : Option Addr} {sli slT sl0 sl1 sl2 sl3 sl4 sl5 sl6 sl7 sl8 sl9 sl10 sl11 sl12 sl13 sl14 sl15 : Array (Option Value)} {nT : Nat} {oci ocT kVi dci pmi cdi cti oc0 kV0 dc0 pm0 cd0 ct0 oc1 kV1 dc1 pm1 cd1 ct1 oc2 kV2 dc2 pm2 cd2 ct2 oc3 kV3 dc3 pm3 cd3 ct3 oc4 kV4 dc4 pm4 cd4 ct4 oc5 kV5 dc5 pm5 cd5 ct5 oc6 kV6 dc6 pm6 cd6 ct6 oc7 kV7 dc7 pm7 cd7 ct7 oc8 kV8 dc8 pm8 cd8 ct8 oc9 kV9 dc9 pm9 cd9 ct9 oc10 kV10 dc10 pm10 cd10 ct10 oc11 kV11 dc11 pm11 cd11 ct11 oc12 kV12 dc12 pm12 cd12 ct12 oc13 kV13 dc13 pm13 cd13 ct13 oc14 kV14 dc14 pm14 cd14 ct14 oc15 kV15 dc15 pm15 cd15 ct15 : Value} {nm qn : Str} {bs sub : List Value} {sn : List Str} {ab : Bool} {col : Option Bool} {k_0 k_1 k_2 k_3 k_5 : Option Value}
  (a0 : PySem.W.nsIn K mainGlobals "is_room" = some (some (.ref f0)))
  (l0 : K.lookup f0 = some ⟨oc0,od0,.func (PySem.W.fnOf "is_room" "is_room" (defArgs (top 11)) (defBody (top 11)) (defScope (top 11)) .none kV0 dc0 pm0 an0 cd0 ct0),sl0⟩)
  (c0 : PySem.W.codeIn K cd0 "is_room" = true)
  (k0 : PySem.W.keepIn K (.ref f0) = true)
  (a1 : PySem.W.nsIn K mainGlobals "is_passage" = some (some (.ref f1)))
  (l1 : K.lookup f1 = some ⟨oc1,od1,.func (PySem.W.fnOf "is_passage" "is_passage" (defArgs (top 12)) (defBody (top 12)) (defScope (top 12)) .none kV1 dc1 pm1 an1 cd1 ct1),sl1⟩)
  (c1 : PySem.W.codeIn K cd1 "is_passage" = true)
  (k1 : PySem.W.keepIn K (.ref f1) = true)
  (a2 : PySem.W.nsIn K mainGlobals "look_at_hall" = some (some (.ref f2)))
  (l2 : K.lookup f2 = some ⟨oc2,od2,.func (PySem.W.fnOf "look_at_hall" "look_at_hall" (defArgs (top 10)) (defBody (top 10)) (defScope (top 10)) .none kV2 dc2 pm2 an2 cd2 ct2),sl2⟩)
  (c2 : PySem.W.codeIn K cd2 "look_at_hall" = true)
  (k2 : PySem.W.keepIn K (.ref f2) = true)
  (a3 : PySem.W.nsIn K mainGlobals "_law_cell_at" = some (some (.ref f3)))
  (l3 : K.lookup f3 = some ⟨oc3,od3,.func (PySem.W.fnOf "_law_cell_at" "_law_cell_at" (defArgs (top 14)) (defBody (top 14)) (defScope (top 14)) .none kV3 dc3 pm3 an3 cd3 ct3),sl3⟩)
  (c3 : PySem.W.codeIn K cd3 "_law_cell_at" = true)
  (k3 : PySem.W.keepIn K (.ref f3) = true)
  (a4 : PySem.W.nsIn K mainGlobals "_law_mixed" = some (some (.ref f4)))
  (l4 : K.lookup f4 = some ⟨oc4,od4,.func (PySem.W.fnOf "_law_mixed" "_law_mixed" (defArgs (top 15)) (defBody (top 15)) (defScope (top 15)) .none kV4 dc4 pm4 an4 cd4 ct4),sl4⟩)
  (c4 : PySem.W.codeIn K cd4 "_law_mixed" = true)
  (k4 : PySem.W.keepIn K (.ref f4) = true)
  (a5 : PySem.W.nsIn K mainGlobals "_law_whole" = some (some (.ref f5)))
  (l5 : K.lookup f5 = some ⟨oc5,od5,.func (PySem.W.fnOf "_law_whole" "_law_whole" (defArgs (top 16)) (defBody (top 16)) (defScope (top 16)) .none kV5 dc5 pm5 an5 cd5 ct5),sl5⟩)
  (c5 : PySem.W.codeIn K cd5 "_law_whole" = true)
  (k5 : PySem.W.keepIn K (.ref f5) = true)
  (a6 : PySem.W.nsIn K mainGlobals "_law_great" = some (some (.ref f6)))
  (l6 : K.lookup f6 = some ⟨oc6,od6,.func (PySem.W.fnOf "_law_great" "_law_great" (defArgs (top 17)) (defBody (top 17)) (defScope (top 17)) .none kV6 dc6 pm6 an6 cd6 ct6),sl6⟩)
  (c6 : PySem.W.codeIn K cd6 "_law_great" = true)
  (k6 : PySem.W.keepIn K (.ref f6) = true)
  (a7 : PySem.W.nsIn K mainGlobals "_law_passage" = some (some (.ref f7)))
  (l7 : K.lookup f7 = some ⟨oc7,od7,.func (PySem.W.fnOf "_law_passage" "_law_passage" (defArgs (top 18)) (defBody (top 18)) (defScope (top 18)) .none kV7 dc7 pm7 an7 cd7 ct7),sl7⟩)
  (c7 : PySem.W.codeIn K cd7 "_law_passage" = true)
  (k7 : PySem.W.keepIn K (.ref f7) = true)
  (a8 : PySem.W.nsIn K mainGlobals "_law_hall" = some (some (.ref f8)))
  (l8 : K.lookup f8 = some ⟨oc8,od8,.func (PySem.W.fnOf "_law_hall" "_law_hall" (defArgs (top 19)) (defBody (top 19)) (defScope (top 19)) .none kV8 dc8 pm8 an8 cd8 ct8),sl8⟩)
  (c8 : PySem.W.codeIn K cd8 "_law_hall" = true)
  (k8 : PySem.W.keepIn K (.ref f8) = true)
  (a9 : PySem.W.nsIn K mainGlobals "_law_is" = some (some (.ref f9)))
  (l9 : K.lookup f9 = some ⟨oc9,od9,.func (PySem.W.fnOf "_law_is" "_law_is" (defArgs (top 20)) (defBody (top 20)) (defScope (top 20)) .none kV9 dc9 pm9 an9 cd9 ct9),sl9⟩)
  (c9 : PySem.W.codeIn K cd9 "_law_is" = true)
  (k9 : PySem.W.keepIn K (.ref f9) = true)
  (a10 : PySem.W.nsIn K mainGlobals "_law_no_room" = some (some (.ref f10)))
  (l10 : K.lookup f10 = some ⟨oc10,od10,.func (PySem.W.fnOf "_law_no_room" "_law_no_room" (defArgs (top 21)) (defBody (top 21)) (defScope (top 21)) .none kV10 dc10 pm10 an10 cd10 ct10),sl10⟩)
  (c10 : PySem.W.codeIn K cd10 "_law_no_room" = true)
  (k10 : PySem.W.keepIn K (.ref f10) = true)
  (a11 : PySem.W.nsIn K mainGlobals "_law_spoiled" = some (some (.ref f11)))
  (l11 : K.lookup f11 = some ⟨oc11,od11,.func (PySem.W.fnOf "_law_spoiled" "_law_spoiled" (defArgs (top 22)) (defBody (top 22)) (defScope (top 22)) .none kV11 dc11 pm11 an11 cd11 ct11),sl11⟩)
  (c11 : PySem.W.codeIn K cd11 "_law_spoiled" = true)
  (k11 : PySem.W.keepIn K (.ref f11) = true)
  (a12 : PySem.W.nsIn K mainGlobals "_law_rooms" = some (some (.ref f12)))
  (l12 : K.lookup f12 = some ⟨oc12,od12,.func (PySem.W.fnOf "_law_rooms" "_law_rooms" (defArgs (top 23)) (defBody (top 23)) (defScope (top 23)) .none kV12 dc12 pm12 an12 cd12 ct12),sl12⟩)
  (c12 : PySem.W.codeIn K cd12 "_law_rooms" = true)
  (k12 : PySem.W.keepIn K (.ref f12) = true)
  (a13 : PySem.W.nsIn K mainGlobals "_law_caught" = some (some (.ref f13)))
  (l13 : K.lookup f13 = some ⟨oc13,od13,.func (PySem.W.fnOf "_law_caught" "_law_caught" (defArgs (top 24)) (defBody (top 24)) (defScope (top 24)) .none kV13 dc13 pm13 an13 cd13 ct13),sl13⟩)
  (c13 : PySem.W.codeIn K cd13 "_law_caught" = true)
  (k13 : PySem.W.keepIn K (.ref f13) = true)
  (a14 : PySem.W.nsIn K mainGlobals "_law_place" = some (some (.ref f14)))
  (l14 : K.lookup f14 = some ⟨oc14,od14,.func (PySem.W.fnOf "_law_place" "_law_place" (defArgs (top 25)) (defBody (top 25)) (defScope (top 25)) .none kV14 dc14 pm14 an14 cd14 ct14),sl14⟩)
  (c14 : PySem.W.codeIn K cd14 "_law_place" = true)
  (k14 : PySem.W.keepIn K (.ref f14) = true)
  (a15 : PySem.W.nsIn K mainGlobals "law" = some (some (.ref f15)))
  (l15 : K.lookup f15 = some ⟨oc15,od15,.func (PySem.W.fnOf "law" "law" (defArgs (top 26)) (defBody (top 26)) (defScope (top 26)) .none kV15 dc15 pm15 an15 cd15 ct15),sl15⟩)
  (c15 : PySem.W.codeIn K cd15 "law" = true)
  (k15 : PySem.W.keepIn K (.ref f15) = true)
  (aC : PySem.W.nsIn K mainGlobals "NoHall" = some (some (.ref C)))
  (aD : PySem.W.nsIn K mainGlobals "HallError" = some (some (.ref D)))
  (xo : K.lookup C = some (excClassObj nm qn C NN bs (.ref D :: EX.bmV) true sn sub ab col dd k_0 k_1 k_2 k_3 k_5 "ValueError.__new__"))
  (xt : PySem.W.excIn K D [.type "ValueError",.type "Exception",.type "BaseException",.type "object"] "ValueError.__new__" = true)
  (dg : PySem.W.specialIn K (.ref D) "__getattribute__" = some (some (.builtin "type.__getattribute__")))
  (dr : PySem.W.readsIn K D (.type "type") = true)
  (di : PySem.W.findCls K (.ref D) (.type "type") "__init__" = some (.val (.builtin "ValueError.__init__")))
  (x1 : PySem.W.findIn K (.ref C) "__getattribute__" = some (some (.builtin "BaseException.__getattribute__")))
  (x2 : PySem.W.findIn K (.ref C) "__getattr__" = some none)
  (x3 : PySem.W.hasDictIn K C = true)
  (x4 : PySem.W.mroIn K C (.type "BaseException") = some true)
  (x5 : PySem.W.mroIn K C (.type "object") = some true)
  (x6 : PySem.W.findIn K (.ref C) "__class__" = some (some (.builtin "object.__class__")))
  (x7 : PySem.W.specialIn K (.builtin "object.__class__") "__get__" = some (some (.builtin "getset_descriptor.__get__")))
  (x8 : PySem.W.takesIn K (.builtin "object.__class__") = some true)
  (iI : PySem.W.findIn K (.ref C) "__init__" = some (some (.ref fi)))
  (iF : PySem.W.isFn K (.ref fi) = true)
  (kC : PySem.W.keepIn K (.ref C) = true)
  (sa : PySem.W.findIn K (.ref C) "__setattr__" = some (some (.builtin "object.__setattr__")))
  (pl : PySem.W.findIn K (.ref C) "place" = some none)
  (cc : PySem.W.mroIn K C (.ref C) = some true)
  (cd : PySem.W.mroIn K C (.ref D) = some true)
  (bD : PySem.W.mroIn K D (.type "BaseException") = some true)
  (tC : PySem.W.typeIn K (.ref C) = some (.type "type"))
  (tD : PySem.W.typeIn K (.ref D) = some (.type "type"))
  (li : K.lookup fi = some ⟨oci,odi,.func (PySem.W.fnOf "__init__" "NoHall.__init__" (defArgs ini0) (defBody ini0) (defScope ini0) (.ref TT) kVi dci pmi ani cdi cti),sli⟩)
  (lT : K.lookup TT = some ⟨ocT,odT,.seq #[.none] nT,slT⟩)
  (ci : PySem.W.codeIn K cdi "NoHall.__init__" = true)
  (o0 : PySem.W.nsIn K mainGlobals "NoName" = some (some (.ref e0)))
  (p0 : PySem.W.kitOne K (.ref C) (.ref e0) = some false)
  (o1 : PySem.W.nsIn K mainGlobals "Twice" = some (some (.ref e1)))
  (p1 : PySem.W.kitOne K (.ref C) (.ref e1) = some false)
  (o2 : PySem.W.nsIn K mainGlobals "TooMany" = some (some (.ref e2)))
  (p2 : PySem.W.kitOne K (.ref C) (.ref e2) = some false)
  (o3 : PySem.W.nsIn K mainGlobals "NoPassage" = some (some (.ref e3)))
  (p3 : PySem.W.kitOne K (.ref C) (.ref e3) = some false)
  (o4 : PySem.W.nsIn K mainGlobals "NoWidth" = some (some (.ref e4)))
  (p4 : PySem.W.kitOne K (.ref C) (.ref e4) = some false)
  (o5 : PySem.W.nsIn K mainGlobals "NoLine" = some (some (.ref e5)))
  (p5 : PySem.W.kitOne K (.ref C) (.ref e5) = some false)
  (p7 : PySem.W.kitOne K (.ref C) (.ref C) = some true)
  (p8 : PySem.W.kitOne K (.ref C) (.type "ValueError") = some true)
  (z_ValueError : PySem.W.nsIn K mainGlobals "ValueError" = some none)
  (z_len : PySem.W.nsIn K mainGlobals "len" = some none)
  (z_list : PySem.W.nsIn K mainGlobals "list" = some none)
  (z_range : PySem.W.nsIn K mainGlobals "range" = some none)
  (z_enumerate : PySem.W.nsIn K mainGlobals "enumerate" = some none)
  (z_zip : PySem.W.nsIn K mainGlobals "zip" = some none)
  (z_abs : PySem.W.nsIn K mainGlobals "abs" = some none)
  (z_sum : PySem.W.nsIn K mainGlobals "sum" = some none)
  (z_min : PySem.W.nsIn K mainGlobals "min" = some none)
  (z_max : PySem.W.nsIn K mainGlobals "max" = some none)
  (z_int : PySem.W.nsIn K mainGlobals "int" = some none)
  (z_bool : PySem.W.nsIn K mainGlobals "bool" = some none)
  (z_tuple : PySem.W.nsIn K mainGlobals "tuple" = some none)
  (z_str : PySem.W.nsIn K mainGlobals "str" = some none)
  (z_sorted : PySem.W.nsIn K mainGlobals "sorted" = some none)
  (z_set : PySem.W.nsIn K mainGlobals "set" = some none)
  (z_isinstance : PySem.W.nsIn K mainGlobals "isinstance" = some none) :
  ∃ fd : FuncData,(∀ (s : Shared) (v : Value),BindsTo s fd ⟨[v],[]⟩ [("_law_script",v)])∧∀ base : Heap,K.In base→base.Ns mainGlobals mg→FnOk l.prog w K mg base CX0 5 fa fd ["_law_script"] (spLaw K):=by
 have e:=hfa.symm.trans (PySem.W.mg_of X G a15)
 cases e
 have B : Bl mg:=⟨PySem.W.mg_none_of X G z_len,PySem.W.mg_none_of X G z_list,PySem.W.mg_none_of X G z_range,PySem.W.mg_none_of X G z_enumerate,PySem.W.mg_none_of X G z_zip,PySem.W.mg_none_of X G z_abs,PySem.W.mg_none_of X G z_sum,PySem.W.mg_none_of X G z_min,PySem.W.mg_none_of X G z_max,PySem.W.mg_none_of X G z_int,PySem.W.mg_none_of X G z_bool,PySem.W.mg_none_of X G z_tuple,PySem.W.mg_none_of X G z_str,PySem.W.mg_none_of X G z_sorted,PySem.W.mg_none_of X G z_set,PySem.W.mg_none_of X G z_isinstance⟩
 have cx2 : Cls2 K mg C D fi:=⟨⟨⟨nm,qn,NN,bs,sn,sub,ab,col,dd,k_0,k_1,k_2,k_3,k_5,xo⟩,EX.tail_of_exc xt⟩,⟨dg,dr,di⟩,⟨⟨x1,x2,x3,x4,x5⟩,x6,x7,x8⟩,iI,iF,kC,sa,pl,PySem.W.mg_of X G aC,PySem.W.mg_of X G aD,cc,cd,x4,bD,tC,tD⟩
 have cx7 : Cls7 K mg C:=⟨⟨e0,PySem.W.mg_of X G o0,p0⟩,⟨e1,PySem.W.mg_of X G o1,p1⟩,⟨e2,PySem.W.mg_of X G o2,p2⟩,⟨e3,PySem.W.mg_of X G o3,p3⟩,⟨e4,PySem.W.mg_of X G o4,p4⟩,⟨e5,PySem.W.mg_of X G o5,p5⟩,p7,p8,PySem.W.mg_none_of X G z_ValueError⟩
 have F0:=fun_mk (st:=top 11) l0 c0 k0
 have b0:=F0.binds (ps:=["many","room"]) fun _ _ _ _ _ _ us hl=>by obtain ⟨y0,y1,rfl⟩:=len2 hl; exact rfl
 have F1:=fun_mk (st:=top 12) l1 c1 k1
 have b1:=F1.binds (ps:=["many","passage"]) fun _ _ _ _ _ _ us hl=>by obtain ⟨y0,y1,rfl⟩:=len2 hl; exact rfl
 have F2:=fun_mk (st:=top 10) l2 c2 k2
 have b2:=F2.binds (ps:=["many","passages","start","goal"]) fun _ _ _ _ _ _ us hl=>by obtain ⟨y0,y1,y2,y3,rfl⟩:=len4 hl; exact rfl
 have F3:=fun_mk (st:=top 14) l3 c3 k3
 have b3:=F3.binds (ps:=["_law_script","_law_k"]) fun _ _ _ _ _ _ us hl=>by obtain ⟨y0,y1,rfl⟩:=len2 hl; exact rfl
 have F4:=fun_mk (st:=top 15) l4 c4 k4
 have b4:=F4.binds (ps:=["_law_cell","_law_k"]) fun _ _ _ _ _ _ us hl=>by obtain ⟨y0,y1,rfl⟩:=len2 hl; exact rfl
 have F5:=fun_mk (st:=top 16) l5 c5 k5
 have b5:=F5.binds (ps:=["_law_found"]) fun _ _ _ _ _ _ us hl=>by obtain ⟨y0,rfl⟩:=len1 hl; exact rfl
 have F6:=fun_mk (st:=top 17) l6 c6 k6
 have b6:=F6.binds (ps:=["_law_cell","_law_k"]) fun _ _ _ _ _ _ us hl=>by obtain ⟨y0,y1,rfl⟩:=len2 hl; exact rfl
 have F7:=fun_mk (st:=top 18) l7 c7 k7
 have b7:=F7.binds (ps:=["_law_cell","_law_many"]) fun _ _ _ _ _ _ us hl=>by obtain ⟨y0,y1,rfl⟩:=len2 hl; exact rfl
 have F8:=fun_mk (st:=top 19) l8 c8 k8
 have b8:=F8.binds (ps:=["_law_script"]) fun _ _ _ _ _ _ us hl=>by obtain ⟨y0,rfl⟩:=len1 hl; exact rfl
 have F9:=fun_mk (st:=top 20) l9 c9 k9
 have b9:=F9.binds (ps:=["_law_caught_here","_law_at"]) fun _ _ _ _ _ _ us hl=>by obtain ⟨y0,y1,rfl⟩:=len2 hl; exact rfl
 have F10:=fun_mk (st:=top 21) l10 c10 k10
 have b10:=F10.binds (ps:=["_law_number","_law_many"]) fun _ _ _ _ _ _ us hl=>by obtain ⟨y0,y1,rfl⟩:=len2 hl; exact rfl
 have F11:=fun_mk (st:=top 22) l11 c11 k11
 have b11:=F11.binds (ps:=["_law_cell","_law_passage_here","_law_many"]) fun _ _ _ _ _ _ us hl=>by obtain ⟨y0,y1,y2,rfl⟩:=len3 hl; exact rfl
 have F12:=fun_mk (st:=top 23) l12 c12 k12
 have b12:=F12.binds (ps:=["_law_script","_law_many","_law_start","_law_goal"]) fun _ _ _ _ _ _ us hl=>by obtain ⟨y0,y1,y2,y3,rfl⟩:=len4 hl; exact rfl
 have F13:=fun_mk (st:=top 24) l13 c13 k13
 have b13:=F13.binds (ps:=["_law_many","_law_passages","_law_start","_law_goal"]) fun _ _ _ _ _ _ us hl=>by obtain ⟨y0,y1,y2,y3,rfl⟩:=len4 hl; exact rfl
 have F14:=fun_mk (st:=top 25) l14 c14 k14
 have b14:=F14.binds (ps:=["_law_many","_law_passages","_law_start","_law_goal"]) fun _ _ _ _ _ _ us hl=>by obtain ⟨y0,y1,y2,y3,rfl⟩:=len4 hl; exact rfl
 have F15:=fun_mk (st:=top 26) l15 c15 k15
 have Fi : EX.FunD K "__init__" "NoHall.__init__" ini0 fi _:=⟨oci,odi,.ref TT,kVi,dci,pmi,ani,cdi,cti,sli,rfl,li,ci⟩
 have bi : Binds K (PySem.W.fnOf "__init__" "NoHall.__init__" (defArgs ini0) (defBody ini0) (defScope ini0) (.ref TT) kVi dci pmi ani cdi cti) ["self","place"] []:=fun s us X hl=>by
  rw [List.append_nil] at hl ⊢
  obtain ⟨y0,y1,rfl⟩:=len2 hl
  exact BindsTo.of_defaults rfl (X _ _ lT) rfl rfl rfl
 refine ⟨PySem.W.fnOf "law" "law" (defArgs (top 26)) (defBody (top 26)) (defScope (top 26)) .none kV15 dc15 pm15 an15 cd15 ct15,fun s v=>.of_eq rfl,fun base _ _=>?_⟩
 have Cis_room : Cal l.prog w K mg base 1 "is_room" ["many","room"] (spV K m_is_room):=⟨_,_,ok_is_room F0 B (kits K) ,PySem.W.mg_of X G a0,k0,b0⟩
 have Cis_passage : Cal l.prog w K mg base 2 "is_passage" ["many","passage"] (spV K m_is_passage):=⟨_,_,ok_is_passage F1 B (kits K) Cis_room,PySem.W.mg_of X G a1,k1,b1⟩
 have C_law_cell_at : Cal l.prog w K mg base 1 "_law_cell_at" ["_law_script","_law_k"] (spV K m__law_cell_at):=⟨_,_,ok__law_cell_at F3 B (kits K) ,PySem.W.mg_of X G a3,k3,b3⟩
 have C_law_mixed : Cal l.prog w K mg base 1 "_law_mixed" ["_law_cell","_law_k"] (spV K m__law_mixed):=⟨_,_,ok__law_mixed F4 B (kits K) ,PySem.W.mg_of X G a4,k4,b4⟩
 have C_law_whole : Cal l.prog w K mg base 1 "_law_whole" ["_law_found"] (spV K m__law_whole):=⟨_,_,ok__law_whole F5 B (kits K) ,PySem.W.mg_of X G a5,k5,b5⟩
 have C_law_great : Cal l.prog w K mg base 2 "_law_great" ["_law_cell","_law_k"] (spV K m__law_great):=⟨_,_,ok__law_great F6 B (kits K) C_law_mixed,PySem.W.mg_of X G a6,k6,b6⟩
 have C_law_passage : Cal l.prog w K mg base 3 "_law_passage" ["_law_cell","_law_many"] (spV K m__law_passage):=⟨_,_,ok__law_passage F7 B (kits K) C_law_mixed C_law_great,PySem.W.mg_of X G a7,k7,b7⟩
 have C_law_hall : Cal l.prog w K mg base 4 "_law_hall" ["_law_script"] (spV K m__law_hall):=⟨_,_,ok__law_hall F8 B (kits K) C_law_mixed C_law_cell_at C_law_passage,PySem.W.mg_of X G a8,k8,b8⟩
 have C_law_no_room : Cal l.prog w K mg base 1 "_law_no_room" ["_law_number","_law_many"] (spV K m__law_no_room):=⟨_,_,ok__law_no_room F10 B (kits K) ,PySem.W.mg_of X G a10,k10,b10⟩
 have C_law_spoiled : Cal l.prog w K mg base 2 "_law_spoiled" ["_law_cell","_law_passage_here","_law_many"] (spV K m__law_spoiled):=⟨_,_,ok__law_spoiled F11 B (kits K) C_law_mixed C_law_no_room,PySem.W.mg_of X G a11,k11,b11⟩
 have C_law_rooms : Cal l.prog w K mg base 2 "_law_rooms" ["_law_script","_law_many","_law_start","_law_goal"] (spV K m__law_rooms):=⟨_,_,ok__law_rooms F12 B (kits K) C_law_mixed C_law_cell_at C_law_no_room,PySem.W.mg_of X G a12,k12,b12⟩
 have Oi:=ok_init (P:=l.prog) (w:=w) (base:=base) Fi cx2
 have Ol:=ok_look (P:=l.prog) (w:=w) (base:=base) F2 B (kits K) cx2 Oi bi Cis_room Cis_passage
 have C_law_caught : Cal l.prog w K mg base 4 "_law_caught" ["_law_many","_law_passages","_law_start","_law_goal"] (spCaught K C):=⟨_,_,ok_caught F13 cx2 Ol (PySem.W.mg_of X G a2) k2 b2,PySem.W.mg_of X G a13,k13,b13⟩
 have C_law_place : Cal l.prog w K mg base 4 "_law_place" ["_law_many","_law_passages","_law_start","_law_goal"] (spPlace K):=⟨_,_,ok_place F14 cx2 Ol (PySem.W.mg_of X G a2) k2 b2,PySem.W.mg_of X G a14,k14,b14⟩
 have C_law_is : Cal l.prog w K mg base 2 "_law_is" ["_law_caught_here","_law_at"] (spIs C):=⟨_,_,ok_is F9 B (kits K) cx2 cx7,PySem.W.mg_of X G a9,k9,b9⟩
 have Clook_at_hall : Cal l.prog w K mg base 3 "look_at_hall" ["many","passages","start","goal"] (spV K m_look_at_hall):=⟨_,_,EX.calm Ol look_calm,PySem.W.mg_of X G a2,k2,b2⟩
 exact ok_law F15 B (kits K) C_law_hall C_law_rooms C_law_mixed C_law_cell_at C_law_spoiled C_law_whole C_law_caught C_law_place C_law_is Clook_at_hall
end K02
open PySem PySem.W PyProof.Rows
set_option maxRecDepth 100000 in
set_option maxHeartbeats 0 in
theorem PySem.Challenge.cw_leavehall_k02_halls_refused_holds : PySem.Challenge.rw_leavehall_k02_halls_refused.Holds := by
 w_on; o_law; k_head; (case hw=>w_witness2)
 k_fill
 refine VM.walk (l:=PySem.Challenge.rw_leavehall_k02_halls_refused) (k:=5) (x:="_law_script") rfl rfl ⟨rfl,by decide,by decide⟩ (fun w h Y=>PySem.W.kIn_of Y) ?F
 case F =>
  intro w mg fa h KX G hmg
  refine' K02.all_mk KX G hmg ?a0 ?l0 ?c0 ?k0 ?a1 ?l1 ?c1 ?k1 ?a2 ?l2 ?c2 ?k2 ?a3 ?l3 ?c3 ?k3 ?a4 ?l4 ?c4 ?k4 ?a5 ?l5 ?c5 ?k5 ?a6 ?l6 ?c6 ?k6 ?a7 ?l7 ?c7 ?k7 ?a8 ?l8 ?c8 ?k8 ?a9 ?l9 ?c9 ?k9 ?a10 ?l10 ?c10 ?k10 ?a11 ?l11 ?c11 ?k11 ?a12 ?l12 ?c12 ?k12 ?a13 ?l13 ?c13 ?k13 ?a14 ?l14 ?c14 ?k14 ?a15 ?l15 ?c15 ?k15 ?aC ?aD ?xo ?xt ?dg ?dr ?di ?x1 ?x2 ?x3 ?x4 ?x5 ?x6 ?x7 ?x8 ?iI ?iF ?kC ?sa ?pl ?cc ?cd ?bD ?tC ?tD ?li ?lT ?ci ?o0 ?p0 ?o1 ?p1 ?o2 ?p2 ?o3 ?p3 ?o4 ?p4 ?o5 ?p5 ?p7 ?p8 ?z_ValueError ?z_len ?z_list ?z_range ?z_enumerate ?z_zip ?z_abs ?z_sum ?z_min ?z_max ?z_int ?z_bool ?z_tuple ?z_str ?z_sorted ?z_set ?z_isinstance
  (case a0=>k_is)
  (case l0=>k_is)
  (case c0=>k_is)
  (case k0=>k_is)
  (case a1=>k_is)
  (case l1=>k_is)
  (case c1=>k_is)
  (case k1=>k_is)
  (case a2=>k_is)
  (case l2=>k_is)
  (case c2=>k_is)
  (case k2=>k_is)
  (case a3=>k_is)
  (case l3=>k_is)
  (case c3=>k_is)
  (case k3=>k_is)
  (case a4=>k_is)
  (case l4=>k_is)
  (case c4=>k_is)
  (case k4=>k_is)
  (case a5=>k_is)
  (case l5=>k_is)
  (case c5=>k_is)
  (case k5=>k_is)
  (case a6=>k_is)
  (case l6=>k_is)
  (case c6=>k_is)
  (case k6=>k_is)
  (case a7=>k_is)
  (case l7=>k_is)
  (case c7=>k_is)
  (case k7=>k_is)
  (case a8=>k_is)
  (case l8=>k_is)
  (case c8=>k_is)
  (case k8=>k_is)
  (case a9=>k_is)
  (case l9=>k_is)
  (case c9=>k_is)
  (case k9=>k_is)
  (case a10=>k_is)
  (case l10=>k_is)
  (case c10=>k_is)
  (case k10=>k_is)
  (case a11=>k_is)
  (case l11=>k_is)
  (case c11=>k_is)
  (case k11=>k_is)
  (case a12=>k_is)
  (case l12=>k_is)
  (case c12=>k_is)
  (case k12=>k_is)
  (case a13=>k_is)
  (case l13=>k_is)
  (case c13=>k_is)
  (case k13=>k_is)
  (case a14=>k_is)
  (case l14=>k_is)
  (case c14=>k_is)
  (case k14=>k_is)
  (case a15=>k_is)
  (case l15=>k_is)
  (case c15=>k_is)
  (case k15=>k_is)
  (case aC=>k_is)
  (case aD=>k_is)
  (case xo=>k_is)
  (case xt=>k_exc)
  (case dg=>k_is)
  (case dr=>k_is)
  (case di=>k_is)
  (case x1=>k_is)
  (case x2=>k_is)
  (case x3=>k_is)
  (case x4=>k_is)
  (case x5=>k_is)
  (case x6=>k_is)
  (case x7=>k_is)
  (case x8=>k_is)
  (case iI=>k_is)
  (case iF=>k_is)
  (case kC=>k_is)
  (case sa=>k_is)
  (case pl=>k_is)
  (case cc=>k_is)
  (case cd=>k_is)
  (case bD=>k_is)
  (case tC=>k_is)
  (case tD=>k_is)
  (case li=>k_is)
  (case lT=>k_is)
  (case ci=>k_is)
  (case o0=>k_is)
  (case p0=>kit_is)
  (case o1=>k_is)
  (case p1=>kit_is)
  (case o2=>k_is)
  (case p2=>kit_is)
  (case o3=>k_is)
  (case p3=>kit_is)
  (case o4=>k_is)
  (case p4=>kit_is)
  (case o5=>k_is)
  (case p5=>kit_is)
  (case p7=>kit_is)
  (case p8=>kit_is)
  (case z_ValueError=>k_is)
  (case z_len=>k_is)
  (case z_list=>k_is)
  (case z_range=>k_is)
  (case z_enumerate=>k_is)
  (case z_zip=>k_is)
  (case z_abs=>k_is)
  (case z_sum=>k_is)
  (case z_min=>k_is)
  (case z_max=>k_is)
  (case z_int=>k_is)
  (case z_bool=>k_is)
  (case z_tuple=>k_is)
  (case z_str=>k_is)
  (case z_sorted=>k_is)
  (case z_set=>k_is)
  (case z_isinstance=>k_is)
