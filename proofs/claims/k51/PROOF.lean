import PyProof.Rows.All
import Wide.All
import OpenK.AllK
import Wide.FinOn
import Lean
import PyProof.EqAt
import PyProof.EqKinds
import PyProof.TupleCall
import PySem.Challenge.RW_leavehall_k51_whole_fewest_turns
set_option Elab.async false
set_option linter.all false
set_option maxRecDepth 100000
namespace L2
open PySem PySem.Spec PyProof.Rows
noncomputable abbrev Key:=Sum Int Str
noncomputable def keyIs : Key→Value→Bool
 | .inl k,v=>Value.isInt k v
 | .inr x,v=>Value.isStrOf x v
noncomputable def keyH (w : World) : Key→Int
 | .inl k=>hashInt k
 | .inr x=>hashStr w x
theorem keyIs_shape : ∀ {k : Key} {v : Value},keyIs k v = true→(∃ i t,k = Sum.inl i∧v = Value.int i t)∨(∃ x t,k = Sum.inr x∧v = Value.str x t)
 | .inl i,v,h=>by
  obtain ⟨t,e⟩:=Value.isInt_shape (k:=i) (v:=v) h
  exact .inl ⟨i,t,rfl,e⟩
 | .inr x,v,h=>by
  obtain ⟨t,e⟩:=Value.isStrOf_shape (x:=x) (v:=v) h
  exact .inr ⟨x,t,rfl,e⟩
theorem key_ll (a b : Int) : decide ((Sum.inl a : Key) = Sum.inl b) = (a == b):=by
 by_cases e : a = b
 ·subst e; simp
 ·have h : ¬ (Sum.inl a : Key) = Sum.inl b:=fun q=>e (Sum.inl.inj q)
  rw [decide_eq_false h]
  exact (beq_eq_false_iff_ne.mpr e).symm
theorem key_rr (a b : Str) : decide ((Sum.inr a : Key) = Sum.inr b) = decide (a = b):=by
 by_cases e : a = b
 ·subst e; simp
 ·have h : ¬ (Sum.inr a : Key) = Sum.inr b:=fun q=>e (Sum.inr.inj q)
  rw [decide_eq_false h,decide_eq_false e]
theorem key_lr (a : Int) (b : Str) : decide ((Sum.inl a : Key) = Sum.inr b) = false:=decide_eq_false (fun q=>nomatch q)
theorem key_rl (a : Str) (b : Int) : decide ((Sum.inr a : Key) = Sum.inl b) = false:=decide_eq_false (fun q=>nomatch q)
noncomputable def mixKind (prog : Program) (w : World) : PySem.KeyKind prog w Key where
 is:=keyIs
 hash:=keyH w
 inj:=fun v a b ha hb=>by
  rcases keyIs_shape ha with ⟨i,t,rfl,rfl⟩ | ⟨x,t,rfl,rfl⟩
  ·rcases keyIs_shape hb with ⟨j,u,rfl,e⟩ | ⟨y,u,rfl,e⟩
   ·injection e with e1 _; rw [e1]
   ·exact nomatch e
  ·rcases keyIs_shape hb with ⟨j,u,rfl,e⟩ | ⟨y,u,rfl,e⟩
   ·exact nomatch e
   ·injection e with e1 _; rw [e1]
 byValue:=fun k v h=>by
  rcases keyIs_shape h with ⟨i,t,rfl,rfl⟩ | ⟨x,t,rfl,rfl⟩ <;> rfl
 pyHash:=fun hv h=>by
  rcases keyIs_shape hv with ⟨i,t,rfl,rfl⟩ | ⟨x,t,rfl,rfl⟩
  ·exact wpAny_pyHash_int h
  ·exact wpAny_pyHash_str h
 eqBool:=fun hu hv h=>by
  rcases keyIs_shape hu with ⟨i,t,rfl,rfl⟩ | ⟨x,t,rfl,rfl⟩
  ·rcases keyIs_shape hv with ⟨j,u,rfl,rfl⟩ | ⟨y,u,rfl,rfl⟩
   ·rw [key_ll] at h; exact wpAny_eqBool_int h
   ·rw [key_lr] at h; exact SeqAt.EqAt.int_str i t y u _ _ _ _ h
  ·rcases keyIs_shape hv with ⟨j,u,rfl,rfl⟩ | ⟨y,u,rfl,rfl⟩
   ·rw [key_rl] at h; exact SeqAt.EqAt.str_int x t j u _ _ _ _ h
   ·rw [key_rr] at h; exact wpAny_eqBool_str h
 «strs»:=fun k x t v h=>by
  rcases keyIs_shape h with ⟨i,u,rfl,e⟩ | ⟨y,u,rfl,e⟩
  ·exact nomatch e
  ·injection e with e1 _
   subst e1
   cases v <;> rfl
end L2
namespace L2
open PySem PySem.Spec PyProof.Rows
inductive V where
 | non | bl (b : Bool) | int (i : Int) | str (x : Str) | byt (b : Array UInt8) | flt (b : UInt64) | ref (a : Addr) | ty (n : String)
 deriving DecidableEq
noncomputable def RelV : V→Value→Prop
 | .non,u=>u = Value.none
 | .bl b,u=>u = Value.bool b
 | .int i,u=>∃ t,u = Value.int i t
 | .str x,u=>∃ t,u = Value.str x t
 | .byt b,u=>∃ t,u = Value.bytes b t
 | .flt b,u=>∃ t,u = Value.float b t
 | .ref a,u=>u = Value.ref a
 | .ty n,u=>u = Value.type n
noncomputable abbrev Vals : List V→List Value→Prop:=Paired RelV
theorem Vals.length {xs : List V} {us : List Value} (r : Vals xs us) : xs.length = us.length:=Paired.length r
theorem Vals.get : ∀ {xs : List V} {us : List Value} {i : Nat} {x : V},Vals xs us→xs[i]? = some x→∃ u,us[i]? = some u∧RelV x u
 | _,_,_,_,.nil,e=>by simp at e
 | _,_,0,_,.cons r _,e=>by simp at e; subst e; exact ⟨_,rfl,r⟩
 | _,_,i + 1,x,.cons _ t,e=>by
  obtain ⟨u,h1,h2⟩:=Vals.get (i:=i) (x:=x) t (by simpa using e)
  exact ⟨u,by simpa using h1,h2⟩
theorem Vals.set {x : V} {u : Value} (r : RelV x u) : ∀ {xs : List V} {us : List Value} (i : Nat),Vals xs us→Vals (xs.set i x) (us.set i u)
 | _,_,_,.nil=>.nil
 | _,_,0,.cons _ t=>.cons r t
 | _,_,i + 1,.cons q t=>.cons q (Vals.set r i t)
theorem Vals.append : ∀ {xs ys : List V} {us ws : List Value},Vals xs us→Vals ys ws→Vals (xs ++ ys) (us ++ ws)
 | _,_,_,_,.nil,s=>s
 | _,_,_,_,.cons r t,s=>.cons r (Vals.append t s)
theorem Vals.take : ∀ {xs : List V} {us : List Value} (n : Nat),Vals xs us→Vals (xs.take n) (us.take n)
 | _,_,0,_=>.nil
 | _,_,_ + 1,.nil=>.nil
 | _,_,n + 1,.cons r t=>.cons r (Vals.take n t)
theorem Vals.drop : ∀ {xs : List V} {us : List Value} (n : Nat),Vals xs us→Vals (xs.drop n) (us.drop n)
 | _,_,0,r=>r
 | _,_,_ + 1,.nil=>.nil
 | _,_,n + 1,.cons _ t=>Vals.drop n t
noncomputable def RelO : Option V→Option Value→Prop
 | some v,some u=>RelV v u
 | none,none=>True
 | _,_=>False
noncomputable def KV {κ : Type} : List (κ × V)→List (κ × Value)→Prop:=Paired fun (p : κ × V) (q : κ × Value)=>p.1 = q.1∧RelV p.2 q.2
noncomputable def kV : Key→V
 | .inl i=>.int i
 | .inr x=>.str x
inductive HO where
 | lst (xs : List V)
 | tup (xs : List V)
 | dK (kvs : List (Key × V)) | dT (kvs : List (List Key × V))
 | set (S : Int→Bool) (n : Nat)
 | ins (C dx : Addr) (fs : List (Str × V))
 | own (x : Addr)
 | xd (fs : List (Str × V))
 | met (f x : Addr)
 | rng (lo hi : Int)
 | frz (o : Obj) (u : HO)
 | tbl (ps : Array Value)
 | ext (φ : Heap→Prop)
noncomputable abbrev Hp:=Addr→Option HO
noncomputable def upd (H : Hp) (a : Addr) (o : HO) : Hp:=fun b=>if b = a then some o else H b
theorem upd_same {H : Hp} {a : Addr} {o : HO} : upd H a o a = some o:=by unfold upd; rw [if_pos rfl]
theorem upd_ne {H : Hp} {a b : Addr} {o : HO} (h : b ≠ a) : upd H a o b = H b:=by unfold upd; rw [if_neg h]
theorem ne_of_none {H : Hp} {a b : Addr} {o : HO} (h : H a = some o) (h' : H b = none) : a ≠ b:=by
 intro e; subst e; rw [h] at h'; cases h'
section
variable (P : Program) (w : World)
noncomputable def ObjOk (H : Hp) (h : Heap) (a : Addr) : HO→Prop
 | .lst xs=>xs.length≤sizeLine∧∃ (its : List Value) (n : Nat),Vals xs its∧h.get? a = some { cls:=.type "list",data:=.seq its.toArray n }
 | .tup xs=>xs.length≤sizeLine∧∃ its : List Value,Vals xs its∧IsTup h a its.toArray
 | .dK kvs=>kvs.length≤sizeLine∧(a == sysModules) = false∧∃ vs,KV kvs vs∧h.DictOf (mixKind P w) a vs
 | .dT kvs=>kvs.length≤sizeLine∧(a == sysModules) = false∧∃ xs : List (List Key × Addr × Value),
   Paired (fun (p : List Key × V) (q : List Key × Addr × Value)=>p.1 = q.1∧H q.2.1 = some (.tup (p.1.map kV))∧RelV p.2 q.2.2) kvs xs ∧
   ∃ o es ep,h.get? a = some o∧o.ExactDict∧o.data = .dict es ep∧es.toList = xs.map (entryOfKey (tupleKind (mixKind P w)))∧(xs.map (·.1)).Nodup
 | .set S n=>h.SetOf (intKind P w) a S n
 | .ins C dx fs=>H dx = some (.own a)∧fs.length≤1000∧dx ≠ a∧h.get? a = some (PySem.W.instObj C dx) ∧
   ∃ mA,h.Ns1 dx mA∧(∀ f,RelO (fs.lookup f) (mA f))∧PySem.Within mA (fs.map (·.1))
 | .own _=>∃ o,h.get? a = some o
 | .xd fs=>∃ mA,h.Ns1 a mA∧∀ f,RelO (fs.lookup f) (mA f)
 | .rng lo hi=>∃ t u v,h.get? a = some { cls:=.type "range",data:=.fields #[.int lo t,.int hi u,.int 1 v] }
 | .frz o u=>h.get? a = some o∧ObjOk H h a u
 | .tbl ps=>h.get? a = some { cls:=.none,data:=.fields ps }
 | .met f x=>h.get? a = some (PySem.W.methodObj (.ref f) (.ref x))
 | .ext φ=>φ h∧(∃ o,h.get? a = some o)∧∀ h1 h2 : Heap,φ h1→(∀ o,h1.get? a = some o→h2.get? a = some o)→φ h2
noncomputable def HOk (H : Hp) (h : Heap) : Prop:=∀ a o,H a = some o→ObjOk P w H h a o
end
section
variable {P : Program} {w : World} {H H' : Hp} {h h' : Heap} {a : Addr} {o : HO}
theorem ObjOk.lt (x : ObjOk P w H h a o) : a < h.objs.size:=by
 cases o with
 | lst xs=>obtain ⟨_,_,_,_,e⟩:=x; exact Heap.lt_size e
 | tup xs=>obtain ⟨_,_,_,p⟩:=x; exact p.lt
 | dK kvs=>obtain ⟨_,_,_,_,o,_,_,e,_⟩:=x; exact Heap.lt_size e
 | dT kvs=>obtain ⟨_,_,_,_,o,_,_,e,_⟩:=x; exact Heap.lt_size e
 | set S n=>obtain ⟨o,_,_,_,e,_⟩:=x; exact Heap.lt_size e
 | ins C dx fs=>obtain ⟨_,_,_,e,_⟩:=x; exact Heap.lt_size e
 | own y=>obtain ⟨_,e⟩:=x; exact Heap.lt_size e
 | xd fs=>obtain ⟨_,⟨_,_,_,e,_⟩,_⟩:=x; exact Heap.lt_size e
 | rng lo hi=>obtain ⟨_,_,_,e⟩:=x; exact Heap.lt_size e
 | frz ob u=>obtain ⟨e,_⟩:=x; exact Heap.lt_size e
 | tbl ps=>exact Heap.lt_size (show h.get? a = some _ from x)
 | met f y=>exact Heap.lt_size (show h.get? a = some _ from x)
 | ext φ=>obtain ⟨_,⟨_,e⟩,_⟩:=x; exact Heap.lt_size e
theorem Paired.mapP {α β : Type} {F G : α→β→Prop} : ∀ {l₁ : List α} {l₂ : List β},Paired F l₁ l₂→(∀ a b,F a b→G a b)→Paired G l₁ l₂
 | _,_,.nil,_=>.nil
 | _,_,.cons r t,f=>.cons (f _ _ r) (Paired.mapP t f)
theorem ObjOk.stay (x : ObjOk P w H h a o) (k : ∀ b u,(b = a∨H b = some (.own a))→h.get? b = some u→h'.get? b = some u)
  (ho : ∀ b,H b = some (.own a)→H' b = some (.own a)) (ht : ∀ b xs,H b = some (.tup xs)→H' b = some (.tup xs)) : ObjOk P w H' h' a o:=by
 induction o with
 | lst xs=>obtain ⟨z,its,n,r,e⟩:=x; exact ⟨z,its,n,r,k _ _ (.inl rfl) e⟩
 | tup xs=>obtain ⟨z,its,r,ob,e,c⟩:=x; exact ⟨z,its,r,ob,k _ _ (.inl rfl) e,c⟩
 | dK kvs=>obtain ⟨z,y,vs,r,ob,es,ep,e,c⟩:=x; exact ⟨z,y,vs,r,ob,es,ep,k _ _ (.inl rfl) e,c⟩
 | dT kvs =>
  obtain ⟨z,y,xs,r,ob,es,ep,e,c⟩:=x
  exact ⟨z,y,xs,Paired.mapP r fun p q z=>⟨z.1,ht _ _ z.2.1,z.2.2⟩,ob,es,ep,k _ _ (.inl rfl) e,c⟩
 | set S n=>obtain ⟨ob,es,ep,t,e,c⟩:=x; exact ⟨ob,es,ep,t,k _ _ (.inl rfl) e,c⟩
 | ins C dx fs =>
  obtain ⟨d,z,ne,e,mA,⟨od,es,ep,e2,c⟩,r⟩:=x
  exact ⟨ho _ d,z,ne,k _ _ (.inl rfl) e,mA,⟨od,es,ep,k _ _ (.inr d) e2,c⟩,r⟩
 | own y=>obtain ⟨ob,e⟩:=x; exact ⟨ob,k _ _ (.inl rfl) e⟩
 | xd fs=>obtain ⟨mA,⟨od,es,ep,e,c⟩,r⟩:=x; exact ⟨mA,⟨od,es,ep,k _ _ (.inl rfl) e,c⟩,r⟩
 | rng lo hi=>obtain ⟨t,u,v,e⟩:=x; exact ⟨t,u,v,k _ _ (.inl rfl) e⟩
 | frz ob u ih=>obtain ⟨e,q⟩:=x; exact ⟨k _ _ (.inl rfl) e,ih q⟩
 | tbl ps =>
  have e : h.get? a = some { cls:=.none,data:=.fields ps }:=x
  show h'.get? a = some { cls:=.none,data:=.fields ps }
  exact k a _ (.inl rfl) e
 | met f y =>
  have e : h.get? a = some (PySem.W.methodObj (.ref f) (.ref y)):=x
  show h'.get? a = some (PySem.W.methodObj (.ref f) (.ref y))
  exact k a _ (.inl rfl) e
 | ext φ=>obtain ⟨p,⟨o,e⟩,st⟩:=x; exact ⟨st _ _ p fun o q=>k _ _ (.inl rfl) q,⟨o,k _ _ (.inl rfl) e⟩,st⟩
theorem HOk.lt (x : HOk P w H h) (e : H a = some o) : a < h.objs.size:=(x a o e).lt
theorem HOk.fresh (x : HOk P w H h) (e : h.objs.size≤a) : H a = none:=by
 cases q : H a with
 | none=>rfl
 | some u=>exact absurd (Nat.lt_of_lt_of_le (x.lt q) e) (Nat.lt_irrefl _)
theorem HOk.kept (x : HOk P w H h) (k : ∀ b u,h.get? b = some u→h'.get? b = some u) : HOk P w H h':=fun a o e =>
 (x a o e).stay (fun b u _ q=>k b u q) (fun _ q=>q) fun _ _ q=>q
theorem HOk.laid (x : HOk P w H h) (k : ∀ b u,h.get? b = some u→h'.get? b = some u) (hp : h.objs.size≤a) (new : ObjOk P w (upd H a o) h' a o) : HOk P w (upd H a o) h':=fun b u e=>by
 have hn:=x.fresh hp
 by_cases hb : b = a
 ·subst hb; rw [upd_same] at e; cases e; exact new
 ·rw [upd_ne hb] at e
  exact (x b u e).stay (fun c v _ q=>k c v q) (fun c q=>by rw [upd_ne (ne_of_none q hn)]; exact q) fun c xs q=>by rw [upd_ne (ne_of_none q hn)]; exact q
end
noncomputable def Rd (H : Hp) (a : Addr) (u : HO) : Prop:=H a = some u∨∃ o,H a = some (.frz o u)
theorem Rd.ok {P : Program} {w : World} {H : Hp} {h : Heap} {a : Addr} {u : HO} (r : Rd H a u) (x : HOk P w H h) : ObjOk P w H h a u:=by
 rcases r with r | ⟨o,r⟩
 ·exact x a u r
 ·obtain ⟨_,q⟩:=x a _ r
  exact q
noncomputable def Mut : Option HO→Prop
 | some (.lst _)=>True
 | some (.dK _)=>True
 | some (.dT _)=>True
 | some (.set _ _)=>True
 | some (.ins _ _ _)=>True
 | some (.ext _)=>True
 | _=>False
section
variable {P : Program} {w : World} {H : Hp} {h h' : Heap} {x e : Addr} {o' : HO}
theorem HOk.write (ok : HOk P w H h) (mu : Mut (H x)) (he : e = x∨H e = some (.own x)) (k : ∀ b u,b ≠ e→h.get? b = some u→h'.get? b = some u) (heo : ∃ u,h'.get? e = some u)
  (new : ObjOk P w (upd H x o') h' x o') : HOk P w (upd H x o') h':=fun b u q=>by
 have nown : ∀ c y,H c = some (.own y)→c ≠ x:=fun c y r z=>by subst z; rw [r] at mu; exact mu
 have ntup : ∀ c xs,H c = some (.tup xs)→c ≠ x:=fun c xs r z=>by subst z; rw [r] at mu; exact mu
 by_cases hb : b = x
 ·subst hb; rw [upd_same] at q; cases q; exact new
 ·rw [upd_ne hb] at q
  by_cases hbe : b = e
  ·have q' : H b = some (.own x):=by
    rcases he with z | z
    ·exact absurd (hbe.trans z) hb
    ·rw [hbe]; exact z
   rw [q] at q'; cases q'
   obtain ⟨v,hv⟩:=heo
   exact ⟨v,by rw [hbe]; exact hv⟩
  ·refine (ok b u q).stay (fun c v hc r=>k c v ?_ r) (fun c r=>by rw [upd_ne (nown c b r)]; exact r) fun c xs r=>by rw [upd_ne (ntup c xs r)]; exact r
   rcases hc with rfl | hc
   ·exact hbe
   ·rintro rfl
    rcases he with z | z
    ·exact nown c b hc z
    ·rw [hc] at z; cases z; exact hb rfl
end
structure Un (fs ex : List Addr) (H H' : Hp) (h h' : Heap) : Prop where
 keep : ∀ b o,h.get? b = some o→H b = none→b ∉ fs→b ∉ ex→h'.get? b = some o
 slot : ∀ b o,h.get? b = some o→H b = none→b∈fs→b ∉ ex→∃ sl,h'.get? b = some { o with slots:=sl }
 free : ∀ b o,h.get? b = some o→H b = none→b ∉ ex→H' b = none
 there : ∀ b o,h.get? b = some o→b ∉ ex→∃ o',h'.get? b = some o'
 tups : ∀ b xs,H b = some (.tup xs)→H' b = some (.tup xs)
 frzs : ∀ b o u,H b = some (.frz o u)→H' b = some (.frz o u)
 tbls : ∀ b ps,H b = some (.tbl ps)→∃ more,H' b = some (.tbl (ps ++ more))
section
variable {fs fs' ex ex' : List Addr} {H H1 H2 : Hp} {h h1 h2 h' : Heap} {a x e : Addr} {o : HO}
theorem Un.any (u : Un fs ex H H1 h h1) {b : Addr} {ob : Obj} (q : h.get? b = some ob) (n : H b = none) (hx : b ∉ ex) : ∃ sl,h1.get? b = some { ob with slots:=sl }:=by
 by_cases hb : b∈fs
 ·exact u.slot b ob q n hb hx
 ·exact ⟨ob.slots,u.keep b ob q n hb hx⟩
theorem Un.trans (a : Un fs ex H H1 h h1) (b : Un fs ex H1 H2 h1 h2) : Un fs ex H H2 h h2 where
 keep:=fun c ob q n hc hx=>b.keep c ob (a.keep c ob q n hc hx) (a.free c ob q n hx) hc hx
 slot:=fun c ob q n hc hx=>by
  obtain ⟨sl,e1⟩:=a.slot c ob q n hc hx
  obtain ⟨sl',e2⟩:=b.slot c _ e1 (a.free c ob q n hx) hc hx
  exact ⟨sl',e2⟩
 free:=fun c ob q n hx=>by
  obtain ⟨o',e1⟩:=a.there c ob q hx
  exact b.free c o' e1 (a.free c ob q n hx) hx
 there:=fun c ob q hx=>by
  obtain ⟨o',e1⟩:=a.there c ob q hx
  exact b.there c o' e1 hx
 tups:=fun c xs q=>b.tups c xs (a.tups c xs q)
 frzs:=fun c ob xs q=>b.frzs c ob xs (a.frzs c ob xs q)
 tbls:=fun c ps q=>by
  obtain ⟨m1,e1⟩:=a.tbls c ps q
  obtain ⟨m2,e2⟩:=b.tbls c _ e1
  exact ⟨m1 ++ m2,by rw [e2,Array.append_assoc]⟩
theorem Un.kept (k : ∀ b u,h.get? b = some u→h'.get? b = some u) : Un fs ex H H h h' :=
 ⟨fun b ob q _ _ _=>k b ob q,fun b ob q _ _ _=>⟨ob.slots,k b ob q⟩,fun _ _ _ n _=>n,fun b ob q _=>⟨ob,k b ob q⟩,fun _ _ q=>q,fun _ _ _ q=>q,fun _ ps q=>⟨#[],by rw [q]; simp⟩⟩
theorem Un.refl : Un fs ex H H h h:=Un.kept fun _ _ q=>q
theorem Un.laid (k : ∀ b u,h.get? b = some u→h'.get? b = some u) (hp : h.objs.size≤a) (hn : H a = none) : Un fs ex H (upd H a o) h h' where
 keep:=fun b u q _ _ _=>k b u q
 slot:=fun b u q _ _ _=>⟨u.slots,k b u q⟩
 free:=fun b u q n _=>by rw [upd_ne (Nat.ne_of_lt (Nat.lt_of_lt_of_le (Heap.lt_size q) hp))]; exact n
 there:=fun b u q _=>⟨u,k b u q⟩
 tups:=fun b xs q=>by rw [upd_ne (ne_of_none q hn)]; exact q
 frzs:=fun b u xs q=>by rw [upd_ne (ne_of_none q hn)]; exact q
 tbls:=fun b ps q=>⟨#[],by rw [upd_ne (ne_of_none q hn),q]; simp⟩
theorem Un.write (mu : Mut (H x)) (he : e = x∨H e = some (.own x)) (k : ∀ b u,b ≠ e→h.get? b = some u→h'.get? b = some u) (heo : ∃ u,h'.get? e = some u) : Un fs ex H (upd H x o) h h':=by
 have hx : ∀ b,H b = none→b ≠ x:=fun b n z=>by subst z; rw [n] at mu; exact mu
 have hb : ∀ b,H b = none→b ≠ e:=fun b n z=>by
  subst z
  rcases he with r | r
  ·exact hx b n r
  ·rw [n] at r; cases r
 have hm : ∀ b u,H b = some u→¬ Mut (some u)→b ≠ x:=fun b u q nm z=>by subst z; rw [q] at mu; exact nm mu
 refine ⟨fun b u q n _ _=>k b u (hb b n) q,fun b u q n _ _=>⟨u.slots,k b u (hb b n) q⟩,fun b u q n _=>by rw [upd_ne (hx b n)]; exact n,fun b u q _=>?_,
  fun b xs q=>by rw [upd_ne (hm b _ q fun z=>z)]; exact q,fun b u xs q=>by rw [upd_ne (hm b _ q fun z=>z)]; exact q,fun b ps q=>⟨#[],by rw [upd_ne (hm b _ q fun z=>z),q]; simp⟩⟩
 by_cases hbe : b = e
 ·subst hbe; exact heo
 ·exact ⟨u,k b u hbe q⟩
end
noncomputable def trk (h : Heap) (H : Hp) : List Addr:=(List.range h.objs.size).filter fun a=>(H a).isSome
noncomputable def hidT (h : Heap) (H : Hp) : Heap:=PySem.W.hideAll h (trk h H)
theorem hidT_size (h : Heap) (H : Hp) : (hidT h H).objs.size = h.objs.size:=PySem.W.hideAll_size _ _
theorem hidT_get {h : Heap} {H : Hp} {b : Addr} {o : Obj} (e : h.get? b = some o) (n : H b = none) : (hidT h H).get? b = some o :=
 PySem.W.hideAll_get _ e fun hm=>by
  have q : (H b).isSome = true:=(List.mem_filter.mp hm).2
  rw [n] at q; simp at q
theorem of_hidT {h : Heap} {H : Hp} {b : Addr} {o : Obj} (e : (hidT h H).get? b = some o) : h.get? b = some o∧H b = none:=by
 have e' : h.get? b = some o:=PySem.W.of_hideAll (trk h H) e
 refine ⟨e',?_⟩
 cases q : H b with
 | none=>rfl
 | some x =>
  have hm : b∈trk h H:=List.mem_filter.mpr ⟨List.mem_range.mpr (Heap.lt_size e'),by simp [q]⟩
  have z : (hidT h H).get? b = none:=PySem.W.hideAll_none (trk h H) hm
  rw [z] at e; cases e
noncomputable def allNews (g h : Heap) (L : Addr) : List (Addr × Obj):=(List.range h.objs.size).filterMap fun a=>if a = L∨(g.get? a).isSome = true then none else (h.get? a).map fun o=>(a,o)
noncomputable def rest (g h : Heap) (L d : Addr) : List (Addr × Obj):=(allNews g h L).filter fun p=>decide (p.1 ≠ d)
end L2
namespace L2
open PySem PySem.Spec PyProof.Rows
structure Mod (K : PySem.W.Frag) (mg : Str→Option Value) (base : Heap) : Prop where
 kin : K.In base
 glob : base.Ns mainGlobals mg
 blt : ∃ mb,base.Ns builtinsNs mb∧∀ x : Str,x ≠ "__name__"→mb x = bootBuiltins x
 nolimit : base.NoLimit
structure Cx where
 prog : Program
 w : World
 K : PySem.W.Frag
 mg : Str→Option Value
 base : Heap
 A : Around
 N : List Str
 s₀ : Shared
 H₀ : Hp
 env : Env
 outer : List Env
 stack : List Env
 ex : List Addr
 fn : Str→Bool
 calm : Bool
 pn : List (Addr × Obj)
 xe : Value→Shared→Prop
noncomputable def frs (l : List Env) : List Addr:=l.filterMap (·.frame)
noncomputable abbrev Cx.fs (X : Cx) : List Addr:=frs X.outer
noncomputable def Vis (sc : Scope) (x : Str) : Prop:=sc.names.lookup x = some .local∨sc.names.lookup x = some .cell∨sc.names.lookup x = some .free
noncomputable def Loc (sc : Scope) (x : Str) : Prop:=sc.names.lookup x = some .local∨sc.names.lookup x = some .cell
noncomputable def Look (env : Env) (h : Heap) (m : Str→Option Value) (x : Str) (u : Value) : Prop :=
 (env.kindOf x = some .local∧m x = some u)∨((env.kindOf x = some .cell∨env.kindOf x = some .free)∧∃ c,env.cells.lookup x = some c∧h.IsCell c (some u))
structure Cx.Ok (X : Cx) : Prop where
 mod : Mod X.K X.mg X.base
 kind : X.env.scope.kind = .function
 glob : X.env.globals = mainGlobals
 blt : X.env.builtins = builtinsNs
 above : X.s₀.heap.objs.size≤X.env.locals
 inj : ∀ x y c,X.env.cells.lookup x = some c→X.env.cells.lookup y = some c→x = y
 has : ∀ x,(X.env.kindOf x = some .cell∨X.env.kindOf x = some .free)→∃ c,X.env.cells.lookup x = some c
 cab : ∀ x c,X.fn x = true→X.env.cells.lookup x = some c→X.s₀.heap.objs.size≤c
 hd : X.calm = true→X.A.handled = none
 frames : X.A.frames = some X.stack
 stk : X.stack = X.outer∨(X.stack = X.env :: X.outer∧X.env.frame = some X.env.locals)
 exf : ∀ b∈X.ex,b ≠ X.env.locals∧∀ x c,X.env.cells.lookup x = some c→c ≠ b
 bs : ∀ b o,X.base.get? b = some o→X.s₀.heap.get? b = some o∧X.H₀ b = none
 bsz : X.base.objs.size≤X.s₀.heap.objs.size
 noex : ∀ b o,X.base.get? b = some o→b ∉ X.ex
 exfs : ∀ b∈X.ex,b ∉ X.fs
 funs : X.s₀.heap.FunFrames X.base X.outer
 frf : ∀ b∈X.fs,X.H₀ b = none
structure Inv (X : Cx) (pins : List (Addr × Obj)) (σ : List (Option V)) (H : Hp) (s : Shared) : Prop where
 ok : X.Ok
 os : s.os = X.s₀.os
 bare : AllBare s.gens
 base : Un X.fs X.ex X.H₀ H X.s₀.heap s.heap
 loc : ∃ m,s.heap.Ns X.env.locals m∧∀ (i : Nat) (x : Str) (v : V),X.N[i]? = some x→σ[i]? = some (some v)→Vis X.env.scope x→∃ u,RelV v u∧Look X.env s.heap m x u
 cell : ∀ x c,X.env.cells.lookup x = some c→∃ v,s.heap.IsCell c v
 free : H X.env.locals = none
 freeC : ∀ x c,X.env.cells.lookup x = some c→H c = none
 pin : ∀ p∈X.pn ++ pins,s.heap.get? p.1 = some p.2∧H p.1 = none∧p.1 ≠ X.env.locals∧p.1 ∉ X.fs∧∀ v,p.2.data ≠ .cell v
 hok : HOk X.prog X.w H s.heap
 len : σ.length = X.N.length
section
variable {X : Cx} {pins : List (Addr × Obj)} {σ : List (Option V)} {H H' : Hp} {s : Shared} {h' : Heap}
theorem Cx.Ok.nofr (ok : X.Ok) {b : Addr} {o : Obj} (e : X.base.get? b = some o) : b ∉ X.fs:=fun hb=>by
 have:=(ok.funs.mem hb).1
 rw [e] at this; cases this
theorem Inv.bs (I : Inv X pins σ H s) : ∀ b o,X.base.get? b = some o→s.heap.get? b = some o∧H b = none:=fun b o e =>
 ⟨I.base.keep b o (I.ok.bs b o e).1 (I.ok.bs b o e).2 (I.ok.nofr e) (I.ok.noex b o e),I.base.free b o (I.ok.bs b o e).1 (I.ok.bs b o e).2 (I.ok.noex b o e)⟩
theorem Inv.bk (I : Inv X pins σ H s) : ∀ b o,X.base.get? b = some o→s.heap.get? b = some o:=fun b o e=>(I.bs b o e).1
theorem Inv.mod (I : Inv X pins σ H s) : Mod X.K X.mg X.base:=I.ok.mod
theorem Inv.kIn (I : Inv X pins σ H s) : X.K.In s.heap:=I.ok.mod.kin.keeps I.bk
theorem Inv.fr (I : Inv X pins σ H s) : ∃ m,Fr X.base X.env.locals s.heap m :=
 let ⟨m,hn,_⟩:=I.loc
 ⟨m,hn,I.bk,Nat.le_trans I.ok.bsz I.ok.above⟩
theorem Inv.lt (I : Inv X pins σ H s) : X.env.locals < s.heap.objs.size:=let ⟨_,hn,_⟩:=I.loc; hn.lt
theorem Inv.sz (I : Inv X pins σ H s) : X.s₀.heap.objs.size≤s.heap.objs.size:=Nat.le_trans I.ok.above (Nat.le_of_lt I.lt)
theorem Inv.nofs (I : Inv X pins σ H s) {a : Addr} (h : s.heap.objs.size≤a) : a ∉ X.fs:=fun hb=>by
 obtain ⟨_,o,ho,_⟩:=I.ok.funs.mem hb
 exact absurd (Nat.lt_of_lt_of_le (Heap.lt_size ho) (Nat.le_trans I.sz h)) (Nat.lt_irrefl _)
theorem Inv.cne (I : Inv X pins σ H s) : ∀ x c,X.env.cells.lookup x = some c→c ≠ X.env.locals:=fun x c e z=>by
 obtain ⟨v,o,ho,hd⟩:=I.cell x c e
 obtain ⟨m,⟨o',es,ep,ho',hd',_⟩,_⟩:=I.loc
 rw [z,ho'] at ho; cases ho; rw [hd'] at hd; cases hd
theorem Inv.funs (I : Inv X pins σ H s) : s.heap.FunFrames X.base X.outer:=by
 have all : ∀ (l : List Env),(∀ b∈frs l,b∈X.fs)→X.s₀.heap.FunFrames X.base l→s.heap.FunFrames X.base l:=by
  intro l
  induction l with
  | nil=>intro _ _; trivial
  | cons env r ih =>
   intro hs hl
   obtain ⟨hk,⟨L,o,hf,hn,ho,hd⟩,hr⟩:=hl
   have hL : L∈X.fs:=hs L (by unfold frs; rw [List.filterMap_cons,hf]; exact List.mem_cons_self)
   obtain ⟨sl,e⟩:=I.base.slot L o ho (I.ok.frf L hL) hL fun z=>I.ok.exfs L z hL
   exact ⟨hk,⟨L,_,hf,hn,e,hd⟩,ih (fun b hb=>hs b (by unfold frs; rw [List.filterMap_cons,hf]; exact List.mem_cons_of_mem _ hb)) hr⟩
 exact all X.outer (fun _ hb=>hb) I.ok.funs
theorem Inv.stack (I : Inv X pins σ H s) : s.heap.FunFrames X.base X.stack:=by
 rcases I.ok.stk with e | ⟨e,hf⟩
 ·rw [e]; exact I.funs
 ·rw [e]
  obtain ⟨m,hn,_⟩:=I.loc
  refine .cons (by rw [I.ok.kind]; decide) hf hn ?_ I.funs
  exact Heap.get?_none_of_le (Nat.le_trans I.ok.bsz I.ok.above)
theorem Inv.stkSub (I : Inv X pins σ H s) : ∀ b∈frs X.stack,b∈X.env.locals :: X.fs:=fun b hb=>by
 rcases I.ok.stk with e | ⟨e,hf⟩
 ·rw [e] at hb; exact List.mem_cons_of_mem _ hb
 ·rw [e] at hb
  unfold frs at hb
  rw [List.filterMap_cons,hf] at hb
  exact hb
theorem Inv.stkFree (I : Inv X pins σ H s) : ∀ b∈frs X.stack,H b = none:=fun b hb=>by
 rcases List.mem_cons.mp (I.stkSub b hb) with e | hb
 ·rw [e]; exact I.free
 ·obtain ⟨_,o,ho,_⟩:=I.ok.funs.mem hb
  exact I.base.free b o ho (I.ok.frf b hb) fun z=>I.ok.exfs b z hb
theorem Inv.step {g' : Array GenState} {t' : Nat} {d' : Drawn} {ch : List Addr} (I : Inv X pins σ H s)
  (hch : ∀ b∈ch,(b∈X.ex∨X.s₀.heap.objs.size≤b)∧b ≠ X.env.locals∧(∀ x c,X.env.cells.lookup x = some c→c ≠ b)∧∀ p∈X.pn ++ pins,p.1 ≠ b)
  (keep : ∀ b o,b ≠ X.env.locals→b ∉ X.fs→b ∉ ch→s.heap.get? b = some o→H b = none→h'.get? b = some o)
  (slot : ∀ b o,b ≠ X.env.locals→b∈X.fs→b ∉ ch→s.heap.get? b = some o→H b = none→∃ sl,h'.get? b = some { o with slots:=sl }) (free : ∀ b o,b ∉ ch→s.heap.get? b = some o→H b = none→H' b = none)
  (there : ∀ b o,b ∉ ch→s.heap.get? b = some o→∃ o',h'.get? b = some o')
  (tups : ∀ b xs,H b = some (.tup xs)→H' b = some (.tup xs)) (frzs : ∀ b o u,H b = some (.frz o u)→H' b = some (.frz o u)) (tbls : ∀ b ps,H b = some (.tbl ps)→∃ more,H' b = some (.tbl (ps ++ more)))
  (ns : ∀ m,s.heap.Ns X.env.locals m→h'.Ns X.env.locals m) (hok : HOk X.prog X.w H' h') (hg : AllBare g') :
  Inv X pins σ H' { s with heap:=h',gens:=g',drawn:=d',toks:=t' }:=by
 have neL : ∀ b o,X.s₀.heap.get? b = some o→b ≠ X.env.locals:=fun b o e=>Nat.ne_of_lt (Nat.lt_of_lt_of_le (Heap.lt_size e) I.ok.above)
 have neC : ∀ b o,X.s₀.heap.get? b = some o→b ∉ X.ex→b ∉ ch:=fun b o e hx hb=>by
  rcases (hch b hb).1 with z | z
  ·exact hx z
  ·exact absurd (Nat.lt_of_lt_of_le (Heap.lt_size e) z) (Nat.lt_irrefl _)
 have cellK : ∀ x c,X.env.cells.lookup x = some c→∀ v,s.heap.IsCell c v→h'.IsCell c v:=fun x c e v ⟨o,ho,hd⟩=>by
  have nch : c ∉ ch:=fun z=>(hch c z).2.2.1 x c e rfl
  by_cases hc : c∈X.fs
  ·obtain ⟨sl,q⟩:=slot c o (I.cne x c e) hc nch ho (I.freeC x c e)
   exact ⟨_,q,hd⟩
  ·exact ⟨o,keep c o (I.cne x c e) hc nch ho (I.freeC x c e),hd⟩
 refine ⟨I.ok,I.os,hg,⟨fun b o e n hb hx=>?_,fun b o e n hb hx=>?_,fun b o e n hx=>?_,fun b o e hx=>?_,fun b xs e=>tups b xs (I.base.tups b xs e),fun b o xs e=>frzs b o xs (I.base.frzs b o xs e),fun b ps e=>?_⟩,?_,fun x c e=>?_,?_,fun x c e=>?_,fun p hp=>?_,hok,I.len⟩
 ·exact keep b o (neL b o e) hb (neC b o e hx) (I.base.keep b o e n hb hx) (I.base.free b o e n hx)
 ·obtain ⟨sl,e1⟩:=I.base.slot b o e n hb hx
  obtain ⟨sl',e2⟩:=slot b _ (neL b o e) hb (neC b o e hx) e1 (I.base.free b o e n hx)
  exact ⟨sl',e2⟩
 ·obtain ⟨o',e1⟩:=I.base.there b o e hx
  exact free b o' (neC b o e hx) e1 (I.base.free b o e n hx)
 ·obtain ⟨o',e1⟩:=I.base.there b o e hx
  exact there b o' (neC b o e hx) e1
 ·obtain ⟨m1,e1⟩:=I.base.tbls b ps e
  obtain ⟨m2,e2⟩:=tbls b _ e1
  exact ⟨m1 ++ m2,by rw [e2,Array.append_assoc]⟩
 ·obtain ⟨m,hn,hl⟩:=I.loc
  refine ⟨m,ns m hn,fun i x v e1 e2 e3=>?_⟩
  obtain ⟨u,r,l⟩:=hl i x v e1 e2 e3
  refine ⟨u,r,?_⟩
  rcases l with l | ⟨k,c,e,z⟩
  ·exact .inl l
  ·exact .inr ⟨k,c,e,cellK x c e _ z⟩
 ·obtain ⟨v,z⟩:=I.cell x c e
  exact ⟨v,cellK x c e v z⟩
 ·obtain ⟨m,⟨o,_,_,ho,_⟩,_⟩:=I.loc
  exact free _ o (fun z=>(hch _ z).2.1 rfl) ho I.free
 ·obtain ⟨v,o,ho,hd⟩:=I.cell x c e
  exact free c o (fun z=>(hch c z).2.2.1 x c e rfl) ho (I.freeC x c e)
 ·obtain ⟨e,n,ne,nf,d⟩:=I.pin p hp
  have nch : p.1 ∉ ch:=fun z=>(hch p.1 z).2.2.2 p hp rfl
  exact ⟨keep p.1 p.2 ne nf nch e n,free p.1 p.2 nch e n,ne,nf,d⟩
theorem Inv.un {t' : Nat} (I : Inv X pins σ H s) (u : Un X.fs [] H H' s.heap h') (hok : HOk X.prog X.w H' h') : Inv X pins σ H' { s with heap:=h',toks:=t' }:=by
 obtain ⟨m,⟨o,es,ep,ho,r⟩,_⟩:=id I.loc
 obtain ⟨sl,hL⟩:=u.any ho I.free (by simp)
 exact I.step (g':=s.gens) (d':=s.drawn) (ch:=[]) (fun _ z=>nomatch z) (fun b o _ hb _ e n=>u.keep b o e n hb (by simp)) (fun b o _ hb _ e n=>u.slot b o e n hb (by simp)) (fun b o _ e n=>u.free b o e n (by simp)) (fun b o _ e=>u.there b o e (by simp)) u.tups u.frzs u.tbls (fun m' hm=>by
  obtain ⟨o',es',ep',ho',r'⟩:=hm
  rw [ho] at ho'; cases ho'
  exact ⟨_,es',ep',hL,r'⟩) hok I.bare
theorem Inv.call {g' : Array GenState} {t' : Nat} {d' : Drawn} {ch : List Addr} (I : Inv X pins σ H s) (u : Un (frs X.stack) ch H H' s.heap h') (hok : HOk X.prog X.w H' h') (hg : AllBare g')
  (hch : ∀ b∈ch,(b∈X.ex∨X.s₀.heap.objs.size≤b)∧b ≠ X.env.locals∧(∀ x c,X.env.cells.lookup x = some c→c ≠ b)∧∀ p∈X.pn ++ pins,p.1 ≠ b) :
  Inv X pins σ H' { s with heap:=h',gens:=g',drawn:=d',toks:=t' }:=by
 obtain ⟨m,⟨o,es,ep,ho,r⟩,_⟩:=id I.loc
 obtain ⟨sl,hL⟩:=u.any ho I.free fun z=>(hch _ z).2.1 rfl
 exact I.step (ch:=ch) hch (fun b o hL hb hc e n=>u.keep b o e n (fun z=>(List.mem_cons.mp (I.stkSub b z)).elim hL hb) hc) (fun b o _ _ hc e n=>u.any e n hc) (fun b o hc e n=>u.free b o e n hc) (fun b o hc e=>u.there b o e hc) u.tups u.frzs u.tbls (fun m' hm=>by
  obtain ⟨o',es',ep',ho',r'⟩:=hm
  rw [ho] at ho'; cases ho'
  exact ⟨_,es',ep',hL,r'⟩) hok hg
theorem Inv.turned {t' : Nat} {it : Addr} (I : Inv X pins σ H s) (k : ∀ b o,b ≠ it→s.heap.get? b = some o→h'.get? b = some o) (hn : H it = none) (hL : it ≠ X.env.locals)
  (h1 : it∈X.ex∨X.s₀.heap.objs.size≤it) (h2 : ∀ x c,X.env.cells.lookup x = some c→c ≠ it) (h3 : ∀ p∈X.pn ++ pins,p.1 ≠ it) : Inv X pins σ H { s with heap:=h',toks:=t' }:=by
 have nit : ∀ b u,H b = some u→b ≠ it:=fun b u e z=>by rw [z,hn] at e; cases e
 refine I.step (g':=s.gens) (d':=s.drawn) (ch:=[it]) (fun b hb=>?_) (fun b o _ _ hc e _=>k b o (fun z=>hc (by simp [z])) e) (fun b o _ _ hc e _=>⟨o.slots,k b o (fun z=>hc (by simp [z])) e⟩) (fun _ _ _ _ n=>n)
  (fun b o hc e=>⟨o,k b o (fun z=>hc (by simp [z])) e⟩) (fun _ _ e=>e) (fun _ _ _ e=>e) (fun b ps e=>⟨#[],by rw [e]; simp⟩) (fun m hm=>?_) (fun b u e=>?_) I.bare
 ·have e : b = it:=by simpa using hb
  subst e
  exact ⟨h1,hL,h2,h3⟩
 ·obtain ⟨o,es,ep,ho,r⟩:=hm
  exact ⟨o,es,ep,k _ o (Ne.symm hL) ho,r⟩
 ·refine (I.hok b u e).stay (fun c v hc q=>k c v ?_ q) (fun _ q=>q) fun _ _ q=>q
  rcases hc with z | z
  ·rw [z]; exact nit b u e
  ·exact nit c _ z
theorem Inv.tok (I : Inv X pins σ H s) (t : Nat) : Inv X pins σ H { s with toks:=t }:=I.un (h':=s.heap) (t':=t) Un.refl I.hok
theorem Inv.kept {t' : Nat} (I : Inv X pins σ H s) (k : ∀ b u,s.heap.get? b = some u→h'.get? b = some u) : Inv X pins σ H { s with heap:=h',toks:=t' }:=I.un (Un.kept k) (I.hok.kept k)
theorem Inv.laid {a : Addr} {o : HO} {t' : Nat} (I : Inv X pins σ H s) (k : ∀ b u,s.heap.get? b = some u→h'.get? b = some u) (hp : s.heap.objs.size≤a) (new : ObjOk X.prog X.w (upd H a o) h' a o) :
  Inv X pins σ (upd H a o) { s with heap:=h',toks:=t' }:=I.un (Un.laid k hp (I.hok.fresh hp)) (I.hok.laid k hp new)
theorem Inv.write {x e : Addr} {o : HO} {t' : Nat} (I : Inv X pins σ H s) (mu : Mut (H x)) (he : e = x∨H e = some (.own x)) (k : ∀ b u,b ≠ e→s.heap.get? b = some u→h'.get? b = some u) (heo : ∃ u,h'.get? e = some u)
  (new : ObjOk X.prog X.w (upd H x o) h' x o) : Inv X pins σ (upd H x o) { s with heap:=h',toks:=t' }:=I.un (Un.write mu he k heo) (I.hok.write mu he k heo new)
theorem Inv.weak {σ' : List (Option V)} (I : Inv X pins σ H s) (hl : σ'.length = σ.length) (w : ∀ (i : Nat) v,σ'[i]? = some (some v)→σ[i]? = some (some v)) : Inv X pins σ' H s :=
 ⟨I.ok,I.os,I.bare,I.base,let ⟨m,hn,hl'⟩:=I.loc; ⟨m,hn,fun i x v e1 e2 e3=>hl' i x v e1 (w i v e2) e3⟩,I.cell,I.free,I.freeC,I.pin,I.hok,hl.trans I.len⟩
theorem Inv.pins_of {pins' : List (Addr × Obj)} (I : Inv X pins σ H s) (h : ∀ p∈pins',s.heap.get? p.1 = some p.2∧H p.1 = none∧p.1 ≠ X.env.locals∧p.1 ∉ X.fs∧∀ v,p.2.data ≠ .cell v) : Inv X pins' σ H s :=
 ⟨I.ok,I.os,I.bare,I.base,I.loc,I.cell,I.free,I.freeC,fun p hp=>(List.mem_append.mp hp).elim (fun z=>I.pin p (List.mem_append_left _ z)) (h p),I.hok,I.len⟩
theorem nodup_ix {N : List Str} (hN : N.Nodup) {i j : Nat} {x : Str} (a : N[i]? = some x) (b : N[j]? = some x) : i = j:=by
 obtain ⟨h1,e1⟩:=List.getElem?_eq_some_iff.mp a
 obtain ⟨h2,e2⟩:=List.getElem?_eq_some_iff.mp b
 exact (List.getElem_inj hN).mp (e1.trans e2.symm)
theorem store_ok2 {M : Model} {A : Around} {E : Value→Shared→Prop} {i : Nat} {x : Str} {v : V} {u : Value} {Q : Unit→Shared→Prop} (I : Inv X pins σ H s) (hN : X.N.Nodup) (hi : X.N[i]? = some x) (hx : Loc X.env.scope x) (r : RelV v u)
  (h : ∀ s',Inv X pins (σ.set i (some v)) H s'→(∃ a,Heap.SameBut a s.heap s'.heap∧(a = X.env.locals∨X.env.cells.lookup x = some a))→Q () s') (hf : X.fn x = true∨X.env.scope.names.lookup x = some .local:=by first | exact .inl rfl | exact .inr rfl | assumption) : wpAny M A (storeName X.env x u) Q E s:=by
 obtain ⟨m,hn,hl⟩:=id I.loc
 have hcls : (X.env.scope.kind == .class || (X.env.scope.kind == .module && X.env.locals != X.env.globals)) = false:=by rw [I.ok.kind]; rfl
 have hiσ : i < σ.length:=by rw [I.len]; exact (List.getElem?_eq_some_iff.mp hi).1
 have cne:=I.cne
 have tracked : ∀ {a : Addr} {h' : Heap},(∃ o,s.heap.get? a = some o∧H a = none)→Heap.SameBut a s.heap h'→HOk X.prog X.w H h':=fun {a h'} ha hs b ob e=>by
  obtain ⟨_,_,hfree⟩:=ha
  refine (I.hok b ob e).stay (fun c w' hc q=>(hs.2 c ?_).trans q) (fun _ q=>q) fun _ _ q=>q
  rintro rfl
  rcases hc with rfl | hc
  ·rw [hfree] at e; cases e
  ·rw [hfree] at hc; cases hc
 rcases hx with hk | hk
 ·refine wpAny_storeName_local hk hn (fun h' hn' hs=>?_) hcls
  obtain ⟨oL,_,_,hoL,_⟩:=id hn
  refine h _ ⟨I.ok,I.os,I.bare,⟨fun b o e n hb hx=>?_,fun b o e n hb hx=>?_,I.base.free,fun b o e hx=>?_,I.base.tups,I.base.frzs,I.base.tbls⟩,⟨_,hn',fun j y v' e1 e2 e3=>?_⟩,fun y c e=>?_,I.free,I.freeC,fun p hp=>?_,tracked ⟨oL,hoL,I.free⟩ hs,by simpa using I.len⟩ ⟨_,hs,.inl rfl⟩
  ·exact (hs.2 b (Nat.ne_of_lt (Nat.lt_of_lt_of_le (Heap.lt_size e) I.ok.above))).trans (I.base.keep b o e n hb hx)
  ·obtain ⟨sl,e1⟩:=I.base.slot b o e n hb hx
   exact ⟨sl,(hs.2 b (Nat.ne_of_lt (Nat.lt_of_lt_of_le (Heap.lt_size e) I.ok.above))).trans e1⟩
  ·obtain ⟨o',e1⟩:=I.base.there b o e hx
   exact ⟨o',(hs.2 b (Nat.ne_of_lt (Nat.lt_of_lt_of_le (Heap.lt_size e) I.ok.above))).trans e1⟩
  ·by_cases hj : j = i
   ·subst hj
    rw [hi] at e1; cases e1
    rw [List.getElem?_set_self hiσ] at e2
    cases e2
    exact ⟨u,r,.inl ⟨hk,by simp⟩⟩
   ·rw [List.getElem?_set_ne (Ne.symm hj)] at e2
    obtain ⟨u',r',q⟩:=hl j y v' e1 e2 e3
    refine ⟨u',r',?_⟩
    rcases q with ⟨k,e⟩ | ⟨k,c,e,z⟩
    ·refine .inl ⟨k,?_⟩
     have : y ≠ x:=fun e=>hj (nodup_ix hN e1 (e ▸ hi))
     simp [this,e]
    ·exact .inr ⟨k,c,e,z.sameBut hs (cne y c e)⟩
  ·obtain ⟨w',z⟩:=I.cell y c e
   exact ⟨w',z.sameBut hs (cne y c e)⟩
  ·obtain ⟨e,n,ne,nf,d⟩:=I.pin p hp
   exact ⟨(hs.2 p.1 ne).trans e,n,ne,nf,d⟩
 ·have hfn : X.fn x = true:=by
   rcases hf with z | z
   ·exact z
   ·rw [z] at hk; cases hk
  obtain ⟨c,hc⟩:=I.ok.has x (.inl hk)
  obtain ⟨w',z⟩:=I.cell x c hc
  refine wpAny_storeName_cell I.ok.kind hk hc z (fun h' hc' hs=>?_)
  obtain ⟨oc,hoc,hocd⟩:=id z
  refine h { s with heap:=h' } ⟨I.ok,I.os,I.bare,⟨fun b o e n hb hx=>?_,fun b o e n hb hx=>?_,I.base.free,fun b o e hx=>?_,I.base.tups,I.base.frzs,I.base.tbls⟩,⟨m,hn.sameBut hs (Ne.symm (cne x c hc)),fun j y v' e1 e2 e3=>?_⟩,fun y c' e=>?_,I.free,I.freeC,fun p hp=>?_,tracked ⟨oc,hoc,I.freeC x c hc⟩ hs,by simpa using I.len⟩ ⟨c,hs,.inr hc⟩
  ·exact (hs.2 b (Nat.ne_of_lt (Nat.lt_of_lt_of_le (Heap.lt_size e) (I.ok.cab x c hfn hc)))).trans (I.base.keep b o e n hb hx)
  ·obtain ⟨sl,e1⟩:=I.base.slot b o e n hb hx
   exact ⟨sl,(hs.2 b (Nat.ne_of_lt (Nat.lt_of_lt_of_le (Heap.lt_size e) (I.ok.cab x c hfn hc)))).trans e1⟩
  ·obtain ⟨o',e1⟩:=I.base.there b o e hx
   exact ⟨o',(hs.2 b (Nat.ne_of_lt (Nat.lt_of_lt_of_le (Heap.lt_size e) (I.ok.cab x c hfn hc)))).trans e1⟩
  ·by_cases hj : j = i
   ·subst hj
    rw [hi] at e1; cases e1
    rw [List.getElem?_set_self hiσ] at e2
    cases e2
    exact ⟨u,r,.inr ⟨.inl hk,c,hc,hc'⟩⟩
   ·rw [List.getElem?_set_ne (Ne.symm hj)] at e2
    obtain ⟨u',r',q⟩:=hl j y v' e1 e2 e3
    refine ⟨u',r',?_⟩
    rcases q with q | ⟨k,c',e,z'⟩
    ·exact .inl q
    ·refine .inr ⟨k,c',e,z'.sameBut hs ?_⟩
     rintro rfl
     exact hj (nodup_ix hN e1 (I.ok.inj _ _ _ e hc ▸ hi))
  ·by_cases hcc : c' = c
   ·subst hcc; exact ⟨_,hc'⟩
   ·obtain ⟨w2,z2⟩:=I.cell y c' e
    exact ⟨w2,z2.sameBut hs hcc⟩
  ·obtain ⟨e,n,ne,nf,d⟩:=I.pin p hp
   refine ⟨(hs.2 p.1 ?_).trans e,n,ne,nf,d⟩
   intro q
   rw [q,hoc] at e
   have q' : oc = p.2:=Option.some.inj e
   exact d w' (by rw [← q']; exact hocd)
theorem store_ok {M : Model} {A : Around} {E : Value→Shared→Prop} {i : Nat} {x : Str} {v : V} {u : Value} {Q : Unit→Shared→Prop} (I : Inv X pins σ H s) (hN : X.N.Nodup) (hi : X.N[i]? = some x) (hx : Loc X.env.scope x) (r : RelV v u)
  (h : ∀ s',Inv X pins (σ.set i (some v)) H s'→Q () s') (hf : X.fn x = true∨X.env.scope.names.lookup x = some .local:=by first | exact .inl rfl | exact .inr rfl | assumption) : wpAny M A (storeName X.env x u) Q E s :=
 store_ok2 I hN hi hx r (fun s' I' _=>h s' I') hf
theorem Inv.call' {s' : Shared} {ch : List Addr} (I : Inv X pins σ H s) (ho : s'.os = s.os) (u : Un (frs X.stack) ch H H' s.heap s'.heap) (hok : HOk X.prog X.w H' s'.heap) (hg : AllBare s'.gens)
  (hch : ∀ b∈ch,(b∈X.ex∨X.s₀.heap.objs.size≤b)∧b ≠ X.env.locals∧(∀ x c,X.env.cells.lookup x = some c→c ≠ b)∧∀ p∈X.pn ++ pins,p.1 ≠ b) : Inv X pins σ H' s':=by
 obtain ⟨h',g',d',t',o'⟩:=s'
 have e : o' = s.os:=ho
 subst e
 exact I.call (g':=g') (t':=t') (d':=d') u hok hg hch
end
noncomputable abbrev XK:=Value→Option Addr→Hp→Prop
noncomputable abbrev St:=List (Option V)
noncomputable abbrev VK:=V→Hp→Prop
noncomputable abbrev TE:=St→Hp→VK→Prop
noncomputable abbrev TT:=St→Hp→(Bool→Hp→Prop)→Prop
noncomputable abbrev TA:=St→Hp→(List V→Hp→Prop)→Prop
structure Ends where
 nx : St→Hp→Prop
 rt : VK
 bk : St→Hp→Prop:=fun _ _=>False
 ct : St→Hp→Prop:=fun _ _=>False
noncomputable abbrev TS:=Ends→St→Hp→Prop
noncomputable def EP (X : Cx) (pins : List (Addr × Obj)) (σ : St) (Q : VK) (u : Value) (s' : Shared) : Prop:=∃ v H',Inv X pins σ H' s'∧RelV v u∧Q v H'
noncomputable def TP (X : Cx) (pins : List (Addr × Obj)) (σ : St) (Q : Bool→Hp→Prop) (b : Bool) (s' : Shared) : Prop:=∃ H',Inv X pins σ H' s'∧Q b H'
noncomputable def AP (X : Cx) (pins : List (Addr × Obj)) (σ : St) (Q : List V→Hp→Prop) (us : List Value) (s' : Shared) : Prop:=∃ vs H',Inv X pins σ H' s'∧Vals vs us∧Q vs H'
noncomputable def SP (X : Cx) (pins : List (Addr × Obj)) (D : Ends) (f : Flow) (s' : Shared) : Prop :=
 match f with
 | .next=>∃ σ' H',Inv X pins σ' H' s'∧D.nx σ' H'
 | .brk=>∃ σ' H',Inv X pins σ' H' s'∧D.bk σ' H'
 | .cont=>∃ σ' H',Inv X pins σ' H' s'∧D.ct σ' H'
 | .ret u=>∃ v σ' H',Inv X pins σ' H' s'∧RelV v u∧D.rt v H'
noncomputable def PE (X : Cx) (e : Expr) (t : TE) : Prop :=
 ∀ (pins : List (Addr × Obj)) (s : Shared) (σ : St) (H : Hp) (Q : VK),Inv X pins σ H s→t σ H Q→wpAny (model X.prog X.w) X.A (eval e X.env) (EP X pins σ Q) X.xe s
noncomputable def PT (X : Cx) (e : Expr) (t : TT) : Prop :=
 ∀ (pins : List (Addr × Obj)) (s : Shared) (σ : St) (H : Hp) (Q : Bool→Hp→Prop),Inv X pins σ H s→t σ H Q→wpAny (model X.prog X.w) X.A (isTrue e X.env (eval e X.env)) (TP X pins σ Q) X.xe s
noncomputable def PW (X : Cx) (e : Expr) (t : TT) : Prop :=
 ∀ (whole : Sem Value) (pins : List (Addr × Obj)) (s : Shared) (σ : St) (H : Hp) (Q : Bool→Hp→Prop),Inv X pins σ H s→t σ H Q→wpAny (model X.prog X.w) X.A (isTrue e X.env whole) (TP X pins σ Q) X.xe s
theorem PW.pt {X : Cx} {e : Expr} {t : TT} (h : PW X e t) : PT X e t:=h _
noncomputable def PA (X : Cx) (es : List Expr) (t : TA) : Prop :=
 ∀ (pos : Pos) (pins : List (Addr × Obj)) (s : Shared) (σ : St) (H : Hp) (Q : List V→Hp→Prop),Inv X pins σ H s→t σ H Q→wpAny (model X.prog X.w) X.A (spliced (backTo pos (starEach es X.env))) (AP X pins σ Q) X.xe s
noncomputable def PS (X : Cx) (st : Stmt) (t : TS) : Prop :=
 ∀ (pins : List (Addr × Obj)) (s : Shared) (σ : St) (H : Hp) (D : Ends),Inv X pins σ H s→t D σ H→wpAny (model X.prog X.w) X.A (exec st X.env) (SP X pins D) X.xe s
noncomputable def PSs (X : Cx) (st : List Stmt) (t : TS) : Prop :=
 ∀ (pins : List (Addr × Obj)) (s : Shared) (σ : St) (H : Hp) (D : Ends),Inv X pins σ H s→t D σ H→wpAny (model X.prog X.w) X.A (execs st X.env) (SP X pins D) X.xe s
theorem thn {α : Type} {t : Sem α} {Q Q' : α→Shared→Prop} {M : Model} {A : Around} {E : Value→Shared→Prop} {s : Shared} (h : wpAny M A t Q E s) (hQ : ∀ a s,Q a s→Q' a s) : wpAny M A t Q' E s:=wpAny_mono h hQ fun _ _ x=>x
end L2
namespace L2
open PySem PySem.Spec PyProof.Rows
section
variable {X : Cx}
theorem bin {a b : Expr} {ta tb : TE} (ha : PE X a ta) (hb : PE X b tb) {pins : List (Addr × Obj)} {s : Shared} {σ : St} {H : Hp} {R : V→V→Hp→Prop} (I : Inv X pins σ H s) (h : ta σ H fun x H1=>tb σ H1 fun y H2=>R x y H2)
  {α : Type} {Q : α→Shared→Prop} {f : Value→Value→Sem α}
  (hf : ∀ v u s2 x y H2,Inv X pins σ H2 s2→RelV x v→RelV y u→R x y H2→wpAny (model X.prog X.w) X.A (f v u) Q X.xe s2) :
  wpAny (model X.prog X.w) X.A (eval a X.env) (fun v s₁=>wpAny (model X.prog X.w) X.A (eval b X.env) (fun u s₂=>wpAny (model X.prog X.w) X.A (f v u) Q X.xe s₂) X.xe s₁) X.xe s:=by
 refine thn (ha pins s σ H _ I h) fun v s1 ⟨x,H1,I1,r1,q1⟩=>?_
 refine thn (hb pins s1 σ H1 _ I1 q1) fun u s2 ⟨y,H2,I2,r2,q2⟩=>?_
 exact hf v u s2 x y H2 I2 r1 r2 q2
noncomputable def tVar (i : Nat) : TE:=fun σ H Q=>∃ v,σ[i]? = some (some v)∧Q v H
noncomputable def tC (v : V) : TE:=fun _ H Q=>Q v H
theorem pe_var {i : Nat} {x : Str} {pos : Pos} (hN : X.N[i]? = some x) (hv : Vis X.env.scope x) (hd : (x == ("__debug__" : Str)) = false:=by decide) (hcd : (x == ("__classdict__" : Str)) = false:=by decide) : PE X (.Name x pos) (tVar i):=by
 intro pins s σ H Q I h
 obtain ⟨v,e,h⟩:=h
 obtain ⟨m,hn,hl⟩:=I.loc
 obtain ⟨u,r,l⟩:=hl i x v hN e hv
 have fin : EP X pins σ Q u s:=⟨v,H,I,r,h⟩
 rcases l with ⟨hk,hm⟩ | ⟨hk,c,hc,hcell⟩
 ·exact wpAny_Name (wpAny_loadName_local I.ok.kind hk hn hm fin) hd
 ·rcases hk with hk | hk
  ·exact wpAny_Name (wpAny_loadName_cell I.ok.kind hk hc hcell fin) hd
  ·exact wpAny_Name (wpAny_loadName_free I.ok.kind hk hc hcell fin hcd) hd
theorem pe_int {i j pos} : PE X (.Constant (.int i) j pos) (tC (.int i)):=fun _ _ _ H _ I h=>wpAny_Constant_int ⟨.int i,H,I.tok _,⟨_,rfl⟩,h⟩
theorem pe_bl {b j pos} : PE X (.Constant (.bool b) j pos) (tC (.bl b)):=fun _ _ _ H _ I h=>Constant_bool ⟨.bl b,H,I,rfl,h⟩
theorem pe_non {j pos} : PE X (.Constant .none j pos) (tC .non):=fun _ _ _ H _ I h=>Constant_none ⟨.non,H,I,rfl,h⟩
noncomputable def Gl (X : Cx) (x : Str) : Prop:=X.env.kindOf x = some .globalImplicit
theorem ld_glob {E : Value→Shared→Prop} {pins : List (Addr × Obj)} {s : Shared} {σ : St} {H : Hp} {x : Str} {u : Value} {pos : Pos} {Q : Value→Shared→Prop} (I : Inv X pins σ H s) (hg : Gl X x) (hm : X.mg x = some u) (h : Q u s)
  (hd : (x == ("__debug__" : Str)) = false:=by decide) : wpAny (model X.prog X.w) X.A (eval (.Name x pos) X.env) Q E s :=
 Calls.Name_function_global I.ok.kind hg (Calls.loadGlobal_global (by rw [I.ok.glob]; exact I.mod.glob.keeps I.bk) hm h) hd
theorem ld_blt {E : Value→Shared→Prop} {pins : List (Addr × Obj)} {s : Shared} {σ : St} {H : Hp} {x : Str} {u : Value} {pos : Pos} {Q : Value→Shared→Prop} (I : Inv X pins σ H s) (hg : Gl X x) (hm : X.mg x = none) (hv : bootBuiltins x = some u) (h : Q u s)
  (hn : x ≠ "__name__":=by decide) (hd : (x == ("__debug__" : Str)) = false:=by decide) : wpAny (model X.prog X.w) X.A (eval (.Name x pos) X.env) Q E s:=by
 obtain ⟨mb,h1,h2⟩:=I.mod.blt
 exact Calls.Name_function_global I.ok.kind hg (Calls.loadGlobal_builtin (by rw [I.ok.glob]; exact I.mod.glob.keeps I.bk) hm (by rw [I.ok.blt]; exact h1.keeps I.bk) ((h2 x hn).trans hv) h) hd
theorem pe_bltn {x : Str} {v : V} {u : Value} {pos : Pos} (hg : Gl X x) (hm : X.mg x = none) (hv : bootBuiltins x = some u) (r : RelV v u) (hn : x ≠ "__name__":=by decide) (hd : (x == ("__debug__" : Str)) = false:=by decide) : PE X (.Name x pos) (tC v) :=
 fun _ _ _ H _ I h=>ld_blt I hg hm hv ⟨v,H,I,r,h⟩ hn hd
noncomputable def t2I (ta tb : TE) (k : Int→Int→Hp→Prop) : St→Hp→Prop:=fun σ H=>ta σ H fun x H1=>tb σ H1 fun y H2=>∃ i j,x = .int i∧y = .int j∧k i j H2
variable {a b : Expr} {ta tb : TE} {pos : Pos}
noncomputable def tCmp (p : Int→Int→Bool) (ta tb : TE) : TE:=fun σ H Q=>t2I ta tb (fun i j H2=>Q (.bl (p i j)) H2) σ H
noncomputable abbrev tLe : TE→TE→TE:=tCmp fun i j=>decide (i≤j)
variable {tA tB' : TT} {rest : List Expr}
noncomputable def tAnd (t u : TT) : TT:=fun σ H Q=>t σ H fun c H1=>if c = true then u σ H1 Q else Q false H1
noncomputable def tOr (t u : TT) : TT:=fun σ H Q=>t σ H fun c H1=>if c = true then Q true H1 else u σ H1 Q
noncomputable def tNot (t : TT) : TT:=fun σ H Q=>t σ H fun c H1=>Q (!c) H1
theorem pw_and1 (ha : PT X a tA) : PW X (.BoolOp .And [a] pos) tA:=by
 intro wh pins s σ H Q I h
 refine isTrue_and (thn (ha pins s σ H Q I h) fun c s1 e=>?_)
 cases c with
 | true=>exact isTrue_and_nil e
 | false=>exact e
theorem pw_or1 (ha : PT X a tA) : PW X (.BoolOp .Or [a] pos) tA:=by
 intro wh pins s σ H Q I h
 refine isTrue_or (thn (ha pins s σ H Q I h) fun c s1 e=>?_)
 cases c with
 | false=>exact isTrue_or_nil e
 | true=>exact e
theorem pw_and (ha : PT X a tA) (hb : PW X (.BoolOp .And (b :: rest) pos) tB') : PW X (.BoolOp .And (a :: b :: rest) pos) (tAnd tA tB'):=by
 intro wh pins s σ H Q I h
 refine isTrue_and (thn (ha pins s σ H _ I h) fun c s1 ⟨H1,I1,q1⟩=>?_)
 cases c with
 | true=>exact hb wh pins s1 σ H1 Q I1 q1
 | false=>exact ⟨H1,I1,q1⟩
theorem pw_or (ha : PT X a tA) (hb : PW X (.BoolOp .Or (b :: rest) pos) tB') : PW X (.BoolOp .Or (a :: b :: rest) pos) (tOr tA tB'):=by
 intro wh pins s σ H Q I h
 refine isTrue_or (thn (ha pins s σ H _ I h) fun c s1 ⟨H1,I1,q1⟩=>?_)
 cases c with
 | true=>exact ⟨H1,I1,q1⟩
 | false=>exact hb wh pins s1 σ H1 Q I1 q1
theorem pt_not (ha : PT X a tA) : PT X (.UnaryOp .Not a pos) (tNot tA):=by
 intro pins s σ H Q I h
 exact isTrue_not (ha pins s σ H (fun c H1=>Q (!c) H1) I h)
theorem pe_one {op} {t : TE} (h : PE X a t) : PE X (.BoolOp op [a] pos) t:=fun pins s σ H Q I hw=>BoolOp_one (h pins s σ H Q I hw)
noncomputable def tIf (t : TT) (ta tb : TE) : TE:=fun σ H Q=>t σ H fun c H1=>if c = true then ta σ H1 Q else tb σ H1 Q
theorem pe_ifExp {c : Expr} (hc : PT X c tA) (ha : PE X a ta) (hb : PE X b tb) : PE X (.IfExp c a b pos) (tIf tA ta tb):=by
 intro pins s σ H Q I h
 refine wpAny_IfExp (thn (hc pins s σ H _ I h) fun d s1 ⟨H1,I1,q1⟩=>?_)
 cases d with
 | true=>exact ha pins s1 σ H1 Q I1 q1
 | false=>exact hb pins s1 σ H1 Q I1 q1
end
end L2
namespace L2
open PySem PySem.Spec PyProof.Rows
noncomputable def SqL (K : PySem.W.Frag) (H : Hp) (a : Addr) (xs : List V) : Prop :=
 Rd H a (.lst xs) ∨
  ∃ (o : Obj) (its : Array Value) (n : Nat),K.lookup a = some o∧o.cls = .type "list"∧o.dict = none∧o.data = .seq its n∧its.size≤sizeLine∧Vals xs its.toList
noncomputable def SqT (K : PySem.W.Frag) (H : Hp) (a : Addr) (xs : List V) : Prop :=
 Rd H a (.tup xs) ∨
  ∃ (o : Obj) (its : Array Value) (n : Nat),K.lookup a = some o∧o.cls = .type "tuple"∧o.data = .seq its n∧its.size≤sizeLine∧Vals xs its.toList
noncomputable def absV : Value→Option V
 | .none=>some .non
 | .bool b=>some (.bl b)
 | .int i _=>some (.int i)
 | .str x _=>some (.str x)
 | .bytes b _=>some (.byt b)
 | .float b _=>some (.flt b)
 | .ref a=>some (.ref a)
 | .type n=>some (.ty n)
 | _=>none
theorem RelV.abs {x : V} {u : Value} (r : RelV x u) : absV u = some x:=by
 cases x with
 | non=>cases r; rfl
 | bl _=>cases r; rfl
 | int _=>obtain ⟨t,rfl⟩:=r; rfl
 | str _=>obtain ⟨t,rfl⟩:=r; rfl
 | byt _=>obtain ⟨t,rfl⟩:=r; rfl
 | flt _=>obtain ⟨t,rfl⟩:=r; rfl
 | ref _=>cases r; rfl
 | ty _=>cases r; rfl
theorem RelV.inj {x y : V} {u : Value} (r : RelV x u) (q : RelV y u) : x = y:=Option.some.inj (r.abs.symm.trans q.abs)
theorem Vals.inj : ∀ {xs ys : List V} {us : List Value},Vals xs us→Vals ys us→xs = ys
 | _,_,_,.nil,.nil=>rfl
 | _,_,_,.cons r t,.cons r' t'=>by rw [r.inj r',Vals.inj t t']
section
variable {X : Cx} {pins : List (Addr × Obj)} {σ : St} {H : Hp} {s : Shared} {a : Addr} {xs ys : List V}
theorem SqL.of {K : PySem.W.Frag} (h : H a = some (.lst xs)) : SqL K H a xs:=.inl (.inl h)
theorem SqT.of {K : PySem.W.Frag} (h : H a = some (.tup xs)) : SqT K H a xs:=.inl (.inl h)
theorem Inv.list (I : Inv X pins σ H s) (h : SqL X.K H a xs) : ∃ its : List Value,Vals xs its∧PlainL s.heap a its.toArray∧xs.length≤sizeLine:=by
 rcases h with h | ⟨o,its,n,hk,hc,hd,hs,hz,r⟩
 ·obtain ⟨z,its,n,r,e⟩:=h.ok I.hok
  exact ⟨its,r,⟨_,n,e,rfl,rfl,rfl⟩,z⟩
 ·refine ⟨its.toList,r,⟨o,n,I.kIn a o hk,hc,hd,by simpa using hs⟩,?_⟩
  have e:=r.length
  simp only [Array.length_toList] at e
  omega
theorem Inv.tuple (I : Inv X pins σ H s) (h : SqT X.K H a xs) : ∃ its : List Value,Vals xs its∧IsTup s.heap a its.toArray∧xs.length≤sizeLine:=by
 rcases h with h | ⟨o,its,n,hk,hc,hs,hz,r⟩
 ·obtain ⟨z,its,r,p⟩:=h.ok I.hok
  exact ⟨its,r,p,z⟩
 ·refine ⟨its.toList,r,⟨o,I.kIn a o hk,hc,n,by simpa using hs⟩,?_⟩
  have e:=r.length
  simp only [Array.length_toList] at e
  omega
theorem Inv.list_inj (I : Inv X pins σ H s) (h : SqL X.K H a xs) (h' : SqL X.K H a ys) : xs = ys:=by
 obtain ⟨its,r,⟨o,n,e,_,_,d⟩,_⟩:=I.list h
 obtain ⟨its',r',⟨o',n',e',_,_,d'⟩,_⟩:=I.list h'
 rw [e] at e'; cases e'
 rw [d] at d'
 injection d' with d1 _
 have : its = its':=by simpa using congrArg Array.toList d1
 subst this
 exact r.inj r'
end
noncomputable abbrev Cx.wish (X : Cx) (E : Value→Shared→Prop) : Cx:={ X with xe:=E }
noncomputable abbrev Cx.nox (X : Cx) : Cx:=X.wish fun _ _=>False
theorem Cx.Ok.wish {X : Cx} (ok : X.Ok) (E : Value→Shared→Prop) : (X.wish E).Ok :=
 ⟨ok.mod,ok.kind,ok.glob,ok.blt,ok.above,ok.inj,ok.has,ok.cab,ok.hd,ok.frames,ok.stk,ok.exf,ok.bs,ok.bsz,ok.noex,ok.exfs,ok.funs,ok.frf⟩
theorem Cx.Ok.unwish {X : Cx} {E : Value→Shared→Prop} (ok : (X.wish E).Ok) : X.Ok :=
 ⟨ok.mod,ok.kind,ok.glob,ok.blt,ok.above,ok.inj,ok.has,ok.cab,ok.hd,ok.frames,ok.stk,ok.exf,ok.bs,ok.bsz,ok.noex,ok.exfs,ok.funs,ok.frf⟩
section
variable {X : Cx} {pins : List (Addr × Obj)} {σ : St} {H : Hp} {s : Shared} {E : Value→Shared→Prop}
theorem Inv.wish (I : Inv X pins σ H s) (E : Value→Shared→Prop) : Inv (X.wish E) pins σ H s:=⟨I.ok.wish E,I.os,I.bare,I.base,I.loc,I.cell,I.free,I.freeC,I.pin,I.hok,I.len⟩
theorem Inv.unwish (I : Inv (X.wish E) pins σ H s) : Inv X pins σ H s:=⟨I.ok.unwish,I.os,I.bare,I.base,I.loc,I.cell,I.free,I.freeC,I.pin,I.hok,I.len⟩
theorem SP.unwish {D : Ends} {f : Flow} {s' : Shared} (h : SP (X.wish E) pins D f s') : SP X pins D f s':=by
 cases f with
 | next=>obtain ⟨σ',H',I,q⟩:=h; exact ⟨σ',H',I.unwish,q⟩
 | brk=>obtain ⟨σ',H',I,q⟩:=h; exact ⟨σ',H',I.unwish,q⟩
 | cont=>obtain ⟨σ',H',I,q⟩:=h; exact ⟨σ',H',I.unwish,q⟩
 | ret u=>obtain ⟨v,σ',H',I,r,q⟩:=h; exact ⟨v,σ',H',I.unwish,r,q⟩
theorem PSs.nox {st : List Stmt} {t : TS} (h : PSs X.nox st t) : PSs X st t:=fun pins s σ H D I hw =>
 wpAny_mono (h pins s σ H D (I.wish _) hw) (fun _ _ q=>q.unwish) fun _ _ z=>False.elim z
end
section
variable {X : Cx} {st : Stmt} {rest : List Stmt} {t u : TS} {e : Expr} {te : TE} {pos : Pos}
noncomputable def tNext : TS:=fun D σ H=>D.nx σ H
noncomputable def tSeq (t u : TS) : TS:=fun D σ H=>t { D with nx:=u D } σ H
theorem pss_nil : PSs X [] tNext:=fun _ _ σ H _ I h=>wpAny_execs_nil ⟨σ,H,I,h⟩
theorem pss_cons (h1 : PS X st t) (h2 : PSs X rest u) : PSs X (st :: rest) (tSeq t u):=by
 intro pins s σ H D I h
 refine wpAny_execs_cons (thn (h1 pins s σ H { D with nx:=u D } I h) fun f s1 q=>?_)
 cases f with
 | next =>
  obtain ⟨σ',H',I',q⟩:=q
  exact h2 pins s1 σ' H' D I' q
 | ret v=>exact q
 | brk=>exact q
 | cont=>exact q
theorem pss_one (h1 : PS X st t) : PSs X [st] t:=by
 intro pins s σ H D I h
 refine wpAny_execs_cons (thn (h1 pins s σ H D I h) fun f s1 q=>?_)
 cases f with
 | next=>exact wpAny_execs_nil q
 | ret v=>exact q
 | brk=>exact q
 | cont=>exact q
theorem Inv.quiet {pins : List (Addr × Obj)} {σ : St} {H : Hp} {s : Shared} (I : Inv X pins σ H s) : interactive X.env = false:=by simp [interactive,I.ok.kind]
noncomputable def tDrop (te : TE) : TS:=fun D σ H=>te σ H fun _ H1=>D.nx σ H1
theorem ps_expr (he : PE X e te) (hs : swapsWith e none pos.line X.env = pure false:=by rfl) : PS X (.Expr e pos) (tDrop te):=by
 intro pins s σ H D I h
 exact wpAny_Expr_any (thn (he pins s σ H _ I h) fun v s1 ⟨x,H1,I1,r1,q1⟩=>⟨σ,H1,I1,q1⟩) I.quiet hs
noncomputable def tRet (te : TE) : TS:=fun D σ H=>te σ H D.rt
theorem ps_ret (he : PE X e te) : PS X (.Return (some e) pos) (tRet te):=by
 intro pins s σ H D I h
 exact wpAny_Return_some (thn (he pins s σ H _ I h) fun v s1 ⟨x,H1,I1,r1,q1⟩=>⟨x,σ,H1,I1,r1,q1⟩)
noncomputable def tRetN : TS:=fun D _ H=>D.rt .non H
noncomputable def tIfS (c : TT) (t u : TS) : TS:=fun D σ H=>c σ H fun b H1=>if b = true then t D σ H1 else u D σ H1
theorem ps_if {c : Expr} {a b : List Stmt} {tc : TT} (hc : PT X c tc) (ha : PSs X a t) (hb : PSs X b u) : PS X (.If c a b pos) (tIfS tc t u):=by
 intro pins s σ H D I h
 refine wpAny_If (thn (hc pins s σ H _ I h) fun d s1 ⟨H1,I1,q1⟩=>?_)
 cases d with
 | true=>exact ha pins s1 σ H1 D I1 q1
 | false=>exact hb pins s1 σ H1 D I1 q1
noncomputable def tNever : TS:=fun _ _ _=>False
end
noncomputable abbrev TG:=V→St→Hp→(St→Hp→Prop)→Prop
noncomputable abbrev TGs:=List V→St→Hp→(St→Hp→Prop)→Prop
noncomputable def PG (X : Cx) (target : Expr) (t : TG) : Prop :=
 ∀ (pins : List (Addr × Obj)) (s : Shared) (σ : St) (H : Hp) (v : V) (u : Value) (Q : St→Hp→Prop),Inv X pins σ H s→RelV v u→t v σ H Q →
  wpAny (model X.prog X.w) X.A (assign target X.env u) (fun _ s'=>∃ σ' H',Inv X pins σ' H' s'∧Q σ' H') X.xe s
noncomputable def PGs (X : Cx) (ts : List Expr) (t : TGs) : Prop :=
 ∀ (pins : List (Addr × Obj)) (s : Shared) (σ : St) (H : Hp) (vs : List V) (us : List Value) (Q : St→Hp→Prop),Inv X pins σ H s→Vals vs us→t vs σ H Q →
  wpAny (model X.prog X.w) X.A (assignInOrder ((assignEach ts X.env).map (·.2)) us) (fun _ s'=>∃ σ' H',Inv X pins σ' H' s'∧Q σ' H') X.xe s
noncomputable abbrev TSet:=V→V→V→Hp→(Hp→Prop)→Prop
noncomputable def PSet (X : Cx) (t : TSet) : Prop :=
 ∀ (pins : List (Addr × Obj)) (s : Shared) (σ : St) (H : Hp) (o i v : V) (ov iv u : Value) (Q : Hp→Prop),Inv X pins σ H s→RelV o ov→RelV i iv→RelV v u→t o i v H Q →
  wpAny (model X.prog X.w) X.A (setItem ov iv u) (fun _ s'=>∃ H',Inv X pins σ H' s'∧Q H') X.xe s
noncomputable abbrev TIp:=V→V→Hp→VK→Prop
noncomputable def PIp (X : Cx) (op : Operator) (t : TIp) : Prop :=
 ∀ (pins : List (Addr × Obj)) (s : Shared) (σ : St) (H : Hp) (x y : V) (v u : Value) (Q : VK),Inv X pins σ H s→RelV x v→RelV y u→t x y H Q →
  wpAny (model X.prog X.w) X.A (inplaceOp op v u) (EP X pins σ Q) X.xe s
section
variable {X : Cx} {pos : Pos}
noncomputable def gName (i : Nat) : TG:=fun v σ H Q=>Q (σ.set i (some v)) H
theorem pg_name {i : Nat} {x : Str} (hN : X.N.Nodup) (hi : X.N[i]? = some x) (hx : Loc X.env.scope x) (hf : X.fn x = true∨X.env.scope.names.lookup x = some .local:=by first | exact .inl rfl | exact .inr rfl | assumption) : PG X (.Name x pos) (gName i):=by
 intro pins s σ H v u Q I r h
 exact wpAny_assign_Name (store_ok I hN hi hx r (fun s' I'=>⟨_,H,I',h⟩) hf)
noncomputable def gTup (K : PySem.W.Frag) (n : Nat) (t : TGs) : TG:=fun v σ H Q=>∃ a xs,v = .ref a∧SqT K H a xs∧xs.length = n∧t xs σ H Q
theorem pg_tup {es : List Expr} {k : Nat} {t : TGs} {n : Nat} (hc : X.calm = true) (h : PGs X es t)
  (hn : (assignEach es X.env).length = n:=by rfl) (hst : (assignEach es X.env).findIdx? (·.1) = none:=by rfl) : PG X (.Tuple es k pos) (gTup X.K n t):=by
 intro pins s σ H v u Q I r hw
 obtain ⟨a,xs,e1,hq,hl,hw⟩:=hw
 subst e1
 cases r
 obtain ⟨its,rv,ht,hz⟩:=I.tuple hq
 refine assign_Tuple_tuple (I.ok.hd hc) ht (by simp [hn,← hl,rv.length]) hst fun h' hx=>?_
 have I1 : Inv X pins σ H { s with heap:=h' }:=I.kept (t':=s.toks) fun b o e=>hx b o (Nat.ne_of_lt (Heap.lt_size e)) e
 exact h pins _ σ H xs _ Q I1 (by simpa using rv) hw
noncomputable def gSub (to ti : TE) (t : TSet) : TG:=fun v σ H Q=>to σ H fun o H1=>ti σ H1 fun i H2=>t o i v H2 fun H3=>Q σ H3
theorem pg_sub {o i : Expr} {to ti : TE} {t : TSet} (ho : PE X o to) (hi : PE X i ti) (hs : PSet X t)
  (ha : ∀ v,assign (.Subscript o i pos) X.env v = (do
   let ov ← holding [v] (eval o X.env)
   let iv ← holding [v,ov] (eval i X.env)
   standAt pos
   holding [v,ov,iv] (setItem ov iv v)
   release [v,ov,iv] []):=by intro _; rfl) : PG X (.Subscript o i pos) (gSub to ti t):=by
 intro pins s σ H v u Q I r h
 rw [ha]
 refine wpAny_bind (wpAny_holding (thn (ho pins s σ H _ I h) fun ov s1 ⟨x,H1,I1,r1,q1⟩=>?_))
 refine wpAny_bind (wpAny_holding (thn (hi pins s1 σ H1 _ I1 q1) fun iv s2 ⟨y,H2,I2,r2,q2⟩=>?_))
 refine wpAny_bind (wpAny_standAt (wpAny_bind (wpAny_holding (thn (hs pins s2 σ H2 x y v ov iv u _ I2 r1 r2 r q2) fun _ s3 ⟨H3,I3,q3⟩=>?_))))
 exact wpAny_release ⟨σ,H3,I3,q3⟩
noncomputable def tAsg (te : TE) (g : TG) : TS:=fun D σ H=>te σ H fun x H1=>g x σ H1 D.nx
theorem ps_asg {tg e : Expr} {te : TE} {g : TG} (he : PE X e te) (hg : PG X tg g) (hs : swapsWithSole [tg] e pos.line X.env = pure false:=by rfl) (hw : swappedStores [tg] e X.env = pure none:=by rfl)
  (h1 : (assignEach [tg] X.env).map (·.2) = [assign tg X.env]:=by rfl) : PS X (.Assign [tg] e pos) (tAsg te g):=by
 intro pins s σ H D I h
 refine wpAny_Assign_stores (thn (he pins s σ H _ I h) fun v s1 ⟨x,H1,I1,r1,q1⟩=>?_) hs hw
 rw [h1]
 exact thn (hg pins s1 σ H1 x v _ I1 r1 q1) fun _ s2 q=>q
theorem ps_set {i : Nat} {x : Str} {e : Expr} {te : TE} {pos' : Pos} (hN : X.N.Nodup) (hi : X.N[i]? = some x) (hx : Loc X.env.scope x) (he : PE X e te) (hs : swapsWith e (some (.Name x pos')) pos.line X.env = pure false:=by rfl) (hf : X.fn x = true∨X.env.scope.names.lookup x = some .local:=by first | exact .inl rfl | exact .inr rfl | assumption) :
  PS X (.Assign [.Name x pos'] e pos) (tAsg te (gName i)):=by
 intro pins s σ H D I h
 refine wpAny_Assign_Name (thn (he pins s σ H _ I h) fun v s1 ⟨y,H1,I1,r1,q1⟩=>?_) hs
 exact store_ok I1 hN hi hx r1 (fun s2 I2=>⟨_,H1,I2,q1⟩) hf
noncomputable def tAug (i : Nat) (te : TE) (ti : TIp) : TS:=fun D σ H=>∃ x,σ[i]? = some (some x)∧te σ H fun y H1=>ti x y H1 fun z H2=>D.nx (σ.set i (some z)) H2
theorem ps_aug {i : Nat} {x : Str} {e : Expr} {te : TE} {op : Operator} {ti : TIp} {pos' : Pos} (hN : X.N.Nodup) (hi : X.N[i]? = some x) (hx : Loc X.env.scope x) (he : PE X e te) (ho : PIp X op ti) (hf : X.fn x = true∨X.env.scope.names.lookup x = some .local:=by first | exact .inl rfl | exact .inr rfl | assumption) :
  PS X (.AugAssign (.Name x pos') op e pos) (tAug i te ti):=by
 intro pins s σ H D I h
 obtain ⟨v,e1,h⟩:=h
 obtain ⟨m,hn,hl⟩:=I.loc
 have vis : Vis X.env.scope x:=by rcases hx with k | k; exact .inl k; exact .inr (.inl k)
 obtain ⟨u,r,l⟩:=hl i x v hi e1 vis
 refine wpAny_AugAssign_Name ?_
 have go : wpAny (model X.prog X.w) X.A (eval e X.env) (fun w s₂=>wpAny (model X.prog X.w) X.A (inplaceOp op u w) (fun r s₃=>wpAny (model X.prog X.w) X.A (storeName X.env x r) (fun _=>SP X pins D .next) X.xe s₃) X.xe s₂) X.xe s:=by
  refine thn (he pins s σ H _ I h) fun w s1 ⟨y,H1,I1,r1,q1⟩=>?_
  refine thn (ho pins s1 σ H1 v y u w _ I1 r r1 q1) fun z s2 ⟨zv,H2,I2,r2,q2⟩=>?_
  exact store_ok I2 hN hi hx r2 (fun s3 I3=>⟨_,H2,I3,q2⟩) hf
 rcases l with ⟨hk,hm⟩ | ⟨hk,c,hc,hcell⟩
 ·exact wpAny_loadName_local I.ok.kind hk hn hm go
 ·rcases hk with hk | hk
  ·exact wpAny_loadName_cell I.ok.kind hk hc hcell go
  ·rcases hx with k | k
   ·have : X.env.scope.names.lookup x = some .free:=hk
    rw [k] at this; cases this
   ·have : X.env.scope.names.lookup x = some .free:=hk
    rw [k] at this; cases this
noncomputable def tAugS (to ti te : TE) (tget : V→V→Hp→VK→Prop) (tip : TIp) (tset : TSet) : TS:=fun D σ H=>to σ H fun o H1=>ti σ H1 fun i H2=>tget o i H2 fun x H3=>te σ H3 fun y H4=>tip x y H4 fun z H5=>tset o i z H5 fun H6=>D.nx σ H6
noncomputable def PGet (X : Cx) (t : V→V→Hp→VK→Prop) : Prop :=
 ∀ (pins : List (Addr × Obj)) (s : Shared) (σ : St) (H : Hp) (o i : V) (ov iv : Value) (Q : VK),Inv X pins σ H s→RelV o ov→RelV i iv→t o i H Q →
  wpAny (model X.prog X.w) X.A (getItem ov iv) (EP X pins σ Q) X.xe s
theorem ps_augS {o i e : Expr} {to ti te : TE} {tget : V→V→Hp→VK→Prop} {tip : TIp} {tset : TSet} {op : Operator} {tpos : Pos} (ho : PE X o to) (hi : PE X i ti) (hg : PGet X tget) (he : PE X e te) (hp : PIp X op tip) (hs : PSet X tset)
  (ha : ∀ ov iv new,augStore i ov iv new = (do holding [new,ov,iv] (setItem ov iv new); release [new,ov,iv] []; pure .next):=by intros; rfl) : PS X (.AugAssign (.Subscript o i tpos) op e pos) (tAugS to ti te tget tip tset):=by
 intro pins s σ H D I h
 refine wpAny_AugAssign_SubscriptAny (thn (ho pins s σ H _ I h) fun ov s1 ⟨x1,H1,I1,r1,q1⟩=>?_) ha
 refine thn (hi pins s1 σ H1 _ I1 q1) fun iv s2 ⟨x2,H2,I2,r2,q2⟩=>?_
 refine thn (hg pins s2 σ H2 x1 x2 ov iv _ I2 r1 r2 q2) fun old s3 ⟨x3,H3,I3,r3,q3⟩=>?_
 refine thn (he pins s3 σ H3 _ I3 q3) fun v s4 ⟨x4,H4,I4,r4,q4⟩=>?_
 refine thn (hp pins s4 σ H4 x3 x4 old v _ I4 r3 r4 q4) fun new s5 ⟨x5,H5,I5,r5,q5⟩=>?_
 exact thn (hs pins s5 σ H5 x1 x2 x5 ov iv new _ I5 r1 r2 r5 q5) fun _ s6 ⟨H6,I6,q6⟩=>⟨σ,H6,I6,q6⟩
noncomputable def ipI (f : Int→Int→Int) : TIp:=fun x y H Q=>∃ i j,x = .int i∧y = .int j∧Q (.int (f i j)) H
theorem ip_add : PIp X .Add (ipI fun i j=>i + j):=by
 intro pins s σ H x y v u Q I r1 r2 h
 obtain ⟨i,j,e1,e2,q⟩:=h
 subst e1; subst e2
 obtain ⟨t,rfl⟩:=r1
 obtain ⟨t',rfl⟩:=r2
 exact iadd_int ⟨.int _,H,I.tok _,⟨_,rfl⟩,q⟩
theorem ip_sub : PIp X .Sub (ipI fun i j=>i - j):=by
 intro pins s σ H x y v u Q I r1 r2 h
 obtain ⟨i,j,e1,e2,q⟩:=h
 subst e1; subst e2
 obtain ⟨t,rfl⟩:=r1
 obtain ⟨t',rfl⟩:=r2
 exact isub_int ⟨.int _,H,I.tok _,⟨_,rfl⟩,q⟩
end
section
variable {X : Cx} {pos : Pos}
noncomputable def tWhile (c : TT) (tb : TS) : TS:=fun D σ H=>∃ W : Nat→St→Hp→Prop,(∃ m,W m σ H)∧∀ m σ H,W m σ H →
 c σ H fun b H1=>if b = true then ∃ N : St→Hp→Prop,(∀ σ' H',N σ' H'→∃ m',m' < m∧W m' σ' H')∧tb { D with nx:=N,ct:=N,bk:=D.nx } σ H1 else D.nx σ H1
theorem ps_while {c : Expr} {body : List Stmt} {tc : TT} {tb : TS} (hp : PassesOwn (model X.prog X.w) X.A X.env X.xe) (hc : PT X c tc) (hb : PSs X body tb) : PS X (.While c body [] pos) (tWhile tc tb):=by
 intro pins s σ H D I h
 obtain ⟨W,⟨m0,w0⟩,turn⟩:=h
 refine wpAny_While (codeAny_whileLoop (fun n s'=>∃ σ' H',Inv X pins σ' H' s'∧W n σ' H') ?_ m0 ⟨σ,H,I,w0⟩)
 rintro n s1 ⟨σ1,H1,I1,w1⟩
 refine wpAny_passesOwn hp (thn (hc pins s1 σ1 H1 _ I1 (turn n σ1 H1 w1)) fun b s2 ⟨H2,I2,q2⟩=>?_)
 cases b with
 | true =>
  obtain ⟨N,hN,q2⟩:=q2
  rw [if_pos rfl]
  refine wpAny_passesOwn hp (thn (hb pins s2 σ1 H2 _ I2 q2) fun f s3 q3=>?_)
  cases f with
  | next =>
   obtain ⟨σ3,H3,I3,n3⟩:=q3
   obtain ⟨m',hm,w3⟩:=hN σ3 H3 n3
   exact ⟨m',hm,σ3,H3,I3,w3⟩
  | cont =>
   obtain ⟨σ3,H3,I3,n3⟩:=q3
   obtain ⟨m',hm,w3⟩:=hN σ3 H3 n3
   exact ⟨m',hm,σ3,H3,I3,w3⟩
  | brk=>exact q3
  | ret v=>exact q3
 | false =>
  rw [if_neg Bool.false_ne_true]
  exact wpAny_execs_nil ⟨σ1,H2,I2,q2⟩
end
structure It where
 go : Nat→Hp→Prop
 yld : Nat→Hp→V→Hp→Prop
 stop : Nat→Hp→Prop
noncomputable def FpOk (X : Cx) (pins : List (Addr × Obj)) (H : Hp) (b : Addr) : Prop :=
 H b = none∧b ≠ X.env.locals∧b ∉ X.fs∧(b∈X.ex∨X.s₀.heap.objs.size≤b)∧(∀ x c,X.env.cells.lookup x = some c→c ≠ b)∧∀ p∈X.pn ++ pins,p.1 ≠ b
theorem Inv.fpOk {X : Cx} {pins : List (Addr × Obj)} {σ : St} {H H' : Hp} {s : Shared} {b : Addr} (I : Inv X pins σ H s) (hb : s.heap.objs.size≤b) (hn : H' b = none) : FpOk X pins H' b:=by
 refine ⟨hn,Nat.ne_of_gt (Nat.lt_of_lt_of_le I.lt hb),I.nofs hb,.inr (Nat.le_trans I.sz hb),fun x c e z=>?_,fun p hp z=>?_⟩
 ·obtain ⟨v,q⟩:=I.cell x c e
  exact absurd (Nat.lt_of_lt_of_le q.lt (by rw [z]; exact hb)) (Nat.lt_irrefl _)
 ·exact absurd (Nat.lt_of_lt_of_le (Heap.lt_size (I.pin p hp).1) (by rw [z]; exact hb)) (Nat.lt_irrefl _)
structure Turn (P : Program) (w : World) (K : PySem.W.Frag) (tg : Expr) (J : It) (fp : List Addr) (it : Addr) (tn : Nat→Heap→Prop) : Prop where
 mem : it∈fp
 obj : ∀ i h,tn i h→∀ b∈fp,∃ o,h.get? b = some o∧∀ v,o.data ≠ .cell v
 keep : ∀ i h h',tn i h→(∀ b∈fp,∀ o,h.get? b = some o→h'.get? b = some o)→tn i h'
 item : ∀ (X : Cx),X.prog = P→X.w = w→X.K = K→X.calm = true→∀ (i : Nat) (pins : List (Addr × Obj)) (s : Shared) (σ : St) (H : Hp) (E : Value→Shared→Prop),Inv X pins σ H s→(∀ b∈fp,FpOk X pins H b)→tn i s.heap→J.go i H →
  wpAny (model P w) X.A (pyNext (.ref it)) (fun r s1=>∃ u,r = some u ∧
   wpAny (model P w) X.A (letOwnedTupleGo tg (.ref it) u) (fun _ s2=>∃ x H',Inv X pins σ H' s2∧RelV x u∧J.yld i H x H'∧tn (i + 1) s2.heap∧∀ b∈fp,H' b = none) E s1) E s
 done : ∀ (X : Cx),X.prog = P→X.w = w→X.K = K→X.calm = true→∀ (i : Nat) (pins : List (Addr × Obj)) (s : Shared) (σ : St) (H : Hp) (E : Value→Shared→Prop),Inv X pins σ H s→(∀ b∈fp,FpOk X pins H b)→tn i s.heap→J.stop i H →
  wpAny (model P w) X.A (pyNext (.ref it)) (fun r s1=>r = none∧Inv X pins σ H s1) E s
 self : ∀ (A : Around) (i : Nat) (s : Shared) (Q : Value→Shared→Prop) (E : Value→Shared→Prop),tn i s.heap→Q (.ref it) s→wpAny (model P w) A (pyIter (.ref it)) Q E s
noncomputable abbrev TI:=St→Hp→(It→Hp→Prop)→Prop
noncomputable def PIE (X : Cx) (pins : List (Addr × Obj)) (σ : St) (tg : Expr) (R : It→Hp→Prop) (itv : Value) (s2 : Shared) : Prop :=
 ∃ (it : Addr) (fp : List Addr) (tn : Nat→Heap→Prop) (J : It) (H' : Hp),itv = .ref it∧Inv X pins σ H' s2∧Turn X.prog X.w X.K tg J fp it tn∧tn 0 s2.heap∧(∀ b∈fp,FpOk X pins H' b)∧R J H'
noncomputable def PI (X : Cx) (tg iter : Expr) (wi : TI) : Prop :=
 ∀ (pins : List (Addr × Obj)) (s : Shared) (σ : St) (H : Hp) (R : It→Hp→Prop),Inv X pins σ H s→wi σ H R →
  wpAny (model X.prog X.w) X.A (eval iter X.env) (fun v s1=>wpAny (model X.prog X.w) X.A (pyIter v) (PIE X pins σ tg R) X.xe s1) X.xe s
theorem go_of {M : Model} {A : Around} {E : Value → Shared → Prop} {s : Shared} {tg : Expr} {it : Addr} {u : Value} {o : Obj} {n : String} {vs : Array Value} {Q : Unit → Shared → Prop} (ho : s.heap.get? it = some o) (hc : o.cls = .type n) (hd : o.data = .fields vs)
    (hn : ["enumerate", "zip", "dict_itemiterator", "dict_reverseitemiterator", "odict_iterator", "itertools.zip_longest", "itertools.pairwise"].contains n = false) (hQ : Q () s) : wpAny M A (letOwnedTupleGo tg (.ref it) u) Q E s := by
  unfold letOwnedTupleGo
  cases tg <;> first
    | exact wpAny_pure hQ
    | (cases u <;> first
        | exact wpAny_pure hQ
        | (refine wpAny_bind (wpAny_load ho ?_)
           rw [hc, hd]
           show wpAny M A (if (["enumerate", "zip", "dict_itemiterator", "dict_reverseitemiterator", "odict_iterator", "itertools.zip_longest", "itertools.pairwise"].contains n && vs[0]? == some (rawInt _)) = true then _ else _) Q E s
           rw [if_neg (by intro h; rw [hn, Bool.false_and] at h; cases h)]
           exact wpAny_pure hQ))
noncomputable def Itl (K : PySem.W.Frag) (a : Addr) : It :=
 ⟨fun i H=>∃ xs x,SqL K H a xs∧xs[i]? = some x,fun i H x H'=>H' = H∧∀ xs,SqL K H a xs→xs[i]? = some x,fun i H=>∃ xs,SqL K H a xs∧xs.length≤i⟩
noncomputable def Itr (lo : Int) (n : Nat) : It:=⟨fun i _=>i < n,fun i H x H'=>H' = H∧x = .int (lo + i),fun i _=>n≤i⟩
theorem turn_list {P : Program} {w : World} {K : PySem.W.Frag} {tg : Expr} (a it : Addr) : Turn P w K tg (Itl K a) [it] it (fun i h=>h.IsListIter it a i) where
 mem:=by simp
 obj:=fun i h st b hb=>by
  have e : b = it:=by simpa using hb
  subst e
  obtain ⟨o,e,c,d⟩:=st
  exact ⟨o,e,fun v z=>by rw [d] at z; cases z⟩
 keep:=fun i h h' st k=>st.at fun o e=>k it (by simp) o e
 item:=by
  intro X hP hw hK hc i pins s σ H E I hf st hg
  subst hP hw hK
  obtain ⟨xs,x,hq,hx⟩:=hg
  obtain ⟨its,rv,p,hz⟩:=I.list hq
  obtain ⟨u,hu,ru⟩:=rv.get hx
  obtain ⟨f0,f1,f2,f3,f4,f5⟩:=hf it (by simp)
  refine wpAny_pyNext_list_item st p.isList (x:=u) (by simpa using hu) fun h' st' sb=>?_
  have I1 : Inv X pins σ H { s with heap:=h' }:=I.turned (t':=s.toks) (fun b o hb e=>(sb.2 b hb).trans e) f0 f1 f3 f4 f5
  obtain ⟨o,e,c,d⟩:=id st'
  exact ⟨u,rfl,go_of (s:={ s with heap:=h' }) e c d (by decide) ⟨x,H,I1,ru,⟨rfl,fun ys hy=>by rw [I.list_inj hy hq]; exact hx⟩,st',fun b hb=>(hf b hb).1⟩⟩
 done:=by
  intro X hP hw hK hc i pins s σ H E I hf st hg
  subst hP hw hK
  obtain ⟨xs,hq,hx⟩:=hg
  obtain ⟨its,rv,p,hz⟩:=I.list hq
  obtain ⟨f0,f1,f2,f3,f4,f5⟩:=hf it (by simp)
  have hl:=rv.length
  exact wpAny_pyNext_list_end (I.ok.hd hc) st p.isList (by simp; omega) fun h' eb=>⟨rfl,I.turned (t':=s.toks) (fun b o hb e=>eb b o hb e) f0 f1 f3 f4 f5⟩
 self:=fun _ _ _ _ _ st h=>wpAny_pyIter_listiter st h
theorem turn_range {P : Program} {w : World} {K : PySem.W.Frag} {tg : Expr} (it : Addr) (lo : Int) (n : Nat) : Turn P w K tg (Itr lo n) [it] it (fun i h=>IsRangeIter h it (lo + (i : Nat) * 1) ((n : Int) - (i : Nat)) 1) where
 mem:=by simp
 obj:=fun i h st b hb=>by
  have e : b = it:=by simpa using hb
  subst e
  exact ⟨_,st,fun v z=>by
   have z' : Data.fields _ = Data.cell v:=z
   cases z'⟩
 keep:=fun i h h' st k=>k it (by simp) _ st
 item:=by
  intro X hP hw hK hc i pins s σ H E I hf st hg
  subst hP hw hK
  obtain ⟨f0,f1,f2,f3,f4,f5⟩:=hf it (by simp)
  have W:=Walks.range (prog:=X.prog) (w:=X.w) (I.ok.hd hc) it lo 1 n
  refine W.item i s _ _ hg st fun v h' tk hv st' kk=>?_
  obtain ⟨t,rfl⟩:=hv
  have I1 : Inv X pins σ H { s with heap:=h',toks:=tk }:=I.turned (fun b o hb e=>kk b o (by simpa using hb) e) f0 f1 f3 f4 f5
  refine ⟨_,rfl,go_of (s:={ s with heap:=h',toks:=tk }) (n:="range_iterator") st' rfl rfl (by decide) ⟨.int (lo + i),H,I1,⟨t,?_⟩,⟨rfl,rfl⟩,st',fun b hb=>(hf b hb).1⟩⟩
  rw [Int.mul_one]
 done:=by
  intro X hP hw hK hc i pins s σ H E I hf st hg
  subst hP hw hK
  obtain ⟨f0,f1,f2,f3,f4,f5⟩:=hf it (by simp)
  exact wpAny_pyNext_range_end (I.ok.hd hc) st (by have : n≤i:=hg; omega) fun h' eb=>⟨rfl,I.turned (t':=s.toks) (fun b o hb e=>eb b o hb e) f0 f1 f3 f4 f5⟩
 self:=fun _ _ _ _ _ st h=>wpAny_pyIter_rangeiter st h
end L2
namespace L2
open PySem PySem.Spec PyProof.Rows
section
variable {X : Cx} {tg : Expr}
noncomputable def iList (K : PySem.W.Frag) (tl : TE) : TI:=fun σ H R=>tl σ H fun x H1=>∃ a,x = .ref a∧(∃ xs,SqL K H1 a xs)∧R (Itl K a) H1
theorem pi_list {l : Expr} {tl : TE} (hl : PE X l tl) : PI X tg l (iList X.K tl):=by
 intro pins s σ H R I h
 refine thn (hl pins s σ H _ I h) fun v s1 ⟨x,H1,I1,r1,q1⟩=>?_
 obtain ⟨a,e,⟨xs,hq⟩,q⟩:=q1
 subst e
 cases r1
 obtain ⟨its,rv,p,hz⟩:=I1.list hq
 refine wpAny_pyIter_list p.isList ?_
 refine ⟨s1.heap.objs.size,[s1.heap.objs.size],_,_,H1,rfl,I1.kept (t':=s1.toks) fun b o e=>Heap.get?_push_of_some _ e,turn_list a _,⟨_,Heap.get?_push_size _ rfl,rfl,rfl⟩,fun b hb=>?_,q⟩
 have e : b = s1.heap.objs.size:=by simpa using hb
 subst e
 exact I1.fpOk (Nat.le_refl _) (I1.hok.fresh (Nat.le_refl _))
theorem range_it {pins : List (Addr × Obj)} {σ : St} {H : Hp} {s : Shared} {R : It→Hp→Prop} {E : Value→Shared→Prop} {lo hi : Int} {t u v : Tok} {tk : Nat} (I : Inv X pins σ H s) (h1 : -(2 ^ 62)≤lo) (h2 : lo < 2 ^ 62) (h3 : -(2 ^ 62)≤hi) (h4 : hi < 2 ^ 62)
  (q : R (Itr lo (hi - lo).toNat) H) : wpAny (model X.prog X.w) X.A (pyIter (.ref s.heap.objs.size)) (PIE X pins σ tg R) E { s with heap:=s.heap.push { cls:=.type "range",data:=.fields #[.int lo t,.int hi u,.int 1 v] },toks:=tk }:=by
 refine wpAny_pyIter_range (IsRange.new ..) (small_one h1 h2 h3 h4) ?_
 have I1 : Inv X pins σ H { s with heap:=s.heap.push { cls:=.type "range",data:=.fields #[.int lo t,.int hi u,.int 1 v] },toks:=tk }:=I.kept fun b o e=>Heap.get?_push_of_some _ e
 refine ⟨(s.heap.push { cls:=.type "range",data:=.fields #[.int lo t,.int hi u,.int 1 v] }).objs.size,[(s.heap.push { cls:=.type "range",data:=.fields #[.int lo t,.int hi u,.int 1 v] }).objs.size],_,_,H,rfl,
  I1.kept (t':=tk) fun b o e=>Heap.get?_push_of_some _ e,turn_range _ lo (hi - lo).toNat,?_,fun b hb=>?_,q⟩
 ·have e1 : lo + ((0 : Nat) : Int) * 1 = lo:=by simp
  have e2 : (((hi - lo).toNat : Nat) : Int) - ((0 : Nat) : Int) = Builtin.Range.rangeSize lo hi 1:=by rw [rangeSize_one]; split <;> omega
  show IsRangeIter _ _ (lo + ((0 : Nat) : Int) * 1) ((((hi - lo).toNat : Nat) : Int) - ((0 : Nat) : Int)) 1
  rw [e1,e2]
  exact Heap.get?_push_size _ rfl
 ·have e : b = (s.heap.push { cls:=.type "range",data:=.fields #[.int lo t,.int hi u,.int 1 v] }).objs.size:=by simpa using hb
  subst e
  exact I1.fpOk (Nat.le_refl _) (I1.hok.fresh (Nat.le_refl _))
noncomputable def iRng1 (ta : TA) : TI:=fun σ H R=>ta σ H fun vs H1=>∃ j : Int,vs = [.int j]∧-(2 ^ 62)≤j∧j < 2 ^ 62∧R (Itr 0 j.toNat) H1
theorem pi_range1 {a : Expr} {ta : TA} {p pos : Pos} (hg : Gl X "range") (hm : X.mg "range" = none) (ha : PA X [a] ta) (hs : starEach [a] X.env = [(false,eval a X.env)]:=by rfl) : PI X tg (.Call (.Name "range" p) [a] [] pos) (iRng1 ta):=by
 intro pins s σ H R I h
 refine Call_ (ld_blt I hg hm boot_range (PyProof.Rows.callWith_type1 (thn (ha pos pins s σ H _ I h) fun us s1 ⟨vs,H1,I1,r1,q1⟩=>?_) hs rfl))
 obtain ⟨j,e,q1,q2,q⟩:=q1
 subst e
 cases r1 with
 | cons r rr =>
  cases rr
  obtain ⟨t,rfl⟩:=r
  exact call_range_1 (range_it I1 (by omega) (by omega) q1 q2 (by simpa using q))
noncomputable def tFor (wi : TI) (g : TG) (tb : TS) : TS:=fun D σ H=>wi σ H fun J H1=>∃ W : Nat→Nat→St→Hp→Prop,(∃ m,W 0 m σ H1)∧∀ i m σ H,W i m σ H →
 (J.stop i H∧D.nx σ H)∨(J.go i H∧∃ N : St→Hp→Prop,(∀ σ' H',N σ' H'→∃ m',m' < m∧W (i + 1) m' σ' H')∧∀ x H',J.yld i H x H'→g x σ H' fun σ2 H2=>tb { D with nx:=N,ct:=N,bk:=D.nx } σ2 H2)
noncomputable def pinsAt (fp : List Addr) (h : Heap) : List (Addr × Obj):=fp.filterMap fun b=>(h.get? b).map fun o=>(b,o)
theorem mem_pinsAt {fp : List Addr} {h : Heap} {b : Addr} {o : Obj} (hb : b∈fp) (e : h.get? b = some o) : (b,o)∈pinsAt fp h:=List.mem_filterMap.mpr ⟨b,hb,by rw [e]; rfl⟩
theorem of_pinsAt {fp : List Addr} {h : Heap} {p : Addr × Obj} (hp : p∈pinsAt fp h) : p.1∈fp∧h.get? p.1 = some p.2:=by
 obtain ⟨b,hb,e⟩:=List.mem_filterMap.mp hp
 cases q : h.get? b with
 | none=>rw [q] at e; cases e
 | some o =>
  rw [q] at e
  have e' : (b,o) = p:=Option.some.inj e
  subst e'
  exact ⟨hb,q⟩
theorem Inv.pinned {pins : List (Addr × Obj)} {σ : St} {H : Hp} {s : Shared} {fp : List Addr} (I : Inv X pins σ H s) (hf : ∀ b∈fp,FpOk X pins H b) (ho : ∀ b∈fp,∃ o,s.heap.get? b = some o∧∀ v,o.data ≠ .cell v) : Inv X (pins ++ pinsAt fp s.heap) σ H s :=
 I.pins_of fun p hp=>(List.mem_append.mp hp).elim (fun z=>I.pin p (List.mem_append_right _ z)) fun z=>by
  obtain ⟨hb,e⟩:=of_pinsAt z
  obtain ⟨f0,f1,f2,_⟩:=hf p.1 hb
  obtain ⟨o,e',d⟩:=ho p.1 hb
  rw [e] at e'; cases e'
  exact ⟨e,f0,f1,f2,d⟩
theorem Inv.unpinned {pins pl : List (Addr × Obj)} {σ : St} {H : Hp} {s : Shared} (I : Inv X (pins ++ pl) σ H s) : Inv X pins σ H s:=I.pins_of fun p hp=>I.pin p (List.mem_append_right _ (List.mem_append_left _ hp))
theorem ps_for {iter : Expr} {body : List Stmt} {wi : TI} {g : TG} {tb : TS} {pos : Pos} (hp : PassesOwn (model X.prog X.w) X.A X.env X.xe) (hc : X.calm = true) (hi : PI X tg iter wi) (hg : PG X tg g) (hb : PSs X body tb)
  (hs : ∀ x,foldedSetIterable iter X.env x = pure x:=by intro _; rfl) : PS X (.For tg iter body [] pos) (tFor wi g tb):=by
 intro pins s σ H D I h
 refine wpAny_For (thn (hi pins s σ H _ I h) fun v s1 h1=>thn h1 fun itv s2 h2=>?_) hs
 obtain ⟨it,fp,tn,J,H2,e,I2,T,st2,f2,W,⟨m0,w0⟩,turn⟩:=h2
 subst e
 have stat : ∀ {H' : Hp},(∀ b∈fp,H' b = none)→∀ b∈fp,FpOk X pins H' b:=fun hn b hb=>⟨hn b hb,(f2 b hb).2⟩
 refine codeAny_forLoop_any (fun n s'=>∃ i σ' H',Inv X pins σ' H' s'∧tn i s'.heap∧(∀ b∈fp,H' b = none)∧W i n σ' H') ?_ m0 ⟨0,σ,H2,I2,st2,fun b hb=>(f2 b hb).1,w0⟩
 rintro n s3 ⟨i,σ3,H3,I3,st3,fr3,w3⟩
 rcases turn i n σ3 H3 w3 with ⟨stop,qn⟩ | ⟨go,N,hN,step⟩
 ·refine wpAny_passesOwn hp (thn (T.done X rfl rfl rfl hc i pins s3 σ3 H3 X.xe I3 (stat fr3) st3 stop) fun r s4 ⟨hr,I4⟩=>?_)
  subst hr
  exact wpAny_execs_nil ⟨σ3,H3,I4,qn⟩
 ·refine wpAny_passesOwn hp (thn (T.item X rfl rfl rfl hc i pins s3 σ3 H3 X.xe I3 (stat fr3) st3 go) fun r s4 ⟨u,hr,h4⟩=>?_)
  subst hr
  refine wpAny_passesOwn hp (thn h4 fun _ s5 ⟨x,H5,I5,r5,y5,st5,fr5⟩=>?_)
  have I5':=I5.pinned (stat fr5) (T.obj _ _ st5)
  refine wpAny_passesOwn hp (thn (hg _ s5 σ3 H5 x u _ I5' r5 (step x H5 y5)) fun _ s6 ⟨σ6,H6,I6,q6⟩=>?_)
  refine wpAny_passesOwn hp (thn (hb _ s6 σ6 H6 _ I6 q6) fun f s7 q7=>?_)
  have again : ∀ {σ7 : St} {H7 : Hp},Inv X (pins ++ pinsAt fp s5.heap) σ7 H7 s7→N σ7 H7→∃ m,m < n∧∃ i σ' H',Inv X pins σ' H' s7∧tn i s7.heap∧(∀ b∈fp,H' b = none)∧W i m σ' H':=fun {σ7 H7} I7 n7=>by
   obtain ⟨m',hm,w7⟩:=hN σ7 H7 n7
   refine ⟨m',hm,i + 1,σ7,H7,I7.unpinned,T.keep _ _ _ st5 fun b hb o e=>(I7.pin (b,o) (List.mem_append_right _ (List.mem_append_right _ (mem_pinsAt hb e)))).1,fun b hb=>?_,w7⟩
   obtain ⟨o,e,d⟩:=T.obj _ _ st5 b hb
   exact (I7.pin (b,o) (List.mem_append_right _ (List.mem_append_right _ (mem_pinsAt hb e)))).2.1
  cases f with
  | next=>obtain ⟨σ7,H7,I7,n7⟩:=q7; exact again I7 n7
  | cont=>obtain ⟨σ7,H7,I7,n7⟩:=q7; exact again I7 n7
  | brk=>obtain ⟨σ7,H7,I7,q7⟩:=q7; exact ⟨σ7,H7,I7.unpinned,q7⟩
  | ret v=>obtain ⟨x7,σ7,H7,I7,r7,q7⟩:=q7; exact ⟨x7,σ7,H7,I7.unpinned,r7,q7⟩
end
end L2
namespace L2
open PySem PySem.Spec PyProof.Rows
noncomputable abbrev R2:=V→V→Hp→VK→Prop
noncomputable def OpR (X : Cx) (f : Value→Value→Sem Value) (r : R2) : Prop :=
 ∀ (pins : List (Addr × Obj)) (s : Shared) (σ : St) (H : Hp) (x y : V) (v u : Value) (Q : VK),Inv X pins σ H s→RelV x v→RelV y u→r x y H Q →
  wpAny (model X.prog X.w) X.A (f v u) (EP X pins σ Q) X.xe s
noncomputable def UnR (X : Cx) (f : Value→Sem Value) (r : V→Hp→VK→Prop) : Prop :=
 ∀ (pins : List (Addr × Obj)) (s : Shared) (σ : St) (H : Hp) (x : V) (v : Value) (Q : VK),Inv X pins σ H s→RelV x v→r x H Q →
  wpAny (model X.prog X.w) X.A (f v) (EP X pins σ Q) X.xe s
noncomputable def CallR (X : Cx) (f : Value) (r : List V→Hp→VK→Prop) : Prop :=
 ∀ (pins : List (Addr × Obj)) (s : Shared) (σ : St) (H : Hp) (xs : List V) (us : List Value) (Q : VK),Inv X pins σ H s→Vals xs us→r xs H Q →
  wpAny (model X.prog X.w) X.A (call f us) (EP X pins σ Q) X.xe s
noncomputable def TruR (X : Cx) (r : V→Hp→(Bool→Hp→Prop)→Prop) : Prop :=
 ∀ (pins : List (Addr × Obj)) (s : Shared) (σ : St) (H : Hp) (x : V) (v : Value) (Q : Bool→Hp→Prop),Inv X pins σ H s→RelV x v→r x H Q →
  wpAny (model X.prog X.w) X.A (truthy v) (TP X pins σ Q) X.xe s
noncomputable def tOp (r : R2) (ta tb : TE) : TE:=fun σ H Q=>ta σ H fun x H1=>tb σ H1 fun y H2=>r x y H2 Q
noncomputable def tUn (r : V→Hp→VK→Prop) (ta : TE) : TE:=fun σ H Q=>ta σ H fun x H1=>r x H1 Q
noncomputable def rI (C : Int→Int→Prop) (g : Int→Int→V) : R2:=fun x y H Q=>∃ i j,x = .int i∧y = .int j∧C i j∧Q (g i j) H
noncomputable def rI0 (g : Int→Int→V) : R2:=fun x y H Q=>∃ i j,x = .int i∧y = .int j∧Q (g i j) H
noncomputable def rU (g : Int→V) : V→Hp→VK→Prop:=fun x H Q=>∃ i,x = .int i∧Q (g i) H
section
variable {X : Cx} {a b c : Expr} {ta tb tc : TE} {pos : Pos}
theorem binT (ha : PE X a ta) (hb : PE X b tb) {pins : List (Addr × Obj)} {s : Shared} {σ : St} {H : Hp} {R : V→V→Hp→Prop} (I : Inv X pins σ H s)
  (h : ta σ H fun x H1=>tb σ H1 fun y H2=>R x y H2) {Q : Value→Shared→Prop} {f : Value→Value→Sem Value}
  (hf : ∀ v u s2 x y H2,Inv X pins σ H2 s2→RelV x v→RelV y u→R x y H2→wpAny (model X.prog X.w) X.A (f v u) Q X.xe s2) :
  wpAny (model X.prog X.w) X.A (eval a X.env) (fun v s₁=>wpAny (model X.prog X.w) X.A (eval b X.env) (fun u s₂=>wpAny (model X.prog X.w) X.A (f v u) Q X.xe s₂) X.xe s₁) X.xe s:=by
 refine thn (ha pins s σ H _ I h) fun v s1 ⟨x,H1,I1,r1,q1⟩=>?_
 refine thn (hb pins s1 σ H1 _ I1 q1) fun u s2 ⟨y,H2,I2,r2,q2⟩=>?_
 exact hf v u s2 x y H2 I2 r1 r2 q2
theorem pe_op {op : Operator} {r : R2} (ho : OpR X (binaryOp op) r) (ha : PE X a ta) (hb : PE X b tb) : PE X (.BinOp a op b pos) (tOp r ta tb):=by
 intro pins s σ H Q I h
 exact wpAny_BinOp (binT ha hb I h fun v u s2 x y H2 I2 rx ry q=>ho pins s2 σ H2 x y v u Q I2 rx ry q)
theorem pe_un {op : UnaryOp} {r : V→Hp→VK→Prop} (ho : UnR X (unaryOp op) r) (ha : PE X a ta) : PE X (.UnaryOp op a pos) (tUn r ta):=by
 intro pins s σ H Q I h
 exact UnaryOp_ (thn (ha pins s σ H _ I h) fun v s1 ⟨x,H1,I1,r1,q1⟩=>ho pins s1 σ H1 x v Q I1 r1 q1)
theorem opI {f : Value→Value→Sem Value} {C : Int→Int→Prop} {g : Int→Int→Int}
  (rule : ∀ (i j : Int) (t u : Tok) (s : Shared) (Q : Value→Shared→Prop) (E : Value→Shared→Prop),C i j→Q (.int (g i j) s.toks) { s with toks:=s.toks + 1 }→wpAny (model X.prog X.w) X.A (f (.int i t) (.int j u)) Q E s) :
  OpR X f (rI C fun i j=>.int (g i j)):=by
 intro pins s σ H x y v u Q I rx ry h
 obtain ⟨i,j,rfl,rfl,hc,q⟩:=h
 obtain ⟨t,rfl⟩:=rx
 obtain ⟨t',rfl⟩:=ry
 exact rule i j t t' s _ _ hc ⟨.int (g i j),H,I.tok _,⟨_,rfl⟩,q⟩
theorem opI0 {f : Value→Value→Sem Value} {g : Int→Int→Int}
  (rule : ∀ (i j : Int) (t u : Tok) (s : Shared) (Q : Value→Shared→Prop) (E : Value→Shared→Prop),Q (.int (g i j) s.toks) { s with toks:=s.toks + 1 }→wpAny (model X.prog X.w) X.A (f (.int i t) (.int j u)) Q E s) :
  OpR X f (rI0 fun i j=>.int (g i j)):=by
 intro pins s σ H x y v u Q I rx ry h
 obtain ⟨i,j,rfl,rfl,q⟩:=h
 obtain ⟨t,rfl⟩:=rx
 obtain ⟨t',rfl⟩:=ry
 exact rule i j t t' s _ _ ⟨.int (g i j),H,I.tok _,⟨_,rfl⟩,q⟩
theorem opB0 {f : Value→Value→Sem Value} {g : Int→Int→Bool}
  (rule : ∀ (i j : Int) (t u : Tok) (s : Shared) (Q : Value→Shared→Prop) (E : Value→Shared→Prop),Q (.bool (g i j)) s→wpAny (model X.prog X.w) X.A (f (.int i t) (.int j u)) Q E s) :
  OpR X f (rI0 fun i j=>.bl (g i j)):=by
 intro pins s σ H x y v u Q I rx ry h
 obtain ⟨i,j,rfl,rfl,q⟩:=h
 obtain ⟨t,rfl⟩:=rx
 obtain ⟨t',rfl⟩:=ry
 exact rule i j t t' s _ _ ⟨.bl (g i j),H,I,rfl,q⟩
noncomputable def CPow (i j : Int) : Prop:=0≤j∧j≤1000000∧i.natAbs < 2 ^ 64
theorem op_add : OpR X (binaryOp .Add) (rI0 fun i j=>.int (i + j)):=opI0 fun _ _ _ _ _ _ _ q=>add_int q
theorem op_sub : OpR X (binaryOp .Sub) (rI0 fun i j=>.int (i - j)):=opI0 fun _ _ _ _ _ _ _ q=>sub_int q
theorem op_mod : OpR X (binaryOp .Mod) (rI (fun _ j=>0 < j) fun i j=>.int (i % j)):=opI fun i j _ _ _ _ _ hc q=>by
 have h1 : (0 : Int) < j:=hc
 exact mod_int' (by omega) (by rw [Int.fmod_eq_emod_of_nonneg i (by omega)]; exact q)
theorem op_pow : OpR X (binaryOp .Pow) (rI CPow fun i j=>.int (i ^ j.toNat)):=opI fun _ _ _ _ _ _ _ hc q=>pow_int_small hc.1 hc.2.1 hc.2.2 q
theorem op_xor : OpR X (binaryOp .BitXor) (rI0 fun i j=>.int (Builtin.bitXor i j)):=opI0 fun _ _ _ _ _ _ _ q=>xor_int q
theorem unI {f : Value→Sem Value} {g : Int→Int}
  (rule : ∀ (i : Int) (t : Tok) (s : Shared) (Q : Value→Shared→Prop) (E : Value→Shared→Prop),Q (.int (g i) s.toks) { s with toks:=s.toks + 1 }→wpAny (model X.prog X.w) X.A (f (.int i t)) Q E s) :
  UnR X f (rU fun i=>.int (g i)):=by
 intro pins s σ H x v Q I rx h
 obtain ⟨i,rfl,q⟩:=h
 obtain ⟨t,rfl⟩:=rx
 exact rule i t s _ _ ⟨.int (g i),H,I.tok _,⟨_,rfl⟩,q⟩
theorem un_neg : UnR X (unaryOp .USub) (rU fun i=>.int (-i)):=unI fun _ _ _ _ _ q=>neg_int q
end
section
variable {X : Cx} {a b c : Expr} {ta tb tc : TE} {pos : Pos}
theorem fin_bl {pins : List (Addr × Obj)} {σ : St} {H : Hp} {s : Shared} {Q : VK} {k k' : Bool} (I : Inv X pins σ H s) (q : Q (.bl k) H) (e : k = k') : EP X pins σ Q (.bool k') s:=by
 subst e
 exact ⟨.bl k,H,I,rfl,q⟩
theorem op_lt : OpR X (compareOp .Lt) (rI0 fun i j=>.bl (decide (i < j))):=opB0 fun _ _ _ _ _ _ _ q=>lt_int q
theorem op_le : OpR X (compareOp .LtE) (rI0 fun i j=>.bl (decide (i≤j))):=opB0 fun _ _ _ _ _ _ _ q=>le_int q
theorem op_gt : OpR X (compareOp .Gt) (rI0 fun i j=>.bl (decide (j < i))):=opB0 fun _ _ _ _ _ _ _ q=>gt_int q
theorem op_ge : OpR X (compareOp .GtE) (rI0 fun i j=>.bl (decide (j≤i))):=opB0 fun _ _ _ _ _ _ _ q=>ge_int q
theorem op_isN : OpR X (compareOp .Is) (fun x y H Q=>y = .non∧Q (.bl (decide (x = .non))) H):=by
 intro pins s σ H x y v u Q I rx ry h
 obtain ⟨rfl,q⟩:=h
 cases ry
 refine is_none_gen (fin_bl I q ?_)
 cases x <;> first
  | (cases rx; rfl)
  | (obtain ⟨t,rfl⟩:=rx; rfl)
theorem op_notN : OpR X (compareOp .IsNot) (fun x y H Q=>y = .non∧Q (.bl (!decide (x = .non))) H):=by
 intro pins s σ H x y v u Q I rx ry h
 obtain ⟨rfl,q⟩:=h
 cases ry
 refine isnot_none_gen (fin_bl I q ?_)
 cases x <;> first
  | (cases rx; rfl)
  | (obtain ⟨t,rfl⟩:=rx; rfl)
theorem nomark (b : Expr) {op : CmpOp} (h : op ≠ .In:=by decide) (h2 : op ≠ .NotIn:=by decide) : behindInMarks op b = false:=by
 have e1 : (op == CmpOp.In) = false:=by cases op <;> first | rfl | exact absurd rfl h
 have e2 : (op == CmpOp.NotIn) = false:=by cases op <;> first | rfl | exact absurd rfl h2
 cases b <;> simp [behindInMarks,e1,e2]
theorem pe_cmpR {op : CmpOp} {r : R2} (ho : OpR X (compareOp op) r) (ha : PE X a ta) (hb : PE X b tb) (hm : behindInMarks op b = false) : PE X (.Compare a [op] [b] pos) (tOp r ta tb):=by
 intro pins s σ H Q I h
 exact wpAny_Compare1 (binT ha hb I h fun v u s2 x y H2 I2 rx ry q=>ho pins s2 σ H2 x y v u Q I2 rx ry q) hm
noncomputable def TruV (K : PySem.W.Frag) (x : V) (H : Hp) (k : Bool) : Prop :=
 match x with
 | .non=>k = false
 | .bl b=>k = b
 | .int i=>k = (i != 0)
 | .str y=>y.length≤sizeLine∧k = ((y.length : Int) != 0)
 | .byt y=>y.size≤sizeLine∧k = ((y.size : Int) != 0)
 | .ref p=>(∃ xs,SqL K H p xs∧k = !xs.isEmpty)∨(∃ xs,SqT K H p xs∧k = !xs.isEmpty)∨∃ kvs,H p = some (.dK kvs)∧k = !kvs.isEmpty
 | _=>False
theorem isEmpty_kv {κ : Type} {kvs : List (κ × V)} {vs : List (κ × Value)} (r : KV kvs vs) : (!vs.isEmpty) = !kvs.isEmpty:=by
 cases r <;> rfl
theorem isEmpty_of {xs : List V} {its : List Value} (r : Vals xs its) : (!its.toArray.isEmpty) = !xs.isEmpty:=by
 cases r <;> simp
theorem line63 : (sizeLine : Nat) < 2 ^ 63:=by rw [sizeLine_eq]; decide
theorem tru_ok : TruR X (fun x H Q=>∃ k,TruV X.K x H k∧Q k H):=by
 intro pins s σ H x v Q I rx h
 obtain ⟨k,e,q⟩:=h
 have hl:=line63
 have hs : sizeLine = 16777216:=sizeLine_eq
 cases x with
 | non =>
  cases rx
  have e' : k = false:=e
  subst e'
  exact truthy_none ⟨H,I,q⟩
 | bl b =>
  cases rx
  have e' : k = b:=e
  subst e'
  exact wpAny_truthy_bool ⟨H,I,q⟩
 | int i =>
  obtain ⟨t,rfl⟩:=rx
  have e' : k = (i != 0):=e
  subst e'
  exact PySem.P.truthy_int ⟨H,I,q⟩
 | str y =>
  obtain ⟨t,rfl⟩:=rx
  obtain ⟨hy,e'⟩ : y.length≤sizeLine∧k = ((y.length : Int) != 0):=e
  subst e'
  exact PySem.P.truthy_str (by omega) ⟨H,I.tok _,q⟩
 | byt y =>
  obtain ⟨t,rfl⟩:=rx
  obtain ⟨hy,e'⟩ : y.size≤sizeLine∧k = ((y.size : Int) != 0):=e
  subst e'
  exact PySem.W.truthy_bytes (by omega) ⟨H,I.tok _,q⟩
 | ref p =>
  cases rx
  have e' : (∃ xs,SqL X.K H p xs∧k = !xs.isEmpty)∨(∃ xs,SqT X.K H p xs∧k = !xs.isEmpty)∨∃ kvs,H p = some (.dK kvs)∧k = !kvs.isEmpty:=e
  rcases e' with ⟨xs,hx,e'⟩ | ⟨xs,hx,e'⟩ | ⟨kvs,hx,e'⟩
  ·subst e'
   obtain ⟨its,r,pl,hz⟩:=I.list hx
   have hlen:=r.length
   exact wpAny_truthy_list pl.isList (by simp only [List.size_toArray]; omega) ⟨H,I.tok _,by rw [isEmpty_of r]; exact q⟩
  ·subst e'
   obtain ⟨its,r,pl,hz⟩:=I.tuple hx
   have hlen:=r.length
   exact truthy_tuple pl (by simp only [List.size_toArray]; omega) ⟨H,I.tok _,by rw [isEmpty_of r]; exact q⟩
  ·subst e'
   obtain ⟨hz,hS,vs,r,m⟩ : kvs.length≤sizeLine∧(p == sysModules) = false∧∃ vs,KV kvs vs∧s.heap.DictOf (mixKind X.prog X.w) p vs:=I.hok p _ hx
   have hlen : kvs.length = vs.length:=Paired.length r
   exact wpAny_truthy_dict hS m (by omega) ⟨H,I.tok _,by rw [isEmpty_kv r]; exact q⟩
 | _=>exact (show False from e).elim
theorem pt_truth (ha : PE X a ta) (he : ∀ whole,isTrue a X.env whole = (do let v ← whole; standAt a.pos; holding [v] (truthy v))) :
  PT X a (fun σ H Q=>ta σ H fun x H'=>∃ k,TruV X.K x H' k∧Q k H'):=by
 intro pins s σ H Q I h
 exact isTrue_plain (thn (ha pins s σ H _ I h) fun v s1 ⟨x,H1,I1,r1,q1⟩=>tru_ok pins s1 σ H1 x v Q I1 r1 q1) (he _)
theorem vals1 {x : V} {us : List Value} (r : Vals [x] us) : ∃ u,us = [u]∧RelV x u:=by
 cases r with
 | cons r1 r2=>cases r2; exact ⟨_,rfl,r1⟩
theorem vals2 {x y : V} {us : List Value} (r : Vals [x,y] us) : ∃ u w',us = [u,w']∧RelV x u∧RelV y w':=by
 cases r with
 | cons r1 r2 =>
  cases r2 with
  | cons r3 r4=>cases r4; exact ⟨_,_,rfl,r1,r3⟩
theorem call_max2 (hc : X.calm = true) : CallR X (.builtin "max") (fun xs H Q=>∃ i j,xs = [.int i,.int j]∧Q (.int (if j > i then j else i)) H):=by
 intro pins s σ H xs us Q I r h
 obtain ⟨i,j,rfl,q⟩:=h
 obtain ⟨u,w',rfl,⟨t,rfl⟩,⟨t',rfl⟩⟩:=vals2 r
 refine max_two_ints (I.ok.hd hc) fun h' tk k=>⟨_,H,I.kept k,?_,q⟩
 by_cases hj : j > i
 ·rw [if_pos hj,if_pos hj]; exact ⟨_,rfl⟩
 ·rw [if_neg hj,if_neg hj]; exact ⟨_,rfl⟩
theorem call_min2 (hc : X.calm = true) : CallR X (.builtin "min") (fun xs H Q=>∃ i j,xs = [.int i,.int j]∧Q (.int (if j < i then j else i)) H):=by
 intro pins s σ H xs us Q I r h
 obtain ⟨i,j,rfl,q⟩:=h
 obtain ⟨u,w',rfl,⟨t,rfl⟩,⟨t',rfl⟩⟩:=vals2 r
 refine min_two_ints (I.ok.hd hc) fun h' tk k=>⟨_,H,I.kept k,?_,q⟩
 by_cases hj : j < i
 ·rw [if_pos hj,if_pos hj]; exact ⟨_,rfl⟩
 ·rw [if_neg hj,if_neg hj]; exact ⟨_,rfl⟩
end
end L2
namespace L2
open PySem PySem.Spec PyProof.Rows
structure ObjM (h : Heap) (x dx C : Addr) (mA : Str→Option Value) : Prop where
 obj : h.get? x = some (PySem.W.instObj C dx)
 ns : h.Ns1 dx mA
 ne : dx ≠ x
section
variable {prog : Program} {w : World} {A : Around} {E : Value→Shared→Prop} {s : Shared} {K : PySem.W.Frag} {x dx C f : Addr} {mA : Str→Option Value} {name : Str} {v : Value}
end
section
variable {P : Program} {w : World} {H H' : Hp} {h h' : Heap} {a C dx : Addr} {fs fs' : List (Str × V)}
end
structure Cls (K : PySem.W.Frag) (C : Addr) : Prop where
 pg : PySem.W.plainGet K C Str.empty = true
 hd : PySem.W.hasDictIn K C = true
 po : PySem.W.plainOver K C = true
 sa : PySem.W.findIn K (.ref C) "__setattr__" = some (some (.builtin "object.__setattr__"))
structure Con (K : PySem.W.Frag) (C : Addr) (f : Str) (v : V) (u : Value) : Prop where
 at_ : PySem.W.findIn K (.ref C) f = some (some u)
 rel : RelV v u
 get : PySem.W.specialIn K u "__get__" = some none
 cp : PySem.W.copiedNames.contains f = false
structure Meth (K : PySem.W.Frag) (C : Addr) (m : Str) (f : Addr) : Prop where
 at_ : PySem.W.findIn K (.ref C) m = some (some (.ref f))
 fn : PySem.W.isFn K (.ref f) = true
 kp : PySem.W.keepIn K (.ref f) = true
section
variable {X : Cx} {pins : List (Addr × Obj)} {σ : St} {H : Hp} {s : Shared} {a C dx : Addr} {fs : List (Str × V)} {f : Str} {v : V} {A : Around} {E : Value→Shared→Prop}
end
section
variable {X : Cx} {o e value : Expr} {f : Str} {pos pos' tpos : Pos} {ta tv : TE}
end
section
variable {X : Cx} {pins : List (Addr × Obj)} {σ : St} {H : Hp} {s : Shared} {A : Around} {E : Value→Shared→Prop} {Q : Value→Shared→Prop} {c : Value} {b : Bool}
inductive TyOf (K : PySem.W.Frag) (H : Hp) : V→Value→Prop where
 | non : TyOf K H .non (.type "NoneType")
 | bl (x : Bool) : TyOf K H (.bl x) (.type "bool")
 | int (i : Int) : TyOf K H (.int i) (.type "int")
 | str (x : Str) : TyOf K H (.str x) (.type "str")
 | flt (x : UInt64) : TyOf K H (.flt x) (.type "float")
 | lst {a : Addr} {xs : List V} (e : H a = some (.lst xs)) : TyOf K H (.ref a) (.type "list")
 | frz {a : Addr} {o : Obj} {xs : List V} (e : H a = some (.frz o (.lst xs))) : TyOf K H (.ref a) (.type "list")
 | tup {a : Addr} {xs : List V} (e : H a = some (.tup xs)) : TyOf K H (.ref a) (.type "tuple")
 | dK {a : Addr} {kvs : List (Key × V)} (e : H a = some (.dK kvs)) : TyOf K H (.ref a) (.type "dict")
 | dT {a : Addr} {kvs : List (List Key × V)} (e : H a = some (.dT kvs)) : TyOf K H (.ref a) (.type "dict")
 | ins {a C dx : Addr} {fs : List (Str × V)} (e : H a = some (.ins C dx fs)) (cl : Cls K C) (ha : PySem.W.findIn K (.ref C) "__class__" = some (some (.builtin "object.__class__")))
   (hn : PySem.W.specialIn K (.builtin "object.__class__") "__get__" = some (some (.builtin "getset_descriptor.__get__"))) (htk : PySem.W.takesIn K (.builtin "object.__class__") = some true)
   (hm : PySem.W.mroIn K C (.type "object") = some true) : TyOf K H (.ref a) (.ref C)
end
end L2
namespace L2
open PySem PySem.Spec PyProof.Rows
structure Room (k : Nat) (A : Around) : Prop where
 hd : A.handled = none
 dp : A.depth + 3 * k + 5 < recursionLimit
 un : A.units + 16 * k + 200 < cLine
theorem Room.mono {j k : Nat} {A : Around} (r : Room k A) (h : j≤k) : Room j A:=⟨r.hd,by have:=r.dp; omega,by have:=r.un; omega⟩
theorem Room.deeper {k : Nat} {A : Around} (r : Room (k + 1) A) (env : Env) : Room k (A.deeper env) :=
 ⟨r.hd,by have:=r.dp; show A.depth + 1 + 3 * k + 5 < _; omega,by have:=r.un; show A.units + 3 + 16 * k + 200 < _; omega⟩
theorem Room.depth {k : Nat} {A : Around} (r : Room k A) : A.depth < recursionLimit:=by have:=r.dp; omega
theorem Room.units {k : Nat} {A : Around} (r : Room k A) : A.units + 64 < cLine:=by have:=r.un; omega
noncomputable def tNil : TA:=fun _ H Q=>Q [] H
noncomputable def tCons (ta : TE) (tr : TA) : TA:=fun σ H Q=>ta σ H fun x H1=>tr σ H1 fun xs H2=>Q (x :: xs) H2
section
variable {X : Cx} {e : Expr} {es : List Expr} {te : TE} {t : TA} {pos : Pos}
theorem pa_nil : PA X [] tNil:=fun _ _ _ _ H Q I h=>Calls.spliced_nil ⟨[],H,I,.nil,h⟩
theorem pa_cons (ha : PE X e te) (hr : PA X es t) (hs : starEach (e :: es) X.env = (false,eval e X.env) :: starEach es X.env:=by rfl) : PA X (e :: es) (tCons te t):=by
 intro pos pins s σ H Q I h
 rw [hs]
 show wpAny _ _ (spliced ((false,eval e X.env) :: backTo pos (starEach es X.env))) _ _ s
 refine Calls.spliced_cons (thn (ha pins s σ H _ I h) fun u s1 ⟨x,H1,I1,r1,q1⟩=>?_)
 exact thn (hr pos pins s1 σ H1 _ I1 q1) fun us s2 ⟨xs,H2,I2,r2,q2⟩=>⟨x :: xs,H2,I2,.cons r1 r2,q2⟩
noncomputable def tTup (t : TA) : TE:=fun σ H Q=>t σ H fun xs H1=>xs.length≤sizeLine∧∀ p,H1 p = none→Q (.ref p) (upd H1 p (.tup xs))
noncomputable def tLst (t : TA) : TE:=fun σ H Q=>t σ H fun xs H1=>xs.length≤sizeLine∧∀ p,H1 p = none→Q (.ref p) (upd H1 p (.lst xs))
theorem pe_tup {x1} (h : PA X es t) : PE X (.Tuple es x1 pos) (tTup t):=by
 intro pins s σ H Q I hq
 refine wpAny_Tuple_spliced (thn (h pos pins s σ H _ I hq) fun us s1 ⟨xs,H1,I1,r,z,q⟩=>⟨by rw [← r.length]; exact z,?_⟩)
 have hf : H1 s1.heap.objs.size = none:=I1.hok.fresh (Nat.le_refl _)
 refine ⟨.ref s1.heap.objs.size,upd H1 s1.heap.objs.size (.tup xs),I1.laid (t':=s1.toks) (fun b u e=>Heap.get?_push_of_some _ e) (Nat.le_refl _) ?_,rfl,q _ hf⟩
 exact ⟨z,us,r,⟨_,Heap.get?_push_size _ rfl,rfl,_,rfl⟩⟩
theorem pe_lst (h : PA X es t) : PE X (.List es pos) (tLst t):=by
 intro pins s σ H Q I hq
 refine wpAny_List_spliced (thn (h pos pins s σ H _ I hq) fun us s1 ⟨xs,H1,I1,r,z,q⟩=>⟨by rw [← r.length]; exact z,?_⟩)
 have hf : H1 s1.heap.objs.size = none:=I1.hok.fresh (Nat.le_refl _)
 refine ⟨.ref s1.heap.objs.size,upd H1 s1.heap.objs.size (.lst xs),I1.laid (t':=s1.toks) (fun b u e=>Heap.get?_push_of_some _ e) (Nat.le_refl _) ?_,rfl,q _ hf⟩
 exact ⟨z,us,0,r,Heap.get?_push_size _ rfl⟩
end
noncomputable abbrev Sp:=List V→Hp→VK→XK→Prop
noncomputable abbrev CXT:=List Env→Hp→Shared→XK→Value→Shared→Prop
structure Env0 (P : Program) (w : World) (K : PySem.W.Frag) (mg : Str→Option Value) (base : Heap) (A : Around) (outer : List Env) (s : Shared) (H : Hp) : Prop where
 frames : A.frames = some outer
 mod : Mod K mg base
 bs : ∀ b o,base.get? b = some o→s.heap.get? b = some o∧H b = none
 bsz : base.objs.size≤s.heap.objs.size
 funs : s.heap.FunFrames base outer
 frf : ∀ b∈frs outer,H b = none
 hok : HOk P w H s.heap
 bare : AllBare s.gens
noncomputable def CE (outer : List Env) (P : Program) (w : World) (H : Hp) (s : Shared) (Q : VK) (u : Value) (s' : Shared) : Prop :=
 ∃ v H',s'.os = s.os∧AllBare s'.gens∧Un (frs outer) [] H H' s.heap s'.heap∧HOk P w H' s'.heap∧RelV v u∧Q v H'
noncomputable def CR (CX : CXT) (outer : List Env) (P : Program) (w : World) (H : Hp) (s : Shared) (Q : VK) (E : XK) (r : Result) (s' : Shared) : Prop :=
 match r with
 | .ok (.ret u)=>CE outer P w H s Q u s'
 | .ok _=>False
 | .error e=>CX outer H s E e s'
structure FnOk (P : Program) (w : World) (K : PySem.W.Frag) (mg : Str→Option Value) (base : Heap) (CX : CXT) (k : Nat) (f : Addr) (fd : FuncData) (ps : List Str) (sp : Sp) : Prop where
 len : ∀ vs H Q E,sp vs H Q E→vs.length = ps.length
 run : ∀ (A : Around) (outer : List Env) (s : Shared) (H : Hp) (args : Args) (us : List Value) (vs : List V) (Q : VK) (E : XK),Room k A→Env0 P w K mg base A outer s H→BindsTo s fd args (ps.zip us)→Vals vs us→sp vs H Q E →
  codeAny (model P w) A (.call (.ref f) args) (CR CX outer P w H s Q E) s
theorem FnOk.imp {P : Program} {w : World} {K : PySem.W.Frag} {mg : Str→Option Value} {base : Heap} {CX : CXT} {k : Nat} {f : Addr} {fd : FuncData} {ps : List Str} {sp sp' : Sp} (F : FnOk P w K mg base CX k f fd ps sp)
  (h : ∀ vs H Q E,sp' vs H Q E→sp vs H Q E) : FnOk P w K mg base CX k f fd ps sp' :=
 ⟨fun vs H Q E q=>F.len vs H Q E (h _ _ _ _ q),fun A outer s H args us vs Q E hr he hb hv hs=>F.run A outer s H args us vs Q E hr he hb hv (h _ _ _ _ hs)⟩
section
variable {X : Cx} {pins : List (Addr × Obj)} {σ : St} {H : Hp} {s s' : Shared}
theorem Inv.env0 (I : Inv X pins σ H s) : Env0 X.prog X.w X.K X.mg X.base X.A X.stack s H :=
 ⟨I.ok.frames,I.ok.mod,I.bs,Nat.le_trans I.ok.bsz I.sz,I.stack,I.stkFree,I.hok,I.bare⟩
theorem Inv.after {Q : VK} {u : Value} (I : Inv X pins σ H s) (h : CE X.stack X.prog X.w H s Q u s') : EP X pins σ Q u s':=by
 obtain ⟨v,H',os,bare,un,hok,r,q⟩:=h
 obtain ⟨hh,g,d,t,os'⟩:=s'
 obtain rfl : os' = s.os:=os
 exact ⟨v,H',I.call (h':=hh) (g':=g) (d':=d) (t':=t) (ch:=[]) un hok bare (fun b z=>absurd z (by simp)),r,q⟩
end
noncomputable def tCall (sp : Sp) (dvs : List V) (E : XK) (t : TA) : TE:=fun σ H Q=>t σ H fun vs H1=>sp (vs ++ dvs) H1 Q E
noncomputable def Binds (K : PySem.W.Frag) (fd : FuncData) (ps : List Str) (ds : List Value) : Prop :=
 ∀ (s : Shared) (us : List Value),K.In s.heap→(us ++ ds).length = ps.length→BindsTo s fd ⟨us,[]⟩ (ps.zip (us ++ ds))
theorem Binds.all {K : PySem.W.Frag} {fd : FuncData} {ps : List Str} (h : ∀ us : List Value,us.length = ps.length→bindArgs fd ⟨us,[]⟩ = pure (ps.zip us)) : Binds K fd ps []:=fun s us _ hl=>by
 rw [List.append_nil] at hl ⊢
 exact .of_eq (h us hl)
noncomputable def Passes (CX : CXT) (X : Cx) (E : XK) : Prop:=∀ (pins : List (Addr × Obj)) (σ : St) (H : Hp) (s : Shared) (e : Value) (s' : Shared),Inv X pins σ H s→CX X.stack H s E e s'→X.xe e s'
section
variable {X : Cx} {CX : CXT} {k : Nat} {f C : Addr} {fd : FuncData} {ps : List Str} {sp : Sp} {dvs : List V} {ds : List Value} {E : XK} {x m : Str} {p pos apos : Pos} {e o : Expr} {es : List Expr} {ta : TE} {t : TA}
theorem run_fn {pins : List (Addr × Obj)} {σ : St} {H : Hp} {s : Shared} {Q : VK} {us : List Value} {vs : List V} (F : FnOk X.prog X.w X.K X.mg X.base CX k f fd ps sp) (hr : Room k X.A) (hb : Binds X.K fd ps ds) (hd : Vals dvs ds) (hx : Passes CX X E)
  (I : Inv X pins σ H s) (r : Vals vs us) (h : sp (vs ++ dvs) H Q E) : wpAny (model X.prog X.w) X.A (call (.ref f) us) (EP X pins σ Q) X.xe s:=by
 have r2 : Vals (vs ++ dvs) (us ++ ds):=r.append hd
 have hl : (us ++ ds).length = ps.length:=by rw [← r2.length]; exact F.len _ _ _ _ h
 refine wpAny_call (codeAny_mono (F.run X.A X.stack s H ⟨us,[]⟩ (us ++ ds) (vs ++ dvs) Q E hr I.env0 (hb s us I.kIn hl) r2 h) fun r s' hq=>?_)
 cases r with
 | error e=>exact hx pins σ H s e s' I hq
 | ok fl =>
  cases fl with
  | ret u=>exact I.after hq
  | next=>exact False.elim hq
  | brk=>exact False.elim hq
  | cont=>exact False.elim hq
theorem pe_call (F : FnOk X.prog X.w X.K X.mg X.base CX k f fd ps sp) (hr : Room k X.A) (hg : Gl X x) (hm : X.mg x = some (.ref f)) (hk : PySem.W.keepIn X.K (.ref f) = true) (hb : Binds X.K fd ps ds) (hd : Vals dvs ds) (hx : Passes CX X E)
  (ha : PA X (e :: es) t) (hdb : (x == ("__debug__" : Str)) = false:=by decide) (he : starEach (e :: es) X.env = (false,eval e X.env) :: starEach es X.env:=by rfl) (hpl : (backTo pos (starEach es X.env)).any (·.1) = false:=by rfl) :
  PE X (.Call (.Name x p) (e :: es) [] pos) (tCall sp dvs E t):=by
 intro pins s σ H Q I h
 refine wpAny_Call_Name_kw (ld_glob I hg hm ?_ hdb)
 refine PySem.W.callWith_K (h₀:=X.base) I.ok.mod.kin hk (thn (ha pos pins s σ H _ I h) fun us s1 ⟨vs,H1,I1,r,q⟩=>⟨I1.kIn,?_⟩) he hpl
 exact run_fn F hr hb hd hx I1 r q
structure Mk (K : PySem.W.Frag) (C f : Addr) : Prop where
 makes : PySem.W.makesIn K C = true
 init : PySem.W.findIn K (.ref C) "__init__" = some (some (.ref f))
 fn : PySem.W.isFn K (.ref f) = true
 kp : PySem.W.keepIn K (.ref C) = true
end
section
variable {X : Cx} {CX : CXT} {k : Nat} {f C : Addr} {fd : FuncData} {ps ks : List Str} {sp : Sp} {E : XK} {x m : Str} {p pos apos kpos : Pos} {e o : Expr} {es : List Expr} {kws : List Keyword} {te ta : TE} {t tk : TA} {nm : Option Str}
structure KBinds (K : PySem.W.Frag) (fd : FuncData) (ps ks : List Str) (g : List Value→List Value→List Value) (gV : List V→List V→List V) : Prop where
 to : ∀ (s : Shared) (us ws : List Value),K.In s.heap→(g us ws).length = ps.length→BindsTo s fd ⟨us,ks.zip ws⟩ (ps.zip (g us ws))
 rel : ∀ {vs : List V} {us : List Value} {zs : List V} {ws : List Value},Vals vs us→Vals zs ws→Vals (gV vs zs) (g us ws)
variable {g : List Value→List Value→List Value} {gV : List V→List V→List V}
end
structure FnScope (N P : List Str) (sc : Scope) : Prop where
 kind : sc.kind = .function
 co : sc.isCoroutine = false
 gen : sc.isGenerator = false
 nd : N.Nodup
 pre : N.take P.length = P
 par : ∀ x∈P,sc.names.lookup x = some .local∨sc.names.lookup x = some .cell
 nofree : ∀ y∈sc.names,y.2 ≠ .free
theorem bindL_out {kindOf : Str→Option NameKind} {x : Str} : ∀ {binds : List (Str × Value)} {m : Str→Option Value},(∀ v,(x,v) ∉ binds)→bindL kindOf binds m x = m x
 | [],_,_=>rfl
 | (n,v) :: r,m,h=>by
  unfold bindL
  rw [bindL_out fun w hw=>h w (List.mem_cons_of_mem _ hw)]
  split
  ·have : x ≠ n:=by rintro rfl; exact h v List.mem_cons_self
   simp [this]
  ·rfl
theorem bindC_out {kindOf : Str→Option NameKind} {x : Str} : ∀ {binds : List (Str × Value)} {m : Str→Option Value},(∀ v,(x,v) ∉ binds)→bindC kindOf binds m x = m x
 | [],_,_=>rfl
 | (n,v) :: r,m,h=>by
  unfold bindC
  rw [bindC_out fun w hw=>h w (List.mem_cons_of_mem _ hw)]
  split
  ·rfl
  ·have : x ≠ n:=by rintro rfl; exact h v List.mem_cons_self
   simp [this]
theorem bindL_get {kindOf : Str→Option NameKind} {x : Str} {v : Value} : ∀ {P : List Str} {vs : List Value} {i : Nat} {m : Str→Option Value},P.Nodup→P[i]? = some x→vs[i]? = some v→kindOf x = some .local →
  bindL kindOf (P.zip vs) m x = some v
 | [],_,_,_,_,h,_,_=>by simp at h
 | _ :: _,[],_,_,_,_,h,_=>by simp at h
 | p :: P,w :: vs,0,m,nd,h1,h2,hk=>by
  simp at h1 h2; subst h1; subst h2
  show bindL kindOf ((p,w) :: P.zip vs) m p = _
  unfold bindL
  rw [bindL_out fun v hv=>(List.nodup_cons.mp nd).1 (List.of_mem_zip hv).1,if_pos hk]
  simp
 | p :: P,w :: vs,i + 1,m,nd,h1,h2,hk=>by
  show bindL kindOf ((p,w) :: P.zip vs) m x = _
  unfold bindL
  exact bindL_get (i:=i) (List.nodup_cons.mp nd).2 (by simpa using h1) (by simpa using h2) hk
theorem bindC_get {kindOf : Str→Option NameKind} {x : Str} {v : Value} : ∀ {P : List Str} {vs : List Value} {i : Nat} {m : Str→Option Value},P.Nodup→P[i]? = some x→vs[i]? = some v→kindOf x ≠ some .local →
  bindC kindOf (P.zip vs) m x = some v
 | [],_,_,_,_,h,_,_=>by simp at h
 | _ :: _,[],_,_,_,_,h,_=>by simp at h
 | p :: P,w :: vs,0,m,nd,h1,h2,hk=>by
  simp at h1 h2; subst h1; subst h2
  show bindC kindOf ((p,w) :: P.zip vs) m p = _
  unfold bindC
  rw [bindC_out fun v hv=>(List.nodup_cons.mp nd).1 (List.of_mem_zip hv).1,if_neg hk]
  simp
 | p :: P,w :: vs,i + 1,m,nd,h1,h2,hk=>by
  show bindC kindOf ((p,w) :: P.zip vs) m x = _
  unfold bindC
  exact bindC_get (i:=i) (List.nodup_cons.mp nd).2 (by simpa using h1) (by simpa using h2) hk
noncomputable def start (N : List Str) (vs : List V) : St:=vs.map some ++ List.replicate (N.length - vs.length) none
noncomputable def cxOf (CX : CXT) (P : Program) (w : World) (K : PySem.W.Frag) (mg : Str→Option Value) (base : Heap) (N : List Str) (qual : Str) (scope : Scope) (f : Addr) (cd : Value) (A : Around) (outer : List Env) (s : Shared) (H : Hp) (E : XK) : Cx where
 prog:=P
 w:=w
 K:=K
 mg:=mg
 base:=base
 A:=A.deeper (envOfC qual scope s.heap.objs.size f cd)
 N:=N
 s₀:=s
 H₀:=H
 env:=envOfC qual scope s.heap.objs.size f cd
 outer:=outer
 stack:=envOfC qual scope s.heap.objs.size f cd :: outer
 ex:=[]
 calm:=true
 fn:=fun _=>true
 pn:=[]
 xe:=fun e s'=>wpAny (model P w) (A.deeper (envOfC qual scope s.heap.objs.size f cd)) (leaving (envOfC qual scope s.heap.objs.size f cd) e) (fun _ s''=>CX outer H s E e s'') (fun e' s''=>CX outer H s E e' s'') s'
theorem cell_has {sc : Scope} {n : Nat} {x : Str} (h : sc.names.lookup x = some .cell) : ∃ c,(cellsFrom n sc.names []).lookup x = some c:=by
 have q:=PySem.W.cellsFrom_some sc.names n [] (.inl h)
 exact Option.isSome_iff_exists.mp q
theorem inv_start {CX : CXT} {P : Program} {w : World} {K : PySem.W.Frag} {mg : Str→Option Value} {base : Heap} {N ps : List Str} {qual : Str} {scope : Scope} {f : Addr} {cd : Value} {A : Around} {outer : List Env} {s s1 : Shared} {H : Hp} {E : XK} {us : List Value} {vs : List V}
  (S : FnScope N ps scope) (hd : A.handled = none) (e0 : Env0 P w K mg base A outer s H) (hl : vs.length = ps.length) (r : Vals vs us)
  (x : InCallC s s.heap.objs.size (bindL (envOfC qual scope s.heap.objs.size f cd).kindOf (ps.zip us) fun _=>none) (cellsFrom (s.heap.objs.size + 1) scope.names []) (bindC (envOfC qual scope s.heap.objs.size f cd).kindOf (ps.zip us) fun _=>none) s1) :
  Inv (cxOf CX P w K mg base N qual scope f cd A outer s H E) [] (start N vs) H s1:=by
 have hpl : ps.length≤N.length:=by have:=congrArg List.length S.pre; rw [List.length_take] at this; omega
 obtain ⟨h1,tk,rfl,hk⟩:=x.done
 have noA : ∀ b : Addr,b ∉ (cxOf CX P w K mg base N qual scope f cd A outer s H E).ex:=fun b z=>absurd (show b∈([] : List Addr) from z) (by simp)
 refine ⟨⟨e0.mod,S.kind,rfl,rfl,Nat.le_refl _,fun y z c h1 h2=>?_,fun y hy=>?_,fun y c _ h=>?_,fun _=>hd,Around.frames_deeper e0.frames,.inr ⟨rfl,rfl⟩,fun b z=>absurd z (noA b),e0.bs,e0.bsz,fun b _ _=>noA b,fun b z=>absurd z (noA b),e0.funs,e0.frf⟩,
  rfl,e0.bare,Un.kept hk,⟨_,x.toInCall.ns,fun i y v h1 h2 h3=>?_⟩,fun y c h=>⟨_,x.cell y c h⟩,e0.hok.fresh (Nat.le_refl _),fun y c h=>?_,fun p hp=>absurd (show p∈([] : List (Addr × Obj)) from hp) (by simp),e0.hok.kept hk,?_⟩
 ·exact name_of_addr x.apart (PySem.mem_of_lookup h1) (PySem.mem_of_lookup h2)
 ·have hy : scope.names.lookup y = some .cell∨scope.names.lookup y = some .free:=hy
  rcases hy with hy | hy
  ·exact cell_has hy
  ·exact absurd rfl (S.nofree _ (PySem.mem_of_lookup hy))
 ·exact Nat.le_of_lt (x.above y c (PySem.mem_of_lookup h))
 ·have hi : i < vs.length:=by
   unfold start at h2
   by_cases hi : i < vs.length
   ·exact hi
   ·rw [List.getElem?_append_right (by simpa using hi)] at h2
    rw [List.getElem?_replicate] at h2
    split at h2 <;> cases h2
  have ha : vs[i]? = some v:=by
   unfold start at h2
   rw [List.getElem?_append_left (by simpa using hi),List.getElem?_map] at h2
   cases e : vs[i]? with
   | none=>rw [e] at h2; cases h2
   | some a=>rw [e] at h2; cases h2; rfl
  obtain ⟨u,hu,rv⟩:=r.get ha
  have hp : ps[i]? = some y:=by
   rw [← S.pre,List.getElem?_take_of_lt (by omega)]; exact h1
  have ndP : ps.Nodup:=by rw [← S.pre]; exact S.nd.sublist (List.take_sublist _ _)
  refine ⟨u,rv,?_⟩
  rcases S.par y (List.mem_of_getElem? hp) with k | k
  ·exact .inl ⟨k,bindL_get ndP hp hu k⟩
  ·obtain ⟨c,e⟩:=cell_has (n:=s.heap.objs.size + 1) k
   refine .inr ⟨.inl k,c,e,?_⟩
   have q:=x.cell y c e
   rw [bindC_get ndP hp hu (by show scope.names.lookup y ≠ _; rw [k]; decide)] at q
   exact q
 ·exact e0.hok.fresh (Nat.le_of_lt (x.above y c (PySem.mem_of_lookup h)))
 ·unfold start
  show _ = N.length
  rw [List.length_append,List.length_map,List.length_replicate]
  omega
theorem fn_of {CX : CXT} {P : Program} {w : World} {K : PySem.W.Frag} {mg : Str→Option Value} {base : Heap} {k : Nat} {f : Addr} {name qual : Str} {params : Arguments} {body : List Stmt} {scope : Scope} {dV kV doc pm cdv ct oc : Value} {an od : Option Addr}
  {osl : Array (Option Value)} {N ps : List Str} {sp : Sp} (lk : K.lookup f = some ⟨oc,od,.func (PySem.W.fnOf name qual params body scope dV kV doc pm an cdv ct),osl⟩) (hcd : PySem.W.codeIn K cdv qual = true) (S : FnScope N ps scope)
  (len : ∀ vs H Q E,sp vs H Q E→vs.length = ps.length)
  (hbody : ∀ (A : Around) (outer : List Env) (s : Shared) (H : Hp) (vs : List V) (Q : VK) (E : XK),Room k (A.deeper (envOfC qual scope s.heap.objs.size f cdv))→sp vs H Q E →
   ∃ t,PSs (cxOf CX P w K mg base N qual scope f cdv A outer s H E) body t∧t { nx:=fun _ H'=>Q .non H',rt:=Q } (start N vs) H) :
  FnOk P w K mg base CX (k + 1) f (PySem.W.fnOf name qual params body scope dV kV doc pm an cdv ct) ps sp:=by
 refine ⟨len,fun A outer s H args us vs Q E hr e0 hb r hsp=>?_⟩
 have hl:=len _ _ _ _ hsp
 have KX : K.In s.heap:=e0.mod.kin.keeps fun b o e=>(e0.bs b o e).1
 have lim : s.heap.NoLimit:=e0.mod.nolimit.keeps fun b o e=>(e0.bs b o e).1
 have hkind : ∀ y∈ps.zip us,scope.names.lookup y.1 = some .local∨(scope.names.lookup y.1 = some .cell∧((cellsFrom (s.heap.objs.size + 1) scope.names []).lookup y.1).isSome = true):=fun ⟨n,v⟩ hy=>by
  rcases S.par n (List.of_mem_zip hy).1 with q | q
  ·exact .inl q
  ·exact .inr ⟨q,PySem.W.cellsFrom_some _ _ _ (.inl q)⟩
 refine codeAny_call_function hr.depth (KX _ _ lk) rfl S.co S.gen rfl (PySem.W.codeRec_of KX hcd) (hb _ _ _ _ ?_)
 refine wpAny_newFunctionEnv_cells S.kind hkind fun env he s1 x=>?_
 subst he
 refine ⟨lim.keeps x.toInCall.keep,codeAny_func ?_⟩
 obtain ⟨t,ht,hq⟩:=hbody A outer s H vs Q E (hr.deeper _) hsp
 have I : Inv (cxOf CX P w K mg base N qual scope f cdv A outer s H E) [] (start N vs) H s1:=inv_start S hr.hd e0 hl r x
 refine wpAny_mono (ht [] s1 (start N vs) H _ I hq) (fun fl s' hs=>?_) fun e s' hs=>hs
 have fin : ∀ {σ' : St} {H' : Hp} {v : V} {u : Value},Inv (cxOf CX P w K mg base N qual scope f cdv A outer s H E) [] σ' H' s'→RelV v u→Q v H'→CE outer P w H s Q u s' :=
  fun {σ' H' v u} J rv q=>⟨v,H',J.os,J.bare,J.base,J.hok,rv,q⟩
 cases fl with
 | ret u =>
  obtain ⟨v,σ',H',J,rv,q⟩:=hs
  exact fin J rv q
 | next =>
  obtain ⟨σ',H',J,q⟩:=hs
  exact fin (v:=V.non) (u:=Value.none) J rfl q
 | brk =>
  obtain ⟨_,_,_,q⟩:=hs
  exact False.elim q
 | cont =>
  obtain ⟨_,_,_,q⟩:=hs
  exact False.elim q
end L2
namespace L2
open PySem PySem.Spec PyProof.Rows
section
variable {X : Cx} {x : Str} {p pos : Pos} {e : Expr} {es : List Expr} {t : TA} {id T : String} {r : List V→Hp→VK→Prop}
noncomputable def tCB (r : List V→Hp→VK→Prop) (t : TA) : TE:=fun σ H Q=>t σ H fun vs H1=>r vs H1 Q
theorem pe_callB (hc : CallR X (.builtin id) r) (hg : Gl X x) (hm : X.mg x = none) (hv : bootBuiltins x = some (.builtin id)) (ha : PA X (e :: es) t) (hn : x ≠ "__name__":=by decide) (hdb : (x == ("__debug__" : Str)) = false:=by decide)
  (he : starEach (e :: es) X.env = (false,eval e X.env) :: starEach es X.env:=by rfl) (hpl : (backTo pos (starEach es X.env)).any (·.1) = false:=by rfl) : PE X (.Call (.Name x p) (e :: es) [] pos) (tCB r t):=by
 intro pins s σ H Q I h
 refine wpAny_Call_Name_kw (ld_blt I hg hm hv ?_ hn hdb)
 exact PyProof.Rows.callWith_builtin1 (thn (ha pos pins s σ H _ I h) fun us s1 ⟨vs,H1,I1,r1,q1⟩=>hc pins s1 σ H1 vs us Q I1 r1 q1) he hpl
theorem pe_callTy (hc : CallR X (.type T) r) (hg : Gl X x) (hm : X.mg x = none) (hv : bootBuiltins x = some (.type T)) (ha : PA X (e :: es) t) (hn : x ≠ "__name__":=by decide) (hdb : (x == ("__debug__" : Str)) = false:=by decide)
  (he : starEach (e :: es) X.env = (false,eval e X.env) :: starEach es X.env:=by rfl) (hpl : (backTo pos (starEach es X.env)).any (·.1) = false:=by rfl) : PE X (.Call (.Name x p) (e :: es) [] pos) (tCB r t):=by
 intro pins s σ H Q I h
 refine wpAny_Call_Name_kw (ld_blt I hg hm hv ?_ hn hdb)
 exact PyProof.Rows.callWith_type1 (thn (ha pos pins s σ H _ I h) fun us s1 ⟨vs,H1,I1,r1,q1⟩=>hc pins s1 σ H1 vs us Q I1 r1 q1) he hpl
end
end L2
namespace HT
open PySem PyProof.Rows
section
open PySem.SeqAt
open PySem.AutoSeq1 (wpAny_loadPart')
open PySem.MeetsSeq PySem.MeetsSeq2 PySem.MeetsSeq3
end
section
variable {prog : Program} {w : World} {A : Around} {E : Value→Shared→Prop} {s : Shared}
noncomputable def sIx (n d : Nat) : Option Int→Nat
 | none=>d
 | some v=>if v < 0 then (v + (n : Int)).toNat else min v.toNat n
end
end HT
namespace L2
open PySem PySem.Spec PyProof.Rows
noncomputable abbrev TO:=St→Hp→(Option Int→Hp→Prop)→Prop
noncomputable def PO (X : Cx) (e : Option Expr) (t : TO) : Prop :=
 ∀ (pins : List (Addr × Obj)) (s : Shared) (σ : St) (H : Hp) (Q : Option Int→Hp→Prop),Inv X pins σ H s→t σ H Q →
  wpAny (model X.prog X.w) X.A (evalPart e X.env) (fun u s'=>∃ o H',Inv X pins σ H' s'∧IsPart u o∧Q o H') X.xe s
noncomputable def tNoPart : TO:=fun _ H Q=>Q none H
noncomputable def tPart (t : TE) : TO:=fun σ H Q=>t σ H fun x H1=>∃ i,x = .int i∧Q (some i) H1
section
variable {X : Cx} {e : Expr} {te : TE} {lo hi : Option Expr} {tl th : TO} {pos p2 : Pos}
theorem po_some (h : PE X e te) : PO X (some e) (tPart te):=by
 intro pins s σ H Q I hw
 rw [evalPart_some]
 refine thn (h pins s σ H _ I hw) fun u s1 ⟨x,H1,I1,r1,q1⟩=>?_
 obtain ⟨i,rfl,q⟩:=q1
 obtain ⟨t,rfl⟩:=r1
 exact ⟨some i,H1,I1,.int i t,q⟩
noncomputable def SlR (X : Cx) (r : V→Option Int→Option Int→Hp→VK→Prop) : Prop :=
 ∀ (pins : List (Addr × Obj)) (s : Shared) (σ : St) (H : Hp) (x : V) (v vl vu : Value) (lo hi : Option Int) (sl : Addr) (Q : VK),Inv X pins σ H s→RelV x v→s.heap.IsSliceOf sl vl vu .none→IsPart vl lo→IsPart vu hi→r x lo hi H Q →
  ∃ T id,typeLookup (.type T) "__getitem__" = pure (some (.builtin id))∧s.TypeIs v T∧wpAny (model X.prog X.w) X.A (getItem v (.ref sl)) (EP X pins σ Q) X.xe s
noncomputable def tSl (r : V→Option Int→Option Int→Hp→VK→Prop) (te : TE) (tl th : TO) : TE:=fun σ H Q=>te σ H fun x H1=>tl σ H1 fun l H2=>th σ H2 fun u H3=>r x l u H3 Q
theorem pe_slice {r : V→Option Int→Option Int→Hp→VK→Prop} (hr : SlR X r) (he : PE X e te) (hl : PO X lo tl) (hu : PO X hi th) : PE X (.Subscript e (.Slice lo hi none p2) pos) (tSl r te tl th):=by
 intro pins s σ H Q I h
 refine Subscript_ (thn (he pins s σ H _ I h) fun v s1 ⟨x,H1,I1,r1,q1⟩=>?_)
 refine wpAny_Slice (thn (hl pins s1 σ H1 _ I1 q1) fun vl s2 ⟨l,H2,I2,pl,q2⟩=>thn (hu pins s2 σ H2 _ I2 q2) fun vu s3 ⟨u,H3,I3,pu,q3⟩=>?_)
 rw [evalPart_none]
 refine wpAny_pure ?_
 have I4 : Inv X pins σ H3 { s3 with heap:=s3.heap.push { cls:=.type "slice",data:=.fields #[vl,vu,.none] } }:=I3.kept (t':=s3.toks) fun b ob q=>Heap.get?_push_of_some _ q
 obtain ⟨T,id,hT,ht,hg⟩:=hr pins { s3 with heap:=s3.heap.push { cls:=.type "slice",data:=.fields #[vl,vu,.none] } } σ H3 x v vl vu l u s3.heap.objs.size Q I4 r1 (Heap.IsSliceOf.new ..) pl pu q3
 show wpAny (model X.prog X.w) X.A (subscriptTail e (.Slice lo hi none p2) v (.ref s3.heap.objs.size)) (EP X pins σ Q) X.xe { s3 with heap:=s3.heap.push { cls:=.type "slice",data:=.fields #[vl,vu,.none] } }
 exact tail_any (ops:=[.ref s3.heap.objs.size,v]) ht hT hg (by with_unfolding_all rfl)
noncomputable def cutV (xs : List V) (lo hi : Option Int) : List V:=(xs.drop (HT.sIx xs.length 0 lo)).take (HT.sIx xs.length xs.length hi - HT.sIx xs.length 0 lo)
theorem cutV_length (xs : List V) (lo hi : Option Int) : (cutV xs lo hi).length≤xs.length:=by
 unfold cutV
 rw [List.length_take,List.length_drop]
 omega
end
end L2
namespace L2
open PySem PySem.Spec PyProof.Rows
noncomputable def ixN (n : Nat) (i : Int) : Option Nat:=if 0≤i then (if i < n then some i.toNat else none) else if -(n : Int)≤i then some (i + n).toNat else none
noncomputable def atI {α : Type} (xs : List α) (i : Int) : Option α:=(ixN xs.length i).bind fun j=>xs[j]?
theorem ixN_seq {n : Nat} {i : Int} {j : Nat} (h : ixN n i = some j) : seqIndex? i n = some j∧j < n∧-(n : Int)≤i∧i < n:=by
 unfold ixN at h
 by_cases h0 : 0≤i
 ·rw [if_pos h0] at h
  by_cases h1 : i < n
  ·rw [if_pos h1] at h
   have e : i.toNat = j:=Option.some.inj h
   exact ⟨by rw [seqIndex_of h0 h1,e],by omega,by omega,h1⟩
  ·rw [if_neg h1] at h; cases h
 ·rw [if_neg h0] at h
  by_cases h1 : -(n : Int)≤i
  ·rw [if_pos h1] at h
   have e : (i + n).toNat = j:=Option.some.inj h
   exact ⟨by rw [seqIndex_neg (by omega) h1,e],by omega,h1,by omega⟩
  ·rw [if_neg h1] at h; cases h
theorem atI_get {α : Type} {xs : List α} {i : Int} {v : α} (h : atI xs i = some v) : ∃ j,seqIndex? i xs.length = some j∧xs[j]? = some v∧j < xs.length∧-(xs.length : Int)≤i∧i < xs.length:=by
 unfold atI at h
 cases e : ixN xs.length i with
 | none=>rw [e] at h; cases h
 | some j =>
  rw [e] at h
  obtain ⟨h1,h2,h3,h4⟩:=ixN_seq e
  exact ⟨j,h1,h,h2,h3,h4⟩
theorem atI_nat {α : Type} {xs : List α} {j : Nat} {v : α} (h : xs[j]? = some v) : atI xs (j : Int) = some v:=by
 have hj : j < xs.length:=(List.getElem?_eq_some_iff.mp h).1
 have e : ixN xs.length (j : Int) = some j:=by
  unfold ixN
  rw [if_pos (by omega),if_pos (by omega)]; simp
 unfold atI; rw [e]; exact h
theorem atI_last {α : Type} (xs : List α) (v : α) : atI (xs ++ [v]) (-1) = some v:=by
 have hl : (xs ++ [v]).length = xs.length + 1:=by simp
 have e : ixN (xs ++ [v]).length (-1) = some xs.length:=by
  unfold ixN
  rw [hl,if_neg (by decide),if_pos (by omega)]
  congr 1
  omega
 unfold atI
 rw [e]
 show (xs ++ [v])[xs.length]? = some v
 simp
noncomputable def PlainIx (b : Expr) : Prop:=∀ o i,subscripted b false o i = operate [o,i] (getItem o i)
noncomputable def IxR (X : Cx) (r : R2) : Prop :=
 ∀ (value slice : Expr) (pins : List (Addr × Obj)) (s : Shared) (σ : St) (H : Hp) (x y : V) (v u : Value) (Q : VK),Inv X pins σ H s→RelV x v→RelV y u→r x y H Q →
  subscripted slice false v u = operate [v,u] (getItem v u)→wpAny (model X.prog X.w) X.A (subscriptTail value slice v u) (EP X pins σ Q) X.xe s
noncomputable def MtR (X : Cx) (id : String) (r : V→List V→Hp→VK→Prop) : Prop :=
 ∀ (pins : List (Addr × Obj)) (s : Shared) (σ : St) (H : Hp) (x : V) (xs : List V) (v : Value) (us : List Value) (Q : VK),Inv X pins σ H s→RelV x v→Vals xs us→r x xs H Q →
  wpAny (model X.prog X.w) X.A (call (.builtin id) (v :: us)) (EP X pins σ Q) X.xe s
section
variable {X : Cx} {a b : Expr} {ta tb : TE} {pos : Pos}
theorem IxR.or {r r' : R2} (h : IxR X r) (h' : IxR X r') : IxR X (fun x y H Q=>r x y H Q∨r' x y H Q):=by
 intro value slice pins s σ H x y v u Q I rx ry q hs
 rcases q with q | q
 ·exact h value slice pins s σ H x y v u Q I rx ry q hs
 ·exact h' value slice pins s σ H x y v u Q I rx ry q hs
theorem pe_ix {r : R2} (hr : IxR X r) (ha : PE X a ta) (hb : PE X b tb) (hs : PlainIx b) : PE X (.Subscript a b pos) (tOp r ta tb):=by
 intro pins s σ H Q I h
 exact Subscript_ (binT ha hb I h fun v u s2 x y H2 I2 rx ry q=>hr a b pins s2 σ H2 x y v u Q I2 rx ry q (hs _ _))
noncomputable def rIxL (K : PySem.W.Frag) : R2:=fun x y H Q=>∃ p xs i v,x = .ref p∧y = .int i∧SqL K H p xs∧atI xs i = some v∧Q v H
noncomputable def rIxT (K : PySem.W.Frag) : R2:=fun x y H Q=>∃ p xs i v,x = .ref p∧y = .int i∧SqT K H p xs∧atI xs i = some v∧Q v H
theorem ix_list : IxR X (rIxL X.K):=by
 intro value slice pins s σ H x y v u Q I rx ry h hs
 obtain ⟨p,xs,i,z,rfl,rfl,hq,he,q⟩:=h
 cases rx
 obtain ⟨t,rfl⟩:=ry
 obtain ⟨its,r,pl,hz⟩:=I.list hq
 obtain ⟨j,h1,h2,h3,h4,h5⟩:=atI_get he
 obtain ⟨w,ew,rw'⟩:=r.get h2
 have hl:=r.length
 have hn:=line63
 have fin : EP X pins σ Q w s:=⟨z,H,I,rw',q⟩
 by_cases h0 : 0≤i
 ·have hj : i.toNat = j:=by
   rw [seqIndex_of h0 h5] at h1
   exact Option.some.inj h1
  exact item_listR pl.isList h0 (by omega) (by rw [hj]; simpa using ew) fin hs
 ·have hj : (i + (its.toArray.size : Int)).toNat = j:=by
   rw [seqIndex_neg (by omega) h4] at h1
   rw [List.size_toArray,← hl]
   exact Option.some.inj h1
  exact subscriptTail_builtinR (x:=w) pl.isList.typeIs slot_list_getitem.lookup
   (wpAny_getItem_list_neg (Q:=fun r s'=>r = w∧EP X pins σ Q r s') pl.isList (by omega) (by rw [List.size_toArray] <;> omega) (by omega) (by rw [hj]; simpa using ew) ⟨rfl,fin⟩) hs
theorem ix_tup : IxR X (rIxT X.K):=by
 intro value slice pins s σ H x y v u Q I rx ry h hs
 obtain ⟨p,xs,i,z,rfl,rfl,hq,he,q⟩:=h
 cases rx
 obtain ⟨t,rfl⟩:=ry
 obtain ⟨its,r,pl,hz⟩:=I.tuple hq
 obtain ⟨j,h1,h2,h3,h4,h5⟩:=atI_get he
 obtain ⟨w,ew,rw'⟩:=r.get h2
 have hl:=r.length
 have hn:=line63
 have fin : EP X pins σ Q w s:=⟨z,H,I,rw',q⟩
 exact subscriptTail_builtinR (x:=w) pl.typeIs slot_tuple_getitem.lookup
  (getItem_tuple (j:=j) (Q:=fun r s'=>r = w∧EP X pins σ Q r s') pl (by omega) (by omega) (by rw [List.size_toArray,← hl]; exact h1) (by simpa using ew) ⟨rfl,fin⟩) hs
theorem mapSeq_set (its : List Value) (n j : Nat) (u : Value) : Obj.mapSeq (·.setIfInBounds j u) { cls:=.type "list",data:=.seq its.toArray n } = { cls:=.type "list",data:=.seq (its.set j u).toArray n }:=by
 simp [Obj.mapSeq]
theorem Inv.lst {pins : List (Addr × Obj)} {σ : St} {H : Hp} {s : Shared} {p : Addr} {xs : List V} (I : Inv X pins σ H s) (h : H p = some (.lst xs)) :
  ∃ (its : List Value) (n : Nat),Vals xs its∧s.heap.get? p = some { cls:=.type "list",data:=.seq its.toArray n }∧xs.length≤sizeLine:=by
 obtain ⟨z,its,n,r,e⟩:=I.hok p _ h
 exact ⟨its,n,r,e,z⟩
theorem Inv.lstUpd {pins : List (Addr × Obj)} {σ : St} {H : Hp} {s : Shared} {p : Addr} {xs ys : List V} {its its' : List Value} {n n' : Nat} {f : Obj→Obj} (I : Inv X pins σ H s) (h : H p = some (.lst xs))
  (ho : s.heap.get? p = some { cls:=.type "list",data:=.seq its.toArray n }) (hf : f { cls:=.type "list",data:=.seq its.toArray n } = { cls:=.type "list",data:=.seq its'.toArray n' }) (r : Vals ys its') (hz : ys.length≤sizeLine) (t : Nat) :
  Inv X pins σ (upd H p (.lst ys)) { s with heap:=s.heap.update p f,toks:=t }:=by
 have e : (s.heap.update p f).get? p = some { cls:=.type "list",data:=.seq its'.toArray n' }:=by
  rw [Heap.get?_update_self f ho (by rw [hf] <;> rfl),hf]
 refine I.write (x:=p) (e:=p) (by rw [h]; trivial) (.inl rfl) (fun b u hb q=>(Heap.get?_update_other _ _ (Ne.symm hb)).trans q) ⟨_,e⟩ ?_
 exact ⟨hz,its',n',r,e⟩
noncomputable def rSetL : V→V→V→Hp→(Hp→Prop)→Prop:=fun o i v H Q=>∃ p xs k j,o = .ref p∧i = .int k∧H p = some (.lst xs)∧ixN xs.length k = some j∧Q (upd H p (.lst (xs.set j v)))
theorem set_list : PSet X rSetL:=by
 intro pins s σ H o i v ov iv u Q I ro ri rv h
 obtain ⟨p,xs,k,j,rfl,rfl,hp,hj,q⟩:=h
 cases ro
 obtain ⟨t,rfl⟩:=ri
 obtain ⟨its,n,r,ho,hz⟩:=I.lst hp
 obtain ⟨h1,h2,h3,h4⟩:=ixN_seq hj
 have hl:=r.length
 have hn:=line63
 have I' : Inv X pins σ (upd H p (.lst (xs.set j v))) { s with heap:=s.heap.update p (Obj.mapSeq (·.setIfInBounds j u)) } :=
  I.lstUpd hp ho (mapSeq_set its n j u) (r.set rv j) (by rw [List.length_set]; exact hz) s.toks
 by_cases h0 : 0≤k
 ·have hk : k.toNat = j:=by
   rw [seqIndex_of h0 h4] at h1
   exact Option.some.inj h1
  exact PySem.W.ki_setAt ho h0 (by omega) (by rw [List.size_toArray,← hl]; exact h4) (by rw [hk]; exact ⟨_,I',q⟩)
 ·have hk : (k + (its.toArray.size : Int)).toNat = j:=by
   rw [seqIndex_neg (by omega) h3] at h1
   rw [List.size_toArray,← hl]
   exact Option.some.inj h1
  exact PySem.W.ki_setBack ho (by omega) (by rw [List.size_toArray,← hl]; exact h3) (by omega) (by rw [hk]; exact ⟨_,I',q⟩)
theorem slice_bounds (lo hi : Option Int) (n : Nat) : (sliceBounds lo hi none n).1 = ((HT.sIx n 0 lo : Nat) : Int)∧(sliceBounds lo hi none n).2.1 = ((HT.sIx n n hi : Nat) : Int)∧(sliceBounds lo hi none n).2.2 = 1:=by
 refine ⟨?_,?_,rfl⟩
 ·cases lo with
  | none=>simp [sliceBounds,HT.sIx]
  | some i =>
   simp only [sliceBounds,HT.sIx,Option.getD_none,show (1 : Int) > 0 by decide,if_true]
   by_cases h : i < 0
   ·simp only [h,if_true] <;> omega
   ·simp only [h,if_false] <;> omega
 ·cases hi with
  | none=>simp [sliceBounds,HT.sIx]
  | some i =>
   simp only [sliceBounds,HT.sIx,Option.getD_none,show (1 : Int) > 0 by decide,if_true]
   by_cases h : i < 0
   ·simp only [h,if_true] <;> omega
   ·simp only [h,if_false] <;> omega
theorem slicePick_cut (its : List Value) (lo hi : Option Int) : slicePick its.toArray lo hi none = ((its.drop (HT.sIx its.length 0 lo)).take (HT.sIx its.length its.length hi - HT.sIx its.length 0 lo)).toArray:=by
 obtain ⟨h1,h2,h3⟩:=slice_bounds lo hi its.toArray.size
 unfold slicePick
 rw [h1,h2,h3]
 simp only [sliceRange_one,pick_run,List.size_toArray] <;> rfl
noncomputable def rSlL (K : PySem.W.Frag) : V→Option Int→Option Int→Hp→VK→Prop:=fun x lo hi H Q=>∃ a xs,x = .ref a∧SqL K H a xs∧∀ p,H p = none→Q (.ref p) (upd H p (.lst (cutV xs lo hi)))
theorem sl_list : SlR X (rSlL X.K):=by
 intro pins s σ H x v vl vu lo hi sl Q I rx hs pl pu h
 obtain ⟨a,xs,rfl,hx,q⟩:=h
 cases rx
 obtain ⟨its,r,ht,hz⟩:=I.list hx
 have hlen:=r.length
 refine ⟨"list",_,slot_list_getitem.lookup,ht.isList.typeIs,?_⟩
 refine wpAny_getItem_list_slice ht.isList hs pl pu .none (by simp) ?_ (by rw [List.size_toArray] <;> omega)
 rw [slicePick_cut,← hlen]
 refine ⟨.ref s.heap.objs.size,_,I.laid (t':=s.toks) (o:=.lst (cutV xs lo hi)) (fun b ob q=>Heap.get?_push_of_some _ q) (Nat.le_refl _) ?_,rfl,q _ (I.hok.fresh (Nat.le_refl _))⟩
 exact ⟨Nat.le_trans (cutV_length xs lo hi) hz,_,0,(r.drop (HT.sIx xs.length 0 lo)).take (HT.sIx xs.length xs.length hi - HT.sIx xs.length 0 lo),Heap.get?_push_size _ rfl⟩
theorem call_len_seq : CallR X (.builtin "len") (fun xs H Q=>∃ p ys,xs = [.ref p]∧(SqL X.K H p ys∨SqT X.K H p ys)∧Q (.int ys.length) H):=by
 intro pins s σ H xs us Q I r h
 obtain ⟨p,ys,rfl,hq,q⟩:=h
 obtain ⟨u,rfl,rx⟩:=vals1 r
 cases rx
 have hn:=line63
 rcases hq with hq | hq
 ·obtain ⟨its,r',pl,hz⟩:=I.list hq
  have hlen:=r'.length
  exact Calls.call_len_list pl.isList (by simp only [List.size_toArray] <;> omega) ⟨.int ys.length,H,I.tok _,⟨s.toks + 1,by rw [List.size_toArray,hlen]⟩,q⟩
 ·obtain ⟨its,r',pl,hz⟩:=I.tuple hq
  have hlen:=r'.length
  exact len_tuple pl (by simp only [List.size_toArray] <;> omega) ⟨.int ys.length,H,I.tok _,⟨s.toks + 1,by rw [List.size_toArray,hlen]⟩,q⟩
theorem call_list_of : CallR X (.type "list") (fun xs H Q=>∃ p ys,xs = [.ref p]∧(SqL X.K H p ys∨SqT X.K H p ys)∧∀ l,H l = none→Q (.ref l) (upd H l (.lst ys))):=by
 intro pins s σ H xs us Q I r h
 obtain ⟨p,ys,rfl,hq,q⟩:=h
 obtain ⟨u,rfl,rx⟩:=vals1 r
 cases rx
 have fin : ∀ (its : List Value),Vals ys its→ys.length≤sizeLine→∀ (h' : Heap) (c' : Nat),(∀ b o',s.heap.get? b = some o'→h'.get? b = some o') →
   h'.get? s.heap.objs.size = some { cls:=.type "list",dict:=none,data:=.seq its.toArray c',slots:=#[] }→EP X pins σ Q (.ref s.heap.objs.size) { s with heap:=h' }:=fun its r' hz h' c' kp e =>
  ⟨.ref s.heap.objs.size,_,I.laid (t':=s.toks) kp (Nat.le_refl _) (show ObjOk X.prog X.w _ h' _ (.lst ys) from ⟨hz,its,c',r',e⟩),rfl,q _ (I.hok.fresh (Nat.le_refl _))⟩
 rcases hq with hq | hq
 ·obtain ⟨its,r',pl,hz⟩:=I.list hq
  have hlen:=r'.length
  obtain ⟨o,ho,hc,n,hd⟩:=pl.isList
  exact call_list_seq p (.inl rfl) ho hc hd (fun h' c' kp e=>fin its r' hz h' c' kp e) (by simp only [List.size_toArray] <;> omega)
 ·obtain ⟨its,r',pl,hz⟩:=I.tuple hq
  have hlen:=r'.length
  obtain ⟨o,ho,hc,n,hd⟩:=pl
  exact call_list_seq p (.inr rfl) ho hc hd (fun h' c' kp e=>fin its r' hz h' c' kp e) (by simp only [List.size_toArray] <;> omega)
noncomputable def tyV (K : PySem.W.Frag) (T : String) (x : V) (H : Hp) : Prop:=match x with
 | .str _=>T = "str"
 | .int _=>T = "int"
 | .ref p=>(T = "list"∧∃ xs,SqL K H p xs)∨(T = "tuple"∧∃ o,K.lookup p = some o∧o.cls = .type "tuple"∧o.dict = none) ∨
   (T = "dict"∧((∃ kvs,H p = some (.dK kvs))∨∃ kvs,H p = some (.dT kvs)))∨(T = "set"∧∃ S n,H p = some (.set S n))
 | _=>False
theorem tyV_is {pins : List (Addr × Obj)} {σ : St} {H : Hp} {s : Shared} {T : String} {x : V} {v : Value} (I : Inv X pins σ H s) (r : RelV x v) (ty : tyV X.K T x H) :
  s.TypeIs v T∧∀ a,v = .ref a→∃ ob,s.heap.get? a = some ob∧ob.dict = none:=by
 cases x with
 | str z =>
  obtain ⟨t,rfl⟩:=r
  cases (show T = "str" from ty)
  exact ⟨typeIs_str s z t,fun _ e=>nomatch e⟩
 | int i =>
  obtain ⟨t,rfl⟩:=r
  cases (show T = "int" from ty)
  exact ⟨typeIs_int s i t,fun _ e=>nomatch e⟩
 | ref p =>
  cases r
  rcases ty with ⟨rfl,xs,hq⟩ | ⟨rfl,o,hk,hc,hd⟩ | ⟨rfl,hk⟩ | ⟨rfl,S,n,hk⟩
  ·obtain ⟨its,_,pl,_⟩:=I.list hq
   refine ⟨pl.isList.typeIs,fun a e=>?_⟩
   cases e
   obtain ⟨o,n,e,c,hd,_⟩:=pl
   exact ⟨o,e,hd⟩
  ·refine ⟨⟨o,I.kIn p o hk,hc⟩,fun a e=>?_⟩
   cases e
   exact ⟨o,I.kIn _ o hk,hd⟩
  ·have z : ∃ o,s.heap.get? p = some o∧o.ExactDict:=by
    rcases hk with ⟨kvs,hk⟩ | ⟨kvs,hk⟩
    ·obtain ⟨_,_,_,_,o,_,_,e,ex,_⟩:=I.hok p _ hk
     exact ⟨o,e,ex⟩
    ·obtain ⟨_,_,_,_,o,_,_,e,ex,_⟩:=I.hok p _ hk
     exact ⟨o,e,ex⟩
   obtain ⟨o,e,ex⟩:=z
   refine ⟨⟨o,e,ex.1⟩,fun a e2=>?_⟩
   cases e2
   exact ⟨o,e,ex.2.1⟩
  ·obtain ⟨o,_,_,_,e,ex,_⟩:=I.hok p _ hk
   refine ⟨⟨o,e,ex.1⟩,fun a e2=>?_⟩
   cases e2
   exact ⟨o,e,ex.2.1⟩
 | _=>exact False.elim ty
noncomputable def tBM0 (K : PySem.W.Frag) (T : String) (r : V→List V→Hp→VK→Prop) (to : TE) : TE:=fun σ H Q=>to σ H fun x H1=>tyV K T x H1∧r x [] H1 Q
noncomputable def tBM (K : PySem.W.Frag) (T : String) (r : V→List V→Hp→VK→Prop) (to : TE) (t : TA) : TE:=fun σ H Q=>to σ H fun x H1=>tyV K T x H1∧t σ H1 fun xs H2=>r x xs H2 Q
variable {o e : Expr} {es : List Expr} {to : TE} {t : TA} {name : Str} {apos cpos : Pos} {T id : String} {r : V→List V→Hp→VK→Prop}
theorem pe_bm0 (pa : PlainAttrs T) (slot : Slot T name id) (hty : typeOf (.builtin id) = pure (.type "method_descriptor")) (hm : MtR X id r) (ho : PE X o to)
  (hbase : attributeBase o name X.env (eval o X.env) = eval o X.env:=by rfl) (hline : (apos.endLine == cpos.line) = true:=by rfl) : PE X (.Call (.Attribute o name apos) [] [] cpos) (tBM0 X.K T r to):=by
 intro pins s σ H Q I h
 refine wpAny_Call_method0_late hbase hline (thn (ho pins s σ H _ I h) fun v s1 ⟨x,H1,I1,r1,ty,q1⟩=>?_)
 obtain ⟨h1,h2⟩:=tyV_is I1 r1 ty
 exact ⟨T,id,pa,slot,hty,h1,h2,Calls.callWith_builtin rfl (PySem.evalArgs_none (hm pins s1 σ H1 x [] v [] Q I1 r1 .nil q1))⟩
theorem pe_bm (pa : PlainAttrs T) (slot : Slot T name id) (hty : typeOf (.builtin id) = pure (.type "method_descriptor")) (hm : MtR X id r) (ho : PE X o to) (ha : PA X (e :: es) t)
  (hbase : attributeBase o name X.env (eval o X.env) = eval o X.env:=by rfl)
  (hfew : ((backTo cpos (starEach (e :: es) X.env)).all (fun x=>!x.1) && (backToKw cpos (keywordEach [] X.env)).all (fun x=>x.1.isSome)
   && decide ((e :: es).length + ([] : List Keyword).length + (if ([] : List Keyword).isEmpty then 0 else 1) < 30)) = true:=by rfl)
  (hline : (apos.endLine == cpos.line) = true:=by rfl) (hs : starEach (e :: es) X.env = (false,eval e X.env) :: starEach es X.env:=by rfl) (hplain : (backTo cpos (starEach es X.env)).any (·.1) = false:=by rfl) :
  PE X (.Call (.Attribute o name apos) (e :: es) [] cpos) (tBM X.K T r to t):=by
 intro pins s σ H Q I h
 refine wpAny_Call_method_late hbase hfew hline rfl (thn (ho pins s σ H _ I h) fun v s1 ⟨x,H1,I1,r1,ty,q1⟩=>?_)
 obtain ⟨h1,h2⟩:=tyV_is I1 r1 ty
 refine ⟨T,id,pa,slot,hty,h1,h2,?_⟩
 have hA:=ha cpos pins s1 σ H1 _ I1 q1
 rw [hs] at hA ⊢
 refine Calls.callWith_builtin (by show (false || (backTo cpos (starEach es X.env)).any (·.1)) = false; rw [hplain] <;> rfl) (Calls.evalArgs_plain ?_)
 exact thn hA fun us s2 ⟨vs,H2,I2,r2,q2⟩=>hm pins s2 σ H2 x vs v us Q I2 r1 r2 q2
end
end L2
namespace L2
open PySem PySem.Spec PyProof.Rows
noncomputable def MtM (X : Cx) (id : String) (r : V→List V→Hp→VK→Prop) : Prop :=
 ∀ (pins : List (Addr × Obj)) (s : Shared) (σ : St) (H : Hp) (x : V) (xs : List V) (v : Value) (us : List Value) (Q : VK),Inv X pins σ H s→RelV x v→Vals xs us→r x xs H Q →
  wpAny (model X.prog X.w) X.A (call (.builtin id) (v :: us)) (EP X pins σ Q) X.xe s
theorem Vals.one : ∀ {x : V} {us : List Value},Vals [x] us→∃ u,us = [u]∧RelV x u
 | _,_,.cons r .nil=>⟨_,rfl,r⟩
theorem Vals.zero : ∀ {us : List Value},Vals [] us→us = []
 | _,.nil=>rfl
theorem Vals.dropLast {xs : List V} {us : List Value} (h : Vals xs us) : Vals xs.dropLast us.dropLast:=by
 induction h with
 | nil=>exact .nil
 | cons r t ih =>
  cases t with
  | nil=>exact .nil
  | cons q t'=>exact .cons r ih
theorem Vals.eraseIdx : ∀ {xs : List V} {us : List Value} (i : Nat),Vals xs us→Vals (xs.eraseIdx i) (us.eraseIdx i)
 | _,_,_,.nil=>.nil
 | _,_,0,.cons _ t=>t
 | _,_,i + 1,.cons r t=>.cons r (Vals.eraseIdx i t)
theorem Vals.reverse {xs : List V} {us : List Value} (h : Vals xs us) : Vals xs.reverse us.reverse:=by
 induction h with
 | nil=>exact .nil
 | cons r t ih=>rw [List.reverse_cons,List.reverse_cons]; exact Vals.append ih (.cons r .nil)
theorem Vals.rep {xs : List V} {us : List Value} (h : Vals xs us) : ∀ k : Nat,Vals (List.replicate k xs).flatten (List.replicate k us).flatten
 | 0=>.nil
 | k + 1=>by
  rw [List.replicate_succ,List.replicate_succ,List.flatten_cons,List.flatten_cons]
  exact Vals.append h (Vals.rep h k)
theorem erase_last {α : Type} (l : List α) : l.eraseIdx (l.length - 1) = l.dropLast:=by
 induction l with
 | nil=>rfl
 | cons a r ih =>
  cases r with
  | nil=>rfl
  | cons b r =>
   have e : (a :: b :: r).length - 1 = ((b :: r).length - 1) + 1:=by
    have h1 : (a :: b :: r).length = r.length + 2:=rfl
    have h2 : (b :: r).length = r.length + 1:=rfl
    omega
   rw [e,List.eraseIdx_cons_succ,ih]
   all_goals rfl
theorem foldl_rep (its : List Value) : ∀ (k : Nat) (acc : List Value),
  List.foldl (fun x1 x2=>x1 ++ x2) acc.toArray (List.replicate k its.toArray) = (acc ++ (List.replicate k its).flatten).toArray
 | 0,acc=>by simp
 | k + 1,acc=>by
  have e : acc.toArray ++ its.toArray = (acc ++ its).toArray:=by simp
  have e2 : (acc ++ its) ++ (List.replicate k its).flatten = acc ++ (List.replicate (k + 1) its).flatten:=by
   rw [List.replicate_succ,List.flatten_cons,List.append_assoc]
  rw [← e2,← foldl_rep its k (acc ++ its),← e,List.replicate_succ,List.foldl_cons]
section
variable {X : Cx} {pins : List (Addr × Obj)} {σ : St} {H : Hp} {s : Shared} {l b : Addr} {xs ys zs : List V}
theorem Inv.lset {its its' : List Value} {n : Nat} {f : Array Value→Array Value} {t' : Nat} (I : Inv X pins σ H s) (hH : H l = some (.lst xs))
  (e : s.heap.get? l = some { cls:=.type "list",data:=.seq its.toArray n }) (hf : f its.toArray = its'.toArray) (hv : Vals ys its') (hz : ys.length≤sizeLine) :
  Inv X pins σ (upd H l (.lst ys)) { s with heap:=s.heap.update l (Obj.mapSeq f),toks:=t' }:=by
 have q:=PySem.IsL.update e f
 rw [hf] at q
 refine I.write (x:=l) (e:=l) (by rw [hH]; exact trivial) (.inl rfl) (fun b' u hb hu=>(Heap.get?_update_other s.heap (Obj.mapSeq f) (Ne.symm hb)).trans hu) ⟨_,q⟩ ?_
 exact ⟨hz,its',_,hv,q⟩
theorem Inv.lnew {its : List Value} {t' : Nat} (I : Inv X pins σ H s) (hv : Vals ys its) (hz : ys.length≤sizeLine) :
  Inv X pins σ (upd H s.heap.objs.size (.lst ys)) { s with heap:=s.heap.push { cls:=.type "list",data:=.seq its.toArray },toks:=t' } :=
 I.laid (fun _ _ q=>Heap.get?_push_of_some _ q) (Nat.le_refl _) ⟨hz,its,0,hv,Heap.get?_push_size _ rfl⟩
theorem Inv.fresh (I : Inv X pins σ H s) : H s.heap.objs.size = none:=I.hok.fresh (Nat.le_refl _)
theorem Inv.lstM (I : Inv X pins σ H s) (hH : H l = some (.lst xs)) : xs.length≤sizeLine∧∃ (its : List Value) (n : Nat),Vals xs its∧xs.length = its.length∧s.heap.get? l = some { cls:=.type "list",data:=.seq its.toArray n }:=by
 obtain ⟨z,its,n,r,e⟩:=I.hok l _ hH
 exact ⟨z,its,n,r,r.length,e⟩
theorem notLongL {n : Nat} (h : n≤sizeLine) : Builtin.List.listTooLong n = false:=by
 unfold Builtin.List.listTooLong
 exact decide_eq_false (by omega)
end
section
variable {X : Cx}
noncomputable def rAppend : V→List V→Hp→VK→Prop:=fun x vs H Q=>∃ l xs y,x = .ref l∧vs = [y]∧H l = some (.lst xs)∧xs.length < sizeLine∧Q .non (upd H l (.lst (xs ++ [y])))
theorem mt_append : MtM X "list.append" rAppend:=by
 intro pins s σ H x vs v us Q I rx rv h
 obtain ⟨l,xs,y,rfl,rfl,hH,hz,q⟩:=h
 cases rx
 obtain ⟨u,rfl,ru⟩:=rv.one
 obtain ⟨z,its,n,r,hl,e⟩:=I.lstM hH
 refine call_meets F.slot_list_append ⟨_,e,rfl⟩ F.entry_list_append (F.args_list_append_2 _ _) (PySem.list_append l its.toArray n u (by rw [List.size_toArray]; omega)) ⟨e,?_⟩
 refine ⟨.non,_,I.lset (its':=its ++ [u]) hH e (by simp) (r.append (.cons ru .nil)) ?_,rfl,q⟩
 rw [List.length_append,List.length_singleton]
 omega
noncomputable def rPop : V→List V→Hp→VK→Prop:=fun x vs H Q=>∃ l xs y,x = .ref l∧vs = []∧H l = some (.lst xs)∧xs[xs.length - 1]? = some y∧Q y (upd H l (.lst xs.dropLast))
theorem mt_pop : MtM X "list.pop" rPop:=by
 intro pins s σ H x vs v us Q I rx rv h
 obtain ⟨l,xs,y,rfl,rfl,hH,hy,q⟩:=h
 cases rx
 have hus:=rv.zero
 subst hus
 obtain ⟨z,its,n,r,hl,e⟩:=I.lstM hH
 obtain ⟨u,hu,ru⟩:=r.get hy
 have hy' : its.toArray[its.toArray.size - 1]? = some u:=by
  show its.toArray[its.length - 1]? = some u
  rw [← Array.getElem?_toList,← hl]
  exact hu
 refine call_meets F.slot_list_pop ⟨_,e,rfl⟩ F.entry_list_pop (F.args_list_pop_1 _) (MeetsSeq.list_pop_last l its.toArray n u hy' (by rw [List.size_toArray]; omega)) ⟨e,?_⟩
 refine ⟨y,_,I.lset (its':=its.dropLast) hH e ?_ r.dropLast ?_,ru,q⟩
 ·show its.toArray.eraseIdxIfInBounds (its.toArray.size - 1) = its.dropLast.toArray
  rw [List.size_toArray,List.eraseIdxIfInBounds_toArray,erase_last]
 ·rw [List.length_dropLast]
  omega
noncomputable def rClear : V→List V→Hp→VK→Prop:=fun x vs H Q=>∃ l xs,x = .ref l∧vs = []∧H l = some (.lst xs)∧Q .non (upd H l (.lst []))
theorem mt_clear : MtM X "list.clear" rClear:=by
 intro pins s σ H x vs v us Q I rx rv h
 obtain ⟨l,xs,rfl,rfl,hH,q⟩:=h
 cases rx
 have hus:=rv.zero
 subst hus
 obtain ⟨z,its,n,r,hl,e⟩:=I.lstM hH
 refine call_meets F.slot_list_clear ⟨_,e,rfl⟩ F.entry_list_clear (F.args_list_clear_1 _) (AutoSeq1.list_clear_list_0 l its.toArray n (by rw [List.size_toArray]; omega)) ⟨e,?_⟩
 exact ⟨.non,_,I.lset (its':=[]) (ys:=[]) hH e rfl .nil (Nat.zero_le _),rfl,q⟩
noncomputable def rRep : R2:=fun x y H Q=>∃ l k xs,x = .ref l∧y = .int k∧H l = some (.lst xs)∧-(2 ^ 63)≤k∧k < 2 ^ 63∧xs.length * k.toNat≤sizeLine ∧
 ∀ p,H p = none→Q (.ref p) (upd H p (.lst (List.replicate k.toNat xs).flatten))
theorem len_rep {α : Type} (xs : List α) (k : Nat) : (List.replicate k xs).flatten.length = k * xs.length:=by
 induction k with
 | zero=>simp
 | succ k ih=>rw [List.replicate_succ,List.flatten_cons,List.length_append,ih,Nat.succ_mul,Nat.add_comm]
theorem op_rep : OpR X (binaryOp .Mult) rRep:=by
 intro pins s σ H x y v u Q I rx ry h
 obtain ⟨l,k,xs,rfl,rfl,hH,h1,h2,hz,q⟩:=h
 cases rx
 obtain ⟨t,rfl⟩:=ry
 obtain ⟨z,its,n,r,hl,e⟩:=I.lstM hH
 have hlen : its.toArray.size * k.toNat≤sizeLine:=by rw [List.size_toArray,← hl]; exact hz
 have hcap : ¬ its.toArray.size * k.toNat > (2 ^ 63 - 1) / 8:=by
  have : (sizeLine : Nat)≤(2 ^ 63 - 1) / 8:=by decide
  omega
 have hfit : ¬ (!Builtin.List.listFitsIndex k) = true:=by
  rw [fitsIndex_both h1 h2]
  exact Bool.false_ne_true
 have hlong : ¬ Builtin.List.listTooLong (its.toArray.size * k.toNat) = true:=by
  rw [notLongL hlen]
  exact Bool.false_ne_true
 have hnew : List.foldl (fun x1 x2=>x1 ++ x2) #[] (List.replicate (if its.toArray.isEmpty = true then 0 else k.toNat) its.toArray) = (List.replicate k.toNat its).flatten.toArray:=by
  have f0 : ∀ m : Nat,List.foldl (fun x1 x2=>x1 ++ x2) #[] (List.replicate m its.toArray) = (List.replicate m its).flatten.toArray:=fun m=>by
   have:=foldl_rep its m []
   rw [List.nil_append] at this
   exact this
  rw [f0]
  cases its with
  | nil=>simp
  | cons a r'=>rw [if_neg (by simp)]
 refine wpAny_binaryOp_repeat_ref (T:="list") (U:="int") (by decide) ⟨_,e,rfl⟩ (fun s'=>typeIs_int s' k t) noFill_list_mul F.fills_int_mul F.slot_int_rmul repeat_list F.slot_int_index.lookup
  (call_meets F.slot_int_rmul (typeIs_int s k t) F.entry_int_rmul (F.args_int_rmul_2 _ _) (int___rmul___int_list k t l its.toArray n)
   ⟨e,rfl,⟨_,e,rfl⟩,call_meets F.slot_list_mul ⟨_,e,rfl⟩ F.entry_list_mul (F.args_list_mul_2 _ _) (AutoListH.list___mul___list_int_3 l its.toArray n k t hfit hcap hlong) ⟨e,?_⟩⟩)
 rw [hnew]
 exact ⟨.ref _,_,I.lnew (t':=s.toks) (r.rep k.toNat) (by rw [len_rep,Nat.mul_comm]; exact hz),rfl,q _ I.fresh⟩
end
section
variable {prog : Program} {w : World} {A : Around} {E : Value→Shared→Prop} {s : Shared}
end
section
variable {X : Cx}
end
end L2
namespace Att
open PySem PySem.W PySem.Calls PyProof.Rows
theorem ints_of_wellAll {P : Params} {h : Heap} : ∀ (ns : List Int) (vs : List Value),WellAll P h vs (ns.map WData.int)→IntsAre vs ns:=by
 intro ns
 induction ns with
 | nil =>
  intro vs w
  rw [List.map_nil] at w
  cases w
  exact .nil
 | cons n ns ih =>
  intro vs w
  rw [List.map_cons] at w
  cases w with
  | cons a b =>
   cases a
   exact .cons _ _ (ih _ b)
theorem script_of {l : OpenLaw} {n : Nat} (hn : l.most = some n) {P : Params} {h : Heap} {args : List WData} {vals : List Value}
  (hpre : l.row.toRowW.claim.pre args = true) (hwl : WellAll P h vals args) :
  ∃ a vs ns,vals = [Value.ref a]∧args = [WData.list (ns.map WData.int)]∧h.get? a = some { cls:=.type "list",data:=.seq vs.toArray }∧IntsAre vs ns∧ns.length≤n:=by
 have hsh : WShape.hasAll [] args [.list .int] = true:=(pre_splitW hpre).1
 have hc : l.pre.holds [] { args:=args } = true:=(pre_splitW hpre).2
 obtain ⟨d,r,rfl,h1,h2⟩:=hasAllW_cons hsh
 obtain rfl:=hasAllW_nil h2
 obtain ⟨xs,rfl,h3⟩:=hasW_list h1
 obtain ⟨ns,rfl⟩:=items_int h3
 have hlen : ns.length≤n:=by
  unfold OpenLaw.pre at hc
  have h4 : (WTm.not (.lt (.lit (.int (n : Int))) (.len (.arg 0)))).holds [] { args:=[.list (ns.map .int)] } = true:=by
   have h4:=(holds_andW hc).1
   rw [hn] at h4
   exact h4
  have h5:=condW_of h4 (w_not (w_lt w_lit (w_len_list (w_arg rfl))))
  rw [List.length_map] at h5
  refine Nat.le_of_not_lt fun q=>?_
  have q' : (n : Int) < ((ns.length : Nat) : Int):=by omega
  first
   | (rw [decide_eq_true q'] at h5; exact absurd h5 (by decide))
   | (simp at h5; omega)
 cases hwl with
 | cons w1 w2 =>
  cases w2
  cases w1 with
  | list ho hall=>exact ⟨_,_,ns,rfl,rfl,ho,ints_of_wellAll ns _ hall,hlen⟩
theorem post_true (l : OpenLaw) (args : List WData) : l.row.toRowW.claim.post args (.bool true) args = true :=
 postW_of (r:=l.row.toRowW) (X:=(true == true))
  (show WShape.has [] (.bool true) .bool = true by first | rfl | decide | simp [WShape.has,WShape.arms,WShape.armsAll])
  (show (WTm.eq .res (.lit (.bool true))).value [] { args:=args,res:=some (.bool true),after:=args } = some (.bool (true == true)) from w_eq_bool (w_res rfl) w_lit) rfl
theorem attach_call {l : OpenLaw} {n : Nat} {q : Program} {loose : List Str} {XP : (Str→Option Value)→Heap→Prop} {YP : World→Heap→Prop} {d : DefRec}
  (hn : l.most = some n) (hdf : d.params.defaults = [])
  (call : ∀ (w : World) (s₀ s₁ : Shared) (mg mb : Str→Option Value) (fa : Addr) (o : Obj) (pm cd doc : Value) (a : Addr) (vs : List Value) (ns : List Int),
   Ground q loose [] XP w s₀ mg mb s₁.heap→YP w s₁.heap →
   s₁.heap.get? fa = some o→o.data = .func (docDef d.name d.params d.body d.scope pm cd doc)→s₁.heap.CodeRec cd d.name→mg d.name = some (.ref fa) →
   s₁.heap.get? a = some { cls:=.type "list",data:=.seq vs.toArray }→IntsAre vs ns→ns.length≤n→s₁.gens = #[] →
   codeAny (model l.prog w) callerA (.call (.ref fa) ⟨[.ref a],[]⟩) (fun r s'=>r = .ok (.ret (.bool true))∧OldK s₁.heap s'.heap∧s'.os = s₁.os∧AllBare s'.gens) s₁) :
  WalkO q loose XP YP l.row.toRowW d [] (fun f vs=>PySem.call f vs):=by
 intro w s₀ s₁ mg mb G Y fa o pm cd doc dV kV ho hd hcd hD hmg hg args vals as hpre hlay hrd hwl hlo
 obtain rfl : dV = .none:=Dflts.none hD hdf
 obtain rfl : kV = .none:=Dflts.noKw hD
 obtain ⟨a,vs,ns,rfl,rfl,hobj,hints,hlen⟩:=script_of hn hpre hwl
 refine enter_call (codeAny_mono (call w s₀ s₁ mg mb fa o pm cd doc a vs ns G Y ho (fd_plain hd) hcd hmg hobj hints hlen hg) fun r s' hq=>?_)
 obtain ⟨rfl,h2,h3,h4⟩:=hq
 exact ⟨.inl ⟨.bool true,.bool true,[],rfl,fun _=>rfl,.bool true,post_true l _,fun _=>⟨List.Pairwise.nil,fun _ hm=>(nomatch hm)⟩⟩,h2,h3,h4⟩
section
variable {prog : Program} {w : World} {A : Around} {E : Value→Shared→Prop} {s : Shared} {K : Frag}
end
end Att
namespace L2
open PySem PySem.Spec PyProof.Rows
theorem vals_ints : ∀ {vs : List Value} {ns : List Int},IntsAre vs ns→Vals (ns.map V.int) vs
 | _,_,.nil=>.nil
 | _,_,.cons n t h=>.cons ⟨t,rfl⟩ (vals_ints h)
noncomputable def Only (H : Hp) : Prop:=∀ b,H b = none∨∃ o xs,H b = some (.frz o (.lst xs))
theorem law_call {P : Program} {w : World} {K : PySem.W.Frag} {mg mb : Str→Option Value} {CX : CXT} {k : Nat} {fa a : Addr} {fd : FuncData} {x : Str} {sp : Sp} {s₁ : Shared} {vs : List Value} {ns : List Int}
  (KX : K.In s₁.heap) (hns : s₁.heap.Ns mainGlobals mg) (hb : s₁.heap.Ns builtinsNs mb) (hbb : ∀ x : Str,x ≠ "__name__"→mb x = bootBuiltins x) (hlim : s₁.heap.NoLimit) (hg : s₁.gens = #[])
  (ha : s₁.heap.get? a = some { cls:=.type "list",data:=.seq vs.toArray }) (hi : IntsAre vs ns) (hl : ns.length≤sizeLine) (hr : Room k callerA)
  (F : ∀ base : Heap,K.In base→base.Ns mainGlobals mg→FnOk P w K mg base CX k fa fd [x] sp) (hbind : ∀ (s : Shared) (u : Value),BindsTo s fd ⟨[u],[]⟩ [(x,u)])
  (hsp : ∀ H : Hp,Only H→SqL K H a (ns.map V.int)→sp [.ref a] H (fun v _=>v = .bl true) fun _ _ _=>False)
  (hCX : ∀ H e s',CX [] H s₁ (fun _ _ _=>False) e s'→False) :
  codeAny (model P w) callerA (.call (.ref fa) ⟨[.ref a],[]⟩) (fun r s'=>r = .ok (.ret (.bool true))∧OldK s₁.heap s'.heap∧s'.os = s₁.os∧AllBare s'.gens) s₁:=by
 have rv:=vals_ints hi
 have lenV:=hi.length
 have core : ∀ H : Hp,Only H→SqL K H a (ns.map V.int)→HOk P w H s₁.heap→(∀ b,H b ≠ none→b = a)→(H a ≠ none→K.lookup a = none) →
   codeAny (model P w) callerA (.call (.ref fa) ⟨[.ref a],[]⟩) (fun r s'=>r = .ok (.ret (.bool true))∧OldK s₁.heap s'.heap∧s'.os = s₁.os∧AllBare s'.gens) s₁:=by
  intro H hO hS hok hA hK
  have base_of : ∀ {b : Addr} {o : Obj},s₁.heap.get? b = some o→H b = none→(hidT s₁.heap H).get? b = some o:=fun e n=>hidT_get e n
  have noA : ∀ {b : Addr} {o : Obj} {es : Array DictEntry} {ep : Nat},s₁.heap.get? b = some o→o.data = .dict es ep→H b = none:=fun {b o es ep} e d=>by
   cases q : H b with
   | none=>rfl
   | some u =>
    have e' : b = a:=hA b (by rw [q]; simp)
    subst e'
    rw [ha] at e; cases e
    have d' : Data.seq vs.toArray _ = Data.dict es ep:=d
    cases d'
  have nsK : ∀ {b : Addr} {m : Str→Option Value},s₁.heap.Ns b m→(hidT s₁.heap H).Ns b m:=fun {b m} ⟨o,es,ep,e,d,r⟩=>⟨o,es,ep,base_of e (noA e d),d,r⟩
  have hKb : K.In (hidT s₁.heap H):=fun b o e=>base_of (KX b o e) (by
   cases q : H b with
   | none=>rfl
   | some u =>
    have e' : b = a:=hA b (by rw [q]; simp)
    subst e'
    rw [hK (by rw [q]; simp)] at e; cases e)
  have hM : Mod K mg (hidT s₁.heap H):=⟨hKb,nsK hns,⟨mb,nsK hb,hbb⟩,let ⟨mc,h1,h2⟩:=hlim; ⟨mc,nsK h1,h2⟩⟩
  have e0 : Env0 P w K mg (hidT s₁.heap H) callerA [] s₁ H:=⟨rfl,hM,fun b o e=>of_hidT e,Nat.le_of_eq (hidT_size _ _),trivial,fun b hb=>absurd (show b∈([] : List Addr) from hb) (by simp),hok,.of_eq hg⟩
  refine codeAny_mono ((F _ hKb (nsK hns)).run callerA [] s₁ H ⟨[.ref a],[]⟩ [.ref a] [.ref a] _ _ hr e0 (hbind s₁ (.ref a)) (.cons rfl .nil) (hsp H hO hS)) fun r s' h=>?_
  cases r with
  | error e=>exact (hCX H e s' h).elim
  | ok fl =>
   cases fl with
   | next=>exact False.elim h
   | brk=>exact False.elim h
   | cont=>exact False.elim h
   | ret u =>
    obtain ⟨v,H',os,bare,un,hok',r',q⟩:=h
    have q' : v = .bl true:=q
    subst q'
    obtain rfl : u = Value.bool true:=r'
    refine ⟨rfl,OldK.of_keep fun b o e=>?_,os,bare⟩
    cases q : H b with
    | none=>exact un.keep b o e q (by intro z; exact absurd (show b∈([] : List Addr) from z) (by simp)) (by simp)
    | some u =>
     rcases hO b with z | ⟨ob,xs,z⟩
     ·rw [q] at z; cases z
     ·have z2:=un.frzs b ob _ z
      obtain ⟨e1,_⟩:=hok b _ z
      obtain ⟨e2,_⟩:=hok' b _ z2
      rw [e] at e1; cases e1
      exact e2
 cases hk : K.lookup a with
 | some o =>
  have e:=KX a o hk
  rw [ha] at e
  cases e
  refine core (fun _=>none) (fun _=>.inl rfl) (.inr ⟨_,vs.toArray,_,hk,rfl,rfl,rfl,by rw [List.size_toArray,lenV]; exact hl,by simpa using rv⟩) (fun b u z=>by have z' : (none : Option HO) = some u:=z; cases z') (fun b z=>absurd rfl z) fun z=>absurd rfl z
 | none =>
  refine core (fun b=>if b = a then some (.frz { cls:=.type "list",data:=.seq vs.toArray } (.lst (ns.map V.int))) else none) (fun b=>?_) (.inl (.inr ⟨{ cls:=.type "list",data:=.seq vs.toArray },if_pos rfl⟩)) (fun b u z=>?_) (fun b z=>?_) fun _=>hk
  ·by_cases hb : b = a
   ·exact .inr ⟨_,_,if_pos hb⟩
   ·exact .inl (if_neg hb)
  ·by_cases hb : b = a
   ·have z':=(if_pos hb).symm.trans z
    cases z'
    subst hb
    exact ⟨ha,by rw [List.length_map]; exact hl,vs,_,rv,ha⟩
   ·have z':=(if_neg hb).symm.trans z
    cases z'
  ·by_cases hb : b = a
   ·exact hb
   ·exact absurd (if_neg hb) z
end L2
namespace L2
open PySem PySem.Spec PyProof.Rows
theorem walk_of {l : PySem.W.OpenLaw} {n k : Nat} {q : Program} {loose : List Str} {XP : (Str→Option Value)→Heap→Prop} {YP : World→Heap→Prop} {d : DefRec} {K : Params→PySem.W.Frag} {CX : World→CXT} {sp : World→Sp} {x : Str}
  (hn : l.most = some n) (hn2 : n≤sizeLine) (hdf : d.params.defaults = []) (hr : Room k callerA)
  (hY : ∀ (w : World) (h : Heap),YP w h→(K w.params).In h)
  (F : ∀ (w : World) (mg : Str→Option Value) (fa : Addr) (h : Heap),(K w.params).In h→h.Ns mainGlobals mg→mg d.name = some (.ref fa) →
   ∃ fd : FuncData,(∀ (s : Shared) (u : Value),BindsTo s fd ⟨[u],[]⟩ [(x,u)]) ∧
    ∀ base : Heap,(K w.params).In base→base.Ns mainGlobals mg→FnOk l.prog w (K w.params) mg base (CX w) k fa fd [x] (sp w))
  (hsp : ∀ (w : World) (H : Hp) (a : Addr) (ns : List Int),ns.length≤n→Only H→SqL (K w.params) H a (ns.map V.int)→sp w [.ref a] H (fun v _=>v = .bl true) fun _ _ _=>False)
  (hCX : ∀ (w : World) (H : Hp) (s : Shared) (e : Value) (s' : Shared),CX w [] H s (fun _ _ _=>False) e s'→False) :
  PySem.W.WalkO q loose XP YP l.row.toRowW d [] (fun f vs=>PySem.call f vs):=by
 refine Att.attach_call hn hdf fun w s₀ s₁ mg mb fa o pm cd doc a vs ns G Y ho hd hcd hmg hobj hints hlen hg=>?_
 have KX:=hY w _ Y
 obtain ⟨fd,hb,hF⟩:=F w mg fa _ KX G.T.g hmg
 exact law_call KX G.T.g G.T.b G.T.builtins G.T.nolimit hg hobj hints (Nat.le_trans hlen hn2) hr hF hb (fun H hO hS=>hsp w H a ns hlen hO hS) fun H e s'=>hCX w H s₁ e s'
end L2
namespace L2
open PySem PySem.Spec PyProof.Rows
noncomputable def defArgs (s : Stmt) : Arguments:=match s with
 | .FunctionDef _ a _ _ _ _ _ _ _ _=>a
 | _=>{ posonlyargs:=[],args:=[],vararg:=none,kwonlyargs:=[],kw_defaults:=[],kwarg:=none,defaults:=[] }
noncomputable def defBody (s : Stmt) : List Stmt:=match s with
 | .FunctionDef _ _ b _ _ _ _ _ _ _=>b
 | _=>[]
noncomputable def defScope (s : Stmt) : Scope:=match s with
 | .FunctionDef _ _ _ _ _ _ sc _ _ _=>sc
 | _=>{ kind:=.function,names:=[],isGenerator:=false,isCoroutine:=false }
noncomputable abbrev CX0 : CXT:=fun _ _ _ _ _ _=>False
noncomputable abbrev E0 : XK:=fun _ _ _=>False
theorem pass0 {X : Cx} : Passes CX0 X E0:=fun _ _ _ _ _ _ _ h=>h.elim
structure Fun (K : PySem.W.Frag) (x qual : Str) (st : Stmt) (f : Addr) (fd : FuncData) : Prop where
 ex : ∃ (oc : Value) (od : Option Addr) (kV doc pm : Value) (an : Option Addr) (cdv ct : Value) (osl : Array (Option Value)),
  fd = PySem.W.fnOf x qual (defArgs st) (defBody st) (defScope st) .none kV doc pm an cdv ct∧K.lookup f = some ⟨oc,od,.func fd,osl⟩∧PySem.W.codeIn K cdv qual = true
 kp : PySem.W.keepIn K (.ref f) = true
section
variable {P : Program} {w : World} {K : PySem.W.Frag} {mg : Str→Option Value} {base : Heap}
theorem Fun.ok {x qual : Str} {st : Stmt} {f : Addr} {fd : FuncData} {N ps : List Str} {k : Nat} {sp : Sp} (F : Fun K x qual st f fd) (S : FnScope N ps (defScope st)) (len : ∀ vs H Q E,sp vs H Q E→vs.length = ps.length)
  (hbody : ∀ (cdv : Value) (A : Around) (outer : List Env) (s : Shared) (H : Hp) (vs : List V) (Q : VK) (E : XK),Room k (A.deeper (envOfC qual (defScope st) s.heap.objs.size f cdv))→sp vs H Q E →
   ∃ t,PSs (cxOf CX0 P w K mg base N qual (defScope st) f cdv A outer s H E).nox (defBody st) t∧t { nx:=fun _ H'=>Q .non H',rt:=Q } (start N vs) H) : FnOk P w K mg base CX0 (k + 1) f fd ps sp:=by
 obtain ⟨oc,od,kV,doc,pm,an,cdv,ct,osl,rfl,lk,hcd⟩:=F.ex
 refine fn_of lk hcd S len fun A outer s H vs Q E hr hsp=>?_
 obtain ⟨t,h,q⟩:=hbody cdv A outer s H vs Q E hr hsp
 exact ⟨t,h.nox,q⟩
theorem Fun.binds {x qual : Str} {st : Stmt} {f : Addr} {fd : FuncData} {ps : List Str} (F : Fun K x qual st f fd)
  (h : ∀ (kV doc pm : Value) (an : Option Addr) (cdv ct : Value) (us : List Value),us.length = ps.length→bindArgs (PySem.W.fnOf x qual (defArgs st) (defBody st) (defScope st) .none kV doc pm an cdv ct) ⟨us,[]⟩ = pure (ps.zip us)) : Binds K fd ps []:=by
 obtain ⟨oc,od,kV,doc,pm,an,cdv,ct,osl,rfl,lk,hcd⟩:=F.ex
 exact .all (h kV doc pm an cdv ct)
theorem fun_mk {x qual : Str} {st : Stmt} {f : Addr} {oc : Value} {od an : Option Addr} {osl : Array (Option Value)} {kV doc pm cdv ct : Value} (l : K.lookup f = some ⟨oc,od,.func (PySem.W.fnOf x qual (defArgs st) (defBody st) (defScope st) .none kV doc pm an cdv ct),osl⟩)
  (c : PySem.W.codeIn K cdv qual = true) (k : PySem.W.keepIn K (.ref f) = true) : Fun K x qual st f (PySem.W.fnOf x qual (defArgs st) (defBody st) (defScope st) .none kV doc pm an cdv ct):=⟨⟨oc,od,kV,doc,pm,an,cdv,ct,osl,rfl,l,c⟩,k⟩
end
theorem small1000 {n : Nat} (h : n≤1000) : n < sizeLine:=Nat.lt_of_le_of_lt h (by decide)
section
variable {X : Cx}
end
noncomputable def Same (H H' : Hp) : Prop:=∀ b o,H b = some o→H' b = some o
theorem Same.refl (H : Hp) : Same H H:=fun _ _ h=>h
theorem Same.trans {H H1 H2 : Hp} (a : Same H H1) (b : Same H1 H2) : Same H H2:=fun c o h=>b c o (a c o h)
theorem Same.free {H H' : Hp} (e : Same H H') {l : Addr} (h : H' l = Option.none) : H l = Option.none:=by
 cases q : H l with
 | none=>rfl
 | some o =>
  rw [e l o q] at h
  cases h
theorem Same.seq {K : PySem.W.Frag} {H H' : Hp} {a : Addr} {xs : List V} (e : Same H H') (h : SqL K H a xs) : SqL K H' a xs:=by
 rcases h with (h | ⟨o,h⟩) | h
 ·exact .inl (.inl (e _ _ h))
 ·exact .inl (.inr ⟨o,e _ _ h⟩)
 ·exact .inr h
end L2
namespace L2
open PySem PySem.Spec PyProof.Rows
theorem PE.imp {X : Cx} {e : Expr} {t t' : TE} (h : PE X e t) (ht : ∀ σ H Q,t' σ H Q→t σ H Q) : PE X e t':=fun pins s σ H Q I q=>h pins s σ H Q I (ht σ H Q q)
section
variable {X : Cx} {pins : List (Addr × Obj)} {σ : List (Option V)} {H : Hp} {s : Shared} {h' : Heap}
theorem Inv.turns {fp : List Addr} {t' : Nat} (I : Inv X pins σ H s) (k : ∀ b o,b ∉ fp→s.heap.get? b = some o→h'.get? b = some o) (hf : ∀ b∈fp,FpOk X pins H b) : Inv X pins σ H { s with heap:=h',toks:=t' }:=by
 have nit : ∀ b u,H b = some u→b ∉ fp:=fun b u e z=>by rw [(hf b z).1] at e; cases e
 refine I.step (g':=s.gens) (d':=s.drawn) (ch:=fp) (fun b hb=>⟨(hf b hb).2.2.2.1,(hf b hb).2.1,(hf b hb).2.2.2.2.1,(hf b hb).2.2.2.2.2⟩) (fun b o _ _ hc e _=>k b o hc e) (fun b o _ _ hc e _=>⟨o.slots,k b o hc e⟩) (fun _ _ _ _ n=>n)
  (fun b o hc e=>⟨o,k b o hc e⟩) (fun _ _ e=>e) (fun _ _ _ e=>e) (fun b ps e=>⟨#[],by rw [e]; simp⟩) (fun m hm=>?_) (fun b u e=>?_) I.bare
 ·obtain ⟨o,es,ep,ho,r⟩:=hm
  exact ⟨o,es,ep,k _ o (fun z=>(hf _ z).2.1 rfl) ho,r⟩
 ·refine (I.hok b u e).stay (fun c v hc q=>k c v ?_ q) (fun _ q=>q) fun _ _ q=>q
  rcases hc with z | z
  ·rw [z]; exact nit b u e
  ·exact nit c _ z
theorem Inv.turnLay {fp : List Addr} {T : Addr} {o : HO} {t' : Nat} (I : Inv X pins σ H s) (k : ∀ b o,b ∉ fp→s.heap.get? b = some o→h'.get? b = some o) (hf : ∀ b∈fp,FpOk X pins H b) (hT : s.heap.objs.size≤T)
  (new : ObjOk X.prog X.w (upd H T o) h' T o) : Inv X pins σ (upd H T o) { s with heap:=h',toks:=t' }:=by
 have hn : H T = none:=I.hok.fresh hT
 have nit : ∀ b u,H b = some u→b ∉ fp:=fun b u e z=>by rw [(hf b z).1] at e; cases e
 have neT : ∀ {b : Addr} {u : Obj},s.heap.get? b = some u→b ≠ T:=fun e=>Nat.ne_of_lt (Nat.lt_of_lt_of_le (Heap.lt_size e) hT)
 refine I.step (g':=s.gens) (d':=s.drawn) (ch:=fp) (fun b hb=>⟨(hf b hb).2.2.2.1,(hf b hb).2.1,(hf b hb).2.2.2.2.1,(hf b hb).2.2.2.2.2⟩) (fun b o _ _ hc e _=>k b o hc e) (fun b o _ _ hc e _=>⟨o.slots,k b o hc e⟩)
  (fun b o _ e n=>by rw [upd_ne (neT e)]; exact n)
  (fun b o hc e=>⟨o,k b o hc e⟩) (fun b xs e=>by rw [upd_ne (ne_of_none e hn)]; exact e) (fun b _ _ e=>by rw [upd_ne (ne_of_none e hn)]; exact e) (fun b ps e=>⟨#[],by rw [upd_ne (ne_of_none e hn),e]; simp⟩) (fun m hm=>?_) (fun b u e=>?_) I.bare
 ·obtain ⟨o,es,ep,ho,r⟩:=hm
  exact ⟨o,es,ep,k _ o (fun z=>(hf _ z).2.1 rfl) ho,r⟩
 ·by_cases hb : b = T
  ·subst hb; rw [upd_same] at e; cases e; exact new
  ·rw [upd_ne hb] at e
   refine (I.hok b u e).stay (fun c v hc q=>k c v ?_ q) (fun c q=>by rw [upd_ne (ne_of_none q hn)]; exact q) fun c xs q=>by rw [upd_ne (ne_of_none q hn)]; exact q
   rcases hc with z | z
   ·rw [z]; exact nit b u e
   ·exact nit c _ z
end
noncomputable def Ite (K : PySem.W.Frag) (a : Addr) : It :=
  ⟨fun i H => ∃ xs x, SqL K H a xs ∧ xs[i]? = some x,
   fun i H v H' => ∃ p x, H p = none ∧ v = .ref p ∧ (∀ xs, SqL K H a xs → xs[i]? = some x) ∧ H' = upd H p (.tup [.int (i : Int), x]),
   fun i H => ∃ xs, SqL K H a xs ∧ xs.length ≤ i⟩
theorem turn_enum {P : Program} {w : World} {K : PySem.W.Frag} {elts : List Expr} {k : Nat} {pos : Pos} (a e it : Addr) (hei : e ≠ it) :
  Turn P w K (.Tuple elts k pos) (Ite K a) [e,it] e (fun i h=>(∃ old,IsEnum h e it (i : Nat) old)∧h.IsListIter it a i) where
 mem:=by simp
 obj:=fun i h st b hb=>by
  obtain ⟨⟨old,he⟩,⟨o,e1,c,d⟩⟩:=st
  rcases List.mem_cons.mp hb with rfl | hb
  ·exact ⟨_,he,fun v z=>by have z' : Data.fields _ = Data.cell v:=z; cases z'⟩
  ·rw [List.mem_singleton.mp hb]
   exact ⟨o,e1,fun v z=>by rw [d] at z; cases z⟩
 keep:=fun i h h' st k=>by
  obtain ⟨⟨old,he⟩,st⟩:=st
  exact ⟨⟨old,k e (by simp) _ he⟩,st.at fun o e=>k it (by simp) o e⟩
 item:=by
  intro X hP hw hK hc i pins s σ H E I hf st hg
  subst hP hw hK
  obtain ⟨⟨old,he⟩,hit⟩:=st
  obtain ⟨xs,x,hq,hx⟩:=hg
  obtain ⟨its,rv,p,hz⟩:=I.list hq
  obtain ⟨u,hu,ru⟩:=rv.get hx
  refine wpAny_pyNext_enum_item he hit p.isList (x:=u) (by simpa using hu) hei fun h' ho hit' hT hsz hk=>?_
  refine ⟨_,rfl,wpAny_letOwnedTupleGo_enum ho fun h2 he2 hs2=>?_⟩
  have hlt : e < s.heap.objs.size:=Heap.lt_size he
  have hT2 : h2.get? s.heap.objs.size = some { cls:=.type "tuple",data:=.seq #[.int i s.toks,u] }:=(hs2.2 _ (Nat.ne_of_gt hlt)).trans hT
  refine ⟨.ref s.heap.objs.size,upd H s.heap.objs.size (.tup [.int (i : Int),x]),?_,rfl,⟨_,x,I.hok.fresh (Nat.le_refl _),rfl,fun ys hy=>by rw [I.list_inj hy hq]; exact hx,rfl⟩,⟨⟨u,by simpa using he2⟩,hit'.at fun o y=>(hs2.2 it hei.symm).trans y⟩,fun b hb=>?_⟩
  ·refine I.turnLay (fp:=[e,it]) (fun b o hb q=>?_) hf (Nat.le_refl _) ⟨by show 2≤sizeLine; decide,[.int i s.toks,u],.cons ⟨_,rfl⟩ (.cons ru .nil),⟨_,hT2,rfl,_,rfl⟩⟩
   have h1 : b ≠ e:=fun z=>hb (by simp [z])
   have h2' : b ≠ it:=fun z=>hb (by simp [z])
   exact (hs2.2 b h1).trans (hk b o h1 h2' q)
  ·have hne : b ≠ s.heap.objs.size:=by
    rcases List.mem_cons.mp hb with rfl | hb
    ·exact Nat.ne_of_lt hlt
    ·rw [List.mem_singleton.mp hb]
     obtain ⟨_,y,_⟩:=hit
     exact Nat.ne_of_lt (Heap.lt_size y)
   rw [upd_ne hne]; exact (hf b hb).1
 done:=by
  intro X hP hw hK hc i pins s σ H E I hf st hg
  subst hP hw hK
  obtain ⟨⟨old,he⟩,hit⟩:=st
  obtain ⟨xs,hq,hx⟩:=hg
  obtain ⟨its,rv,p,hz⟩:=I.list hq
  have hl:=rv.length
  refine wpAny_pyNext_enum_end (I.ok.hd hc) he hit p.isList (by simp; omega) fun h' eb=>⟨rfl,I.turns (t':=s.toks) (fp:=[e,it]) (fun b o hb q=>eb b o (fun z=>hb (by simp [z])) q) hf⟩
 self:=fun _ _ _ _ _ st h=>by
  obtain ⟨⟨old,he⟩,_⟩:=st
  exact wpAny_pyIter_enum he h
section
variable {X : Cx}
noncomputable def iEnum (K : PySem.W.Frag) (ta : TA) : TI:=fun σ H R=>ta σ H fun vs H1=>∃ a,vs = [.ref a]∧(∃ xs,SqL K H1 a xs)∧R (Ite K a) H1
theorem pi_enum {elts : List Expr} {k : Nat} {tpos : Pos} {l : Expr} {ta : TA} {p pos : Pos} (hg : Gl X "enumerate") (hm : X.mg "enumerate" = none) (ha : PA X [l] ta) (hs : starEach [l] X.env = [(false,eval l X.env)]:=by rfl) :
  PI X (.Tuple elts k tpos) (.Call (.Name "enumerate" p) [l] [] pos) (iEnum X.K ta):=by
 intro pins s σ H R I h
 refine Call_ (ld_blt I hg hm boot_enumerate (PyProof.Rows.callWith_type1 (thn (ha pos pins s σ H _ I h) fun us s1 ⟨vs,H1,I1,r1,q1⟩=>?_) hs rfl))
 obtain ⟨a,e,⟨xs,hq⟩,q⟩:=q1
 subst e
 cases r1 with
 | cons r rr =>
  cases rr
  cases r
  obtain ⟨its,rv,pl,hz⟩:=I1.list hq
  refine call_enumerate_list pl.isList fun h' hE hI hsz hk=>?_
  refine wpAny_pyIter_enum hE ?_
  have hne : s1.heap.objs.size + 1 ≠ s1.heap.objs.size:=Nat.succ_ne_self _
  refine ⟨_,[s1.heap.objs.size + 1,s1.heap.objs.size],_,_,H1,rfl,I1.kept (t':=s1.toks) hk,turn_enum a _ s1.heap.objs.size hne,⟨⟨.none,hE⟩,hI⟩,fun b hb=>?_,q⟩
  have hb' : s1.heap.objs.size≤b:=by
   rcases List.mem_cons.mp hb with rfl | hb
   ·exact Nat.le_succ _
   ·rw [List.mem_singleton.mp hb]; exact Nat.le_refl _
  exact I1.fpOk hb' (I1.hok.fresh hb')
end
noncomputable def Itz (K : PySem.W.Frag) (a b : Addr) : It :=
  ⟨fun i H => ∃ xs x ys y, SqL K H a xs ∧ xs[i]? = some x ∧ SqL K H b ys ∧ ys[i]? = some y,
   fun i H v H' => ∃ p x y, H p = none ∧ v = .ref p ∧ (∀ xs, SqL K H a xs → xs[i]? = some x) ∧ (∀ ys, SqL K H b ys → ys[i]? = some y) ∧ H' = upd H p (.tup [x, y]),
   fun i H => ∃ xs ys, SqL K H a xs ∧ SqL K H b ys ∧ (xs.length ≤ i ∨ ys.length ≤ i)⟩
structure ZipOff (z TI TO i1 i2 : Addr) : Prop where
 TIz : TI ≠ z
 TOz : TO ≠ z
 i1z : i1 ≠ z
 i2z : i2 ≠ z
 TITO : TI ≠ TO
 TIi1 : TI ≠ i1
 TIi2 : TI ≠ i2
 TOi1 : TO ≠ i1
 TOi2 : TO ≠ i2
 i12 : i1 ≠ i2
noncomputable def ZipSt (z TI TO i1 i2 a b : Addr) (i : Nat) (h : Heap) : Prop :=
 IsZip h z TI TO .none∧IsPair h TI (.ref i1) (.ref i2)∧(∃ c d,IsPair h TO c d)∧h.IsListIter i1 a i∧h.IsListIter i2 b i
theorem zip_apart {h : Heap} {z TI TO i1 i2 a b : Addr} {i : Nat} {xs ys : Array Value} (D : ZipOff z TI TO i1 i2) (st : ZipSt z TI TO i1 i2 a b i h) (ha : h.IsList a xs) (hb : h.IsList b ys) : ZipApart z TI TO i1 i2 a b:=by
 obtain ⟨hz,hTI,⟨c,d,hTO⟩,⟨o1,e1,c1,_⟩,⟨o2,e2,c2,_⟩⟩:=st
 obtain ⟨oa,ea,ca,_⟩:=ha
 obtain ⟨ob,eb,cb,_⟩:=hb
 have nz : ∀ {l : Addr} {o : Obj},h.get? l = some o→o.cls = .type "list"→l ≠ z:=fun e c q=>by
  subst q; rw [hz] at e; cases e; simp at c
 have nT : ∀ {l : Addr} {o : Obj},h.get? l = some o→o.cls = .type "list"→l ≠ TO:=fun e c q=>by
  subst q; rw [hTO] at e; cases e; simp at c
 have n1 : ∀ {l : Addr} {o : Obj},h.get? l = some o→o.cls = .type "list"→l ≠ i1:=fun e c q=>by
  subst q; rw [e1] at e; cases e; rw [c1] at c; simp at c
 have n2 : ∀ {l : Addr} {o : Obj},h.get? l = some o→o.cls = .type "list"→l ≠ i2:=fun e c q=>by
  subst q; rw [e2] at e; cases e; rw [c2] at c; simp at c
 exact ⟨D.TIz,D.TOz,D.i1z,D.i2z,D.TITO,D.TIi1,D.TIi2,D.TOi1,D.TOi2,D.i12,nz ea ca,nT ea ca,n1 ea ca,n2 ea ca,nz eb cb,nT eb cb,n1 eb cb,n2 eb cb⟩
theorem turn_zip {P : Program} {w : World} {K : PySem.W.Frag} {elts : List Expr} {k : Nat} {pos : Pos} (a b z TI TO i1 i2 : Addr) (D : ZipOff z TI TO i1 i2) :
  Turn P w K (.Tuple elts k pos) (Itz K a b) [z,TI,TO,i1,i2] z (ZipSt z TI TO i1 i2 a b) where
 mem:=by simp
 obj:=fun i h st c hc=>by
  obtain ⟨hz,hTI,⟨c1,d1,hTO⟩,⟨o1,e1,_,g1⟩,⟨o2,e2,_,g2⟩⟩:=st
  simp only [List.mem_cons,List.not_mem_nil,or_false] at hc
  rcases hc with rfl | rfl | rfl | rfl | rfl
  ·exact ⟨_,hz,fun v q=>by have q' : Data.fields _ = Data.cell v:=q; cases q'⟩
  ·exact ⟨_,hTI,fun v q=>by have q' : Data.seq _ _ = Data.cell v:=q; cases q'⟩
  ·exact ⟨_,hTO,fun v q=>by have q' : Data.seq _ _ = Data.cell v:=q; cases q'⟩
  ·exact ⟨o1,e1,fun v q=>by rw [g1] at q; cases q⟩
  ·exact ⟨o2,e2,fun v q=>by rw [g2] at q; cases q⟩
 keep:=fun i h h' st k=>by
  obtain ⟨hz,hTI,⟨c1,d1,hTO⟩,h1,h2⟩:=st
  exact ⟨k z (by simp) _ hz,k TI (by simp) _ hTI,⟨c1,d1,k TO (by simp) _ hTO⟩,h1.at fun o e=>k i1 (by simp) o e,h2.at fun o e=>k i2 (by simp) o e⟩
 item:=by
  intro X hP hw hK hc i pins s σ H E I hf st hg
  subst hP hw hK
  obtain ⟨xs,x,ys,y,hq,hx,hq2,hy⟩:=hg
  obtain ⟨its,rv,p,hz⟩:=I.list hq
  obtain ⟨u,hu,ru⟩:=rv.get hx
  obtain ⟨its2,rv2,p2,hz2⟩:=I.list hq2
  obtain ⟨u2,hu2,ru2⟩:=rv2.get hy
  have DA:=zip_apart D st p.isList p2.isList
  obtain ⟨sz,sTI,⟨c1,d1,sTO⟩,s1,s2⟩:=st
  refine wpAny_pyNext_zip_item DA sz sTI sTO s1 s2 p.isList p2.isList (x:=u) (y:=u2) (by simpa using hu) (by simpa using hu2) fun h' a1 a2 a3 a4 a5 a6 hk=>?_
  refine ⟨_,rfl,wpAny_letOwnedTupleGo_zip a1 fun h2 he2 hs2=>?_⟩
  have lt : ∀ {c : Addr} {o : Obj},s.heap.get? c = some o→c ≠ s.heap.objs.size:=fun e=>Nat.ne_of_lt (Heap.lt_size e)
  have hT2 : IsPair h2 s.heap.objs.size u u2:=(hs2.2 _ (lt sz).symm).trans a5
  have sTI':=hk _ _ DA.TIz DA.TITO DA.TIi1 DA.TIi2 sTI
  refine ⟨.ref s.heap.objs.size,upd H s.heap.objs.size (.tup [x,y]),?_,rfl,⟨_,x,y,I.hok.fresh (Nat.le_refl _),rfl,fun zs hz=>by rw [I.list_inj hz hq]; exact hx,fun zs hz=>by rw [I.list_inj hz hq2]; exact hy,rfl⟩,
   ⟨he2,(hs2.2 _ DA.TIz).trans sTI',⟨u,u2,(hs2.2 _ DA.TOz).trans a2⟩,a3.at fun o q=>(hs2.2 i1 DA.i1z).trans q,a4.at fun o q=>(hs2.2 i2 DA.i2z).trans q⟩,fun c hc=>?_⟩
  ·refine I.turnLay (fp:=[z,TI,TO,i1,i2]) (t':=s.toks) (fun c o hc q=>?_) hf (Nat.le_refl _) ⟨by show 2≤sizeLine; decide,[u,u2],.cons ru (.cons ru2 .nil),⟨_,hT2,rfl,_,rfl⟩⟩
   simp only [List.mem_cons,List.not_mem_nil,or_false,not_or] at hc
   obtain ⟨n1,n2,n3,n4,n5⟩:=hc
   exact (hs2.2 c n1).trans (hk c o n1 n3 n4 n5 q)
  ·have hne : c ≠ s.heap.objs.size:=by
    simp only [List.mem_cons,List.not_mem_nil,or_false] at hc
    obtain ⟨_,e1,_⟩:=s1
    obtain ⟨_,e2,_⟩:=s2
    rcases hc with rfl | rfl | rfl | rfl | rfl
    ·exact lt sz
    ·exact lt sTI
    ·exact lt sTO
    ·exact lt e1
    ·exact lt e2
   rw [upd_ne hne]; exact (hf c hc).1
 done:=by
  intro X hP hw hK hc i pins s σ H E I hf st hg
  subst hP hw hK
  obtain ⟨xs,ys,hq,hq2,hx⟩:=hg
  obtain ⟨its,rv,p,hz⟩:=I.list hq
  obtain ⟨its2,rv2,p2,hz2⟩:=I.list hq2
  have hl:=rv.length
  have hl2:=rv2.length
  have DA:=zip_apart D st p.isList p2.isList
  obtain ⟨sz,sTI,⟨c1,d1,sTO⟩,s1,s2⟩:=st
  refine wpAny_pyNext_zip_end (I.ok.hd hc) DA sz sTI sTO s1 s2 p.isList p2.isList (by rcases hx with q | q; exact .inl (by simp; omega); exact .inr (by simp; omega)) fun h' hk=>⟨rfl,I.turns (t':=s.toks) (fp:=[z,TI,TO,i1,i2]) (fun c o hc q=>?_) hf⟩
  simp only [List.mem_cons,List.not_mem_nil,or_false,not_or] at hc
  obtain ⟨n1,n2,n3,n4,n5⟩:=hc
  exact hk c o n1 n3 n4 n5 q
 self:=fun _ _ _ _ _ st h=>wpAny_pyIter_zip st.1 h
section
variable {X : Cx}
noncomputable def iZip (K : PySem.W.Frag) (ta : TA) : TI:=fun σ H R=>ta σ H fun vs H1=>∃ a b,vs = [.ref a,.ref b]∧(∃ xs,SqL K H1 a xs)∧(∃ ys,SqL K H1 b ys)∧R (Itz K a b) H1
theorem pi_zip {elts : List Expr} {k : Nat} {tpos : Pos} {l l2 : Expr} {ta : TA} {p pos : Pos} (hg : Gl X "zip") (hm : X.mg "zip" = none) (ha : PA X [l,l2] ta) (hs : starEach [l,l2] X.env = [(false,eval l X.env),(false,eval l2 X.env)]:=by rfl) (hs2 : starEach [l2] X.env = [(false,eval l2 X.env)]:=by rfl) :
  PI X (.Tuple elts k tpos) (.Call (.Name "zip" p) [l,l2] [] pos) (iZip X.K ta):=by
 intro pins s σ H R I h
 refine Call_ (ld_blt I hg hm boot_zip (PyProof.Rows.callWith_type1 (thn (ha pos pins s σ H _ I h) fun us s1 ⟨vs,H1,I1,r1,q1⟩=>?_) (by rw [hs,hs2]) (by rw [hs2]; rfl)))
 obtain ⟨a,b,e,⟨xs,hq⟩,⟨ys,hq2⟩,q⟩:=q1
 subst e
 cases r1 with
 | cons r rr =>
  cases rr with
  | cons r2 rr =>
   cases rr
   cases r
   cases r2
   obtain ⟨its,rv,pl,hz⟩:=I1.list hq
   obtain ⟨its2,rv2,pl2,hz2⟩:=I1.list hq2
   refine call_zip_2 pl.isList pl2.isList fun h' g1 g2 g3 g4 g5 hsz hk=>?_
   refine wpAny_pyIter_zip g1 ?_
   have D : ZipOff (s1.heap.objs.size + 4) (s1.heap.objs.size + 2) (s1.heap.objs.size + 3) s1.heap.objs.size (s1.heap.objs.size + 1):=by
    have e : ∀ n : Nat,(n : Addr) = n:=fun _=>rfl
    constructor <;> (intro z; have z':=congrArg (fun x : Nat=>x) z; simp at z')
   refine ⟨_,[s1.heap.objs.size + 4,s1.heap.objs.size + 2,s1.heap.objs.size + 3,s1.heap.objs.size,s1.heap.objs.size + 1],_,_,H1,rfl,I1.kept (t':=s1.toks) hk,turn_zip a b _ _ _ _ _ D,⟨g1,g2,⟨_,_,g3⟩,g4,g5⟩,fun c hc=>?_,q⟩
   have hb' : s1.heap.objs.size≤c:=by
    simp only [List.mem_cons,List.not_mem_nil,or_false] at hc
    rcases hc with rfl | rfl | rfl | rfl | rfl
    ·exact Nat.le_add_right _ _
    ·exact Nat.le_add_right _ _
    ·exact Nat.le_add_right _ _
    ·exact Nat.le_refl _
    ·exact Nat.le_add_right _ _
   exact I1.fpOk hb' (I1.hok.fresh hb')
end
end L2
namespace L2
open PySem PySem.Spec PyProof.Rows
theorem closure_of {env : Env} : ∀ (names : List (Str × NameKind)) (acc : List (Str × Addr)),(∀ y∈names,y.2 = .free→∃ c,env.cells.lookup y.1 = some c)→(∀ x c,acc.lookup x = some c→env.cells.lookup x = some c) →
  ∃ cl : List (Str × Addr),(forIn names acc fun (x : Str × NameKind) (r : List (Str × Addr))=>(match x with | (name,kind)=>if (kind == NameKind.free) = true then do let c ← cellOf env name; pure (ForInStep.yield ((name,c) :: r)) else pure (ForInStep.yield r) : Sem (ForInStep (List (Str × Addr)))) : Sem (List (Str × Addr))) = pure cl ∧
   (∀ x c,cl.lookup x = some c→env.cells.lookup x = some c)∧(∀ x,(x,NameKind.free)∈names→∃ c,cl.lookup x = some c)∧∀ x c,acc.lookup x = some c→∃ c',cl.lookup x = some c'
 | [],acc,_,ha=>⟨acc,rfl,ha,fun _ h=>(nomatch h),fun x c h=>⟨c,h⟩⟩
 | (n,k) :: r,acc,hf,ha=>by
  by_cases hk : k = .free
  ·subst hk
   obtain ⟨c,hc⟩:=hf (n,.free) List.mem_cons_self rfl
   have ha' : ∀ x c',((n,c) :: acc).lookup x = some c'→env.cells.lookup x = some c':=fun x c' h=>by
    rw [List.lookup_cons] at h
    cases hx : x == n with
    | true =>
     rw [hx] at h
     cases h
     rw [eq_of_beq hx]; exact hc
    | false =>
     rw [hx] at h
     exact ha x c' h
   obtain ⟨cl,e,h1,h2,h3⟩:=closure_of r ((n,c) :: acc) (fun y hy=>hf y (List.mem_cons_of_mem _ hy)) ha'
   refine ⟨cl,?_,h1,fun x hx=>?_,fun x c' hx=>?_⟩
   ·rw [List.forIn_cons]
    have ec : cellOf env n = pure c:=by unfold cellOf; rw [hc]
    simp only [beq_self_eq_true,if_true,ec]
    exact e
   ·rcases List.mem_cons.mp hx with z | z
    ·cases z
     exact h3 n c (by rw [List.lookup_cons,beq_self_eq_true])
    ·exact h2 x z
   ·by_cases hxn : (x == n) = true
    ·exact h3 x c (by rw [List.lookup_cons,hxn])
    ·exact h3 x c' (by rw [List.lookup_cons]; simp only [hxn]; exact hx)
  ·obtain ⟨cl,e,h1,h2,h3⟩:=closure_of r acc (fun y hy=>hf y (List.mem_cons_of_mem _ hy)) ha
   refine ⟨cl,?_,h1,fun x hx=>?_,h3⟩
   ·rw [List.forIn_cons]
    have eb : (k == NameKind.free) = false:=by simpa using hk
    simp only [eb,Bool.false_eq_true,if_false]
    exact e
   ·rcases List.mem_cons.mp hx with z | z
    ·cases z; exact absurd rfl hk
    ·exact h2 x z
theorem closureFor_of {scope : Scope} {env : Env} (hf : ∀ y∈scope.names,y.2 = .free→∃ c,env.cells.lookup y.1 = some c) :
  ∃ cl : List (Str × Addr),closureFor scope env = pure cl∧(∀ x c,cl.lookup x = some c→env.cells.lookup x = some c)∧∀ x,(x,NameKind.free)∈scope.names→∃ c,cl.lookup x = some c:=by
 obtain ⟨cl,e,h1,h2,_⟩:=closure_of (env:=env) scope.names [] hf (fun x c h=>by simp at h)
 refine ⟨cl,?_,h1,h2⟩
 unfold closureFor
 show (forIn scope.names ([] : List (Str × Addr)) _ >>= fun c=>pure c) = pure cl
 refine Eq.trans (congrArg (fun (q : Sem (List (Str × Addr)))=>q >>= fun c=>pure c) e) ?_
 rfl
theorem relabel_from {scope : Scope} {env : Env} {x : Str} {k : NameKind} : ∀ {names : List (Str × NameKind)},(names.map fun (n,k)=>if (k == NameKind.free && env.scope.kind == .function && env.kindOf n == some .cell) then (n,NameKind.cell) else (n,k)).lookup x = some k →
  ∃ k',(x,k')∈names∧(k = k'∨(k' = .free∧k = .cell))
 | [],h=>by simp at h
 | (n,j) :: r,h=>by
  have h' : List.lookup x ((if (j == NameKind.free && env.scope.kind == .function && env.kindOf n == some .cell) = true then (n,NameKind.cell) else (n,j)) :: (r.map fun (n,k)=>if (k == NameKind.free && env.scope.kind == .function && env.kindOf n == some .cell) then (n,NameKind.cell) else (n,k))) = some k:=h
  by_cases hc : (j == NameKind.free && env.scope.kind == .function && env.kindOf n == some .cell) = true
  ·rw [if_pos hc,List.lookup_cons] at h'
   cases hx : x == n with
   | true =>
    rw [hx] at h'
    cases h'
    have ej : j = .free:=by
     simp only [Bool.and_eq_true] at hc
     exact eq_of_beq hc.1.1
    rw [eq_of_beq hx]
    exact ⟨.free,by rw [ej]; exact List.mem_cons_self,.inr ⟨rfl,rfl⟩⟩
   | false =>
    rw [hx] at h'
    obtain ⟨k',hm,q⟩:=relabel_from (scope:=scope) (env:=env) (names:=r) h'
    exact ⟨k',List.mem_cons_of_mem _ hm,q⟩
  ·rw [if_neg hc,List.lookup_cons] at h'
   cases hx : x == n with
   | true =>
    rw [hx] at h'
    cases h'
    rw [eq_of_beq hx]
    exact ⟨_,List.mem_cons_self,.inl rfl⟩
   | false =>
    rw [hx] at h'
    obtain ⟨k',hm,q⟩:=relabel_from (scope:=scope) (env:=env) (names:=r) h'
    exact ⟨k',List.mem_cons_of_mem _ hm,q⟩
theorem relabel_free {env : Env} {x : Str} : ∀ {names : List (Str × NameKind)},names.lookup x = some .free →
  (names.map fun (n,k)=>if (k == NameKind.free && env.scope.kind == .function && env.kindOf n == some .cell) then (n,NameKind.cell) else (n,k)).lookup x = some .cell ∨
  (names.map fun (n,k)=>if (k == NameKind.free && env.scope.kind == .function && env.kindOf n == some .cell) then (n,NameKind.cell) else (n,k)).lookup x = some .free
 | [],h=>by simp at h
 | (n,j) :: r,h=>by
  have ih:=@relabel_free env x r
  show List.lookup x ((if (j == NameKind.free && env.scope.kind == .function && env.kindOf n == some .cell) = true then (n,NameKind.cell) else (n,j)) :: _) = _∨List.lookup x ((if (j == NameKind.free && env.scope.kind == .function && env.kindOf n == some .cell) = true then (n,NameKind.cell) else (n,j)) :: _) = _
  by_cases hc : (j == NameKind.free && env.scope.kind == .function && env.kindOf n == some .cell) = true
  ·rw [if_pos hc,List.lookup_cons]
   cases hx : x == n with
   | true=>exact .inl rfl
   | false =>
    rw [List.lookup_cons,hx] at h
    exact ih h
  ·rw [if_neg hc,List.lookup_cons]
   cases hx : x == n with
   | true =>
    rw [List.lookup_cons,hx] at h
    exact .inr h
   | false =>
    rw [List.lookup_cons,hx] at h
    exact ih h
noncomputable def capB (N : List Str) (sc scope : Scope) : List Str→List (Option Nat)→Bool
 | [],[]=>true
 | _ :: xs,none :: cs=>capB N sc scope xs cs
 | x :: xs,some j :: cs=>(match N[j]? with | some y=>y == x | none=>false) && (match sc.names.lookup x with | some .cell=>true | some .free=>true | _=>false) &&
   (match scope.names.lookup x with | some .free=>true | _=>false) && capB N sc scope xs cs
 | _,_=>false
theorem capB_len {N : List Str} {sc scope : Scope} : ∀ {xs : List Str} {cs : List (Option Nat)},capB N sc scope xs cs = true→cs.length = xs.length
 | [],[],_=>rfl
 | _ :: xs,none :: cs,h=>congrArg (· + 1) (capB_len (xs:=xs) (cs:=cs) h)
 | x :: xs,some j :: cs,h=>by
  simp only [capB,Bool.and_eq_true] at h
  exact congrArg (· + 1) (capB_len (xs:=xs) (cs:=cs) h.2)
 | [],_ :: _,h=>by simp [capB] at h
 | _ :: _,[],h=>by simp [capB] at h
theorem capB_at {N : List Str} {sc scope : Scope} : ∀ {xs : List Str} {cs : List (Option Nat)},capB N sc scope xs cs = true→∀ (i : Nat) (x : Str) (j : Nat),xs[i]? = some x→cs[i]? = some (some j) →
  N[j]? = some x∧(sc.names.lookup x = some .cell∨sc.names.lookup x = some .free)∧scope.names.lookup x = some .free
 | [],[],_,i,x,j,h,_=>by simp at h
 | _ :: xs,none :: cs,h,0,x,j,_,h2=>by simp at h2
 | _ :: xs,none :: cs,h,i + 1,x,j,h1,h2=>capB_at (xs:=xs) (cs:=cs) h i x j (by simpa using h1) (by simpa using h2)
 | y :: xs,some k :: cs,h,0,x,j,h1,h2=>by
  simp only [capB,Bool.and_eq_true] at h
  obtain ⟨⟨⟨a,b⟩,c⟩,_⟩:=h
  have e1 : y = x:=by simpa using h1
  have e2 : k = j:=by simpa using h2
  subst e1 e2
  refine ⟨?_,?_,?_⟩
  ·cases q : N[k]? with
   | none=>rw [q] at a; simp at a
   | some z=>rw [q] at a; rw [eq_of_beq a]
  ·cases q : sc.names.lookup y with
   | none=>rw [q] at b; simp at b
   | some z=>rw [q] at b; cases z <;> first | exact .inl rfl | exact .inr rfl | simp at b
  ·cases q : scope.names.lookup y with
   | none=>rw [q] at c; simp at c
   | some z=>rw [q] at c; cases z <;> first | rfl | simp at c
 | y :: xs,some k :: cs,h,i + 1,x,j,h1,h2=>by
  simp only [capB,Bool.and_eq_true] at h
  exact capB_at (xs:=xs) (cs:=cs) h.2 i x j (by simpa using h1) (by simpa using h2)
 | [],_ :: _,h,_,_,_,_,_=>by simp [capB] at h
 | _ :: _,[],h,_,_,_,_,_=>by simp [capB] at h
noncomputable def lcB (N : List Str) (sc scope : Scope) (N' : List Str) (cap : List (Option Nat)) : Bool :=
 capB N sc scope N' cap && (scope.kind == .function) && (scope.names.all fun y=>y.2 != .cell) &&
 (scope.names.all fun y=>y.2 != .local || scope.names.lookup y.1 == some .local) &&
 (scope.names.all fun y=>y.2 != .free || sc.names.lookup y.1 == some .cell || sc.names.lookup y.1 == some .free)
noncomputable def capSt (cap : List (Option Nat)) (σ : St) : St:=cap.map fun o=>match o with
 | none=>none
 | some j=>match σ[j]? with
  | some v=>v
  | none=>none
noncomputable def lcCx (X : Cx) (scope : Scope) (N' : List Str) (cl : List (Str × Addr)) (C : Addr) (s : Shared) (H : Hp) (ex : List Addr) : Cx :=
 { X with N:=N',s₀:=s,H₀:=H,env:=compEnvC scope cl C X.env,outer:=X.stack,ex:=ex,fn:=fun _=>false,pn:=[],xe:=fun _ _=>False }
section
variable {X : Cx} {pins : List (Addr × Obj)} {σ : St} {H : Hp} {s : Shared}
theorem lc_inv {scope : Scope} {N' : List Str} {cap : List (Option Nat)} {cl : List (Str × Addr)} {ex : List Addr} {h₁ : Heap} {m : Str→Option Value} (hB : lcB X.N X.env.scope scope N' cap = true) (I : Inv X pins σ H s)
  (c1 : ∀ x c,cl.lookup x = some c→X.env.cells.lookup x = some c) (c2 : ∀ x,(x,NameKind.free)∈scope.names→∃ c,cl.lookup x = some c) (hf : ∀ b∈ex,FpOk X pins H b) (hex : ∀ b∈ex,b < s.heap.objs.size)
  (hn : h₁.Ns s.heap.objs.size m) (hk : ∀ b o,s.heap.get? b = some o→h₁.get? b = some o) {t' : Nat} :
  Inv (lcCx X scope N' cl s.heap.objs.size s H ex) [] (capSt cap σ) H { s with heap:=h₁,toks:=t' }:=by
 simp only [lcB,Bool.and_eq_true] at hB
 obtain ⟨⟨⟨⟨b1,b2⟩,b3⟩,b4⟩,b5⟩:=hB
 have kind : scope.kind = .function:=eq_of_beq b2
 have nocell : ∀ y∈scope.names,y.2 ≠ .cell:=fun y hy=>by
  have:=List.all_eq_true.mp b3 y hy
  simpa using this
 have ok : (lcCx X scope N' cl s.heap.objs.size s H ex).Ok:=by
  refine ⟨I.ok.mod,kind,I.ok.glob,I.ok.blt,Nat.le_refl _,fun x y c e1 e2=>I.ok.inj x y c (c1 x c e1) (c1 y c e2),fun x hx=>?_,fun x c e _=>(by cases e),I.ok.hd,I.ok.frames,.inl rfl,fun b hb=>⟨Nat.ne_of_lt (hex b hb),fun x c e=>(hf b hb).2.2.2.2.1 x c (c1 x c e)⟩,
   I.bs,Nat.le_trans I.ok.bsz I.sz,fun b o e hb=>?_,fun b hb hb2=>?_,I.stack,I.stkFree⟩
  ·have hx' : ∃ k,(relabel scope X.env).names.lookup x = some k∧(k = .cell∨k = .free):=by
    rcases hx with z | z
    ·exact ⟨.cell,z,.inl rfl⟩
    ·exact ⟨.free,z,.inr rfl⟩
   obtain ⟨k,e,hkk⟩:=hx'
   obtain ⟨k',hm,q⟩:=relabel_from (scope:=scope) (env:=X.env) (names:=scope.names) e
   have ek : k' = .free:=by
    rcases q with q | q
    ·rw [← q]
     rcases hkk with z | z
     ·exact absurd (q.symm.trans z) (nocell _ hm)
     ·exact z
    ·exact q.1
   rw [ek] at hm
   exact c2 x hm
  ·rcases (hf b hb).2.2.2.1 with z | z
   ·exact I.ok.noex b o e z
   ·exact absurd (Nat.lt_of_lt_of_le (Nat.lt_of_lt_of_le (Heap.lt_size e) I.ok.bsz) z) (Nat.lt_irrefl _)
  ·rcases List.mem_cons.mp (I.stkSub b hb2) with z | z
   ·exact (hf b hb).2.1 z
   ·exact (hf b hb).2.2.1 z
 refine ⟨ok,rfl,I.bare,Un.kept hk,⟨m,hn,fun i x v e1 e2 e3=>?_⟩,fun x c e=>?_,I.hok.fresh (Nat.le_refl _),fun x c e=>I.freeC x c (c1 x c e),fun p hp=>absurd (show p∈([] : List (Addr × Obj)) from hp) (by simp),I.hok.kept hk,?_⟩
 ·have e2' : (capSt cap σ)[i]? = some (some v):=e2
  unfold capSt at e2'
  rw [List.getElem?_map] at e2'
  cases ec : cap[i]? with
  | none=>rw [ec] at e2'; simp at e2'
  | some o =>
   rw [ec] at e2'
   cases o with
   | none=>simp at e2'
   | some j =>
    simp only [Option.map_some,Option.some.injEq] at e2'
    have ej : σ[j]? = some (some v):=by
     cases q : σ[j]? with
     | none=>rw [q] at e2'; simp at e2'
     | some z=>rw [q] at e2'; simp only at e2'; rw [e2']
    obtain ⟨q1,q2,q3⟩:=capB_at b1 i x j e1 ec
    obtain ⟨m0,hn0,hl0⟩:=I.loc
    obtain ⟨u,r,l⟩:=hl0 j x v q1 ej (by rcases q2 with z | z; exact .inr (.inl z); exact .inr (.inr z))
    refine ⟨u,r,?_⟩
    rcases l with ⟨kl,_⟩ | ⟨_,c,hc,z⟩
    ·have kl' : X.env.scope.names.lookup x = some .local:=kl
     rcases q2 with q2 | q2 <;> (rw [q2] at kl'; cases kl')
    ·obtain ⟨o,ho,hd⟩:=z
     obtain ⟨c',hc'⟩:=c2 x (PySem.mem_of_lookup q3)
     have : c' = c:=by
      have:=c1 x c' hc'
      rw [hc] at this
      exact (Option.some.inj this).symm
     subst this
     exact .inr ⟨relabel_free q3,c',hc',o,hk _ _ ho,hd⟩
 ·obtain ⟨v,o,ho,hd⟩:=I.cell x c (c1 x c e)
  exact ⟨v,o,hk _ _ ho,hd⟩
 ·show (capSt cap σ).length = N'.length
  unfold capSt
  rw [List.length_map]
  exact capB_len b1
end
noncomputable def tTrue : TT:=fun _ H Q=>Q true H
noncomputable def PIfs (X : Cx) (ifs : List Expr) (t : TT) : Prop :=
 ∀ (pins : List (Addr × Obj)) (s : Shared) (σ : St) (H : Hp) (Q : Bool→Hp→Prop),Inv X pins σ H s→t σ H Q →
  wpAny (model X.prog X.w) X.A (forIn ifs true fun c r=>if r = true then do let ok ← isTrue c X.env (eval c X.env); pure (ForInStep.yield ok) else pure (ForInStep.yield r)) (TP X pins σ Q) X.xe s
theorem pif_nil {X : Cx} : PIfs X [] tTrue:=fun _ _ _ H _ I h=>wpAny_tests_nil ⟨H,I,h⟩
section
variable {prog : Program} {w : World} {A : Around} {R : Result→Shared→Prop} {s : Shared}
theorem compLoop_go {elt target iter : Expr} {ifs : List Expr} {scope : Scope} {pos : Pos} {it acc : Value} {env : Env} (I : Nat→Shared→Prop)
  (turn : ∀ n s,I n s→wpAny (model prog w) A (pyNext it) (fun r s₁=>match r with
   | none=>R (.ok .next) s₁
   | some v=>wpAny (model prog w) A (letOwnedTupleGo target it v) (fun _ s₁'=>wpAny (model prog w) A (assign target env v) (fun _ s₂ =>
     wpAny (model prog w) A (forIn ifs true fun c r=>if r = true then do let ok ← isTrue c env (eval c env); pure (ForInStep.yield ok) else pure (ForInStep.yield r)) (fun ok s₃ =>
      if ok = true then wpAny (model prog w) A (eval elt env) (fun x s₄ =>
       wpAny (model prog w) A (call (.builtin "list.append") [acc,x]) (fun _ s₅=>∃ m,m < n∧I m s₅) (fun _ _=>False) s₄) (fun _ _=>False) s₃
      else ∃ m,m < n∧I m s₃) (fun _ _=>False) s₂) (fun _ _=>False) s₁') (fun _ _=>False) s₁) (fun _ _=>False) s)
  (n : Nat) (h : I n s) :
  codeAny (model prog w) A (.compLoop (.ListComp elt [⟨target,iter,ifs,0⟩] scope pos) 0 it acc env) R s:=by
 refine codeAny_loop rfl I (fun n s hI=>?_) n h
 show wpAny _ A ((compTurn (.ListComp elt [⟨target,iter,ifs,0⟩] scope pos) 0 it acc env).onRaise (fun x=>do noteFrame x env; theTreesLotGoes x)) _ _ s
 refine wpAny_noted ?_
 rw [compTurn_list]
 refine wpAny_bind (wpAny_standAt (wpAny_bind (wpAny_mono (turn n s hI) (fun r s₁ h₁=>?_) fun _ _ h'=>h'.elim)))
 cases r with
 | none=>exact wpAny_pure h₁
 | some v =>
  refine wpAny_bind (wpAny_mono h₁ (fun _ s₁' h₁'=>wpAny_bind (wpAny_mono h₁' (fun _ s₂ h₂=>wpAny_bind (wpAny_mono h₂ (fun ok s₃ h₃=>?_) fun _ _ h'=>h'.elim)) fun _ _ h'=>h'.elim)) fun _ _ h'=>h'.elim)
  cases ok with
  | false=>exact wpAny_pure ⟨rfl,h₃⟩
  | true =>
   exact wpAny_bind (wpAny_bind (wpAny_mono h₃ (fun x s₄ h₄=>wpAny_bind (wpAny_mono h₄ (fun _ s₅ h₅=>wpAny_pure (wpAny_pure ⟨rfl,h₅⟩)) fun _ _ h'=>h'.elim)) fun _ _ h'=>h'.elim))
end
noncomputable def CapK (a b : St) : Prop:=∀ (j : Nat) v,a[j]? = some (some v)→b[j]? = some (some v)
theorem CapK.refl {a : St} : CapK a a:=fun _ _ h=>h
theorem CapK.set {a b : St} {i : Nat} {v : Option V} (h : CapK a b) (hi : a[i]? = some none) : CapK a (b.set i v):=fun j u e=>by
 by_cases hj : j = i
 ·subst hj; rw [hi] at e; cases e
 ·rw [List.getElem?_set_ne (Ne.symm hj)]; exact h j u e
noncomputable def lcRd (J : It) (cap : List (Option Nat)) (g : TG) (tc : TT) (te : TE) (σ : St) (H1 : Hp) (Q : VK) : Prop :=
 ∀ D,H1 D = none→∃ W : Nat→Nat→Hp→Prop,(∃ m,W 0 m (upd H1 D (.lst [])))∧∀ i m H,W i m H →
  (J.stop i H∧Q (.ref D) H)∨(J.go i H∧∀ x H',J.yld i H x H'→g x (capSt cap σ) H' fun σ2 H2=>CapK (capSt cap σ) σ2∧tc σ2 H2 fun b H3 =>
   if b = true then te σ2 H3 fun y H4=>∃ xs,H4 D = some (.lst xs)∧xs.length < sizeLine∧∃ m',m' < m∧W (i + 1) m' (upd H4 D (.lst (xs ++ [y])))
   else ∃ m',m' < m∧W (i + 1) m' H3)
noncomputable def tLC (wi : TI) (cap : List (Option Nat)) (g : TG) (tc : TT) (te : TE) : TE:=fun σ H Q=>wi σ H fun J H1=>lcRd J cap g tc te σ H1 Q
section
variable {X : Cx} {pins : List (Addr × Obj)} {σ : St} {H : Hp} {s : Shared} {tg elt iter : Expr} {ifs : List Expr} {scope : Scope} {pos : Pos} {N' : List Str} {cap : List (Option Nat)} {g : TG} {tc : TT} {te : TE}
theorem lc_block {E : Value→Shared→Prop} {J : It} {fp : List Addr} {it : Addr} {tn : Nat→Heap→Prop} {Q : VK} {cl : List (Str × Addr)} {RR : Value→Addr→Result→Shared→Prop} (hc : X.calm = true) (hB : lcB X.N X.env.scope scope N' cap = true)
  (hg : ∀ cl C s₀ H₀ ex,PG (lcCx X scope N' cl C s₀ H₀ ex) tg g) (hi : ∀ cl C s₀ H₀ ex,PIfs (lcCx X scope N' cl C s₀ H₀ ex) ifs tc) (he : ∀ cl C s₀ H₀ ex,PE (lcCx X scope N' cl C s₀ H₀ ex) elt te)
  (c1 : ∀ x c,cl.lookup x = some c→X.env.cells.lookup x = some c) (c2 : ∀ x,(x,NameKind.free)∈scope.names→∃ c,cl.lookup x = some c)
  (I : Inv X pins σ H s) (T : Turn X.prog X.w X.K tg J fp it tn) (st : tn 0 s.heap) (hf : ∀ b∈fp,FpOk X pins H b) (rd : lcRd J cap g tc te σ H Q)
  (hRR : ∀ D C s' m H',Inv X pins σ H' s'→s'.heap.Ns C m→FpOk X pins H' C→Q (.ref D) H'→RR (.ref D) C (.ok .next) s') :
  wpAny (model X.prog X.w) X.A (newList []) (fun acc s₃=>wpAny (model X.prog X.w) X.A (newFunctionEnv scope X.env.globals cl [] X.env.qual none .none (some X.env)) (fun cenv s₄ =>
   codeAny (model X.prog X.w) X.A (.compStart (.ListComp elt [⟨tg,iter,ifs,0⟩] scope pos) 0 (.ref it) acc { cenv with scope:=relabel scope X.env }) (RR acc cenv.locals) s₄) E s₃) E s:=by
 have hB':=hB
 simp only [lcB,Bool.and_eq_true] at hB'
 obtain ⟨⟨⟨⟨b1,b2⟩,b3⟩,b4⟩,b5⟩:=hB'
 have kind : scope.kind = .function:=eq_of_beq b2
 have nocell : ∀ y∈scope.names,y.2 ≠ .cell:=fun y hy=>by
  have:=List.all_eq_true.mp b3 y hy
  simpa using this
 have hfp : ∀ b∈fp,b < s.heap.objs.size:=fun b hb=>let ⟨o,e,_⟩:=T.obj 0 _ st b hb; Heap.lt_size e
 refine wpAny_newObj_type (wpAny_newFunctionEnv nocell (by intro y hy; simp at hy) (fun h₁ hns₁ hsb₁=>?_) kind)
 dsimp only at hns₁ hsb₁ ⊢
 have I3 : Inv X pins σ (upd H s.heap.objs.size (.lst [])) { s with heap:=s.heap.push { cls:=.type "list",data:=.seq ([] : List Value).toArray },toks:=s.toks }:=I.lnew (ys:=[]) (its:=[]) .nil (Nat.zero_le _)
 generalize hs3 : ({ s with heap:=s.heap.push { cls:=.type "list",data:=.seq ([] : List Value).toArray },toks:=s.toks } : Shared) = s3 at I3
 have eh : s3.heap = s.heap.push { cls:=.type "list",data:=.seq ([] : List Value).toArray }:=by rw [← hs3]
 have sz3 : s3.heap.objs.size = s.heap.objs.size + 1:=by rw [eh,Heap.size_push]
 obtain ⟨W,⟨m0,w0⟩,turn⟩:=rd s.heap.objs.size (I.hok.fresh (Nat.le_refl _))
 have hf3 : ∀ b∈fp,FpOk X pins (upd H s.heap.objs.size (.lst [])) b:=fun b hb=>⟨by rw [upd_ne (Nat.ne_of_lt (hfp b hb))]; exact (hf b hb).1,(hf b hb).2⟩
 have hex3 : ∀ b∈fp,b < s3.heap.objs.size:=fun b hb=>by rw [sz3]; exact Nat.lt_succ_of_lt (hfp b hb)
 have hns₁' : h₁.Ns s3.heap.objs.size (fun x=>([] : List (Str × Value)).reverse.lookup x):=by rw [eh]; exact hns₁
 have old : ∀ b o,s3.heap.get? b = some o→h₁.get? b = some o:=fun b o e=>by
  refine hsb₁.extBut b o ?_ (Heap.get?_push_of_some _ (by rw [← eh]; exact e))
  rw [← eh]
  exact Nat.ne_of_lt (Heap.lt_size e)
 have I4:=lc_inv (t':=s.toks) hB I3 c1 c2 hf3 hex3 hns₁' old
 have old0 : ∀ b o,s.heap.get? b = some o→h₁.get? b = some o:=fun b o e=>old b o (by rw [eh]; exact Heap.get?_push_of_some _ e)
 have st4 : tn 0 h₁:=T.keep _ _ _ st fun b _ o e=>old0 b o e
 have eC : (s.heap.push { cls:=.type "list",data:=.seq ([] : List Value).toArray }).objs.size = s3.heap.objs.size:=by rw [eh]
 have stat : ∀ {H' : Hp},(∀ b∈fp,H' b = none)→∀ b∈fp,FpOk (lcCx X scope N' cl s3.heap.objs.size s3 (upd H s.heap.objs.size (.lst [])) fp) [] H' b:=fun hn b hb =>
  ⟨hn b hb,Nat.ne_of_lt (hex3 b hb),fun z=>by
   rcases List.mem_cons.mp (I3.stkSub b z) with q | q
   ·exact (hf b hb).2.1 q
   ·exact (hf b hb).2.2.1 q,.inl hb,fun x c e=>(hf b hb).2.2.2.2.1 x c (c1 x c e),fun p hp=>absurd (show p∈([] : List (Addr × Obj)) from hp) (by simp)⟩
 have loop : ∀ s₃ : Shared,s₃ = { s with heap:=h₁,toks:=s.toks + ([] : List (Str × Value)).length } →
   codeAny (model X.prog X.w) X.A (.compLoop (.ListComp elt [⟨tg,iter,ifs,0⟩] scope pos) 0 (.ref it) (.ref s.heap.objs.size) (compEnvC scope cl s3.heap.objs.size X.env)) (RR (.ref s.heap.objs.size) s3.heap.objs.size) s₃:=by
  rintro s₃ rfl
  refine compLoop_go (fun n s'=>∃ i σ' H',Inv (lcCx X scope N' cl s3.heap.objs.size s3 (upd H s.heap.objs.size (.lst [])) fp) [] σ' H' s'∧(∀ (j : Nat) v,(capSt cap σ)[j]? = some (some v)→σ'[j]? = some (some v))∧tn i s'.heap∧(∀ b∈fp,H' b = none)∧W i n H') ?_ m0 ?_
  ·rintro n s' ⟨i,σ',H',I',wk,st',fr',w'⟩
   have I'':=I'.weak (σ':=capSt cap σ) (by rw [I'.len]; show (capSt cap σ).length = N'.length; unfold capSt; rw [List.length_map]; exact capB_len b1) wk
   rcases turn i n H' w' with ⟨stop,q⟩ | ⟨go,step⟩
   ·refine thn (T.done (lcCx X scope N' cl s3.heap.objs.size s3 (upd H s.heap.objs.size (.lst [])) fp) rfl rfl rfl hc i [] s' (capSt cap σ) H' _ I'' (stat fr') st' stop) fun r s4 ⟨hr,I4'⟩=>?_
    subst hr
    have u : Un (frs X.stack) fp H H' s.heap s4.heap:=(Un.laid (o:=.lst []) (fun b o e=>by show s3.heap.get? b = some o; rw [eh]; exact Heap.get?_push_of_some _ e) (Nat.le_refl _) (I.hok.fresh (Nat.le_refl _))).trans I4'.base
    have IX : Inv X pins σ H' s4:=I.call' (I4'.os.trans (by show s3.os = s.os; rw [← hs3])) u I4'.hok I4'.bare fun b hb=>⟨(hf b hb).2.2.2.1,(hf b hb).2.1,(hf b hb).2.2.2.2.1,(hf b hb).2.2.2.2.2⟩
    obtain ⟨m',hm',_⟩:=I4'.loc
    exact hRR _ _ s4 m' H' IX hm' (I.fpOk (by rw [sz3]; exact Nat.le_succ _) I4'.free) q
   ·refine thn (T.item (lcCx X scope N' cl s3.heap.objs.size s3 (upd H s.heap.objs.size (.lst [])) fp) rfl rfl rfl hc i [] s' (capSt cap σ) H' _ I'' (stat fr') st' go) fun r s4 ⟨v,hr,h4⟩=>?_
    subst hr
    refine thn h4 fun _ s5 ⟨x,H5,I5,r5,y5,st5,fr5⟩=>?_
    have I5':=I5.pinned (stat fr5) (T.obj _ _ st5)
    refine thn (hg _ _ _ _ _ _ s5 (capSt cap σ) H5 x v _ I5' r5 (step x H5 y5)) fun _ s6 ⟨σ6,H6,I6,kc6,q6⟩=>?_
    refine thn (hi _ _ _ _ _ _ s6 σ6 H6 _ I6 q6) fun ok s7 ⟨H7,I7,q7⟩=>?_
    have keepT : ∀ {s8 : Shared} {σ8 : St} {H8 : Hp},Inv (lcCx X scope N' cl s3.heap.objs.size s3 (upd H s.heap.objs.size (.lst [])) fp) ([] ++ pinsAt fp s5.heap) σ8 H8 s8→tn (i + 1) s8.heap∧∀ b∈fp,H8 b = none:=fun {s8 σ8 H8} I8 =>
     ⟨T.keep _ _ _ st5 fun b hb o e=>(I8.pin (b,o) (List.mem_append_right _ (List.mem_append_right _ (mem_pinsAt hb e)))).1,fun b hb=>by
      obtain ⟨o,e,d⟩:=T.obj _ _ st5 b hb
      exact (I8.pin (b,o) (List.mem_append_right _ (List.mem_append_right _ (mem_pinsAt hb e)))).2.1⟩
    have again : ∀ {s8 : Shared} {H8 : Hp} {m' : Nat},Inv (lcCx X scope N' cl s3.heap.objs.size s3 (upd H s.heap.objs.size (.lst [])) fp) ([] ++ pinsAt fp s5.heap) σ6 H8 s8→m' < n→W (i + 1) m' H8 →
      ∃ m,m < n∧∃ i σ' H',Inv (lcCx X scope N' cl s3.heap.objs.size s3 (upd H s.heap.objs.size (.lst [])) fp) [] σ' H' s8∧(∀ (j : Nat) v,(capSt cap σ)[j]? = some (some v)→σ'[j]? = some (some v))∧tn i s8.heap∧(∀ b∈fp,H' b = none)∧W i m H':=fun {s8 H8 m'} I8 lt w8=>by
     obtain ⟨k1,k2⟩:=keepT I8
     exact ⟨m',lt,i + 1,σ6,H8,I8.unpinned,kc6,k1,k2,w8⟩
    cases ok with
    | false =>
     rw [if_neg Bool.false_ne_true] at q7 ⊢
     obtain ⟨m',lt,w8⟩:=q7
     exact again I7 lt w8
    | true =>
     rw [if_pos rfl] at q7 ⊢
     refine thn (he _ _ _ _ _ _ s7 σ6 H7 _ I7 q7) fun y s8 ⟨vy,H8,I8,ry,xs,hD,hz,m',lt,w8⟩=>?_
     refine thn (mt_append (X:=lcCx X scope N' cl s3.heap.objs.size s3 (upd H s.heap.objs.size (.lst [])) fp) _ s8 σ6 H8 (.ref s.heap.objs.size) [vy] _ _ (fun _ H'=>H' = upd H8 s.heap.objs.size (.lst (xs ++ [vy]))) I8 rfl (.cons ry .nil) ⟨_,xs,vy,rfl,rfl,hD,hz,rfl⟩) fun _ s9 ⟨_,H9,I9,_,e9⟩=>?_
     subst e9
     exact again I9 lt w8
  ·have eS : ({ s3 with heap:=h₁,toks:=s.toks } : Shared) = { s with heap:=h₁,toks:=s.toks + ([] : List (Str × Value)).length }:=by rw [← hs3]; rfl
   exact ⟨0,capSt cap σ,upd H s.heap.objs.size (.lst []),eS ▸ I4,fun _ _ h=>h,st4,fun b hb=>(hf3 b hb).1,w0⟩
 rw [eC]
 exact codeAny_compStart_list (loop _ rfl) (T.self _ 0 _ _ _ st4 (loop _ rfl))
theorem lcB_names (hB : lcB X.N X.env.scope scope N' cap = true) : ∀ x∈scope.names,x.2 = .local→scope.names.lookup x.1 = some .local:=fun y hy e=>by
 simp only [lcB,Bool.and_eq_true] at hB
 have:=List.all_eq_true.mp hB.1.2 y hy
 rw [e] at this
 simpa using this
theorem lcB_clos (hB : lcB X.N X.env.scope scope N' cap = true) (ok : X.Ok) : ∃ cl : List (Str × Addr),closureFor scope X.env = pure cl∧(∀ x c,cl.lookup x = some c→X.env.cells.lookup x = some c)∧∀ x,(x,NameKind.free)∈scope.names→∃ c,cl.lookup x = some c:=by
 refine closureFor_of fun y hy e=>ok.has y.1 ?_
 simp only [lcB,Bool.and_eq_true] at hB
 have:=List.all_eq_true.mp hB.2 y hy
 rw [e] at this
 simp only [bne_self_eq_false,Bool.false_or,Bool.or_eq_true] at this
 rcases this with z | z
 ·exact .inl (eq_of_beq z)
 ·exact .inr (eq_of_beq z)
theorem pe_lc {wi : TI} (N : List Str) (sc : Scope) (hc : X.calm = true) (hB0 : lcB N sc scope N' cap = true) (hNN : X.N = N) (hsc : X.env.scope = sc) (hit : PI X tg iter wi)
  (hg : ∀ cl C s₀ H₀ ex,PG (lcCx X scope N' cl C s₀ H₀ ex) tg g) (hi : ∀ cl C s₀ H₀ ex,PIfs (lcCx X scope N' cl C s₀ H₀ ex) ifs tc) (he : ∀ cl C s₀ H₀ ex,PE (lcCx X scope N' cl C s₀ H₀ ex) elt te)
  (hs : ∀ x,foldedSetIterable iter X.env x = pure x:=by intro _; rfl) : PE X (.ListComp elt [⟨tg,iter,ifs,0⟩] scope pos) (tLC wi cap g tc te):=by
 intro pins s σ H Q I h
 have hB : lcB X.N X.env.scope scope N' cap = true:=by rw [hNN,hsc]; exact hB0
 have kind : scope.kind = .function:=by
  simp only [lcB,Bool.and_eq_true] at hB
  exact eq_of_beq hB.1.1.1.2
 obtain ⟨cl,ecl,c1,c2⟩:=lcB_clos hB I.ok
 rw [eval_ListComp]
 refine wpAny_comprehension_free (use:=none) rfl hs ecl kind (lcB_names hB) (thn (hit pins s σ H _ I h) fun v s1 h1=>thn h1 fun itv s2 h2=>?_)
 obtain ⟨it,fp,tn,J,H2,e,I2,T,st2,f2,rd⟩:=h2
 subst e
 refine lc_block (RR:=fun acc C=>compPost (model X.prog X.w) X.A X.xe none (EP X pins σ Q) acc C) hc hB hg hi he c1 c2 I2 T st2 f2 rd fun D C s' m H' I' hm fC q=>?_
 exact ⟨m,hm,fun h' hs'=>⟨.ref D,H',I'.turned (t':=s'.toks) (it:=C) (fun b o hb e=>(hs'.2 b hb).trans e) fC.1 fC.2.1 fC.2.2.2.1 fC.2.2.2.2.1 fC.2.2.2.2.2,rfl,q⟩⟩
theorem ps_setLC {wi : TI} {i : Nat} {y : Str} {ypos spos : Pos} (hN : X.N.Nodup) (hiy : X.N[i]? = some y) (hy : Loc X.env.scope y) (N : List Str) (sc : Scope) (hc : X.calm = true) (hB0 : lcB N sc scope N' cap = true) (hNN : X.N = N) (hsc : X.env.scope = sc) (hit : PI X tg iter wi)
  (hg : ∀ cl C s₀ H₀ ex,PG (lcCx X scope N' cl C s₀ H₀ ex) tg g) (hi : ∀ cl C s₀ H₀ ex,PIfs (lcCx X scope N' cl C s₀ H₀ ex) ifs tc) (he : ∀ cl C s₀ H₀ ex,PE (lcCx X scope N' cl C s₀ H₀ ex) elt te)
  (hsw : swapsWith (.ListComp elt [⟨tg,iter,ifs,0⟩] scope pos) (some (.Name y ypos)) spos.line X.env = pure true:=by rfl)
  (hs : ∀ x,foldedSetIterable iter X.env x = pure x:=by intro _; rfl) (hf : X.fn y = true∨X.env.scope.names.lookup y = some .local:=by first | exact .inl rfl | exact .inr rfl | assumption) :
  PS X (.Assign [.Name y ypos] (.ListComp elt [⟨tg,iter,ifs,0⟩] scope pos) spos) (tAsg (tLC wi cap g tc te) (gName i)):=by
 intro pins s σ H D I h
 have hB : lcB X.N X.env.scope scope N' cap = true:=by rw [hNN,hsc]; exact hB0
 have kind : scope.kind = .function:=by
  simp only [lcB,Bool.and_eq_true] at hB
  exact eq_of_beq hB.1.1.1.2
 obtain ⟨cl,ecl,c1,c2⟩:=lcB_clos hB I.ok
 rw [exec_Assign_Name_used _ _ _ _ hsw]
 refine wpAny_bind (wpAny_standAt (wpAny_bind ?_))
 show wpAny _ X.A (do let _ ← comprehension (.ListComp elt [⟨tg,iter,ifs,0⟩] scope pos) scope X.env _ (newList []) false (eval iter X.env) (some (assign (.Name y ypos) X.env))) _ _ s
 refine wpAny_bind (wpAny_mono (wpAny_comprehension_free (use:=some (assign (.Name y ypos) X.env)) (Q:=fun _ s'=>SP X pins D .next s') rfl hs ecl kind (lcB_names hB)
  (thn (hit pins s σ H _ I h) fun v s1 h1=>thn h1 fun itv s2 h2=>?_)) (fun _ s' hq=>wpAny_pure (wpAny_pure hq)) fun _ _ e=>e)
 obtain ⟨it,fp,tn,J,H2,e,I2,T,st2,f2,rd⟩:=h2
 subst e
 refine lc_block (RR:=fun acc C=>compPost (model X.prog X.w) X.A X.xe (some (assign (.Name y ypos) X.env)) (fun _ s'=>SP X pins D .next s') acc C) hc hB hg hi he c1 c2 I2 T st2 f2 rd fun Da C s' m H' I' hm fC q=>?_
 show wpAny _ X.A (assign (.Name y ypos) X.env (.ref Da)) _ _ _
 refine wpAny_assign_Name (store_ok2 (v:=.ref Da) I' hN hiy hy rfl (fun s'' I'' ⟨a,hsa,hav⟩=>?_) hf)
 have haC : C ≠ a:=by
  rcases hav with z | z
  ·rw [z]; exact fC.2.1
  ·exact (fC.2.2.2.2.1 y a z).symm
 refine ⟨m,hm.sameBut hsa haC,fun h' hs'=>⟨σ.set i (some (.ref Da)),H',I''.turned (t':=s''.toks) (it:=C) (fun b o hb e=>(hs'.2 b hb).trans e) fC.1 fC.2.1 fC.2.2.2.1 fC.2.2.2.2.1 fC.2.2.2.2.2,q⟩⟩
end
end L2
namespace L2
open PySem PySem.Spec PyProof.Rows
noncomputable def CDivB (_ j : Int) : Prop:=0 < j∧j.natAbs.log2 < 9000
noncomputable def CMulB (i j : Int) : Prop:=i.natAbs < 2 ^ 8000∧j.natAbs < 2 ^ 8000
theorem bits_le {i : Int} (h : i.natAbs < 2 ^ 8000) : Builtin.Int.intBits i≤2 ^ 20:=by
 unfold Builtin.Int.intBits
 split
 ·exact Nat.zero_le _
 ·rename_i h0
  have hz : i.natAbs ≠ 0:=by
   intro z
   apply h0
   have : i = 0:=by omega
   rw [this]; rfl
  have : i.natAbs.log2 < 8000:=(Nat.log2_lt hz).mpr h
  have e : (2 : Nat) ^ 20 = 1048576:=by decide
  omega
section
variable {X : Cx}
theorem op_fdivB : OpR X (binaryOp .FloorDiv) (rI CDivB fun i j=>.int (i / j)):=opI fun i j _ _ _ _ _ hc q=>by
 have e : i.fdiv j = i / j:=by rw [Int.fdiv_eq_ediv_of_nonneg _ (Int.le_of_lt hc.1)]
 exact floordiv_int (Int.ne_of_gt hc.1) (by rw [e]; exact q) (.inl (PyProof.noPylong_of_log2 hc.2))
theorem op_mulB : OpR X (binaryOp .Mult) (rI CMulB fun i j=>.int (i * j)):=opI fun _ _ _ _ _ _ _ hc q=>mul_int q (IntMulOk.of_bits (bits_le hc.1) (bits_le hc.2))
end
theorem ints_vals : ∀ {ns : List Int} {vs : List Value},Vals (ns.map V.int) vs→IntsAre vs ns
 | [],_,.nil=>.nil
 | n :: ns,_,.cons r t=>by
  obtain ⟨k,rfl⟩:=r
  exact .cons n k (ints_vals t)
section
variable {X : Cx}
theorem call_sumL (hc : X.calm = true) : CallR X (.builtin "sum") (fun xs H Q=>∃ (p : Addr) (ns : List Int),xs = [.ref p]∧SqL X.K H p (ns.map V.int)∧Q (.int ns.sum) H):=by
 intro pins s σ H xs us Q I r q
 obtain ⟨p,ns,rfl,hq,q⟩:=q
 obtain ⟨u,rfl,ru⟩:=r.one
 cases ru
 obtain ⟨its,rv,pl,hz⟩:=I.list hq
 have hi:=ints_vals rv
 obtain ⟨zs,e⟩:=hi.allInts.items
 have hns : ns = zs.toList.map (·.1):=by rw [← hi.numsOf,← nums_intItems,← e]
 have hl:=pl.isList
 rw [e] at hl
 refine sum_intListG (I.ok.hd hc) hl fun h' tk t' hk=>?_
 have e2 : preSum (numAt zs) zs.size = ns.sum:=by rw [preSum_eq,List.take_of_length_le (by simp),← hns]
 rw [e2]
 exact ⟨.int ns.sum,H,I.kept hk,⟨_,rfl⟩,q⟩
theorem call_minL (hc : X.calm = true) : CallR X (.builtin "min") (fun xs H Q=>∃ (p : Addr) (ns : List Int),xs = [.ref p]∧SqL X.K H p (ns.map V.int)∧0 < ns.length∧∀ M,M∈ns→(∀ a,a∈ns→M≤a)→Q (.int M) H):=by
 intro pins s σ H xs us Q I r q
 obtain ⟨p,ns,rfl,hq,hne,q⟩:=q
 obtain ⟨u,rfl,ru⟩:=r.one
 cases ru
 obtain ⟨its,rv,pl,hz⟩:=I.list hq
 have hi:=ints_vals rv
 obtain ⟨zs,e⟩:=hi.allInts.items
 have hns : ns = zs.toList.map (·.1):=by rw [← hi.numsOf,← nums_intItems,← e]
 have hl:=pl.isList
 rw [e] at hl
 have hsz : 0 < zs.size:=by
  have h3:=hne; rw [hns,List.length_map,Array.length_toList] at h3; exact h3
 refine min_intList (I.ok.hd hc) hl hsz fun v h' tk hv hk=>?_
 obtain ⟨t,rfl⟩:=intItems_at hv
 obtain ⟨h1,h2⟩:=argBest_lt (numAt zs) (zs.size - 1)
 refine ⟨.int _,H,I.kept hk,⟨t,rfl⟩,q _ ?_ fun a ha=>?_⟩
 ·rw [hns,numAt_eq]; exact getD_mem (by rw [List.length_map,Array.length_toList]; omega)
 ·rw [hns] at ha
  obtain ⟨j,hj,rfl⟩:=mem_getD ha
  rw [List.length_map,Array.length_toList] at hj
  rw [← numAt_eq]; exact h2 j (by omega)
end
noncomputable def rRev (K : PySem.W.Frag) : V→Hp→VK→Prop:=fun x H Q=>∃ a xs,x = .ref a∧SqL K H a xs∧∀ p,H p = none→Q (.ref p) (upd H p (.lst xs.reverse))
section
variable {X : Cx} {e : Expr} {te : TE} {pos p2 p3 p4 : Pos} {j : Nat}
end
mutual
noncomputable def Has (K : PySem.W.Frag) (H : Hp) : PyData→V→Prop
 | .none,v=>v = .non
 | .bool b,v=>v = .bl b
 | .int i,v=>v = .int i
 | .str x,v=>v = .str x∧(PyData.str x).canLay0 = true
 | .list ds,v=>∃ a xs,v = .ref a∧SqL K H a xs∧HasL K H ds xs
 | .tuple ds,v=>∃ a xs,v = .ref a∧SqT K H a xs∧HasL K H ds xs
 | .dict _,_=>False
noncomputable def HasL (K : PySem.W.Frag) (H : Hp) : List PyData→List V→Prop
 | [],vs=>vs = []
 | d :: ds,vs=>∃ v r,vs = v :: r∧Has K H d v∧HasL K H ds r
end
theorem Same.seqT {K : PySem.W.Frag} {H H' : Hp} {a : Addr} {xs : List V} (e : Same H H') (h : SqT K H a xs) : SqT K H' a xs:=by
 rcases h with (h | ⟨o,h⟩) | h
 ·exact .inl (.inl (e _ _ h))
 ·exact .inl (.inr ⟨o,e _ _ h⟩)
 ·exact .inr h
mutual
theorem Has.same {K : PySem.W.Frag} {H H' : Hp} (e : Same H H') : ∀ {d : PyData} {v : V},Has K H d v→Has K H' d v
 | .none,_,h=>h
 | .bool _,_,h=>h
 | .int _,_,h=>h
 | .str _,_,h=>h
 | .list _,_,⟨a,xs,h1,h2,h3⟩=>⟨a,xs,h1,e.seq h2,HasL.same e h3⟩
 | .tuple _,_,⟨a,xs,h1,h2,h3⟩=>⟨a,xs,h1,e.seqT h2,HasL.same e h3⟩
theorem HasL.same {K : PySem.W.Frag} {H H' : Hp} (e : Same H H') : ∀ {ds : List PyData} {vs : List V},HasL K H ds vs→HasL K H' ds vs
 | [],_,h=>h
 | _ :: _,_,⟨v,r,h1,h2,h3⟩=>⟨v,r,h1,Has.same e h2,HasL.same e h3⟩
end
theorem HasL.length {K : PySem.W.Frag} {H : Hp} : ∀ {ds : List PyData} {vs : List V},HasL K H ds vs→ds.length = vs.length
 | [],vs,h=>by
  have h' : vs = []:=h
  rw [h']; rfl
 | _ :: _,_,⟨v,r,h1,_,h3⟩=>by rw [h1]; exact congrArg (· + 1) (HasL.length h3)
theorem HasL.get {K : PySem.W.Frag} {H : Hp} : ∀ {ds : List PyData} {vs : List V} {i : Nat} {v : V},HasL K H ds vs→vs[i]? = some v→∃ d,ds[i]? = some d∧Has K H d v
 | [],vs,i,v,h,e=>by
  have h' : vs = []:=h
  rw [h'] at e; simp at e
 | d :: _,_,0,v,⟨u,r,h1,h2,h3⟩,e=>by
  rw [h1] at e
  have : u = v:=by simpa using e
  subst this; exact ⟨d,rfl,h2⟩
 | _ :: ds,_,i + 1,v,⟨u,r,h1,h2,h3⟩,e=>by
  rw [h1] at e
  obtain ⟨d,q1,q2⟩:=HasL.get (i:=i) (v:=v) h3 (by simpa using e)
  exact ⟨d,by simpa using q1,q2⟩
theorem HasL.at {K : PySem.W.Frag} {H : Hp} : ∀ {ds : List PyData} {vs : List V} {i : Nat} {d : PyData},HasL K H ds vs→ds[i]? = some d→∃ v,vs[i]? = some v∧Has K H d v
 | [],_,i,d,_,e=>by simp at e
 | d' :: _,_,0,d,⟨u,r,h1,h2,h3⟩,e=>by
  have : d' = d:=by simpa using e
  subst this; rw [h1]; exact ⟨u,rfl,h2⟩
 | _ :: ds,_,i + 1,d,⟨u,r,h1,h2,h3⟩,e=>by
  obtain ⟨v,q1,q2⟩:=HasL.at (i:=i) (d:=d) h3 (by simpa using e)
  rw [h1]; exact ⟨v,by simpa using q1,q2⟩
theorem HasL.snoc {K : PySem.W.Frag} {H : Hp} {d : PyData} {v : V} (hv : Has K H d v) : ∀ {ds : List PyData} {vs : List V},HasL K H ds vs→HasL K H (ds ++ [d]) (vs ++ [v])
 | [],vs,h=>by
  have h' : vs = []:=h
  rw [h']; exact ⟨v,[],rfl,hv,rfl⟩
 | _ :: _,_,⟨u,r,h1,h2,h3⟩=>by rw [h1]; exact ⟨u,r ++ [v],rfl,h2,HasL.snoc hv h3⟩
theorem HasL.append {K : PySem.W.Frag} {H : Hp} {es : List PyData} {us : List V} (h2 : HasL K H es us) : ∀ {ds : List PyData} {vs : List V},HasL K H ds vs→HasL K H (ds ++ es) (vs ++ us)
 | [],vs,h=>by
  have h' : vs = []:=h
  rw [h']; exact h2
 | _ :: _,_,⟨u,r,g1,g2,g3⟩=>by rw [g1]; exact ⟨u,r ++ us,rfl,g2,HasL.append h2 g3⟩
theorem HasL.reverse {K : PySem.W.Frag} {H : Hp} : ∀ {ds : List PyData} {vs : List V},HasL K H ds vs→HasL K H ds.reverse vs.reverse
 | [],vs,h=>by
  have h' : vs = []:=h
  rw [h']; rfl
 | _ :: _,_,⟨u,r,g1,g2,g3⟩=>by rw [g1,List.reverse_cons,List.reverse_cons]; exact HasL.snoc g2 (HasL.reverse g3)
theorem HasL.set {K : PySem.W.Frag} {H : Hp} {d : PyData} {v : V} (hv : Has K H d v) : ∀ {ds : List PyData} {vs : List V} (i : Nat),HasL K H ds vs→HasL K H (ds.set i d) (vs.set i v)
 | [],vs,_,h=>by
  have h' : vs = []:=h
  rw [h']; rfl
 | _ :: _,_,0,⟨u,r,g1,g2,g3⟩=>by rw [g1]; exact ⟨v,r,rfl,hv,g3⟩
 | _ :: _,_,i + 1,⟨u,r,g1,g2,g3⟩=>by rw [g1]; exact ⟨u,r.set i v,rfl,g2,HasL.set hv i g3⟩
theorem HasL.ints {K : PySem.W.Frag} {H : Hp} : ∀ {ns : List Int} {vs : List V},HasL K H (ns.map PyData.int) vs ↔ vs = ns.map V.int
 | [],_=>Iff.rfl
 | n :: ns,vs=>by
  constructor
  ·rintro ⟨v,r,h1,h2,h3⟩
   have h2' : v = .int n:=h2
   rw [h1,h2',HasL.ints.mp h3]; rfl
  ·rintro rfl
   exact ⟨.int n,ns.map V.int,rfl,rfl,HasL.ints.mpr rfl⟩
section
variable {X : Cx} {pins : List (Addr × Obj)} {σ : St} {H : Hp} {s : Shared}
mutual
theorem Has.reads (I : Inv X pins σ H s) : ∀ {d : PyData} {v : V} {u : Value},Has X.K H d v→RelV v u→∃ as,Reads s.heap u d as
 | .none,v,u,h,r=>by
  have h' : v = .non:=h
  subst h'; cases r; exact ⟨_,.none⟩
 | .bool b,v,u,h,r=>by
  have h' : v = .bl b:=h
  subst h'; cases r; exact ⟨_,.bool b⟩
 | .int i,v,u,h,r=>by
  have h' : v = .int i:=h
  subst h'; obtain ⟨t,rfl⟩:=r; exact ⟨_,.int i t⟩
 | .str x,v,u,h,r=>by
  have h' : v = .str x:=h.1
  subst h'; obtain ⟨t,rfl⟩:=r; exact ⟨_,.str x t⟩
 | .list ds,v,u,h,r=>by
  obtain ⟨a,xs,rfl,hq,hl⟩:=h
  cases r
  obtain ⟨its,rv,⟨o,n,e,c,_,d⟩,hz⟩:=I.list hq
  obtain ⟨as,ra⟩:=HasL.reads I hl rv
  exact ⟨_,.list e c d (by simpa using ra)⟩
 | .tuple ds,v,u,h,r=>by
  obtain ⟨a,xs,rfl,hq,hl⟩:=h
  cases r
  obtain ⟨its,rv,⟨o,e,c,n,d⟩,hz⟩:=I.tuple hq
  obtain ⟨as,ra⟩:=HasL.reads I hl rv
  exact ⟨_,.tuple e c d (by simpa using ra)⟩
 | .dict _,_,_,h,_=>False.elim h
theorem HasL.reads (I : Inv X pins σ H s) : ∀ {ds : List PyData} {vs : List V} {us : List Value},HasL X.K H ds vs→Vals vs us→∃ as,ReadsAll s.heap us ds as
 | [],vs,us,h,r=>by
  have h' : vs = []:=h
  subst h'; cases r; exact ⟨_,.nil⟩
 | d :: ds,vs,us,h,r=>by
  obtain ⟨v,rr,rfl,h1,h2⟩:=h
  cases r with
  | cons r1 r2 =>
   obtain ⟨as,a1⟩:=Has.reads I h1 r1
   obtain ⟨bs,a2⟩:=HasL.reads I h2 r2
   exact ⟨_,.cons a1 a2⟩
end
end
mutual
theorem Has.can {K : PySem.W.Frag} {H : Hp} : ∀ {d : PyData} {v : V},Has K H d v→d.canLay0 = true
 | .none,_,_=>rfl
 | .bool _,_,_=>rfl
 | .int _,_,_=>rfl
 | .str _,_,h=>h.2
 | .list ds,_,⟨_,_,_,_,h⟩=>by simp only [PyData.canLay0]; exact HasL.can h
 | .tuple ds,_,⟨_,_,_,_,h⟩=>by simp only [PyData.canLay0]; exact HasL.can h
theorem HasL.can {K : PySem.W.Frag} {H : Hp} : ∀ {ds : List PyData} {vs : List V},HasL K H ds vs→PyData.canLayAll0 ds = true
 | [],_,_=>rfl
 | d :: ds,_,⟨_,_,_,h1,h2⟩=>by simp only [PyData.canLayAll0,Bool.and_eq_true]; exact ⟨Has.can h1,HasL.can h2⟩
end
noncomputable def rEqD (K : PySem.W.Frag) : R2:=fun x y H Q=>∃ d e,Has K H d x∧Has K H e y∧d.depth≤60∧Q (.bl (PyData.eqv d e)) H
noncomputable def rNeD (K : PySem.W.Frag) : R2:=fun x y H Q=>∃ d e,Has K H d x∧Has K H e y∧d.depth≤60∧Q (.bl (!PyData.eqv d e)) H
section
variable {X : Cx}
theorem op_eqD (hu : X.A.units + 64 < cLine) : OpR X (compareOp .Eq) (rEqD X.K):=by
 intro pins s σ H x y v u Q I rx ry h
 obtain ⟨d,e,hd,he,hk,q⟩:=h
 obtain ⟨as,ra⟩:=hd.reads I rx
 obtain ⟨bs,rb⟩:=he.reads I ry
 exact SeqAt.compareEq_reads ra rb hd.can he.can (by have:=Nat.min_le_left d.depth e.depth; omega) ⟨.bl _,H,I,rfl,q⟩
theorem op_neD (hu : X.A.units + 64 < cLine) : OpR X (compareOp .NotEq) (rNeD X.K):=by
 intro pins s σ H x y v u Q I rx ry h
 obtain ⟨d,e,hd,he,hk,q⟩:=h
 obtain ⟨as,ra⟩:=hd.reads I rx
 obtain ⟨bs,rb⟩:=he.reads I ry
 exact SeqAt.compareNe_reads ra rb hd.can he.can (by have:=Nat.min_le_left d.depth e.depth; omega) ⟨.bl _,H,I,rfl,q⟩
end
end L2
namespace L2
open PySem PySem.Spec PyProof.Rows
noncomputable def vR (i : Nat) : TE:=fun σ H Q=>match σ[i]? with
 | some (some v)=>Q v H
 | _=>False
noncomputable def visB (sc : Scope) (x : Str) : Bool:=match sc.names.lookup x with
 | some .local=>true
 | some .cell=>true
 | some .free=>true
 | _=>false
noncomputable def locB (sc : Scope) (x : Str) : Bool:=match sc.names.lookup x with
 | some .local=>true
 | some .cell=>true
 | _=>false
noncomputable def glB (sc : Scope) (x : Str) : Bool:=match sc.names.lookup x with
 | some .globalImplicit=>true
 | _=>false
noncomputable def visC (sc : Scope) (x : Str) : Bool:=match sc.names.lookup x with
 | some .local=>true
 | some .free=>true
 | _=>false
noncomputable def plain (x : Str) : Bool:=!(x == ("__debug__" : Str)) && !(x == ("__classdict__" : Str))
theorem vis_of {sc : Scope} {x : Str} (h : visB sc x = true) : Vis sc x:=by
 unfold visB at h
 split at h
 ·rename_i e; exact .inl e
 ·rename_i e; exact .inr (.inl e)
 ·rename_i e; exact .inr (.inr e)
 ·cases h
theorem lo {sc : Scope} {x : Str} (h : locB sc x = true) : Loc sc x:=by
 unfold locB at h
 split at h
 ·rename_i e; exact .inl e
 ·rename_i e; exact .inr e
 ·cases h
theorem visC_of {sc : Scope} {env : Env} {x : Str} (h : visC sc x = true) : Vis (relabel sc env) x:=by
 unfold visC at h
 split at h
 ·rename_i e; exact .inl (lookup_relabel_local e)
 ·rename_i e; exact .inr (relabel_free e)
 ·cases h
noncomputable def locC (sc : Scope) (x : Str) : Bool:=match sc.names.lookup x with
 | some .local=>true
 | _=>false
theorem loC {sc : Scope} {env : Env} {x : Str} (h : locC sc x = true) : (relabel sc env).names.lookup x = some .local:=by
 unfold locC at h
 split at h
 ·rename_i e; exact lookup_relabel_local e
 ·cases h
theorem relabel_glob {env : Env} {x : Str} : ∀ {names : List (Str × NameKind)},names.lookup x = some .globalImplicit →
  (names.map fun (n,k)=>if (k == NameKind.free && env.scope.kind == .function && env.kindOf n == some .cell) then (n,NameKind.cell) else (n,k)).lookup x = some .globalImplicit
 | [],h=>by simp at h
 | (n,j) :: r,h=>by
  have ih:=@relabel_glob env x r
  show List.lookup x ((if (j == NameKind.free && env.scope.kind == .function && env.kindOf n == some .cell) = true then (n,NameKind.cell) else (n,j)) :: _) = _
  by_cases hc : (j == NameKind.free && env.scope.kind == .function && env.kindOf n == some .cell) = true
  ·rw [if_pos hc,List.lookup_cons]
   rw [List.lookup_cons] at h
   cases hx : x == n with
   | true =>
    rw [hx] at h
    simp only [Bool.and_eq_true] at hc
    have ej : j = .free:=eq_of_beq hc.1.1
    rw [ej] at h; cases h
   | false=>rw [hx] at h; exact ih h
  ·rw [if_neg hc,List.lookup_cons]
   rw [List.lookup_cons] at h
   cases hx : x == n with
   | true=>rw [hx] at h; exact h
   | false=>rw [hx] at h; exact ih h
section
variable {X : Cx}
theorem gl {sc : Scope} {x : Str} (h : glB sc x = true) (hs : X.env.scope = sc:=by rfl) : Gl X x:=by
 unfold glB at h
 split at h
 ·rename_i e; show X.env.scope.names.lookup x = _; rw [hs]; exact e
 ·cases h
theorem vR_of {e : Expr} {i : Nat} (h : PE X e (tVar i)) : PE X e (vR i):=h.imp fun σ H Q h=>by
 unfold vR at h
 unfold tVar
 split at h
 ·rename_i v e; exact ⟨v,e,h⟩
 ·exact h.elim
theorem plain_of {x : Str} (h : plain x = true) : (x == ("__debug__" : Str)) = false∧(x == ("__classdict__" : Str)) = false:=by
 unfold plain at h
 simpa using h
theorem pV {N : List Str} {sc : Scope} (vt : N.all (fun x=>visB sc x && plain x) = true) (i : Nat) {x : Str} {pos : Pos} (hN : X.N[i]? = some x:=by rfl) (hXN : X.N = N:=by rfl) (hXs : X.env.scope = sc:=by rfl) : PE X (.Name x pos) (vR i):=by
 have h:=List.all_eq_true.mp vt x (by rw [← hXN]; exact List.mem_of_getElem? hN)
 rw [Bool.and_eq_true] at h
 exact vR_of (pe_var hN (by rw [hXs]; exact vis_of h.1) (plain_of h.2).1 (plain_of h.2).2)
end
section
variable {X : Cx} {scope : Scope} {N' : List Str} {cl : List (Str × Addr)} {C : Addr} {s₀ : Shared} {H₀ : Hp} {ex : List Addr} {x : Str} {pos : Pos}
theorem pVc (vt : N'.all (fun x=>visC scope x && plain x) = true) (i : Nat) (hN : N'[i]? = some x:=by rfl) : PE (lcCx X scope N' cl C s₀ H₀ ex) (.Name x pos) (vR i):=by
 have h:=List.all_eq_true.mp vt x (List.mem_of_getElem? hN)
 rw [Bool.and_eq_true] at h
 exact vR_of (pe_var hN (visC_of (env:=X.env) h.1) (plain_of h.2).1 (plain_of h.2).2)
theorem pgC {i : Nat} (hN : N'.Nodup) (h : locC scope x = true) (hi : N'[i]? = some x:=by rfl) : PG (lcCx X scope N' cl C s₀ H₀ ex) (.Name x pos) (gName i) :=
 pg_name hN hi (.inl (loC (env:=X.env) h)) (.inr (loC (env:=X.env) h))
theorem glC (h : glB scope x = true) : Gl (lcCx X scope N' cl C s₀ H₀ ex) x:=by
 unfold glB at h
 split at h
 ·rename_i e; show (relabel scope X.env).names.lookup x = _; exact relabel_glob e
 ·cases h
end
section
variable {X : Cx}
theorem OpR.imp {f : Value→Value→Sem Value} {r r' : R2} (h : OpR X f r) (hi : ∀ x y H Q,r' x y H Q→r x y H Q) : OpR X f r':=fun pins s σ H x y v u Q I rx ry q=>h pins s σ H x y v u Q I rx ry (hi x y H Q q)
theorem IxR.imp {r r' : R2} (h : IxR X r) (hi : ∀ x y H Q,r' x y H Q→r x y H Q) : IxR X r':=fun a b pins s σ H x y v u Q I rx ry q=>h a b pins s σ H x y v u Q I rx ry (hi x y H Q q)
theorem UnR.imp {f : Value→Sem Value} {r r' : V→Hp→VK→Prop} (h : UnR X f r) (hi : ∀ x H Q,r' x H Q→r x H Q) : UnR X f r':=fun pins s σ H x v Q I rx q=>h pins s σ H x v Q I rx (hi x H Q q)
theorem CallR.imp {f : Value} {r r' : List V→Hp→VK→Prop} (h : CallR X f r) (hi : ∀ xs H Q,r' xs H Q→r xs H Q) : CallR X f r':=fun pins s σ H xs us Q I rx q=>h pins s σ H xs us Q I rx (hi xs H Q q)
theorem PIp.imp {op : Operator} {r r' : TIp} (h : PIp X op r) (hi : ∀ x y H Q,r' x y H Q→r x y H Q) : PIp X op r':=fun pins s σ H x y v u Q I rx ry q=>h pins s σ H x y v u Q I rx ry (hi x y H Q q)
theorem PSet.imp {r r' : TSet} (h : PSet X r) (hi : ∀ x y z H Q,r' x y z H Q→r x y z H Q) : PSet X r':=fun pins s σ H x y z v u w Q I rx ry rz q=>h pins s σ H x y z v u w Q I rx ry rz (hi x y z H Q q)
end
noncomputable def rM (g : Int→Int→V) : R2:=fun x y H Q=>match x,y with
 | .int i,.int j=>Q (g i j) H
 | _,_=>False
noncomputable def rMC (C : Int→Int→Prop) (g : Int→Int→V) : R2:=fun x y H Q=>match x,y with
 | .int i,.int j=>C i j∧Q (g i j) H
 | _,_=>False
noncomputable def isNon : V→Bool
 | .non=>true
 | _=>false
theorem isNon_eq (x : V) : decide (x = .non) = isNon x:=by cases x <;> simp [isNon]
section
variable {X : Cx}
theorem opM {f : Value→Value→Sem Value} {g : Int→Int→V} (h : OpR X f (rI0 g)) : OpR X f (rM g):=h.imp fun x y H Q q=>by
 cases x <;> first | exact False.elim q | (cases y <;> first | exact False.elim q | exact ⟨_,_,rfl,rfl,q⟩)
theorem opMC {f : Value→Value→Sem Value} {C : Int→Int→Prop} {g : Int→Int→V} (h : OpR X f (rI C g)) : OpR X f (rMC C g):=h.imp fun x y H Q q=>by
 cases x <;> first | exact False.elim q | (cases y <;> first | exact False.elim q | exact ⟨_,_,rfl,rfl,q.1,q.2⟩)
theorem oAdd : OpR X (binaryOp .Add) (rM fun i j=>.int (i + j)):=opM op_add
theorem oSub : OpR X (binaryOp .Sub) (rM fun i j=>.int (i - j)):=opM op_sub
theorem oMul : OpR X (binaryOp .Mult) (rMC CMulB fun i j=>.int (i * j)):=opMC op_mulB
theorem oDiv : OpR X (binaryOp .FloorDiv) (rMC CDivB fun i j=>.int (i / j)):=opMC op_fdivB
theorem oMod : OpR X (binaryOp .Mod) (rMC (fun _ j=>0 < j) fun i j=>.int (i % j)):=opMC op_mod
theorem oPow : OpR X (binaryOp .Pow) (rMC CPow fun i j=>.int (i ^ j.toNat)):=opMC op_pow
theorem oXor : OpR X (binaryOp .BitXor) (rM fun i j=>.int (Builtin.bitXor i j)):=opM op_xor
theorem oLt : OpR X (compareOp .Lt) (rM fun i j=>.bl (decide (i < j))):=opM op_lt
theorem oLe : OpR X (compareOp .LtE) (rM fun i j=>.bl (decide (i≤j))):=opM op_le
theorem oGt : OpR X (compareOp .Gt) (rM fun i j=>.bl (decide (j < i))):=opM op_gt
theorem oGe : OpR X (compareOp .GtE) (rM fun i j=>.bl (decide (j≤i))):=opM op_ge
noncomputable def rIsN : R2:=fun x y H Q=>match y with
 | .non=>Q (.bl (isNon x)) H
 | _=>False
noncomputable def rNotN : R2:=fun x y H Q=>match y with
 | .non=>Q (.bl (!isNon x)) H
 | _=>False
theorem oIsN : OpR X (compareOp .Is) rIsN:=op_isN.imp fun x y H Q q=>by
 cases y <;> first | exact False.elim q | (refine ⟨rfl,?_⟩; rw [isNon_eq]; exact q)
theorem oNotN : OpR X (compareOp .IsNot) rNotN:=op_notN.imp fun x y H Q q=>by
 cases y <;> first | exact False.elim q | (refine ⟨rfl,?_⟩; rw [isNon_eq]; exact q)
noncomputable def rUM (g : Int→V) : V→Hp→VK→Prop:=fun x H Q=>match x with
 | .int i=>Q (g i) H
 | _=>False
theorem uNeg : UnR X (unaryOp .USub) (rUM fun i=>.int (-i)):=un_neg.imp fun x H Q q=>by
 cases x <;> first | exact False.elim q | exact ⟨_,rfl,q⟩
end
noncomputable def tTM (t : TE) : TT:=fun σ H Q=>t σ H fun x H'=>match x with
 | .bl k=>Q k H'
 | _=>False
noncomputable def tAndM (ta tb : TE) : TE:=fun σ H Q=>ta σ H fun x H1=>match x with
 | .bl c=>if c = true then tb σ H1 Q else Q (.bl false) H1
 | _=>False
noncomputable def tOrM (ta tb : TE) : TE:=fun σ H Q=>ta σ H fun x H1=>match x with
 | .bl c=>if c = true then Q (.bl true) H1 else tb σ H1 Q
 | _=>False
noncomputable def tNotM (ta : TE) : TE:=fun σ H Q=>ta σ H fun x H1=>match x with
 | .bl c=>Q (.bl (!c)) H1
 | _=>False
noncomputable def tChM (r r' : R2) (ta tb tc : TE) : TE:=fun σ H Q=>ta σ H fun x H1=>tb σ H1 fun y H2=>r x y H2 fun z H3=>match z with
 | .bl k=>if k = true then tc σ H3 fun w' H4=>r' y w' H4 Q else Q (.bl false) H3
 | _=>False
section
variable {X : Cx} {a b c e : Expr} {ta tb tc t : TE} {pos : Pos} {rest : List Expr}
theorem ptC {op : CmpOp} {r : R2} (ho : OpR X (compareOp op) r) (ha : PE X a ta) (hb : PE X b tb) (hm : behindInMarks op b = false:=by first | exact nomark _ | rfl) : PT X (.Compare a [op] [b] pos) (tTM (tOp r ta tb)):=by
 intro pins s σ H Q I h
 refine wpAny_isTrue_Compare1 (thn (ha pins s σ H _ I h) fun v s1 ⟨x,H1,I1,r1,q1⟩=>thn (hb pins s1 σ H1 _ I1 q1) fun u s2 ⟨y,H2,I2,r2,q2⟩ =>
  thn (ho pins s2 σ H2 x y v u _ I2 r1 r2 q2) fun c s3 ⟨z,H3,I3,r3,q3⟩=>?_) hm
 cases z <;> first | exact False.elim q3 | (cases r3; exact wpAny_truthy_bool ⟨H3,I3,q3⟩)
theorem peC {op : CmpOp} {r : R2} (ho : OpR X (compareOp op) r) (ha : PE X a ta) (hb : PE X b tb) (hm : behindInMarks op b = false:=by first | exact nomark _ | rfl) : PE X (.Compare a [op] [b] pos) (tOp r ta tb):=pe_cmpR ho ha hb hm
theorem ptV (h : PE X e t) (he : ∀ whole,isTrue e X.env whole = (do let v ← whole; standAt e.pos; holding [v] (truthy v)):=by intro _; rfl) : PT X e (tTM t):=by
 intro pins s σ H Q I hw
 refine isTrue_plain (thn (h pins s σ H _ I hw) fun v s1 ⟨x,H1,I1,r1,q1⟩=>?_) (he _)
 cases x <;> first | exact False.elim q1 | (cases r1; exact wpAny_truthy_bool ⟨H1,I1,q1⟩)
theorem peAnd (ha : PE X a ta) (hb : PE X (.BoolOp .And (b :: rest) pos) tb) : PE X (.BoolOp .And (a :: b :: rest) pos) (tAndM ta tb):=by
 intro pins s σ H Q I h
 refine BoolOp_and (thn (ha pins s σ H _ I h) fun v s1 ⟨x,H1,I1,r1,q1⟩=>?_)
 cases x with
 | bl c =>
  cases r1
  refine wpAny_truthy_bool ?_
  cases c with
  | true=>exact hb pins s1 σ H1 Q I1 q1
  | false=>exact ⟨.bl false,H1,I1,rfl,q1⟩
 | _=>exact False.elim q1
theorem peNot (ha : PE X a ta) : PE X (.UnaryOp .Not a pos) (tNotM ta):=by
 intro pins s σ H Q I h
 refine UnaryOp_ (thn (ha pins s σ H _ I h) fun v s1 ⟨x,H1,I1,r1,q1⟩=>?_)
 cases x with
 | bl c=>cases r1; exact not_of (wpAny_truthy_bool ⟨.bl (!c),H1,I1,rfl,q1⟩)
 | _=>exact False.elim q1
end
noncomputable def rIxLM (K : PySem.W.Frag) : R2:=fun x y H Q=>match x,y with
 | .ref p,.int i=>∃ xs v,SqL K H p xs∧atI xs i = some v∧Q v H
 | _,_=>False
noncomputable def rIxTM (K : PySem.W.Frag) : R2:=fun x y H Q=>match x,y with
 | .ref p,.int i=>∃ xs v,SqT K H p xs∧atI xs i = some v∧Q v H
 | _,_=>False
noncomputable def rIxD (K : PySem.W.Frag) : R2:=fun x y H Q=>match y with
 | .int i=>∃ ds n,(Has K H (.list ds) x∨Has K H (.tuple ds) x)∧atI ds i = some (.int n)∧Q (.int n) H
 | _=>False
section
variable {X : Cx} {a b o e : Expr} {ta tb to te : TE} {pos apos cpos : Pos}
theorem ixL : IxR X (rIxLM X.K):=ix_list.imp fun x y H Q q=>by
 cases x <;> first | exact False.elim q | (cases y <;> first | exact False.elim q | (obtain ⟨xs,v,h1,h2,h3⟩:=q; exact ⟨_,xs,_,v,rfl,rfl,h1,h2,h3⟩))
theorem ixT : IxR X (rIxTM X.K):=ix_tup.imp fun x y H Q q=>by
 cases x <;> first | exact False.elim q | (cases y <;> first | exact False.elim q | (obtain ⟨xs,v,h1,h2,h3⟩:=q; exact ⟨_,xs,_,v,rfl,rfl,h1,h2,h3⟩))
theorem ixN_len {n m : Nat} {i : Int} (h : n = m) : ixN n i = ixN m i:=by rw [h]
theorem ixD : IxR X (rIxD X.K):=(ix_list.or ix_tup).imp fun x y H Q q=>by
 cases y <;> first | exact False.elim q | skip
 rename_i i
 obtain ⟨ds,n,hh,h2,h3⟩:=q
 have go : ∀ xs,HasL X.K H ds xs→atI xs i = some (.int n):=fun xs hl=>by
  unfold atI at h2 ⊢
  rw [ixN_len hl.length.symm]
  cases e : ixN ds.length i with
  | none=>rw [e] at h2; cases h2
  | some j =>
   rw [e] at h2
   obtain ⟨v,q1,q2⟩:=hl.at h2
   have q2' : v = .int n:=q2
   rw [← q2']; exact q1
 rcases hh with ⟨p,xs,rfl,hq,hl⟩ | ⟨p,xs,rfl,hq,hl⟩
 ·exact .inl ⟨p,xs,i,_,rfl,rfl,hq,go xs hl,h3⟩
 ·exact .inr ⟨p,xs,i,_,rfl,rfl,hq,go xs hl,h3⟩
theorem peIx {r : R2} (hr : IxR X r) (ha : PE X a ta) (hb : PE X b tb) (hs : PlainIx b:=by intro _ _; rfl) : PE X (.Subscript a b pos) (tOp r ta tb):=pe_ix hr ha hb hs
noncomputable def rSetM : TSet:=fun o i v H Q=>match o,i with
 | .ref p,.int k=>∃ xs j,H p = some (.lst xs)∧ixN xs.length k = some j∧Q (upd H p (.lst (xs.set j v)))
 | _,_=>False
theorem setL : PSet X rSetM:=set_list.imp fun x y z H Q q=>by
 cases x <;> first | exact False.elim q | (cases y <;> first | exact False.elim q | (obtain ⟨xs,j,h1,h2,h3⟩:=q; exact ⟨_,xs,_,j,rfl,rfl,h1,h2,h3⟩))
noncomputable def rLenM (K : PySem.W.Frag) : List V→Hp→VK→Prop:=fun xs H Q=>match xs with
 | [.ref p]=>∃ ys,(SqL K H p ys∨SqT K H p ys)∧Q (.int ys.length) H
 | _=>False
theorem cLen : CallR X (.builtin "len") (rLenM X.K):=call_len_seq.imp fun xs H Q q=>by
 match xs,q with
 | [.ref p],⟨ys,h1,h2⟩=>exact ⟨p,ys,rfl,h1,h2⟩
noncomputable def rAbsM : List V→Hp→VK→Prop:=fun xs H Q=>match xs with
 | [.int i]=>Q (.int (if i < 0 then -i else i)) H
 | _=>False
noncomputable def rListM (K : PySem.W.Frag) : List V→Hp→VK→Prop:=fun xs H Q=>match xs with
 | [.ref p]=>∃ ys,(SqL K H p ys∨SqT K H p ys)∧∀ l,H l = none→Q (.ref l) (upd H l (.lst ys))
 | _=>False
theorem cList : CallR X (.type "list") (rListM X.K):=call_list_of.imp fun xs H Q q=>by
 match xs,q with
 | [.ref p],⟨ys,h1,h2⟩=>exact ⟨p,ys,rfl,h1,h2⟩
noncomputable def rSumM (K : PySem.W.Frag) : List V→Hp→VK→Prop:=fun xs H Q=>match xs with
 | [.ref p]=>∃ ns : List Int,SqL K H p (ns.map V.int)∧Q (.int ns.sum) H
 | _=>False
theorem cSum (hc : X.calm = true) : CallR X (.builtin "sum") (rSumM X.K):=(call_sumL hc).imp fun xs H Q q=>by
 match xs,q with
 | [.ref p],⟨ys,h1,h2⟩=>exact ⟨p,ys,rfl,h1,h2⟩
noncomputable def rMinM (K : PySem.W.Frag) : List V→Hp→VK→Prop:=fun xs H Q=>match xs with
 | [.ref p]=>∃ ns : List Int,SqL K H p (ns.map V.int)∧0 < ns.length∧∀ M,M∈ns→(∀ a,a∈ns→M≤a)→Q (.int M) H
 | _=>False
theorem cMin (hc : X.calm = true) : CallR X (.builtin "min") (rMinM X.K):=(call_minL hc).imp fun xs H Q q=>by
 match xs,q with
 | [.ref p],⟨ys,h1,h2,h3⟩=>exact ⟨p,ys,rfl,h1,h2,h3⟩
noncomputable def rAppM : V→List V→Hp→VK→Prop:=fun x vs H Q=>match x,vs with
 | .ref l,[y]=>∃ ys,H l = some (.lst ys)∧ys.length < sizeLine∧Q .non (upd H l (.lst (ys ++ [y])))
 | _,_=>False
theorem mApp : MtR X "list.append" rAppM:=fun pins s σ H x xs v us Q I rx rv q=>mt_append pins s σ H x xs v us Q I rx rv (by
 match x,xs,q with
 | .ref l,[y],⟨ys,h1,h2,h3⟩=>exact ⟨l,ys,y,rfl,rfl,h1,h2,h3⟩)
theorem peApp {to : TE} {t : TA} (ho : PE X o to) (ha : PA X [e] t)
  (hbase : attributeBase o "append" X.env (eval o X.env) = eval o X.env:=by rfl)
  (hfew : ((backTo cpos (starEach [e] X.env)).all (fun x=>!x.1) && (backToKw cpos (keywordEach [] X.env)).all (fun x=>x.1.isSome)
   && decide (([e] : List Expr).length + ([] : List Keyword).length + (if ([] : List Keyword).isEmpty then 0 else 1) < 30)) = true:=by rfl)
  (hline : (apos.endLine == cpos.line) = true:=by rfl) (hs : starEach [e] X.env = (false,eval e X.env) :: starEach [] X.env:=by rfl) (hplain : (backTo cpos (starEach [] X.env)).any (·.1) = false:=by rfl) :
  PE X (.Call (.Attribute o "append" apos) [e] [] cpos) (tBM X.K "list" rAppM to t):=pe_bm PySem.F.plainAttrs_list PySem.F.slot_list_append PySem.F.type_list_append mApp ho ha hbase hfew hline hs hplain
structure Cal (P : Program) (w : World) (K : PySem.W.Frag) (mg : Str→Option Value) (base : Heap) (k : Nat) (x : Str) (ps : List Str) (sp : Sp) : Prop where
 ex : ∃ f fd,FnOk P w K mg base CX0 k f fd ps sp∧mg x = some (.ref f)∧PySem.W.keepIn K (.ref f) = true∧Binds K fd ps []
theorem peCal {k : Nat} {x : Str} {ps : List Str} {sp : Sp} {p : Pos} {es : List Expr} {t : TA} (C : Cal X.prog X.w X.K X.mg X.base k x ps sp) (hr : Room k X.A) (hg : Gl X x) (ha : PA X (e :: es) t)
  (hdb : (x == ("__debug__" : Str)) = false:=by decide) (he : starEach (e :: es) X.env = (false,eval e X.env) :: starEach es X.env:=by rfl) (hpl : (backTo pos (starEach es X.env)).any (·.1) = false:=by rfl) :
  PE X (.Call (.Name x p) (e :: es) [] pos) (tCall sp [] E0 t):=by
 obtain ⟨f,fd,F,hm,hk,hb⟩:=C.ex
 exact pe_call F hr hg hm hk hb .nil pass0 ha hdb he hpl
noncomputable def gNilM : TGs:=fun vs σ H Q=>match vs with
 | []=>Q σ H
 | _=>False
noncomputable def gConsM (t : TG) (u : TGs) : TGs:=fun vs σ H Q=>match vs with
 | v :: r=>t v σ H fun σ' H'=>u r σ' H' Q
 | []=>False
noncomputable def gTupM (K : PySem.W.Frag) (n : Nat) (t : TGs) : TG:=fun v σ H Q=>match v with
 | .ref a=>∃ xs,SqT K H a xs∧xs.length = n∧t xs σ H Q
 | _=>False
theorem pgsNil : PGs X [] gNilM:=by
 intro pins s σ H vs us Q I r h
 cases vs with
 | nil=>cases r; exact assignInOrder_nil ⟨σ,H,I,h⟩
 | cons _ _=>exact False.elim h
theorem pgsCons {es : List Expr} {t : TG} {u : TGs} (h1 : PG X e t) (h2 : PGs X es u)
  (hs : (assignEach (e :: es) X.env).map (·.2) = assign e X.env :: (assignEach es X.env).map (·.2):=by rfl) : PGs X (e :: es) (gConsM t u):=by
 intro pins s σ H vs us Q I r h
 cases vs with
 | nil=>exact False.elim h
 | cons v vr =>
  cases r with
  | cons r rr =>
   rw [hs]
   refine assignInOrder_cons (thn (h1 pins s σ H _ _ _ I r h) fun _ s1 ⟨σ1,H1,I1,q1⟩=>?_)
   exact h2 pins s1 σ1 H1 _ _ Q I1 rr q1
theorem pgTup {es : List Expr} {k n : Nat} {t : TGs} (hc : X.calm = true) (h : PGs X es t)
  (hn : (assignEach es X.env).length = n:=by rfl) (hst : (assignEach es X.env).findIdx? (·.1) = none:=by rfl) : PG X (.Tuple es k pos) (gTupM X.K n t):=by
 intro pins s σ H v u Q I r hw
 cases v with
 | ref a =>
  obtain ⟨xs,hq,hl,hw⟩:=hw
  exact pg_tup hc h hn hst pins s σ H (.ref a) u Q I r ⟨a,xs,rfl,hq,hl,hw⟩
 | _=>exact False.elim hw
noncomputable def tAugM (i : Nat) (te : TE) (ti : TIp) : TS:=fun D σ H=>match σ[i]? with
 | some (some x)=>te σ H fun y H1=>ti x y H1 fun z H2=>D.nx (σ.set i (some z)) H2
 | _=>False
theorem psAug {i : Nat} {x : Str} {op : Operator} {ti : TIp} {pos' : Pos} (hN : X.N.Nodup) (hi : X.N[i]? = some x) (hx : Loc X.env.scope x) (he : PE X e te) (ho : PIp X op ti) (hf : X.fn x = true∨X.env.scope.names.lookup x = some .local:=by first | exact .inl rfl | exact .inr rfl | assumption) :
  PS X (.AugAssign (.Name x pos') op e pos) (tAugM i te ti):=fun pins s σ H D I h=>ps_aug hN hi hx he ho hf pins s σ H D I (by
 unfold tAugM at h
 unfold tAug
 split at h
 ·rename_i v e; exact ⟨v,e,h⟩
 ·exact h.elim)
theorem iAdd : PIp X .Add (rM fun i j=>.int (i + j)):=ip_add.imp fun x y H Q q=>by
 cases x <;> first | exact False.elim q | (cases y <;> first | exact False.elim q | exact ⟨_,_,rfl,rfl,q⟩)
theorem iSub : PIp X .Sub (rM fun i j=>.int (i - j)):=ip_sub.imp fun x y H Q q=>by
 cases x <;> first | exact False.elim q | (cases y <;> first | exact False.elim q | exact ⟨_,_,rfl,rfl,q⟩)
end
end L2
namespace L2
open PySem PySem.Spec PyProof.Rows
theorem cxOf_K {CX : CXT} {P : Program} {w : World} {K : PySem.W.Frag} {mg : Str→Option Value} {base : Heap} {N : List Str} {qual : Str} {scope : Scope} {f : Addr} {cd : Value} {A : Around} {outer : List Env} {s : Shared} {H : Hp} {E : XK} :
  (cxOf CX P w K mg base N qual scope f cd A outer s H E).K = K:=rfl
theorem lcCx_K {X : Cx} {scope : Scope} {N' : List Str} {cl : List (Str × Addr)} {C : Addr} {s : Shared} {H : Hp} {ex : List Addr} : (lcCx X scope N' cl C s H ex).K = X.K:=rfl
noncomputable def forRd (J : It) (g : TG) (tb : TS) (D : Ends) (σ : St) (H1 : Hp) : Prop:=∃ W : Nat→Nat→St→Hp→Prop,(∃ m,W 0 m σ H1)∧∀ i m σ H,W i m σ H →
 (J.stop i H∧D.nx σ H)∨(J.go i H∧∃ N : St→Hp→Prop,(∀ σ' H',N σ' H'→∃ m',m' < m∧W (i + 1) m' σ' H')∧∀ x H',J.yld i H x H'→g x σ H' fun σ2 H2=>tb { D with nx:=N,ct:=N,bk:=D.nx } σ2 H2)
theorem tFor_eq {wi : TI} {g : TG} {tb : TS} {D : Ends} {σ : St} {H : Hp} : tFor wi g tb D σ H = wi σ H fun J H1=>forRd J g tb D σ H1:=rfl
theorem forE {K : PySem.W.Frag} {a : Addr} {xs : List V} {g : TG} {tb : TS} {D : Ends} {σ : St} {H : Hp} (Pv : Nat→St→Hp→Prop) (h0 : Pv 0 σ H) (hl : ∀ i σ H,i≤xs.length→Pv i σ H→SqL K H a xs)
  (hs : ∀ i x σ H p,xs[i]? = some x→Pv i σ H→H p = none→g (.ref p) σ (upd H p (.tup [.int (i : Int),x])) fun σ2 H2=>tb { D with nx:=Pv (i + 1),ct:=Pv (i + 1),bk:=D.nx } σ2 H2) (hd : ∀ σ H,Pv xs.length σ H→D.nx σ H) :
  forRd (Ite K a) g tb D σ H:=by
 refine ⟨fun i m σ H=>m = xs.length - i∧i≤xs.length∧Pv i σ H,⟨xs.length,by simp,Nat.zero_le _,h0⟩,?_⟩
 rintro i m σ H ⟨rfl,hi,p⟩
 have q:=hl i σ H hi p
 by_cases hlt : i < xs.length
 ·refine .inr ⟨⟨xs,xs[i],q,by simp [hlt]⟩,Pv (i + 1),fun σ' H' p'=>⟨xs.length - (i + 1),by omega,rfl,hlt,p'⟩,fun x H' y=>?_⟩
  obtain ⟨pp,z,hn,e1,hz,e2⟩:=y
  subst e1 e2
  exact hs i z σ _ pp (hz xs q) p hn
 ·have e : i = xs.length:=by omega
  subst e
  exact .inl ⟨⟨xs,q,Nat.le_refl _⟩,hd σ H p⟩
theorem CapK.nil : CapK [] []:=CapK.refl
theorem CapK.skip {a b : St} {x : Option V} (h : CapK a b) : CapK (none :: a) (x :: b):=fun j v e=>by
 cases j with
 | zero=>simp at e
 | succ j=>exact h j v (by simpa using e)
theorem ixN_last {n : Nat} (h : 0 < n) : ixN n (-1) = some (n - 1):=by
 unfold ixN
 rw [if_neg (by decide),if_pos (by omega)]
 congr 1
 omega
noncomputable def hide (D : Addr) (H : Hp) : Hp:=fun b=>if b = D then none else H b
theorem hide_same {D : Addr} {H : Hp} : Same (hide D H) H:=fun b o e=>by
 unfold hide at e
 split at e
 ·cases e
 ·exact e
theorem hide_at {D : Addr} {H : Hp} : hide D H D = none:=by unfold hide; rw [if_pos rfl]
theorem hide_ne {D b : Addr} {H : Hp} (h : b ≠ D) : hide D H b = H b:=by unfold hide; rw [if_neg h]
theorem hide_upd {D : Addr} {H : Hp} {o : HO} : hide D (upd H D o) = hide D H:=by
 funext b
 unfold hide upd
 split <;> rfl
theorem hide_new {D : Addr} {H : Hp} (h : H D = none) : hide D H = H:=by
 funext b
 unfold hide
 split
 ·rename_i e; rw [e]; exact h.symm
 ·rfl
theorem same_hide {D : Addr} {H G : Hp} (h : H D = none) (s : Same H G) : Same H (hide D G):=fun b o e=>by
 rw [hide_ne (ne_of_none e h)]; exact s b o e
theorem hide_same_hide {D : Addr} {H G : Hp} (s : Same H G) : Same (hide D H) (hide D G):=fun b o e=>by
 unfold hide at e ⊢
 split at e
 ·cases e
 ·rename_i hb; rw [if_neg hb]; exact s b o e
theorem same_upd_new {H : Hp} {p : Addr} {o : HO} (h : H p = none) : Same H (upd H p o):=fun b u e=>by rw [upd_ne (ne_of_none e h)]; exact e
theorem lcR {lo : Int} {n : Nat} {cap : List (Option Nat)} {g : TG} {te : TE} {σ : St} {H1 : Hp} {Q : VK} (hz : n < sizeLine) (I : Nat→List V→Hp→Prop) (h0 : I 0 [] H1)
  (hs : ∀ D i ys H (N : VK),i < n→H D = some (.lst ys)→H1 D = none→ys.length = i→Same H1 (hide D H)→I i ys (hide D H) →
   (∀ y H4,H4 D = some (.lst ys)→Same (hide D H) (hide D H4)→I (i + 1) (ys ++ [y]) (hide D H4)→N y H4)→g (.int (lo + i)) (capSt cap σ) H fun σ2 H2=>CapK (capSt cap σ) σ2∧te σ2 H2 N)
  (hQ : ∀ D ys H,H D = some (.lst ys)→H1 D = none→ys.length = n→Same H1 (hide D H)→I n ys (hide D H)→Q (.ref D) H) : lcRd (Itr lo n) cap g tTrue te σ H1 Q:=by
 intro D hD
 refine ⟨fun i m H=>m = n - i∧i≤n∧∃ ys,H D = some (.lst ys)∧ys.length = i∧Same H1 (hide D H)∧I i ys (hide D H),⟨_,rfl,Nat.zero_le _,[],upd_same,rfl,by rw [hide_upd,hide_new hD]; exact Same.refl _,by rw [hide_upd,hide_new hD]; exact h0⟩,?_⟩
 rintro i m H ⟨rfl,hi,ys,hDl,hlen,hsame,hI⟩
 by_cases hlt : i < n
 ·refine .inr ⟨hlt,fun x H' y=>?_⟩
  obtain ⟨e,e2⟩:=y
  subst e e2
  refine hs D i ys _ _ hlt hDl hD hlen hsame hI fun v H4 q1 q2 q3=>?_
  refine ⟨ys,q1,by omega,n - (i + 1),by omega,rfl,hlt,ys ++ [v],upd_same,by simp [hlen],?_,?_⟩
  ·rw [hide_upd]; exact hsame.trans q2
  ·rw [hide_upd]; exact q3
 ·have e : i = n:=by omega
  subst e
  exact .inl ⟨Nat.le_refl _,hQ D ys H hDl hD hlen hsame hI⟩
end L2
namespace L2
open PySem
theorem PT.imp {X : Cx} {e : Expr} {t t' : TT} (h : PT X e t) (ht : ∀ σ H Q,t' σ H Q→t σ H Q) : PT X e t':=fun pins s σ H Q I q=>h pins s σ H Q I (ht σ H Q q)
theorem PW.imp {X : Cx} {e : Expr} {t t' : TT} (h : PW X e t) (ht : ∀ σ H Q,t' σ H Q→t σ H Q) : PW X e t':=fun wh pins s σ H Q I q=>h wh pins s σ H Q I (ht σ H Q q)
theorem PS.imp {X : Cx} {e : Stmt} {t t' : TS} (h : PS X e t) (ht : ∀ D σ H,t' D σ H→t D σ H) : PS X e t':=fun pins s σ H Q I q=>h pins s σ H Q I (ht Q σ H q)
theorem PSs.imp {X : Cx} {e : List Stmt} {t t' : TS} (h : PSs X e t) (ht : ∀ D σ H,t' D σ H→t D σ H) : PSs X e t':=fun pins s σ H Q I q=>h pins s σ H Q I (ht Q σ H q)
theorem PA.imp {X : Cx} {e : List Expr} {t t' : TA} (h : PA X e t) (ht : ∀ σ H Q,t' σ H Q→t σ H Q) : PA X e t':=fun pos pins s σ H Q I q=>h pos pins s σ H Q I (ht σ H Q q)
theorem PG.imp {X : Cx} {e : Expr} {t t' : TG} (h : PG X e t) (ht : ∀ v σ H Q,t' v σ H Q→t v σ H Q) : PG X e t':=fun pins s σ H v u Q I r q=>h pins s σ H v u Q I r (ht v σ H Q q)
theorem PI.imp {X : Cx} {tg e : Expr} {t t' : TI} (h : PI X tg e t) (ht : ∀ σ H Q,t' σ H Q→t σ H Q) : PI X tg e t':=fun pins s σ H Q I q=>h pins s σ H Q I (ht σ H Q q)
theorem PO.imp {X : Cx} {e : Option Expr} {t t' : TO} (h : PO X e t) (ht : ∀ σ H Q,t' σ H Q→t σ H Q) : PO X e t':=fun pins s σ H Q I q=>h pins s σ H Q I (ht σ H Q q)
end L2
namespace VM
open PySem L2
noncomputable abbrev St:=L2.St
inductive Tg where
 | fr | ow | io | rf | ce
 deriving DecidableEq
noncomputable def Tg.dat : Tg→Bool
 | .rf=>false
 | .ce=>false
 | _=>true
noncomputable def Tg.own : Tg→Bool
 | .fr=>false
 | .rf=>false
 | _=>true
noncomputable abbrev GS:=List (Option (Tg × PyData))
noncomputable abbrev VE:=GS→Option PyData
noncomputable def imo : HO→Bool
 | .tup _=>true
 | .frz _ (.tup _)=>true
 | _=>false
structure Grow (F H F' H' : Hp) : Prop where
 hh : Same H H'
 ff : Same F F'
 fh : Same F' H'
 new : ∀ a o,F' a = some o→F a = some o∨H a = none∨imo o = true
 pl : ∀ a o u,F' a = some (.frz o (.lst u))→F a = some (.frz o (.lst u))
theorem Grow.refl {F H : Hp} (h : Same F H) : Grow F H F H:=⟨Same.refl _,Same.refl _,h,fun _ _ e=>.inl e,fun _ _ _ e=>e⟩
theorem Grow.trans {F H F1 H1 F2 H2 : Hp} (a : Grow F H F1 H1) (b : Grow F1 H1 F2 H2) : Grow F H F2 H2:=⟨a.hh.trans b.hh,a.ff.trans b.ff,b.fh,fun p o e=>by
 rcases b.new p o e with h | h | h
 ·exact a.new p o h
 ·exact .inr (.inl (a.hh.free h))
 ·exact .inr (.inr h),fun p o u e=>a.pl p o u (b.pl p o u e)⟩
theorem Grow.alloc {F H : Hp} {p : Addr} {o : HO} (h : Same F H) (hp : H p = none) : Grow F H F (upd H p o) :=
 ⟨same_upd_new hp,Same.refl _,h.trans (same_upd_new hp),fun _ _ e=>.inl e,fun _ _ _ e=>e⟩
theorem Grow.allocF {F H : Hp} {p : Addr} {o : HO} (h : Same F H) (hp : H p = none) (ho : ∀ x u,o ≠ .frz x u:=by intros; intro z; cases z) : Grow F H (upd F p o) (upd H p o):=by
 have hF : F p = none:=h.free hp
 refine ⟨same_upd_new hp,same_upd_new hF,fun b u e=>?_,fun b u e=>?_,fun b x u e=>?_⟩
 ·by_cases hb : b = p
  ·subst hb; rw [upd_same] at e ⊢; exact e
  ·rw [upd_ne hb] at e ⊢; exact h b u e
 ·by_cases hb : b = p
  ·subst hb; exact .inr (.inl hp)
  ·rw [upd_ne hb] at e; exact .inl e
 ·by_cases hb : b = p
  ·subst hb; rw [upd_same] at e; exact absurd (Option.some.inj e) (ho _ _)
  ·rw [upd_ne hb] at e; exact e
mutual
noncomputable def imm : PyData→Bool
 | .none=>true
 | .bool _=>true
 | .int _=>true
 | .str _=>true
 | .tuple ds=>immL ds
 | _=>false
noncomputable def immL : List PyData→Bool
 | []=>true
 | d :: ds=>imm d && immL ds
end
noncomputable def wide (F H : Hp) : Hp:=fun a=>match H a with
 | some o=>if imo o = true then some o else F a
 | none=>none
theorem wide_imo {F H : Hp} {a : Addr} {o : HO} (h : H a = some o) (hi : imo o = true) : wide F H a = some o:=by
 unfold wide; rw [h]; simp only [hi,if_true]
theorem wide_grow {F H F1 H' : Hp} (g : Grow F H F1 H') : Grow F H (wide F1 H') H':=by
 have key : ∀ a o,F1 a = some o→wide F1 H' a = some o:=fun a o e=>by
  have e2:=g.fh a o e
  unfold wide; rw [e2]
  by_cases hi : imo o = true
  ·simp only [hi,if_true]
  ·simp only [hi]; exact e
 refine ⟨g.hh,fun a o e=>key a o (g.ff a o e),fun a o e=>?_,fun a o e=>?_,fun a x u e=>?_⟩
 ·unfold wide at e
  cases q : H' a with
  | none=>rw [q] at e; cases e
  | some u =>
   rw [q] at e
   by_cases hi : imo u = true
   ·simp only [hi,if_true] at e; exact e
   ·simp only [hi] at e
    rw [← q]; exact g.fh a o e
 ·unfold wide at e
  cases q : H' a with
  | none=>rw [q] at e; cases e
  | some u =>
   rw [q] at e
   by_cases hi : imo u = true
   ·simp only [hi,if_true] at e
    cases e
    exact .inr (.inr hi)
   ·simp only [hi] at e
    exact g.new a o e
 ·unfold wide at e
  cases q : H' a with
  | none=>rw [q] at e; cases e
  | some w =>
   rw [q] at e
   by_cases hi : imo w = true
   ·simp only [hi,if_true] at e
    cases e
    cases hi
   ·simp only [hi] at e
    exact g.pl a x u e
theorem wide_none {F H : Hp} {a : Addr} {xs : List V} (h : H a = some (.lst xs)) (hf : F a = none) : wide F H a = none:=by
 unfold wide; rw [h]; simpa [imo] using hf
theorem wide_tup {K : PySem.W.Frag} {F H : Hp} {a : Addr} {xs : List V} (h : SqT K H a xs) : SqT K (wide F H) a xs:=by
 rcases h with (h | ⟨o,h⟩) | h
 ·exact .inl (.inl (wide_imo h rfl))
 ·exact .inl (.inr ⟨o,wide_imo h rfl⟩)
 ·exact .inr h
mutual
theorem imm_wide {K : PySem.W.Frag} {F H : Hp} : ∀ {d : PyData} {v : V},imm d = true→Has K H d v→Has K (wide F H) d v
 | .none,_,_,h=>h
 | .bool _,_,_,h=>h
 | .int _,_,_,h=>h
 | .str _,_,_,h=>h
 | .list _,_,f,_=>by simp [imm] at f
 | .tuple ds,_,f,⟨a,xs,e,hq,hl⟩=>⟨a,xs,e,wide_tup hq,immL_wide (by simpa [imm] using f) hl⟩
 | .dict _,_,f,_=>by simp [imm] at f
theorem immL_wide {K : PySem.W.Frag} {F H : Hp} : ∀ {ds : List PyData} {vs : List V},immL ds = true→HasL K H ds vs→HasL K (wide F H) ds vs
 | [],_,_,h=>h
 | d :: ds,_,f,⟨v,r,h1,h2,h3⟩=>by
  simp only [immL,Bool.and_eq_true] at f
  exact ⟨v,r,h1,imm_wide f.1 h2,immL_wide f.2 h3⟩
end
noncomputable def OwnAt (K : PySem.W.Frag) (H₀ F H : Hp) (d : PyData) (v : V) : Prop:=∃ a ds xs,d = .list ds∧v = .ref a∧H a = some (.lst xs)∧F a = none∧H₀ a = none∧HasL K F ds xs
noncomputable def ItemIs (K : PySem.W.Frag) (F : Hp) : PyData→V→Prop
 | .dict [(.int i,.none)],v=>∃ a : Addr,i = (a : Int)∧v = .ref a
 | d,v=>Has K F d v
noncomputable def ItemsAre (K : PySem.W.Frag) (F : Hp) : List PyData→List V→Prop
 | [],vs=>vs = []
 | d :: ds,vs=>∃ v r,vs = v :: r∧ItemIs K F d v∧ItemsAre K F ds r
noncomputable def KeysAre (K : PySem.W.Frag) (F : Hp) : List (PyData × PyData)→List (L2.Key × V)→Prop
 | [],vs=>vs = []
 | (k,d) :: ds,vs=>∃ k' v r,vs = (k',v) :: r∧(match k with | .int i=>k' = Sum.inl i | .str x=>k' = Sum.inr x | _=>False)∧ItemIs K F d v∧KeysAre K F ds r
noncomputable def FldsAre (K : PySem.W.Frag) (F : Hp) : List (PyData × PyData)→List (Str × V)→Prop
 | [],vs=>vs = []
 | (k,d) :: ds,vs=>∃ x v r,vs = (x,v) :: r∧k = .str x∧ItemIs K F d v∧FldsAre K F ds r
noncomputable def CellIs (K : PySem.W.Frag) (F : Hp) : PyData→HO→Prop
 | .list ds,o=>∃ xs,o = .lst xs∧ItemsAre K F ds xs
 | .dict ks,o=>∃ kvs,o = .dK kvs∧KeysAre K F ks kvs
 | .tuple [.int C,.int dx,.dict fs],o=>∃ C' dx' fvs,C = ((C' : Nat) : Int)∧dx = ((dx' : Nat) : Int)∧o = .ins C' dx' fvs∧FldsAre K F fs fvs
 | .tuple [.int C],o=>∃ C',C = ((C' : Nat) : Int)∧o = .own C'
 | _,_=>False
noncomputable def CellAt (K : PySem.W.Frag) (H₀ F H : Hp) (d : PyData) (v : V) : Prop:=∃ a c o,d = .tuple [.int ((a : Addr) : Int),c]∧v = .ref a∧H a = some o∧F a = none∧H₀ a = none∧CellIs K F c o
theorem ItemIs.same {K : PySem.W.Frag} {F F' : Hp} (e : Same F F') {d : PyData} {v : V} (h : ItemIs K F d v) : ItemIs K F' d v:=by
 unfold ItemIs at h ⊢
 split at h
 ·exact h
 ·exact Has.same e h
theorem ItemsAre.same {K : PySem.W.Frag} {F F' : Hp} (e : Same F F') : ∀ {ds : List PyData} {vs : List V},ItemsAre K F ds vs→ItemsAre K F' ds vs
 | [],_,h=>h
 | _ :: _,_,⟨v,r,h1,h2,h3⟩=>⟨v,r,h1,h2.same e,ItemsAre.same e h3⟩
theorem KeysAre.same {K : PySem.W.Frag} {F F' : Hp} (e : Same F F') : ∀ {ds : List (PyData × PyData)} {vs : List (L2.Key × V)},KeysAre K F ds vs→KeysAre K F' ds vs
 | [],_,h=>h
 | (_,_) :: _,_,⟨k,v,r,h1,h2,h3,h4⟩=>⟨k,v,r,h1,h2,h3.same e,KeysAre.same e h4⟩
theorem FldsAre.same {K : PySem.W.Frag} {F F' : Hp} (e : Same F F') : ∀ {ds : List (PyData × PyData)} {vs : List (Str × V)},FldsAre K F ds vs→FldsAre K F' ds vs
 | [],_,h=>h
 | (_,_) :: _,_,⟨k,v,r,h1,h2,h3,h4⟩=>⟨k,v,r,h1,h2,h3.same e,FldsAre.same e h4⟩
theorem CellIs.same {K : PySem.W.Frag} {F F' : Hp} (e : Same F F') {c : PyData} {o : HO} (h : CellIs K F c o) : CellIs K F' c o:=by
 unfold CellIs at h ⊢
 split at h
 ·obtain ⟨xs,h1,h2⟩:=h; exact ⟨xs,h1,h2.same e⟩
 ·obtain ⟨xs,h1,h2⟩:=h; exact ⟨xs,h1,h2.same e⟩
 ·obtain ⟨C',dx',fvs,h1,h2,h3,h4⟩:=h; exact ⟨C',dx',fvs,h1,h2,h3,h4.same e⟩
 ·exact h
 ·exact h.elim
theorem CellIs.mut {K : PySem.W.Frag} {F : Hp} {c : PyData} {o : HO} (h : CellIs K F c o) : imo o = false:=by
 unfold CellIs at h
 split at h
 ·obtain ⟨xs,rfl,_⟩:=h; rfl
 ·obtain ⟨xs,rfl,_⟩:=h; rfl
 ·obtain ⟨C',dx',fvs,_,_,rfl,_⟩:=h; rfl
 ·obtain ⟨C',_,rfl⟩:=h; rfl
 ·exact h.elim
noncomputable def SlotOk (K : PySem.W.Frag) (ioA : Nat→Option Addr) (H₀ F H : Hp) (i : Nat) : Tg→PyData→V→Prop
 | .fr,d,v=>Has K F d v
 | .ow,d,v=>OwnAt K H₀ F H d v
 | .io,d,v=>OwnAt K H₀ F H d v∧∃ a,v = .ref a∧ioA i = some a
 | .rf,d,v=>∃ a : Addr,d = .int (a : Int)∧v = .ref a
 | .ce,d,v=>CellAt K H₀ F H d v
structure VI (K : PySem.W.Frag) (ioA : Nat→Option Addr) (G H₀ : Hp) (S : GS) (F : Hp) (σ : St) (H : Hp) : Prop where
 len : S.length = σ.length
 same : Same H₀ H
 gf : Same G F
 new : ∀ a o,F a = some o→G a = some o∨H₀ a = none∨imo o = true
 sub : Same F H
 slot : ∀ (i : Nat) t d,S[i]? = some (some (t,d))→∃ v,σ[i]? = some (some v)∧SlotOk K ioA H₀ F H i t d v
 inj : ∀ (i j : Nat) t t' d d' v,S[i]? = some (some (t,d))→S[j]? = some (some (t',d'))→t.own = true→t'.own = true→σ[i]? = some (some v)→σ[j]? = some (some v)→i = j
 pl : ∀ a o u,F a = some (.frz o (.lst u))→G a = some (.frz o (.lst u))
section
variable {K : PySem.W.Frag} {ioA : Nat→Option Addr} {G H₀ F H F' H' : Hp} {S : GS} {σ : St}
theorem OwnAt.grow {d : PyData} {v : V} (g : Grow F H F' H') (h : OwnAt K H₀ F H d v) : OwnAt K H₀ F' H' d v:=by
 obtain ⟨a,ds,xs,e1,e2,e3,e4,e5,e6⟩:=h
 refine ⟨a,ds,xs,e1,e2,g.hh _ _ e3,?_,e5,e6.same g.ff⟩
 cases q : F' a with
 | none=>rfl
 | some o =>
  rcases g.new a o q with z | z | z
  ·rw [e4] at z; cases z
  ·rw [e3] at z; cases z
  ·have:=g.fh a o q
   rw [g.hh _ _ e3] at this
   cases this
   simp [imo] at z
theorem CellAt.grow {d : PyData} {v : V} (g : Grow F H F' H') (h : CellAt K H₀ F H d v) : CellAt K H₀ F' H' d v:=by
 obtain ⟨a,c,o,e1,e2,e3,e4,e5,e6⟩:=h
 refine ⟨a,c,o,e1,e2,g.hh _ _ e3,?_,e5,e6.same g.ff⟩
 cases q : F' a with
 | none=>rfl
 | some o' =>
  rcases g.new a o' q with z | z | z
  ·rw [e4] at z; cases z
  ·rw [e3] at z; cases z
  ·have:=g.fh a o' q
   rw [g.hh _ _ e3] at this
   cases this
   rw [e6.mut] at z; cases z
theorem VI.grow (I : VI K ioA G H₀ S F σ H) (g : Grow F H F' H') : VI K ioA G H₀ S F' σ H' where
 len:=I.len
 same:=I.same.trans g.hh
 gf:=I.gf.trans g.ff
 new:=fun a o e=>by
  rcases g.new a o e with z | z | z
  ·exact I.new a o z
  ·exact .inr (.inl (I.same.free z))
  ·exact .inr (.inr z)
 sub:=g.fh
 slot:=fun i t d e=>by
  obtain ⟨v,e1,h⟩:=I.slot i t d e
  refine ⟨v,e1,?_⟩
  cases t with
  | fr=>exact Has.same g.ff h
  | ow=>exact OwnAt.grow g h
  | io=>exact ⟨OwnAt.grow g h.1,h.2⟩
  | rf=>exact h
  | ce=>exact CellAt.grow g h
 inj:=I.inj
 pl:=fun a o u e=>I.pl a o u (g.pl a o u e)
end
noncomputable abbrev Rel:=PySem.W.Frag→Hp→Hp→Hp→Hp→PyData→V→Prop
noncomputable def RW : Rel:=fun K _ _ _ H' d v=>Has K H' d v
noncomputable def RS : Rel:=fun K _ _ F' _ d v=>Has K F' d v
noncomputable def RM : Rel:=fun K _ _ F' H' d v=>Has K F' d v∨∃ ds a xs,d = .list ds∧v = .ref a∧SqL K H' a xs∧HasL K F' ds xs
noncomputable def RN : Rel:=fun K _ H F' H' d v=>∃ ds a xs,d = .list ds∧v = .ref a∧H a = none∧F' a = none∧H' a = some (.lst xs)∧HasL K F' ds xs
noncomputable def tV (K : PySem.W.Frag) (R : Rel) (f : VE) : TE:=fun σ H Q=>∃ ioA G H₀ S F,VI K ioA G H₀ S F σ H∧∃ d,f S = some d∧∀ v F' H',Grow F H F' H'→R K F H F' H' d v→Q v H'
theorem tV.imp {K : PySem.W.Frag} {R R' : Rel} {f f' : VE} {σ : St} {H : Hp} {Q : VK} (hf : ∀ S d,f S = some d→f' S = some d)
  (hR : ∀ (F F' H' : Hp) S d v,f S = some d→Grow F H F' H'→R' K F H F' H' d v→∃ F'',Grow F H F'' H'∧R K F H F'' H' d v) (h : tV K R f σ H Q) : tV K R' f' σ H Q:=by
 obtain ⟨ioA,G,H₀,S,F,I,d,e,q⟩:=h
 refine ⟨ioA,G,H₀,S,F,I,d,hf S d e,fun v F' H' g r=>?_⟩
 obtain ⟨F'',g2,r2⟩:=hR F F' H' S d v e g r
 exact q v F'' H' g2 r2
section
variable {X : Cx} {e : Expr} {f : VE}
theorem sw (h : PE X e (tV X.K RS f)) : PE X e (tV X.K RW f):=h.imp fun _ _ _ q=>tV.imp (fun _ _ h=>h) (fun F F' H' S d v _ g r=>⟨F',g,Has.same g.fh r⟩) q
theorem sm (h : PE X e (tV X.K RS f)) : PE X e (tV X.K RM f):=h.imp fun _ _ _ q=>tV.imp (fun _ _ h=>h) (fun F F' H' S d v _ g r=>⟨F',g,.inl r⟩) q
theorem mw (h : PE X e (tV X.K RM f)) : PE X e (tV X.K RW f):=h.imp fun _ _ _ q=>tV.imp (fun _ _ h=>h) (fun F F' H' S d v _ g r=>⟨F',g,by
 rcases r with r | ⟨ds,a,xs,rfl,rfl,h1,h2⟩
 ·exact Has.same g.fh r
 ·exact ⟨a,xs,rfl,h1,h2.same g.fh⟩⟩) q
theorem nm (h : PE X e (tV X.K RN f)) : PE X e (tV X.K RM f):=h.imp fun _ _ _ q=>tV.imp (fun _ _ h=>h) (fun F F' H' S d v _ g r=>⟨F',g,by
 obtain ⟨ds,a,xs,h1,h2,h3,h4,h5,h6⟩:=r
 exact .inr ⟨ds,a,xs,h1,h2,SqL.of h5,h6⟩⟩) q
theorem RN.frz {K : PySem.W.Frag} {F H F' H' : Hp} {d : PyData} {v : V} (g : Grow F H F' H') (r : RN K F H F' H' d v) : ∃ F'',Grow F H F'' H'∧RS K F H F'' H' d v:=by
 obtain ⟨ds,a,xs,h1,h2,h3,h4,h5,h6⟩:=r
 refine ⟨upd F' a (.lst xs),⟨g.hh,g.ff.trans (same_upd_new h4),fun b o e=>?_,fun b o e=>?_,fun b x u e=>?_⟩,?_⟩
 ·by_cases hb : b = a
  ·subst hb; rw [upd_same] at e; cases e; exact h5
  ·rw [upd_ne hb] at e; exact g.fh b o e
 ·by_cases hb : b = a
  ·subst hb; exact .inr (.inl h3)
  ·rw [upd_ne hb] at e; exact g.new b o e
 ·by_cases hb : b = a
  ·subst hb; rw [upd_same] at e; cases e
  ·rw [upd_ne hb] at e; exact g.pl b x u e
 ·rw [h1]; exact ⟨a,xs,h2,SqL.of upd_same,h6.same (same_upd_new h4)⟩
theorem ns (h : PE X e (tV X.K RN f)) : PE X e (tV X.K RS f):=h.imp fun _ _ _ q=>tV.imp (fun _ _ h=>h) (fun F F' H' S d v _ g r=>RN.frz g r) q
theorem nw (h : PE X e (tV X.K RN f)) : PE X e (tV X.K RW f):=mw (nm h)
noncomputable def vImm (f : VE) : VE:=fun S=>match f S with
 | some d=>if imm d = true then some d else none
 | none=>none
theorem vImm_some {f : VE} {S : GS} {d : PyData} (h : vImm f S = some d) : f S = some d∧imm d = true:=by
 unfold vImm at h
 cases q : f S with
 | none=>rw [q] at h; cases h
 | some u =>
  rw [q] at h
  simp only at h
  split at h
  ·cases h; exact ⟨rfl,by assumption⟩
  ·cases h
theorem ws (h : PE X e (tV X.K RW f)) : PE X e (tV X.K RS (vImm f)):=h.imp fun _ H Q q=>by
 refine tV.imp (fun S d h=>(vImm_some h).1) (fun F F' H' S d v he g r=>⟨wide F' H',wide_grow g,imm_wide (vImm_some he).2 r⟩) q
end
noncomputable def vN (i : Nat) : VE:=fun S=>match S[i]? with
 | some (some (.fr,d))=>some d
 | some (some (.ow,d))=>some d
 | some (some (.io,d))=>some d
 | _=>none
noncomputable def vF (i : Nat) : VE:=fun S=>match S[i]? with
 | some (some (.fr,d))=>some d
 | _=>none
noncomputable def vC (d : PyData) : VE:=fun _=>some d
section
variable {X : Cx} {e : Expr} {pos : Pos}
theorem dN {i : Nat} (h : PE X e (vR i)) : PE X e (tV X.K RM (vN i)):=h.imp fun σ H Q q=>by
 obtain ⟨ioA,G,H₀,S,F,I,d,e,q⟩:=q
 unfold vN at e
 split at e
 ·rename_i d' hS
  cases e
  obtain ⟨v,hv,hs⟩:=I.slot i .fr d hS
  unfold vR; rw [hv]
  exact q v F H (Grow.refl I.sub) (.inl hs)
 ·rename_i d' hS
  cases e
  obtain ⟨v,hv,hs⟩:=I.slot i .ow d hS
  unfold vR; rw [hv]
  obtain ⟨a,ds,xs,e1,e2,e3,e4,e5,e6⟩:=hs
  exact q v F H (Grow.refl I.sub) (.inr ⟨ds,a,xs,e1,e2,SqL.of e3,e6⟩)
 ·rename_i d' hS
  cases e
  obtain ⟨v,hv,hs⟩:=I.slot i .io d hS
  unfold vR; rw [hv]
  obtain ⟨a,ds,xs,e1,e2,e3,e4,e5,e6⟩:=hs.1
  exact q v F H (Grow.refl I.sub) (.inr ⟨ds,a,xs,e1,e2,SqL.of e3,e6⟩)
 ·cases e
theorem dF {i : Nat} (h : PE X e (vR i)) : PE X e (tV X.K RS (vF i)):=h.imp fun σ H Q q=>by
 obtain ⟨ioA,G,H₀,S,F,I,d,e,q⟩:=q
 unfold vF at e
 split at e
 ·rename_i d' hS
  cases e
  obtain ⟨v,hv,hs⟩:=I.slot i .fr d hS
  unfold vR; rw [hv]
  exact q v F H (Grow.refl I.sub) hs
 ·cases e
theorem dC {v : V} {d : PyData} (h : PE X e (tC v)) (hv : ∀ H,Has X.K H d v) : PE X e (tV X.K RS (vC d)):=h.imp fun σ H Q q=>by
 obtain ⟨ioA,G,H₀,S,F,I,d',e,q⟩:=q
 cases e
 exact q v F H (Grow.refl I.sub) (hv F)
theorem dInt {i j} : PE X (.Constant (.int i) j pos) (tV X.K RS (vC (.int i))):=dC pe_int fun _=>rfl
theorem dBool {b j} : PE X (.Constant (.bool b) j pos) (tV X.K RS (vC (.bool b))):=dC pe_bl fun _=>rfl
theorem dNone {j} : PE X (.Constant .none j pos) (tV X.K RS (vC .none)):=dC pe_non fun _=>rfl
end
noncomputable def v2 (h : PyData→PyData→Option PyData) (fa fb : VE) : VE:=fun S=>match fa S with
 | some x=>match fb S with
  | some y=>h x y
  | none=>none
 | none=>none
theorem v2_some {h : PyData→PyData→Option PyData} {fa fb : VE} {S : GS} {d : PyData} (e : v2 h fa fb S = some d) : ∃ x y,fa S = some x∧fb S = some y∧h x y = some d:=by
 unfold v2 at e
 cases q : fa S with
 | none=>rw [q] at e; cases e
 | some x =>
  rw [q] at e
  cases q2 : fb S with
  | none=>rw [q2] at e; cases e
  | some y=>rw [q2] at e; exact ⟨x,y,rfl,rfl,e⟩
noncomputable def OpD (K : PySem.W.Frag) (h : PyData→PyData→Option PyData) (r : R2) : Prop:=∀ H x y dx dy d Q,h dx dy = some d→Has K H dx x→Has K H dy y→(∀ v,(∀ H',Has K H' d v)→Q v H)→r x y H Q
theorem rd2 {K : PySem.W.Frag} {h : PyData→PyData→Option PyData} {r : R2} {fa fb : VE} (hd : OpD K h r) {σ : St} {H : Hp} {Q : VK} (q : tV K RS (v2 h fa fb) σ H Q) : tOp r (tV K RW fa) (tV K RW fb) σ H Q:=by
 obtain ⟨ioA,G,H₀,S,F,I,d,e,q⟩:=q
 obtain ⟨x,y,ex,ey,e⟩:=v2_some e
 refine ⟨ioA,G,H₀,S,F,I,x,ex,fun v F1 H1 g1 hx=>⟨ioA,G,H₀,S,F1,I.grow g1,y,ey,fun u F2 H2 g2 hy=>?_⟩⟩
 exact hd H2 v u x y d Q e (Has.same g2.hh hx) hy fun w hw=>q w F2 H2 (g1.trans g2) (hw F2)
section
variable {X : Cx} {a b : Expr} {fa fb : VE} {pos : Pos} {h : PyData→PyData→Option PyData} {r : R2}
theorem dOp {op : Operator} (ho : OpR X (binaryOp op) r) (hd : OpD X.K h r) (ha : PE X a (tV X.K RW fa)) (hb : PE X b (tV X.K RW fb)) : PE X (.BinOp a op b pos) (tV X.K RS (v2 h fa fb)) :=
 (pe_op ho ha hb).imp fun _ _ _ q=>rd2 hd q
theorem dCmp {op : CmpOp} (ho : OpR X (compareOp op) r) (hd : OpD X.K h r) (ha : PE X a (tV X.K RW fa)) (hb : PE X b (tV X.K RW fb)) (hm : behindInMarks op b = false:=by first | exact nomark _ | rfl) : PE X (.Compare a [op] [b] pos) (tV X.K RS (v2 h fa fb)) :=
 (peC ho ha hb hm).imp fun _ _ _ q=>rd2 hd q
end
noncomputable def iop (g : Int→Int→PyData) : PyData→PyData→Option PyData
 | .int a,.int b=>some (g a b)
 | _,_=>none
noncomputable def iopC (C : Int→Int→Prop) [∀ a b,Decidable (C a b)] (g : Int→Int→PyData) : PyData→PyData→Option PyData
 | .int a,.int b=>if C a b then some (g a b) else none
 | _,_=>none
noncomputable def flat0 (d : PyData) (v : V) : Prop:=∀ (K : PySem.W.Frag) (H : Hp),Has K H d v
theorem opd_iop {K : PySem.W.Frag} {g : Int→Int→PyData} {gv : Int→Int→V} (hg : ∀ a b,flat0 (g a b) (gv a b)) : OpD K (iop g) (rM gv):=by
 intro H x y dx dy d Q e hx hy q
 cases dx <;> first | (simp [iop] at e; done) | skip
 cases dy <;> first | (simp [iop] at e; done) | skip
 simp only [iop,Option.some.injEq] at e
 subst e
 have ex : x = _:=hx
 have ey : y = _:=hy
 subst ex ey
 exact q _ fun H'=>hg _ _ K H'
theorem opd_iopC {K : PySem.W.Frag} {C : Int→Int→Prop} [∀ a b,Decidable (C a b)] {C' : Int→Int→Prop} {g : Int→Int→PyData} {gv : Int→Int→V} (hc : ∀ a b,C a b→C' a b) (hg : ∀ a b,flat0 (g a b) (gv a b)) : OpD K (iopC C g) (rMC C' gv):=by
 intro H x y dx dy d Q e hx hy q
 cases dx <;> first | (simp [iopC] at e; done) | skip
 cases dy <;> first | (simp [iopC] at e; done) | skip
 simp only [iopC] at e
 split at e
 ·rename_i hC
  cases e
  have ex : x = _:=hx
  have ey : y = _:=hy
  subst ex ey
  exact ⟨hc _ _ hC,q _ fun H'=>hg _ _ K H'⟩
 ·cases e
set_option exponentiation.threshold 9000
noncomputable def BMul (i j : Int) : Prop:=i.natAbs < 2 ^ 2000∧j.natAbs < 2 ^ 2000
noncomputable instance (i j : Int) : Decidable (BMul i j):=inferInstanceAs (Decidable (_∧_))
noncomputable def BDiv (_ j : Int) : Prop:=0 < j∧j.natAbs < 2 ^ 2000
noncomputable instance (i j : Int) : Decidable (BDiv i j):=inferInstanceAs (Decidable (_∧_))
noncomputable def BMod (_ j : Int) : Prop:=0 < j
noncomputable instance (i j : Int) : Decidable (BMod i j):=inferInstanceAs (Decidable (_ < _))
noncomputable def BPow (i j : Int) : Prop:=0≤j∧j≤1000∧i.natAbs < 2 ^ 60
noncomputable instance (i j : Int) : Decidable (BPow i j):=inferInstanceAs (Decidable (_∧_∧_))
theorem BMul.ok {i j : Int} (h : BMul i j) : CMulB i j:=by
 have e : (2 : Nat) ^ 2000≤2 ^ 8000:=Nat.pow_le_pow_right (by decide) (by decide)
 exact ⟨Nat.lt_of_lt_of_le h.1 e,Nat.lt_of_lt_of_le h.2 e⟩
theorem BDiv.ok {i j : Int} (h : BDiv i j) : CDivB i j:=⟨h.1,by
 have hz : j.natAbs ≠ 0:=by have:=h.1; omega
 have:=(Nat.log2_lt hz).mpr h.2
 omega⟩
theorem BPow.ok {i j : Int} (h : BPow i j) : CPow i j:=⟨h.1,by have:=h.2.1; omega,Nat.lt_trans h.2.2 (by decide)⟩
noncomputable abbrev addD:=iop fun a b=>.int (a + b)
noncomputable abbrev subD:=iop fun a b=>.int (a - b)
noncomputable abbrev mulD:=iopC BMul fun a b=>.int (a * b)
noncomputable abbrev divD:=iopC BDiv fun a b=>.int (a / b)
noncomputable abbrev modD:=iopC BMod fun a b=>.int (a % b)
noncomputable abbrev powD:=iopC BPow fun a b=>.int (a ^ b.toNat)
noncomputable abbrev ltD:=iop fun a b=>.bool (decide (a < b))
noncomputable abbrev leD:=iop fun a b=>.bool (decide (a≤b))
noncomputable abbrev gtD:=iop fun a b=>.bool (decide (b < a))
noncomputable abbrev geD:=iop fun a b=>.bool (decide (b≤a))
section
variable {K : PySem.W.Frag}
theorem hAdd : OpD K addD (rM fun i j=>.int (i + j)):=opd_iop fun _ _ _ _=>rfl
theorem hSub : OpD K subD (rM fun i j=>.int (i - j)):=opd_iop fun _ _ _ _=>rfl
theorem hMul : OpD K mulD (rMC CMulB fun i j=>.int (i * j)):=opd_iopC (fun _ _ h=>h.ok) fun _ _ _ _=>rfl
theorem hDiv : OpD K divD (rMC CDivB fun i j=>.int (i / j)):=opd_iopC (fun _ _ h=>h.ok) fun _ _ _ _=>rfl
theorem hMod : OpD K modD (rMC (fun _ j=>0 < j) fun i j=>.int (i % j)):=opd_iopC (fun _ _ h=>h) fun _ _ _ _=>rfl
theorem hPow : OpD K powD (rMC CPow fun i j=>.int (i ^ j.toNat)):=opd_iopC (fun _ _ h=>h.ok) fun _ _ _ _=>rfl
theorem hLt : OpD K ltD (rM fun i j=>.bl (decide (i < j))):=opd_iop fun _ _ _ _=>rfl
theorem hLe : OpD K leD (rM fun i j=>.bl (decide (i≤j))):=opd_iop fun _ _ _ _=>rfl
theorem hGt : OpD K gtD (rM fun i j=>.bl (decide (j < i))):=opd_iop fun _ _ _ _=>rfl
theorem hGe : OpD K geD (rM fun i j=>.bl (decide (j≤i))):=opd_iop fun _ _ _ _=>rfl
end
noncomputable def eqD : PyData→PyData→Option PyData:=fun x y=>if x.depth≤60 then some (.bool (PyData.eqv x y)) else none
noncomputable def neD : PyData→PyData→Option PyData:=fun x y=>if x.depth≤60 then some (.bool (!PyData.eqv x y)) else none
theorem hEq {K : PySem.W.Frag} : OpD K eqD (rEqD K):=by
 intro H x y dx dy d Q e hx hy q
 unfold eqD at e
 split at e
 ·cases e; exact ⟨dx,dy,hx,hy,by assumption,q _ fun _=>rfl⟩
 ·cases e
theorem hNe {K : PySem.W.Frag} : OpD K neD (rNeD K):=by
 intro H x y dx dy d Q e hx hy q
 unfold neD at e
 split at e
 ·cases e; exact ⟨dx,dy,hx,hy,by assumption,q _ fun _=>rfl⟩
 ·cases e
noncomputable def isNoneD : PyData→Bool
 | .none=>true
 | _=>false
noncomputable def isD : PyData→PyData→Option PyData:=fun x y=>if isNoneD y then some (.bool (isNoneD x)) else none
noncomputable def isnD : PyData→PyData→Option PyData:=fun x y=>if isNoneD y then some (.bool (!isNoneD x)) else none
theorem isNone_of {K : PySem.W.Frag} {H : Hp} {d : PyData} {x : V} (h : Has K H d x) : isNon x = isNoneD d:=by
 cases d with
 | none=>have e : x = .non:=h; rw [e]; rfl
 | bool b=>have e : x = .bl b:=h; rw [e]; rfl
 | int i=>have e : x = .int i:=h; rw [e]; rfl
 | str y=>have e : x = .str y:=h.1; rw [e]; rfl
 | list ds=>obtain ⟨a,xs,rfl,_⟩:=h; rfl
 | tuple ds=>obtain ⟨a,xs,rfl,_⟩:=h; rfl
 | dict k=>exact h.elim
theorem none_of {K : PySem.W.Frag} {H : Hp} {d : PyData} {x : V} (h : Has K H d x) (e : isNoneD d = true) : x = .non:=by
 cases d <;> first | exact h | (simp [isNoneD] at e)
theorem hIs {K : PySem.W.Frag} : OpD K isD rIsN:=by
 intro H x y dx dy d Q e hx hy q
 unfold isD at e
 split at e
 ·rename_i hn
  cases e
  have:=none_of hy hn
  subst this
  show Q (.bl (isNon x)) H
  rw [isNone_of hx]; exact q _ fun _=>rfl
 ·cases e
theorem hIsn {K : PySem.W.Frag} : OpD K isnD rNotN:=by
 intro H x y dx dy d Q e hx hy q
 unfold isnD at e
 split at e
 ·rename_i hn
  cases e
  have:=none_of hy hn
  subst this
  show Q (.bl (!isNon x)) H
  rw [isNone_of hx]; exact q _ fun _=>rfl
 ·cases e
noncomputable abbrev VT:=GS→Option Bool
noncomputable def tVT (K : PySem.W.Frag) (f : VT) : TT:=fun σ H Q=>∃ ioA G H₀ S F,VI K ioA G H₀ S F σ H∧∃ b,f S = some b∧∀ F' H',Grow F H F' H'→Q b H'
noncomputable def vB (f : VE) : VT:=fun S=>match f S with
 | some (.bool b)=>some b
 | _=>none
theorem vB_some {f : VE} {S : GS} {b : Bool} (h : vB f S = some b) : f S = some (.bool b):=by
 unfold vB at h
 split at h
 ·cases h; assumption
 ·cases h
noncomputable def tAnd2 (f g : VT) : VT:=fun S=>match f S with
 | some true=>g S
 | some false=>some false
 | none=>none
noncomputable def tOr2 (f g : VT) : VT:=fun S=>match f S with
 | some true=>some true
 | some false=>g S
 | none=>none
noncomputable def tNot2 (f : VT) : VT:=fun S=>match f S with
 | some b=>some !b
 | none=>none
noncomputable def truD : PyData→Option Bool
 | .none=>some false
 | .bool b=>some b
 | .int i=>some (i != 0)
 | .list ds=>some (!ds.isEmpty)
 | .tuple ds=>some (!ds.isEmpty)
 | _=>none
noncomputable def vTru (f : VE) : VT:=fun S=>match f S with
 | some d=>truD d
 | none=>none
theorem HasL.isEmpty {K : PySem.W.Frag} {H : Hp} {ds : List PyData} {vs : List V} (h : HasL K H ds vs) : vs.isEmpty = ds.isEmpty:=by
 have:=h.length
 cases ds <;> cases vs <;> simp_all
section
variable {X : Cx} {a b e : Expr} {fa fb f : VE} {ta tb : VT} {pos : Pos} {h : PyData→PyData→Option PyData} {r : R2} {rest : List Expr}
theorem rdTM {t : TE} {σ : St} {H : Hp} {Q : Bool→Hp→Prop} {K : PySem.W.Frag} (ht : ∀ Q',tV K RS f σ H Q'→t σ H Q') (q : tVT K (vB f) σ H Q) : tTM t σ H Q:=by
 obtain ⟨ioA,G,H₀,S,F,I,b,e,q⟩:=q
 refine ht _ ⟨ioA,G,H₀,S,F,I,.bool b,vB_some e,fun v F' H' g hv=>?_⟩
 have ev : v = .bl b:=hv
 subst ev
 exact q F' H' g
theorem cCmp {op : CmpOp} (ho : OpR X (compareOp op) r) (hd : OpD X.K h r) (ha : PE X a (tV X.K RW fa)) (hb : PE X b (tV X.K RW fb)) (hm : behindInMarks op b = false:=by first | exact nomark _ | rfl) : PT X (.Compare a [op] [b] pos) (tVT X.K (vB (v2 h fa fb))) :=
 PT.imp (ptC ho ha hb hm) fun _ _ _ q=>rdTM (fun _ q=>rd2 hd q) q
theorem cVal (he : PE X e (tV X.K RS f)) (hp : ∀ whole,isTrue e X.env whole = (do let v ← whole; standAt e.pos; holding [v] (truthy v)):=by intro _; rfl) : PT X e (tVT X.K (vB f)) :=
 PT.imp (ptV he hp) fun _ _ _ q=>rdTM (fun _ q=>q) q
theorem cNot (ha : PT X a (tVT X.K ta)) : PT X (.UnaryOp .Not a pos) (tVT X.K (tNot2 ta)):=PT.imp (pt_not ha) fun _ _ _ q=>by
 obtain ⟨ioA,G,H₀,S,F,I,b,e,q⟩:=q
 unfold tNot2 at e
 cases q2 : ta S with
 | none=>rw [q2] at e; cases e
 | some c =>
  rw [q2] at e
  cases e
  exact ⟨ioA,G,H₀,S,F,I,c,q2,fun F' H' g=>q F' H' g⟩
theorem wAnd1 (ha : PT X a (tVT X.K ta)) : PW X (.BoolOp .And [a] pos) (tVT X.K ta):=pw_and1 ha
theorem wOr1 (ha : PT X a (tVT X.K ta)) : PW X (.BoolOp .Or [a] pos) (tVT X.K ta):=pw_or1 ha
theorem wAnd (ha : PT X a (tVT X.K ta)) (hb : PW X (.BoolOp .And (b :: rest) pos) (tVT X.K tb)) : PW X (.BoolOp .And (a :: b :: rest) pos) (tVT X.K (tAnd2 ta tb)):=PW.imp (pw_and ha hb) fun _ _ _ q=>by
 obtain ⟨ioA,G,H₀,S,F,I,b,e,q⟩:=q
 unfold tAnd2 at e
 cases q2 : ta S with
 | none=>rw [q2] at e; cases e
 | some c =>
  rw [q2] at e
  refine ⟨ioA,G,H₀,S,F,I,c,q2,fun F' H' g=>?_⟩
  cases c with
  | true=>rw [if_pos rfl]; exact ⟨ioA,G,H₀,S,F',I.grow g,b,e,fun F2 H2 g2=>q F2 H2 (g.trans g2)⟩
  | false=>rw [if_neg Bool.false_ne_true]; cases e; exact q F' H' g
theorem wOr (ha : PT X a (tVT X.K ta)) (hb : PW X (.BoolOp .Or (b :: rest) pos) (tVT X.K tb)) : PW X (.BoolOp .Or (a :: b :: rest) pos) (tVT X.K (tOr2 ta tb)):=PW.imp (pw_or ha hb) fun _ _ _ q=>by
 obtain ⟨ioA,G,H₀,S,F,I,b,e,q⟩:=q
 unfold tOr2 at e
 cases q2 : ta S with
 | none=>rw [q2] at e; cases e
 | some c =>
  rw [q2] at e
  refine ⟨ioA,G,H₀,S,F,I,c,q2,fun F' H' g=>?_⟩
  cases c with
  | false=>rw [if_neg Bool.false_ne_true]; exact ⟨ioA,G,H₀,S,F',I.grow g,b,e,fun F2 H2 g2=>q F2 H2 (g.trans g2)⟩
  | true=>rw [if_pos rfl]; cases e; exact q F' H' g
theorem cTru (he : PE X e (tV X.K RW f)) (hp : ∀ whole,isTrue e X.env whole = (do let v ← whole; standAt e.pos; holding [v] (truthy v)):=by intro _; rfl) : PT X e (tVT X.K (vTru f)) :=
 PT.imp (pt_truth he hp) fun _ _ _ q=>by
  obtain ⟨ioA,G,H₀,S,F,I,b,e,q⟩:=q
  unfold vTru at e
  cases q2 : f S with
  | none=>rw [q2] at e; cases e
  | some d =>
   rw [q2] at e
   refine ⟨ioA,G,H₀,S,F,I,d,q2,fun v F' H' g hv=>⟨b,?_,q F' H' g⟩⟩
   cases d with
   | none=>cases e; have ev : v = .non:=hv; rw [ev]; rfl
   | bool c=>cases e; have ev : v = .bl _:=hv; rw [ev]; rfl
   | int i=>cases e; have ev : v = .int _:=hv; rw [ev]; rfl
   | list ds=>cases e; obtain ⟨p,xs,rfl,h1,h2⟩:=hv; exact .inl ⟨xs,h1,by rw [HasL.isEmpty h2]⟩
   | tuple ds=>cases e; obtain ⟨p,xs,rfl,h1,h2⟩:=hv; exact .inr (.inl ⟨xs,h1,by rw [HasL.isEmpty h2]⟩)
   | str y=>cases e
   | dict k=>cases e
end
noncomputable def vAnd (f g : VE) : VE:=fun S=>match f S with
 | some (.bool true)=>g S
 | some (.bool false)=>some (.bool false)
 | _=>none
noncomputable def vOr (f g : VE) : VE:=fun S=>match f S with
 | some (.bool true)=>some (.bool true)
 | some (.bool false)=>g S
 | _=>none
noncomputable def vNot (f : VE) : VE:=fun S=>match f S with
 | some (.bool b)=>some (.bool !b)
 | _=>none
noncomputable def vCh (h h' : PyData→PyData→Option PyData) (fa fb fc : VE) : VE:=fun S=>match fa S with
 | some x=>match fb S with
  | some y=>match h x y with
   | some (.bool true)=>(match fc S with
    | some z=>h' y z
    | none=>none)
   | some (.bool false)=>some (.bool false)
   | _=>none
  | none=>none
 | none=>none
noncomputable def vIf (c : VT) (f g : VE) : VE:=fun S=>match c S with
 | some true=>f S
 | some false=>g S
 | none=>none
section
variable {X : Cx} {a b c e : Expr} {fa fb fc f : VE} {tc : VT} {pos : Pos} {h h' : PyData→PyData→Option PyData} {r r' : R2} {rest : List Expr} {R : Rel}
theorem dAnd (ha : PE X a (tV X.K RS fa)) (hb : PE X (.BoolOp .And (b :: rest) pos) (tV X.K RS fb)) : PE X (.BoolOp .And (a :: b :: rest) pos) (tV X.K RS (vAnd fa fb)):=(peAnd ha hb).imp fun _ _ _ q=>by
 obtain ⟨ioA,G,H₀,S,F,I,d,e,q⟩:=q
 unfold vAnd at e
 split at e
 ·rename_i q2
  refine ⟨ioA,G,H₀,S,F,I,_,q2,fun v F' H' g hv=>?_⟩
  have ev : v = .bl true:=hv
  subst ev
  simp only [if_true]
  exact ⟨ioA,G,H₀,S,F',I.grow g,d,e,fun w F2 H2 g2 hw=>q w F2 H2 (g.trans g2) hw⟩
 ·rename_i q2
  cases e
  refine ⟨ioA,G,H₀,S,F,I,_,q2,fun v F' H' g hv=>?_⟩
  have ev : v = .bl false:=hv
  subst ev
  simp only [Bool.false_eq_true,if_false]
  exact q _ F' H' g rfl
 ·cases e
theorem dNot (ha : PE X a (tV X.K RS fa)) : PE X (.UnaryOp .Not a pos) (tV X.K RS (vNot fa)):=(peNot ha).imp fun _ _ _ q=>by
 obtain ⟨ioA,G,H₀,S,F,I,d,e,q⟩:=q
 unfold vNot at e
 split at e
 ·rename_i b q2
  cases e
  refine ⟨ioA,G,H₀,S,F,I,_,q2,fun v F' H' g hv=>?_⟩
  have ev : v = .bl b:=hv
  subst ev
  exact q _ F' H' g rfl
 ·cases e
theorem dOne {op} (h : PE X a (tV X.K R f)) : PE X (.BoolOp op [a] pos) (tV X.K R f):=pe_one h
theorem dIf (hc : PT X c (tVT X.K tc)) (ha : PE X a (tV X.K RS fa)) (hb : PE X b (tV X.K RS fb)) : PE X (.IfExp c a b pos) (tV X.K RS (vIf tc fa fb)):=(pe_ifExp hc ha hb).imp fun _ _ _ q=>by
 obtain ⟨ioA,G,H₀,S,F,I,d,e,q⟩:=q
 unfold vIf at e
 split at e
 ·rename_i q2
  refine ⟨ioA,G,H₀,S,F,I,_,q2,fun F' H' g=>?_⟩
  simp only [if_true]
  exact ⟨ioA,G,H₀,S,F',I.grow g,d,e,fun w F2 H2 g2 hw=>q w F2 H2 (g.trans g2) hw⟩
 ·rename_i q2
  refine ⟨ioA,G,H₀,S,F,I,_,q2,fun F' H' g=>?_⟩
  simp only [Bool.false_eq_true,if_false]
  exact ⟨ioA,G,H₀,S,F',I.grow g,d,e,fun w F2 H2 g2 hw=>q w F2 H2 (g.trans g2) hw⟩
 ·cases e
end
end VM
namespace VM
open PySem L2
section
variable {K : PySem.W.Frag} {F H F' H' : Hp}
theorem HasL.atI {ds : List PyData} {xs : List V} {i : Int} {d : PyData} (h : HasL K H ds xs) (e : L2.atI ds i = some d) : ∃ v,L2.atI xs i = some v∧Has K H d v:=by
 unfold L2.atI at e ⊢
 rw [ixN_len h.length.symm]
 cases q : ixN ds.length i with
 | none=>rw [q] at e; cases e
 | some j =>
  rw [q] at e
  exact h.at e
theorem HasL.drop : ∀ {ds : List PyData} {vs : List V} (n : Nat),HasL K H ds vs→HasL K H (ds.drop n) (vs.drop n)
 | _,_,0,h=>h
 | [],vs,n + 1,h=>by
  have h' : vs = []:=h
  rw [h']; rfl
 | _ :: _,_,n + 1,⟨_,_,g1,_,g3⟩=>by rw [g1]; exact HasL.drop n g3
theorem HasL.take : ∀ {ds : List PyData} {vs : List V} (n : Nat),HasL K H ds vs→HasL K H (ds.take n) (vs.take n)
 | _,_,0,_=>by simp only [List.take_zero]; rfl
 | [],vs,n + 1,h=>by
  have h' : vs = []:=h
  rw [h']; rfl
 | _ :: _,_,n + 1,⟨u,r,g1,g2,g3⟩=>by rw [g1]; exact ⟨u,r.take n,rfl,g2,HasL.take n g3⟩
theorem RM.list {ds : List PyData} {v : V} (fh : Same F' H') (r : RM K F H F' H' (.list ds) v) : ∃ a xs,v = .ref a∧SqL K H' a xs∧HasL K F' ds xs:=by
 rcases r with ⟨a,xs,rfl,h1,h2⟩ | ⟨ds',a,xs,e,rfl,h1,h2⟩
 ·exact ⟨a,xs,rfl,fh.seq h1,h2⟩
 ·cases e; exact ⟨a,xs,rfl,h1,h2⟩
theorem RM.tuple {ds : List PyData} {v : V} (fh : Same F' H') (r : RM K F H F' H' (.tuple ds) v) : ∃ a xs,v = .ref a∧SqT K H' a xs∧HasL K F' ds xs:=by
 rcases r with ⟨a,xs,rfl,h1,h2⟩ | ⟨ds',a,xs,e,rfl,h1,h2⟩
 ·exact ⟨a,xs,rfl,fh.seqT h1,h2⟩
 ·cases e
theorem RM.grow {F2 H2 : Hp} {d : PyData} {v : V} (g : Grow F' H' F2 H2) (r : RM K F H F' H' d v) : RM K F H F2 H2 d v:=by
 rcases r with r | ⟨ds,a,xs,e,e2,h1,h2⟩
 ·exact .inl (Has.same g.ff r)
 ·exact .inr ⟨ds,a,xs,e,e2,g.hh.seq h1,h2.same g.ff⟩
end
noncomputable def ixDt : PyData→PyData→Option PyData
 | .list ds,.int i=>atI ds i
 | .tuple ds,.int i=>atI ds i
 | _,_=>none
section
variable {X : Cx} {a b e : Expr} {fa fb f : VE} {pos p2 : Pos}
theorem dIx (ha : PE X a (tV X.K RM fa)) (hb : PE X b (tV X.K RW fb)) (hs : PlainIx b:=by intro _ _; rfl) : PE X (.Subscript a b pos) (tV X.K RS (v2 ixDt fa fb)) :=
 (pe_ix (ix_list.or ix_tup) ha hb hs).imp fun _ _ Q q=>by
  obtain ⟨ioA,G,H₀,S,F,I,d,e,q⟩:=q
  obtain ⟨x,y,ex,ey,e⟩:=v2_some e
  refine ⟨ioA,G,H₀,S,F,I,x,ex,fun v F1 H1 g1 hx=>⟨ioA,G,H₀,S,F1,I.grow g1,y,ey,fun u F2 H2 g2 hy=>?_⟩⟩
  have hx2:=RM.grow g2 hx
  unfold ixDt at e
  split at e
  ·rename_i ds i
   have eu : u = .int i:=hy
   obtain ⟨p,xs,rfl,h1,h2⟩:=RM.list g2.fh hx2
   obtain ⟨w,hw,hw2⟩:=HasL.atI h2 e
   exact .inl ⟨p,xs,i,w,rfl,eu,h1,hw,q w F2 H2 (g1.trans g2) hw2⟩
  ·rename_i ds i
   have eu : u = .int i:=hy
   obtain ⟨p,xs,rfl,h1,h2⟩:=RM.tuple g2.fh hx2
   obtain ⟨w,hw,hw2⟩:=HasL.atI h2 e
   exact .inr ⟨p,xs,i,w,rfl,eu,h1,hw,q w F2 H2 (g1.trans g2) hw2⟩
  ·cases e
noncomputable def tVO (K : PySem.W.Frag) (f : GS→Option (Option Int)) : TO:=fun σ H Q=>∃ ioA G H₀ S F,VI K ioA G H₀ S F σ H∧∃ o,f S = some o∧∀ F' H',Grow F H F' H'→Q o H'
noncomputable def oN : GS→Option (Option Int):=fun _=>some none
noncomputable def oI (f : VE) : GS→Option (Option Int):=fun S=>match f S with
 | some (.int i)=>some (some i)
 | _=>none
theorem poI (h : PE X e (tV X.K RW f)) : PO X (some e) (tVO X.K (oI f)):=PO.imp (po_some h) fun _ H Q q=>by
 obtain ⟨ioA,G,H₀,S,F,I,o,e,q⟩:=q
 unfold oI at e
 split at e
 ·rename_i i q2
  cases e
  refine ⟨ioA,G,H₀,S,F,I,_,q2,fun v F' H' g hv=>⟨i,hv,q F' H' g⟩⟩
 ·cases e
noncomputable def cutD (xs : List PyData) (lo hi : Option Int) : List PyData:=(xs.drop (HT.sIx xs.length 0 lo)).take (HT.sIx xs.length xs.length hi - HT.sIx xs.length 0 lo)
theorem HasL.cut {K : PySem.W.Frag} {H : Hp} {ds : List PyData} {vs : List V} {lo hi : Option Int} (h : HasL K H ds vs) : HasL K H (cutD ds lo hi) (cutV vs lo hi):=by
 unfold cutD cutV
 rw [h.length]
 exact HasL.take _ (HasL.drop _ h)
noncomputable def vSlL (f : VE) (l u : GS→Option (Option Int)) : VE:=fun S=>match f S,l S,u S with
 | some (.list ds),some lo,some hi=>some (.list (cutD ds lo hi))
 | _,_,_=>none
noncomputable def vSlT (f : VE) (l u : GS→Option (Option Int)) : VE:=fun S=>match f S,l S,u S with
 | some (.tuple ds),some lo,some hi=>if HT.sIx ds.length 0 lo = 0∧HT.sIx ds.length ds.length hi = ds.length then none else some (.tuple (cutD ds lo hi))
 | _,_,_=>none
variable {lo hi : Option Expr} {fl fu : GS→Option (Option Int)}
theorem dSlL (he : PE X e (tV X.K RM f)) (hl : PO X lo (tVO X.K fl)) (hu : PO X hi (tVO X.K fu)) : PE X (.Subscript e (.Slice lo hi none p2) pos) (tV X.K RN (vSlL f fl fu)) :=
 (pe_slice sl_list he hl hu).imp fun _ H Q q=>by
  obtain ⟨ioA,G,H₀,S,F,I,d,e,q⟩:=q
  unfold vSlL at e
  split at e
  ·rename_i ds l u q1 q2 q3
   cases e
   refine ⟨ioA,G,H₀,S,F,I,_,q1,fun v F1 H1 g1 hx=>⟨ioA,G,H₀,S,F1,I.grow g1,l,q2,fun F2 H2 g2=>⟨ioA,G,H₀,S,F2,(I.grow g1).grow g2,u,q3,fun F3 H3 g3=>?_⟩⟩⟩
   obtain ⟨p,xs,rfl,h1,h2⟩:=RM.list g3.fh (RM.grow (g2.trans g3) hx)
   have g:=(g1.trans g2).trans g3
   refine ⟨p,xs,rfl,h1,fun z hz=>q _ F3 _ (g.trans (Grow.alloc g3.fh hz)) ⟨_,z,_,rfl,rfl,g.hh.free hz,g3.fh.free hz,upd_same,HasL.cut h2⟩⟩
  ·cases e
noncomputable def vRev (f : VE) : VE:=fun S=>match f S with
 | some (.list ds)=>some (.list ds.reverse)
 | _=>none
noncomputable def negD : PyData→Option PyData
 | .int i=>some (.int (-i))
 | _=>none
noncomputable def v1 (h : PyData→Option PyData) (f : VE) : VE:=fun S=>match f S with
 | some x=>h x
 | none=>none
theorem dNeg (ha : PE X a (tV X.K RW f)) : PE X (.UnaryOp .USub a pos) (tV X.K RS (v1 negD f)):=(pe_un uNeg ha).imp fun _ H Q q=>by
 obtain ⟨ioA,G,H₀,S,F,I,d,e,q⟩:=q
 unfold v1 at e
 split at e
 ·rename_i x q1
  unfold negD at e
  split at e
  ·rename_i i
   cases e
   refine ⟨ioA,G,H₀,S,F,I,_,q1,fun v F1 H1 g1 hx=>?_⟩
   have ev : v = .int i:=hx
   subst ev
   exact q _ F1 H1 g1 rfl
  ·cases e
 ·cases e
end
noncomputable abbrev VA:=GS→Option (List PyData)
noncomputable def tVA (K : PySem.W.Frag) (f : VA) : TA:=fun σ H Q=>∃ ioA G H₀ S F,VI K ioA G H₀ S F σ H∧∃ ds,f S = some ds∧∀ vs F' H',Grow F H F' H'→HasL K F' ds vs→Q vs H'
noncomputable def tVAW (K : PySem.W.Frag) (f : VA) : TA:=fun σ H Q=>∃ ioA G H₀ S F,VI K ioA G H₀ S F σ H∧∃ ds,f S = some ds∧∀ vs F' H',Grow F H F' H'→HasL K H' ds vs→Q vs H'
noncomputable def a0 : VA:=fun _=>some []
noncomputable def aC (f : VE) (fs : VA) : VA:=fun S=>match f S with
 | some d=>match fs S with
  | some ds=>some (d :: ds)
  | none=>none
 | none=>none
theorem aC_some {f : VE} {fs : VA} {S : GS} {ds : List PyData} (h : aC f fs S = some ds) : ∃ d r,f S = some d∧fs S = some r∧ds = d :: r:=by
 unfold aC at h
 cases q : f S with
 | none=>rw [q] at h; cases h
 | some d =>
  rw [q] at h
  cases q2 : fs S with
  | none=>rw [q2] at h; cases h
  | some r=>rw [q2] at h; cases h; exact ⟨d,r,rfl,rfl,rfl⟩
section
variable {X : Cx} {e : Expr} {es : List Expr} {f : VE} {fs : VA} {pos : Pos}
theorem pa0 : PA X [] (tVA X.K a0):=PA.imp pa_nil fun _ H Q q=>by
 obtain ⟨ioA,G,H₀,S,F,I,d,e,q⟩:=q
 cases e
 exact q [] F H (Grow.refl I.sub) rfl
theorem pw0 : PA X [] (tVAW X.K a0):=PA.imp pa_nil fun _ H Q q=>by
 obtain ⟨ioA,G,H₀,S,F,I,d,e,q⟩:=q
 cases e
 exact q [] F H (Grow.refl I.sub) rfl
theorem paC (he : PE X e (tV X.K RS f)) (hr : PA X es (tVA X.K fs)) (hs : starEach (e :: es) X.env = (false,eval e X.env) :: starEach es X.env:=by rfl) : PA X (e :: es) (tVA X.K (aC f fs)):=PA.imp (pa_cons he hr hs) fun _ H Q q=>by
 obtain ⟨ioA,G,H₀,S,F,I,ds,e,q⟩:=q
 obtain ⟨d,r,e1,e2,rfl⟩:=aC_some e
 exact ⟨ioA,G,H₀,S,F,I,d,e1,fun v F1 H1 g1 hx=>⟨ioA,G,H₀,S,F1,I.grow g1,r,e2,fun vs F2 H2 g2 hy=>q _ F2 H2 (g1.trans g2) ⟨v,vs,rfl,Has.same g2.ff hx,hy⟩⟩⟩
theorem pwC (he : PE X e (tV X.K RW f)) (hr : PA X es (tVAW X.K fs)) (hs : starEach (e :: es) X.env = (false,eval e X.env) :: starEach es X.env:=by rfl) : PA X (e :: es) (tVAW X.K (aC f fs)):=PA.imp (pa_cons he hr hs) fun _ H Q q=>by
 obtain ⟨ioA,G,H₀,S,F,I,ds,e,q⟩:=q
 obtain ⟨d,r,e1,e2,rfl⟩:=aC_some e
 exact ⟨ioA,G,H₀,S,F,I,d,e1,fun v F1 H1 g1 hx=>⟨ioA,G,H₀,S,F1,I.grow g1,r,e2,fun vs F2 H2 g2 hy=>q _ F2 H2 (g1.trans g2) ⟨v,vs,rfl,Has.same g2.hh hx,hy⟩⟩⟩
noncomputable def vTup (fs : VA) : VE:=fun S=>match fs S with
 | some ds=>if ds.length≤1000 then some (.tuple ds) else none
 | none=>none
noncomputable def vLst (fs : VA) : VE:=fun S=>match fs S with
 | some ds=>if ds.length≤1000 then some (.list ds) else none
 | none=>none
theorem vTup_some {S : GS} {d : PyData} (h : vTup fs S = some d) : ∃ ds,fs S = some ds∧ds.length≤1000∧d = .tuple ds:=by
 unfold vTup at h
 split at h
 ·split at h
  ·cases h; exact ⟨_,by assumption,by assumption,rfl⟩
  ·cases h
 ·cases h
theorem vLst_some {S : GS} {d : PyData} (h : vLst fs S = some d) : ∃ ds,fs S = some ds∧ds.length≤1000∧d = .list ds:=by
 unfold vLst at h
 split at h
 ·split at h
  ·cases h; exact ⟨_,by assumption,by assumption,rfl⟩
  ·cases h
 ·cases h
theorem dTup {x1} (h : PA X es (tVA X.K fs)) : PE X (.Tuple es x1 pos) (tV X.K RS (vTup fs)):=(pe_tup h).imp fun _ H Q q=>by
 obtain ⟨ioA,G,H₀,S,F,I,d,e,q⟩:=q
 obtain ⟨ds,e1,hl,rfl⟩:=vTup_some e
 refine ⟨ioA,G,H₀,S,F,I,ds,e1,fun vs F1 H1 g1 hx=>⟨by rw [← hx.length]; exact Nat.le_of_lt (small1000 hl),fun p hp=>?_⟩⟩
 exact q _ _ _ (g1.trans (Grow.allocF g1.fh hp)) ⟨p,vs,rfl,SqT.of upd_same,HasL.same (same_upd_new (g1.fh.free hp)) hx⟩
theorem dLst (h : PA X es (tVA X.K fs)) : PE X (.List es pos) (tV X.K RN (vLst fs)):=(pe_lst h).imp fun _ H Q q=>by
 obtain ⟨ioA,G,H₀,S,F,I,d,e,q⟩:=q
 obtain ⟨ds,e1,hl,rfl⟩:=vLst_some e
 refine ⟨ioA,G,H₀,S,F,I,ds,e1,fun vs F1 H1 g1 hx=>⟨by rw [← hx.length]; exact Nat.le_of_lt (small1000 hl),fun p hp=>?_⟩⟩
 exact q _ _ _ (g1.trans (Grow.alloc g1.fh hp)) ⟨ds,p,vs,rfl,rfl,g1.hh.free hp,g1.fh.free hp,upd_same,hx⟩
end
noncomputable def CallD (K : PySem.W.Frag) (h : List PyData→Option PyData) (r : List V→Hp→VK→Prop) : Prop:=∀ H vs ds d Q,h ds = some d→HasL K H ds vs→(∀ v,(∀ H',Has K H' d v)→Q v H)→r vs H Q
noncomputable def vCB (h : List PyData→Option PyData) (fs : VA) : VE:=fun S=>match fs S with
 | some ds=>h ds
 | none=>none
theorem dCB {X : Cx} {e : Expr} {h : List PyData→Option PyData} {r : List V→Hp→VK→Prop} {fs : VA} (he : PE X e (tCB r (tVAW X.K fs))) (hd : CallD X.K h r) : PE X e (tV X.K RS (vCB h fs)):=he.imp fun _ H Q q=>by
 obtain ⟨ioA,G,H₀,S,F,I,d,e,q⟩:=q
 unfold vCB at e
 split at e
 ·rename_i ds q1
  exact ⟨ioA,G,H₀,S,F,I,ds,q1,fun vs F1 H1 g1 hx=>hd H1 vs ds d Q e hx fun v hv=>q v F1 H1 g1 (hv F1)⟩
 ·cases e
noncomputable def lenD : List PyData→Option PyData
 | [.list ds]=>some (.int ds.length)
 | [.tuple ds]=>some (.int ds.length)
 | _=>none
noncomputable def absD : List PyData→Option PyData
 | [.int i]=>some (.int (if i < 0 then -i else i))
 | _=>none
noncomputable def intsOf : List PyData→Option (List Int)
 | []=>some []
 | .int i :: r=>match intsOf r with
  | some ns=>some (i :: ns)
  | none=>none
 | _=>none
theorem intsOf_some : ∀ {ds : List PyData} {ns : List Int},intsOf ds = some ns→ds = ns.map PyData.int
 | [],_,h=>by cases h; rfl
 | .int i :: r,ns,h=>by
  unfold intsOf at h
  cases q : intsOf r with
  | none=>rw [q] at h; cases h
  | some ms=>rw [q] at h; cases h; rw [intsOf_some q]; rfl
 | .none :: _,_,h=>by cases h
 | .bool _ :: _,_,h=>by cases h
 | .str _ :: _,_,h=>by cases h
 | .list _ :: _,_,h=>by cases h
 | .tuple _ :: _,_,h=>by cases h
 | .dict _ :: _,_,h=>by cases h
theorem intsOf_map (ns : List Int) : intsOf (ns.map PyData.int) = some ns:=by
 induction ns with
 | nil=>rfl
 | cons n ns ih=>simp only [List.map_cons,intsOf,ih]
noncomputable def sumD : List PyData→Option PyData
 | [.list ds]=>match intsOf ds with
  | some ns=>some (.int ns.sum)
  | none=>none
 | _=>none
noncomputable def leastOf : List Int→Int
 | []=>0
 | [n]=>n
 | n :: r=>min n (leastOf r)
theorem leastOf_spec : ∀ {ns : List Int},ns ≠ []→leastOf ns∈ns∧∀ a∈ns,leastOf ns≤a
 | [n],_=>by simp [leastOf]
 | n :: m :: r,_=>by
  obtain ⟨h1,h2⟩:=leastOf_spec (ns:=m :: r) (by simp)
  have e : leastOf (n :: m :: r) = min n (leastOf (m :: r)):=rfl
  rw [e]
  refine ⟨?_,fun a ha=>?_⟩
  ·by_cases hle : n≤leastOf (m :: r)
   ·rw [Int.min_eq_left hle]; exact List.mem_cons_self
   ·rw [Int.min_eq_right (by omega)]; exact List.mem_cons_of_mem _ h1
  ·rcases List.mem_cons.mp ha with rfl | ha
   ·exact Int.min_le_left ..
   ·exact Int.le_trans (Int.min_le_right ..) (h2 a ha)
noncomputable def minD : List PyData→Option PyData
 | [.list ds]=>match intsOf ds with
  | some (n :: r)=>some (.int (leastOf (n :: r)))
  | _=>none
 | _=>none
noncomputable def min2D : List PyData→Option PyData
 | [.int i,.int j]=>some (.int (if j < i then j else i))
 | _=>none
noncomputable def max2D : List PyData→Option PyData
 | [.int i,.int j]=>some (.int (if j > i then j else i))
 | _=>none
noncomputable def int1D : List PyData→Option PyData
 | [.int i]=>some (.int i)
 | [.bool k]=>some (.int (if k then 1 else 0))
 | _=>none
section
variable {K : PySem.W.Frag}
theorem HasL.one {H : Hp} {d : PyData} {vs : List V} (h : HasL K H [d] vs) : ∃ v,vs = [v]∧Has K H d v:=by
 obtain ⟨v,r,rfl,h1,h2⟩:=h
 have h2' : r = []:=h2
 rw [h2']; exact ⟨v,rfl,h1⟩
theorem HasL.two {H : Hp} {d e : PyData} {vs : List V} (h : HasL K H [d,e] vs) : ∃ v u,vs = [v,u]∧Has K H d v∧Has K H e u:=by
 obtain ⟨v,r,rfl,h1,h2⟩:=h
 obtain ⟨u,rfl,h3⟩:=HasL.one h2
 exact ⟨v,u,rfl,h1,h3⟩
theorem hLen : CallD K lenD (rLenM K):=by
 intro H vs ds d Q e hx q
 unfold lenD at e
 split at e
 ·obtain ⟨v,rfl,a,xs,rfl,h1,h2⟩:=HasL.one hx
  cases e
  exact ⟨xs,.inl h1,by rw [← h2.length]; exact q _ fun _=>rfl⟩
 ·obtain ⟨v,rfl,a,xs,rfl,h1,h2⟩:=HasL.one hx
  cases e
  exact ⟨xs,.inr h1,by rw [← h2.length]; exact q _ fun _=>rfl⟩
 ·cases e
theorem hSum : CallD K sumD (rSumM K):=by
 intro H vs ds d Q e hx q
 unfold sumD at e
 split at e
 ·split at e
  ·rename_i ns hn
   obtain ⟨v,rfl,a,xs,rfl,h1,h2⟩:=HasL.one hx
   cases e
   rw [intsOf_some hn] at h2
   rw [HasL.ints.mp h2] at h1
   exact ⟨ns,h1,q _ fun _=>rfl⟩
  ·cases e
 ·cases e
theorem hMin : CallD K minD (rMinM K):=by
 intro H vs ds d Q e hx q
 unfold minD at e
 split at e
 ·split at e
  ·rename_i n r hn
   obtain ⟨v,rfl,a,xs,rfl,h1,h2⟩:=HasL.one hx
   cases e
   rw [intsOf_some hn] at h2
   rw [HasL.ints.mp h2] at h1
   refine ⟨n :: r,h1,by simp,fun M hM hA=>?_⟩
   obtain ⟨g1,g2⟩:=leastOf_spec (ns:=n :: r) (by simp)
   have : M = leastOf (n :: r):=Int.le_antisymm (hA _ g1) (g2 _ hM)
   rw [this]
   exact q _ fun _=>rfl
  ·cases e
 ·cases e
theorem hMin2 : CallD K min2D (fun xs H Q=>∃ i j,xs = [.int i,.int j]∧Q (.int (if j < i then j else i)) H):=by
 intro H vs ds d Q e hx q
 unfold min2D at e
 split at e
 ·rename_i i j
  obtain ⟨v,u,rfl,h1,h2⟩:=HasL.two hx
  have ev : v = .int i:=h1
  have eu : u = .int j:=h2
  subst ev eu
  cases e
  exact ⟨i,j,rfl,q _ fun _=>rfl⟩
 ·cases e
theorem hMax2 : CallD K max2D (fun xs H Q=>∃ i j,xs = [.int i,.int j]∧Q (.int (if j > i then j else i)) H):=by
 intro H vs ds d Q e hx q
 unfold max2D at e
 split at e
 ·rename_i i j
  obtain ⟨v,u,rfl,h1,h2⟩:=HasL.two hx
  have ev : v = .int i:=h1
  have eu : u = .int j:=h2
  subst ev eu
  cases e
  exact ⟨i,j,rfl,q _ fun _=>rfl⟩
 ·cases e
end
noncomputable def tyD : PyData→String
 | .none=>"NoneType"
 | .bool _=>"bool"
 | .int _=>"int"
 | .str _=>"str"
 | .list _=>"list"
 | .tuple _=>"tuple"
 | .dict _=>"dict"
noncomputable def isiD (T : String) (d : PyData) : Option PyData:=match d with
 | .dict _=>none
 | _=>some (.bool (tyD d == T || (tyD d == "bool" && T == "int")))
noncomputable def rIsi (K : PySem.W.Frag) (T : String) : List V→Hp→VK→Prop:=fun xs H Q=>∃ x d b,xs = [x,.ty T]∧Has K H d x∧PySem.W.kitOne K (.type (tyD d)) (.type T) = some b∧Q (.bl b) H
theorem cIsi {X : Cx} {T : String} : CallR X (.builtin "isinstance") (rIsi X.K T):=by
 intro pins s σ H xs us Q I r h
 obtain ⟨x,d,b,rfl,hd,e,q⟩:=h
 cases r with
 | cons rx rr =>
  cases rr with
  | cons r2 rr =>
   cases rr
   rename_i u u2
   cases (show u2 = Value.type T from r2)
   have fin : ∀ tk,EP X pins σ Q (.bool b) { s with toks:=tk }:=fun tk=>⟨.bl b,H,I.kept (t':=tk) fun _ _ h=>h,rfl,q⟩
   cases d with
   | none=>cases (show x = .non from hd); cases (show u = Value.none from rx); exact PySem.W.kia_one PySem.W.kitx_none I.kIn True.intro e (fun z=>nomatch z) fin
   | bool y=>cases (show x = .bl y from hd); cases (show u = Value.bool y from rx); exact PySem.W.kia_one PySem.W.kitx_bool I.kIn True.intro e (fun z=>nomatch z) fin
   | int i=>cases (show x = .int i from hd); obtain ⟨t,q⟩:=(show ∃ t,u = Value.int i t from rx); cases q; exact PySem.W.kia_one PySem.W.kitx_int I.kIn True.intro e (fun z=>nomatch z) fin
   | str y=>cases (show x = .str y from hd.1); obtain ⟨t,q⟩:=(show ∃ t,u = Value.str y t from rx); cases q; exact PySem.W.kia_one PySem.W.kitx_str I.kIn True.intro e (fun z=>nomatch z) fin
   | list ds =>
    obtain ⟨a,ys,rfl,h1,_⟩:=hd
    cases (show u = Value.ref a from rx)
    obtain ⟨its,rv,⟨o,n,e1,c,_,_⟩,hz⟩:=I.list h1
    exact PySem.W.kia_one PySem.W.kitx_list I.kIn ⟨o,e1,c⟩ e (fun z=>nomatch z) fin
   | tuple ds =>
    obtain ⟨a,ys,rfl,h1,_⟩:=hd
    cases (show u = Value.ref a from rx)
    obtain ⟨its,rv,⟨o,e1,c,_⟩,hz⟩:=I.tuple h1
    exact PySem.W.kia_one PySem.W.kitx_tuple I.kIn ⟨o,e1,c⟩ e (fun z=>nomatch z) fin
   | dict k=>exact hd.elim
structure KitT (K : PySem.W.Frag) (T : String) : Prop where
 ok : ∀ d d',isiD T d = some (.bool d')→PySem.W.kitOne K (.type (tyD d)) (.type T) = some d'
noncomputable def vIsi (T : String) (f : VE) : VE:=v1 (isiD T) f
theorem isiD_bool {T : String} {d x : PyData} (h : isiD T d = some x) : ∃ b,x = .bool b:=by
 cases d <;> first | (simp [isiD] at h; done) | (simp only [isiD,Option.some.injEq] at h; exact ⟨_,h.symm⟩)
theorem dIsi {X : Cx} {e : Expr} {T : String} {f : VE} (kt : KitT X.K T) (he : PE X e (tCB (rIsi X.K T) (tCons (tV X.K RW f) (tCons (tC (.ty T)) tNil)))) : PE X e (tV X.K RS (vIsi T f)):=he.imp fun _ H Q q=>by
 obtain ⟨ioA,G,H₀,S,F,I,d,e,q⟩:=q
 unfold vIsi v1 at e
 split at e
 ·rename_i x q1
  obtain ⟨b,rfl⟩:=isiD_bool e
  exact ⟨ioA,G,H₀,S,F,I,x,q1,fun v F1 H1 g1 hx=>⟨v,x,b,rfl,hx,kt.ok x b e,q _ F1 H1 g1 rfl⟩⟩
 ·cases e
noncomputable def vListOf (f : VE) : VE:=fun S=>match f S with
 | some (.list ds)=>some (.list ds)
 | some (.tuple ds)=>some (.list ds)
 | _=>none
theorem dListOf {X : Cx} {e : Expr} {f : VE} (he : PE X e (tCB (rListM X.K) (tCons (tV X.K RM f) tNil))) : PE X e (tV X.K RN (vListOf f)):=he.imp fun _ H Q q=>by
 obtain ⟨ioA,G,H₀,S,F,I,d,e,q⟩:=q
 unfold vListOf at e
 split at e
 ·rename_i ds q1
  cases e
  refine ⟨ioA,G,H₀,S,F,I,_,q1,fun v F1 H1 g1 hx=>?_⟩
  obtain ⟨p,xs,rfl,h1,h2⟩:=RM.list g1.fh hx
  exact ⟨xs,.inl h1,fun z hz=>q _ F1 _ (g1.trans (Grow.alloc g1.fh hz)) ⟨_,z,_,rfl,rfl,g1.hh.free hz,g1.fh.free hz,upd_same,h2⟩⟩
 ·rename_i ds q1
  cases e
  refine ⟨ioA,G,H₀,S,F,I,_,q1,fun v F1 H1 g1 hx=>?_⟩
  obtain ⟨p,xs,rfl,h1,h2⟩:=RM.tuple g1.fh hx
  exact ⟨xs,.inr h1,fun z hz=>q _ F1 _ (g1.trans (Grow.alloc g1.fh hz)) ⟨_,z,_,rfl,rfl,g1.hh.free hz,g1.fh.free hz,upd_same,h2⟩⟩
 ·cases e
end VM
namespace VM
open PySem L2
noncomputable abbrev FnM:=List PyData→Option (Bool × PyData)
noncomputable def RB : Bool→Rel
 | true=>RN
 | false=>RS
noncomputable def spV (K : PySem.W.Frag) (m : FnM) : Sp:=fun vs H Q _=>∃ G ds,Same G H∧HasL K G ds vs∧∃ b d,m ds = some (b,d)∧∀ v F' H',Grow G H F' H'→RB b K G H F' H' d v→Q v H'
noncomputable def vCall (m : FnM) (fs : VA) : VE:=fun S=>match fs S with
 | some ds=>match m ds with
  | some (_,d)=>some d
  | none=>none
 | none=>none
noncomputable def vCallN (m : FnM) (fs : VA) : VE:=fun S=>match fs S with
 | some ds=>match m ds with
  | some (true,d)=>some d
  | _=>none
 | none=>none
noncomputable def immR : Bool→PyData→Bool
 | true,.list ds=>immL ds
 | true,_=>false
 | false,d=>imm d
noncomputable def vCallW (m : FnM) (fs : VA) : VE:=fun S=>match fs S with
 | some ds=>match m ds with
  | some (b,d)=>if immR b d = true then some d else none
  | none=>none
 | none=>none
noncomputable def vCallWN (m : FnM) (fs : VA) : VE:=fun S=>match fs S with
 | some ds=>match m ds with
  | some (true,.list es)=>if immL es = true then some (.list es) else none
  | _=>none
 | none=>none
section
variable {X : Cx} {e : Expr} {m : FnM} {fs : VA}
theorem dCal (he : PE X e (tCall (spV X.K m) [] E0 (tVA X.K fs))) : PE X e (tV X.K RS (vCall m fs)):=he.imp fun _ H Q q=>by
 obtain ⟨ioA,G,H₀,S,F,I,d,e,q⟩:=q
 unfold vCall at e
 split at e
 ·rename_i ds q1
  split at e
  ·rename_i b d' q2
   cases e
   refine ⟨ioA,G,H₀,S,F,I,ds,q1,fun vs F1 H1 g1 hx=>?_⟩
   show spV X.K m (vs ++ []) H1 Q E0
   rw [List.append_nil]
   refine ⟨F1,ds,g1.fh,hx,b,_,q2,fun v F' H' g hv=>?_⟩
   cases b with
   | false=>exact q v F' H' (g1.trans g) hv
   | true =>
    obtain ⟨F'',g2,r2⟩:=RN.frz g hv
    exact q v F'' H' (g1.trans g2) r2
  ·cases e
 ·cases e
theorem dCalN (he : PE X e (tCall (spV X.K m) [] E0 (tVA X.K fs))) : PE X e (tV X.K RN (vCallN m fs)):=he.imp fun _ H Q q=>by
 obtain ⟨ioA,G,H₀,S,F,I,d,e,q⟩:=q
 unfold vCallN at e
 split at e
 ·rename_i ds q1
  split at e
  ·rename_i d' q2
   cases e
   refine ⟨ioA,G,H₀,S,F,I,ds,q1,fun vs F1 H1 g1 hx=>?_⟩
   show spV X.K m (vs ++ []) H1 Q E0
   rw [List.append_nil]
   refine ⟨F1,ds,g1.fh,hx,true,_,q2,fun v F' H' g hv=>?_⟩
   obtain ⟨es,a,xs,h1,h2,h3,h4,h5,h6⟩:=hv
   exact q v F' H' (g1.trans g) ⟨es,a,xs,h1,h2,g1.hh.free h3,h4,h5,h6⟩
  ·cases e
 ·cases e
theorem dCalW (he : PE X e (tCall (spV X.K m) [] E0 (tVAW X.K fs))) : PE X e (tV X.K RS (vCallW m fs)):=he.imp fun _ H Q q=>by
 obtain ⟨ioA,G,H₀,S,F,I,d,e,q⟩:=q
 unfold vCallW at e
 split at e
 ·rename_i ds q1
  split at e
  ·rename_i b d' q2
   split at e
   ·rename_i hi
    cases e
    refine ⟨ioA,G,H₀,S,F,I,ds,q1,fun vs F1 H1 g1 hx=>?_⟩
    show spV X.K m (vs ++ []) H1 Q E0
    rw [List.append_nil]
    refine ⟨H1,ds,Same.refl _,hx,b,_,q2,fun v F' H' g hv=>?_⟩
    have gw : Grow F1 H1 (wide F1 H') H':=wide_grow ⟨g.hh,Same.refl _,g1.fh.trans g.hh,fun _ _ e=>.inl e,fun _ _ _ e=>e⟩
    cases b with
    | false=>exact q v _ H' (g1.trans gw) (imm_wide hi (Has.same g.fh hv))
    | true =>
     obtain ⟨es,a,xs,rfl,h2,h3,h4,h5,h6⟩:=hv
     have hF1 : F1 a = none:=g1.fh.free h3
     obtain ⟨F'',g2,r2⟩:=RN.frz (K:=X.K) (d:=.list es) gw ⟨es,a,xs,rfl,h2,h3,wide_none h5 hF1,h5,immL_wide hi (h6.same g.fh)⟩
     exact q v F'' H' (g1.trans g2) r2
   ·cases e
  ·cases e
 ·cases e
end
structure ItOk (K : PySem.W.Frag) (F : Hp) (J : It) (ds : List PyData) : Prop where
 go : ∀ (i : Nat) d F' H',ds[i]? = some d→Same F F'→Same F' H'→J.go i H'∧∀ x H'',J.yld i H' x H''→∃ F'',Grow F' H' F'' H''∧Has K F'' d x
 stop : ∀ (i : Nat) F' H',ds.length≤i→Same F F'→Same F' H'→J.stop i H'
noncomputable def tVI (K : PySem.W.Frag) (f : VA) : TI:=fun σ H R=>∃ ioA G H₀ S F,VI K ioA G H₀ S F σ H∧∃ ds,f S = some ds∧∀ J F' H',Grow F H F' H'→ItOk K F' J ds→R J H'
noncomputable def vItems (f : VE) : VA:=fun S=>match f S with
 | some (.list ds)=>some ds
 | _=>none
noncomputable def vItemsT (f : VE) : VA:=fun S=>match f S with
 | some (.tuple ds)=>some ds
 | _=>none
noncomputable def rangeD (lo : Int) (n : Nat) : List PyData:=(List.range n).map fun (i : Nat)=>PyData.int (lo + i)
noncomputable def vRng1 (fs : VA) : VA:=fun S=>match fs S with
 | some [.int j]=>@ite _ (-(2 ^ 62)≤j∧j < 2 ^ 62) (Classical.propDecidable _) (some (rangeD 0 j.toNat)) none
 | _=>none
noncomputable def vRng2 (fs : VA) : VA:=fun S=>match fs S with
 | some [.int i,.int j]=>@ite _ ((-(2 ^ 62)≤i∧i < 2 ^ 62)∧-(2 ^ 62)≤j∧j < 2 ^ 62) (Classical.propDecidable _) (some (rangeD i (j - i).toNat)) none
 | _=>none
noncomputable def enumD : Nat→List PyData→List PyData
 | _,[]=>[]
 | i,d :: r=>.tuple [.int i,d] :: enumD (i + 1) r
theorem enumD_get : ∀ (k : Nat) (ds : List PyData) (i : Nat),(enumD k ds)[i]? = ds[i]?.map fun d=>.tuple [.int ((k + i : Nat) : Int),d]
 | _,[],_=>by simp [enumD]
 | k,d :: r,0=>by simp [enumD]
 | k,d :: r,i + 1=>by
  simp only [enumD,List.getElem?_cons_succ]
  rw [enumD_get (k + 1) r i]
  have e : k + 1 + i = k + (i + 1):=by omega
  rw [e]
theorem enumD_length (k : Nat) (ds : List PyData) : (enumD k ds).length = ds.length:=by
 induction ds generalizing k with
 | nil=>rfl
 | cons d r ih=>simp [enumD,ih]
noncomputable def zipD (ds es : List PyData) : List PyData:=List.zipWith (fun a b=>PyData.tuple [a,b]) ds es
noncomputable def vEnum (fs : VA) : VA:=fun S=>match fs S with
 | some [.list ds]=>some (enumD 0 ds)
 | _=>none
noncomputable def vZip (fs : VA) : VA:=fun S=>match fs S with
 | some [.list ds,.list es]=>some (zipD ds es)
 | _=>none
section
variable {X : Cx} {tg l : Expr} {f : VE} {fs : VA} {p pos tpos : Pos} {elts : List Expr} {k : Nat}
theorem itok_list {K : PySem.W.Frag} {F : Hp} {a : Addr} {xs : List V} {ds : List PyData} (h1 : SqL K F a xs) (h2 : HasL K F ds xs) : ItOk K F (Itl K a) ds where
 go:=fun i d F' H' e f1 f2=>by
  obtain ⟨v,ev,hv⟩:=h2.at e
  have hq:=(f1.trans f2).seq h1
  refine ⟨⟨xs,v,hq,ev⟩,fun x H'' y=>?_⟩
  obtain ⟨e1,y⟩:=y
  subst e1
  have:=y xs hq
  rw [ev] at this
  cases this
  exact ⟨F',Grow.refl f2,Has.same f1 hv⟩
 stop:=fun i F' H' e f1 f2=>⟨xs,(f1.trans f2).seq h1,by rw [← h2.length]; exact e⟩
theorem itok_rng {K : PySem.W.Frag} {F : Hp} {lo : Int} {n : Nat} : ItOk K F (Itr lo n) (rangeD lo n) where
 go:=fun i d F' H' e f1 f2=>by
  unfold rangeD at e
  rw [List.getElem?_map] at e
  by_cases hi : i < n
  ·rw [List.getElem?_range hi] at e
   cases e
   refine ⟨hi,fun x H'' y=>?_⟩
   obtain ⟨e1,e2⟩:=y
   subst e1 e2
   exact ⟨F',Grow.refl f2,rfl⟩
  ·rw [List.getElem?_eq_none (by simp; omega)] at e
   cases e
 stop:=fun i F' H' e f1 f2=>by
  unfold rangeD at e
  show n≤i
  simpa using e
theorem itok_enum {K : PySem.W.Frag} {F : Hp} {a : Addr} {xs : List V} {ds : List PyData} (h1 : SqL K F a xs) (h2 : HasL K F ds xs) : ItOk K F (Ite K a) (enumD 0 ds) where
 go:=fun i d F' H' e f1 f2=>by
  rw [enumD_get] at e
  cases q : ds[i]? with
  | none=>rw [q] at e; cases e
  | some d0 =>
   rw [q] at e
   cases e
   obtain ⟨v,ev,hv⟩:=h2.at q
   have hq:=(f1.trans f2).seq h1
   refine ⟨⟨xs,v,hq,ev⟩,fun x H'' y=>?_⟩
   obtain ⟨pp,z,hn,e1,hz,e2⟩:=y
   subst e1 e2
   have:=hz xs hq
   rw [ev] at this
   cases this
   have gr : Grow F' H' (upd F' pp (.tup [.int (i : Int),v])) (upd H' pp (.tup [.int (i : Int),v])):=Grow.allocF f2 hn
   refine ⟨_,gr,pp,_,rfl,SqT.of upd_same,_,_,rfl,?_,_,_,rfl,Has.same (f1.trans gr.ff) hv,rfl⟩
   show V.int (i : Int) = V.int ((0 + i : Nat) : Int)
   rw [Nat.zero_add]
 stop:=fun i F' H' e f1 f2=>⟨xs,(f1.trans f2).seq h1,by rw [← h2.length]; rw [enumD_length] at e; exact e⟩
theorem itok_zip {K : PySem.W.Frag} {F : Hp} {a b : Addr} {xs ys : List V} {ds es : List PyData} (h1 : SqL K F a xs) (h2 : HasL K F ds xs) (h3 : SqL K F b ys) (h4 : HasL K F es ys) : ItOk K F (Itz K a b) (zipD ds es) where
 go:=fun i d F' H' e f1 f2=>by
  unfold zipD at e
  rw [List.getElem?_zipWith] at e
  cases q : ds[i]? with
  | none=>rw [q] at e; cases e
  | some d0 =>
   cases q2 : es[i]? with
   | none=>rw [q,q2] at e; cases e
   | some e0 =>
    rw [q,q2] at e
    cases e
    obtain ⟨v,ev,hv⟩:=h2.at q
    obtain ⟨u,eu,hu⟩:=h4.at q2
    have hq:=(f1.trans f2).seq h1
    have hq2:=(f1.trans f2).seq h3
    refine ⟨⟨xs,v,ys,u,hq,ev,hq2,eu⟩,fun x H'' y=>?_⟩
    obtain ⟨pp,z,w,hn,e1,hz,hw,e2⟩:=y
    subst e1 e2
    have t1:=hz xs hq
    have t2:=hw ys hq2
    rw [ev] at t1
    rw [eu] at t2
    cases t1
    cases t2
    have gr : Grow F' H' (upd F' pp (.tup [v,u])) (upd H' pp (.tup [v,u])):=Grow.allocF f2 hn
    exact ⟨_,gr,pp,_,rfl,SqT.of upd_same,_,_,rfl,Has.same (f1.trans gr.ff) hv,_,_,rfl,Has.same (f1.trans gr.ff) hu,rfl⟩
 stop:=fun i F' H' e f1 f2=>by
  unfold zipD at e
  rw [List.length_zipWith] at e
  exact ⟨xs,ys,(f1.trans f2).seq h1,(f1.trans f2).seq h3,by rw [← h2.length,← h4.length]; omega⟩
theorem itL (hl : PE X l (tV X.K RS f)) : PI X tg l (tVI X.K (vItems f)):=PI.imp (pi_list hl) fun _ H Q q=>by
 obtain ⟨ioA,G,H₀,S,F,I,ds,e,q⟩:=q
 unfold vItems at e
 split at e
 ·rename_i q1
  cases e
  refine ⟨ioA,G,H₀,S,F,I,_,q1,fun v F' H' g hv=>?_⟩
  obtain ⟨a,xs,rfl,h1,h2⟩:=hv
  exact ⟨a,rfl,⟨xs,g.fh.seq h1⟩,q _ F' H' g (itok_list h1 h2)⟩
 ·cases e
theorem itR1 (h : PI X tg l (iRng1 (tVAW X.K fs))) : PI X tg l (tVI X.K (vRng1 fs)):=PI.imp h fun _ H Q q=>by
 obtain ⟨ioA,G,H₀,S,F,I,ds,e,q⟩:=q
 unfold vRng1 at e
 split at e
 ·rename_i j q1
  split at e
  ·rename_i hj
   cases e
   refine ⟨ioA,G,H₀,S,F,I,_,q1,fun vs F' H' g hv=>?_⟩
   obtain ⟨v,rfl,hv'⟩:=HasL.one hv
   have ev : v = .int j:=hv'
   exact ⟨j,by rw [ev],hj.1,hj.2,q _ F' H' g itok_rng⟩
  ·cases e
 ·cases e
theorem itE (h : PI X tg l (iEnum X.K (tVA X.K fs))) : PI X tg l (tVI X.K (vEnum fs)):=PI.imp h fun _ H Q q=>by
 obtain ⟨ioA,G,H₀,S,F,I,ds,e,q⟩:=q
 unfold vEnum at e
 split at e
 ·rename_i es q1
  cases e
  refine ⟨ioA,G,H₀,S,F,I,_,q1,fun vs F' H' g hv=>?_⟩
  obtain ⟨v,rfl,a,xs,rfl,h1,h2⟩:=HasL.one hv
  exact ⟨a,rfl,⟨xs,g.fh.seq h1⟩,q _ F' H' g (itok_enum h1 h2)⟩
 ·cases e
theorem itZ (h : PI X tg l (iZip X.K (tVA X.K fs))) : PI X tg l (tVI X.K (vZip fs)):=PI.imp h fun _ H Q q=>by
 obtain ⟨ioA,G,H₀,S,F,I,ds,e,q⟩:=q
 unfold vZip at e
 split at e
 ·rename_i es es2 q1
  cases e
  refine ⟨ioA,G,H₀,S,F,I,_,q1,fun vs F' H' g hv=>?_⟩
  obtain ⟨v,u,rfl,⟨a,xs,rfl,h1,h2⟩,b,ys,rfl,h3,h4⟩:=HasL.two hv
  exact ⟨a,b,rfl,⟨xs,g.fh.seq h1⟩,⟨ys,g.fh.seq h3⟩,q _ F' H' g (itok_zip h1 h2 h3 h4)⟩
 ·cases e
end
section
variable {K : PySem.W.Frag} {ioA : Nat→Option Addr} {G H₀ F H : Hp} {S : GS} {σ : St}
theorem VI.set (I : VI K ioA G H₀ S F σ H) {i : Nat} {d : PyData} {v : V} (hd : Has K F d v) : VI K ioA G H₀ (S.set i (some (.fr,d))) F (σ.set i (some v)) H where
 pl:=I.pl
 len:=by rw [List.length_set,List.length_set]; exact I.len
 same:=I.same
 gf:=I.gf
 new:=I.new
 sub:=I.sub
 slot:=fun j t d' e=>by
  by_cases hj : j = i
  ·subst hj
   by_cases hl : j < S.length
   ·rw [List.getElem?_set_self hl] at e
    cases e
    exact ⟨v,List.getElem?_set_self (by rw [← I.len]; exact hl),hd⟩
   ·rw [List.getElem?_eq_none (by rw [List.length_set]; omega)] at e
    cases e
  ·rw [List.getElem?_set_ne (Ne.symm hj)] at e ⊢
   exact I.slot j t d' e
 inj:=fun j k t t' d1 d2 u e1 e2 n1 n2 v1 v2=>by
  have h1 : j ≠ i:=fun z=>by
   subst z
   by_cases hl : j < S.length
   ·rw [List.getElem?_set_self hl] at e1; cases e1; exact (Bool.false_ne_true n1)
   ·rw [List.getElem?_eq_none (by rw [List.length_set]; omega)] at e1; cases e1
  have h2 : k ≠ i:=fun z=>by
   subst z
   by_cases hl : k < S.length
   ·rw [List.getElem?_set_self hl] at e2; cases e2; exact (Bool.false_ne_true n2)
   ·rw [List.getElem?_eq_none (by rw [List.length_set]; omega)] at e2; cases e2
  rw [List.getElem?_set_ne (Ne.symm h1)] at e1 v1
  rw [List.getElem?_set_ne (Ne.symm h2)] at e2 v2
  exact I.inj j k t t' d1 d2 u e1 e2 n1 n2 v1 v2
end
noncomputable abbrev VG:=PyData→GS→Option GS
noncomputable abbrev VGs:=List PyData→GS→Option GS
noncomputable def noIo (S : GS) (i : Nat) : Bool:=match S[i]? with
 | some (some (.io,_))=>false
 | _=>true
noncomputable def gN (i : Nat) : VG:=fun d S=>if noIo S i = true then some (S.set i (some (.fr,d))) else none
noncomputable def g0 : VGs:=fun ds S=>match ds with
 | []=>some S
 | _=>none
noncomputable def gC (t : VG) (u : VGs) : VGs:=fun ds S=>match ds with
 | d :: r=>match t d S with
  | some S1=>u r S1
  | none=>none
 | []=>none
noncomputable def gT (n : Nat) (u : VGs) : VG:=fun d S=>match d with
 | .tuple ds=>if ds.length = n then u ds S else none
 | _=>none
noncomputable def tVG (K : PySem.W.Frag) (t : VG) (js : List Nat) : TG:=fun v σ H Q=>∃ ioA G H₀ S F,VI K ioA G H₀ S F σ H∧∃ d S',Has K F d v∧t d S = some S'∧∀ σ',(∀ (j : Nat),j ∉ js→σ'[j]? = σ[j]?)→VI K ioA G H₀ S' F σ' H→Q σ' H
noncomputable def tVGs (K : PySem.W.Frag) (t : VGs) (js : List Nat) : TGs:=fun vs σ H Q=>∃ ioA G H₀ S F,VI K ioA G H₀ S F σ H∧∃ ds S',HasL K F ds vs∧t ds S = some S'∧∀ σ',(∀ (j : Nat),j ∉ js→σ'[j]? = σ[j]?)→VI K ioA G H₀ S' F σ' H→Q σ' H
section
variable {X : Cx} {e : Expr} {es : List Expr} {t : VG} {u : VGs} {js ks : List Nat} {pos : Pos}
theorem tgN {i : Nat} (h : PG X e (gName i)) : PG X e (tVG X.K (gN i) [i]):=PG.imp h fun v σ H Q q=>by
 obtain ⟨ioA,G,H₀,S,F,I,d,S',hd,e,q⟩:=q
 unfold gN at e
 split at e
 ·cases e
  exact q _ (fun j hj=>List.getElem?_set_ne (fun z=>hj (by simp [z]))) (I.set hd)
 ·cases e
theorem PGs.imp {t t' : TGs} (h : PGs X es t) (ht : ∀ v σ H Q,t' v σ H Q→t v σ H Q) : PGs X es t':=fun pins s σ H v u Q I r q=>h pins s σ H v u Q I r (ht v σ H Q q)
theorem tg0 : PGs X [] (tVGs X.K g0 []):=PGs.imp pgsNil fun vs σ H Q q=>by
 obtain ⟨ioA,G,H₀,S,F,I,ds,S',hd,e,q⟩:=q
 unfold g0 at e
 split at e
 ·cases e
  have hd' : vs = []:=hd
  rw [hd']
  exact q σ (fun _ _=>rfl) I
 ·cases e
theorem tgC (h1 : PG X e (tVG X.K t js)) (h2 : PGs X es (tVGs X.K u ks)) (hs : (assignEach (e :: es) X.env).map (·.2) = assign e X.env :: (assignEach es X.env).map (·.2):=by rfl) : PGs X (e :: es) (tVGs X.K (gC t u) (js ++ ks)):=PGs.imp (pgsCons h1 h2 hs) fun vs σ H Q q=>by
 obtain ⟨ioA,G,H₀,S,F,I,ds,S',hd,e,q⟩:=q
 unfold gC at e
 split at e
 ·rename_i d r
  split at e
  ·rename_i S1 q1
   obtain ⟨v,rr,rfl,hv,hr⟩:=hd
   refine ⟨ioA,G,H₀,S,F,I,d,S1,hv,q1,fun σ1 k1 I1=>⟨ioA,G,H₀,S1,F,I1,r,S',hr,e,fun σ2 k2 I2=>q σ2 (fun j hj=>?_) I2⟩⟩
   rw [k2 j (fun z=>hj (List.mem_append_right _ z)),k1 j (fun z=>hj (List.mem_append_left _ z))]
  ·cases e
 ·cases e
theorem tgT {k n : Nat} (hc : X.calm = true) (h : PGs X es (tVGs X.K u js)) (hn : (assignEach es X.env).length = n:=by rfl) (hst : (assignEach es X.env).findIdx? (·.1) = none:=by rfl) : PG X (.Tuple es k pos) (tVG X.K (gT n u) js):=PG.imp (pgTup hc h hn hst) fun v σ H Q q=>by
 obtain ⟨ioA,G,H₀,S,F,I,d,S',hd,e,q⟩:=q
 unfold gT at e
 split at e
 ·rename_i ds
  split at e
  ·rename_i hl
   obtain ⟨a,xs,rfl,h1,h2⟩:=hd
   exact ⟨xs,I.sub.seqT h1,by rw [← h2.length]; exact hl,ioA,G,H₀,S,F,I,ds,S',h2,e,q⟩
  ·cases e
 ·cases e
end
noncomputable def capOne (S : GS) : Option Nat→Option (Tg × PyData)
 | none=>none
 | some j=>match S[j]? with
  | some (some (.fr,d))=>some (.fr,d)
  | some (some (.ow,d))=>some (.fr,d)
  | some (some (.io,d))=>some (.fr,d)
  | _=>none
noncomputable def capFr (S : GS) : List (Option Nat)→Bool
 | []=>true
 | none :: r=>capFr S r
 | some j :: r=>(match S[j]? with
  | some (some (.fr,_))=>true
  | some (some _)=>false
  | _=>true) && capFr S r
noncomputable def capG (cap : List (Option Nat)) (S : GS) : GS:=cap.map (capOne S)
noncomputable def lcD (t : VG) (fc : VT) (fe : VE) (S : GS) : List PyData→Option (List PyData)
 | []=>some []
 | d :: r=>match t d S with
  | none=>none
  | some S2=>match fc S2 with
   | none=>none
   | some false=>lcD t fc fe S r
   | some true=>match fe S2 with
    | none=>none
    | some e=>match lcD t fc fe S r with
     | none=>none
     | some es=>some (e :: es)
noncomputable def vLC (fi : VA) (cap : List (Option Nat)) (t : VG) (fc : VT) (fe : VE) : VE:=fun S=>match fi S with
 | some ds=>@ite _ (capFr S cap = true∧ds.length < sizeLine) (Classical.propDecidable _) (match lcD t fc fe (capG cap S) ds with
  | some es=>some (.list es)
  | none=>none) none
 | none=>none
noncomputable def vLCW (fi : VA) (cap : List (Option Nat)) (t : VG) (fc : VT) (fe : VE) : VE:=fun S=>match fi S with
 | some ds=>@ite _ (ds.length < sizeLine) (Classical.propDecidable _) (match lcD t fc (vImm fe) (capG cap S) ds with
  | some es=>some (.list es)
  | none=>none) none
 | none=>none
theorem capG_get {cap : List (Option Nat)} {S : GS} {i : Nat} {t : Tg} {d : PyData} (h : (capG cap S)[i]? = some (some (t,d))) : ∃ j t',cap[i]? = some (some j)∧S[j]? = some (some (t',d))∧t'.dat = true∧t = .fr:=by
 unfold capG at h
 rw [List.getElem?_map] at h
 cases q : cap[i]? with
 | none=>rw [q] at h; cases h
 | some o =>
  rw [q] at h
  cases o with
  | none=>simp [capOne] at h
  | some j =>
   simp only [Option.map_some,capOne,Option.some.injEq] at h
   split at h
   ·rename_i d' hS
    cases h
    exact ⟨j,.fr,rfl,hS,rfl,rfl⟩
   ·rename_i d' hS
    cases h
    exact ⟨j,.ow,rfl,hS,rfl,rfl⟩
   ·rename_i d' hS
    cases h
    exact ⟨j,.io,rfl,hS,rfl,rfl⟩
   ·cases h
theorem capFr_get {S : GS} : ∀ {cap : List (Option Nat)} {i j : Nat} {t : Tg} {d : PyData},capFr S cap = true→cap[i]? = some (some j)→S[j]? = some (some (t,d))→t = .fr
 | [],i,j,t,d,_,h,_=>by simp at h
 | none :: r,0,j,t,d,_,h,_=>by simp at h
 | none :: r,i + 1,j,t,d,hc,h,hs=>capFr_get (cap:=r) (i:=i) hc (by simpa using h) hs
 | some k :: r,0,j,t,d,hc,h,hs=>by
  have e : k = j:=by simpa using h
  subst e
  unfold capFr at hc
  rw [hs] at hc
  cases t <;> simp at hc ⊢
 | some k :: r,i + 1,j,t,d,hc,h,hs=>by
  unfold capFr at hc
  rw [Bool.and_eq_true] at hc
  exact capFr_get (cap:=r) (i:=i) hc.2 (by simpa using h) hs
theorem capSt_get {cap : List (Option Nat)} {σ : St} {i j : Nat} {v : V} (h : cap[i]? = some (some j)) (hs : σ[j]? = some (some v)) : (capSt cap σ)[i]? = some (some v):=by
 unfold capSt
 rw [List.getElem?_map,h]
 simp only [Option.map_some,hs]
section
variable {K : PySem.W.Frag} {ioA : Nat→Option Addr} {G H₀ F H : Hp} {S : GS} {σ : St} {cap : List (Option Nat)}
theorem VI.block (I : VI K ioA G H₀ S F σ H) {R : Hp} (hR : Same R H) (hv : ∀ (i j : Nat) t d v,cap[i]? = some (some j)→S[j]? = some (some (t,d))→σ[j]? = some (some v)→t.dat = true→SlotOk K ioA H₀ F H j t d v→Has K R d v) :
  VI K (fun _=>none) R H (capG cap S) R (capSt cap σ) H where
 pl:=fun _ _ _ e=>e
 len:=by unfold capG capSt; rw [List.length_map,List.length_map]
 same:=Same.refl _
 gf:=Same.refl _
 new:=fun _ _ e=>.inl e
 sub:=hR
 slot:=fun i t d e=>by
  obtain ⟨j,t',h1,h2,h3,rfl⟩:=capG_get e
  obtain ⟨v,hv1,hs⟩:=I.slot j t' d h2
  exact ⟨v,capSt_get h1 hv1,hv i j t' d v h1 h2 hv1 h3 hs⟩
 inj:=fun i j t t' d d' v e1 _ n1=>by
  obtain ⟨_,_,_,_,_,rfl⟩:=capG_get e1
  exact absurd n1 Bool.false_ne_true
theorem VI.block_fr (I : VI K ioA G H₀ S F σ H) (hc : capFr S cap = true) : VI K (fun _=>none) F H (capG cap S) F (capSt cap σ) H :=
 I.block I.sub fun i j t d v h1 h2 _ _ hs=>by
  have:=capFr_get hc h1 h2
  subst this
  exact hs
theorem VI.block_any (I : VI K ioA G H₀ S F σ H) : VI K (fun _=>none) H H (capG cap S) H (capSt cap σ) H :=
 I.block (Same.refl _) fun i j t d v h1 h2 _ hd hs=>by
  have own : OwnAt K H₀ F H d v→Has K H d v:=fun ⟨a,ds,xs,e1,e2,e3,_,_,e6⟩=>by
   rw [e1]; exact ⟨a,xs,e2,SqL.of e3,e6.same I.sub⟩
  cases t with
  | fr=>exact Has.same I.sub hs
  | ow=>exact own hs
  | io=>exact own hs.1
  | rf=>cases hd
  | ce=>cases hd
end
theorem capK_of {cap : List (Option Nat)} {σ σ' : St} {js : List Nat} (hjs : (js.all fun j=>cap[j]? == some none) = true) (k : ∀ (j : Nat),j ∉ js→σ'[j]? = (capSt cap σ)[j]?) : CapK (capSt cap σ) σ':=fun j v e=>by
 by_cases hj : j∈js
 ·have:=List.all_eq_true.mp hjs j hj
  have hc : cap[j]? = some none:=by simpa using this
  unfold capSt at e
  rw [List.getElem?_map,hc] at e
  simp at e
 ·rw [k j hj]; exact e
theorem rdLC' {K : PySem.W.Frag} {fi : VA} {cap : List (Option Nat)} {t : VG} {js : List Nat} {fc : VT} {fe fe' : VE} (hjs : (js.all fun j=>cap[j]? == some none) = true) {σ : St} {H : Hp} {Q : VK} {ioA : Nat→Option Addr} {G H₀ F : Hp} {S : GS} {ds es : List PyData}
  (I : VI K ioA G H₀ S F σ H) (e1 : fi S = some ds) (hlen : ds.length < sizeLine) (e2 : lcD t fc fe (capG cap S) ds = some es)
  (Rf : Hp→Hp→Hp) (hb : ∀ F' H',Grow F H F' H'→VI K (fun _=>none) (Rf F' H') H' (capG cap S) (Rf F' H') (capSt cap σ) H'∧Same F' (Rf F' H'))
  (hr : ∀ (F' H' F2 H2 : Hp) S2 d v,fe S2 = some d→Same F' H'→Grow (Rf F' H') H' F2 H2→Has K F2 d v→∃ F3,Grow F' H' F3 H2∧Has K F3 d v) (hfe : ∀ S d,fe S = some d→fe' S = some d)
  (q : ∀ v F' H',Grow F H F' H'→RN K F H F' H' (.list es) v→Q v H') : tLC (tVI K fi) cap (tVG K t js) (tVT K fc) (tV K RS fe') σ H Q:=by
 refine ⟨ioA,G,H₀,S,F,I,ds,e1,fun J F1 H1 g1 it D hD=>?_⟩
 refine ⟨fun i m H'=>∃ F' es1 es2 ys,m = ds.length - i∧i≤ds.length∧H' D = some (.lst ys)∧F' D = none∧HasL K F' es1 ys∧Grow F1 H1 F' H'∧es1.length≤i∧lcD t fc fe (capG cap S) (ds.drop i) = some es2∧es1 ++ es2 = es,?_,?_⟩
 ·exact ⟨_,F1,[],es,[],rfl,Nat.zero_le _,upd_same,g1.fh.free hD,rfl,Grow.alloc g1.fh hD,Nat.zero_le _,e2,rfl⟩
 ·rintro i m H' ⟨F',es1,es2,ys,rfl,hi,hDl,hFD,hh,g,hle,hr2,happ⟩
  by_cases hlt : i < ds.length
  ·have hd : ds[i]? = some ds[i]:=by simp [hlt]
   rw [List.drop_eq_getElem_cons hlt] at hr2
   obtain ⟨go,yl⟩:=it.go i ds[i] F' H' hd g.ff g.fh
   refine .inr ⟨go,fun x H2 y=>?_⟩
   obtain ⟨F2,g2,hx⟩:=yl x H2 y
   obtain ⟨IB,hR⟩:=hb F2 H2 ((g1.trans g).trans g2)
   have hr':=hr F2 H2
   generalize Rf F2 H2 = R at *
   generalize ds[i] = d0 at *
   unfold lcD at hr2
   cases q1 : t d0 (capG cap S) with
   | none=>rw [q1] at hr2; cases hr2
   | some S2 =>
    rw [q1] at hr2
    simp only at hr2
    refine ⟨fun _=>none,R,H2,capG cap S,R,IB,d0,S2,Has.same hR hx,q1,fun σ2 k2 I2=>⟨capK_of hjs k2,?_⟩⟩
    have D2 : H2 D = some (.lst ys):=g2.hh _ _ hDl
    cases q2 : fc S2 with
    | none=>rw [q2] at hr2; cases hr2
    | some b =>
     rw [q2] at hr2
     refine ⟨fun _=>none,R,H2,S2,R,I2,b,q2,fun F3 H3 g3=>?_⟩
     cases b with
     | false =>
      simp only [Bool.false_eq_true,if_false]
      have gg : Grow F' H' F2 H3:=⟨g2.hh.trans g3.hh,g2.ff,hR.trans (g3.ff.trans g3.fh),g2.new,g2.pl⟩
      have hF2 : F2 D = none:=by
       cases z : F2 D with
       | none=>rfl
       | some o =>
        rcases g2.new D o z with w | w | w
        ·rw [hFD] at w; cases w
        ·rw [hDl] at w; cases w
        ·have:=g2.fh D o z
         rw [D2] at this; cases this; simp [imo] at w
      exact ⟨ds.length - (i + 1),by omega,F2,es1,es2,ys,rfl,hlt,g3.hh _ _ D2,hF2,hh.same g2.ff,g.trans gg,by omega,hr2,happ⟩
     | true =>
      simp only [if_true] at hr2 ⊢
      cases q3 : fe S2 with
      | none=>rw [q3] at hr2; cases hr2
      | some e0 =>
       rw [q3] at hr2
       simp only at hr2
       cases q4 : lcD t fc fe (capG cap S) (ds.drop (i + 1)) with
       | none=>rw [q4] at hr2; cases hr2
       | some es3 =>
        rw [q4] at hr2
        cases hr2
        refine ⟨fun _=>none,R,H2,S2,F3,I2.grow g3,e0,hfe _ _ q3,fun v F4 H4 g4 hv=>?_⟩
        obtain ⟨F5,g5,hv5⟩:=hr' F4 H4 S2 e0 v q3 g2.fh (g3.trans g4) hv
        have D4 : H4 D = some (.lst ys):=g5.hh _ _ D2
        have g25:=g2.trans g5
        have hF5 : F5 D = none:=by
         cases z : F5 D with
         | none=>rfl
         | some o =>
          rcases g25.new D o z with w | w | w
          ·rw [hFD] at w; cases w
          ·rw [hDl] at w; cases w
          ·have:=g25.fh D o z
           rw [D4] at this; cases this; simp [imo] at w
        have hly:=hh.length
        refine ⟨ys,D4,by omega,ds.length - (i + 1),by omega,F5,es1 ++ [e0],es3,ys ++ [v],rfl,hlt,upd_same,hF5,HasL.snoc hv5 (hh.same g25.ff),?_,by simp; omega,rfl,by simpa using happ⟩
        have g15:=g.trans g25
        refine ⟨fun b o e=>?_,g15.ff,fun b o e=>?_,g15.new,g15.pl⟩
        ·rw [upd_ne (ne_of_none e hD)]; exact g15.hh b o e
        ·rw [upd_ne (ne_of_none e hF5)]; exact g15.fh b o e
  ·have hie : i = ds.length:=by omega
   subst hie
   rw [List.drop_eq_nil_of_le (Nat.le_refl _)] at hr2
   cases hr2
   rw [List.append_nil] at happ
   subst happ
   refine .inl ⟨it.stop _ F' H' (Nat.le_refl _) g.ff g.fh,q _ F' H' (g1.trans g) ⟨_,D,ys,rfl,rfl,g1.hh.free hD,hFD,hDl,hh⟩⟩
theorem rdLC {K : PySem.W.Frag} {fi : VA} {cap : List (Option Nat)} {t : VG} {js : List Nat} {fc : VT} {fe : VE} (hjs : (js.all fun j=>cap[j]? == some none) = true) {σ : St} {H : Hp} {Q : VK} (q : tV K RN (vLC fi cap t fc fe) σ H Q) :
  tLC (tVI K fi) cap (tVG K t js) (tVT K fc) (tV K RS fe) σ H Q:=by
 obtain ⟨ioA,G,H₀,S,F,I,d,e,q⟩:=q
 unfold vLC at e
 split at e
 ·rename_i ds e1
  split at e
  ·rename_i hc
   split at e
   ·rename_i es e2
    cases e
    exact rdLC' hjs I e1 hc.2 e2 (fun F' _=>F') (fun F' H' g=>⟨(I.grow g).block_fr hc.1,Same.refl _⟩) (fun F' H' F2 H2 S2 d v _ _ g2 hv=>⟨F2,g2,hv⟩) (fun _ _ h=>h) q
   ·cases e
  ·cases e
 ·cases e
theorem rdLCW {K : PySem.W.Frag} {fi : VA} {cap : List (Option Nat)} {t : VG} {js : List Nat} {fc : VT} {fe : VE} (hjs : (js.all fun j=>cap[j]? == some none) = true) {σ : St} {H : Hp} {Q : VK} (q : tV K RN (vLCW fi cap t fc fe) σ H Q) :
  tLC (tVI K fi) cap (tVG K t js) (tVT K fc) (tV K RS fe) σ H Q:=by
 obtain ⟨ioA,G,H₀,S,F,I,d,e,q⟩:=q
 unfold vLCW at e
 split at e
 ·rename_i ds e1
  split at e
  ·rename_i hc
   split at e
   ·rename_i es e2
    cases e
    refine rdLC' hjs I e1 hc e2 (fun _ H'=>H') (fun F' H' g=>⟨(I.grow g).block_any,g.fh⟩) (fun F' H' F2 H2 S2 d v he fh g2 hv=>?_) (fun _ _ h=>(vImm_some h).1) q
    exact ⟨wide F' H2,wide_grow ⟨g2.hh,Same.refl _,fh.trans g2.hh,fun _ _ e=>.inl e,fun _ _ _ e=>e⟩,imm_wide (vImm_some he).2 (Has.same g2.fh hv)⟩
   ·cases e
  ·cases e
 ·cases e
noncomputable def cTrue : VT:=fun _=>some true
theorem PIfs.imp {X : Cx} {ifs : List Expr} {t t' : TT} (h : PIfs X ifs t) (ht : ∀ σ H Q,t' σ H Q→t σ H Q) : PIfs X ifs t':=fun pins s σ H Q I q=>h pins s σ H Q I (ht σ H Q q)
theorem ifN {X : Cx} : PIfs X [] (tVT X.K cTrue):=PIfs.imp pif_nil fun _ H Q q=>by
 obtain ⟨ioA,G,H₀,S,F,I,b,e,q⟩:=q
 cases e
 exact q F H (Grow.refl I.sub)
theorem dLC {X : Cx} {e : Expr} {fi : VA} {cap : List (Option Nat)} {t : VG} {js : List Nat} {fc : VT} {fe : VE} (he : PE X e (tLC (tVI X.K fi) cap (tVG X.K t js) (tVT X.K fc) (tV X.K RS fe))) (hjs : (js.all fun j=>cap[j]? == some none) = true:=by rfl) : PE X e (tV X.K RN (vLC fi cap t fc fe)) :=
 he.imp fun _ _ _ q=>rdLC hjs q
theorem dLCW {X : Cx} {e : Expr} {fi : VA} {cap : List (Option Nat)} {t : VG} {js : List Nat} {fc : VT} {fe : VE} (he : PE X e (tLC (tVI X.K fi) cap (tVG X.K t js) (tVT X.K fc) (tV X.K RS fe))) (hjs : (js.all fun j=>cap[j]? == some none) = true:=by rfl) : PE X e (tV X.K RN (vLCW fi cap t fc fe)) :=
 he.imp fun _ _ _ q=>rdLCW hjs q
end VM
namespace VM
open PySem L2
inductive Out where
 | fail
 | nxt (S : GS)
 | ret (S : GS) (b : Bool) (d : PyData)
 | brk (S : GS)
 | cnt (S : GS)
noncomputable abbrev VS:=GS→Out
noncomputable def RR (K : PySem.W.Frag) (H₀ : Hp) (S : GS) (σ : St) (F H : Hp) : Bool→PyData→V→Prop
 | false,d,v=>Has K F d v
 | true,d,v=>OwnAt K H₀ F H d v∧∀ (i : Nat) t d',S[i]? = some (some (t,d'))→t.own = true→σ[i]? ≠ some (some v)
noncomputable def OutOk (K : PySem.W.Frag) (ioA : Nat→Option Addr) (G H₀ : Hp) (D : Ends) : Out→Prop
 | .fail=>False
 | .nxt S=>∀ F σ H,VI K ioA G H₀ S F σ H→D.nx σ H
 | .brk S=>∀ F σ H,VI K ioA G H₀ S F σ H→D.bk σ H
 | .cnt S=>∀ F σ H,VI K ioA G H₀ S F σ H→D.ct σ H
 | .ret S b d=>∀ v F σ H,VI K ioA G H₀ S F σ H→RR K H₀ S σ F H b d v→D.rt v H
noncomputable def tVS (K : PySem.W.Frag) (g : VS) : TS:=fun D σ H=>∃ ioA G H₀ S F,VI K ioA G H₀ S F σ H∧OutOk K ioA G H₀ D (g S)
section
variable {K : PySem.W.Frag} {ioA : Nat→Option Addr} {G H₀ F H F' H' : Hp} {S : GS} {σ : St} {D : Ends}
theorem VI.self (I : VI K ioA G H₀ S F σ H) : VI K ioA F H₀ S F σ H:=⟨I.len,I.same,Same.refl _,fun _ _ e=>.inl e,I.sub,I.slot,I.inj,fun _ _ _ e=>e⟩
theorem VI.rebase {S' : GS} {σ' : St} (I : VI K ioA G H₀ S F σ H) (J : VI K ioA F H₀ S' F' σ' H') : VI K ioA G H₀ S' F' σ' H':=⟨J.len,J.same,I.gf.trans J.gf,fun a o e=>by
 rcases J.new a o e with z | z | z
 ·exact I.new a o z
 ·exact .inr (.inl z)
 ·exact .inr (.inr z),J.sub,J.slot,J.inj,fun a o u e=>I.pl a o u (J.pl a o u e)⟩
end
noncomputable def gNop : VS:=fun S=>.nxt S
noncomputable def gSeq (g1 g2 : VS) : VS:=fun S=>match g1 S with
 | .nxt S1=>g2 S1
 | o=>o
noncomputable def gIf (c : VT) (g1 g2 : VS) : VS:=fun S=>match c S with
 | some true=>g1 S
 | some false=>g2 S
 | none=>.fail
section
variable {X : Cx} {s : Stmt} {rest a b : List Stmt} {g g1 g2 : VS} {c : Expr} {tc : VT} {pos : Pos}
theorem sNil : PSs X [] (tVS X.K gNop):=PSs.imp pss_nil fun D σ H q=>by
 obtain ⟨ioA,G,H₀,S,F,I,q⟩:=q
 exact q F σ H I
theorem sOne (h : PS X s (tVS X.K g)) : PSs X [s] (tVS X.K g):=pss_one h
theorem sSeq (h1 : PS X s (tVS X.K g1)) (h2 : PSs X rest (tVS X.K g2)) : PSs X (s :: rest) (tVS X.K (gSeq g1 g2)):=PSs.imp (pss_cons h1 h2) fun D σ H q=>by
 obtain ⟨ioA,G,H₀,S,F,I,q⟩:=q
 refine ⟨ioA,G,H₀,S,F,I,?_⟩
 unfold gSeq at q
 cases e : g1 S with
 | fail=>rw [e] at q; exact q
 | brk S1=>rw [e] at q; exact q
 | cnt S1=>rw [e] at q; exact q
 | ret S1 b d=>rw [e] at q; exact q
 | nxt S1=>rw [e] at q; exact fun F' σ' H' I'=>⟨ioA,G,H₀,S1,F',I',q⟩
theorem sIf (hc : PT X c (tVT X.K tc)) (ha : PSs X a (tVS X.K g1)) (hb : PSs X b (tVS X.K g2)) : PS X (.If c a b pos) (tVS X.K (gIf tc g1 g2)):=PS.imp (ps_if hc ha hb) fun D σ H q=>by
 obtain ⟨ioA,G,H₀,S,F,I,q⟩:=q
 unfold gIf at q
 cases e : tc S with
 | none=>rw [e] at q; exact q.elim
 | some k =>
  rw [e] at q
  refine ⟨ioA,G,H₀,S,F,I,k,e,fun F' H' g=>?_⟩
  cases k with
  | true=>simp only [if_true]; exact ⟨ioA,G,H₀,S,F',I.grow g,q⟩
  | false=>simp only [Bool.false_eq_true,if_false]; exact ⟨ioA,G,H₀,S,F',I.grow g,q⟩
noncomputable def gFail : VS:=fun _=>.fail
end
noncomputable def gRet (f : VE) : VS:=fun S=>match f S with
 | some d=>.ret S false d
 | none=>.fail
noncomputable def gRetN (f : VE) : VS:=fun S=>match f S with
 | some d=>.ret S true d
 | none=>.fail
noncomputable def gRetO (i : Nat) : VS:=fun S=>match S[i]? with
 | some (some (.ow,d))=>.ret (S.set i none) true d
 | some (some (.fr,d))=>.ret S false d
 | _=>.fail
section
variable {K : PySem.W.Frag} {ioA : Nat→Option Addr} {G H₀ F H F' H' : Hp} {S : GS} {σ : St}
theorem set_none_get {S : GS} {i j : Nat} {x : Tg × PyData} (h : (S.set i none)[j]? = some (some x)) : j ≠ i∧S[j]? = some (some x):=by
 by_cases hj : j = i
 ·subst hj
  by_cases hl : j < S.length
  ·rw [List.getElem?_set_self hl] at h; cases h
  ·rw [List.getElem?_eq_none (by rw [List.length_set]; omega)] at h; cases h
 ·rw [List.getElem?_set_ne (Ne.symm hj)] at h; exact ⟨hj,h⟩
theorem VI.drop (I : VI K ioA G H₀ S F σ H) (i : Nat) : VI K ioA G H₀ (S.set i none) F σ H where
 pl:=I.pl
 len:=by rw [List.length_set]; exact I.len
 same:=I.same
 gf:=I.gf
 new:=I.new
 sub:=I.sub
 slot:=fun j t d e=>I.slot j t d (set_none_get e).2
 inj:=fun j k t t' d d' v e1 e2=>I.inj j k t t' d d' v (set_none_get e1).2 (set_none_get e2).2
theorem own_alloc (I : VI K ioA G H₀ S F σ H) {i : Nat} {t : Tg} {d : PyData} {a : Addr} (e : S[i]? = some (some (t,d))) (ht : t.own = true) (hv : σ[i]? = some (some (.ref a))) : ∃ xs,H a = some xs:=by
 obtain ⟨v,hv',hs⟩:=I.slot i t d e
 rw [hv] at hv'
 cases hv'
 cases t with
 | fr=>cases ht
 | rf=>cases ht
 | ow=>obtain ⟨a',ds,xs,_,e2,e3,_⟩:=hs; cases e2; exact ⟨_,e3⟩
 | io=>obtain ⟨a',ds,xs,_,e2,e3,_⟩:=hs.1; cases e2; exact ⟨_,e3⟩
 | ce=>obtain ⟨a',c,o,_,e2,e3,_⟩:=hs; cases e2; exact ⟨_,e3⟩
theorem RN.own {d : PyData} {v : V} (I : VI K ioA G H₀ S F σ H) (r : RN K F H F' H' d v) : OwnAt K H₀ F' H' d v∧∀ (i : Nat) t d',S[i]? = some (some (t,d'))→t.own = true→σ[i]? ≠ some (some v):=by
 obtain ⟨ds,a,xs,h1,h2,h3,h4,h5,h6⟩:=r
 refine ⟨⟨a,ds,xs,h1,h2,h5,h4,I.same.free h3,h6⟩,fun i t d' e ht hv=>?_⟩
 rw [h2] at hv
 obtain ⟨ys,hy⟩:=own_alloc I e ht hv
 rw [h3] at hy; cases hy
end
section
variable {X : Cx} {e : Expr} {f : VE} {pos : Pos} {s : Stmt}
theorem sRet (he : PE X e (tV X.K RS f)) : PS X (.Return (some e) pos) (tVS X.K (gRet f)):=PS.imp (ps_ret he) fun D σ H q=>by
 obtain ⟨ioA,G,H₀,S,F,I,q⟩:=q
 unfold gRet at q
 cases e : f S with
 | none=>rw [e] at q; exact q.elim
 | some d=>rw [e] at q; exact ⟨ioA,G,H₀,S,F,I,d,e,fun v F' H' g hv=>q v F' σ H' (I.grow g) hv⟩
theorem sRetN (he : PE X e (tV X.K RN f)) : PS X (.Return (some e) pos) (tVS X.K (gRetN f)):=PS.imp (ps_ret he) fun D σ H q=>by
 obtain ⟨ioA,G,H₀,S,F,I,q⟩:=q
 unfold gRetN at q
 cases e : f S with
 | none=>rw [e] at q; exact q.elim
 | some d=>rw [e] at q; exact ⟨ioA,G,H₀,S,F,I,d,e,fun v F' H' g hv=>q v F' σ H' (I.grow g) (RN.own I hv)⟩
theorem sRetO {i : Nat} (he : PE X e (vR i)) : PS X (.Return (some e) pos) (tVS X.K (gRetO i)):=PS.imp (ps_ret he) fun D σ H q=>by
 obtain ⟨ioA,G,H₀,S,F,I,q⟩:=q
 unfold gRetO at q
 split at q
 ·rename_i d hS
  obtain ⟨v,hv,hs⟩:=I.slot i .ow d hS
  show vR i σ H D.rt
  unfold vR; rw [hv]
  refine q v F σ H (I.drop i) ⟨hs,fun j t d' e ht hv'=>?_⟩
  obtain ⟨hj,e⟩:=set_none_get e
  exact hj (I.inj j i t .ow d' d v e hS ht rfl hv' hv)
 ·rename_i d hS
  obtain ⟨v,hv,hs⟩:=I.slot i .fr d hS
  show vR i σ H D.rt
  unfold vR; rw [hv]
  exact q v F σ H I hs
 ·exact q.elim
noncomputable def gEx (f : VE) : VS:=fun S=>match f S with
 | some _=>.nxt S
 | none=>.fail
noncomputable def gAs (f : VE) (t : VG) : VS:=fun S=>match f S with
 | some d=>match t d S with
  | some S'=>.nxt S'
  | none=>.fail
 | none=>.fail
theorem sAs {t : VG} {js : List Nat} (h : PS X s (tAsg (tV X.K RS f) (tVG X.K t js))) : PS X s (tVS X.K (gAs f t)):=PS.imp h fun D σ H q=>by
 obtain ⟨ioA,G,H₀,S,F,I,q⟩:=q
 unfold gAs at q
 cases e : f S with
 | none=>rw [e] at q; exact q.elim
 | some d =>
  rw [e] at q
  simp only at q
  cases e2 : t d S with
  | none=>rw [e2] at q; exact q.elim
  | some S' =>
   rw [e2] at q
   exact ⟨ioA,G,H₀,S,F,I,d,e,fun v F' H' g hv=>⟨ioA,G,H₀,S,F',I.grow g,d,S',hv,e2,fun σ' _ I'=>q F' σ' H' I'⟩⟩
noncomputable def gOw (i : Nat) (f : VE) : VS:=fun S=>match f S with
 | some d=>if noIo S i = true then .nxt (S.set i (some (.ow,d))) else .fail
 | none=>.fail
theorem VI.setOwn {K : PySem.W.Frag} {ioA : Nat→Option Addr} {G H₀ F H : Hp} {S : GS} {σ : St} {i : Nat} {d : PyData} {v : V} (I : VI K ioA G H₀ S F σ H) (ho : OwnAt K H₀ F H d v) (hn : ∀ (i : Nat) t d',S[i]? = some (some (t,d'))→t.own = true→σ[i]? ≠ some (some v)) :
  VI K ioA G H₀ (S.set i (some (.ow,d))) F (σ.set i (some v)) H where
 pl:=I.pl
 len:=by rw [List.length_set,List.length_set]; exact I.len
 same:=I.same
 gf:=I.gf
 new:=I.new
 sub:=I.sub
 slot:=fun j t d' e=>by
  by_cases hj : j = i
  ·subst hj
   by_cases hl : j < S.length
   ·rw [List.getElem?_set_self hl] at e
    cases e
    exact ⟨v,List.getElem?_set_self (by rw [← I.len]; exact hl),ho⟩
   ·rw [List.getElem?_eq_none (by rw [List.length_set]; omega)] at e
    cases e
  ·rw [List.getElem?_set_ne (Ne.symm hj)] at e ⊢
   exact I.slot j t d' e
 inj:=fun j k t t' d1 d2 u e1 e2 n1 n2 v1 v2=>by
  have at_i : ∀ {j : Nat} {t : Tg} {d1 : PyData} {u : V},(S.set i (some (.ow,d)))[j]? = some (some (t,d1))→(σ.set i (some v))[j]? = some (some u)→j = i→u = v:=fun {j t d1 u} e1 v1 z=>by
   subst z
   by_cases hl : j < S.length
   ·rw [List.getElem?_set_self (by rw [← I.len]; exact hl)] at v1
    exact (Option.some.inj (Option.some.inj v1)).symm
   ·rw [List.getElem?_eq_none (by rw [List.length_set]; omega)] at e1; cases e1
  by_cases hj : j = i
  ·by_cases hk : k = i
   ·rw [hj,hk]
   ·have:=at_i e1 v1 hj
    subst this
    rw [List.getElem?_set_ne (Ne.symm hk)] at e2 v2
    exact absurd v2 (hn k t' d2 e2 n2)
  ·by_cases hk : k = i
   ·have:=at_i e2 v2 hk
    subst this
    rw [List.getElem?_set_ne (Ne.symm hj)] at e1 v1
    exact absurd v1 (hn j t d1 e1 n1)
   ·rw [List.getElem?_set_ne (Ne.symm hj)] at e1 v1
    rw [List.getElem?_set_ne (Ne.symm hk)] at e2 v2
    exact I.inj j k t t' d1 d2 u e1 e2 n1 n2 v1 v2
theorem sOw {i : Nat} (h : PS X s (tAsg (tV X.K RN f) (gName i))) : PS X s (tVS X.K (gOw i f)):=PS.imp h fun D σ H q=>by
 obtain ⟨ioA,G,H₀,S,F,I,q⟩:=q
 unfold gOw at q
 cases e : f S with
 | none=>rw [e] at q; exact q.elim
 | some d =>
  rw [e] at q
  simp only at q
  split at q
  ·refine ⟨ioA,G,H₀,S,F,I,d,e,fun v F' H' g hv=>?_⟩
   obtain ⟨h1,h2⟩:=RN.own I hv
   exact q F' _ H' ((I.grow g).setOwn h1 h2)
  ·exact q.elim
theorem tAsg_imp {te te' : TE} {g : TG} (h : PS X s (tAsg te g)) (hi : ∀ σ H Q,te' σ H Q→te σ H Q) : PS X s (tAsg te' g):=PS.imp h fun D σ H q=>hi σ H _ q
noncomputable def frz (i : Nat) (S : GS) : GS:=match S[i]? with
 | some (some (.ow,d))=>S.set i (some (.fr,d))
 | _=>S
noncomputable def gFz (i : Nat) (g : VS) : VS:=fun S=>g (frz i S)
theorem VI.frz {K : PySem.W.Frag} {ioA : Nat→Option Addr} {G H₀ F H : Hp} {S : GS} {σ : St} (I : VI K ioA G H₀ S F σ H) (i : Nat) : ∃ F',VI K ioA G H₀ (frz i S) F' σ H:=by
 unfold VM.frz
 split
 ·rename_i d hS
  obtain ⟨v,hv,a,ds,xs,rfl,rfl,e3,e4,e5,e6⟩:=I.slot i .ow d hS
  have hl : i < S.length:=by
   by_cases h : i < S.length
   ·exact h
   ·rw [List.getElem?_eq_none (by omega)] at hS; cases hS
  have s1 : Same F (upd F a (.lst xs)):=same_upd_new e4
  have s2 : Same (upd F a (.lst xs)) H:=fun b o e=>by
   by_cases hb : b = a
   ·subst hb; rw [upd_same] at e; cases e; exact e3
   ·rw [upd_ne hb] at e; exact I.sub b o e
  refine ⟨upd F a (.lst xs),⟨by rw [List.length_set]; exact I.len,I.same,I.gf.trans s1,fun b o e=>?_,s2,fun j t d' e=>?_,fun j k t t' d1 d2 u g1 g2 n1 n2 v1 v2=>?_,fun b x u e=>by
   by_cases hb : b = a
   ·subst hb; rw [upd_same] at e; cases e
   ·rw [upd_ne hb] at e; exact I.pl b x u e⟩⟩
  ·by_cases hb : b = a
   ·subst hb; exact .inr (.inl e5)
   ·rw [upd_ne hb] at e; exact I.new b o e
  ·by_cases hj : j = i
   ·subst hj
    rw [List.getElem?_set_self hl] at e
    cases e
    exact ⟨_,hv,a,xs,rfl,SqL.of upd_same,e6.same s1⟩
   ·rw [List.getElem?_set_ne (Ne.symm hj)] at e
    obtain ⟨u,hu,hs⟩:=I.slot j t d' e
    have ow : t.own = true→OwnAt K H₀ F H d' u→OwnAt K H₀ (upd F a (.lst xs)) H d' u:=fun ht ⟨b,ds',ys,h1,h2,h3,h4,h5,h6⟩=>by
     refine ⟨b,ds',ys,h1,h2,h3,?_,h5,h6.same s1⟩
     have : b ≠ a:=fun z=>by
      subst z
      exact hj (I.inj j i t .ow d' _ _ e hS ht rfl hu (by rw [h2]; exact hv))
     rw [upd_ne this]; exact h4
    refine ⟨u,hu,?_⟩
    cases t with
    | fr=>exact Has.same s1 hs
    | ow=>exact ow rfl hs
    | io=>exact ⟨ow rfl hs.1,hs.2⟩
    | rf=>exact hs
    | ce =>
     obtain ⟨b,c,o,h1,h2,h3,h4,h5,h6⟩:=hs
     refine ⟨b,c,o,h1,h2,h3,?_,h5,h6.same s1⟩
     have : b ≠ a:=fun z=>by
      subst z
      exact hj (I.inj j i .ce .ow d' _ _ e hS rfl rfl hu (by rw [h2]; exact hv))
     rw [upd_ne this]; exact h4
  ·have nj : ∀ {j : Nat} {t : Tg} {d1 : PyData},(S.set i (some (.fr,.list ds)))[j]? = some (some (t,d1))→t.own = true→S[j]? = some (some (t,d1)):=fun {j t d1} g1 n1=>by
    by_cases hj : j = i
    ·subst hj; rw [List.getElem?_set_self hl] at g1; cases g1; exact absurd n1 Bool.false_ne_true
    ·rw [List.getElem?_set_ne (Ne.symm hj)] at g1; exact g1
   exact I.inj j k t t' d1 d2 u (nj g1 n1) (nj g2 n2) n1 n2 v1 v2
 ·exact ⟨F,I⟩
theorem sFz {i : Nat} {g : VS} (h : PS X s (tVS X.K g)) : PS X s (tVS X.K (gFz i g)):=PS.imp h fun D σ H q=>by
 obtain ⟨ioA,G,H₀,S,F,I,q⟩:=q
 obtain ⟨F',I'⟩:=I.frz i
 exact ⟨ioA,G,H₀,_,F',I',q⟩
end
section
variable {K : PySem.W.Frag} {ioA : Nat→Option Addr} {G H₀ F H : Hp} {S : GS} {σ : St}
noncomputable def ownL (S : GS) (i : Nat) : Option (Tg × List PyData):=match S[i]? with
 | some (some (.ow,.list ds))=>some (.ow,ds)
 | some (some (.io,.list ds))=>some (.io,ds)
 | _=>none
theorem ownL_some {i : Nat} {t : Tg} {ds : List PyData} (h : ownL S i = some (t,ds)) : S[i]? = some (some (t,.list ds))∧t.own = true:=by
 unfold ownL at h
 split at h
 ·cases h; exact ⟨by assumption,rfl⟩
 ·cases h; exact ⟨by assumption,rfl⟩
 ·cases h
theorem ownL_tag {i : Nat} {t : Tg} {ds : List PyData} (h : ownL S i = some (t,ds)) : t = .ow∨t = .io:=by
 unfold ownL at h
 split at h
 ·cases h; exact .inl rfl
 ·cases h; exact .inr rfl
 ·cases h
theorem VI.own (I : VI K ioA G H₀ S F σ H) {i : Nat} {t : Tg} {ds : List PyData} (h : ownL S i = some (t,ds)) : ∃ a xs,σ[i]? = some (some (.ref a))∧H a = some (.lst xs)∧HasL K F ds xs ∧
  ∀ (ds' : List PyData) (xs' : List V) (F' H' : Hp),Grow F H F' H'→HasL K F' ds' xs'→VI K ioA G H₀ (S.set i (some (t,.list ds'))) F' σ (upd H' a (.lst xs')):=by
 obtain ⟨hS,ht⟩:=ownL_some h
 obtain ⟨v,hv,hs⟩:=I.slot i t _ hS
 have ho : OwnAt K H₀ F H (.list ds) v:=by
  rcases ownL_tag h with rfl | rfl
  ·exact hs
  ·exact hs.1
 obtain ⟨a,ds0,xs,e1,rfl,e3,e4,e5,e6⟩:=ho
 cases e1
 have hl : i < S.length:=by
  by_cases h : i < S.length
  ·exact h
  ·rw [List.getElem?_eq_none (by omega)] at hS; cases hS
 refine ⟨a,xs,hv,e3,e6,fun ds' xs' F' H' g hx=>?_⟩
 have J:=I.grow g
 have hF' : F' a = none:=by
  cases q : F' a with
  | none=>rfl
  | some o =>
   rcases g.new a o q with z | z | z
   ·rw [e4] at z; cases z
   ·rw [e3] at z; cases z
   ·have:=g.fh a o q
    rw [g.hh _ _ e3] at this; cases this; simp [imo] at z
 refine ⟨by rw [List.length_set]; exact I.len,fun b o e=>?_,J.gf,J.new,fun b o e=>?_,fun j t' d' e=>?_,fun j k t1 t2 d1 d2 u g1 g2 n1 n2 v1 v2=>?_,J.pl⟩
 ·rw [upd_ne (ne_of_none e e5)]; exact J.same b o e
 ·rw [upd_ne (ne_of_none e hF')]; exact J.sub b o e
 ·by_cases hj : j = i
  ·subst hj
   rw [List.getElem?_set_self hl] at e
   cases e
   refine ⟨_,hv,?_⟩
   have o : OwnAt K H₀ F' (upd H' a (.lst xs')) (.list ds') (.ref a):=⟨a,ds',xs',rfl,rfl,upd_same,hF',e5,hx⟩
   rcases ownL_tag h with rfl | rfl
   ·exact o
   ·exact ⟨o,hs.2⟩
  ·rw [List.getElem?_set_ne (Ne.symm hj)] at e
   obtain ⟨u,hu,hs'⟩:=J.slot j t' d' e
   have ow : t'.own = true→OwnAt K H₀ F' H' d' u→OwnAt K H₀ F' (upd H' a (.lst xs')) d' u:=fun ht' ⟨b,ds1,ys,h1,h2,h3,h4,h5,h6⟩=>by
    refine ⟨b,ds1,ys,h1,h2,?_,h4,h5,h6⟩
    have : b ≠ a:=fun z=>by
     subst z
     exact hj (I.inj j i t' t d' _ _ e hS ht' ht hu (by rw [h2]; exact hv))
    rw [upd_ne this]; exact h3
   refine ⟨u,hu,?_⟩
   cases t' with
   | fr=>exact hs'
   | ow=>exact ow rfl hs'
   | io=>exact ⟨ow rfl hs'.1,hs'.2⟩
   | rf=>exact hs'
   | ce =>
    obtain ⟨b,c,o,h1,h2,h3,h4,h5,h6⟩:=hs'
    refine ⟨b,c,o,h1,h2,?_,h4,h5,h6⟩
    have : b ≠ a:=fun z=>by
     subst z
     exact hj (I.inj j i .ce t d' _ _ e hS rfl ht hu (by rw [h2]; exact hv))
    rw [upd_ne this]; exact h3
 ·have nj : ∀ {j : Nat} {t1 : Tg} {d1 : PyData},(S.set i (some (t,.list ds')))[j]? = some (some (t1,d1))→t1.own = true→∃ d2,S[j]? = some (some (t1,d2)):=fun {j t1 d1} g1 n1=>by
   by_cases hj : j = i
   ·subst hj; rw [List.getElem?_set_self hl] at g1; cases g1; exact ⟨_,hS⟩
   ·rw [List.getElem?_set_ne (Ne.symm hj)] at g1; exact ⟨_,g1⟩
  obtain ⟨d3,q1⟩:=nj g1 n1
  obtain ⟨d4,q2⟩:=nj g2 n2
  exact I.inj j k t1 t2 d3 d4 u q1 q2 n1 n2 v1 v2
end
noncomputable def gApp (i : Nat) (fs : VA) : VS:=fun S=>match ownL S i,fs S with
 | some (t,ds),some [d]=>@ite _ (ds.length < sizeLine) (Classical.propDecidable _) (.nxt (S.set i (some (t,.list (ds ++ [d]))))) .fail
 | _,_=>.fail
noncomputable def gPut (i : Nat) (fk f : VE) : VS:=fun S=>match f S,fk S,ownL S i with
 | some d,some (.int k),some (t,ds)=>(match ixN ds.length k with
  | some j=>.nxt (S.set i (some (t,.list (ds.set j d))))
  | none=>.fail)
 | _,_,_=>.fail
noncomputable def gAugI (h : PyData→PyData→Option PyData) (i : Nat) (fk f : VE) : VS:=fun S=>match ownL S i,fk S,f S with
 | some (t,ds),some (.int k),some y=>(match ixN ds.length k with
  | some j=>(match ds[j]? with
   | some x=>(match h x y with
    | some z=>.nxt (S.set i (some (t,.list (ds.set j z))))
    | none=>.fail)
   | none=>.fail)
  | none=>.fail)
 | _,_,_=>.fail
noncomputable def gAug (h : PyData→PyData→Option PyData) (i : Nat) (f : VE) : VS:=fun S=>match S[i]?,f S with
 | some (some (.fr,x)),some y=>(match h x y with
  | some z=>.nxt (S.set i (some (.fr,z)))
  | none=>.fail)
 | _,_=>.fail
section
variable {X : Cx} {s : Stmt} {fs : VA} {f fk : VE} {h : PyData→PyData→Option PyData}
theorem sApp {i : Nat} (hp : PS X s (tDrop (tBM X.K "list" rAppM (vR i) (tVA X.K fs)))) : PS X s (tVS X.K (gApp i fs)):=PS.imp hp fun D σ H q=>by
 obtain ⟨ioA,G,H₀,S,F,I,q⟩:=q
 unfold gApp at q
 split at q
 ·rename_i t ds d q1 q2
  split at q
  ·rename_i hz
   obtain ⟨a,xs,hv,hH,hx,nx⟩:=I.own q1
   unfold tDrop tBM vR
   simp only [hv]
   refine ⟨.inl ⟨rfl,xs,SqL.of hH⟩,ioA,G,H₀,S,F,I,[d],q2,fun vs F' H' g hvs=>?_⟩
   obtain ⟨v,rfl,hv2⟩:=HasL.one hvs
   refine ⟨xs,g.hh _ _ hH,by rw [← hx.length]; exact hz,q F' σ _ (nx _ _ F' H' g (HasL.snoc hv2 (hx.same g.ff)))⟩
  ·exact q.elim
 ·exact q.elim
theorem sPut {i : Nat} (hp : PS X s (tAsg (tV X.K RS f) (gSub (vR i) (tV X.K RW fk) rSetM))) : PS X s (tVS X.K (gPut i fk f)):=PS.imp hp fun D σ H q=>by
 obtain ⟨ioA,G,H₀,S,F,I,q⟩:=q
 unfold gPut at q
 split at q
 ·rename_i d k t ds q1 q2 q3
  split at q
  ·rename_i j q4
   refine ⟨ioA,G,H₀,S,F,I,d,q1,fun v F1 H1 g1 hv=>?_⟩
   obtain ⟨a,xs,hv',hH,hx,nx⟩:=(I.grow g1).own q3
   show vR i σ H1 _
   unfold vR; rw [hv']
   refine ⟨ioA,G,H₀,S,F1,I.grow g1,_,q2,fun u F2 H2 g2 hu=>?_⟩
   have eu : u = .int k:=hu
   subst eu
   refine ⟨xs,j,g2.hh _ _ hH,by rw [← hx.length]; exact q4,q F2 σ _ (nx _ _ F2 H2 g2 (HasL.set (Has.same g2.ff hv) j (hx.same g2.ff)))⟩
  ·exact q.elim
 ·exact q.elim
theorem getL : PGet X (rIxL X.K):=by
 intro pins s σ H x y v u Q I rx ry h
 obtain ⟨p,xs,i,z,rfl,rfl,hq,he,q⟩:=h
 cases rx
 obtain ⟨t,rfl⟩:=ry
 obtain ⟨its,r,pl,hz⟩:=I.list hq
 obtain ⟨j,h1,h2,h3,h4,h5⟩:=atI_get he
 obtain ⟨w,ew,rw'⟩:=r.get h2
 have hl:=r.length
 have hn:=line63
 have fin : EP X pins σ Q w s:=⟨z,H,I,rw',q⟩
 by_cases h0 : 0≤i
 ·have hj : i.toNat = j:=by
   rw [seqIndex_of h0 h5] at h1
   exact Option.some.inj h1
  exact wpAny_getItem_list pl.isList h0 (by omega) (by rw [hj]; simpa using ew) fin
 ·have hj : (i + (its.toArray.size : Int)).toNat = j:=by
   rw [seqIndex_neg (by omega) h4] at h1
   rw [List.size_toArray,← hl]
   exact Option.some.inj h1
  exact wpAny_getItem_list_neg pl.isList (by omega) (by rw [List.size_toArray] <;> omega) (by omega) (by rw [hj]; simpa using ew) fin
theorem sAugI {r : R2} (hd : OpD X.K h r) {i : Nat} (hp : PS X s (tAugS (vR i) (tV X.K RW fk) (tV X.K RS f) (rIxL X.K) r rSetM)) : PS X s (tVS X.K (gAugI h i fk f)):=PS.imp hp fun D σ H q=>by
 obtain ⟨ioA,G,H₀,S,F,I,q⟩:=q
 unfold gAugI at q
 split at q
 ·rename_i t ds k y q1 q2 q3
  split at q
  ·rename_i j q4
   split at q
   ·rename_i x q5
    split at q
    ·rename_i z q6
     obtain ⟨a,xs,hv',hH,hx,nx⟩:=I.own q1
     show vR i σ H _
     unfold vR; rw [hv']
     refine ⟨ioA,G,H₀,S,F,I,_,q2,fun u F1 H1 g1 hu=>?_⟩
     have eu : u = .int k:=hu
     subst eu
     obtain ⟨w,hw1,hw2⟩:=hx.at q5
     have q4' : ixN xs.length k = some j:=by rw [← hx.length]; exact q4
     refine ⟨a,xs,k,w,rfl,rfl,SqL.of (g1.hh _ _ hH),by unfold atI; rw [q4']; exact hw1,?_⟩
     refine ⟨ioA,G,H₀,S,F1,I.grow g1,y,q3,fun v F2 H2 g2 hv=>?_⟩
     have g:=g1.trans g2
     refine hd H2 w v x y z _ q6 (Has.same g2.fh (Has.same g.ff hw2)) (Has.same g2.fh hv) fun v2 hv2=>?_
     exact ⟨xs,j,g.hh _ _ hH,q4',q F2 σ _ (nx _ _ F2 H2 g (HasL.set (hv2 F2) j (hx.same g.ff)))⟩
    ·exact q.elim
   ·exact q.elim
  ·exact q.elim
 ·exact q.elim
theorem sAug {r : R2} (hd : OpD X.K h r) {i : Nat} (hp : PS X s (tAugM i (tV X.K RS f) r)) : PS X s (tVS X.K (gAug h i f)):=PS.imp hp fun D σ H q=>by
 obtain ⟨ioA,G,H₀,S,F,I,q⟩:=q
 unfold gAug at q
 split at q
 ·rename_i x y q1 q2
  split at q
  ·rename_i z q3
   obtain ⟨v,hv,hs⟩:=I.slot i .fr x q1
   show tAugM i (tV X.K RS f) r D σ H
   unfold tAugM; rw [hv]
   refine ⟨ioA,G,H₀,S,F,I,y,q2,fun u F1 H1 g1 hu=>?_⟩
   refine hd H1 v u x y z _ q3 (Has.same g1.fh (Has.same g1.ff hs)) (Has.same g1.fh hu) fun w hw=>?_
   exact q F1 _ H1 ((I.grow g1).set (hw F1))
  ·exact q.elim
 ·exact q.elim
end
noncomputable def forG (t : VG) (g : VS) : List PyData→GS→Out
 | [],S=>.nxt S
 | d :: r,S=>match t d S with
  | none=>.fail
  | some S1=>match g S1 with
   | .nxt S2=>forG t g r S2
   | .cnt S2=>forG t g r S2
   | .brk S2=>.nxt S2
   | .ret S2 b e=>.ret S2 b e
   | .fail=>.fail
noncomputable def gFor (fi : VA) (t : VG) (g : VS) : VS:=fun S=>match fi S with
 | some ds=>forG t g ds S
 | none=>.fail
noncomputable def whileN (c : VT) (g : VS) : Nat→GS→Out
 | 0,_=>.fail
 | n + 1,S=>match c S with
  | none=>.fail
  | some false=>.nxt S
  | some true=>match g S with
   | .nxt S2=>whileN c g n S2
   | .cnt S2=>whileN c g n S2
   | .brk S2=>.nxt S2
   | .ret S2 b e=>.ret S2 b e
   | .fail=>.fail
open Classical in
noncomputable def gWh (c : VT) (g : VS) : VS:=fun S=>if h : ∃ n,whileN c g n S ≠ .fail then whileN c g h.choose S else .fail
theorem whileN_mono {c : VT} {g : VS} : ∀ {n : Nat} {S : GS},whileN c g n S ≠ .fail→whileN c g (n + 1) S = whileN c g n S
 | 0,_,h=>absurd rfl h
 | n + 1,S,h=>by
  rw [whileN]
  conv=>rhs; rw [whileN]
  rw [whileN] at h
  cases q : c S with
  | none=>rfl
  | some b =>
   rw [q] at h
   cases b with
   | false=>rfl
   | true =>
    simp only at h ⊢
    cases q2 : g S with
    | nxt S2=>rw [q2] at h; exact whileN_mono h
    | cnt S2=>rw [q2] at h; exact whileN_mono h
    | brk _=>rfl
    | ret _ _ _=>rfl
    | fail=>rfl
theorem whileN_le {c : VT} {g : VS} {n m : Nat} {S : GS} (h : whileN c g n S ≠ .fail) (hm : n≤m) : whileN c g m S = whileN c g n S:=by
 induction hm with
 | refl=>rfl
 | step hm ih=>rw [whileN_mono (by rw [ih]; exact h),ih]
theorem gWh_eq {c : VT} {g : VS} {n : Nat} {S : GS} {o : Out} (h : whileN c g n S = o) (ho : o ≠ .fail) : gWh c g S = o:=by
 have hx : ∃ n,whileN c g n S ≠ .fail:=⟨n,by rw [h]; exact ho⟩
 unfold gWh
 rw [dif_pos hx]
 rcases Nat.le_total n hx.choose with l | l
 ·rw [whileN_le (by rw [h]; exact ho) l,h]
 ·rw [← whileN_le hx.choose_spec l,h]
section
variable {X : Cx} {s : Stmt} {t : VG} {js : List Nat} {g : VS} {fi : VA} {tc : VT}
theorem sFor (hp : PS X s (tFor (tVI X.K fi) (tVG X.K t js) (tVS X.K g))) : PS X s (tVS X.K (gFor fi t g)):=PS.imp hp fun D σ H q=>by
 obtain ⟨ioA,G,H₀,S,F,I,q⟩:=q
 unfold gFor at q
 split at q
 ·rename_i ds q1
  refine ⟨ioA,G,H₀,S,F,I,ds,q1,fun J F1 H1 g1 it=>?_⟩
  have I1:=I.grow g1
  refine ⟨fun i m σ' H'=>∃ S' F',m = ds.length - i∧i≤ds.length∧VI X.K ioA F1 H₀ S' F' σ' H'∧OutOk X.K ioA G H₀ D (forG t g (ds.drop i) S'),⟨_,S,F1,rfl,Nat.zero_le _,I1.self,q⟩,?_⟩
  rintro i m σ' H' ⟨S',F',rfl,hi,I',q'⟩
  by_cases hlt : i < ds.length
  ·have hd : ds[i]? = some ds[i]:=by simp [hlt]
   rw [List.drop_eq_getElem_cons hlt] at q'
   obtain ⟨go,yl⟩:=it.go i ds[i] F' H' hd I'.gf I'.sub
   generalize ds[i] = d0 at *
   unfold forG at q'
   cases q2 : t d0 S' with
   | none=>rw [q2] at q'; exact q'.elim
   | some S1 =>
    rw [q2] at q'
    simp only at q'
    refine .inr ⟨go,fun σ2 H2=>∃ m',m' < ds.length - i∧∃ S2 F2,m' = ds.length - (i + 1)∧i + 1≤ds.length∧VI X.K ioA F1 H₀ S2 F2 σ2 H2∧OutOk X.K ioA G H₀ D (forG t g (ds.drop (i + 1)) S2),fun _ _ h=>h,fun x H2 y=>?_⟩
    obtain ⟨F2,g2,hx⟩:=yl x H2 y
    refine ⟨ioA,F1,H₀,S',F2,I'.grow g2,d0,S1,hx,q2,fun σ3 _ I3=>⟨ioA,F1,H₀,S1,F2,I3,?_⟩⟩
    cases q3 : g S1 with
    | fail=>rw [q3] at q'; exact q'.elim
    | nxt S2=>rw [q3] at q'; exact fun F4 σ4 H4 I4=>⟨_,by omega,S2,F4,rfl,hlt,I4,q'⟩
    | cnt S2=>rw [q3] at q'; exact fun F4 σ4 H4 I4=>⟨_,by omega,S2,F4,rfl,hlt,I4,q'⟩
    | brk S2=>rw [q3] at q'; exact fun F4 σ4 H4 I4=>q' F4 σ4 H4 (I1.rebase I4)
    | ret S2 b e=>rw [q3] at q'; exact fun v F4 σ4 H4 I4 r=>q' v F4 σ4 H4 (I1.rebase I4) r
  ·have e : i = ds.length:=by omega
   subst e
   rw [List.drop_eq_nil_of_le (Nat.le_refl _)] at q'
   exact .inl ⟨it.stop _ F' H' (Nat.le_refl _) I'.gf I'.sub,q' F' σ' H' (I1.rebase I')⟩
 ·exact q.elim
theorem sWh (hp : PS X s (tWhile (tVT X.K tc) (tVS X.K g))) : PS X s (tVS X.K (gWh tc g)):=PS.imp hp fun D σ H q=>by
 obtain ⟨ioA,G,H₀,S,F,I,q⟩:=q
 unfold gWh at q
 split at q
 ·rename_i hx
  refine ⟨fun m σ' H'=>∃ S' F',VI X.K ioA G H₀ S' F' σ' H'∧OutOk X.K ioA G H₀ D (whileN tc g m S'),⟨hx.choose,S,F,I,q⟩,?_⟩
  rintro m σ' H' ⟨S',F',I',q'⟩
  cases m with
  | zero=>exact q'.elim
  | succ n =>
   rw [whileN] at q'
   cases q2 : tc S' with
   | none=>rw [q2] at q'; exact q'.elim
   | some b =>
    rw [q2] at q'
    refine ⟨ioA,G,H₀,S',F',I',b,q2,fun F2 H2 g2=>?_⟩
    cases b with
    | false=>simp only [Bool.false_eq_true,if_false]; exact q' F2 σ' H2 (I'.grow g2)
    | true =>
     simp only [if_true]
     simp only at q'
     refine ⟨fun σ2 H2=>∃ m',m' < n + 1∧∃ S' F',VI X.K ioA G H₀ S' F' σ2 H2∧OutOk X.K ioA G H₀ D (whileN tc g m' S'),fun _ _ h=>h,ioA,G,H₀,S',F2,I'.grow g2,?_⟩
     cases q3 : g S' with
     | fail=>rw [q3] at q'; exact q'.elim
     | nxt S2=>rw [q3] at q'; exact fun F4 σ4 H4 I4=>⟨n,by omega,S2,F4,I4,q'⟩
     | cnt S2=>rw [q3] at q'; exact fun F4 σ4 H4 I4=>⟨n,by omega,S2,F4,I4,q'⟩
     | brk S2=>rw [q3] at q'; exact fun F4 σ4 H4 I4=>q' F4 σ4 H4 I4
     | ret S2 b e=>rw [q3] at q'; exact fun v F4 σ4 H4 I4 r=>q' v F4 σ4 H4 I4 r
 ·exact q.elim
end
noncomputable def ini (nN : Nat) (ds : List PyData) : GS:=ds.map (fun d=>some (.fr,d)) ++ List.replicate (nN - ds.length) none
noncomputable def fnM (n nN : Nat) (g : VS) : FnM:=fun ds=>if ds.length = n then (match g (ini nN ds) with
 | .ret _ b d=>some (b,d)
 | .nxt _=>some (false,.none)
 | _=>none) else none
theorem ini_get {nN : Nat} {ds : List PyData} {i : Nat} {t : Tg} {d : PyData} (h : (ini nN ds)[i]? = some (some (t,d))) : ds[i]? = some d∧t = .fr:=by
 unfold ini at h
 by_cases hi : i < ds.length
 ·rw [List.getElem?_append_left (by simpa using hi),List.getElem?_map] at h
  cases q : ds[i]? with
  | none=>rw [q] at h; cases h
  | some d'=>rw [q] at h; simp at h; exact ⟨by rw [h.2],h.1.symm⟩
 ·rw [List.getElem?_append_right (by simpa using hi),List.getElem?_replicate] at h
  split at h
  ·cases h
  ·cases h
section
variable {P : Program} {w : World} {K : PySem.W.Frag} {mg : Str→Option Value} {base : Heap}
theorem ini_ok {G H : Hp} {N : List Str} {ds : List PyData} {vs : List V} (hs : Same G H) (h : HasL K G ds vs) : VI K (fun _=>none) G H (ini N.length ds) G (L2.start N vs) H where
 pl:=fun _ _ _ e=>e
 len:=by unfold ini L2.start; simp [h.length]
 same:=Same.refl _
 gf:=Same.refl _
 new:=fun _ _ e=>.inl e
 sub:=hs
 slot:=fun i t d e=>by
  obtain ⟨e1,rfl⟩:=ini_get e
  obtain ⟨v,hv,hh⟩:=h.at e1
  refine ⟨v,?_,hh⟩
  have hl : i < vs.length:=by
   by_cases z : i < vs.length
   ·exact z
   ·rw [List.getElem?_eq_none (by omega)] at hv; cases hv
  unfold L2.start
  rw [List.getElem?_append_left (by simpa using hl),List.getElem?_map,hv]
  rfl
 inj:=fun i j t t' d d' v e1 _ n1=>by
  rw [(ini_get e1).2] at n1; exact absurd n1 Bool.false_ne_true
theorem fnV0 {x qual : Str} {st : Stmt} {f : Addr} {fd : FuncData} {N ps : List Str} {k : Nat} {g : VS} (F : Fun K x qual st f fd) (S : FnScope N ps (defScope st))
  (hb : ∀ (cdv : Value) (A : Around) (outer : List Env) (s : Shared) (H : Hp) (E : XK),Room k (A.deeper (PyProof.Rows.envOfC qual (defScope st) s.heap.objs.size f cdv))→PSs (cxOf CX0 P w K mg base N qual (defScope st) f cdv A outer s H E).nox (defBody st) (tVS K g)) :
  FnOk P w K mg base CX0 (k + 1) f fd ps (spV K (fnM ps.length N.length g)):=by
 refine F.ok S (fun vs H Q E h=>?_) (fun cdv A outer s H vs Q E hr h=>⟨_,hb cdv A outer s H E hr,?_⟩)
 ·obtain ⟨G,ds,_,hx,b,d,e,_⟩:=h
  unfold fnM at e
  split at e
  ·rename_i hl; rw [← hx.length]; exact hl
  ·cases e
 ·obtain ⟨G,ds,hs,hx,b,d,e,q⟩:=h
  unfold fnM at e
  split at e
  ·refine ⟨fun _=>none,G,H,ini N.length ds,G,ini_ok hs hx,?_⟩
   split at e
   ·rename_i S' b' d' e2
    cases e
    rw [e2]
    intro v F' σ' H' I r
    refine q v F' H' ⟨I.same,I.gf,I.sub,I.new,I.pl⟩ ?_
    cases b with
    | false=>exact r
    | true =>
     obtain ⟨⟨a,es,xs,h1,h2,h3,h4,h5,h6⟩,_⟩:=r
     exact ⟨es,a,xs,h1,h2,h5,h4,h3,h6⟩
   ·rename_i S' e2
    cases e
    rw [e2]
    intro F' σ' H' I
    exact q .non F' H' ⟨I.same,I.gf,I.sub,I.new,I.pl⟩ rfl
   ·cases e
  ·cases e
theorem fnV {x qual : Str} {st : Stmt} {f : Addr} {fd : FuncData} {N ps : List Str} {k n nN : Nat} {g : VS} (F : Fun K x qual st f fd) (S : FnScope N ps (defScope st)) (hn : ps.length = n) (hN : N.length = nN)
  (hb : ∀ (cdv : Value) (A : Around) (outer : List Env) (s : Shared) (H : Hp) (E : XK),Room k (A.deeper (PyProof.Rows.envOfC qual (defScope st) s.heap.objs.size f cdv))→PSs (cxOf CX0 P w K mg base N qual (defScope st) f cdv A outer s H E).nox (defBody st) (tVS K g)) :
  FnOk P w K mg base CX0 (k + 1) f fd ps (spV K (fnM n nN g)):=by
 subst hn hN
 exact fnV0 F S hb
end
end VM
namespace VM
open PySem L2
open PyProof.Rows (list_addW)
noncomputable def rCatS (K : PySem.W.Frag) : R2:=fun x y H Q=>∃ l b xs zs,x = .ref l∧y = .ref b∧SqL K H l xs∧SqL K H b zs∧xs.length + zs.length≤sizeLine∧∀ p,H p = none→Q (.ref p) (upd H p (.lst (xs ++ zs)))
theorem op_catS {X : Cx} : OpR X (binaryOp .Add) (rCatS X.K):=by
 intro pins s σ H x y v u Q I rx ry h
 obtain ⟨l,b,xs,zs,rfl,rfl,hH,hB,hz,q⟩:=h
 cases rx
 cases ry
 obtain ⟨its,r,pl,z⟩:=I.list hH
 obtain ⟨its2,r2,pl2,z2⟩:=I.list hB
 have hl:=r.length
 have hl2:=r2.length
 obtain ⟨⟨cls,dd,data,sl⟩,n,ho,hc,hdd,hd⟩:=pl
 obtain ⟨⟨cls2,dd2,data2,sl2⟩,n2,ho2,hc2,hdd2,hd2⟩:=pl2
 simp only at hc hd hc2 hd2
 subst hc hd hc2 hd2
 have e : its.toArray ++ its2.toArray = (its ++ its2).toArray:=by simp
 refine concat_meets ⟨_,ho,rfl⟩ ⟨_,ho2,rfl⟩ noFill_list_add seq_list_add PySem.F.slot_list_add PySem.F.entry_list_add (PySem.F.args_list_add_2 _ _) (list_addW l b its.toArray its2.toArray n n2 dd dd2 sl sl2 (by rw [List.size_toArray,List.size_toArray]; omega)) ⟨ho,ho2,?_⟩
 rw [e]
 exact ⟨.ref _,_,I.lnew (t':=s.toks) (r.append r2) (by rw [List.length_append]; omega),rfl,q _ I.fresh⟩
noncomputable def catD : PyData→PyData→Option PyData
 | .list xs,.list ys=>@ite _ (xs.length + ys.length≤sizeLine) (Classical.propDecidable _) (some (.list (xs ++ ys))) none
 | _,_=>none
noncomputable def repD : PyData→PyData→Option PyData
 | .list xs,.int k=>@ite _ (k < 2 ^ 63∧-(2 ^ 63)≤k∧xs.length * k.toNat≤sizeLine) (Classical.propDecidable _) (some (.list (List.replicate k.toNat xs).flatten)) none
 | _,_=>none
theorem HasL.rep {K : PySem.W.Frag} {H : Hp} {ds : List PyData} {vs : List V} (h : HasL K H ds vs) : ∀ k : Nat,HasL K H (List.replicate k ds).flatten (List.replicate k vs).flatten
 | 0=>rfl
 | k + 1=>by
  rw [List.replicate_succ,List.replicate_succ,List.flatten_cons,List.flatten_cons]
  exact HasL.append (HasL.rep h k) h
section
variable {X : Cx} {a b e : Expr} {fa fb f : VE} {pos : Pos} {s : Stmt} {fs : VA}
theorem dCat (ha : PE X a (tV X.K RM fa)) (hb : PE X b (tV X.K RM fb)) : PE X (.BinOp a .Add b pos) (tV X.K RN (v2 catD fa fb)):=(pe_op op_catS ha hb).imp fun _ H Q q=>by
 obtain ⟨ioA,G,H₀,S,F,I,d,e,q⟩:=q
 obtain ⟨x,y,ex,ey,e⟩:=v2_some e
 refine ⟨ioA,G,H₀,S,F,I,x,ex,fun v F1 H1 g1 hx=>⟨ioA,G,H₀,S,F1,I.grow g1,y,ey,fun u F2 H2 g2 hy=>?_⟩⟩
 unfold catD at e
 split at e
 ·split at e
  ·rename_i hz
   cases e
   obtain ⟨p,xs,rfl,h1,h2⟩:=RM.list g2.fh (RM.grow g2 hx)
   obtain ⟨p',ys,rfl,h3,h4⟩:=RM.list g2.fh hy
   have g:=g1.trans g2
   refine ⟨p,p',xs,ys,rfl,rfl,h1,h3,by rw [← h2.length,← h4.length]; exact hz,fun z hz=>q _ F2 _ (g.trans (Grow.alloc g2.fh hz)) ⟨_,z,_,rfl,rfl,g.hh.free hz,g2.fh.free hz,upd_same,HasL.append h4 h2⟩⟩
  ·cases e
 ·cases e
theorem dRep (ha : PE X a (tV X.K RN fa)) (hb : PE X b (tV X.K RW fb)) : PE X (.BinOp a .Mult b pos) (tV X.K RN (v2 repD fa fb)):=(pe_op op_rep ha hb).imp fun _ H Q q=>by
 obtain ⟨ioA,G,H₀,S,F,I,d,e,q⟩:=q
 obtain ⟨x,y,ex,ey,e⟩:=v2_some e
 refine ⟨ioA,G,H₀,S,F,I,x,ex,fun v F1 H1 g1 hx=>⟨ioA,G,H₀,S,F1,I.grow g1,y,ey,fun u F2 H2 g2 hy=>?_⟩⟩
 unfold repD at e
 split at e
 ·split at e
  ·rename_i hz
   cases e
   obtain ⟨es,p,xs,e1,rfl,h3,h4,h5,h6⟩:=hx
   cases e1
   have eu : u = .int _:=hy
   subst eu
   have g:=g1.trans g2
   refine ⟨p,_,xs,rfl,rfl,g2.hh _ _ h5,hz.2.1,hz.1,by rw [← h6.length]; exact hz.2.2,fun z hz=>q _ F2 _ (g.trans (Grow.alloc g2.fh hz)) ⟨_,z,_,rfl,rfl,g.hh.free hz,g2.fh.free hz,upd_same,HasL.rep (h6.same g2.ff) _⟩⟩
  ·cases e
 ·cases e
end
noncomputable abbrev xorD:=iop fun a b=>.int (Builtin.bitXor a b)
theorem hXor {K : PySem.W.Frag} : OpD K xorD (rM fun i j=>.int (Builtin.bitXor i j)):=opd_iop fun _ _ _ _=>rfl
noncomputable def gOwF (i : Nat) (f : VE) : VS:=fun S=>match f S with
 | some d=>if noIo S i = true then .nxt (S.set i (some (.fr,d))) else .fail
 | none=>.fail
section
variable {X : Cx} {e : Expr} {f : VE} {pos : Pos} {s : Stmt}
noncomputable def rClrM : V→List V→Hp→VK→Prop:=fun x vs H Q=>match x,vs with
 | .ref l,[]=>∃ ys,H l = some (.lst ys)∧Q .non (upd H l (.lst []))
 | _,_=>False
theorem mClr : MtR X "list.clear" rClrM:=fun pins s σ H x xs v us Q I rx rv q=>mt_clear pins s σ H x xs v us Q I rx rv (by
 match x,xs,q with
 | .ref l,[],⟨ys,h1,h2⟩=>exact ⟨l,ys,rfl,rfl,h1,h2⟩)
noncomputable def gClr (i : Nat) : VS:=fun S=>match ownL S i with
 | some (t,_)=>.nxt (S.set i (some (t,.list [])))
 | none=>.fail
noncomputable def gPop (i : Nat) : VS:=fun S=>match ownL S i with
 | some (t,ds)=>if ds = [] then .fail else .nxt (S.set i (some (t,.list ds.dropLast)))
 | none=>.fail
theorem HasL.dropLast {K : PySem.W.Frag} {H : Hp} {ds : List PyData} {vs : List V} (h : HasL K H ds vs) : HasL K H ds.dropLast vs.dropLast:=by
 rw [List.dropLast_eq_take,List.dropLast_eq_take,h.length]
 exact HasL.take _ h
end
structure Bl (mg : Str→Option Value) : Prop where
 len : mg "len" = none
 list : mg "list" = none
 range : mg "range" = none
 enumerate : mg "enumerate" = none
 zip : mg "zip" = none
 abs : mg "abs" = none
 sum : mg "sum" = none
 min : mg "min" = none
 max : mg "max" = none
 int : mg "int" = none
 bool : mg "bool" = none
 tuple : mg "tuple" = none
 str : mg "str" = none
 sorted : mg "sorted" = none
 set : mg "set" = none
 isinstance : mg "isinstance" = none
structure Kits (K : PySem.W.Frag) : Prop where
 int : KitT K "int"
 bool : KitT K "bool"
 list : KitT K "list"
 tuple : KitT K "tuple"
end VM
namespace VM
open PySem L2
theorem kit_int {K : PySem.W.Frag} : KitT K "int":=⟨fun d d' h=>by
 cases d with
 | none=>cases h; kernel_rfl
 | bool _=>cases h; kernel_rfl
 | int _=>cases h; kernel_rfl
 | str _=>cases h; kernel_rfl
 | list _=>cases h; kernel_rfl
 | tuple _=>cases h; kernel_rfl
 | dict _=>cases h⟩
theorem kit_bool {K : PySem.W.Frag} : KitT K "bool":=⟨fun d d' h=>by
 cases d with
 | none=>cases h; kernel_rfl
 | bool _=>cases h; kernel_rfl
 | int _=>cases h; kernel_rfl
 | str _=>cases h; kernel_rfl
 | list _=>cases h; kernel_rfl
 | tuple _=>cases h; kernel_rfl
 | dict _=>cases h⟩
theorem kit_list {K : PySem.W.Frag} : KitT K "list":=⟨fun d d' h=>by
 cases d with
 | none=>cases h; kernel_rfl
 | bool _=>cases h; kernel_rfl
 | int _=>cases h; kernel_rfl
 | str _=>cases h; kernel_rfl
 | list _=>cases h; kernel_rfl
 | tuple _=>cases h; kernel_rfl
 | dict _=>cases h⟩
theorem kit_tuple {K : PySem.W.Frag} : KitT K "tuple":=⟨fun d d' h=>by
 cases d with
 | none=>cases h; kernel_rfl
 | bool _=>cases h; kernel_rfl
 | int _=>cases h; kernel_rfl
 | str _=>cases h; kernel_rfl
 | list _=>cases h; kernel_rfl
 | tuple _=>cases h; kernel_rfl
 | dict _=>cases h⟩
theorem kits (K : PySem.W.Frag) : Kits K:=⟨kit_int,kit_bool,kit_list,kit_tuple⟩
noncomputable def spLaw (K : PySem.W.Frag) : Sp:=fun vs H Q _=>∃ (a : Addr) (ns : List Int),vs = [.ref a]∧SqL K H a (ns.map V.int)∧ns.length≤63∧∀ H',Q (.bl true) H'
theorem law_sp {K : PySem.W.Frag} {m : FnM} (hm : ∀ ns : List Int,ns.length≤63→m [.list (ns.map .int)] = some (false,.bool true)) : ∀ vs H Q E,spLaw K vs H Q E→spV K m vs H Q E:=by
 rintro vs H Q E ⟨a,ns,rfl,hS,hl,q⟩
 refine ⟨H,[.list (ns.map .int)],Same.refl _,⟨_,_,rfl,⟨a,_,rfl,hS,HasL.ints.mpr rfl⟩,rfl⟩,false,_,hm ns hl,fun v F' H' g hv=>?_⟩
 have ev : v = .bl true:=hv
 rw [ev]; exact q H'
theorem walk {k : Nat} {x : Str} {l : PySem.W.OpenLaw} {q : Program} {loose : List Str} {XP : (Str→Option Value)→Heap→Prop} {YP : World→Heap→Prop} {d : DefRec} {K : Params→PySem.W.Frag} (hn : l.most = some 63) (hdf : d.params.defaults = []) (hr : Room k callerA)
  (hY : ∀ (w : World) (h : Heap),YP w h→(K w.params).In h)
  (F : ∀ (w : World) (mg : Str→Option Value) (fa : Addr) (h : Heap),(K w.params).In h→h.Ns mainGlobals mg→mg d.name = some (.ref fa) →
   ∃ fd : FuncData,(∀ (s : Shared) (u : Value),BindsTo s fd ⟨[u],[]⟩ [(x,u)])∧∀ base : Heap,(K w.params).In base→base.Ns mainGlobals mg→FnOk l.prog w (K w.params) mg base CX0 k fa fd [x] (spLaw (K w.params))) :
  PySem.W.WalkO q loose XP YP l.row.toRowW d [] (fun f vs=>PySem.call f vs) :=
 L2.walk_of (n:=63) (k:=k) (x:=x) (CX:=fun _=>CX0) (sp:=fun w=>spLaw (K w.params)) hn (by decide) hdf hr hY F (fun _ _ a ns hl _ hS=>⟨a,ns,rfl,hS,hl,fun _=>rfl⟩) fun _ _ _ _ _ z=>z
end VM
namespace VM
open PySem L2
noncomputable def HasIO (K : PySem.W.Frag) (F : Hp) (v0 : V) : List (Option PyData)→List V→Prop
 | [],vs=>vs = []
 | some d :: r,vs=>∃ v us,vs = v :: us∧Has K F d v∧HasIO K F v0 r us
 | none :: r,vs=>∃ us,vs = v0 :: us∧HasIO K F v0 r us
theorem HasIO.same {K : PySem.W.Frag} {F F' : Hp} {v0 : V} (e : Same F F') : ∀ {os : List (Option PyData)} {vs : List V},HasIO K F v0 os vs→HasIO K F' v0 os vs
 | [],_,h=>h
 | some _ :: _,_,⟨v,us,h1,h2,h3⟩=>⟨v,us,h1,Has.same e h2,HasIO.same e h3⟩
 | none :: _,_,⟨us,h1,h3⟩=>⟨us,h1,HasIO.same e h3⟩
theorem HasIO.length {K : PySem.W.Frag} {F : Hp} {v0 : V} : ∀ {os : List (Option PyData)} {vs : List V},HasIO K F v0 os vs→os.length = vs.length
 | [],vs,h=>by have h' : vs = []:=h; rw [h']; rfl
 | some _ :: _,_,⟨v,us,h1,_,h3⟩=>by rw [h1]; exact congrArg (· + 1) (HasIO.length h3)
 | none :: _,_,⟨us,h1,h3⟩=>by rw [h1]; exact congrArg (· + 1) (HasIO.length h3)
theorem HasIO.at {K : PySem.W.Frag} {F : Hp} {v0 : V} : ∀ {os : List (Option PyData)} {vs : List V} {i : Nat} {o : Option PyData},HasIO K F v0 os vs→os[i]? = some o→∃ v,vs[i]? = some v∧match o with | some d=>Has K F d v | none=>v = v0
 | [],_,i,o,_,e=>by simp at e
 | some d :: _,_,0,o,⟨v,us,h1,h2,h3⟩,e=>by
  have e' : some d = o:=by simpa using e
  subst e'; rw [h1]; exact ⟨v,rfl,h2⟩
 | none :: _,_,0,o,⟨us,h1,h3⟩,e=>by
  have e' : none = o:=by simpa using e
  subst e'; rw [h1]; exact ⟨v0,rfl,rfl⟩
 | some _ :: r,_,i + 1,o,⟨v,us,h1,h2,h3⟩,e=>by
  obtain ⟨u,q1,q2⟩:=HasIO.at (i:=i) (o:=o) h3 (by simpa using e)
  rw [h1]; exact ⟨u,by simpa using q1,q2⟩
 | none :: r,_,i + 1,o,⟨us,h1,h3⟩,e=>by
  obtain ⟨u,q1,q2⟩:=HasIO.at (i:=i) (o:=o) h3 (by simpa using e)
  rw [h1]; exact ⟨u,by simpa using q1,q2⟩
noncomputable abbrev VIO:=GS→Option (List (Option PyData))
noncomputable def tIO (K : PySem.W.Frag) (j : Nat) (fs : VIO) : TA:=fun σ H Q=>∃ ioA G H₀ S F,VI K ioA G H₀ S F σ H∧∃ v0,σ[j]? = some (some v0)∧∃ os,fs S = some os∧∀ vs F' H',Grow F H F' H'→HasIO K F' v0 os vs→Q vs H'
noncomputable def ioO : VIO:=fun _=>some []
noncomputable def ioC (f : VE) (fs : VIO) : VIO:=fun S=>match f S with
 | some d=>match fs S with
  | some os=>some (some d :: os)
  | none=>none
 | none=>none
noncomputable def ioN (fs : VIO) : VIO:=fun S=>match fs S with
 | some os=>some (none :: os)
 | none=>none
section
variable {X : Cx} {e : Expr} {es : List Expr} {f : VE} {fs : VIO} {j : Nat}
theorem io0 : PA X [] (tIO X.K j ioO):=PA.imp pa_nil fun _ H Q q=>by
 obtain ⟨ioA,G,H₀,S,F,I,v0,hv,os,e,q⟩:=q
 cases e
 exact q [] F H (Grow.refl I.sub) rfl
theorem ioS (he : PE X e (tV X.K RS f)) (hr : PA X es (tIO X.K j fs)) (hs : starEach (e :: es) X.env = (false,eval e X.env) :: starEach es X.env:=by rfl) : PA X (e :: es) (tIO X.K j (ioC f fs)):=PA.imp (pa_cons he hr hs) fun _ H Q q=>by
 obtain ⟨ioA,G,H₀,S,F,I,v0,hv,os,e,q⟩:=q
 unfold ioC at e
 split at e
 ·rename_i d q1
  split at e
  ·rename_i os' q2
   cases e
   exact ⟨ioA,G,H₀,S,F,I,d,q1,fun v F1 H1 g1 hx=>⟨ioA,G,H₀,S,F1,I.grow g1,v0,hv,os',q2,fun vs F2 H2 g2 hy=>q _ F2 H2 (g1.trans g2) ⟨v,vs,rfl,Has.same g2.ff hx,hy⟩⟩⟩
  ·cases e
 ·cases e
theorem ioJ (he : PE X e (vR j)) (hr : PA X es (tIO X.K j fs)) (hs : starEach (e :: es) X.env = (false,eval e X.env) :: starEach es X.env:=by rfl) : PA X (e :: es) (tIO X.K j (ioN fs)):=PA.imp (pa_cons he hr hs) fun σ H Q q=>by
 obtain ⟨ioA,G,H₀,S,F,I,v0,hv,os,e,q⟩:=q
 unfold ioN at e
 split at e
 ·rename_i os' q2
  cases e
  show vR j σ H _
  unfold vR
  simp only [hv]
  exact ⟨ioA,G,H₀,S,F,I,v0,hv,os',q2,fun vs F2 H2 g2 hy=>q _ F2 H2 g2 ⟨vs,rfl,hy⟩⟩
 ·cases e
end
noncomputable abbrev FnIO:=List (Option PyData)→List PyData→Option (Bool × PyData × List PyData)
noncomputable def spIO (K : PySem.W.Frag) (m : FnIO) : Sp:=fun vs H Q _=>∃ G os a ls xs,Same G H∧G a = none∧H a = some (.lst xs)∧HasL K G ls xs∧HasIO K G (.ref a) os vs∧∃ b d ls',m os ls = some (b,d,ls') ∧
 ∀ v F' H' xs',Grow G (hide a H) F' (hide a H')→F' a = none→H' a = some (.lst xs')→HasL K F' ls' xs'→RB b K G (hide a H) F' (hide a H') d v→Q v H'
theorem upd_back {H : Hp} {a : Addr} {o : HO} (h : H a = some o) (p : HO) : upd (upd H a p) a o = H:=by
 funext b
 by_cases hb : b = a
 ·subst hb; rw [upd_same,h]
 ·rw [upd_ne hb,upd_ne hb]
theorem io_grow {F1 H1 F' H' : Hp} {a : Addr} {o : HO} (g : Grow F1 (hide a H1) F' (hide a H')) (hF : F' a = none) (h1 : H1 a = some o) : Grow F1 H1 F' (upd H' a o):=by
 refine ⟨fun b u e=>?_,g.ff,fun b u e=>?_,fun b u e=>?_,g.pl⟩
 ·by_cases hb : b = a
  ·subst hb; rw [upd_same]; rw [h1] at e; exact e
  ·rw [upd_ne hb]
   have:=g.hh b u (by rw [hide_ne hb]; exact e)
   rw [hide_ne hb] at this; exact this
 ·have hb : b ≠ a:=ne_of_none e hF
  rw [upd_ne hb]
  have:=g.fh b u e
  rw [hide_ne hb] at this; exact this
 ·have hb : b ≠ a:=ne_of_none e hF
  rcases g.new b u e with z | z | z
  ·exact .inl z
  ·rw [hide_ne hb] at z; exact .inr (.inl z)
  ·exact .inr (.inr z)
theorem VI.bound {K : PySem.W.Frag} {ioA : Nat→Option Addr} {G H₀ F H : Hp} {S : GS} {σ : St} (I : VI K ioA G H₀ S F σ H) {i : Nat} {t : Tg} {ds : List PyData} (h : ownL S i = some (t,ds)) : ∃ a,σ[i]? = some (some (.ref a))∧F a = none∧H₀ a = none:=by
 obtain ⟨hS,ht⟩:=ownL_some h
 obtain ⟨v,hv,hs⟩:=I.slot i t _ hS
 cases t with
 | fr=>cases ht
 | rf=>cases ht
 | ce=>rcases ownL_tag h with z | z <;> cases z
 | ow=>obtain ⟨a,_,_,_,rfl,_,h4,h5,_⟩:=hs; exact ⟨a,hv,h4,h5⟩
 | io=>obtain ⟨a,_,_,_,rfl,_,h4,h5,_⟩:=hs.1; exact ⟨a,hv,h4,h5⟩
theorem io_call {K : PySem.W.Frag} {ioA : Nat→Option Addr} {G H₀ F H : Hp} {S : GS} {σ : St} {j : Nat} {t : Tg} {ls : List PyData} {fs : VIO} {os : List (Option PyData)} {m : FnIO} {b : Bool} {d : PyData} {ls' : List PyData} {Q : VK} (I : VI K ioA G H₀ S F σ H) (ho : ownL S j = some (t,ls)) (hf : fs S = some os) (hm : m os ls = some (b,d,ls'))
  (q : ∀ v F' H',VI K ioA G H₀ (S.set j (some (t,.list ls'))) F' σ H'→RR K H₀ (S.set j (some (t,.list ls'))) σ F' H' b d v→Q v H') : tCall (spIO K m) [] E0 (tIO K j fs) σ H Q:=by
 obtain ⟨a,hv,hFa,hH0⟩:=I.bound ho
 refine ⟨ioA,G,H₀,S,F,I,_,hv,os,hf,fun vs F1 H1 g1 hvs=>?_⟩
 show spIO K m (vs ++ []) H1 Q E0
 rw [List.append_nil]
 have I1:=I.grow g1
 obtain ⟨a',xs,hv',hH,hx,nx⟩:=I1.own ho
 rw [hv] at hv'
 cases hv'
 obtain ⟨a2,hv2,hF1,_⟩:=I1.bound ho
 rw [hv] at hv2
 cases hv2
 refine ⟨F1,os,a,ls,xs,g1.fh,hF1,hH,hx,hvs,b,d,ls',hm,fun v F' H' xs' g hFa' hHa' hx' hr=>?_⟩
 have g2:=io_grow g hFa' hH
 have I2:=nx ls' xs' F' _ g2 hx'
 rw [upd_back hHa'] at I2
 refine q v F' H' I2 ?_
 cases b with
 | false=>exact hr
 | true =>
  obtain ⟨es,p,ys,e1,e2,e3,e4,e5,e6⟩:=hr
  have hpa : p ≠ a:=fun z=>by
   subst z
   unfold hide at e5
   rw [if_pos rfl] at e5; cases e5
  rw [hide_ne hpa] at e3 e5
  refine ⟨⟨p,es,ys,e1,e2,e5,e4,I1.same.free e3,e6⟩,fun i t' d' e ht hv'=>?_⟩
  rw [e2] at hv'
  by_cases hij : i = j
  ·subst hij
   rw [hv] at hv'
   cases hv'
   exact hpa rfl
  ·rw [List.getElem?_set_ne (Ne.symm hij)] at e
   obtain ⟨zs,hz⟩:=own_alloc I1 e ht hv'
   rw [e3] at hz; cases hz
noncomputable def gIoAs (m : FnIO) (j : Nat) (fs : VIO) (i : Nat) : VS:=fun S=>match ownL S j,fs S with
 | some (t,ls),some os=>(match m os ls with
  | some (_,d,ls')=>if noIo (S.set j (some (t,.list ls'))) i = true∧i ≠ j then .nxt ((S.set j (some (t,.list ls'))).set i (some (.fr,d))) else .fail
  | none=>.fail)
 | _,_=>.fail
noncomputable def gIoEx (m : FnIO) (j : Nat) (fs : VIO) : VS:=fun S=>match ownL S j,fs S with
 | some (t,ls),some os=>(match m os ls with
  | some (_,_,ls')=>.nxt (S.set j (some (t,.list ls')))
  | none=>.fail)
 | _,_=>.fail
noncomputable def gIoRet (m : FnIO) (j : Nat) (fs : VIO) : VS:=fun S=>match ownL S j,fs S with
 | some (t,ls),some os=>(match m os ls with
  | some (b,d,ls')=>.ret (S.set j (some (t,.list ls'))) b d
  | none=>.fail)
 | _,_=>.fail
theorem OwnAt.frzAt {K : PySem.W.Frag} {ioA : Nat→Option Addr} {G H₀ F H : Hp} {S : GS} {σ : St} {d : PyData} {v : V} (I : VI K ioA G H₀ S F σ H) (ho : OwnAt K H₀ F H d v) (hn : ∀ (i : Nat) t d',S[i]? = some (some (t,d'))→t.own = true→σ[i]? ≠ some (some v)) : ∃ F',VI K ioA G H₀ S F' σ H∧Has K F' d v:=by
 obtain ⟨a,ds,xs,rfl,rfl,h3,h4,h5,h6⟩:=ho
 have s1 : Same F (upd F a (.lst xs)):=same_upd_new h4
 refine ⟨upd F a (.lst xs),⟨I.len,I.same,I.gf.trans s1,fun b o e=>?_,fun b o e=>?_,fun i t d' e=>?_,I.inj,fun b x u e=>by
  by_cases hb : b = a
  ·subst hb; rw [upd_same] at e; cases e
  ·rw [upd_ne hb] at e; exact I.pl b x u e⟩,a,xs,rfl,SqL.of upd_same,h6.same s1⟩
 ·by_cases hb : b = a
  ·subst hb; exact .inr (.inl h5)
  ·rw [upd_ne hb] at e; exact I.new b o e
 ·by_cases hb : b = a
  ·subst hb; rw [upd_same] at e; cases e; exact h3
  ·rw [upd_ne hb] at e; exact I.sub b o e
 ·obtain ⟨u,hu,hs⟩:=I.slot i t d' e
  have ow : t.own = true→OwnAt K H₀ F H d' u→OwnAt K H₀ (upd F a (.lst xs)) H d' u:=fun ht ⟨b,ds',ys,g1,g2,g3,g4,g5,g6⟩=>by
   refine ⟨b,ds',ys,g1,g2,g3,?_,g5,g6.same s1⟩
   have : b ≠ a:=fun z=>by
    subst z
    exact hn i t d' e ht (by rw [hu,g2])
   rw [upd_ne this]; exact g4
  refine ⟨u,hu,?_⟩
  cases t with
  | fr=>exact Has.same s1 hs
  | ow=>exact ow rfl hs
  | io=>exact ⟨ow rfl hs.1,hs.2⟩
  | rf=>exact hs
  | ce =>
   obtain ⟨b,c,o,g1,g2,g3,g4,g5,g6⟩:=hs
   refine ⟨b,c,o,g1,g2,g3,?_,g5,g6.same s1⟩
   have : b ≠ a:=fun z=>by
    subst z
    exact hn i .ce d' e rfl (by rw [hu,g2])
   rw [upd_ne this]; exact g4
section
variable {X : Cx} {s : Stmt} {m : FnIO} {j : Nat} {fs : VIO}
theorem sIoAs {i : Nat} (hp : PS X s (tAsg (tCall (spIO X.K m) [] E0 (tIO X.K j fs)) (gName i))) : PS X s (tVS X.K (gIoAs m j fs i)):=PS.imp hp fun D σ H q=>by
 obtain ⟨ioA,G,H₀,S,F,I,q⟩:=q
 unfold gIoAs at q
 split at q
 ·rename_i t ls os q1 q2
  split at q
  ·rename_i b d ls' q3
   split at q
   ·refine io_call I q1 q2 q3 fun v F' H' I' r=>?_
    show D.nx (σ.set i (some v)) H'
    cases b with
    | false=>exact q F' _ H' (I'.set r)
    | true =>
     obtain ⟨F'',I'',hd⟩:=OwnAt.frzAt I' r.1 r.2
     exact q F'' _ H' (I''.set hd)
   ·exact q.elim
  ·exact q.elim
 ·exact q.elim
theorem sIoEx (hp : PS X s (tDrop (tCall (spIO X.K m) [] E0 (tIO X.K j fs)))) : PS X s (tVS X.K (gIoEx m j fs)):=PS.imp hp fun D σ H q=>by
 obtain ⟨ioA,G,H₀,S,F,I,q⟩:=q
 unfold gIoEx at q
 split at q
 ·rename_i t ls os q1 q2
  split at q
  ·rename_i b d ls' q3
   exact io_call I q1 q2 q3 fun v F' H' I' _=>q F' σ H' I'
  ·exact q.elim
 ·exact q.elim
theorem sIoRet (hp : PS X s (tRet (tCall (spIO X.K m) [] E0 (tIO X.K j fs)))) : PS X s (tVS X.K (gIoRet m j fs)):=PS.imp hp fun D σ H q=>by
 obtain ⟨ioA,G,H₀,S,F,I,q⟩:=q
 unfold gIoRet at q
 split at q
 ·rename_i t ls os q1 q2
  split at q
  ·rename_i b d ls' q3
   exact io_call I q1 q2 q3 fun v F' H' I' r=>q v F' σ H' I' r
  ·exact q.elim
 ·exact q.elim
end
noncomputable def iniIO (nN : Nat) (os : List (Option PyData)) (ls : List PyData) : GS:=os.map (fun o=>match o with | some d=>some (.fr,d) | none=>some (.io,.list ls)) ++ List.replicate (nN - os.length) none
noncomputable def oneIO : Nat→List (Option PyData)→Bool
 | _,[]=>false
 | 0,none :: r=>r.all Option.isSome
 | 0,some _ :: _=>false
 | k + 1,some _ :: r=>oneIO k r
 | _ + 1,none :: _=>false
noncomputable def lentL (S : GS) (k : Nat) : Option (List PyData):=match S[k]? with
 | some (some (.io,.list ls))=>some ls
 | _=>none
noncomputable def fnIO (n nN k : Nat) (g : VS) : FnIO:=fun os ls=>if os.length = n∧oneIO k os = true then (match g (iniIO nN os ls) with
 | .ret S b d=>(match lentL S k with
  | some ls'=>some (b,d,ls')
  | none=>none)
 | .nxt S=>(match lentL S k with
  | some ls'=>some (false,.none,ls')
  | none=>none)
 | _=>none) else none
theorem oneIO_at : ∀ {k : Nat} {os : List (Option PyData)},oneIO k os = true→∀ {i : Nat},os[i]? = some none→i = k
 | _,[],h,i,e=>by simp at e
 | 0,none :: r,h,0,e=>rfl
 | 0,none :: r,h,i + 1,e=>by
  have:=List.all_eq_true.mp (show r.all Option.isSome = true from h) none (List.mem_of_getElem? (by simpa using e))
  cases this
 | 0,some _ :: _,h,i,e=>by cases h
 | k + 1,some _ :: r,h,0,e=>by simp at e
 | k + 1,some _ :: r,h,i + 1,e=>congrArg (· + 1) (oneIO_at (k:=k) (os:=r) h (by simpa using e))
 | k + 1,none :: _,h,i,e=>by cases h
theorem iniIO_get {nN : Nat} {os : List (Option PyData)} {ls : List PyData} {i : Nat} {t : Tg} {d : PyData} (h : (iniIO nN os ls)[i]? = some (some (t,d))) : (os[i]? = some (some d)∧t = .fr)∨(os[i]? = some none∧t = .io∧d = .list ls):=by
 unfold iniIO at h
 by_cases hi : i < os.length
 ·rw [List.getElem?_append_left (by simpa using hi),List.getElem?_map] at h
  cases q : os[i]? with
  | none=>rw [q] at h; cases h
  | some o =>
   rw [q] at h
   cases o with
   | some d'=>simp at h; exact .inl ⟨by rw [h.2],h.1.symm⟩
   | none=>simp at h; exact .inr ⟨rfl,h.1.symm,h.2.symm⟩
 ·rw [List.getElem?_append_right (by simpa using hi),List.getElem?_replicate] at h
  split at h <;> cases h
section
variable {P : Program} {w : World} {K : PySem.W.Frag} {mg : Str→Option Value} {base : Heap}
theorem iniIO_ok {G H : Hp} {N : List Str} {os : List (Option PyData)} {ls : List PyData} {xs vs : List V} {a : Addr} {k : Nat} (hs : Same G H) (hG : G a = none) (hH : H a = some (.lst xs)) (hx : HasL K G ls xs) (h : HasIO K G (.ref a) os vs) (ho : oneIO k os = true) :
  VI K (fun i=>if i = k then some a else none) G (hide a H) (iniIO N.length os ls) G (L2.start N vs) H:=by
 have sv : ∀ {i : Nat} {v : V},vs[i]? = some v→(L2.start N vs)[i]? = some (some v):=fun {i v} hv=>by
  have hl : i < vs.length:=by
   by_cases z : i < vs.length
   ·exact z
   ·rw [List.getElem?_eq_none (by omega)] at hv; cases hv
  unfold L2.start
  rw [List.getElem?_append_left (by simpa using hl),List.getElem?_map,hv]
  rfl
 refine ⟨by unfold iniIO L2.start; simp [h.length],hide_same,Same.refl _,fun _ _ e=>.inl e,hs,fun i t d e=>?_,fun i j t t' d d' v e1 e2 n1 n2 _ _=>?_,fun _ _ _ e=>e⟩
 ·rcases iniIO_get e with ⟨e1,rfl⟩ | ⟨e1,rfl,rfl⟩
  ·obtain ⟨v,hv,hh⟩:=h.at e1
   exact ⟨v,sv hv,hh⟩
  ·obtain ⟨v,hv,hh⟩:=h.at e1
   have hh' : v = .ref a:=hh
   subst hh'
   exact ⟨_,sv hv,⟨a,ls,xs,rfl,rfl,hH,hG,hide_at,hx⟩,a,rfl,by rw [oneIO_at ho e1]; exact if_pos rfl⟩
 ·rcases iniIO_get e1 with ⟨_,rfl⟩ | ⟨q1,_,_⟩
  ·exact absurd n1 Bool.false_ne_true
  ·rcases iniIO_get e2 with ⟨_,rfl⟩ | ⟨q2,_,_⟩
   ·exact absurd n2 Bool.false_ne_true
   ·rw [oneIO_at ho q1,oneIO_at ho q2]
theorem fnVio {x qual : Str} {st : Stmt} {f : Addr} {fd : FuncData} {N ps : List Str} {lv n nN k : Nat} {g : VS} (F : Fun K x qual st f fd) (S : FnScope N ps (defScope st)) (hn : ps.length = n) (hN : N.length = nN)
  (hb : ∀ (cdv : Value) (A : Around) (outer : List Env) (s : Shared) (H : Hp) (E : XK),Room lv (A.deeper (PyProof.Rows.envOfC qual (defScope st) s.heap.objs.size f cdv))→PSs (cxOf CX0 P w K mg base N qual (defScope st) f cdv A outer s H E).nox (defBody st) (tVS K g)) :
  FnOk P w K mg base CX0 (lv + 1) f fd ps (spIO K (fnIO n nN k g)):=by
 subst hn hN
 refine F.ok S (fun vs H Q E h=>?_) (fun cdv A outer s H vs Q E hr h=>⟨_,hb cdv A outer s H E hr,?_⟩)
 ·obtain ⟨G,os,a,ls,xs,_,_,_,_,hv,b,d,ls',e,_⟩:=h
  unfold fnIO at e
  split at e
  ·rename_i hl; rw [← hv.length]; exact hl.1
  ·cases e
 ·obtain ⟨G,os,a,ls,xs,hs,hG,hH,hx,hv,b,d,ls',e,q⟩:=h
  unfold fnIO at e
  split at e
  ·rename_i hl
   refine ⟨_,G,hide a H,iniIO N.length os ls,G,iniIO_ok hs hG hH hx hv hl.2,?_⟩
   have back : ∀ {S' : GS} {F' : Hp} {σ' : St} {H' : Hp} {l2 : List PyData},VI K (fun i=>if i = k then some a else none) G (hide a H) S' F' σ' H'→lentL S' k = some l2 →
     ∃ xs',Grow G (hide a H) F' (hide a H')∧F' a = none∧H' a = some (.lst xs')∧HasL K F' l2 xs'∧σ'[k]? = some (some (.ref a)):=fun {S' F' σ' H' l2} I hl2=>by
    unfold lentL at hl2
    split at hl2
    ·rename_i l3 hS
     cases hl2
     obtain ⟨v,hv1,⟨p,ds,ys,e1,e2,e3,e4,e5,e6⟩,p2,e7,e8⟩:=I.slot k .io _ hS
     cases e1
     rw [e7] at e2
     cases e2
     have e9 : (if k = k then some a else none) = some p:=e8
     rw [if_pos rfl] at e9
     cases e9
     refine ⟨ys,⟨same_hide hide_at I.same,I.gf,fun b o e=>?_,I.new,I.pl⟩,e4,e3,e6,by rw [hv1,e7]⟩
     have hb : b ≠ a:=ne_of_none e e4
     rw [hide_ne hb]; exact I.sub b o e
    ·cases hl2
   split at e
   ·rename_i S' b' d' e2
    split at e
    ·rename_i l2 e3
     cases e
     rw [e2]
     intro v F' σ' H' I r
     obtain ⟨xs',g1,h1,h2,h3,h4⟩:=back I e3
     refine q v F' H' xs' g1 h1 h2 h3 ?_
     cases b with
     | false=>exact r
     | true =>
      obtain ⟨⟨p,es,ys,r1,r2,r3,r4,r5,r6⟩,r7⟩:=r
      have hS : ∃ d2,S'[k]? = some (some (.io,d2)):=by
       unfold lentL at e3
       split at e3
       ·exact ⟨_,by assumption⟩
       ·cases e3
      obtain ⟨d2,hS⟩:=hS
      have hpa : p ≠ a:=fun z=>by
       subst z
       exact r7 k .io d2 hS rfl (by rw [h4,r2])
      exact ⟨es,p,ys,r1,r2,r5,r4,by rw [hide_ne hpa]; exact r3,r6⟩
    ·cases e
   ·rename_i S' e2
    split at e
    ·rename_i l2 e3
     cases e
     rw [e2]
     intro F' σ' H' I
     obtain ⟨xs',g1,h1,h2,h3,h4⟩:=back I e3
     exact q .non F' H' xs' g1 h1 h2 h3 rfl
    ·cases e
   ·cases e
  ·cases e
end
end VM
namespace VM
open PySem L2
section
variable {X : Cx} {o e1 e2 : Expr} {apos cpos : Pos}
theorem peClr {to : TE} (ho : PE X o to) (hbase : attributeBase o "clear" X.env (eval o X.env) = eval o X.env:=by rfl) (hline : (apos.endLine == cpos.line) = true:=by rfl) : PE X (.Call (.Attribute o "clear" apos) [] [] cpos) (tBM0 X.K "list" rClrM to):=pe_bm0 PySem.F.plainAttrs_list PySem.F.slot_list_clear PySem.F.type_list_clear mClr ho hbase hline
noncomputable def gRv (i : Nat) : VS:=fun S=>match ownL S i with
 | some (t,ds)=>.nxt (S.set i (some (t,.list ds.reverse)))
 | none=>.fail
noncomputable def insAt {α : Type} (k : Nat) (y : α) (xs : List α) : List α:=xs.take k ++ y :: xs.drop k
noncomputable def gIns (i : Nat) (fs : VA) : VS:=fun S=>match ownL S i,fs S with
 | some (t,ds),some [.int k,d]=>@ite _ (ds.length < sizeLine∧0≤k∧k < 2 ^ 62) (Classical.propDecidable _) (.nxt (S.set i (some (t,.list (insAt k.toNat d ds))))) .fail
 | _,_=>.fail
noncomputable def gPopAt (i : Nat) (fs : VA) : VS:=fun S=>match ownL S i,fs S with
 | some (t,ds),some [.int k]=>@ite _ (k.toNat < ds.length∧0≤k∧k < 2 ^ 62) (Classical.propDecidable _) (.nxt (S.set i (some (t,.list (ds.eraseIdx k.toNat))))) .fail
 | _,_=>.fail
end
end VM
namespace VM
open PySem L2
noncomputable def unlike (ns : List Int) : List Int:=PyProof.Rows.firstMet (fun i=>ns.getD i 0) ns.length
section
variable {X : Cx}
noncomputable def rSetOfM (K : PySem.W.Frag) : List V→Hp→VK→Prop:=fun xs H Q=>match xs with
 | [.ref p]=>∃ ns : List Int,SqL K H p (ns.map V.int)∧ns.length≤4000∧∀ z S,H z = none→Q (.ref z) (upd H z (.set S (unlike ns).length))
 | _=>False
theorem ints_are : ∀ {ns : List Int} {its : List Value},Vals (ns.map V.int) its→PyProof.Rows.IntsAre its ns
 | [],_,h=>by cases h; exact .nil
 | n :: ns,_,h=>by
  cases h with
  | cons r1 r2 =>
   obtain ⟨t,rfl⟩:=r1
   exact .cons n t (ints_are r2)
theorem cSetOf (hc : X.calm = true) : CallR X (.type "set") (rSetOfM X.K):=by
 intro pins s σ H xs us Q I r h
 match xs,h with
 | [.ref p],⟨ns,hq,hl,q⟩ =>
  obtain ⟨u,rfl,rx⟩:=vals1 r
  cases rx
  obtain ⟨its,r',pl,hz⟩:=I.list hq
  have hlen:=r'.length
  rw [List.length_map] at hlen
  refine PySem.call_set_list (items:=its.toArray) (ns:=ns) (I.ok.hd hc) pl.isList (by simpa using ints_are r') (by rw [List.size_toArray]; unfold scanBound; omega) fun h' tk hS hk=>?_
  have ez : its.toArray.size = ns.length:=by rw [List.size_toArray,hlen]
  rw [ez] at hS
  exact ⟨.ref _,_,I.laid (a:=s.heap.objs.size) (o:=.set _ _) (h':=h') (t':=tk) (fun b u e=>hk b u (Heap.lt_size e) e) (Nat.le_refl _) hS,rfl,q _ _ I.fresh⟩
noncomputable def rLenSetM : List V→Hp→VK→Prop:=fun xs H Q=>match xs with
 | [.ref p]=>∃ S n,H p = some (.set S n)∧Q (.int n) H
 | _=>False
theorem cLenSet : CallR X (.builtin "len") rLenSetM:=by
 intro pins s σ H xs us Q I r h
 match xs,h with
 | [.ref p],⟨S,n,e,q⟩ =>
  obtain ⟨u,rfl,rx⟩:=vals1 r
  cases rx
  obtain ⟨o,es,ep,t,h1,h2,h3,h4,h5,h6,h7,h8⟩:=I.hok p _ e
  have hb : es.size < 4096:=h6
  refine PySem.call_len_set h1 h2 h3 h7 (by omega) ⟨.int n,H,I.tok _,⟨s.toks + 1,?_⟩,q⟩
  rw [h8]
noncomputable def setLenD : PyData→Option PyData
 | .list ds=>match intsOf ds with
  | some ns=>@ite _ (ns.length≤4000) (Classical.propDecidable _) (some (.int (unlike ns).length)) none
  | none=>none
 | _=>none
noncomputable def vSetLen (f : VE) : VE:=v1 setLenD f
theorem dSetLen {e : Expr} {f : VE} (he : PE X e (tCB rLenSetM (tCons (tCB (rSetOfM X.K) (tCons (tV X.K RM f) tNil)) tNil))) : PE X e (tV X.K RS (vSetLen f)):=he.imp fun _ H Q q=>by
 obtain ⟨ioA,G,H₀,S,F,I,d,e,q⟩:=q
 unfold vSetLen v1 at e
 split at e
 ·rename_i x q1
  unfold setLenD at e
  split at e
  ·rename_i ds
   split at e
   ·rename_i ns q2
    split at e
    ·rename_i hz
     cases e
     refine ⟨ioA,G,H₀,S,F,I,_,q1,fun v F1 H1 g1 hx=>?_⟩
     obtain ⟨p,xs,rfl,h1,h2⟩:=RM.list g1.fh hx
     rw [intsOf_some q2] at h2
     have h2':=HasL.ints.mp h2
     rw [h2'] at h1
     refine ⟨ns,h1,hz,fun z S' hz'=>?_⟩
     exact ⟨S',_,upd_same,q _ F1 _ (g1.trans (Grow.alloc g1.fh hz')) rfl⟩
    ·cases e
   ·cases e
  ·cases e
 ·cases e
end
theorem range_getD : ∀ ns : List Int,(List.range ns.length).map (fun i=>ns.getD i 0) = ns:=fun ns=>by
 apply List.ext_getElem?
 intro i
 rw [List.getElem?_map]
 by_cases h : i < ns.length
 ·rw [List.getElem?_range h,List.getElem?_eq_getElem h]
  simp [h]
 ·rw [List.getElem?_eq_none (by simp; omega),List.getElem?_eq_none (by omega)]
  rfl
theorem unlike_eq (ns : List Int) : unlike ns = ns.foldl PyProof.Rows.step_dedup []:=by
 unfold unlike PyProof.Rows.firstMet
 rw [range_getD]
theorem unlike_nodup {ns : List Int} (h : ns.Nodup) : unlike ns = ns:=by
 have key : ∀ (ns acc : List Int),(acc ++ ns).Nodup→ns.foldl PyProof.Rows.step_dedup acc = acc ++ ns:=fun ns=>by
  induction ns with
  | nil=>intro acc _; simp
  | cons n r ih =>
   intro acc nd
   have hn : n ∉ acc:=fun z=>(List.nodup_append.mp nd).2.2 n z n List.mem_cons_self rfl
   have e : PyProof.Rows.step_dedup acc n = acc ++ [n]:=by
    unfold PyProof.Rows.step_dedup
    simp [hn]
   rw [List.foldl_cons,e,ih _ (by simpa using nd)]
   simp
 rw [unlike_eq,key ns [] (by simpa using h)]
 rfl
end VM
namespace VM
open PySem PyProof PyProof.Rows L2
section
variable {X : Cx} {a b c : Expr} {ta tb tc : TE} {fa fb fc : VE} {pos : Pos} {h h' : PyData→PyData→Option PyData} {r r' : R2}
end
end VM
namespace VM
open PySem PySem.Spec PyProof.Rows L2
section
variable {X : Cx} {tg : Expr}
end
end VM
namespace VM
open PySem L2
set_option exponentiation.threshold 3000
theorem lt2000 {j : Int} (h1 : -10000000000000000000000000000000000000000000000000000000000000000000000000000000000000000000000000000 < j) (h2 : j < 10000000000000000000000000000000000000000000000000000000000000000000000000000000000000000000000000000) : j.natAbs < 2 ^ 2000:=by
 have e : (10000000000000000000000000000000000000000000000000000000000000000000000000000000000000000000000000000 : Nat)≤2 ^ 2000:=Nat.le_trans (show (10000000000000000000000000000000000000000000000000000000000000000000000000000000000000000000000000000 : Nat)≤2 ^ 340 by decide +kernel) (Nat.pow_le_pow_right (by decide) (by decide))
 omega
theorem mulD_i {a b : Int} (h1 : -10000000000000000000000000000000000000000000000000000000000000000000000000000000000000000000000000000 < a) (h2 : a < 10000000000000000000000000000000000000000000000000000000000000000000000000000000000000000000000000000) (h3 : -10000000000000000000000000000000000000000000000000000000000000000000000000000000000000000000000000000 < b) (h4 : b < 10000000000000000000000000000000000000000000000000000000000000000000000000000000000000000000000000000) : mulD (.int a) (.int b) = some (.int (a * b)):=if_pos ⟨lt2000 h1 h2,lt2000 h3 h4⟩
theorem divD_i {a b : Int} (h0 : 0 < b) (h1 : b < 10000000000000000000000000000000000000000000000000000000000000000000000000000000000000000000000000000) : divD (.int a) (.int b) = some (.int (a / b)):=if_pos ⟨h0,lt2000 (by omega) h1⟩
theorem modD_i {a b : Int} (h0 : 0 < b) : modD (.int a) (.int b) = some (.int (a % b)):=if_pos h0
theorem powD_i {a b : Int} (h0 : 0≤b) (h1 : b≤1000) (h2 : 0≤a) (h3 : a < 1152921504606846976) : powD (.int a) (.int b) = some (.int (a ^ b.toNat)):=if_pos ⟨h0,h1,by omega⟩
theorem eqD_i (a b : Int) : eqD (.int a) (.int b) = some (.bool (decide (a = b))):=by
 have : PyData.depth (.int a)≤60:=by simp [PyData.depth]
 unfold eqD
 rw [if_pos this]
 simp only [PyData.eqv,Bool.beq_eq_decide_eq]
theorem neD_i (a b : Int) : neD (.int a) (.int b) = some (.bool (!decide (a = b))):=by
 have : PyData.depth (.int a)≤60:=by simp [PyData.depth]
 unfold neD
 rw [if_pos this]
 simp only [PyData.eqv,Bool.beq_eq_decide_eq]
theorem isD_n (x : PyData) : isD x .none = some (.bool (isNoneD x)):=rfl
theorem isnD_n (x : PyData) : isnD x .none = some (.bool (!isNoneD x)):=rfl
theorem forG_ok {t : VG} {g : VS} (P : Nat → GS → Prop) : ∀ (ds : List PyData) (i : Nat) (S : GS), P i S →
    (∀ (j : Nat) d S, ds[j]? = some d → P (i + j) S → ∃ S1, t d S = some S1 ∧ ∃ S2, (g S1 = .nxt S2 ∨ g S1 = .cnt S2) ∧ P (i + j + 1) S2) → ∃ S', forG t g ds S = .nxt S' ∧ P (i + ds.length) S'
  | [], i, S, h, _ => ⟨S, rfl, h⟩
  | d :: r, i, S, h, st => by
    obtain ⟨S1, e1, S2, e2, p2⟩ := st 0 d S rfl h
    obtain ⟨S', e3, p3⟩ := forG_ok P r (i + 1) S2 p2 fun j d' S' e p => by
      have e' : i + 1 + j = i + (j + 1) := by omega
      rw [e'] at p ⊢
      exact st (j + 1) d' S' (by simpa using e) p
    refine ⟨S', ?_, by rw [List.length_cons]; have e' : i + 1 + r.length = i + (r.length + 1) := by omega
                       rw [← e']; exact p3⟩
    simp only [forG, e1]
    rcases e2 with e2 | e2 <;> (rw [e2]; exact e3)
theorem lcD_map {t : VG} {fc : VT} {fe : VE} {S : GS} {f : PyData→PyData} : ∀ {ds : List PyData},(∀ d∈ds,∃ S2,t d S = some S2∧fc S2 = some true∧fe S2 = some (f d))→lcD t fc fe S ds = some (ds.map f)
 | [],_=>rfl
 | d :: r,h=>by
  obtain ⟨S2,e1,e2,e3⟩:=h d List.mem_cons_self
  have ih:=lcD_map (ds:=r) (f:=f) fun x hx=>h x (List.mem_cons_of_mem _ hx)
  simp only [lcD,e1,e2,e3,ih,List.map_cons]
theorem rangeD_get {lo : Int} {n j : Nat} {d : PyData} (h : (rangeD lo n)[j]? = some d) : j < n∧d = .int (lo + j):=by
 unfold rangeD at h
 rw [List.getElem?_map] at h
 by_cases hj : j < n
 ·rw [List.getElem?_range hj] at h
  cases h
  exact ⟨hj,rfl⟩
 ·rw [List.getElem?_eq_none (by simp; omega)] at h
  cases h
theorem rangeD_length (lo : Int) (n : Nat) : (rangeD lo n).length = n:=by simp [rangeD]
theorem cutD_map {α : Type} (f : α→PyData) (xs : List α) (lo hi : Option Int) : cutD (xs.map f) lo hi = ((xs.drop (HT.sIx xs.length 0 lo)).take (HT.sIx xs.length xs.length hi - HT.sIx xs.length 0 lo)).map f:=by
 unfold cutD
 rw [List.length_map,List.map_take,List.map_drop]
end VM
namespace VM
open PySem L2
noncomputable def bSeq (o : Out) (g : VS) : Out:=match o with
 | .nxt S=>g S
 | o=>o
noncomputable def bIf (o : Option Bool) (g1 g2 : VS) (S : GS) : Out:=match o with
 | some true=>g1 S
 | some false=>g2 S
 | none=>.fail
noncomputable def bAnd (o : Option Bool) (g : VT) (S : GS) : Option Bool:=match o with
 | some true=>g S
 | some false=>some false
 | none=>none
noncomputable def bOr (o : Option Bool) (g : VT) (S : GS) : Option Bool:=match o with
 | some true=>some true
 | some false=>g S
 | none=>none
noncomputable def bAndE (o : Option PyData) (g : VE) (S : GS) : Option PyData:=match o with
 | some (.bool true)=>g S
 | some (.bool false)=>some (.bool false)
 | _=>none
noncomputable def bOrE (o : Option PyData) (g : VE) (S : GS) : Option PyData:=match o with
 | some (.bool true)=>some (.bool true)
 | some (.bool false)=>g S
 | _=>none
noncomputable def bIfE (o : Option Bool) (f g : VE) (S : GS) : Option PyData:=match o with
 | some true=>f S
 | some false=>g S
 | none=>none
noncomputable def b2 (h : PyData→PyData→Option PyData) (o : Option PyData) (fb : VE) (S : GS) : Option PyData:=match o with
 | some x=>(match fb S with
  | some y=>h x y
  | none=>none)
 | none=>none
noncomputable def b1 (h : PyData→Option PyData) (o : Option PyData) : Option PyData:=match o with
 | some y=>h y
 | none=>none
noncomputable def bC (o : Option PyData) (fs : VA) (S : GS) : Option (List PyData):=match o with
 | some d=>(match fs S with
  | some ds=>some (d :: ds)
  | none=>none)
 | none=>none
noncomputable def bC1 (d : PyData) (o : Option (List PyData)) : Option (List PyData):=match o with
 | some ds=>some (d :: ds)
 | none=>none
noncomputable def bAs (o : Option PyData) (t : VG) (S : GS) : Out:=match o with
 | some d=>(match t d S with
  | some S'=>.nxt S'
  | none=>.fail)
 | none=>.fail
noncomputable def bNx (o : Option GS) : Out:=match o with
 | some S'=>.nxt S'
 | none=>.fail
noncomputable def bG (o : Option GS) (u : VGs) (r : List PyData) : Option GS:=match o with
 | some S1=>u r S1
 | none=>none
noncomputable def bRes (o : Option (Bool × PyData)) : Option PyData:=match o with
 | some (_,d)=>some d
 | none=>none
noncomputable def bResN (o : Option (Bool × PyData)) : Option PyData:=match o with
 | some (true,d)=>some d
 | _=>none
noncomputable def bIm : Bool→PyData→Option PyData
 | true,d=>some d
 | false,_=>none
theorem bIm_eq (b : Bool) (d : PyData) : bIm b d = if b = true then some d else none:=by cases b <;> rfl
theorem bIm_t (d : PyData) : bIm true d = some d:=rfl
noncomputable def bResW (o : Option (Bool × PyData)) : Option PyData:=match o with
 | some (b,d)=>bIm (immR b d) d
 | none=>none
noncomputable def bResWN (o : Option (Bool × PyData)) : Option PyData:=match o with
 | some (true,.list es)=>bIm (immL es) (.list es)
 | _=>none
noncomputable def bCall (m : FnM) (o : Option (List PyData)) : Option PyData:=match o with
 | some ds=>bRes (m ds)
 | none=>none
noncomputable def bCallN (m : FnM) (o : Option (List PyData)) : Option PyData:=match o with
 | some ds=>bResN (m ds)
 | none=>none
noncomputable def bCallW (m : FnM) (o : Option (List PyData)) : Option PyData:=match o with
 | some ds=>bResW (m ds)
 | none=>none
noncomputable def bCallWN (m : FnM) (o : Option (List PyData)) : Option PyData:=match o with
 | some ds=>bResWN (m ds)
 | none=>none
noncomputable def bFor (o : Option (List PyData)) (t : VG) (g : VS) (S : GS) : Out:=match o with
 | some ds=>forG t g ds S
 | none=>.fail
noncomputable def bFn (o : Out) : Option (Bool × PyData):=match o with
 | .ret _ b d=>some (b,d)
 | .nxt _=>some (false,.none)
 | _=>none
noncomputable def bCh (h' : PyData→PyData→Option PyData) (y : PyData) (o : Option PyData) (fc : VE) (S : GS) : Option PyData:=match o with
 | some (.bool true)=>(match fc S with
  | some z=>h' y z
  | none=>none)
 | some (.bool false)=>some (.bool false)
 | _=>none
section
variable {g g1 g2 : VS} {S : GS} {t : VG} {u : VGs} {f fa fb fc : VE} {c c2 : VT} {fs : VA} {h h' : PyData→PyData→Option PyData} {d x y : PyData} {r : List PyData} {m : FnM} {b : Bool}
theorem gSeq_eq : gSeq g1 g2 S = bSeq (g1 S) g2:=rfl
theorem bSeq_n : bSeq (.nxt S) g = g S:=rfl
theorem bSeq_r : bSeq (.ret S b d) g = .ret S b d:=rfl
theorem bSeq_b : bSeq (.brk S) g = .brk S:=rfl
theorem bSeq_c : bSeq (.cnt S) g = .cnt S:=rfl
theorem gIf_eq : gIf c g1 g2 S = bIf (c S) g1 g2 S:=rfl
theorem bIf_t : bIf (some true) g1 g2 S = g1 S:=rfl
theorem bIf_f : bIf (some false) g1 g2 S = g2 S:=rfl
theorem tAnd_eq : tAnd2 c c2 S = bAnd (c S) c2 S:=rfl
theorem bAnd_t : bAnd (some true) c S = c S:=rfl
theorem bAnd_f : bAnd (some false) c S = some false:=rfl
theorem tOr_eq : tOr2 c c2 S = bOr (c S) c2 S:=rfl
theorem bOr_t : bOr (some true) c S = some true:=rfl
theorem bOr_f : bOr (some false) c S = c S:=rfl
theorem vAnd_eq : vAnd fa fb S = bAndE (fa S) fb S:=rfl
theorem bAndE_t : bAndE (some (.bool true)) f S = f S:=rfl
theorem bAndE_f : bAndE (some (.bool false)) f S = some (.bool false):=rfl
theorem vOr_eq : vOr fa fb S = bOrE (fa S) fb S:=rfl
theorem bOrE_t : bOrE (some (.bool true)) f S = some (.bool true):=rfl
theorem bOrE_f : bOrE (some (.bool false)) f S = f S:=rfl
theorem vIf_eq : vIf c fa fb S = bIfE (c S) fa fb S:=rfl
theorem bIfE_t : bIfE (some true) fa fb S = fa S:=rfl
theorem bIfE_f : bIfE (some false) fa fb S = fb S:=rfl
theorem v2_eq : v2 h fa fb S = b2 h (fa S) fb S:=rfl
theorem b2_s : b2 h (some x) fb S = b1 (h x) (fb S):=rfl
theorem b1_s {k : PyData→Option PyData} : b1 k (some y) = k y:=rfl
theorem v1_eq {k : PyData→Option PyData} : v1 k f S = b1 k (f S):=rfl
theorem aC_eq : aC f fs S = bC (f S) fs S:=rfl
theorem bC_s : bC (some d) fs S = bC1 d (fs S):=rfl
theorem bC1_s : bC1 d (some r) = some (d :: r):=rfl
theorem gAs_eq : gAs f t S = bAs (f S) t S:=rfl
theorem bAs_s : bAs (some d) t S = bNx (t d S):=rfl
theorem bNx_s : bNx (some S) = .nxt S:=rfl
theorem gC_eq : gC t u (d :: r) S = bG (t d S) u r:=rfl
theorem bG_s : bG (some S) u r = u r S:=rfl
theorem vCall_eq : vCall m fs S = bCall m (fs S):=by unfold vCall bCall bRes; rfl
theorem bCall_s {ds : List PyData} : bCall m (some ds) = bRes (m ds):=rfl
theorem vCallN_eq : vCallN m fs S = bCallN m (fs S):=by unfold vCallN bCallN bResN; rfl
theorem bCallN_s {ds : List PyData} : bCallN m (some ds) = bResN (m ds):=rfl
theorem vCallW_eq : vCallW m fs S = bCallW m (fs S):=by unfold vCallW bCallW bResW; simp only [bIm_eq] <;> rfl
theorem bCallW_s {ds : List PyData} : bCallW m (some ds) = bResW (m ds):=rfl
theorem bResW_s : bResW (some (b,d)) = bIm (immR b d) d:=rfl
theorem vCallWN_eq : vCallWN m fs S = bCallWN m (fs S):=by unfold vCallWN bCallWN bResWN; simp only [bIm_eq] <;> rfl
theorem bCallWN_s {ds : List PyData} : bCallWN m (some ds) = bResWN (m ds):=rfl
theorem bResWN_s : bResWN (some (true,.list r)) = bIm (immL r) (.list r):=rfl
theorem bRes_s : bRes (some (b,d)) = some d:=rfl
theorem bResN_s : bResN (some (true,d)) = some d:=rfl
theorem fnM_eq {n nN : Nat} {ds : List PyData} (e : ds.length = n) : fnM n nN g ds = bFn (g (ini nN ds)):=by unfold fnM; rw [if_pos e]; rfl
theorem bFn_r : bFn (.ret S b d) = some (b,d):=rfl
theorem bFn_n : bFn (.nxt S) = some (false,.none):=rfl
theorem vCh_eq : vCh h h' fa fb fc S = (match fa S with
 | some x=>(match fb S with
  | some y=>bCh h' y (h x y) fc S
  | none=>none)
 | none=>none):=rfl
theorem bCh_t : bCh h' y (some (.bool true)) fc S = b1 (h' y) (fc S):=rfl
theorem bCh_f : bCh h' y (some (.bool false)) fc S = some (.bool false):=rfl
theorem atI_0 {α : Type} (x : α) (r : List α) : atI (x :: r) 0 = some x:=atI_nat (j:=0) rfl
theorem atI_1 {α : Type} (x y : α) (r : List α) : atI (x :: y :: r) 1 = some y:=atI_nat (j:=1) rfl
theorem atI_2 {α : Type} (x y z : α) (r : List α) : atI (x :: y :: z :: r) 2 = some z:=atI_nat (j:=2) rfl
theorem atI_3 {α : Type} (x y z w : α) (r : List α) : atI (x :: y :: z :: w :: r) 3 = some w:=atI_nat (j:=3) rfl
theorem gFor_eq {fi : VA} : gFor fi t g S = bFor (fi S) t g S:=rfl
theorem bFor_s {ds : List PyData} : bFor (some ds) t g S = forG t g ds S:=rfl
end
end VM
namespace VM
open PySem L2
noncomputable def bL (o : Option (List PyData)) : Option PyData:=match o with
 | some es=>some (.list es)
 | none=>none
noncomputable def bLC (o : Option (List PyData)) (cap : List (Option Nat)) (t : VG) (fc : VT) (fe : VE) (S : GS) : Option PyData:=match o with
 | some ds=>@ite _ (capFr S cap = true∧ds.length < sizeLine) (Classical.propDecidable _) (bL (lcD t fc fe (capG cap S) ds)) none
 | none=>none
noncomputable def bLCW (o : Option (List PyData)) (cap : List (Option Nat)) (t : VG) (fc : VT) (fe : VE) (S : GS) : Option PyData:=match o with
 | some ds=>@ite _ (ds.length < sizeLine) (Classical.propDecidable _) (bL (lcD t fc (vImm fe) (capG cap S) ds)) none
 | none=>none
noncomputable def bOw (o : Option PyData) (b : Bool) (i : Nat) (t : Tg) (S : GS) : Out:=match o with
 | some d=>if b = true then .nxt (S.set i (some (t,d))) else .fail
 | none=>.fail
section
variable {S : GS} {cap : List (Option Nat)} {t : VG} {fc : VT} {fe f : VE} {fi : VA} {ds es : List PyData} {i : Nat} {d : PyData} {T : Tg} {b : Bool}
theorem vLC_eq : vLC fi cap t fc fe S = bLC (fi S) cap t fc fe S:=by unfold vLC bLC bL; rfl
theorem bLC_s (h1 : capFr S cap = true) (h2 : ds.length < sizeLine) : bLC (some ds) cap t fc fe S = bL (lcD t fc fe (capG cap S) ds):=if_pos ⟨h1,h2⟩
theorem vLCW_eq : vLCW fi cap t fc fe S = bLCW (fi S) cap t fc fe S:=by unfold vLCW bLCW bL; rfl
theorem bLCW_s (h2 : ds.length < sizeLine) : bLCW (some ds) cap t fc fe S = bL (lcD t fc (vImm fe) (capG cap S) ds):=if_pos h2
theorem bL_s : bL (some es) = some (.list es):=rfl
theorem gOw_eq : gOw i f S = bOw (f S) (noIo S i) i .ow S:=rfl
theorem gOwF_eq : gOwF i f S = bOw (f S) (noIo S i) i .fr S:=rfl
theorem bOw_s : bOw (some d) true i T S = .nxt (S.set i (some (T,d))):=rfl
noncomputable def bImm (o : Option PyData) : Option PyData:=match o with
 | some d=>bIm (imm d) d
 | none=>none
theorem vImm_eq : vImm f S = bImm (f S):=by unfold vImm bImm; simp only [bIm_eq] <;> rfl
theorem bImm_s : bImm (some d) = bIm (imm d) d:=rfl
theorem size_big {n : Nat} (h : n≤16000000) : n < sizeLine:=by have e : sizeLine = 16777216:=rfl; omega
end
end VM
namespace VM
open PySem L2
noncomputable def ob (v : Option PyData) : Option (Tg × PyData):=v.map fun d=>(Tg.fr,d)
theorem ob_some (d : PyData) : ob (some d) = some (Tg.fr,d):=rfl
theorem ob_none : ob none = none:=rfl
theorem noIo_ob (o : Option PyData) : (match ob o with | some (.io,_)=>false | _=>true) = true:=by cases o <;> rfl
theorem atI_of {α : Type} (f : α→PyData) {xs : List α} {i : Nat} {x : α} (h : xs[i]? = some x) : atI (xs.map f) (i : Int) = some (f x):=atI_nat (by rw [List.getElem?_map,h]; rfl)
theorem ixN_of {n i : Nat} (h : i < n) : ixN n (i : Int) = some i:=by
 unfold ixN
 rw [if_pos (by omega),if_pos (by omega)]
 simp
end VM
namespace VM
open PySem L2
theorem addD_i (a b : Int) : addD (.int a) (.int b) = some (.int (a + b)):=rfl
theorem subD_i (a b : Int) : subD (.int a) (.int b) = some (.int (a - b)):=rfl
theorem ltD_i (a b : Int) : ltD (.int a) (.int b) = some (.bool (decide (a < b))):=rfl
theorem leD_i (a b : Int) : leD (.int a) (.int b) = some (.bool (decide (a≤b))):=rfl
theorem gtD_i (a b : Int) : gtD (.int a) (.int b) = some (.bool (decide (b < a))):=rfl
theorem geD_i (a b : Int) : geD (.int a) (.int b) = some (.bool (decide (b≤a))):=rfl
theorem xorD_i (a b : Int) : xorD (.int a) (.int b) = some (.int (Builtin.bitXor a b)):=rfl
noncomputable def nio : Option (Option (Tg × PyData))→Bool
 | some (some (.io,_))=>false
 | _=>true
theorem noIo_eq (S : GS) (i : Nat) : noIo S i = nio (S[i]?):=rfl
theorem nio_ob (o : Option PyData) : nio (some (ob o)) = true:=by cases o <;> rfl
theorem nio_n : nio (some none) = true:=rfl
theorem nio_fr (d : PyData) : nio (some (some (.fr,d))) = true:=rfl
theorem nio_ow (d : PyData) : nio (some (some (.ow,d))) = true:=rfl
theorem rep_one {α : Type} (x : α) (n : Nat) : (List.replicate n [x]).flatten = List.replicate n x:=by
 induction n with
 | zero=>rfl
 | succ k ih=>rw [List.replicate_succ,List.flatten_cons,ih,List.replicate_succ]; rfl
theorem repD_one (x : PyData) {n : Nat} (h : n≤16000000) : repD (.list [x]) (.int (n : Int)) = some (.list (List.replicate n x)):=by
 unfold repD
 have e : sizeLine = 16777216:=rfl
 simp only [List.length_cons,List.length_nil,Int.toNat_natCast]
 rw [if_pos ⟨by omega,by omega,by omega⟩,rep_one]
end VM
namespace VM
open PySem L2
theorem isi_list (ds : List PyData) : isiD "list" (.list ds) = some (.bool true):=by simp [isiD,tyD]
theorem isi_int (i : Int) : isiD "int" (.int i) = some (.bool true):=by simp [isiD,tyD]
theorem isi_bool_i (i : Int) : isiD "bool" (.int i) = some (.bool false):=by simp [isiD,tyD]
theorem isi_tuple (ds : List PyData) : isiD "tuple" (.tuple ds) = some (.bool true):=by simp [isiD,tyD]
end VM
namespace L2
open PySem PySem.Spec PyProof.Rows
section
variable {κ : Type} [DecidableEq κ]
noncomputable def valV (kvs : List (κ × V)) (k : κ) : Option V:=(kvs.find? fun kv=>decide (kv.1 = k)).map (·.2)
noncomputable def putK (kvs : List (κ × V)) (k : κ) (v : V) : List (κ × V) :=
 if (kvs.any fun kv=>decide (kv.1 = k)) = true then kvs.map (fun kv=>if kv.1 = k then (kv.1,v) else kv) else kvs ++ [(k,v)]
noncomputable def dropK (kvs : List (κ × V)) (k : κ) : List (κ × V):=kvs.filter fun kv=>decide (kv.1 ≠ k)
theorem KV.any {kvs : List (κ × V)} {vs : List (κ × Value)} (r : KV kvs vs) (k : κ) : (kvs.any fun kv=>decide (kv.1 = k)) = vs.any fun kv=>decide (kv.1 = k):=by
 unfold KV at r
 induction r with
 | nil=>rfl
 | cons h t ih=>rw [List.any_cons,List.any_cons,ih,h.1]
theorem KV.drop {kvs : List (κ × V)} {vs : List (κ × Value)} (r : KV kvs vs) (k : κ) : KV (dropK kvs k) (without vs k):=by
 unfold KV at r ⊢
 unfold dropK without
 induction r with
 | nil=>exact .nil
 | @cons p q ps qs h t ih =>
  obtain ⟨h1,h2⟩:=h
  rw [List.filter_cons,List.filter_cons]
  by_cases e : p.1 = k
  ·have a : ¬ decide (p.1 ≠ k) = true:=by simp [e]
   have b : ¬ decide (q.1 ≠ k) = true:=by simp [h1.symm.trans e]
   rw [if_neg a,if_neg b]; exact ih
  ·have e' : ¬ q.1 = k:=fun z=>e (h1.trans z)
   have a : decide (p.1 ≠ k) = true:=by simp [e]
   have b : decide (q.1 ≠ k) = true:=by simp [e']
   rw [if_pos a,if_pos b]; exact .cons ⟨h1,h2⟩ ih
theorem KV.length {kvs : List (κ × V)} {vs : List (κ × Value)} (r : KV kvs vs) : kvs.length = vs.length:=Paired.length r
end
noncomputable abbrev KT (H : Hp) : List (List Key × V)→List (List Key × Addr × Value)→Prop:=Paired fun p q=>p.1 = q.1∧H q.2.1 = some (.tup (p.1.map kV))∧RelV p.2 q.2.2
section
variable {P : Program} {w : World} {H : Hp} {h : Heap} {a : Addr}
end
noncomputable def DGet (H : Hp) (a : Addr) (y : V) (r : Option V) : Prop :=
 (∃ kvs k,Rd H a (.dK kvs)∧y = kV k∧r = valV kvs k)∨∃ kvs k b,Rd H a (.dT kvs)∧y = .ref b∧H b = some (.tup (k.map kV))∧r = valV kvs k
noncomputable def DPut (H : Hp) (a : Addr) (y v : V) (H' : Hp) : Prop :=
 (∃ kvs k,H a = some (.dK kvs)∧y = kV k∧kvs.length < sizeLine∧H' = upd H a (.dK (putK kvs k v))) ∨
 ∃ kvs k b,H a = some (.dT kvs)∧y = .ref b∧H b = some (.tup (k.map kV))∧kvs.length < sizeLine∧H' = upd H a (.dT (putK kvs k v))
theorem DGet.k {H : Hp} {a : Addr} {kvs : List (Key × V)} {k : Key} (e : H a = some (.dK kvs)) : DGet H a (kV k) (valV kvs k):=.inl ⟨kvs,k,.inl e,rfl,rfl⟩
theorem DGet.t {H : Hp} {a b : Addr} {kvs : List (List Key × V)} {k : List Key} (e : H a = some (.dT kvs)) (eb : H b = some (.tup (k.map kV))) : DGet H a (.ref b) (valV kvs k):=.inr ⟨kvs,k,b,.inl e,rfl,eb,rfl⟩
theorem DPut.k {H : Hp} {a : Addr} {kvs : List (Key × V)} {k : Key} {v : V} (e : H a = some (.dK kvs)) (hl : kvs.length < sizeLine) : DPut H a (kV k) v (upd H a (.dK (putK kvs k v))):=.inl ⟨kvs,k,e,rfl,hl,rfl⟩
theorem DPut.t {H : Hp} {a b : Addr} {kvs : List (List Key × V)} {k : List Key} {v : V} (e : H a = some (.dT kvs)) (eb : H b = some (.tup (k.map kV))) (hl : kvs.length < sizeLine) :
  DPut H a (.ref b) v (upd H a (.dT (putK kvs k v))):=.inr ⟨kvs,k,b,e,rfl,eb,hl,rfl⟩
section
variable {X : Cx} {pins : List (Addr × Obj)} {σ : St} {H : Hp} {s : Shared} {a : Addr} {y v : V} {u r : Value} {o : Option V} {A : Around} {E : Value→Shared→Prop}
end
section
variable {X : Cx} {pins : List (Addr × Obj)} {σ : St} {H : Hp} {s : Shared} {a : Addr} {kvs : List (Key × V)} {k : Key} {u : Value} {A : Around} {E : Value→Shared→Prop}
end
section
variable {X : Cx} {o i e value : Expr} {pos pos' tpos : Pos} {td ty tv : TE}
end
section
variable {X : Cx} {pos : Pos}
end
structure M1 (X : Cx) (o : Expr) (m : Str) (apos : Pos) (e : Expr) (cpos : Pos) : Prop where
 base : attributeBase o m X.env (eval o X.env) = eval o X.env
 few : ((backTo cpos (starEach [e] X.env)).all (fun x=>!x.1) && (backToKw cpos (keywordEach [] X.env)).all (fun x=>x.1.isSome)
  && decide (([e] : List Expr).length + ([] : List Keyword).length + (if ([] : List Keyword).isEmpty then 0 else 1) < 30)) = true
 line : (apos.endLine == cpos.line) = true
 trees : backTo cpos (starEach [e] X.env) = [(false,eval e X.env)]
structure M2 (X : Cx) (o : Expr) (m : Str) (apos : Pos) (e f : Expr) (cpos : Pos) : Prop where
 base : attributeBase o m X.env (eval o X.env) = eval o X.env
 few : ((backTo cpos (starEach [e,f] X.env)).all (fun x=>!x.1) && (backToKw cpos (keywordEach [] X.env)).all (fun x=>x.1.isSome)
  && decide (([e,f] : List Expr).length + ([] : List Keyword).length + (if ([] : List Keyword).isEmpty then 0 else 1) < 30)) = true
 line : (apos.endLine == cpos.line) = true
 trees : backTo cpos (starEach [e,f] X.env) = [(false,eval e X.env),(false,eval f X.env)]
section
variable {X : Cx} {pins : List (Addr × Obj)} {σ : St} {H : Hp} {s : Shared} {a : Addr} {y d : V} {u r : Value} {o : Option V} {A : Around} {E : Value→Shared→Prop}
end
section
variable {X : Cx} {o e f : Expr} {apos cpos : Pos} {td ty tx : TE}
end
section
variable {X : Cx} {pins : List (Addr × Obj)} {σ : St} {H : Hp} {s : Shared} {a : Addr} {kvs : List (Key × V)} {A : Around} {E : Value→Shared→Prop}
end
section
variable {X : Cx} {pins : List (Addr × Obj)} {σ : St} {H : Hp} {s : Shared} {a : Addr} {y : V} {u : Value} {A : Around} {E : Value→Shared→Prop}
end
end L2
namespace VM
theorem len1 {α : Type} : ∀ {us : List α},us.length = 1→∃ x0,us = [x0]
 | [x0],_=>⟨x0,rfl⟩
 | [],h=>by cases h
 | _ :: _ :: _,h=>by cases h
theorem len2 {α : Type} : ∀ {us : List α},us.length = 2→∃ x0 x1,us = [x0,x1]
 | [],h=>by cases h
 | x0 :: r,h=>by
  obtain ⟨x1,rfl⟩:=len1 (us:=r) (by simpa using h)
  exact ⟨x0,x1,rfl⟩
theorem len3 {α : Type} : ∀ {us : List α},us.length = 3→∃ x0 x1 x2,us = [x0,x1,x2]
 | [],h=>by cases h
 | x0 :: r,h=>by
  obtain ⟨x1,x2,rfl⟩:=len2 (us:=r) (by simpa using h)
  exact ⟨x0,x1,x2,rfl⟩
theorem len4 {α : Type} : ∀ {us : List α},us.length = 4→∃ x0 x1 x2 x3,us = [x0,x1,x2,x3]
 | [],h=>by cases h
 | x0 :: r,h=>by
  obtain ⟨x1,x2,x3,rfl⟩:=len3 (us:=r) (by simpa using h)
  exact ⟨x0,x1,x2,x3,rfl⟩
theorem len5 {α : Type} : ∀ {us : List α},us.length = 5→∃ x0 x1 x2 x3 x4,us = [x0,x1,x2,x3,x4]
 | [],h=>by cases h
 | x0 :: r,h=>by
  obtain ⟨x1,x2,x3,x4,rfl⟩:=len4 (us:=r) (by simpa using h)
  exact ⟨x0,x1,x2,x3,x4,rfl⟩
theorem len6 {α : Type} : ∀ {us : List α},us.length = 6→∃ x0 x1 x2 x3 x4 x5,us = [x0,x1,x2,x3,x4,x5]
 | [],h=>by cases h
 | x0 :: r,h=>by
  obtain ⟨x1,x2,x3,x4,x5,rfl⟩:=len5 (us:=r) (by simpa using h)
  exact ⟨x0,x1,x2,x3,x4,x5,rfl⟩
theorem len7 {α : Type} : ∀ {us : List α},us.length = 7→∃ x0 x1 x2 x3 x4 x5 x6,us = [x0,x1,x2,x3,x4,x5,x6]
 | [],h=>by cases h
 | x0 :: r,h=>by
  obtain ⟨x1,x2,x3,x4,x5,x6,rfl⟩:=len6 (us:=r) (by simpa using h)
  exact ⟨x0,x1,x2,x3,x4,x5,x6,rfl⟩
end VM
namespace VM
open PySem L2 PySem.W PySem.Calls PyProof.Rows
section
variable {X : Cx}
end
end VM
namespace Sp
noncomputable def tot {α : Type} (f : Nat→α→Nat) : Nat→List α→Nat
 | _,[]=>0
 | i,x :: xs=>f i x + tot f (i + 1) xs
theorem tot_set {α : Type} (f : Nat→α→Nat) (x : α) : ∀ (xs : List α) (i j : Nat) (y : α),xs[j]? = some y→tot f i (xs.set j x) + f (i + j) y = tot f i xs + f (i + j) x
 | [],i,j,y,h=>by simp at h
 | z :: xs,i,0,y,h=>by
  have e : z = y:=by simpa using h
  subst e
  simp only [List.set_cons_zero,tot,Nat.add_zero]
  omega
 | z :: xs,i,j + 1,y,h=>by
  have ih:=tot_set f x xs (i + 1) j y (by simpa using h)
  simp only [List.set_cons_succ,tot]
  have e : i + 1 + j = i + (j + 1):=by omega
  rw [e] at ih
  omega
structure Lb where
 d : Int
 c : Nat
 fr : Option (Nat × Nat)
noncomputable def near (d : Int) (c : Nat) : Option Lb→Bool
 | none=>true
 | some l=>decide (d < l.d) || (decide (d = l.d) && decide (c < l.c))
noncomputable def leL (l : Lb) (d : Int) (c : Nat) : Prop:=l.d < d∨(l.d = d∧l.c≤c)
theorem near_false {d : Int} {c : Nat} {o : Option Lb} (h : near d c o = false) : ∃ l,o = some l∧leL l d c:=by
 cases o with
 | none=>simp [near] at h
 | some l =>
  refine ⟨l,rfl,?_⟩
  simp only [near,Bool.or_eq_false_iff,decide_eq_false_iff_not,Bool.and_eq_false_iff] at h
  unfold leL
  omega
structure RS where
 lab : List (Option Lb)
 wait : List Bool
 queue : List Nat
 place : Nat
noncomputable abbrev Mv:=Nat × Nat × Int
noncomputable def relax (left : Nat → Int) (u : Nat) (d : Int) (c : Nat) (s : RS) (m : Mv) : RS :=
  if 0 < left m.1 ∧ near (d + m.2.2) c (s.lab[m.2.1]?.getD none) = true then
    { s with lab := s.lab.set m.2.1 (some ⟨d + m.2.2, c, some (m.1, u)⟩),
             wait := if s.wait[m.2.1]?.getD false = true then s.wait else s.wait.set m.2.1 true,
             queue := if s.wait[m.2.1]?.getD false = true then s.queue else s.queue ++ [m.2.1] }
  else s
noncomputable def RS.room (s : RS) : Nat:=s.queue[s.place]?.getD 0
noncomputable def RS.at (s : RS) : Lb:=((s.lab[s.room]?.getD none).getD ⟨0,0,none⟩)
noncomputable def stepR (left : Nat→Int) (out : Nat→List Mv) (s : RS) : RS :=
 (out s.room).foldl (relax left s.room s.at.d (s.at.c + 1)) { s with place:=s.place + 1,wait:=s.wait.set s.room false }
noncomputable def RS.done (s : RS) : Prop:=s.queue.length≤s.place
inductive Ends (left : Nat→Int) (out : Nat→List Mv) : Nat→RS→RS→Prop
 | stop {s} : s.done→Ends left out 0 s s
 | go {m s t} : ¬ s.done→Ends left out m (stepR left out s) t→Ends left out (m + 1) s t
structure Fit (n : Nat) (left : Nat→Int) (out : Nat→List Mv) (π : Nat→Int) : Prop where
 room : ∀ u m,m∈out u→m.2.1 < n
 ne : ∀ u m,m∈out u→m.2.1 ≠ u
 pay : ∀ u m,u < n→m∈out u→0 < left m.1→π m.2.1≤π u + m.2.2
variable {n : Nat} {left : Nat→Int} {out : Nat→List Mv} {π : Nat→Int} {st : Nat}
structure LabOk (n : Nat) (left : Nat→Int) (out : Nat→List Mv) (π : Nat→Int) (st : Nat) (s : RS) : Prop where
 pl : s.place≤s.queue.length
 ll : s.lab.length = n
 wl : s.wait.length = n
 ql : ∀ v∈s.queue,v < n
 st0 : s.lab[st]? = some (some ⟨0,0,none⟩)
 lo : ∀ v l,s.lab[v]? = some (some l)→π v - π st≤l.d
 fr : ∀ v l,s.lab[v]? = some (some l)→v ≠ st→∃ mv u x lu,l.fr = some (mv,u)∧u < n∧(mv,v,x)∈out u∧0 < left mv∧s.lab[u]? = some (some lu)∧leL ⟨lu.d + x,lu.c + 1,none⟩ l.d l.c
 wq : ∀ v,s.wait[v]? = some true→v∈s.queue.drop s.place
 lq : ∀ v∈s.queue,∃ l,s.lab[v]? = some (some l)
noncomputable def Slack (left : Nat→Int) (s : RS) (l : Lb) (ms : List Mv) : Prop :=
 ∀ m∈ms,0 < left m.1→∃ lv,s.lab[m.2.1]? = some (some lv)∧leL lv (l.d + m.2.2) (l.c + 1)
structure RInv (n : Nat) (left : Nat→Int) (out : Nat→List Mv) (π : Nat→Int) (st : Nat) (s : RS) : Prop extends LabOk n left out π st s where
 rel : ∀ u l,s.lab[u]? = some (some l)→u ∉ s.queue.drop s.place→Slack left s l (out u)
noncomputable def un (o : Option Lb) : Nat:=if o.isNone then 1 else 0
noncomputable def far (π : Nat→Int) (st v : Nat) (o : Option Lb) : Nat:=match o with
 | none=>0
 | some l=>(l.d - (π v - π st)).toNat
noncomputable def cnt (o : Option Lb) : Nat:=match o with
 | none=>0
 | some l=>l.c
noncomputable def mu (π : Nat→Int) (st : Nat) (s : RS) : Nat × Nat × Nat:=(tot (fun _ o=>un o) 0 s.lab,tot (far π st) 0 s.lab,2 * tot (fun _ o=>cnt o) 0 s.lab + (s.queue.length - s.place))
noncomputable def L3 (a b : Nat × Nat × Nat) : Prop:=a.1 < b.1∨(a.1 = b.1∧(a.2.1 < b.2.1∨(a.2.1 = b.2.1∧a.2.2 < b.2.2)))
theorem L3.trans {a b c : Nat × Nat × Nat} (h : L3 a b) (g : L3 b c) : L3 a c:=by unfold L3 at *; omega
theorem L3.wf : WellFounded L3:=by
 constructor
 intro ⟨a,b,c⟩
 induction a using Nat.strongRecOn generalizing b c with
 | ind a iha =>
  induction b using Nat.strongRecOn generalizing c with
  | ind b ihb =>
   induction c using Nat.strongRecOn with
   | ind c ihc =>
    constructor
    rintro ⟨a',b',c'⟩ h
    simp only [L3] at h
    rcases h with h | ⟨rfl,h | ⟨rfl,h⟩⟩
    ·exact iha a' h b' c'
    ·exact ihb b' h c'
    ·exact ihc c' h
theorem leL.trans {a b : Lb} {d : Int} {c : Nat} (h : leL a b.d b.c) (g : leL b d c) : leL a d c:=by unfold leL at *; omega
theorem leL.refl (a : Lb) : leL a a.d a.c:=by unfold leL; omega
theorem set_get {α : Type} {xs : List α} {i j : Nat} {x y : α} (h : (xs.set i x)[j]? = some y) : (j = i∧y = x∧i < xs.length)∨(j ≠ i∧xs[j]? = some y):=by
 by_cases e : j = i
 ·subst e
  have hl : j < (xs.set j x).length:=(List.getElem?_eq_some_iff.mp h).1
  rw [List.length_set] at hl
  rw [List.getElem?_set_self hl] at h
  exact .inl ⟨rfl,(Option.some.inj h).symm,hl⟩
 ·rw [List.getElem?_set_ne (Ne.symm e)] at h
  exact .inr ⟨e,h⟩
structure Looked (n : Nat) (left : Nat→Int) (out : Nat→List Mv) (π : Nat→Int) (st : Nat) (s t : RS) : Prop where
 ok : LabOk n left out π st t
 pl : t.place = s.place
 low : ∀ (v : Nat) (l : Lb),s.lab[v]? = some (some l)→∃ l' : Lb,t.lab[v]? = some (some l')∧leL l' l.d l.c
 same : ∀ v : Nat,v∈t.queue.drop t.place∨t.lab[v]? = s.lab[v]?
 sub : ∀ v,v∈s.queue.drop s.place→v∈t.queue.drop t.place
 ms : mu π st t = mu π st s∨L3 (mu π st t) (mu π st s)
theorem Looked.refl {s : RS} (h : LabOk n left out π st s) : Looked n left out π st s s:=⟨h,rfl,fun v l e=>⟨l,e,leL.refl l⟩,fun _=>.inr rfl,fun _ h=>h,.inl rfl⟩
theorem Looked.trans {s t r : RS} (a : Looked n left out π st s t) (b : Looked n left out π st t r) : Looked n left out π st s r:=by
 refine ⟨b.ok,b.pl.trans a.pl,fun v l e=>?_,fun v=>?_,fun v h=>b.sub v (a.sub v h),?_⟩
 ·obtain ⟨l1,e1,q1⟩:=a.low v l e
  obtain ⟨l2,e2,q2⟩:=b.low v l1 e1
  exact ⟨l2,e2,q2.trans q1⟩
 ·rcases b.same v with h | h
  ·exact .inl h
  ·rcases a.same v with g | g
   ·exact .inl (b.sub v g)
   ·exact .inr (h.trans g)
 ·rcases a.ms with h | h
  ·rw [← h]; exact b.ms
  ·rcases b.ms with g | g
   ·rw [g]; exact .inr h
   ·exact .inr (g.trans h)
theorem relax_ok {s : RS} {u : Nat} {lu : Lb} {m : Mv} (F : Fit n left out π) (I : LabOk n left out π st s) (hu : u < n) (hl : s.lab[u]? = some (some lu)) (hm : m∈out u) :
  Looked n left out π st s (relax left u lu.d (lu.c + 1) s m)∧(relax left u lu.d (lu.c + 1) s m).lab[u]? = some (some lu) ∧
   (0 < left m.1→∃ lv,(relax left u lu.d (lu.c + 1) s m).lab[m.2.1]? = some (some lv)∧leL lv (lu.d + m.2.2) (lu.c + 1)):=by
 obtain ⟨mv,v,x⟩:=m
 have hvn : v < n:=F.room u _ hm
 have hvu : v ≠ u:=F.ne u _ hm
 have hvl : v < s.lab.length:=by rw [I.ll]; exact hvn
 obtain ⟨ov,hov⟩ : ∃ o,s.lab[v]? = some o:=⟨_,List.getElem?_eq_getElem hvl⟩
 obtain ⟨wv,hwv⟩ : ∃ o,s.wait[v]? = some o:=⟨_,List.getElem?_eq_getElem (by rw [I.wl]; exact hvn)⟩
 unfold relax
 simp only [hov,hwv,Option.getD_some]
 by_cases hc : 0 < left mv∧near (lu.d + x) (lu.c + 1) ov = true
 ·rw [if_pos hc]
  obtain ⟨hleft,hnear⟩:=hc
  have hpay : π v≤π u + x:=F.pay u (mv,v,x) hu hm hleft
  have hlo:=I.lo u lu hl
  have hvst : v ≠ st:=by
   intro e
   subst e
   rw [I.st0] at hov
   have e2 : ov = some ⟨0,0,none⟩:=(Option.some.inj hov).symm
   subst e2
   simp only [near,Bool.or_eq_true,decide_eq_true_eq,Bool.and_eq_true] at hnear
   omega
  have hq : ∀ z,z∈s.queue.drop s.place→z∈(if wv = true then s.queue else s.queue ++ [v]).drop s.place:=fun z hz=>by
   split
   ·exact hz
   ·rw [List.drop_append_of_le_length I.pl]; exact List.mem_append_left _ hz
  have hvq : v∈(if wv = true then s.queue else s.queue ++ [v]).drop s.place:=by
   by_cases hw : wv = true
   ·rw [if_pos hw]; exact I.wq v (by rw [hwv,hw])
   ·rw [if_neg hw,List.drop_append_of_le_length I.pl]; exact List.mem_append_right _ (by simp)
  have new : (s.lab.set v (some ⟨lu.d + x,lu.c + 1,some (mv,u)⟩))[v]? = some (some ⟨lu.d + x,lu.c + 1,some (mv,u)⟩):=List.getElem?_set_self hvl
  have other : ∀ z : Nat,z ≠ v→(s.lab.set v (some ⟨lu.d + x,lu.c + 1,some (mv,u)⟩))[z]? = s.lab[z]?:=fun z hz=>List.getElem?_set_ne (Ne.symm hz)
  have low : ∀ (z : Nat) (l : Lb),s.lab[z]? = some (some l)→∃ l' : Lb,(s.lab.set v (some ⟨lu.d + x,lu.c + 1,some (mv,u)⟩))[z]? = some (some l')∧leL l' l.d l.c:=fun z l e=>by
   by_cases hz : z = v
   ·subst hz
    rw [hov] at e
    have e2 : ov = some l:=Option.some.inj e
    subst e2
    refine ⟨_,new,?_⟩
    simp only [near,Bool.or_eq_true,decide_eq_true_eq,Bool.and_eq_true] at hnear
    unfold leL
    dsimp only
    omega
   ·exact ⟨l,by rw [other z hz]; exact e,leL.refl l⟩
  refine ⟨⟨⟨?_,?_,?_,?_,?_,?_,?_,?_,?_⟩,rfl,low,fun z=>?_,hq,?_⟩,?_,fun _=>⟨_,new,?_⟩⟩
  ·show s.place≤(if wv = true then s.queue else s.queue ++ [v]).length
   split
   ·exact I.pl
   ·rw [List.length_append]; exact Nat.le_trans I.pl (Nat.le_add_right _ _)
  ·show (s.lab.set v _).length = n
   rw [List.length_set]; exact I.ll
  ·show (if wv = true then s.wait else s.wait.set v true).length = n
   split
   ·exact I.wl
   ·rw [List.length_set]; exact I.wl
  ·intro z hz
   have hz' : z∈(if wv = true then s.queue else s.queue ++ [v]):=hz
   split at hz'
   ·exact I.ql z hz'
   ·rcases List.mem_append.mp hz' with h | h
    ·exact I.ql z h
    ·rw [List.mem_singleton.mp h]; exact hvn
  ·show (s.lab.set v _)[st]? = _
   rw [other st (Ne.symm hvst)]; exact I.st0
  ·intro z l e
   rcases set_get (show (s.lab.set v _)[z]? = some (some l) from e) with ⟨rfl,e2,_⟩ | ⟨hz,e2⟩
   ·cases e2
    show π z - π st≤lu.d + x
    omega
   ·exact I.lo z l e2
  ·intro z l e hzs
   rcases set_get (show (s.lab.set v _)[z]? = some (some l) from e) with ⟨rfl,e2,_⟩ | ⟨hz,e2⟩
   ·cases e2
    exact ⟨mv,u,x,lu,rfl,hu,hm,hleft,by show (s.lab.set z _)[u]? = _; rw [other u (Ne.symm hvu)]; exact hl,by unfold leL; dsimp only; omega⟩
   ·obtain ⟨mv',u',x',lu',h1,h2,h3,h4,h5,h6⟩:=I.fr z l e2 hzs
    obtain ⟨l2,g1,g2⟩:=low u' lu' h5
    refine ⟨mv',u',x',l2,h1,h2,h3,h4,g1,?_⟩
    unfold leL at *
    dsimp only at *
    omega
  ·intro z hz
   have hz' : (if wv = true then s.wait else s.wait.set v true)[z]? = some true:=hz
   split at hz'
   ·exact hq z (I.wq z hz')
   ·rcases set_get hz' with ⟨rfl,_,_⟩ | ⟨_,e2⟩
    ·exact hvq
    ·exact hq z (I.wq z e2)
  ·intro z hz
   have hz' : z∈(if wv = true then s.queue else s.queue ++ [v]):=hz
   have old : ∀ z : Nat,z∈s.queue→∃ l,(s.lab.set v (some ⟨lu.d + x,lu.c + 1,some (mv,u)⟩))[z]? = some (some l):=fun z hz=>by
    obtain ⟨l,e⟩:=I.lq z hz
    obtain ⟨l',e',_⟩:=low z l e
    exact ⟨l',e'⟩
   split at hz'
   ·exact old z hz'
   ·rcases List.mem_append.mp hz' with h | h
    ·exact old z h
    ·rw [List.mem_singleton.mp h]; exact ⟨_,new⟩
  ·by_cases hz : z = v
   ·rw [hz]; exact .inl hvq
   ·exact .inr (other z hz)
  ·
   have t1:=tot_set (fun _ o=>un o) (some ⟨lu.d + x,lu.c + 1,some (mv,u)⟩) s.lab 0 v ov hov
   have t2:=tot_set (far π st) (some ⟨lu.d + x,lu.c + 1,some (mv,u)⟩) s.lab 0 v ov hov
   have t3:=tot_set (fun _ o=>cnt o) (some ⟨lu.d + x,lu.c + 1,some (mv,u)⟩) s.lab 0 v ov hov
   have lq : (if wv = true then s.queue else s.queue ++ [v]).length≤s.queue.length + 1:=by
    split
    ·exact Nat.le_succ _
    ·rw [List.length_append]; exact Nat.le_refl _
   right
   simp only [mu,L3]
   simp only [Nat.zero_add] at t1 t2 t3
   have z1 : un (some ⟨lu.d + x,lu.c + 1,some (mv,u)⟩) = 0:=rfl
   have z3 : cnt (some ⟨lu.d + x,lu.c + 1,some (mv,u)⟩) = lu.c + 1:=rfl
   have z2 : far π st v (some ⟨lu.d + x,lu.c + 1,some (mv,u)⟩) = (lu.d + x - (π v - π st)).toNat:=rfl
   rw [z1] at t1
   rw [z2] at t2
   rw [z3] at t3
   cases ov with
   | none =>
    left
    have y1 : un none = 1:=rfl
    rw [y1] at t1
    omega
   | some l =>
    have l0:=I.lo v l hov
    simp only [near,Bool.or_eq_true,decide_eq_true_eq,Bool.and_eq_true] at hnear
    right
    have y1 : un (some l) = 0:=rfl
    have y2 : far π st v (some l) = (l.d - (π v - π st)).toNat:=rfl
    have y3 : cnt (some l) = l.c:=rfl
    rw [y1] at t1
    rw [y2] at t2
    rw [y3] at t3
    refine ⟨by omega,?_⟩
    rcases hnear with h | ⟨h,h'⟩
    ·left
     have e1 : (lu.d + x - (π v - π st)).toNat < (l.d - (π v - π st)).toNat:=by omega
     omega
    ·right
     have e1 : (lu.d + x - (π v - π st)).toNat = (l.d - (π v - π st)).toNat:=by rw [h]
     refine ⟨by omega,?_⟩
     have:=I.pl
     omega
  ·show (s.lab.set v _)[u]? = _
   rw [other u (Ne.symm hvu)]; exact hl
  ·unfold leL; dsimp only; omega
 ·rw [if_neg hc]
  refine ⟨Looked.refl I,hl,fun h=>?_⟩
  have hn : near (lu.d + x) (lu.c + 1) ov = false:=by
   cases e : near (lu.d + x) (lu.c + 1) ov with
   | false=>rfl
   | true=>exact absurd ⟨h,e⟩ hc
  obtain ⟨l,e,q⟩:=near_false hn
  subst e
  exact ⟨l,hov,q⟩
theorem looks_ok {u : Nat} {lu : Lb} (F : Fit n left out π) (hu : u < n) : ∀ (ms : List Mv) (s : RS),LabOk n left out π st s→s.lab[u]? = some (some lu)→(∀ m∈ms,m∈out u) →
  Looked n left out π st s (ms.foldl (relax left u lu.d (lu.c + 1)) s)∧(ms.foldl (relax left u lu.d (lu.c + 1)) s).lab[u]? = some (some lu)∧Slack left (ms.foldl (relax left u lu.d (lu.c + 1)) s) lu ms
 | [],s,I,hl,_=>⟨Looked.refl I,hl,fun _ h=>nomatch h⟩
 | m :: ms,s,I,hl,hm=>by
  obtain ⟨a1,a2,a3⟩:=relax_ok F I hu hl (hm m List.mem_cons_self)
  obtain ⟨b1,b2,b3⟩:=looks_ok (lu:=lu) F hu ms _ a1.ok a2 fun m' h'=>hm m' (List.mem_cons_of_mem _ h')
  refine ⟨a1.trans b1,b2,fun m' h' hp=>?_⟩
  rcases List.mem_cons.mp h' with rfl | h'
  ·obtain ⟨lv,e,q⟩:=a3 hp
   obtain ⟨l2,e2,q2⟩:=b1.low _ lv e
   exact ⟨l2,e2,q2.trans q⟩
  ·exact b3 m' h' hp
theorem drop_cons {α : Type} {xs : List α} {i : Nat} {x : α} (h : xs[i]? = some x) : xs.drop i = x :: xs.drop (i + 1):=by
 obtain ⟨hl,e⟩:=List.getElem?_eq_some_iff.mp h
 rw [List.drop_eq_getElem_cons hl,e]
theorem stepR_ok {s : RS} (F : Fit n left out π) (I : RInv n left out π st s) (hd : ¬ s.done) : RInv n left out π st (stepR left out s)∧L3 (mu π st (stepR left out s)) (mu π st s):=by
 have hlt : s.place < s.queue.length:=by unfold RS.done at hd; omega
 have hq : s.queue[s.place]? = some s.room:=by unfold RS.room; rw [List.getElem?_eq_getElem hlt]; rfl
 have hmem : s.room∈s.queue:=List.mem_of_getElem? hq
 have hu : s.room < n:=I.ql _ hmem
 obtain ⟨lu,hl⟩:=I.lq _ hmem
 have hat : s.at = lu:=by unfold RS.at; rw [hl]; rfl
 have dc:=drop_cons hq
 have I0 : LabOk n left out π st { s with place:=s.place + 1,wait:=s.wait.set s.room false }:=by
  refine ⟨hlt,I.ll,by show (s.wait.set s.room false).length = n; rw [List.length_set]; exact I.wl,I.ql,I.st0,I.lo,I.fr,fun v hv=>?_,I.lq⟩
  rcases set_get (show (s.wait.set s.room false)[v]? = some true from hv) with ⟨_,e,_⟩ | ⟨hne,e⟩
  ·cases e
  ·have:=I.wq v e
   rw [dc] at this
   rcases List.mem_cons.mp this with z | z
   ·exact absurd z hne
   ·exact z
 have e0 : stepR left out s = (out s.room).foldl (relax left s.room lu.d (lu.c + 1)) { s with place:=s.place + 1,wait:=s.wait.set s.room false }:=by unfold stepR; rw [hat]
 obtain ⟨b1,b2,b3⟩:=looks_ok (lu:=lu) F hu (out s.room) _ I0 hl fun m h=>h
 rw [← e0] at b1 b2 b3
 refine ⟨{ b1.ok with rel:=fun v l e hv=>?_ },?_⟩
 ·by_cases hvr : v = s.room
  ·subst hvr
   rw [b2] at e
   cases e
   exact b3
  ·have e1 : (stepR left out s).lab[v]? = s.lab[v]?:=by
    rcases b1.same v with z | z
    ·exact absurd z hv
    ·exact z
   rw [e1] at e
   have hvq : v ∉ s.queue.drop s.place:=fun z=>by
    rw [dc] at z
    rcases List.mem_cons.mp z with z | z
    ·exact hvr z
    ·exact hv (b1.sub v z)
   intro m hm hp
   obtain ⟨lv,e2,q⟩:=I.rel v l e hvq m hm hp
   obtain ⟨l2,e3,q2⟩:=b1.low _ lv e2
   exact ⟨l2,e3,q2.trans q⟩
 ·have m0 : L3 (mu π st { s with place:=s.place + 1,wait:=s.wait.set s.room false }) (mu π st s):=by
   refine .inr ⟨rfl,.inr ⟨rfl,?_⟩⟩
   show 2 * tot (fun _ o=>cnt o) 0 s.lab + (s.queue.length - (s.place + 1)) < 2 * tot (fun _ o=>cnt o) 0 s.lab + (s.queue.length - s.place)
   omega
  rcases b1.ms with z | z
  ·rw [z]; exact m0
  ·exact z.trans m0
theorem ends {s : RS} (F : Fit n left out π) (I : RInv n left out π st s) : ∃ m t,Ends left out m s t∧RInv n left out π st t∧t.done:=by
 have key : ∀ a : Nat × Nat × Nat,∀ s : RS,mu π st s = a→RInv n left out π st s→∃ m t,Ends left out m s t∧RInv n left out π st t∧t.done:=fun a=>by
  refine L3.wf.induction a (C:=fun a=>∀ s : RS,mu π st s = a→RInv n left out π st s→∃ m t,Ends left out m s t∧RInv n left out π st t∧t.done) fun a ih s e I=>?_
  by_cases hd : s.done
  ·exact ⟨0,s,.stop hd,I,hd⟩
  ·obtain ⟨I',lt⟩:=stepR_ok F I hd
   obtain ⟨m,t,h,q⟩:=ih _ (e ▸ lt) _ rfl I'
   exact ⟨m + 1,t,.go hd h,q⟩
 exact key _ s rfl I
noncomputable def startR (n st : Nat) : RS:={ lab:=(List.replicate n none).set st (some ⟨0,0,none⟩),wait:=List.replicate n false,queue:=[st],place:=0 }
theorem startR_ok (hst : st < n) : RInv n left out π st (startR n st):=by
 have hn : ∀ (v : Nat) (l : Lb),((List.replicate n (none : Option Lb)).set st (some ⟨0,0,none⟩))[v]? = some (some l)→v = st∧l = ⟨0,0,none⟩:=fun v l e=>by
  rcases set_get e with ⟨rfl,e2,_⟩ | ⟨_,e2⟩
  ·cases e2; exact ⟨rfl,rfl⟩
  ·rw [List.getElem?_replicate] at e2
   split at e2 <;> simp at e2
 have h0 : ((List.replicate n (none : Option Lb)).set st (some ⟨0,0,none⟩))[st]? = some (some ⟨0,0,none⟩):=List.getElem?_set_self (by simpa using hst)
 refine ⟨⟨Nat.zero_le _,by simp [startR],by simp [startR],fun v hv=>?_,h0,fun v l e=>?_,fun v l e hv=>?_,fun v hv=>?_,fun v hv=>?_⟩,fun v l e hv=>?_⟩
 ·have : v = st:=by simpa [startR] using hv
  rw [this]; exact hst
 ·obtain ⟨rfl,rfl⟩:=hn v l e
  show π v - π v≤0
  omega
 ·exact absurd (hn v l e).1 hv
 ·have hv' : (List.replicate n false)[v]? = some true:=hv
  rw [List.getElem?_replicate] at hv'
  split at hv' <;> simp at hv'
 ·have : v = st:=by simpa [startR] using hv
  rw [this]; exact ⟨_,h0⟩
 ·obtain ⟨rfl,rfl⟩:=hn v l e
  exact absurd (show v∈[v].drop 0 by simp) hv
structure Tree (n : Nat) (left : Nat→Int) (out : Nat→List Mv) (π : Nat→Int) (st : Nat) (lab : List (Option Lb)) : Prop where
 ll : lab.length = n
 st0 : lab[st]? = some (some ⟨0,0,none⟩)
 fr : ∀ (v : Nat) (l : Lb),lab[v]? = some (some l)→v ≠ st→∃ (mv u : Nat) (x : Int) (lu : Lb),l.fr = some (mv,u)∧u < n∧(mv,v,x)∈out u∧0 < left mv∧lab[u]? = some (some lu)∧l.d = lu.d + x∧l.c = lu.c + 1
 rel : ∀ (u : Nat) (l : Lb) (m : Mv),lab[u]? = some (some l)→m∈out u→0 < left m.1→∃ lv : Lb,lab[m.2.1]? = some (some lv)∧lv.d≤l.d + m.2.2
 lo : ∀ (v : Nat) (l : Lb),lab[v]? = some (some l)→π v - π st≤l.d
theorem tree_of {s : RS} (I : RInv n left out π st s) (hd : s.done) : Tree n left out π st s.lab:=by
 have hq : s.queue.drop s.place = []:=List.drop_of_length_le hd
 have rel : ∀ (u : Nat) (l : Lb) (m : Mv),s.lab[u]? = some (some l)→m∈out u→0 < left m.1→∃ lv : Lb,s.lab[m.2.1]? = some (some lv)∧leL lv (l.d + m.2.2) (l.c + 1):=fun u l m e hm hp=>I.rel u l e (by rw [hq]; simp) m hm hp
 refine ⟨I.ll,I.st0,fun v l e hv=>?_,fun u l m e hm hp=>?_,I.lo⟩
 ·obtain ⟨mv,u,x,lu,h1,h2,h3,h4,h5,h6⟩:=I.fr v l e hv
  obtain ⟨lv,e2,q⟩:=rel u lu (mv,v,x) h5 h3 h4
  have e3 : s.lab[v]? = some (some lv):=e2
  rw [e] at e3
  cases e3
  refine ⟨mv,u,x,lu,h1,h2,h3,h4,h5,?_⟩
  unfold leL at *
  dsimp only at *
  omega
 ·obtain ⟨lv,e2,q⟩:=rel u l m e hm hp
  refine ⟨lv,e2,?_⟩
  unfold leL at q
  omega
end Sp
namespace Sp
structure Pas where
 a : Nat
 b : Nat
 w : Int
 l : Int
structure Hall (n : Nat) (ps : List Pas) : Prop where
 ra : ∀ q∈ps,q.a < n
 rb : ∀ q∈ps,q.b < n
 ne : ∀ q∈ps,q.a ≠ q.b
 w1 : ∀ q∈ps,1≤q.w
 l1 : ∀ q∈ps,1≤q.l
noncomputable def outFrom : Nat→List Pas→Nat→List Mv
 | _,[],_=>[]
 | k,q :: ps,u=>(if q.a = u then [(2 * k,q.b,q.l)] else []) ++ ((if q.b = u then [(2 * k + 1,q.a,-q.l)] else []) ++ outFrom (k + 1) ps u)
noncomputable def outOf (ps : List Pas) (u : Nat) : List Mv:=outFrom 0 ps u
theorem mem_outFrom {u : Nat} {m : Mv} : ∀ {ps : List Pas} {k : Nat},m∈outFrom k ps u ↔ ∃ i q,ps[i]? = some q∧((q.a = u∧m = (2 * (k + i),q.b,q.l))∨(q.b = u∧m = (2 * (k + i) + 1,q.a,-q.l)))
 | [],k=>by simp [outFrom]
 | q :: ps,k=>by
  have ih:=@mem_outFrom u m ps (k + 1)
  simp only [outFrom,List.mem_append]
  constructor
  ·rintro (h | h | h)
   ·split at h
    ·rename_i e
     exact ⟨0,q,rfl,.inl ⟨e,by simpa using h⟩⟩
    ·cases h
   ·split at h
    ·rename_i e
     exact ⟨0,q,rfl,.inr ⟨e,by simpa using h⟩⟩
    ·cases h
   ·obtain ⟨i,q',e,r⟩:=ih.mp h
    have e2 : k + 1 + i = k + (i + 1):=by omega
    rw [e2] at r
    exact ⟨i + 1,q',by simpa using e,r⟩
  ·rintro ⟨i,q',e,r⟩
   cases i with
   | zero =>
    have e' : q = q':=by simpa using e
    subst e'
    rcases r with ⟨h1,h2⟩ | ⟨h1,h2⟩
    ·left; rw [if_pos h1]; simpa using h2
    ·right; left; rw [if_pos h1]; simpa using h2
   | succ i =>
    right; right
    have e2 : k + (i + 1) = k + 1 + i:=by omega
    rw [e2] at r
    exact ih.mpr ⟨i,q',by simpa using e,r⟩
theorem mem_outOf {u : Nat} {m : Mv} {ps : List Pas} : m∈outOf ps u ↔ ∃ i q,ps[i]? = some q∧((q.a = u∧m = (2 * i,q.b,q.l))∨(q.b = u∧m = (2 * i + 1,q.a,-q.l))):=by
 unfold outOf
 rw [mem_outFrom]
 simp only [Nat.zero_add]
noncomputable abbrev Lf:=Nat→Int
structure Laid (ps : List Pas) (left : Lf) : Prop where
 nn : ∀ i,0≤left i
 sum : ∀ i q,ps[i]? = some q→left (2 * i) + left (2 * i + 1) = q.w
noncomputable def sumP (f : Nat→Pas→Int) : Nat→List Pas→Int
 | _,[]=>0
 | k,q :: ps=>f k q + sumP f (k + 1) ps
theorem sumP_add (f g : Nat→Pas→Int) : ∀ (ps : List Pas) (k : Nat),sumP (fun i q=>f i q + g i q) k ps = sumP f k ps + sumP g k ps
 | [],_=>rfl
 | q :: ps,k=>by simp only [sumP,sumP_add f g ps (k + 1)]; omega
theorem sumP_congr {f g : Nat→Pas→Int} : ∀ (ps : List Pas) (k : Nat),(∀ i q,ps[i]? = some q→f (k + i) q = g (k + i) q)→sumP f k ps = sumP g k ps
 | [],_,_=>rfl
 | q :: ps,k,h=>by
  simp only [sumP]
  have h2:=sumP_congr (f:=f) (g:=g) ps (k + 1) fun i q' e=>by have:=h (i + 1) q' (by simpa using e); rwa [show k + (i + 1) = k + 1 + i by omega] at this
  have:=h 0 q rfl
  simp only [Nat.add_zero] at this
  omega
theorem sumP_le {f g : Nat→Pas→Int} : ∀ (ps : List Pas) (k : Nat),(∀ i q,ps[i]? = some q→f (k + i) q≤g (k + i) q)→sumP f k ps≤sumP g k ps
 | [],_,_=>Int.le_refl _
 | q :: ps,k,h=>by
  simp only [sumP]
  have h2:=sumP_le ps (k + 1) fun i q' e=>by have:=h (i + 1) q' (by simpa using e); rwa [show k + (i + 1) = k + 1 + i by omega] at this
  have:=h 0 q rfl
  simp only [Nat.add_zero] at this
  omega
theorem sumP_zero : ∀ (ps : List Pas) (k : Nat),sumP (fun _ _=>0) k ps = 0
 | [],_=>rfl
 | q :: ps,k=>by
  have:=sumP_zero ps (k + 1)
  simp only [sumP]
  omega
theorem sumP_one {f : Nat→Pas→Int} : ∀ (ps : List Pas) (k j : Nat) (q : Pas),ps[j]? = some q→(∀ i q',ps[i]? = some q'→i ≠ j→f (k + i) q' = 0)→sumP f k ps = f (k + j) q
 | [],_,j,q,h,_=>by simp at h
 | p :: ps,k,0,q,h,hz=>by
  have e : p = q:=by simpa using h
  subst e
  simp only [sumP,Nat.add_zero]
  have : sumP f (k + 1) ps = 0:=by
   rw [sumP_congr (g:=fun _ _=>0) ps (k + 1) fun i q' e=>by have:=hz (i + 1) q' (by simpa using e) (by omega); rwa [show k + (i + 1) = k + 1 + i by omega] at this]
   exact sumP_zero ps (k + 1)
  omega
 | p :: ps,k,j + 1,q,h,hz=>by
  simp only [sumP]
  have h0:=hz 0 p rfl (by omega)
  simp only [Nat.add_zero] at h0
  have:=sumP_one ps (k + 1) j q (by simpa using h) fun i q' e hi=>by have:=hz (i + 1) q' (by simpa using e) (by omega); rwa [show k + (i + 1) = k + 1 + i by omega] at this
  rw [this,h0,show k + (j + 1) = k + 1 + j by omega]
  omega
noncomputable def b2 (p : Prop) [Decidable p] : Int:=if p then 1 else 0
noncomputable def net (ps : List Pas) (left : Lf) (v : Nat) : Int:=sumP (fun i q=>left (2 * i + 1) * (b2 (q.b = v) - b2 (q.a = v))) 0 ps
noncomputable def cost (ps : List Pas) (left : Lf) : Int:=sumP (fun i q=>left (2 * i + 1) * q.l) 0 ps
noncomputable def partner (m : Nat) : Nat:=if m % 2 = 0 then m + 1 else m - 1
noncomputable def move (p : Int) (left : Lf) (m : Nat) : Lf:=fun i=>if i = m then left i - p else if i = partner m then left i + p else left i
noncomputable def Leads (ps : List Pas) (m u v : Nat) (x : Int) : Prop:=(m,v,x)∈outOf ps u
theorem Leads.cases {ps : List Pas} {m u v : Nat} {x : Int} (h : Leads ps m u v x) : ∃ i q,ps[i]? = some q∧((q.a = u∧q.b = v∧m = 2 * i∧x = q.l)∨(q.b = u∧q.a = v∧m = 2 * i + 1∧x = -q.l)):=by
 obtain ⟨i,q,e,h⟩:=mem_outOf.mp h
 refine ⟨i,q,e,?_⟩
 rcases h with ⟨h1,h2⟩ | ⟨h1,h2⟩
 ·injection h2 with a b; injection b with b c; exact .inl ⟨h1,b.symm,a,c⟩
 ·injection h2 with a b; injection b with b c; exact .inr ⟨h1,b.symm,a,c⟩
theorem partner_even (i : Nat) : partner (2 * i) = 2 * i + 1:=by unfold partner; rw [if_pos (by omega)]
theorem partner_odd (i : Nat) : partner (2 * i + 1) = 2 * i:=by unfold partner; rw [if_neg (by omega)]; omega
theorem move_net {ps : List Pas} {left : Lf} {m u v z : Nat} {x p : Int} (h : Leads ps m u v x) : net ps (move p left m) z = net ps left z + p * (b2 (v = z) - b2 (u = z)):=by
 obtain ⟨i,q,e,h⟩:=h.cases
 have key : net ps (move p left m) z - net ps left z = sumP (fun j q=>(move p left m (2 * j + 1) - left (2 * j + 1)) * (b2 (q.b = z) - b2 (q.a = z))) 0 ps:=by
  unfold net
  have:=sumP_add (fun j q=>(move p left m (2 * j + 1) - left (2 * j + 1)) * (b2 (q.b = z) - b2 (q.a = z))) (fun j q=>left (2 * j + 1) * (b2 (q.b = z) - b2 (q.a = z))) ps 0
  rw [sumP_congr (g:=fun j q=>(move p left m (2 * j + 1) - left (2 * j + 1)) * (b2 (q.b = z) - b2 (q.a = z)) + left (2 * j + 1) * (b2 (q.b = z) - b2 (q.a = z))) ps 0 fun j q _=>by rw [← Int.add_mul]; congr 1; omega]
  rw [this]
  omega
 have one:=sumP_one (f:=fun j q=>(move p left m (2 * j + 1) - left (2 * j + 1)) * (b2 (q.b = z) - b2 (q.a = z))) ps 0 i q e fun j q' _ hj=>by
  have : move p left m (2 * (0 + j) + 1) = left (2 * (0 + j) + 1):=by
   unfold move
   rcases h with ⟨_,_,rfl,_⟩ | ⟨_,_,rfl,_⟩
   ·rw [if_neg (by omega),partner_even,if_neg (by omega)]
   ·rw [if_neg (by omega),partner_odd,if_neg (by omega)]
  rw [this,Int.sub_self,Int.zero_mul]
 rw [one] at key
 simp only [Nat.zero_add] at key
 rcases h with ⟨h1,h2,rfl,_⟩ | ⟨h1,h2,rfl,_⟩
 ·have e1 : move p left (2 * i) (2 * i + 1) = left (2 * i + 1) + p:=by unfold move; rw [if_neg (by omega),partner_even,if_pos rfl]
  rw [e1,h1,h2] at key
  rw [show left (2 * i + 1) + p - left (2 * i + 1) = p by omega] at key
  omega
 ·have e1 : move p left (2 * i + 1) (2 * i + 1) = left (2 * i + 1) - p:=by unfold move; rw [if_pos rfl]
  rw [e1,h1,h2] at key
  rw [show left (2 * i + 1) - p - left (2 * i + 1) = -p by omega] at key
  have : -p * (b2 (u = z) - b2 (v = z)) = p * (b2 (v = z) - b2 (u = z)):=by rw [Int.neg_mul,← Int.mul_neg]; congr 1; omega
  omega
theorem move_cost {ps : List Pas} {left : Lf} {m u v : Nat} {x p : Int} (h : Leads ps m u v x) : cost ps (move p left m) = cost ps left + p * x:=by
 obtain ⟨i,q,e,h⟩:=h.cases
 have key : cost ps (move p left m) - cost ps left = sumP (fun j q=>(move p left m (2 * j + 1) - left (2 * j + 1)) * q.l) 0 ps:=by
  unfold cost
  have:=sumP_add (fun j q=>(move p left m (2 * j + 1) - left (2 * j + 1)) * q.l) (fun j q=>left (2 * j + 1) * q.l) ps 0
  rw [sumP_congr (g:=fun j q=>(move p left m (2 * j + 1) - left (2 * j + 1)) * q.l + left (2 * j + 1) * q.l) ps 0 fun j q _=>by rw [← Int.add_mul]; congr 1; omega]
  rw [this]
  omega
 have one:=sumP_one (f:=fun j q=>(move p left m (2 * j + 1) - left (2 * j + 1)) * q.l) ps 0 i q e fun j q' _ hj=>by
  have : move p left m (2 * (0 + j) + 1) = left (2 * (0 + j) + 1):=by
   unfold move
   rcases h with ⟨_,_,rfl,_⟩ | ⟨_,_,rfl,_⟩
   ·rw [if_neg (by omega),partner_even,if_neg (by omega)]
   ·rw [if_neg (by omega),partner_odd,if_neg (by omega)]
  rw [this,Int.sub_self,Int.zero_mul]
 rw [one] at key
 simp only [Nat.zero_add] at key
 rcases h with ⟨h1,h2,rfl,h4⟩ | ⟨h1,h2,rfl,h4⟩
 ·have e1 : move p left (2 * i) (2 * i + 1) = left (2 * i + 1) + p:=by unfold move; rw [if_neg (by omega),partner_even,if_pos rfl]
  rw [e1,show left (2 * i + 1) + p - left (2 * i + 1) = p by omega] at key
  rw [h4]; omega
 ·have e1 : move p left (2 * i + 1) (2 * i + 1) = left (2 * i + 1) - p:=by unfold move; rw [if_pos rfl]
  rw [e1,show left (2 * i + 1) - p - left (2 * i + 1) = -p by omega] at key
  rw [h4,Int.mul_neg,← Int.neg_mul]; omega
theorem move_sum {ps : List Pas} {left : Lf} {m u v : Nat} {x p : Int} (h : Leads ps m u v x) (hs : ∀ i q,ps[i]? = some q→left (2 * i) + left (2 * i + 1) = q.w) : ∀ i q,ps[i]? = some q→move p left m (2 * i) + move p left m (2 * i + 1) = q.w:=by
 intro i q e
 have:=hs i q e
 obtain ⟨j,_,_,hj⟩:=h.cases
 have hm : m = 2 * j∨m = 2 * j + 1:=by rcases hj with ⟨_,_,h,_⟩ | ⟨_,_,h,_⟩; exact .inl h; exact .inr h
 unfold move
 rcases hm with rfl | rfl
 ·rw [partner_even]
  by_cases hij : i = j
  ·subst hij
   rw [if_pos rfl,if_neg (by omega),if_pos rfl]; omega
  ·rw [if_neg (by omega),if_neg (by omega),if_neg (by omega),if_neg (by omega)]; exact this
 ·rw [partner_odd]
  by_cases hij : i = j
  ·subst hij
   rw [if_neg (by omega),if_pos rfl,if_pos rfl]; omega
  ·rw [if_neg (by omega),if_neg (by omega),if_neg (by omega),if_neg (by omega)]; exact this
noncomputable def wayF (lab : List (Option Lb)) : Nat→Nat→List Nat
 | 0,_=>[]
 | c + 1,v=>match lab[v]? with
  | some (some l)=>(match l.fr with
   | some (mv,u)=>mv :: wayF lab c u
   | none=>[])
  | _=>[]
variable {n : Nat} {ps : List Pas} {left : Lf} {π : Nat→Int} {st : Nat} {lab : List (Option Lb)}
theorem Leads.uniq {m u v u' v' : Nat} {x x' : Int} (h : Leads ps m u v x) (g : Leads ps m u' v' x') : u = u'∧v = v'∧x = x':=by
 obtain ⟨i,q,e,h⟩:=h.cases
 obtain ⟨j,q',e',g⟩:=g.cases
 have hij : i = j:=by rcases h with ⟨_,_,h,_⟩ | ⟨_,_,h,_⟩ <;> rcases g with ⟨_,_,g,_⟩ | ⟨_,_,g,_⟩ <;> omega
 subst hij
 rw [e] at e'
 cases e'
 rcases h with ⟨h1,h2,h3,h4⟩ | ⟨h1,h2,h3,h4⟩ <;> rcases g with ⟨g1,g2,g3,g4⟩ | ⟨g1,g2,g3,g4⟩
 ·exact ⟨h1.symm.trans g1,h2.symm.trans g2,h4.trans g4.symm⟩
 ·omega
 ·omega
 ·exact ⟨h1.symm.trans g1,h2.symm.trans g2,h4.trans g4.symm⟩
theorem Leads.back {m u v : Nat} {x : Int} (h : Leads ps m u v x) : Leads ps (partner m) v u (-x):=by
 obtain ⟨i,q,e,h⟩:=h.cases
 refine mem_outOf.mpr ⟨i,q,e,?_⟩
 rcases h with ⟨h1,h2,rfl,rfl⟩ | ⟨h1,h2,rfl,rfl⟩
 ·rw [partner_even]; exact .inr ⟨h2,by rw [h1]⟩
 ·rw [partner_odd]; exact .inl ⟨h2,by rw [h1,Int.neg_neg]⟩
theorem way_step (T : Tree n left (outOf ps) π st lab) {v : Nat} {l : Lb} (h : lab[v]? = some (some l)) (hv : v ≠ st) :
  ∃ (mv u : Nat) (x : Int) (lu : Lb),l.fr = some (mv,u)∧u < n∧Leads ps mv u v x∧0 < left mv∧lab[u]? = some (some lu)∧l.d = lu.d + x∧l.c = lu.c + 1∧wayF lab l.c v = mv :: wayF lab lu.c u:=by
 obtain ⟨mv,u,x,lu,h1,h2,h3,h4,h5,h6,h7⟩:=T.fr v l h hv
 refine ⟨mv,u,x,lu,h1,h2,h3,h4,h5,h6,h7,?_⟩
 rw [h7]
 simp only [wayF,h,h1]
theorem way_ind (T : Tree n left (outOf ps) π st lab) {P : Nat→Lb→List Nat→Prop} (h0 : P st ⟨0,0,none⟩ [])
  (hs : ∀ (v : Nat) (l : Lb) (mv u : Nat) (x : Int) (lu : Lb) (ms : List Nat),lab[v]? = some (some l)→v ≠ st→l.fr = some (mv,u)→Leads ps mv u v x→0 < left mv→lab[u]? = some (some lu)→l.d = lu.d + x→l.c = lu.c + 1→ms = wayF lab lu.c u→P u lu ms→P v l (mv :: ms)) :
  ∀ (v : Nat) (l : Lb),lab[v]? = some (some l)→P v l (wayF lab l.c v):=by
 have key : ∀ (c v : Nat) (l : Lb),l.c = c→lab[v]? = some (some l)→P v l (wayF lab l.c v):=fun c=>by
  induction c with
  | zero =>
   intro v l hc h
   by_cases hv : v = st
   ·subst hv
    rw [T.st0] at h
    cases h
    exact h0
   ·obtain ⟨mv,u,x,lu,_,_,_,_,_,_,h7,_⟩:=way_step T h hv
    omega
  | succ c ih =>
   intro v l hc h
   by_cases hv : v = st
   ·subst hv
    rw [T.st0] at h
    cases h
    exact h0
   ·obtain ⟨mv,u,x,lu,h1,h2,h3,h4,h5,h6,h7,h8⟩:=way_step T h hv
    rw [h8]
    exact hs v l mv u x lu _ h hv h1 h3 h4 h5 h6 h7 rfl (ih u lu (by omega) h5)
 exact fun v l h=>key l.c v l rfl h
noncomputable def pushAll (p : Int) (left : Lf) (ms : List Nat) : Lf:=ms.foldl (move p) left
theorem way_net (T : Tree n left (outOf ps) π st lab) {p : Int} {z v : Nat} {l : Lb} (h : lab[v]? = some (some l)) : ∀ L : Lf,net ps (pushAll p L (wayF lab l.c v)) z = net ps L z + p * (b2 (v = z) - b2 (st = z)):=by
 refine way_ind T (P:=fun v _ ms=>∀ L : Lf,net ps (pushAll p L ms) z = net ps L z + p * (b2 (v = z) - b2 (st = z))) (fun L=>?_) (fun v l mv u x lu ms _ _ _ hL _ _ _ _ _ ih L=>?_) v l h
 ·show net ps L z = _
  rw [Int.sub_self,Int.mul_zero,Int.add_zero]
 ·show net ps (pushAll p (move p L mv) ms) z = _
  rw [ih,move_net hL,Int.add_assoc,← Int.mul_add]
  congr 2
  omega
theorem way_cost (T : Tree n left (outOf ps) π st lab) {p : Int} {v : Nat} {l : Lb} (h : lab[v]? = some (some l)) : ∀ L : Lf,cost ps (pushAll p L (wayF lab l.c v)) = cost ps L + p * l.d:=by
 refine way_ind T (P:=fun _ l ms=>∀ L : Lf,cost ps (pushAll p L ms) = cost ps L + p * l.d) (fun L=>?_) (fun v l mv u x lu ms _ _ _ hL _ _ hd _ _ ih L=>?_) v l h
 ·show cost ps L = _
  rw [Int.mul_zero,Int.add_zero]
 ·show cost ps (pushAll p (move p L mv) ms) = _
  rw [ih,move_cost hL,Int.add_assoc,← Int.mul_add,hd]
  congr 2
  omega
theorem way_sum (T : Tree n left (outOf ps) π st lab) {p : Int} {v : Nat} {l : Lb} (h : lab[v]? = some (some l)) : ∀ L : Lf,(∀ i q,ps[i]? = some q→L (2 * i) + L (2 * i + 1) = q.w)→∀ i q,ps[i]? = some q→pushAll p L (wayF lab l.c v) (2 * i) + pushAll p L (wayF lab l.c v) (2 * i + 1) = q.w:=by
 refine way_ind T (P:=fun _ _ ms=>∀ L : Lf,(∀ i q,ps[i]? = some q→L (2 * i) + L (2 * i + 1) = q.w)→∀ i q,ps[i]? = some q→pushAll p L ms (2 * i) + pushAll p L ms (2 * i + 1) = q.w) (fun L hs=>hs) (fun v l mv u x lu ms _ _ _ hL _ _ _ _ _ ih L hs=>?_) v l h
 exact ih _ (move_sum hL hs)
theorem way_mem (T : Tree n left (outOf ps) π st lab) {v : Nat} {l : Lb} (h : lab[v]? = some (some l)) : ∀ m∈wayF lab l.c v,∃ (u w : Nat) (x : Int) (lu lw : Lb),Leads ps m u w x∧0 < left m∧lab[u]? = some (some lu)∧lab[w]? = some (some lw)∧lw.d = lu.d + x∧1≤lw.c∧lw.c≤l.c:=by
 refine way_ind T (P:=fun _ l ms=>∀ m∈ms,∃ (u w : Nat) (x : Int) (lu lw : Lb),Leads ps m u w x∧0 < left m∧lab[u]? = some (some lu)∧lab[w]? = some (some lw)∧lw.d = lu.d + x∧1≤lw.c∧lw.c≤l.c) (fun _ hm=>nomatch hm) (fun v l mv u x lu ms hv _ _ hL hp hu hd hc _ ih m hm=>?_) v l h
 rcases List.mem_cons.mp hm with rfl | hm
 ·exact ⟨u,v,x,lu,l,hL,hp,hu,hv,hd,by omega,Nat.le_refl _⟩
 ·obtain ⟨u',w,x',lu',lw,a,b,c,d,e,f,g⟩:=ih m hm
  exact ⟨u',w,x',lu',lw,a,b,c,d,e,f,by omega⟩
theorem way_nodup (T : Tree n left (outOf ps) π st lab) {v : Nat} {l : Lb} (h : lab[v]? = some (some l)) : (wayF lab l.c v).Nodup:=by
 refine way_ind T (P:=fun _ _ ms=>ms.Nodup) List.nodup_nil (fun v l mv u x lu ms hv _ _ hL _ hu _ hc e ih=>?_) v l h
 refine List.nodup_cons.mpr ⟨fun hm=>?_,ih⟩
 subst e
 obtain ⟨u',w,x',lu',lw,a,_,_,d,_,_,g⟩:=way_mem T hu mv hm
 obtain ⟨_,rfl,_⟩:=hL.uniq a
 rw [hv] at d
 cases d
 omega
theorem push_ge {p : Int} (hp : 0≤p) : ∀ (ms : List Nat) (L : Lf) (i : Nat),ms.Nodup→L i - (if i∈ms then p else 0)≤pushAll p L ms i
 | [],L,i,_=>by
  show L i - (if i∈([] : List Nat) then p else 0)≤L i
  rw [if_neg (by simp)]; omega
 | m :: ms,L,i,nd=>by
  have ih:=push_ge hp ms (move p L m) i (List.nodup_cons.mp nd).2
  have hm:=(List.nodup_cons.mp nd).1
  show _≤pushAll p (move p L m) ms i
  refine Int.le_trans ?_ ih
  unfold move
  by_cases e : i = m
  ·subst e
   rw [if_pos rfl,if_pos List.mem_cons_self,if_neg hm]; omega
  ·rw [if_neg e]
   have e2 : (i∈m :: ms) ↔ i∈ms:=by simp [e]
   simp only [e2]
   split <;> split <;> omega
theorem push_pos {p : Int} (hp : 0≤p) : ∀ (ms : List Nat) (L : Lf) (i : Nat),0 < pushAll p L ms i→0 < L i∨∃ m∈ms,i = partner m
 | [],L,i,h=>.inl h
 | m :: ms,L,i,h=>by
  rcases push_pos hp ms (move p L m) i h with h | ⟨m',hm,e⟩
  ·unfold move at h
   by_cases e : i = m
   ·rw [if_pos e] at h; left; omega
   ·rw [if_neg e] at h
    by_cases e2 : i = partner m
    ·exact .inr ⟨m,List.mem_cons_self,e2⟩
    ·rw [if_neg e2] at h; exact .inl h
  ·exact .inr ⟨m',List.mem_cons_of_mem _ hm,e⟩
theorem above (f : Nat→Option Int) : ∀ (n : Nat) (K : Int),∃ C : Int,K≤C∧∀ v y,v < n→f v = some y→y≤C
 | 0,K=>⟨K,Int.le_refl _,fun _ _ h=>absurd h (Nat.not_lt_zero _)⟩
 | n + 1,K=>by
  obtain ⟨C,h1,h2⟩:=above f n K
  cases e : f n with
  | none=>exact ⟨C,h1,fun v y hv hy=>by
    by_cases z : v = n
    ·rw [z,e] at hy; cases hy
    ·exact h2 v y (by omega) hy⟩
  | some z=>exact ⟨max C z,by omega,fun v y hv hy=>by
    by_cases q : v = n
    ·rw [q,e] at hy; cases hy; omega
    ·have:=h2 v y (by omega) hy; omega⟩
theorem pays {L : Lf} (Hh : Hall n ps) (F : Fit n left (outOf ps) π) (T : Tree n left (outOf ps) π st lab) (hL : ∀ m,0 < L m→0 < left m∨∃ (m0 u w : Nat) (x : Int) (lu lw : Lb),m = partner m0∧Leads ps m0 u w x∧lab[u]? = some (some lu)∧lab[w]? = some (some lw)∧lw.d = lu.d + x) (K : Int) :
  ∃ π' : Nat→Int,Fit n L (outOf ps) π'∧π' st = 0∧(∀ v l,lab[v]? = some (some l)→π' v = l.d)∧∀ v,v < n→lab[v]? = some none→K≤π' v:=by
 obtain ⟨C1,hK,hC⟩:=above (fun v=>match lab[v]? with | some (some l)=>some (l.d - π v) | _=>none) n 0
 obtain ⟨C,hC1,hC2⟩:=above (fun v=>some (K - π v)) n C1
 refine ⟨fun v=>match lab[v]? with | some (some l)=>l.d | _=>π v + C,⟨F.room,F.ne,fun u m hu hm hp=>?_⟩,by simp only [T.st0],fun v l h=>by simp only [h],fun v hv h=>?_⟩
 ·obtain ⟨mv,v,x⟩:=m
  have hv : v < n:=F.room u _ hm
  have lu : ∃ o,lab[u]? = some o:=⟨_,List.getElem?_eq_getElem (by rw [T.ll]; exact hu)⟩
  have lv : ∃ o,lab[v]? = some o:=⟨_,List.getElem?_eq_getElem (by rw [T.ll]; exact hv)⟩
  obtain ⟨ou,eu⟩:=lu
  obtain ⟨ov,ev⟩:=lv
  rcases hL mv hp with hp | ⟨m0,u0,w0,x0,l0,l1,e,h1,h2,h3,h4⟩
  ·have pay : π v≤π u + x:=F.pay u (mv,v,x) hu hm hp
   cases ou with
   | some l =>
    obtain ⟨lv,e2,q⟩:=T.rel u l (mv,v,x) eu hm hp
    simp only [eu]
    have e2' : lab[v]? = some (some lv):=e2
    simp only [e2']
    exact q
   | none =>
    simp only [eu]
    cases ov with
    | none =>
     simp only [ev]
     omega
    | some l =>
     simp only [ev]
     have:=hC v (l.d - π v) hv (by simp only [ev])
     omega
  ·have b:=h1.back
   rw [← e] at b
   obtain ⟨rfl,rfl,rfl⟩:=b.uniq (show Leads ps mv u v x from hm)
   simp only [h2,h3]
   omega
 ·simp only [h]
  have:=hC2 v (K - π v) hv rfl
  omega
end Sp
namespace Sp
variable {n : Nat} {ps : List Pas} {left : Lf} {π : Nat→Int} {st g : Nat} {lab : List (Option Lb)}
theorem Ends.uniq {left : Lf} {out : Nat→List Mv} : ∀ {m : Nat} {s t : RS} {m' : Nat} {t' : RS},Ends left out m s t→Ends left out m' s t'→t = t'∧m = m'
 | _,_,_,_,_,.stop _,.stop _=>⟨rfl,rfl⟩
 | _,_,_,_,_,.stop h,.go h' _=>absurd h h'
 | _,_,_,_,_,.go h _,.stop h'=>absurd h' h
 | _,_,_,_,_,.go _ a,.go _ b=>by
  obtain ⟨h1,h2⟩:=Ends.uniq a b
  exact ⟨h1,by rw [h2]⟩
noncomputable def Found (n : Nat) (ps : List Pas) (st : Nat) (left : Lf) (lab : List (Option Lb)) : Prop:=∃ m t,Ends left (outOf ps) m (startR n st) t∧t.lab = lab
theorem Found.uniq {lab lab' : List (Option Lb)} (h : Found n ps st left lab) (g : Found n ps st left lab') : lab = lab':=by
 obtain ⟨_,_,a,rfl⟩:=h
 obtain ⟨_,_,b,rfl⟩:=g
 rw [(a.uniq b).1]
theorem Hall.room (Hh : Hall n ps) : ∀ u m,m∈outOf ps u→m.2.1 < n:=fun u m hm=>by
 obtain ⟨i,q,e,h⟩:=mem_outOf.mp hm
 have:=List.mem_of_getElem? e
 rcases h with ⟨_,rfl⟩ | ⟨_,rfl⟩
 ·exact Hh.rb q this
 ·exact Hh.ra q this
theorem Hall.move_ne (Hh : Hall n ps) : ∀ u m,m∈outOf ps u→m.2.1 ≠ u:=fun u m hm=>by
 obtain ⟨i,q,e,h⟩:=mem_outOf.mp hm
 have:=Hh.ne q (List.mem_of_getElem? e)
 rcases h with ⟨h1,rfl⟩ | ⟨h1,rfl⟩
 ·rw [← h1]; exact fun z=>this z.symm
 ·rw [← h1]; exact this
theorem found_tree (F : Fit n left (outOf ps) π) (hst : st < n) (h : Found n ps st left lab) : Tree n left (outOf ps) π st lab:=by
 obtain ⟨m,t,h,rfl⟩:=h
 obtain ⟨m',t',h',I,hd⟩:=ends F (startR_ok (left:=left) (out:=outOf ps) (π:=π) hst)
 obtain ⟨rfl,rfl⟩:=h.uniq h'
 exact tree_of I hd
theorem finds (F : Fit n left (outOf ps) π) (hst : st < n) : ∃ lab,Found n ps st left lab:=by
 obtain ⟨m',t',h',I,hd⟩:=ends F (startR_ok (left:=left) (out:=outOf ps) (π:=π) hst)
 exact ⟨_,m',t',h',rfl⟩
structure Pushed (n : Nat) (ps : List Pas) (st g : Nat) (left : Lf) (len p : Int) (left' : Lf) : Prop where
 ex : ∃ lab l,Found n ps st left lab∧lab[g]? = some (some l)∧len = l.d∧(∃ m∈wayF lab l.c g,p = left m)∧(∀ m∈wayF lab l.c g,p≤left m)∧left' = pushAll p left (wayF lab l.c g)
structure St (n : Nat) (ps : List Pas) (st : Nat) (left : Lf) (π : Nat→Int) : Prop where
 laid : Laid ps left
 fit : Fit n left (outOf ps) π
 z : π st = 0
theorem way_pos (T : Tree n left (outOf ps) π st lab) {l : Lb} (hl : lab[g]? = some (some l)) {p : Int} (hp : ∃ m∈wayF lab l.c g,p = left m) : 0 < p:=by
 obtain ⟨m,hm,rfl⟩:=hp
 obtain ⟨_,_,_,_,_,_,h,_⟩:=way_mem T hl m hm
 exact h
theorem pushed_ok {len p : Int} {left' : Lf} (Hh : Hall n ps) (S : St n ps st left π) (hst : st < n) (P : Pushed n ps st g left len p left') :
  0 < p∧π g≤len∧(∃ π',St n ps st left' π'∧π' g = len)∧(∀ z,net ps left' z = net ps left z + p * (b2 (g = z) - b2 (st = z)))∧cost ps left' = cost ps left + p * len:=by
 obtain ⟨lab,l,hF,hl,rfl,hp,hmin,rfl⟩:=P.ex
 have T:=found_tree S.fit hst hF
 have hpos:=way_pos T hl hp
 have lo:=T.lo g l hl
 rw [S.z] at lo
 obtain ⟨π',f1,f2,f3,_⟩:=pays (L:=pushAll p left (wayF lab l.c g)) Hh S.fit T (fun m hm=>by
  rcases push_pos (Int.le_of_lt hpos) _ left m hm with h | ⟨m0,hm0,e⟩
  ·exact .inl h
  ·obtain ⟨u,w,x,lu,lw,a,_,c,d,e2,_,_⟩:=way_mem T hl m0 hm0
   exact .inr ⟨m0,u,w,x,lu,lw,e,a,c,d,e2⟩) 0
 refine ⟨hpos,by omega,⟨π',⟨⟨fun i=>?_,way_sum T hl left S.laid.sum⟩,f1,f2⟩,f3 g l hl⟩,fun z=>way_net T hl left,way_cost T hl left⟩
 have h:=push_ge (Int.le_of_lt hpos) (wayF lab l.c g) left i (way_nodup T hl)
 have h2:=S.laid.nn i
 by_cases hi : i∈wayF lab l.c g
 ·rw [if_pos hi] at h
  have:=hmin i hi
  omega
 ·rw [if_neg hi] at h
  omega
inductive Runs (n : Nat) (ps : List Pas) (st g : Nat) (lim : Option Int) : Lf→List (Int × Int)→Lf→Prop
 | none {left : Lf} {lab : List (Option Lb)} : Found n ps st left lab→lab[g]? = some none→Runs n ps st g lim left [] left
 | far {left : Lf} {lab : List (Option Lb)} {l : Lb} {T : Int} : Found n ps st left lab→lab[g]? = some (some l)→lim = some T→T < l.d→Runs n ps st g lim left [] left
 | go {left left' left'' : Lf} {len p : Int} {r : List (Int × Int)} : Pushed n ps st g left len p left'→(∀ T,lim = some T→len≤T)→Runs n ps st g lim left' r left''→Runs n ps st g lim left ((len,p) :: r) left''
noncomputable def many (r : List (Int × Int)) : Int:=(r.map (·.2)).sum
noncomputable def spent (r : List (Int × Int)) : Int:=(r.map fun x=>x.2 * x.1).sum
theorem runs_ok {lim : Option Int} (Hh : Hall n ps) (hst : st < n) {left : Lf} {r : List (Int × Int)} {left'' : Lf} {π : Nat→Int} (R : Runs n ps st g lim left r left'') (S : St n ps st left π) :
  (∃ π',St n ps st left'' π')∧(∀ z,net ps left'' z = net ps left z + many r * (b2 (g = z) - b2 (st = z)))∧cost ps left'' = cost ps left + spent r∧(∀ x∈r,0 < x.2∧π g≤x.1∧∀ T,lim = some T→x.1≤T)∧r.Pairwise (fun x y=>x.1≤y.1):=by
 induction R generalizing π with
 | none _ _=>exact ⟨⟨π,S⟩,fun z=>by simp [many],by simp [spent],fun _ h=>(nomatch h),.nil⟩
 | far _ _ _ _=>exact ⟨⟨π,S⟩,fun z=>by simp [many],by simp [spent],fun _ h=>(nomatch h),.nil⟩
 | @go left left' left'' len p r P hl R ih =>
  obtain ⟨p0,lo,⟨π1,S1,e1⟩,n1,c1⟩:=pushed_ok Hh S hst P
  obtain ⟨a,b,c,d,e⟩:=ih S1
  refine ⟨a,fun z=>?_,?_,fun x hx=>?_,List.Pairwise.cons (fun x hx=>?_) e⟩
  ·rw [b z,n1 z,Int.add_assoc,← Int.add_mul]
   simp [many]
  ·rw [c,c1,Int.add_assoc]
   simp [spent]
  ·rcases List.mem_cons.mp hx with rfl | hx
   ·exact ⟨p0,lo,hl⟩
   ·obtain ⟨q1,q2,q3⟩:=d x hx
    rw [e1] at q2
    exact ⟨q1,by omega,q3⟩
  ·have:=(d x hx).2.1
   rw [e1] at this
   exact this
theorem Fit.min {L : Lf} {out : Nat→List Mv} {p q : Nat→Int} (hp : Fit n L out p) (hq : Fit n L out q) : Fit n L out fun v=>min (p v) (q v) :=
 ⟨hp.room,hp.ne,fun u m hu hm h=>by have:=hp.pay u m hu hm h; have:=hq.pay u m hu hm h; omega⟩
theorem Fit.shift {L : Lf} {out : Nat→List Mv} {p : Nat→Int} (k : Int) (hp : Fit n L out p) : Fit n L out fun v=>p v + k :=
 ⟨hp.room,hp.ne,fun u m hu hm h=>by have:=hp.pay u m hu hm h; omega⟩
theorem runs_price {T : Int} (Hh : Hall n ps) (hst : st < n) (hg : g < n) {left : Lf} {r : List (Int × Int)} {left'' : Lf} {π : Nat→Int} (R : Runs n ps st g (some T) left r left'') (S : St n ps st left π) :
  ∃ π',Fit n left'' (outOf ps) π'∧π' st = 0∧T + 1≤π' g∧((r ≠ []∨π g≤T)→π' g = T + 1):=by
 induction R generalizing π with
 | @none left lab hF hn =>
  have Tr:=found_tree S.fit hst hF
  obtain ⟨π',f1,f2,f3,f4⟩:=pays (L:=left) Hh S.fit Tr (fun m hm=>.inl hm) (T + 1)
  have hK:=f4 g hg hn
  by_cases hpi : π g≤T
  ·refine ⟨fun v=>min (π' v) (π v + (T + 1 - π g)),f1.min (S.fit.shift _),?_,?_,fun _=>?_⟩
   ·simp only [f2,S.z]; omega
   ·simp only; omega
   ·simp only; omega
  ·refine ⟨π',f1,f2,hK,fun h=>?_⟩
   rcases h with h | h
   ·exact absurd rfl h
   ·exact absurd h hpi
 | @far left lab l T2 hF hl hT hlt =>
  cases hT
  have Tr:=found_tree S.fit hst hF
  obtain ⟨π',f1,f2,f3,f4⟩:=pays (L:=left) Hh S.fit Tr (fun m hm=>.inl hm) 0
  have hK:=f3 g l hl
  by_cases hpi : π g≤T
  ·refine ⟨fun v=>min (π' v) (π v + (T + 1 - π g)),f1.min (S.fit.shift _),?_,?_,fun _=>?_⟩
   ·simp only [f2,S.z]; omega
   ·simp only; omega
   ·simp only; omega
  ·refine ⟨π',f1,f2,by omega,fun h=>?_⟩
   rcases h with h | h
   ·exact absurd rfl h
   ·exact absurd h hpi
 | go P hl R ih =>
  obtain ⟨p0,lo,⟨π1,S1,e1⟩,n1,c1⟩:=pushed_ok Hh S hst P
  obtain ⟨π',a,b,c,d⟩:=ih S1
  have : π1 g≤T:=by rw [e1]; exact hl T rfl
  exact ⟨π',a,b,c,fun _=>d (.inr this)⟩
theorem runs_cut {T : Int} {left : Lf} {r : List (Int × Int)} {left'' : Lf} (R : Runs n ps st g none left r left'') : ∃ left',Runs n ps st g (some T) left (r.takeWhile fun x=>decide (x.1≤T)) left':=by
 induction R with
 | none hF hn=>exact ⟨_,.none hF hn⟩
 | far _ _ e9 _=>cases e9
 | @go left left' left'' len p r P hl R ih =>
  by_cases h : len≤T
  ·obtain ⟨l',R'⟩:=ih
   refine ⟨l',?_⟩
   rw [List.takeWhile_cons_of_pos (by simpa using h)]
   exact .go P (fun T' e=>by cases e; exact h) R'
  ·obtain ⟨lab,l,hF,hl',e,_⟩:=P.ex
   refine ⟨left,?_⟩
   rw [List.takeWhile_cons_of_neg (by simpa using h)]
   exact .far hF hl' rfl (by omega)
noncomputable def left0 (ps : List Pas) : Lf:=fun i=>if i % 2 = 0 then (match ps[i / 2]? with | some q=>q.w | none=>0) else 0
theorem left0_even (ps : List Pas) (i : Nat) {q : Pas} (h : ps[i]? = some q) : left0 ps (2 * i) = q.w:=by
 unfold left0
 rw [if_pos (by omega),show 2 * i / 2 = i by omega,h]
theorem left0_odd (ps : List Pas) (i : Nat) : left0 ps (2 * i + 1) = 0:=by unfold left0; rw [if_neg (by omega)]
theorem st0_ok (Hh : Hall n ps) : St n ps st (left0 ps) (fun v=>if v = st then 0 else 1):=by
 refine ⟨⟨fun i=>?_,fun i q e=>by rw [left0_even ps i e,left0_odd]; omega⟩,⟨Hh.room,Hh.move_ne,fun u m hu hm hp=>?_⟩,by simp⟩
 ·unfold left0
  split
  ·split
   ·rename_i q e
    have:=Hh.w1 q (List.mem_of_getElem? e); omega
   ·exact Int.le_refl _
  ·exact Int.le_refl _
 ·obtain ⟨i,q,e,h⟩:=mem_outOf.mp hm
  have hq:=List.mem_of_getElem? e
  have h1:=Hh.l1 q hq
  rcases h with ⟨_,rfl⟩ | ⟨_,rfl⟩
  ·simp only
   split <;> split <;> omega
  ·exfalso
   have : left0 ps (2 * i + 1) = 0:=left0_odd ps i
   simp only at hp
   omega
noncomputable def wide (ps : List Pas) : Int:=sumP (fun _ q=>q.w) 0 ps
theorem net_low (L : Laid ps left) (z : Nat) : - wide ps≤net ps left z∧net ps left z≤wide ps:=by
 have hb : ∀ (p : Prop) [Decidable p],b2 p = 0∨b2 p = 1:=fun p _=>by unfold b2; split; exact .inr rfl; exact .inl rfl
 have key : ∀ i q,ps[i]? = some q→-q.w≤left (2 * i + 1) * (b2 (q.b = z) - b2 (q.a = z))∧left (2 * i + 1) * (b2 (q.b = z) - b2 (q.a = z))≤q.w:=fun i q e=>by
  have h1:=L.sum i q e
  have h2:=L.nn (2 * i)
  have h3:=L.nn (2 * i + 1)
  rcases hb (q.b = z) with e1 | e1 <;> rcases hb (q.a = z) with e2 | e2 <;> rw [e1,e2] <;> omega
 constructor
 ·have h:=sumP_le (f:=fun _ q=>-q.w) (g:=fun i q=>left (2 * i + 1) * (b2 (q.b = z) - b2 (q.a = z))) ps 0 fun i q e=>by simpa using (key i q e).1
  have e : sumP (fun _ q=>-q.w) 0 ps = - wide ps:=by
   have:=sumP_add (fun _ q=>-q.w) (fun _ q=>q.w) ps 0
   rw [sumP_congr (g:=fun _ _=>0) ps 0 fun i q _=>by omega,sumP_zero] at this
   unfold wide; omega
  unfold net; omega
 ·exact sumP_le (f:=fun i q=>left (2 * i + 1) * (b2 (q.b = z) - b2 (q.a = z))) (g:=fun _ q=>q.w) ps 0 fun i q e=>by simpa using (key i q e).2
noncomputable def rest (ps : List Pas) (g : Nat) (left : Lf) : Nat:=(wide ps - net ps left g).toNat
theorem rest_less {len p : Int} {left' : Lf} (Hh : Hall n ps) (S : St n ps st left π) (hst : st < n) (hne : st ≠ g) (P : Pushed n ps st g left len p left') : rest ps g left' < rest ps g left:=by
 obtain ⟨p0,_,⟨π1,S1,_⟩,n1,_⟩:=pushed_ok Hh S hst P
 have h1:=n1 g
 have h2:=(net_low S1.laid g).2
 have e1 : b2 (g = g) = 1:=by simp [b2]
 have e2 : b2 (st = g) = 0:=by simp [b2,hne]
 rw [e1,e2] at h1
 unfold rest
 omega
end Sp
namespace Sp
noncomputable def addStep (s : List (Int × Int)) (x : Int × Int) : List (Int × Int):=match s.getLast? with
 | some y=>if y.1 = x.1 then s.dropLast ++ [(x.1,y.2 + x.2)] else s ++ [x]
 | none=>s ++ [x]
noncomputable def grouped (r : List (Int × Int)) : List (Int × Int):=r.foldl addStep []
noncomputable def wsum (φ : Int→Int) (r : List (Int × Int)) : Int:=(r.map fun x=>x.2 * φ x.1).sum
theorem wsum_append (φ : Int→Int) (a b : List (Int × Int)) : wsum φ (a ++ b) = wsum φ a + wsum φ b:=by simp [wsum]
theorem wsum_one (φ : Int→Int) (x : Int × Int) : wsum φ [x] = x.2 * φ x.1:=by simp [wsum]
theorem wsum_cons (φ : Int→Int) (x : Int × Int) (r : List (Int × Int)) : wsum φ (x :: r) = x.2 * φ x.1 + wsum φ r:=by simp [wsum]
theorem last_split {α : Type} : ∀ {s : List α} {y : α},s.getLast? = some y→s = s.dropLast ++ [y]
 | [],_,h=>by simp at h
 | [a],y,h=>by
  have : a = y:=by simpa using h
  rw [this]; rfl
 | a :: b :: r,y,h=>by
  have ih:=last_split (s:=b :: r) (y:=y) (by simpa using h)
  show a :: b :: r = a :: ((b :: r).dropLast ++ [y])
  rw [← ih]
theorem addStep_sum (φ : Int→Int) (s : List (Int × Int)) (x : Int × Int) : wsum φ (addStep s x) = wsum φ s + x.2 * φ x.1:=by
 unfold addStep
 cases e : s.getLast? with
 | none=>simp only; rw [wsum_append,wsum_one]
 | some y =>
  simp only
  split
  ·rename_i h
   have e2:=last_split e
   have e3 : wsum φ s = wsum φ s.dropLast + y.2 * φ y.1:=by rw [← wsum_one,← wsum_append,← e2]
   rw [wsum_append,wsum_one,e3,h,Int.add_mul]
   simp only
   omega
  ·rw [wsum_append,wsum_one]
theorem grouped_sum (φ : Int→Int) (r : List (Int × Int)) : wsum φ (grouped r) = wsum φ r:=by
 have key : ∀ (r s : List (Int × Int)),wsum φ (r.foldl addStep s) = wsum φ s + wsum φ r:=fun r=>by
  induction r with
  | nil=>intro s; simp [wsum]
  | cons x r ih =>
   intro s
   rw [List.foldl_cons,ih,addStep_sum,wsum_cons]
   omega
 unfold grouped
 rw [key]
 simp [wsum]
structure Rise (s : List (Int × Int)) : Prop where
 up : s.Pairwise fun x y=>x.1 < y.1
 pos : ∀ x∈s,1≤x.1∧1≤x.2
theorem addStep_rise {s : List (Int × Int)} {x : Int × Int} (R : Rise s) (hx : 1≤x.1∧1≤x.2) (hl : ∀ y∈s,y.1≤x.1) : Rise (addStep s x)∧∀ y∈addStep s x,y.1≤x.1:=by
 unfold addStep
 cases e : s.getLast? with
 | none =>
  have : s = []:=by simpa using e
  subst this
  have one : ∀ y,y∈([] : List (Int × Int)) ++ [x]→y = x:=fun y hy=>by simpa using hy
  refine ⟨⟨by simp,fun y hy=>?_⟩,fun y hy=>?_⟩
  ·rw [one y hy]; exact hx
  ·rw [one y hy]; exact Int.le_refl _
 | some y =>
  have e2:=last_split e
  have hy : y∈s:=by rw [e2]; simp
  have up:=R.up
  rw [e2,List.pairwise_append] at up
  obtain ⟨u1,_,u3⟩:=up
  simp only
  split
  ·rename_i h
   refine ⟨⟨List.pairwise_append.mpr ⟨u1,by simp,fun a ha b hb=>?_⟩,fun a ha=>?_⟩,fun a ha=>?_⟩
   ·have : b = (x.1,y.2 + x.2):=by simpa using hb
    rw [this,← h]
    exact u3 a ha y (by simp)
   ·rcases List.mem_append.mp ha with ha | ha
    ·exact R.pos a (by rw [e2]; exact List.mem_append_left _ ha)
    ·have : a = (x.1,y.2 + x.2):=by simpa using ha
     have:=R.pos y hy
     subst a
     simp only; omega
   ·rcases List.mem_append.mp ha with ha | ha
    ·exact hl a (by rw [e2]; exact List.mem_append_left _ ha)
    ·have : a = (x.1,y.2 + x.2):=by simpa using ha
     rw [this]; exact Int.le_refl _
  ·rename_i h
   refine ⟨⟨List.pairwise_append.mpr ⟨R.up,by simp,fun a ha b hb=>?_⟩,fun a ha=>?_⟩,fun a ha=>?_⟩
   ·have : b = x:=by simpa using hb
    rw [this]
    have h1:=hl a ha
    have h2:=hl y hy
    rw [e2] at ha
    rcases List.mem_append.mp ha with ha | ha
    ·have:=u3 a ha y (by simp); omega
    ·have : a = y:=by simpa using ha
     rw [this]; omega
   ·rcases List.mem_append.mp ha with ha | ha
    ·exact R.pos a ha
    ·have : a = x:=by simpa using ha
     rw [this]; exact hx
   ·rcases List.mem_append.mp ha with ha | ha
    ·exact hl a ha
    ·have : a = x:=by simpa using ha
     rw [this]; exact Int.le_refl _
theorem grouped_rise : ∀ (r s : List (Int × Int)),r.Pairwise (fun x y=>x.1≤y.1)→(∀ x∈r,1≤x.1∧1≤x.2)→Rise s→(∀ x∈r,∀ y∈s,y.1≤x.1)→Rise (r.foldl addStep s)
 | [],_,_,_,R,_=>R
 | x :: r,s,hp,hx,R,hl=>by
  obtain ⟨h1,h2⟩:=addStep_rise R (hx x List.mem_cons_self) (hl x List.mem_cons_self)
  obtain ⟨p1,p2⟩:=List.pairwise_cons.mp hp
  refine grouped_rise r _ p2 (fun y hy=>hx y (List.mem_cons_of_mem _ hy)) h1 fun y hy z hz=>?_
  have:=h2 z hz
  have:=p1 y hy
  omega
theorem wsum_cut {T : Int} : ∀ (r : List (Int × Int)),r.Pairwise (fun x y=>x.1≤y.1)→wsum (fun l=>if l≤T then T + 1 - l else 0) r = wsum (fun l=>T + 1 - l) (r.takeWhile fun x=>decide (x.1≤T))
 | [],_=>rfl
 | x :: r,hp=>by
  obtain ⟨p1,p2⟩:=List.pairwise_cons.mp hp
  by_cases h : x.1≤T
  ·rw [List.takeWhile_cons_of_pos (by simpa using h),wsum_cons,wsum_cons,if_pos h,wsum_cut r p2]
  ·rw [List.takeWhile_cons_of_neg (by simpa using h)]
   have : ∀ (r : List (Int × Int)),(∀ y∈r,¬ y.1≤T)→wsum (fun l=>if l≤T then T + 1 - l else 0) r = 0:=fun r=>by
    induction r with
    | nil=>intro _; rfl
    | cons y r ih =>
     intro hy
     rw [wsum_cons,if_neg (hy y List.mem_cons_self),ih fun z hz=>hy z (List.mem_cons_of_mem _ hz)]
     omega
   rw [this (x :: r) fun y hy=>by
    rcases List.mem_cons.mp hy with rfl | hy
    ·exact h
    ·have:=p1 y hy; omega]
   rfl
end Sp
namespace Sp
theorem nodup_sub {α : Type} [DecidableEq α] : ∀ {l m : List α},l.Nodup→(∀ x∈l,x∈m)→l.length≤m.length
 | [],_,_,_=>Nat.zero_le _
 | x :: l,m,h,s=>by
  have hx : x∈m:=s x List.mem_cons_self
  have h1 : l.length≤(m.erase x).length:=nodup_sub (List.nodup_cons.mp h).2 fun y hy=>by
   have hne : y ≠ x:=fun z=>(List.nodup_cons.mp h).1 (z ▸ hy)
   exact (List.mem_erase_of_ne hne).mpr (s y (List.mem_cons_of_mem _ hy))
  rw [List.length_erase_of_mem hx] at h1
  have : 0 < m.length:=List.length_pos_of_mem hx
  rw [List.length_cons]
  omega
theorem nodup_lt {l : List Nat} {n : Nat} (h : l.Nodup) (hl : ∀ x∈l,x < n) : l.length≤n:=by
 have:=nodup_sub (m:=List.range n) h fun x hx=>List.mem_range.mpr (hl x hx)
 rwa [List.length_range] at this
theorem nodup_pairs {l : List (Nat × Nat)} {n : Nat} (h : l.Nodup) (hl : ∀ x∈l,x.1 < n∧x.2 < n) : l.length≤n * n:=by
 have h2 : (l.map fun x=>x.1 * n + x.2).Nodup:=by
  rw [List.Nodup,List.pairwise_map]
  refine List.Pairwise.imp_of_mem (fun {a b} ha hb hne e=>hne ?_) h
  obtain ⟨a1,a2⟩:=hl a ha
  obtain ⟨b1,b2⟩:=hl b hb
  have q1 : a.1 = b.1:=by
   rcases Nat.lt_trichotomy a.1 b.1 with z | z | z
   ·have : (a.1 + 1) * n≤b.1 * n:=Nat.mul_le_mul_right n z
    rw [Nat.add_mul] at this
    omega
   ·exact z
   ·have : (b.1 + 1) * n≤a.1 * n:=Nat.mul_le_mul_right n z
    rw [Nat.add_mul] at this
    omega
  have q2 : a.2 = b.2:=by rw [q1] at e; omega
  exact Prod.ext q1 q2
 have:=nodup_lt (n:=n * n) h2 fun x hx=>by
  obtain ⟨a,ha,rfl⟩:=List.mem_map.mp hx
  obtain ⟨a1,a2⟩:=hl a ha
  have : (a.1 + 1) * n≤n * n:=Nat.mul_le_mul_right n a1
  rw [Nat.add_mul] at this
  omega
 rwa [List.length_map] at this
variable {n : Nat} {left : Nat→Int} {out : Nat→List Mv} {π : Nat→Int} {st : Nat}
noncomputable def PathOk (n : Nat) (π : Nat→Int) (lab : List (Option Lb)) (v : Nat) (l : Lb) : Prop :=
 ∃ pth : List Nat,pth.Nodup∧pth.length = l.c + 1∧∀ y∈pth,y < n∧∃ (dy : Int) (cy : Nat) (ly : Lb),lab[y]? = some (some ly)∧leL ly dy cy∧π v≤π y + (l.d - dy)∧cy≤l.c
noncomputable def Paths (n : Nat) (π : Nat→Int) (lab : List (Option Lb)) : Prop:=∀ v l,lab[v]? = some (some l)→PathOk n π lab v l
theorem PathOk.lt {lab : List (Option Lb)} {v : Nat} {l : Lb} (h : PathOk n π lab v l) : l.c < n:=by
 obtain ⟨pth,nd,hl,h⟩:=h
 have:=nodup_lt nd fun y hy=>(h y hy).1
 omega
theorem PathOk.low {lab lab' : List (Option Lb)} {v : Nat} {l : Lb} (hlow : ∀ (v : Nat) (l : Lb),lab[v]? = some (some l)→∃ l' : Lb,lab'[v]? = some (some l')∧leL l' l.d l.c) (h : PathOk n π lab v l) : PathOk n π lab' v l:=by
 obtain ⟨pth,nd,hl,h⟩:=h
 refine ⟨pth,nd,hl,fun y hy=>?_⟩
 obtain ⟨h1,dy,cy,ly,h2,h3,h4,h5⟩:=h y hy
 obtain ⟨ly',e,q⟩:=hlow y ly h2
 exact ⟨h1,dy,cy,ly',e,q.trans h3,h4,h5⟩
theorem PathOk.more {lab lab' : List (Option Lb)} {u v : Nat} {lu : Lb} {x : Int} {fr : Option (Nat × Nat)} (h : PathOk n π lab u lu) (hv : v < n) (hpay : π v≤π u + x) (hnear : near (lu.d + x) (lu.c + 1) (lab[v]?.getD none) = true)
  (hlow : ∀ (v : Nat) (l : Lb),lab[v]? = some (some l)→∃ l' : Lb,lab'[v]? = some (some l')∧leL l' l.d l.c) (hnew : lab'[v]? = some (some ⟨lu.d + x,lu.c + 1,fr⟩)) : PathOk n π lab' v ⟨lu.d + x,lu.c + 1,fr⟩:=by
 obtain ⟨pth,nd,hl,h⟩:=h
 refine ⟨v :: pth,List.nodup_cons.mpr ⟨fun hm=>?_,nd⟩,by rw [List.length_cons,hl],fun y hy=>?_⟩
 ·obtain ⟨_,dy,cy,ly,h2,h3,h4,h5⟩:=h v hm
  rw [h2] at hnear
  simp only [Option.getD_some,near,Bool.or_eq_true,decide_eq_true_eq,Bool.and_eq_true] at hnear
  unfold leL at h3
  omega
 ·rcases List.mem_cons.mp hy with rfl | hy
  ·refine ⟨hv,lu.d + x,lu.c + 1,_,hnew,.inr ⟨rfl,Nat.le_refl _⟩,?_,Nat.le_refl _⟩
   show π y≤π y + (lu.d + x - (lu.d + x))
   omega
  ·obtain ⟨h1,dy,cy,ly,h2,h3,h4,h5⟩:=h y hy
   obtain ⟨ly',e,q⟩:=hlow y ly h2
   refine ⟨h1,dy,cy,ly',e,q.trans h3,?_,?_⟩
   ·show π v≤π y + (lu.d + x - dy)
    omega
   ·show cy≤lu.c + 1
    omega
structure QP (n : Nat) (p : Nat) (b : Nat) (s : RS) (phs : List Nat) : Prop where
 len : phs.length = s.queue.length
 lt : ∀ x∈phs,x < n
 nd : (s.queue.zip phs).Nodup
 old : ∀ (j : Nat) x,j < s.place→phs[j]? = some x→x≤p
 pen : ∀ (j : Nat) x,s.place≤j→phs[j]? = some x→p≤x∧x≤p + 1
 srt : ∀ (i j : Nat) x y,s.place≤i→i≤j→phs[i]? = some x→phs[j]? = some y→x≤y
 cnt : ∀ (j : Nat) x v l,s.place≤j→phs[j]? = some x→s.queue[j]? = some v→s.lab[v]? = some (some l)→x≤l.c
 wt : ∀ (j : Nat) v,b≤j→s.queue[j]? = some v→s.wait[v]? = some true
 one : ∀ (i j : Nat) v,s.place≤i→s.place≤j→s.queue[i]? = some v→s.queue[j]? = some v→i = j
theorem QP.bound {p b : Nat} {s : RS} {phs : List Nat} (h : QP n p b s phs) (hq : ∀ v∈s.queue,v < n) : s.queue.length≤n * n:=by
 have:=nodup_pairs (n:=n) h.nd fun x hx=>⟨hq _ (List.of_mem_zip hx).1,h.lt _ (List.of_mem_zip hx).2⟩
 rw [List.length_zip,h.len,Nat.min_self] at this
 exact this
theorem get_app {α : Type} {xs : List α} {a x : α} {j : Nat} (h : (xs ++ [a])[j]? = some x) : (j < xs.length∧xs[j]? = some x)∨(j = xs.length∧x = a):=by
 by_cases hj : j < xs.length
 ·rw [List.getElem?_append_left hj] at h; exact .inl ⟨hj,h⟩
 ·rw [List.getElem?_append_right (by omega)] at h
  have : j - xs.length = 0:=by
   by_cases z : j - xs.length = 0
   ·exact z
   ·rw [List.getElem?_eq_none (by simp; omega)] at h; cases h
  rw [this] at h
  exact .inr ⟨by omega,by simpa using h.symm⟩
theorem relax_qp {s : RS} {u p : Nat} {lu : Lb} {m : Mv} {phs : List Nat} (F : Fit n left out π) (I : LabOk n left out π st s) (Q : QP n p s.place s phs) (hP : Paths n π s.lab) (hu : u < n) (hl : s.lab[u]? = some (some lu)) (hm : m∈out u) (hp : p≤lu.c) :
  ∃ phs',QP n p (relax left u lu.d (lu.c + 1) s m).place (relax left u lu.d (lu.c + 1) s m) phs'∧Paths n π (relax left u lu.d (lu.c + 1) s m).lab:=by
 obtain ⟨a1,_,_⟩:=relax_ok F I hu hl hm
 obtain ⟨mv,v,x⟩:=m
 have hvn : v < n:=F.room u _ hm
 have hvl : v < s.lab.length:=by rw [I.ll]; exact hvn
 have hvw : v < s.wait.length:=by rw [I.wl]; exact hvn
 by_cases hc : 0 < left mv∧near (lu.d + x) (lu.c + 1) (s.lab[v]?.getD none) = true
 ·have low:=a1.low
  have e : relax left u lu.d (lu.c + 1) s (mv,v,x) = { s with lab:=s.lab.set v (some ⟨lu.d + x,lu.c + 1,some (mv,u)⟩),wait:=if s.wait[v]?.getD false = true then s.wait else s.wait.set v true,queue:=if s.wait[v]?.getD false = true then s.queue else s.queue ++ [v] }:=by
   unfold relax; rw [if_pos hc]
  rw [e] at low ⊢
  have hpay:=F.pay u _ hu hm hc.1
  have hnew : (s.lab.set v (some ⟨lu.d + x,lu.c + 1,some (mv,u)⟩))[v]? = some (some ⟨lu.d + x,lu.c + 1,some (mv,u)⟩):=List.getElem?_set_self hvl
  have PN : PathOk n π (s.lab.set v (some ⟨lu.d + x,lu.c + 1,some (mv,u)⟩)) v ⟨lu.d + x,lu.c + 1,some (mv,u)⟩:=(hP u lu hl).more hvn hpay hc.2 low hnew
  have hP' : Paths n π (s.lab.set v (some ⟨lu.d + x,lu.c + 1,some (mv,u)⟩)):=fun w l ew=>by
   rcases set_get ew with ⟨rfl,e2,_⟩ | ⟨hne,e2⟩
   ·cases e2; exact PN
   ·exact (hP w l e2).low low
  have cn:=PN.lt
  dsimp only at cn
  have cnt' : ∀ (j : Nat) y w l,s.place≤j→phs[j]? = some y→s.queue[j]? = some w→(s.lab.set v (some ⟨lu.d + x,lu.c + 1,some (mv,u)⟩))[w]? = some (some l)→y≤l.c:=fun j y w l hj e1 e2 e3=>by
   rcases set_get e3 with ⟨rfl,e4,_⟩ | ⟨hne,e4⟩
   ·cases e4
    have:=(Q.pen j y hj e1).2
    show y≤lu.c + 1
    omega
   ·exact Q.cnt j y w l hj e1 e2 e4
  by_cases hw : s.wait[v]?.getD false = true
  ·simp only [hw,if_true]
   exact ⟨phs,⟨Q.len,Q.lt,Q.nd,Q.old,Q.pen,Q.srt,cnt',Q.wt,Q.one⟩,hP'⟩
  ·simp only [hw]
   have nopend : ∀ (j : Nat),s.place≤j→s.queue[j]? ≠ some v:=fun j hj e2=>by
    have:=Q.wt j v hj e2
    rw [this] at hw
    exact hw rfl
   refine ⟨phs ++ [p + 1],⟨?_,?_,?_,?_,?_,?_,?_,?_,?_⟩,hP'⟩
   ·show (phs ++ [p + 1]).length = (s.queue ++ [v]).length
    rw [List.length_append,List.length_append,Q.len]; rfl
   ·intro y hy
    rcases List.mem_append.mp hy with hy | hy
    ·exact Q.lt y hy
    ·have : y = p + 1:=by simpa using hy
     omega
   ·show ((s.queue ++ [v]).zip (phs ++ [p + 1])).Nodup
    rw [List.zip_append Q.len.symm,List.nodup_append]
    refine ⟨Q.nd,by simp,fun a ha b hb hab=>?_⟩
    have hb' : b = (v,p + 1):=by simpa using hb
    subst hb'
    subst hab
    obtain ⟨j,hj⟩:=List.mem_iff_getElem?.mp ha
    rw [List.getElem?_zip_eq_some] at hj
    by_cases hjp : s.place≤j
    ·exact nopend j hjp hj.1
    ·have:=Q.old j _ (by omega) hj.2
     simp at this
     omega
   ·intro j y hj e2
    rcases get_app e2 with ⟨_,e2⟩ | ⟨e2,_⟩
    ·exact Q.old j y hj e2
    ·have h1:=I.pl
     have h2:=Q.len
     have hj' : j < s.place:=hj
     omega
   ·intro j y hj e2
    rcases get_app e2 with ⟨_,e2⟩ | ⟨_,e2⟩
    ·exact Q.pen j y hj e2
    ·omega
   ·intro i j y z hi hij e1 e2
    rcases get_app e1 with ⟨h1,e1⟩ | ⟨h1,e1⟩
    ·rcases get_app e2 with ⟨_,e2⟩ | ⟨_,e2⟩
     ·exact Q.srt i j y z hi hij e1 e2
     ·have:=(Q.pen i y hi e1).2
      omega
    ·rcases get_app e2 with ⟨h2,e2⟩ | ⟨_,e2⟩
     ·omega
     ·omega
   ·intro j y w l hj e1 e2 e3
    rcases get_app e1 with ⟨h1,e1⟩ | ⟨h1,e1⟩
    ·rcases get_app (show (s.queue ++ [v])[j]? = some w from e2) with ⟨_,e2⟩ | ⟨h2,_⟩
     ·exact cnt' j y w l hj e1 e2 e3
     ·have:=Q.len; omega
    ·rcases get_app (show (s.queue ++ [v])[j]? = some w from e2) with ⟨h2,_⟩ | ⟨_,e2⟩
     ·have:=Q.len; omega
     ·subst e2
      have e3' : (s.lab.set w (some ⟨lu.d + x,lu.c + 1,some (mv,u)⟩))[w]? = some (some l):=e3
      rw [hnew] at e3'
      cases e3'
      show y≤lu.c + 1
      omega
   ·intro j w hj e2
    show (s.wait.set v true)[w]? = some true
    rcases get_app (show (s.queue ++ [v])[j]? = some w from e2) with ⟨_,e2⟩ | ⟨_,e2⟩
    ·by_cases hwv : w = v
     ·subst hwv; exact List.getElem?_set_self hvw
     ·rw [List.getElem?_set_ne (Ne.symm hwv)]; exact Q.wt j w hj e2
    ·subst e2; exact List.getElem?_set_self hvw
   ·intro i j w hi hj e1 e2
    rcases get_app (show (s.queue ++ [v])[i]? = some w from e1) with ⟨h1,g1⟩ | ⟨h1,g1⟩
    ·rcases get_app (show (s.queue ++ [v])[j]? = some w from e2) with ⟨_,g2⟩ | ⟨_,g2⟩
     ·exact Q.one i j w hi hj g1 g2
     ·rw [g2] at g1; exact absurd g1 (nopend i hi)
    ·rcases get_app (show (s.queue ++ [v])[j]? = some w from e2) with ⟨_,g2⟩ | ⟨h2,_⟩
     ·rw [g1] at g2; exact absurd g2 (nopend j hj)
     ·omega
 ·have e : relax left u lu.d (lu.c + 1) s (mv,v,x) = s:=by unfold relax; rw [if_neg hc]
  rw [e]
  exact ⟨phs,Q,hP⟩
theorem looks_qp {u p : Nat} {lu : Lb} (F : Fit n left out π) (hu : u < n) (hp : p≤lu.c) : ∀ (ms : List Mv) (s : RS) (phs : List Nat),LabOk n left out π st s→QP n p s.place s phs→Paths n π s.lab→s.lab[u]? = some (some lu)→(∀ m∈ms,m∈out u) →
  ∃ phs',QP n p (ms.foldl (relax left u lu.d (lu.c + 1)) s).place (ms.foldl (relax left u lu.d (lu.c + 1)) s) phs'∧Paths n π (ms.foldl (relax left u lu.d (lu.c + 1)) s).lab
 | [],s,phs,_,Q,hP,_,_=>⟨phs,Q,hP⟩
 | m :: ms,s,phs,I,Q,hP,hl,hm=>by
  obtain ⟨a1,a2,_⟩:=relax_ok F I hu hl (hm m List.mem_cons_self)
  obtain ⟨phs',Q',hP'⟩:=relax_qp F I Q hP hu hl (hm m List.mem_cons_self) hp
  exact looks_qp F hu hp ms _ phs' a1.ok Q' hP' a2 fun m' h'=>hm m' (List.mem_cons_of_mem _ h')
noncomputable def QI (n : Nat) (π : Nat→Int) (s : RS) : Prop:=(∃ p phs,QP n p (s.place + 1) s phs)∧Paths n π s.lab
theorem QP.next {s : RS} {p p' : Nat} {phs : List Nat} (Q : QP n p (s.place + 1) s phs) (I : RInv n left out π st s) (hq : s.queue[s.place]? = some s.room) (hp' : phs[s.place]? = some p') : QP n p' (s.place + 1) { s with place:=s.place + 1,wait:=s.wait.set s.room false } phs:=by
 have hpp:=Q.pen s.place p' (Nat.le_refl _) hp'
 refine ⟨Q.len,Q.lt,Q.nd,fun j x hj e=>?_,fun j x hj e=>?_,fun i j x y hi hij e1 e2=>Q.srt i j x y (by have : s.place + 1≤i:=hi; omega) hij e1 e2,fun j x v l hj e1 e2 e3=>Q.cnt j x v l (by have : s.place + 1≤j:=hj; omega) e1 e2 e3,fun j v hj e=>?_,fun i j v hi hj e1 e2=>Q.one i j v (by have : s.place + 1≤i:=hi; omega) (by have : s.place + 1≤j:=hj; omega) e1 e2⟩
 ·have hj' : j < s.place + 1:=hj
  by_cases z : j = s.place
  ·subst z; rw [hp'] at e; cases e; exact Nat.le_refl _
  ·have:=Q.old j x (by omega) e; omega
 ·have hj' : s.place + 1≤j:=hj
  refine ⟨Q.srt s.place j p' x (Nat.le_refl _) (by omega) hp' e,?_⟩
  have:=(Q.pen j x (by omega) e).2
  omega
 ·have hj' : s.place + 1≤j:=hj
  show (s.wait.set s.room false)[v]? = some true
  have hne : v ≠ s.room:=fun z=>by
   subst z
   have:=Q.one j s.place s.room (by omega) (Nat.le_refl _) e hq
   omega
  rw [List.getElem?_set_ne (Ne.symm hne)]
  exact Q.wt j v hj' e
theorem stepR_q {s : RS} (F : Fit n left out π) (I : RInv n left out π st s) (hQ : QI n π s) (hd : ¬ s.done) : QI n π (stepR left out s):=by
 obtain ⟨⟨p,phs,Q⟩,hP⟩:=hQ
 have hlt : s.place < s.queue.length:=by unfold RS.done at hd; omega
 have hq : s.queue[s.place]? = some s.room:=by unfold RS.room; rw [List.getElem?_eq_getElem hlt]; rfl
 have hmem : s.room∈s.queue:=List.mem_of_getElem? hq
 have hu : s.room < n:=I.ql _ hmem
 obtain ⟨lu,hl⟩:=I.lq _ hmem
 have hat : s.at = lu:=by unfold RS.at; rw [hl]; rfl
 have dc:=drop_cons hq
 have I0 : LabOk n left out π st { s with place:=s.place + 1,wait:=s.wait.set s.room false }:=by
  refine ⟨hlt,I.ll,by show (s.wait.set s.room false).length = n; rw [List.length_set]; exact I.wl,I.ql,I.st0,I.lo,I.fr,fun v hv=>?_,I.lq⟩
  rcases set_get (show (s.wait.set s.room false)[v]? = some true from hv) with ⟨_,e,_⟩ | ⟨hne,e⟩
  ·cases e
  ·have:=I.wq v e
   rw [dc] at this
   rcases List.mem_cons.mp this with z | z
   ·exact absurd z hne
   ·exact z
 have e0 : stepR left out s = (out s.room).foldl (relax left s.room lu.d (lu.c + 1)) { s with place:=s.place + 1,wait:=s.wait.set s.room false }:=by unfold stepR; rw [hat]
 obtain ⟨p',hp'⟩ : ∃ p',phs[s.place]? = some p':=⟨_,List.getElem?_eq_getElem (by rw [Q.len]; exact hlt)⟩
 have Q0:=Q.next I hq hp'
 obtain ⟨phs',Q',hP'⟩:=looks_qp F hu (Q.cnt s.place p' s.room lu (Nat.le_refl _) hp' hq hl) (out s.room) _ phs I0 Q0 hP hl fun m h=>h
 rw [← e0] at Q' hP'
 exact ⟨⟨p',phs',⟨Q'.len,Q'.lt,Q'.nd,Q'.old,Q'.pen,Q'.srt,Q'.cnt,fun j v hj e=>Q'.wt j v (by omega) e,Q'.one⟩⟩,hP'⟩
theorem startR_q (hst : st < n) : QI n π (startR n st):=by
 have h0 : ((List.replicate n (none : Option Lb)).set st (some ⟨0,0,none⟩))[st]? = some (some ⟨0,0,none⟩):=List.getElem?_set_self (by simpa using hst)
 have hn : ∀ (v : Nat) (l : Lb),((List.replicate n (none : Option Lb)).set st (some ⟨0,0,none⟩))[v]? = some (some l)→v = st∧l = ⟨0,0,none⟩:=fun v l e=>by
  rcases set_get e with ⟨rfl,e2,_⟩ | ⟨_,e2⟩
  ·cases e2; exact ⟨rfl,rfl⟩
  ·rw [List.getElem?_replicate] at e2
   split at e2 <;> simp at e2
 refine ⟨⟨0,[0],⟨rfl,fun x hx=>?_,by simp [startR],fun j x hj e=>?_,fun j x hj e=>?_,fun i j x y _ hij e1 e2=>?_,fun j x v l _ e1 e2 e3=>?_,fun j v hj e=>?_,fun i j v _ _ e1 e2=>?_⟩⟩,fun v l e=>?_⟩
 ·have : x = 0:=by simpa using hx
  omega
 ·exact absurd hj (Nat.not_lt_zero _)
 ·have : x = 0:=by
   cases j with
   | zero=>simpa using e.symm
   | succ j=>simp at e
  omega
 ·have : x = 0:=by
   cases i with
   | zero=>simpa using e1.symm
   | succ i=>simp at e1
  omega
 ·have : x = 0:=by
   cases j with
   | zero=>simpa using e1.symm
   | succ j=>simp at e1
  omega
 ·have hj' : 1≤j:=hj
  have e' : ([st] : List Nat)[j]? = some v:=e
  rw [List.getElem?_eq_none (by simp; omega)] at e'
  cases e'
 ·have z : ∀ {k : Nat},([st] : List Nat)[k]? = some v→k = 0:=fun {k} e=>by
   cases k with
   | zero=>rfl
   | succ k=>simp at e
  rw [z e1,z e2]
 ·obtain ⟨rfl,rfl⟩:=hn v l e
  refine ⟨[v],by simp,rfl,fun y hy=>?_⟩
  have : y = v:=by simpa using hy
  subst this
  exact ⟨hst,0,0,_,h0,.inr ⟨rfl,Nat.le_refl _⟩,by show π y≤π y + (0 - 0); omega,Nat.le_refl _⟩
end Sp
namespace Sp
variable {n : Nat} {ps : List Pas} {left : Lf} {π : Nat→Int} {st g : Nat} {lab : List (Option Lb)}
theorem way_ne (T : Tree n left (outOf ps) π st lab) (hne : st ≠ g) {l : Lb} (h : lab[g]? = some (some l)) : wayF lab l.c g ≠ []:=by
 obtain ⟨mv,u,x,lu,_,_,_,_,_,_,_,h8⟩:=way_step T h (Ne.symm hne)
 rw [h8]; simp
theorem least_ex {α : Type} (f : α→Int) : ∀ (xs : List α),xs ≠ []→∃ p,(∃ m∈xs,p = f m)∧∀ m∈xs,p≤f m
 | [x],_=>⟨f x,⟨x,by simp,rfl⟩,fun m hm=>by rw [List.mem_singleton.mp hm]; exact Int.le_refl _⟩
 | x :: y :: r,_=>by
  obtain ⟨p,⟨m,hm,e⟩,h⟩:=least_ex f (y :: r) (by simp)
  by_cases hx : f x≤p
  ·exact ⟨f x,⟨x,List.mem_cons_self,rfl⟩,fun z hz=>by
    rcases List.mem_cons.mp hz with rfl | hz
    ·exact Int.le_refl _
    ·have:=h z hz; omega⟩
  ·exact ⟨p,⟨m,List.mem_cons_of_mem _ hm,e⟩,fun z hz=>by
    rcases List.mem_cons.mp hz with rfl | hz
    ·omega
    ·exact h z hz⟩
theorem runs_ex {lim : Option Int} (Hh : Hall n ps) (hst : st < n) (hg : g < n) (hne : st ≠ g) (S : St n ps st left π) : ∃ r left'',Runs n ps st g lim left r left'':=by
 have key : ∀ (k : Nat) (left : Lf) (π : Nat→Int),rest ps g left = k→St n ps st left π→∃ r left'',Runs n ps st g lim left r left'':=fun k=>by
  induction k using Nat.strongRecOn with
  | _ k ih =>
   intro left π hk S
   obtain ⟨lab,hF⟩:=finds S.fit hst
   have T:=found_tree S.fit hst hF
   obtain ⟨o,ho⟩ : ∃ o,lab[g]? = some o:=⟨_,List.getElem?_eq_getElem (by rw [T.ll]; exact hg)⟩
   cases o with
   | none=>exact ⟨_,_,.none hF ho⟩
   | some l =>
    have go : (∀ T',lim = some T'→l.d≤T')→∃ r left'',Runs n ps st g lim left r left'':=fun hl=>by
     obtain ⟨p,h1,h2⟩:=least_ex left (wayF lab l.c g) (way_ne T hne ho)
     have P : Pushed n ps st g left l.d p (pushAll p left (wayF lab l.c g)):=⟨lab,l,hF,ho,rfl,h1,h2,rfl⟩
     obtain ⟨_,_,⟨π1,S1,_⟩,_,_⟩:=pushed_ok Hh S hst P
     obtain ⟨r,left'',R⟩:=ih _ (by rw [← hk]; exact rest_less Hh S hst hne P) _ π1 rfl S1
     exact ⟨_,_,.go P hl R⟩
    cases lim with
    | none=>exact go fun _ e=>by cases e
    | some T' =>
     by_cases hT : T' < l.d
     ·exact ⟨_,_,.far hF ho rfl hT⟩
     ·exact go fun _ e=>by cases e; omega
 exact key _ left π rfl S
noncomputable def vals : List Pas→List Int
 | []=>[0]
 | q :: r=>(vals r).map (fun x=>x - q.l) ++ (vals r ++ (vals r).map (fun x=>x + q.l))
theorem vals_len (ps : List Pas) : (vals ps).length = 3 ^ ps.length:=by
 induction ps with
 | nil=>rfl
 | cons q r ih=>rw [vals,List.length_append,List.length_append,List.length_map,List.length_map,ih,List.length_cons,Nat.pow_succ]; omega
noncomputable def coef (ms : List Nat) (i : Nat) : Int:=b2 (2 * i∈ms) - b2 (2 * i + 1∈ms)
theorem b2_cases (p : Prop) [Decidable p] : b2 p = 0∨b2 p = 1:=by unfold b2; split; exact .inr rfl; exact .inl rfl
theorem mem_vals (ms : List Nat) : ∀ (ps : List Pas) (k : Nat),sumP (fun i q=>coef ms i * q.l) k ps∈vals ps
 | [],_=>by simp [sumP,vals]
 | q :: r,k=>by
  have ih:=mem_vals ms r (k + 1)
  rw [sumP,vals]
  have : coef ms k = -1∨coef ms k = 0∨coef ms k = 1:=by
   unfold coef
   rcases b2_cases (2 * k∈ms) with a | a <;> rcases b2_cases (2 * k + 1∈ms) with b | b <;> rw [a,b] <;> omega
  rcases this with e | e | e <;> rw [e]
  ·refine List.mem_append_left _ (List.mem_map.mpr ⟨_,ih,?_⟩)
   omega
  ·refine List.mem_append_right _ (List.mem_append_left _ ?_)
   simpa using ih
  ·refine List.mem_append_right _ (List.mem_append_right _ (List.mem_map.mpr ⟨_,ih,?_⟩))
   omega
theorem coef_cons {m : Nat} {ms : List Nat} (h : m ∉ ms) (i : Nat) : coef (m :: ms) i = coef ms i + (b2 (2 * i = m) - b2 (2 * i + 1 = m)):=by
 unfold coef
 have e1 : b2 (2 * i∈m :: ms) = b2 (2 * i∈ms) + b2 (2 * i = m):=by
  unfold b2
  by_cases a : 2 * i = m
  ·subst a; simp [h]
  ·simp [a]
 have e2 : b2 (2 * i + 1∈m :: ms) = b2 (2 * i + 1∈ms) + b2 (2 * i + 1 = m):=by
  unfold b2
  by_cases a : 2 * i + 1 = m
  ·subst a; simp [h]
  ·simp [a]
 rw [e1,e2]
 omega
theorem way_val (T : Tree n left (outOf ps) π st lab) {v : Nat} {l : Lb} (h : lab[v]? = some (some l)) : l.d = sumP (fun i q=>coef (wayF lab l.c v) i * q.l) 0 ps:=by
 have:=way_ind T (P:=fun v l ms=>ms.Nodup→l.d = sumP (fun i q=>coef ms i * q.l) 0 ps) (fun _=>?_) (fun v l mv u x lu ms hv hne hfr hL hp hu hd hc hms ih nd=>?_) v l h
 ·exact this (way_nodup T h)
 ·rw [sumP_congr (g:=fun _ _=>0) ps 0 fun i q _=>by simp [coef,b2],sumP_zero]
 ·obtain ⟨h1,h2⟩:=List.nodup_cons.mp nd
  have es : sumP (fun i q=>coef (mv :: ms) i * q.l) 0 ps = sumP (fun i q=>coef ms i * q.l) 0 ps + sumP (fun i q=>(b2 (2 * i = mv) - b2 (2 * i + 1 = mv)) * q.l) 0 ps:=by
   rw [← sumP_add]
   exact sumP_congr ps 0 fun i q _=>by rw [coef_cons h1,Int.add_mul]
  rw [es,hd,ih h2]
  congr 1
  obtain ⟨i,q,e,r⟩:=hL.cases
  rw [sumP_one (f:=fun i q=>(b2 (2 * i = mv) - b2 (2 * i + 1 = mv)) * q.l) ps 0 i q e (fun j q' e' hj=>?_)]
  ·rcases r with ⟨_,_,rfl,rfl⟩ | ⟨_,_,rfl,rfl⟩
   ·have : ¬ 2 * (0 + i) + 1 = 2 * i:=by omega
    simp [b2,this]
   ·have : ¬ 2 * (0 + i) = 2 * i + 1:=by omega
    simp [b2,this]
  ·have a : ¬ 2 * (0 + j) = mv:=by rcases r with ⟨_,_,rfl,_⟩ | ⟨_,_,rfl,_⟩ <;> omega
   have b : ¬ 2 * (0 + j) + 1 = mv:=by rcases r with ⟨_,_,rfl,_⟩ | ⟨_,_,rfl,_⟩ <;> omega
   simp only [b2,a,b,if_false]
   simp
theorem runs_vals {lim : Option Int} (Hh : Hall n ps) (hst : st < n) {left : Lf} {r : List (Int × Int)} {left'' : Lf} {π : Nat→Int} (R : Runs n ps st g lim left r left'') (S : St n ps st left π) : ∀ x∈r,x.1∈vals ps:=by
 induction R generalizing π with
 | none _ _=>intro x hx; cases hx
 | far _ _ _ _=>intro x hx; cases hx
 | @go left left' left'' len p r P hl R ih =>
  intro x hx
  rcases List.mem_cons.mp hx with rfl | hx
  ·obtain ⟨lab,l,hF,hl,e,_⟩:=P.ex
   have T:=found_tree S.fit hst hF
   show len∈vals ps
   rw [e,way_val T hl]
   exact mem_vals _ ps 0
  ·obtain ⟨_,_,⟨π1,S1,_⟩,_,_⟩:=pushed_ok Hh S hst P
   exact ih S1 x hx
theorem addStep_mem {s : List (Int × Int)} {x y : Int × Int} (h : y∈addStep s x) : y.1 = x.1∨y∈s:=by
 unfold addStep at h
 split at h
 ·rename_i z e
  split at h
  ·rcases List.mem_append.mp h with h | h
   ·exact .inr ((List.dropLast_sublist s).subset h)
   ·have : y = (x.1,z.2 + x.2):=by simpa using h
    rw [this]; exact .inl rfl
  ·rcases List.mem_append.mp h with h | h
   ·exact .inr h
   ·have : y = x:=by simpa using h
    rw [this]; exact .inl rfl
 ·rcases List.mem_append.mp h with h | h
  ·exact .inr h
  ·have : y = x:=by simpa using h
   rw [this]; exact .inl rfl
theorem fold_mem : ∀ (r s : List (Int × Int)) (y : Int × Int),y∈r.foldl addStep s→(∃ x∈r,y.1 = x.1)∨y∈s
 | [],_,_,h=>.inr h
 | x :: r,s,y,h=>by
  rcases fold_mem r _ y h with ⟨z,hz,e⟩ | h
  ·exact .inl ⟨z,List.mem_cons_of_mem _ hz,e⟩
  ·rcases addStep_mem h with e | e
   ·exact .inl ⟨x,List.mem_cons_self,e⟩
   ·exact .inr e
theorem grouped_len {r : List (Int × Int)} {vs : List Int} (hp : r.Pairwise fun x y=>x.1≤y.1) (h1 : ∀ x∈r,1≤x.1∧1≤x.2) (hv : ∀ x∈r,x.1∈vs) : (grouped r).length≤vs.length:=by
 have R:=grouped_rise r [] hp h1 ⟨.nil,fun _ h=>nomatch h⟩ (fun _ _ _ h=>nomatch h)
 have nd : ((grouped r).map (·.1)).Nodup:=by
  rw [List.Nodup,List.pairwise_map]
  exact R.up.imp fun h=>by omega
 have:=nodup_sub (m:=vs) nd fun x hx=>by
  obtain ⟨y,hy,rfl⟩:=List.mem_map.mp hx
  rcases fold_mem r [] y hy with ⟨z,hz,e⟩ | h
  ·rw [e]; exact hv z hz
  ·cases h
 rwa [List.length_map] at this
end Sp
namespace Sp
noncomputable abbrev Tie:=Nat × Nat × Int
structure TieOk (n : Nat) (φ : Nat→Int) (e : Tie) : Prop where
 a : e.1 < n
 b : e.2.1 < n
 ne : e.1 ≠ e.2.1
 pay : φ e.2.1≤φ e.1 + e.2.2
noncomputable def up (d : Nat→Int) (b : Nat) (x : Int) : Nat→Int:=fun v=>if v = b then x else d v
variable {n : Nat} {φ : Nat→Int}
end Sp
namespace VM
open PySem L2
noncomputable abbrev Pq:=Int × Int × Int × Int
noncomputable def pD (q : Pq) : PyData:=.tuple [.int q.1,.int q.2.1,.int q.2.2.1,.int q.2.2.2]
noncomputable def psD (ps : List Pq) : PyData:=.list (ps.map pD)
noncomputable def pOf : PyData→Option Pq
 | .tuple [.int a,.int b,.int w,.int l]=>some (a,b,w,l)
 | _=>none
noncomputable def psOf : List PyData→Option (List Pq)
 | []=>some []
 | d :: r=>match pOf d with
  | some q=>(match psOf r with
   | some qs=>some (q :: qs)
   | none=>none)
  | none=>none
theorem pOf_pD (q : Pq) : pOf (pD q) = some q:=rfl
theorem psOf_map (ps : List Pq) : psOf (ps.map pD) = some ps:=by
 induction ps with
 | nil=>rfl
 | cons q r ih=>simp only [List.map_cons,psOf,pOf_pD,ih]
theorem pOf_some {d : PyData} {q : Pq} (h : pOf d = some q) : d = pD q:=by
 unfold pOf at h
 split at h
 ·cases h; rfl
 ·cases h
theorem psOf_some : ∀ {ds : List PyData} {ps : List Pq},psOf ds = some ps→ds = ps.map pD
 | [],_,h=>by cases h; rfl
 | d :: r,ps,h=>by
  unfold psOf at h
  split at h
  ·rename_i q e
   split at h
   ·rename_i qs e2
    cases h
    rw [pOf_some e,psOf_some e2]; rfl
   ·cases h
  ·cases h
noncomputable def mvD (m e : Int) (x : Int) : PyData:=.tuple [.int m,.int e,.int x]
noncomputable def mvsF : Nat→List Pq→Int→List PyData
 | _,[],_=>[]
 | k,q :: r,u=>(if q.1 = u then [mvD (2 * k) q.2.1 q.2.2.2] else []) ++ ((if q.2.1 = u then [mvD (2 * k + 1) q.1 (-q.2.2.2)] else []) ++ mvsF (k + 1) r u)
theorem mvsF_snoc (q : Pq) (u : Int) : ∀ (r : List Pq) (k : Nat),mvsF k (r ++ [q]) u = mvsF k r u ++ ((if q.1 = u then [mvD (2 * ((k + r.length : Nat) : Int)) q.2.1 q.2.2.2] else []) ++ (if q.2.1 = u then [mvD (2 * ((k + r.length : Nat) : Int) + 1) q.1 (-q.2.2.2)] else []))
 | [],k=>by simp [mvsF]
 | p :: r,k=>by
  rw [List.cons_append,mvsF,mvsF,mvsF_snoc q u r (k + 1)]
  have e : k + 1 + r.length = k + (p :: r).length:=by simp; omega
  rw [e]
  simp only [List.append_assoc]
theorem mvsF_len (u : Int) : ∀ (r : List Pq) (k : Nat),(mvsF k r u).length≤2 * r.length
 | [],_=>Nat.zero_le _
 | q :: r,k=>by
  have ih:=mvsF_len u r (k + 1)
  have a : (if q.1 = u then [mvD (2 * k) q.2.1 q.2.2.2] else []).length≤1:=by split <;> simp
  have b : (if q.2.1 = u then [mvD (2 * k + 1) q.1 (-q.2.2.2)] else []).length≤1:=by split <;> simp
  rw [mvsF,List.length_append,List.length_append,List.length_cons]
  omega
noncomputable def movesD (ps : List Pq) (n : Nat) : PyData:=.list ((List.range n).map fun (u : Nat)=>.list (mvsF 0 ps (u : Int)))
noncomputable def m_moves_of : FnM:=fun ds=>match ds with
 | [.int m,.list pds]=>(match psOf pds with
  | some ps=>if 0≤m∧m≤1000∧ps.length≤1000∧(∀ q∈ps,(0≤q.1∧q.1 < m)∧0≤q.2.1∧q.2.1 < m) then some (false,movesD ps m.toNat) else none
  | none=>none)
 | _=>none
theorem e_moves_of {m : Int} {ps : List Pq} (h0 : 0≤m) (h1 : m≤1000) (h2 : ps.length≤1000) (h3 : ∀ q∈ps,(0≤q.1∧q.1 < m)∧0≤q.2.1∧q.2.1 < m) : m_moves_of [.int m,psD ps] = some (false,movesD ps m.toNat):=by
 unfold m_moves_of psD
 simp only [psOf_map]
 rw [if_pos ⟨h0,h1,h2,h3⟩]
structure MI (K : PySem.W.Frag) (G H₀ : Hp) (D : Addr) (bs : List Addr) (f : Nat→List PyData) (H : Hp) : Prop where
 ex : ∃ F,Same H₀ H∧Same G F∧Same F H∧(∀ a o,F a = some o→G a = some o∨imo o = true)∧F D = none∧H₀ D = none∧H D = some (.lst (bs.map V.ref))∧D ∉ bs∧bs.Nodup ∧
  (∀ b∈bs,F b = none∧H₀ b = none)∧∀ (u : Nat) b,bs[u]? = some b→∃ ys,H b = some (.lst ys)∧HasL K F (f u) ys
section
variable {K : PySem.W.Frag} {G H₀ H : Hp} {D : Addr} {bs : List Addr} {f f' : Nat→List PyData}
theorem MI.congr (I : MI K G H₀ D bs f H) (h : ∀ u,u < bs.length→f u = f' u) : MI K G H₀ D bs f' H:=by
 obtain ⟨F,h1,h2,h3,h4,h5,h6,h7,h8,h9,h10,h11⟩:=I.ex
 refine ⟨F,h1,h2,h3,h4,h5,h6,h7,h8,h9,h10,fun u b e=>?_⟩
 have hu : u < bs.length:=by
  by_cases z : u < bs.length
  ·exact z
  ·rw [List.getElem?_eq_none (by omega)] at e; cases e
 obtain ⟨ys,q1,q2⟩:=h11 u b e
 exact ⟨ys,q1,by rw [← h u hu]; exact q2⟩
theorem MI.put (I : MI K G H₀ D bs f H) {u : Nat} {b p : Addr} {m e x : Int} (hb : bs[u]? = some b) (hp : H p = none) (hf : ∀ w,f' w = if w = u then f w ++ [mvD m e x] else f w) :
  ∃ ys,H b = some (.lst ys)∧(upd H p (.tup [.int m,.int e,.int x])) b = some (.lst ys)∧ys.length = (f u).length∧MI K G H₀ D bs f' (upd (upd H p (.tup [.int m,.int e,.int x])) b (.lst (ys ++ [.ref p]))):=by
 obtain ⟨F,h1,h2,h3,h4,h5,h6,h7,h8,h9,h10,h11⟩:=I.ex
 obtain ⟨ys,q1,q2⟩:=h11 u b hb
 have hbm : b∈bs:=List.mem_of_getElem? hb
 have hbp : b ≠ p:=ne_of_none q1 hp
 have hDp : D ≠ p:=ne_of_none h7 hp
 have hDb : D ≠ b:=fun z=>h8 (z ▸ hbm)
 have hFp : F p = none:=h3.free hp
 refine ⟨ys,q1,by rw [upd_ne hbp]; exact q1,q2.length.symm,upd F p (.tup [.int m,.int e,.int x]),?_,h2.trans (same_upd_new hFp),?_,?_,?_,h6,?_,h8,h9,?_,?_⟩
 ·intro a o e
  have ha : a ≠ b:=ne_of_none e (h10 b hbm).2
  rw [upd_ne ha]
  exact same_upd_new hp a o (h1 a o e)
 ·intro a o e
  by_cases ha : a = p
  ·subst ha; rw [upd_same] at e; rw [upd_ne (Ne.symm hbp),upd_same]; exact e
  ·rw [upd_ne ha] at e
   have hab : a ≠ b:=ne_of_none e (h10 b hbm).1
   rw [upd_ne hab,upd_ne ha]; exact h3 a o e
 ·intro a o e
  by_cases ha : a = p
  ·subst ha; rw [upd_same] at e; cases e; exact .inr rfl
  ·rw [upd_ne ha] at e; exact h4 a o e
 ·rw [upd_ne hDp]; exact h5
 ·rw [upd_ne hDb,upd_ne hDp]; exact h7
 ·intro b' hb'
  have : b' ≠ p:=fun z=>by
   subst z
   obtain ⟨u',e'⟩:=List.mem_iff_getElem?.mp hb'
   obtain ⟨zs,z1,_⟩:=h11 u' _ e'
   rw [hp] at z1; cases z1
  rw [upd_ne this]; exact h10 b' hb'
 ·intro w b' hw
  obtain ⟨zs,z1,z2⟩:=h11 w b' hw
  have hb'p : b' ≠ p:=ne_of_none z1 hp
  by_cases hwu : w = u
  ·subst hwu
   rw [hb] at hw
   cases hw
   rw [q1] at z1
   cases z1
   refine ⟨ys ++ [.ref p],upd_same,?_⟩
   rw [hf,if_pos rfl]
   have hv : Has K (upd F p (.tup [.int m,.int e,.int x])) (mvD m e x) (.ref p):=⟨p,_,rfl,SqT.of upd_same,_,_,rfl,rfl,_,_,rfl,rfl,_,_,rfl,rfl,rfl⟩
   exact HasL.snoc hv (HasL.same (same_upd_new hFp) z2)
  ·have hne : b' ≠ b:=fun z=>by
    subst z
    exact hwu ((List.getElem?_inj (by
     by_cases zz : w < bs.length
     ·exact zz
     ·rw [List.getElem?_eq_none (by omega)] at hw; cases hw) h9).mp (by rw [hw,hb]))
   refine ⟨zs,by rw [upd_ne hne,upd_ne hb'p]; exact z1,?_⟩
   rw [hf,if_neg hwu]
   exact HasL.same (same_upd_new hFp) z2
theorem MI.fin (I : MI K G H₀ D bs f H) : ∃ F,Grow G H₀ F H∧Has K F (.list ((List.range bs.length).map fun u=>.list (f u))) (.ref D):=by
 obtain ⟨F,h1,h2,h3,h4,h5,h6,h7,h8,h9,h10,h11⟩:=I.ex
 let F' : Hp:=fun a=>if a = D∨a∈bs then H a else F a
 have eF : ∀ a,F' a = if a = D∨a∈bs then H a else F a:=fun _=>rfl
 have FF : Same F F':=fun a o e=>by
  have : ¬ (a = D∨a∈bs):=fun z=>by
   rcases z with z | z
   ·rw [z,h5] at e; cases e
   ·rw [(h10 a z).1] at e; cases e
  rw [eF,if_neg this]; exact e
 refine ⟨F',⟨h1,h2.trans FF,fun a o e=>?_,fun a o e=>?_,fun a x u e=>?_⟩,?_⟩
 ·rw [eF] at e
  split at e
  ·exact e
  ·exact h3 a o e
 ·rw [eF] at e
  split at e
  ·rename_i z
   rcases z with z | z
   ·rw [z]; exact .inr (.inl h6)
   ·exact .inr (.inl (h10 a z).2)
  ·rcases h4 a o e with z | z
   ·exact .inl z
   ·exact .inr (.inr z)
 ·rw [eF] at e
  split at e
  ·rename_i z
   rcases z with z | z
   ·rw [z,h7] at e; cases e
   ·obtain ⟨i,hi⟩:=List.mem_iff_getElem?.mp z
    obtain ⟨ys,q1,_⟩:=h11 i a hi
    rw [q1] at e; cases e
  ·rcases h4 a _ e with z | z
   ·exact z
   ·cases z
 ·refine ⟨D,bs.map V.ref,rfl,SqL.of (by rw [eF,if_pos (.inl rfl)]; exact h7),?_⟩
  have key : ∀ (cs : List Addr) (k : Nat),(∀ (i : Nat) b,cs[i]? = some b→bs[k + i]? = some b)→HasL K F' ((List.range' k cs.length).map fun u=>PyData.list (f u)) (cs.map V.ref):=fun cs=>by
   induction cs with
   | nil=>intro k _; rfl
   | cons b r ih =>
    intro k hk
    have hb:=hk 0 b rfl
    obtain ⟨ys,q1,q2⟩:=h11 k b hb
    rw [List.length_cons,List.range'_succ]
    refine ⟨_,_,rfl,⟨b,ys,rfl,SqL.of (by rw [eF,if_pos (.inr (List.mem_of_getElem? hb))]; exact q1),HasL.same FF q2⟩,ih (k + 1) fun i c hc=>?_⟩
    have:=hk (i + 1) c (by simpa using hc)
    rw [← this]
    congr 1
    omega
  have:=key bs 0 fun i b hb=>by rw [Nat.zero_add]; exact hb
  rw [List.range_eq_range']
  exact this
end
end VM
namespace VM
open PySem PySem.Spec PyProof.Rows L2
section
variable {K : PySem.W.Frag} {ioA : Nat→Option Addr} {G H₀ F H : Hp} {S : GS} {σ σ' : St}
end
theorem vR_at {i : Nat} {σ : St} {H : Hp} {Q : VK} {v : V} (e : σ[i]? = some (some v)) (q : Q v H) : vR i σ H Q:=by unfold vR; rw [e]; exact q
section
variable {X : Cx} {s1 s2 s3 : Stmt} {rest : List Stmt} {g : VS} {ip is_ iw ia ib iwd il idue : Nat}
end
end VM
namespace VM
open PySem PySem.Spec PyProof.Rows L2
mutual
noncomputable def subl : PyData→List (List PyData)
 | .list ds=>ds :: sublL ds
 | .tuple ds=>sublL ds
 | _=>[]
noncomputable def sublL : List PyData→List (List PyData)
 | []=>[]
 | d :: r=>subl d ++ sublL r
end
noncomputable def isL (o : HO) (xs : List V) : Prop:=o = .lst xs∨∃ x,o = .frz x (.lst xs)
noncomputable def holds (K : PySem.W.Frag) (F : Hp) (E : List (List PyData)) (o : HO) : Prop:=imo o = true∨∃ es∈E,∃ xs,isL o xs∧HasL K F es xs
open Classical in
noncomputable def few (K : PySem.W.Frag) (F : Hp) (E : List (List PyData)) : Hp:=fun a=>match F a with
 | some o=>if holds K F E o then some o else none
 | none=>none
section
variable {K : PySem.W.Frag} {F : Hp} {E : List (List PyData)}
theorem few_at {a : Addr} {o : HO} (h : few K F E a = some o) : F a = some o∧holds K F E o:=by
 unfold few at h
 split at h
 ·rename_i u e
  split at h
  ·rename_i hh; cases h; exact ⟨e,hh⟩
  ·cases h
 ·cases h
theorem few_of {a : Addr} {o : HO} (h : F a = some o) (ho : holds K F E o) : few K F E a = some o:=by
 unfold few
 rw [h]
 exact if_pos ho
theorem few_sub : Same (few K F E) F:=fun _ _ h=>(few_at h).1
theorem few_sqL {a : Addr} {xs : List V} {ds : List PyData} (hd : ds∈E) (hl : HasL K F ds xs) (h : SqL K F a xs) : SqL K (few K F E) a xs:=by
 rcases h with (h | ⟨o,h⟩) | h
 ·exact .inl (.inl (few_of h (.inr ⟨ds,hd,xs,.inl rfl,hl⟩)))
 ·exact .inl (.inr ⟨o,few_of h (.inr ⟨ds,hd,xs,.inr ⟨o,rfl⟩,hl⟩)⟩)
 ·exact .inr h
theorem few_sqT {a : Addr} {xs : List V} (h : SqT K F a xs) : SqT K (few K F E) a xs:=by
 rcases h with (h | ⟨o,h⟩) | h
 ·exact .inl (.inl (few_of h (.inl rfl)))
 ·exact .inl (.inr ⟨o,few_of h (.inl rfl)⟩)
 ·exact .inr h
mutual
theorem Has.few : ∀ {d : PyData} {v : V},(∀ es∈subl d,es∈E)→Has K F d v→Has K (few K F E) d v
 | .none,_,_,h=>h
 | .bool _,_,_,h=>h
 | .int _,_,_,h=>h
 | .str _,_,_,h=>h
 | .list ds,_,f,⟨a,xs,e,hq,hl⟩=>⟨a,xs,e,few_sqL (f ds (by simp [subl])) hl hq,HasL.few (fun es hes=>f es (by simp [subl,hes])) hl⟩
 | .tuple ds,_,f,⟨a,xs,e,hq,hl⟩=>⟨a,xs,e,few_sqT hq,HasL.few (fun es hes=>f es (by simpa [subl] using hes)) hl⟩
 | .dict _,_,_,h=>h
theorem HasL.few : ∀ {ds : List PyData} {vs : List V},(∀ es∈sublL ds,es∈E)→HasL K F ds vs→HasL K (few K F E) ds vs
 | [],_,_,h=>h
 | d :: ds,_,f,⟨v,r,h1,h2,h3⟩=>⟨v,r,h1,Has.few (fun es hes=>f es (by simp [sublL,hes])) h2,HasL.few (fun es hes=>f es (by simp [sublL,hes])) h3⟩
end
theorem ints_vals : ∀ {z : List Int} {xs : List V},HasL K F (z.map .int) xs→xs = z.map V.int
 | [],_,h=>h
 | i :: z,_,⟨v,r,h1,h2,h3⟩=>by
  have e : v = .int i:=h2
  rw [h1,e,ints_vals h3]; rfl
theorem int_data : ∀ {d : PyData} {i : Int},Has K F d (.int i)→d = .int i
 | .none,_,h=>by cases h
 | .bool _,_,h=>by cases h
 | .int j,i,h=>by have : V.int i = V.int j:=h; cases this; rfl
 | .str _,_,h=>by cases h.1
 | .list _,_,⟨_,_,e,_⟩=>by cases e
 | .tuple _,_,⟨_,_,e,_⟩=>by cases e
 | .dict _,_,h=>h.elim
end
noncomputable def mask : List Bool→GS→GS
 | b :: bs,s :: S=>(if b = true then s else none) :: mask bs S
 | [],s :: S=>none :: mask [] S
 | _,[]=>[]
theorem mask_len : ∀ (mk : List Bool) (S : GS),(mask mk S).length = S.length
 | b :: bs,s :: S=>by rw [mask,List.length_cons,List.length_cons,mask_len bs S]
 | [],s :: S=>by rw [mask,List.length_cons,List.length_cons,mask_len [] S]
 | [],[]=>rfl
 | _ :: _,[]=>rfl
theorem mask_get : ∀ {mk : List Bool} {S : GS} {k : Nat} {x : Tg × PyData},(mask mk S)[k]? = some (some x)→S[k]? = some (some x)∧mk[k]? = some true
 | b :: bs,s :: S,0,x,h=>by
  rw [mask,List.getElem?_cons_zero] at h
  split at h
  ·rename_i hb; rw [List.getElem?_cons_zero,List.getElem?_cons_zero,hb]; exact ⟨h,rfl⟩
  ·cases h
 | b :: bs,s :: S,k + 1,x,h=>by
  rw [mask,List.getElem?_cons_succ] at h
  rw [List.getElem?_cons_succ,List.getElem?_cons_succ]
  exact mask_get h
 | [],s :: S,0,x,h=>by rw [mask,List.getElem?_cons_zero] at h; cases h
 | [],s :: S,k + 1,x,h=>by
  rw [mask,List.getElem?_cons_succ] at h
  have:=(mask_get h).2
  cases this
 | [],[],_,x,h=>by cases h
 | _ :: _,[],_,x,h=>by cases h
noncomputable def allFr (S : GS) : Bool:=S.all fun s=>match s with
 | some (.fr,_)=>true
 | none=>true
 | _=>false
theorem allFr_get {S : GS} (h : allFr S = true) {k : Nat} {t : Tg} {d : PyData} (e : S[k]? = some (some (t,d))) : t = .fr:=by
 have:=List.all_eq_true.mp h _ (List.mem_of_getElem? e)
 cases t <;> simp at this ⊢
noncomputable def sublS : GS→List (List PyData)
 | []=>[]
 | some (_,d) :: S=>subl d ++ sublS S
 | none :: S=>sublS S
theorem sublS_get : ∀ {S : GS} {k : Nat} {t : Tg} {d : PyData},S[k]? = some (some (t,d))→∀ es∈subl d,es∈sublS S
 | some (t',d') :: S,0,t,d,e,es,h=>by cases e; rw [sublS]; exact List.mem_append.mpr (.inl h)
 | none :: S,0,t,d,e,es,h=>by cases e
 | some (t',d') :: S,k + 1,t,d,e,es,h=>by rw [sublS]; exact List.mem_append.mpr (.inr (sublS_get (by simpa using e) es h))
 | none :: S,k + 1,t,d,e,es,h=>by rw [sublS]; exact sublS_get (by simpa using e) es h
 | [],_,_,_,e,_,_=>by cases e
section
variable {K : PySem.W.Frag} {ioA : Nat→Option Addr} {G H₀ F H : Hp} {S : GS} {σ : St}
theorem VI.few (I : VI K ioA G H₀ S F σ H) {mk : List Bool} (hf : allFr (mask mk S) = true) : VI K (fun _=>none) (few K F (sublS (mask mk S))) H (mask mk S) (few K F (sublS (mask mk S))) σ H where
 len:=by rw [mask_len]; exact I.len
 same:=Same.refl _
 gf:=Same.refl _
 new:=fun _ _ e=>.inl e
 sub:=few_sub.trans I.sub
 slot:=fun k t d e=>by
  have ht:=allFr_get hf e
  subst ht
  obtain ⟨v,hv,hs⟩:=I.slot k .fr d (mask_get e).1
  exact ⟨v,hv,Has.few (fun es hes=>sublS_get e es hes) hs⟩
 inj:=fun i j t t' d d' v e1 _ n1=>(by rw [allFr_get hf e1] at n1; exact absurd n1 Bool.false_ne_true)
 pl:=fun _ _ _ e=>e
end
noncomputable def noLists (K : PySem.W.Frag) : Prop:=∀ a o,K.lookup a = some o→o.cls ≠ .type "list"
section
variable {X : Cx} {s : Stmt} {rest all : List Stmt} {g1 g2 gA g : VS} {T tT : TS} {mk keep : List Bool} {kill : GS→Option (List (List Int))}
theorem sMid (h1 : PS X s (tVS X.K g1)) (h2 : PSs X rest (tSeq (tVS X.K g2) T)) : PSs X (s :: rest) (tSeq (tVS X.K (gSeq g1 g2)) T):=PSs.imp (pss_cons h1 h2) fun D σ H q=>by
 obtain ⟨ioA,G,H₀,S,F,I,q⟩:=q
 refine ⟨ioA,G,H₀,S,F,I,?_⟩
 unfold gSeq at q
 cases e : g1 S with
 | fail=>rw [e] at q; exact q
 | nxt S1 =>
  rw [e] at q
  exact fun F' σ' H' I'=>⟨ioA,G,H₀,S1,F',I',q⟩
 | ret S1 b d=>rw [e] at q; exact q
 | brk S1=>rw [e] at q; exact q
 | cnt S1=>rw [e] at q; exact q
theorem sMid1 (h1 : PS X s (tVS X.K g1)) (h2 : PSs X rest T) : PSs X (s :: rest) (tSeq (tVS X.K g1) T):=pss_cons h1 h2
end
end VM
namespace VM
open PySem PySem.Spec PyProof.Rows L2
section
variable {K : PySem.W.Frag}
end
noncomputable def listCls : Value→Bool
 | .type s=>s == "list"
 | _=>false
noncomputable def noListsB (K : PySem.W.Frag) : Bool:=K.all fun p=>!listCls p.2.cls
theorem lookup_mem {a : Addr} {o : Obj} : ∀ {K : PySem.W.Frag},K.lookup a = some o→∃ b,(b,o)∈K
 | [],h=>by cases h
 | (b,u) :: K,h=>by
  rw [List.lookup_cons] at h
  split at h
  ·cases h; exact ⟨b,List.mem_cons_self⟩
  ·obtain ⟨c,hc⟩:=lookup_mem h; exact ⟨c,List.mem_cons_of_mem _ hc⟩
theorem noLists_of {K : PySem.W.Frag} (h : noListsB K = true) : noLists K:=fun a o e z=>by
 obtain ⟨b,hb⟩:=lookup_mem e
 have:=List.all_eq_true.mp h _ hb
 simp only [z,listCls] at this
 exact absurd this (by decide)
theorem seq3 {X : Cx} {l : List Stmt} {t u v : TS} (h : PSs X l (tSeq t (tSeq u v))) : PSs X l (tSeq (tSeq t u) v):=h
end VM
namespace VM
open PySem PySem.Spec PyProof.Rows L2
section
variable {K : PySem.W.Frag}
end
end VM
namespace VM
open PySem PySem.Spec PyProof.Rows L2
noncomputable def noTups (K : PySem.W.Frag) : Prop:=∀ a o its n,K.lookup a = some o→o.cls = .type "tuple"→o.data = .seq its n→its.size ≠ 4
mutual
noncomputable def t4 : PyData→Bool
 | .list ds=>t4L ds
 | .tuple ds=>ds.length == 4 && t4L ds
 | _=>true
noncomputable def t4L : List PyData→Bool
 | []=>true
 | d :: r=>t4 d && t4L r
end
section
variable {K : PySem.W.Frag} {H : Hp}
theorem sqL_fun (nl : noLists K) {a : Addr} {xs ys : List V} (h : SqL K H a xs) (h' : SqL K H a ys) : xs = ys:=by
 rcases h with (h | ⟨o,h⟩) | ⟨o,_,_,h1,h2,_⟩
 ·rcases h' with (h' | ⟨o',h'⟩) | ⟨o,_,_,h1,h2,_⟩
  ·rw [h] at h'; cases h'; rfl
  ·rw [h] at h'; cases h'
  ·exact absurd h2 (nl _ _ h1)
 ·rcases h' with (h' | ⟨o',h'⟩) | ⟨o,_,_,h1,h2,_⟩
  ·rw [h] at h'; cases h'
  ·rw [h] at h'; cases h'; rfl
  ·exact absurd h2 (nl _ _ h1)
 ·exact absurd h2 (nl _ _ h1)
theorem sqT_rd (nt : noTups K) {a : Addr} {xs : List V} (h4 : xs.length = 4) (h : SqT K H a xs) : Rd H a (.tup xs):=by
 rcases h with h | ⟨o,its,n,h1,h2,h3,_,h5⟩
 ·exact h
 ·refine absurd ?_ (nt a o its n h1 h2 h3)
  have:=h5.length
  rw [h4,Array.length_toList] at this
  omega
theorem sqT_fun (nt : noTups K) {a : Addr} {xs ys : List V} (h4 : xs.length = 4) (h4' : ys.length = 4) (h : SqT K H a xs) (h' : SqT K H a ys) : xs = ys:=by
 rcases sqT_rd nt h4 h with h | ⟨o,h⟩ <;> rcases sqT_rd nt h4' h' with h' | ⟨o',h'⟩ <;> rw [h] at h' <;> cases h'
 ·rfl
 ·rfl
theorem sqLT_no (nl : noLists K) (nt : noTups K) {a : Addr} {xs ys : List V} (h4 : ys.length = 4) (h : SqL K H a xs) (h' : SqT K H a ys) : False:=by
 rcases h with (h | ⟨o,h⟩) | ⟨o,_,_,h1,h2,_⟩
 ·rcases sqT_rd nt h4 h' with h' | ⟨o',h'⟩ <;> rw [h] at h' <;> cases h'
 ·rcases sqT_rd nt h4 h' with h' | ⟨o',h'⟩ <;> rw [h] at h' <;> cases h'
 ·exact absurd h2 (nl _ _ h1)
mutual
theorem has_fun (nl : noLists K) (nt : noTups K) : ∀ {d d' : PyData} {v : V},t4 d = true→t4 d' = true→Has K H d v→Has K H d' v→d = d'
 | .none,d',v,_,_,h,h'=>by
  have e : v = .non:=h
  subst e
  cases d' with
  | none=>rfl
  | bool b=>exact absurd (show V.non = .bl b from h') (by intro z; cases z)
  | int b=>exact absurd (show V.non = .int b from h') (by intro z; cases z)
  | str b=>exact absurd h'.1 (by intro z; cases z)
  | list ds=>obtain ⟨_,_,e,_⟩:=h'; cases e
  | tuple ds=>obtain ⟨_,_,e,_⟩:=h'; cases e
  | dict ds=>exact h'.elim
 | .bool b,d',v,_,_,h,h'=>by
  have e : v = .bl b:=h
  subst e
  cases d' with
  | none=>exact absurd (show V.bl b = .non from h') (by intro z; cases z)
  | bool c=>have : V.bl b = .bl c:=h'; cases this; rfl
  | int c=>exact absurd (show V.bl b = .int c from h') (by intro z; cases z)
  | str c=>exact absurd h'.1 (by intro z; cases z)
  | list ds=>obtain ⟨_,_,e,_⟩:=h'; cases e
  | tuple ds=>obtain ⟨_,_,e,_⟩:=h'; cases e
  | dict ds=>exact h'.elim
 | .int b,d',v,_,_,h,h'=>by
  have e : v = .int b:=h
  subst e
  exact (int_data h').symm
 | .str b,d',v,_,_,h,h'=>by
  have e : v = .str b:=h.1
  subst e
  cases d' with
  | none=>exact absurd (show V.str b = .non from h') (by intro z; cases z)
  | bool c=>exact absurd (show V.str b = .bl c from h') (by intro z; cases z)
  | int c=>exact absurd (show V.str b = .int c from h') (by intro z; cases z)
  | str c=>have:=h'.1; cases this; rfl
  | list ds=>obtain ⟨_,_,e,_⟩:=h'; cases e
  | tuple ds=>obtain ⟨_,_,e,_⟩:=h'; cases e
  | dict ds=>exact h'.elim
 | .list ds,d',v,f,f',⟨a,xs,e,hq,hl⟩,h'=>by
  subst e
  cases d' with
  | none=>exact absurd (show V.ref a = .non from h') (by intro z; cases z)
  | bool c=>exact absurd (show V.ref a = .bl c from h') (by intro z; cases z)
  | int c=>exact absurd (show V.ref a = .int c from h') (by intro z; cases z)
  | str c=>exact absurd h'.1 (by intro z; cases z)
  | list es =>
   obtain ⟨a',ys,e,hq',hl'⟩:=h'
   cases e
   have:=sqL_fun nl hq hq'
   subst this
   rw [hasL_fun nl nt (by simpa [t4] using f) (by simpa [t4] using f') hl hl']
  | tuple es =>
   obtain ⟨a',ys,e,hq',hl'⟩:=h'
   cases e
   simp only [t4,Bool.and_eq_true,beq_iff_eq] at f'
   exact (sqLT_no nl nt (by rw [← hl'.length]; exact f'.1) hq hq').elim
  | dict ds=>exact h'.elim
 | .tuple ds,d',v,f,f',⟨a,xs,e,hq,hl⟩,h'=>by
  simp only [t4,Bool.and_eq_true,beq_iff_eq] at f
  have l4 : xs.length = 4:=by rw [← hl.length]; exact f.1
  subst e
  cases d' with
  | none=>exact absurd (show V.ref a = .non from h') (by intro z; cases z)
  | bool c=>exact absurd (show V.ref a = .bl c from h') (by intro z; cases z)
  | int c=>exact absurd (show V.ref a = .int c from h') (by intro z; cases z)
  | str c=>exact absurd h'.1 (by intro z; cases z)
  | list es =>
   obtain ⟨a',ys,e,hq',hl'⟩:=h'
   cases e
   exact (sqLT_no nl nt l4 hq' hq).elim
  | tuple es =>
   obtain ⟨a',ys,e,hq',hl'⟩:=h'
   cases e
   simp only [t4,Bool.and_eq_true,beq_iff_eq] at f'
   have:=sqT_fun nt l4 (by rw [← hl'.length]; exact f'.1) hq hq'
   subst this
   rw [hasL_fun nl nt f.2 f'.2 hl hl']
  | dict ds=>exact h'.elim
 | .dict _,_,_,_,_,h,_=>h.elim
theorem hasL_fun (nl : noLists K) (nt : noTups K) : ∀ {ds ds' : List PyData} {vs : List V},t4L ds = true→t4L ds' = true→HasL K H ds vs→HasL K H ds' vs→ds = ds'
 | [],[],_,_,_,_,_=>rfl
 | [],_ :: _,_,_,_,h,⟨_,_,h1,_⟩=>by have h : _ = []:=h; rw [h] at h1; cases h1
 | _ :: _,[],_,_,_,⟨_,_,h1,_⟩,h=>by have h : _ = []:=h; rw [h] at h1; cases h1
 | d :: ds,d' :: ds',_,f,f',⟨v,r,h1,h2,h3⟩,⟨v',r',h1',h2',h3'⟩=>by
  simp only [t4L,Bool.and_eq_true] at f f'
  rw [h1] at h1'
  cases h1'
  rw [has_fun nl nt f.1 f'.1 h2 h2',hasL_fun nl nt f.2 f'.2 h3 h3']
end
end
theorem told_newD {K : PySem.W.Frag} {F H F2 H2 : Hp} {S2 : GS} {σ2 : St} {E : List (List PyData)} (nl : noLists K) (nt : noTups K) (fh : Same F H) (J : VI K (fun _=>none) (few K F E) H S2 F2 σ2 H2) {a : Addr} {xs : List V} {z : List PyData} (z4 : t4L z = true) (e4 : ∀ es∈E,t4L es = true) (hz : z ∉ E) (hq : SqL K F2 a xs) (hx : HasL K F2 z xs) :
  F2 a = some (.lst xs)∧H a = none:=by
 have no : ∀ o,isL o xs→few K F E a = some o→False:=fun o ho e=>by
  obtain ⟨_,hh⟩:=few_at e
  rcases hh with hh | ⟨es,hes,ys,hy,hl⟩
  ·rcases ho with rfl | ⟨x,rfl⟩ <;> cases hh
  ·have exy : xs = ys:=by
    rcases ho with rfl | ⟨x,rfl⟩ <;> rcases hy with hy | ⟨y,hy⟩ <;> cases hy <;> rfl
   rw [← exy] at hl
   exact hz (by rw [hasL_fun nl nt z4 (e4 es hes) (HasL.same J.sub hx) (HasL.same (fh.trans J.same) hl)]; exact hes)
 rcases hq with (h | ⟨o,h⟩) | ⟨o,its,n,h1,h2,_⟩
 ·refine ⟨h,?_⟩
  rcases J.new a _ h with w | w | w
  ·exact (no _ (.inl rfl) w).elim
  ·exact w
  ·cases w
 ·exact (no _ (.inr ⟨o,rfl⟩) (J.pl a o xs h)).elim
 ·exact absurd h2 (nl a o h1)
theorem back_to {K : PySem.W.Frag} {ioA : Nat→Option Addr} {G H₀ F H F2 H2 H3 : Hp} {S S2 : GS} {σ σ2 σ3 : St} {E : List (List PyData)} {keep : List Bool} {zs : List (List PyData)} (nl : noLists K) (nt : noTups K) (I : VI K ioA G H₀ S F σ H) (J : VI K (fun _=>none) (few K F E) H S2 F2 σ2 H2)
  (hf2 : allFr (mask keep S2) = true) (hz : ∀ z∈zs,t4L z = true∧z ∉ sublS (mask keep S2)) (e4 : ∀ es∈sublS (mask keep S2),zs ≠ []→t4L es = true) (hl : σ3.length = σ2.length) (hkeep : ∀ k : Nat,keep[k]? = some true→σ3[k]? = σ2[k]?) (hch : ∀ a,H3 a = H2 a∨(H a = none∧∀ o,F2 a = some o→∃ z∈zs,∃ xs,o = .lst xs∧HasL K F2 z xs)) :
  ∃ F3,VI K ioA G H₀ (mask keep S2) F3 σ3 H3:=by
 have inH2 : ∀ a o,H a = some o→H2 a = some o:=J.same
 have noZ : ∀ a o,H a = some o→H3 a = H2 a:=fun a o e=>by
  rcases hch a with w | w
  ·exact w
  ·rw [w.1] at e; cases e
 let F3 : Hp:=fun a=>match F a with
  | some o=>some o
  | none=>few K F2 (sublS (mask keep S2)) a
 have e3 : ∀ a,F3 a = match F a with | some o=>some o | none=>few K F2 (sublS (mask keep S2)) a:=fun _=>rfl
 have F3F : Same F F3:=fun a o e=>by rw [e3,e]
 have few3 : Same (few K F2 (sublS (mask keep S2))) F3:=fun a o e=>by
  rw [e3]
  cases eF : F a with
  | none=>exact e
  | some u =>
   have h1:=inH2 a u (I.sub a u eF)
   have h2:=J.sub a o (few_at e).1
   rw [h1] at h2
   exact h2
 have sub3 : Same F3 H3:=fun a o e=>by
  rw [e3] at e
  cases eF : F a with
  | some u =>
   rw [eF] at e
   cases e
   rw [noZ a _ (I.sub a _ eF)]
   exact inH2 a _ (I.sub a _ eF)
  | none =>
   rw [eF] at e
   obtain ⟨e2,hh⟩:=few_at e
   rcases hch a with w | w
   ·rw [w]; exact J.sub a o e2
   ·obtain ⟨z,hzm,xs,rfl,hx⟩:=w.2 o e2
    rcases hh with hh | ⟨es,hes,ys,hy,hl'⟩
    ·cases hh
    ·have exy : xs = ys:=by
      rcases hy with hy | ⟨y,hy⟩ <;> cases hy <;> rfl
     rw [← exy] at hl'
     exact absurd (by rw [hasL_fun nl nt (hz z hzm).1 (e4 es hes (List.ne_nil_of_mem hzm)) hx hl']; exact hes) (hz z hzm).2
 refine ⟨F3,⟨?_,?_,I.gf.trans F3F,fun a o e=>?_,sub3,fun k t d e=>?_,fun i j t t' d d' v e1 _ n1=>(by rw [allFr_get hf2 e1] at n1; exact absurd n1 Bool.false_ne_true),fun a x u e=>?_⟩⟩
 ·rw [mask_len,hl]; exact J.len
 ·intro a o e
  have:=I.same a o e
  rw [noZ a o this]
  exact inH2 a o this
 ·rw [e3] at e
  cases eF : F a with
  | some u=>rw [eF] at e; cases e; exact I.new a _ eF
  | none =>
   rw [eF] at e
   rcases J.new a o (few_at e).1 with w | w | w
   ·rw [(few_at w).1] at eF; cases eF
   ·exact .inr (.inl (I.same.free w))
   ·exact .inr (.inr w)
 ·have ht:=allFr_get hf2 e
  subst ht
  obtain ⟨v,hv,hs⟩:=J.slot k .fr d (mask_get e).1
  exact ⟨v,by rw [hkeep k (mask_get e).2]; exact hv,Has.same few3 (Has.few (fun es hes=>sublS_get e es hes) hs)⟩
 ·rw [e3] at e
  cases eF : F a with
  | some w=>rw [eF] at e; cases e; exact I.pl a _ _ eF
  | none =>
   rw [eF] at e
   have:=J.pl a x u (few_at e).1
   rw [(few_at this).1] at eF
   cases eF
theorem mask_none (S : GS) : mask [] S = S.map fun _=>none:=by
 induction S with
 | nil=>rfl
 | cons s S ih=>rw [mask,List.map_cons,ih]
theorem mask_nil_fr (S : GS) : allFr (mask [] S) = true:=by
 rw [mask_none]
 unfold allFr
 rw [List.all_eq_true]
 intro s hs
 obtain ⟨_,_,rfl⟩:=List.mem_map.mp hs
 rfl
open Classical in
noncomputable def gTrashD (mk : List Bool) (gA : VS) (kill : GS→Option (List (List PyData))) (keep : List Bool) (g : VS) : VS:=fun S =>
 if allFr (mask mk S) = true then match gA (mask mk S) with
  | .nxt S2=>match kill S2 with
   | some zs=>if allFr (mask keep S2) = true∧(∀ z∈zs,t4L z = true∧z ∉ sublS (mask mk S)∧z ∉ sublS (mask keep S2))∧(∀ es∈sublS (mask mk S),t4L es = true)∧(∀ es∈sublS (mask keep S2),t4L es = true) then g (mask keep S2) else .fail
   | none=>.fail
  | .ret S2 false (.bool b)=>.ret (mask [] S2) false (.bool b)
  | _=>.fail
 else .fail
noncomputable def KillsD (K : PySem.W.Frag) (kill : GS→Option (List (List PyData))) (keep : List Bool) (tT : TS) : Prop :=
 ∀ (Fs Hc F2 : Hp) (S2 : GS) (σ2 : St) (H2 : Hp) (zs : List (List PyData)) (D : Ends),VI K (fun _=>none) Fs Hc S2 F2 σ2 H2→kill S2 = some zs →
  (∀ a xs z,z∈zs→SqL K F2 a xs→HasL K F2 z xs→F2 a = some (.lst xs)∧Hc a = none) →
  (∀ (σ3 : St) (H3 : Hp),σ3.length = σ2.length→(∀ k : Nat,keep[k]? = some true→σ3[k]? = σ2[k]?)→(∀ a,H3 a = H2 a∨(Hc a = none∧∀ o,F2 a = some o→∃ z∈zs,∃ xs,o = .lst xs∧HasL K F2 z xs))→D.nx σ3 H3)→tT D σ2 H2
section
variable {X : Cx} {s : Stmt} {rest all : List Stmt} {g1 g2 gA g : VS} {T tT : TS} {mk keep : List Bool} {kill : GS→Option (List (List PyData))}
theorem sTrashD (nl : noLists X.K) (nt : noTups X.K) (h : PSs X all (tSeq (tVS X.K gA) (tSeq tT (tVS X.K g)))) (hk : KillsD X.K kill keep tT) : PSs X all (tVS X.K (gTrashD mk gA kill keep g)):=PSs.imp h fun D σ H q=>by
 obtain ⟨ioA,G,H₀,S,F,I,q⟩:=q
 unfold gTrashD at q
 split at q
 ·rename_i hf
  split at q
  ·rename_i S2 eA
   split at q
   ·rename_i zs ek
    split at q
    ·rename_i hc
     obtain ⟨hf2,hz,e4,e4'⟩:=hc
     refine ⟨fun _=>none,few X.K F (sublS (mask mk S)),H,mask mk S,few X.K F (sublS (mask mk S)),I.few hf,?_⟩
     rw [eA]
     intro F2 σ2 H2 J
     refine hk _ _ F2 S2 σ2 H2 zs _ J ek (fun a xs z hzm hq hx=>told_newD nl nt I.sub J (hz z hzm).1 e4 (hz z hzm).2.1 hq hx) fun σ3 H3 hl hkeep hch=>?_
     obtain ⟨F3,V3⟩:=back_to nl nt I J hf2 (fun z hzm=>⟨(hz z hzm).1,(hz z hzm).2.2⟩) (fun es h _=>e4' es h) hl hkeep hch
     exact ⟨ioA,G,H₀,mask keep S2,F3,V3,q⟩
    ·exact q.elim
   ·exact q.elim
  ·rename_i S2 b eA
   refine ⟨fun _=>none,few X.K F (sublS (mask mk S)),H,mask mk S,few X.K F (sublS (mask mk S)),I.few hf,?_⟩
   rw [eA]
   intro v F2 σ2 H2 J r
   have r' : v = .bl b:=r
   obtain ⟨F3,V3⟩:=back_to (keep:=[]) (zs:=[]) (σ3:=σ2) (H3:=H2) nl nt I J (mask_nil_fr _) (fun _ h=>nomatch h) (fun _ _ h=>absurd rfl h) rfl (fun k h=>by simp at h) (fun _=>.inl rfl)
   exact q v F3 σ2 H2 V3 r'
  ·exact q.elim
 ·exact q.elim
end
section
variable {K : PySem.W.Frag}
noncomputable def kill51 (it : Nat) : GS→Option (List (List PyData)):=fun S=>match S[it]? with
 | some (some (.fr,.tuple [_,.list ws,.list ms]))=>if ws.length < 1000000∧ms.length < 1000000 then some [ws,ms] else none
 | _=>none
noncomputable def tKill51 (K : PySem.W.Frag) (it : Nat) : TS:=tSeq
 (tDrop (tBM0 K "list" rClrM (tOp (rIxTM K) (vR it) (tC (.int 1)))))
 (tDrop (tBM0 K "list" rClrM (tOp (rIxTM K) (vR it) (tC (.int 2)))))
theorem kills51 {it : Nat} {keep : List Bool} : KillsD K (kill51 it) keep (tKill51 K it):=by
 intro Fs Hc F2 S2 σ2 H2 zs D J ek new fin
 unfold kill51 at ek
 split at ek
 ·rename_i d0 ws ms eS
  split at ek
  ·rename_i hz
   cases ek
   obtain ⟨v,hv,p,xs,rfl,hT,hX⟩:=J.slot it .fr _ eS
   obtain ⟨x0,r0,rfl,_,hX⟩:=hX
   obtain ⟨x1,r1,rfl,h1,hX⟩:=hX
   obtain ⟨x2,r2,rfl,h2,hX⟩:=hX
   have hX' : r2 = []:=hX
   subst hX'
   obtain ⟨p1,ys,rfl,hq1,hy⟩:=h1
   obtain ⟨p2,us,rfl,hq2,hu⟩:=h2
   have hp1:=new p1 ys ws List.mem_cons_self hq1 hy
   have hp2:=new p2 us ms (List.mem_cons_of_mem _ List.mem_cons_self) hq2 hu
   have keepT : ∀ {H' : Hp} {t : Addr} {l : List V},(∀ a,H' a = H2 a∨∃ xs,F2 a = some (.lst xs))→SqT K F2 t l→SqT K H' t l:=fun {H' t l} hc h=>by
    rcases h with (h | ⟨o,h⟩) | h
    ·rcases hc t with w | ⟨xs,w⟩
     ·exact .inl (.inl (by rw [w]; exact J.sub _ _ h))
     ·rw [h] at w; cases w
    ·rcases hc t with w | ⟨xs,w⟩
     ·exact .inl (.inr ⟨o,by rw [w]; exact J.sub _ _ h⟩)
     ·rw [h] at w; cases w
    ·exact .inr h
   unfold tKill51 tSeq
   simp only [tDrop,tBM0,tOp,tC]
   refine vR_at (v:=.ref p) hv ⟨_,.ref p1,keepT (fun b=>.inl rfl) hT,rfl,?_⟩
   refine ⟨.inl ⟨rfl,ys,SqL.of (J.sub _ _ hp1.1)⟩,ys,J.sub _ _ hp1.1,?_⟩
   have c1 : ∀ b,upd H2 p1 (.lst []) b = H2 b∨∃ xs,F2 b = some (.lst xs):=fun b=>by
    by_cases hb : b = p1
    ·subst hb; exact .inr ⟨ys,hp1.1⟩
    ·rw [upd_ne hb]; exact .inl rfl
   refine vR_at (v:=.ref p) hv ⟨_,.ref p2,keepT c1 hT,rfl,?_⟩
   have hH : ∃ q,upd H2 p1 (.lst []) p2 = some (.lst q):=by
    by_cases hb : p2 = p1
    ·rw [hb]; exact ⟨[],upd_same⟩
    ·rw [upd_ne hb]; exact ⟨us,J.sub _ _ hp2.1⟩
   obtain ⟨q,hq⟩:=hH
   refine ⟨.inl ⟨rfl,q,SqL.of hq⟩,q,hq,?_⟩
   refine fin σ2 _ rfl (fun k hk=>rfl) fun b=>?_
   by_cases hb' : b = p2
   ·subst hb'
    exact .inr ⟨hp2.2,fun o ho=>⟨ms,by simp,us,by rw [hp2.1] at ho; cases ho; rfl,hu⟩⟩
   ·rw [upd_ne hb']
    by_cases hb : b = p1
    ·subst hb
     exact .inr ⟨hp1.2,fun o ho=>⟨ws,by simp,ys,by rw [hp1.1] at ho; cases ho; rfl,hy⟩⟩
    ·rw [upd_ne hb]; exact .inl rfl
  ·cases ek
 ·cases ek
end
noncomputable def tupCls : Value→Bool
 | .type s=>s == "tuple"
 | _=>false
noncomputable def noTupsB (K : PySem.W.Frag) : Bool:=K.all fun p=>!tupCls p.2.cls || (match p.2.data with | .seq its _=>!(Nat.beq its.size 4) | _=>false)
theorem noTups_of {K : PySem.W.Frag} (h : noTupsB K = true) : noTups K:=fun a o its n e z e2 e4=>by
 obtain ⟨b,hb⟩:=lookup_mem e
 have:=List.all_eq_true.mp h _ hb
 simp only [z,tupCls,e2,e4] at this
 exact absurd this (by decide)
end VM
namespace Pg
open PySem L2 VM
noncomputable def g_left_behind : VS :=
 (gSeq (gOw 2 (vLst a0))
 (gSeq (gFor (vZip (aC (vF 0) (aC (vF 1) a0))) (gT 2 (gC (gN 3) (gC (gN 4) g0)))
 (gSeq (gApp 2 (aC (v2 subD (v2 ixDt (vN 3) (vC (.int 2))) (vN 4)) a0))
 (gApp 2 (aC (vF 4) a0))))
 (gRetO 2)))
noncomputable def m_left_behind : FnM:=fnM 2 5 g_left_behind
noncomputable def g_is_nearer : VS :=
 (gSeq (gIf (tOr2 (vB (v2 isD (vN 2) (vC .none))) (vB (v2 ltD (vN 0) (v2 ixDt (vN 2) (vC (.int 0))))))
 (gRet (vC (.bool true)))
 gNop)
 (gRet (vAnd (v2 eqD (vN 0) (v2 ixDt (vN 2) (vC (.int 0)))) (v2 ltD (vN 1) (v2 ixDt (vN 2) (vC (.int 1)))))))
noncomputable def m_is_nearer : FnM:=fnM 3 3 g_is_nearer
noncomputable def g_reach : VS :=
 (gSeq (gOw 3 (v2 repD (vLst (aC (vC .none) a0)) (vCB lenD (aC (vN 0) a0))))
 (gSeq (gPut 3 (vN 2) (vTup (aC (vC (.int 0)) (aC (vC (.int 0)) (aC (vC .none) (aC (vC .none) a0))))))
 (gSeq (gOw 4 (v2 repD (vLst (aC (vC (.bool false)) a0)) (vCB lenD (aC (vN 0) a0))))
 (gSeq (gOw 5 (vLst (aC (vF 2) a0)))
 (gSeq (gAs (vC (.int 0)) (gN 6))
 (gSeq (gWh (vB (v2 ltD (vN 6) (vCB lenD (aC (vN 5) a0))))
 (gSeq (gAs (v2 ixDt (vN 5) (vN 6)) (gN 7))
 (gSeq (gAug addD 6 (vC (.int 1)))
 (gSeq (gPut 4 (vN 7) (vC (.bool false)))
 (gSeq (gAs (v2 ixDt (v2 ixDt (vN 3) (vN 7)) (vC (.int 0))) (gN 8))
 (gSeq (gAs (v2 addD (v2 ixDt (v2 ixDt (vN 3) (vN 7)) (vC (.int 1))) (vC (.int 1))) (gN 9))
 (gFor (vItems (v2 ixDt (vN 0) (vN 7))) (gT 3 (gC (gN 10) (gC (gN 11) (gC (gN 12) g0))))
 (gIf (tAnd2 (vB (v2 gtD (v2 ixDt (vN 1) (vN 10)) (vC (.int 0)))) (vB (vCall m_is_nearer (aC (v2 addD (vN 8) (vN 12)) (aC (vF 9) (aC (v2 ixDt (vN 3) (vN 11)) a0))))))
 (gSeq (gPut 3 (vN 11) (vTup (aC (v2 addD (vN 8) (vN 12)) (aC (vF 9) (aC (vF 10) (aC (vF 7) a0))))))
 (gIf (tNot2 (vB (v2 ixDt (vN 4) (vN 11))))
 (gSeq (gPut 4 (vN 11) (vC (.bool true)))
 (gApp 5 (aC (vF 11) a0)))
 gNop))
 gNop))))))))
 (gRetO 3)))))))
noncomputable def m_reach : FnM:=fnM 3 13 g_reach
noncomputable def g_push : VS :=
 (gSeq (gAs (vCB minD (aC (vLCW (vItems (vF 1)) [none, some 0] (gN 0) cTrue (v2 ixDt (vN 1) (vN 0))) a0)) (gN 2))
 (gSeq (gFor (vItems (vF 1)) (gN 3)
 (gSeq (gAugI subD 0 (vN 3) (vF 2))
 (gAugI addD 0 (v2 xorD (vN 3) (vC (.int 1))) (vF 2))))
 (gRetO 2)))
noncomputable def m_push : FnIO:=fnIO 2 4 0 g_push
noncomputable def g_way_to : VS :=
 (gSeq (gOw 3 (vLst a0))
 (gSeq (gAs (vF 2) (gN 4))
 (gSeq (gWh (vB (v2 neD (vN 4) (vN 1)))
 (gSeq (gApp 3 (aC (v2 ixDt (v2 ixDt (vN 0) (vN 4)) (vC (.int 2))) a0))
 (gAs (v2 ixDt (v2 ixDt (vN 0) (vN 4)) (vC (.int 3))) (gN 4))))
 (gRetO 3))))
noncomputable def m_way_to : FnM:=fnM 3 5 g_way_to
noncomputable def g_push_all : VS :=
 (gSeq (gOw 5 (vLst a0))
 (gWh (vB (vC (.bool true)))
 (gSeq (gAs (vCallW m_reach (aC (vN 0) (aC (vN 1) (aC (vN 2) a0)))) (gN 6))
 (gSeq (gIf (vB (v2 isD (v2 ixDt (vN 6) (vN 3)) (vC .none)))
 (gRetO 5)
 gNop)
 (gSeq (gAs (v2 ixDt (v2 ixDt (vN 6) (vN 3)) (vC (.int 0))) (gN 7))
 (gSeq (gIf (tAnd2 (vB (v2 isnD (vN 4) (vC .none))) (vB (v2 gtD (vN 7) (vN 4))))
 (gRetO 5)
 gNop)
 (gSeq (gIoAs m_push 1 (ioN (ioC (vCall m_way_to (aC (vF 6) (aC (vF 2) (aC (vF 3) a0)))) ioO)) 8)
 (gIf (tAnd2 (vTru (vN 5)) (vB (v2 eqD (v2 ixDt (v2 ixDt (vN 5) (v1 negD (vC (.int 1)))) (vC (.int 0))) (vN 7))))
 (gPut 5 (v1 negD (vC (.int 1))) (vTup (aC (vF 7) (aC (v2 addD (v2 ixDt (v2 ixDt (vN 5) (v1 negD (vC (.int 1)))) (vC (.int 1))) (vN 8)) a0))))
 (gApp 5 (aC (vTup (aC (vF 7) (aC (vF 8) a0))) a0))))))))))
noncomputable def m_push_all : FnIO:=fnIO 5 9 1 g_push_all
noncomputable def g_steps_of : VS :=
 (gSeq (gOw 4 (vCallN m_left_behind (aC (vF 1) (aC (v2 repD (vLst (aC (vC (.int 0)) a0)) (vCB lenD (aC (vN 1) a0))) a0))))
 (gIoRet m_push_all 4 (ioC (vCall VM.m_moves_of (aC (vF 0) (aC (vF 1) a0))) (ioN (ioC (vF 2) (ioC (vF 3) (ioC (vC .none) ioO)))))))
noncomputable def m_steps_of : FnM:=fnM 4 5 g_steps_of
noncomputable def g_best_flow : VS :=
 (gSeq (gOw 5 (vCallN m_left_behind (aC (vF 1) (aC (v2 repD (vLst (aC (vC (.int 0)) a0)) (vCB lenD (aC (vN 1) a0))) a0))))
 (gSeq (gIoEx m_push_all 5 (ioC (vCall VM.m_moves_of (aC (vF 0) (aC (vF 1) a0))) (ioN (ioC (vF 2) (ioC (vF 3) (ioC (vF 4) ioO))))))
 (gRetN (vLCW (vRng1 (aC (vCB lenD (aC (vN 1) a0)) a0)) [none, some 5] (gN 0) cTrue (v2 ixDt (vN 1) (v2 addD (v2 mulD (vC (.int 2)) (vN 0)) (vC (.int 1))))))))
noncomputable def m_best_flow : FnM:=fnM 5 6 g_best_flow
noncomputable def g_length_of : VS :=
 (gRet (vCB sumD (aC (vLC (vItems (vF 1)) [none, some 0] (gN 0) cTrue (v2 ixDt (v2 ixDt (vN 1) (vN 0)) (vC (.int 3)))) a0)))
noncomputable def m_length_of : FnM:=fnM 2 2 g_length_of
noncomputable def g_passage_on : VS :=
 (gSeq (gFor (vEnum (aC (vF 0) a0)) (gT 2 (gC (gN 3) (gC (gN 4) g0)))
 (gIf (tAnd2 (vB (v2 eqD (v2 ixDt (vN 4) (vC (.int 0))) (vN 1))) (vB (v2 gtD (v2 ixDt (vN 2) (vN 3)) (vC (.int 0)))))
 (gRetO 3)
 gNop))
 (gRet (vC .none)))
noncomputable def m_passage_on : FnM:=fnM 3 5 g_passage_on
noncomputable def g_walk_along : VS :=
 (gSeq (gOw 4 (vLst a0))
 (gSeq (gAs (vF 1) (gN 5))
 (gSeq (gWh (vB (v2 neD (vN 5) (vN 2)))
 (gSeq (gAs (vCall m_passage_on (aC (vF 0) (aC (vF 5) (aC (vF 3) a0)))) (gN 6))
 (gSeq (gIf (vB (v2 isD (vN 6) (vC .none)))
 (gRetN (vLst a0))
 gNop)
 (gSeq (gApp 4 (aC (vF 6) a0))
 (gAs (v2 ixDt (v2 ixDt (vN 0) (vN 6)) (vC (.int 1))) (gN 5))))))
 (gRetO 4))))
noncomputable def m_walk_along : FnM:=fnM 4 7 g_walk_along
noncomputable def g_walks_of : VS :=
 (gSeq (gOw 4 (vListOf (vN 3)))
 (gSeq (gOw 5 (vLst a0))
 (gWh (vB (vC (.bool true)))
 (gSeq (gAs (vCallW m_walk_along (aC (vN 0) (aC (vN 1) (aC (vN 2) (aC (vN 4) a0))))) (gN 6))
 (gSeq (gIf (tNot2 (vTru (vN 6)))
 (gRetO 5)
 gNop)
 (gSeq (gAs (vCB minD (aC (vLCW (vItems (vF 6)) [none, some 4] (gN 0) cTrue (v2 ixDt (vN 1) (vN 0))) a0)) (gN 7))
 (gSeq (gFor (vItems (vF 6)) (gN 8)
 (gAugI subD 4 (vN 8) (vF 7)))
 (gApp 5 (aC (vTup (aC (vF 6) (aC (vF 7) a0))) a0)))))))))
noncomputable def m_walks_of : FnM:=fnM 4 9 g_walks_of
noncomputable def g_moments_of : VS :=
 (gSeq (gAs (v2 addD (vN 4) (vC (.int 1))) (gN 6))
 (gSeq (gAs (v2 catD (vN 1) (vLst (aC (vTup (aC (vF 2) (aC (vF 3) (aC (vC (.int 1)) (aC (vF 6) a0))))) a0))) (gN 7))
 (gSeq (gAs (vCall m_left_behind (aC (vF 7) (aC (v2 catD (vN 5) (vLst (aC (vC (.int 0)) a0))) a0))) (gN 8))
 (gSeq (gAs (vCall m_reach (aC (vCall VM.m_moves_of (aC (vF 0) (aC (vF 7) a0))) (aC (vF 8) (aC (vF 2) a0)))) (gN 9))
 (gRetN (vLC (vItems (vF 9)) [none, some 6] (gN 0) cTrue (vIf (vB (v2 isD (vN 0) (vC .none))) (vF 1) (vCB min2D (aC (v2 ixDt (vN 0) (vC (.int 0))) (aC (vN 1) a0))))))))))
noncomputable def m_moments_of : FnM:=fnM 6 10 g_moments_of
noncomputable def g_out_within : VS :=
 (gSeq (gAs (vCall m_best_flow (aC (vF 0) (aC (vF 1) (aC (vF 2) (aC (vF 3) (aC (vF 4) a0)))))) (gN 5))
 (gSeq (gAs (vCall m_walks_of (aC (vF 1) (aC (vF 2) (aC (vF 3) (aC (vF 5) a0))))) (gN 6))
 (gSeq (gAs (vCB sumD (aC (vLC (vItems (vF 6)) [none, none, some 4, some 1] (gT 2 (gC (gN 0) (gC (gN 1) g0))) cTrue (v2 mulD (vN 1) (v2 addD (v2 subD (vN 2) (vCall m_length_of (aC (vF 3) (aC (vF 0) a0)))) (vC (.int 1))))) a0)) (gN 7))
 (gRet (vTup (aC (vF 7) (aC (vF 6) (aC (vCall m_moments_of (aC (vF 0) (aC (vF 1) (aC (vF 2) (aC (vF 3) (aC (vF 4) (aC (vF 5) a0))))))) a0))))))))
noncomputable def m_out_within : FnM:=fnM 5 8 g_out_within
end Pg
namespace Pg
open PySem L2 VM
noncomputable def g_turns_by : VS :=
 (gSeq (gAs (vC (.int 0)) (gN 2))
 (gSeq (gAs (vC (.int 0)) (gN 3))
 (gSeq (gOw 4 (vLst a0))
 (gSeq (gFor (vItems (vF 0)) (gT 2 (gC (gN 5) (gC (gN 6) g0)))
 (gSeq (gAug addD 2 (vF 6))
 (gSeq (gAug addD 3 (v2 mulD (vN 6) (vN 5)))
 (gApp 4 (aC (v2 divD (v2 subD (v2 addD (vN 1) (vN 3)) (vC (.int 1))) (vN 2)) a0)))))
 (gRet (vCB minD (aC (vN 4) a0)))))))
noncomputable def m_turns_by : FnM:=fnM 2 7 g_turns_by
noncomputable def g_plan_for : VS :=
 (gSeq (gOw 4 (vLst a0))
 (gSeq (gAs (vF 3) (gN 5))
 (gSeq (gFor (vItems (vF 1)) (gT 2 (gC (gN 6) (gC (gN 7) g0)))
 (gSeq (gAs (v2 addD (v2 subD (vN 2) (vCall m_length_of (aC (vF 0) (aC (vF 6) a0)))) (vC (.int 1))) (gN 8))
 (gSeq (gAs (vCB min2D (aC (vN 8) (aC (v2 divD (vN 5) (vN 7)) a0))) (gN 9))
 (gSeq (gIf (vB (v2 gtD (vN 9) (vC (.int 0))))
 (gSeq (gApp 4 (aC (vTup (aC (vF 6) (aC (vF 7) (aC (vC (.int 0)) (aC (v2 subD (vN 9) (vC (.int 1))) a0))))) a0))
 (gAug subD 5 (v2 mulD (vN 7) (vN 9))))
 gNop)
 (gIf (tAnd2 (vB (v2 ltD (vN 9) (vN 8))) (vB (v2 gtD (vN 5) (vC (.int 0)))))
 (gSeq (gApp 4 (aC (vTup (aC (vListOf (vN 6)) (aC (vF 5) (aC (vF 9) (aC (vF 9) a0))))) a0))
 (gAs (vC (.int 0)) (gN 5)))
 gNop)))))
 (gRetO 4))))
noncomputable def m_plan_for : FnM:=fnM 4 10 g_plan_for
noncomputable def g_fewest_turns : VS :=
 (gSeq (gAs (vCall m_steps_of (aC (vF 0) (aC (vF 1) (aC (vF 2) (aC (vF 3) a0))))) (gN 5))
 (gSeq (gIf (tNot2 (vTru (vN 5)))
 (gRet (vC .none))
 gNop)
 (gSeq (gAs (vCall m_turns_by (aC (vF 5) (aC (vF 4) a0))) (gN 6))
 (gSeq (gAs (vCall m_best_flow (aC (vF 0) (aC (vF 1) (aC (vF 2) (aC (vF 3) (aC (vF 6) a0)))))) (gN 7))
 (gSeq (gAs (vCall m_plan_for (aC (vF 1) (aC (vCall m_walks_of (aC (vF 1) (aC (vF 2) (aC (vF 3) (aC (vF 7) a0))))) (aC (vF 6) (aC (vF 4) a0))))) (gN 8))
 (gRet (vTup (aC (vF 6) (aC (vF 8) (aC (vCall m_moments_of (aC (vF 0) (aC (vF 1) (aC (vF 2) (aC (vF 3) (aC (v2 subD (vN 6) (vC (.int 1))) (aC (vF 7) a0))))))) a0))))))))))
noncomputable def m_fewest_turns : FnM:=fnM 5 9 g_fewest_turns
end Pg
set_option hygiene false in
local macro_rules | `(tactic| walk_at "e0")=>`(tactic| (try simp only [fnM_eq,ob_some,ob_none,bFn_r,bFn_n,ini,gSeq_eq,bSeq_n,bSeq_r,bSeq_b,bSeq_c,gIf_eq,bIf_t,bIf_f,tAnd_eq,bAnd_t,bAnd_f,tOr_eq,bOr_t,bOr_f,tNot2,vAnd_eq,bAndE_t,bAndE_f,vOr_eq,bOrE_t,bOrE_f,vIf_eq,bIfE_t,bIfE_f,v2_eq,b2_s,b1_s,v1_eq,aC_eq,bC_s,bC1_s,a0,gAs_eq,bAs_s,bNx_s,gC_eq,bG_s,g0,vCall_eq,bCall_s,vCallN_eq,bCallN_s,vCallW_eq,bCallW_s,bResW_s,vCallWN_eq,bCallWN_s,bResWN_s,bIm_t,vImm_eq,bImm_s,bRes_s,bResN_s,vCh_eq,bCh_t,bCh_f,atI_0,atI_1,atI_2,atI_3,gFor_eq,bFor_s,gRet,gRetN,gRetO,gEx,gN,gT,gOw_eq,gOwF_eq,bOw_s,vLC_eq,vLCW_eq,bL_s,gFz,frz,gApp,gPut,gAug,gAugI,gNop,gFail,gClr,gPop,ownL,noIo_eq,nio_ob,nio_n,nio_fr,nio_ow,vN,vF,vC,vB,vTru,truD,vNot,imm,immL,ixDt,oN,oI,vSlL,vSlT,vRev,negD,vTup,vLst,vCB,lenD,absD,min2D,max2D,int1D,vIsi,isi_list,isi_int,isi_bool_i,isi_tuple,vListOf,immR,vItems,vItemsT,vRng1,vRng2,vEnum,vZip,capFr,capG,capOne,cTrue,addD_i,subD_i,ltD_i,leD_i,gtD_i,geD_i,xorD_i,eqD_i,neD_i,Int.reduceToNat,Int.reducePow,isD_n,isnD_n,isNoneD,List.length_cons,List.length_nil,List.map_cons,List.map_nil,List.replicate,List.cons_append,List.nil_append,List.append_nil,List.getElem?_cons_zero,List.getElem?_cons_succ,List.set_cons_zero,List.set_cons_succ,Nat.reduceAdd,Nat.reduceSub,Nat.reduceLeDiff,Nat.reduceEqDiff,Bool.and_true,Bool.true_and,Bool.not_true,Bool.not_false,Bool.false_eq_true,↓reduceIte,if_true,if_false]))
namespace PM
open PySem L2 VM Sp
noncomputable def toPq (p : Pas) : Pq:=((p.a : Int),(p.b : Int),p.w,p.l)
noncomputable def hD (ps : List Pas) : PyData:=psD (ps.map toPq)
noncomputable def natD (v : Nat) : PyData:=.int v
noncomputable def frA : Option (Nat × Nat)→PyData
 | none=>.none
 | some (m,_)=>.int m
noncomputable def frB : Option (Nat × Nat)→PyData
 | none=>.none
 | some (_,u)=>.int u
noncomputable def lbD : Option Lb→PyData
 | none=>.none
 | some l=>.tuple [.int l.d,.int l.c,frA l.fr,frB l.fr]
theorem lbD_some (l : Lb) : lbD (some l) = .tuple [.int l.d,.int l.c,frA l.fr,frB l.fr]:=rfl
noncomputable def mvM (m : Mv) : PyData:=mvD m.1 m.2.1 m.2.2
noncomputable def lf (L : List Int) : Lf:=fun i=>L.getD i 0
theorem mvs_out (ps : List Pas) (u : Nat) : ∀ k,mvsF k (ps.map toPq) (u : Int) = (outFrom k ps u).map mvM:=by
 induction ps with
 | nil=>intro k; rfl
 | cons q r ih =>
  intro k
  rw [List.map_cons,mvsF,outFrom,List.map_append,List.map_append,ih (k + 1)]
  have ea : ((toPq q).1 = (u : Int)) ↔ (q.a = u):=by show ((q.a : Int) = (u : Int)) ↔ _; omega
  have eb : ((toPq q).2.1 = (u : Int)) ↔ (q.b = u):=by show ((q.b : Int) = (u : Int)) ↔ _; omega
  congr 1
  ·by_cases h : q.a = u
   ·rw [if_pos (ea.mpr h),if_pos h]
    simp [mvM,toPq]
   ·rw [if_neg (fun z=>h (ea.mp z)),if_neg h]; rfl
  ·congr 1
   by_cases h : q.b = u
   ·rw [if_pos (eb.mpr h),if_pos h]
    simp [mvM,toPq]
   ·rw [if_neg (fun z=>h (eb.mp z)),if_neg h]; rfl
theorem moves_at (ps : List Pas) {n u : Nat} (h : u < n) : movesD (ps.map toPq) n = .list ((List.range n).map fun (u : Nat)=>.list ((outOf ps u).map mvM))∧atI ((List.range n).map fun (u : Nat)=>PyData.list ((outOf ps u).map mvM)) (u : Int) = some (.list ((outOf ps u).map mvM)):=by
 constructor
 ·unfold movesD
  congr 1
  exact List.map_congr_left fun u _=>by rw [mvs_out]; rfl
 ·exact atI_of _ (List.getElem?_range h)
theorem e_near (d : Int) (c : Nat) (o : Option Lb) : Pg.m_is_nearer [.int d,.int c,lbD o] = some (false,.bool (near d c o)):=by
 unfold Pg.m_is_nearer Pg.g_is_nearer
 cases o with
 | none=>unfold lbD; walk_at "e0"; rfl
 | some l =>
  unfold lbD
  walk_at "e0"
  by_cases h : d < l.d
  ·simp only [h,decide_true]; walk_at "e0"; simp [near,h]
  ·simp only [h,decide_false]
   walk_at "e0"
   by_cases h2 : d = l.d
   ·simp only [h2,decide_true]; walk_at "e0"; simp [near]
   ·simp only [h2,decide_false]; walk_at "e0"; simp [near,h,h2]
noncomputable def SR (mv lv : PyData) (st : Nat) (s : RS) (a b c d e f : Option PyData) : GS :=
 [some (.fr,mv),some (.fr,lv),some (.fr,.int st),some (.ow,.list (s.lab.map lbD)),some (.ow,.list (s.wait.map .bool)),some (.ow,.list (s.queue.map natD)),some (.fr,.int s.place),ob a,ob b,ob c,ob d,ob e,ob f]
noncomputable def bodyR : VS := (gIf (tAnd2 (vB (v2 gtD (v2 ixDt (vN 1) (vN 10)) (vC (.int 0)))) (vB (vCall Pg.m_is_nearer (aC (v2 addD (vN 8) (vN 12)) (aC (vF 9) (aC (v2 ixDt (vN 3) (vN 11)) a0))))))
 (gSeq (gPut 3 (vN 11) (vTup (aC (v2 addD (vN 8) (vN 12)) (aC (vF 9) (aC (vF 10) (aC (vF 7) a0))))))
 (gIf (tNot2 (vB (v2 ixDt (vN 4) (vN 11))))
 (gSeq (gPut 4 (vN 11) (vC (.bool true)))
 (gApp 5 (aC (vF 11) a0)))
 gNop))
 gNop)
variable {n : Nat} {ps : List Pas} {L : List Int} {st : Nat} {π : Nat→Int}
theorem relax_step {mv : PyData} {s : RS} {u : Nat} {m : Mv} {d : Int} {c : Nat} (hm : m.1 < L.length) (hl : m.2.1 < s.lab.length) (hw : m.2.1 < s.wait.length) (hq : s.queue.length < sizeLine) :
  bodyR (SR mv (.list (L.map .int)) st s (some (.int u)) (some (.int d)) (some (.int c)) (some (.int m.1)) (some (.int m.2.1)) (some (.int m.2.2))) =
   .nxt (SR mv (.list (L.map .int)) st (relax (lf L) u d c s m) (some (.int u)) (some (.int d)) (some (.int c)) (some (.int m.1)) (some (.int m.2.1)) (some (.int m.2.2))):=by
 obtain ⟨mi,v,x⟩:=m
 dsimp only at hm hl hw
 obtain ⟨o,ho⟩ : ∃ o,s.lab[v]? = some o:=⟨_,List.getElem?_eq_getElem hl⟩
 obtain ⟨wv,hwv⟩ : ∃ o,s.wait[v]? = some o:=⟨_,List.getElem?_eq_getElem hw⟩
 have e1 : atI (L.map PyData.int) (mi : Int) = some (.int (lf L mi)):=by
  refine atI_of _ ?_
  unfold lf
  rw [List.getD_eq_getElem?_getD,List.getElem?_eq_getElem hm]; rfl
 have e2 : atI (s.lab.map lbD) (v : Int) = some (lbD o):=atI_of _ ho
 have e3 : atI (s.wait.map PyData.bool) (v : Int) = some (.bool wv):=atI_of _ hwv
 unfold bodyR SR relax
 simp only [ho,hwv,Option.getD_some]
 walk_at "e0"
 rw [e1]
 walk_at "e0"
 by_cases h : 0 < lf L mi
 ·simp only [h,decide_true,true_and]
  walk_at "e0"
  rw [e2]
  walk_at "e0"
  rw [e_near]
  walk_at "e0"
  cases hn : near (d + x) c o
  ·walk_at "e0"
  ·walk_at "e0"
   rw [List.length_map,ixN_of hl]
   walk_at "e0"
   rw [e3]
   walk_at "e0"
   cases wv
   ·walk_at "e0"
    rw [List.length_map,ixN_of hw]
    walk_at "e0"
    rw [if_pos (by rw [List.length_map]; exact hq)]
    walk_at "e0"
    rw [List.map_set,List.map_set,List.map_append]
    rfl
   ·walk_at "e0"
    rw [List.map_set]
    rfl
 ·simp only [h,decide_false,false_and]
  walk_at "e0"
theorem looks_step {mv : PyData} {u : Nat} {lu : Lb} (hn : n≤1000) (F : Fit n (lf L) (outOf ps) π) (hu : u < n) {p : Nat} (hp : p≤lu.c) (hL : ∀ m∈outOf ps u,m.1 < L.length) :
  ∀ (ms : List Mv) (s : RS) (phs : List Nat) (x y z : Option PyData),LabOk n (lf L) (outOf ps) π st s→QP n p s.place s phs→Paths n π s.lab→s.lab[u]? = some (some lu)→(∀ m∈ms,m∈outOf ps u) →
  ∃ x' y' z',forG (gT 3 (gC (gN 10) (gC (gN 11) (gC (gN 12) g0)))) bodyR (ms.map mvM) (SR mv (.list (L.map .int)) st s (some (.int u)) (some (.int lu.d)) (some (.int ((lu.c + 1 : Nat) : Int))) x y z) =
   .nxt (SR mv (.list (L.map .int)) st (ms.foldl (relax (lf L) u lu.d (lu.c + 1)) s) (some (.int u)) (some (.int lu.d)) (some (.int ((lu.c + 1 : Nat) : Int))) x' y' z')
 | [],s,phs,x,y,z,_,_,_,_,_=>⟨x,y,z,rfl⟩
 | m :: ms,s,phs,x,y,z,I,Q,hP,hl,hm=>by
  have hmo:=hm m List.mem_cons_self
  have hvn : m.2.1 < n:=F.room u _ hmo
  have hq : s.queue.length < sizeLine:=by
   have h1:=Q.bound I.ql
   have h2 : n * n≤1000 * 1000:=Nat.mul_le_mul hn hn
   exact size_big (by omega)
  obtain ⟨a1,a2,_⟩:=relax_ok F I hu hl hmo
  obtain ⟨phs',Q',hP'⟩:=relax_qp F I Q hP hu hl hmo hp
  obtain ⟨x',y',z',ih⟩:=looks_step (mv:=mv) hn F hu hp hL ms _ phs' (some (.int m.1)) (some (.int m.2.1)) (some (.int m.2.2)) a1.ok Q' hP' a2 fun m' h'=>hm m' (List.mem_cons_of_mem _ h')
  refine ⟨x',y',z',?_⟩
  rw [List.map_cons,forG,List.foldl_cons]
  have e1 : gT 3 (gC (gN 10) (gC (gN 11) (gC (gN 12) g0))) (mvM m) (SR mv (.list (L.map .int)) st s (some (.int u)) (some (.int lu.d)) (some (.int ((lu.c + 1 : Nat) : Int))) x y z) =
    some (SR mv (.list (L.map .int)) st s (some (.int u)) (some (.int lu.d)) (some (.int ((lu.c + 1 : Nat) : Int))) (some (.int m.1)) (some (.int m.2.1)) (some (.int m.2.2))):=by
   unfold mvM mvD SR
   walk_at "e0"
  rw [e1]
  simp only
  rw [relax_step (hL m hmo) (by rw [I.ll]; exact hvn) (by rw [I.wl]; exact hvn) hq]
  exact ih
noncomputable def bodyW : VS := (gSeq (gAs (v2 ixDt (vN 5) (vN 6)) (gN 7))
 (gSeq (gAug addD 6 (vC (.int 1)))
 (gSeq (gPut 4 (vN 7) (vC (.bool false)))
 (gSeq (gAs (v2 ixDt (v2 ixDt (vN 3) (vN 7)) (vC (.int 0))) (gN 8))
 (gSeq (gAs (v2 addD (v2 ixDt (v2 ixDt (vN 3) (vN 7)) (vC (.int 1))) (vC (.int 1))) (gN 9))
 (gFor (vItems (v2 ixDt (vN 0) (vN 7))) (gT 3 (gC (gN 10) (gC (gN 11) (gC (gN 12) g0))))
 bodyR))))))
theorem turn_step (hn : n≤1000) (F : Fit n (lf L) (outOf ps) π) (hL : ∀ u m,m∈outOf ps u→m.1 < L.length) {s : RS} (I : RInv n (lf L) (outOf ps) π st s) (hQ : QI n π s) (hd : ¬ s.done) (a b c d e f : Option PyData) :
  ∃ a' b' c' d' e' f',bodyW (SR (movesD (ps.map toPq) n) (.list (L.map .int)) st s a b c d e f) = .nxt (SR (movesD (ps.map toPq) n) (.list (L.map .int)) st (stepR (lf L) (outOf ps) s) a' b' c' d' e' f'):=by
 obtain ⟨⟨p,phs,Q⟩,hP⟩:=hQ
 have hlt : s.place < s.queue.length:=by unfold RS.done at hd; omega
 have hq : s.queue[s.place]? = some s.room:=by unfold RS.room; rw [List.getElem?_eq_getElem hlt]; rfl
 have hmem : s.room∈s.queue:=List.mem_of_getElem? hq
 have hu : s.room < n:=I.ql _ hmem
 obtain ⟨lu,hl⟩:=I.lq _ hmem
 have hat : s.at = lu:=by unfold RS.at; rw [hl]; rfl
 have dc:=drop_cons hq
 have I0 : LabOk n (lf L) (outOf ps) π st { s with place:=s.place + 1,wait:=s.wait.set s.room false }:=by
  refine ⟨hlt,I.ll,by show (s.wait.set s.room false).length = n; rw [List.length_set]; exact I.wl,I.ql,I.st0,I.lo,I.fr,fun v hv=>?_,I.lq⟩
  rcases set_get (show (s.wait.set s.room false)[v]? = some true from hv) with ⟨_,e,_⟩ | ⟨hne,e⟩
  ·cases e
  ·have:=I.wq v e
   rw [dc] at this
   rcases List.mem_cons.mp this with z | z
   ·exact absurd z hne
   ·exact z
 obtain ⟨p',hp'⟩ : ∃ p',phs[s.place]? = some p':=⟨_,List.getElem?_eq_getElem (by rw [Q.len]; exact hlt)⟩
 have Q0:=Q.next I hq hp'
 obtain ⟨x',y',z',key⟩:=looks_step (mv:=movesD (ps.map toPq) n) hn F hu (Q.cnt s.place p' s.room lu (Nat.le_refl _) hp' hq hl) (hL s.room) (outOf ps s.room) _ phs d e f I0 Q0 hP hl fun m h=>h
 have e0 : stepR (lf L) (outOf ps) s = (outOf ps s.room).foldl (relax (lf L) s.room lu.d (lu.c + 1)) { s with place:=s.place + 1,wait:=s.wait.set s.room false }:=by unfold stepR; rw [hat]
 refine ⟨some (.int s.room),some (.int lu.d),some (.int ((lu.c + 1 : Nat) : Int)),x',y',z',?_⟩
 rw [e0,← key]
 have e1 : atI (s.queue.map natD) (s.place : Int) = some (.int s.room):=atI_of _ hq
 have e2 : atI (s.lab.map lbD) (s.room : Int) = some (lbD (some lu)):=atI_of _ hl
 obtain ⟨em,e3⟩:=moves_at ps hu
 have hw : s.room < s.wait.length:=by rw [I.wl]; exact hu
 rw [em]
 unfold bodyW SR
 walk_at "e0"
 rw [e1]
 walk_at "e0"
 rw [List.length_map,ixN_of hw]
 walk_at "e0"
 rw [e2,lbD_some]
 walk_at "e0"
 rw [e2,lbD_some]
 walk_at "e0"
 rw [e3]
 walk_at "e0"
 rw [List.map_set]
 rfl
theorem while_step (hn : n≤1000) (F : Fit n (lf L) (outOf ps) π) (hL : ∀ u m,m∈outOf ps u→m.1 < L.length) {k : Nat} {s t : RS} (h : Ends (lf L) (outOf ps) k s t) : RInv n (lf L) (outOf ps) π st s→QI n π s→∀ (a b c d e f : Option PyData),
  ∃ a' b' c' d' e' f',whileN (vB (v2 ltD (vN 6) (vCB lenD (aC (vN 5) a0)))) bodyW (k + 1) (SR (movesD (ps.map toPq) n) (.list (L.map .int)) st s a b c d e f) = .nxt (SR (movesD (ps.map toPq) n) (.list (L.map .int)) st t a' b' c' d' e' f'):=by
 induction h with
 | stop hd =>
  rename_i s
  intro I hQ a b c d e f
  refine ⟨a,b,c,d,e,f,?_⟩
  rw [whileN]
  have : ¬ (s.place : Int) < ((s.queue.map natD).length : Int):=by unfold RS.done at hd; rw [List.length_map]; omega
  have et : (vB (v2 ltD (vN 6) (vCB lenD (aC (vN 5) a0)))) (SR (movesD (ps.map toPq) n) (.list (L.map .int)) st s a b c d e f) = some false:=by
   unfold SR
   walk_at "e0"
   simp only [this,decide_false]
  rw [et]
 | @go k s t hd _ ih =>
  intro I hQ a b c d e f
  obtain ⟨a1,b1,c1,d1,e1,f1,h1⟩:=turn_step hn F hL I hQ hd a b c d e f
  obtain ⟨a2,b2,c2,d2,e2,f2,h2⟩:=ih (stepR_ok F I hd).1 (stepR_q F I hQ hd) a1 b1 c1 d1 e1 f1
  refine ⟨a2,b2,c2,d2,e2,f2,?_⟩
  rw [whileN]
  have : (s.place : Int) < ((s.queue.map natD).length : Int):=by unfold RS.done at hd; rw [List.length_map]; omega
  have et : (vB (v2 ltD (vN 6) (vCB lenD (aC (vN 5) a0)))) (SR (movesD (ps.map toPq) n) (.list (L.map .int)) st s a b c d e f) = some true:=by
   unfold SR
   walk_at "e0"
   simp only [this,decide_true]
  rw [et]
  simp only
  rw [h1]
  exact h2
theorem e_reach (hn : n≤1000) (hst : st < n) (F : Fit n (lf L) (outOf ps) π) (hL : ∀ u m,m∈outOf ps u→m.1 < L.length) : ∃ lab,Found n ps st (lf L) lab∧Pg.m_reach [movesD (ps.map toPq) n,.list (L.map .int),.int st] = some (true,.list (lab.map lbD)):=by
 have I0 : RInv n (lf L) (outOf ps) π st (startR n st):=startR_ok hst
 have Q0 : QI n π (startR n st):=startR_q hst
 obtain ⟨k,t,hE,It,hd⟩:=ends F I0
 refine ⟨t.lab,⟨k,t,hE,rfl⟩,?_⟩
 obtain ⟨a,b,c,d,e,f,hW⟩:=while_step hn F hL hE I0 Q0 none none none none none none
 have hW2:=gWh_eq hW (by intro z; cases z)
 unfold Pg.m_reach Pg.g_reach
 have em : movesD (ps.map toPq) n = .list ((List.range n).map fun (u : Nat)=>.list ((outOf ps u).map mvM)):=(moves_at ps hst).1
 have hlen : (((List.range n).map fun (u : Nat)=>PyData.list ((outOf ps u).map mvM)).length : Int) = (n : Int):=by simp
 rw [em] at hW2 ⊢
 walk_at "e0"
 rw [hlen]
 rw [repD_one _ (show n≤16000000 by omega)]
 walk_at "e0"
 rw [List.length_replicate,ixN_of hst]
 walk_at "e0"
 rw [hlen,repD_one _ (show n≤16000000 by omega)]
 walk_at "e0"
 unfold bodyW bodyR at hW2
 have eS : SR (.list ((List.range n).map fun (u : Nat)=>.list ((outOf ps u).map mvM))) (.list (L.map .int)) st (startR n st) none none none none none none =
  [some (Tg.fr,.list ((List.range n).map fun (u : Nat)=>.list ((outOf ps u).map mvM))),some (Tg.fr,.list (L.map .int)),some (Tg.fr,.int st),some (Tg.ow,.list ((List.replicate n PyData.none).set st (.tuple [.int 0,.int 0,.none,.none]))),some (Tg.ow,.list (List.replicate n (.bool false))),some (Tg.ow,.list [.int st]),some (Tg.fr,.int 0),none,none,none,none,none,none]:=by
  unfold SR startR
  simp only [List.map_set,List.map_replicate,lbD,frA,frB,ob_none]
  rfl
 rw [eS] at hW2
 rw [hW2]
 unfold SR
 walk_at "e0"
end PM
namespace PM
open PySem L2 VM Sp
variable {n : Nat} {ps : List Pas} {L : List Int} {st g : Nat} {π : Nat→Int} {lab : List (Option Lb)} {left : Lf}
theorem leads_lt {m u v : Nat} {x : Int} (h : Leads ps m u v x) : m < 2 * ps.length:=by
 obtain ⟨i,q,e,r⟩:=h.cases
 have : i < ps.length:=by
  by_cases z : i < ps.length
  ·exact z
  ·rw [List.getElem?_eq_none (by omega)] at e; cases e
 rcases r with ⟨_,_,rfl,_⟩ | ⟨_,_,rfl,_⟩ <;> omega
theorem way_lt (T : Tree n left (outOf ps) π st lab) {v : Nat} {l : Lb} (h : lab[v]? = some (some l)) : ∀ m∈wayF lab l.c v,m < 2 * ps.length:=fun m hm=>by
 obtain ⟨_,_,_,_,_,a,_⟩:=way_mem T h m hm
 exact leads_lt a
theorem way_len (T : Tree n left (outOf ps) π st lab) {v : Nat} {l : Lb} (h : lab[v]? = some (some l)) : (wayF lab l.c v).length≤2 * ps.length:=nodup_lt (way_nodup T h) (way_lt T h)
noncomputable def bodyY : VS := (gSeq (gApp 3 (aC (v2 ixDt (v2 ixDt (vN 0) (vN 4)) (vC (.int 2))) a0))
 (gAs (v2 ixDt (v2 ixDt (vN 0) (vN 4)) (vC (.int 3))) (gN 4)))
theorem e_way (hp : ps.length≤1000000) (T : Tree n left (outOf ps) π st lab) {l : Lb} (h : lab[g]? = some (some l)) :
  Pg.m_way_to [.list (lab.map lbD),.int st,.int g] = some (true,.list ((wayF lab l.c g).map natD)):=by
 have key : ∀ (v : Nat) (l : Lb),lab[v]? = some (some l)→∀ acc : List Nat,acc.length + (wayF lab l.c v).length≤16000000 →
   whileN (vB (v2 neD (vN 4) (vN 1))) bodyY ((wayF lab l.c v).length + 1) [some (.fr,.list (lab.map lbD)),some (.fr,.int st),some (.fr,.int g),some (.ow,.list (acc.map natD)),some (.fr,.int v)] =
    .nxt [some (.fr,.list (lab.map lbD)),some (.fr,.int st),some (.fr,.int g),some (.ow,.list ((acc ++ wayF lab l.c v).map natD)),some (.fr,.int st)]:=by
  refine way_ind T (P:=fun v _ ms=>∀ acc : List Nat,acc.length + ms.length≤16000000 →
   whileN (vB (v2 neD (vN 4) (vN 1))) bodyY (ms.length + 1) [some (.fr,.list (lab.map lbD)),some (.fr,.int st),some (.fr,.int g),some (.ow,.list (acc.map natD)),some (.fr,.int v)] =
    .nxt [some (.fr,.list (lab.map lbD)),some (.fr,.int st),some (.fr,.int g),some (.ow,.list ((acc ++ ms).map natD)),some (.fr,.int st)]) (fun acc _=>?_) (fun v l mv u x lu ms hv hne hfr hL hpos hu hd hc hms ih acc hb=>?_)
  ·rw [whileN]
   walk_at "e0"
   simp
  ·rw [whileN]
   have e0 : atI (lab.map lbD) (v : Int) = some (lbD (some l)):=atI_of _ hv
   have ne : ¬ (v : Int) = (st : Int):=by omega
   walk_at "e0"
   simp only [ne,decide_false]
   walk_at "e0"
   unfold bodyY
   walk_at "e0"
   rw [e0,lbD_some,hfr]
   walk_at "e0"
   rw [if_pos (by rw [List.length_map]; rw [List.length_cons] at hb; exact size_big (by omega))]
   walk_at "e0"
   rw [e0,lbD_some,hfr]
   unfold frA frB
   walk_at "e0"
   have:=ih (acc ++ [mv]) (by rw [List.length_append,List.length_singleton]; rw [List.length_cons] at hb; omega)
   rw [List.map_append,List.append_assoc] at this
   exact this
 have k2:=key g l h [] (by have:=way_len T h; rw [List.length_nil]; omega)
 have k3:=gWh_eq k2 (by intro z; cases z)
 unfold bodyY at k3
 unfold Pg.m_way_to Pg.g_way_to
 walk_at "e0"
 simp only [List.map_nil,List.nil_append] at k3
 rw [k3]
 walk_at "e0"
theorem xor_partner (m : Nat) : Builtin.bitXor (m : Int) 1 = (partner m : Int):=by
 rw [PyProof.Rows.bitXor_and]
 have : Builtin.bitAnd (m : Int) 1 = ((m % 2 : Nat) : Int):=by
  unfold Builtin.bitAnd
  simp [Nat.and_one_is_mod]
 rw [this]
 unfold partner
 split <;> omega
noncomputable def moveL (p : Int) (L : List Int) (m : Nat) : List Int:=(L.set m (lf L m - p)).set (partner m) (lf (L.set m (lf L m - p)) (partner m) + p)
theorem lf_set {L : List Int} {i : Nat} (h : i < L.length) (x : Int) (j : Nat) : lf (L.set i x) j = if j = i then x else lf L j:=by
 unfold lf
 rw [List.getD_eq_getElem?_getD,List.getD_eq_getElem?_getD]
 by_cases hj : j = i
 ·subst hj; rw [if_pos rfl,List.getElem?_set_self h]; rfl
 ·rw [if_neg hj,List.getElem?_set_ne (Ne.symm hj)]
theorem partner_ne (m : Nat) : partner m ≠ m:=by unfold partner; split <;> omega
theorem moveL_len (p : Int) (L : List Int) (m : Nat) : (moveL p L m).length = L.length:=by unfold moveL; rw [List.length_set,List.length_set]
theorem moveL_lf {p : Int} {L : List Int} {m : Nat} (h1 : m < L.length) (h2 : partner m < L.length) : lf (moveL p L m) = move p (lf L) m:=by
 funext i
 unfold moveL move
 rw [lf_set (by rw [List.length_set]; exact h2),lf_set h1,lf_set h1]
 have:=partner_ne m
 by_cases hi : i = m
 ·subst hi
  rw [if_neg (Ne.symm this),if_pos rfl]
  simp
 ·by_cases hj : i = partner m
  ·subst hj; simp [hi]
  ·simp [hi,hj]
noncomputable def pushL (p : Int) (L : List Int) (ms : List Nat) : List Int:=ms.foldl (moveL p) L
theorem pushL_len (p : Int) : ∀ (ms : List Nat) (L : List Int),(pushL p L ms).length = L.length
 | [],_=>rfl
 | m :: ms,L=>by
  show (pushL p (moveL p L m) ms).length = _
  rw [pushL_len p ms,moveL_len]
theorem partner_lt {k m : Nat} (h : m < 2 * k) : partner m < 2 * k:=by unfold partner; split <;> omega
theorem pushL_lf (p : Int) {k : Nat} : ∀ (ms : List Nat) (L : List Int),L.length = 2 * k→(∀ m∈ms,m < 2 * k)→lf (pushL p L ms) = pushAll p (lf L) ms
 | [],_,_,_=>rfl
 | m :: ms,L,hL,hm=>by
  have h1:=hm m List.mem_cons_self
  show lf (pushL p (moveL p L m) ms) = pushAll p (move p (lf L) m) ms
  rw [pushL_lf p ms _ (by rw [moveL_len]; exact hL) fun x hx=>hm x (List.mem_cons_of_mem _ hx),moveL_lf (by omega) (by have:=partner_lt h1; omega)]
theorem at_lf {L : List Int} {m : Nat} (h : m < L.length) : atI (L.map PyData.int) (m : Int) = some (.int (lf L m)):=by
 refine atI_of _ ?_
 unfold lf
 rw [List.getD_eq_getElem?_getD,List.getElem?_eq_getElem h]; rfl
theorem get_lf {L : List Int} {m : Nat} (h : m < L.length) : (L.map PyData.int)[m]? = some (.int (lf L m)):=by
 unfold lf
 rw [List.getElem?_map,List.getD_eq_getElem?_getD,List.getElem?_eq_getElem h]; rfl
theorem e_push {k : Nat} {ms : List Nat} (hL : L.length = 2 * k) (hm : ∀ m∈ms,m < 2 * k) (hne : ms ≠ []) (hl : ms.length≤16000000) :
  ∃ p,(∃ m∈ms,p = lf L m)∧(∀ m∈ms,p≤lf L m)∧Pg.m_push [none,some (.list (ms.map natD))] (L.map .int) = some (false,.int p,(pushL p L ms).map .int):=by
 refine ⟨leastOf (ms.map (lf L)),?_,?_,?_⟩
 ·obtain ⟨h1,_⟩:=leastOf_spec (ns:=ms.map (lf L)) (by simpa using hne)
  obtain ⟨m,h2,h3⟩:=List.mem_map.mp h1
  exact ⟨m,h2,h3.symm⟩
 ·intro m h
  exact (leastOf_spec (ns:=ms.map (lf L)) (by simpa using hne)).2 _ (List.mem_map.mpr ⟨m,h,rfl⟩)
 ·generalize hp : leastOf (ms.map (lf L)) = p
  unfold Pg.m_push Pg.g_push fnIO
  rw [if_pos ⟨rfl,rfl⟩]
  unfold iniIO
  walk_at "e0"
  rw [bLCW_s (by rw [List.length_map]; exact size_big hl)]
  rw [lcD_map (f:=fun d=>match d with | .int m=>.int (lf L m.toNat) | _=>.none) (by
   intro d hd
   obtain ⟨m,h,rfl⟩:=List.mem_map.mp hd
   refine ⟨[some (Tg.fr,.int m),some (Tg.fr,.list (L.map .int))],?_,rfl,?_⟩
   ·unfold natD; walk_at "e0"
   ·have:=hm m h
    walk_at "e0"
    rw [at_lf (by omega)]
    rfl)]
  rw [List.map_map]
  have em : ms.map ((fun d=>match d with | .int m=>PyData.int (lf L m.toNat) | _=>.none) ∘ natD) = (ms.map (lf L)).map PyData.int:=by
   rw [List.map_map]
   exact List.map_congr_left fun m _=>by simp [natD]
  rw [em]
  walk_at "e0"
  have eM : minD [.list ((ms.map (lf L)).map PyData.int)] = some (.int p):=by
   simp only [minD,intsOf_map]
   cases ms with
   | nil=>exact absurd rfl hne
   | cons m r=>simp only [List.map_cons] at hp ⊢; rw [hp]
  rw [eM]
  walk_at "e0"
  have loop : ∀ (rs : List Nat) (M : List Int) (x : Option PyData),M.length = 2 * k→(∀ m∈rs,m < 2 * k)→∃ x',
    forG (gN 3) (gSeq (gAugI subD 0 (vN 3) (vF 2)) (gAugI addD 0 (v2 xorD (vN 3) (vC (.int 1))) (vF 2))) (rs.map natD) [some (Tg.io,.list (M.map .int)),some (Tg.fr,.list (ms.map natD)),some (Tg.fr,.int p),ob x] =
     .nxt [some (Tg.io,.list ((pushL p M rs).map .int)),some (Tg.fr,.list (ms.map natD)),some (Tg.fr,.int p),ob x']:=fun rs=>by
   induction rs with
   | nil=>intro M x _ _; exact ⟨x,rfl⟩
   | cons m rs ih =>
    intro M x hM hmm
    have h1:=hmm m List.mem_cons_self
    have h2:=partner_lt h1
    obtain ⟨x',hx⟩:=ih (moveL p M m) (some (.int m)) (by rw [moveL_len]; exact hM) fun y hy=>hmm y (List.mem_cons_of_mem _ hy)
    refine ⟨x',?_⟩
    rw [List.map_cons,forG]
    unfold natD
    walk_at "e0"
    rw [List.length_map,ixN_of (by omega)]
    walk_at "e0"
    rw [get_lf (by omega)]
    walk_at "e0"
    rw [xor_partner,List.length_set,List.length_map,ixN_of (by omega)]
    walk_at "e0"
    rw [← List.map_set,get_lf (by rw [List.length_set]; omega)]
    walk_at "e0"
    rw [← List.map_set]
    exact hx
  obtain ⟨x',hx⟩:=loop ms L none hL hm
  rw [ob_none] at hx
  rw [hx]
  walk_at "e0"
  simp only [lentL,List.getElem?_cons_zero]
end PM
namespace PM
open PySem L2 VM Sp
variable {n : Nat} {ps : List Pas} {L : List Int} {st g : Nat} {π : Nat→Int} {lab : List (Option Lb)} {left : Lf}
noncomputable def limD : Option Int→PyData
 | none=>.none
 | some T=>.int T
noncomputable def stepD (x : Int × Int) : PyData:=.tuple [.int x.1,.int x.2]
theorem immL_labs : ∀ lab : List (Option Lb),immL (lab.map lbD) = true
 | []=>rfl
 | none :: r=>by simp only [List.map_cons,lbD,immL,imm,immL_labs r,Bool.and_self]
 | some l :: r=>by
  have : imm (lbD (some l)) = true:=by
   rw [lbD_some]
   cases h : l.fr with
   | none=>simp [imm,immL,frA,frB]
   | some x=>simp [imm,immL,frA,frB]
  simp only [List.map_cons,immL,this,immL_labs r,Bool.and_self]
noncomputable def bodyP : VS := (gSeq (gAs (vCallW Pg.m_reach (aC (vN 0) (aC (vN 1) (aC (vN 2) a0)))) (gN 6))
 (gSeq (gIf (vB (v2 isD (v2 ixDt (vN 6) (vN 3)) (vC .none)))
 (gRetO 5)
 gNop)
 (gSeq (gAs (v2 ixDt (v2 ixDt (vN 6) (vN 3)) (vC (.int 0))) (gN 7))
 (gSeq (gIf (tAnd2 (vB (v2 isnD (vN 4) (vC .none))) (vB (v2 gtD (vN 7) (vN 4))))
 (gRetO 5)
 gNop)
 (gSeq (gIoAs Pg.m_push 1 (ioN (ioC (vCall Pg.m_way_to (aC (vF 6) (aC (vF 2) (aC (vF 3) a0)))) ioO)) 8)
 (gIf (tAnd2 (vTru (vN 5)) (vB (v2 eqD (v2 ixDt (v2 ixDt (vN 5) (v1 negD (vC (.int 1)))) (vC (.int 0))) (vN 7))))
 (gPut 5 (v1 negD (vC (.int 1))) (vTup (aC (vF 7) (aC (v2 addD (v2 ixDt (v2 ixDt (vN 5) (v1 negD (vC (.int 1)))) (vC (.int 1))) (vN 8)) a0))))
 (gApp 5 (aC (vTup (aC (vF 7) (aC (vF 8) a0))) a0))))))))
noncomputable def SP2 (mv : PyData) (L : List Int) (st g : Nat) (lim : Option Int) (s : List (Int × Int)) (a b c : Option PyData) : GS :=
 [some (.fr,mv),some (.io,.list (L.map .int)),some (.fr,.int st),some (.fr,.int g),some (.fr,limD lim),some (.ow,.list (s.map stepD)),ob a,ob b,ob c]
theorem atI_last {α : Type} {xs : List α} {y : α} (h : xs.getLast? = some y) : atI xs (-1) = some y:=by
 have hne : xs ≠ []:=by intro z; rw [z] at h; cases h
 unfold atI
 rw [ixN_last (List.length_pos_iff.mpr hne)]
 rw [List.getLast?_eq_getElem?] at h
 exact h
theorem getLast_map {α β : Type} (f : α→β) (xs : List α) : (xs.map f).getLast? = xs.getLast?.map f:=by
 rw [List.getLast?_eq_getElem?,List.getLast?_eq_getElem?,List.length_map,List.getElem?_map]
theorem tell_step {mv : PyData} {lim : Option Int} {s : List (Int × Int)} {len p : Int} {a : Option PyData} (hs : (addStep s (len, p)).length ≤ 16000000) :
    (gIf (tAnd2 (vTru (vN 5)) (vB (v2 eqD (v2 ixDt (v2 ixDt (vN 5) (v1 negD (vC (.int 1)))) (vC (.int 0))) (vN 7))))
     (gPut 5 (v1 negD (vC (.int 1))) (vTup (aC (vF 7) (aC (v2 addD (v2 ixDt (v2 ixDt (vN 5) (v1 negD (vC (.int 1)))) (vC (.int 1))) (vN 8)) a0))))
     (gApp 5 (aC (vTup (aC (vF 7) (aC (vF 8) a0))) a0))) (SP2 mv L st g lim s a (some (.int len)) (some (.int p))) = .nxt (SP2 mv L st g lim (addStep s (len, p)) a (some (.int len)) (some (.int p))) := by
  unfold SP2
  walk_at "e0"
  unfold addStep at hs ⊢
  cases e : s.getLast? with
  | none =>
    have : s = [] := by simpa using e
    subst this
    walk_at "e0"
    simp only [List.isEmpty_nil, Bool.not_true]
    walk_at "e0"
    rw [if_pos (size_big (by simp))]
    rfl
  | some y =>
    rw [e] at hs
    have hne : s ≠ [] := by intro z; rw [z] at e; cases e
    have em : (s.map stepD).isEmpty = false := by cases s <;> simp_all
    have al : atI (s.map stepD) (-1) = some (stepD y) := atI_last (by rw [getLast_map, e]; rfl)
    simp only [em, Bool.not_false]
    walk_at "e0"
    rw [al]
    unfold stepD
    walk_at "e0"
    by_cases hy : y.1 = len
    · simp only [hy, decide_true]
      walk_at "e0"
      have al2 : atI (s.map (fun x => PyData.tuple [.int x.1, .int x.2])) (-1) = some (.tuple [.int y.1, .int y.2]) := al
      rw [al2]
      walk_at "e0"
      rw [ixN_last (by rw [List.length_map]; exact List.length_pos_iff.mpr hne)]
      walk_at "e0"
      have e2 := last_split e
      have es : (s.map (fun x => PyData.tuple [.int x.1, .int x.2])).set ((s.map (fun x => PyData.tuple [.int x.1, .int x.2])).length - 1) (.tuple [.int len, .int (y.2 + p)]) = (s.dropLast ++ [(len, y.2 + p)]).map (fun x => PyData.tuple [.int x.1, .int x.2]) := by
        rw [e2]
        simp
      rw [es]
    · simp only [hy, decide_false]
      walk_at "e0"
      simp only [hy, if_false] at hs
      rw [if_pos (by rw [List.length_map]; rw [List.length_append, List.length_singleton] at hs; exact size_big (by omega))]
      rw [List.map_append]
      rfl
theorem whileN_ret {c : VT} {b : VS} {k : Nat} {S S2 : GS} {o : Bool} {d : PyData} (h1 : c S = some true) (h2 : b S = .ret S2 o d) : whileN c b (k + 1) S = .ret S2 o d:=by rw [whileN,h1]; simp only; rw [h2]
theorem whileN_go {c : VT} {b : VS} {k : Nat} {S S2 : GS} {o : Out} (h1 : c S = some true) (h2 : b S = .nxt S2) (h3 : whileN c b k S2 = o) : whileN c b (k + 1) S = o:=by rw [whileN,h1]; simp only; rw [h2]; exact h3
theorem push_turn {lim : Option Int} (hn : n ≤ 1000) (hp : ps.length ≤ 1000000) (hst : st < n) (hg : g < n) (hne : st ≠ g) (hLl : L.length = 2 * ps.length) (S : St n ps st (lf L) π) {s : List (Int × Int)} (a b c : Option PyData) {lab : List (Option Lb)} (hF : Found n ps st (lf L) lab) :
    (lab[g]? = some none → ∃ a', bodyP (SP2 (movesD (ps.map toPq) n) L st g lim s a b c) = .ret ((SP2 (movesD (ps.map toPq) n) L st g lim s a' b c).set 5 none) true (.list (s.map stepD))) ∧
    (∀ l T, lab[g]? = some (some l) → lim = some T → T < l.d → ∃ a' b', bodyP (SP2 (movesD (ps.map toPq) n) L st g lim s a b c) = .ret ((SP2 (movesD (ps.map toPq) n) L st g lim s a' b' c).set 5 none) true (.list (s.map stepD))) ∧
    (∀ l, lab[g]? = some (some l) → (∀ T, lim = some T → l.d ≤ T) → ∃ p, (∃ m ∈ wayF lab l.c g, p = lf L m) ∧ (∀ m ∈ wayF lab l.c g, p ≤ lf L m) ∧ ((addStep s (l.d, p)).length ≤ 16000000 →
      ∃ a' b' c', bodyP (SP2 (movesD (ps.map toPq) n) L st g lim s a b c) = .nxt (SP2 (movesD (ps.map toPq) n) (pushL p L (wayF lab l.c g)) st g lim (addStep s (l.d, p)) a' b' c'))) := by
  obtain ⟨lab', hF', er⟩ := e_reach hn hst S.fit (fun u m hm => by
    obtain ⟨i, q, e, r⟩ := mem_outOf.mp hm
    have : i < ps.length := by
      by_cases z : i < ps.length
      · exact z
      · rw [List.getElem?_eq_none (by omega)] at e; cases e
    rcases r with ⟨_, rfl⟩ | ⟨_, rfl⟩ <;> (simp only; omega))
  have := hF.uniq hF'
  subst this
  have T := found_tree S.fit hst hF
  refine ⟨fun h => ?_, fun l T' h hl hT => ?_, fun l h hl => ?_⟩
  · have e1 : atI (lab.map lbD) (g : Int) = some (lbD none) := atI_of _ h
    refine ⟨some (.list (lab.map lbD)), ?_⟩
    unfold bodyP SP2
    walk_at "e0"
    rw [er]
    walk_at "e0"
    rw [immL_labs lab]
    walk_at "e0"
    rw [e1]
    unfold lbD
    walk_at "e0"
  · have e1 : atI (lab.map lbD) (g : Int) = some (lbD (some l)) := atI_of _ h
    refine ⟨some (.list (lab.map lbD)), some (.int l.d), ?_⟩
    subst hl
    unfold bodyP SP2
    walk_at "e0"
    rw [er]
    walk_at "e0"
    rw [immL_labs lab]
    walk_at "e0"
    rw [e1, lbD_some]
    walk_at "e0"
    rw [e1, lbD_some]
    walk_at "e0"
    unfold limD
    walk_at "e0"
    simp only [hT, decide_true]
    walk_at "e0"
  · have e1 : atI (lab.map lbD) (g : Int) = some (lbD (some l)) := atI_of _ h
    have wl := way_len T h
    obtain ⟨p, p1, p2, ep⟩ := e_push (L := L) (k := ps.length) (ms := wayF lab l.c g) hLl (way_lt T h) (way_ne T hne h) (by omega)
    refine ⟨p, p1, p2, fun hs => ⟨some (.list (lab.map lbD)), some (.int l.d), some (.int p), ?_⟩⟩
    rw [← tell_step hs]
    unfold bodyP
    generalize hk : (gIf (tAnd2 (vTru (vN 5)) (vB (v2 eqD (v2 ixDt (v2 ixDt (vN 5) (v1 negD (vC (.int 1)))) (vC (.int 0))) (vN 7))))
     (gPut 5 (v1 negD (vC (.int 1))) (vTup (aC (vF 7) (aC (v2 addD (v2 ixDt (v2 ixDt (vN 5) (v1 negD (vC (.int 1)))) (vC (.int 1))) (vN 8)) a0))))
     (gApp 5 (aC (vTup (aC (vF 7) (aC (vF 8) a0))) a0))) = kk
    unfold SP2
    walk_at "e0"
    rw [er]
    walk_at "e0"
    rw [immL_labs lab]
    walk_at "e0"
    rw [e1, lbD_some]
    walk_at "e0"
    rw [e1, lbD_some]
    walk_at "e0"
    have fin : ∀ (o : PyData), bSeq (gIoAs Pg.m_push 1 (ioN (ioC (vCall Pg.m_way_to (aC (vF 6) (aC (vF 2) (aC (vF 3) a0)))) ioO)) 8
        [some (Tg.fr, movesD (ps.map toPq) n), some (Tg.io, .list (L.map .int)), some (Tg.fr, .int st), some (Tg.fr, .int g), some (Tg.fr, o), some (Tg.ow, .list (s.map stepD)), some (Tg.fr, .list (lab.map lbD)), some (Tg.fr, .int l.d), ob c]) kk =
        kk [some (Tg.fr, movesD (ps.map toPq) n), some (Tg.io, .list ((pushL p L (wayF lab l.c g)).map .int)), some (Tg.fr, .int st), some (Tg.fr, .int g), some (Tg.fr, o), some (Tg.ow, .list (s.map stepD)), some (Tg.fr, .list (lab.map lbD)), some (Tg.fr, .int l.d), some (Tg.fr, .int p)] := fun o => by
      simp only [gIoAs, ioN, ioC, ioO]
      walk_at "e0"
      rw [e_way hp T h]
      walk_at "e0"
      rw [ep]
      simp only
      walk_at "e0"
      simp
      walk_at "e0"
    cases hlim : lim with
    | none =>
      unfold limD
      walk_at "e0"
      exact fin _
    | some T' =>
      have := hl T' hlim
      have nT : ¬ T' < l.d := by omega
      unfold limD
      walk_at "e0"
      simp only [nT, decide_false]
      walk_at "e0"
      exact fin _
theorem loop_runs {lim : Option Int} (Hh : Hall n ps) (hn : n≤1000) (hp : ps.length≤1000000) (hst : st < n) (hg : g < n) (hne : st ≠ g) {left left'' : Lf} {r : List (Int × Int)} (R : Runs n ps st g lim left r left'') :
  ∀ (L : List Int) (π : Nat→Int) (s : List (Int × Int)) (a b c : Option PyData),lf L = left→L.length = 2 * ps.length→St n ps st (lf L) π→(∀ k,((r.take k).foldl addStep s).length≤16000000) →
  ∃ k L'' a' b' c',lf L'' = left''∧L''.length = 2 * ps.length∧whileN (vB (vC (.bool true))) bodyP k (SP2 (movesD (ps.map toPq) n) L st g lim s a b c) = .ret ((SP2 (movesD (ps.map toPq) n) L'' st g lim (r.foldl addStep s) a' b' c').set 5 none) true (.list ((r.foldl addStep s).map stepD)):=by
 induction R with
 | none hF h =>
  intro L π s a b c hL hl S hs
  subst hL
  obtain ⟨a',e⟩:=(push_turn (lim:=lim) hn hp hst hg hne hl S a b c hF).1 h
  exact ⟨1,L,a',b,c,rfl,hl,whileN_ret rfl e⟩
 | @far left lab l T hF h hT hlt =>
  intro L π s a b c hL hl S hs
  subst hL
  obtain ⟨a',b',e⟩:=(push_turn (lim:=lim) hn hp hst hg hne hl S a b c hF).2.1 l T h hT hlt
  exact ⟨1,L,a',b',c,rfl,hl,whileN_ret rfl e⟩
 | @go left left' left'' len p r P hl R ih =>
  intro L π s a b c hL hll S hs
  subst hL
  obtain ⟨_,_,⟨π1,S1,_⟩,_,_⟩:=pushed_ok Hh S hst P
  obtain ⟨lab,l,hF,h,rfl,hp1,hp2,e⟩:=P.ex
  have T:=found_tree S.fit hst hF
  obtain ⟨p',q1,q2,hgo⟩:=(push_turn (lim:=lim) hn hp hst hg hne hll S a b c hF).2.2 l h hl
  have epp : p' = p:=by
   obtain ⟨m,hm,e1⟩:=q1
   obtain ⟨m2,hm2,e2⟩:=hp1
   have:=q2 m2 hm2
   have:=hp2 m hm
   omega
  subst epp
  obtain ⟨a',b',c',e1⟩:=hgo (by have:=hs 1; simpa using this)
  have el : lf (pushL p' L (wayF lab l.c g)) = left':=by rw [pushL_lf p' _ L hll (way_lt T h),e]
  obtain ⟨k,L'',a2,b2,c2,f1,f2,f3⟩:=ih (pushL p' L (wayF lab l.c g)) π1 (addStep s (l.d,p')) a' b' c' el (by rw [pushL_len]; exact hll) (by rw [el]; exact S1) (fun k=>by have:=hs (k + 1); simpa using this)
  exact ⟨k + 1,L'',a2,b2,c2,f1,f2,whileN_go rfl e1 f3⟩
theorem e_push_all {lim : Option Int} (Hh : Hall n ps) (hn : n≤1000) (hp : ps.length≤1000000) (hst : st < n) (hg : g < n) (hne : st ≠ g) {left'' : Lf} {r : List (Int × Int)} (R : Runs n ps st g lim (lf L) r left'') (hl : L.length = 2 * ps.length) (S : St n ps st (lf L) π) (hs : ∀ k,(grouped (r.take k)).length≤16000000) :
  ∃ L'',lf L'' = left''∧L''.length = 2 * ps.length∧Pg.m_push_all [some (movesD (ps.map toPq) n),none,some (.int st),some (.int g),some (limD lim)] (L.map .int) = some (true,.list ((grouped r).map stepD),L''.map .int):=by
 obtain ⟨k,L'',a,b,c,h1,h2,h3⟩:=loop_runs Hh hn hp hst hg hne R L π [] none none none rfl hl S hs
 have h4:=gWh_eq h3 (by intro z; cases z)
 refine ⟨L'',h1,h2,?_⟩
 unfold Pg.m_push_all Pg.g_push_all fnIO
 rw [if_pos ⟨rfl,rfl⟩]
 unfold iniIO
 walk_at "e0"
 unfold bodyP at h4
 have eS : SP2 (movesD (ps.map toPq) n) L st g lim [] none none none = [some (Tg.fr,movesD (ps.map toPq) n),some (Tg.io,.list (L.map .int)),some (Tg.fr,.int st),some (Tg.fr,.int g),some (Tg.fr,limD lim),some (Tg.ow,.list []),none,none,none]:=rfl
 rw [eS] at h4
 rw [h4]
 unfold SP2
 walk_at "e0"
 simp only [lentL,List.getElem?_cons_zero,List.getElem?_cons_succ]
 rfl
noncomputable def leftL : List Pas→List Int
 | []=>[]
 | q :: r=>q.w :: 0 :: leftL r
theorem leftL_len : ∀ ps : List Pas,(leftL ps).length = 2 * ps.length
 | []=>rfl
 | _ :: r=>by simp only [leftL,List.length_cons,leftL_len r]; omega
theorem leftL_lf : ∀ ps : List Pas,lf (leftL ps) = left0 ps
 | []=>by funext i; unfold lf left0 leftL; simp
 | q :: r=>by
  have ih:=leftL_lf r
  funext i
  match i with
  | 0=>rfl
  | 1=>rfl
  | i + 2 =>
   have e1 : lf (leftL (q :: r)) (i + 2) = lf (leftL r) i:=rfl
   have e2 : left0 (q :: r) (i + 2) = left0 r i:=by
    unfold left0
    have a : (i + 2) % 2 = i % 2:=by omega
    have b : (i + 2) / 2 = i / 2 + 1:=by omega
    rw [a,b,List.getElem?_cons_succ]
   rw [e1,e2,ih]
noncomputable def leftB : List Pas→List Int→List Int
 | q :: r,f :: fl=>(q.w - f) :: f :: leftB r fl
 | _,_=>[]
theorem leftB_zero : ∀ ps : List Pas,leftB ps (List.replicate ps.length 0) = leftL ps
 | []=>rfl
 | q :: r=>by
  rw [List.length_cons,List.replicate_succ,leftB,leftL,leftB_zero r,Int.sub_zero]
theorem e_leftB {fl : List Int} (hp : ps.length≤1000000) : Pg.m_left_behind [hD ps,.list (fl.map .int)] = some (true,.list ((leftB ps fl).map .int)):=by
 unfold Pg.m_left_behind Pg.g_left_behind hD psD
 walk_at "e0"
 have key : ∀ (all : PyData) (r : List Pas) (fs acc : List Int) (x y : Option PyData),acc.length + 2 * r.length≤16000000→∃ x' y',forG (gT 2 (gC (gN 3) (gC (gN 4) g0))) (gSeq (gApp 2 (aC (v2 subD (v2 ixDt (vN 3) (vC (.int 2))) (vN 4)) a0)) (gApp 2 (aC (vF 4) a0))) (zipD ((r.map toPq).map pD) (fs.map .int))
   [some (Tg.fr,.list ((ps.map toPq).map pD)),some (Tg.fr,all),some (Tg.ow,.list (acc.map .int)),ob x,ob y] = .nxt [some (Tg.fr,.list ((ps.map toPq).map pD)),some (Tg.fr,all),some (Tg.ow,.list ((acc ++ leftB r fs).map .int)),ob x',ob y']:=fun all r=>by
  induction r with
  | nil=>intro fs acc x y _; exact ⟨x,y,by simp [forG,leftB,zipD]⟩
  | cons q r ih =>
   intro fs acc x y hb
   cases fs with
   | nil=>exact ⟨x,y,by simp [forG,leftB,zipD]⟩
   | cons f fs =>
    obtain ⟨x',y',hx⟩:=ih fs (acc ++ [q.w - f,f]) (some (pD (toPq q))) (some (.int f)) (by rw [List.length_append]; simp only [List.length_cons,List.length_nil] at hb ⊢; omega)
    refine ⟨x',y',?_⟩
    have ez : zipD (((q :: r).map toPq).map pD) ((f :: fs).map .int) = .tuple [pD (toPq q),.int f] :: zipD ((r.map toPq).map pD) (fs.map .int):=rfl
    rw [ez,forG]
    simp only [List.length_cons] at hb
    unfold pD at hx ⊢
    walk_at "e0"
    rw [if_pos (by rw [List.length_map]; exact size_big (by omega))]
    walk_at "e0"
    rw [if_pos (by rw [List.length_append,List.length_map]; exact size_big (by simp; omega))]
    walk_at "e0"
    have : (acc ++ [q.w - f,f]).map PyData.int = acc.map .int ++ [.int (q.w - f)] ++ [.int f]:=by simp
    rw [this] at hx
    rw [leftB]
    simp only [List.append_assoc,List.cons_append,List.nil_append,ob_some] at hx ⊢
    exact hx
 obtain ⟨x',y',hx⟩:=key (.list (fl.map .int)) ps fl [] none none (by simp; omega)
 simp only [List.map_nil,List.nil_append,ob_none] at hx
 rw [hx]
 walk_at "e0"
theorem e_left (hp : ps.length≤1000000) : Pg.m_left_behind [hD ps,.list (List.replicate ps.length (.int 0))] = some (true,.list ((leftL ps).map .int)):=by
 have:=e_leftB (fl:=List.replicate ps.length 0) hp
 rw [List.map_replicate,leftB_zero] at this
 exact this
end PM
namespace PM
open PySem L2 VM Sp
variable {n : Nat} {ps : List Pas} {L : List Int} {st g : Nat} {π : Nat→Int} {lab : List (Option Lb)} {left : Lf}
structure Small (n : Nat) (ps : List Pas) : Prop where
 n1 : n≤1000
 p1 : ps.length≤1000
 vs : ∃ vs : List Int,vs.length≤16000000∧∀ v∈vals ps,v∈vs
theorem hall_rooms (Hh : Hall n ps) : ∀ q∈ps.map toPq,(0≤q.1∧q.1 < (n : Int))∧0≤q.2.1∧q.2.1 < (n : Int):=fun q hq=>by
 obtain ⟨p,hp,rfl⟩:=List.mem_map.mp hq
 have:=Hh.ra p hp
 have:=Hh.rb p hp
 show (0≤(p.a : Int)∧(p.a : Int) < n)∧0≤(p.b : Int)∧(p.b : Int) < n
 omega
theorem run_small {lim : Option Int} (Hh : Hall n ps) (hst : st < n) (hne : st ≠ g) (hs : ∃ vs : List Int,vs.length≤16000000∧∀ v∈vals ps,v∈vs) {r : List (Int × Int)} {left'' : Lf} (R : Runs n ps st g lim (left0 ps) r left'') :
  (∀ x∈r,1≤x.1∧1≤x.2)∧∀ k,(grouped (r.take k)).length≤16000000:=by
 have S0 : St n ps st (left0 ps) (fun v=>if v = st then 0 else 1):=st0_ok Hh
 obtain ⟨_,_,_,h4,h5⟩:=runs_ok Hh hst R S0
 have h1 : ∀ x∈r,1≤x.1∧1≤x.2:=fun x hx=>by
  obtain ⟨a,b,_⟩:=h4 x hx
  simp only [Ne.symm hne,if_false] at b
  omega
 refine ⟨h1,fun k=>?_⟩
 obtain ⟨vs,hv,hm⟩:=hs
 have:=grouped_len (r:=r.take k) (vs:=vs) (h5.sublist (List.take_sublist k r)) (fun x hx=>h1 x (List.mem_of_mem_take hx)) fun x hx=>hm _ (runs_vals Hh hst R S0 x (List.mem_of_mem_take hx))
 omega
theorem e_moves (Hh : Hall n ps) (sm : Small n ps) : VM.m_moves_of [.int n,hD ps] = some (false,movesD (ps.map toPq) n):=by
 have:=e_moves_of (m:=(n : Int)) (ps:=ps.map toPq) (by omega) (by have:=sm.n1; omega) (by rw [List.length_map]; exact sm.p1) (hall_rooms Hh)
 rw [Int.toNat_natCast] at this
 exact this
theorem e_steps (Hh : Hall n ps) (sm : Small n ps) (hst : st < n) (hg : g < n) (hne : st ≠ g) : ∃ r left'',Runs n ps st g none (left0 ps) r left''∧Pg.m_steps_of [.int n,hD ps,.int st,.int g] = some (true,.list ((grouped r).map stepD)):=by
 have S0 : St n ps st (left0 ps) (fun v=>if v = st then 0 else 1):=st0_ok Hh
 obtain ⟨r,left'',R⟩:=runs_ex (lim:=none) Hh hst hg hne S0
 refine ⟨r,left'',R,?_⟩
 have hp : ps.length≤1000000:=by have:=sm.p1; omega
 rw [← leftL_lf] at R S0
 obtain ⟨L'',h1,h2,h3⟩:=e_push_all Hh sm.n1 hp hst hg hne R (leftL_len ps) S0 (run_small Hh hst hne sm.vs (by rw [← leftL_lf]; exact R)).2
 unfold Pg.m_steps_of Pg.g_steps_of
 walk_at "e0"
 unfold hD psD
 walk_at "e0"
 rw [List.length_map,List.length_map,repD_one _ (by omega)]
 have el:=e_left hp
 have em:=e_moves Hh sm
 unfold hD psD at el em
 walk_at "e0"
 rw [el]
 walk_at "e0"
 simp only [gIoRet,ioN,ioC,ioO]
 walk_at "e0"
 rw [em]
 walk_at "e0"
 simp only [limD] at h3
 rw [h3]
 walk_at "e0"
noncomputable def flowL (L : List Int) (k : Nat) : List Int:=(List.range k).map fun i=>lf L (2 * i + 1)
theorem e_best_of {T : Int} (Hh : Hall n ps) (sm : Small n ps) (hst : st < n) (hg : g < n) (hne : st ≠ g) {r : List (Int × Int)} {left'' : Lf} (R : Runs n ps st g (some T) (left0 ps) r left'') : ∃ L'',lf L'' = left''∧L''.length = 2 * ps.length∧Pg.m_best_flow [.int n,hD ps,.int st,.int g,.int T] = some (true,.list ((flowL L'' ps.length).map .int)):=by
 have S0 : St n ps st (left0 ps) (fun v=>if v = st then 0 else 1):=st0_ok Hh
 have hp : ps.length≤1000000:=by have:=sm.p1; omega
 have hp1:=sm.p1
 have R':=R
 rw [← leftL_lf] at R' S0
 obtain ⟨L'',h1,h2,h3⟩:=e_push_all Hh sm.n1 hp hst hg hne R' (leftL_len ps) S0 (run_small Hh hst hne sm.vs R).2
 refine ⟨L'',h1,h2,?_⟩
 unfold Pg.m_best_flow Pg.g_best_flow
 walk_at "e0"
 unfold hD psD
 walk_at "e0"
 rw [List.length_map,List.length_map,repD_one _ (by omega)]
 have el:=e_left hp
 have em:=e_moves Hh sm
 unfold hD psD at el em
 walk_at "e0"
 rw [el]
 walk_at "e0"
 simp only [gIoEx,ioN,ioC,ioO]
 walk_at "e0"
 rw [em]
 walk_at "e0"
 simp only [limD] at h3
 rw [h3]
 walk_at "e0"
 rw [List.length_map,List.length_map,if_pos (by omega)]
 walk_at "e0"
 rw [bLCW_s (by rw [rangeD_length]; exact size_big (by omega))]
 rw [lcD_map (f:=fun d=>match d with | .int i=>.int (lf L'' (2 * i.toNat + 1)) | _=>.none) (by
  intro d hd
  obtain ⟨j,hj⟩:=List.mem_iff_getElem?.mp hd
  obtain ⟨hj,rfl⟩:=rangeD_get hj
  rw [Int.toNat_natCast] at hj
  refine ⟨[some (Tg.fr,.int (0 + j)),some (Tg.fr,.list (L''.map .int))],?_,rfl,?_⟩
  ·walk_at "e0"
  ·walk_at "e0"
   rw [mulD_i (by decide) (by decide) (by omega) (by omega)]
   walk_at "e0"
   have e : (2 : Int) * (0 + j) + 1 = ((2 * j + 1 : Nat) : Int):=by omega
   rw [e,at_lf (by omega)]
   have e2 : (0 + (j : Int)).toNat = j:=by omega
   simp only [e2]
   walk_at "e0")]
 walk_at "e0"
 congr 3
 unfold rangeD flowL
 rw [List.map_map,List.map_map,Int.toNat_natCast]
 exact List.map_congr_left fun i _=>by
  have e2 : (0 + (i : Int)).toNat = i:=by omega
  simp only [Function.comp,e2]
theorem e_best {T : Int} (Hh : Hall n ps) (sm : Small n ps) (hst : st < n) (hg : g < n) (hne : st ≠ g) : ∃ r L'',Runs n ps st g (some T) (left0 ps) r (lf L'')∧L''.length = 2 * ps.length∧Pg.m_best_flow [.int n,hD ps,.int st,.int g,.int T] = some (true,.list ((flowL L'' ps.length).map .int)):=by
 have S0 : St n ps st (left0 ps) (fun v=>if v = st then 0 else 1):=st0_ok Hh
 obtain ⟨r,left'',R⟩:=runs_ex (lim:=some T) Hh hst hg hne S0
 obtain ⟨L'',rfl,h2,h3⟩:=e_best_of Hh sm hst hg hne R
 exact ⟨r,L'',R,h2,h3⟩
noncomputable def amI (s : Int) : List Pq→List Int→Int
 | q :: r,f :: fs=>(if q.1 = s then f else 0) - (if q.2.1 = s then f else 0) + amI s r fs
 | _,_=>0
end PM
namespace LH
open PySem L2 VM Sp PM
noncomputable def cellI (ns : List Int) (k : Int) : Int:=ns.getD k.toNat 0
theorem atI_ints {ns : List Int} {k : Int} (h0 : 0≤k) (h1 : k < ns.length) : atI (ns.map PyData.int) k = some (.int (cellI ns k)):=by
 obtain ⟨j,rfl⟩ : ∃ j : Nat,k = j:=⟨k.toNat,by omega⟩
 have hj : j < ns.length:=by omega
 refine atI_nat ?_
 simp [hj,cellI]
theorem cellI_far {ns : List Int} {k : Int} (h0 : 0≤k) (h : ¬ k < ns.length) : cellI ns k = 0:=by
 unfold cellI
 rw [List.getD_eq_getElem?_getD,List.getElem?_eq_none (by omega)]
 rfl
theorem mod_in (a : Int) {b : Int} (h : 0 < b) : 0≤a % b∧a % b < b:=⟨Int.emod_nonneg a (by omega),Int.emod_lt_of_pos a h⟩
theorem mod_next {a d m : Int} (ha : 0≤a∧a < m) (hd : 1≤d∧d≤m - 1) : 0≤(a + d) % m∧(a + d) % m < m∧(a + d) % m ≠ a:=by
 have h1:=Int.emod_nonneg (a + d) (show m ≠ 0 by omega)
 have h2:=Int.emod_lt_of_pos (a + d) (show 0 < m by omega)
 refine ⟨h1,h2,?_⟩
 by_cases h : a + d < m
 ·rw [Int.emod_eq_of_lt (by omega) h]; omega
 ·have e : (a + d) % m = a + d - m:=by
   rw [← Int.emod_eq_of_lt (show 0≤a + d - m by omega) (show a + d - m < m by omega),Int.sub_emod_right]
  rw [e]; omega
theorem next_mod (x : Int) {m : Int} (h : 2≤m) : (x + 1) % m ≠ x % m:=by
 have a:=mod_in x (show 0 < m by omega)
 have:=mod_next (a:=x % m) (d:=1) (m:=m) a (by omega)
 rw [Int.emod_add_emod] at this
 exact this.2.2
structure PqOk (m B C : Int) (q : Pq) : Prop where
 a0 : 0≤q.1
 a1 : q.1 < m
 b0 : 0≤q.2.1
 b1 : q.2.1 < m
 ne : q.1 ≠ q.2.1
 w1 : 1≤q.2.2.1
 wB : q.2.2.1≤B
 l1 : 1≤q.2.2.2
 lC : q.2.2.2≤C
theorem PqOk.mono {m B B' C : Int} {q : Pq} (h : PqOk m B C q) (hB : B≤B') : PqOk m B' C q:=⟨h.a0,h.a1,h.b0,h.b1,h.ne,h.w1,by have:=h.wB; omega,h.l1,h.lC⟩
noncomputable def ofPq (q : Pq) : Pas:=⟨q.1.toNat,q.2.1.toNat,q.2.2.1,q.2.2.2⟩
theorem to_of {m B C : Int} {q : Pq} (h : PqOk m B C q) : toPq (ofPq q) = q:=by
 obtain ⟨a,b,w,l⟩:=q
 have:=h.a0
 have:=h.b0
 simp only [toPq,ofPq] at *
 simp
 omega
theorem to_of_all {m B C : Int} {qs : List Pq} (h : ∀ q∈qs,PqOk m B C q) : (qs.map ofPq).map toPq = qs:=by
 rw [List.map_map]
 conv=>rhs; rw [← List.map_id qs]
 exact List.map_congr_left fun q hq=>to_of (h q hq)
structure HallB (n : Nat) (ps : List Pas) (B C : Int) : Prop extends Hall n ps where
 wB : ∀ q∈ps,q.w≤B
 lC : ∀ q∈ps,q.l≤C
theorem hall_of {m B C : Int} {qs : List Pq} (h : ∀ q∈qs,PqOk m B C q) : HallB m.toNat (qs.map ofPq) B C:=by
 have each : ∀ p∈qs.map ofPq,∃ q,PqOk m B C q∧p = ofPq q:=fun p hp=>by
  obtain ⟨q,hq,rfl⟩:=List.mem_map.mp hp
  exact ⟨q,h q hq,rfl⟩
 refine ⟨⟨fun p hp=>?_,fun p hp=>?_,fun p hp=>?_,fun p hp=>?_,fun p hp=>?_⟩,fun p hp=>?_,fun p hp=>?_⟩ <;> (obtain ⟨⟨a,b,w,l⟩,k,rfl⟩:=each p hp; have:=k.a0; have:=k.a1; have:=k.b0; have:=k.b1; have:=k.ne; have:=k.w1; have:=k.wB; have:=k.l1; have:=k.lC; simp only [ofPq] at *; omega)
end LH
namespace LH
open PySem L2 VM Sp PM
theorem sIx_two {n : Nat} {i j : Int} (h0 : 0≤i) (hij : i≤j) : HT.sIx n n (some j) - HT.sIx n 0 (some i)≤(j - i).toNat:=by
 unfold HT.sIx
 simp only
 rw [if_neg (by omega),if_neg (by omega)]
 omega
theorem depth_psD (ps : List Pq) : (psD ps).depth≤60:=by
 have key : ∀ ps : List Pq,PyData.depthAll (ps.map pD)≤2:=fun ps=>by
  induction ps with
  | nil=>simp [PyData.depthAll]
  | cons q ps ih =>
   have : (pD q).depth≤2:=by simp [pD,PyData.depth,PyData.depthAll]
   simp only [List.map_cons,PyData.depthAll]
   omega
 have:=key ps
 show PyData.depth (.list _)≤60
 simp only [PyData.depth]
 omega
theorem can_psD (ps : List Pq) : (psD ps).canLay0 = true:=by
 have key : ∀ ps : List Pq,PyData.canLayAll0 (ps.map pD) = true:=fun ps=>by
  induction ps with
  | nil=>rfl
  | cons q ps ih=>simp only [List.map_cons,PyData.canLayAll0,ih,Bool.and_true]; rfl
 show PyData.canLay0 (.list _) = true
 simp only [PyData.canLay0]
 exact key ps
theorem ne_psD (ps : List Pq) : neD (psD ps) (psD ps) = some (.bool false):=by
 unfold neD
 rw [if_pos (depth_psD ps),SeqAt.eqv_refl _ (can_psD ps)]
 rfl
end LH
namespace LH
open PySem L2 VM Sp PM
noncomputable def zs (F : Pas→Int→Int) : List Pas→List Int→Int
 | q :: r,f :: fs=>F q f + zs F r fs
 | _,_=>0
theorem zs_flow (F : Pas→Int→Int) (L : List Int) : ∀ (ps : List Pas) (k : Nat),zs F ps ((List.range' k ps.length).map fun i=>lf L (2 * i + 1)) = sumP (fun i q=>F q (lf L (2 * i + 1))) k ps
 | [],_=>rfl
 | q :: r,k=>by
  rw [List.length_cons,List.range'_succ,List.map_cons,zs,sumP,zs_flow F L r (k + 1)]
theorem zs_flowL (F : Pas→Int→Int) (L : List Int) (ps : List Pas) : zs F ps (flowL L ps.length) = sumP (fun i q=>F q (lf L (2 * i + 1))) 0 ps:=by
 unfold flowL
 rw [List.range_eq_range']
 exact zs_flow F L ps 0
structure FlowOk (n : Nat) (ps : List Pas) (st g : Nat) (T : Int) (fl : List Int) (M C : Int) : Prop where
 len : fl.length = ps.length
 lo : ∀ (i : Nat) q f,ps[i]? = some q→fl[i]? = some f→0≤f∧f≤q.w
 net : ∀ z : Nat,zs (fun q f=>f * (Sp.b2 (q.b = z) - Sp.b2 (q.a = z))) ps fl = M * (Sp.b2 (g = z) - Sp.b2 (st = z))
 cost : zs (fun q f=>f * q.l) ps fl = C
 M0 : 0≤M
 W0 : 0≤M * (T + 1) - C
 price : ∃ π : Nat→Int,π st = 0∧T + 1≤π g∧(0 < M→π g = T + 1)∧∀ (i : Nat) q f,ps[i]? = some q→fl[i]? = some f→(f < q.w→π q.b≤π q.a + q.l)∧(0 < f→π q.a≤π q.b - q.l)
theorem many_pos : ∀ {r : List (Int × Int)},(∀ x∈r,0 < x.2)→0≤many r
 | [],_=>by simp [many]
 | x :: r,h=>by
  have a:=h x List.mem_cons_self
  have b:=many_pos (r:=r) fun y hy=>h y (List.mem_cons_of_mem _ hy)
  have e : many (x :: r) = x.2 + many r:=by simp [many]
  omega
theorem worth_pos {T : Int} : ∀ {r : List (Int × Int)},(∀ x∈r,0 < x.2∧x.1≤T)→0≤many r * (T + 1) - spent r
 | [],_=>by simp [many,spent]
 | x :: r,h=>by
  have a:=h x List.mem_cons_self
  have b:=worth_pos (T:=T) (r:=r) fun y hy=>h y (List.mem_cons_of_mem _ hy)
  have e : many (x :: r) = x.2 + many r:=by simp [many]
  have e2 : spent (x :: r) = x.2 * x.1 + spent r:=by simp [spent]
  have : 0≤x.2 * (T + 1 - x.1):=Int.mul_nonneg (by omega) (by omega)
  rw [e,e2,Int.add_mul]
  rw [Int.mul_sub] at this
  omega
theorem flow_at {L : List Int} {k i : Nat} {f : Int} (h : (flowL L k)[i]? = some f) : i < k∧f = lf L (2 * i + 1):=by
 unfold flowL at h
 rw [List.getElem?_map] at h
 by_cases hi : i < k
 ·rw [List.getElem?_range hi] at h
  exact ⟨hi,by simpa using h.symm⟩
 ·rw [List.getElem?_eq_none (by simp; omega)] at h; cases h
variable {n : Nat} {ps : List Pas} {st g : Nat} {T : Int}
theorem net0 (ps : List Pas) (z : Nat) : net ps (left0 ps) z = 0:=by
 unfold net
 rw [sumP_congr (g:=fun _ _=>0) ps 0 fun i q _=>by rw [left0_odd]; simp,sumP_zero]
theorem cost0 (ps : List Pas) : cost ps (left0 ps) = 0:=by
 unfold cost
 rw [sumP_congr (g:=fun _ _=>0) ps 0 fun i q _=>by rw [left0_odd]; simp,sumP_zero]
theorem flow_of_runs (Hh : Hall n ps) (hst : st < n) (hg : g < n) (hne : st ≠ g) {r : List (Int × Int)} {L : List Int} (R : Runs n ps st g (some T) (left0 ps) r (lf L)) : FlowOk n ps st g T (flowL L ps.length) (many r) (spent r):=by
 have S0 : St n ps st (left0 ps) (fun v=>if v = st then 0 else 1):=st0_ok Hh
 obtain ⟨⟨π1,S1⟩,hnet,hcost,hr,_⟩:=runs_ok Hh hst R S0
 obtain ⟨π',f1,f2,f3,f4⟩:=runs_price Hh hst hg R S0
 have pos : ∀ x∈r,0 < x.2∧x.1≤T:=fun x hx=>⟨(hr x hx).1,(hr x hx).2.2 T rfl⟩
 refine ⟨by simp [flowL],fun i q f e1 e2=>?_,fun z=>?_,?_,many_pos fun x hx=>(pos x hx).1,worth_pos pos,π',f2,f3,fun hM=>f4 (.inl ?_),fun i q f e1 e2=>?_⟩
 ·obtain ⟨_,rfl⟩:=flow_at e2
  have h1:=S1.laid.sum i q e1
  have h2:=S1.laid.nn (2 * i)
  have h3:=S1.laid.nn (2 * i + 1)
  omega
 ·rw [zs_flowL]
  have:=hnet z
  rw [net0,Int.zero_add] at this
  exact this
 ·rw [zs_flowL]
  rw [cost0,Int.zero_add] at hcost
  exact hcost
 ·intro z; rw [z] at hM; simp [many] at hM
 ·obtain ⟨_,rfl⟩:=flow_at e2
  have h1:=S1.laid.sum i q e1
  refine ⟨fun h=>?_,fun h=>?_⟩
  ·have:=f1.pay q.a (2 * i,q.b,q.l) (Hh.ra q (List.mem_of_getElem? e1)) (mem_outOf.mpr ⟨i,q,e1,.inl ⟨rfl,rfl⟩⟩) (by show 0 < lf L (2 * i); omega)
   exact this
  ·have:=f1.pay q.b (2 * i + 1,q.a,-q.l) (Hh.rb q (List.mem_of_getElem? e1)) (mem_outOf.mpr ⟨i,q,e1,.inr ⟨rfl,rfl⟩⟩) h
   have this' : π' q.a≤π' q.b + -q.l:=this
   omega
theorem small_of {n : Nat} {ps : List Pas} (hn : n≤1000) (hp : ps.length≤15) : Small n ps:=⟨hn,by omega,vals ps,by rw [vals_len]; exact Nat.le_trans (Nat.pow_le_pow_right (by decide) hp) (by decide),fun _ h=>h⟩
theorem amI_zs (s : Nat) : ∀ (ps : List Pas) (fl : List Int),amI (s : Int) (ps.map toPq) fl = zs (fun q f=>f * (Sp.b2 (q.a = s) - Sp.b2 (q.b = s))) ps fl
 | [],_=>by simp [amI,zs]
 | _ :: _,[]=>by simp [amI,zs]
 | q :: r,f :: fs=>by
  rw [List.map_cons,amI,zs,amI_zs s r fs]
  have ea : ((toPq q).1 = (s : Int)) ↔ (q.a = s):=by show ((q.a : Int) = (s : Int)) ↔ _; omega
  have eb : ((toPq q).2.1 = (s : Int)) ↔ (q.b = s):=by show ((q.b : Int) = (s : Int)) ↔ _; omega
  simp only [ea,eb,Sp.b2]
  congr 1
  by_cases h1 : q.a = s <;> by_cases h2 : q.b = s <;> simp [h1,h2]
theorem zs_neg (s : Nat) : ∀ (ps : List Pas) (fl : List Int),zs (fun q f=>f * (Sp.b2 (q.a = s) - Sp.b2 (q.b = s))) ps fl = - zs (fun q f=>f * (Sp.b2 (q.b = s) - Sp.b2 (q.a = s))) ps fl
 | [],_=>by simp [zs]
 | _ :: _,[]=>by simp [zs]
 | q :: r,f :: fs=>by
  rw [zs,zs,zs_neg s r fs,Int.neg_add,← Int.mul_neg]
  congr 2
  omega
theorem zs_abs {F : Pas→Int→Int} {B : Int} (hB : 0≤B) : ∀ (ps : List Pas) (fl : List Int),(∀ q∈ps,∀ f∈fl,-B≤F q f∧F q f≤B)→-(B * ps.length)≤zs F ps fl∧zs F ps fl≤B * ps.length
 | [],_,_=>by simp [zs]
 | q :: r,[],_=>by
  have : 0≤B * ((q :: r).length : Int):=Int.mul_nonneg hB (by omega)
  simp only [zs]; omega
 | q :: r,f :: fs,h=>by
  have ih:=zs_abs hB r fs fun q' hq f' hf=>h q' (List.mem_cons_of_mem _ hq) f' (List.mem_cons_of_mem _ hf)
  have h1:=h q List.mem_cons_self f List.mem_cons_self
  rw [zs,List.length_cons]
  have e : B * ((r.length + 1 : Nat) : Int) = B * r.length + B:=by rw [Int.natCast_add,Int.mul_add]; simp
  rw [e]
  omega
end LH
namespace LH
open PySem L2 VM Sp PM
end LH
namespace LH
open PySem L2 VM Sp PM
variable {n : Nat} {ps : List Pas} {st g : Nat} {T : Int}
theorem runs_end {left : Lf} {r : List (Int × Int)} {left'' : Lf} (R : Runs n ps st g none left r left'') : ∃ lab,Found n ps st left'' lab∧lab[g]? = some none:=by
 induction R with
 | none hF hn=>exact ⟨_,hF,hn⟩
 | far _ _ e9 _=>cases e9
 | go _ _ _ ih=>exact ih
theorem runs_all {left : Lf} {r : List (Int × Int)} {left'' : Lf} (R : Runs n ps st g none left r left'') (h : ∀ x∈r,x.1≤T) : Runs n ps st g (some T) left r left'':=by
 induction R with
 | none hF hn=>exact .none hF hn
 | far _ _ e9 _=>cases e9
 | go P _ _ ih=>exact .go P (fun T' e=>by cases e; exact h _ List.mem_cons_self) (ih fun x hx=>h x (List.mem_cons_of_mem _ hx))
theorem vals_le : ∀ {ps : List Pas},(∀ q∈ps,0≤q.l)→∀ v∈vals ps,v≤(ps.map Pas.l).sum
 | [],_,v,hv=>by
  have : v = 0:=by simpa [vals] using hv
  simp [this]
 | q :: r,h,v,hv=>by
  have h0:=h q List.mem_cons_self
  have ih:=vals_le (ps:=r) fun q' hq=>h q' (List.mem_cons_of_mem _ hq)
  rw [vals,List.mem_append,List.mem_append,List.mem_map,List.mem_map] at hv
  rw [List.map_cons,List.sum_cons]
  rcases hv with ⟨x,hx,rfl⟩ | hx | ⟨x,hx,rfl⟩
  ·have:=ih x hx; omega
  ·have:=ih v hx; omega
  ·have:=ih x hx; omega
theorem worth_wsum (T : Int) : ∀ r : List (Int × Int),many r * (T + 1) - spent r = wsum (fun l=>T + 1 - l) r
 | []=>by simp [many,spent,wsum]
 | x :: r=>by
  have ih:=worth_wsum T r
  have e : many (x :: r) = x.2 + many r:=by simp [many]
  have e2 : spent (x :: r) = x.2 * x.1 + spent r:=by simp [spent]
  rw [e,e2,wsum_cons,← ih,Int.add_mul,Int.mul_sub]
  omega
theorem many_wsum (r : List (Int × Int)) : many r = wsum (fun _=>1) r:=by simp [many,wsum]
theorem zs_worth (st : Nat) (T : Int) : ∀ (ps : List Pas) (fl : List Int),zs (fun q f=>f * ((Sp.b2 (q.a = st) - Sp.b2 (q.b = st)) * (T + 1) - q.l)) ps fl = zs (fun q f=>f * (Sp.b2 (q.a = st) - Sp.b2 (q.b = st))) ps fl * (T + 1) - zs (fun q f=>f * q.l) ps fl
 | [],_=>by simp [zs]
 | _ :: _,[]=>by simp [zs]
 | q :: r,f :: fs=>by
  rw [zs,zs,zs,zs_worth st T r fs,Int.add_mul,Int.mul_sub,Int.mul_assoc]
  omega
theorem am_of (hne : st ≠ g) {fl : List Int} {M C : Int} (F : FlowOk n ps st g T fl M C) : zs (fun q f=>f * (Sp.b2 (q.a = st) - Sp.b2 (q.b = st))) ps fl = M:=by
 rw [zs_neg,F.net st]
 unfold Sp.b2
 rw [if_pos rfl,if_neg (fun z=>hne z.symm)]
 omega
noncomputable def lbB (N : List Bool) (i : Nat) : Bool:=N.getD i false
theorem lbB_set {N : List Bool} {i : Nat} (h : i < N.length) (j : Nat) : lbB (N.set i true) j = if j = i then true else lbB N j:=by
 unfold lbB
 rw [List.getD_eq_getElem?_getD,List.getD_eq_getElem?_getD,List.getElem?_set]
 by_cases e : i = j
 ·subst e; simp [h]
 ·rw [if_neg e,if_neg (fun z=>e z.symm)]
theorem set_same {N : List Bool} {i : Nat} (h : lbB N i = true) : N.set i true = N:=by
 unfold lbB at h
 by_cases hi : i < N.length
 ·have e : N[i] = true:=by simpa [hi] using h
  rw [← e]; simp
 ·rw [List.set_eq_of_length_le (by omega)]
theorem set_count {N : List Bool} {i : Nat} (hi : i < N.length) (h : lbB N i = false) : (N.set i true).count true = N.count true + 1:=by
 unfold lbB at h
 have e : N[i] = false:=by simpa [hi] using h
 rw [List.count_set hi]
 simp [e]
noncomputable def nearA (N : List Bool) (q : Pas) (f : Int) : List Bool:=if lbB N q.a = true∧f < q.w then N.set q.b true else N
noncomputable def nearB (N : List Bool) (q : Pas) (f : Int) : List Bool:=if lbB N q.b = true∧0 < f then N.set q.a true else N
noncomputable def nearS : List Pas→List Int→List Bool→List Bool
 | q :: r,f :: fs,N=>nearS r fs (nearB (nearA N q f) q f)
 | _,_,N=>N
noncomputable def nearR (ps : List Pas) (fl : List Int) : Nat→List Bool→List Bool
 | 0,N=>N
 | k + 1,N=>nearS ps fl (nearR ps fl k N)
theorem nearA_len (N : List Bool) (q : Pas) (f : Int) : (nearA N q f).length = N.length:=by unfold nearA; split <;> simp
theorem nearB_len (N : List Bool) (q : Pas) (f : Int) : (nearB N q f).length = N.length:=by unfold nearB; split <;> simp
theorem nearS_len : ∀ (ps : List Pas) (fl : List Int) (N : List Bool),(nearS ps fl N).length = N.length
 | [],_,_=>rfl
 | _ :: _,[],_=>rfl
 | q :: r,f :: fs,N=>by rw [nearS,nearS_len,nearB_len,nearA_len]
theorem nearR_len (ps : List Pas) (fl : List Int) (N : List Bool) : ∀ k,(nearR ps fl k N).length = N.length
 | 0=>rfl
 | k + 1=>by rw [nearR,nearS_len,nearR_len]
noncomputable def Closed (ps : List Pas) (fl : List Int) (N : List Bool) : Prop:=∀ (i : Nat) q f,ps[i]? = some q→fl[i]? = some f→(lbB N q.a = true→f < q.w→lbB N q.b = true)∧(lbB N q.b = true→0 < f→lbB N q.a = true)
theorem nearA_up {N : List Bool} {q : Pas} {f : Int} (hb : q.b < N.length) : (nearA N q f = N∧(lbB N q.a = true→f < q.w→lbB N q.b = true))∨N.count true < (nearA N q f).count true:=by
 unfold nearA
 by_cases h : lbB N q.a = true∧f < q.w
 ·rw [if_pos h]
  cases e : lbB N q.b with
  | true=>exact .inl ⟨set_same e,fun _ _=>rfl⟩
  | false=>have:=set_count hb e; exact .inr (by omega)
 ·rw [if_neg h]
  exact .inl ⟨rfl,fun a b=>absurd ⟨a,b⟩ h⟩
theorem nearB_up {N : List Bool} {q : Pas} {f : Int} (ha : q.a < N.length) : (nearB N q f = N∧(lbB N q.b = true→0 < f→lbB N q.a = true))∨N.count true < (nearB N q f).count true:=by
 unfold nearB
 by_cases h : lbB N q.b = true∧0 < f
 ·rw [if_pos h]
  cases e : lbB N q.a with
  | true=>exact .inl ⟨set_same e,fun _ _=>rfl⟩
  | false=>have:=set_count ha e; exact .inr (by omega)
 ·rw [if_neg h]
  exact .inl ⟨rfl,fun a b=>absurd ⟨a,b⟩ h⟩
theorem nearS_up : ∀ {ps : List Pas} {fl : List Int} {N : List Bool},(∀ q∈ps,q.a < N.length∧q.b < N.length)→(nearS ps fl N = N∧Closed ps fl N)∨N.count true < (nearS ps fl N).count true
 | [],_,_,_=>.inl ⟨rfl,fun i q f e=>by simp at e⟩
 | _ :: _,[],_,_=>.inl ⟨rfl,fun i q f _ e=>by simp at e⟩
 | q :: r,f :: fs,N,h=>by
  have h0:=h q List.mem_cons_self
  rw [nearS]
  have ih:=nearS_up (ps:=r) (fl:=fs) (N:=nearB (nearA N q f) q f) fun q' hq=>by
   rw [nearB_len,nearA_len]; exact h q' (List.mem_cons_of_mem _ hq)
  have a:=nearA_up (f:=f) h0.2
  have b:=nearB_up (N:=nearA N q f) (f:=f) (q:=q) (by rw [nearA_len]; exact h0.1)
  rcases a with ⟨a1,a2⟩ | a
  ·rw [a1] at b ih ⊢
   rcases b with ⟨b1,b2⟩ | b
   ·rw [b1] at ih ⊢
    rcases ih with ⟨c1,c2⟩ | c
    ·refine .inl ⟨c1,fun i q' f' e1 e2=>?_⟩
     cases i with
     | zero=>cases e1; cases e2; exact ⟨a2,b2⟩
     | succ j=>exact c2 j q' f' (by simpa using e1) (by simpa using e2)
    ·exact .inr c
   ·rcases ih with ⟨c1,_⟩ | c
    ·rw [c1]; exact .inr b
    ·exact .inr (by omega)
  ·have b' : (nearA N q f).count true≤(nearB (nearA N q f) q f).count true:=by
    rcases b with ⟨b1,_⟩ | b
    ·rw [b1]; exact Nat.le_refl _
    ·omega
   rcases ih with ⟨c1,_⟩ | c
   ·rw [c1]; exact .inr (by omega)
   ·exact .inr (by omega)
theorem nearR_closed {N : List Bool} {fl : List Int} (h : ∀ q∈ps,q.a < N.length∧q.b < N.length) : ∀ k,Closed ps fl (nearR ps fl k N)∨N.count true + k≤(nearR ps fl k N).count true
 | 0=>.inr (Nat.le_refl _)
 | k + 1=>by
  rw [nearR]
  have up:=nearS_up (ps:=ps) (fl:=fl) (N:=nearR ps fl k N) fun q hq=>by rw [nearR_len]; exact h q hq
  rcases nearR_closed h k with a | a
  ·rcases up with ⟨e,_⟩ | u
   ·rw [e]; exact .inl a
   ·exact .inl (by
     exfalso
     have stay : ∀ (ps : List Pas) (fl : List Int) (N : List Bool),Closed ps fl N→nearS ps fl N = N:=fun ps=>by
      induction ps with
      | nil=>intro fl N _; rfl
      | cons q r ih =>
       intro fl N c
       cases fl with
       | nil=>rfl
       | cons f fs =>
        have c0:=c 0 q f rfl rfl
        have eA : nearA N q f = N:=by
         unfold nearA
         split
         ·rename_i z; exact set_same (c0.1 z.1 z.2)
         ·rfl
        have eB : nearB N q f = N:=by
         unfold nearB
         split
         ·rename_i z; exact set_same (c0.2 z.1 z.2)
         ·rfl
        rw [nearS,eA,eB]
        exact ih fs N fun i q' f' e1 e2=>c (i + 1) q' f' (by simpa using e1) (by simpa using e2)
     rw [stay _ _ _ a] at u
     omega)
  ·rcases up with ⟨e,c⟩ | u
   ·rw [e]; exact .inl c
   ·exact .inr (by omega)
theorem nearS_keep {P : Nat→Prop} : ∀ {ps : List Pas} {fl : List Int} {N : List Bool},(∀ q∈ps,q.a < N.length∧q.b < N.length)→(∀ (i : Nat) q f,ps[i]? = some q→fl[i]? = some f→(P q.a→f < q.w→P q.b)∧(P q.b→0 < f→P q.a))→(∀ v,lbB N v = true→P v)→∀ v,lbB (nearS ps fl N) v = true→P v
 | [],_,_,_,_,hN=>hN
 | _ :: _,[],_,_,_,hN=>hN
 | q :: r,f :: fs,N,h,hk,hN=>by
  have h0:=h q List.mem_cons_self
  have k0:=hk 0 q f rfl rfl
  rw [nearS]
  have a : ∀ v,lbB (nearA N q f) v = true→P v:=fun v hv=>by
   unfold nearA at hv
   split at hv
   ·rename_i z
    rw [lbB_set h0.2] at hv
    split at hv
    ·rename_i e; rw [e]; exact k0.1 (hN _ z.1) z.2
    ·exact hN v hv
   ·exact hN v hv
  have b : ∀ v,lbB (nearB (nearA N q f) q f) v = true→P v:=fun v hv=>by
   unfold nearB at hv
   split at hv
   ·rename_i z
    rw [lbB_set (by rw [nearA_len]; exact h0.1)] at hv
    split at hv
    ·rename_i e; rw [e]; exact k0.2 (a _ z.1) z.2
    ·exact a v hv
   ·exact a v hv
  exact nearS_keep (fun q' hq=>by rw [nearB_len,nearA_len]; exact h q' (List.mem_cons_of_mem _ hq)) (fun i q' f' e1 e2=>hk (i + 1) q' f' (by simpa using e1) (by simpa using e2)) b
theorem nearS_grow : ∀ {ps : List Pas} {fl : List Int} {N : List Bool},(∀ q∈ps,q.a < N.length∧q.b < N.length)→∀ v,lbB N v = true→lbB (nearS ps fl N) v = true
 | [],_,_,_,_,hv=>hv
 | _ :: _,[],_,_,_,hv=>hv
 | q :: r,f :: fs,N,h,v,hv=>by
  have h0:=h q List.mem_cons_self
  rw [nearS]
  refine nearS_grow (fun q' hq=>by rw [nearB_len,nearA_len]; exact h q' (List.mem_cons_of_mem _ hq)) v ?_
  have a : lbB (nearA N q f) v = true:=by
   unfold nearA
   split
   ·rw [lbB_set h0.2]; split
    ·rfl
    ·exact hv
   ·exact hv
  unfold nearB
  split
  ·rw [lbB_set (by rw [nearA_len]; exact h0.1)]; split
   ·rfl
   ·exact a
  ·exact a
theorem nearR_keep {P : Nat→Prop} {N : List Bool} {fl : List Int} (h : ∀ q∈ps,q.a < N.length∧q.b < N.length) (hk : ∀ (i : Nat) q f,ps[i]? = some q→fl[i]? = some f→(P q.a→f < q.w→P q.b)∧(P q.b→0 < f→P q.a)) (hN : ∀ v,lbB N v = true→P v) : ∀ k v,lbB (nearR ps fl k N) v = true→P v
 | 0=>hN
 | k + 1=>nearS_keep (fun q hq=>by rw [nearR_len]; exact h q hq) hk (nearR_keep h hk hN k)
theorem nearR_grow {N : List Bool} {fl : List Int} (h : ∀ q∈ps,q.a < N.length∧q.b < N.length) : ∀ k v,lbB N v = true→lbB (nearR ps fl k N) v = true
 | 0,_,hv=>hv
 | k + 1,v,hv=>nearS_grow (fun q hq=>by rw [nearR_len]; exact h q hq) v (nearR_grow h k v hv)
theorem zs_sum (Z : List Nat) (c : Nat→Pas→Int) : ∀ (ps : List Pas) (fl : List Int),zs (fun q f=>f * (Z.map fun z=>c z q).sum) ps fl = (Z.map fun z=>zs (fun q f=>f * c z q) ps fl).sum
 | [],_=>by
  simp only [zs]
  induction Z with
  | nil=>rfl
  | cons z Z ih=>rw [List.map_cons,List.sum_cons,← ih]; rfl
 | _ :: _,[]=>by
  simp only [zs]
  induction Z with
  | nil=>rfl
  | cons z Z ih=>rw [List.map_cons,List.sum_cons,← ih]; rfl
 | q :: r,f :: fs=>by
  simp only [zs]
  rw [zs_sum Z c r fs]
  induction Z with
  | nil=>simp
  | cons z Z ih=>rw [List.map_cons,List.map_cons,List.map_cons,List.sum_cons,List.sum_cons,List.sum_cons,← ih,Int.mul_add]; omega
theorem sum_sub {α : Type} (F G : α→Int) : ∀ Z : List α,(Z.map fun z=>F z - G z).sum = (Z.map F).sum - (Z.map G).sum
 | []=>rfl
 | z :: Z=>by rw [List.map_cons,List.map_cons,List.map_cons,List.sum_cons,List.sum_cons,List.sum_cons,sum_sub F G Z]; omega
theorem sum_mul (M : Int) (F : Nat→Int) : ∀ Z : List Nat,(Z.map fun z=>M * F z).sum = M * (Z.map F).sum
 | []=>by simp
 | z :: Z=>by rw [List.map_cons,List.map_cons,List.sum_cons,List.sum_cons,sum_mul M F Z,Int.mul_add]
end LH
namespace LH
open PySem L2 VM Sp PM
variable {n : Nat} {ps : List Pas} {st g : Nat} {T : Int}
structure StepsOk (n : Nat) (ps : List Pas) (st g : Nat) (G : List (Int × Int)) : Prop where
 e : Pg.m_steps_of [.int n,hD ps,.int st,.int g] = some (true,.list (G.map stepD))
 rise : Rise G
 len : G.length≤16000000
 low : ∀ x∈G,x.1≤(ps.map Pas.l).sum
 flow : ∀ T : Int,∃ fl M C,FlowOk n ps st g T fl M C∧Pg.m_best_flow [.int n,hD ps,.int st,.int g,.int T] = some (true,.list (fl.map .int))∧M * (T + 1) - C = wsum (fun l=>if l≤T then T + 1 - l else 0) G
 last : ∀ T : Int,(ps.map Pas.l).sum≤T→∃ fl C,∃ P : Nat→Prop,FlowOk n ps st g T fl (many G) C∧Pg.m_best_flow [.int n,hD ps,.int st,.int g,.int T] = some (true,.list (fl.map .int))∧P st∧¬ P g∧∀ (i : Nat) q f,ps[i]? = some q→fl[i]? = some f→(P q.a→f < q.w→P q.b)∧(P q.b→0 < f→P q.a)
theorem steps_ok (Hh : Hall n ps) (sm : Small n ps) (hst : st < n) (hg : g < n) (hne : st ≠ g) : ∃ G,StepsOk n ps st g G:=by
 obtain ⟨r,left'',R,es⟩:=e_steps Hh sm hst hg hne
 have S0 : St n ps st (left0 ps) (fun v=>if v = st then 0 else 1):=st0_ok Hh
 obtain ⟨⟨π1,S1⟩,_,_,_,pw⟩:=runs_ok Hh hst R S0
 obtain ⟨pos,gl⟩:=run_small Hh hst hne sm.vs R
 have low : ∀ x∈r,x.1≤(ps.map Pas.l).sum:=fun x hx=>vals_le (fun q h=>by have:=Hh.l1 q h; omega) x.1 (runs_vals Hh hst R S0 x hx)
 refine ⟨grouped r,es,grouped_rise r [] pw pos ⟨.nil,fun _ h=>nomatch h⟩ (fun _ _ _ h=>nomatch h),?_,fun x hx=>?_,fun T=>?_,fun T hT=>?_⟩
 ·have:=gl r.length
  rwa [List.take_length] at this
 ·rcases fold_mem r [] x hx with ⟨z,hz,e⟩ | h
  ·rw [e]; exact low z hz
  ·cases h
 ·obtain ⟨left',R'⟩:=runs_cut (T:=T) R
  obtain ⟨L,rfl,_,e⟩:=e_best_of Hh sm hst hg hne R'
  refine ⟨_,_,_,flow_of_runs Hh hst hg hne R',e,?_⟩
  rw [worth_wsum,← wsum_cut r pw,grouped_sum]
 ·have R':=runs_all (T:=T) R fun x hx=>Int.le_trans (low x hx) hT
  obtain ⟨L,rfl,_,e⟩:=e_best_of Hh sm hst hg hne R'
  obtain ⟨lab,hF,hn⟩:=runs_end R
  have Tr:=found_tree S1.fit hst hF
  have eM : many (grouped r) = many r:=by rw [many_wsum,many_wsum,grouped_sum]
  have F:=flow_of_runs Hh hst hg hne R'
  rw [← eM] at F
  refine ⟨_,_,fun v=>∃ l,lab[v]? = some (some l),F,e,⟨_,Tr.st0⟩,fun ⟨l,h⟩=>?_,fun i q f e1 e2=>⟨fun ⟨l,h⟩ hf=>?_,fun ⟨l,h⟩ hf=>?_⟩⟩
  ·rw [hn] at h; cases h
  ·obtain ⟨_,rfl⟩:=flow_at e2
   have h1:=S1.laid.sum i q e1
   obtain ⟨lv,h2,_⟩:=Tr.rel q.a l (2 * i,q.b,q.l) h (mem_outOf.mpr ⟨i,q,e1,.inl ⟨rfl,rfl⟩⟩) (by show 0 < lf L (2 * i); omega)
   exact ⟨lv,h2⟩
  ·obtain ⟨_,rfl⟩:=flow_at e2
   obtain ⟨lv,h2,_⟩:=Tr.rel q.b l (2 * i + 1,q.a,-q.l) h (mem_outOf.mpr ⟨i,q,e1,.inr ⟨rfl,rfl⟩⟩) hf
   exact ⟨lv,h2⟩
theorem flow_mem {fl : List Int} {B : Int} (hl : fl.length = ps.length) (hw : ∀ q∈ps,q.w≤B) (h : ∀ (i : Nat) q f,ps[i]? = some q→fl[i]? = some f→0≤f∧f≤q.w) : ∀ f∈fl,0≤f∧f≤B:=fun f hf=>by
 obtain ⟨i,hi⟩:=List.mem_iff_getElem?.mp hf
 have hil : i < ps.length:=by
  rw [← hl]
  by_cases z : i < fl.length
  ·exact z
  ·rw [List.getElem?_eq_none (by omega)] at hi; cases hi
 have h1:=h i _ f (List.getElem?_eq_getElem hil) hi
 have h2:=hw _ (List.getElem_mem hil)
 omega
theorem am_le {fl : List Int} {B M C : Int} (hne : st ≠ g) (F : FlowOk n ps st g T fl M C) (hB : 0≤B) (hw : ∀ q∈ps,q.w≤B) : M≤B * ps.length:=by
 have hf:=flow_mem F.len hw F.lo
 have h:=zs_abs hB ps fl (F:=fun q f=>f * (Sp.b2 (q.a = st) - Sp.b2 (q.b = st))) (fun q _ f h=>by
  have:=hf f h
  unfold Sp.b2
  split <;> split <;> omega)
 rw [am_of hne F] at h
 exact h.2
theorem catD_s {xs ys : List PyData} (h : xs.length + ys.length≤16000000) : catD (.list xs) (.list ys) = some (.list (xs ++ ys)):=if_pos (Nat.le_of_lt (size_big h))
end LH
namespace LH
open PySem L2 VM Sp PM
variable {n : Nat} {ps : List Pas} {st g : Nat} {T : Int} {fl : List Int} {M C : Int}
theorem zs_scale (m : Int) (F : Pas→Int) : ∀ (ps : List Pas) (fl : List Int),zs (fun q f=>f * (m * F q)) ps fl = m * zs (fun q f=>f * F q) ps fl
 | [],_=>by simp [zs]
 | _ :: _,[]=>by simp [zs]
 | q :: r,f :: fs=>by
  rw [zs,zs,zs_scale m F r fs,Int.mul_add,← Int.mul_assoc,Int.mul_comm f m,Int.mul_assoc]
theorem sum_pick (μ : Nat→Int) (a : Nat) : ∀ {Z : List Nat},Z.Nodup→(Z.map fun z=>μ z * Sp.b2 (a = z)).sum = if a∈Z then μ a else 0
 | [],_=>by simp
 | z :: Z,nd=>by
  obtain ⟨h1,h2⟩:=List.nodup_cons.mp nd
  rw [List.map_cons,List.sum_cons,sum_pick μ a h2]
  unfold Sp.b2
  by_cases e : a = z
  ·subst e; simp [h1]
  ·simp [e]
theorem pick_room (μ : Nat→Int) {a : Nat} (h : a < n) : ((List.range n).map fun z=>μ z * Sp.b2 (a = z)).sum = μ a:=by
 rw [sum_pick μ a List.nodup_range,if_pos (List.mem_range.mpr h)]
theorem pick_pas (μ : Nat→Int) {a b : Nat} (ha : a < n) (hb : b < n) : ((List.range n).map fun z=>μ z * (Sp.b2 (b = z) - Sp.b2 (a = z))).sum = μ b - μ a:=by
 have e : ((List.range n).map fun z=>μ z * (Sp.b2 (b = z) - Sp.b2 (a = z))) = (List.range n).map fun z=>μ z * Sp.b2 (b = z) - μ z * Sp.b2 (a = z):=List.map_congr_left fun z _=>by rw [Int.mul_sub]
 rw [e,sum_sub,pick_room μ hb,pick_room μ ha]
theorem zs_congr_ps {F G : Pas→Int→Int} : ∀ {ps : List Pas} {fl : List Int},(∀ q∈ps,∀ f,F q f = G q f)→zs F ps fl = zs G ps fl
 | [],_,_=>by simp [zs]
 | _ :: _,[],_=>by simp [zs]
 | q :: r,f :: fs,h=>by rw [zs,zs,h q List.mem_cons_self,zs_congr_ps fun q' hq f'=>h q' (List.mem_cons_of_mem _ hq) f']
theorem zs_pot (Hh : Hall n ps) (hst : st < n) (hg : g < n) (net : ∀ z : Nat,zs (fun q f=>f * (Sp.b2 (q.b = z) - Sp.b2 (q.a = z))) ps fl = M * (Sp.b2 (g = z) - Sp.b2 (st = z))) (μ : Nat→Int) : zs (fun q f=>f * (μ q.b - μ q.a)) ps fl = M * (μ g - μ st):=by
 have e1 : zs (fun q f=>f * (μ q.b - μ q.a)) ps fl = zs (fun q f=>f * ((List.range n).map fun z=>μ z * (Sp.b2 (q.b = z) - Sp.b2 (q.a = z))).sum) ps fl:=zs_congr_ps fun q hq f=>by rw [pick_pas μ (Hh.ra q hq) (Hh.rb q hq)]
 rw [e1,zs_sum (List.range n) (fun z q=>μ z * (Sp.b2 (q.b = z) - Sp.b2 (q.a = z)))]
 have e2 : ((List.range n).map fun z=>zs (fun q f=>f * (μ z * (Sp.b2 (q.b = z) - Sp.b2 (q.a = z)))) ps fl) = (List.range n).map fun z=>M * (μ z * (Sp.b2 (g = z) - Sp.b2 (st = z))):=List.map_congr_left fun z _=>by
  rw [zs_scale (μ z) (fun q=>Sp.b2 (q.b = z) - Sp.b2 (q.a = z)),net z,← Int.mul_assoc,Int.mul_comm (μ z) M,Int.mul_assoc]
 rw [e2,sum_mul M,pick_pas μ hst hg]
theorem zs_sub2 (F G : Pas→Int→Int) : ∀ (ps : List Pas) (fl : List Int),zs (fun q f=>F q f - G q f) ps fl = zs F ps fl - zs G ps fl
 | [],_=>by simp [zs]
 | _ :: _,[]=>by simp [zs]
 | q :: r,f :: fs=>by rw [zs,zs,zs,zs_sub2 F G r fs]; omega
theorem zs_mono {F G : Pas→Int→Int} : ∀ {ps : List Pas} {fl : List Int},(∀ (i : Nat) q f,ps[i]? = some q→fl[i]? = some f→F q f≤G q f)→zs F ps fl≤zs G ps fl
 | [],_,_=>by simp [zs]
 | _ :: _,[],_=>by simp [zs]
 | q :: r,f :: fs,h=>by
  have h0:=h 0 q f rfl rfl
  have:=zs_mono (F:=F) (G:=G) (ps:=r) (fl:=fs) fun i q' f' a b=>h (i + 1) q' f' (by simpa using a) (by simpa using b)
  rw [zs,zs]
  omega
theorem zs_eq {F G : Pas→Int→Int} : ∀ {ps : List Pas} {fl : List Int},(∀ (i : Nat) q f,ps[i]? = some q→fl[i]? = some f→F q f = G q f)→zs F ps fl = zs G ps fl
 | [],_,_=>by simp [zs]
 | _ :: _,[],_=>by simp [zs]
 | q :: r,f :: fs,h=>by
  rw [zs,zs,h 0 q f rfl rfl,zs_eq fun i q' f' a b=>h (i + 1) q' f' (by simpa using a) (by simpa using b)]
noncomputable def over (μ : Nat→Int) (q : Pas) : Int:=if q.l < μ q.b - μ q.a then q.w * (μ q.b - μ q.a - q.l) else 0
theorem worth_pot (Hh : Hall n ps) (hst : st < n) (hg : g < n) (net : ∀ z : Nat,zs (fun q f=>f * (Sp.b2 (q.b = z) - Sp.b2 (q.a = z))) ps fl = M * (Sp.b2 (g = z) - Sp.b2 (st = z))) (cost : zs (fun q f=>f * q.l) ps fl = C) {μ : Nat→Int} (m0 : μ st = 0) (m1 : μ g = T + 1) : M * (T + 1) - C = zs (fun q f=>f * (μ q.b - μ q.a - q.l)) ps fl:=by
 have e:=zs_pot Hh hst hg net μ
 rw [m0,m1,Int.sub_zero] at e
 rw [← e,← cost,← zs_sub2]
 exact zs_congr_ps fun q _ f=>by rw [Int.mul_sub f (μ q.b - μ q.a) q.l]
theorem weak_dual (Hh : Hall n ps) (hst : st < n) (hg : g < n) (lo : ∀ (i : Nat) q f,ps[i]? = some q→fl[i]? = some f→0≤f∧f≤q.w) (net : ∀ z : Nat,zs (fun q f=>f * (Sp.b2 (q.b = z) - Sp.b2 (q.a = z))) ps fl = M * (Sp.b2 (g = z) - Sp.b2 (st = z))) (cost : zs (fun q f=>f * q.l) ps fl = C) {μ : Nat→Int} (m0 : μ st = 0) (m1 : μ g = T + 1) : M * (T + 1) - C≤zs (fun q _=>over μ q) ps fl:=by
 rw [worth_pot Hh hst hg net cost m0 m1]
 refine zs_mono fun i q f a b=>?_
 have h:=lo i q f a b
 unfold over
 split
 ·exact Int.mul_le_mul_of_nonneg_right h.2 (by omega)
 ·exact Int.mul_nonpos_of_nonneg_of_nonpos h.1 (by omega)
theorem strong_dual (Hh : Hall n ps) (hst : st < n) (hg : g < n) (lo : ∀ (i : Nat) q f,ps[i]? = some q→fl[i]? = some f→0≤f∧f≤q.w) (net : ∀ z : Nat,zs (fun q f=>f * (Sp.b2 (q.b = z) - Sp.b2 (q.a = z))) ps fl = M * (Sp.b2 (g = z) - Sp.b2 (st = z))) (cost : zs (fun q f=>f * q.l) ps fl = C) {μ : Nat→Int} (m0 : μ st = 0) (m1 : μ g = T + 1) (fit : ∀ (i : Nat) q f,ps[i]? = some q→fl[i]? = some f→(f < q.w→μ q.b - μ q.a≤q.l)∧(0 < f→q.l≤μ q.b - μ q.a)) : M * (T + 1) - C = zs (fun q _=>over μ q) ps fl:=by
 rw [worth_pot Hh hst hg net cost m0 m1]
 refine zs_eq fun i q f a b=>?_
 have h:=lo i q f a b
 have k:=fit i q f a b
 unfold over
 split
 ·rename_i z
  have : f = q.w:=by
   by_cases w : f < q.w
   ·have:=k.1 w; omega
   ·omega
  rw [this]
 ·rename_i z
  by_cases p : 0 < f
  ·have:=k.2 p
   have : μ q.b - μ q.a - q.l = 0:=by omega
   rw [this,Int.mul_zero]
  ·have : f = 0:=by omega
   rw [this,Int.zero_mul]
theorem zs_const (F : Pas→Int) : ∀ {ps : List Pas} {fl : List Int},fl.length = ps.length→zs (fun q _=>F q) ps fl = (ps.map F).sum
 | [],_,_=>by simp [zs]
 | _ :: _,[],h=>by simp at h
 | q :: r,f :: fs,h=>by rw [zs,List.map_cons,List.sum_cons,zs_const F (by simpa using h)]
end LH
namespace LH
open PySem L2 VM Sp PM
variable {n : Nat} {ps : List Pas} {st g : Nat} {fl : List Int} {M : Int}
noncomputable def inF (z : Nat) : Pas→Int→Int:=fun q f=>f * Sp.b2 (q.b = z)
noncomputable def outF (z : Nat) : Pas→Int→Int:=fun q f=>f * Sp.b2 (q.a = z)
theorem zs_split (z : Nat) : ∀ (ps : List Pas) (fl : List Int),zs (fun q f=>f * (Sp.b2 (q.b = z) - Sp.b2 (q.a = z))) ps fl = zs (inF z) ps fl - zs (outF z) ps fl
 | [],_=>by simp [zs]
 | _ :: _,[]=>by simp [zs]
 | q :: r,f :: fs=>by
  rw [zs,zs,zs,zs_split z r fs,Int.mul_sub]
  unfold inF outF
  omega
theorem b2_nn (p : Prop) [Decidable p] : 0≤Sp.b2 p:=by unfold Sp.b2; split <;> decide
theorem zs_nn {F : Pas→Int→Int} : ∀ {ps : List Pas} {fl : List Int},(∀ (i : Nat) q f,ps[i]? = some q→fl[i]? = some f→0≤F q f)→0≤zs F ps fl
 | [],_,_=>by simp [zs]
 | _ :: _,[],_=>by simp [zs]
 | q :: r,f :: fs,h=>by
  have h0:=h 0 q f rfl rfl
  have:=zs_nn (F:=F) (ps:=r) (fl:=fs) fun i q' f' a b=>h (i + 1) q' f' (by simpa using a) (by simpa using b)
  rw [zs]; omega
theorem zs_part {F : Pas→Int→Int} : ∀ {ps : List Pas} {fl : List Int},(∀ (i : Nat) q f,ps[i]? = some q→fl[i]? = some f→0≤F q f)→∀ (i : Nat) q f,ps[i]? = some q→fl[i]? = some f→F q f≤zs F ps fl
 | [],_,_,i,q,f,a,_=>by simp at a
 | _ :: _,[],_,i,q,f,_,b=>by simp at b
 | p :: r,f0 :: fs,h,0,q,f,a,b=>by
  cases a; cases b
  have:=zs_nn (F:=F) (ps:=r) (fl:=fs) fun i q' f' a b=>h (i + 1) q' f' (by simpa using a) (by simpa using b)
  rw [zs]; omega
 | p :: r,f0 :: fs,h,i + 1,q,f,a,b=>by
  have h0:=h 0 p f0 rfl rfl
  have:=zs_part (F:=F) (ps:=r) (fl:=fs) (fun i q' f' a b=>h (i + 1) q' f' (by simpa using a) (by simpa using b)) i q f (by simpa using a) (by simpa using b)
  rw [zs]; omega
theorem zs_some {F : Pas→Int→Int} : ∀ {ps : List Pas} {fl : List Int},0 < zs F ps fl→∃ (i : Nat) (q : Pas) (f : Int),ps[i]? = some q∧fl[i]? = some f∧0 < F q f
 | [],_,h=>by simp [zs] at h
 | _ :: _,[],h=>by simp [zs] at h
 | q :: r,f :: fs,h=>by
  rw [zs] at h
  by_cases h0 : 0 < F q f
  ·exact ⟨0,q,f,rfl,rfl,h0⟩
  ·obtain ⟨i,q',f',a,b,c⟩:=zs_some (F:=F) (ps:=r) (fl:=fs) (by omega)
   exact ⟨i + 1,q',f',by simpa using a,by simpa using b,c⟩
theorem pos_b2 {f : Int} {p : Prop} [Decidable p] (h : 0 < f * Sp.b2 p) : 0 < f∧p:=by
 unfold Sp.b2 at h
 split at h
 ·rename_i hp; exact ⟨by omega,hp⟩
 ·omega
structure Cons (ps : List Pas) (st g : Nat) (fl : List Int) (M : Int) : Prop where
 nn : ∀ (i : Nat) q f,ps[i]? = some q→fl[i]? = some f→0≤f
 net : ∀ z : Nat,zs (fun q f=>f * (Sp.b2 (q.b = z) - Sp.b2 (q.a = z))) ps fl = M * (Sp.b2 (g = z) - Sp.b2 (st = z))
theorem Cons.inNN (K : Cons ps st g fl M) (z : Nat) : ∀ (i : Nat) q f,ps[i]? = some q→fl[i]? = some f→0≤inF z q f:=fun i q f a b=>Int.mul_nonneg (K.nn i q f a b) (b2_nn _)
theorem Cons.outNN (K : Cons ps st g fl M) (z : Nat) : ∀ (i : Nat) q f,ps[i]? = some q→fl[i]? = some f→0≤outF z q f:=fun i q f a b=>Int.mul_nonneg (K.nn i q f a b) (b2_nn _)
theorem out_some {z : Nat} (h : 0 < zs (outF z) ps fl) : ∃ (i : Nat) (q : Pas) (f : Int),ps[i]? = some q∧fl[i]? = some f∧0 < f∧q.a = z:=by
 obtain ⟨i,q,f,a,b,c⟩:=zs_some h
 have:=pos_b2 c
 exact ⟨i,q,f,a,b,this.1,this.2⟩
theorem Cons.start (K : Cons ps st g fl M) (hne : st ≠ g) (hM : 0 < M) : ∃ (i : Nat) (q : Pas) (f : Int),ps[i]? = some q∧fl[i]? = some f∧0 < f∧q.a = st:=by
 have e:=K.net st
 rw [zs_split] at e
 have h1:=zs_nn (K.inNN st)
 have e2 : Sp.b2 (g = st) - Sp.b2 (st = st) = -1:=by unfold Sp.b2; rw [if_neg (fun z=>hne z.symm),if_pos rfl]; rfl
 rw [e2] at e
 exact out_some (by omega)
theorem Cons.on (K : Cons ps st g fl M) (hM : 0≤M) {i : Nat} {q : Pas} {f : Int} (a : ps[i]? = some q) (b : fl[i]? = some f) (hf : 0 < f) (hg : q.b ≠ g∨M = 0) : ∃ (j : Nat) (p : Pas) (h : Int),ps[j]? = some p∧fl[j]? = some h∧0 < h∧p.a = q.b:=by
 have e:=K.net q.b
 rw [zs_split] at e
 have h1:=zs_part (K.inNN q.b) i q f a b
 have h2 : inF q.b q f = f:=by unfold inF Sp.b2; rw [if_pos rfl]; omega
 rw [h2] at h1
 have h3 : M * (Sp.b2 (g = q.b) - Sp.b2 (st = q.b))≤0:=by
  rcases hg with hg | hg
  ·have : Sp.b2 (g = q.b) = 0:=by unfold Sp.b2; rw [if_neg (fun z=>hg z.symm)]
   rw [this]
   have:=b2_nn (st = q.b)
   exact Int.mul_nonpos_of_nonneg_of_nonpos hM (by omega)
  ·rw [hg]; omega
 exact out_some (by omega)
theorem Cons.none (K : Cons ps st g fl 0) {ρ : Nat→Int} (up : ∀ (i : Nat) q f,ps[i]? = some q→fl[i]? = some f→0 < f→ρ q.a < ρ q.b) : ∀ (i : Nat) q f,ps[i]? = some q→fl[i]? = some f→f = 0:=by
 obtain ⟨R,hR⟩ : ∃ R : Int,∀ q∈ps,ρ q.b≤R:=by
  clear K up
  induction ps with
  | nil=>exact ⟨0,by simp⟩
  | cons p r ih =>
   obtain ⟨R,h⟩:=ih
   refine ⟨max R (ρ p.b),fun q hq=>?_⟩
   rcases List.mem_cons.mp hq with rfl | hq
   ·exact Int.le_max_right ..
   ·exact Int.le_trans (h q hq) (Int.le_max_left ..)
 have key : ∀ (k : Nat) (i : Nat) q f,ps[i]? = some q→fl[i]? = some f→0 < f→R - ρ q.b < k→False:=fun k=>by
  induction k with
  | zero =>
   intro i q f a b hf hk
   have:=hR q (List.mem_of_getElem? a)
   omega
  | succ k ih =>
   intro i q f a b hf hk
   obtain ⟨j,p,h,a',b',hh,e⟩:=K.on (Int.le_refl _) a b hf (.inr rfl)
   have u:=up j p h a' b' hh
   rw [e] at u
   exact ih j p h a' b' hh (by omega)
 intro i q f a b
 have h0:=K.nn i q f a b
 by_cases hf : 0 < f
 ·exact (key ((R - ρ q.b).toNat + 1) i q f a b hf (by omega)).elim
 ·omega
theorem in_some {z : Nat} (h : 0 < zs (inF z) ps fl) : ∃ (i : Nat) (q : Pas) (f : Int),ps[i]? = some q∧fl[i]? = some f∧0 < f∧q.b = z:=by
 obtain ⟨i,q,f,a,b,c⟩:=zs_some h
 have:=pos_b2 c
 exact ⟨i,q,f,a,b,this.1,this.2⟩
theorem Cons.back (K : Cons ps st g fl M) (hM : 0≤M) {i : Nat} {q : Pas} {f : Int} (a : ps[i]? = some q) (b : fl[i]? = some f) (hf : 0 < f) (hs : q.a ≠ st) : ∃ (j : Nat) (p : Pas) (h : Int),ps[j]? = some p∧fl[j]? = some h∧0 < h∧p.b = q.a:=by
 have e:=K.net q.a
 rw [zs_split] at e
 have h1:=zs_part (K.outNN q.a) i q f a b
 have h2 : outF q.a q f = f:=by unfold outF Sp.b2; rw [if_pos rfl]; omega
 rw [h2] at h1
 have h3 : 0≤M * (Sp.b2 (g = q.a) - Sp.b2 (st = q.a)):=by
  have : Sp.b2 (st = q.a) = 0:=by unfold Sp.b2; rw [if_neg (fun z=>hs z.symm)]
  rw [this]
  have:=b2_nn (g = q.a)
  exact Int.mul_nonneg hM (by omega)
 exact in_some (by omega)
theorem Cons.high (K : Cons ps st g fl M) (hM : 0≤M) {ρ : Nat→Int} (up : ∀ (i : Nat) q f,ps[i]? = some q→fl[i]? = some f→0 < f→ρ q.a < ρ q.b) : ∀ (i : Nat) q f,ps[i]? = some q→fl[i]? = some f→0 < f→ρ q.b≤ρ g:=by
 obtain ⟨R,hR⟩ : ∃ R : Int,∀ q∈ps,ρ q.b≤R:=by
  clear K up
  induction ps with
  | nil=>exact ⟨0,by simp⟩
  | cons p r ih =>
   obtain ⟨R,h⟩:=ih
   refine ⟨max R (ρ p.b),fun q hq=>?_⟩
   rcases List.mem_cons.mp hq with rfl | hq
   ·exact Int.le_max_right ..
   ·exact Int.le_trans (h q hq) (Int.le_max_left ..)
 have key : ∀ (k : Nat) (i : Nat) q f,ps[i]? = some q→fl[i]? = some f→0 < f→R - ρ q.b < k→ρ q.b≤ρ g:=fun k=>by
  induction k with
  | zero =>
   intro i q f a b hf hk
   have:=hR q (List.mem_of_getElem? a)
   omega
  | succ k ih =>
   intro i q f a b hf hk
   by_cases e : q.b = g
   ·rw [e]; exact Int.le_refl _
   ·obtain ⟨j,p,h,a',b',hh,e2⟩:=K.on hM a b hf (.inl e)
    have u:=up j p h a' b' hh
    rw [e2] at u
    have:=ih j p h a' b' hh (by omega)
    omega
 intro i q f a b hf
 exact key ((R - ρ q.b).toNat + 1) i q f a b hf (by omega)
theorem Cons.low (K : Cons ps st g fl M) (hM : 0≤M) {ρ : Nat→Int} (up : ∀ (i : Nat) q f,ps[i]? = some q→fl[i]? = some f→0 < f→ρ q.a < ρ q.b) : ∀ (i : Nat) q f,ps[i]? = some q→fl[i]? = some f→0 < f→ρ st≤ρ q.a:=by
 obtain ⟨R,hR⟩ : ∃ R : Int,∀ q∈ps,R≤ρ q.a:=by
  clear K up
  induction ps with
  | nil=>exact ⟨0,by simp⟩
  | cons p r ih =>
   obtain ⟨R,h⟩:=ih
   refine ⟨min R (ρ p.a),fun q hq=>?_⟩
   rcases List.mem_cons.mp hq with rfl | hq
   ·exact Int.min_le_right ..
   ·exact Int.le_trans (Int.min_le_left ..) (h q hq)
 have key : ∀ (k : Nat) (i : Nat) q f,ps[i]? = some q→fl[i]? = some f→0 < f→ρ q.a - R < k→ρ st≤ρ q.a:=fun k=>by
  induction k with
  | zero =>
   intro i q f a b hf hk
   have:=hR q (List.mem_of_getElem? a)
   omega
  | succ k ih =>
   intro i q f a b hf hk
   by_cases e : q.a = st
   ·rw [e]; exact Int.le_refl _
   ·obtain ⟨j,p,h,a',b',hh,e2⟩:=K.back hM a b hf e
    have u:=up j p h a' b' hh
    rw [e2] at u
    have:=ih j p h a' b' hh (by omega)
    omega
 intro i q f a b hf
 exact key ((ρ q.a - R).toNat + 1) i q f a b hf (by omega)
theorem FlowOk.cons {T C : Int} (F : FlowOk n ps st g T fl M C) : Cons ps st g fl M:=⟨fun i q f a b=>(F.lo i q f a b).1,F.net⟩
theorem FlowOk.moments {T C : Int} (Hh : Hall n ps) (F : FlowOk n ps st g T fl M C) (hT : 0≤T) : ∃ μ : Nat→Int,μ st = 0∧μ g = T + 1∧(∀ v,0≤μ v∧μ v≤T + 1)∧∀ (i : Nat) q f,ps[i]? = some q→fl[i]? = some f→(f < q.w→μ q.b - μ q.a≤q.l)∧(0 < f→q.l≤μ q.b - μ q.a):=by
 obtain ⟨π,p0,p1,p2,p3⟩:=F.price
 have up : ∀ (i : Nat) q f,ps[i]? = some q→fl[i]? = some f→0 < f→π q.a < π q.b:=fun i q f a b hf=>by
  have:=(p3 i q f a b).2 hf
  have:=Hh.l1 q (List.mem_of_getElem? a)
  omega
 refine ⟨fun v=>min (max (π v) 0) (T + 1),?_,?_,fun v=>?_,fun i q f a b=>⟨fun h=>?_,fun h=>?_⟩⟩
 ·show min (max (π st) 0) (T + 1) = 0
  omega
 ·show min (max (π g) 0) (T + 1) = T + 1
  omega
 ·show 0≤min (max (π v) 0) (T + 1)∧min (max (π v) 0) (T + 1)≤T + 1
  omega
 ·have:=(p3 i q f a b).1 h
  have:=Hh.l1 q (List.mem_of_getElem? a)
  show min (max (π q.b) 0) (T + 1) - min (max (π q.a) 0) (T + 1)≤q.l
  omega
 ·have h1:=(p3 i q f a b).2 h
  have h2:=F.cons.low F.M0 up i q f a b h
  have h3:=F.cons.high F.M0 up i q f a b h
  have hM : 0 < M:=by
   have m0:=F.M0
   by_cases z : M = 0
   ·have K:=F.cons
    rw [z] at K
    have:=K.none up i q f a b
    omega
   ·omega
  have h4:=p2 hM
  show q.l≤min (max (π q.b) 0) (T + 1) - min (max (π q.a) 0) (T + 1)
  omega
end LH
namespace LH
open PySem L2 VM Sp PM
variable {n : Nat} {ps : List Pas} {st g : Nat} {fl : List Int} {M : Int}
noncomputable def goes (ps : List Pas) : Nat→List Nat→Option Nat
 | u,[]=>some u
 | u,j :: w=>match ps[j]? with
  | some q=>if q.a = u then goes ps q.b w else none
  | none=>none
theorem goes_snoc {j : Nat} {q : Pas} (hq : ps[j]? = some q) : ∀ {w : List Nat} {u : Nat},goes ps u w = some q.a→goes ps u (w ++ [j]) = some q.b
 | [],u,h=>by
  simp only [goes,Option.some.injEq] at h
  simp only [List.nil_append,goes,hq,h,↓reduceIte]
 | i :: w,u,h=>by
  rw [List.cons_append,goes]
  rw [goes] at h
  cases e : ps[i]? with
  | none=>rw [e] at h; cases h
  | some p =>
   rw [e] at h
   simp only at h ⊢
   by_cases ha : p.a = u
   ·rw [if_pos ha] at h ⊢; exact goes_snoc hq h
   ·rw [if_neg ha] at h; cases h
noncomputable def atF (F : Pas→Int) (ps : List Pas) (j : Nat) : Int:=match ps[j]? with
 | some q=>F q
 | none=>0
theorem atF_some {F : Pas→Int} {j : Nat} {q : Pas} (h : ps[j]? = some q) : atF F ps j = F q:=by unfold atF; rw [h]
noncomputable def alongF (F : Pas→Int) (ps : List Pas) (w : List Nat) : Int:=(w.map (atF F ps)).sum
theorem alongF_nil (F : Pas→Int) : alongF F ps [] = 0:=rfl
theorem alongF_cons (F : Pas→Int) (j : Nat) (w : List Nat) : alongF F ps (j :: w) = atF F ps j + alongF F ps w:=by simp [alongF]
theorem goes_pot (μ : Nat→Int) : ∀ {w : List Nat} {u v : Nat},goes ps u w = some v→alongF (fun q=>μ q.b - μ q.a) ps w = μ v - μ u
 | [],u,v,h=>by
  simp only [goes,Option.some.injEq] at h
  rw [alongF_nil,h]; omega
 | j :: w,u,v,h=>by
  rw [goes] at h
  cases e : ps[j]? with
  | none=>rw [e] at h; cases h
  | some p =>
   rw [e] at h
   simp only at h
   by_cases ha : p.a = u
   ·rw [if_pos ha] at h
    rw [alongF_cons,goes_pot μ h,atF_some e,ha]; omega
   ·rw [if_neg ha] at h; cases h
theorem alongF_sub (F G : Pas→Int) : ∀ w : List Nat,(∀ j∈w,j < ps.length)→alongF (fun q=>F q - G q) ps w = alongF F ps w - alongF G ps w
 | [],_=>rfl
 | j :: w,h=>by
  have e:=List.getElem?_eq_getElem (h j List.mem_cons_self)
  rw [alongF_cons,alongF_cons,alongF_cons,alongF_sub F G w fun i hi=>h i (List.mem_cons_of_mem _ hi),atF_some e,atF_some e,atF_some e]; omega
theorem alongF_nn {F : Pas→Int} : ∀ {w : List Nat},(∀ j∈w,0≤atF F ps j)→0≤alongF F ps w
 | [],_=>Int.le_refl _
 | j :: w,h=>by
  have:=alongF_nn (w:=w) fun i hi=>h i (List.mem_cons_of_mem _ hi)
  have:=h j List.mem_cons_self
  rw [alongF_cons]; omega
theorem lf_get {L : List Int} {i : Nat} {f : Int} (h : L[i]? = some f) : lf L i = f:=by unfold lf; rw [List.getD_eq_getElem?_getD,h]; rfl
theorem get_of {L : List Int} {i : Nat} (h : i < L.length) : L[i]? = some (lf L i):=by unfold lf; rw [List.getD_eq_getElem?_getD,List.getElem?_eq_getElem h]; rfl
noncomputable def takeJ (m : Int) (fl : List Int) (j : Nat) : List Int:=fl.set j (lf fl j - m)
noncomputable def takeW (m : Int) (fl : List Int) (w : List Nat) : List Int:=w.foldl (takeJ m) fl
theorem takeJ_len (m : Int) (fl : List Int) (j : Nat) : (takeJ m fl j).length = fl.length:=List.length_set ..
theorem takeW_len (m : Int) : ∀ (w : List Nat) (fl : List Int),(takeW m fl w).length = fl.length
 | [],_=>rfl
 | j :: w,fl=>by
  show (takeW m (takeJ m fl j) w).length = _
  rw [takeW_len m w,takeJ_len]
theorem takeJ_lf {m : Int} {j : Nat} (h : j < fl.length) (i : Nat) : lf (takeJ m fl j) i = lf fl i - if i = j then m else 0:=by
 by_cases e : i = j
 ·subst e
  rw [if_pos rfl]
  exact lf_get (by unfold takeJ; rw [List.getElem?_set_self h])
 ·rw [if_neg e,Int.sub_zero]
  unfold takeJ lf
  simp only [List.getD_eq_getElem?_getD,List.getElem?_set_ne (fun z=>e z.symm)]
theorem takeW_lf {m : Int} : ∀ {w : List Nat} {fl : List Int},w.Nodup→(∀ j∈w,j < fl.length)→∀ i,lf (takeW m fl w) i = lf fl i - if i∈w then m else 0
 | [],_,_,_,i=>by simp [takeW]
 | j :: w,fl,nd,h,i=>by
  obtain ⟨n1,n2⟩:=List.nodup_cons.mp nd
  show lf (takeW m (takeJ m fl j) w) i = _
  rw [takeW_lf n2 (fun i hi=>by rw [takeJ_len]; exact h i (List.mem_cons_of_mem _ hi)),takeJ_lf (h j List.mem_cons_self)]
  by_cases e : i = j
  ·subst e
   rw [if_pos rfl,if_neg n1,if_pos List.mem_cons_self]; omega
  ·rw [if_neg e]
   by_cases hw : i∈w
   ·rw [if_pos hw,if_pos (List.mem_cons_of_mem _ hw)]; omega
   ·rw [if_neg hw,if_neg (fun z=>by rcases List.mem_cons.mp z with z | z; exact e z; exact hw z)]; omega
theorem zs_set (F : Pas→Int) (x : Int) : ∀ (ps : List Pas) (fl : List Int) (j : Nat),fl.length = ps.length→j < fl.length→zs (fun q f=>f * F q) ps (fl.set j (lf fl j - x)) = zs (fun q f=>f * F q) ps fl - x * atF F ps j
 | [],[],j,_,h=>by simp at h
 | [],_ :: _,_,e,_=>by simp at e
 | _ :: _,[],_,e,_=>by simp at e
 | q :: r,f :: fs,0,e,_=>by
  have e1 : lf (f :: fs) 0 = f:=rfl
  have e2 : atF F (q :: r) 0 = F q:=rfl
  rw [List.set_cons_zero,zs,zs,e1,e2,Int.sub_mul]; omega
 | q :: r,f :: fs,j + 1,e,h=>by
  have e1 : lf (f :: fs) (j + 1) = lf fs j:=rfl
  have e2 : atF F (q :: r) (j + 1) = atF F r j:=rfl
  rw [List.set_cons_succ,zs,zs,e1,e2,zs_set F x r fs j (by simpa using e) (by simpa using h)]; omega
theorem zs_take (F : Pas→Int) (m : Int) : ∀ {w : List Nat} {fl : List Int},fl.length = ps.length→(∀ j∈w,j < fl.length)→zs (fun q f=>f * F q) ps (takeW m fl w) = zs (fun q f=>f * F q) ps fl - m * alongF F ps w
 | [],fl,_,_=>by rw [alongF_nil,Int.mul_zero,Int.sub_zero]; rfl
 | j :: w,fl,e,h=>by
  show zs _ ps (takeW m (takeJ m fl j) w) = _
  rw [zs_take F m (by rw [takeJ_len]; exact e) (fun i hi=>by rw [takeJ_len]; exact h i (List.mem_cons_of_mem _ hi))]
  unfold takeJ
  rw [zs_set F m ps fl j e (h j List.mem_cons_self),alongF_cons,Int.mul_add]; omega
noncomputable def cntP : List Int→Nat
 | []=>0
 | f :: r=>(if 0 < f then 1 else 0) + cntP r
theorem cntP_le : ∀ {a b : List Int},a.length = b.length→(∀ i : Nat,0 < lf a i→0 < lf b i)→cntP a≤cntP b
 | [],[],_,_=>Nat.le_refl _
 | [],_ :: _,e,_=>by simp at e
 | _ :: _,[],e,_=>by simp at e
 | x :: a,y :: b,e,h=>by
  have ih:=cntP_le (a:=a) (b:=b) (by simpa using e) fun i hi=>h (i + 1) hi
  have h0 : 0 < x→0 < y:=h 0
  rw [cntP,cntP]
  by_cases hx : 0 < x
  ·rw [if_pos hx,if_pos (h0 hx)]; omega
  ·rw [if_neg hx]; omega
theorem cntP_lt : ∀ {a b : List Int},a.length = b.length→(∀ i : Nat,0 < lf a i→0 < lf b i)→(∃ i : Nat,lf a i≤0∧0 < lf b i)→cntP a < cntP b
 | [],[],_,_,⟨i,h1,h2⟩=>by simp [lf] at h2
 | [],_ :: _,e,_,_=>by simp at e
 | _ :: _,[],e,_,_=>by simp at e
 | x :: a,y :: b,e,h,⟨i,h1,h2⟩=>by
  have e' : a.length = b.length:=by simpa using e
  have hh : ∀ i : Nat,0 < lf a i→0 < lf b i:=fun i hi=>h (i + 1) hi
  rw [cntP,cntP]
  cases i with
  | zero =>
   have h1' : x≤0:=h1
   have h2' : 0 < y:=h2
   have:=cntP_le e' hh
   rw [if_neg (by omega),if_pos h2']; omega
  | succ i =>
   have:=cntP_lt e' hh ⟨i,h1,h2⟩
   have h0 : 0 < x→0 < y:=h 0
   by_cases hx : 0 < x
   ·rw [if_pos hx,if_pos (h0 hx)]; omega
   ·rw [if_neg hx]; omega
theorem cntP_len : ∀ a : List Int,cntP a≤a.length
 | []=>Nat.le_refl _
 | x :: a=>by
  have:=cntP_len a
  rw [cntP,List.length_cons]
  split <;> omega
noncomputable def share (i : Nat) : List (List Nat × Int)→Int
 | []=>0
 | x :: ws=>(if i∈x.1 then x.2 else 0) + share i ws
noncomputable def worthW (F : Pas→Int) (ps : List Pas) : List (List Nat × Int)→Int
 | []=>0
 | x :: ws=>x.2 * alongF F ps x.1 + worthW F ps ws
structure WalkOk (ps : List Pas) (st g : Nat) (x : List Nat × Int) : Prop where
 go : goes ps st x.1 = some g
 nd : x.1.Nodup
 ix : ∀ j∈x.1,j < ps.length
 ne : x.1 ≠ []
 m1 : 1≤x.2
structure Parted (ps : List Pas) (st g : Nat) (fl : List Int) (ws : List (List Nat × Int)) : Prop where
 walk : ∀ x∈ws,WalkOk ps st g x
 sum : ∀ i : Nat,i < ps.length→share i ws = lf fl i
 few : ws.length≤cntP fl
 tot : ∀ F : Pas→Int,worthW F ps ws = zs (fun q f=>f * F q) ps fl
noncomputable def Up (ps : List Pas) (fl : List Int) (ρ : Nat→Int) : Prop:=∀ (i : Nat) q f,ps[i]? = some q→fl[i]? = some f→0 < f→ρ q.a < ρ q.b
theorem zs_zero (F : Pas→Int) : ∀ {ps : List Pas} {fl : List Int},(∀ i : Nat,i < ps.length→lf fl i = 0)→zs (fun q f=>f * F q) ps fl = 0
 | [],_,_=>by simp [zs]
 | _ :: _,[],_=>by simp [zs]
 | q :: r,f :: fs,h=>by
  have h0 : f = 0:=h 0 (by simp)
  rw [zs,h0,Int.zero_mul,zs_zero F (ps:=r) (fl:=fs) fun i hi=>h (i + 1) (by simpa using hi)]; rfl
theorem Parted.nil (h : ∀ i : Nat,i < ps.length→lf fl i = 0) : Parted ps st g fl [] :=
 ⟨fun _ h=>(nomatch h),fun i hi=>(h i hi).symm,Nat.zero_le _,fun F=>(zs_zero F h).symm⟩
theorem Cons.take {w : List Nat} {m : Int} (K : Cons ps st g fl M) (hl : fl.length = ps.length) (hw : goes ps st w = some g) (nd : w.Nodup) (hi : ∀ j∈w,j < ps.length) (hm : ∀ j∈w,m≤lf fl j) : Cons ps st g (takeW m fl w) (M - m):=by
 have hi' : ∀ j∈w,j < fl.length:=fun j hj=>by rw [hl]; exact hi j hj
 refine ⟨fun i q f a b=>?_,fun z=>?_⟩
 ·have e:=takeW_lf (m:=m) nd hi' i
  rw [lf_get b] at e
  have hil : i < fl.length:=by have:=(List.getElem?_eq_some_iff.mp b).1; rwa [takeW_len] at this
  have:=K.nn i q _ a (get_of hil)
  rw [e]
  by_cases hiw : i∈w
  ·rw [if_pos hiw]; have:=hm i hiw; omega
  ·rw [if_neg hiw]; omega
 ·have:=zs_take (ps:=ps) (fun q=>Sp.b2 (q.b = z) - Sp.b2 (q.a = z)) m hl hi'
  rw [this,K.net z,goes_pot (fun v=>Sp.b2 (v = z)) hw,Int.sub_mul]
theorem take_pos {w : List Nat} {m : Int} (hm : 0≤m) (nd : w.Nodup) (hi : ∀ j∈w,j < fl.length) {i : Nat} (h : 0 < lf (takeW m fl w) i) : 0 < lf fl i:=by
 rw [takeW_lf nd hi i] at h
 by_cases hw : i∈w
 ·rw [if_pos hw] at h; omega
 ·rw [if_neg hw] at h; omega
theorem Up.take {w : List Nat} {m : Int} {ρ : Nat→Int} (U : Up ps fl ρ) (hm : 0≤m) (nd : w.Nodup) (hi : ∀ j∈w,j < fl.length) : Up ps (takeW m fl w) ρ:=fun i q f a b h=>by
 have hil : i < fl.length:=by have:=(List.getElem?_eq_some_iff.mp b).1; rwa [takeW_len] at this
 rw [← lf_get b] at h
 exact U i q _ a (get_of hil) (take_pos hm nd hi h)
theorem Parted.more {w : List Nat} {m : Int} {ws : List (List Nat × Int)} (hl : fl.length = ps.length) (W : WalkOk ps st g (w,m)) (hm : ∀ j∈w,m≤lf fl j) (hat : ∃ j∈w,lf fl j = m) (P : Parted ps st g (takeW m fl w) ws) : Parted ps st g fl ((w,m) :: ws):=by
 have hi' : ∀ j∈w,j < fl.length:=fun j hj=>by rw [hl]; exact W.ix j hj
 have m1:=W.m1
 simp only at m1
 refine ⟨fun x hx=>?_,fun i hi=>?_,?_,fun F=>?_⟩
 ·rcases List.mem_cons.mp hx with rfl | hx
  ·exact W
  ·exact P.walk x hx
 ·have:=P.sum i hi
  rw [takeW_lf W.nd hi' i] at this
  rw [share,this]
  simp only
  split <;> omega
 ·have h1:=P.few
  obtain ⟨j,hj,e⟩:=hat
  have h2 : cntP (takeW m fl w) < cntP fl:=cntP_lt (takeW_len ..) (fun i h=>take_pos (by omega) W.nd hi' h) ⟨j,by rw [takeW_lf W.nd hi' j,if_pos hj]; omega,by omega⟩
  rw [List.length_cons]; omega
 ·rw [worthW,P.tot F,zs_take F m hl hi']
  simp only
  omega
theorem Cons.most {ρ : Nat→Int} {w : List Nat} {m : Int} (K : Cons ps st g fl M) (hl : fl.length = ps.length) (hne : st ≠ g) (U : Up ps fl ρ) (hM : 0≤M) (hw : goes ps st w = some g) (hi : ∀ j∈w,j < ps.length) (hm : ∀ j∈w,m≤lf fl j) (wn : w ≠ []) : 0≤M - m:=by
 cases w with
 | nil=>exact absurd rfl wn
 | cons j w =>
  have hj:=hi j List.mem_cons_self
  have hmj:=hm j List.mem_cons_self
  have e:=List.getElem?_eq_getElem hj
  rw [goes,e] at hw
  simp only at hw
  by_cases ha : ps[j].a = st
  ·have ef : fl[j]? = some (lf fl j):=get_of (by rw [hl]; exact hj)
   have part:=zs_part (K.outNN st) j _ _ e ef
   have hn:=K.net st
   rw [zs_split] at hn
   have e2 : Sp.b2 (g = st) - Sp.b2 (st = st) = -1:=by unfold Sp.b2; rw [if_neg (fun z=>hne z.symm),if_pos rfl]; rfl
   rw [e2] at hn
   have hin : zs (inF st) ps fl≤0:=by
    by_cases z : 0 < zs (inF st) ps fl
    ·obtain ⟨i,q,f,a,b,c,d⟩:=in_some z
     have h1:=K.low hM U i q f a b c
     have h2:=U i q f a b c
     rw [d] at h2
     omega
    ·omega
   have e3 : outF st ps[j] (lf fl j) = lf fl j:=by unfold outF Sp.b2; rw [if_pos ha,Int.mul_one]
   omega
  ·rw [if_neg ha] at hw; cases hw
theorem share_nn {ws : List (List Nat × Int)} (h : ∀ x∈ws,1≤x.2) (i : Nat) : 0≤share i ws:=by
 induction ws with
 | nil=>exact Int.le_refl _
 | cons x ws ih =>
  have:=ih fun y hy=>h y (List.mem_cons_of_mem _ hy)
  have:=h x List.mem_cons_self
  rw [share]
  split <;> omega
theorem share_le {ws : List (List Nat × Int)} (h : ∀ x∈ws,1≤x.2) {i : Nat} : ∀ x∈ws,i∈x.1→x.2≤share i ws:=by
 induction ws with
 | nil=>intro x hx; simp at hx
 | cons y ws ih =>
  intro x hx hi
  have h0:=share_nn (fun y hy=>h y (List.mem_cons_of_mem _ hy)) i
  have h1:=h y List.mem_cons_self
  rw [share]
  rcases List.mem_cons.mp hx with rfl | hx
  ·rw [if_pos hi]; omega
  ·have:=ih (fun y hy=>h y (List.mem_cons_of_mem _ hy)) x hx hi
   split <;> omega
theorem Parted.has {ws : List (List Nat × Int)} (P : Parted ps st g fl ws) {x : List Nat × Int} (hx : x∈ws) : ∀ j∈x.1,x.2≤lf fl j∧0 < lf fl j:=fun j hj=>by
 have m1:=(P.walk x hx).m1
 have:=share_le (fun y hy=>(P.walk y hy).m1) x hx hj
 rw [P.sum j ((P.walk x hx).ix j hj)] at this
 omega
end LH
set_option hygiene false in
local macro_rules | `(tactic| walk_at "e1")=>`(tactic| (try simp only [fnM_eq,ob_some,ob_none,bFn_r,bFn_n,ini,gSeq_eq,bSeq_n,bSeq_r,bSeq_b,bSeq_c,gIf_eq,bIf_t,bIf_f,tAnd_eq,bAnd_t,bAnd_f,tOr_eq,bOr_t,bOr_f,tNot2,vAnd_eq,bAndE_t,bAndE_f,vOr_eq,bOrE_t,bOrE_f,vIf_eq,bIfE_t,bIfE_f,v2_eq,b2_s,b1_s,v1_eq,aC_eq,bC_s,bC1_s,a0,gAs_eq,bAs_s,bNx_s,gC_eq,bG_s,g0,vCall_eq,bCall_s,vCallN_eq,bCallN_s,vCallW_eq,bCallW_s,bResW_s,vCallWN_eq,bCallWN_s,bResWN_s,bIm_t,vImm_eq,bImm_s,bRes_s,bResN_s,vCh_eq,bCh_t,bCh_f,atI_0,atI_1,atI_2,atI_3,gFor_eq,bFor_s,gRet,gRetN,gRetO,gEx,gN,gT,gOw_eq,gOwF_eq,bOw_s,vLC_eq,vLCW_eq,bL_s,gFz,frz,gApp,gPut,gAug,gAugI,gNop,gFail,gClr,gPop,gRv,gIns,gPopAt,vSetLen,ownL,noIo_eq,nio_ob,nio_n,nio_fr,nio_ow,vN,vF,vC,vB,vTru,truD,vNot,imm,immL,ixDt,oN,oI,vSlL,vSlT,vRev,negD,vTup,vLst,vCB,lenD,absD,min2D,max2D,int1D,vIsi,isi_list,isi_int,isi_bool_i,isi_tuple,vListOf,immR,vItems,vItemsT,vRng1,vRng2,vEnum,vZip,capFr,capG,capOne,cTrue,addD_i,subD_i,ltD_i,leD_i,gtD_i,geD_i,xorD_i,eqD_i,neD_i,Int.reduceToNat,Int.reducePow,isD_n,isnD_n,isNoneD,List.length_cons,List.length_nil,List.map_cons,List.map_nil,List.replicate,List.cons_append,List.nil_append,List.append_nil,List.getElem?_cons_zero,List.getElem?_cons_succ,List.set_cons_zero,List.set_cons_succ,Nat.reduceAdd,Nat.reduceSub,Nat.reduceLeDiff,Nat.reduceEqDiff,Bool.and_true,Bool.true_and,Bool.not_true,Bool.not_false,Bool.false_eq_true,↓reduceIte,if_true,if_false]))
namespace LH
open PySem L2 VM Sp PM
variable {n : Nat} {ps : List Pas} {st g : Nat} {fl : List Int} {M : Int}
noncomputable def OnRes (ps : List Pas) (fl : List Int) (u k : Nat) (o : Out) : Prop :=
 (∃ (i : Nat) (q : Pas) (S' : GS),ps[i]? = some q∧q.a = u∧0 < lf fl i∧o = Out.ret S' false (.int (i : Int))) ∨
 ((∀ (i : Nat) (q : Pas),k≤i→ps[i]? = some q→q.a = u→lf fl i≤0)∧∃ x3' x4',o = Out.nxt [some (Tg.fr,.list ((ps.map toPq).map pD)),some (Tg.fr,.int (u : Int)),some (Tg.fr,.list (fl.map .int)),ob x3',ob x4'])
theorem OnRes.step {u k : Nat} {o : Out} (h : OnRes ps fl u (k + 1) o) (h0 : ∀ q : Pas,ps[k]? = some q→q.a = u→lf fl k≤0) : OnRes ps fl u k o:=by
 rcases h with h | ⟨h1,h2⟩
 ·exact .inl h
 ·refine .inr ⟨fun i q hi e ha=>?_,h2⟩
  by_cases z : i = k
  ·subst z; exact h0 q e ha
  ·exact h1 i q (by omega) e ha
theorem on_loop {u : Nat} (hl : fl.length = ps.length) : ∀ (r : List Pas) (k : Nat) (x3 x4 : Option PyData),(∀ j : Nat,r[j]? = ps[k + j]?) →
  OnRes ps fl u k (forG (gT 2 (gC (gN 3) (gC (gN 4) g0)))
   (gIf (tAnd2 (vB (v2 eqD (v2 ixDt (vN 4) (vC (.int 0))) (vN 1))) (vB (v2 gtD (v2 ixDt (vN 2) (vN 3)) (vC (.int 0))))) (gRetO 3) gNop)
   (enumD k ((r.map toPq).map pD)) [some (Tg.fr,.list ((ps.map toPq).map pD)),some (Tg.fr,.int (u : Int)),some (Tg.fr,.list (fl.map .int)),ob x3,ob x4])
 | [],k,x3,x4,h=>.inr ⟨fun i q hi e=>by
   have:=h (i - k)
   rw [show k + (i - k) = i by omega,e] at this
   simp at this,x3,x4,rfl⟩
 | q :: r,k,x3,x4,h=>by
  have hk : ps[k]? = some q:=(h 0).symm
  have hkl : k < fl.length:=by rw [hl]; exact (List.getElem?_eq_some_iff.mp hk).1
  have hr : ∀ j : Nat,r[j]? = ps[k + 1 + j]?:=fun j=>by
   have:=h (j + 1)
   rw [List.getElem?_cons_succ] at this
   rw [this]; congr 1; omega
  have ih:=on_loop (u:=u) hl r (k + 1) (some (.int (k : Int))) (some (pD (toPq q))) hr
  have e0 : enumD k (((q :: r).map toPq).map pD) = .tuple [.int (k : Int),pD (toPq q)] :: enumD (k + 1) ((r.map toPq).map pD):=rfl
  have e1 : pD (toPq q) = .tuple [.int (q.a : Int),.int (q.b : Int),.int q.w,.int q.l]:=rfl
  rw [e0]
  simp only [forG]
  rw [e1] at ih ⊢
  simp only [ob_some] at ih
  by_cases ha : q.a = u
  ·have e2 : ((q.a : Int) = (u : Int)):=by rw [ha]
   by_cases hf : 0 < lf fl k
   ·walk_at "e1"
    simp only [e2,decide_true]
    walk_at "e1"
    rw [at_lf hkl]
    walk_at "e1"
    simp only [hf,decide_true]
    walk_at "e1"
    exact .inl ⟨k,q,_,hk,ha,hf,rfl⟩
   ·walk_at "e1"
    simp only [e2,decide_true]
    walk_at "e1"
    rw [at_lf hkl]
    walk_at "e1"
    simp only [hf,decide_false]
    walk_at "e1"
    simp only [e2] at ih
    exact ih.step fun _ _ _=>by omega
  ·have e2 : ¬ ((q.a : Int) = (u : Int)):=by omega
   walk_at "e1"
   simp only [e2,decide_false]
   walk_at "e1"
   exact ih.step fun q' e' ha'=>by rw [hk] at e'; cases e'; exact absurd ha' ha
theorem e_on {u : Nat} (hl : fl.length = ps.length) : (∃ (i : Nat) (q : Pas),ps[i]? = some q∧q.a = u∧0 < lf fl i∧Pg.m_passage_on [hD ps,.int (u : Int),.list (fl.map .int)] = some (false,.int (i : Int))) ∨
  ((∀ (i : Nat) q,ps[i]? = some q→q.a = u→lf fl i≤0)∧Pg.m_passage_on [hD ps,.int (u : Int),.list (fl.map .int)] = some (false,.none)):=by
 unfold Pg.m_passage_on Pg.g_passage_on hD psD
 walk_at "e1"
 rcases on_loop (u:=u) hl ps 0 none none (fun j=>by rw [Nat.zero_add]) with ⟨i,q,S',h1,h2,h3,h4⟩ | ⟨h1,x3,x4,h2⟩
 ·simp only [ob_none] at h4
  refine .inl ⟨i,q,h1,h2,h3,?_⟩
  rw [h4]
  walk_at "e1"
 ·simp only [ob_none] at h2
  refine .inr ⟨fun i q=>h1 i q (Nat.zero_le _),?_⟩
  rw [h2]
  walk_at "e1"
noncomputable def bodyA : VS := (gSeq (gAs (vCall Pg.m_passage_on (aC (vF 0) (aC (vF 5) (aC (vF 3) a0)))) (gN 6))
 (gSeq (gIf (vB (v2 isD (vN 6) (vC .none)))
 (gRetN (vLst a0))
 gNop)
 (gSeq (gApp 4 (aC (vF 6) a0))
 (gAs (v2 ixDt (v2 ixDt (vN 0) (vN 6)) (vC (.int 1))) (gN 5)))))
noncomputable def SA (ps : List Pas) (st g : Nat) (fl : List Int) (w : List Nat) (v : Nat) (x6 : Option PyData) : GS:=[some (Tg.fr,hD ps),some (Tg.fr,.int (st : Int)),some (Tg.fr,.int (g : Int)),some (Tg.fr,.list (fl.map .int)),some (Tg.ow,.list (w.map natD)),some (Tg.fr,.int (v : Int)),ob x6]
theorem bodyA_go {w : List Nat} {v i : Nat} {q : Pas} {x6 : Option PyData} (hq : ps[i]? = some q) (e : Pg.m_passage_on [hD ps,.int (v : Int),.list (fl.map .int)] = some (false,.int (i : Int))) (hw : w.length≤1000000) : bodyA (SA ps st g fl w v x6) = .nxt (SA ps st g fl (w ++ [i]) q.b (some (.int (i : Int)))):=by
 unfold bodyA SA
 walk_at "e1"
 rw [e]
 walk_at "e1"
 rw [if_pos (by rw [List.length_map]; exact size_big (by omega))]
 unfold hD psD
 walk_at "e1"
 rw [atI_of pD (show (ps.map toPq)[i]? = some (toPq q) by rw [List.getElem?_map,hq]; rfl)]
 unfold pD toPq
 walk_at "e1"
 rw [List.map_append]
 rfl
theorem along_go {ρ : Nat→Int} (hl : fl.length = ps.length) (hp : ps.length≤1000) (K : Cons ps st g fl M) (hM : 0 < M) (hne : st ≠ g) (U : Up ps fl ρ) : ∀ (k : Nat) (w : List Nat) (v : Nat) (x6 : Option PyData),(ρ g - ρ v).toNat < k→goes ps st w = some v →
  (∀ j∈w,j < ps.length∧0 < lf fl j∧∀ q : Pas,ps[j]? = some q→ρ q.a < ρ v)→w.Nodup→(v = st∧w = []∨w ≠ []∧∃ (i : Nat) (q : Pas) (f : Int),ps[i]? = some q∧fl[i]? = some f∧0 < f∧q.b = v) →
  ∃ w',goes ps st w' = some g∧w'.Nodup∧(∀ j∈w',j < ps.length∧0 < lf fl j)∧w' ≠ []∧∃ fuel x6',whileN (vB (v2 neD (vN 5) (vN 2))) bodyA fuel (SA ps st g fl w v x6) = .nxt (SA ps st g fl w' g x6'):=fun k=>by
 induction k with
 | zero=>intro w v x6 h; omega
 | succ k ih =>
  intro w v x6 hk hw hj nd hv
  have cond : vB (v2 neD (vN 5) (vN 2)) (SA ps st g fl w v x6) = some (!decide ((v : Int) = (g : Int))):=by
   unfold SA
   walk_at "e1"
  by_cases hg : v = g
  ·subst hg
   refine ⟨w,hw,nd,fun j h=>⟨(hj j h).1,(hj j h).2.1⟩,?_,1,x6,?_⟩
   ·rcases hv with ⟨z,_⟩ | ⟨h,_⟩
    ·exact absurd z.symm hne
    ·exact h
   ·rw [whileN,cond]
    simp
  ·have nx : ∃ (i : Nat) (q : Pas) (f : Int),ps[i]? = some q∧fl[i]? = some f∧0 < f∧q.a = v:=by
    rcases hv with ⟨z,_⟩ | ⟨_,i,q,f,a,b,c,d⟩
    ·rw [z]; exact K.start hne hM
    ·rw [← d]
     exact K.on (Int.le_of_lt hM) a b c (.inl (by rw [d]; exact hg))
   rcases e_on (u:=v) hl with ⟨i,q,h1,h2,h3,h4⟩ | ⟨h1,_⟩
   ·have hil : i < ps.length:=(List.getElem?_eq_some_iff.mp h1).1
    have hfi : fl[i]? = some (lf fl i):=get_of (by rw [hl]; exact hil)
    have up:=U i q _ h1 hfi h3
    have hi:=K.high (Int.le_of_lt hM) U i q _ h1 hfi h3
    have hwl : w.length≤ps.length:=nodup_lt nd fun j h=>(hj j h).1
    obtain ⟨w',a1,a2,a3,a4,fuel,x6',a5⟩:=ih (w ++ [i]) q.b (some (.int (i : Int))) (by rw [← h2] at hk; omega) (goes_snoc h1 (by rw [h2]; exact hw)) (fun j h=>by
     rcases List.mem_append.mp h with h | h
     ·obtain ⟨b1,b2,b3⟩:=hj j h
      exact ⟨b1,b2,fun q' e'=>by have:=b3 q' e'; rw [h2] at up; omega⟩
     ·rw [List.mem_singleton.mp h]
      exact ⟨hil,h3,fun q' e'=>by rw [h1] at e'; cases e'; exact up⟩) (by
     refine List.nodup_append.mpr ⟨nd,by simp,?_⟩
     intro x hx y hy
     rw [List.mem_singleton.mp hy]
     intro z
     have:=(hj x hx).2.2 q (by rw [z]; exact h1)
     rw [h2] at this; omega) (.inr ⟨by simp,i,q,_,h1,hfi,h3,rfl⟩)
    refine ⟨w',a1,a2,a3,a4,fuel + 1,x6',?_⟩
    refine whileN_go ?_ (bodyA_go h1 h4 (by omega)) a5
    rw [cond]
    have : ¬ ((v : Int) = (g : Int)):=by omega
    simp only [this,decide_false]
    rfl
   ·obtain ⟨i,q,f,a,b,c,d⟩:=nx
    have:=h1 i q a d
    rw [lf_get b] at this
    omega
theorem e_along {ρ : Nat→Int} (hl : fl.length = ps.length) (hp : ps.length≤1000) (K : Cons ps st g fl M) (hM : 0 < M) (hne : st ≠ g) (U : Up ps fl ρ) : ∃ w : List Nat,goes ps st w = some g∧w.Nodup∧(∀ j∈w,j < ps.length∧0 < lf fl j)∧w ≠ []∧Pg.m_walk_along [hD ps,.int (st : Int),.int (g : Int),.list (fl.map .int)] = some (true,.list (w.map natD)):=by
 obtain ⟨w,h1,h2,h3,h4,fuel,x6,h5⟩:=along_go hl hp K hM hne U _ [] st none (Nat.lt_succ_self _) rfl (by simp) .nil (.inl ⟨rfl,rfl⟩)
 refine ⟨w,h1,h2,h3,h4,?_⟩
 have h6:=gWh_eq h5 (by intro z; cases z)
 unfold SA at h6
 unfold bodyA at h6
 unfold Pg.m_walk_along Pg.g_walk_along
 walk_at "e1"
 simp only [ob_none,List.map_nil] at h6
 rw [h6]
 walk_at "e1"
theorem e_along0 {ρ : Nat→Int} (hl : fl.length = ps.length) (K : Cons ps st g fl 0) (hne : st ≠ g) (U : Up ps fl ρ) : (∀ i : Nat,i < ps.length→lf fl i = 0)∧Pg.m_walk_along [hD ps,.int (st : Int),.int (g : Int),.list (fl.map .int)] = some (true,.list []):=by
 have z : ∀ i : Nat,i < ps.length→lf fl i = 0:=fun i hi=>K.none U i _ _ (List.getElem?_eq_getElem hi) (get_of (by rw [hl]; exact hi))
 refine ⟨z,?_⟩
 rcases e_on (u:=st) hl with ⟨i,q,h1,h2,h3,h4⟩ | ⟨_,h1⟩
 ·have:=z i (List.getElem?_eq_some_iff.mp h1).1
  omega
 ·unfold Pg.m_walk_along Pg.g_walk_along
  walk_at "e1"
  have hw : ∀ S x6,whileN (vB (v2 neD (vN 5) (vN 2))) bodyA 1 (SA ps st g fl [] st x6) = S→S = .ret ((SA ps st g fl [] st (some .none))) true (.list []):=fun S x6 h=>by
   rw [← h,whileN]
   have cond : vB (v2 neD (vN 5) (vN 2)) (SA ps st g fl [] st x6) = some true:=by
    unfold SA
    walk_at "e1"
    have : ¬ ((st : Int) = (g : Int)):=by omega
    simp only [this,decide_false]
    rfl
   rw [cond]
   simp only
   have eb : bodyA (SA ps st g fl [] st x6) = .ret (SA ps st g fl [] st (some .none)) true (.list []):=by
    unfold bodyA SA
    walk_at "e1"
    rw [h1]
    walk_at "e1"
   rw [eb]
  have h6:=gWh_eq (hw _ none rfl) (by intro z; cases z)
  unfold SA bodyA at h6
  simp only [ob_none,List.map_nil] at h6
  rw [h6]
  walk_at "e1"
noncomputable def wkD (x : List Nat × Int) : PyData:=.tuple [.list (x.1.map natD),.int x.2]
theorem immL_nat : ∀ w : List Nat,immL (w.map natD) = true
 | []=>rfl
 | j :: w=>by simp only [List.map_cons,natD,immL,imm,Bool.true_and]; exact immL_nat w
noncomputable def bodyK : VS := (gSeq (gAs (vCallW Pg.m_walk_along (aC (vN 0) (aC (vN 1) (aC (vN 2) (aC (vN 4) a0))))) (gN 6))
 (gSeq (gIf (tNot2 (vTru (vN 6)))
 (gRetO 5)
 gNop)
 (gSeq (gAs (vCB minD (aC (vLCW (vItems (vF 6)) [none, some 4] (gN 0) cTrue (v2 ixDt (vN 1) (vN 0))) a0)) (gN 7))
 (gSeq (gFor (vItems (vF 6)) (gN 8)
 (gAugI subD 4 (vN 8) (vF 7)))
 (gApp 5 (aC (vTup (aC (vF 6) (aC (vF 7) a0))) a0))))))
noncomputable def SK (ps : List Pas) (st g : Nat) (fl0 : List Int) (fl : List Int) (ws : List (List Nat × Int)) (x6 x7 x8 : Option PyData) : GS:=[some (Tg.fr,hD ps),some (Tg.fr,.int (st : Int)),some (Tg.fr,.int (g : Int)),some (Tg.fr,.list (fl0.map .int)),some (Tg.ow,.list (fl.map .int)),some (Tg.ow,.list (ws.map wkD)),ob x6,ob x7,ob x8]
theorem bodyK_go {fl0 : List Int} {acc : List (List Nat × Int)} {x6 x7 x8 : Option PyData} {w : List Nat} (hl : fl.length = ps.length) (hp : ps.length≤1000) (ha : acc.length≤1000000) (nd : w.Nodup) (hw : ∀ j∈w,j < ps.length∧0 < lf fl j) (wn : w ≠ []) (e : Pg.m_walk_along [hD ps,.int (st : Int),.int (g : Int),.list (fl.map .int)] = some (true,.list (w.map natD))) :
  ∃ m y6 y7 y8,1≤m∧(∀ j∈w,m≤lf fl j)∧(∃ j∈w,lf fl j = m)∧bodyK (SK ps st g fl0 fl acc x6 x7 x8) = .nxt (SK ps st g fl0 (takeW m fl w) (acc ++ [(w,m)]) y6 y7 y8):=by
 have hwl : w.length≤ps.length:=nodup_lt nd fun j h=>(hw j h).1
 obtain ⟨l1,l2⟩:=leastOf_spec (ns:=w.map (lf fl)) (by simpa using wn)
 generalize hm : leastOf (w.map (lf fl)) = m at *
 obtain ⟨j0,hj0,ej0⟩:=List.mem_map.mp l1
 have key : ∀ (rs : List Nat) (L : List Int) (A B : PyData) (x : Option PyData),L.length = ps.length→(∀ j∈rs,j < ps.length)→∃ x',
   forG (gN 8) (gAugI subD 4 (vN 8) (vF 7)) (rs.map natD) [some (Tg.fr,hD ps),some (Tg.fr,.int (st : Int)),some (Tg.fr,.int (g : Int)),some (Tg.fr,.list (fl0.map .int)),some (Tg.ow,.list (L.map .int)),some (Tg.ow,A),some (Tg.fr,B),some (Tg.fr,.int m),ob x]
    = .nxt [some (Tg.fr,hD ps),some (Tg.fr,.int (st : Int)),some (Tg.fr,.int (g : Int)),some (Tg.fr,.list (fl0.map .int)),some (Tg.ow,.list ((takeW m L rs).map .int)),some (Tg.ow,A),some (Tg.fr,B),some (Tg.fr,.int m),ob x']:=fun rs=>by
  induction rs with
  | nil=>intro L A B x _ _; exact ⟨x,rfl⟩
  | cons j rs ih =>
   intro L A B x hL hj
   have h1:=hj j List.mem_cons_self
   obtain ⟨x',hx⟩:=ih (takeJ m L j) A B (some (.int (j : Int))) (by rw [takeJ_len]; exact hL) fun i hi=>hj i (List.mem_cons_of_mem _ hi)
   refine ⟨x',?_⟩
   rw [List.map_cons,forG]
   unfold natD
   walk_at "e1"
   rw [List.length_map,ixN_of (by omega)]
   walk_at "e1"
   rw [get_lf (by omega)]
   walk_at "e1"
   rw [← List.map_set]
   simp only [ob_some] at hx
   exact hx
 obtain ⟨x',hx⟩:=key w fl (.list (acc.map wkD)) (.list (w.map natD)) x8 hl fun j h=>(hw j h).1
 refine ⟨m,some (.list (w.map natD)),some (.int m),x',?_,fun j h=>l2 _ (List.mem_map.mpr ⟨j,h,rfl⟩),⟨j0,hj0,ej0⟩,?_⟩
 ·have:=(hw j0 hj0).2
  omega
 unfold bodyK SK
 walk_at "e1"
 rw [e]
 walk_at "e1"
 rw [immL_nat]
 walk_at "e1"
 have et : (w.map natD).isEmpty = false:=by cases w with | nil=>exact absurd rfl wn | cons a r=>rfl
 simp only [et]
 walk_at "e1"
 rw [bLCW_s (by rw [List.length_map]; exact size_big (by omega))]
 rw [lcD_map (f:=fun d=>match d with | .int m=>.int (lf fl m.toNat) | _=>.none) (by
  intro d hd
  obtain ⟨j,h,rfl⟩:=List.mem_map.mp hd
  refine ⟨[some (Tg.fr,.int (j : Int)),some (Tg.fr,.list (fl.map .int))],?_,rfl,?_⟩
  ·unfold natD; walk_at "e1"
  ·have:=(hw j h).1
   walk_at "e1"
   rw [at_lf (by omega)]
   rfl)]
 rw [List.map_map]
 have em : w.map ((fun d=>match d with | .int m=>PyData.int (lf fl m.toNat) | _=>.none) ∘ natD) = (w.map (lf fl)).map PyData.int:=by
  rw [List.map_map]
  exact List.map_congr_left fun m _=>by simp [natD]
 rw [em]
 walk_at "e1"
 have eM : minD [.list ((w.map (lf fl)).map PyData.int)] = some (.int m):=by
  simp only [minD,intsOf_map]
  cases w with
  | nil=>exact absurd rfl wn
  | cons a r=>simp only [List.map_cons] at hm ⊢; rw [hm]
 rw [eM]
 walk_at "e1"
 rw [hx]
 walk_at "e1"
 rw [if_pos (by rw [List.length_map]; exact size_big (by omega))]
 rw [List.map_append]
 rfl
theorem walks_go {ρ : Nat→Int} {fl0 : List Int} (hp : ps.length≤1000) (hne : st ≠ g) : ∀ (k : Nat) (fl : List Int) (M : Int) (acc : List (List Nat × Int)) (x6 x7 x8 : Option PyData),cntP fl < k→fl.length = ps.length→Cons ps st g fl M→0≤M→Up ps fl ρ→acc.length + cntP fl≤1000000 →
  ∃ ws fuel S',Parted ps st g fl ws∧whileN (vB (vC (.bool true))) bodyK fuel (SK ps st g fl0 fl acc x6 x7 x8) = .ret S' true (.list ((acc ++ ws).map wkD)):=fun k=>by
 induction k with
 | zero=>intro fl M acc x6 x7 x8 h; omega
 | succ k ih =>
  intro fl M acc x6 x7 x8 hk hl K hM U hacc
  by_cases hz : M = 0
  ·subst hz
   obtain ⟨z,e⟩:=e_along0 hl K hne U
   refine ⟨[],1,(SK ps st g fl0 fl acc (some (.list [])) x7 x8).set 5 none,Parted.nil z,?_⟩
   refine whileN_ret rfl ?_
   unfold bodyK SK
   walk_at "e1"
   rw [e]
   walk_at "e1"
   simp only [List.isEmpty_nil]
   walk_at "e1"
  ·obtain ⟨w,h1,h2,h3,h4,h5⟩:=e_along hl hp K (by omega) hne U
   obtain ⟨m,y6,y7,y8,m1,m2,m3,eb⟩:=bodyK_go (fl0:=fl0) (acc:=acc) (x6:=x6) (x7:=x7) (x8:=x8) hl hp (by omega) h2 h3 h4 h5
   have hi' : ∀ j∈w,j < fl.length:=fun j hj=>by rw [hl]; exact (h3 j hj).1
   have K':=K.take hl h1 h2 (fun j hj=>(h3 j hj).1) m2
   have U' : Up ps (takeW m fl w) ρ:=U.take (by omega) h2 hi'
   obtain ⟨j0,hj0,ej0⟩:=m3
   have hlt : cntP (takeW m fl w) < cntP fl:=cntP_lt (takeW_len ..) (fun i h=>take_pos (by omega) h2 hi' h) ⟨j0,by rw [takeW_lf h2 hi' j0,if_pos hj0]; omega,by omega⟩
   have hM' : 0≤M - m:=by
    by_cases z : 0≤M - m
    ·exact z
    ·
     exact K.most hl hne U hM h1 (fun j hj=>(h3 j hj).1) m2 h4
   obtain ⟨ws,fuel,S',P,e⟩:=ih (takeW m fl w) (M - m) (acc ++ [(w,m)]) y6 y7 y8 (by omega) (by rw [takeW_len]; exact hl) K' hM' U' (by rw [List.length_append]; simp only [List.length_cons,List.length_nil]; omega)
   refine ⟨(w,m) :: ws,fuel + 1,S',P.more hl ⟨h1,h2,fun j hj=>(h3 j hj).1,h4,m1⟩ m2 ⟨j0,hj0,ej0⟩,?_⟩
   refine whileN_go rfl eb ?_
   rw [e,List.append_assoc]
   rfl
theorem e_walks {ρ : Nat→Int} (hl : fl.length = ps.length) (hp : ps.length≤1000) (hne : st ≠ g) (K : Cons ps st g fl M) (hM : 0≤M) (U : Up ps fl ρ) : ∃ ws,Parted ps st g fl ws∧Pg.m_walks_of [hD ps,.int (st : Int),.int (g : Int),.list (fl.map .int)] = some (true,.list (ws.map wkD)):=by
 obtain ⟨ws,fuel,S',P,e⟩:=walks_go (fl0:=fl) hp hne _ fl M [] none none none (Nat.lt_succ_self _) hl K hM U (by have:=cntP_len fl; simp; omega)
 refine ⟨ws,P,?_⟩
 have e2:=gWh_eq e (by intro z; cases z)
 unfold SK bodyK at e2
 simp only [ob_none,List.map_nil,List.nil_append] at e2
 unfold Pg.m_walks_of Pg.g_walks_of
 walk_at "e1"
 rw [e2]
 walk_at "e1"
end LH
namespace LH
open PySem L2 VM Sp PM
variable {n : Nat} {ps : List Pas} {st g : Nat} {fl : List Int} {M T C : Int}
theorem runs_near (Hh : Hall n ps) (hst : st < n) {left : Lf} {r : List (Int × Int)} {left'' : Lf} {π : Nat→Int} (R : Runs n ps st g (some T) left r left'') (S : St n ps st left π) (h : r ≠ []∨π g≤T) : ∃ π',St n ps st left'' π'∧π' g≤T:=by
 induction R generalizing π with
 | none _ _=>exact ⟨π,S,by rcases h with h | h; exact absurd rfl h; exact h⟩
 | far _ _ _ _=>exact ⟨π,S,by rcases h with h | h; exact absurd rfl h; exact h⟩
 | go P hl R ih =>
  obtain ⟨_,_,⟨π1,S1,e1⟩,_,_⟩:=pushed_ok Hh S hst P
  exact ih S1 (.inr (by rw [e1]; exact hl T rfl))
theorem runs_nil {lim : Option Int} {left left'' : Lf} (R : Runs n ps st g lim left [] left'') : left'' = left:=by
 cases R <;> rfl
noncomputable def Near (ps : List Pas) (st g : Nat) (T : Int) (fl : List Int) : Prop:=∀ i0 : Nat,0 < lf fl i0→∃ π : Nat→Int,π st = 0∧π g≤T∧∀ (i : Nat) q,ps[i]? = some q→0 < lf fl i→q.l≤π q.b - π q.a
theorem near_of_runs (Hh : Hall n ps) (hst : st < n) {r : List (Int × Int)} {L : List Int} (R : Runs n ps st g (some T) (left0 ps) r (lf L)) : Near ps st g T (flowL L ps.length):=fun i0 h0=>by
 have S0 : St n ps st (left0 ps) (fun v=>if v = st then 0 else 1):=st0_ok Hh
 have at_ : ∀ i : Nat,0 < lf (flowL L ps.length) i→i < ps.length∧lf (flowL L ps.length) i = lf L (2 * i + 1):=fun i hi=>by
  have hil : i < (flowL L ps.length).length:=by
   by_cases z : i < (flowL L ps.length).length
   ·exact z
   ·unfold lf at hi
    rw [List.getD_eq_getElem?_getD,List.getElem?_eq_none (by omega)] at hi
    exact absurd hi (by decide)
  have e:=get_of hil
  obtain ⟨a,b⟩:=flow_at e
  exact ⟨a,b⟩
 have hr : r ≠ []:=by
  intro z
  subst z
  obtain ⟨_,e⟩:=at_ i0 h0
  have : lf L = left0 ps:=runs_nil R
  rw [this,left0_odd] at e
  omega
 obtain ⟨π,S,hπ⟩:=runs_near Hh hst R S0 (.inl hr)
 refine ⟨π,S.z,hπ,fun i q e1 hf=>?_⟩
 obtain ⟨_,e⟩:=at_ i hf
 have:=S.fit.pay q.b (2 * i + 1,q.a,-q.l) (Hh.rb q (List.mem_of_getElem? e1)) (mem_outOf.mpr ⟨i,q,e1,.inr ⟨rfl,rfl⟩⟩) (by show 0 < lf L (2 * i + 1); omega)
 have this' : π q.a≤π q.b + -q.l:=this
 omega
theorem best_near (Hh : Hall n ps) (sm : Small n ps) (hst : st < n) (hg : g < n) (hne : st ≠ g) (T : Int) : ∃ fl M C,FlowOk n ps st g T fl M C∧Near ps st g T fl∧Pg.m_best_flow [.int n,hD ps,.int st,.int g,.int T] = some (true,.list (fl.map .int)):=by
 obtain ⟨r,L,R,_,e⟩:=e_best (T:=T) Hh sm hst hg hne
 exact ⟨_,_,_,flow_of_runs Hh hst hg hne R,near_of_runs Hh hst R,e⟩
theorem walk_short {π : Nat→Int} {w : List Nat} (hi : ∀ j∈w,j < ps.length) (hw : goes ps st w = some g) (h : ∀ (i : Nat) q,ps[i]? = some q→i∈w→q.l≤π q.b - π q.a) : alongF Pas.l ps w≤π g - π st:=by
 have e:=goes_pot π hw
 have s:=alongF_sub (ps:=ps) (fun q=>π q.b - π q.a) Pas.l w hi
 have nn : 0≤alongF (fun q=>π q.b - π q.a - q.l) ps w:=alongF_nn fun j hj=>by
  have e1:=List.getElem?_eq_getElem (hi j hj)
  rw [atF_some e1]
  have:=h j _ e1 hj
  omega
 rw [s,e] at nn
 omega
theorem alongF_l1 (Hh : Hall n ps) : ∀ {w : List Nat},(∀ j∈w,j < ps.length)→(w.length : Int)≤alongF Pas.l ps w
 | [],_=>by simp [alongF]
 | j :: w,h=>by
  have e1:=List.getElem?_eq_getElem (h j List.mem_cons_self)
  have:=Hh.l1 _ (List.mem_of_getElem? e1)
  have:=alongF_l1 Hh (w:=w) fun i hi=>h i (List.mem_cons_of_mem _ hi)
  rw [alongF_cons,atF_some e1,List.length_cons]
  omega
theorem leftB_len : ∀ {ps : List Pas} {fl : List Int},fl.length = ps.length→(leftB ps fl).length = 2 * ps.length
 | [],[],_=>rfl
 | [],_ :: _,e=>by simp at e
 | _ :: _,[],e=>by simp at e
 | q :: r,f :: fs,e=>by
  rw [leftB,List.length_cons,List.length_cons,leftB_len (ps:=r) (fl:=fs) (by simpa using e),List.length_cons]; omega
theorem leftB_get : ∀ {ps : List Pas} {fl : List Int} {i : Nat} {q : Pas} {f : Int},ps[i]? = some q→fl[i]? = some f→lf (leftB ps fl) (2 * i) = q.w - f∧lf (leftB ps fl) (2 * i + 1) = f
 | [],_,i,q,f,h,_=>by simp at h
 | _ :: _,[],i,q,f,_,h=>by simp at h
 | p :: r,x :: fs,0,q,f,h1,h2=>by
  simp only [List.getElem?_cons_zero,Option.some.injEq] at h1 h2
  subst h1; subst h2
  exact ⟨rfl,rfl⟩
 | p :: r,x :: fs,i + 1,q,f,h1,h2=>by
  rw [List.getElem?_cons_succ] at h1 h2
  have:=leftB_get (ps:=r) (fl:=fs) h1 h2
  have e1 : lf (leftB (p :: r) (x :: fs)) (2 * (i + 1)) = lf (leftB r fs) (2 * i):=by rw [leftB,show 2 * (i + 1) = 2 * i + 1 + 1 by omega]; rfl
  have e2 : lf (leftB (p :: r) (x :: fs)) (2 * (i + 1) + 1) = lf (leftB r fs) (2 * i + 1):=by rw [leftB,show 2 * (i + 1) + 1 = 2 * i + 1 + 1 + 1 by omega]; rfl
  rw [e1,e2]
  exact this
noncomputable def lateP (st g : Nat) (T : Int) : Pas:=⟨st,g,1,T + 1⟩
theorem late_hall (Hh : Hall n ps) (hst : st < n) (hg : g < n) (hne : st ≠ g) (hT : 0≤T) : Hall n (ps ++ [lateP st g T]):=by
 refine ⟨?_,?_,?_,?_,?_⟩ <;> (intro q hq; rcases List.mem_append.mp hq with h | h)
 ·exact Hh.ra q h
 ·rw [List.mem_singleton.mp h]; exact hst
 ·exact Hh.rb q h
 ·rw [List.mem_singleton.mp h]; exact hg
 ·exact Hh.ne q h
 ·rw [List.mem_singleton.mp h]; exact hne
 ·exact Hh.w1 q h
 ·rw [List.mem_singleton.mp h]; exact Int.le_refl _
 ·exact Hh.l1 q h
 ·rw [List.mem_singleton.mp h]; show 1≤T + 1; omega
noncomputable def momO (T : Int) : Option Lb→Int
 | none=>T + 1
 | some l=>if T + 1 < l.d then T + 1 else l.d
theorem late_fit {μ : Nat→Int} (Hh : Hall n ps) (hst : st < n) (hg : g < n) (hne : st ≠ g) (hT : 0≤T) (hl : fl.length = ps.length) (m0 : μ st = 0) (m1 : μ g = T + 1) (fit : ∀ (i : Nat) q f,ps[i]? = some q→fl[i]? = some f→(f < q.w→μ q.b - μ q.a≤q.l)∧(0 < f→q.l≤μ q.b - μ q.a)) :
  Fit n (lf (leftB (ps ++ [lateP st g T]) (fl ++ [0]))) (outOf (ps ++ [lateP st g T])) μ:=by
 have H2:=late_hall Hh hst hg hne hT
 refine ⟨H2.room,H2.move_ne,fun u m hu hm hp=>?_⟩
 obtain ⟨i,q,e,h⟩:=mem_outOf.mp hm
 have hil : i < ps.length + 1:=by have:=(List.getElem?_eq_some_iff.mp e).1; rw [List.length_append] at this; exact this
 by_cases z : i < ps.length
 ·have e1 : ps[i]? = some q:=by rw [List.getElem?_append_left z] at e; exact e
  have f1 : fl[i]? = some (lf fl i):=get_of (by omega)
  have f2 : (fl ++ [0])[i]? = some (lf fl i):=by rw [List.getElem?_append_left (by omega)]; exact f1
  obtain ⟨l1,l2⟩:=leftB_get e f2
  obtain ⟨k1,k2⟩:=fit i q _ e1 f1
  rcases h with ⟨rfl,rfl⟩ | ⟨rfl,rfl⟩
  ·simp only at hp ⊢
   rw [l1] at hp
   have:=k1 (by omega)
   omega
  ·simp only at hp ⊢
   rw [l2] at hp
   have:=k2 hp
   omega
 ·have hi : i = ps.length:=by omega
  subst hi
  have e1 : q = lateP st g T:=by
   rw [List.getElem?_append_right (Nat.le_refl _),Nat.sub_self,List.getElem?_cons_zero] at e
   exact (Option.some.inj e).symm
  have f2 : (fl ++ [0])[ps.length]? = some 0:=by rw [List.getElem?_append_right (by omega),hl,Nat.sub_self,List.getElem?_cons_zero]
  obtain ⟨l1,l2⟩:=leftB_get e f2
  subst e1
  rcases h with ⟨rfl,rfl⟩ | ⟨rfl,rfl⟩
  ·simp only [lateP]
   omega
  ·simp only at hp
   rw [l2] at hp
   exact absurd hp (by decide)
theorem late_moments {μ : Nat→Int} {lab : List (Option Lb)} (Hh : Hall n ps) (hst : st < n) (hg : g < n) (hne : st ≠ g) (hT : 0≤T) (F : FlowOk n ps st g T fl M C) (m0 : μ st = 0) (m1 : μ g = T + 1) (mb : ∀ v,0≤μ v∧μ v≤T + 1) (fit : ∀ (i : Nat) q f,ps[i]? = some q→fl[i]? = some f→(f < q.w→μ q.b - μ q.a≤q.l)∧(0 < f→q.l≤μ q.b - μ q.a))
  (Tr : Tree n (lf (leftB (ps ++ [lateP st g T]) (fl ++ [0]))) (outOf (ps ++ [lateP st g T])) μ st lab) :
  lf (lab.map (momO T)) st = 0∧lf (lab.map (momO T)) g = T + 1∧(∀ v,v < n→0≤lf (lab.map (momO T)) v∧lf (lab.map (momO T)) v≤T + 1) ∧
  ∀ (i : Nat) q f,ps[i]? = some q→fl[i]? = some f→(f < q.w→lf (lab.map (momO T)) q.b - lf (lab.map (momO T)) q.a≤q.l)∧(0 < f→q.l≤lf (lab.map (momO T)) q.b - lf (lab.map (momO T)) q.a):=by
 have at_ : ∀ {v : Nat} {o : Option Lb},lab[v]? = some o→lf (lab.map (momO T)) v = momO T o:=fun {v o} h=>lf_get (by rw [List.getElem?_map,h]; rfl)
 have some_ : ∀ v,v < n→∃ o,lab[v]? = some o:=fun v hv=>⟨_,List.getElem?_eq_getElem (by rw [Tr.ll]; exact hv)⟩
 have lo : ∀ (v : Nat) (l : Lb),lab[v]? = some (some l)→μ v≤l.d:=fun v l h=>by have:=Tr.lo v l h; omega
 have hlg : ∃ lg : Lb,lab[g]? = some (some lg)∧lg.d = T + 1:=by
  have e : (ps ++ [lateP st g T])[ps.length]? = some (lateP st g T):=by rw [List.getElem?_append_right (Nat.le_refl _),Nat.sub_self,List.getElem?_cons_zero]
  have f2 : (fl ++ [0])[ps.length]? = some 0:=by rw [List.getElem?_append_right (by have:=F.len; omega),F.len,Nat.sub_self,List.getElem?_cons_zero]
  obtain ⟨l1,_⟩:=leftB_get e f2
  obtain ⟨lv,h1,h2⟩:=Tr.rel st _ (2 * ps.length,g,T + 1) Tr.st0 (mem_outOf.mpr ⟨ps.length,_,e,.inl ⟨rfl,rfl⟩⟩) (by simp only; rw [l1]; show (0 : Int) < 1 - 0; decide)
  have h3:=lo g lv h1
  refine ⟨lv,h1,?_⟩
  simp only at h2
  omega
 obtain ⟨lg,eg,hgd⟩:=hlg
 have step : ∀ (i : Nat) (q : Pas) (f : Int),ps[i]? = some q→fl[i]? = some f→(f < q.w→∀ l : Lb,lab[q.a]? = some (some l)→∃ l' : Lb,lab[q.b]? = some (some l')∧l'.d≤l.d + q.l)∧(0 < f→∀ l : Lb,lab[q.b]? = some (some l)→∃ l' : Lb,lab[q.a]? = some (some l')∧l'.d≤l.d - q.l):=fun i q f a b=>by
  have hil : i < ps.length:=(List.getElem?_eq_some_iff.mp a).1
  have e : (ps ++ [lateP st g T])[i]? = some q:=by rw [List.getElem?_append_left hil]; exact a
  have f2 : (fl ++ [0])[i]? = some f:=by rw [List.getElem?_append_left (by have:=F.len; omega)]; exact b
  obtain ⟨l1,l2⟩:=leftB_get e f2
  refine ⟨fun h l hl=>?_,fun h l hl=>?_⟩
  ·exact Tr.rel q.a l (2 * i,q.b,q.l) hl (mem_outOf.mpr ⟨i,q,e,.inl ⟨rfl,rfl⟩⟩) (by simp only; rw [l1]; omega)
  ·obtain ⟨l',h1,h2⟩:=Tr.rel q.b l (2 * i + 1,q.a,-q.l) hl (mem_outOf.mpr ⟨i,q,e,.inr ⟨rfl,rfl⟩⟩) (by simp only; rw [l2]; exact h)
   exact ⟨l',h1,by simp only at h2; omega⟩
 obtain ⟨B,hB0,hB⟩:=above (fun v=>match lab[v]? with | some (some l)=>some l.d | _=>none) n (T + 2)
 have hB' : ∀ (v : Nat) (l : Lb),v < n→lab[v]? = some (some l)→l.d≤B:=fun v l hv h=>hB v l.d hv (by rw [h])
 have up : ∀ (i : Nat) q f,ps[i]? = some q→fl[i]? = some f→0 < f→(fun v=>match lab[v]? with | some (some l)=>l.d | _=>B + 1 + μ v) q.a < (fun v=>match lab[v]? with | some (some l)=>l.d | _=>B + 1 + μ v) q.b:=fun i q f a b hf=>by
  have hl1:=Hh.l1 q (List.mem_of_getElem? a)
  obtain ⟨ob',eb⟩:=some_ q.b (Hh.rb q (List.mem_of_getElem? a))
  obtain ⟨oa,ea⟩:=some_ q.a (Hh.ra q (List.mem_of_getElem? a))
  simp only [ea,eb]
  cases ob' with
  | some lb =>
   obtain ⟨l',h1,h2⟩:=(step i q f a b).2 hf lb eb
   rw [ea] at h1
   cases h1
   simp only
   omega
  | none =>
   cases oa with
   | some la =>
    have:=hB' q.a la (Hh.ra q (List.mem_of_getElem? a)) ea
    have:=(mb q.b).1
    simp only
    omega
   | none =>
    have:=(fit i q f a b).2 hf
    simp only
    omega
 have high : ∀ (i : Nat) q f,ps[i]? = some q→fl[i]? = some f→0 < f→∃ l : Lb,lab[q.b]? = some (some l)∧l.d≤T + 1:=fun i q f a b hf=>by
  have h:=F.cons.high (ρ:=fun v=>match lab[v]? with | some (some l)=>l.d | _=>B + 1 + μ v) F.M0 up i q f a b hf
  obtain ⟨ob',eb⟩:=some_ q.b (Hh.rb q (List.mem_of_getElem? a))
  simp only [eb,eg] at h
  cases ob' with
  | some lb=>exact ⟨lb,eb,by simp only at h; omega⟩
  | none =>
   simp only at h
   have:=(mb q.b).1
   omega
 refine ⟨?_,?_,fun v hv=>?_,fun i q f a b=>⟨fun h=>?_,fun h=>?_⟩⟩
 ·rw [at_ Tr.st0]
  simp only [momO]
  rw [if_neg (by omega)]
 ·rw [at_ eg]
  simp only [momO]
  split <;> omega
 ·obtain ⟨o,e⟩:=some_ v hv
  rw [at_ e]
  cases o with
  | none=>simp only [momO]; omega
  | some l =>
   have h1:=lo v l e
   have h2:=(mb v).1
   simp only [momO]
   split <;> omega
 ·have hl1:=Hh.l1 q (List.mem_of_getElem? a)
  obtain ⟨ob',eb⟩:=some_ q.b (Hh.rb q (List.mem_of_getElem? a))
  obtain ⟨oa,ea⟩:=some_ q.a (Hh.ra q (List.mem_of_getElem? a))
  rw [at_ ea,at_ eb]
  have top : momO T ob'≤T + 1:=by
   cases ob' with
   | none=>simp only [momO]; omega
   | some l=>simp only [momO]; split <;> omega
  cases oa with
  | none =>
   have : momO T none = T + 1:=rfl
   rw [this]
   omega
  | some la =>
   obtain ⟨l',h1,h2⟩:=(step i q f a b).1 h la ea
   rw [eb] at h1
   cases h1
   simp only [momO] at top ⊢
   split at top <;> split <;> omega
 ·obtain ⟨lb,eb,hb⟩:=high i q f a b h
  obtain ⟨la,ea,h2⟩:=(step i q f a b).2 h lb eb
  have hl1:=Hh.l1 q (List.mem_of_getElem? a)
  rw [at_ ea,at_ eb]
  simp only [momO]
  rw [if_neg (by omega),if_neg (by omega)]
  omega
theorem e_moments (Hh : Hall n ps) (hn : n≤900) (hp : ps.length≤900) (hst : st < n) (hg : g < n) (hne : st ≠ g) (hT : 0≤T) (F : FlowOk n ps st g T fl M C) : ∃ μs : List Int,Pg.m_moments_of [.int (n : Int),hD ps,.int (st : Int),.int (g : Int),.int T,.list (fl.map .int)] = some (true,.list (μs.map .int))∧μs.length = n ∧
  lf μs st = 0∧lf μs g = T + 1∧(∀ v,v < n→0≤lf μs v∧lf μs v≤T + 1)∧∀ (i : Nat) q f,ps[i]? = some q→fl[i]? = some f→(f < q.w→lf μs q.b - lf μs q.a≤q.l)∧(0 < f→q.l≤lf μs q.b - lf μs q.a):=by
 obtain ⟨μ,m0,m1,mb,fit⟩:=F.moments Hh hT
 have H2:=late_hall Hh hst hg hne hT
 have Ft:=late_fit Hh hst hg hne hT F.len m0 m1 fit
 have hlen2 : (fl ++ [0]).length = (ps ++ [lateP st g T]).length:=by rw [List.length_append,List.length_append,F.len]; rfl
 have hlL:=leftB_len hlen2
 obtain ⟨lab,hF,er⟩:=e_reach (L:=leftB (ps ++ [lateP st g T]) (fl ++ [0])) (by omega) hst Ft (fun u m hm=>by
  obtain ⟨i,q,e,h⟩:=mem_outOf.mp hm
  have:=(List.getElem?_eq_some_iff.mp e).1
  rw [hlL]
  rcases h with ⟨_,rfl⟩ | ⟨_,rfl⟩ <;> simp only <;> omega)
 have Tr:=found_tree Ft hst hF
 obtain ⟨a1,a2,a3,a4⟩:=late_moments Hh hst hg hne hT F m0 m1 mb fit Tr
 refine ⟨lab.map (momO T),?_,by rw [List.length_map]; exact Tr.ll,a1,a2,a3,a4⟩
 have em:=e_moves_of (m:=(n : Int)) (ps:=(ps ++ [lateP st g T]).map toPq) (by omega) (by omega) (by rw [List.length_map,List.length_append]; simp only [List.length_cons,List.length_nil]; omega) (hall_rooms H2)
 rw [Int.toNat_natCast] at em
 have el:=e_leftB (ps:=ps ++ [lateP st g T]) (fl:=fl ++ [0]) (by rw [List.length_append]; simp only [List.length_cons,List.length_nil]; omega)
 unfold Pg.m_moments_of Pg.g_moments_of
 unfold hD psD at *
 walk_at "e1"
 have ec : catD (.list ((ps.map toPq).map pD)) (.list [.tuple [.int (st : Int),.int (g : Int),.int 1,.int (T + 1)]]) = some (.list (((ps ++ [lateP st g T]).map toPq).map pD)):=by
  rw [catD_s (by rw [List.length_map,List.length_map]; simp only [List.length_cons,List.length_nil]; omega),List.map_append,List.map_append]
  rfl
 rw [ec]
 walk_at "e1"
 have ef : catD (.list (fl.map PyData.int)) (.list [.int 0]) = some (.list ((fl ++ [0]).map .int)):=by
  rw [catD_s (by rw [List.length_map]; have:=F.len; simp only [List.length_cons,List.length_nil]; omega),List.map_append]
  rfl
 rw [ef]
 walk_at "e1"
 rw [el]
 walk_at "e1"
 rw [em]
 walk_at "e1"
 rw [er]
 walk_at "e1"
 rw [bLC_s rfl (by rw [List.length_map,Tr.ll]; exact size_big (by omega))]
 rw [lcD_map (f:=fun d=>match d with | .tuple (.int d :: _)=>.int (if T + 1 < d then T + 1 else d) | _=>.int (T + 1)) (by
  intro d hd
  obtain ⟨o,ho,rfl⟩:=List.mem_map.mp hd
  refine ⟨[some (Tg.fr,lbD o),some (Tg.fr,.int (T + 1))],?_,rfl,?_⟩
  ·walk_at "e1"
  ·cases o with
   | none =>
    have : lbD none = .none:=rfl
    rw [this]
    walk_at "e1"
   | some l =>
    rw [lbD_some]
    walk_at "e1")]
 walk_at "e1"
 rw [List.map_map,List.map_map]
 have : (fun d=>match d with | PyData.tuple (.int d :: _)=>PyData.int (if T + 1 < d then T + 1 else d) | _=>.int (T + 1)) ∘ lbD = PyData.int ∘ momO T:=by
  funext o
  cases o <;> rfl
 rw [this]
theorem e_lengthP {w : List Nat} (hw : ∀ j∈w,j < ps.length) (hl : w.length≤1000) : Pg.m_length_of [hD ps,.list (w.map natD)] = some (false,.int (alongF Pas.l ps w)):=by
 unfold Pg.m_length_of Pg.g_length_of hD psD
 walk_at "e1"
 rw [bLC_s rfl (by rw [List.length_map]; exact size_big (by omega))]
 rw [lcD_map (f:=fun d=>match d with | .int j=>.int (atF Pas.l ps j.toNat) | _=>.none) (by
  intro d hd
  obtain ⟨j,hj,rfl⟩:=List.mem_map.mp hd
  have e:=List.getElem?_eq_getElem (hw j hj)
  refine ⟨[some (Tg.fr,.int (j : Int)),some (Tg.fr,.list ((ps.map toPq).map pD))],?_,rfl,?_⟩
  ·unfold natD; walk_at "e1"
  ·walk_at "e1"
   rw [atI_of pD (show (ps.map toPq)[j]? = some (toPq (ps[j]'(hw j hj))) by rw [List.getElem?_map,e]; rfl)]
   unfold pD toPq natD
   walk_at "e1"
   simp only [Int.toNat_natCast,atF_some e])]
 walk_at "e1"
 rw [List.map_map]
 have e : (w.map ((fun d=>match d with | .int j=>PyData.int (atF Pas.l ps j.toNat) | _=>.none) ∘ natD)) = (w.map (atF Pas.l ps)).map .int:=by
  rw [List.map_map]
  exact List.map_congr_left fun j _=>by simp [natD]
 rw [e]
 simp only [sumD,intsOf_map]
 walk_at "e1"
 rfl
structure OutOk (n : Nat) (ps : List Pas) (st g : Nat) (T W : Int) (ws : List (List Nat × Int)) (μs : List Int) : Prop where
 flow : ∃ fl M C,FlowOk n ps st g T fl M C∧W = M * (T + 1) - C∧Parted ps st g fl ws
 short : ∀ x∈ws,alongF Pas.l ps x.1≤T
 ppl : W = (ws.map fun x=>x.2 * (T - alongF Pas.l ps x.1 + 1)).sum
 ml : μs.length = n
 m0 : lf μs st = 0
 m1 : lf μs g = T + 1
 mb : ∀ v,v < n→0≤lf μs v∧lf μs v≤T + 1
 dual : W = (ps.map (over (lf μs))).sum
theorem OutOk.weak {W : Int} {ws : List (List Nat × Int)} {μs : List Int} (Hh : Hall n ps) (hst : st < n) (hg : g < n) (O : OutOk n ps st g T W ws μs) {μ : Nat→Int} (m0 : μ st = 0) (m1 : μ g = T + 1) : W≤(ps.map (over μ)).sum:=by
 obtain ⟨fl,M,C,F,e,_⟩:=O.flow
 have:=weak_dual Hh hst hg F.lo F.net F.cost m0 m1
 rw [zs_const _ F.len] at this
 omega
theorem worth_ppl {μ : Nat→Int} (m0 : μ st = 0) (m1 : μ g = T + 1) : ∀ {ws : List (List Nat × Int)},(∀ x∈ws,WalkOk ps st g x)→worthW (fun q=>μ q.b - μ q.a - q.l) ps ws = (ws.map fun x=>x.2 * (T - alongF Pas.l ps x.1 + 1)).sum
 | [],_=>rfl
 | x :: ws,h=>by
  have W:=h x List.mem_cons_self
  have e:=goes_pot μ W.go
  have s:=alongF_sub (ps:=ps) (fun q=>μ q.b - μ q.a) Pas.l x.1 W.ix
  rw [worthW,worth_ppl m0 m1 fun y hy=>h y (List.mem_cons_of_mem _ hy),List.map_cons,List.sum_cons,s,e,m0,m1]
  have : T + 1 - 0 - alongF Pas.l ps x.1 = T - alongF Pas.l ps x.1 + 1:=by omega
  rw [this]
theorem e_out (Hh : Hall n ps) (sm : Small n ps) (hn : n≤900) (hp : ps.length≤900) (hst : st < n) (hg : g < n) (hne : st ≠ g) (hT : 0≤T) (hB : T + 1 < 10000000000000000000000000000000000000000000000000000000000000000000000000000000000000000000000000000) (hw : ∀ q∈ps,q.w < 10000000000000000000000000000000000000000000000000000000000000000000000000000000000000000000000000000) :
  ∃ W ws μs,OutOk n ps st g T W ws μs∧Pg.m_out_within [.int (n : Int),hD ps,.int (st : Int),.int (g : Int),.int T] = some (false,.tuple [.int W,.list (ws.map wkD),.list (μs.map .int)]):=by
 obtain ⟨fl,M,C,F,N,eb⟩:=best_near Hh sm hst hg hne T
 obtain ⟨μs,em,ml,m0,m1,mb,fit⟩:=e_moments Hh hn hp hst hg hne hT F
 have U : Up ps fl (lf μs):=fun i q f a b hf=>by
  have:=(fit i q f a b).2 hf
  have:=Hh.l1 q (List.mem_of_getElem? a)
  omega
 obtain ⟨ws,P,ew⟩:=e_walks F.len (by omega) hne F.cons F.M0 U
 have pos : ∀ x∈ws,∀ (i : Nat) q,ps[i]? = some q→i∈x.1→0 < lf fl i:=fun x hx i q e hi=>((P.has hx) i hi).2
 have short : ∀ x∈ws,alongF Pas.l ps x.1≤T:=fun x hx=>by
  have Wk:=P.walk x hx
  obtain ⟨j0,hj0⟩:=List.exists_mem_of_ne_nil _ Wk.ne
  obtain ⟨π,p0,p1,p2⟩:=N j0 ((P.has hx) j0 hj0).2
  have:=walk_short Wk.ix Wk.go fun i q e hi=>p2 i q e (pos x hx i q e hi)
  omega
 have ppl : M * (T + 1) - C = (ws.map fun x=>x.2 * (T - alongF Pas.l ps x.1 + 1)).sum:=by
  rw [worth_pot Hh hst hg F.net F.cost m0 m1,← worth_ppl m0 m1 P.walk]
  exact (P.tot _).symm
 have dual : M * (T + 1) - C = (ps.map (over (lf μs))).sum:=by
  rw [strong_dual Hh hst hg F.lo F.net F.cost m0 m1 fit,zs_const _ F.len]
 refine ⟨M * (T + 1) - C,ws,μs,⟨⟨fl,M,C,F,rfl,P⟩,short,ppl,ml,m0,m1,mb,dual⟩,?_⟩
 have hwl : ws.length≤ps.length:=by have:=P.few; have:=cntP_len fl; have:=F.len; omega
 unfold Pg.m_out_within Pg.g_out_within
 walk_at "e1"
 rw [eb]
 walk_at "e1"
 rw [ew]
 walk_at "e1"
 rw [bLC_s rfl (by rw [List.length_map]; exact size_big (by omega))]
 rw [lcD_map (f:=fun d=>match d with | .tuple [.list w,.int m]=>(match intsOf w with | some v=>.int (m * (T - alongF Pas.l ps (v.map Int.toNat) + 1)) | none=>.none) | _=>.none) (by
  intro d hd
  obtain ⟨x,hx,rfl⟩:=List.mem_map.mp hd
  have Wk:=P.walk x hx
  have hs:=short x hx
  have hl0:=alongF_l1 Hh Wk.ix
  have hxl : x.1.length≤ps.length:=nodup_lt Wk.nd Wk.ix
  obtain ⟨j0,hj0⟩:=List.exists_mem_of_ne_nil _ Wk.ne
  have h1:=((P.has hx) j0 hj0).1
  have e0:=List.getElem?_eq_getElem (Wk.ix j0 hj0)
  have h2:=(F.lo j0 _ _ e0 (get_of (by rw [F.len]; exact Wk.ix j0 hj0))).2
  have h3:=hw _ (List.mem_of_getElem? e0)
  have h4:=Wk.m1
  obtain ⟨w,m⟩:=x
  simp only at *
  refine ⟨[some (Tg.fr,.list (w.map natD)),some (Tg.fr,.int m),some (Tg.fr,.int T),some (Tg.fr,hD ps)],?_,rfl,?_⟩
  ·unfold wkD; walk_at "e1"
  ·walk_at "e1"
   rw [e_lengthP Wk.ix (by simp only; omega)]
   walk_at "e1"
   rw [mulD_i (by omega) (by omega) (by omega) (by omega)]
   have ei : intsOf (w.map natD) = some (w.map fun j : Nat=>(j : Int)):=by
    have : w.map natD = (w.map fun j : Nat=>(j : Int)).map .int:=by rw [List.map_map]; rfl
    rw [this,intsOf_map]
   have e2 : (w.map fun j : Nat=>(j : Int)).map Int.toNat = w:=by rw [List.map_map]; exact (List.map_congr_left fun j _=>by simp).trans (List.map_id w)
   simp only [wkD,ei,e2])]
 walk_at "e1"
 rw [List.map_map]
 have e3 : ws.map ((fun d=>match d with | .tuple [.list w,.int m]=>(match intsOf w with | some v=>PyData.int (m * (T - alongF Pas.l ps (v.map Int.toNat) + 1)) | none=>.none) | _=>.none) ∘ wkD) = (ws.map fun x=>x.2 * (T - alongF Pas.l ps x.1 + 1)).map .int:=by
  rw [List.map_map]
  refine List.map_congr_left fun x _=>?_
  obtain ⟨w,m⟩:=x
  have ei : intsOf (w.map natD) = some (w.map fun j : Nat=>(j : Int)):=by
   have : w.map natD = (w.map fun j : Nat=>(j : Int)).map .int:=by rw [List.map_map]; rfl
   rw [this,intsOf_map]
  have e2 : (w.map fun j : Nat=>(j : Int)).map Int.toNat = w:=by rw [List.map_map]; exact (List.map_congr_left fun j _=>by simp).trans (List.map_id w)
  simp only [Function.comp,wkD,ei,e2]
 rw [e3]
 simp only [sumD,intsOf_map]
 rw [← ppl]
 walk_at "e1"
 rw [em]
 walk_at "e1"
end LH
namespace LH
open PySem L2 VM Sp PM
noncomputable def owB (v : Option PyData) : Option (Tg × PyData):=v.map fun d=>(Tg.ow,d)
theorem owB_some (d : PyData) : owB (some d) = some (Tg.ow,d):=rfl
theorem owB_none : owB none = none:=rfl
theorem nio_owB (o : Option PyData) : nio (some (owB o)) = true:=by cases o <;> rfl
end LH
namespace LH
open PySem L2 VM Sp PM
variable {n : Nat} {ps ps' : List Pas} {st g : Nat} {T W W' : Int}
noncomputable def IsOut (n : Nat) (ps : List Pas) (st g : Nat) (T W : Int) : Prop:=∃ ws μs,OutOk n ps st g T W ws μs
theorem IsOut.dual (O : IsOut n ps st g T W) : ∃ μ : Nat→Int,μ st = 0∧μ g = T + 1∧W = (ps.map (over μ)).sum:=by
 obtain ⟨ws,μs,O⟩:=O
 exact ⟨lf μs,O.m0,O.m1,O.dual⟩
theorem IsOut.weak (Hh : Hall n ps) (hst : st < n) (hg : g < n) (O : IsOut n ps st g T W) {μ : Nat→Int} (m0 : μ st = 0) (m1 : μ g = T + 1) : W≤(ps.map (over μ)).sum:=by
 obtain ⟨ws,μs,O⟩:=O
 exact O.weak Hh hst hg m0 m1
noncomputable def wideBy (y : Int) (q : Pas) : Pas:=⟨q.a,q.b,q.w * y,q.l⟩
theorem over_wideBy (y : Int) (q : Pas) (μ : Nat→Int) : over μ (wideBy y q) = over μ q * y:=by
 unfold over wideBy
 simp only
 split
 ·rw [Int.mul_assoc,Int.mul_comm y,← Int.mul_assoc]
 ·rw [Int.zero_mul]
theorem sum_by (F G : Pas→Int) (y : Int) (h : ∀ q,G q = F q * y) : ∀ ps : List Pas,(ps.map G).sum = (ps.map F).sum * y
 | []=>by simp
 | q :: r=>by rw [List.map_cons,List.sum_cons,List.map_cons,List.sum_cons,sum_by F G y h r,h q,Int.add_mul]
theorem IsOut.wide {y : Int} (y1 : 1≤y) (Hh : Hall n ps) (Hh' : Hall n (ps.map (wideBy y))) (hst : st < n) (hg : g < n) (O : IsOut n ps st g T W) (O' : IsOut n (ps.map (wideBy y)) st g T W') : W' = W * y:=by
 have e : ∀ μ : Nat→Int,((ps.map (wideBy y)).map (over μ)).sum = (ps.map (over μ)).sum * y:=fun μ=>by
  rw [List.map_map]
  exact sum_by _ _ y (fun q=>over_wideBy y q μ) ps
 obtain ⟨μ,m0,m1,d⟩:=O.dual
 obtain ⟨μ',m0',m1',d'⟩:=O'.dual
 have h1:=O'.weak Hh' hst hg m0 m1
 have h2:=O.weak Hh hst hg m0' m1'
 rw [e,← d] at h1
 rw [e] at d'
 have h3:=Int.mul_le_mul_of_nonneg_right h2 (show 0≤y by omega)
 omega
end LH
namespace LH
open PySem L2 VM Sp PM
variable {n : Nat} {ps : List Pas} {st g : Nat} {T W : Int}
theorem sum_le_len {B : Int} (F : Pas→Int) : ∀ {ps : List Pas},(∀ q∈ps,F q≤B)→(ps.map F).sum≤ps.length * B
 | [],_=>by simp
 | q :: r,h=>by
  have h1:=h q List.mem_cons_self
  have h2:=sum_le_len F (ps:=r) fun p hp=>h p (List.mem_cons_of_mem _ hp)
  rw [List.map_cons,List.sum_cons,List.length_cons]
  have : ((r.length + 1 : Nat) : Int) * B = r.length * B + B:=by rw [Int.natCast_add,Int.add_mul]; simp
  omega
theorem IsOut.le {B : Int} (Hh : Hall n ps) (hT : 0≤T) (hB : ∀ q∈ps,q.w≤B) (hst : st < n) (O : IsOut n ps st g T W) : W≤ps.length * (B * (T + 1)):=by
 obtain ⟨ws,μs,O⟩:=O
 rw [O.dual]
 refine sum_le_len _ fun q hq=>?_
 have h1:=O.mb q.a (Hh.ra q hq)
 have h2:=O.mb q.b (Hh.rb q hq)
 have h3:=Hh.w1 q hq
 have h4:=hB q hq
 have h5:=Hh.l1 q hq
 unfold over
 split
 ·exact Int.mul_le_mul h4 (by omega) (by omega) (by omega)
 ·exact Int.mul_nonneg (by omega) (by omega)
structure HallW (n : Nat) (ps : List Pas) : Prop where
 hall : Hall n ps
 few : ps.length≤12
 w : ∀ q∈ps,q.w < 10000000000000000000000000000000000000000000000000000000000000000000000000000000000000000000000000000
end LH
namespace LH
open PySem L2 VM Sp PM
variable {n : Nat} {ps : List Pas} {st g : Nat} {fl : List Int} {M T C p : Int}
noncomputable def worthT (T : Int) (G : List (Int × Int)) : Int:=wsum (fun l=>if l≤T then T + 1 - l else 0) G
theorem worthT_cons (T : Int) (x : Int × Int) (G : List (Int × Int)) : worthT T (x :: G) = x.2 * (if x.1≤T then T + 1 - x.1 else 0) + worthT T G:=wsum_cons _ _ _
theorem worthT_nn (T : Int) : ∀ {G : List (Int × Int)},(∀ x∈G,1≤x.2)→0≤worthT T G
 | [],_=>by simp [worthT,wsum]
 | x :: G,h=>by
  have a:=h x List.mem_cons_self
  have b:=worthT_nn T (G:=G) fun y hy=>h y (List.mem_cons_of_mem _ hy)
  rw [worthT_cons]
  have : 0≤x.2 * (if x.1≤T then T + 1 - x.1 else 0):=Int.mul_nonneg (by omega) (by split <;> omega)
  omega
theorem worthT_far (T : Int) : ∀ {G : List (Int × Int)},(∀ x∈G,T < x.1)→worthT T G = 0
 | [],_=>by simp [worthT,wsum]
 | x :: G,h=>by
  have a:=h x List.mem_cons_self
  rw [worthT_cons,worthT_far T fun y hy=>h y (List.mem_cons_of_mem _ hy),if_neg (by omega)]
  simp
noncomputable def needL (p : Int) : Int→Int→List (Int × Int)→List Int
 | _,_,[]=>[]
 | am,co,x :: G=>((p + (co + x.2 * x.1) - 1) / (am + x.2)) :: needL p (am + x.2) (co + x.2 * x.1) G
theorem div_lo (a : Int) {b : Int} (h : 0 < b) : a < b * (a / b + 1):=by
 have:=Int.mul_ediv_add_emod a b
 have:=Int.emod_lt_of_pos a h
 rw [Int.mul_add,Int.mul_one]
 omega
theorem div_up (a : Int) {b : Int} (h : 0 < b) : b * (a / b)≤a:=by
 have:=Int.mul_ediv_add_emod a b
 have:=Int.emod_nonneg a (show b ≠ 0 by omega)
 omega
theorem need_ok : ∀ {G : List (Int × Int)} {am co t : Int},0≤am→(∀ x∈G,1≤x.2)→t∈needL p am co G→p≤am * (t + 1) - co + worthT t G
 | [],_,_,_,_,_,h=>by simp [needL] at h
 | x :: G,am,co,t,ha,hp,h=>by
  have x1:=hp x List.mem_cons_self
  have hp' : ∀ y∈G,1≤y.2:=fun y hy=>hp y (List.mem_cons_of_mem _ hy)
  have key : (am + x.2) * (t + 1) - (co + x.2 * x.1)≤am * (t + 1) - co + x.2 * (if x.1≤t then t + 1 - x.1 else 0):=by
   rw [Int.add_mul]
   have e : x.2 * (t + 1) - x.2 * x.1 = x.2 * (t + 1 - x.1):=by rw [Int.mul_sub]
   have : x.2 * (t + 1 - x.1)≤x.2 * (if x.1≤t then t + 1 - x.1 else 0):=Int.mul_le_mul_of_nonneg_left (by split <;> omega) (by omega)
   omega
  rw [worthT_cons]
  rw [needL,List.mem_cons] at h
  rcases h with h | h
  ·have:=div_lo (p + (co + x.2 * x.1) - 1) (show 0 < am + x.2 by omega)
   rw [← h] at this
   have:=worthT_nn t hp'
   omega
  ·have:=need_ok (by omega) hp' h
   omega
theorem need_no : ∀ {G : List (Int × Int)} {am co T : Int},0≤am→Rise G→(∀ t∈needL p am co G,T < t)→am * (T + 1) - co < p→am * (T + 1) - co + worthT T G < p
 | [],am,co,T,_,_,_,h=>by simpa [worthT,wsum] using h
 | x :: G,am,co,T,ha,R,hn,h=>by
  have x1:=(R.pos x List.mem_cons_self).2
  have up:=List.pairwise_cons.mp R.up
  by_cases z : x.1≤T
  ·have h0:=hn _ (by rw [needL]; exact List.mem_cons_self)
   have h1:=div_up (p + (co + x.2 * x.1) - 1) (show 0 < am + x.2 by omega)
   have h2 : (am + x.2) * (T + 1)≤(am + x.2) * ((p + (co + x.2 * x.1) - 1) / (am + x.2)):=Int.mul_le_mul_of_nonneg_left (by omega) (by omega)
   have:=need_no (G:=G) (am:=am + x.2) (co:=co + x.2 * x.1) (T:=T) (by omega) ⟨up.2,fun y hy=>R.pos y (List.mem_cons_of_mem _ hy)⟩ (fun t ht=>hn t (by rw [needL]; exact List.mem_cons_of_mem _ ht)) (by omega)
   rw [worthT_cons,if_pos z]
   have e : (am + x.2) * (T + 1) - (co + x.2 * x.1) = am * (T + 1) - co + x.2 * (T + 1 - x.1):=by
    rw [Int.add_mul,Int.mul_sub]; omega
   omega
  ·rw [worthT_far T (G:=x :: G) fun y hy=>by
    rcases List.mem_cons.mp hy with rfl | hy
    ·omega
    ·have:=up.1 y hy; omega]
   omega
theorem needL_len (p : Int) : ∀ (G : List (Int × Int)) (am co : Int),(needL p am co G).length = G.length
 | [],_,_=>rfl
 | x :: G,am,co=>by rw [needL,List.length_cons,needL_len p G,List.length_cons]
theorem many_cons (x : Int × Int) (G : List (Int × Int)) : many (x :: G) = x.2 + many G:=by simp [many]
theorem e_turns_by {G : List (Int × Int)} (hne : G ≠ []) (hl : G.length≤16000000) (pos : ∀ x∈G,1≤x.1∧1≤x.2) (hL : ∀ x∈G,x.1 < 10000000000000000000000000000000000000000000000000000000000000000000000000000000000000000000000000000) (hM : many G < 10000000000000000000000000000000000000000000000000000000000000000000000000000000000000000000000000000) :
  Pg.m_turns_by [.list (G.map stepD),.int p] = some (false,.int (leastOf (needL p 0 0 G))):=by
 have loop : ∀ (A : List PyData) (G : List (Int × Int)) (am co : Int) (acc : List Int) (x5 x6 : Option PyData),0≤am→acc.length + G.length≤16000000→(∀ x∈G,1≤x.1∧1≤x.2)→(∀ x∈G,x.1 < 10000000000000000000000000000000000000000000000000000000000000000000000000000000000000000000000000000)→am + many G < 10000000000000000000000000000000000000000000000000000000000000000000000000000000000000000000000000000→∃ am' co' x5' x6',forG (gT 2 (gC (gN 5) (gC (gN 6) g0))) (gSeq (gAug addD 2 (vF 6)) (gSeq (gAug addD 3 (v2 mulD (vN 6) (vN 5))) (gApp 4 (aC (v2 divD (v2 subD (v2 addD (vN 1) (vN 3)) (vC (.int 1))) (vN 2)) a0)))) (G.map stepD)
   [some (Tg.fr,.list A),some (Tg.fr,.int p),some (Tg.fr,.int am),some (Tg.fr,.int co),some (Tg.ow,.list (acc.map .int)),ob x5,ob x6] = .nxt [some (Tg.fr,.list A),some (Tg.fr,.int p),some (Tg.fr,.int am'),some (Tg.fr,.int co'),some (Tg.ow,.list ((acc ++ needL p am co G).map .int)),ob x5',ob x6']:=fun A G=>by
  induction G with
  | nil=>intro am co acc x5 x6 _ _ _ _ _; exact ⟨am,co,x5,x6,by simp [forG,needL]⟩
  | cons x G ih =>
   intro am co acc x5 x6 ha hlen pos hL hM
   have p0:=pos x List.mem_cons_self
   have l0:=hL x List.mem_cons_self
   have hMn : 0≤many G:=many_pos fun y hy=>by have:=(pos y (List.mem_cons_of_mem _ hy)).2; omega
   rw [many_cons] at hM
   rw [List.length_cons] at hlen
   obtain ⟨am',co',y5,y6,hx⟩:=ih (am + x.2) (co + x.2 * x.1) (acc ++ [(p + (co + x.2 * x.1) - 1) / (am + x.2)]) (some (.int x.1)) (some (.int x.2)) (by omega) (by rw [List.length_append]; simp only [List.length_cons,List.length_nil]; omega) (fun y hy=>pos y (List.mem_cons_of_mem _ hy)) (fun y hy=>hL y (List.mem_cons_of_mem _ hy)) (by omega)
   refine ⟨am',co',y5,y6,?_⟩
   have e : stepD x = .tuple [.int x.1,.int x.2]:=rfl
   rw [List.map_cons,forG,e,needL]
   rw [List.append_assoc] at hx
   rw [List.singleton_append] at hx
   rw [← hx]
   walk_at "e1"
   rw [mulD_i (by omega) (by omega) (by omega) (by omega)]
   walk_at "e1"
   rw [divD_i (by omega) (by omega)]
   walk_at "e1"
   rw [if_pos (by rw [List.length_map]; exact size_big (by omega)),List.map_append]
   rfl
 unfold Pg.m_turns_by Pg.g_turns_by
 walk_at "e1"
 obtain ⟨am',co',y5,y6,hx⟩:=loop (G.map stepD) G 0 0 [] none none (by omega) (by simpa using hl) pos hL (by omega)
 simp only [ob_none,List.map_nil,List.nil_append] at hx
 rw [hx]
 walk_at "e1"
 have eM : minD [.list ((needL p 0 0 G).map PyData.int)] = some (.int (leastOf (needL p 0 0 G))):=by
  simp only [minD,intsOf_map]
  cases G with
  | nil=>exact absurd rfl hne
  | cons m r=>simp only [needL]
 rw [eM]
 walk_at "e1"
theorem FlowOk.pred {fl' : List Int} {M' C' : Int} (Hh : Hall n ps) (hst : st < n) (hg : g < n) (hT : 1≤T) (F : FlowOk n ps st g T fl M C) (F' : FlowOk n ps st g (T - 1) fl' M' C') (e : M * (T - 1 + 1) - C = M' * (T - 1 + 1) - C') : FlowOk n ps st g (T - 1) fl M C:=by
 obtain ⟨μ,m0,m1,mb,fit⟩:=F'.moments Hh (by omega)
 have d1:=strong_dual Hh hst hg F'.lo F'.net F'.cost m0 m1 fit
 rw [zs_const _ F'.len] at d1
 have d2:=worth_pot Hh hst hg F.net F.cost m0 m1
 have w0:=F'.W0
 have le : ∀ (i : Nat) q f,ps[i]? = some q→fl[i]? = some f→0≤over μ q - f * (μ q.b - μ q.a - q.l):=fun i q f a b=>by
  have:=F.lo i q f a b
  unfold over
  split
  ·have : f * (μ q.b - μ q.a - q.l)≤q.w * (μ q.b - μ q.a - q.l):=Int.mul_le_mul_of_nonneg_right (by omega) (by omega)
   omega
  ·have : f * (μ q.b - μ q.a - q.l)≤0:=Int.mul_nonpos_of_nonneg_of_nonpos (by omega) (by omega)
   omega
 have tot : zs (fun q f=>over μ q - f * (μ q.b - μ q.a - q.l)) ps fl = 0:=by
  rw [zs_sub2 (fun q _=>over μ q) (fun q f=>f * (μ q.b - μ q.a - q.l)),zs_const _ F.len,← d2,← d1]
  omega
 have eq : ∀ (i : Nat) q f,ps[i]? = some q→fl[i]? = some f→over μ q = f * (μ q.b - μ q.a - q.l):=fun i q f a b=>by
  have h1:=zs_part le i q f a b
  have h2:=le i q f a b
  rw [tot] at h1
  omega
 refine ⟨F.len,F.lo,F.net,F.cost,F.M0,by omega,μ,m0,by omega,fun _=>by omega,fun i q f a b=>?_⟩
 have h:=eq i q f a b
 have hf:=F.lo i q f a b
 unfold over at h
 split at h
 ·rename_i z
  refine ⟨fun hlt=>?_,fun _=>by omega⟩
  have h3 : (q.w - f) * (μ q.b - μ q.a - q.l) = 0:=by rw [Int.sub_mul]; omega
  have h4 : 0 < (q.w - f) * (μ q.b - μ q.a - q.l):=Int.mul_pos (by omega) (by omega)
  omega
 ·rename_i z
  refine ⟨fun _=>by omega,fun hf0=>?_⟩
  by_cases z2 : μ q.b - μ q.a - q.l = 0
  ·omega
  ·have : f * (μ q.b - μ q.a - q.l) < 0:=Int.mul_neg_of_pos_of_neg hf0 (by omega)
   omega
structure PRow where
 w : List Nat
 m : Int
 s : Int
 e : Int
noncomputable def rowD (r : PRow) : PyData:=.tuple [.list (r.w.map natD),.int r.m,.int r.s,.int r.e]
noncomputable def momsOf (ps : List Pas) (T : Int) (w : List Nat) : Int:=T - alongF Pas.l ps w + 1
noncomputable def fullOf (ps : List Pas) (T wt : Int) (x : List Nat × Int) : Int:=if wt / x.2 < momsOf ps T x.1 then wt / x.2 else momsOf ps T x.1
noncomputable def rowsA (ps : List Pas) (T wt : Int) (x : List Nat × Int) : List PRow:=if 0 < fullOf ps T wt x then [⟨x.1,x.2,0,fullOf ps T wt x - 1⟩] else []
noncomputable def waitA (ps : List Pas) (T wt : Int) (x : List Nat × Int) : Int:=if 0 < fullOf ps T wt x then wt - x.2 * fullOf ps T wt x else wt
noncomputable def rowsB (ps : List Pas) (T wt : Int) (x : List Nat × Int) : List PRow:=if fullOf ps T wt x < momsOf ps T x.1∧0 < waitA ps T wt x then [⟨x.1,waitA ps T wt x,fullOf ps T wt x,fullOf ps T wt x⟩] else []
noncomputable def waitB (ps : List Pas) (T wt : Int) (x : List Nat × Int) : Int:=if fullOf ps T wt x < momsOf ps T x.1∧0 < waitA ps T wt x then 0 else waitA ps T wt x
noncomputable def planOf (ps : List Pas) (T : Int) : Int→List (List Nat × Int)→List PRow
 | _,[]=>[]
 | wt,x :: ws=>(rowsA ps T wt x ++ rowsB ps T wt x) ++ planOf ps T (waitB ps T wt x) ws
noncomputable def leftOf (ps : List Pas) (T : Int) : Int→List (List Nat × Int)→Int
 | wt,[]=>wt
 | wt,x :: ws=>leftOf ps T (waitB ps T wt x) ws
section
variable {wt : Int} {x : List Nat × Int}
theorem full_in (h0 : 0≤wt) (m1 : 1≤x.2) (hs : alongF Pas.l ps x.1≤T) : 0≤fullOf ps T wt x∧fullOf ps T wt x≤momsOf ps T x.1∧x.2 * fullOf ps T wt x≤wt∧(fullOf ps T wt x < momsOf ps T x.1→wt < x.2 * (fullOf ps T wt x + 1)):=by
 have a:=div_up wt (show 0 < x.2 by omega)
 have b:=div_lo wt (show 0 < x.2 by omega)
 have c : 0≤wt / x.2:=Int.ediv_nonneg h0 (by omega)
 unfold fullOf
 split
 ·exact ⟨c,by omega,a,fun _=>b⟩
 ·rename_i z
  have : x.2 * momsOf ps T x.1≤x.2 * (wt / x.2):=Int.mul_le_mul_of_nonneg_left (by omega) (by omega)
  exact ⟨by unfold momsOf; omega,Int.le_refl _,by omega,fun h=>absurd h (by omega)⟩
theorem waitA_eq (h0 : 0≤wt) (m1 : 1≤x.2) (hs : alongF Pas.l ps x.1≤T) : waitA ps T wt x = wt - x.2 * fullOf ps T wt x:=by
 unfold waitA
 split
 ·rfl
 ·have:=full_in h0 m1 hs
  have e : fullOf ps T wt x = 0:=by omega
  rw [e]; simp
theorem waitB_eq (h0 : 0≤wt) (m1 : 1≤x.2) (hs : alongF Pas.l ps x.1≤T) : waitB ps T wt x = if wt < x.2 * momsOf ps T x.1 then 0 else wt - x.2 * momsOf ps T x.1:=by
 obtain ⟨f0,f1,f2,f3⟩:=full_in h0 m1 hs
 have ea:=waitA_eq h0 m1 hs
 unfold waitB
 by_cases z : fullOf ps T wt x < momsOf ps T x.1
 ·have h3:=f3 z
  have h4 : x.2 * (fullOf ps T wt x + 1)≤x.2 * momsOf ps T x.1:=Int.mul_le_mul_of_nonneg_left (by omega) (by omega)
  rw [if_pos (show wt < x.2 * momsOf ps T x.1 by omega)]
  split
  ·rfl
  ·rename_i hn
   have : ¬ 0 < waitA ps T wt x:=fun h=>hn ⟨z,h⟩
   omega
 ·have e : fullOf ps T wt x = momsOf ps T x.1:=by omega
  rw [if_neg (fun h=>z h.1),ea,e]
  rw [e] at f2
  rw [if_neg (by omega)]
theorem row_ppl (h0 : 0≤wt) (m1 : 1≤x.2) (hs : alongF Pas.l ps x.1≤T) : ((rowsA ps T wt x ++ rowsB ps T wt x).map fun r=>r.m * (r.e - r.s + 1)).sum = wt - waitB ps T wt x:=by
 obtain ⟨f0,f1,f2,f3⟩:=full_in h0 m1 hs
 have ea:=waitA_eq h0 m1 hs
 have hA : ((rowsA ps T wt x).map fun r=>r.m * (r.e - r.s + 1)).sum = x.2 * fullOf ps T wt x:=by
  unfold rowsA
  split
  ·simp only [List.map_cons,List.map_nil,List.sum_cons,List.sum_nil]
   have : fullOf ps T wt x - 1 - 0 + 1 = fullOf ps T wt x:=by omega
   rw [this]; omega
  ·have e : fullOf ps T wt x = 0:=by omega
   rw [e]; simp
 have hB : ((rowsB ps T wt x).map fun r=>r.m * (r.e - r.s + 1)).sum = waitA ps T wt x - waitB ps T wt x:=by
  unfold rowsB waitB
  split
  ·simp only [List.map_cons,List.map_nil,List.sum_cons,List.sum_nil]
   have : fullOf ps T wt x - fullOf ps T wt x + 1 = 1:=by omega
   rw [this]; omega
  ·simp
 rw [List.map_append,List.sum_append,hA,hB]
 omega
theorem waitB_nn (h0 : 0≤wt) (m1 : 1≤x.2) (hs : alongF Pas.l ps x.1≤T) : 0≤waitB ps T wt x:=by
 rw [waitB_eq h0 m1 hs]
 split <;> omega
structure RowOk (ps : List Pas) (T : Int) (x : List Nat × Int) (r : PRow) : Prop where
 w : r.w = x.1
 m1 : 1≤r.m
 mx : r.m≤x.2
 s0 : 0≤r.s
 se : r.s≤r.e
 eT : r.e + alongF Pas.l ps r.w≤T
theorem row_ok (h0 : 0≤wt) (m1 : 1≤x.2) (hs : alongF Pas.l ps x.1≤T) : ∀ r∈rowsA ps T wt x ++ rowsB ps T wt x,RowOk ps T x r:=by
 obtain ⟨f0,f1,f2,f3⟩:=full_in h0 m1 hs
 have ea:=waitA_eq h0 m1 hs
 intro r hr
 rcases List.mem_append.mp hr with h | h
 ·unfold rowsA at h
  split at h
  ·rw [List.mem_singleton] at h
   subst h
   exact ⟨rfl,m1,Int.le_refl _,Int.le_refl _,by simp only; omega,by simp only; unfold momsOf at f1; omega⟩
  ·cases h
 ·unfold rowsB at h
  split at h
  ·rename_i hc
   rw [List.mem_singleton] at h
   subst h
   have h3:=f3 hc.1
   rw [Int.mul_add,Int.mul_one] at h3
   have h4:=hc.1
   unfold momsOf at h4
   exact ⟨rfl,by simp only; omega,by simp only; omega,f0,Int.le_refl _,by simp only; omega⟩
  ·cases h
end
noncomputable abbrev Ex:=Nat × Int × Int × Int
noncomputable def expW (ps : List Pas) : Int→List Nat→Int→Int→Int→List Ex
 | _,[],_,_,_=>[]
 | at',j :: w,m,s,e=>(j,m,s + at',e + at') :: expW ps (at' + atF Pas.l ps j) w m s e
noncomputable def cov (k : Nat) (t : Int) : List Ex→Int
 | []=>0
 | o :: r=>(if o.1 = k∧o.2.2.1≤t∧t≤o.2.2.2 then o.2.1 else 0) + cov k t r
theorem cov_app (k : Nat) (t : Int) : ∀ a b : List Ex,cov k t (a ++ b) = cov k t a + cov k t b
 | [],b=>by simp [cov]
 | o :: a,b=>by rw [List.cons_append,cov,cov,cov_app k t a b]; omega
noncomputable def offs (ps : List Pas) : Int→List Nat→Nat→Int
 | at',[],_=>at'
 | at',j :: w,k=>if j = k then at' else offs ps (at' + atF Pas.l ps j) w k
theorem cov_none {k : Nat} {t m s e : Int} : ∀ {w : List Nat} {at' : Int},k ∉ w→cov k t (expW ps at' w m s e) = 0
 | [],_,_=>rfl
 | j :: w,at',h=>by
  rw [expW,cov,if_neg (fun z=>h (by simp only at z; rw [← z.1]; exact List.mem_cons_self)),cov_none fun z=>h (List.mem_cons_of_mem _ z)]
  rfl
theorem cov_exp {k : Nat} {t m s e : Int} : ∀ {w : List Nat} {at' : Int},w.Nodup→cov k t (expW ps at' w m s e) = if k∈w∧s + offs ps at' w k≤t∧t≤e + offs ps at' w k then m else 0
 | [],_,_=>by simp [expW,cov]
 | j :: w,at',nd=>by
  have nd':=List.nodup_cons.mp nd
  rw [expW,cov]
  by_cases z : j = k
  ·subst z
   rw [cov_none nd'.1]
   simp only [offs,if_true,List.mem_cons,true_or,true_and]
   split <;> omega
  ·rw [cov_exp nd'.2,if_neg (fun h=>z h.1)]
   simp only [offs,if_neg z,List.mem_cons]
   have : (k = j∨k∈w) ↔ k∈w:=⟨fun h=>by rcases h with h | h; exact absurd h.symm z; exact h,.inr⟩
   simp only [this]
   omega
noncomputable def expP (ps : List Pas) (rs : List PRow) : List Ex:=(rs.map fun r=>expW ps 0 r.w r.m r.s r.e).flatten
theorem expP_app (a b : List PRow) : expP ps (a ++ b) = expP ps a ++ expP ps b:=by simp [expP]
theorem expP_cons (r : PRow) (b : List PRow) : expP ps (r :: b) = expW ps 0 r.w r.m r.s r.e ++ expP ps b:=by simp [expP]
theorem expP_nil : expP ps [] = []:=rfl
theorem row_cov {wt : Int} {x : List Nat × Int} (h0 : 0≤wt) (nd : x.1.Nodup) (m1 : 1≤x.2) (hs : alongF Pas.l ps x.1≤T) (k : Nat) (t : Int) : cov k t (expP ps (rowsA ps T wt x ++ rowsB ps T wt x))≤if k∈x.1 then x.2 else 0:=by
 obtain ⟨f0,f1,f2,f3⟩:=full_in h0 m1 hs
 have ea:=waitA_eq h0 m1 hs
 rw [expP_app,cov_app]
 have hA : cov k t (expP ps (rowsA ps T wt x)) = if 0 < fullOf ps T wt x∧k∈x.1∧offs ps 0 x.1 k≤t∧t≤fullOf ps T wt x - 1 + offs ps 0 x.1 k then x.2 else 0:=by
  unfold rowsA
  by_cases z : 0 < fullOf ps T wt x
  ·rw [if_pos z,expP_cons,expP_nil,List.append_nil,cov_exp nd]
   simp only [z,true_and,Int.zero_add]
  ·rw [if_neg z,expP_nil,if_neg (fun h=>z h.1)]; rfl
 have hB : cov k t (expP ps (rowsB ps T wt x))≤if k∈x.1∧fullOf ps T wt x + offs ps 0 x.1 k≤t then x.2 else 0:=by
  unfold rowsB
  by_cases z : fullOf ps T wt x < momsOf ps T x.1∧0 < waitA ps T wt x
  ·rw [if_pos z,expP_cons,expP_nil,List.append_nil,cov_exp nd]
   have h3:=f3 z.1
   rw [Int.mul_add,Int.mul_one] at h3
   by_cases y : k∈x.1∧fullOf ps T wt x + offs ps 0 x.1 k≤t
   ·rw [if_pos y]; simp only; split <;> omega
   ·rw [if_neg y,if_neg (fun h=>y ⟨h.1,h.2.1⟩)]; omega
  ·rw [if_neg z,expP_nil]
   show 0≤_
   split <;> omega
 rw [hA]
 by_cases y : k∈x.1
 ·rw [if_pos y]
  simp only [y,true_and] at hB ⊢
  split
  ·rename_i h
   rw [if_neg (by omega)] at hB
   omega
  ·split at hB <;> omega
 ·rw [if_neg y]
  rw [if_neg (fun h=>y h.1)] at hB
  rw [if_neg (fun h=>y h.2.1)]
  omega
theorem plan_cov : ∀ {ws : List (List Nat × Int)} {wt : Int},0≤wt→(∀ x∈ws,x.1.Nodup∧1≤x.2∧alongF Pas.l ps x.1≤T)→∀ (k : Nat) (t : Int),cov k t (expP ps (planOf ps T wt ws))≤share k ws
 | [],_,_,_,_,_=>by simp [planOf,expP_nil,cov,share]
 | x :: ws,wt,h0,h,k,t=>by
  have hx:=h x List.mem_cons_self
  have a:=row_cov h0 hx.1 hx.2.1 hx.2.2 k t
  have b:=plan_cov (wt:=waitB ps T wt x) (waitB_nn h0 hx.2.1 hx.2.2) (fun y hy=>h y (List.mem_cons_of_mem _ hy)) k t
  rw [planOf,expP_app,cov_app,share]
  omega
theorem plan_ok : ∀ {ws : List (List Nat × Int)} {wt : Int},0≤wt→(∀ x∈ws,1≤x.2∧alongF Pas.l ps x.1≤T)→∀ r∈planOf ps T wt ws,∃ x∈ws,RowOk ps T x r
 | [],_,_,_,r,hr=>by cases hr
 | x :: ws,wt,h0,h,r,hr=>by
  have hx:=h x List.mem_cons_self
  rw [planOf] at hr
  rcases List.mem_append.mp hr with z | z
  ·exact ⟨x,List.mem_cons_self,row_ok h0 hx.1 hx.2 r z⟩
  ·obtain ⟨y,hy,q⟩:=plan_ok (wt:=waitB ps T wt x) (waitB_nn h0 hx.1 hx.2) (fun y hy=>h y (List.mem_cons_of_mem _ hy)) r z
   exact ⟨y,List.mem_cons_of_mem _ hy,q⟩
theorem plan_ppl : ∀ {ws : List (List Nat × Int)} {wt : Int},0≤wt→(∀ x∈ws,1≤x.2∧alongF Pas.l ps x.1≤T)→((planOf ps T wt ws).map fun r=>r.m * (r.e - r.s + 1)).sum = wt - leftOf ps T wt ws
 | [],_,_,_=>by simp [planOf,leftOf]
 | x :: ws,wt,h0,h=>by
  have hx:=h x List.mem_cons_self
  rw [planOf,leftOf,List.map_append,List.sum_append,row_ppl h0 hx.1 hx.2,plan_ppl (wt:=waitB ps T wt x) (waitB_nn h0 hx.1 hx.2) (fun y hy=>h y (List.mem_cons_of_mem _ hy))]
  omega
theorem left_zero : ∀ {ws : List (List Nat × Int)} {wt : Int},0≤wt→(∀ x∈ws,1≤x.2∧alongF Pas.l ps x.1≤T)→wt≤(ws.map fun x=>x.2 * momsOf ps T x.1).sum→leftOf ps T wt ws = 0
 | [],wt,h0,_,hs=>by
  simp only [List.map_nil,List.sum_nil] at hs
  show wt = 0
  omega
 | x :: ws,wt,h0,h,hs=>by
  have hx:=h x List.mem_cons_self
  rw [List.map_cons,List.sum_cons] at hs
  have e:=waitB_eq h0 hx.1 hx.2
  rw [leftOf]
  refine left_zero (waitB_nn h0 hx.1 hx.2) (fun y hy=>h y (List.mem_cons_of_mem _ hy)) ?_
  have nn : 0≤(ws.map fun x=>x.2 * momsOf ps T x.1).sum:=by
   have : ∀ vs : List (List Nat × Int),(∀ y∈vs,1≤y.2∧alongF Pas.l ps y.1≤T)→0≤(vs.map fun x=>x.2 * momsOf ps T x.1).sum:=fun vs=>by
    induction vs with
    | nil=>intro _; simp
    | cons y vs ih =>
     intro hv
     have hy:=hv y List.mem_cons_self
     have:=ih fun z hz=>hv z (List.mem_cons_of_mem _ hz)
     have h2 : 0≤y.2 * momsOf ps T y.1:=Int.mul_nonneg (by omega) (by unfold momsOf; omega)
     rw [List.map_cons,List.sum_cons]
     omega
   exact this ws fun y hy=>h y (List.mem_cons_of_mem _ hy)
  rw [e]
  split <;> omega
theorem plan_len : ∀ (ws : List (List Nat × Int)) (wt : Int),(planOf ps T wt ws).length≤2 * ws.length
 | [],_=>by simp [planOf]
 | x :: ws,wt=>by
  have:=plan_len ws (waitB ps T wt x)
  have a : (rowsA ps T wt x).length≤1:=by unfold rowsA; split <;> simp
  have b : (rowsB ps T wt x).length≤1:=by unfold rowsB; split <;> simp
  rw [planOf,List.length_append,List.length_append,List.length_cons]
  omega
theorem e_plan_for {ws : List (List Nat × Int)} (hp : ps.length≤900) (hwl : ws.length≤900) (hpp : 0≤p) (h : ∀ x∈ws,1≤x.2∧alongF Pas.l ps x.1≤T) (hx0 : ∀ x∈ws,(∀ j∈x.1,j < ps.length)∧x.1.length≤900) (hb : ∀ x∈ws,x.2 < 10000000000000000000000000000000000000000000000000000000000000000000000000000000000000000000000000000∧0≤alongF Pas.l ps x.1) (hT : T + 1 < 10000000000000000000000000000000000000000000000000000000000000000000000000000000000000000000000000000) :
  Pg.m_plan_for [hD ps,.list (ws.map wkD),.int T,.int p] = some (true,.list ((planOf ps T p ws).map rowD)):=by
 have loop : ∀ (A : PyData) (vs : List (List Nat × Int)) (wt : Int) (acc : List PRow) (x6 x7 x8 x9 : Option PyData),0≤wt→(∀ x∈vs,x∈ws)→acc.length + 2 * vs.length≤2000→∃ wt' x6' x7' x8' x9',forG (gT 2 (gC (gN 6) (gC (gN 7) g0)))
   (gSeq (gAs (v2 addD (v2 subD (vN 2) (vCall Pg.m_length_of (aC (vF 0) (aC (vF 6) a0)))) (vC (.int 1))) (gN 8)) (gSeq (gAs (vCB min2D (aC (vN 8) (aC (v2 divD (vN 5) (vN 7)) a0))) (gN 9)) (gSeq (gIf (vB (v2 gtD (vN 9) (vC (.int 0)))) (gSeq (gApp 4 (aC (vTup (aC (vF 6) (aC (vF 7) (aC (vC (.int 0)) (aC (v2 subD (vN 9) (vC (.int 1))) a0))))) a0)) (gAug subD 5 (v2 mulD (vN 7) (vN 9)))) gNop) (gIf (tAnd2 (vB (v2 ltD (vN 9) (vN 8))) (vB (v2 gtD (vN 5) (vC (.int 0))))) (gSeq (gApp 4 (aC (vTup (aC (vListOf (vN 6)) (aC (vF 5) (aC (vF 9) (aC (vF 9) a0))))) a0)) (gAs (vC (.int 0)) (gN 5))) gNop))))
   (vs.map wkD) [some (Tg.fr,hD ps),some (Tg.fr,A),some (Tg.fr,.int T),some (Tg.fr,.int p),some (Tg.ow,.list (acc.map rowD)),some (Tg.fr,.int wt),ob x6,ob x7,ob x8,ob x9] =
   .nxt [some (Tg.fr,hD ps),some (Tg.fr,A),some (Tg.fr,.int T),some (Tg.fr,.int p),some (Tg.ow,.list ((acc ++ planOf ps T wt vs).map rowD)),some (Tg.fr,.int wt'),ob x6',ob x7',ob x8',ob x9']:=fun A vs=>by
  induction vs with
  | nil=>intro wt acc x6 x7 x8 x9 _ _ _; exact ⟨wt,x6,x7,x8,x9,by simp [forG,planOf]⟩
  | cons x vs ih =>
   intro wt acc x6 x7 x8 x9 h0 hm hlen
   have hx:=h x (hm x List.mem_cons_self)
   have hx1:=hx0 x (hm x List.mem_cons_self)
   have hx2:=hb x (hm x List.mem_cons_self)
   obtain ⟨f0,f1,f2,f3⟩:=full_in h0 hx.1 hx.2
   rw [List.length_cons] at hlen
   have la : (rowsA ps T wt x).length≤1:=by unfold rowsA; split <;> simp
   have lb : (rowsB ps T wt x).length≤1:=by unfold rowsB; split <;> simp
   obtain ⟨wt',y6,y7,y8,y9,hy⟩:=ih (waitB ps T wt x) (acc ++ (rowsA ps T wt x ++ rowsB ps T wt x)) (some (.list (x.1.map natD))) (some (.int x.2)) (some (.int (momsOf ps T x.1))) (some (.int (fullOf ps T wt x))) (waitB_nn h0 hx.1 hx.2) (fun y hy=>hm y (List.mem_cons_of_mem _ hy)) (by rw [List.length_append,List.length_append]; omega)
   refine ⟨wt',y6,y7,y8,y9,?_⟩
   have ew : wkD x = .tuple [.list (x.1.map natD),.int x.2]:=rfl
   rw [List.append_assoc] at hy
   rw [List.map_cons,forG,ew,planOf,← hy]
   have el:=e_lengthP (ps:=ps) hx1.1 (by omega)
   have e8 : T - alongF Pas.l ps x.1 + 1 = momsOf ps T x.1:=rfl
   walk_at "e1"
   rw [el]
   walk_at "e1"
   rw [e8,divD_i (by omega) (by omega)]
   walk_at "e1"
   have e9 : (if wt / x.2 < momsOf ps T x.1 then wt / x.2 else momsOf ps T x.1) = fullOf ps T wt x:=rfl
   rw [e9]
   have hmb : momsOf ps T x.1≤T + 1:=by unfold momsOf; omega
   have hz : x.2 * fullOf ps T wt x = x.2 * fullOf ps T wt x:=rfl
   by_cases zA : 0 < fullOf ps T wt x
   ·have eA : rowsA ps T wt x = [⟨x.1,x.2,0,fullOf ps T wt x - 1⟩]:=by unfold rowsA; rw [if_pos zA]
    have wA : waitA ps T wt x = wt - x.2 * fullOf ps T wt x:=by unfold waitA; rw [if_pos zA]
    simp only [zA,decide_true]
    walk_at "e1"
    rw [if_pos (by rw [List.length_map]; exact size_big (by omega))]
    walk_at "e1"
    rw [mulD_i (by omega) (by omega) (by omega) (by omega)]
    walk_at "e1"
    rw [← wA]
    by_cases z1 : fullOf ps T wt x < momsOf ps T x.1
    ·simp only [z1,decide_true]
     walk_at "e1"
     by_cases z2 : 0 < waitA ps T wt x
     ·have eB : rowsB ps T wt x = [⟨x.1,waitA ps T wt x,fullOf ps T wt x,fullOf ps T wt x⟩]:=by unfold rowsB; rw [if_pos ⟨z1,z2⟩]
      have wB : waitB ps T wt x = 0:=by unfold waitB; rw [if_pos ⟨z1,z2⟩]
      simp only [z2,decide_true]
      walk_at "e1"
      rw [if_pos (by rw [List.length_append,List.length_map]; simp only [List.length_cons,List.length_nil]; exact size_big (by omega))]
      walk_at "e1"
      rw [eA,eB,wB,List.map_append,List.map_append,List.append_assoc]
      rfl
     ·have eB : rowsB ps T wt x = []:=by unfold rowsB; rw [if_neg (fun h=>z2 h.2)]
      have wB : waitB ps T wt x = waitA ps T wt x:=by unfold waitB; rw [if_neg (fun h=>z2 h.2)]
      simp only [z2,decide_false]
      walk_at "e1"
      rw [eA,eB,wB,List.append_nil,List.map_append]
      rfl
    ·have eB : rowsB ps T wt x = []:=by unfold rowsB; rw [if_neg (fun h=>z1 h.1)]
     have wB : waitB ps T wt x = waitA ps T wt x:=by unfold waitB; rw [if_neg (fun h=>z1 h.1)]
     simp only [z1,decide_false]
     walk_at "e1"
     rw [eA,eB,wB,List.append_nil,List.map_append]
     rfl
   ·have eA : rowsA ps T wt x = []:=by unfold rowsA; rw [if_neg zA]
    have wA : waitA ps T wt x = wt:=by unfold waitA; rw [if_neg zA]
    simp only [zA,decide_false]
    walk_at "e1"
    by_cases z1 : fullOf ps T wt x < momsOf ps T x.1
    ·simp only [z1,decide_true]
     walk_at "e1"
     by_cases z2 : 0 < wt
     ·have eB : rowsB ps T wt x = [⟨x.1,wt,fullOf ps T wt x,fullOf ps T wt x⟩]:=by unfold rowsB; rw [wA,if_pos ⟨z1,z2⟩]
      have wB : waitB ps T wt x = 0:=by unfold waitB; rw [wA,if_pos ⟨z1,z2⟩]
      simp only [z2,decide_true]
      walk_at "e1"
      rw [if_pos (by rw [List.length_map]; exact size_big (by omega))]
      walk_at "e1"
      rw [eA,eB,wB,List.nil_append,List.map_append]
      rfl
     ·have eB : rowsB ps T wt x = []:=by unfold rowsB; rw [wA,if_neg (fun h=>z2 h.2)]
      have wB : waitB ps T wt x = wt:=by unfold waitB; rw [wA,if_neg (fun h=>z2 h.2)]
      simp only [z2,decide_false]
      walk_at "e1"
      rw [eA,eB,wB,List.append_nil,List.append_nil]
    ·have eB : rowsB ps T wt x = []:=by unfold rowsB; rw [if_neg (fun h=>z1 h.1)]
     have wB : waitB ps T wt x = wt:=by unfold waitB; rw [if_neg (fun h=>z1 h.1),wA]
     simp only [z1,decide_false]
     walk_at "e1"
     rw [eA,eB,wB,List.append_nil,List.append_nil]
 unfold Pg.m_plan_for Pg.g_plan_for
 walk_at "e1"
 obtain ⟨wt',y6,y7,y8,y9,hy⟩:=loop (.list (ws.map wkD)) ws p [] none none none none hpp (fun x hx=>hx) (by simp only [List.length_nil]; omega)
 simp only [ob_none,List.map_nil,List.nil_append] at hy
 rw [hy]
 walk_at "e1"
theorem wsum_cut2 {T : Int} : ∀ (r : List (Int × Int)),r.Pairwise (fun x y=>x.1≤y.1)→wsum (fun l=>if l≤T - 1 then T - 1 + 1 - l else 0) r = wsum (fun l=>T - 1 + 1 - l) (r.takeWhile fun x=>decide (x.1≤T))
 | [],_=>rfl
 | x :: r,hp=>by
  obtain ⟨p1,p2⟩:=List.pairwise_cons.mp hp
  have ih:=wsum_cut2 (T:=T) r p2
  by_cases z : x.1≤T
  ·rw [List.takeWhile_cons,if_pos (by simpa using z),wsum_cons,wsum_cons,ih]
   by_cases y : x.1≤T - 1
   ·rw [if_pos y]
   ·have e : x.1 = T:=by omega
    rw [if_neg y]
    simp only [e]
    have : T - 1 + 1 - T = 0:=by omega
    rw [this]
  ·rw [List.takeWhile_cons,if_neg (by simpa using z)]
   have : wsum (fun l=>if l≤T - 1 then T - 1 + 1 - l else 0) (x :: r) = 0:=worthT_far (T - 1) fun y hy=>by
    rcases List.mem_cons.mp hy with rfl | hy
    ·omega
    ·have:=p1 y hy; omega
   rw [this]; rfl
theorem stepD_inj : ∀ {a b : List (Int × Int)},a.map stepD = b.map stepD→a = b
 | [],[],_=>rfl
 | [],_ :: _,h=>by simp at h
 | _ :: _,[],h=>by simp at h
 | x :: a,y :: b,h=>by
  obtain ⟨x1,x2⟩:=x
  obtain ⟨y1,y2⟩:=y
  simp only [List.map_cons,List.cons.injEq,stepD,PyData.tuple.injEq,PyData.int.injEq,and_true] at h
  rw [h.1.1,h.1.2,stepD_inj h.2]
theorem steps_more (Hh : Hall n ps) (sm : Small n ps) (hst : st < n) (hg : g < n) (hne : st ≠ g) : ∃ G,StepsOk n ps st g G∧∀ T : Int,∃ fl M C,FlowOk n ps st g T fl M C∧Near ps st g T fl∧Pg.m_best_flow [.int n,hD ps,.int st,.int g,.int T] = some (true,.list (fl.map .int))∧M * (T + 1) - C = worthT T G∧M * (T - 1 + 1) - C = worthT (T - 1) G:=by
 obtain ⟨G,S⟩:=steps_ok Hh sm hst hg hne
 obtain ⟨r,left'',R,es⟩:=e_steps Hh sm hst hg hne
 have eG : G = grouped r:=by
  have e:=S.e
  rw [es] at e
  simp only [Option.some.injEq,Prod.mk.injEq,PyData.list.injEq,true_and] at e
  exact (stepD_inj e).symm
 subst eG
 have S0 : St n ps st (left0 ps) (fun v=>if v = st then 0 else 1):=st0_ok Hh
 obtain ⟨⟨π1,S1⟩,_,_,_,pw⟩:=runs_ok Hh hst R S0
 refine ⟨_,S,fun T=>?_⟩
 obtain ⟨left',R'⟩:=runs_cut (T:=T) R
 obtain ⟨L,rfl,_,e⟩:=e_best_of Hh sm hst hg hne R'
 refine ⟨_,_,_,flow_of_runs Hh hst hg hne R',near_of_runs Hh hst R',e,?_,?_⟩
 ·rw [worth_wsum,← wsum_cut r pw]
  exact (grouped_sum _ r).symm
 ·rw [worth_wsum,← wsum_cut2 r pw]
  exact (grouped_sum _ r).symm
structure FewOk (n : Nat) (ps : List Pas) (st g : Nat) (p T : Int) (plan : List PRow) (μs : List Int) : Prop where
 T1 : 1≤T
 Tb : T≤p + (ps.map Pas.l).sum
 row : ∀ r∈plan,WalkOk ps st g (r.w,r.m)∧0≤r.s∧r.s≤r.e∧r.e + alongF Pas.l ps r.w≤T
 mw : ∀ r∈plan,∃ q∈ps,r.m≤q.w
 ppl : (plan.map fun r=>r.m * (r.e - r.s + 1)).sum = p
 fits : ∀ (k : Nat) q t,ps[k]? = some q→cov k t (expP ps plan)≤q.w
 len : plan.length≤2 * ps.length
 ml : μs.length = n
 m0 : lf μs st = 0
 m1 : lf μs g = T
 mb : ∀ v,v < n→0≤lf μs v∧lf μs v≤T
 low : (ps.map (over (lf μs))).sum < p
 most : ∀ W ws μ,OutOk n ps st g T W ws μ→p≤W
theorem e_fewest {B : Int} (Hh : Hall n ps) (sm : Small n ps) (hn : n≤900) (hp : ps.length≤900) (hst : st < n) (hg : g < n) (hne : st ≠ g) (p1 : 1≤p) (hpb : p + (ps.map Pas.l).sum + 1 < 10000000000000000000000000000000000000000000000000000000000000000000000000000000000000000000000000000) (hB0 : 0≤B) (hw : ∀ q∈ps,q.w≤B) (hBl : B * ps.length < 10000000000000000000000000000000000000000000000000000000000000000000000000000000000000000000000000000) :
  ∃ G,StepsOk n ps st g G∧((G = []∧Pg.m_fewest_turns [.int (n : Int),hD ps,.int (st : Int),.int (g : Int),.int p] = some (false,.none))∨(G ≠ []∧∃ T plan μs,FewOk n ps st g p T plan μs∧Pg.m_fewest_turns [.int (n : Int),hD ps,.int (st : Int),.int (g : Int),.int p] = some (false,.tuple [.int T,.list (plan.map rowD),.list (μs.map .int)]))):=by
 obtain ⟨G,S,more⟩:=steps_more Hh sm hst hg hne
 refine ⟨G,S,?_⟩
 by_cases zG : G = []
 ·refine .inl ⟨zG,?_⟩
  have e:=S.e
  rw [zG] at e
  unfold Pg.m_fewest_turns Pg.g_fewest_turns
  walk_at "e1"
  rw [e]
  walk_at "e1"
  simp only [List.isEmpty]
  walk_at "e1"
 ·refine .inr ⟨zG,?_⟩
  have pos:=S.rise.pos
  obtain ⟨tIn,tLe⟩:=leastOf_spec (ns:=needL p 0 0 G) (by intro z; have:=needL_len p G 0 0; rw [z] at this; exact zG (List.length_eq_zero_iff.mp this.symm))
  generalize hT : leastOf (needL p 0 0 G) = T at *
  have enough : p≤worthT T G:=by
   have:=need_ok (p:=p) (G:=G) (Int.le_refl 0) (fun x hx=>(pos x hx).2) tIn
   omega
  have T1 : 1≤T:=by
   by_cases z : 1≤T
   ·exact z
   ·have:=worthT_far T (G:=G) fun x hx=>by have:=(pos x hx).1; omega
    omega
  have few : worthT (T - 1) G < p:=by
   have:=need_no (p:=p) (G:=G) (am:=0) (co:=0) (T:=T - 1) (Int.le_refl 0) S.rise (fun t ht=>by have:=tLe t ht; omega) (by omega)
   omega
  have Tb : T≤p + (ps.map Pas.l).sum:=by
   cases G with
   | nil=>exact absurd rfl zG
   | cons x G =>
    have h1:=tLe _ (by rw [needL]; exact List.mem_cons_self)
    have h2:=pos x List.mem_cons_self
    have h3:=S.low x List.mem_cons_self
    have h4 : (p + (0 + x.2 * x.1) - 1) / (0 + x.2) < p + x.1 + 1:=by
     refine Int.ediv_lt_of_lt_mul (by omega) ?_
     rw [Int.zero_add,Int.zero_add,Int.add_mul,Int.add_mul,Int.mul_comm x.1]
     have : p * 1≤p * x.2:=Int.mul_le_mul_of_nonneg_left (by omega) (by omega)
     omega
    omega
  obtain ⟨fl,M,C,F,N,eb,eW,eW1⟩:=more T
  obtain ⟨fl',M',C',F',_,_,eW',_⟩:=more (T - 1)
  have F1:=F.pred Hh hst hg T1 F' (by rw [eW1,eW'])
  have many0 : many G < 10000000000000000000000000000000000000000000000000000000000000000000000000000000000000000000000000000:=by
   obtain ⟨fl2,C2,_,F2,_⟩:=S.last (ps.map Pas.l).sum (Int.le_refl _)
   have:=am_le hne F2 hB0 hw
   omega
  have et:=e_turns_by (p:=p) zG S.len pos (fun x hx=>by have:=S.low x hx; omega) many0
  rw [hT] at et
  obtain ⟨μs,em,ml,m0,m1,mb,fit⟩:=e_moments Hh hn hp hst hg hne (by omega) F1
  have m1' : lf μs g = T:=by omega
  have U : Up ps fl (lf μs):=fun i q f a b hf=>by
   have:=(fit i q f a b).2 hf
   have:=Hh.l1 q (List.mem_of_getElem? a)
   omega
  obtain ⟨ws,P,ew⟩:=e_walks F.len (by omega) hne F.cons F.M0 U
  have pos' : ∀ x∈ws,∀ (i : Nat) q,ps[i]? = some q→i∈x.1→0 < lf fl i:=fun x hx i q e hi=>((P.has hx) i hi).2
  have short : ∀ x∈ws,alongF Pas.l ps x.1≤T:=fun x hx=>by
   have Wk:=P.walk x hx
   obtain ⟨j0,hj0⟩:=List.exists_mem_of_ne_nil _ Wk.ne
   obtain ⟨π,p0,p1,p2⟩:=N j0 ((P.has hx) j0 hj0).2
   have:=walk_short Wk.ix Wk.go fun i q e hi=>p2 i q e (pos' x hx i q e hi)
   omega
  have ppl : M * (T + 1) - C = (ws.map fun x=>x.2 * momsOf ps T x.1).sum:=by
   obtain ⟨μ3,n0,n1,_,_⟩:=F.moments Hh (by omega)
   rw [worth_pot Hh hst hg F.net F.cost n0 n1]
   exact ((worth_ppl n0 n1 P.walk).symm.trans (P.tot _)).symm
  have dual : M * (T - 1 + 1) - C = (ps.map (over (lf μs))).sum:=by
   rw [strong_dual Hh hst hg F1.lo F1.net F1.cost m0 m1 fit,zs_const _ F1.len]
  have hwl : ws.length≤ps.length:=by have:=P.few; have:=cntP_len fl; have:=F.len; omega
  have wk : ∀ x∈ws,1≤x.2∧alongF Pas.l ps x.1≤T:=fun x hx=>⟨(P.walk x hx).m1,short x hx⟩
  have wide : ∀ x∈ws,∃ q∈ps,x.2≤q.w:=fun x hx=>by
   have Wk:=P.walk x hx
   obtain ⟨j0,hj0⟩:=List.exists_mem_of_ne_nil _ Wk.ne
   have h1:=((P.has hx) j0 hj0).1
   have e0:=List.getElem?_eq_getElem (Wk.ix j0 hj0)
   have h2:=(F.lo j0 _ _ e0 (get_of (by rw [F.len]; exact Wk.ix j0 hj0))).2
   exact ⟨_,List.mem_of_getElem? e0,by omega⟩
  have ps1 : ws ≠ []→1≤ps.length:=fun h=>by
   cases ws with
   | nil=>exact absurd rfl h
   | cons x ws=>rw [List.length_cons] at hwl; omega
  have epl:=e_plan_for (p:=p) (ws:=ws) hp (by omega) (by omega) wk (fun x hx=>⟨(P.walk x hx).ix,by have:=nodup_lt (P.walk x hx).nd (P.walk x hx).ix; omega⟩) (fun x hx=>by
   obtain ⟨q,hq,hxq⟩:=wide x hx
   have h3:=hw q hq
   have h4 : B * 1≤B * ps.length:=Int.mul_le_mul_of_nonneg_left (by have:=ps1 (List.ne_nil_of_mem hx); omega) hB0
   have h5:=alongF_l1 Hh (P.walk x hx).ix
   exact ⟨by omega,by omega⟩) (show T + 1 < _ by omega)
  refine ⟨T,planOf ps T p ws,μs,⟨T1,Tb,fun r hr=>?_,fun r hr=>?_,?_,fun k q t hk=>?_,?_,ml,m0,m1',fun v hv=>by have:=mb v hv; omega,?_,fun W ws' μ' O=>?_⟩,?_⟩
  ·obtain ⟨x,hx,R⟩:=plan_ok (by omega) wk r hr
   have Wk:=P.walk x hx
   exact ⟨⟨by rw [R.w]; exact Wk.go,by rw [R.w]; exact Wk.nd,by rw [R.w]; exact Wk.ix,by rw [R.w]; exact Wk.ne,R.m1⟩,R.s0,R.se,R.eT⟩
  ·obtain ⟨x,hx,R⟩:=plan_ok (by omega) wk r hr
   obtain ⟨q,hq,hxq⟩:=wide x hx
   exact ⟨q,hq,by have:=R.mx; omega⟩
  ·rw [plan_ppl (by omega) wk,left_zero (by omega) wk (by rw [← ppl,eW]; exact enough)]
   omega
  ·have h1:=plan_cov (ps:=ps) (T:=T) (wt:=p) (by omega) (fun x hx=>⟨(P.walk x hx).nd,wk x hx⟩) k t
   have hil:=(List.getElem?_eq_some_iff.mp hk).1
   rw [P.sum k hil] at h1
   have:=(F.lo k q _ hk (get_of (by rw [F.len]; exact hil))).2
   omega
  ·have:=plan_len (ps:=ps) (T:=T) ws p
   omega
  ·omega
  ·have hO:=O.dual
   have:=weak_dual Hh hst hg F.lo F.net F.cost O.m0 O.m1
   rw [zs_const _ F.len] at this
   omega
  ·unfold Pg.m_fewest_turns Pg.g_fewest_turns
   walk_at "e1"
   rw [S.e]
   walk_at "e1"
   have hne' : (G.map stepD).isEmpty = false:=by cases G with | nil=>exact absurd rfl zG | cons x G=>rfl
   simp only [hne']
   walk_at "e1"
   rw [et]
   walk_at "e1"
   rw [eb]
   walk_at "e1"
   rw [ew]
   walk_at "e1"
   rw [epl]
   walk_at "e1"
   rw [em]
   walk_at "e1"
theorem sum_zeros : ∀ ps : List Pas,(ps.map fun _=>(0 : Int)).sum = 0
 | []=>rfl
 | q :: r=>by rw [List.map_cons,List.sum_cons,sum_zeros r]; rfl
theorem steps_none (Hh : Hall n ps) (hst : st < n) (hg : g < n) {G : List (Int × Int)} (S : StepsOk n ps st g G) {P : Nat→Prop} [DecidablePred P] (h0 : P st) (h1 : ¬ P g) (h : ∀ q∈ps,P q.a→P q.b) : G = []:=by
 obtain ⟨fl,C,_,F,_⟩:=S.last _ (Int.le_refl _)
 have e:=zs_pot Hh hst hg F.net (fun v=>if P v then 0 else 1)
 simp only [h0,h1,if_true,if_false,Int.sub_zero,Int.mul_one] at e
 have le : zs (fun q f=>f * ((if P q.b then (0 : Int) else 1) - (if P q.a then 0 else 1))) ps fl≤zs (fun _ _=>0) ps fl:=zs_mono fun i q f a b=>by
  have:=(F.lo i q f a b).1
  have hq:=h q (List.mem_of_getElem? a)
  refine Int.mul_nonpos_of_nonneg_of_nonpos this ?_
  by_cases z : P q.a
  ·simp [z,hq z]
  ·simp only [z,if_false]; split <;> omega
 have z0 : zs (fun _ _=>(0 : Int)) ps fl = 0:=by rw [zs_const (fun _=>0) F.len]; exact sum_zeros ps
 have hM : many G≤0:=by omega
 cases G with
 | nil=>rfl
 | cons x G =>
  have:=(S.rise.pos x List.mem_cons_self).2
  have:=many_pos (r:=G) fun y hy=>by have:=(S.rise.pos y (List.mem_cons_of_mem _ hy)).2; omega
  rw [many_cons] at hM
  omega
theorem steps_some (Hh : Hall n ps) {G : List (Int × Int)} (S : StepsOk n ps st g G) (zG : G = []) : ∃ P : Nat→Prop,P st∧¬ P g∧∀ q∈ps,P q.a→P q.b:=by
 obtain ⟨fl,C,P,F,_,h0,h1,h2⟩:=S.last _ (Int.le_refl _)
 refine ⟨P,h0,h1,fun q hq ha=>?_⟩
 obtain ⟨i,hi⟩:=List.mem_iff_getElem?.mp hq
 have hil:=(List.getElem?_eq_some_iff.mp hi).1
 have hf:=get_of (L:=fl) (i:=i) (by rw [F.len]; exact hil)
 have hM : many G = 0:=by rw [zG]; rfl
 rw [hM] at F
 obtain ⟨π,_,_,_,pr⟩:=F.price
 have z:=F.cons.none (ρ:=π) (fun i q f a b hf=>by have:=(pr i q f a b).2 hf; have:=Hh.l1 q (List.mem_of_getElem? a); omega) i q _ hi hf
 have:=Hh.w1 q hq
 exact (h2 i q _ hi hf).1 ha (by omega)
end LH
set_option hygiene false in
local macro_rules | `(tactic| walk_at "e2")=>`(tactic| (try simp only [L2.start,List.map_cons,List.map_nil,List.length_cons,List.length_nil,List.replicate,List.cons_append,List.nil_append,Nat.reduceAdd,Nat.reduceSub,List.append_nil,tSeq,tNext,tAsg,gName,vR,tC,tOp,tUn,rM,rMC,rUM,tTM,tIfS,tAnd,tOr,tNot,tAndM,tOrM,tNotM,tChM,tRet,tRetN,tDrop,tCons,tNil,tTup,tLst,tCB,rLenM,rAbsM,rListM,tCall,tNever,rIsN,rNotN,isNon,rIxD,rIxLM,rIxTM,List.getElem?_cons_zero,List.getElem?_cons_succ,List.set_cons_zero,List.set_cons_succ,tFor_eq,iEnum,iRng1,iList,gTupM,gConsM,gNilM,gSub,rSetM,tLC,tSl,tPart,tNoPart,rSlL,rRev,capSt,Bool.false_eq_true,cxOf_K,lcCx_K,↓reduceIte,tBM,rAppM]))
namespace K51
open PySem L2 VM
seal L2.PE L2.PT L2.PW L2.PA L2.PS L2.PSs L2.PG L2.PGs L2.PI L2.PIfs L2.PO L2.OpR L2.UnR L2.CallR L2.IxR L2.MtR L2.PSet L2.PIp VM.OpD VM.CallD
set_option maxHeartbeats 4000000
noncomputable def top (i : Nat) : Stmt:=PySem.Challenge.pw_leavehall_k51_whole_fewest_turns.main.body.getD i (.Pass ⟨0,0,0,0⟩)
theorem sc_left_behind : FnScope ["passages","flow","left","passage","number"] ["passages","flow"] (defScope (top 3)):=⟨rfl,rfl,rfl,by decide +kernel,rfl,by decide +kernel,by decide +kernel⟩
theorem ok_left_behind {P : Program} {w : World} {K : PySem.W.Frag} {mg : Str → Option Value} {base : Heap} {f : Addr} {fd : FuncData} (F : Fun K "left_behind" "left_behind" (top 3) f fd) (B : Bl mg) (KT : Kits K)  : FnOk P w K mg base CX0 1 f fd ["passages", "flow"] (spV K Pg.m_left_behind) := by
  have nd := sc_left_behind.nd
  have vt := (show (["passages", "flow", "left", "passage", "number"] : List Str).all (fun x => visB (defScope (top 3)) x && plain x) = true by decide +kernel)
  refine fnV (k := 0) (n := 2) (nN := 5) (g := Pg.g_left_behind) F sc_left_behind rfl rfl fun cdv A outer s H E hr => ?_
  exact (sSeq (sOw (i := 2) (ps_set nd rfl (lo (sc := (defScope (top 3))) (by decide +kernel)) (dLst pa0)))
 (sSeq (sFor (ps_for PassesOwn.never rfl (itZ (pi_zip (gl (sc := (defScope (top 3))) (by decide +kernel)) B.zip (paC (dF (pV vt 0)) (paC (dF (pV vt 1)) pa0)))) (tgT (n := 2) rfl (tgC (tgN (pg_name (i := 3) nd rfl (lo (sc := (defScope (top 3))) (by decide +kernel)))) (tgC (tgN (pg_name (i := 4) nd rfl (lo (sc := (defScope (top 3))) (by decide +kernel)))) tg0)))
 (sSeq (sApp (i := 2) (ps_expr (peApp (pV vt 2) (paC (dOp oSub hSub (sw (dIx (dN (pV vt 3)) (sw dInt))) (mw (dN (pV vt 4)))) pa0))))
 (sOne (sApp (i := 2) (ps_expr (peApp (pV vt 2) (paC (dF (pV vt 4)) pa0))))))))
 (sOne (sRetO (pV vt 2)))))
theorem sc_is_nearer : FnScope ["length","count","known"] ["length","count","known"] (defScope (top 7)):=⟨rfl,rfl,rfl,by decide +kernel,rfl,by decide +kernel,by decide +kernel⟩
theorem ok_is_nearer {P : Program} {w : World} {K : PySem.W.Frag} {mg : Str → Option Value} {base : Heap} {f : Addr} {fd : FuncData} (F : Fun K "is_nearer" "is_nearer" (top 7) f fd) (B : Bl mg) (KT : Kits K)  : FnOk P w K mg base CX0 1 f fd ["length", "count", "known"] (spV K Pg.m_is_nearer) := by
  have nd := sc_is_nearer.nd
  have vt := (show (["length", "count", "known"] : List Str).all (fun x => visB (defScope (top 7)) x && plain x) = true by decide +kernel)
  refine fnV (k := 0) (n := 3) (nN := 3) (g := Pg.g_is_nearer) F sc_is_nearer rfl rfl fun cdv A outer s H E hr => ?_
  exact (sSeq (sIf (PW.pt (wOr (cCmp oIsN hIs (mw (dN (pV vt 2))) (sw dNone)) (wOr1 (cCmp oLt hLt (mw (dN (pV vt 0))) (sw (dIx (dN (pV vt 2)) (sw dInt)))))))
 (sOne (sRet dBool))
 sNil)
 (sOne (sRet (dAnd (dCmp (op_eqD hr.units) hEq (mw (dN (pV vt 0))) (sw (dIx (dN (pV vt 2)) (sw dInt)))) (dOne (dCmp oLt hLt (mw (dN (pV vt 1))) (sw (dIx (dN (pV vt 2)) (sw dInt)))))))))
theorem sc_reach : FnScope ["moves","left","start","reached","waiting","queue","place","room","length","count","move","end","added"] ["moves","left","start"] (defScope (top 6)):=⟨rfl,rfl,rfl,by decide +kernel,rfl,by decide +kernel,by decide +kernel⟩
theorem ok_reach {P : Program} {w : World} {K : PySem.W.Frag} {mg : Str → Option Value} {base : Heap} {f : Addr} {fd : FuncData} (F : Fun K "reach" "reach" (top 6) f fd) (B : Bl mg) (KT : Kits K) (Cis_nearer : Cal P w K mg base 1 "is_nearer" ["length", "count", "known"] (spV K Pg.m_is_nearer)) : FnOk P w K mg base CX0 2 f fd ["moves", "left", "start"] (spV K Pg.m_reach) := by
  have nd := sc_reach.nd
  have vt := (show (["moves", "left", "start", "reached", "waiting", "queue", "place", "room", "length", "count", "move", "end", "added"] : List Str).all (fun x => visB (defScope (top 6)) x && plain x) = true by decide +kernel)
  refine fnV (k := 1) (n := 3) (nN := 13) (g := Pg.g_reach) F sc_reach rfl rfl fun cdv A outer s H E hr => ?_
  exact (sSeq (sOw (i := 3) (ps_set nd rfl (lo (sc := (defScope (top 6))) (by decide +kernel)) (dRep (dLst (paC dNone pa0)) (sw (dCB (pe_callB cLen (gl (sc := (defScope (top 6))) (by decide +kernel)) B.len PySem.boot_len (pwC (mw (dN (pV vt 0))) pw0)) hLen)))))
 (sSeq (sPut (i := 3) (ps_asg (dTup (paC dInt (paC dInt (paC dNone (paC dNone pa0))))) (pg_sub (pV vt 3) (mw (dN (pV vt 2))) setL)))
 (sSeq (sOw (i := 4) (ps_set nd rfl (lo (sc := (defScope (top 6))) (by decide +kernel)) (dRep (dLst (paC dBool pa0)) (sw (dCB (pe_callB cLen (gl (sc := (defScope (top 6))) (by decide +kernel)) B.len PySem.boot_len (pwC (mw (dN (pV vt 0))) pw0)) hLen)))))
 (sSeq (sOw (i := 5) (ps_set nd rfl (lo (sc := (defScope (top 6))) (by decide +kernel)) (dLst (paC (dF (pV vt 2)) pa0))))
 (sSeq (sAs (ps_asg dInt (tgN (pg_name (i := 6) nd rfl (lo (sc := (defScope (top 6))) (by decide +kernel))))))
 (sSeq (sWh (ps_while PassesOwn.never (cCmp oLt hLt (mw (dN (pV vt 6))) (sw (dCB (pe_callB cLen (gl (sc := (defScope (top 6))) (by decide +kernel)) B.len PySem.boot_len (pwC (mw (dN (pV vt 5))) pw0)) hLen)))
 (sSeq (sAs (ps_asg (dIx (dN (pV vt 5)) (mw (dN (pV vt 6)))) (tgN (pg_name (i := 7) nd rfl (lo (sc := (defScope (top 6))) (by decide +kernel))))))
 (sSeq (sAug hAdd (psAug (i := 6) nd rfl (lo (sc := (defScope (top 6))) (by decide +kernel)) dInt iAdd))
 (sSeq (sPut (i := 4) (ps_asg dBool (pg_sub (pV vt 4) (mw (dN (pV vt 7))) setL)))
 (sSeq (sAs (ps_asg (dIx (sm (dIx (dN (pV vt 3)) (mw (dN (pV vt 7))))) (sw dInt)) (tgN (pg_name (i := 8) nd rfl (lo (sc := (defScope (top 6))) (by decide +kernel))))))
 (sSeq (sAs (ps_asg (dOp oAdd hAdd (sw (dIx (sm (dIx (dN (pV vt 3)) (mw (dN (pV vt 7))))) (sw dInt))) (sw dInt)) (tgN (pg_name (i := 9) nd rfl (lo (sc := (defScope (top 6))) (by decide +kernel))))))
 (sOne (sFor (ps_for PassesOwn.never rfl (itL (dIx (dN (pV vt 0)) (mw (dN (pV vt 7))))) (tgT (n := 3) rfl (tgC (tgN (pg_name (i := 10) nd rfl (lo (sc := (defScope (top 6))) (by decide +kernel)))) (tgC (tgN (pg_name (i := 11) nd rfl (lo (sc := (defScope (top 6))) (by decide +kernel)))) (tgC (tgN (pg_name (i := 12) nd rfl (lo (sc := (defScope (top 6))) (by decide +kernel)))) tg0))))
 (sOne (sIf (PW.pt (wAnd (cCmp oGt hGt (sw (dIx (dN (pV vt 1)) (mw (dN (pV vt 10))))) (sw dInt)) (wAnd1 (cVal (dCal (peCal Cis_nearer (hr.mono (by decide)) (gl (sc := (defScope (top 6))) (by decide +kernel)) (paC (dOp oAdd hAdd (mw (dN (pV vt 8))) (mw (dN (pV vt 12)))) (paC (dF (pV vt 9)) (paC (dIx (dN (pV vt 3)) (mw (dN (pV vt 11)))) pa0)))))))))
 (sSeq (sPut (i := 3) (ps_asg (dTup (paC (dOp oAdd hAdd (mw (dN (pV vt 8))) (mw (dN (pV vt 12)))) (paC (dF (pV vt 9)) (paC (dF (pV vt 10)) (paC (dF (pV vt 7)) pa0))))) (pg_sub (pV vt 3) (mw (dN (pV vt 11))) setL)))
 (sOne (sIf (cNot (cVal (dIx (dN (pV vt 4)) (mw (dN (pV vt 11))))))
 (sSeq (sPut (i := 4) (ps_asg dBool (pg_sub (pV vt 4) (mw (dN (pV vt 11))) setL)))
 (sOne (sApp (i := 5) (ps_expr (peApp (pV vt 5) (paC (dF (pV vt 11)) pa0))))))
 sNil)))
 sNil))))))))))))
 (sOne (sRetO (pV vt 3)))))))))
theorem sc_push : FnScope ["left","way","pushed","move"] ["left","way"] (defScope (top 9)):=⟨rfl,rfl,rfl,by decide +kernel,rfl,by decide +kernel,by decide +kernel⟩
theorem ok_push {P : Program} {w : World} {K : PySem.W.Frag} {mg : Str → Option Value} {base : Heap} {f : Addr} {fd : FuncData} (F : Fun K "push" "push" (top 9) f fd) (B : Bl mg) (KT : Kits K)  : FnOk P w K mg base CX0 1 f fd ["left", "way"] (spIO K Pg.m_push) := by
  have nd := sc_push.nd
  have vt := (show (["left", "way", "pushed", "move"] : List Str).all (fun x => visB (defScope (top 9)) x && plain x) = true by decide +kernel)
  refine fnVio (lv := 0) (n := 2) (nN := 4) (k := 0) (g := Pg.g_push) F sc_push rfl rfl fun cdv A outer s H E hr => ?_
  exact (sSeq (sAs (ps_asg (dCB (pe_callB (cMin rfl) (gl (sc := (defScope (top 9))) (by decide +kernel)) B.min PyProof.Rows.boot_min (pwC (nw (dLCW (pe_lc (te := tV K RS _) (tc := tVT K _) (g := tVG K _ _) (N' := ["move", "left"]) (cap := [none, some 0]) ["left", "way", "pushed", "move"] (defScope (top 9)) rfl (by decide +kernel) rfl rfl (itL (dF (pV vt 1))) (fun _ _ _ _ _ => (tgN (pgC (i := 0) (show (["move", "left"] : List Str).Nodup by decide +kernel) (by decide +kernel)))) (fun _ _ _ _ _ => ifN) (fun _ _ _ _ _ => (dIx (dN (pVc (by decide +kernel) 1)) (mw (dN (pVc (by decide +kernel) 0)))))))) pw0)) hMin) (tgN (pg_name (i := 2) nd rfl (lo (sc := (defScope (top 9))) (by decide +kernel))))))
 (sSeq (sFor (ps_for PassesOwn.never rfl (itL (dF (pV vt 1))) (tgN (pg_name (i := 3) nd rfl (lo (sc := (defScope (top 9))) (by decide +kernel))))
 (sSeq (sAugI hSub (i := 0) (ps_augS (pV vt 0) (mw (dN (pV vt 3))) getL (dF (pV vt 2)) iSub setL))
 (sOne (sAugI hAdd (i := 0) (ps_augS (pV vt 0) (sw (dOp oXor hXor (mw (dN (pV vt 3))) (sw dInt))) getL (dF (pV vt 2)) iAdd setL))))))
 (sOne (sRetO (pV vt 2)))))
theorem sc_way_to : FnScope ["reached","start","goal","way","room"] ["reached","start","goal"] (defScope (top 8)):=⟨rfl,rfl,rfl,by decide +kernel,rfl,by decide +kernel,by decide +kernel⟩
theorem ok_way_to {P : Program} {w : World} {K : PySem.W.Frag} {mg : Str → Option Value} {base : Heap} {f : Addr} {fd : FuncData} (F : Fun K "way_to" "way_to" (top 8) f fd) (B : Bl mg) (KT : Kits K)  : FnOk P w K mg base CX0 1 f fd ["reached", "start", "goal"] (spV K Pg.m_way_to) := by
  have nd := sc_way_to.nd
  have vt := (show (["reached", "start", "goal", "way", "room"] : List Str).all (fun x => visB (defScope (top 8)) x && plain x) = true by decide +kernel)
  refine fnV (k := 0) (n := 3) (nN := 5) (g := Pg.g_way_to) F sc_way_to rfl rfl fun cdv A outer s H E hr => ?_
  exact (sSeq (sOw (i := 3) (ps_set nd rfl (lo (sc := (defScope (top 8))) (by decide +kernel)) (dLst pa0)))
 (sSeq (sAs (ps_asg (dF (pV vt 2)) (tgN (pg_name (i := 4) nd rfl (lo (sc := (defScope (top 8))) (by decide +kernel))))))
 (sSeq (sWh (ps_while PassesOwn.never (cCmp (op_neD hr.units) hNe (mw (dN (pV vt 4))) (mw (dN (pV vt 1))))
 (sSeq (sApp (i := 3) (ps_expr (peApp (pV vt 3) (paC (dIx (sm (dIx (dN (pV vt 0)) (mw (dN (pV vt 4))))) (sw dInt)) pa0))))
 (sOne (sAs (ps_asg (dIx (sm (dIx (dN (pV vt 0)) (mw (dN (pV vt 4))))) (sw dInt)) (tgN (pg_name (i := 4) nd rfl (lo (sc := (defScope (top 8))) (by decide +kernel))))))))))
 (sOne (sRetO (pV vt 3))))))
theorem sc_push_all : FnScope ["moves","left","start","goal","longest","steps","reached","length","pushed"] ["moves","left","start","goal","longest"] (defScope (top 5)):=⟨rfl,rfl,rfl,by decide +kernel,rfl,by decide +kernel,by decide +kernel⟩
theorem ok_push_all {P : Program} {w : World} {K : PySem.W.Frag} {mg : Str → Option Value} {base : Heap} {f : Addr} {fd : FuncData} (F : Fun K "push_all" "push_all" (top 5) f fd) (B : Bl mg) (KT : Kits K) (Creach : Cal P w K mg base 2 "reach" ["moves", "left", "start"] (spV K Pg.m_reach)) (Cpush : Cal P w K mg base 1 "push" ["left", "way"] (spIO K Pg.m_push)) (Cway_to : Cal P w K mg base 1 "way_to" ["reached", "start", "goal"] (spV K Pg.m_way_to)) : FnOk P w K mg base CX0 3 f fd ["moves", "left", "start", "goal", "longest"] (spIO K Pg.m_push_all) := by
  have nd := sc_push_all.nd
  have vt := (show (["moves", "left", "start", "goal", "longest", "steps", "reached", "length", "pushed"] : List Str).all (fun x => visB (defScope (top 5)) x && plain x) = true by decide +kernel)
  refine fnVio (lv := 2) (n := 5) (nN := 9) (k := 1) (g := Pg.g_push_all) F sc_push_all rfl rfl fun cdv A outer s H E hr => ?_
  exact (sSeq (sOw (i := 5) (ps_set nd rfl (lo (sc := (defScope (top 5))) (by decide +kernel)) (dLst pa0)))
 (sOne (sWh (ps_while PassesOwn.never (cVal dBool)
 (sSeq (sAs (ps_asg (dCalW (peCal Creach (hr.mono (by decide)) (gl (sc := (defScope (top 5))) (by decide +kernel)) (pwC (mw (dN (pV vt 0))) (pwC (mw (dN (pV vt 1))) (pwC (mw (dN (pV vt 2))) pw0))))) (tgN (pg_name (i := 6) nd rfl (lo (sc := (defScope (top 5))) (by decide +kernel))))))
 (sSeq (sIf (cCmp oIsN hIs (sw (dIx (dN (pV vt 6)) (mw (dN (pV vt 3))))) (sw dNone))
 (sOne (sRetO (pV vt 5)))
 sNil)
 (sSeq (sAs (ps_asg (dIx (sm (dIx (dN (pV vt 6)) (mw (dN (pV vt 3))))) (sw dInt)) (tgN (pg_name (i := 7) nd rfl (lo (sc := (defScope (top 5))) (by decide +kernel))))))
 (sSeq (sIf (PW.pt (wAnd (cCmp oNotN hIsn (mw (dN (pV vt 4))) (sw dNone)) (wAnd1 (cCmp oGt hGt (mw (dN (pV vt 7))) (mw (dN (pV vt 4)))))))
 (sOne (sRetO (pV vt 5)))
 sNil)
 (sSeq (sIoAs (j := 1) (ps_set (i := 8) nd rfl (lo (sc := (defScope (top 5))) (by decide +kernel)) (peCal Cpush (hr.mono (by decide)) (gl (sc := (defScope (top 5))) (by decide +kernel)) (ioJ (pV vt 1) (ioS (dCal (peCal Cway_to (hr.mono (by decide)) (gl (sc := (defScope (top 5))) (by decide +kernel)) (paC (dF (pV vt 6)) (paC (dF (pV vt 2)) (paC (dF (pV vt 3)) pa0))))) io0)))))
 (sOne (sIf (PW.pt (wAnd (cTru (mw (dN (pV vt 5)))) (wAnd1 (cCmp (op_eqD hr.units) hEq (sw (dIx (sm (dIx (dN (pV vt 5)) (sw (dNeg (sw dInt))))) (sw dInt))) (mw (dN (pV vt 7)))))))
 (sOne (sPut (i := 5) (ps_asg (dTup (paC (dF (pV vt 7)) (paC (dOp oAdd hAdd (sw (dIx (sm (dIx (dN (pV vt 5)) (sw (dNeg (sw dInt))))) (sw dInt))) (mw (dN (pV vt 8)))) pa0))) (pg_sub (pV vt 5) (sw (dNeg (sw dInt))) setL))))
 (sOne (sApp (i := 5) (ps_expr (peApp (pV vt 5) (paC (dTup (paC (dF (pV vt 7)) (paC (dF (pV vt 8)) pa0))) pa0))))))))))))))))
theorem sc_moves_of : FnScope ["many","passages","moves","number","passage","a","b","length"] ["many","passages"] (defScope (top 4)):=⟨rfl,rfl,rfl,by decide +kernel,rfl,by decide +kernel,by decide +kernel⟩
theorem ok_moves_of {P : Program} {w : World} {K : PySem.W.Frag} {mg : Str → Option Value} {base : Heap} {f : Addr} {fd : FuncData} (F : Fun K "moves_of" "moves_of" (top 4) f fd) (B : Bl mg) (KT : Kits K) : FnOk P w K mg base CX0 1 f fd ["many", "passages"] (spV K m_moves_of) := by
  have nd := sc_moves_of.nd
  have vt := (show (["many", "passages", "moves", "number", "passage", "a", "b", "length"] : List Str).all (fun x => visB (defScope (top 4)) x && plain x) = true by decide +kernel)
  refine F.ok sc_moves_of (fun vs H Q E h => ?_) (fun cdv A outer s H vs Q E hr h => ?_)
  · obtain ⟨G, ds, _, hx, b, d, e, _⟩ := h
    unfold m_moves_of at e
    split at e
    · exact hx.length.symm
    · cases e
  · obtain ⟨G, ds, hGH, hx, b, d, e, q⟩ := h
    unfold m_moves_of at e
    split at e
    · rename_i m pds
      split at e
      · rename_i ps eps
        split at e
        · rename_i hc
          obtain ⟨m0, m1, pl, hr3⟩ := hc
          cases e
          have epd := psOf_some eps
          subst epd
          obtain ⟨v, u, rfl, hv, pa, xs, rfl, hq, hl⟩ := HasL.two hx
          have ev : v = .int m := hv
          subst ev
          refine ⟨_, (pss_cons (ps_setLC (i := 2) nd rfl (lo (sc := (defScope (top 4))) (by decide +kernel)) (N' := ["room"]) (cap := [none]) ["many", "passages", "moves", "number", "passage", "a", "b", "length"] (defScope (top 4)) rfl (by decide +kernel) rfl rfl (pi_range1 (gl (sc := (defScope (top 4))) (by decide +kernel)) B.range (pa_cons (pV vt 0) pa_nil)) (fun _ _ _ _ _ => (pgC (i := 0) (show (["room"] : List Str).Nodup by decide +kernel) (by decide +kernel))) (fun _ _ _ _ _ => pif_nil) (fun _ _ _ _ _ => (pe_lst pa_nil)))
 (pss_cons (ps_for PassesOwn.never rfl (pi_enum (gl (sc := (defScope (top 4))) (by decide +kernel)) B.enumerate (pa_cons (pV vt 1) pa_nil)) (pgTup (n := 2) rfl (pgsCons (pg_name (i := 3) nd rfl (lo (sc := (defScope (top 4))) (by decide +kernel))) (pgsCons (pg_name (i := 4) nd rfl (lo (sc := (defScope (top 4))) (by decide +kernel))) pgsNil)))
 (pss_cons (ps_set (i := 5) nd rfl (lo (sc := (defScope (top 4))) (by decide +kernel)) (peIx ixD (pV vt 4) pe_int))
 (pss_cons (ps_set (i := 6) nd rfl (lo (sc := (defScope (top 4))) (by decide +kernel)) (peIx ixD (pV vt 4) pe_int))
 (pss_cons (ps_set (i := 7) nd rfl (lo (sc := (defScope (top 4))) (by decide +kernel)) (peIx ixD (pV vt 4) pe_int))
 (pss_cons (ps_expr (peApp (peIx ixL (pV vt 2) (pV vt 5)) (pa_cons (pe_tup (pa_cons (pe_op oMul pe_int (pV vt 3)) (pa_cons (pV vt 6) (pa_cons (pV vt 7) pa_nil)))) pa_nil)))
 (pss_one (ps_expr (peApp (peIx ixL (pV vt 2) (pV vt 6)) (pa_cons (pe_tup (pa_cons (pe_op oAdd (pe_op oMul pe_int (pV vt 3)) pe_int) (pa_cons (pV vt 5) (pa_cons (pe_un uNeg (pV vt 7)) pa_nil)))) pa_nil)))))))))
 (pss_one (ps_ret (pV vt 2))))), ?_⟩
          walk_at "e2"
          refine ⟨m, rfl, by omega, by omega, ?_⟩
          refine lcR (n := m.toNat) (size_big (by omega)) (fun i ys G' => ∃ bs : List Addr, ys = bs.map V.ref ∧ bs.Nodup ∧ bs.length = i ∧ (∀ b ∈ bs, H b = none ∧ G' b = some (.lst [])) ∧ ∀ a o, G' a = some o → H a = some o ∨ a ∈ bs) ⟨[], rfl, List.nodup_nil, rfl, by simp, fun _ _ h => .inl h⟩ ?_ ?_
          · rintro D i ys H' N hi hD hDn hlen hsame ⟨bs, rfl, hnd, hbl, hbs, hold⟩ hN
            walk_at "e2"
            refine ⟨.skip .nil, by decide, fun p hp => ?_⟩
            have hpD : p ≠ D := (ne_of_none hD hp).symm
            refine hN _ _ (by rw [upd_ne hpD.symm]; exact hD) (hide_same_hide (same_upd_new hp)) ⟨bs ++ [p], by simp, ?_, by simp [hbl], fun b hb => ?_, fun a o ha => ?_⟩
            · rw [List.nodup_append]
              refine ⟨hnd, by simp, fun a ha c hc => ?_⟩
              have hc' : c = p := by simpa using hc
              subst hc'
              intro z
              subst z
              have := (hbs a ha).2
              rw [hide_ne hpD] at this
              rw [hp] at this
              cases this
            · rcases List.mem_append.mp hb with hb | hb
              · refine ⟨(hbs b hb).1, hide_same_hide (same_upd_new hp) _ _ (hbs b hb).2⟩
              · have hb' : b = p := by simpa using hb
                subst hb'
                refine ⟨?_, by rw [hide_ne hpD, upd_same]⟩
                have : Same H H' := hsame.trans hide_same
                exact this.free hp
            · by_cases hap : a = p
              · subst hap; exact .inr (by simp)
              · by_cases haD : a = D
                · subst haD; rw [hide_at] at ha; cases ha
                · rw [hide_ne haD, upd_ne hap] at ha
                  rcases hold a o (by rw [hide_ne haD]; exact ha) with z | z
                  · exact .inl z
                  · exact .inr (List.mem_append_left _ z)
          · rintro D ys H1 hD hDn hlen hsame ⟨bs, rfl, hnd, hbl, hbs, hold⟩
            have hDbs : D ∉ bs := fun z => by
              have := (hbs D z).2
              rw [hide_at] at this
              cases this
            have I0 : MI K G H D bs (fun _ => []) H1 := ⟨G, hsame.trans hide_same, Same.refl _, hGH.trans (hsame.trans hide_same), fun _ _ e => .inl e, hGH.free hDn, hDn, hD, hDbs, hnd, fun b hb => ⟨hGH.free (hbs b hb).1, (hbs b hb).1⟩, fun u b hb => ⟨[], by
              have := (hbs b (List.mem_of_getElem? hb)).2
              exact hide_same _ _ this, rfl⟩⟩
            walk_at "e2"
            have hqH : SqL K H1 pa xs := (hsame.trans hide_same).seq (hGH.seq hq)
            refine ⟨pa, rfl, ⟨xs, hqH⟩, ?_⟩
            have hpl : ps.length = xs.length := by rw [← hl.length, List.length_map]
            refine forE (xs := xs) (fun i σ' H' => MI K G H D bs (fun u => mvsF 0 (ps.take i) (u : Int)) H' ∧ ∃ v3 v4 v5 v6 v7, σ' = [some (.int m), some (.ref pa), some (.ref D), v3, v4, v5, v6, v7]) ⟨I0.congr fun u _ => by simp [mvsF], none, none, none, none, none, rfl⟩ ?_ ?_ ?_
            · rintro i σ' H' _ ⟨I, _⟩
              obtain ⟨F', h1, _⟩ := I.ex
              exact h1.seq (hGH.seq hq)
            · rintro i x σ' H' p hxi ⟨I, v3, v4, v5, v6, v7, rfl⟩ hp
              walk_at "e2"
              obtain ⟨dd, hd, hxv⟩ := hl.get hxi
              rw [List.getElem?_map] at hd
              cases eq : ps[i]? with
              | none => rw [eq] at hd; cases hd
              | some qq =>
                rw [eq] at hd
                cases hd
                obtain ⟨qa, qb, qw, ql⟩ := qq
                obtain ⟨⟨a0, a1⟩, b0, b1⟩ := hr3 _ (List.mem_of_getElem? eq)
                dsimp only at a0 a1 b0 b1
                have hi : i < ps.length := by
                  by_cases z : i < ps.length
                  · exact z
                  · rw [List.getElem?_eq_none (by omega)] at eq; cases eq
                have I1 : MI K G H D bs (fun u => mvsF 0 (ps.take i) (u : Int)) (upd H' p (.tup [.int (i : Int), x])) := by
                  obtain ⟨F', h1, h2, h3, h4, h5, h6, h7, h8, h9, h10, h11⟩ := I.ex
                  exact ⟨F', h1.trans (same_upd_new hp), h2, h3.trans (same_upd_new hp), h4, h5, h6, same_upd_new hp _ _ h7, h8, h9, h10, fun u b hb => by
                    obtain ⟨ys, q1, q2⟩ := h11 u b hb
                    exact ⟨ys, same_upd_new hp _ _ q1, q2⟩⟩
                obtain ⟨F', h1, h2, h3, h4, h5, h6, h7, h8, h9, h10, h11⟩ := I1.ex
                have hxH : Has K (upd H' p (.tup [.int (i : Int), x])) (pD (qa, qb, qw, ql)) x := Has.same (h2.trans h3) hxv
                refine ⟨_, SqT.of upd_same, rfl, ?_⟩
                walk_at "e2"
                refine ⟨_, qa, .inr hxH, rfl, _, qb, .inr hxH, rfl, _, ql, .inr hxH, rfl, ?_⟩
                have ea : bs[qa.toNat]? = some (bs[qa.toNat]'(by omega)) := List.getElem?_eq_getElem _
                have eb : bs[qb.toNat]? = some (bs[qb.toNat]'(by omega)) := List.getElem?_eq_getElem _
                generalize bs[qa.toNat]'(by omega) = ba at ea
                generalize bs[qb.toNat]'(by omega) = bb at eb
                have aA : atI (bs.map V.ref) qa = some (.ref ba) := by
                  have : qa = ((qa.toNat : Nat) : Int) := by omega
                  rw [this]
                  exact atI_nat (by rw [List.getElem?_map, ea]; rfl)
                have aB : atI (bs.map V.ref) qb = some (.ref bb) := by
                  have : qb = ((qb.toNat : Nat) : Int) := by omega
                  rw [this]
                  exact atI_nat (by rw [List.getElem?_map, eb]; rfl)
                obtain ⟨zs, z1, _⟩ := h11 _ _ ea
                refine ⟨_, _, SqL.of h7, aA, .inl ⟨rfl, _, SqL.of z1⟩, (BMul.ok ⟨by decide +kernel, by exact lt2000 (by omega) (by omega)⟩), by decide, fun p1 hp1 => ?_⟩
                obtain ⟨ys, y1, y2, y3, I2⟩ := I1.put (f' := fun u => mvsF 0 (ps.take i) (u : Int) ++ (if u = qa.toNat then [mvD (2 * i) qb ql] else [])) ea hp1 (m := 2 * i) (e := qb) (x := ql) (by
                  intro w; by_cases hw : w = qa.toNat <;> simp [hw])
                have tl := mvsF_len (qa.toNat : Int) (ps.take i) 0
                have tl2 := mvsF_len (qb.toNat : Int) (ps.take i) 0
                rw [List.length_take] at tl tl2
                refine ⟨ys, y2, size_big (by omega), ?_⟩
                obtain ⟨F2, k1, k2, k3, k4, k5, k6, k7, k8, k9, k10, k11⟩ := I2.ex
                obtain ⟨ws, w1, _⟩ := k11 _ _ eb
                refine ⟨_, _, SqL.of k7, aB, .inl ⟨rfl, _, SqL.of w1⟩, (BMul.ok ⟨by decide +kernel, by exact lt2000 (by omega) (by omega)⟩), by decide, fun p2 hp2 => ?_⟩
                obtain ⟨ys2, _, y22, y23, I3⟩ := I2.put (f' := fun u => (mvsF 0 (ps.take i) (u : Int) ++ (if u = qa.toNat then [mvD (2 * i) qb ql] else [])) ++ (if u = qb.toNat then [mvD (2 * i + 1) qa (-ql)] else [])) eb hp2 (m := 2 * i + 1) (e := qa) (x := -ql) (by
                  intro w; by_cases hw : w = qb.toNat <;> simp [hw])
                refine ⟨ys2, y22, size_big ?_, I3.congr fun u hu => ?_, _, _, _, _, _, rfl⟩
                · rw [y23, List.length_append]
                  have : (if qb.toNat = qa.toNat then [mvD (2 * i) qb ql] else []).length ≤ 1 := by split <;> simp
                  omega
                · have et : ps.take (i + 1) = ps.take i ++ [(qa, qb, qw, ql)] := by
                    rw [List.take_add_one, eq]; rfl
                  have ea' : (u = qa.toNat) ↔ (qa = (u : Int)) := by omega
                  have eb' : (u = qb.toNat) ↔ (qb = (u : Int)) := by omega
                  have el : (List.take i ps).length = i := by rw [List.length_take]; omega
                  rw [et, mvsF_snoc, el, Nat.zero_add]
                  simp only [ea', eb', List.append_assoc]
            · rintro σ' H' ⟨I, v3, v4, v5, v6, v7, rfl⟩
              walk_at "e2"
              rw [List.take_of_length_le (by omega)] at I
              obtain ⟨F', g, hh⟩ := I.fin
              refine q _ F' H' g ?_
              rw [hbl] at hh
              exact hh
        · cases e
      · cases e
    · cases e
theorem sc_steps_of : FnScope ["many","passages","start","goal","left"] ["many","passages","start","goal"] (defScope (top 1)):=⟨rfl,rfl,rfl,by decide +kernel,rfl,by decide +kernel,by decide +kernel⟩
theorem ok_steps_of {P : Program} {w : World} {K : PySem.W.Frag} {mg : Str → Option Value} {base : Heap} {f : Addr} {fd : FuncData} (F : Fun K "steps_of" "steps_of" (top 1) f fd) (B : Bl mg) (KT : Kits K) (Cleft_behind : Cal P w K mg base 1 "left_behind" ["passages", "flow"] (spV K Pg.m_left_behind)) (Cpush_all : Cal P w K mg base 3 "push_all" ["moves", "left", "start", "goal", "longest"] (spIO K Pg.m_push_all)) (Cmoves_of : Cal P w K mg base 1 "moves_of" ["many", "passages"] (spV K VM.m_moves_of)) : FnOk P w K mg base CX0 4 f fd ["many", "passages", "start", "goal"] (spV K Pg.m_steps_of) := by
  have nd := sc_steps_of.nd
  have vt := (show (["many", "passages", "start", "goal", "left"] : List Str).all (fun x => visB (defScope (top 1)) x && plain x) = true by decide +kernel)
  refine fnV (k := 3) (n := 4) (nN := 5) (g := Pg.g_steps_of) F sc_steps_of rfl rfl fun cdv A outer s H E hr => ?_
  exact (sSeq (sOw (i := 4) (ps_set nd rfl (lo (sc := (defScope (top 1))) (by decide +kernel)) (dCalN (peCal Cleft_behind (hr.mono (by decide)) (gl (sc := (defScope (top 1))) (by decide +kernel)) (paC (dF (pV vt 1)) (paC (ns (dRep (dLst (paC dInt pa0)) (sw (dCB (pe_callB cLen (gl (sc := (defScope (top 1))) (by decide +kernel)) B.len PySem.boot_len (pwC (mw (dN (pV vt 1))) pw0)) hLen)))) pa0))))))
 (sOne (sIoRet (j := 4) (ps_ret (peCal Cpush_all (hr.mono (by decide)) (gl (sc := (defScope (top 1))) (by decide +kernel)) (ioS (dCal (peCal Cmoves_of (hr.mono (by decide)) (gl (sc := (defScope (top 1))) (by decide +kernel)) (paC (dF (pV vt 0)) (paC (dF (pV vt 1)) pa0)))) (ioJ (pV vt 4) (ioS (dF (pV vt 2)) (ioS (dF (pV vt 3)) (ioS dNone io0))))))))))
theorem sc_best_flow : FnScope ["many","passages","start","goal","turns","left"] ["many","passages","start","goal","turns"] (defScope (top 2)):=⟨rfl,rfl,rfl,by decide +kernel,rfl,by decide +kernel,by decide +kernel⟩
theorem ok_best_flow {P : Program} {w : World} {K : PySem.W.Frag} {mg : Str → Option Value} {base : Heap} {f : Addr} {fd : FuncData} (F : Fun K "best_flow" "best_flow" (top 2) f fd) (B : Bl mg) (KT : Kits K) (Cleft_behind : Cal P w K mg base 1 "left_behind" ["passages", "flow"] (spV K Pg.m_left_behind)) (Cpush_all : Cal P w K mg base 3 "push_all" ["moves", "left", "start", "goal", "longest"] (spIO K Pg.m_push_all)) (Cmoves_of : Cal P w K mg base 1 "moves_of" ["many", "passages"] (spV K VM.m_moves_of)) : FnOk P w K mg base CX0 4 f fd ["many", "passages", "start", "goal", "turns"] (spV K Pg.m_best_flow) := by
  have nd := sc_best_flow.nd
  have vt := (show (["many", "passages", "start", "goal", "turns", "left"] : List Str).all (fun x => visB (defScope (top 2)) x && plain x) = true by decide +kernel)
  refine fnV (k := 3) (n := 5) (nN := 6) (g := Pg.g_best_flow) F sc_best_flow rfl rfl fun cdv A outer s H E hr => ?_
  exact (sSeq (sOw (i := 5) (ps_set nd rfl (lo (sc := (defScope (top 2))) (by decide +kernel)) (dCalN (peCal Cleft_behind (hr.mono (by decide)) (gl (sc := (defScope (top 2))) (by decide +kernel)) (paC (dF (pV vt 1)) (paC (ns (dRep (dLst (paC dInt pa0)) (sw (dCB (pe_callB cLen (gl (sc := (defScope (top 2))) (by decide +kernel)) B.len PySem.boot_len (pwC (mw (dN (pV vt 1))) pw0)) hLen)))) pa0))))))
 (sSeq (sIoEx (j := 5) (ps_expr (peCal Cpush_all (hr.mono (by decide)) (gl (sc := (defScope (top 2))) (by decide +kernel)) (ioS (dCal (peCal Cmoves_of (hr.mono (by decide)) (gl (sc := (defScope (top 2))) (by decide +kernel)) (paC (dF (pV vt 0)) (paC (dF (pV vt 1)) pa0)))) (ioJ (pV vt 5) (ioS (dF (pV vt 2)) (ioS (dF (pV vt 3)) (ioS (dF (pV vt 4)) io0))))))))
 (sOne (sRetN (dLCW (pe_lc (te := tV K RS _) (tc := tVT K _) (g := tVG K _ _) (N' := ["number", "left"]) (cap := [none, some 5]) ["many", "passages", "start", "goal", "turns", "left"] (defScope (top 2)) rfl (by decide +kernel) rfl rfl (itR1 (pi_range1 (gl (sc := (defScope (top 2))) (by decide +kernel)) B.range (pwC (sw (dCB (pe_callB cLen (gl (sc := (defScope (top 2))) (by decide +kernel)) B.len PySem.boot_len (pwC (mw (dN (pV vt 1))) pw0)) hLen)) pw0))) (fun _ _ _ _ _ => (tgN (pgC (i := 0) (show (["number", "left"] : List Str).Nodup by decide +kernel) (by decide +kernel)))) (fun _ _ _ _ _ => ifN) (fun _ _ _ _ _ => (dIx (dN (pVc (by decide +kernel) 1)) (sw (dOp oAdd hAdd (sw (dOp oMul hMul (sw dInt) (mw (dN (pVc (by decide +kernel) 0))))) (sw dInt)))))))))))
theorem sc_length_of : FnScope ["passages","walk"] ["passages","walk"] (defScope (top 11)):=⟨rfl,rfl,rfl,by decide +kernel,rfl,by decide +kernel,by decide +kernel⟩
theorem ok_length_of {P : Program} {w : World} {K : PySem.W.Frag} {mg : Str→Option Value} {base : Heap} {f : Addr} {fd : FuncData} (F : Fun K "length_of" "length_of" (top 11) f fd) (B : Bl mg) (KT : Kits K)  : FnOk P w K mg base CX0 1 f fd ["passages","walk"] (spV K Pg.m_length_of):=by
 have nd:=sc_length_of.nd
 have vt:=(show (["passages","walk"] : List Str).all (fun x=>visB (defScope (top 11)) x && plain x) = true by decide +kernel)
 refine fnV (k:=0) (n:=2) (nN:=2) (g:=Pg.g_length_of) F sc_length_of rfl rfl fun cdv A outer s H E hr=>?_
 exact (sOne (sRet (dCB (pe_callB (cSum rfl) (gl (sc:=(defScope (top 11))) (by decide +kernel)) B.sum PyProof.Rows.boot_sum (pwC (nw (dLC (pe_lc (te:=tV K RS _) (tc:=tVT K _) (g:=tVG K _ _) (N':=["number","passages"]) (cap:=[none,some 0]) ["passages","walk"] (defScope (top 11)) rfl (by decide +kernel) rfl rfl (itL (dF (pV vt 1))) (fun _ _ _ _ _=>(tgN (pgC (i:=0) (show (["number","passages"] : List Str).Nodup by decide +kernel) (by decide +kernel)))) (fun _ _ _ _ _=>ifN) (fun _ _ _ _ _=>(dIx (sm (dIx (dN (pVc (by decide +kernel) 1)) (mw (dN (pVc (by decide +kernel) 0))))) (sw dInt)))))) pw0)) hSum)))
theorem sc_passage_on : FnScope ["passages","room","left","number","passage"] ["passages","room","left"] (defScope (top 14)):=⟨rfl,rfl,rfl,by decide +kernel,rfl,by decide +kernel,by decide +kernel⟩
theorem ok_passage_on {P : Program} {w : World} {K : PySem.W.Frag} {mg : Str → Option Value} {base : Heap} {f : Addr} {fd : FuncData} (F : Fun K "passage_on" "passage_on" (top 14) f fd) (B : Bl mg) (KT : Kits K)  : FnOk P w K mg base CX0 1 f fd ["passages", "room", "left"] (spV K Pg.m_passage_on) := by
  have nd := sc_passage_on.nd
  have vt := (show (["passages", "room", "left", "number", "passage"] : List Str).all (fun x => visB (defScope (top 14)) x && plain x) = true by decide +kernel)
  refine fnV (k := 0) (n := 3) (nN := 5) (g := Pg.g_passage_on) F sc_passage_on rfl rfl fun cdv A outer s H E hr => ?_
  exact (sSeq (sFor (ps_for PassesOwn.never rfl (itE (pi_enum (gl (sc := (defScope (top 14))) (by decide +kernel)) B.enumerate (paC (dF (pV vt 0)) pa0))) (tgT (n := 2) rfl (tgC (tgN (pg_name (i := 3) nd rfl (lo (sc := (defScope (top 14))) (by decide +kernel)))) (tgC (tgN (pg_name (i := 4) nd rfl (lo (sc := (defScope (top 14))) (by decide +kernel)))) tg0)))
 (sOne (sIf (PW.pt (wAnd (cCmp (op_eqD hr.units) hEq (sw (dIx (dN (pV vt 4)) (sw dInt))) (mw (dN (pV vt 1)))) (wAnd1 (cCmp oGt hGt (sw (dIx (dN (pV vt 2)) (mw (dN (pV vt 3))))) (sw dInt)))))
 (sOne (sRetO (pV vt 3)))
 sNil))))
 (sOne (sRet dNone)))
theorem sc_walk_along : FnScope ["passages","start","goal","left","walk","room","number"] ["passages","start","goal","left"] (defScope (top 13)):=⟨rfl,rfl,rfl,by decide +kernel,rfl,by decide +kernel,by decide +kernel⟩
theorem ok_walk_along {P : Program} {w : World} {K : PySem.W.Frag} {mg : Str → Option Value} {base : Heap} {f : Addr} {fd : FuncData} (F : Fun K "walk_along" "walk_along" (top 13) f fd) (B : Bl mg) (KT : Kits K) (Cpassage_on : Cal P w K mg base 1 "passage_on" ["passages", "room", "left"] (spV K Pg.m_passage_on)) : FnOk P w K mg base CX0 2 f fd ["passages", "start", "goal", "left"] (spV K Pg.m_walk_along) := by
  have nd := sc_walk_along.nd
  have vt := (show (["passages", "start", "goal", "left", "walk", "room", "number"] : List Str).all (fun x => visB (defScope (top 13)) x && plain x) = true by decide +kernel)
  refine fnV (k := 1) (n := 4) (nN := 7) (g := Pg.g_walk_along) F sc_walk_along rfl rfl fun cdv A outer s H E hr => ?_
  exact (sSeq (sOw (i := 4) (ps_set nd rfl (lo (sc := (defScope (top 13))) (by decide +kernel)) (dLst pa0)))
 (sSeq (sAs (ps_asg (dF (pV vt 1)) (tgN (pg_name (i := 5) nd rfl (lo (sc := (defScope (top 13))) (by decide +kernel))))))
 (sSeq (sWh (ps_while PassesOwn.never (cCmp (op_neD hr.units) hNe (mw (dN (pV vt 5))) (mw (dN (pV vt 2))))
 (sSeq (sAs (ps_asg (dCal (peCal Cpassage_on (hr.mono (by decide)) (gl (sc := (defScope (top 13))) (by decide +kernel)) (paC (dF (pV vt 0)) (paC (dF (pV vt 5)) (paC (dF (pV vt 3)) pa0))))) (tgN (pg_name (i := 6) nd rfl (lo (sc := (defScope (top 13))) (by decide +kernel))))))
 (sSeq (sIf (cCmp oIsN hIs (mw (dN (pV vt 6))) (sw dNone))
 (sOne (sRetN (dLst pa0)))
 sNil)
 (sSeq (sApp (i := 4) (ps_expr (peApp (pV vt 4) (paC (dF (pV vt 6)) pa0))))
 (sOne (sAs (ps_asg (dIx (sm (dIx (dN (pV vt 0)) (mw (dN (pV vt 6))))) (sw dInt)) (tgN (pg_name (i := 5) nd rfl (lo (sc := (defScope (top 13))) (by decide +kernel))))))))))))
 (sOne (sRetO (pV vt 4))))))
theorem sc_walks_of : FnScope ["passages","start","goal","flow","left","walks","walk","many","number"] ["passages","start","goal","flow"] (defScope (top 12)):=⟨rfl,rfl,rfl,by decide +kernel,rfl,by decide +kernel,by decide +kernel⟩
theorem ok_walks_of {P : Program} {w : World} {K : PySem.W.Frag} {mg : Str → Option Value} {base : Heap} {f : Addr} {fd : FuncData} (F : Fun K "walks_of" "walks_of" (top 12) f fd) (B : Bl mg) (KT : Kits K) (Cwalk_along : Cal P w K mg base 2 "walk_along" ["passages", "start", "goal", "left"] (spV K Pg.m_walk_along)) : FnOk P w K mg base CX0 3 f fd ["passages", "start", "goal", "flow"] (spV K Pg.m_walks_of) := by
  have nd := sc_walks_of.nd
  have vt := (show (["passages", "start", "goal", "flow", "left", "walks", "walk", "many", "number"] : List Str).all (fun x => visB (defScope (top 12)) x && plain x) = true by decide +kernel)
  refine fnV (k := 2) (n := 4) (nN := 9) (g := Pg.g_walks_of) F sc_walks_of rfl rfl fun cdv A outer s H E hr => ?_
  exact (sSeq (sOw (i := 4) (ps_set nd rfl (lo (sc := (defScope (top 12))) (by decide +kernel)) (dListOf (pe_callTy cList (gl (sc := (defScope (top 12))) (by decide +kernel)) B.list PyProof.Rows.boot_list (pa_cons (dN (pV vt 3)) pa_nil)))))
 (sSeq (sOw (i := 5) (ps_set nd rfl (lo (sc := (defScope (top 12))) (by decide +kernel)) (dLst pa0)))
 (sOne (sWh (ps_while PassesOwn.never (cVal dBool)
 (sSeq (sAs (ps_asg (dCalW (peCal Cwalk_along (hr.mono (by decide)) (gl (sc := (defScope (top 12))) (by decide +kernel)) (pwC (mw (dN (pV vt 0))) (pwC (mw (dN (pV vt 1))) (pwC (mw (dN (pV vt 2))) (pwC (mw (dN (pV vt 4))) pw0)))))) (tgN (pg_name (i := 6) nd rfl (lo (sc := (defScope (top 12))) (by decide +kernel))))))
 (sSeq (sIf (cNot (cTru (mw (dN (pV vt 6)))))
 (sOne (sRetO (pV vt 5)))
 sNil)
 (sSeq (sAs (ps_asg (dCB (pe_callB (cMin rfl) (gl (sc := (defScope (top 12))) (by decide +kernel)) B.min PyProof.Rows.boot_min (pwC (nw (dLCW (pe_lc (te := tV K RS _) (tc := tVT K _) (g := tVG K _ _) (N' := ["number", "left"]) (cap := [none, some 4]) ["passages", "start", "goal", "flow", "left", "walks", "walk", "many", "number"] (defScope (top 12)) rfl (by decide +kernel) rfl rfl (itL (dF (pV vt 6))) (fun _ _ _ _ _ => (tgN (pgC (i := 0) (show (["number", "left"] : List Str).Nodup by decide +kernel) (by decide +kernel)))) (fun _ _ _ _ _ => ifN) (fun _ _ _ _ _ => (dIx (dN (pVc (by decide +kernel) 1)) (mw (dN (pVc (by decide +kernel) 0)))))))) pw0)) hMin) (tgN (pg_name (i := 7) nd rfl (lo (sc := (defScope (top 12))) (by decide +kernel))))))
 (sSeq (sFor (ps_for PassesOwn.never rfl (itL (dF (pV vt 6))) (tgN (pg_name (i := 8) nd rfl (lo (sc := (defScope (top 12))) (by decide +kernel))))
 (sOne (sAugI hSub (i := 4) (ps_augS (pV vt 4) (mw (dN (pV vt 8))) getL (dF (pV vt 7)) iSub setL)))))
 (sOne (sApp (i := 5) (ps_expr (peApp (pV vt 5) (paC (dTup (paC (dF (pV vt 6)) (paC (dF (pV vt 7)) pa0))) pa0))))))))))))))
theorem sc_moments_of : FnScope ["many","passages","start","goal","turns","flow","late","with_late","left","reached"] ["many","passages","start","goal","turns","flow"] (defScope (top 17)):=⟨rfl,rfl,rfl,by decide +kernel,rfl,by decide +kernel,by decide +kernel⟩
theorem ok_moments_of {P : Program} {w : World} {K : PySem.W.Frag} {mg : Str → Option Value} {base : Heap} {f : Addr} {fd : FuncData} (F : Fun K "moments_of" "moments_of" (top 17) f fd) (B : Bl mg) (KT : Kits K) (Cleft_behind : Cal P w K mg base 1 "left_behind" ["passages", "flow"] (spV K Pg.m_left_behind)) (Creach : Cal P w K mg base 2 "reach" ["moves", "left", "start"] (spV K Pg.m_reach)) (Cmoves_of : Cal P w K mg base 1 "moves_of" ["many", "passages"] (spV K VM.m_moves_of)) : FnOk P w K mg base CX0 3 f fd ["many", "passages", "start", "goal", "turns", "flow"] (spV K Pg.m_moments_of) := by
  have nd := sc_moments_of.nd
  have vt := (show (["many", "passages", "start", "goal", "turns", "flow", "late", "with_late", "left", "reached"] : List Str).all (fun x => visB (defScope (top 17)) x && plain x) = true by decide +kernel)
  refine fnV (k := 2) (n := 6) (nN := 10) (g := Pg.g_moments_of) F sc_moments_of rfl rfl fun cdv A outer s H E hr => ?_
  exact (sSeq (sAs (ps_asg (dOp oAdd hAdd (mw (dN (pV vt 4))) (sw dInt)) (tgN (pg_name (i := 6) nd rfl (lo (sc := (defScope (top 17))) (by decide +kernel))))))
 (sSeq (sAs (ps_asg (ns (dCat (dN (pV vt 1)) (nm (dLst (paC (dTup (paC (dF (pV vt 2)) (paC (dF (pV vt 3)) (paC dInt (paC (dF (pV vt 6)) pa0))))) pa0))))) (tgN (pg_name (i := 7) nd rfl (lo (sc := (defScope (top 17))) (by decide +kernel))))))
 (sSeq (sAs (ps_asg (dCal (peCal Cleft_behind (hr.mono (by decide)) (gl (sc := (defScope (top 17))) (by decide +kernel)) (paC (dF (pV vt 7)) (paC (ns (dCat (dN (pV vt 5)) (nm (dLst (paC dInt pa0))))) pa0)))) (tgN (pg_name (i := 8) nd rfl (lo (sc := (defScope (top 17))) (by decide +kernel))))))
 (sSeq (sAs (ps_asg (dCal (peCal Creach (hr.mono (by decide)) (gl (sc := (defScope (top 17))) (by decide +kernel)) (paC (dCal (peCal Cmoves_of (hr.mono (by decide)) (gl (sc := (defScope (top 17))) (by decide +kernel)) (paC (dF (pV vt 0)) (paC (dF (pV vt 7)) pa0)))) (paC (dF (pV vt 8)) (paC (dF (pV vt 2)) pa0))))) (tgN (pg_name (i := 9) nd rfl (lo (sc := (defScope (top 17))) (by decide +kernel))))))
 (sOne (sRetN (dLC (pe_lc (te := tV K RS _) (tc := tVT K _) (g := tVG K _ _) (N' := ["known", "late"]) (cap := [none, some 6]) ["many", "passages", "start", "goal", "turns", "flow", "late", "with_late", "left", "reached"] (defScope (top 17)) rfl (by decide +kernel) rfl rfl (itL (dF (pV vt 9))) (fun _ _ _ _ _ => (tgN (pgC (i := 0) (show (["known", "late"] : List Str).Nodup by decide +kernel) (by decide +kernel)))) (fun _ _ _ _ _ => ifN) (fun _ _ _ _ _ => (dIf (cCmp oIsN hIs (mw (dN (pVc (by decide +kernel) 0))) (sw dNone)) (dF (pVc (by decide +kernel) 1)) (dCB (pe_callB (call_min2 rfl) (glC (by decide +kernel)) B.min PyProof.Rows.boot_min (pwC (sw (dIx (dN (pVc (by decide +kernel) 0)) (sw dInt))) (pwC (mw (dN (pVc (by decide +kernel) 1))) pw0))) hMin2)))))))))))
theorem sc_out_within : FnScope ["many","passages","start","goal","turns","flow","walks","people"] ["many","passages","start","goal","turns"] (defScope (top 16)):=⟨rfl,rfl,rfl,by decide +kernel,rfl,by decide +kernel,by decide +kernel⟩
theorem ok_out_within {P : Program} {w : World} {K : PySem.W.Frag} {mg : Str → Option Value} {base : Heap} {f : Addr} {fd : FuncData} (F : Fun K "out_within" "out_within" (top 16) f fd) (B : Bl mg) (KT : Kits K) (Cbest_flow : Cal P w K mg base 4 "best_flow" ["many", "passages", "start", "goal", "turns"] (spV K Pg.m_best_flow)) (Cwalks_of : Cal P w K mg base 3 "walks_of" ["passages", "start", "goal", "flow"] (spV K Pg.m_walks_of)) (Cmoments_of : Cal P w K mg base 3 "moments_of" ["many", "passages", "start", "goal", "turns", "flow"] (spV K Pg.m_moments_of)) (Clength_of : Cal P w K mg base 1 "length_of" ["passages", "walk"] (spV K Pg.m_length_of)) : FnOk P w K mg base CX0 5 f fd ["many", "passages", "start", "goal", "turns"] (spV K Pg.m_out_within) := by
  have nd := sc_out_within.nd
  have vt := (show (["many", "passages", "start", "goal", "turns", "flow", "walks", "people"] : List Str).all (fun x => visB (defScope (top 16)) x && plain x) = true by decide +kernel)
  refine fnV (k := 4) (n := 5) (nN := 8) (g := Pg.g_out_within) F sc_out_within rfl rfl fun cdv A outer s H E hr => ?_
  exact (sSeq (sAs (ps_asg (dCal (peCal Cbest_flow (hr.mono (by decide)) (gl (sc := (defScope (top 16))) (by decide +kernel)) (paC (dF (pV vt 0)) (paC (dF (pV vt 1)) (paC (dF (pV vt 2)) (paC (dF (pV vt 3)) (paC (dF (pV vt 4)) pa0))))))) (tgN (pg_name (i := 5) nd rfl (lo (sc := (defScope (top 16))) (by decide +kernel))))))
 (sSeq (sAs (ps_asg (dCal (peCal Cwalks_of (hr.mono (by decide)) (gl (sc := (defScope (top 16))) (by decide +kernel)) (paC (dF (pV vt 1)) (paC (dF (pV vt 2)) (paC (dF (pV vt 3)) (paC (dF (pV vt 5)) pa0)))))) (tgN (pg_name (i := 6) nd rfl (lo (sc := (defScope (top 16))) (by decide +kernel))))))
 (sSeq (sAs (ps_asg (dCB (pe_callB (cSum rfl) (gl (sc := (defScope (top 16))) (by decide +kernel)) B.sum PyProof.Rows.boot_sum (pwC (nw (dLC (pe_lc (te := tV K RS _) (tc := tVT K _) (g := tVG K _ _) (N' := ["walk", "number", "turns", "passages"]) (cap := [none, none, some 4, some 1]) ["many", "passages", "start", "goal", "turns", "flow", "walks", "people"] (defScope (top 16)) rfl (by decide +kernel) rfl rfl (itL (dF (pV vt 6))) (fun _ _ _ _ _ => (tgT (n := 2) rfl (tgC (tgN (pgC (i := 0) (show (["walk", "number", "turns", "passages"] : List Str).Nodup by decide +kernel) (by decide +kernel))) (tgC (tgN (pgC (i := 1) (show (["walk", "number", "turns", "passages"] : List Str).Nodup by decide +kernel) (by decide +kernel))) tg0)))) (fun _ _ _ _ _ => ifN) (fun _ _ _ _ _ => (dOp oMul hMul (mw (dN (pVc (by decide +kernel) 1))) (sw (dOp oAdd hAdd (sw (dOp oSub hSub (mw (dN (pVc (by decide +kernel) 2))) (sw (dCal (peCal Clength_of (hr.mono (by decide)) (glC (by decide +kernel)) (paC (dF (pVc (by decide +kernel) 3)) (paC (dF (pVc (by decide +kernel) 0)) pa0))))))) (sw dInt)))))))) pw0)) hSum) (tgN (pg_name (i := 7) nd rfl (lo (sc := (defScope (top 16))) (by decide +kernel))))))
 (sOne (sRet (dTup (paC (dF (pV vt 7)) (paC (dF (pV vt 6)) (paC (dCal (peCal Cmoments_of (hr.mono (by decide)) (gl (sc := (defScope (top 16))) (by decide +kernel)) (paC (dF (pV vt 0)) (paC (dF (pV vt 1)) (paC (dF (pV vt 2)) (paC (dF (pV vt 3)) (paC (dF (pV vt 4)) (paC (dF (pV vt 5)) pa0)))))))) pa0)))))))))
theorem sc_turns_by : FnScope ["steps","people","amount","cost","needed","length","many"] ["steps","people"] (defScope (top 20)):=⟨rfl,rfl,rfl,by decide +kernel,rfl,by decide +kernel,by decide +kernel⟩
theorem ok_turns_by {P : Program} {w : World} {K : PySem.W.Frag} {mg : Str → Option Value} {base : Heap} {f : Addr} {fd : FuncData} (F : Fun K "turns_by" "turns_by" (top 20) f fd) (B : Bl mg) (KT : Kits K)  : FnOk P w K mg base CX0 1 f fd ["steps", "people"] (spV K Pg.m_turns_by) := by
  have nd := sc_turns_by.nd
  have vt := (show (["steps", "people", "amount", "cost", "needed", "length", "many"] : List Str).all (fun x => visB (defScope (top 20)) x && plain x) = true by decide +kernel)
  refine fnV (k := 0) (n := 2) (nN := 7) (g := Pg.g_turns_by) F sc_turns_by rfl rfl fun cdv A outer s H E hr => ?_
  exact (sSeq (sAs (ps_asg dInt (tgN (pg_name (i := 2) nd rfl (lo (sc := (defScope (top 20))) (by decide +kernel))))))
 (sSeq (sAs (ps_asg dInt (tgN (pg_name (i := 3) nd rfl (lo (sc := (defScope (top 20))) (by decide +kernel))))))
 (sSeq (sOw (i := 4) (ps_set nd rfl (lo (sc := (defScope (top 20))) (by decide +kernel)) (dLst pa0)))
 (sSeq (sFor (ps_for PassesOwn.never rfl (itL (dF (pV vt 0))) (tgT (n := 2) rfl (tgC (tgN (pg_name (i := 5) nd rfl (lo (sc := (defScope (top 20))) (by decide +kernel)))) (tgC (tgN (pg_name (i := 6) nd rfl (lo (sc := (defScope (top 20))) (by decide +kernel)))) tg0)))
 (sSeq (sAug hAdd (psAug (i := 2) nd rfl (lo (sc := (defScope (top 20))) (by decide +kernel)) (dF (pV vt 6)) iAdd))
 (sSeq (sAug hAdd (psAug (i := 3) nd rfl (lo (sc := (defScope (top 20))) (by decide +kernel)) (dOp oMul hMul (mw (dN (pV vt 6))) (mw (dN (pV vt 5)))) iAdd))
 (sOne (sApp (i := 4) (ps_expr (peApp (pV vt 4) (paC (dOp oDiv hDiv (sw (dOp oSub hSub (sw (dOp oAdd hAdd (mw (dN (pV vt 1))) (mw (dN (pV vt 3))))) (sw dInt))) (mw (dN (pV vt 2)))) pa0)))))))))
 (sOne (sRet (dCB (pe_callB (cMin rfl) (gl (sc := (defScope (top 20))) (by decide +kernel)) B.min PyProof.Rows.boot_min (pwC (mw (dN (pV vt 4))) pw0)) hMin)))))))
theorem sc_plan_for : FnScope ["passages","walks","turns","people","plan","waiting","walk","number","moments","full"] ["passages","walks","turns","people"] (defScope (top 21)):=⟨rfl,rfl,rfl,by decide +kernel,rfl,by decide +kernel,by decide +kernel⟩
theorem ok_plan_for {P : Program} {w : World} {K : PySem.W.Frag} {mg : Str → Option Value} {base : Heap} {f : Addr} {fd : FuncData} (F : Fun K "plan_for" "plan_for" (top 21) f fd) (B : Bl mg) (KT : Kits K) (Clength_of : Cal P w K mg base 1 "length_of" ["passages", "walk"] (spV K Pg.m_length_of)) : FnOk P w K mg base CX0 2 f fd ["passages", "walks", "turns", "people"] (spV K Pg.m_plan_for) := by
  have nd := sc_plan_for.nd
  have vt := (show (["passages", "walks", "turns", "people", "plan", "waiting", "walk", "number", "moments", "full"] : List Str).all (fun x => visB (defScope (top 21)) x && plain x) = true by decide +kernel)
  refine fnV (k := 1) (n := 4) (nN := 10) (g := Pg.g_plan_for) F sc_plan_for rfl rfl fun cdv A outer s H E hr => ?_
  exact (sSeq (sOw (i := 4) (ps_set nd rfl (lo (sc := (defScope (top 21))) (by decide +kernel)) (dLst pa0)))
 (sSeq (sAs (ps_asg (dF (pV vt 3)) (tgN (pg_name (i := 5) nd rfl (lo (sc := (defScope (top 21))) (by decide +kernel))))))
 (sSeq (sFor (ps_for PassesOwn.never rfl (itL (dF (pV vt 1))) (tgT (n := 2) rfl (tgC (tgN (pg_name (i := 6) nd rfl (lo (sc := (defScope (top 21))) (by decide +kernel)))) (tgC (tgN (pg_name (i := 7) nd rfl (lo (sc := (defScope (top 21))) (by decide +kernel)))) tg0)))
 (sSeq (sAs (ps_asg (dOp oAdd hAdd (sw (dOp oSub hSub (mw (dN (pV vt 2))) (sw (dCal (peCal Clength_of (hr.mono (by decide)) (gl (sc := (defScope (top 21))) (by decide +kernel)) (paC (dF (pV vt 0)) (paC (dF (pV vt 6)) pa0))))))) (sw dInt)) (tgN (pg_name (i := 8) nd rfl (lo (sc := (defScope (top 21))) (by decide +kernel))))))
 (sSeq (sAs (ps_asg (dCB (pe_callB (call_min2 rfl) (gl (sc := (defScope (top 21))) (by decide +kernel)) B.min PyProof.Rows.boot_min (pwC (mw (dN (pV vt 8))) (pwC (sw (dOp oDiv hDiv (mw (dN (pV vt 5))) (mw (dN (pV vt 7))))) pw0))) hMin2) (tgN (pg_name (i := 9) nd rfl (lo (sc := (defScope (top 21))) (by decide +kernel))))))
 (sSeq (sIf (cCmp oGt hGt (mw (dN (pV vt 9))) (sw dInt))
 (sSeq (sApp (i := 4) (ps_expr (peApp (pV vt 4) (paC (dTup (paC (dF (pV vt 6)) (paC (dF (pV vt 7)) (paC dInt (paC (dOp oSub hSub (mw (dN (pV vt 9))) (sw dInt)) pa0))))) pa0))))
 (sOne (sAug hSub (psAug (i := 5) nd rfl (lo (sc := (defScope (top 21))) (by decide +kernel)) (dOp oMul hMul (mw (dN (pV vt 7))) (mw (dN (pV vt 9)))) iSub))))
 sNil)
 (sOne (sIf (PW.pt (wAnd (cCmp oLt hLt (mw (dN (pV vt 9))) (mw (dN (pV vt 8)))) (wAnd1 (cCmp oGt hGt (mw (dN (pV vt 5))) (sw dInt)))))
 (sSeq (sApp (i := 4) (ps_expr (peApp (pV vt 4) (paC (dTup (paC (ns (dListOf (pe_callTy cList (gl (sc := (defScope (top 21))) (by decide +kernel)) B.list PyProof.Rows.boot_list (pa_cons (dN (pV vt 6)) pa_nil)))) (paC (dF (pV vt 5)) (paC (dF (pV vt 9)) (paC (dF (pV vt 9)) pa0))))) pa0))))
 (sOne (sAs (ps_asg dInt (tgN (pg_name (i := 5) nd rfl (lo (sc := (defScope (top 21))) (by decide +kernel))))))))
 sNil)))))))
 (sOne (sRetO (pV vt 4))))))
theorem sc_fewest_turns : FnScope ["many","passages","start","goal","people","steps","turns","flow","plan"] ["many","passages","start","goal","people"] (defScope (top 19)):=⟨rfl,rfl,rfl,by decide +kernel,rfl,by decide +kernel,by decide +kernel⟩
theorem ok_fewest_turns {P : Program} {w : World} {K : PySem.W.Frag} {mg : Str → Option Value} {base : Heap} {f : Addr} {fd : FuncData} (F : Fun K "fewest_turns" "fewest_turns" (top 19) f fd) (B : Bl mg) (KT : Kits K) (Csteps_of : Cal P w K mg base 4 "steps_of" ["many", "passages", "start", "goal"] (spV K Pg.m_steps_of)) (Cturns_by : Cal P w K mg base 1 "turns_by" ["steps", "people"] (spV K Pg.m_turns_by)) (Cbest_flow : Cal P w K mg base 4 "best_flow" ["many", "passages", "start", "goal", "turns"] (spV K Pg.m_best_flow)) (Cplan_for : Cal P w K mg base 2 "plan_for" ["passages", "walks", "turns", "people"] (spV K Pg.m_plan_for)) (Cwalks_of : Cal P w K mg base 3 "walks_of" ["passages", "start", "goal", "flow"] (spV K Pg.m_walks_of)) (Cmoments_of : Cal P w K mg base 3 "moments_of" ["many", "passages", "start", "goal", "turns", "flow"] (spV K Pg.m_moments_of)) : FnOk P w K mg base CX0 5 f fd ["many", "passages", "start", "goal", "people"] (spV K Pg.m_fewest_turns) := by
  have nd := sc_fewest_turns.nd
  have vt := (show (["many", "passages", "start", "goal", "people", "steps", "turns", "flow", "plan"] : List Str).all (fun x => visB (defScope (top 19)) x && plain x) = true by decide +kernel)
  refine fnV (k := 4) (n := 5) (nN := 9) (g := Pg.g_fewest_turns) F sc_fewest_turns rfl rfl fun cdv A outer s H E hr => ?_
  exact (sSeq (sAs (ps_asg (dCal (peCal Csteps_of (hr.mono (by decide)) (gl (sc := (defScope (top 19))) (by decide +kernel)) (paC (dF (pV vt 0)) (paC (dF (pV vt 1)) (paC (dF (pV vt 2)) (paC (dF (pV vt 3)) pa0)))))) (tgN (pg_name (i := 5) nd rfl (lo (sc := (defScope (top 19))) (by decide +kernel))))))
 (sSeq (sIf (cNot (cTru (mw (dN (pV vt 5)))))
 (sOne (sRet dNone))
 sNil)
 (sSeq (sAs (ps_asg (dCal (peCal Cturns_by (hr.mono (by decide)) (gl (sc := (defScope (top 19))) (by decide +kernel)) (paC (dF (pV vt 5)) (paC (dF (pV vt 4)) pa0)))) (tgN (pg_name (i := 6) nd rfl (lo (sc := (defScope (top 19))) (by decide +kernel))))))
 (sSeq (sAs (ps_asg (dCal (peCal Cbest_flow (hr.mono (by decide)) (gl (sc := (defScope (top 19))) (by decide +kernel)) (paC (dF (pV vt 0)) (paC (dF (pV vt 1)) (paC (dF (pV vt 2)) (paC (dF (pV vt 3)) (paC (dF (pV vt 6)) pa0))))))) (tgN (pg_name (i := 7) nd rfl (lo (sc := (defScope (top 19))) (by decide +kernel))))))
 (sSeq (sAs (ps_asg (dCal (peCal Cplan_for (hr.mono (by decide)) (gl (sc := (defScope (top 19))) (by decide +kernel)) (paC (dF (pV vt 1)) (paC (dCal (peCal Cwalks_of (hr.mono (by decide)) (gl (sc := (defScope (top 19))) (by decide +kernel)) (paC (dF (pV vt 1)) (paC (dF (pV vt 2)) (paC (dF (pV vt 3)) (paC (dF (pV vt 7)) pa0)))))) (paC (dF (pV vt 6)) (paC (dF (pV vt 4)) pa0)))))) (tgN (pg_name (i := 8) nd rfl (lo (sc := (defScope (top 19))) (by decide +kernel))))))
 (sOne (sRet (dTup (paC (dF (pV vt 6)) (paC (dF (pV vt 8)) (paC (dCal (peCal Cmoments_of (hr.mono (by decide)) (gl (sc := (defScope (top 19))) (by decide +kernel)) (paC (dF (pV vt 0)) (paC (dF (pV vt 1)) (paC (dF (pV vt 2)) (paC (dF (pV vt 3)) (paC (dOp oSub hSub (mw (dN (pV vt 6))) (sw dInt)) (paC (dF (pV vt 7)) pa0)))))))) pa0)))))))))))
noncomputable def g__law_cell_at : VS :=
 (gSeq (gIf (vB (v2 ltD (vN 1) (vCB lenD (aC (vN 0) a0))))
 (gRet (v2 ixDt (vN 0) (vN 1)))
 gNop)
 (gRet (vC (.int 0))))
noncomputable def m__law_cell_at : FnM:=fnM 2 2 g__law_cell_at
theorem sc__law_cell_at : FnScope ["_law_script","_law_k"] ["_law_script","_law_k"] (defScope (top 23)):=⟨rfl,rfl,rfl,by decide +kernel,rfl,by decide +kernel,by decide +kernel⟩
theorem ok__law_cell_at {P : Program} {w : World} {K : PySem.W.Frag} {mg : Str → Option Value} {base : Heap} {f : Addr} {fd : FuncData} (F : Fun K "_law_cell_at" "_law_cell_at" (top 23) f fd) (B : Bl mg) (KT : Kits K)  : FnOk P w K mg base CX0 1 f fd ["_law_script", "_law_k"] (spV K m__law_cell_at) := by
  have nd := sc__law_cell_at.nd
  have vt := (show (["_law_script", "_law_k"] : List Str).all (fun x => visB (defScope (top 23)) x && plain x) = true by decide +kernel)
  refine fnV (k := 0) (n := 2) (nN := 2) (g := g__law_cell_at) F sc__law_cell_at rfl rfl fun cdv A outer s H E hr => ?_
  exact (sSeq (sIf (cCmp oLt hLt (mw (dN (pV vt 1))) (sw (dCB (pe_callB cLen (gl (sc := (defScope (top 23))) (by decide +kernel)) B.len PySem.boot_len (pwC (mw (dN (pV vt 0))) pw0)) hLen)))
 (sOne (sRet (dIx (dN (pV vt 0)) (mw (dN (pV vt 1))))))
 sNil)
 (sOne (sRet dInt)))
noncomputable def g__law_number : VS :=
 (gSeq (gIf (vB (v2 eqD (v2 modD (vN 0) (vC (.int 7))) (vC (.int 3))))
 (gRet (v2 addD (vC (.int 1)) (v2 modD (v2 divD (vN 0) (vC (.int 7))) (v2 powD (vC (.int 10)) (vC (.int 30))))))
 gNop)
 (gRet (v2 addD (vC (.int 1)) (v2 modD (v2 divD (vN 0) (vC (.int 7))) (vC (.int 6))))))
noncomputable def m__law_number : FnM:=fnM 1 1 g__law_number
theorem sc__law_number : FnScope ["_law_cell"] ["_law_cell"] (defScope (top 24)):=⟨rfl,rfl,rfl,by decide +kernel,rfl,by decide +kernel,by decide +kernel⟩
theorem ok__law_number {P : Program} {w : World} {K : PySem.W.Frag} {mg : Str → Option Value} {base : Heap} {f : Addr} {fd : FuncData} (F : Fun K "_law_number" "_law_number" (top 24) f fd) (B : Bl mg) (KT : Kits K)  : FnOk P w K mg base CX0 1 f fd ["_law_cell"] (spV K m__law_number) := by
  have nd := sc__law_number.nd
  have vt := (show (["_law_cell"] : List Str).all (fun x => visB (defScope (top 24)) x && plain x) = true by decide +kernel)
  refine fnV (k := 0) (n := 1) (nN := 1) (g := g__law_number) F sc__law_number rfl rfl fun cdv A outer s H E hr => ?_
  exact (sSeq (sIf (cCmp (op_eqD hr.units) hEq (sw (dOp oMod hMod (mw (dN (pV vt 0))) (sw dInt))) (sw dInt))
 (sOne (sRet (dOp oAdd hAdd (sw dInt) (sw (dOp oMod hMod (sw (dOp oDiv hDiv (mw (dN (pV vt 0))) (sw dInt))) (sw (dOp oPow hPow (sw dInt) (sw dInt))))))))
 sNil)
 (sOne (sRet (dOp oAdd hAdd (sw dInt) (sw (dOp oMod hMod (sw (dOp oDiv hDiv (mw (dN (pV vt 0))) (sw dInt))) (sw dInt)))))))
noncomputable def g__law_hall : VS :=
 (gSeq (gAs (v2 addD (vC (.int 2)) (v2 modD (vCall m__law_cell_at (aC (vF 0) (aC (vC (.int 0)) a0))) (vC (.int 5)))) (gN 1))
 (gSeq (gAs (v2 modD (vCall m__law_cell_at (aC (vF 0) (aC (vC (.int 1)) a0))) (vN 1)) (gN 2))
 (gSeq (gAs (v2 modD (v2 addD (v2 addD (vN 2) (vC (.int 1))) (v2 modD (v2 divD (vCall m__law_cell_at (aC (vF 0) (aC (vC (.int 1)) a0))) (vC (.int 6))) (v2 subD (vN 1) (vC (.int 1))))) (vN 1)) (gN 3))
 (gSeq (gOw 4 (vLst a0))
 (gSeq (gFor (vEnum (aC (vSlL (vN 0) (oI (vC (.int 4))) (oI (vC (.int 13)))) a0)) (gT 2 (gC (gN 5) (gC (gN 6) g0)))
 (gSeq (gAs (v2 modD (vN 6) (vN 1)) (gN 7))
 (gSeq (gAs (v2 modD (v2 addD (v2 addD (vN 7) (vC (.int 1))) (v2 modD (v2 divD (vN 6) (vC (.int 6))) (v2 subD (vN 1) (vC (.int 1))))) (vN 1)) (gN 8))
 (gSeq (gIf (tAnd2 (vB (v2 eqD (v2 modD (v2 divD (vCall m__law_cell_at (aC (vF 0) (aC (vC (.int 0)) a0))) (vC (.int 5))) (vC (.int 4))) (vC (.int 1)))) (vB (v2 ltD (vN 5) (v2 subD (vN 1) (vC (.int 1))))))
 (gSeq (gAs (v2 modD (v2 addD (vN 2) (vN 5)) (vN 1)) (gN 7))
 (gAs (v2 modD (v2 addD (v2 addD (vN 2) (vN 5)) (vC (.int 1))) (vN 1)) (gN 8)))
 gNop)
 (gApp 4 (aC (vTup (aC (vF 7) (aC (vF 8) (aC (vCall m__law_number (aC (v2 divD (vN 6) (vC (.int 30))) a0)) (aC (vCall m__law_number (aC (vCall m__law_cell_at (aC (vF 0) (aC (v2 addD (vC (.int 13)) (vN 5)) a0))) a0)) a0))))) a0))))))
 (gSeq (gFor (vEnum (aC (vSlL (vN 0) (oI (vC (.int 23))) (oI (vC (.int 63)))) a0)) (gT 2 (gC (gN 5) (gC (gN 6) g0)))
 (gIf (vB (v2 neD (vN 4) (vLst a0)))
 (gSeq (gAs (v2 ixDt (vN 4) (v2 modD (vN 5) (vCB lenD (aC (vN 4) a0)))) (gT 4 (gC (gN 7) (gC (gN 8) (gC (gN 9) (gC (gN 10) g0))))))
 (gPut 4 (v2 modD (vN 5) (vCB lenD (aC (vN 4) a0))) (vTup (aC (vF 7) (aC (vF 8) (aC (v2 addD (vN 9) (v2 modD (vN 6) (vC (.int 4)))) (aC (vF 10) a0)))))))
 gNop))
 (gFz 4 (gRet (vTup (aC (vF 1) (aC (vF 4) (aC (vF 2) (aC (vF 3) a0)))))))))))))
noncomputable def m__law_hall : FnM:=fnM 1 11 g__law_hall
theorem sc__law_hall : FnScope ["_law_script","_law_many","_law_start","_law_goal","_law_passages","_law_k","_law_cell","_law_a","_law_b","_law_width","_law_length"] ["_law_script"] (defScope (top 25)):=⟨rfl,rfl,rfl,by decide +kernel,rfl,by decide +kernel,by decide +kernel⟩
theorem ok__law_hall {P : Program} {w : World} {K : PySem.W.Frag} {mg : Str → Option Value} {base : Heap} {f : Addr} {fd : FuncData} (F : Fun K "_law_hall" "_law_hall" (top 25) f fd) (B : Bl mg) (KT : Kits K) (C_law_cell_at : Cal P w K mg base 1 "_law_cell_at" ["_law_script", "_law_k"] (spV K m__law_cell_at)) (C_law_number : Cal P w K mg base 1 "_law_number" ["_law_cell"] (spV K m__law_number)) : FnOk P w K mg base CX0 2 f fd ["_law_script"] (spV K m__law_hall) := by
  have nd := sc__law_hall.nd
  have vt := (show (["_law_script", "_law_many", "_law_start", "_law_goal", "_law_passages", "_law_k", "_law_cell", "_law_a", "_law_b", "_law_width", "_law_length"] : List Str).all (fun x => visB (defScope (top 25)) x && plain x) = true by decide +kernel)
  refine fnV (k := 1) (n := 1) (nN := 11) (g := g__law_hall) F sc__law_hall rfl rfl fun cdv A outer s H E hr => ?_
  exact (sSeq (sAs (ps_asg (dOp oAdd hAdd (sw dInt) (sw (dOp oMod hMod (sw (dCal (peCal C_law_cell_at (hr.mono (by decide)) (gl (sc := (defScope (top 25))) (by decide +kernel)) (paC (dF (pV vt 0)) (paC dInt pa0))))) (sw dInt)))) (tgN (pg_name (i := 1) nd rfl (lo (sc := (defScope (top 25))) (by decide +kernel))))))
 (sSeq (sAs (ps_asg (dOp oMod hMod (sw (dCal (peCal C_law_cell_at (hr.mono (by decide)) (gl (sc := (defScope (top 25))) (by decide +kernel)) (paC (dF (pV vt 0)) (paC dInt pa0))))) (mw (dN (pV vt 1)))) (tgN (pg_name (i := 2) nd rfl (lo (sc := (defScope (top 25))) (by decide +kernel))))))
 (sSeq (sAs (ps_asg (dOp oMod hMod (sw (dOp oAdd hAdd (sw (dOp oAdd hAdd (mw (dN (pV vt 2))) (sw dInt))) (sw (dOp oMod hMod (sw (dOp oDiv hDiv (sw (dCal (peCal C_law_cell_at (hr.mono (by decide)) (gl (sc := (defScope (top 25))) (by decide +kernel)) (paC (dF (pV vt 0)) (paC dInt pa0))))) (sw dInt))) (sw (dOp oSub hSub (mw (dN (pV vt 1))) (sw dInt))))))) (mw (dN (pV vt 1)))) (tgN (pg_name (i := 3) nd rfl (lo (sc := (defScope (top 25))) (by decide +kernel))))))
 (sSeq (sOw (i := 4) (ps_set nd rfl (lo (sc := (defScope (top 25))) (by decide +kernel)) (dLst pa0)))
 (sSeq (sFor (ps_for PassesOwn.never rfl (itE (pi_enum (gl (sc := (defScope (top 25))) (by decide +kernel)) B.enumerate (paC (ns (dSlL (dN (pV vt 0)) (poI (sw dInt)) (poI (sw dInt)))) pa0))) (tgT (n := 2) rfl (tgC (tgN (pg_name (i := 5) nd rfl (lo (sc := (defScope (top 25))) (by decide +kernel)))) (tgC (tgN (pg_name (i := 6) nd rfl (lo (sc := (defScope (top 25))) (by decide +kernel)))) tg0)))
 (sSeq (sAs (ps_asg (dOp oMod hMod (mw (dN (pV vt 6))) (mw (dN (pV vt 1)))) (tgN (pg_name (i := 7) nd rfl (lo (sc := (defScope (top 25))) (by decide +kernel))))))
 (sSeq (sAs (ps_asg (dOp oMod hMod (sw (dOp oAdd hAdd (sw (dOp oAdd hAdd (mw (dN (pV vt 7))) (sw dInt))) (sw (dOp oMod hMod (sw (dOp oDiv hDiv (mw (dN (pV vt 6))) (sw dInt))) (sw (dOp oSub hSub (mw (dN (pV vt 1))) (sw dInt))))))) (mw (dN (pV vt 1)))) (tgN (pg_name (i := 8) nd rfl (lo (sc := (defScope (top 25))) (by decide +kernel))))))
 (sSeq (sIf (PW.pt (wAnd (cCmp (op_eqD hr.units) hEq (sw (dOp oMod hMod (sw (dOp oDiv hDiv (sw (dCal (peCal C_law_cell_at (hr.mono (by decide)) (gl (sc := (defScope (top 25))) (by decide +kernel)) (paC (dF (pV vt 0)) (paC dInt pa0))))) (sw dInt))) (sw dInt))) (sw dInt)) (wAnd1 (cCmp oLt hLt (mw (dN (pV vt 5))) (sw (dOp oSub hSub (mw (dN (pV vt 1))) (sw dInt)))))))
 (sSeq (sAs (ps_asg (dOp oMod hMod (sw (dOp oAdd hAdd (mw (dN (pV vt 2))) (mw (dN (pV vt 5))))) (mw (dN (pV vt 1)))) (tgN (pg_name (i := 7) nd rfl (lo (sc := (defScope (top 25))) (by decide +kernel))))))
 (sOne (sAs (ps_asg (dOp oMod hMod (sw (dOp oAdd hAdd (sw (dOp oAdd hAdd (mw (dN (pV vt 2))) (mw (dN (pV vt 5))))) (sw dInt))) (mw (dN (pV vt 1)))) (tgN (pg_name (i := 8) nd rfl (lo (sc := (defScope (top 25))) (by decide +kernel))))))))
 sNil)
 (sOne (sApp (i := 4) (ps_expr (peApp (pV vt 4) (paC (dTup (paC (dF (pV vt 7)) (paC (dF (pV vt 8)) (paC (dCal (peCal C_law_number (hr.mono (by decide)) (gl (sc := (defScope (top 25))) (by decide +kernel)) (paC (dOp oDiv hDiv (mw (dN (pV vt 6))) (sw dInt)) pa0))) (paC (dCal (peCal C_law_number (hr.mono (by decide)) (gl (sc := (defScope (top 25))) (by decide +kernel)) (paC (dCal (peCal C_law_cell_at (hr.mono (by decide)) (gl (sc := (defScope (top 25))) (by decide +kernel)) (paC (dF (pV vt 0)) (paC (dOp oAdd hAdd (sw dInt) (mw (dN (pV vt 5)))) pa0)))) pa0))) pa0))))) pa0))))))))))
 (sSeq (sFor (ps_for PassesOwn.never rfl (itE (pi_enum (gl (sc := (defScope (top 25))) (by decide +kernel)) B.enumerate (paC (ns (dSlL (dN (pV vt 0)) (poI (sw dInt)) (poI (sw dInt)))) pa0))) (tgT (n := 2) rfl (tgC (tgN (pg_name (i := 5) nd rfl (lo (sc := (defScope (top 25))) (by decide +kernel)))) (tgC (tgN (pg_name (i := 6) nd rfl (lo (sc := (defScope (top 25))) (by decide +kernel)))) tg0)))
 (sOne (sIf (cCmp (op_neD hr.units) hNe (mw (dN (pV vt 4))) (nw (dLst pa0)))
 (sSeq (sAs (ps_asg (dIx (dN (pV vt 4)) (sw (dOp oMod hMod (mw (dN (pV vt 5))) (sw (dCB (pe_callB cLen (gl (sc := (defScope (top 25))) (by decide +kernel)) B.len PySem.boot_len (pwC (mw (dN (pV vt 4))) pw0)) hLen))))) (tgT (n := 4) rfl (tgC (tgN (pg_name (i := 7) nd rfl (lo (sc := (defScope (top 25))) (by decide +kernel)))) (tgC (tgN (pg_name (i := 8) nd rfl (lo (sc := (defScope (top 25))) (by decide +kernel)))) (tgC (tgN (pg_name (i := 9) nd rfl (lo (sc := (defScope (top 25))) (by decide +kernel)))) (tgC (tgN (pg_name (i := 10) nd rfl (lo (sc := (defScope (top 25))) (by decide +kernel)))) tg0)))))))
 (sOne (sPut (i := 4) (ps_asg (dTup (paC (dF (pV vt 7)) (paC (dF (pV vt 8)) (paC (dOp oAdd hAdd (mw (dN (pV vt 9))) (sw (dOp oMod hMod (mw (dN (pV vt 6))) (sw dInt)))) (paC (dF (pV vt 10)) pa0))))) (pg_sub (pV vt 4) (sw (dOp oMod hMod (mw (dN (pV vt 5))) (sw (dCB (pe_callB cLen (gl (sc := (defScope (top 25))) (by decide +kernel)) B.len PySem.boot_len (pwC (mw (dN (pV vt 4))) pw0)) hLen)))) setL)))))
 sNil))))
 (sOne (sFz (i := 4) (sRet (dTup (paC (dF (pV vt 1)) (paC (dF (pV vt 4)) (paC (dF (pV vt 2)) (paC (dF (pV vt 3)) pa0))))))))))))))
noncomputable def g__law_people : VS :=
 (gSeq (gAs (vCall m__law_cell_at (aC (vF 0) (aC (vC (.int 2)) a0))) (gN 5))
 (gSeq (gIf (vB (v2 eqD (v2 modD (vN 5) (vC (.int 3))) (vC (.int 1))))
 (gRet (v2 addD (vC (.int 1)) (v2 modD (v2 divD (vN 5) (vC (.int 3))) (v2 powD (vC (.int 10)) (vC (.int 40))))))
 gNop)
 (gSeq (gIf (vB (v2 eqD (v2 modD (vN 5) (vC (.int 3))) (vC (.int 2))))
 (gSeq (gAs (v2 modD (v2 divD (vN 5) (vC (.int 6))) (vC (.int 30))) (gN 6))
 (gRet (vCB max2D (aC (vC (.int 1)) (aC (v2 addD (v2 ixDt (vCall Pg.m_out_within (aC (vF 1) (aC (vF 2) (aC (vF 3) (aC (vF 4) (aC (vF 6) a0)))))) (vC (.int 0))) (v2 modD (v2 divD (vN 5) (vC (.int 3))) (vC (.int 2)))) a0)))))
 gNop)
 (gRet (v2 addD (vC (.int 1)) (v2 modD (v2 divD (vN 5) (vC (.int 3))) (vC (.int 40))))))))
noncomputable def m__law_people : FnM:=fnM 5 7 g__law_people
theorem sc__law_people : FnScope ["_law_script","_law_many","_law_passages","_law_start","_law_goal","_law_cell","_law_turns"] ["_law_script","_law_many","_law_passages","_law_start","_law_goal"] (defScope (top 26)):=⟨rfl,rfl,rfl,by decide +kernel,rfl,by decide +kernel,by decide +kernel⟩
theorem ok__law_people {P : Program} {w : World} {K : PySem.W.Frag} {mg : Str → Option Value} {base : Heap} {f : Addr} {fd : FuncData} (F : Fun K "_law_people" "_law_people" (top 26) f fd) (B : Bl mg) (KT : Kits K) (C_law_cell_at : Cal P w K mg base 1 "_law_cell_at" ["_law_script", "_law_k"] (spV K m__law_cell_at)) (Cout_within : Cal P w K mg base 5 "out_within" ["many", "passages", "start", "goal", "turns"] (spV K Pg.m_out_within)) : FnOk P w K mg base CX0 6 f fd ["_law_script", "_law_many", "_law_passages", "_law_start", "_law_goal"] (spV K m__law_people) := by
  have nd := sc__law_people.nd
  have vt := (show (["_law_script", "_law_many", "_law_passages", "_law_start", "_law_goal", "_law_cell", "_law_turns"] : List Str).all (fun x => visB (defScope (top 26)) x && plain x) = true by decide +kernel)
  refine fnV (k := 5) (n := 5) (nN := 7) (g := g__law_people) F sc__law_people rfl rfl fun cdv A outer s H E hr => ?_
  exact (sSeq (sAs (ps_asg (dCal (peCal C_law_cell_at (hr.mono (by decide)) (gl (sc := (defScope (top 26))) (by decide +kernel)) (paC (dF (pV vt 0)) (paC dInt pa0)))) (tgN (pg_name (i := 5) nd rfl (lo (sc := (defScope (top 26))) (by decide +kernel))))))
 (sSeq (sIf (cCmp (op_eqD hr.units) hEq (sw (dOp oMod hMod (mw (dN (pV vt 5))) (sw dInt))) (sw dInt))
 (sOne (sRet (dOp oAdd hAdd (sw dInt) (sw (dOp oMod hMod (sw (dOp oDiv hDiv (mw (dN (pV vt 5))) (sw dInt))) (sw (dOp oPow hPow (sw dInt) (sw dInt))))))))
 sNil)
 (sSeq (sIf (cCmp (op_eqD hr.units) hEq (sw (dOp oMod hMod (mw (dN (pV vt 5))) (sw dInt))) (sw dInt))
 (sSeq (sAs (ps_asg (dOp oMod hMod (sw (dOp oDiv hDiv (mw (dN (pV vt 5))) (sw dInt))) (sw dInt)) (tgN (pg_name (i := 6) nd rfl (lo (sc := (defScope (top 26))) (by decide +kernel))))))
 (sOne (sRet (dCB (pe_callB (call_max2 rfl) (gl (sc := (defScope (top 26))) (by decide +kernel)) B.max PyProof.Rows.boot_max (pwC (sw dInt) (pwC (sw (dOp oAdd hAdd (sw (dIx (sm (dCal (peCal Cout_within (hr.mono (by decide)) (gl (sc := (defScope (top 26))) (by decide +kernel)) (paC (dF (pV vt 1)) (paC (dF (pV vt 2)) (paC (dF (pV vt 3)) (paC (dF (pV vt 4)) (paC (dF (pV vt 6)) pa0)))))))) (sw dInt))) (sw (dOp oMod hMod (sw (dOp oDiv hDiv (mw (dN (pV vt 5))) (sw dInt))) (sw dInt))))) pw0))) hMax2))))
 sNil)
 (sOne (sRet (dOp oAdd hAdd (sw dInt) (sw (dOp oMod hMod (sw (dOp oDiv hDiv (mw (dN (pV vt 5))) (sw dInt))) (sw dInt)))))))))
noncomputable def g__law_leads : VS :=
 (gSeq (gOw 4 (vLC (vRng1 (aC (vN 0) a0)) [none, some 2] (gN 0) cTrue (v2 eqD (vN 0) (vN 1))))
 (gSeq (gFor (vRng1 (aC (vN 0) a0)) (gN 5)
 (gFor (vItems (vF 1)) (gT 4 (gC (gN 6) (gC (gN 7) (gC (gN 8) (gC (gN 9) g0)))))
 (gIf (vB (v2 ixDt (vN 4) (vN 6)))
 (gPut 4 (vN 7) (vC (.bool true)))
 gNop)))
 (gRet (v2 ixDt (vN 4) (vN 3)))))
noncomputable def m__law_leads : FnM:=fnM 4 10 g__law_leads
theorem sc__law_leads : FnScope ["_law_many","_law_passages","_law_start","_law_goal","_law_near","_law_time","_law_a","_law_b","_law_width","_law_length"] ["_law_many","_law_passages","_law_start","_law_goal"] (defScope (top 27)):=⟨rfl,rfl,rfl,by decide +kernel,rfl,by decide +kernel,by decide +kernel⟩
theorem ok__law_leads {P : Program} {w : World} {K : PySem.W.Frag} {mg : Str → Option Value} {base : Heap} {f : Addr} {fd : FuncData} (F : Fun K "_law_leads" "_law_leads" (top 27) f fd) (B : Bl mg) (KT : Kits K)  : FnOk P w K mg base CX0 1 f fd ["_law_many", "_law_passages", "_law_start", "_law_goal"] (spV K m__law_leads) := by
  have nd := sc__law_leads.nd
  have vt := (show (["_law_many", "_law_passages", "_law_start", "_law_goal", "_law_near", "_law_time", "_law_a", "_law_b", "_law_width", "_law_length"] : List Str).all (fun x => visB (defScope (top 27)) x && plain x) = true by decide +kernel)
  refine fnV (k := 0) (n := 4) (nN := 10) (g := g__law_leads) F sc__law_leads rfl rfl fun cdv A outer s H E hr => ?_
  exact (sSeq (sOw (tAsg_imp (ps_setLC (i := 4) nd rfl (lo (sc := (defScope (top 27))) (by decide +kernel)) (te := tV K RS _) (tc := tVT K _) (g := tVG K _ _) (N' := ["_law_room", "_law_start"]) (cap := [none, some 2]) ["_law_many", "_law_passages", "_law_start", "_law_goal", "_law_near", "_law_time", "_law_a", "_law_b", "_law_width", "_law_length"] (defScope (top 27)) rfl (by decide +kernel) rfl rfl (itR1 (pi_range1 (gl (sc := (defScope (top 27))) (by decide +kernel)) B.range (pwC (mw (dN (pV vt 0))) pw0))) (fun _ _ _ _ _ => (tgN (pgC (i := 0) (show (["_law_room", "_law_start"] : List Str).Nodup by decide +kernel) (by decide +kernel)))) (fun _ _ _ _ _ => ifN) (fun _ _ _ _ _ => (dCmp (op_eqD hr.units) hEq (mw (dN (pVc (by decide +kernel) 0))) (mw (dN (pVc (by decide +kernel) 1)))))) fun _ _ _ q => rdLC rfl q))
 (sSeq (sFor (ps_for PassesOwn.never rfl (itR1 (pi_range1 (gl (sc := (defScope (top 27))) (by decide +kernel)) B.range (pwC (mw (dN (pV vt 0))) pw0))) (tgN (pg_name (i := 5) nd rfl (lo (sc := (defScope (top 27))) (by decide +kernel))))
 (sOne (sFor (ps_for PassesOwn.never rfl (itL (dF (pV vt 1))) (tgT (n := 4) rfl (tgC (tgN (pg_name (i := 6) nd rfl (lo (sc := (defScope (top 27))) (by decide +kernel)))) (tgC (tgN (pg_name (i := 7) nd rfl (lo (sc := (defScope (top 27))) (by decide +kernel)))) (tgC (tgN (pg_name (i := 8) nd rfl (lo (sc := (defScope (top 27))) (by decide +kernel)))) (tgC (tgN (pg_name (i := 9) nd rfl (lo (sc := (defScope (top 27))) (by decide +kernel)))) tg0)))))
 (sOne (sIf (cVal (dIx (dN (pV vt 4)) (mw (dN (pV vt 6)))))
 (sOne (sPut (i := 4) (ps_asg dBool (pg_sub (pV vt 4) (mw (dN (pV vt 7))) setL))))
 sNil)))))))
 (sOne (sRet (dIx (dN (pV vt 4)) (mw (dN (pV vt 3))))))))
noncomputable def g__law_whole : VS :=
 (gRet (vAnd (vIsi "int" (vN 0)) (vNot (vIsi "bool" (vN 0)))))
noncomputable def m__law_whole : FnM:=fnM 1 1 g__law_whole
theorem sc__law_whole : FnScope ["_law_found"] ["_law_found"] (defScope (top 28)):=⟨rfl,rfl,rfl,by decide +kernel,rfl,by decide +kernel,by decide +kernel⟩
theorem ok__law_whole {P : Program} {w : World} {K : PySem.W.Frag} {mg : Str→Option Value} {base : Heap} {f : Addr} {fd : FuncData} (F : Fun K "_law_whole" "_law_whole" (top 28) f fd) (B : Bl mg) (KT : Kits K)  : FnOk P w K mg base CX0 1 f fd ["_law_found"] (spV K m__law_whole):=by
 have nd:=sc__law_whole.nd
 have vt:=(show (["_law_found"] : List Str).all (fun x=>visB (defScope (top 28)) x && plain x) = true by decide +kernel)
 refine fnV (k:=0) (n:=1) (nN:=1) (g:=g__law_whole) F sc__law_whole rfl rfl fun cdv A outer s H E hr=>?_
 exact (sOne (sRet (dAnd (dIsi KT.int (pe_callB cIsi (gl (sc:=(defScope (top 28))) (by decide +kernel)) B.isinstance PyProof.Rows.boot_isinstance (pa_cons (mw (dN (pV vt 0))) (pa_cons (pe_bltn (v:=.ty "int") (gl (sc:=(defScope (top 28))) (by decide +kernel)) B.int PyProof.Rows.boot_int rfl) pa_nil)))) (dOne (dNot (dIsi KT.bool (pe_callB cIsi (gl (sc:=(defScope (top 28))) (by decide +kernel)) B.isinstance PyProof.Rows.boot_isinstance (pa_cons (mw (dN (pV vt 0))) (pa_cons (pe_bltn (v:=.ty "bool") (gl (sc:=(defScope (top 28))) (by decide +kernel)) B.bool PyProof.Rows.boot_bool rfl) pa_nil)))))))))
noncomputable def g__law_walk : VS :=
 (gSeq (gIf (tOr2 (tNot2 (vB (vIsi "list" (vN 0)))) (tOr2 (vB (v2 eqD (vN 0) (vLst a0))) (vB (v2 neD (vSetLen (vN 0)) (vCB lenD (aC (vN 0) a0))))))
 (gRet (vC .none))
 gNop)
 (gSeq (gAs (vF 2) (gN 4))
 (gSeq (gAs (vC (.int 0)) (gN 5))
 (gSeq (gFor (vItems (vF 0)) (gN 6)
 (gSeq (gIf (tOr2 (tNot2 (vB (vCall m__law_whole (aC (vF 6) a0)))) (tOr2 (vB (v2 ltD (vN 6) (vC (.int 0)))) (tOr2 (vB (v2 geD (vN 6) (vCB lenD (aC (vN 1) a0)))) (vB (v2 neD (v2 ixDt (v2 ixDt (vN 1) (vN 6)) (vC (.int 0))) (vN 4))))))
 (gRet (vC .none))
 gNop)
 (gSeq (gAs (v2 ixDt (v2 ixDt (vN 1) (vN 6)) (vC (.int 1))) (gN 4))
 (gAs (v2 addD (vN 5) (v2 ixDt (v2 ixDt (vN 1) (vN 6)) (vC (.int 3)))) (gN 5)))))
 (gSeq (gIf (vB (v2 neD (vN 4) (vN 3)))
 (gRet (vC .none))
 gNop)
 (gRetO 5))))))
noncomputable def m__law_walk : FnM:=fnM 4 7 g__law_walk
theorem sc__law_walk : FnScope ["_law_walk_here","_law_passages","_law_start","_law_goal","_law_room","_law_length","_law_number_here"] ["_law_walk_here","_law_passages","_law_start","_law_goal"] (defScope (top 29)):=⟨rfl,rfl,rfl,by decide +kernel,rfl,by decide +kernel,by decide +kernel⟩
theorem ok__law_walk {P : Program} {w : World} {K : PySem.W.Frag} {mg : Str → Option Value} {base : Heap} {f : Addr} {fd : FuncData} (F : Fun K "_law_walk" "_law_walk" (top 29) f fd) (B : Bl mg) (KT : Kits K) (C_law_whole : Cal P w K mg base 1 "_law_whole" ["_law_found"] (spV K m__law_whole)) : FnOk P w K mg base CX0 2 f fd ["_law_walk_here", "_law_passages", "_law_start", "_law_goal"] (spV K m__law_walk) := by
  have nd := sc__law_walk.nd
  have vt := (show (["_law_walk_here", "_law_passages", "_law_start", "_law_goal", "_law_room", "_law_length", "_law_number_here"] : List Str).all (fun x => visB (defScope (top 29)) x && plain x) = true by decide +kernel)
  refine fnV (k := 1) (n := 4) (nN := 7) (g := g__law_walk) F sc__law_walk rfl rfl fun cdv A outer s H E hr => ?_
  exact (sSeq (sIf (PW.pt (wOr (cNot (cVal (dIsi KT.list (pe_callB cIsi (gl (sc := (defScope (top 29))) (by decide +kernel)) B.isinstance PyProof.Rows.boot_isinstance (pa_cons (mw (dN (pV vt 0))) (pa_cons (pe_bltn (v := .ty "list") (gl (sc := (defScope (top 29))) (by decide +kernel)) B.list PyProof.Rows.boot_list rfl) pa_nil)))))) (wOr (cCmp (op_eqD hr.units) hEq (mw (dN (pV vt 0))) (nw (dLst pa0))) (wOr1 (cCmp (op_neD hr.units) hNe (sw (dSetLen (pe_callB cLenSet (gl (sc := (defScope (top 29))) (by decide +kernel)) B.len PySem.boot_len (pa_cons (pe_callTy (cSetOf rfl) (gl (sc := (defScope (top 29))) (by decide +kernel)) B.set PyProof.Rows.boot_set (pa_cons (dN (pV vt 0)) pa_nil)) pa_nil)))) (sw (dCB (pe_callB cLen (gl (sc := (defScope (top 29))) (by decide +kernel)) B.len PySem.boot_len (pwC (mw (dN (pV vt 0))) pw0)) hLen)))))))
 (sOne (sRet dNone))
 sNil)
 (sSeq (sAs (ps_asg (dF (pV vt 2)) (tgN (pg_name (i := 4) nd rfl (lo (sc := (defScope (top 29))) (by decide +kernel))))))
 (sSeq (sAs (ps_asg dInt (tgN (pg_name (i := 5) nd rfl (lo (sc := (defScope (top 29))) (by decide +kernel))))))
 (sSeq (sFor (ps_for PassesOwn.never rfl (itL (dF (pV vt 0))) (tgN (pg_name (i := 6) nd rfl (lo (sc := (defScope (top 29))) (by decide +kernel))))
 (sSeq (sIf (PW.pt (wOr (cNot (cVal (dCal (peCal C_law_whole (hr.mono (by decide)) (gl (sc := (defScope (top 29))) (by decide +kernel)) (paC (dF (pV vt 6)) pa0))))) (wOr (cCmp oLt hLt (mw (dN (pV vt 6))) (sw dInt)) (wOr (cCmp oGe hGe (mw (dN (pV vt 6))) (sw (dCB (pe_callB cLen (gl (sc := (defScope (top 29))) (by decide +kernel)) B.len PySem.boot_len (pwC (mw (dN (pV vt 1))) pw0)) hLen))) (wOr1 (cCmp (op_neD hr.units) hNe (sw (dIx (sm (dIx (dN (pV vt 1)) (mw (dN (pV vt 6))))) (sw dInt))) (mw (dN (pV vt 4)))))))))
 (sOne (sRet dNone))
 sNil)
 (sSeq (sAs (ps_asg (dIx (sm (dIx (dN (pV vt 1)) (mw (dN (pV vt 6))))) (sw dInt)) (tgN (pg_name (i := 4) nd rfl (lo (sc := (defScope (top 29))) (by decide +kernel))))))
 (sOne (sAs (ps_asg (dOp oAdd hAdd (mw (dN (pV vt 5))) (sw (dIx (sm (dIx (dN (pV vt 1)) (mw (dN (pV vt 6))))) (sw dInt)))) (tgN (pg_name (i := 5) nd rfl (lo (sc := (defScope (top 29))) (by decide +kernel)))))))))))
 (sSeq (sIf (cCmp (op_neD hr.units) hNe (mw (dN (pV vt 4))) (mw (dN (pV vt 3))))
 (sOne (sRet dNone))
 sNil)
 (sOne (sRetO (pV vt 5))))))))
noncomputable def g__law_rows : VS :=
 (gSeq (gIf (tNot2 (vB (vIsi "list" (vN 0))))
 (gRet (vC .none))
 gNop)
 (gSeq (gOw 5 (vLst a0))
 (gSeq (gAs (vC (.int 0)) (gN 6))
 (gSeq (gFor (vItems (vF 0)) (gN 7)
 (gSeq (gIf (tOr2 (tNot2 (vB (vIsi "tuple" (vN 7)))) (vB (v2 neD (vCB lenD (aC (vN 7) a0)) (vC (.int 4)))))
 (gRet (vC .none))
 gNop)
 (gSeq (gAs (vF 7) (gT 4 (gC (gN 8) (gC (gN 9) (gC (gN 10) (gC (gN 11) g0))))))
 (gSeq (gAs (vCall m__law_walk (aC (vF 8) (aC (vF 1) (aC (vF 2) (aC (vF 3) a0))))) (gN 12))
 (gSeq (gIf (tOr2 (vB (v2 isD (vN 12) (vC .none))) (tOr2 (tNot2 (vB (vCall m__law_whole (aC (vF 9) a0)))) (tOr2 (tNot2 (vB (vCall m__law_whole (aC (vF 10) a0)))) (tNot2 (vB (vCall m__law_whole (aC (vF 11) a0)))))))
 (gRet (vC .none))
 gNop)
 (gSeq (gIf (tOr2 (vB (v2 ltD (vN 9) (vC (.int 1)))) (tOr2 (vB (v2 ltD (vN 10) (vC (.int 0)))) (tOr2 (vB (v2 ltD (vN 11) (vN 10))) (vB (v2 gtD (v2 addD (vN 11) (vN 12)) (vN 4))))))
 (gRet (vC .none))
 gNop)
 (gSeq (gAs (v2 addD (vN 6) (v2 mulD (vN 9) (v2 addD (v2 subD (vN 11) (vN 10)) (vC (.int 1))))) (gN 6))
 (gSeq (gAs (vC (.int 0)) (gN 13))
 (gFor (vItems (vF 8)) (gN 14)
 (gSeq (gApp 5 (aC (vTup (aC (vF 14) (aC (vF 9) (aC (v2 addD (vN 10) (vN 13)) (aC (v2 addD (vN 11) (vN 13)) a0))))) a0))
 (gAs (v2 addD (vN 13) (v2 ixDt (v2 ixDt (vN 1) (vN 14)) (vC (.int 3)))) (gN 13))))))))))))
 (gFz 5 (gRet (vTup (aC (vF 6) (aC (vF 5) a0)))))))))
noncomputable def m__law_rows : FnM:=fnM 5 15 g__law_rows
theorem sc__law_rows : FnScope ["_law_plan","_law_passages","_law_start","_law_goal","_law_turns","_law_rows_here","_law_people_here","_law_one","_law_walk_here","_law_number_here","_law_first","_law_last","_law_length","_law_at","_law_k"] ["_law_plan","_law_passages","_law_start","_law_goal","_law_turns"] (defScope (top 30)):=⟨rfl,rfl,rfl,by decide +kernel,rfl,by decide +kernel,by decide +kernel⟩
theorem ok__law_rows {P : Program} {w : World} {K : PySem.W.Frag} {mg : Str → Option Value} {base : Heap} {f : Addr} {fd : FuncData} (F : Fun K "_law_rows" "_law_rows" (top 30) f fd) (B : Bl mg) (KT : Kits K) (C_law_walk : Cal P w K mg base 2 "_law_walk" ["_law_walk_here", "_law_passages", "_law_start", "_law_goal"] (spV K m__law_walk)) (C_law_whole : Cal P w K mg base 1 "_law_whole" ["_law_found"] (spV K m__law_whole)) : FnOk P w K mg base CX0 3 f fd ["_law_plan", "_law_passages", "_law_start", "_law_goal", "_law_turns"] (spV K m__law_rows) := by
  have nd := sc__law_rows.nd
  have vt := (show (["_law_plan", "_law_passages", "_law_start", "_law_goal", "_law_turns", "_law_rows_here", "_law_people_here", "_law_one", "_law_walk_here", "_law_number_here", "_law_first", "_law_last", "_law_length", "_law_at", "_law_k"] : List Str).all (fun x => visB (defScope (top 30)) x && plain x) = true by decide +kernel)
  refine fnV (k := 2) (n := 5) (nN := 15) (g := g__law_rows) F sc__law_rows rfl rfl fun cdv A outer s H E hr => ?_
  exact (sSeq (sIf (cNot (cVal (dIsi KT.list (pe_callB cIsi (gl (sc := (defScope (top 30))) (by decide +kernel)) B.isinstance PyProof.Rows.boot_isinstance (pa_cons (mw (dN (pV vt 0))) (pa_cons (pe_bltn (v := .ty "list") (gl (sc := (defScope (top 30))) (by decide +kernel)) B.list PyProof.Rows.boot_list rfl) pa_nil))))))
 (sOne (sRet dNone))
 sNil)
 (sSeq (sOw (i := 5) (ps_set nd rfl (lo (sc := (defScope (top 30))) (by decide +kernel)) (dLst pa0)))
 (sSeq (sAs (ps_asg dInt (tgN (pg_name (i := 6) nd rfl (lo (sc := (defScope (top 30))) (by decide +kernel))))))
 (sSeq (sFor (ps_for PassesOwn.never rfl (itL (dF (pV vt 0))) (tgN (pg_name (i := 7) nd rfl (lo (sc := (defScope (top 30))) (by decide +kernel))))
 (sSeq (sIf (PW.pt (wOr (cNot (cVal (dIsi KT.tuple (pe_callB cIsi (gl (sc := (defScope (top 30))) (by decide +kernel)) B.isinstance PyProof.Rows.boot_isinstance (pa_cons (mw (dN (pV vt 7))) (pa_cons (pe_bltn (v := .ty "tuple") (gl (sc := (defScope (top 30))) (by decide +kernel)) B.tuple PyProof.Rows.boot_tuple rfl) pa_nil)))))) (wOr1 (cCmp (op_neD hr.units) hNe (sw (dCB (pe_callB cLen (gl (sc := (defScope (top 30))) (by decide +kernel)) B.len PySem.boot_len (pwC (mw (dN (pV vt 7))) pw0)) hLen)) (sw dInt)))))
 (sOne (sRet dNone))
 sNil)
 (sSeq (sAs (ps_asg (dF (pV vt 7)) (tgT (n := 4) rfl (tgC (tgN (pg_name (i := 8) nd rfl (lo (sc := (defScope (top 30))) (by decide +kernel)))) (tgC (tgN (pg_name (i := 9) nd rfl (lo (sc := (defScope (top 30))) (by decide +kernel)))) (tgC (tgN (pg_name (i := 10) nd rfl (lo (sc := (defScope (top 30))) (by decide +kernel)))) (tgC (tgN (pg_name (i := 11) nd rfl (lo (sc := (defScope (top 30))) (by decide +kernel)))) tg0)))))))
 (sSeq (sAs (ps_asg (dCal (peCal C_law_walk (hr.mono (by decide)) (gl (sc := (defScope (top 30))) (by decide +kernel)) (paC (dF (pV vt 8)) (paC (dF (pV vt 1)) (paC (dF (pV vt 2)) (paC (dF (pV vt 3)) pa0)))))) (tgN (pg_name (i := 12) nd rfl (lo (sc := (defScope (top 30))) (by decide +kernel))))))
 (sSeq (sIf (PW.pt (wOr (cCmp oIsN hIs (mw (dN (pV vt 12))) (sw dNone)) (wOr (cNot (cVal (dCal (peCal C_law_whole (hr.mono (by decide)) (gl (sc := (defScope (top 30))) (by decide +kernel)) (paC (dF (pV vt 9)) pa0))))) (wOr (cNot (cVal (dCal (peCal C_law_whole (hr.mono (by decide)) (gl (sc := (defScope (top 30))) (by decide +kernel)) (paC (dF (pV vt 10)) pa0))))) (wOr1 (cNot (cVal (dCal (peCal C_law_whole (hr.mono (by decide)) (gl (sc := (defScope (top 30))) (by decide +kernel)) (paC (dF (pV vt 11)) pa0))))))))))
 (sOne (sRet dNone))
 sNil)
 (sSeq (sIf (PW.pt (wOr (cCmp oLt hLt (mw (dN (pV vt 9))) (sw dInt)) (wOr (cCmp oLt hLt (mw (dN (pV vt 10))) (sw dInt)) (wOr (cCmp oLt hLt (mw (dN (pV vt 11))) (mw (dN (pV vt 10)))) (wOr1 (cCmp oGt hGt (sw (dOp oAdd hAdd (mw (dN (pV vt 11))) (mw (dN (pV vt 12))))) (mw (dN (pV vt 4)))))))))
 (sOne (sRet dNone))
 sNil)
 (sSeq (sAs (ps_asg (dOp oAdd hAdd (mw (dN (pV vt 6))) (sw (dOp oMul hMul (mw (dN (pV vt 9))) (sw (dOp oAdd hAdd (sw (dOp oSub hSub (mw (dN (pV vt 11))) (mw (dN (pV vt 10))))) (sw dInt)))))) (tgN (pg_name (i := 6) nd rfl (lo (sc := (defScope (top 30))) (by decide +kernel))))))
 (sSeq (sAs (ps_asg dInt (tgN (pg_name (i := 13) nd rfl (lo (sc := (defScope (top 30))) (by decide +kernel))))))
 (sOne (sFor (ps_for PassesOwn.never rfl (itL (dF (pV vt 8))) (tgN (pg_name (i := 14) nd rfl (lo (sc := (defScope (top 30))) (by decide +kernel))))
 (sSeq (sApp (i := 5) (ps_expr (peApp (pV vt 5) (paC (dTup (paC (dF (pV vt 14)) (paC (dF (pV vt 9)) (paC (dOp oAdd hAdd (mw (dN (pV vt 10))) (mw (dN (pV vt 13)))) (paC (dOp oAdd hAdd (mw (dN (pV vt 11))) (mw (dN (pV vt 13)))) pa0))))) pa0))))
 (sOne (sAs (ps_asg (dOp oAdd hAdd (mw (dN (pV vt 13))) (sw (dIx (sm (dIx (dN (pV vt 1)) (mw (dN (pV vt 14))))) (sw dInt)))) (tgN (pg_name (i := 13) nd rfl (lo (sc := (defScope (top 30))) (by decide +kernel))))))))))))))))))))
 (sOne (sFz (i := 5) (sRet (dTup (paC (dF (pV vt 6)) (paC (dF (pV vt 5)) pa0))))))))))
noncomputable def g__law_fits : VS :=
 (gSeq (gFor (vItems (vF 0)) (gT 4 (gC (gN 2) (gC (gN 3) (gC (gN 4) (gC (gN 5) g0)))))
 (gSeq (gAs (vC (.int 0)) (gN 6))
 (gSeq (gFor (vItems (vF 0)) (gT 4 (gC (gN 7) (gC (gN 8) (gC (gN 9) (gC (gN 10) g0)))))
 (gIf (tAnd2 (vB (v2 eqD (vN 7) (vN 2))) (tAnd2 (vB (v2 leD (vN 9) (vN 4))) (vB (v2 leD (vN 4) (vN 10)))))
 (gAs (v2 addD (vN 6) (vN 8)) (gN 6))
 gNop))
 (gIf (vB (v2 gtD (vN 6) (v2 ixDt (v2 ixDt (vN 1) (vN 2)) (vC (.int 2)))))
 (gRet (vC (.bool false)))
 gNop))))
 (gRet (vC (.bool true))))
noncomputable def m__law_fits : FnM:=fnM 2 11 g__law_fits
theorem sc__law_fits : FnScope ["_law_rows_here","_law_passages","_law_k","_law_number_here","_law_first","_law_last","_law_total","_law_other","_law_more","_law_begun","_law_ended"] ["_law_rows_here","_law_passages"] (defScope (top 31)):=⟨rfl,rfl,rfl,by decide +kernel,rfl,by decide +kernel,by decide +kernel⟩
theorem ok__law_fits {P : Program} {w : World} {K : PySem.W.Frag} {mg : Str → Option Value} {base : Heap} {f : Addr} {fd : FuncData} (F : Fun K "_law_fits" "_law_fits" (top 31) f fd) (B : Bl mg) (KT : Kits K)  : FnOk P w K mg base CX0 1 f fd ["_law_rows_here", "_law_passages"] (spV K m__law_fits) := by
  have nd := sc__law_fits.nd
  have vt := (show (["_law_rows_here", "_law_passages", "_law_k", "_law_number_here", "_law_first", "_law_last", "_law_total", "_law_other", "_law_more", "_law_begun", "_law_ended"] : List Str).all (fun x => visB (defScope (top 31)) x && plain x) = true by decide +kernel)
  refine fnV (k := 0) (n := 2) (nN := 11) (g := g__law_fits) F sc__law_fits rfl rfl fun cdv A outer s H E hr => ?_
  exact (sSeq (sFor (ps_for PassesOwn.never rfl (itL (dF (pV vt 0))) (tgT (n := 4) rfl (tgC (tgN (pg_name (i := 2) nd rfl (lo (sc := (defScope (top 31))) (by decide +kernel)))) (tgC (tgN (pg_name (i := 3) nd rfl (lo (sc := (defScope (top 31))) (by decide +kernel)))) (tgC (tgN (pg_name (i := 4) nd rfl (lo (sc := (defScope (top 31))) (by decide +kernel)))) (tgC (tgN (pg_name (i := 5) nd rfl (lo (sc := (defScope (top 31))) (by decide +kernel)))) tg0)))))
 (sSeq (sAs (ps_asg dInt (tgN (pg_name (i := 6) nd rfl (lo (sc := (defScope (top 31))) (by decide +kernel))))))
 (sSeq (sFor (ps_for PassesOwn.never rfl (itL (dF (pV vt 0))) (tgT (n := 4) rfl (tgC (tgN (pg_name (i := 7) nd rfl (lo (sc := (defScope (top 31))) (by decide +kernel)))) (tgC (tgN (pg_name (i := 8) nd rfl (lo (sc := (defScope (top 31))) (by decide +kernel)))) (tgC (tgN (pg_name (i := 9) nd rfl (lo (sc := (defScope (top 31))) (by decide +kernel)))) (tgC (tgN (pg_name (i := 10) nd rfl (lo (sc := (defScope (top 31))) (by decide +kernel)))) tg0)))))
 (sOne (sIf (PW.pt (wAnd (cCmp (op_eqD hr.units) hEq (mw (dN (pV vt 7))) (mw (dN (pV vt 2)))) (wAnd (cCmp oLe hLe (mw (dN (pV vt 9))) (mw (dN (pV vt 4)))) (wAnd1 (cCmp oLe hLe (mw (dN (pV vt 4))) (mw (dN (pV vt 10))))))))
 (sOne (sAs (ps_asg (dOp oAdd hAdd (mw (dN (pV vt 6))) (mw (dN (pV vt 8)))) (tgN (pg_name (i := 6) nd rfl (lo (sc := (defScope (top 31))) (by decide +kernel)))))))
 sNil))))
 (sOne (sIf (cCmp oGt hGt (mw (dN (pV vt 6))) (sw (dIx (sm (dIx (dN (pV vt 1)) (mw (dN (pV vt 2))))) (sw dInt))))
 (sOne (sRet dBool))
 sNil))))))
 (sOne (sRet dBool)))
noncomputable def g__law_moments : VS :=
 (gSeq (gIf (tOr2 (tNot2 (vB (vIsi "list" (vN 0)))) (tOr2 (vB (v2 neD (vCB lenD (aC (vN 0) a0)) (vN 1))) (tOr2 (vB (v2 neD (v2 ixDt (vN 0) (vN 3)) (vC (.int 0)))) (vB (v2 neD (v2 ixDt (vN 0) (vN 4)) (vN 5))))))
 (gRet (vC (.bool false)))
 gNop)
 (gSeq (gFor (vItems (vF 0)) (gN 7)
 (gIf (tOr2 (tNot2 (vB (vCall m__law_whole (aC (vF 7) a0)))) (tOr2 (vB (v2 ltD (vN 7) (vC (.int 0)))) (vB (v2 gtD (vN 7) (vN 5)))))
 (gRet (vC (.bool false)))
 gNop))
 (gSeq (gAs (vC (.int 0)) (gN 8))
 (gSeq (gFor (vItems (vF 2)) (gT 4 (gC (gN 9) (gC (gN 10) (gC (gN 11) (gC (gN 12) g0)))))
 (gAs (v2 addD (vN 8) (v2 mulD (vN 11) (vCB max2D (aC (vC (.int 0)) (aC (v2 subD (v2 subD (v2 ixDt (vN 0) (vN 10)) (v2 ixDt (vN 0) (vN 9))) (vN 12)) a0))))) (gN 8)))
 (gRet (v2 ltD (vN 8) (vN 6)))))))
noncomputable def m__law_moments : FnM:=fnM 7 13 g__law_moments
theorem sc__law_moments : FnScope ["_law_moments_here","_law_many","_law_passages","_law_start","_law_goal","_law_turns","_law_people_here","_law_moment","_law_bound","_law_a","_law_b","_law_width","_law_length"] ["_law_moments_here","_law_many","_law_passages","_law_start","_law_goal","_law_turns","_law_people_here"] (defScope (top 32)):=⟨rfl,rfl,rfl,by decide +kernel,rfl,by decide +kernel,by decide +kernel⟩
theorem ok__law_moments {P : Program} {w : World} {K : PySem.W.Frag} {mg : Str → Option Value} {base : Heap} {f : Addr} {fd : FuncData} (F : Fun K "_law_moments" "_law_moments" (top 32) f fd) (B : Bl mg) (KT : Kits K) (C_law_whole : Cal P w K mg base 1 "_law_whole" ["_law_found"] (spV K m__law_whole)) : FnOk P w K mg base CX0 2 f fd ["_law_moments_here", "_law_many", "_law_passages", "_law_start", "_law_goal", "_law_turns", "_law_people_here"] (spV K m__law_moments) := by
  have nd := sc__law_moments.nd
  have vt := (show (["_law_moments_here", "_law_many", "_law_passages", "_law_start", "_law_goal", "_law_turns", "_law_people_here", "_law_moment", "_law_bound", "_law_a", "_law_b", "_law_width", "_law_length"] : List Str).all (fun x => visB (defScope (top 32)) x && plain x) = true by decide +kernel)
  refine fnV (k := 1) (n := 7) (nN := 13) (g := g__law_moments) F sc__law_moments rfl rfl fun cdv A outer s H E hr => ?_
  exact (sSeq (sIf (PW.pt (wOr (cNot (cVal (dIsi KT.list (pe_callB cIsi (gl (sc := (defScope (top 32))) (by decide +kernel)) B.isinstance PyProof.Rows.boot_isinstance (pa_cons (mw (dN (pV vt 0))) (pa_cons (pe_bltn (v := .ty "list") (gl (sc := (defScope (top 32))) (by decide +kernel)) B.list PyProof.Rows.boot_list rfl) pa_nil)))))) (wOr (cCmp (op_neD hr.units) hNe (sw (dCB (pe_callB cLen (gl (sc := (defScope (top 32))) (by decide +kernel)) B.len PySem.boot_len (pwC (mw (dN (pV vt 0))) pw0)) hLen)) (mw (dN (pV vt 1)))) (wOr (cCmp (op_neD hr.units) hNe (sw (dIx (dN (pV vt 0)) (mw (dN (pV vt 3))))) (sw dInt)) (wOr1 (cCmp (op_neD hr.units) hNe (sw (dIx (dN (pV vt 0)) (mw (dN (pV vt 4))))) (mw (dN (pV vt 5)))))))))
 (sOne (sRet dBool))
 sNil)
 (sSeq (sFor (ps_for PassesOwn.never rfl (itL (dF (pV vt 0))) (tgN (pg_name (i := 7) nd rfl (lo (sc := (defScope (top 32))) (by decide +kernel))))
 (sOne (sIf (PW.pt (wOr (cNot (cVal (dCal (peCal C_law_whole (hr.mono (by decide)) (gl (sc := (defScope (top 32))) (by decide +kernel)) (paC (dF (pV vt 7)) pa0))))) (wOr (cCmp oLt hLt (mw (dN (pV vt 7))) (sw dInt)) (wOr1 (cCmp oGt hGt (mw (dN (pV vt 7))) (mw (dN (pV vt 5))))))))
 (sOne (sRet dBool))
 sNil))))
 (sSeq (sAs (ps_asg dInt (tgN (pg_name (i := 8) nd rfl (lo (sc := (defScope (top 32))) (by decide +kernel))))))
 (sSeq (sFor (ps_for PassesOwn.never rfl (itL (dF (pV vt 2))) (tgT (n := 4) rfl (tgC (tgN (pg_name (i := 9) nd rfl (lo (sc := (defScope (top 32))) (by decide +kernel)))) (tgC (tgN (pg_name (i := 10) nd rfl (lo (sc := (defScope (top 32))) (by decide +kernel)))) (tgC (tgN (pg_name (i := 11) nd rfl (lo (sc := (defScope (top 32))) (by decide +kernel)))) (tgC (tgN (pg_name (i := 12) nd rfl (lo (sc := (defScope (top 32))) (by decide +kernel)))) tg0)))))
 (sOne (sAs (ps_asg (dOp oAdd hAdd (mw (dN (pV vt 8))) (sw (dOp oMul hMul (mw (dN (pV vt 11))) (sw (dCB (pe_callB (call_max2 rfl) (gl (sc := (defScope (top 32))) (by decide +kernel)) B.max PyProof.Rows.boot_max (pwC (sw dInt) (pwC (sw (dOp oSub hSub (sw (dOp oSub hSub (sw (dIx (dN (pV vt 0)) (mw (dN (pV vt 10))))) (sw (dIx (dN (pV vt 0)) (mw (dN (pV vt 9))))))) (mw (dN (pV vt 12))))) pw0))) hMax2))))) (tgN (pg_name (i := 8) nd rfl (lo (sc := (defScope (top 32))) (by decide +kernel)))))))))
 (sOne (sRet (dCmp oLt hLt (mw (dN (pV vt 8))) (mw (dN (pV vt 6))))))))))
noncomputable def g_law : VS :=
 (gSeq (gAs (vCall m__law_hall (aC (vF 0) a0)) (gT 4 (gC (gN 1) (gC (gN 2) (gC (gN 3) (gC (gN 4) g0))))))
 (gSeq (gAs (vListOf (vN 2)) (gN 5))
 (gSeq (gAs (vCall m__law_people (aC (vF 0) (aC (vF 1) (aC (vF 5) (aC (vF 3) (aC (vF 4) a0)))))) (gN 6))
 (gTrashD [false, true, true, true, true, true, true, false, false, false, false]
 (gSeq (gAs (vCall Pg.m_fewest_turns (aC (vF 1) (aC (vF 5) (aC (vF 3) (aC (vF 4) (aC (vF 6) a0)))))) (gN 7))
 (gSeq (gIf (vB (v2 neD (vN 5) (vN 2)))
 (gRet (vC (.bool false)))
 gNop)
 (gSeq (gIf (tNot2 (vB (vCall m__law_leads (aC (vF 1) (aC (vF 2) (aC (vF 3) (aC (vF 4) a0)))))))
 (gRet (v2 isD (vN 7) (vC .none)))
 gNop)
 (gSeq (gIf (tOr2 (tNot2 (vB (vIsi "tuple" (vN 7)))) (tOr2 (vB (v2 neD (vCB lenD (aC (vN 7) a0)) (vC (.int 3)))) (tOr2 (tNot2 (vB (vCall m__law_whole (aC (v2 ixDt (vN 7) (vC (.int 0))) a0)))) (vB (v2 ltD (v2 ixDt (vN 7) (vC (.int 0))) (vC (.int 1)))))))
 (gRet (vC (.bool false)))
 gNop)
 (gSeq (gAs (vCall m__law_rows (aC (v2 ixDt (vN 7) (vC (.int 1))) (aC (vF 2) (aC (vF 3) (aC (vF 4) (aC (v2 ixDt (vN 7) (vC (.int 0))) a0)))))) (gN 8))
 (gSeq (gIf (tOr2 (vB (v2 isD (vN 8) (vC .none))) (tOr2 (vB (v2 neD (v2 ixDt (vN 8) (vC (.int 0))) (vN 6))) (tNot2 (vB (vCall m__law_fits (aC (v2 ixDt (vN 8) (vC (.int 1))) (aC (vF 2) a0)))))))
 (gRet (vC (.bool false)))
 gNop)
 (gSeq (gIf (tNot2 (vB (vCall m__law_moments (aC (v2 ixDt (vN 7) (vC (.int 2))) (aC (vF 1) (aC (vF 2) (aC (vF 3) (aC (vF 4) (aC (v2 ixDt (vN 7) (vC (.int 0))) (aC (vF 6) a0))))))))))
 (gRet (vC (.bool false)))
 gNop)
 (gAs (v2 ixDt (vN 7) (vC (.int 0))) (gN 9)))))))))
 (kill51 7) [false, true, true, true, true, true, true, false, false, true, false]
 (gSeq (gAs (vCall Pg.m_fewest_turns (aC (vF 1) (aC (vF 5) (aC (vF 3) (aC (vF 4) (aC (vF 6) a0)))))) (gN 10))
 (gRet (vAnd (v2 eqD (v2 ixDt (vN 10) (vC (.int 0))) (vN 9)) (vAnd (v2 neD (v2 ixDt (vN 10) (vC (.int 1))) (vLst a0)) (v2 eqD (vCB lenD (aC (v2 ixDt (vN 10) (vC (.int 2))) a0)) (vN 1))))))))))
noncomputable def m_law : FnM:=fnM 1 11 g_law
theorem sc_law : FnScope ["_law_script","_law_many","_law_passages","_law_start","_law_goal","_law_handed","_law_people_here","_law_told","_law_found","_law_turns","_law_again"] ["_law_script"] (defScope (top 33)):=⟨rfl,rfl,rfl,by decide +kernel,rfl,by decide +kernel,by decide +kernel⟩
theorem ok_law {P : Program} {w : World} {K : PySem.W.Frag} {mg : Str → Option Value} {base : Heap} {f : Addr} {fd : FuncData} (F : Fun K "law" "law" (top 33) f fd) (B : Bl mg) (KT : Kits K) (NL : noLists K) (NT : noTups K) (C_law_hall : Cal P w K mg base 2 "_law_hall" ["_law_script"] (spV K m__law_hall)) (C_law_people : Cal P w K mg base 6 "_law_people" ["_law_script", "_law_many", "_law_passages", "_law_start", "_law_goal"] (spV K m__law_people)) (Cfewest_turns : Cal P w K mg base 5 "fewest_turns" ["many", "passages", "start", "goal", "people"] (spV K Pg.m_fewest_turns)) (C_law_rows : Cal P w K mg base 3 "_law_rows" ["_law_plan", "_law_passages", "_law_start", "_law_goal", "_law_turns"] (spV K m__law_rows)) (C_law_leads : Cal P w K mg base 1 "_law_leads" ["_law_many", "_law_passages", "_law_start", "_law_goal"] (spV K m__law_leads)) (C_law_moments : Cal P w K mg base 2 "_law_moments" ["_law_moments_here", "_law_many", "_law_passages", "_law_start", "_law_goal", "_law_turns", "_law_people_here"] (spV K m__law_moments)) (C_law_whole : Cal P w K mg base 1 "_law_whole" ["_law_found"] (spV K m__law_whole)) (C_law_fits : Cal P w K mg base 1 "_law_fits" ["_law_rows_here", "_law_passages"] (spV K m__law_fits)) : FnOk P w K mg base CX0 7 f fd ["_law_script"] (spV K m_law) := by
  have nd := sc_law.nd
  have vt := (show (["_law_script", "_law_many", "_law_passages", "_law_start", "_law_goal", "_law_handed", "_law_people_here", "_law_told", "_law_found", "_law_turns", "_law_again"] : List Str).all (fun x => visB (defScope (top 33)) x && plain x) = true by decide +kernel)
  refine fnV (k := 6) (n := 1) (nN := 11) (g := g_law) F sc_law rfl rfl fun cdv A outer s H E hr => ?_
  exact (sSeq (sAs (ps_asg (dCal (peCal C_law_hall (hr.mono (by decide)) (gl (sc := (defScope (top 33))) (by decide +kernel)) (paC (dF (pV vt 0)) pa0))) (tgT (n := 4) rfl (tgC (tgN (pg_name (i := 1) nd rfl (lo (sc := (defScope (top 33))) (by decide +kernel)))) (tgC (tgN (pg_name (i := 2) nd rfl (lo (sc := (defScope (top 33))) (by decide +kernel)))) (tgC (tgN (pg_name (i := 3) nd rfl (lo (sc := (defScope (top 33))) (by decide +kernel)))) (tgC (tgN (pg_name (i := 4) nd rfl (lo (sc := (defScope (top 33))) (by decide +kernel)))) tg0)))))))
 (sSeq (sAs (ps_asg (ns (dListOf (pe_callTy cList (gl (sc := (defScope (top 33))) (by decide +kernel)) B.list PyProof.Rows.boot_list (pa_cons (dN (pV vt 2)) pa_nil)))) (tgN (pg_name (i := 5) nd rfl (lo (sc := (defScope (top 33))) (by decide +kernel))))))
 (sSeq (sAs (ps_asg (dCal (peCal C_law_people (hr.mono (by decide)) (gl (sc := (defScope (top 33))) (by decide +kernel)) (paC (dF (pV vt 0)) (paC (dF (pV vt 1)) (paC (dF (pV vt 5)) (paC (dF (pV vt 3)) (paC (dF (pV vt 4)) pa0))))))) (tgN (pg_name (i := 6) nd rfl (lo (sc := (defScope (top 33))) (by decide +kernel))))))
 (sTrashD NL NT (mk := [false, true, true, true, true, true, true, false, false, false, false]) (sMid (sAs (ps_asg (dCal (peCal Cfewest_turns (hr.mono (by decide)) (gl (sc := (defScope (top 33))) (by decide +kernel)) (paC (dF (pV vt 1)) (paC (dF (pV vt 5)) (paC (dF (pV vt 3)) (paC (dF (pV vt 4)) (paC (dF (pV vt 6)) pa0))))))) (tgN (pg_name (i := 7) nd rfl (lo (sc := (defScope (top 33))) (by decide +kernel))))))
 (sMid (sIf (cCmp (op_neD hr.units) hNe (mw (dN (pV vt 5))) (mw (dN (pV vt 2))))
 (sOne (sRet dBool))
 sNil)
 (sMid (sIf (cNot (cVal (dCal (peCal C_law_leads (hr.mono (by decide)) (gl (sc := (defScope (top 33))) (by decide +kernel)) (paC (dF (pV vt 1)) (paC (dF (pV vt 2)) (paC (dF (pV vt 3)) (paC (dF (pV vt 4)) pa0))))))))
 (sOne (sRet (dCmp oIsN hIs (mw (dN (pV vt 7))) (sw dNone))))
 sNil)
 (sMid (sIf (PW.pt (wOr (cNot (cVal (dIsi KT.tuple (pe_callB cIsi (gl (sc := (defScope (top 33))) (by decide +kernel)) B.isinstance PyProof.Rows.boot_isinstance (pa_cons (mw (dN (pV vt 7))) (pa_cons (pe_bltn (v := .ty "tuple") (gl (sc := (defScope (top 33))) (by decide +kernel)) B.tuple PyProof.Rows.boot_tuple rfl) pa_nil)))))) (wOr (cCmp (op_neD hr.units) hNe (sw (dCB (pe_callB cLen (gl (sc := (defScope (top 33))) (by decide +kernel)) B.len PySem.boot_len (pwC (mw (dN (pV vt 7))) pw0)) hLen)) (sw dInt)) (wOr (cNot (cVal (dCal (peCal C_law_whole (hr.mono (by decide)) (gl (sc := (defScope (top 33))) (by decide +kernel)) (paC (dIx (dN (pV vt 7)) (sw dInt)) pa0))))) (wOr1 (cCmp oLt hLt (sw (dIx (dN (pV vt 7)) (sw dInt))) (sw dInt)))))))
 (sOne (sRet dBool))
 sNil)
 (sMid (sAs (ps_asg (dCal (peCal C_law_rows (hr.mono (by decide)) (gl (sc := (defScope (top 33))) (by decide +kernel)) (paC (dIx (dN (pV vt 7)) (sw dInt)) (paC (dF (pV vt 2)) (paC (dF (pV vt 3)) (paC (dF (pV vt 4)) (paC (dIx (dN (pV vt 7)) (sw dInt)) pa0))))))) (tgN (pg_name (i := 8) nd rfl (lo (sc := (defScope (top 33))) (by decide +kernel))))))
 (sMid (sIf (PW.pt (wOr (cCmp oIsN hIs (mw (dN (pV vt 8))) (sw dNone)) (wOr (cCmp (op_neD hr.units) hNe (sw (dIx (dN (pV vt 8)) (sw dInt))) (mw (dN (pV vt 6)))) (wOr1 (cNot (cVal (dCal (peCal C_law_fits (hr.mono (by decide)) (gl (sc := (defScope (top 33))) (by decide +kernel)) (paC (dIx (dN (pV vt 8)) (sw dInt)) (paC (dF (pV vt 2)) pa0))))))))))
 (sOne (sRet dBool))
 sNil)
 (sMid (sIf (cNot (cVal (dCal (peCal C_law_moments (hr.mono (by decide)) (gl (sc := (defScope (top 33))) (by decide +kernel)) (paC (dIx (dN (pV vt 7)) (sw dInt)) (paC (dF (pV vt 1)) (paC (dF (pV vt 2)) (paC (dF (pV vt 3)) (paC (dF (pV vt 4)) (paC (dIx (dN (pV vt 7)) (sw dInt)) (paC (dF (pV vt 6)) pa0)))))))))))
 (sOne (sRet dBool))
 sNil)
 (sMid1 (sAs (ps_asg (dIx (dN (pV vt 7)) (sw dInt)) (tgN (pg_name (i := 9) nd rfl (lo (sc := (defScope (top 33))) (by decide +kernel))))))
 (seq3 (pss_cons (ps_expr (peClr (peIx ixT (pV vt 7) pe_int)))
 (pss_cons (ps_expr (peClr (peIx ixT (pV vt 7) pe_int)))
 (sSeq (sAs (ps_asg (dCal (peCal Cfewest_turns (hr.mono (by decide)) (gl (sc := (defScope (top 33))) (by decide +kernel)) (paC (dF (pV vt 1)) (paC (dF (pV vt 5)) (paC (dF (pV vt 3)) (paC (dF (pV vt 4)) (paC (dF (pV vt 6)) pa0))))))) (tgN (pg_name (i := 10) nd rfl (lo (sc := (defScope (top 33))) (by decide +kernel))))))
 (sOne (sRet (dAnd (dCmp (op_eqD hr.units) hEq (sw (dIx (dN (pV vt 10)) (sw dInt))) (mw (dN (pV vt 9)))) (dAnd (dCmp (op_neD hr.units) hNe (sw (dIx (dN (pV vt 10)) (sw dInt))) (nw (dLst pa0))) (dOne (dCmp (op_eqD hr.units) hEq (sw (dCB (pe_callB cLen (gl (sc := (defScope (top 33))) (by decide +kernel)) B.len PySem.boot_len (pwC (sw (dIx (dN (pV vt 10)) (sw dInt))) pw0)) hLen)) (mw (dN (pV vt 1)))))))))))))))))))))
 kills51))))
end K51
namespace K51
open PySem L2 VM Sp PM LH
theorem e_cell {ns : List Int} {k : Int} (h0 : 0≤k) : m__law_cell_at [.list (ns.map .int),.int k] = some (false,.int (cellI ns k)):=by
 unfold m__law_cell_at g__law_cell_at
 walk_at "e1"
 simp only [List.length_map]
 by_cases h : k < ns.length
 ·simp only [h,decide_true]
  walk_at "e1"
  rw [atI_ints h0 h]
  walk_at "e1"
 ·simp only [h,decide_false]
  walk_at "e1"
  rw [cellI_far h0 h]
noncomputable def numI (c : Int) : Int:=if c % 7 = 3 then 1 + c / 7 % 1000000000000000000000000000000 else 1 + c / 7 % 6
theorem numI_in (c : Int) : 1≤numI c∧numI c≤1000000000000000000000000000000:=by
 unfold numI
 have a:=mod_in (c / 7) (show (0 : Int) < 1000000000000000000000000000000 by decide)
 have b:=mod_in (c / 7) (show (0 : Int) < 6 by decide)
 split <;> omega
theorem e_num (c : Int) : m__law_number [.int c] = some (false,.int (numI c)):=by
 unfold m__law_number g__law_number numI
 walk_at "e1"
 simp only [modD_i (show (0 : Int) < 7 by decide),eqD_i]
 walk_at "e1"
 by_cases h : c % 7 = 3
 ·simp only [h,decide_true]
  walk_at "e1"
  simp only [divD_i (show (0 : Int) < 7 by decide) (by decide)]
  walk_at "e1"
  simp only [powD_i (show (0 : Int)≤30 by decide) (by decide) (show (0 : Int)≤10 by decide) (by decide)]
  walk_at "e1"
  rw [modD_i (by decide)]
  walk_at "e1"
 ·simp only [h,decide_false]
  walk_at "e1"
  simp only [divD_i (show (0 : Int) < 7 by decide) (by decide)]
  walk_at "e1"
  simp only [modD_i (show (0 : Int) < 6 by decide)]
  walk_at "e1"
noncomputable def S1 (ns : List Int) (m s g : Int) (qs : List Pq) (x5 x6 x7 x8 x9 x10 : Option PyData) : GS :=
 [some (Tg.fr,.list (ns.map .int)),some (Tg.fr,.int m),some (Tg.fr,.int s),some (Tg.fr,.int g),some (Tg.ow,.list (qs.map pD)),ob x5,ob x6,ob x7,ob x8,ob x9,ob x10]
noncomputable def body1 : VS := (gSeq (gAs (v2 modD (vN 6) (vN 1)) (gN 7))
 (gSeq (gAs (v2 modD (v2 addD (v2 addD (vN 7) (vC (.int 1))) (v2 modD (v2 divD (vN 6) (vC (.int 6))) (v2 subD (vN 1) (vC (.int 1))))) (vN 1)) (gN 8))
 (gSeq (gIf (tAnd2 (vB (v2 eqD (v2 modD (v2 divD (vCall m__law_cell_at (aC (vF 0) (aC (vC (.int 0)) a0))) (vC (.int 5))) (vC (.int 4))) (vC (.int 1)))) (vB (v2 ltD (vN 5) (v2 subD (vN 1) (vC (.int 1))))))
 (gSeq (gAs (v2 modD (v2 addD (vN 2) (vN 5)) (vN 1)) (gN 7))
 (gAs (v2 modD (v2 addD (v2 addD (vN 2) (vN 5)) (vC (.int 1))) (vN 1)) (gN 8)))
 gNop)
 (gApp 4 (aC (vTup (aC (vF 7) (aC (vF 8) (aC (vCall m__law_number (aC (v2 divD (vN 6) (vC (.int 30))) a0)) (aC (vCall m__law_number (aC (vCall m__law_cell_at (aC (vF 0) (aC (v2 addD (vC (.int 13)) (vN 5)) a0))) a0)) a0))))) a0)))))
noncomputable def body2 : VS := (gIf (vB (v2 neD (vN 4) (vLst a0)))
 (gSeq (gAs (v2 ixDt (vN 4) (v2 modD (vN 5) (vCB lenD (aC (vN 4) a0)))) (gT 4 (gC (gN 7) (gC (gN 8) (gC (gN 9) (gC (gN 10) g0))))))
 (gPut 4 (v2 modD (vN 5) (vCB lenD (aC (vN 4) a0))) (vTup (aC (vF 7) (aC (vF 8) (aC (v2 addD (vN 9) (v2 modD (vN 6) (vC (.int 4)))) (aC (vF 10) a0)))))))
 gNop)
theorem turn1 {ns : List Int} {m s g : Int} {qs : List Pq} {j : Nat} {c : Int} {x7 x8 x9 x10 : Option PyData} (m2 : 2≤m) (m6 : m≤40) (s0 : 0≤s) (hq : qs.length≤1000) (h : ∀ q∈qs,PqOk m 1000000000000000000000000000000 1000000000000000000000000000000 q) :
  ∃ q x7' x8',PqOk m 1000000000000000000000000000000 1000000000000000000000000000000 q∧body1 (S1 ns m s g qs (some (.int j)) (some (.int c)) x7 x8 x9 x10) = .nxt (S1 ns m s g (qs ++ [q]) (some (.int j)) (some (.int c)) x7' x8' x9 x10):=by
 have rest : ∀ a b : Int,0≤a→a < m→0≤b→b < m→a ≠ b→∃ q x7' x8',PqOk m 1000000000000000000000000000000 1000000000000000000000000000000 q∧(gApp 4 (aC (vTup (aC (vF 7) (aC (vF 8) (aC (vCall m__law_number (aC (v2 divD (vN 6) (vC (.int 30))) a0)) (aC (vCall m__law_number (aC (vCall m__law_cell_at (aC (vF 0) (aC (v2 addD (vC (.int 13)) (vN 5)) a0))) a0)) a0))))) a0)) (S1 ns m s g qs (some (.int j)) (some (.int c)) (some (.int a)) (some (.int b)) x9 x10) = .nxt (S1 ns m s g (qs ++ [q]) (some (.int j)) (some (.int c)) x7' x8' x9 x10):=fun a b h1 h2 h3 h4 h5=>by
  have n1:=numI_in (c / 30)
  have n2:=numI_in (cellI ns (13 + j))
  refine ⟨(a,b,numI (c / 30),numI (cellI ns (13 + j))),some (.int a),some (.int b),⟨h1,h2,h3,h4,h5,n1.1,n1.2,n2.1,n2.2⟩,?_⟩
  unfold S1
  walk_at "e1"
  simp only [divD_i (show (0 : Int) < 30 by decide) (by decide)]
  walk_at "e1"
  rw [e_num]
  walk_at "e1"
  rw [e_cell (by omega)]
  walk_at "e1"
  rw [e_num]
  walk_at "e1"
  rw [if_pos (by rw [List.length_map]; exact size_big (by omega))]
  rw [List.map_append]
  rfl
 have a:=mod_in c (show 0 < m by omega)
 have d:=mod_in (c / 6) (show 0 < m - 1 by omega)
 have nx:=mod_next (a:=c % m) (d:=1 + c / 6 % (m - 1)) (m:=m) a (by omega)
 have e : c % m + 1 + c / 6 % (m - 1) = c % m + (1 + c / 6 % (m - 1)):=by omega
 unfold body1
 generalize hk : (gApp 4 (aC (vTup (aC (vF 7) (aC (vF 8) (aC (vCall m__law_number (aC (v2 divD (vN 6) (vC (.int 30))) a0)) (aC (vCall m__law_number (aC (vCall m__law_cell_at (aC (vF 0) (aC (v2 addD (vC (.int 13)) (vN 5)) a0))) a0)) a0))))) a0)) = kk at rest ⊢
 have go : ∀ a b : Int,0≤a→a < m→0≤b→b < m→a ≠ b→∀ x,x = [some (Tg.fr,PyData.list (ns.map .int)),some (Tg.fr,.int m),some (Tg.fr,.int s),some (Tg.fr,.int g),some (Tg.ow,.list (qs.map pD)),some (Tg.fr,.int j),some (Tg.fr,.int c),some (Tg.fr,.int a),some (Tg.fr,.int b),ob x9,ob x10] →
   ∃ q x7' x8',PqOk m 1000000000000000000000000000000 1000000000000000000000000000000 q∧kk x = .nxt (S1 ns m s g (qs ++ [q]) (some (.int j)) (some (.int c)) x7' x8' x9 x10):=fun a b h1 h2 h3 h4 h5 x hx=>by
  rw [hx]; exact rest a b h1 h2 h3 h4 h5
 unfold S1
 walk_at "e1"
 simp only [modD_i (show 0 < m by omega)]
 walk_at "e1"
 simp only [divD_i (show (0 : Int) < 6 by decide) (by decide)]
 walk_at "e1"
 simp only [modD_i (show 0 < m - 1 by omega)]
 walk_at "e1"
 simp only [modD_i (show 0 < m by omega)]
 walk_at "e1"
 rw [e_cell (by decide)]
 walk_at "e1"
 simp only [divD_i (show (0 : Int) < 5 by decide) (by decide)]
 walk_at "e1"
 simp only [modD_i (show (0 : Int) < 4 by decide),eqD_i]
 walk_at "e1"
 by_cases hc : cellI ns 0 / 5 % 4 = 1
 ·simp only [hc,decide_true]
  walk_at "e1"
  by_cases hj : (j : Int) < m - 1
  ·simp only [hj,decide_true]
   walk_at "e1"
   simp only [modD_i (show 0 < m by omega)]
   walk_at "e1"
   simp only [modD_i (show 0 < m by omega)]
   walk_at "e1"
   have b1:=mod_in (s + j) (show 0 < m by omega)
   have b2:=mod_in (s + j + 1) (show 0 < m by omega)
   exact go _ _ b1.1 b1.2 b2.1 b2.2 (next_mod (s + j) m2).symm _ rfl
  ·simp only [hj,decide_false]
   walk_at "e1"
   rw [e]
   exact go _ _ a.1 a.2 nx.1 nx.2.1 nx.2.2.symm _ rfl
 ·simp only [hc,decide_false]
  walk_at "e1"
  rw [e]
  exact go _ _ a.1 a.2 nx.1 nx.2.1 nx.2.2.symm _ rfl
theorem turn2 {ns : List Int} {m s g : Int} {qs : List Pq} {j : Nat} {c : Int} {x7 x8 x9 x10 : Option PyData} {B : Int} (h : ∀ q∈qs,PqOk m B 1000000000000000000000000000000 q) :
  ∃ qs' x7' x8' x9' x10',qs'.length = qs.length∧(∀ q∈qs',PqOk m (B + 3) 1000000000000000000000000000000 q)∧body2 (S1 ns m s g qs (some (.int j)) (some (.int c)) x7 x8 x9 x10) = .nxt (S1 ns m s g qs' (some (.int j)) (some (.int c)) x7' x8' x9' x10'):=by
 have up : ∀ q∈qs,PqOk m (B + 3) 1000000000000000000000000000000 q:=fun q hq=>(h q hq).mono (by omega)
 unfold body2 S1
 walk_at "e1"
 cases qs with
 | nil =>
  refine ⟨[],x7,x8,x9,x10,rfl,up,?_⟩
  have e : neD (.list ([].map pD)) (.list []) = some (.bool false):=by unfold neD; simp [PyData.depth,PyData.depthAll,PyData.eqv,PyData.eqvAll]
  rw [e]
  walk_at "e1"
 | cons q0 r =>
  have e : neD (.list ((q0 :: r).map pD)) (.list []) = some (.bool true):=by
   have hd : (PyData.list ((q0 :: r).map pD)).depth≤60:=depth_psD (q0 :: r)
   unfold neD
   rw [if_pos hd]
   simp [PyData.eqv,PyData.eqvAll]
  rw [e]
  walk_at "e1"
  have hpos : (0 : Int) < ((r.map pD).length + 1 : Nat):=by omega
  simp only [modD_i hpos]
  walk_at "e1"
  have hmod:=mod_in (j : Int) hpos
  obtain ⟨i,hi⟩ : ∃ i : Nat,(j : Int) % ((r.map pD).length + 1 : Nat) = i:=⟨((j : Int) % ((r.map pD).length + 1 : Nat)).toNat,by omega⟩
  rw [hi] at hmod ⊢
  have hil : i < (q0 :: r).length:=by rw [List.length_cons]; rw [List.length_map] at hmod; omega
  have hget : (q0 :: r)[i]? = some (q0 :: r)[i]:=List.getElem?_eq_getElem hil
  generalize (q0 :: r)[i] = q at hget
  have hq:=h q (List.mem_of_getElem? hget)
  have ea : atI (pD q0 :: r.map pD) (i : Int) = some (pD q):=by
   have:=atI_of pD hget
   rwa [List.map_cons] at this
  rw [ea]
  obtain ⟨a,b,w,l⟩:=q
  unfold pD
  walk_at "e1"
  simp only [modD_i (show (0 : Int) < 4 by decide)]
  walk_at "e1"
  have hlen : ((r.map fun q : Pq=>PyData.tuple [.int q.1,.int q.2.1,.int q.2.2.1,.int q.2.2.2]).length) = (r.map pD).length:=by rw [List.length_map,List.length_map]
  rw [hlen]
  simp only [modD_i hpos]
  walk_at "e1"
  rw [hi,ixN_of (by rw [List.length_map]; exact hil)]
  walk_at "e1"
  have c4:=mod_in c (show (0 : Int) < 4 by decide)
  refine ⟨(q0 :: r).set i (a,b,w + c % 4,l),some (.int a),some (.int b),some (.int w),some (.int l),by simp,fun q' hq'=>?_,?_⟩
  ·rcases List.mem_or_eq_of_mem_set hq' with z | z
   ·exact up q' z
   ·rw [z]
    have w1:=hq.w1
    have wB:=hq.wB
    dsimp only at w1 wB
    exact ⟨hq.a0,hq.a1,hq.b0,hq.b1,hq.ne,by show 1≤w + c % 4; omega,by show w + c % 4≤B + 3; omega,hq.l1,hq.lC⟩
  ·rw [List.map_set]
   rfl
theorem e_hall {ns : List Int} (hl : ns.length≤63) : ∃ n ps st g,m__law_hall [.list (ns.map .int)] = some (false,.tuple [.int (n : Nat),hD ps,.int (st : Nat),.int (g : Nat)])∧HallB n ps (1000000000000000000000000000000 + 200) 1000000000000000000000000000000∧n≤6∧ps.length≤10∧st < n∧g < n∧st ≠ g:=by
 unfold m__law_hall g__law_hall
 walk_at "e1"
 rw [e_cell (by decide)]
 walk_at "e1"
 simp only [modD_i (show (0 : Int) < 5 by decide)]
 walk_at "e1"
 have c5:=mod_in (cellI ns 0) (show (0 : Int) < 5 by decide)
 obtain ⟨m,hm⟩ : ∃ m,2 + cellI ns 0 % 5 = m:=⟨_,rfl⟩
 rw [hm]
 have m2 : 2≤m:=by omega
 have m6 : m≤6:=by omega
 rw [e_cell (by decide)]
 walk_at "e1"
 simp only [modD_i (show 0 < m by omega)]
 walk_at "e1"
 rw [e_cell (by decide)]
 walk_at "e1"
 simp only [divD_i (show (0 : Int) < 6 by decide) (by decide)]
 walk_at "e1"
 simp only [modD_i (show 0 < m - 1 by omega)]
 walk_at "e1"
 simp only [modD_i (show 0 < m by omega)]
 walk_at "e1"
 have a:=mod_in (cellI ns 1) (show 0 < m by omega)
 have d:=mod_in (cellI ns 1 / 6) (show 0 < m - 1 by omega)
 have nx:=mod_next (a:=cellI ns 1 % m) (d:=1 + cellI ns 1 / 6 % (m - 1)) (m:=m) a (by omega)
 have e : cellI ns 1 % m + 1 + cellI ns 1 / 6 % (m - 1) = cellI ns 1 % m + (1 + cellI ns 1 / 6 % (m - 1)):=by omega
 rw [e]
 generalize cellI ns 1 % m = s at *
 generalize (s + (1 + cellI ns 1 / 6 % (m - 1))) % m = g at *
 rw [cutD_map]
 generalize hms : ((ns.drop (HT.sIx ns.length 0 (some 4))).take (HT.sIx ns.length ns.length (some 13) - HT.sIx ns.length 0 (some 4))) = ms
 have hml : ms.length≤10:=by rw [← hms,List.length_take]; have:=sIx_two (n:=ns.length) (show (0 : Int)≤4 by decide) (show (4 : Int)≤13 by decide); omega
 have l1:=forG_ok (t:=gT 2 (gC (gN 5) (gC (gN 6) g0))) (g:=body1) (fun i S=>∃ qs x5 x6 x7 x8,S = S1 ns m s g qs x5 x6 x7 x8 none none∧qs.length = i∧∀ q∈qs,PqOk m 1000000000000000000000000000000 1000000000000000000000000000000 q) (enumD 0 (ms.map .int)) 0
  (S1 ns m s g [] none none none none none none) ⟨[],none,none,none,none,rfl,rfl,by simp⟩ (by
   rintro j d S hj ⟨qs,x5,x6,x7,x8,rfl,hql,hq⟩
   rw [enumD_get,List.getElem?_map] at hj
   have hjm : j < ms.length:=by
    by_cases z : j < ms.length
    ·exact z
    ·rw [List.getElem?_eq_none (by omega)] at hj; cases hj
   cases ec : ms[j]? with
   | none=>rw [ec] at hj; cases hj
   | some c =>
    rw [ec] at hj
    cases hj
    obtain ⟨q,x7',x8',hq1,hb⟩:=turn1 (ns:=ns) (g:=g) (j:=j) (c:=c) (x7:=x7) (x8:=x8) (x9:=none) (x10:=none) m2 (by omega) a.1 (by omega) hq
    refine ⟨S1 ns m s g qs (some (.int j)) (some (.int c)) x7 x8 none none,?_,_,.inl hb,qs ++ [q],_,_,x7',x8',rfl,by simp [hql],fun q' hq'=>?_⟩
    ·unfold S1
     walk_at "e1"
     simp
    ·rcases List.mem_append.mp hq' with z | z
     ·exact hq q' z
     ·rw [List.mem_singleton.mp z]; exact hq1)
 obtain ⟨Sa,ea,qs,x5,x6,x7,x8,rfl,hql,hq⟩:=l1
 unfold S1 body1 at ea
 simp only [ob_none,List.map_nil] at ea
 rw [ea]
 walk_at "e1"
 rw [cutD_map]
 generalize hms2 : ((ns.drop (HT.sIx ns.length 0 (some 23))).take (HT.sIx ns.length ns.length (some 63) - HT.sIx ns.length 0 (some 23))) = ms2
 have hml2 : ms2.length≤63:=by rw [← hms2,List.length_take,List.length_drop]; omega
 have l2:=forG_ok (t:=gT 2 (gC (gN 5) (gC (gN 6) g0))) (g:=body2) (fun i S=>∃ qs' x5 x6 x7 x8 x9 x10,S = S1 ns m s g qs' x5 x6 x7 x8 x9 x10∧qs'.length = qs.length∧∀ q∈qs',PqOk m (1000000000000000000000000000000 + 3 * i) 1000000000000000000000000000000 q) (enumD 0 (ms2.map .int)) 0
  (S1 ns m s g qs x5 x6 x7 x8 none none) ⟨qs,x5,x6,x7,x8,none,none,rfl,rfl,fun q h=>(hq q h).mono (by omega)⟩ (by
   rintro j d S hj ⟨qs',y5,y6,y7,y8,y9,y10,rfl,hql',hq'⟩
   rw [enumD_get,List.getElem?_map] at hj
   cases ec : ms2[j]? with
   | none=>rw [ec] at hj; cases hj
   | some c =>
    rw [ec] at hj
    cases hj
    obtain ⟨qs2,z7,z8,z9,z10,hl2,hq2,hb⟩:=turn2 (ns:=ns) (s:=s) (g:=g) (j:=j) (c:=c) (x7:=y7) (x8:=y8) (x9:=y9) (x10:=y10) hq'
    refine ⟨S1 ns m s g qs' (some (.int j)) (some (.int c)) y7 y8 y9 y10,?_,_,.inl hb,qs2,_,_,z7,z8,z9,z10,rfl,by omega,fun q hq=>(hq2 q hq).mono (by omega)⟩
    unfold S1
    walk_at "e1"
    simp)
 obtain ⟨Sb,eb,qs',y5,y6,y7,y8,y9,y10,rfl,hql',hq'⟩:=l2
 unfold S1 body2 at eb
 simp only [ob_none] at eb
 rw [eb]
 walk_at "e1"
 rw [enumD_length,List.length_map] at hq' hql
 have hB : ∀ q∈qs',PqOk m (1000000000000000000000000000000 + 200) 1000000000000000000000000000000 q:=fun q h=>(hq' q h).mono (by omega)
 have hall:=hall_of hB
 refine ⟨m.toNat,qs'.map ofPq,s.toNat,g.toNat,?_,hall,by omega,by rw [List.length_map]; omega,by omega,by omega,by have:=nx.2.2; omega⟩
 unfold hD psD
 rw [to_of_all hB,Int.toNat_of_nonneg (by omega),Int.toNat_of_nonneg (by omega),Int.toNat_of_nonneg (by omega)]
end K51
set_option hygiene false in
local macro_rules | `(tactic| walk_at "e3")=>`(tactic| (try simp only [owB_some,owB_none,nio_owB,fnM_eq,ob_some,ob_none,bFn_r,bFn_n,ini,gSeq_eq,bSeq_n,bSeq_r,bSeq_b,bSeq_c,gIf_eq,bIf_t,bIf_f,tAnd_eq,bAnd_t,bAnd_f,tOr_eq,bOr_t,bOr_f,tNot2,vAnd_eq,bAndE_t,bAndE_f,vOr_eq,bOrE_t,bOrE_f,vIf_eq,bIfE_t,bIfE_f,v2_eq,b2_s,b1_s,v1_eq,aC_eq,bC_s,bC1_s,a0,gAs_eq,bAs_s,bNx_s,gC_eq,bG_s,g0,vCall_eq,bCall_s,vCallN_eq,bCallN_s,vCallW_eq,bCallW_s,bResW_s,vCallWN_eq,bCallWN_s,bResWN_s,bIm_t,vImm_eq,bImm_s,bRes_s,bResN_s,vCh_eq,bCh_t,bCh_f,atI_0,atI_1,atI_2,atI_3,gFor_eq,bFor_s,gRet,gRetN,gRetO,gEx,gN,gT,gOw_eq,gOwF_eq,bOw_s,vLC_eq,vLCW_eq,bL_s,gFz,frz,gApp,gPut,gAug,gAugI,gNop,gFail,gClr,gPop,gRv,gIns,gPopAt,vSetLen,ownL,noIo_eq,nio_ob,nio_n,nio_fr,nio_ow,vN,vF,vC,vB,vTru,truD,vNot,imm,immL,ixDt,oN,oI,vSlL,vSlT,vRev,negD,vTup,vLst,vCB,lenD,absD,min2D,max2D,int1D,vIsi,isi_list,isi_int,isi_bool_i,isi_tuple,vListOf,immR,vItems,vItemsT,vRng1,vRng2,vEnum,vZip,capFr,capG,capOne,cTrue,addD_i,subD_i,ltD_i,leD_i,gtD_i,geD_i,xorD_i,eqD_i,neD_i,Int.reduceToNat,Int.reducePow,isD_n,isnD_n,isNoneD,List.length_cons,List.length_nil,List.map_cons,List.map_nil,List.replicate,List.cons_append,List.nil_append,List.append_nil,List.getElem?_cons_zero,List.getElem?_cons_succ,List.set_cons_zero,List.set_cons_succ,Nat.reduceAdd,Nat.reduceSub,Nat.reduceLeDiff,Nat.reduceEqDiff,Bool.and_true,Bool.true_and,Bool.not_true,Bool.not_false,Bool.false_eq_true,↓reduceIte,if_true,if_false]))
namespace K51
open PySem L2 VM Sp PM LH
variable {n : Nat} {ps : List Pas} {st g : Nat} {T W p : Int}
theorem e_whole (x : Int) : m__law_whole [.int x] = some (false,.bool true):=by
 unfold m__law_whole g__law_whole
 walk_at "e3"
theorem setLen_nat {w : List Nat} (nd : w.Nodup) (hl : w.length≤1000) : setLenD (.list (w.map natD)) = some (.int (w.length : Int)):=by
 have e : w.map natD = (w.map fun j : Nat=>(j : Int)).map .int:=by rw [List.map_map]; rfl
 have nd' : (w.map fun j : Nat=>(j : Int)).Nodup:=by
  refine List.Pairwise.map _ (fun a b h=>?_) nd
  intro z; exact h (by omega)
 unfold setLenD
 rw [e]
 simp only [intsOf_map]
 rw [unlike_nodup nd',if_pos (by rw [List.length_map]; omega),List.length_map]
theorem depth_nat (w : List Nat) : PyData.depthAll (w.map natD)≤1:=by
 induction w with
 | nil=>simp [PyData.depthAll]
 | cons a v ih=>simp only [List.map_cons,PyData.depthAll,natD,PyData.depth]; omega
theorem e_walkL {x : List Nat × Int} (hp : ps.length≤900) (Wk : WalkOk ps st g x) : m__law_walk [.list (x.1.map natD),hD ps,.int (st : Int),.int (g : Int)] = some (false,.int (alongF Pas.l ps x.1)):=by
 have hxl : x.1.length≤ps.length:=nodup_lt Wk.nd Wk.ix
 unfold m__law_walk g__law_walk
 walk_at "e3"
 have dn:=depth_nat x.1
 have en : eqD (.list (x.1.map natD)) (.list []) = some (.bool false):=by
  unfold eqD
  rw [if_pos (by simp only [PyData.depth]; omega)]
  cases e : x.1 with
  | nil=>exact absurd e Wk.ne
  | cons a r=>simp [PyData.eqv,PyData.eqvAll]
 rw [en]
 walk_at "e3"
 rw [setLen_nat Wk.nd (by omega)]
 walk_at "e3"
 simp only [List.length_map,decide_true]
 walk_at "e3"
 have key : ∀ (a0' : PyData) (w : List Nat) (u : Nat) (len : Int) (v : Nat) (x6 : Option PyData),(∀ j∈w,j < ps.length)→goes ps u w = some v→∃ x6',forG (gN 6)
   (gSeq (gIf (tOr2 (tNot2 (vB (vCall m__law_whole (aC (vF 6) a0)))) (tOr2 (vB (v2 ltD (vN 6) (vC (.int 0)))) (tOr2 (vB (v2 geD (vN 6) (vCB lenD (aC (vN 1) a0)))) (vB (v2 neD (v2 ixDt (v2 ixDt (vN 1) (vN 6)) (vC (.int 0))) (vN 4)))))) (gRet (vC .none)) gNop) (gSeq (gAs (v2 ixDt (v2 ixDt (vN 1) (vN 6)) (vC (.int 1))) (gN 4)) (gAs (v2 addD (vN 5) (v2 ixDt (v2 ixDt (vN 1) (vN 6)) (vC (.int 3)))) (gN 5))))
   (w.map natD) [some (Tg.fr,a0'),some (Tg.fr,hD ps),some (Tg.fr,.int (st : Int)),some (Tg.fr,.int (g : Int)),some (Tg.fr,.int (u : Int)),some (Tg.fr,.int len),ob x6]
   = .nxt [some (Tg.fr,a0'),some (Tg.fr,hD ps),some (Tg.fr,.int (st : Int)),some (Tg.fr,.int (g : Int)),some (Tg.fr,.int (v : Int)),some (Tg.fr,.int (len + alongF Pas.l ps w)),ob x6']:=fun a0' w=>by
  induction w with
  | nil =>
   intro u len v x6 _ h
   simp only [goes,Option.some.injEq] at h
   subst h
   exact ⟨x6,by simp [forG,alongF]⟩
  | cons j w ih =>
   intro u len v x6 hi h
   have hj:=hi j List.mem_cons_self
   have e:=List.getElem?_eq_getElem hj
   rw [goes,e] at h
   simp only at h
   split at h
   ·rename_i ha
    generalize ps[j] = q at *
    obtain ⟨x6',hx⟩:=ih q.b (len + q.l) v (some (.int (j : Int))) (fun i hm=>hi i (List.mem_cons_of_mem _ hm)) h
    refine ⟨x6',?_⟩
    have eat : atI ((ps.map toPq).map pD) (j : Int) = some (.tuple [.int (q.a : Int),.int (q.b : Int),.int q.w,.int q.l]):=atI_of pD (show (ps.map toPq)[j]? = some (toPq q) by rw [List.getElem?_map,e]; rfl)
    rw [List.map_cons,forG,alongF_cons,atF_some e,← Int.add_assoc,← hx]
    have ej : natD j = .int (j : Int):=rfl
    have eh : hD ps = .list ((ps.map toPq).map pD):=rfl
    rw [ej,eh]
    have c1 : ¬ (j : Int) < 0:=by omega
    have c2 : ¬ (ps.length : Int)≤(j : Int):=by omega
    have c3 : (q.a : Int) = (u : Int):=by rw [ha]
    walk_at "e3"
    rw [e_whole]
    walk_at "e3"
    simp only [c1,decide_false]
    walk_at "e3"
    simp only [List.length_map,c2,decide_false]
    walk_at "e3"
    rw [eat]
    walk_at "e3"
    simp only [c3,decide_true]
    walk_at "e3"
    rw [eat]
    walk_at "e3"
    rw [eat]
    walk_at "e3"
   ·cases h
 obtain ⟨x6',hx⟩:=key (.list (x.1.map natD)) x.1 st 0 g none Wk.ix Wk.go
 simp only [ob_none,Int.zero_add] at hx
 rw [hx]
 walk_at "e3"
 simp only [decide_true]
 walk_at "e3"
theorem at_lbB {N : List Bool} {m : Nat} (h : m < N.length) : atI (N.map PyData.bool) (m : Int) = some (.bool (lbB N m)):=by
 refine atI_nat ?_
 simp [h,lbB]
noncomputable def leadBody : VS := (gIf (vB (v2 ixDt (vN 4) (vN 6)))
 (gPut 4 (vN 7) (vC (.bool true)))
 gNop)
noncomputable def SS (D0 D1 D2 D3 : PyData) (N : List Bool) (x5 x6 x7 x8 x9 : Option PyData) : GS:=[some (Tg.fr,D0),some (Tg.fr,D1),some (Tg.fr,D2),some (Tg.fr,D3),some (Tg.ow,.list (N.map .bool)),ob x5,ob x6,ob x7,ob x8,ob x9]
theorem lead_turns (D0 D1 D2 D3 : PyData) (x5 : Option PyData) : ∀ (r : List Pas) (N : List Bool) (x6 x7 x8 x9 : Option PyData),(∀ q∈r,q.a < N.length∧q.b < N.length∧0 < q.w) →
  ∃ y6 y7 y8 y9,forG (gT 4 (gC (gN 6) (gC (gN 7) (gC (gN 8) (gC (gN 9) g0))))) leadBody ((r.map toPq).map pD) (SS D0 D1 D2 D3 N x5 x6 x7 x8 x9) = .nxt (SS D0 D1 D2 D3 (nearS r (List.replicate r.length 0) N) x5 y6 y7 y8 y9)
 | [],N,x6,x7,x8,x9,_=>⟨x6,x7,x8,x9,by simp [forG,nearS]⟩
 | q :: r,N,x6,x7,x8,x9,hr=>by
  have h0:=hr q List.mem_cons_self
  obtain ⟨y6,y7,y8,y9,k⟩:=lead_turns D0 D1 D2 D3 x5 r (nearB (nearA N q 0) q 0) (some (.int q.a)) (some (.int q.b)) (some (.int q.w)) (some (.int q.l)) (fun q' h=>by rw [nearB_len,nearA_len]; exact hr q' (List.mem_cons_of_mem _ h))
  refine ⟨y6,y7,y8,y9,?_⟩
  have eb : ∀ N',nearB N' q 0 = N':=fun N'=>by unfold nearB; rw [if_neg (fun h=>absurd h.2 (by decide))]
  rw [List.map_cons,List.map_cons,forG,List.length_cons,List.replicate_succ,nearS,← k]
  have st1 : (gT 4 (gC (gN 6) (gC (gN 7) (gC (gN 8) (gC (gN 9) g0))))) (pD (toPq q)) (SS D0 D1 D2 D3 N x5 x6 x7 x8 x9) = some (SS D0 D1 D2 D3 N x5 (some (.int q.a)) (some (.int q.b)) (some (.int q.w)) (some (.int q.l))):=by
   unfold SS pD toPq
   walk_at "e3"
  have sb : leadBody (SS D0 D1 D2 D3 N x5 (some (.int q.a)) (some (.int q.b)) (some (.int q.w)) (some (.int q.l))) = .nxt (SS D0 D1 D2 D3 (nearB (nearA N q 0) q 0) x5 (some (.int q.a)) (some (.int q.b)) (some (.int q.w)) (some (.int q.l))):=by
   rw [eb]
   unfold leadBody SS nearA
   walk_at "e3"
   rw [at_lbB h0.1]
   walk_at "e3"
   cases e : lbB N q.a with
   | true =>
    walk_at "e3"
    rw [List.length_map,ixN_of h0.2.1]
    walk_at "e3"
    rw [if_pos (by simp [h0.2.2]),List.map_set]
   | false =>
    walk_at "e3"
    rw [if_neg (fun h=>by cases h.1)]
  rw [st1]
  simp only [sb]
theorem e_leads (Hh : Hall n ps) (hn : n≤1000) (hst : st < n) (hg : g < n) {G : List (Int × Int)} (S : StepsOk n ps st g G) : ∃ b : Bool,m__law_leads [.int n,hD ps,.int st,.int g] = some (false,.bool b)∧(b = true ↔ G ≠ []):=by
 have e0 : (rangeD 0 n).map (fun d=>match d with | .int k=>PyData.bool (decide (k = (st : Int))) | _=>.none) = ((List.range n).map fun z=>decide (z = st)).map .bool:=by
  rw [rangeD,List.map_map,List.map_map]
  refine List.map_congr_left fun j _=>?_
  simp only [Function.comp,Int.zero_add]
  congr 1
  exact decide_eq_decide.mpr (by omega)
 obtain ⟨N0,hN0⟩ : ∃ N0,(List.range n).map (fun z=>decide (z = st)) = N0:=⟨_,rfl⟩
 have l0 : N0.length = n:=by rw [← hN0]; simp
 have at0 : ∀ v,v < n→lbB N0 v = decide (v = st):=fun v hv=>by
  rw [← hN0]; unfold lbB
  simp [hv]
 have big : ∀ v,lbB N0 v = true→v < n:=fun v hv=>by
  by_cases z : v < n
  ·exact z
  ·unfold lbB at hv
   rw [List.getD_eq_getElem?_getD,List.getElem?_eq_none (by omega)] at hv
   cases hv
 have hr : ∀ q∈ps,q.a < N0.length∧q.b < N0.length:=fun q h=>by rw [l0]; exact ⟨Hh.ra q h,Hh.rb q h⟩
 obtain ⟨fl,hfl⟩ : ∃ fl : List Int,List.replicate ps.length 0 = fl:=⟨_,rfl⟩
 have f0 : ∀ (i : Nat) f,fl[i]? = some f→f = 0:=fun i f h=>by
  rw [← hfl,List.getElem?_replicate] at h
  split at h <;> cases h
  rfl
 have lN : (nearR ps fl n N0).length = n:=by rw [nearR_len]; exact l0
 have hs : lbB (nearR ps fl n N0) st = true:=nearR_grow hr n st (by rw [at0 st hst]; simp)
 have cl : Closed ps fl (nearR ps fl n N0):=by
  rcases nearR_closed (fl:=fl) hr n with c | c
  ·exact c
  ·exfalso
   have h1 : 0 < N0.count true:=by
    rw [List.count_pos_iff]
    have : lbB N0 st = true:=by rw [at0 st hst]; simp
    unfold lbB at this
    rw [List.getD_eq_getElem?_getD] at this
    have hl : st < N0.length:=by omega
    rw [List.getElem?_eq_getElem hl] at this
    have e : N0[st] = true:=this
    rw [← e]
    exact List.getElem_mem hl
   have h2:=List.count_le_length (a:=true) (l:=nearR ps fl n N0)
   omega
 refine ⟨lbB (nearR ps fl n N0) g,?_,fun hb zG=>?_,fun zG=>?_⟩
 ·unfold m__law_leads g__law_leads hD psD
  walk_at "e3"
  rw [if_pos ⟨by omega,by omega⟩,Int.toNat_natCast,bLC_s rfl (by rw [rangeD_length]; exact size_big (by omega))]
  rw [lcD_map (f:=fun d=>match d with | .int k=>.bool (decide (k = (st : Int))) | _=>.none) (by
   intro d hd
   obtain ⟨j,hj⟩:=List.mem_iff_getElem?.mp hd
   obtain ⟨hj,rfl⟩:=rangeD_get hj
   refine ⟨[some (Tg.fr,.int (0 + j)),some (Tg.fr,.int st)],?_,rfl,?_⟩
   ·walk_at "e3"
   ·walk_at "e3")]
  rw [e0,hN0]
  walk_at "e3"
  rw [if_pos ⟨by omega,by omega⟩,Int.toNat_natCast,bFor_s]
  have lp:=forG_ok (t:=gN 5) (g:=(gFor (vItems (vF 1)) (gT 4 (gC (gN 6) (gC (gN 7) (gC (gN 8) (gC (gN 9) g0))))) leadBody)) (fun i S=>∃ x5 x6 x7 x8 x9,S = SS (.int n) (.list ((ps.map toPq).map pD)) (.int st) (.int g) (nearR ps fl i N0) x5 x6 x7 x8 x9) (rangeD 0 n) 0
   (SS (.int n) (.list ((ps.map toPq).map pD)) (.int st) (.int g) N0 none none none none none) ⟨none,none,none,none,none,rfl⟩ (by
    rintro j d S hj ⟨x5,x6,x7,x8,x9,rfl⟩
    obtain ⟨y6,y7,y8,y9,k⟩:=lead_turns (.int n) (.list ((ps.map toPq).map pD)) (.int st) (.int g) (some d) ps (nearR ps fl (0 + j) N0) x6 x7 x8 x9 (fun q h=>by rw [nearR_len]; exact ⟨(hr q h).1,(hr q h).2,by have:=Hh.w1 q h; omega⟩)
    refine ⟨SS (.int n) (.list ((ps.map toPq).map pD)) (.int st) (.int g) (nearR ps fl (0 + j) N0) (some d) x6 x7 x8 x9,?_,_,.inl ?_,some d,y6,y7,y8,y9,rfl⟩
    ·unfold SS; walk_at "e3"
    ·rw [hfl] at k
     rw [show nearR ps fl (0 + j + 1) N0 = nearS ps fl (nearR ps fl (0 + j) N0) from rfl,← k]
     unfold SS
     walk_at "e3")
  obtain ⟨S',e',x5,x6,x7,x8,x9,rfl⟩:=lp
  unfold SS leadBody at e'
  simp only [ob_none] at e'
  rw [e']
  rw [rangeD_length,Nat.zero_add]
  walk_at "e3"
  rw [at_lbB (by omega)]
  walk_at "e3"
 ·obtain ⟨P,h0,h1,h2⟩:=steps_some Hh S zG
  refine h1 (nearR_keep (P:=P) hr (fun i q f a b=>⟨fun ha _=>h2 q (List.mem_of_getElem? a) ha,fun _ hf=>absurd hf (by rw [f0 i f b]; decide)⟩) (fun v hv=>?_) n g hb)
  have:=at0 v (big v hv)
  rw [hv] at this
  have : v = st:=by simpa using this.symm
  rw [this]; exact h0
 ·cases e : lbB (nearR ps fl n N0) g with
  | true=>rfl
  | false =>
   refine absurd (steps_none Hh hst hg S (P:=fun v=>lbB (nearR ps fl n N0) v = true) hs (by rw [e]; decide) fun q hq ha=>?_) zG
   obtain ⟨i,hi⟩:=List.mem_iff_getElem?.mp hq
   have hil:=(List.getElem?_eq_some_iff.mp hi).1
   have hf : fl[i]? = some 0:=by rw [← hfl,List.getElem?_replicate,if_pos hil]
   have:=Hh.w1 q hq
   exact (cl i q 0 hi hf).1 ha (by omega)
noncomputable def exD (o : Ex) : PyData:=.tuple [natD o.1,.int o.2.1,.int o.2.2.1,.int o.2.2.2]
theorem expW_len : ∀ (w : List Nat) (a m s e : Int),(expW ps a w m s e).length = w.length
 | [],_,_,_,_=>rfl
 | j :: w,a,m,s,e=>by rw [expW,List.length_cons,expW_len w,List.length_cons]
theorem e_rows {plan : List PRow} (hp : ps.length≤900) (hpl : plan.length≤2000) (Hh : Hall n ps) (row : ∀ r∈plan,WalkOk ps st g (r.w,r.m)∧0≤r.s∧r.s≤r.e∧r.e + alongF Pas.l ps r.w≤T) (mw : ∀ r∈plan,∃ q∈ps,r.m≤q.w) (hT : T < 1000000000000000000000000000000000000000000000000000000000000000000000000000000000000000000) (hw : ∀ q∈ps,q.w < 1000000000000000000000000000000000000000000000000000000000000000000000000000000000000000000) :
  m__law_rows [.list (plan.map rowD),hD ps,.int (st : Int),.int (g : Int),.int T] = some (false,.tuple [.int ((plan.map fun r=>r.m * (r.e - r.s + 1)).sum),.list ((expP ps plan).map exD)]):=by
 have inner : ∀ (m s e : Int) (D0 D2 D3 D4 D6 D7 D8 D12 : PyData) (w : List Nat) (acc : List Ex) (at' : Int) (x14 : Option PyData),(∀ j∈w,j < ps.length)→acc.length + w.length≤10000000→∃ at2 x14',forG (gN 14) (gSeq (gApp 5 (aC (vTup (aC (vF 14) (aC (vF 9) (aC (v2 addD (vN 10) (vN 13)) (aC (v2 addD (vN 11) (vN 13)) a0))))) a0)) (gAs (v2 addD (vN 13) (v2 ixDt (v2 ixDt (vN 1) (vN 14)) (vC (.int 3)))) (gN 13))) (w.map natD)
   [some (Tg.fr,D0),some (Tg.fr,hD ps),some (Tg.fr,D2),some (Tg.fr,D3),some (Tg.fr,D4),some (Tg.ow,.list (acc.map exD)),some (Tg.fr,D6),some (Tg.fr,D7),some (Tg.fr,D8),some (Tg.fr,.int m),some (Tg.fr,.int s),some (Tg.fr,.int e),some (Tg.fr,D12),some (Tg.fr,.int at'),ob x14] =
   .nxt [some (Tg.fr,D0),some (Tg.fr,hD ps),some (Tg.fr,D2),some (Tg.fr,D3),some (Tg.fr,D4),some (Tg.ow,.list ((acc ++ expW ps at' w m s e).map exD)),some (Tg.fr,D6),some (Tg.fr,D7),some (Tg.fr,D8),some (Tg.fr,.int m),some (Tg.fr,.int s),some (Tg.fr,.int e),some (Tg.fr,D12),some (Tg.fr,.int at2),ob x14']:=fun m s e D0 D2 D3 D4 D6 D7 D8 D12 w=>by
  induction w with
  | nil=>intro acc at' x14 _ _; exact ⟨at',x14,by simp [forG,expW]⟩
  | cons j w ih =>
   intro acc at' x14 hi hlen
   have hj:=hi j List.mem_cons_self
   have ej:=List.getElem?_eq_getElem hj
   rw [List.length_cons] at hlen
   obtain ⟨at2,y14,hx⟩:=ih (acc ++ [(j,m,s + at',e + at')]) (at' + atF Pas.l ps j) (some (.int (j : Int))) (fun i hm=>hi i (List.mem_cons_of_mem _ hm)) (by rw [List.length_append]; simp only [List.length_cons,List.length_nil]; omega)
   refine ⟨at2,y14,?_⟩
   have eat : atI ((ps.map toPq).map pD) (j : Int) = some (.tuple [.int (ps[j].a : Int),.int (ps[j].b : Int),.int ps[j].w,.int ps[j].l]):=atI_of pD (show (ps.map toPq)[j]? = some (toPq ps[j]) by rw [List.getElem?_map,ej]; rfl)
   rw [List.append_assoc,List.singleton_append] at hx
   have enat : natD j = .int (j : Int):=rfl
   have eh : hD ps = .list ((ps.map toPq).map pD):=rfl
   rw [List.map_cons,forG,expW,enat,← hx,eh]
   walk_at "e3"
   rw [if_pos (by rw [List.length_map]; exact size_big (by omega))]
   walk_at "e3"
   rw [eat]
   walk_at "e3"
   rw [List.map_append,atF_some ej]
   rfl
 have outer : ∀ (D0 : PyData) (vs : List PRow) (acc : List Ex) (tot : Int) (x7 x8 x9 x10 x11 x12 x13 x14 : Option PyData),(∀ r∈vs,r∈plan)→acc.length + vs.length * 900≤2000 * 900→∃ x7' x8' x9' x10' x11' x12' x13' x14',forG (gN 7)
   (gSeq (gIf (tOr2 (tNot2 (vB (v1 (isiD "tuple") (vN 7)))) (vB (v2 neD (vCB lenD (aC (vN 7) a0)) (vC (.int 4))))) (gRet (vC .none)) gNop) (gSeq (gAs (vF 7) (gT 4 (gC (gN 8) (gC (gN 9) (gC (gN 10) (gC (gN 11) g0)))))) (gSeq (gAs (vCall m__law_walk (aC (vF 8) (aC (vF 1) (aC (vF 2) (aC (vF 3) a0))))) (gN 12)) (gSeq (gIf (tOr2 (vB (v2 isD (vN 12) (vC .none))) (tOr2 (tNot2 (vB (vCall m__law_whole (aC (vF 9) a0)))) (tOr2 (tNot2 (vB (vCall m__law_whole (aC (vF 10) a0)))) (tNot2 (vB (vCall m__law_whole (aC (vF 11) a0))))))) (gRet (vC .none)) gNop) (gSeq (gIf (tOr2 (vB (v2 ltD (vN 9) (vC (.int 1)))) (tOr2 (vB (v2 ltD (vN 10) (vC (.int 0)))) (tOr2 (vB (v2 ltD (vN 11) (vN 10))) (vB (v2 gtD (v2 addD (vN 11) (vN 12)) (vN 4)))))) (gRet (vC .none)) gNop) (gSeq (gAs (v2 addD (vN 6) (v2 mulD (vN 9) (v2 addD (v2 subD (vN 11) (vN 10)) (vC (.int 1))))) (gN 6)) (gSeq (gAs (vC (.int 0)) (gN 13)) (gFor (vItems (vF 8)) (gN 14) (gSeq (gApp 5 (aC (vTup (aC (vF 14) (aC (vF 9) (aC (v2 addD (vN 10) (vN 13)) (aC (v2 addD (vN 11) (vN 13)) a0))))) a0)) (gAs (v2 addD (vN 13) (v2 ixDt (v2 ixDt (vN 1) (vN 14)) (vC (.int 3)))) (gN 13)))))))))))
   (vs.map rowD) [some (Tg.fr,D0),some (Tg.fr,hD ps),some (Tg.fr,.int (st : Int)),some (Tg.fr,.int (g : Int)),some (Tg.fr,.int T),some (Tg.ow,.list (acc.map exD)),some (Tg.fr,.int tot),ob x7,ob x8,ob x9,ob x10,ob x11,ob x12,ob x13,ob x14] =
   .nxt [some (Tg.fr,D0),some (Tg.fr,hD ps),some (Tg.fr,.int (st : Int)),some (Tg.fr,.int (g : Int)),some (Tg.fr,.int T),some (Tg.ow,.list ((acc ++ expP ps vs).map exD)),some (Tg.fr,.int (tot + (vs.map fun r=>r.m * (r.e - r.s + 1)).sum)),ob x7',ob x8',ob x9',ob x10',ob x11',ob x12',ob x13',ob x14']:=fun D0 vs=>by
  induction vs with
  | nil=>intro acc tot x7 x8 x9 x10 x11 x12 x13 x14 _ _; exact ⟨x7,x8,x9,x10,x11,x12,x13,x14,by simp [forG,expP]⟩
  | cons r vs ih =>
   intro acc tot x7 x8 x9 x10 x11 x12 x13 x14 hv hlen
   have hr:=hv r List.mem_cons_self
   obtain ⟨Wk,s0,se,eT⟩:=row r hr
   obtain ⟨q,hq,hmq⟩:=mw r hr
   have w2:=hw q hq
   have m1:=Wk.m1
   simp only at m1
   have hwl : r.w.length≤ps.length:=nodup_lt Wk.nd Wk.ix
   have hl0:=alongF_l1 Hh Wk.ix
   simp only at hl0
   rw [List.length_cons] at hlen
   obtain ⟨at2,y14,hin⟩:=inner r.m r.s r.e D0 (.int (st : Int)) (.int (g : Int)) (.int T) (.int (tot + r.m * (r.e - r.s + 1))) (rowD r) (.list (r.w.map natD)) (.int (alongF Pas.l ps r.w)) r.w acc 0 x14 Wk.ix (by omega)
   obtain ⟨z7,z8,z9,z10,z11,z12,z13,z14,hx⟩:=ih (acc ++ expW ps 0 r.w r.m r.s r.e) (tot + r.m * (r.e - r.s + 1)) (some (rowD r)) (some (.list (r.w.map natD))) (some (.int r.m)) (some (.int r.s)) (some (.int r.e)) (some (.int (alongF Pas.l ps r.w))) (some (.int at2)) y14 (fun y hy=>hv y (List.mem_cons_of_mem _ hy)) (by rw [List.length_append,expW_len]; omega)
   refine ⟨z7,z8,z9,z10,z11,z12,z13,z14,?_⟩
   have er : rowD r = .tuple [.list (r.w.map natD),.int r.m,.int r.s,.int r.e]:=rfl
   rw [List.append_assoc] at hx
   rw [List.map_cons,forG,expP_cons,List.map_cons,List.sum_cons,← Int.add_assoc,← hx]
   have e4 : decide (((4 : Nat) : Int) = 4) = true:=rfl
   have c1 : ¬ r.m < 1:=by omega
   have c2 : ¬ r.s < 0:=by omega
   have c3 : ¬ r.e < r.s:=by omega
   have c4 : ¬ T < r.e + alongF Pas.l ps r.w:=by omega
   have el:=e_walkL hp Wk
   simp only at el
   rw [er] at hin ⊢
   walk_at "e3"
   rw [e4]
   walk_at "e3"
   rw [el]
   walk_at "e3"
   rw [e_whole]
   walk_at "e3"
   rw [e_whole]
   walk_at "e3"
   rw [e_whole]
   walk_at "e3"
   simp only [c1,decide_false]
   walk_at "e3"
   simp only [c2,decide_false]
   walk_at "e3"
   simp only [c3,decide_false]
   walk_at "e3"
   simp only [c4,decide_false]
   walk_at "e3"
   rw [mulD_i (by omega) (by omega) (by omega) (by omega)]
   walk_at "e3"
   rw [hin]
 unfold m__law_rows g__law_rows
 walk_at "e3"
 obtain ⟨x7,x8,x9,x10,x11,x12,x13,x14,hx⟩:=outer (.list (plan.map rowD)) plan [] 0 none none none none none none none none (fun r h=>h) (by simp only [List.length_nil]; omega)
 simp only [ob_none,List.map_nil,List.nil_append,Int.zero_add] at hx
 rw [hx]
 walk_at "e3"
theorem e_fits {es : List Ex} (hk : ∀ o∈es,∃ q,ps[o.1]? = some q∧cov o.1 o.2.2.1 es≤q.w) : m__law_fits [.list (es.map exD),hD ps] = some (false,.bool true):=by
 have inner : ∀ (k : Nat) (t : Int) (D0 D1 D3 D5 : PyData) (vs : List Ex) (tot : Int) (x7 x8 x9 x10 : Option PyData),∃ x7' x8' x9' x10',forG (gT 4 (gC (gN 7) (gC (gN 8) (gC (gN 9) (gC (gN 10) g0))))) (gIf (tAnd2 (vB (v2 eqD (vN 7) (vN 2))) (tAnd2 (vB (v2 leD (vN 9) (vN 4))) (vB (v2 leD (vN 4) (vN 10))))) (gAs (v2 addD (vN 6) (vN 8)) (gN 6)) gNop) (vs.map exD)
   [some (Tg.fr,D0),some (Tg.fr,D1),some (Tg.fr,.int (k : Int)),some (Tg.fr,D3),some (Tg.fr,.int t),some (Tg.fr,D5),some (Tg.fr,.int tot),ob x7,ob x8,ob x9,ob x10] =
   .nxt [some (Tg.fr,D0),some (Tg.fr,D1),some (Tg.fr,.int (k : Int)),some (Tg.fr,D3),some (Tg.fr,.int t),some (Tg.fr,D5),some (Tg.fr,.int (tot + cov k t vs)),ob x7',ob x8',ob x9',ob x10']:=fun k t D0 D1 D3 D5 vs=>by
  induction vs with
  | nil=>intro tot x7 x8 x9 x10; exact ⟨x7,x8,x9,x10,by simp [forG,cov]⟩
  | cons o vs ih =>
   intro tot x7 x8 x9 x10
   obtain ⟨y7,y8,y9,y10,hx⟩:=ih (tot + (if o.1 = k∧o.2.2.1≤t∧t≤o.2.2.2 then o.2.1 else 0)) (some (.int (o.1 : Int))) (some (.int o.2.1)) (some (.int o.2.2.1)) (some (.int o.2.2.2))
   refine ⟨y7,y8,y9,y10,?_⟩
   have eo : exD o = .tuple [.int (o.1 : Int),.int o.2.1,.int o.2.2.1,.int o.2.2.2]:=rfl
   rw [List.map_cons,forG,cov,← Int.add_assoc,← hx,eo]
   walk_at "e3"
   by_cases z1 : o.1 = k
   ·have z1' : (o.1 : Int) = (k : Int):=by omega
    simp only [z1',decide_true]
    walk_at "e3"
    by_cases z2 : o.2.2.1≤t
    ·simp only [z2,decide_true]
     walk_at "e3"
     by_cases z3 : t≤o.2.2.2
     ·simp only [z3,decide_true]
      walk_at "e3"
      rw [if_pos ⟨z1,trivial,trivial⟩]
     ·simp only [z3,decide_false]
      walk_at "e3"
      rw [if_neg (fun h=>h.2.2),Int.add_zero]
    ·simp only [z2,decide_false]
     walk_at "e3"
     rw [if_neg (fun h=>h.2.1),Int.add_zero]
   ·have z1' : ¬ (o.1 : Int) = (k : Int):=by omega
    simp only [z1',decide_false]
    walk_at "e3"
    rw [if_neg (fun h=>z1 h.1),Int.add_zero]
 have outer : ∀ (vs : List Ex) (x2 x3 x4 x5 x6 x7 x8 x9 x10 : Option PyData),(∀ o∈vs,o∈es)→∃ y2 y3 y4 y5 y6 y7 y8 y9 y10,forG (gT 4 (gC (gN 2) (gC (gN 3) (gC (gN 4) (gC (gN 5) g0)))))
   (gSeq (gAs (vC (.int 0)) (gN 6)) (gSeq (gFor (vItems (vF 0)) (gT 4 (gC (gN 7) (gC (gN 8) (gC (gN 9) (gC (gN 10) g0))))) (gIf (tAnd2 (vB (v2 eqD (vN 7) (vN 2))) (tAnd2 (vB (v2 leD (vN 9) (vN 4))) (vB (v2 leD (vN 4) (vN 10))))) (gAs (v2 addD (vN 6) (vN 8)) (gN 6)) gNop)) (gIf (vB (v2 gtD (vN 6) (v2 ixDt (v2 ixDt (vN 1) (vN 2)) (vC (.int 2))))) (gRet (vC (.bool false))) gNop))) (vs.map exD)
   [some (Tg.fr,.list (es.map exD)),some (Tg.fr,hD ps),ob x2,ob x3,ob x4,ob x5,ob x6,ob x7,ob x8,ob x9,ob x10] = .nxt [some (Tg.fr,.list (es.map exD)),some (Tg.fr,hD ps),ob y2,ob y3,ob y4,ob y5,ob y6,ob y7,ob y8,ob y9,ob y10]:=fun vs=>by
  induction vs with
  | nil=>intro x2 x3 x4 x5 x6 x7 x8 x9 x10 _; exact ⟨x2,x3,x4,x5,x6,x7,x8,x9,x10,rfl⟩
  | cons o vs ih =>
   intro x2 x3 x4 x5 x6 x7 x8 x9 x10 hv
   obtain ⟨q,hq,hc⟩:=hk o (hv o List.mem_cons_self)
   obtain ⟨z7,z8,z9,z10,hin⟩:=inner o.1 o.2.2.1 (.list (es.map exD)) (hD ps) (.int o.2.1) (.int o.2.2.2) es 0 x7 x8 x9 x10
   obtain ⟨y2,y3,y4,y5,y6,y7,y8,y9,y10,hx⟩:=ih (some (.int (o.1 : Int))) (some (.int o.2.1)) (some (.int o.2.2.1)) (some (.int o.2.2.2)) (some (.int (cov o.1 o.2.2.1 es))) z7 z8 z9 z10 (fun y hy=>hv y (List.mem_cons_of_mem _ hy))
   refine ⟨y2,y3,y4,y5,y6,y7,y8,y9,y10,?_⟩
   have eo : exD o = .tuple [.int (o.1 : Int),.int o.2.1,.int o.2.2.1,.int o.2.2.2]:=rfl
   rw [Int.zero_add] at hin
   have eat : atI ((ps.map toPq).map pD) (o.1 : Int) = some (.tuple [.int (q.a : Int),.int (q.b : Int),.int q.w,.int q.l]):=atI_of pD (show (ps.map toPq)[o.1]? = some (toPq q) by rw [List.getElem?_map,hq]; rfl)
   have eh : hD ps = .list ((ps.map toPq).map pD):=rfl
   rw [List.map_cons,forG,← hx,eo]
   walk_at "e3"
   rw [hin]
   walk_at "e3"
   rw [eh]
   walk_at "e3"
   rw [eat]
   walk_at "e3"
   have c : ¬ q.w < cov o.1 o.2.2.1 es:=by omega
   simp only [c,decide_false]
   walk_at "e3"
 unfold m__law_fits g__law_fits
 walk_at "e3"
 obtain ⟨y2,y3,y4,y5,y6,y7,y8,y9,y10,hx⟩:=outer es none none none none none none none none none (fun o h=>h)
 simp only [ob_none] at hx
 rw [hx]
 walk_at "e3"
theorem e_momentsL {μs : List Int} (Hh : Hall n ps) (hst : st < n) (hg : g < n) (hl : μs.length = n) (m0 : lf μs st = 0) (m1 : lf μs g = T) (mb : ∀ v,v < n→0≤lf μs v∧lf μs v≤T) (low : (ps.map (over (lf μs))).sum < p) (hT : T < 1000000000000000000000000000000000000000000000000000000000000000000000000000000000000000000) (hw : ∀ q∈ps,q.w < 1000000000000000000000000000000000000000000000000000000000000000000000000000000000000000000) (hll : ∀ q∈ps,q.l < 1000000000000000000000000000000000000000000000000000000000000000000000000000000000000000000) : m__law_moments [.list (μs.map .int),.int (n : Int),hD ps,.int (st : Int),.int (g : Int),.int T,.int p] = some (false,.bool true):=by
 unfold m__law_moments g__law_moments
 walk_at "e3"
 simp only [List.length_map,hl,decide_true]
 walk_at "e3"
 rw [at_lf (by omega),m0]
 walk_at "e3"
 simp only [decide_true]
 walk_at "e3"
 rw [at_lf (by omega),m1]
 walk_at "e3"
 simp only [decide_true]
 walk_at "e3"
 have l1 : ∀ (A B C D E G : PyData) (xs : List Int) (x7 : Option PyData) (R : List (Option (Tg × PyData))),(∀ x∈xs,0≤x∧x≤T)→∃ x7',forG (gN 7) (gIf (tOr2 (tNot2 (vB (vCall m__law_whole (aC (vF 7) a0)))) (tOr2 (vB (v2 ltD (vN 7) (vC (.int 0)))) (vB (v2 gtD (vN 7) (vN 5))))) (gRet (vC (.bool false))) gNop) (xs.map .int) ([some (Tg.fr,A),some (Tg.fr,B),some (Tg.fr,C),some (Tg.fr,D),some (Tg.fr,E),some (Tg.fr,.int T),some (Tg.fr,G),ob x7] ++ R) = .nxt ([some (Tg.fr,A),some (Tg.fr,B),some (Tg.fr,C),some (Tg.fr,D),some (Tg.fr,E),some (Tg.fr,.int T),some (Tg.fr,G),ob x7'] ++ R):=fun A B C D E G xs=>by
  induction xs with
  | nil=>intro x7 R _; exact ⟨x7,rfl⟩
  | cons x xs ih =>
   intro x7 R h
   have h0:=h x List.mem_cons_self
   obtain ⟨x7',hx⟩:=ih (some (.int x)) R fun y hy=>h y (List.mem_cons_of_mem _ hy)
   refine ⟨x7',?_⟩
   rw [List.map_cons,forG,← hx]
   have c1 : ¬ x < 0:=by omega
   have c2 : ¬ T < x:=by omega
   walk_at "e3"
   rw [e_whole]
   walk_at "e3"
   simp only [c1,decide_false]
   walk_at "e3"
   simp only [c2,decide_false]
   walk_at "e3"
 have hmem : ∀ x∈μs,0≤x∧x≤T:=fun x hx=>by
  obtain ⟨i,hi⟩:=List.mem_iff_getElem?.mp hx
  have hil : i < n:=by have:=(List.getElem?_eq_some_iff.mp hi).1; omega
  have:=mb i hil
  rw [lf_get hi] at this
  exact this
 obtain ⟨x7,h1⟩:=l1 (.list (μs.map .int)) (.int (n : Int)) (hD ps) (.int (st : Int)) (.int (g : Int)) (.int p) μs none [none,none,none,none,none] hmem
 simp only [ob_none,List.cons_append,List.nil_append] at h1
 rw [h1]
 walk_at "e3"
 have eh : hD ps = .list ((ps.map toPq).map pD):=rfl
 rw [eh]
 walk_at "e3"
 have key : ∀ (B C D E G P : PyData) (r : List Pas) (acc : Int) (x7 x9 x10 x11 x12 : Option PyData),(∀ q∈r,q∈ps)→∃ x9' x10' x11' x12',forG (gT 4 (gC (gN 9) (gC (gN 10) (gC (gN 11) (gC (gN 12) g0)))))
   (gAs (v2 addD (vN 8) (v2 mulD (vN 11) (vCB max2D (aC (vC (.int 0)) (aC (v2 subD (v2 subD (v2 ixDt (vN 0) (vN 10)) (v2 ixDt (vN 0) (vN 9))) (vN 12)) a0))))) (gN 8)) ((r.map toPq).map pD)
   [some (Tg.fr,.list (μs.map .int)),some (Tg.fr,B),some (Tg.fr,C),some (Tg.fr,D),some (Tg.fr,E),some (Tg.fr,G),some (Tg.fr,P),ob x7,some (Tg.fr,.int acc),ob x9,ob x10,ob x11,ob x12]
   = .nxt [some (Tg.fr,.list (μs.map .int)),some (Tg.fr,B),some (Tg.fr,C),some (Tg.fr,D),some (Tg.fr,E),some (Tg.fr,G),some (Tg.fr,P),ob x7,some (Tg.fr,.int (acc + (r.map (over (lf μs))).sum)),ob x9',ob x10',ob x11',ob x12']:=fun B C D E G P r=>by
  induction r with
  | nil=>intro acc x7 x9 x10 x11 x12 _; exact ⟨x9,x10,x11,x12,by simp [forG]⟩
  | cons q r ih =>
   intro acc x7 x9 x10 x11 x12 h
   have hq:=h q List.mem_cons_self
   have ha:=Hh.ra q hq
   have hb:=Hh.rb q hq
   have w1:=Hh.w1 q hq
   have w2:=hw q hq
   have l1':=Hh.l1 q hq
   have l2:=hll q hq
   have ma:=mb q.a ha
   have mbb:=mb q.b hb
   obtain ⟨y9,y10,y11,y12,hx⟩:=ih (acc + over (lf μs) q) x7 (some (.int (q.a : Int))) (some (.int (q.b : Int))) (some (.int q.w)) (some (.int q.l)) fun q' hq'=>h q' (List.mem_cons_of_mem _ hq')
   refine ⟨y9,y10,y11,y12,?_⟩
   rw [List.map_cons,List.map_cons,forG,List.map_cons,List.sum_cons,← Int.add_assoc,← hx]
   have e1 : pD (toPq q) = .tuple [.int (q.a : Int),.int (q.b : Int),.int q.w,.int q.l]:=rfl
   rw [e1]
   walk_at "e3"
   rw [at_lf (by omega)]
   walk_at "e3"
   rw [at_lf (by omega)]
   walk_at "e3"
   have eov : over (lf μs) q = q.w * (if lf μs q.b - lf μs q.a - q.l > 0 then lf μs q.b - lf μs q.a - q.l else 0):=by
    unfold over
    by_cases z : q.l < lf μs q.b - lf μs q.a
    ·rw [if_pos z,if_pos (by omega)]
    ·rw [if_neg z,if_neg (by omega),Int.mul_zero]
   rw [mulD_i (by omega) (by omega) (by split <;> omega) (by split <;> omega),← eov]
   walk_at "e3"
 obtain ⟨y9,y10,y11,y12,hx⟩:=key (.int (n : Int)) (.list ((ps.map toPq).map pD)) (.int (st : Int)) (.int (g : Int)) (.int T) (.int p) ps 0 x7 none none none none fun q h=>h
 simp only [ob_none,Int.zero_add] at hx
 rw [hx]
 walk_at "e3"
 simp only [low,decide_true]
theorem e_people {ns : List Int} (HB : HallB n ps (1000000000000000000000000000000 + 200) 1000000000000000000000000000000) (hn : n≤6) (hp : ps.length≤10) (hst : st < n) (hg : g < n) (hne : st ≠ g) : ∃ p : Int,m__law_people [.list (ns.map .int),.int (n : Int),hD ps,.int (st : Int),.int (g : Int)] = some (false,.int p)∧1≤p∧p < 1000000000000000000000000000000000000000000000000000000000000:=by
 have Hh:=HB.toHall
 have sm : Small n ps:=small_of (by omega) (by omega)
 unfold m__law_people g__law_people
 walk_at "e3"
 rw [e_cell (by decide)]
 walk_at "e3"
 simp only [modD_i (show (0 : Int) < 3 by decide),eqD_i]
 walk_at "e3"
 by_cases h1 : cellI ns 2 % 3 = 1
 ·simp only [h1,decide_true]
  walk_at "e3"
  simp only [divD_i (show (0 : Int) < 3 by decide) (by decide)]
  walk_at "e3"
  simp only [powD_i (show (0 : Int)≤40 by decide) (by decide) (show (0 : Int)≤10 by decide) (by decide)]
  walk_at "e3"
  rw [modD_i (by decide)]
  walk_at "e3"
  have:=mod_in (cellI ns 2 / 3) (show (0 : Int) < 10000000000000000000000000000000000000000 by decide)
  exact ⟨_,rfl,by omega,by omega⟩
 ·simp only [h1,decide_false]
  walk_at "e3"
  simp only [modD_i (show (0 : Int) < 3 by decide),eqD_i]
  walk_at "e3"
  by_cases h2 : cellI ns 2 % 3 = 2
  ·simp only [h2,decide_true]
   walk_at "e3"
   simp only [divD_i (show (0 : Int) < 6 by decide) (by decide)]
   walk_at "e3"
   simp only [modD_i (show (0 : Int) < 30 by decide)]
   walk_at "e3"
   have t0:=mod_in (cellI ns 2 / 6) (show (0 : Int) < 30 by decide)
   obtain ⟨W,ws,μs,O,eo⟩:=e_out (T:=cellI ns 2 / 6 % 30) Hh sm (by omega) (by omega) hst hg hne t0.1 (by omega) (fun q h=>by have:=HB.wB q h; omega)
   rw [eo]
   walk_at "e3"
   simp only [divD_i (show (0 : Int) < 3 by decide) (by decide)]
   walk_at "e3"
   simp only [modD_i (show (0 : Int) < 2 by decide)]
   walk_at "e3"
   have t1:=mod_in (cellI ns 2 / 3) (show (0 : Int) < 2 by decide)
   have hW:=IsOut.le (B:=1000000000000000000000000000000 + 200) Hh t0.1 (fun q h=>HB.wB q h) hst ⟨ws,μs,O⟩
   have hW2 : (ps.length : Int) * ((1000000000000000000000000000000 + 200) * (cellI ns 2 / 6 % 30 + 1))≤10 * ((1000000000000000000000000000000 + 200) * (cellI ns 2 / 6 % 30 + 1)):=Int.mul_le_mul_of_nonneg_right (by omega) (by omega)
   exact ⟨_,rfl,by split <;> omega,by split <;> omega⟩
  ·simp only [h2,decide_false]
   walk_at "e3"
   simp only [divD_i (show (0 : Int) < 3 by decide) (by decide)]
   walk_at "e3"
   simp only [modD_i (show (0 : Int) < 40 by decide)]
   walk_at "e3"
   have:=mod_in (cellI ns 2 / 3) (show (0 : Int) < 40 by decide)
   exact ⟨_,rfl,by omega,by omega⟩
theorem subl_ps : ∀ qs : List Pq,sublL (qs.map pD) = []
 | []=>rfl
 | q :: r=>by rw [List.map_cons,sublL,subl_ps r]; simp [pD,subl,sublL]
theorem not_ps {z : List Int} (hz : z ≠ []) (qs : List Pq) : z.map PyData.int ≠ qs.map pD:=fun e=>by
 cases z with
 | nil=>exact hz rfl
 | cons k z =>
  cases qs with
  | nil=>cases e
  | cons q r=>cases e
theorem not_rows {plan : List PRow} (hz : plan ≠ []) (qs : List Pq) : plan.map rowD ≠ qs.map pD:=fun e=>by
 cases plan with
 | nil=>exact hz rfl
 | cons r plan =>
  cases qs with
  | nil=>cases e
  | cons q qs =>
   simp only [List.map_cons,List.cons.injEq,rowD,pD,PyData.tuple.injEq] at e
   exact absurd e.1.1 (by intro z; cases z)
theorem exp_ix : ∀ {w : List Nat} {a m s e : Int},∀ o∈expW ps a w m s e,o.1∈w
 | [],_,_,_,_,o,h=>by cases h
 | j :: w,a,m,s,e,o,h=>by
  rw [expW] at h
  rcases List.mem_cons.mp h with rfl | h
  ·exact List.mem_cons_self
  ·exact List.mem_cons_of_mem _ (exp_ix o h)
theorem e_law {ns : List Int} (hl : ns.length≤63) : m_law [.list (ns.map .int)] = some (false,.bool true):=by
 obtain ⟨n,ps,st,g,eh,HB,hn,hp,hst,hg,hne⟩:=e_hall hl
 have Hh:=HB.toHall
 have sm : Small n ps:=small_of (by omega) (by omega)
 have hw : ∀ q∈ps,q.w < 1000000000000000000000000000000000000000000000000000000000000000000000000000000000000000000:=fun q h=>by have:=HB.wB q h; omega
 have hll : ∀ q∈ps,q.l < 1000000000000000000000000000000000000000000000000000000000000000000000000000000000000000000:=fun q h=>by have:=HB.lC q h; omega
 have hD1 : hD ps = .list ((ps.map toPq).map pD):=rfl
 obtain ⟨p,ep,p1,p2⟩:=e_people (ns:=ns) HB hn hp hst hg hne
 have hls:=sum_le_len (B:=1000000000000000000000000000000) (ps:=ps) Pas.l fun q h=>HB.lC q h
 have hls2 : (ps.length : Int) * 1000000000000000000000000000000≤10 * 1000000000000000000000000000000:=Int.mul_le_mul_of_nonneg_right (by omega) (by omega)
 obtain ⟨G,S,hf⟩:=e_fewest (p:=p) (B:=1000000000000000000000000000000 + 200) Hh sm (by omega) (by omega) hst hg hne p1 (by omega) (by omega) (fun q h=>HB.wB q h) (by omega)
 obtain ⟨b,eb,hb⟩:=e_leads Hh (by omega) hst hg S
 rw [hD1] at eh
 unfold m_law g_law
 walk_at "e3"
 rw [eh]
 walk_at "e3"
 rw [hD1] at ep
 rw [ep]
 walk_at "e3"
 have ne1:=ne_psD (ps.map toPq)
 unfold psD at ne1
 unfold gTrashD
 rw [if_pos (show allFr _ = true from rfl)]
 simp only [mask,↓reduceIte,Bool.false_eq_true]
 rcases hf with ⟨zG,ef⟩ | ⟨zG,T,plan,μs,O,ef⟩
 ·have hb' : b = false:=by
   cases b with
   | false=>rfl
   | true=>exact absurd zG (hb.mp rfl)
  subst hb'
  rw [hD1] at ef eb
  walk_at "e3"
  rw [ef]
  walk_at "e3"
  rw [ne1]
  walk_at "e3"
  rw [eb]
  walk_at "e3"
 ·have hb' : b = true:=hb.mpr zG
  subst hb'
  have Tb:=O.Tb
  have e1:=e_rows (T:=T) (plan:=plan) (by omega) (by have:=O.len; omega) Hh O.row O.mw (by omega) hw
  rw [O.ppl] at e1
  have e2:=e_fits (ps:=ps) (es:=expP ps plan) (fun o ho=>by
   unfold expP at ho
   obtain ⟨l,hl1,hl2⟩:=List.mem_flatten.mp ho
   obtain ⟨r,hr,rfl⟩:=List.mem_map.mp hl1
   have hi:=(O.row r hr).1.ix o.1 (exp_ix o hl2)
   exact ⟨_,List.getElem?_eq_getElem hi,O.fits o.1 _ _ (List.getElem?_eq_getElem hi)⟩)
  have e3:=e_momentsL (p:=p) Hh hst hg O.ml O.m0 O.m1 O.mb O.low (by omega) hw hll
  rw [hD1] at ef eb e1 e2 e3
  have hpn : plan ≠ []:=fun z=>by have:=O.ppl; rw [z] at this; simp at this; omega
  have hmne : μs ≠ []:=by intro z; have:=O.ml; rw [z] at this; simp at this; omega
  have t1:=O.T1
  have c1 : ¬ T < 1:=by omega
  walk_at "e3"
  rw [ef]
  walk_at "e3"
  rw [ne1]
  walk_at "e3"
  rw [eb]
  walk_at "e3"
  have e33 : decide (((3 : Nat) : Int) = 3) = true:=rfl
  rw [e33]
  walk_at "e3"
  rw [e_whole]
  walk_at "e3"
  simp only [c1,decide_false]
  walk_at "e3"
  rw [e1]
  walk_at "e3"
  simp only [decide_true]
  walk_at "e3"
  rw [e2]
  walk_at "e3"
  rw [e3]
  walk_at "e3"
  simp only [kill51,List.getElem?_cons_zero,List.getElem?_cons_succ]
  rw [if_pos ⟨by rw [List.length_map]; have:=O.len; omega,by rw [List.length_map]; have:=O.ml; omega⟩]
  refine (congrArg bFn (if_pos ?hc)).trans ?rest
  case hc =>
   have f1 : ∀ qs : List Pq,t4L (qs.map pD) = true:=fun qs=>by
    induction qs with
    | nil=>rfl
    | cons q r ih=>rw [List.map_cons,t4L,ih]; rfl
   have f2 : ∀ xs : List Int,t4L (xs.map .int) = true:=fun xs=>by
    induction xs with
    | nil=>rfl
    | cons q r ih=>rw [List.map_cons,t4L,ih]; rfl
   have f3 : ∀ xs : List Nat,t4L (xs.map natD) = true:=fun xs=>by
    induction xs with
    | nil=>rfl
    | cons q r ih=>rw [List.map_cons,t4L,ih]; rfl
   have f4 : ∀ rs : List PRow,t4L (rs.map rowD) = true:=fun rs=>by
    induction rs with
    | nil=>rfl
    | cons r rs ih=>rw [List.map_cons,t4L,ih]; simp [rowD,t4,t4L,f3]
   refine ⟨rfl,fun z hz=>?_,fun es hes=>?_,fun es hes=>?_⟩
   rotate_left
   ·simp only [mask,↓reduceIte,Bool.false_eq_true,sublS,subl,subl_ps,List.append_nil,List.nil_append,List.cons_append,List.mem_cons,List.not_mem_nil,or_false,or_self] at hes
    rw [hes]; exact f1 _
   ·simp only [mask,↓reduceIte,Bool.false_eq_true,sublS,subl,subl_ps,List.append_nil,List.nil_append,List.cons_append,List.mem_cons,List.not_mem_nil,or_false,or_self] at hes
    rw [hes]; exact f1 _
   simp only [mask,↓reduceIte,Bool.false_eq_true,sublS,subl,subl_ps,List.append_nil,List.nil_append,List.cons_append,List.mem_cons,List.not_mem_nil,or_false,or_self]
   simp only [List.mem_cons,List.not_mem_nil,or_false] at hz
   rcases hz with rfl | rfl
   ·exact ⟨f4 _,not_rows hpn _,not_rows hpn _⟩
   ·exact ⟨f2 _,not_ps hmne _,not_ps hmne _⟩
  case rest =>
   simp only [mask,↓reduceIte,Bool.false_eq_true]
   walk_at "e3"
   rw [ef]
   walk_at "e3"
   simp only [decide_true]
   walk_at "e3"
   have en : neD (.list (plan.map rowD)) (.list []) = some (.bool true):=by
    have hd : PyData.depthAll (plan.map rowD)≤4:=by
     clear e1 e2 hpn ef O
     induction plan with
     | nil=>simp [PyData.depthAll]
     | cons r plan ih =>
      have:=depth_nat r.w
      simp only [List.map_cons,PyData.depthAll,rowD,PyData.depth]
      omega
    unfold neD
    rw [if_pos (by simp only [PyData.depth]; omega)]
    cases plan with
    | nil=>exact absurd rfl hpn
    | cons a r=>simp [PyData.eqv,PyData.eqvAll]
   rw [en]
   walk_at "e3"
   simp only [List.length_map,O.ml,decide_true]
end K51
namespace K51
open PySem L2 VM
set_option maxHeartbeats 4000000
theorem all_mk {l : PySem.W.OpenLaw} {w : World} {K : PySem.W.Frag} {h : Heap} {mg : Str→Option Value} {fa f0 f1 f2 f3 f4 f5 f6 f7 f8 f9 f10 f11 f12 f13 f14 f15 f16 f17 f18 f19 f20 f21 f22 f23 f24 f25 f26 f27 f28 : Addr} (X : K.In h) (G : h.Ns mainGlobals mg) (hfa : mg "law" = some (.ref fa)) {od0 an0 od1 an1 od2 an2 od3 an3 od4 an4 od5 an5 od6 an6 od7 an7 od8 an8 od9 an9 od10 an10 od11 an11 od12 an12 od13 an13 od14 an14 od15 an15 od16 an16 od17 an17 od18 an18 od19 an19 od20 an20 od21 an21 od22 an22 od23 an23 od24 an24 od25 an25 od26 an26 od27 an27 od28 an28 : Option Addr} {sl0 sl1 sl2 sl3 sl4 sl5 sl6 sl7 sl8 sl9 sl10 sl11 sl12 sl13 sl14 sl15 sl16 sl17 sl18 sl19 sl20 sl21 sl22 sl23 sl24 sl25 sl26 sl27 sl28 : Array (Option Value)} {oc0 kV0 dc0 pm0 cd0 ct0 oc1 kV1 dc1 pm1 cd1 ct1 oc2 kV2 dc2 pm2 cd2 ct2 oc3 kV3 dc3 pm3 cd3 ct3 oc4 kV4 dc4 pm4 cd4 ct4 oc5 kV5 dc5 pm5 cd5 ct5 oc6 kV6 dc6 pm6 cd6 ct6 oc7 kV7 dc7 pm7 cd7 ct7 oc8 kV8 dc8 pm8 cd8 ct8 oc9 kV9 dc9 pm9 cd9 ct9 oc10 kV10 dc10 pm10 cd10 ct10 oc11 kV11 dc11 pm11 cd11 ct11 oc12 kV12 dc12 pm12 cd12 ct12 oc13 kV13 dc13 pm13 cd13 ct13 oc14 kV14 dc14 pm14 cd14 ct14 oc15 kV15 dc15 pm15 cd15 ct15 oc16 kV16 dc16 pm16 cd16 ct16 oc17 kV17 dc17 pm17 cd17 ct17 oc18 kV18 dc18 pm18 cd18 ct18 oc19 kV19 dc19 pm19 cd19 ct19 oc20 kV20 dc20 pm20 cd20 ct20 oc21 kV21 dc21 pm21 cd21 ct21 oc22 kV22 dc22 pm22 cd22 ct22 oc23 kV23 dc23 pm23 cd23 ct23 oc24 kV24 dc24 pm24 cd24 ct24 oc25 kV25 dc25 pm25 cd25 ct25 oc26 kV26 dc26 pm26 cd26 ct26 oc27 kV27 dc27 pm27 cd27 ct27 oc28 kV28 dc28 pm28 cd28 ct28 : Value}
  (a0 : PySem.W.nsIn K mainGlobals "left_behind" = some (some (.ref f0))) (l0 : K.lookup f0 = some ⟨oc0,od0,.func (PySem.W.fnOf "left_behind" "left_behind" (defArgs (top 3)) (defBody (top 3)) (defScope (top 3)) .none kV0 dc0 pm0 an0 cd0 ct0),sl0⟩) (c0 : PySem.W.codeIn K cd0 "left_behind" = true) (k0 : PySem.W.keepIn K (.ref f0) = true)
  (a1 : PySem.W.nsIn K mainGlobals "is_nearer" = some (some (.ref f1))) (l1 : K.lookup f1 = some ⟨oc1,od1,.func (PySem.W.fnOf "is_nearer" "is_nearer" (defArgs (top 7)) (defBody (top 7)) (defScope (top 7)) .none kV1 dc1 pm1 an1 cd1 ct1),sl1⟩) (c1 : PySem.W.codeIn K cd1 "is_nearer" = true) (k1 : PySem.W.keepIn K (.ref f1) = true)
  (a2 : PySem.W.nsIn K mainGlobals "reach" = some (some (.ref f2))) (l2 : K.lookup f2 = some ⟨oc2,od2,.func (PySem.W.fnOf "reach" "reach" (defArgs (top 6)) (defBody (top 6)) (defScope (top 6)) .none kV2 dc2 pm2 an2 cd2 ct2),sl2⟩) (c2 : PySem.W.codeIn K cd2 "reach" = true) (k2 : PySem.W.keepIn K (.ref f2) = true)
  (a3 : PySem.W.nsIn K mainGlobals "push" = some (some (.ref f3))) (l3 : K.lookup f3 = some ⟨oc3,od3,.func (PySem.W.fnOf "push" "push" (defArgs (top 9)) (defBody (top 9)) (defScope (top 9)) .none kV3 dc3 pm3 an3 cd3 ct3),sl3⟩) (c3 : PySem.W.codeIn K cd3 "push" = true) (k3 : PySem.W.keepIn K (.ref f3) = true)
  (a4 : PySem.W.nsIn K mainGlobals "way_to" = some (some (.ref f4))) (l4 : K.lookup f4 = some ⟨oc4,od4,.func (PySem.W.fnOf "way_to" "way_to" (defArgs (top 8)) (defBody (top 8)) (defScope (top 8)) .none kV4 dc4 pm4 an4 cd4 ct4),sl4⟩) (c4 : PySem.W.codeIn K cd4 "way_to" = true) (k4 : PySem.W.keepIn K (.ref f4) = true)
  (a5 : PySem.W.nsIn K mainGlobals "push_all" = some (some (.ref f5))) (l5 : K.lookup f5 = some ⟨oc5,od5,.func (PySem.W.fnOf "push_all" "push_all" (defArgs (top 5)) (defBody (top 5)) (defScope (top 5)) .none kV5 dc5 pm5 an5 cd5 ct5),sl5⟩) (c5 : PySem.W.codeIn K cd5 "push_all" = true) (k5 : PySem.W.keepIn K (.ref f5) = true)
  (a6 : PySem.W.nsIn K mainGlobals "moves_of" = some (some (.ref f6))) (l6 : K.lookup f6 = some ⟨oc6,od6,.func (PySem.W.fnOf "moves_of" "moves_of" (defArgs (top 4)) (defBody (top 4)) (defScope (top 4)) .none kV6 dc6 pm6 an6 cd6 ct6),sl6⟩) (c6 : PySem.W.codeIn K cd6 "moves_of" = true) (k6 : PySem.W.keepIn K (.ref f6) = true)
  (a7 : PySem.W.nsIn K mainGlobals "steps_of" = some (some (.ref f7))) (l7 : K.lookup f7 = some ⟨oc7,od7,.func (PySem.W.fnOf "steps_of" "steps_of" (defArgs (top 1)) (defBody (top 1)) (defScope (top 1)) .none kV7 dc7 pm7 an7 cd7 ct7),sl7⟩) (c7 : PySem.W.codeIn K cd7 "steps_of" = true) (k7 : PySem.W.keepIn K (.ref f7) = true)
  (a8 : PySem.W.nsIn K mainGlobals "best_flow" = some (some (.ref f8))) (l8 : K.lookup f8 = some ⟨oc8,od8,.func (PySem.W.fnOf "best_flow" "best_flow" (defArgs (top 2)) (defBody (top 2)) (defScope (top 2)) .none kV8 dc8 pm8 an8 cd8 ct8),sl8⟩) (c8 : PySem.W.codeIn K cd8 "best_flow" = true) (k8 : PySem.W.keepIn K (.ref f8) = true)
  (a9 : PySem.W.nsIn K mainGlobals "length_of" = some (some (.ref f9))) (l9 : K.lookup f9 = some ⟨oc9,od9,.func (PySem.W.fnOf "length_of" "length_of" (defArgs (top 11)) (defBody (top 11)) (defScope (top 11)) .none kV9 dc9 pm9 an9 cd9 ct9),sl9⟩) (c9 : PySem.W.codeIn K cd9 "length_of" = true) (k9 : PySem.W.keepIn K (.ref f9) = true)
  (a10 : PySem.W.nsIn K mainGlobals "passage_on" = some (some (.ref f10))) (l10 : K.lookup f10 = some ⟨oc10,od10,.func (PySem.W.fnOf "passage_on" "passage_on" (defArgs (top 14)) (defBody (top 14)) (defScope (top 14)) .none kV10 dc10 pm10 an10 cd10 ct10),sl10⟩) (c10 : PySem.W.codeIn K cd10 "passage_on" = true) (k10 : PySem.W.keepIn K (.ref f10) = true)
  (a11 : PySem.W.nsIn K mainGlobals "walk_along" = some (some (.ref f11))) (l11 : K.lookup f11 = some ⟨oc11,od11,.func (PySem.W.fnOf "walk_along" "walk_along" (defArgs (top 13)) (defBody (top 13)) (defScope (top 13)) .none kV11 dc11 pm11 an11 cd11 ct11),sl11⟩) (c11 : PySem.W.codeIn K cd11 "walk_along" = true) (k11 : PySem.W.keepIn K (.ref f11) = true)
  (a12 : PySem.W.nsIn K mainGlobals "walks_of" = some (some (.ref f12))) (l12 : K.lookup f12 = some ⟨oc12,od12,.func (PySem.W.fnOf "walks_of" "walks_of" (defArgs (top 12)) (defBody (top 12)) (defScope (top 12)) .none kV12 dc12 pm12 an12 cd12 ct12),sl12⟩) (c12 : PySem.W.codeIn K cd12 "walks_of" = true) (k12 : PySem.W.keepIn K (.ref f12) = true)
  (a13 : PySem.W.nsIn K mainGlobals "moments_of" = some (some (.ref f13))) (l13 : K.lookup f13 = some ⟨oc13,od13,.func (PySem.W.fnOf "moments_of" "moments_of" (defArgs (top 17)) (defBody (top 17)) (defScope (top 17)) .none kV13 dc13 pm13 an13 cd13 ct13),sl13⟩) (c13 : PySem.W.codeIn K cd13 "moments_of" = true) (k13 : PySem.W.keepIn K (.ref f13) = true)
  (a14 : PySem.W.nsIn K mainGlobals "out_within" = some (some (.ref f14))) (l14 : K.lookup f14 = some ⟨oc14,od14,.func (PySem.W.fnOf "out_within" "out_within" (defArgs (top 16)) (defBody (top 16)) (defScope (top 16)) .none kV14 dc14 pm14 an14 cd14 ct14),sl14⟩) (c14 : PySem.W.codeIn K cd14 "out_within" = true) (k14 : PySem.W.keepIn K (.ref f14) = true)
  (a15 : PySem.W.nsIn K mainGlobals "turns_by" = some (some (.ref f15))) (l15 : K.lookup f15 = some ⟨oc15,od15,.func (PySem.W.fnOf "turns_by" "turns_by" (defArgs (top 20)) (defBody (top 20)) (defScope (top 20)) .none kV15 dc15 pm15 an15 cd15 ct15),sl15⟩) (c15 : PySem.W.codeIn K cd15 "turns_by" = true) (k15 : PySem.W.keepIn K (.ref f15) = true)
  (a16 : PySem.W.nsIn K mainGlobals "plan_for" = some (some (.ref f16))) (l16 : K.lookup f16 = some ⟨oc16,od16,.func (PySem.W.fnOf "plan_for" "plan_for" (defArgs (top 21)) (defBody (top 21)) (defScope (top 21)) .none kV16 dc16 pm16 an16 cd16 ct16),sl16⟩) (c16 : PySem.W.codeIn K cd16 "plan_for" = true) (k16 : PySem.W.keepIn K (.ref f16) = true)
  (a17 : PySem.W.nsIn K mainGlobals "fewest_turns" = some (some (.ref f17))) (l17 : K.lookup f17 = some ⟨oc17,od17,.func (PySem.W.fnOf "fewest_turns" "fewest_turns" (defArgs (top 19)) (defBody (top 19)) (defScope (top 19)) .none kV17 dc17 pm17 an17 cd17 ct17),sl17⟩) (c17 : PySem.W.codeIn K cd17 "fewest_turns" = true) (k17 : PySem.W.keepIn K (.ref f17) = true)
  (a18 : PySem.W.nsIn K mainGlobals "_law_cell_at" = some (some (.ref f18))) (l18 : K.lookup f18 = some ⟨oc18,od18,.func (PySem.W.fnOf "_law_cell_at" "_law_cell_at" (defArgs (top 23)) (defBody (top 23)) (defScope (top 23)) .none kV18 dc18 pm18 an18 cd18 ct18),sl18⟩) (c18 : PySem.W.codeIn K cd18 "_law_cell_at" = true) (k18 : PySem.W.keepIn K (.ref f18) = true)
  (a19 : PySem.W.nsIn K mainGlobals "_law_number" = some (some (.ref f19))) (l19 : K.lookup f19 = some ⟨oc19,od19,.func (PySem.W.fnOf "_law_number" "_law_number" (defArgs (top 24)) (defBody (top 24)) (defScope (top 24)) .none kV19 dc19 pm19 an19 cd19 ct19),sl19⟩) (c19 : PySem.W.codeIn K cd19 "_law_number" = true) (k19 : PySem.W.keepIn K (.ref f19) = true)
  (a20 : PySem.W.nsIn K mainGlobals "_law_hall" = some (some (.ref f20))) (l20 : K.lookup f20 = some ⟨oc20,od20,.func (PySem.W.fnOf "_law_hall" "_law_hall" (defArgs (top 25)) (defBody (top 25)) (defScope (top 25)) .none kV20 dc20 pm20 an20 cd20 ct20),sl20⟩) (c20 : PySem.W.codeIn K cd20 "_law_hall" = true) (k20 : PySem.W.keepIn K (.ref f20) = true)
  (a21 : PySem.W.nsIn K mainGlobals "_law_people" = some (some (.ref f21))) (l21 : K.lookup f21 = some ⟨oc21,od21,.func (PySem.W.fnOf "_law_people" "_law_people" (defArgs (top 26)) (defBody (top 26)) (defScope (top 26)) .none kV21 dc21 pm21 an21 cd21 ct21),sl21⟩) (c21 : PySem.W.codeIn K cd21 "_law_people" = true) (k21 : PySem.W.keepIn K (.ref f21) = true)
  (a22 : PySem.W.nsIn K mainGlobals "_law_leads" = some (some (.ref f22))) (l22 : K.lookup f22 = some ⟨oc22,od22,.func (PySem.W.fnOf "_law_leads" "_law_leads" (defArgs (top 27)) (defBody (top 27)) (defScope (top 27)) .none kV22 dc22 pm22 an22 cd22 ct22),sl22⟩) (c22 : PySem.W.codeIn K cd22 "_law_leads" = true) (k22 : PySem.W.keepIn K (.ref f22) = true)
  (a23 : PySem.W.nsIn K mainGlobals "_law_whole" = some (some (.ref f23))) (l23 : K.lookup f23 = some ⟨oc23,od23,.func (PySem.W.fnOf "_law_whole" "_law_whole" (defArgs (top 28)) (defBody (top 28)) (defScope (top 28)) .none kV23 dc23 pm23 an23 cd23 ct23),sl23⟩) (c23 : PySem.W.codeIn K cd23 "_law_whole" = true) (k23 : PySem.W.keepIn K (.ref f23) = true)
  (a24 : PySem.W.nsIn K mainGlobals "_law_walk" = some (some (.ref f24))) (l24 : K.lookup f24 = some ⟨oc24,od24,.func (PySem.W.fnOf "_law_walk" "_law_walk" (defArgs (top 29)) (defBody (top 29)) (defScope (top 29)) .none kV24 dc24 pm24 an24 cd24 ct24),sl24⟩) (c24 : PySem.W.codeIn K cd24 "_law_walk" = true) (k24 : PySem.W.keepIn K (.ref f24) = true)
  (a25 : PySem.W.nsIn K mainGlobals "_law_rows" = some (some (.ref f25))) (l25 : K.lookup f25 = some ⟨oc25,od25,.func (PySem.W.fnOf "_law_rows" "_law_rows" (defArgs (top 30)) (defBody (top 30)) (defScope (top 30)) .none kV25 dc25 pm25 an25 cd25 ct25),sl25⟩) (c25 : PySem.W.codeIn K cd25 "_law_rows" = true) (k25 : PySem.W.keepIn K (.ref f25) = true)
  (a26 : PySem.W.nsIn K mainGlobals "_law_fits" = some (some (.ref f26))) (l26 : K.lookup f26 = some ⟨oc26,od26,.func (PySem.W.fnOf "_law_fits" "_law_fits" (defArgs (top 31)) (defBody (top 31)) (defScope (top 31)) .none kV26 dc26 pm26 an26 cd26 ct26),sl26⟩) (c26 : PySem.W.codeIn K cd26 "_law_fits" = true) (k26 : PySem.W.keepIn K (.ref f26) = true)
  (a27 : PySem.W.nsIn K mainGlobals "_law_moments" = some (some (.ref f27))) (l27 : K.lookup f27 = some ⟨oc27,od27,.func (PySem.W.fnOf "_law_moments" "_law_moments" (defArgs (top 32)) (defBody (top 32)) (defScope (top 32)) .none kV27 dc27 pm27 an27 cd27 ct27),sl27⟩) (c27 : PySem.W.codeIn K cd27 "_law_moments" = true) (k27 : PySem.W.keepIn K (.ref f27) = true)
  (a28 : PySem.W.nsIn K mainGlobals "law" = some (some (.ref f28))) (l28 : K.lookup f28 = some ⟨oc28,od28,.func (PySem.W.fnOf "law" "law" (defArgs (top 33)) (defBody (top 33)) (defScope (top 33)) .none kV28 dc28 pm28 an28 cd28 ct28),sl28⟩) (c28 : PySem.W.codeIn K cd28 "law" = true) (k28 : PySem.W.keepIn K (.ref f28) = true)
  (z_len : PySem.W.nsIn K mainGlobals "len" = some none)
  (z_list : PySem.W.nsIn K mainGlobals "list" = some none)
  (z_range : PySem.W.nsIn K mainGlobals "range" = some none)
  (z_enumerate : PySem.W.nsIn K mainGlobals "enumerate" = some none)
  (z_zip : PySem.W.nsIn K mainGlobals "zip" = some none)
  (z_abs : PySem.W.nsIn K mainGlobals "abs" = some none)
  (z_sum : PySem.W.nsIn K mainGlobals "sum" = some none)
  (z_min : PySem.W.nsIn K mainGlobals "min" = some none)
  (z_max : PySem.W.nsIn K mainGlobals "max" = some none)
  (z_int : PySem.W.nsIn K mainGlobals "int" = some none)
  (z_bool : PySem.W.nsIn K mainGlobals "bool" = some none)
  (z_tuple : PySem.W.nsIn K mainGlobals "tuple" = some none)
  (z_str : PySem.W.nsIn K mainGlobals "str" = some none)
  (z_sorted : PySem.W.nsIn K mainGlobals "sorted" = some none)
  (z_set : PySem.W.nsIn K mainGlobals "set" = some none)
  (z_isinstance : PySem.W.nsIn K mainGlobals "isinstance" = some none)
  (nol : noListsB K = true)
  (ntu : noTupsB K = true) :
  ∃ fd : FuncData,(∀ (s : Shared) (v : Value),BindsTo s fd ⟨[v],[]⟩ [("_law_script",v)])∧∀ base : Heap,K.In base→base.Ns mainGlobals mg→FnOk l.prog w K mg base CX0 7 fa fd ["_law_script"] (spLaw K):=by
 have e:=hfa.symm.trans (PySem.W.mg_of X G a28)
 cases e
 have B : Bl mg:=⟨PySem.W.mg_none_of X G z_len,PySem.W.mg_none_of X G z_list,PySem.W.mg_none_of X G z_range,PySem.W.mg_none_of X G z_enumerate,PySem.W.mg_none_of X G z_zip,PySem.W.mg_none_of X G z_abs,PySem.W.mg_none_of X G z_sum,PySem.W.mg_none_of X G z_min,PySem.W.mg_none_of X G z_max,PySem.W.mg_none_of X G z_int,PySem.W.mg_none_of X G z_bool,PySem.W.mg_none_of X G z_tuple,PySem.W.mg_none_of X G z_str,PySem.W.mg_none_of X G z_sorted,PySem.W.mg_none_of X G z_set,PySem.W.mg_none_of X G z_isinstance⟩
 have F0:=fun_mk (st:=top 3) l0 c0 k0
 have b0:=F0.binds (ps:=["passages","flow"]) fun _ _ _ _ _ _ us hl=>by obtain ⟨x0,x1,rfl⟩:=len2 hl; exact rfl
 have F1:=fun_mk (st:=top 7) l1 c1 k1
 have b1:=F1.binds (ps:=["length","count","known"]) fun _ _ _ _ _ _ us hl=>by obtain ⟨x0,x1,x2,rfl⟩:=len3 hl; exact rfl
 have F2:=fun_mk (st:=top 6) l2 c2 k2
 have b2:=F2.binds (ps:=["moves","left","start"]) fun _ _ _ _ _ _ us hl=>by obtain ⟨x0,x1,x2,rfl⟩:=len3 hl; exact rfl
 have F3:=fun_mk (st:=top 9) l3 c3 k3
 have b3:=F3.binds (ps:=["left","way"]) fun _ _ _ _ _ _ us hl=>by obtain ⟨x0,x1,rfl⟩:=len2 hl; exact rfl
 have F4:=fun_mk (st:=top 8) l4 c4 k4
 have b4:=F4.binds (ps:=["reached","start","goal"]) fun _ _ _ _ _ _ us hl=>by obtain ⟨x0,x1,x2,rfl⟩:=len3 hl; exact rfl
 have F5:=fun_mk (st:=top 5) l5 c5 k5
 have b5:=F5.binds (ps:=["moves","left","start","goal","longest"]) fun _ _ _ _ _ _ us hl=>by obtain ⟨x0,x1,x2,x3,x4,rfl⟩:=len5 hl; exact rfl
 have F6:=fun_mk (st:=top 4) l6 c6 k6
 have b6:=F6.binds (ps:=["many","passages"]) fun _ _ _ _ _ _ us hl=>by obtain ⟨x0,x1,rfl⟩:=len2 hl; exact rfl
 have F7:=fun_mk (st:=top 1) l7 c7 k7
 have b7:=F7.binds (ps:=["many","passages","start","goal"]) fun _ _ _ _ _ _ us hl=>by obtain ⟨x0,x1,x2,x3,rfl⟩:=len4 hl; exact rfl
 have F8:=fun_mk (st:=top 2) l8 c8 k8
 have b8:=F8.binds (ps:=["many","passages","start","goal","turns"]) fun _ _ _ _ _ _ us hl=>by obtain ⟨x0,x1,x2,x3,x4,rfl⟩:=len5 hl; exact rfl
 have F9:=fun_mk (st:=top 11) l9 c9 k9
 have b9:=F9.binds (ps:=["passages","walk"]) fun _ _ _ _ _ _ us hl=>by obtain ⟨x0,x1,rfl⟩:=len2 hl; exact rfl
 have F10:=fun_mk (st:=top 14) l10 c10 k10
 have b10:=F10.binds (ps:=["passages","room","left"]) fun _ _ _ _ _ _ us hl=>by obtain ⟨x0,x1,x2,rfl⟩:=len3 hl; exact rfl
 have F11:=fun_mk (st:=top 13) l11 c11 k11
 have b11:=F11.binds (ps:=["passages","start","goal","left"]) fun _ _ _ _ _ _ us hl=>by obtain ⟨x0,x1,x2,x3,rfl⟩:=len4 hl; exact rfl
 have F12:=fun_mk (st:=top 12) l12 c12 k12
 have b12:=F12.binds (ps:=["passages","start","goal","flow"]) fun _ _ _ _ _ _ us hl=>by obtain ⟨x0,x1,x2,x3,rfl⟩:=len4 hl; exact rfl
 have F13:=fun_mk (st:=top 17) l13 c13 k13
 have b13:=F13.binds (ps:=["many","passages","start","goal","turns","flow"]) fun _ _ _ _ _ _ us hl=>by obtain ⟨x0,x1,x2,x3,x4,x5,rfl⟩:=len6 hl; exact rfl
 have F14:=fun_mk (st:=top 16) l14 c14 k14
 have b14:=F14.binds (ps:=["many","passages","start","goal","turns"]) fun _ _ _ _ _ _ us hl=>by obtain ⟨x0,x1,x2,x3,x4,rfl⟩:=len5 hl; exact rfl
 have F15:=fun_mk (st:=top 20) l15 c15 k15
 have b15:=F15.binds (ps:=["steps","people"]) fun _ _ _ _ _ _ us hl=>by obtain ⟨x0,x1,rfl⟩:=len2 hl; exact rfl
 have F16:=fun_mk (st:=top 21) l16 c16 k16
 have b16:=F16.binds (ps:=["passages","walks","turns","people"]) fun _ _ _ _ _ _ us hl=>by obtain ⟨x0,x1,x2,x3,rfl⟩:=len4 hl; exact rfl
 have F17:=fun_mk (st:=top 19) l17 c17 k17
 have b17:=F17.binds (ps:=["many","passages","start","goal","people"]) fun _ _ _ _ _ _ us hl=>by obtain ⟨x0,x1,x2,x3,x4,rfl⟩:=len5 hl; exact rfl
 have F18:=fun_mk (st:=top 23) l18 c18 k18
 have b18:=F18.binds (ps:=["_law_script","_law_k"]) fun _ _ _ _ _ _ us hl=>by obtain ⟨x0,x1,rfl⟩:=len2 hl; exact rfl
 have F19:=fun_mk (st:=top 24) l19 c19 k19
 have b19:=F19.binds (ps:=["_law_cell"]) fun _ _ _ _ _ _ us hl=>by obtain ⟨x0,rfl⟩:=len1 hl; exact rfl
 have F20:=fun_mk (st:=top 25) l20 c20 k20
 have b20:=F20.binds (ps:=["_law_script"]) fun _ _ _ _ _ _ us hl=>by obtain ⟨x0,rfl⟩:=len1 hl; exact rfl
 have F21:=fun_mk (st:=top 26) l21 c21 k21
 have b21:=F21.binds (ps:=["_law_script","_law_many","_law_passages","_law_start","_law_goal"]) fun _ _ _ _ _ _ us hl=>by obtain ⟨x0,x1,x2,x3,x4,rfl⟩:=len5 hl; exact rfl
 have F22:=fun_mk (st:=top 27) l22 c22 k22
 have b22:=F22.binds (ps:=["_law_many","_law_passages","_law_start","_law_goal"]) fun _ _ _ _ _ _ us hl=>by obtain ⟨x0,x1,x2,x3,rfl⟩:=len4 hl; exact rfl
 have F23:=fun_mk (st:=top 28) l23 c23 k23
 have b23:=F23.binds (ps:=["_law_found"]) fun _ _ _ _ _ _ us hl=>by obtain ⟨x0,rfl⟩:=len1 hl; exact rfl
 have F24:=fun_mk (st:=top 29) l24 c24 k24
 have b24:=F24.binds (ps:=["_law_walk_here","_law_passages","_law_start","_law_goal"]) fun _ _ _ _ _ _ us hl=>by obtain ⟨x0,x1,x2,x3,rfl⟩:=len4 hl; exact rfl
 have F25:=fun_mk (st:=top 30) l25 c25 k25
 have b25:=F25.binds (ps:=["_law_plan","_law_passages","_law_start","_law_goal","_law_turns"]) fun _ _ _ _ _ _ us hl=>by obtain ⟨x0,x1,x2,x3,x4,rfl⟩:=len5 hl; exact rfl
 have F26:=fun_mk (st:=top 31) l26 c26 k26
 have b26:=F26.binds (ps:=["_law_rows_here","_law_passages"]) fun _ _ _ _ _ _ us hl=>by obtain ⟨x0,x1,rfl⟩:=len2 hl; exact rfl
 have F27:=fun_mk (st:=top 32) l27 c27 k27
 have b27:=F27.binds (ps:=["_law_moments_here","_law_many","_law_passages","_law_start","_law_goal","_law_turns","_law_people_here"]) fun _ _ _ _ _ _ us hl=>by obtain ⟨x0,x1,x2,x3,x4,x5,x6,rfl⟩:=len7 hl; exact rfl
 have F28:=fun_mk (st:=top 33) l28 c28 k28
 refine ⟨PySem.W.fnOf "law" "law" (defArgs (top 33)) (defBody (top 33)) (defScope (top 33)) .none kV28 dc28 pm28 an28 cd28 ct28,fun s v=>.of_eq rfl,fun base _ _=>?_⟩
 have Cleft_behind : Cal l.prog w K mg base 1 "left_behind" ["passages","flow"] (spV K Pg.m_left_behind):=⟨_,_,ok_left_behind F0 B (kits K) ,PySem.W.mg_of X G a0,k0,b0⟩
 have Cis_nearer : Cal l.prog w K mg base 1 "is_nearer" ["length","count","known"] (spV K Pg.m_is_nearer):=⟨_,_,ok_is_nearer F1 B (kits K) ,PySem.W.mg_of X G a1,k1,b1⟩
 have Creach : Cal l.prog w K mg base 2 "reach" ["moves","left","start"] (spV K Pg.m_reach):=⟨_,_,ok_reach F2 B (kits K) Cis_nearer,PySem.W.mg_of X G a2,k2,b2⟩
 have Cpush : Cal l.prog w K mg base 1 "push" ["left","way"] (spIO K Pg.m_push):=⟨_,_,ok_push F3 B (kits K) ,PySem.W.mg_of X G a3,k3,b3⟩
 have Cway_to : Cal l.prog w K mg base 1 "way_to" ["reached","start","goal"] (spV K Pg.m_way_to):=⟨_,_,ok_way_to F4 B (kits K) ,PySem.W.mg_of X G a4,k4,b4⟩
 have Cpush_all : Cal l.prog w K mg base 3 "push_all" ["moves","left","start","goal","longest"] (spIO K Pg.m_push_all):=⟨_,_,ok_push_all F5 B (kits K) Creach Cpush Cway_to,PySem.W.mg_of X G a5,k5,b5⟩
 have Cmoves_of : Cal l.prog w K mg base 1 "moves_of" ["many","passages"] (spV K VM.m_moves_of):=⟨_,_,ok_moves_of F6 B (kits K) ,PySem.W.mg_of X G a6,k6,b6⟩
 have Csteps_of : Cal l.prog w K mg base 4 "steps_of" ["many","passages","start","goal"] (spV K Pg.m_steps_of):=⟨_,_,ok_steps_of F7 B (kits K) Cleft_behind Cpush_all Cmoves_of,PySem.W.mg_of X G a7,k7,b7⟩
 have Cbest_flow : Cal l.prog w K mg base 4 "best_flow" ["many","passages","start","goal","turns"] (spV K Pg.m_best_flow):=⟨_,_,ok_best_flow F8 B (kits K) Cleft_behind Cpush_all Cmoves_of,PySem.W.mg_of X G a8,k8,b8⟩
 have Clength_of : Cal l.prog w K mg base 1 "length_of" ["passages","walk"] (spV K Pg.m_length_of):=⟨_,_,ok_length_of F9 B (kits K) ,PySem.W.mg_of X G a9,k9,b9⟩
 have Cpassage_on : Cal l.prog w K mg base 1 "passage_on" ["passages","room","left"] (spV K Pg.m_passage_on):=⟨_,_,ok_passage_on F10 B (kits K) ,PySem.W.mg_of X G a10,k10,b10⟩
 have Cwalk_along : Cal l.prog w K mg base 2 "walk_along" ["passages","start","goal","left"] (spV K Pg.m_walk_along):=⟨_,_,ok_walk_along F11 B (kits K) Cpassage_on,PySem.W.mg_of X G a11,k11,b11⟩
 have Cwalks_of : Cal l.prog w K mg base 3 "walks_of" ["passages","start","goal","flow"] (spV K Pg.m_walks_of):=⟨_,_,ok_walks_of F12 B (kits K) Cwalk_along,PySem.W.mg_of X G a12,k12,b12⟩
 have Cmoments_of : Cal l.prog w K mg base 3 "moments_of" ["many","passages","start","goal","turns","flow"] (spV K Pg.m_moments_of):=⟨_,_,ok_moments_of F13 B (kits K) Cleft_behind Creach Cmoves_of,PySem.W.mg_of X G a13,k13,b13⟩
 have Cout_within : Cal l.prog w K mg base 5 "out_within" ["many","passages","start","goal","turns"] (spV K Pg.m_out_within):=⟨_,_,ok_out_within F14 B (kits K) Cbest_flow Cwalks_of Cmoments_of Clength_of,PySem.W.mg_of X G a14,k14,b14⟩
 have Cturns_by : Cal l.prog w K mg base 1 "turns_by" ["steps","people"] (spV K Pg.m_turns_by):=⟨_,_,ok_turns_by F15 B (kits K) ,PySem.W.mg_of X G a15,k15,b15⟩
 have Cplan_for : Cal l.prog w K mg base 2 "plan_for" ["passages","walks","turns","people"] (spV K Pg.m_plan_for):=⟨_,_,ok_plan_for F16 B (kits K) Clength_of,PySem.W.mg_of X G a16,k16,b16⟩
 have Cfewest_turns : Cal l.prog w K mg base 5 "fewest_turns" ["many","passages","start","goal","people"] (spV K Pg.m_fewest_turns):=⟨_,_,ok_fewest_turns F17 B (kits K) Csteps_of Cturns_by Cbest_flow Cplan_for Cwalks_of Cmoments_of,PySem.W.mg_of X G a17,k17,b17⟩
 have C_law_cell_at : Cal l.prog w K mg base 1 "_law_cell_at" ["_law_script","_law_k"] (spV K m__law_cell_at):=⟨_,_,ok__law_cell_at F18 B (kits K) ,PySem.W.mg_of X G a18,k18,b18⟩
 have C_law_number : Cal l.prog w K mg base 1 "_law_number" ["_law_cell"] (spV K m__law_number):=⟨_,_,ok__law_number F19 B (kits K) ,PySem.W.mg_of X G a19,k19,b19⟩
 have C_law_hall : Cal l.prog w K mg base 2 "_law_hall" ["_law_script"] (spV K m__law_hall):=⟨_,_,ok__law_hall F20 B (kits K) C_law_cell_at C_law_number,PySem.W.mg_of X G a20,k20,b20⟩
 have C_law_people : Cal l.prog w K mg base 6 "_law_people" ["_law_script","_law_many","_law_passages","_law_start","_law_goal"] (spV K m__law_people):=⟨_,_,ok__law_people F21 B (kits K) C_law_cell_at Cout_within,PySem.W.mg_of X G a21,k21,b21⟩
 have C_law_leads : Cal l.prog w K mg base 1 "_law_leads" ["_law_many","_law_passages","_law_start","_law_goal"] (spV K m__law_leads):=⟨_,_,ok__law_leads F22 B (kits K) ,PySem.W.mg_of X G a22,k22,b22⟩
 have C_law_whole : Cal l.prog w K mg base 1 "_law_whole" ["_law_found"] (spV K m__law_whole):=⟨_,_,ok__law_whole F23 B (kits K) ,PySem.W.mg_of X G a23,k23,b23⟩
 have C_law_walk : Cal l.prog w K mg base 2 "_law_walk" ["_law_walk_here","_law_passages","_law_start","_law_goal"] (spV K m__law_walk):=⟨_,_,ok__law_walk F24 B (kits K) C_law_whole,PySem.W.mg_of X G a24,k24,b24⟩
 have C_law_rows : Cal l.prog w K mg base 3 "_law_rows" ["_law_plan","_law_passages","_law_start","_law_goal","_law_turns"] (spV K m__law_rows):=⟨_,_,ok__law_rows F25 B (kits K) C_law_walk C_law_whole,PySem.W.mg_of X G a25,k25,b25⟩
 have C_law_fits : Cal l.prog w K mg base 1 "_law_fits" ["_law_rows_here","_law_passages"] (spV K m__law_fits):=⟨_,_,ok__law_fits F26 B (kits K) ,PySem.W.mg_of X G a26,k26,b26⟩
 have C_law_moments : Cal l.prog w K mg base 2 "_law_moments" ["_law_moments_here","_law_many","_law_passages","_law_start","_law_goal","_law_turns","_law_people_here"] (spV K m__law_moments):=⟨_,_,ok__law_moments F27 B (kits K) C_law_whole,PySem.W.mg_of X G a27,k27,b27⟩
 exact (ok_law (P:=l.prog) (w:=w) (base:=base) F28 B (kits K) (noLists_of nol) (noTups_of ntu) C_law_hall C_law_people Cfewest_turns C_law_rows C_law_leads C_law_moments C_law_whole C_law_fits).imp (law_sp fun ns hl=>e_law hl)
end K51
open PySem PySem.W PyProof.Rows
def PySem.W.Fast.tw5865180816358234345 : Nat := 0
def PySem.W.Fast.tw12530240970680349005 : Nat := 0
def PySem.W.Fast.tw18369489615488146500 : Nat := 0
def PySem.W.Fast.tw7044043821865112836 : Nat := 0
def PySem.W.Fast.tw5592483130792672334 : Nat := 0
def PySem.W.Fast.tw3828742849408075029 : Nat := 0
def PySem.W.Fast.tw5783528438363955881 : Nat := 0
def PySem.W.Fast.tw13072497398265137152 : Nat := 0
def PySem.W.Fast.tw13330164171931204940 : Nat := 0
def PySem.W.Fast.tw1799483949801884414 : Nat := 0
set_option maxRecDepth 100000 in
set_option maxHeartbeats 0 in
theorem PySem.Challenge.cw_leavehall_k51_whole_fewest_turns_holds : PySem.Challenge.rw_leavehall_k51_whole_fewest_turns.Holds := by
 w_on; o_law; k_head; (case hw=>w_witness2)
 k_fill
 refine VM.walk (l:=PySem.Challenge.rw_leavehall_k51_whole_fewest_turns) (k:=7) (x:="_law_script") rfl rfl ⟨rfl,by decide,by decide⟩ (fun w h Y=>PySem.W.kIn_of Y) ?F
 case F =>
  intro w mg fa h KX G hmg
  refine' K51.all_mk KX G hmg ?a0 ?l0 ?c0 ?k0 ?a1 ?l1 ?c1 ?k1 ?a2 ?l2 ?c2 ?k2 ?a3 ?l3 ?c3 ?k3 ?a4 ?l4 ?c4 ?k4 ?a5 ?l5 ?c5 ?k5 ?a6 ?l6 ?c6 ?k6 ?a7 ?l7 ?c7 ?k7 ?a8 ?l8 ?c8 ?k8 ?a9 ?l9 ?c9 ?k9 ?a10 ?l10 ?c10 ?k10 ?a11 ?l11 ?c11 ?k11 ?a12 ?l12 ?c12 ?k12 ?a13 ?l13 ?c13 ?k13 ?a14 ?l14 ?c14 ?k14 ?a15 ?l15 ?c15 ?k15 ?a16 ?l16 ?c16 ?k16 ?a17 ?l17 ?c17 ?k17 ?a18 ?l18 ?c18 ?k18 ?a19 ?l19 ?c19 ?k19 ?a20 ?l20 ?c20 ?k20 ?a21 ?l21 ?c21 ?k21 ?a22 ?l22 ?c22 ?k22 ?a23 ?l23 ?c23 ?k23 ?a24 ?l24 ?c24 ?k24 ?a25 ?l25 ?c25 ?k25 ?a26 ?l26 ?c26 ?k26 ?a27 ?l27 ?c27 ?k27 ?a28 ?l28 ?c28 ?k28 ?z_len ?z_list ?z_range ?z_enumerate ?z_zip ?z_abs ?z_sum ?z_min ?z_max ?z_int ?z_bool ?z_tuple ?z_str ?z_sorted ?z_set ?z_isinstance ?nol ?ntu
  (case a0=>k_is)
  (case l0=>k_is)
  (case c0=>k_is)
  (case k0=>k_is)
  (case a1=>k_is)
  (case l1=>k_is)
  (case c1=>k_is)
  (case k1=>k_is)
  (case a2=>k_is)
  (case l2=>k_is)
  (case c2=>k_is)
  (case k2=>k_is)
  (case a3=>k_is)
  (case l3=>k_is)
  (case c3=>k_is)
  (case k3=>k_is)
  (case a4=>k_is)
  (case l4=>k_is)
  (case c4=>k_is)
  (case k4=>k_is)
  (case a5=>k_is)
  (case l5=>k_is)
  (case c5=>k_is)
  (case k5=>k_is)
  (case a6=>k_is)
  (case l6=>k_is)
  (case c6=>k_is)
  (case k6=>k_is)
  (case a7=>k_is)
  (case l7=>k_is)
  (case c7=>k_is)
  (case k7=>k_is)
  (case a8=>k_is)
  (case l8=>k_is)
  (case c8=>k_is)
  (case k8=>k_is)
  (case a9=>k_is)
  (case l9=>k_is)
  (case c9=>k_is)
  (case k9=>k_is)
  (case a10=>k_is)
  (case l10=>k_is)
  (case c10=>k_is)
  (case k10=>k_is)
  (case a11=>k_is)
  (case l11=>k_is)
  (case c11=>k_is)
  (case k11=>k_is)
  (case a12=>k_is)
  (case l12=>k_is)
  (case c12=>k_is)
  (case k12=>k_is)
  (case a13=>k_is)
  (case l13=>k_is)
  (case c13=>k_is)
  (case k13=>k_is)
  (case a14=>k_is)
  (case l14=>k_is)
  (case c14=>k_is)
  (case k14=>k_is)
  (case a15=>k_is)
  (case l15=>k_is)
  (case c15=>k_is)
  (case k15=>k_is)
  (case a16=>k_is)
  (case l16=>k_is)
  (case c16=>k_is)
  (case k16=>k_is)
  (case a17=>k_is)
  (case l17=>k_is)
  (case c17=>k_is)
  (case k17=>k_is)
  (case a18=>k_is)
  (case l18=>k_is)
  (case c18=>k_is)
  (case k18=>k_is)
  (case a19=>k_is)
  (case l19=>k_is)
  (case c19=>k_is)
  (case k19=>k_is)
  (case a20=>k_is)
  (case l20=>k_is)
  (case c20=>k_is)
  (case k20=>k_is)
  (case a21=>k_is)
  (case l21=>k_is)
  (case c21=>k_is)
  (case k21=>k_is)
  (case a22=>k_is)
  (case l22=>k_is)
  (case c22=>k_is)
  (case k22=>k_is)
  (case a23=>k_is)
  (case l23=>k_is)
  (case c23=>k_is)
  (case k23=>k_is)
  (case a24=>k_is)
  (case l24=>k_is)
  (case c24=>k_is)
  (case k24=>k_is)
  (case a25=>k_is)
  (case l25=>k_is)
  (case c25=>k_is)
  (case k25=>k_is)
  (case a26=>k_is)
  (case l26=>k_is)
  (case c26=>k_is)
  (case k26=>k_is)
  (case a27=>k_is)
  (case l27=>k_is)
  (case c27=>k_is)
  (case k27=>k_is)
  (case a28=>k_is)
  (case l28=>k_is)
  (case c28=>k_is)
  (case k28=>k_is)
  (case z_len=>k_is)
  (case z_list=>k_is)
  (case z_range=>k_is)
  (case z_enumerate=>k_is)
  (case z_zip=>k_is)
  (case z_abs=>k_is)
  (case z_sum=>k_is)
  (case z_min=>k_is)
  (case z_max=>k_is)
  (case z_int=>k_is)
  (case z_bool=>k_is)
  (case z_tuple=>k_is)
  (case z_str=>k_is)
  (case z_sorted=>k_is)
  (case z_set=>k_is)
  (case z_isinstance=>k_is)
  (case nol=>rfl)
  (case ntu=>rfl)
