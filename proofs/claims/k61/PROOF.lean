import PyProof.Rows.All
import Wide.All
import OpenK.AllK
import Wide.FinOn
import Lean
import PyProof.EqAt
import PyProof.EqKinds
import PyProof.TupleCall
import PySem.Challenge.RW_leavehall_k61_deeds_and_what_is_asked
set_option Elab.async false
set_option linter.all false
set_option maxRecDepth 100000
namespace L2
open PySem PySem.Spec PyProof.Rows
noncomputable abbrev Key:=Sum Int Str
noncomputable def keyIs : Key→Value→Bool
 | .inl k,v=>Value.isInt k v
 | .inr x,v=>Value.isStrOf x v
noncomputable def keyH (w : World) : Key→Int
 | .inl k=>hashInt k
 | .inr x=>hashStr w x
theorem keyIs_shape : ∀ {k : Key} {v : Value},keyIs k v = true→(∃ i t,k = Sum.inl i∧v = Value.int i t)∨(∃ x t,k = Sum.inr x∧v = Value.str x t)
 | .inl i,v,h=>by
  obtain ⟨t,e⟩:=Value.isInt_shape (k:=i) (v:=v) h
  exact .inl ⟨i,t,rfl,e⟩
 | .inr x,v,h=>by
  obtain ⟨t,e⟩:=Value.isStrOf_shape (x:=x) (v:=v) h
  exact .inr ⟨x,t,rfl,e⟩
theorem keyIs_int (i : Int) (t : Tok) : keyIs (.inl i) (.int i t) = true:=by simp [keyIs,Value.isInt]
theorem keyIs_str (x : Str) (t : Tok) : keyIs (.inr x) (.str x t) = true:=by simp [keyIs,Value.isStrOf]
theorem key_ll (a b : Int) : decide ((Sum.inl a : Key) = Sum.inl b) = (a == b):=by
 by_cases e : a = b
 ·subst e; simp
 ·have h : ¬ (Sum.inl a : Key) = Sum.inl b:=fun q=>e (Sum.inl.inj q)
  rw [decide_eq_false h]
  exact (beq_eq_false_iff_ne.mpr e).symm
theorem key_rr (a b : Str) : decide ((Sum.inr a : Key) = Sum.inr b) = decide (a = b):=by
 by_cases e : a = b
 ·subst e; simp
 ·have h : ¬ (Sum.inr a : Key) = Sum.inr b:=fun q=>e (Sum.inr.inj q)
  rw [decide_eq_false h,decide_eq_false e]
theorem key_lr (a : Int) (b : Str) : decide ((Sum.inl a : Key) = Sum.inr b) = false:=decide_eq_false (fun q=>nomatch q)
theorem key_rl (a : Str) (b : Int) : decide ((Sum.inr a : Key) = Sum.inl b) = false:=decide_eq_false (fun q=>nomatch q)
noncomputable def mixKind (prog : Program) (w : World) : PySem.KeyKind prog w Key where
 is:=keyIs
 hash:=keyH w
 inj:=fun v a b ha hb=>by
  rcases keyIs_shape ha with ⟨i,t,rfl,rfl⟩ | ⟨x,t,rfl,rfl⟩
  ·rcases keyIs_shape hb with ⟨j,u,rfl,e⟩ | ⟨y,u,rfl,e⟩
   ·injection e with e1 _; rw [e1]
   ·exact nomatch e
  ·rcases keyIs_shape hb with ⟨j,u,rfl,e⟩ | ⟨y,u,rfl,e⟩
   ·exact nomatch e
   ·injection e with e1 _; rw [e1]
 byValue:=fun k v h=>by
  rcases keyIs_shape h with ⟨i,t,rfl,rfl⟩ | ⟨x,t,rfl,rfl⟩ <;> rfl
 pyHash:=fun hv h=>by
  rcases keyIs_shape hv with ⟨i,t,rfl,rfl⟩ | ⟨x,t,rfl,rfl⟩
  ·exact wpAny_pyHash_int h
  ·exact wpAny_pyHash_str h
 eqBool:=fun hu hv h=>by
  rcases keyIs_shape hu with ⟨i,t,rfl,rfl⟩ | ⟨x,t,rfl,rfl⟩
  ·rcases keyIs_shape hv with ⟨j,u,rfl,rfl⟩ | ⟨y,u,rfl,rfl⟩
   ·rw [key_ll] at h; exact wpAny_eqBool_int h
   ·rw [key_lr] at h; exact SeqAt.EqAt.int_str i t y u _ _ _ _ h
  ·rcases keyIs_shape hv with ⟨j,u,rfl,rfl⟩ | ⟨y,u,rfl,rfl⟩
   ·rw [key_rl] at h; exact SeqAt.EqAt.str_int x t j u _ _ _ _ h
   ·rw [key_rr] at h; exact wpAny_eqBool_str h
 «strs»:=fun k x t v h=>by
  rcases keyIs_shape h with ⟨i,u,rfl,e⟩ | ⟨y,u,rfl,e⟩
  ·exact nomatch e
  ·injection e with e1 _
   subst e1
   cases v <;> rfl
theorem mixKind_is (prog : Program) (w : World) (k : Key) (v : Value) : (mixKind prog w).is k v = keyIs k v:=rfl
theorem mixKind_int (prog : Program) (w : World) (i : Int) (t : Tok) : (mixKind prog w).is (.inl i) (.int i t) = true:=keyIs_int i t
theorem mixKind_str (prog : Program) (w : World) (x : Str) (t : Tok) : (mixKind prog w).is (.inr x) (.str x t) = true:=keyIs_str x t
end L2
namespace L2
open PySem PySem.Spec PyProof.Rows
inductive V where
 | non | bl (b : Bool) | int (i : Int) | str (x : Str) | byt (b : Array UInt8) | flt (b : UInt64) | ref (a : Addr) | ty (n : String)
 deriving DecidableEq
noncomputable def RelV : V→Value→Prop
 | .non,u=>u = Value.none
 | .bl b,u=>u = Value.bool b
 | .int i,u=>∃ t,u = Value.int i t
 | .str x,u=>∃ t,u = Value.str x t
 | .byt b,u=>∃ t,u = Value.bytes b t
 | .flt b,u=>∃ t,u = Value.float b t
 | .ref a,u=>u = Value.ref a
 | .ty n,u=>u = Value.type n
noncomputable abbrev Vals : List V→List Value→Prop:=Paired RelV
theorem Vals.length {xs : List V} {us : List Value} (r : Vals xs us) : xs.length = us.length:=Paired.length r
theorem Vals.get : ∀ {xs : List V} {us : List Value} {i : Nat} {x : V},Vals xs us→xs[i]? = some x→∃ u,us[i]? = some u∧RelV x u
 | _,_,_,_,.nil,e=>by simp at e
 | _,_,0,_,.cons r _,e=>by simp at e; subst e; exact ⟨_,rfl,r⟩
 | _,_,i + 1,x,.cons _ t,e=>by
  obtain ⟨u,h1,h2⟩:=Vals.get (i:=i) (x:=x) t (by simpa using e)
  exact ⟨u,by simpa using h1,h2⟩
theorem Vals.set {x : V} {u : Value} (r : RelV x u) : ∀ {xs : List V} {us : List Value} (i : Nat),Vals xs us→Vals (xs.set i x) (us.set i u)
 | _,_,_,.nil=>.nil
 | _,_,0,.cons _ t=>.cons r t
 | _,_,i + 1,.cons q t=>.cons q (Vals.set r i t)
theorem Vals.append : ∀ {xs ys : List V} {us ws : List Value},Vals xs us→Vals ys ws→Vals (xs ++ ys) (us ++ ws)
 | _,_,_,_,.nil,s=>s
 | _,_,_,_,.cons r t,s=>.cons r (Vals.append t s)
theorem Vals.take : ∀ {xs : List V} {us : List Value} (n : Nat),Vals xs us→Vals (xs.take n) (us.take n)
 | _,_,0,_=>.nil
 | _,_,_ + 1,.nil=>.nil
 | _,_,n + 1,.cons r t=>.cons r (Vals.take n t)
theorem Vals.drop : ∀ {xs : List V} {us : List Value} (n : Nat),Vals xs us→Vals (xs.drop n) (us.drop n)
 | _,_,0,r=>r
 | _,_,_ + 1,.nil=>.nil
 | _,_,n + 1,.cons _ t=>Vals.drop n t
theorem Vals.none_of : ∀ {xs : List V} {us : List Value} {i : Nat},Vals xs us→xs[i]? = none→us[i]? = none:=fun {xs us i} r e=>by
 have h1:=r.length
 have h2 : xs.length≤i:=List.getElem?_eq_none_iff.mp e
 exact List.getElem?_eq_none_iff.mpr (by omega)
noncomputable def RelO : Option V→Option Value→Prop
 | some v,some u=>RelV v u
 | none,none=>True
 | _,_=>False
noncomputable def KV {κ : Type} : List (κ × V)→List (κ × Value)→Prop:=Paired fun (p : κ × V) (q : κ × Value)=>p.1 = q.1∧RelV p.2 q.2
noncomputable def kV : Key→V
 | .inl i=>.int i
 | .inr x=>.str x
inductive HO where
 | lst (xs : List V)
 | tup (xs : List V)
 | dK (kvs : List (Key × V)) | dT (kvs : List (List Key × V))
 | set (S : Int→Bool) (n : Nat)
 | ins (C dx : Addr) (fs : List (Str × V))
 | own (x : Addr)
 | xd (fs : List (Str × V))
 | met (f x : Addr)
 | rng (lo hi : Int)
 | frz (o : Obj) (u : HO)
 | tbl (ps : Array Value)
 | ext (φ : Heap→Prop)
noncomputable abbrev Hp:=Addr→Option HO
noncomputable def upd (H : Hp) (a : Addr) (o : HO) : Hp:=fun b=>if b = a then some o else H b
theorem upd_same {H : Hp} {a : Addr} {o : HO} : upd H a o a = some o:=by unfold upd; rw [if_pos rfl]
theorem upd_ne {H : Hp} {a b : Addr} {o : HO} (h : b ≠ a) : upd H a o b = H b:=by unfold upd; rw [if_neg h]
theorem upd_upd {H : Hp} {a : Addr} {o u : HO} : upd (upd H a o) a u = upd H a u:=by
 funext b; unfold upd; split <;> rfl
theorem ne_of {H : Hp} {a b : Addr} {o u : HO} (h : H a = some o) (h' : H b = some u) (d : o ≠ u) : a ≠ b:=by
 intro e; subst e; rw [h] at h'; exact d (Option.some.inj h')
theorem ne_of_none {H : Hp} {a b : Addr} {o : HO} (h : H a = some o) (h' : H b = none) : a ≠ b:=by
 intro e; subst e; rw [h] at h'; cases h'
section
variable (P : Program) (w : World)
noncomputable def ObjOk (H : Hp) (h : Heap) (a : Addr) : HO→Prop
 | .lst xs=>xs.length≤sizeLine∧∃ (its : List Value) (n : Nat),Vals xs its∧h.get? a = some { cls:=.type "list",data:=.seq its.toArray n }
 | .tup xs=>xs.length≤sizeLine∧∃ its : List Value,Vals xs its∧IsTup h a its.toArray
 | .dK kvs=>kvs.length≤sizeLine∧(a == sysModules) = false∧∃ vs,KV kvs vs∧h.DictOf (mixKind P w) a vs
 | .dT kvs=>kvs.length≤sizeLine∧(a == sysModules) = false∧∃ xs : List (List Key × Addr × Value),
   Paired (fun (p : List Key × V) (q : List Key × Addr × Value)=>p.1 = q.1∧H q.2.1 = some (.tup (p.1.map kV))∧RelV p.2 q.2.2) kvs xs ∧
   ∃ o es ep,h.get? a = some o∧o.ExactDict∧o.data = .dict es ep∧es.toList = xs.map (entryOfKey (tupleKind (mixKind P w)))∧(xs.map (·.1)).Nodup
 | .set S n=>h.SetOf (intKind P w) a S n
 | .ins C dx fs=>H dx = some (.own a)∧fs.length≤1000∧dx ≠ a∧h.get? a = some (PySem.W.instObj C dx) ∧
   ∃ mA,h.Ns1 dx mA∧(∀ f,RelO (fs.lookup f) (mA f))∧PySem.Within mA (fs.map (·.1))
 | .own _=>∃ o,h.get? a = some o
 | .xd fs=>∃ mA,h.Ns1 a mA∧∀ f,RelO (fs.lookup f) (mA f)
 | .rng lo hi=>∃ t u v,h.get? a = some { cls:=.type "range",data:=.fields #[.int lo t,.int hi u,.int 1 v] }
 | .frz o u=>h.get? a = some o∧ObjOk H h a u
 | .tbl ps=>h.get? a = some { cls:=.none,data:=.fields ps }
 | .met f x=>h.get? a = some (PySem.W.methodObj (.ref f) (.ref x))
 | .ext φ=>φ h∧(∃ o,h.get? a = some o)∧∀ h1 h2 : Heap,φ h1→(∀ o,h1.get? a = some o→h2.get? a = some o)→φ h2
noncomputable def HOk (H : Hp) (h : Heap) : Prop:=∀ a o,H a = some o→ObjOk P w H h a o
end
section
variable {P : Program} {w : World} {H H' : Hp} {h h' : Heap} {a : Addr} {o : HO}
theorem ObjOk.lt (x : ObjOk P w H h a o) : a < h.objs.size:=by
 cases o with
 | lst xs=>obtain ⟨_,_,_,_,e⟩:=x; exact Heap.lt_size e
 | tup xs=>obtain ⟨_,_,_,p⟩:=x; exact p.lt
 | dK kvs=>obtain ⟨_,_,_,_,o,_,_,e,_⟩:=x; exact Heap.lt_size e
 | dT kvs=>obtain ⟨_,_,_,_,o,_,_,e,_⟩:=x; exact Heap.lt_size e
 | set S n=>obtain ⟨o,_,_,_,e,_⟩:=x; exact Heap.lt_size e
 | ins C dx fs=>obtain ⟨_,_,_,e,_⟩:=x; exact Heap.lt_size e
 | own y=>obtain ⟨_,e⟩:=x; exact Heap.lt_size e
 | xd fs=>obtain ⟨_,⟨_,_,_,e,_⟩,_⟩:=x; exact Heap.lt_size e
 | rng lo hi=>obtain ⟨_,_,_,e⟩:=x; exact Heap.lt_size e
 | frz ob u=>obtain ⟨e,_⟩:=x; exact Heap.lt_size e
 | tbl ps=>exact Heap.lt_size (show h.get? a = some _ from x)
 | met f y=>exact Heap.lt_size (show h.get? a = some _ from x)
 | ext φ=>obtain ⟨_,⟨_,e⟩,_⟩:=x; exact Heap.lt_size e
theorem Paired.mapP {α β : Type} {F G : α→β→Prop} : ∀ {l₁ : List α} {l₂ : List β},Paired F l₁ l₂→(∀ a b,F a b→G a b)→Paired G l₁ l₂
 | _,_,.nil,_=>.nil
 | _,_,.cons r t,f=>.cons (f _ _ r) (Paired.mapP t f)
theorem ObjOk.stay (x : ObjOk P w H h a o) (k : ∀ b u,(b = a∨H b = some (.own a))→h.get? b = some u→h'.get? b = some u)
  (ho : ∀ b,H b = some (.own a)→H' b = some (.own a)) (ht : ∀ b xs,H b = some (.tup xs)→H' b = some (.tup xs)) : ObjOk P w H' h' a o:=by
 induction o with
 | lst xs=>obtain ⟨z,its,n,r,e⟩:=x; exact ⟨z,its,n,r,k _ _ (.inl rfl) e⟩
 | tup xs=>obtain ⟨z,its,r,ob,e,c⟩:=x; exact ⟨z,its,r,ob,k _ _ (.inl rfl) e,c⟩
 | dK kvs=>obtain ⟨z,y,vs,r,ob,es,ep,e,c⟩:=x; exact ⟨z,y,vs,r,ob,es,ep,k _ _ (.inl rfl) e,c⟩
 | dT kvs =>
  obtain ⟨z,y,xs,r,ob,es,ep,e,c⟩:=x
  exact ⟨z,y,xs,Paired.mapP r fun p q z=>⟨z.1,ht _ _ z.2.1,z.2.2⟩,ob,es,ep,k _ _ (.inl rfl) e,c⟩
 | set S n=>obtain ⟨ob,es,ep,t,e,c⟩:=x; exact ⟨ob,es,ep,t,k _ _ (.inl rfl) e,c⟩
 | ins C dx fs =>
  obtain ⟨d,z,ne,e,mA,⟨od,es,ep,e2,c⟩,r⟩:=x
  exact ⟨ho _ d,z,ne,k _ _ (.inl rfl) e,mA,⟨od,es,ep,k _ _ (.inr d) e2,c⟩,r⟩
 | own y=>obtain ⟨ob,e⟩:=x; exact ⟨ob,k _ _ (.inl rfl) e⟩
 | xd fs=>obtain ⟨mA,⟨od,es,ep,e,c⟩,r⟩:=x; exact ⟨mA,⟨od,es,ep,k _ _ (.inl rfl) e,c⟩,r⟩
 | rng lo hi=>obtain ⟨t,u,v,e⟩:=x; exact ⟨t,u,v,k _ _ (.inl rfl) e⟩
 | frz ob u ih=>obtain ⟨e,q⟩:=x; exact ⟨k _ _ (.inl rfl) e,ih q⟩
 | tbl ps =>
  have e : h.get? a = some { cls:=.none,data:=.fields ps }:=x
  show h'.get? a = some { cls:=.none,data:=.fields ps }
  exact k a _ (.inl rfl) e
 | met f y =>
  have e : h.get? a = some (PySem.W.methodObj (.ref f) (.ref y)):=x
  show h'.get? a = some (PySem.W.methodObj (.ref f) (.ref y))
  exact k a _ (.inl rfl) e
 | ext φ=>obtain ⟨p,⟨o,e⟩,st⟩:=x; exact ⟨st _ _ p fun o q=>k _ _ (.inl rfl) q,⟨o,k _ _ (.inl rfl) e⟩,st⟩
theorem HOk.lt (x : HOk P w H h) (e : H a = some o) : a < h.objs.size:=(x a o e).lt
theorem HOk.fresh (x : HOk P w H h) (e : h.objs.size≤a) : H a = none:=by
 cases q : H a with
 | none=>rfl
 | some u=>exact absurd (Nat.lt_of_lt_of_le (x.lt q) e) (Nat.lt_irrefl _)
theorem HOk.kept (x : HOk P w H h) (k : ∀ b u,h.get? b = some u→h'.get? b = some u) : HOk P w H h':=fun a o e =>
 (x a o e).stay (fun b u _ q=>k b u q) (fun _ q=>q) fun _ _ q=>q
theorem HOk.laid (x : HOk P w H h) (k : ∀ b u,h.get? b = some u→h'.get? b = some u) (hp : h.objs.size≤a) (new : ObjOk P w (upd H a o) h' a o) : HOk P w (upd H a o) h':=fun b u e=>by
 have hn:=x.fresh hp
 by_cases hb : b = a
 ·subst hb; rw [upd_same] at e; cases e; exact new
 ·rw [upd_ne hb] at e
  exact (x b u e).stay (fun c v _ q=>k c v q) (fun c q=>by rw [upd_ne (ne_of_none q hn)]; exact q) fun c xs q=>by rw [upd_ne (ne_of_none q hn)]; exact q
end
noncomputable def Rd (H : Hp) (a : Addr) (u : HO) : Prop:=H a = some u∨∃ o,H a = some (.frz o u)
theorem Rd.of {H : Hp} {a : Addr} {u : HO} (h : H a = some u) : Rd H a u:=.inl h
theorem Rd.ok {P : Program} {w : World} {H : Hp} {h : Heap} {a : Addr} {u : HO} (r : Rd H a u) (x : HOk P w H h) : ObjOk P w H h a u:=by
 rcases r with r | ⟨o,r⟩
 ·exact x a u r
 ·obtain ⟨_,q⟩:=x a _ r
  exact q
noncomputable def Mut : Option HO→Prop
 | some (.lst _)=>True
 | some (.dK _)=>True
 | some (.dT _)=>True
 | some (.set _ _)=>True
 | some (.ins _ _ _)=>True
 | some (.ext _)=>True
 | _=>False
section
variable {P : Program} {w : World} {H : Hp} {h h' : Heap} {x e : Addr} {o' : HO}
theorem HOk.write (ok : HOk P w H h) (mu : Mut (H x)) (he : e = x∨H e = some (.own x)) (k : ∀ b u,b ≠ e→h.get? b = some u→h'.get? b = some u) (heo : ∃ u,h'.get? e = some u)
  (new : ObjOk P w (upd H x o') h' x o') : HOk P w (upd H x o') h':=fun b u q=>by
 have nown : ∀ c y,H c = some (.own y)→c ≠ x:=fun c y r z=>by subst z; rw [r] at mu; exact mu
 have ntup : ∀ c xs,H c = some (.tup xs)→c ≠ x:=fun c xs r z=>by subst z; rw [r] at mu; exact mu
 by_cases hb : b = x
 ·subst hb; rw [upd_same] at q; cases q; exact new
 ·rw [upd_ne hb] at q
  by_cases hbe : b = e
  ·have q' : H b = some (.own x):=by
    rcases he with z | z
    ·exact absurd (hbe.trans z) hb
    ·rw [hbe]; exact z
   rw [q] at q'; cases q'
   obtain ⟨v,hv⟩:=heo
   exact ⟨v,by rw [hbe]; exact hv⟩
  ·refine (ok b u q).stay (fun c v hc r=>k c v ?_ r) (fun c r=>by rw [upd_ne (nown c b r)]; exact r) fun c xs r=>by rw [upd_ne (ntup c xs r)]; exact r
   rcases hc with rfl | hc
   ·exact hbe
   ·rintro rfl
    rcases he with z | z
    ·exact nown c b hc z
    ·rw [hc] at z; cases z; exact hb rfl
end
structure Un (fs ex : List Addr) (H H' : Hp) (h h' : Heap) : Prop where
 keep : ∀ b o,h.get? b = some o→H b = none→b ∉ fs→b ∉ ex→h'.get? b = some o
 slot : ∀ b o,h.get? b = some o→H b = none→b∈fs→b ∉ ex→∃ sl,h'.get? b = some { o with slots:=sl }
 free : ∀ b o,h.get? b = some o→H b = none→b ∉ ex→H' b = none
 there : ∀ b o,h.get? b = some o→b ∉ ex→∃ o',h'.get? b = some o'
 tups : ∀ b xs,H b = some (.tup xs)→H' b = some (.tup xs)
 frzs : ∀ b o u,H b = some (.frz o u)→H' b = some (.frz o u)
 tbls : ∀ b ps,H b = some (.tbl ps)→∃ more,H' b = some (.tbl (ps ++ more))
section
variable {fs fs' ex ex' : List Addr} {H H1 H2 : Hp} {h h1 h2 h' : Heap} {a x e : Addr} {o : HO}
theorem Un.any (u : Un fs ex H H1 h h1) {b : Addr} {ob : Obj} (q : h.get? b = some ob) (n : H b = none) (hx : b ∉ ex) : ∃ sl,h1.get? b = some { ob with slots:=sl }:=by
 by_cases hb : b∈fs
 ·exact u.slot b ob q n hb hx
 ·exact ⟨ob.slots,u.keep b ob q n hb hx⟩
theorem Un.trans (a : Un fs ex H H1 h h1) (b : Un fs ex H1 H2 h1 h2) : Un fs ex H H2 h h2 where
 keep:=fun c ob q n hc hx=>b.keep c ob (a.keep c ob q n hc hx) (a.free c ob q n hx) hc hx
 slot:=fun c ob q n hc hx=>by
  obtain ⟨sl,e1⟩:=a.slot c ob q n hc hx
  obtain ⟨sl',e2⟩:=b.slot c _ e1 (a.free c ob q n hx) hc hx
  exact ⟨sl',e2⟩
 free:=fun c ob q n hx=>by
  obtain ⟨o',e1⟩:=a.there c ob q hx
  exact b.free c o' e1 (a.free c ob q n hx) hx
 there:=fun c ob q hx=>by
  obtain ⟨o',e1⟩:=a.there c ob q hx
  exact b.there c o' e1 hx
 tups:=fun c xs q=>b.tups c xs (a.tups c xs q)
 frzs:=fun c ob xs q=>b.frzs c ob xs (a.frzs c ob xs q)
 tbls:=fun c ps q=>by
  obtain ⟨m1,e1⟩:=a.tbls c ps q
  obtain ⟨m2,e2⟩:=b.tbls c _ e1
  exact ⟨m1 ++ m2,by rw [e2,Array.append_assoc]⟩
theorem Un.kept (k : ∀ b u,h.get? b = some u→h'.get? b = some u) : Un fs ex H H h h' :=
 ⟨fun b ob q _ _ _=>k b ob q,fun b ob q _ _ _=>⟨ob.slots,k b ob q⟩,fun _ _ _ n _=>n,fun b ob q _=>⟨ob,k b ob q⟩,fun _ _ q=>q,fun _ _ _ q=>q,fun _ ps q=>⟨#[],by rw [q]; simp⟩⟩
theorem Un.refl : Un fs ex H H h h:=Un.kept fun _ _ q=>q
theorem Un.laid (k : ∀ b u,h.get? b = some u→h'.get? b = some u) (hp : h.objs.size≤a) (hn : H a = none) : Un fs ex H (upd H a o) h h' where
 keep:=fun b u q _ _ _=>k b u q
 slot:=fun b u q _ _ _=>⟨u.slots,k b u q⟩
 free:=fun b u q n _=>by rw [upd_ne (Nat.ne_of_lt (Nat.lt_of_lt_of_le (Heap.lt_size q) hp))]; exact n
 there:=fun b u q _=>⟨u,k b u q⟩
 tups:=fun b xs q=>by rw [upd_ne (ne_of_none q hn)]; exact q
 frzs:=fun b u xs q=>by rw [upd_ne (ne_of_none q hn)]; exact q
 tbls:=fun b ps q=>⟨#[],by rw [upd_ne (ne_of_none q hn),q]; simp⟩
theorem Un.write (mu : Mut (H x)) (he : e = x∨H e = some (.own x)) (k : ∀ b u,b ≠ e→h.get? b = some u→h'.get? b = some u) (heo : ∃ u,h'.get? e = some u) : Un fs ex H (upd H x o) h h':=by
 have hx : ∀ b,H b = none→b ≠ x:=fun b n z=>by subst z; rw [n] at mu; exact mu
 have hb : ∀ b,H b = none→b ≠ e:=fun b n z=>by
  subst z
  rcases he with r | r
  ·exact hx b n r
  ·rw [n] at r; cases r
 have hm : ∀ b u,H b = some u→¬ Mut (some u)→b ≠ x:=fun b u q nm z=>by subst z; rw [q] at mu; exact nm mu
 refine ⟨fun b u q n _ _=>k b u (hb b n) q,fun b u q n _ _=>⟨u.slots,k b u (hb b n) q⟩,fun b u q n _=>by rw [upd_ne (hx b n)]; exact n,fun b u q _=>?_,
  fun b xs q=>by rw [upd_ne (hm b _ q fun z=>z)]; exact q,fun b u xs q=>by rw [upd_ne (hm b _ q fun z=>z)]; exact q,fun b ps q=>⟨#[],by rw [upd_ne (hm b _ q fun z=>z),q]; simp⟩⟩
 by_cases hbe : b = e
 ·subst hbe; exact heo
 ·exact ⟨u,k b u hbe q⟩
end
noncomputable def trk (h : Heap) (H : Hp) : List Addr:=(List.range h.objs.size).filter fun a=>(H a).isSome
noncomputable def hidT (h : Heap) (H : Hp) : Heap:=PySem.W.hideAll h (trk h H)
theorem hidT_size (h : Heap) (H : Hp) : (hidT h H).objs.size = h.objs.size:=PySem.W.hideAll_size _ _
theorem hidT_get {h : Heap} {H : Hp} {b : Addr} {o : Obj} (e : h.get? b = some o) (n : H b = none) : (hidT h H).get? b = some o :=
 PySem.W.hideAll_get _ e fun hm=>by
  have q : (H b).isSome = true:=(List.mem_filter.mp hm).2
  rw [n] at q; simp at q
theorem of_hidT {h : Heap} {H : Hp} {b : Addr} {o : Obj} (e : (hidT h H).get? b = some o) : h.get? b = some o∧H b = none:=by
 have e' : h.get? b = some o:=PySem.W.of_hideAll (trk h H) e
 refine ⟨e',?_⟩
 cases q : H b with
 | none=>rfl
 | some x =>
  have hm : b∈trk h H:=List.mem_filter.mpr ⟨List.mem_range.mpr (Heap.lt_size e'),by simp [q]⟩
  have z : (hidT h H).get? b = none:=PySem.W.hideAll_none (trk h H) hm
  rw [z] at e; cases e
noncomputable def allNews (g h : Heap) (L : Addr) : List (Addr × Obj):=(List.range h.objs.size).filterMap fun a=>if a = L∨(g.get? a).isSome = true then none else (h.get? a).map fun o=>(a,o)
noncomputable def rest (g h : Heap) (L d : Addr) : List (Addr × Obj):=(allNews g h L).filter fun p=>decide (p.1 ≠ d)
end L2
namespace L2
open PySem PySem.Spec PyProof.Rows
structure Mod (K : PySem.W.Frag) (mg : Str→Option Value) (base : Heap) : Prop where
 kin : K.In base
 glob : base.Ns mainGlobals mg
 blt : ∃ mb,base.Ns builtinsNs mb∧∀ x : Str,x ≠ "__name__"→mb x = bootBuiltins x
 nolimit : base.NoLimit
structure Cx where
 prog : Program
 w : World
 K : PySem.W.Frag
 mg : Str→Option Value
 base : Heap
 A : Around
 N : List Str
 s₀ : Shared
 H₀ : Hp
 env : Env
 outer : List Env
 stack : List Env
 ex : List Addr
 fn : Str→Bool
 calm : Bool
 pn : List (Addr × Obj)
 xe : Value→Shared→Prop
noncomputable def frs (l : List Env) : List Addr:=l.filterMap (·.frame)
noncomputable abbrev Cx.fs (X : Cx) : List Addr:=frs X.outer
noncomputable def Vis (sc : Scope) (x : Str) : Prop:=sc.names.lookup x = some .local∨sc.names.lookup x = some .cell∨sc.names.lookup x = some .free
noncomputable def Loc (sc : Scope) (x : Str) : Prop:=sc.names.lookup x = some .local∨sc.names.lookup x = some .cell
noncomputable def Look (env : Env) (h : Heap) (m : Str→Option Value) (x : Str) (u : Value) : Prop :=
 (env.kindOf x = some .local∧m x = some u)∨((env.kindOf x = some .cell∨env.kindOf x = some .free)∧∃ c,env.cells.lookup x = some c∧h.IsCell c (some u))
structure Cx.Ok (X : Cx) : Prop where
 mod : Mod X.K X.mg X.base
 kind : X.env.scope.kind = .function
 glob : X.env.globals = mainGlobals
 blt : X.env.builtins = builtinsNs
 above : X.s₀.heap.objs.size≤X.env.locals
 inj : ∀ x y c,X.env.cells.lookup x = some c→X.env.cells.lookup y = some c→x = y
 has : ∀ x,(X.env.kindOf x = some .cell∨X.env.kindOf x = some .free)→∃ c,X.env.cells.lookup x = some c
 cab : ∀ x c,X.fn x = true→X.env.cells.lookup x = some c→X.s₀.heap.objs.size≤c
 hd : X.calm = true→X.A.handled = none
 frames : X.A.frames = some X.stack
 stk : X.stack = X.outer∨(X.stack = X.env :: X.outer∧X.env.frame = some X.env.locals)
 exf : ∀ b∈X.ex,b ≠ X.env.locals∧∀ x c,X.env.cells.lookup x = some c→c ≠ b
 bs : ∀ b o,X.base.get? b = some o→X.s₀.heap.get? b = some o∧X.H₀ b = none
 bsz : X.base.objs.size≤X.s₀.heap.objs.size
 noex : ∀ b o,X.base.get? b = some o→b ∉ X.ex
 exfs : ∀ b∈X.ex,b ∉ X.fs
 funs : X.s₀.heap.FunFrames X.base X.outer
 frf : ∀ b∈X.fs,X.H₀ b = none
structure Inv (X : Cx) (pins : List (Addr × Obj)) (σ : List (Option V)) (H : Hp) (s : Shared) : Prop where
 ok : X.Ok
 os : s.os = X.s₀.os
 bare : AllBare s.gens
 base : Un X.fs X.ex X.H₀ H X.s₀.heap s.heap
 loc : ∃ m,s.heap.Ns X.env.locals m∧∀ (i : Nat) (x : Str) (v : V),X.N[i]? = some x→σ[i]? = some (some v)→Vis X.env.scope x→∃ u,RelV v u∧Look X.env s.heap m x u
 cell : ∀ x c,X.env.cells.lookup x = some c→∃ v,s.heap.IsCell c v
 free : H X.env.locals = none
 freeC : ∀ x c,X.env.cells.lookup x = some c→H c = none
 pin : ∀ p∈X.pn ++ pins,s.heap.get? p.1 = some p.2∧H p.1 = none∧p.1 ≠ X.env.locals∧p.1 ∉ X.fs∧∀ v,p.2.data ≠ .cell v
 hok : HOk X.prog X.w H s.heap
 len : σ.length = X.N.length
section
variable {X : Cx} {pins : List (Addr × Obj)} {σ : List (Option V)} {H H' : Hp} {s : Shared} {h' : Heap}
theorem Cx.Ok.nofr (ok : X.Ok) {b : Addr} {o : Obj} (e : X.base.get? b = some o) : b ∉ X.fs:=fun hb=>by
 have:=(ok.funs.mem hb).1
 rw [e] at this; cases this
theorem Inv.bs (I : Inv X pins σ H s) : ∀ b o,X.base.get? b = some o→s.heap.get? b = some o∧H b = none:=fun b o e =>
 ⟨I.base.keep b o (I.ok.bs b o e).1 (I.ok.bs b o e).2 (I.ok.nofr e) (I.ok.noex b o e),I.base.free b o (I.ok.bs b o e).1 (I.ok.bs b o e).2 (I.ok.noex b o e)⟩
theorem Inv.bk (I : Inv X pins σ H s) : ∀ b o,X.base.get? b = some o→s.heap.get? b = some o:=fun b o e=>(I.bs b o e).1
theorem Inv.mod (I : Inv X pins σ H s) : Mod X.K X.mg X.base:=I.ok.mod
theorem Inv.kIn (I : Inv X pins σ H s) : X.K.In s.heap:=I.ok.mod.kin.keeps I.bk
theorem Inv.fr (I : Inv X pins σ H s) : ∃ m,Fr X.base X.env.locals s.heap m :=
 let ⟨m,hn,_⟩:=I.loc
 ⟨m,hn,I.bk,Nat.le_trans I.ok.bsz I.ok.above⟩
theorem Inv.lt (I : Inv X pins σ H s) : X.env.locals < s.heap.objs.size:=let ⟨_,hn,_⟩:=I.loc; hn.lt
theorem Inv.sz (I : Inv X pins σ H s) : X.s₀.heap.objs.size≤s.heap.objs.size:=Nat.le_trans I.ok.above (Nat.le_of_lt I.lt)
theorem Inv.nofs (I : Inv X pins σ H s) {a : Addr} (h : s.heap.objs.size≤a) : a ∉ X.fs:=fun hb=>by
 obtain ⟨_,o,ho,_⟩:=I.ok.funs.mem hb
 exact absurd (Nat.lt_of_lt_of_le (Heap.lt_size ho) (Nat.le_trans I.sz h)) (Nat.lt_irrefl _)
theorem Inv.cne (I : Inv X pins σ H s) : ∀ x c,X.env.cells.lookup x = some c→c ≠ X.env.locals:=fun x c e z=>by
 obtain ⟨v,o,ho,hd⟩:=I.cell x c e
 obtain ⟨m,⟨o',es,ep,ho',hd',_⟩,_⟩:=I.loc
 rw [z,ho'] at ho; cases ho; rw [hd'] at hd; cases hd
theorem Inv.funs (I : Inv X pins σ H s) : s.heap.FunFrames X.base X.outer:=by
 have all : ∀ (l : List Env),(∀ b∈frs l,b∈X.fs)→X.s₀.heap.FunFrames X.base l→s.heap.FunFrames X.base l:=by
  intro l
  induction l with
  | nil=>intro _ _; trivial
  | cons env r ih =>
   intro hs hl
   obtain ⟨hk,⟨L,o,hf,hn,ho,hd⟩,hr⟩:=hl
   have hL : L∈X.fs:=hs L (by unfold frs; rw [List.filterMap_cons,hf]; exact List.mem_cons_self)
   obtain ⟨sl,e⟩:=I.base.slot L o ho (I.ok.frf L hL) hL fun z=>I.ok.exfs L z hL
   exact ⟨hk,⟨L,_,hf,hn,e,hd⟩,ih (fun b hb=>hs b (by unfold frs; rw [List.filterMap_cons,hf]; exact List.mem_cons_of_mem _ hb)) hr⟩
 exact all X.outer (fun _ hb=>hb) I.ok.funs
theorem Inv.stack (I : Inv X pins σ H s) : s.heap.FunFrames X.base X.stack:=by
 rcases I.ok.stk with e | ⟨e,hf⟩
 ·rw [e]; exact I.funs
 ·rw [e]
  obtain ⟨m,hn,_⟩:=I.loc
  refine .cons (by rw [I.ok.kind]; decide) hf hn ?_ I.funs
  exact Heap.get?_none_of_le (Nat.le_trans I.ok.bsz I.ok.above)
theorem Inv.stkSub (I : Inv X pins σ H s) : ∀ b∈frs X.stack,b∈X.env.locals :: X.fs:=fun b hb=>by
 rcases I.ok.stk with e | ⟨e,hf⟩
 ·rw [e] at hb; exact List.mem_cons_of_mem _ hb
 ·rw [e] at hb
  unfold frs at hb
  rw [List.filterMap_cons,hf] at hb
  exact hb
theorem Inv.stkFree (I : Inv X pins σ H s) : ∀ b∈frs X.stack,H b = none:=fun b hb=>by
 rcases List.mem_cons.mp (I.stkSub b hb) with e | hb
 ·rw [e]; exact I.free
 ·obtain ⟨_,o,ho,_⟩:=I.ok.funs.mem hb
  exact I.base.free b o ho (I.ok.frf b hb) fun z=>I.ok.exfs b z hb
theorem Inv.step {g' : Array GenState} {t' : Nat} {d' : Drawn} {ch : List Addr} (I : Inv X pins σ H s)
  (hch : ∀ b∈ch,(b∈X.ex∨X.s₀.heap.objs.size≤b)∧b ≠ X.env.locals∧(∀ x c,X.env.cells.lookup x = some c→c ≠ b)∧∀ p∈X.pn ++ pins,p.1 ≠ b)
  (keep : ∀ b o,b ≠ X.env.locals→b ∉ X.fs→b ∉ ch→s.heap.get? b = some o→H b = none→h'.get? b = some o)
  (slot : ∀ b o,b ≠ X.env.locals→b∈X.fs→b ∉ ch→s.heap.get? b = some o→H b = none→∃ sl,h'.get? b = some { o with slots:=sl }) (free : ∀ b o,b ∉ ch→s.heap.get? b = some o→H b = none→H' b = none)
  (there : ∀ b o,b ∉ ch→s.heap.get? b = some o→∃ o',h'.get? b = some o')
  (tups : ∀ b xs,H b = some (.tup xs)→H' b = some (.tup xs)) (frzs : ∀ b o u,H b = some (.frz o u)→H' b = some (.frz o u)) (tbls : ∀ b ps,H b = some (.tbl ps)→∃ more,H' b = some (.tbl (ps ++ more)))
  (ns : ∀ m,s.heap.Ns X.env.locals m→h'.Ns X.env.locals m) (hok : HOk X.prog X.w H' h') (hg : AllBare g') :
  Inv X pins σ H' { s with heap:=h',gens:=g',drawn:=d',toks:=t' }:=by
 have neL : ∀ b o,X.s₀.heap.get? b = some o→b ≠ X.env.locals:=fun b o e=>Nat.ne_of_lt (Nat.lt_of_lt_of_le (Heap.lt_size e) I.ok.above)
 have neC : ∀ b o,X.s₀.heap.get? b = some o→b ∉ X.ex→b ∉ ch:=fun b o e hx hb=>by
  rcases (hch b hb).1 with z | z
  ·exact hx z
  ·exact absurd (Nat.lt_of_lt_of_le (Heap.lt_size e) z) (Nat.lt_irrefl _)
 have cellK : ∀ x c,X.env.cells.lookup x = some c→∀ v,s.heap.IsCell c v→h'.IsCell c v:=fun x c e v ⟨o,ho,hd⟩=>by
  have nch : c ∉ ch:=fun z=>(hch c z).2.2.1 x c e rfl
  by_cases hc : c∈X.fs
  ·obtain ⟨sl,q⟩:=slot c o (I.cne x c e) hc nch ho (I.freeC x c e)
   exact ⟨_,q,hd⟩
  ·exact ⟨o,keep c o (I.cne x c e) hc nch ho (I.freeC x c e),hd⟩
 refine ⟨I.ok,I.os,hg,⟨fun b o e n hb hx=>?_,fun b o e n hb hx=>?_,fun b o e n hx=>?_,fun b o e hx=>?_,fun b xs e=>tups b xs (I.base.tups b xs e),fun b o xs e=>frzs b o xs (I.base.frzs b o xs e),fun b ps e=>?_⟩,?_,fun x c e=>?_,?_,fun x c e=>?_,fun p hp=>?_,hok,I.len⟩
 ·exact keep b o (neL b o e) hb (neC b o e hx) (I.base.keep b o e n hb hx) (I.base.free b o e n hx)
 ·obtain ⟨sl,e1⟩:=I.base.slot b o e n hb hx
  obtain ⟨sl',e2⟩:=slot b _ (neL b o e) hb (neC b o e hx) e1 (I.base.free b o e n hx)
  exact ⟨sl',e2⟩
 ·obtain ⟨o',e1⟩:=I.base.there b o e hx
  exact free b o' (neC b o e hx) e1 (I.base.free b o e n hx)
 ·obtain ⟨o',e1⟩:=I.base.there b o e hx
  exact there b o' (neC b o e hx) e1
 ·obtain ⟨m1,e1⟩:=I.base.tbls b ps e
  obtain ⟨m2,e2⟩:=tbls b _ e1
  exact ⟨m1 ++ m2,by rw [e2,Array.append_assoc]⟩
 ·obtain ⟨m,hn,hl⟩:=I.loc
  refine ⟨m,ns m hn,fun i x v e1 e2 e3=>?_⟩
  obtain ⟨u,r,l⟩:=hl i x v e1 e2 e3
  refine ⟨u,r,?_⟩
  rcases l with l | ⟨k,c,e,z⟩
  ·exact .inl l
  ·exact .inr ⟨k,c,e,cellK x c e _ z⟩
 ·obtain ⟨v,z⟩:=I.cell x c e
  exact ⟨v,cellK x c e v z⟩
 ·obtain ⟨m,⟨o,_,_,ho,_⟩,_⟩:=I.loc
  exact free _ o (fun z=>(hch _ z).2.1 rfl) ho I.free
 ·obtain ⟨v,o,ho,hd⟩:=I.cell x c e
  exact free c o (fun z=>(hch c z).2.2.1 x c e rfl) ho (I.freeC x c e)
 ·obtain ⟨e,n,ne,nf,d⟩:=I.pin p hp
  have nch : p.1 ∉ ch:=fun z=>(hch p.1 z).2.2.2 p hp rfl
  exact ⟨keep p.1 p.2 ne nf nch e n,free p.1 p.2 nch e n,ne,nf,d⟩
theorem Inv.un {t' : Nat} (I : Inv X pins σ H s) (u : Un X.fs [] H H' s.heap h') (hok : HOk X.prog X.w H' h') : Inv X pins σ H' { s with heap:=h',toks:=t' }:=by
 obtain ⟨m,⟨o,es,ep,ho,r⟩,_⟩:=id I.loc
 obtain ⟨sl,hL⟩:=u.any ho I.free (by simp)
 exact I.step (g':=s.gens) (d':=s.drawn) (ch:=[]) (fun _ z=>nomatch z) (fun b o _ hb _ e n=>u.keep b o e n hb (by simp)) (fun b o _ hb _ e n=>u.slot b o e n hb (by simp)) (fun b o _ e n=>u.free b o e n (by simp)) (fun b o _ e=>u.there b o e (by simp)) u.tups u.frzs u.tbls (fun m' hm=>by
  obtain ⟨o',es',ep',ho',r'⟩:=hm
  rw [ho] at ho'; cases ho'
  exact ⟨_,es',ep',hL,r'⟩) hok I.bare
theorem Inv.call {g' : Array GenState} {t' : Nat} {d' : Drawn} {ch : List Addr} (I : Inv X pins σ H s) (u : Un (frs X.stack) ch H H' s.heap h') (hok : HOk X.prog X.w H' h') (hg : AllBare g')
  (hch : ∀ b∈ch,(b∈X.ex∨X.s₀.heap.objs.size≤b)∧b ≠ X.env.locals∧(∀ x c,X.env.cells.lookup x = some c→c ≠ b)∧∀ p∈X.pn ++ pins,p.1 ≠ b) :
  Inv X pins σ H' { s with heap:=h',gens:=g',drawn:=d',toks:=t' }:=by
 obtain ⟨m,⟨o,es,ep,ho,r⟩,_⟩:=id I.loc
 obtain ⟨sl,hL⟩:=u.any ho I.free fun z=>(hch _ z).2.1 rfl
 exact I.step (ch:=ch) hch (fun b o hL hb hc e n=>u.keep b o e n (fun z=>(List.mem_cons.mp (I.stkSub b z)).elim hL hb) hc) (fun b o _ _ hc e n=>u.any e n hc) (fun b o hc e n=>u.free b o e n hc) (fun b o hc e=>u.there b o e hc) u.tups u.frzs u.tbls (fun m' hm=>by
  obtain ⟨o',es',ep',ho',r'⟩:=hm
  rw [ho] at ho'; cases ho'
  exact ⟨_,es',ep',hL,r'⟩) hok hg
theorem Inv.turned {t' : Nat} {it : Addr} (I : Inv X pins σ H s) (k : ∀ b o,b ≠ it→s.heap.get? b = some o→h'.get? b = some o) (hn : H it = none) (hL : it ≠ X.env.locals)
  (h1 : it∈X.ex∨X.s₀.heap.objs.size≤it) (h2 : ∀ x c,X.env.cells.lookup x = some c→c ≠ it) (h3 : ∀ p∈X.pn ++ pins,p.1 ≠ it) : Inv X pins σ H { s with heap:=h',toks:=t' }:=by
 have nit : ∀ b u,H b = some u→b ≠ it:=fun b u e z=>by rw [z,hn] at e; cases e
 refine I.step (g':=s.gens) (d':=s.drawn) (ch:=[it]) (fun b hb=>?_) (fun b o _ _ hc e _=>k b o (fun z=>hc (by simp [z])) e) (fun b o _ _ hc e _=>⟨o.slots,k b o (fun z=>hc (by simp [z])) e⟩) (fun _ _ _ _ n=>n)
  (fun b o hc e=>⟨o,k b o (fun z=>hc (by simp [z])) e⟩) (fun _ _ e=>e) (fun _ _ _ e=>e) (fun b ps e=>⟨#[],by rw [e]; simp⟩) (fun m hm=>?_) (fun b u e=>?_) I.bare
 ·have e : b = it:=by simpa using hb
  subst e
  exact ⟨h1,hL,h2,h3⟩
 ·obtain ⟨o,es,ep,ho,r⟩:=hm
  exact ⟨o,es,ep,k _ o (Ne.symm hL) ho,r⟩
 ·refine (I.hok b u e).stay (fun c v hc q=>k c v ?_ q) (fun _ q=>q) fun _ _ q=>q
  rcases hc with z | z
  ·rw [z]; exact nit b u e
  ·exact nit c _ z
theorem Inv.tok (I : Inv X pins σ H s) (t : Nat) : Inv X pins σ H { s with toks:=t }:=I.un (h':=s.heap) (t':=t) Un.refl I.hok
theorem Inv.kept {t' : Nat} (I : Inv X pins σ H s) (k : ∀ b u,s.heap.get? b = some u→h'.get? b = some u) : Inv X pins σ H { s with heap:=h',toks:=t' }:=I.un (Un.kept k) (I.hok.kept k)
theorem Inv.laid {a : Addr} {o : HO} {t' : Nat} (I : Inv X pins σ H s) (k : ∀ b u,s.heap.get? b = some u→h'.get? b = some u) (hp : s.heap.objs.size≤a) (new : ObjOk X.prog X.w (upd H a o) h' a o) :
  Inv X pins σ (upd H a o) { s with heap:=h',toks:=t' }:=I.un (Un.laid k hp (I.hok.fresh hp)) (I.hok.laid k hp new)
theorem Inv.write {x e : Addr} {o : HO} {t' : Nat} (I : Inv X pins σ H s) (mu : Mut (H x)) (he : e = x∨H e = some (.own x)) (k : ∀ b u,b ≠ e→s.heap.get? b = some u→h'.get? b = some u) (heo : ∃ u,h'.get? e = some u)
  (new : ObjOk X.prog X.w (upd H x o) h' x o) : Inv X pins σ (upd H x o) { s with heap:=h',toks:=t' }:=I.un (Un.write mu he k heo) (I.hok.write mu he k heo new)
theorem Inv.weak {σ' : List (Option V)} (I : Inv X pins σ H s) (hl : σ'.length = σ.length) (w : ∀ (i : Nat) v,σ'[i]? = some (some v)→σ[i]? = some (some v)) : Inv X pins σ' H s :=
 ⟨I.ok,I.os,I.bare,I.base,let ⟨m,hn,hl'⟩:=I.loc; ⟨m,hn,fun i x v e1 e2 e3=>hl' i x v e1 (w i v e2) e3⟩,I.cell,I.free,I.freeC,I.pin,I.hok,hl.trans I.len⟩
theorem Inv.pins_of {pins' : List (Addr × Obj)} (I : Inv X pins σ H s) (h : ∀ p∈pins',s.heap.get? p.1 = some p.2∧H p.1 = none∧p.1 ≠ X.env.locals∧p.1 ∉ X.fs∧∀ v,p.2.data ≠ .cell v) : Inv X pins' σ H s :=
 ⟨I.ok,I.os,I.bare,I.base,I.loc,I.cell,I.free,I.freeC,fun p hp=>(List.mem_append.mp hp).elim (fun z=>I.pin p (List.mem_append_left _ z)) (h p),I.hok,I.len⟩
theorem nodup_ix {N : List Str} (hN : N.Nodup) {i j : Nat} {x : Str} (a : N[i]? = some x) (b : N[j]? = some x) : i = j:=by
 obtain ⟨h1,e1⟩:=List.getElem?_eq_some_iff.mp a
 obtain ⟨h2,e2⟩:=List.getElem?_eq_some_iff.mp b
 exact (List.getElem_inj hN).mp (e1.trans e2.symm)
theorem store_ok2 {M : Model} {A : Around} {E : Value→Shared→Prop} {i : Nat} {x : Str} {v : V} {u : Value} {Q : Unit→Shared→Prop} (I : Inv X pins σ H s) (hN : X.N.Nodup) (hi : X.N[i]? = some x) (hx : Loc X.env.scope x) (r : RelV v u)
  (h : ∀ s',Inv X pins (σ.set i (some v)) H s'→(∃ a,Heap.SameBut a s.heap s'.heap∧(a = X.env.locals∨X.env.cells.lookup x = some a))→Q () s') (hf : X.fn x = true∨X.env.scope.names.lookup x = some .local:=by first | exact .inl rfl | exact .inr rfl | assumption) : wpAny M A (storeName X.env x u) Q E s:=by
 obtain ⟨m,hn,hl⟩:=id I.loc
 have hcls : (X.env.scope.kind == .class || (X.env.scope.kind == .module && X.env.locals != X.env.globals)) = false:=by rw [I.ok.kind]; rfl
 have hiσ : i < σ.length:=by rw [I.len]; exact (List.getElem?_eq_some_iff.mp hi).1
 have cne:=I.cne
 have tracked : ∀ {a : Addr} {h' : Heap},(∃ o,s.heap.get? a = some o∧H a = none)→Heap.SameBut a s.heap h'→HOk X.prog X.w H h':=fun {a h'} ha hs b ob e=>by
  obtain ⟨_,_,hfree⟩:=ha
  refine (I.hok b ob e).stay (fun c w' hc q=>(hs.2 c ?_).trans q) (fun _ q=>q) fun _ _ q=>q
  rintro rfl
  rcases hc with rfl | hc
  ·rw [hfree] at e; cases e
  ·rw [hfree] at hc; cases hc
 rcases hx with hk | hk
 ·refine wpAny_storeName_local hk hn (fun h' hn' hs=>?_) hcls
  obtain ⟨oL,_,_,hoL,_⟩:=id hn
  refine h _ ⟨I.ok,I.os,I.bare,⟨fun b o e n hb hx=>?_,fun b o e n hb hx=>?_,I.base.free,fun b o e hx=>?_,I.base.tups,I.base.frzs,I.base.tbls⟩,⟨_,hn',fun j y v' e1 e2 e3=>?_⟩,fun y c e=>?_,I.free,I.freeC,fun p hp=>?_,tracked ⟨oL,hoL,I.free⟩ hs,by simpa using I.len⟩ ⟨_,hs,.inl rfl⟩
  ·exact (hs.2 b (Nat.ne_of_lt (Nat.lt_of_lt_of_le (Heap.lt_size e) I.ok.above))).trans (I.base.keep b o e n hb hx)
  ·obtain ⟨sl,e1⟩:=I.base.slot b o e n hb hx
   exact ⟨sl,(hs.2 b (Nat.ne_of_lt (Nat.lt_of_lt_of_le (Heap.lt_size e) I.ok.above))).trans e1⟩
  ·obtain ⟨o',e1⟩:=I.base.there b o e hx
   exact ⟨o',(hs.2 b (Nat.ne_of_lt (Nat.lt_of_lt_of_le (Heap.lt_size e) I.ok.above))).trans e1⟩
  ·by_cases hj : j = i
   ·subst hj
    rw [hi] at e1; cases e1
    rw [List.getElem?_set_self hiσ] at e2
    cases e2
    exact ⟨u,r,.inl ⟨hk,by simp⟩⟩
   ·rw [List.getElem?_set_ne (Ne.symm hj)] at e2
    obtain ⟨u',r',q⟩:=hl j y v' e1 e2 e3
    refine ⟨u',r',?_⟩
    rcases q with ⟨k,e⟩ | ⟨k,c,e,z⟩
    ·refine .inl ⟨k,?_⟩
     have : y ≠ x:=fun e=>hj (nodup_ix hN e1 (e ▸ hi))
     simp [this,e]
    ·exact .inr ⟨k,c,e,z.sameBut hs (cne y c e)⟩
  ·obtain ⟨w',z⟩:=I.cell y c e
   exact ⟨w',z.sameBut hs (cne y c e)⟩
  ·obtain ⟨e,n,ne,nf,d⟩:=I.pin p hp
   exact ⟨(hs.2 p.1 ne).trans e,n,ne,nf,d⟩
 ·have hfn : X.fn x = true:=by
   rcases hf with z | z
   ·exact z
   ·rw [z] at hk; cases hk
  obtain ⟨c,hc⟩:=I.ok.has x (.inl hk)
  obtain ⟨w',z⟩:=I.cell x c hc
  refine wpAny_storeName_cell I.ok.kind hk hc z (fun h' hc' hs=>?_)
  obtain ⟨oc,hoc,hocd⟩:=id z
  refine h { s with heap:=h' } ⟨I.ok,I.os,I.bare,⟨fun b o e n hb hx=>?_,fun b o e n hb hx=>?_,I.base.free,fun b o e hx=>?_,I.base.tups,I.base.frzs,I.base.tbls⟩,⟨m,hn.sameBut hs (Ne.symm (cne x c hc)),fun j y v' e1 e2 e3=>?_⟩,fun y c' e=>?_,I.free,I.freeC,fun p hp=>?_,tracked ⟨oc,hoc,I.freeC x c hc⟩ hs,by simpa using I.len⟩ ⟨c,hs,.inr hc⟩
  ·exact (hs.2 b (Nat.ne_of_lt (Nat.lt_of_lt_of_le (Heap.lt_size e) (I.ok.cab x c hfn hc)))).trans (I.base.keep b o e n hb hx)
  ·obtain ⟨sl,e1⟩:=I.base.slot b o e n hb hx
   exact ⟨sl,(hs.2 b (Nat.ne_of_lt (Nat.lt_of_lt_of_le (Heap.lt_size e) (I.ok.cab x c hfn hc)))).trans e1⟩
  ·obtain ⟨o',e1⟩:=I.base.there b o e hx
   exact ⟨o',(hs.2 b (Nat.ne_of_lt (Nat.lt_of_lt_of_le (Heap.lt_size e) (I.ok.cab x c hfn hc)))).trans e1⟩
  ·by_cases hj : j = i
   ·subst hj
    rw [hi] at e1; cases e1
    rw [List.getElem?_set_self hiσ] at e2
    cases e2
    exact ⟨u,r,.inr ⟨.inl hk,c,hc,hc'⟩⟩
   ·rw [List.getElem?_set_ne (Ne.symm hj)] at e2
    obtain ⟨u',r',q⟩:=hl j y v' e1 e2 e3
    refine ⟨u',r',?_⟩
    rcases q with q | ⟨k,c',e,z'⟩
    ·exact .inl q
    ·refine .inr ⟨k,c',e,z'.sameBut hs ?_⟩
     rintro rfl
     exact hj (nodup_ix hN e1 (I.ok.inj _ _ _ e hc ▸ hi))
  ·by_cases hcc : c' = c
   ·subst hcc; exact ⟨_,hc'⟩
   ·obtain ⟨w2,z2⟩:=I.cell y c' e
    exact ⟨w2,z2.sameBut hs hcc⟩
  ·obtain ⟨e,n,ne,nf,d⟩:=I.pin p hp
   refine ⟨(hs.2 p.1 ?_).trans e,n,ne,nf,d⟩
   intro q
   rw [q,hoc] at e
   have q' : oc = p.2:=Option.some.inj e
   exact d w' (by rw [← q']; exact hocd)
theorem store_ok {M : Model} {A : Around} {E : Value→Shared→Prop} {i : Nat} {x : Str} {v : V} {u : Value} {Q : Unit→Shared→Prop} (I : Inv X pins σ H s) (hN : X.N.Nodup) (hi : X.N[i]? = some x) (hx : Loc X.env.scope x) (r : RelV v u)
  (h : ∀ s',Inv X pins (σ.set i (some v)) H s'→Q () s') (hf : X.fn x = true∨X.env.scope.names.lookup x = some .local:=by first | exact .inl rfl | exact .inr rfl | assumption) : wpAny M A (storeName X.env x u) Q E s :=
 store_ok2 I hN hi hx r (fun s' I' _=>h s' I') hf
theorem Inv.call' {s' : Shared} {ch : List Addr} (I : Inv X pins σ H s) (ho : s'.os = s.os) (u : Un (frs X.stack) ch H H' s.heap s'.heap) (hok : HOk X.prog X.w H' s'.heap) (hg : AllBare s'.gens)
  (hch : ∀ b∈ch,(b∈X.ex∨X.s₀.heap.objs.size≤b)∧b ≠ X.env.locals∧(∀ x c,X.env.cells.lookup x = some c→c ≠ b)∧∀ p∈X.pn ++ pins,p.1 ≠ b) : Inv X pins σ H' s':=by
 obtain ⟨h',g',d',t',o'⟩:=s'
 have e : o' = s.os:=ho
 subst e
 exact I.call (g':=g') (t':=t') (d':=d') u hok hg hch
end
noncomputable abbrev XK:=Value→Option Addr→Hp→Prop
noncomputable abbrev St:=List (Option V)
noncomputable abbrev VK:=V→Hp→Prop
noncomputable abbrev TE:=St→Hp→VK→Prop
noncomputable abbrev TT:=St→Hp→(Bool→Hp→Prop)→Prop
noncomputable abbrev TA:=St→Hp→(List V→Hp→Prop)→Prop
structure Ends where
 nx : St→Hp→Prop
 rt : VK
 bk : St→Hp→Prop:=fun _ _=>False
 ct : St→Hp→Prop:=fun _ _=>False
noncomputable abbrev TS:=Ends→St→Hp→Prop
noncomputable def EP (X : Cx) (pins : List (Addr × Obj)) (σ : St) (Q : VK) (u : Value) (s' : Shared) : Prop:=∃ v H',Inv X pins σ H' s'∧RelV v u∧Q v H'
noncomputable def TP (X : Cx) (pins : List (Addr × Obj)) (σ : St) (Q : Bool→Hp→Prop) (b : Bool) (s' : Shared) : Prop:=∃ H',Inv X pins σ H' s'∧Q b H'
noncomputable def AP (X : Cx) (pins : List (Addr × Obj)) (σ : St) (Q : List V→Hp→Prop) (us : List Value) (s' : Shared) : Prop:=∃ vs H',Inv X pins σ H' s'∧Vals vs us∧Q vs H'
noncomputable def SP (X : Cx) (pins : List (Addr × Obj)) (D : Ends) (f : Flow) (s' : Shared) : Prop :=
 match f with
 | .next=>∃ σ' H',Inv X pins σ' H' s'∧D.nx σ' H'
 | .brk=>∃ σ' H',Inv X pins σ' H' s'∧D.bk σ' H'
 | .cont=>∃ σ' H',Inv X pins σ' H' s'∧D.ct σ' H'
 | .ret u=>∃ v σ' H',Inv X pins σ' H' s'∧RelV v u∧D.rt v H'
noncomputable def PE (X : Cx) (e : Expr) (t : TE) : Prop :=
 ∀ (pins : List (Addr × Obj)) (s : Shared) (σ : St) (H : Hp) (Q : VK),Inv X pins σ H s→t σ H Q→wpAny (model X.prog X.w) X.A (eval e X.env) (EP X pins σ Q) X.xe s
noncomputable def PT (X : Cx) (e : Expr) (t : TT) : Prop :=
 ∀ (pins : List (Addr × Obj)) (s : Shared) (σ : St) (H : Hp) (Q : Bool→Hp→Prop),Inv X pins σ H s→t σ H Q→wpAny (model X.prog X.w) X.A (isTrue e X.env (eval e X.env)) (TP X pins σ Q) X.xe s
noncomputable def PW (X : Cx) (e : Expr) (t : TT) : Prop :=
 ∀ (whole : Sem Value) (pins : List (Addr × Obj)) (s : Shared) (σ : St) (H : Hp) (Q : Bool→Hp→Prop),Inv X pins σ H s→t σ H Q→wpAny (model X.prog X.w) X.A (isTrue e X.env whole) (TP X pins σ Q) X.xe s
theorem PW.pt {X : Cx} {e : Expr} {t : TT} (h : PW X e t) : PT X e t:=h _
noncomputable def PA (X : Cx) (es : List Expr) (t : TA) : Prop :=
 ∀ (pos : Pos) (pins : List (Addr × Obj)) (s : Shared) (σ : St) (H : Hp) (Q : List V→Hp→Prop),Inv X pins σ H s→t σ H Q→wpAny (model X.prog X.w) X.A (spliced (backTo pos (starEach es X.env))) (AP X pins σ Q) X.xe s
noncomputable def PS (X : Cx) (st : Stmt) (t : TS) : Prop :=
 ∀ (pins : List (Addr × Obj)) (s : Shared) (σ : St) (H : Hp) (D : Ends),Inv X pins σ H s→t D σ H→wpAny (model X.prog X.w) X.A (exec st X.env) (SP X pins D) X.xe s
noncomputable def PSs (X : Cx) (st : List Stmt) (t : TS) : Prop :=
 ∀ (pins : List (Addr × Obj)) (s : Shared) (σ : St) (H : Hp) (D : Ends),Inv X pins σ H s→t D σ H→wpAny (model X.prog X.w) X.A (execs st X.env) (SP X pins D) X.xe s
theorem thn {α : Type} {t : Sem α} {Q Q' : α→Shared→Prop} {M : Model} {A : Around} {E : Value→Shared→Prop} {s : Shared} (h : wpAny M A t Q E s) (hQ : ∀ a s,Q a s→Q' a s) : wpAny M A t Q' E s:=wpAny_mono h hQ fun _ _ x=>x
end L2
namespace L2
open PySem PySem.Spec PyProof.Rows
section
variable {X : Cx}
theorem bin {a b : Expr} {ta tb : TE} (ha : PE X a ta) (hb : PE X b tb) {pins : List (Addr × Obj)} {s : Shared} {σ : St} {H : Hp} {R : V→V→Hp→Prop} (I : Inv X pins σ H s) (h : ta σ H fun x H1=>tb σ H1 fun y H2=>R x y H2)
  {α : Type} {Q : α→Shared→Prop} {f : Value→Value→Sem α}
  (hf : ∀ v u s2 x y H2,Inv X pins σ H2 s2→RelV x v→RelV y u→R x y H2→wpAny (model X.prog X.w) X.A (f v u) Q X.xe s2) :
  wpAny (model X.prog X.w) X.A (eval a X.env) (fun v s₁=>wpAny (model X.prog X.w) X.A (eval b X.env) (fun u s₂=>wpAny (model X.prog X.w) X.A (f v u) Q X.xe s₂) X.xe s₁) X.xe s:=by
 refine thn (ha pins s σ H _ I h) fun v s1 ⟨x,H1,I1,r1,q1⟩=>?_
 refine thn (hb pins s1 σ H1 _ I1 q1) fun u s2 ⟨y,H2,I2,r2,q2⟩=>?_
 exact hf v u s2 x y H2 I2 r1 r2 q2
noncomputable def tVar (i : Nat) : TE:=fun σ H Q=>∃ v,σ[i]? = some (some v)∧Q v H
noncomputable def tC (v : V) : TE:=fun _ H Q=>Q v H
theorem pe_var {i : Nat} {x : Str} {pos : Pos} (hN : X.N[i]? = some x) (hv : Vis X.env.scope x) (hd : (x == ("__debug__" : Str)) = false:=by decide) (hcd : (x == ("__classdict__" : Str)) = false:=by decide) : PE X (.Name x pos) (tVar i):=by
 intro pins s σ H Q I h
 obtain ⟨v,e,h⟩:=h
 obtain ⟨m,hn,hl⟩:=I.loc
 obtain ⟨u,r,l⟩:=hl i x v hN e hv
 have fin : EP X pins σ Q u s:=⟨v,H,I,r,h⟩
 rcases l with ⟨hk,hm⟩ | ⟨hk,c,hc,hcell⟩
 ·exact wpAny_Name (wpAny_loadName_local I.ok.kind hk hn hm fin) hd
 ·rcases hk with hk | hk
  ·exact wpAny_Name (wpAny_loadName_cell I.ok.kind hk hc hcell fin) hd
  ·exact wpAny_Name (wpAny_loadName_free I.ok.kind hk hc hcell fin hcd) hd
theorem pe_int {i j pos} : PE X (.Constant (.int i) j pos) (tC (.int i)):=fun _ _ _ H _ I h=>wpAny_Constant_int ⟨.int i,H,I.tok _,⟨_,rfl⟩,h⟩
theorem pe_bl {b j pos} : PE X (.Constant (.bool b) j pos) (tC (.bl b)):=fun _ _ _ H _ I h=>Constant_bool ⟨.bl b,H,I,rfl,h⟩
theorem pe_non {j pos} : PE X (.Constant .none j pos) (tC .non):=fun _ _ _ H _ I h=>Constant_none ⟨.non,H,I,rfl,h⟩
theorem pe_str {x j pos} : PE X (.Constant (.str x) j pos) (tC (.str x)):=fun _ _ _ H _ I h=>Calls.Constant_str ⟨.str x,H,I.tok _,⟨_,rfl⟩,h⟩
noncomputable def Gl (X : Cx) (x : Str) : Prop:=X.env.kindOf x = some .globalImplicit
theorem ld_glob {E : Value→Shared→Prop} {pins : List (Addr × Obj)} {s : Shared} {σ : St} {H : Hp} {x : Str} {u : Value} {pos : Pos} {Q : Value→Shared→Prop} (I : Inv X pins σ H s) (hg : Gl X x) (hm : X.mg x = some u) (h : Q u s)
  (hd : (x == ("__debug__" : Str)) = false:=by decide) : wpAny (model X.prog X.w) X.A (eval (.Name x pos) X.env) Q E s :=
 Calls.Name_function_global I.ok.kind hg (Calls.loadGlobal_global (by rw [I.ok.glob]; exact I.mod.glob.keeps I.bk) hm h) hd
theorem ld_blt {E : Value→Shared→Prop} {pins : List (Addr × Obj)} {s : Shared} {σ : St} {H : Hp} {x : Str} {u : Value} {pos : Pos} {Q : Value→Shared→Prop} (I : Inv X pins σ H s) (hg : Gl X x) (hm : X.mg x = none) (hv : bootBuiltins x = some u) (h : Q u s)
  (hn : x ≠ "__name__":=by decide) (hd : (x == ("__debug__" : Str)) = false:=by decide) : wpAny (model X.prog X.w) X.A (eval (.Name x pos) X.env) Q E s:=by
 obtain ⟨mb,h1,h2⟩:=I.mod.blt
 exact Calls.Name_function_global I.ok.kind hg (Calls.loadGlobal_builtin (by rw [I.ok.glob]; exact I.mod.glob.keeps I.bk) hm (by rw [I.ok.blt]; exact h1.keeps I.bk) ((h2 x hn).trans hv) h) hd
theorem pe_glob {x : Str} {v : V} {u : Value} {pos : Pos} (hg : Gl X x) (hm : X.mg x = some u) (r : RelV v u) (hd : (x == ("__debug__" : Str)) = false:=by decide) : PE X (.Name x pos) (tC v) :=
 fun _ _ _ H _ I h=>ld_glob I hg hm ⟨v,H,I,r,h⟩ hd
theorem pe_bltn {x : Str} {v : V} {u : Value} {pos : Pos} (hg : Gl X x) (hm : X.mg x = none) (hv : bootBuiltins x = some u) (r : RelV v u) (hn : x ≠ "__name__":=by decide) (hd : (x == ("__debug__" : Str)) = false:=by decide) : PE X (.Name x pos) (tC v) :=
 fun _ _ _ H _ I h=>ld_blt I hg hm hv ⟨v,H,I,r,h⟩ hn hd
variable {a b : Expr} {ta tb : TE} {pos : Pos}
noncomputable def PC (X : Cx) (op : CmpOp) (a b : Expr) (t : TE) : Prop :=
 ∀ (pins : List (Addr × Obj)) (s : Shared) (σ : St) (H : Hp) (Q : VK),Inv X pins σ H s→t σ H Q →
  wpAny (model X.prog X.w) X.A (eval a X.env) (fun v s₁=>wpAny (model X.prog X.w) X.A (eval b X.env) (fun u s₂=>wpAny (model X.prog X.w) X.A (compareOp op v u) (EP X pins σ Q) X.xe s₂) X.xe s₁) X.xe s
theorem nobehind (b : Expr) {op : CmpOp} (h : op ≠ .In) (h2 : op ≠ .NotIn) : behindInMarks op b = false:=by
 have e1 : (op == CmpOp.In) = false:=by cases op <;> first | rfl | exact absurd rfl h
 have e2 : (op == CmpOp.NotIn) = false:=by cases op <;> first | rfl | exact absurd rfl h2
 cases b <;> simp [behindInMarks,e1,e2]
noncomputable def tB (t : TE) : TT:=fun σ H Q=>t σ H fun x H1=>∃ c,x = .bl c∧Q c H1
theorem pt_cmp {op : CmpOp} {t : TE} (h : PC X op a b t) (h1 : behindInMarks op b = false:=by first | exact nobehind _ (by decide) (by decide) | rfl) : PT X (.Compare a [op] [b] pos) (tB t):=by
 intro pins s σ H Q I hw
 refine wpAny_isTrue_Compare1 (thn (h pins s σ H _ I hw) fun v s1 h1=>thn h1 fun u s2 h2=>thn h2 fun c s3 ⟨x,H1,I1,r1,q1⟩=>?_) h1
 obtain ⟨d,rfl,q⟩:=q1
 cases r1
 exact wpAny_truthy_bool ⟨H1,I1,q⟩
variable {tA tB' : TT} {rest : List Expr}
noncomputable def tAnd (t u : TT) : TT:=fun σ H Q=>t σ H fun c H1=>if c = true then u σ H1 Q else Q false H1
noncomputable def tOr (t u : TT) : TT:=fun σ H Q=>t σ H fun c H1=>if c = true then Q true H1 else u σ H1 Q
noncomputable def tNot (t : TT) : TT:=fun σ H Q=>t σ H fun c H1=>Q (!c) H1
theorem pw_and1 (ha : PT X a tA) : PW X (.BoolOp .And [a] pos) tA:=by
 intro wh pins s σ H Q I h
 refine isTrue_and (thn (ha pins s σ H Q I h) fun c s1 e=>?_)
 cases c with
 | true=>exact isTrue_and_nil e
 | false=>exact e
theorem pw_or1 (ha : PT X a tA) : PW X (.BoolOp .Or [a] pos) tA:=by
 intro wh pins s σ H Q I h
 refine isTrue_or (thn (ha pins s σ H Q I h) fun c s1 e=>?_)
 cases c with
 | false=>exact isTrue_or_nil e
 | true=>exact e
theorem pw_and (ha : PT X a tA) (hb : PW X (.BoolOp .And (b :: rest) pos) tB') : PW X (.BoolOp .And (a :: b :: rest) pos) (tAnd tA tB'):=by
 intro wh pins s σ H Q I h
 refine isTrue_and (thn (ha pins s σ H _ I h) fun c s1 ⟨H1,I1,q1⟩=>?_)
 cases c with
 | true=>exact hb wh pins s1 σ H1 Q I1 q1
 | false=>exact ⟨H1,I1,q1⟩
theorem pw_or (ha : PT X a tA) (hb : PW X (.BoolOp .Or (b :: rest) pos) tB') : PW X (.BoolOp .Or (a :: b :: rest) pos) (tOr tA tB'):=by
 intro wh pins s σ H Q I h
 refine isTrue_or (thn (ha pins s σ H _ I h) fun c s1 ⟨H1,I1,q1⟩=>?_)
 cases c with
 | true=>exact ⟨H1,I1,q1⟩
 | false=>exact hb wh pins s1 σ H1 Q I1 q1
theorem pt_not (ha : PT X a tA) : PT X (.UnaryOp .Not a pos) (tNot tA):=by
 intro pins s σ H Q I h
 exact isTrue_not (ha pins s σ H (fun c H1=>Q (!c) H1) I h)
theorem pe_one {op} {t : TE} (h : PE X a t) : PE X (.BoolOp op [a] pos) t:=fun pins s σ H Q I hw=>BoolOp_one (h pins s σ H Q I hw)
end
end L2
namespace L2
open PySem PySem.Spec PyProof.Rows
noncomputable def SqL (K : PySem.W.Frag) (H : Hp) (a : Addr) (xs : List V) : Prop :=
 Rd H a (.lst xs) ∨
  ∃ (o : Obj) (its : Array Value) (n : Nat),K.lookup a = some o∧o.cls = .type "list"∧o.dict = none∧o.data = .seq its n∧its.size≤sizeLine∧Vals xs its.toList
noncomputable def SqT (K : PySem.W.Frag) (H : Hp) (a : Addr) (xs : List V) : Prop :=
 Rd H a (.tup xs) ∨
  ∃ (o : Obj) (its : Array Value) (n : Nat),K.lookup a = some o∧o.cls = .type "tuple"∧o.data = .seq its n∧its.size≤sizeLine∧Vals xs its.toList
noncomputable def absV : Value→Option V
 | .none=>some .non
 | .bool b=>some (.bl b)
 | .int i _=>some (.int i)
 | .str x _=>some (.str x)
 | .bytes b _=>some (.byt b)
 | .float b _=>some (.flt b)
 | .ref a=>some (.ref a)
 | .type n=>some (.ty n)
 | _=>none
theorem RelV.abs {x : V} {u : Value} (r : RelV x u) : absV u = some x:=by
 cases x with
 | non=>cases r; rfl
 | bl _=>cases r; rfl
 | int _=>obtain ⟨t,rfl⟩:=r; rfl
 | str _=>obtain ⟨t,rfl⟩:=r; rfl
 | byt _=>obtain ⟨t,rfl⟩:=r; rfl
 | flt _=>obtain ⟨t,rfl⟩:=r; rfl
 | ref _=>cases r; rfl
 | ty _=>cases r; rfl
theorem RelV.inj {x y : V} {u : Value} (r : RelV x u) (q : RelV y u) : x = y:=Option.some.inj (r.abs.symm.trans q.abs)
theorem Vals.inj : ∀ {xs ys : List V} {us : List Value},Vals xs us→Vals ys us→xs = ys
 | _,_,_,.nil,.nil=>rfl
 | _,_,_,.cons r t,.cons r' t'=>by rw [r.inj r',Vals.inj t t']
section
variable {X : Cx} {pins : List (Addr × Obj)} {σ : St} {H : Hp} {s : Shared} {a : Addr} {xs ys : List V}
theorem SqL.of {K : PySem.W.Frag} (h : H a = some (.lst xs)) : SqL K H a xs:=.inl (.inl h)
theorem SqT.of {K : PySem.W.Frag} (h : H a = some (.tup xs)) : SqT K H a xs:=.inl (.inl h)
theorem Inv.list (I : Inv X pins σ H s) (h : SqL X.K H a xs) : ∃ its : List Value,Vals xs its∧PlainL s.heap a its.toArray∧xs.length≤sizeLine:=by
 rcases h with h | ⟨o,its,n,hk,hc,hd,hs,hz,r⟩
 ·obtain ⟨z,its,n,r,e⟩:=h.ok I.hok
  exact ⟨its,r,⟨_,n,e,rfl,rfl,rfl⟩,z⟩
 ·refine ⟨its.toList,r,⟨o,n,I.kIn a o hk,hc,hd,by simpa using hs⟩,?_⟩
  have e:=r.length
  simp only [Array.length_toList] at e
  omega
theorem Inv.tuple (I : Inv X pins σ H s) (h : SqT X.K H a xs) : ∃ its : List Value,Vals xs its∧IsTup s.heap a its.toArray∧xs.length≤sizeLine:=by
 rcases h with h | ⟨o,its,n,hk,hc,hs,hz,r⟩
 ·obtain ⟨z,its,r,p⟩:=h.ok I.hok
  exact ⟨its,r,p,z⟩
 ·refine ⟨its.toList,r,⟨o,I.kIn a o hk,hc,n,by simpa using hs⟩,?_⟩
  have e:=r.length
  simp only [Array.length_toList] at e
  omega
theorem Inv.list_inj (I : Inv X pins σ H s) (h : SqL X.K H a xs) (h' : SqL X.K H a ys) : xs = ys:=by
 obtain ⟨its,r,⟨o,n,e,_,_,d⟩,_⟩:=I.list h
 obtain ⟨its',r',⟨o',n',e',_,_,d'⟩,_⟩:=I.list h'
 rw [e] at e'; cases e'
 rw [d] at d'
 injection d' with d1 _
 have : its = its':=by simpa using congrArg Array.toList d1
 subst this
 exact r.inj r'
theorem Inv.tuple_inj (I : Inv X pins σ H s) (h : SqT X.K H a xs) (h' : SqT X.K H a ys) : xs = ys:=by
 obtain ⟨its,r,⟨o,e,_,n,d⟩,_⟩:=I.tuple h
 obtain ⟨its',r',⟨o',e',_,n',d'⟩,_⟩:=I.tuple h'
 rw [e] at e'; cases e'
 rw [d] at d'
 injection d' with d1 _
 have : its = its':=by simpa using congrArg Array.toList d1
 subst this
 exact r.inj r'
end
noncomputable abbrev Cx.wish (X : Cx) (E : Value→Shared→Prop) : Cx:={ X with xe:=E }
noncomputable abbrev Cx.nox (X : Cx) : Cx:=X.wish fun _ _=>False
theorem Cx.Ok.wish {X : Cx} (ok : X.Ok) (E : Value→Shared→Prop) : (X.wish E).Ok :=
 ⟨ok.mod,ok.kind,ok.glob,ok.blt,ok.above,ok.inj,ok.has,ok.cab,ok.hd,ok.frames,ok.stk,ok.exf,ok.bs,ok.bsz,ok.noex,ok.exfs,ok.funs,ok.frf⟩
theorem Cx.Ok.unwish {X : Cx} {E : Value→Shared→Prop} (ok : (X.wish E).Ok) : X.Ok :=
 ⟨ok.mod,ok.kind,ok.glob,ok.blt,ok.above,ok.inj,ok.has,ok.cab,ok.hd,ok.frames,ok.stk,ok.exf,ok.bs,ok.bsz,ok.noex,ok.exfs,ok.funs,ok.frf⟩
section
variable {X : Cx} {pins : List (Addr × Obj)} {σ : St} {H : Hp} {s : Shared} {E : Value→Shared→Prop}
theorem Inv.wish (I : Inv X pins σ H s) (E : Value→Shared→Prop) : Inv (X.wish E) pins σ H s:=⟨I.ok.wish E,I.os,I.bare,I.base,I.loc,I.cell,I.free,I.freeC,I.pin,I.hok,I.len⟩
theorem Inv.unwish (I : Inv (X.wish E) pins σ H s) : Inv X pins σ H s:=⟨I.ok.unwish,I.os,I.bare,I.base,I.loc,I.cell,I.free,I.freeC,I.pin,I.hok,I.len⟩
theorem SP.unwish {D : Ends} {f : Flow} {s' : Shared} (h : SP (X.wish E) pins D f s') : SP X pins D f s':=by
 cases f with
 | next=>obtain ⟨σ',H',I,q⟩:=h; exact ⟨σ',H',I.unwish,q⟩
 | brk=>obtain ⟨σ',H',I,q⟩:=h; exact ⟨σ',H',I.unwish,q⟩
 | cont=>obtain ⟨σ',H',I,q⟩:=h; exact ⟨σ',H',I.unwish,q⟩
 | ret u=>obtain ⟨v,σ',H',I,r,q⟩:=h; exact ⟨v,σ',H',I.unwish,r,q⟩
theorem PSs.nox {st : List Stmt} {t : TS} (h : PSs X.nox st t) : PSs X st t:=fun pins s σ H D I hw =>
 wpAny_mono (h pins s σ H D (I.wish _) hw) (fun _ _ q=>q.unwish) fun _ _ z=>False.elim z
end
section
variable {X : Cx} {st : Stmt} {rest : List Stmt} {t u : TS} {e : Expr} {te : TE} {pos : Pos}
noncomputable def tNext : TS:=fun D σ H=>D.nx σ H
noncomputable def tSeq (t u : TS) : TS:=fun D σ H=>t { D with nx:=u D } σ H
theorem pss_nil : PSs X [] tNext:=fun _ _ σ H _ I h=>wpAny_execs_nil ⟨σ,H,I,h⟩
theorem pss_cons (h1 : PS X st t) (h2 : PSs X rest u) : PSs X (st :: rest) (tSeq t u):=by
 intro pins s σ H D I h
 refine wpAny_execs_cons (thn (h1 pins s σ H { D with nx:=u D } I h) fun f s1 q=>?_)
 cases f with
 | next =>
  obtain ⟨σ',H',I',q⟩:=q
  exact h2 pins s1 σ' H' D I' q
 | ret v=>exact q
 | brk=>exact q
 | cont=>exact q
theorem pss_one (h1 : PS X st t) : PSs X [st] t:=by
 intro pins s σ H D I h
 refine wpAny_execs_cons (thn (h1 pins s σ H D I h) fun f s1 q=>?_)
 cases f with
 | next=>exact wpAny_execs_nil q
 | ret v=>exact q
 | brk=>exact q
 | cont=>exact q
theorem Inv.quiet {pins : List (Addr × Obj)} {σ : St} {H : Hp} {s : Shared} (I : Inv X pins σ H s) : interactive X.env = false:=by simp [interactive,I.ok.kind]
noncomputable def tDrop (te : TE) : TS:=fun D σ H=>te σ H fun _ H1=>D.nx σ H1
theorem ps_expr (he : PE X e te) (hs : swapsWith e none pos.line X.env = pure false:=by rfl) : PS X (.Expr e pos) (tDrop te):=by
 intro pins s σ H D I h
 exact wpAny_Expr_any (thn (he pins s σ H _ I h) fun v s1 ⟨x,H1,I1,r1,q1⟩=>⟨σ,H1,I1,q1⟩) I.quiet hs
noncomputable def tRet (te : TE) : TS:=fun D σ H=>te σ H D.rt
theorem ps_ret (he : PE X e te) : PS X (.Return (some e) pos) (tRet te):=by
 intro pins s σ H D I h
 exact wpAny_Return_some (thn (he pins s σ H _ I h) fun v s1 ⟨x,H1,I1,r1,q1⟩=>⟨x,σ,H1,I1,r1,q1⟩)
noncomputable def tIfS (c : TT) (t u : TS) : TS:=fun D σ H=>c σ H fun b H1=>if b = true then t D σ H1 else u D σ H1
theorem ps_if {c : Expr} {a b : List Stmt} {tc : TT} (hc : PT X c tc) (ha : PSs X a t) (hb : PSs X b u) : PS X (.If c a b pos) (tIfS tc t u):=by
 intro pins s σ H D I h
 refine wpAny_If (thn (hc pins s σ H _ I h) fun d s1 ⟨H1,I1,q1⟩=>?_)
 cases d with
 | true=>exact ha pins s1 σ H1 D I1 q1
 | false=>exact hb pins s1 σ H1 D I1 q1
noncomputable def tNever : TS:=fun _ _ _=>False
theorem ps_never : PS X st tNever:=fun _ _ _ _ _ _ h=>h.elim
end
noncomputable abbrev TG:=V→St→Hp→(St→Hp→Prop)→Prop
noncomputable abbrev TGs:=List V→St→Hp→(St→Hp→Prop)→Prop
noncomputable def PG (X : Cx) (target : Expr) (t : TG) : Prop :=
 ∀ (pins : List (Addr × Obj)) (s : Shared) (σ : St) (H : Hp) (v : V) (u : Value) (Q : St→Hp→Prop),Inv X pins σ H s→RelV v u→t v σ H Q →
  wpAny (model X.prog X.w) X.A (assign target X.env u) (fun _ s'=>∃ σ' H',Inv X pins σ' H' s'∧Q σ' H') X.xe s
noncomputable def PGs (X : Cx) (ts : List Expr) (t : TGs) : Prop :=
 ∀ (pins : List (Addr × Obj)) (s : Shared) (σ : St) (H : Hp) (vs : List V) (us : List Value) (Q : St→Hp→Prop),Inv X pins σ H s→Vals vs us→t vs σ H Q →
  wpAny (model X.prog X.w) X.A (assignInOrder ((assignEach ts X.env).map (·.2)) us) (fun _ s'=>∃ σ' H',Inv X pins σ' H' s'∧Q σ' H') X.xe s
noncomputable abbrev TSet:=V→V→V→Hp→(Hp→Prop)→Prop
noncomputable def PSet (X : Cx) (t : TSet) : Prop :=
 ∀ (pins : List (Addr × Obj)) (s : Shared) (σ : St) (H : Hp) (o i v : V) (ov iv u : Value) (Q : Hp→Prop),Inv X pins σ H s→RelV o ov→RelV i iv→RelV v u→t o i v H Q →
  wpAny (model X.prog X.w) X.A (setItem ov iv u) (fun _ s'=>∃ H',Inv X pins σ H' s'∧Q H') X.xe s
noncomputable abbrev TIp:=V→V→Hp→VK→Prop
noncomputable def PIp (X : Cx) (op : Operator) (t : TIp) : Prop :=
 ∀ (pins : List (Addr × Obj)) (s : Shared) (σ : St) (H : Hp) (x y : V) (v u : Value) (Q : VK),Inv X pins σ H s→RelV x v→RelV y u→t x y H Q →
  wpAny (model X.prog X.w) X.A (inplaceOp op v u) (EP X pins σ Q) X.xe s
section
variable {X : Cx} {pos : Pos}
noncomputable def gName (i : Nat) : TG:=fun v σ H Q=>Q (σ.set i (some v)) H
theorem pg_name {i : Nat} {x : Str} (hN : X.N.Nodup) (hi : X.N[i]? = some x) (hx : Loc X.env.scope x) (hf : X.fn x = true∨X.env.scope.names.lookup x = some .local:=by first | exact .inl rfl | exact .inr rfl | assumption) : PG X (.Name x pos) (gName i):=by
 intro pins s σ H v u Q I r h
 exact wpAny_assign_Name (store_ok I hN hi hx r (fun s' I'=>⟨_,H,I',h⟩) hf)
noncomputable def gTup (K : PySem.W.Frag) (n : Nat) (t : TGs) : TG:=fun v σ H Q=>∃ a xs,v = .ref a∧SqT K H a xs∧xs.length = n∧t xs σ H Q
theorem pg_tup {es : List Expr} {k : Nat} {t : TGs} {n : Nat} (hc : X.calm = true) (h : PGs X es t)
  (hn : (assignEach es X.env).length = n:=by rfl) (hst : (assignEach es X.env).findIdx? (·.1) = none:=by rfl) : PG X (.Tuple es k pos) (gTup X.K n t):=by
 intro pins s σ H v u Q I r hw
 obtain ⟨a,xs,e1,hq,hl,hw⟩:=hw
 subst e1
 cases r
 obtain ⟨its,rv,ht,hz⟩:=I.tuple hq
 refine assign_Tuple_tuple (I.ok.hd hc) ht (by simp [hn,← hl,rv.length]) hst fun h' hx=>?_
 have I1 : Inv X pins σ H { s with heap:=h' }:=I.kept (t':=s.toks) fun b o e=>hx b o (Nat.ne_of_lt (Heap.lt_size e)) e
 exact h pins _ σ H xs _ Q I1 (by simpa using rv) hw
noncomputable def gSub (to ti : TE) (t : TSet) : TG:=fun v σ H Q=>to σ H fun o H1=>ti σ H1 fun i H2=>t o i v H2 fun H3=>Q σ H3
theorem pg_sub {o i : Expr} {to ti : TE} {t : TSet} (ho : PE X o to) (hi : PE X i ti) (hs : PSet X t)
  (ha : ∀ v,assign (.Subscript o i pos) X.env v = (do
   let ov ← holding [v] (eval o X.env)
   let iv ← holding [v,ov] (eval i X.env)
   standAt pos
   holding [v,ov,iv] (setItem ov iv v)
   release [v,ov,iv] []):=by intro _; rfl) : PG X (.Subscript o i pos) (gSub to ti t):=by
 intro pins s σ H v u Q I r h
 rw [ha]
 refine wpAny_bind (wpAny_holding (thn (ho pins s σ H _ I h) fun ov s1 ⟨x,H1,I1,r1,q1⟩=>?_))
 refine wpAny_bind (wpAny_holding (thn (hi pins s1 σ H1 _ I1 q1) fun iv s2 ⟨y,H2,I2,r2,q2⟩=>?_))
 refine wpAny_bind (wpAny_standAt (wpAny_bind (wpAny_holding (thn (hs pins s2 σ H2 x y v ov iv u _ I2 r1 r2 r q2) fun _ s3 ⟨H3,I3,q3⟩=>?_))))
 exact wpAny_release ⟨σ,H3,I3,q3⟩
noncomputable def tAsg (te : TE) (g : TG) : TS:=fun D σ H=>te σ H fun x H1=>g x σ H1 D.nx
theorem ps_asg {tg e : Expr} {te : TE} {g : TG} (he : PE X e te) (hg : PG X tg g) (hs : swapsWithSole [tg] e pos.line X.env = pure false:=by rfl) (hw : swappedStores [tg] e X.env = pure none:=by rfl)
  (h1 : (assignEach [tg] X.env).map (·.2) = [assign tg X.env]:=by rfl) : PS X (.Assign [tg] e pos) (tAsg te g):=by
 intro pins s σ H D I h
 refine wpAny_Assign_stores (thn (he pins s σ H _ I h) fun v s1 ⟨x,H1,I1,r1,q1⟩=>?_) hs hw
 rw [h1]
 exact thn (hg pins s1 σ H1 x v _ I1 r1 q1) fun _ s2 q=>q
theorem ps_set {i : Nat} {x : Str} {e : Expr} {te : TE} {pos' : Pos} (hN : X.N.Nodup) (hi : X.N[i]? = some x) (hx : Loc X.env.scope x) (he : PE X e te) (hs : swapsWith e (some (.Name x pos')) pos.line X.env = pure false:=by rfl) (hf : X.fn x = true∨X.env.scope.names.lookup x = some .local:=by first | exact .inl rfl | exact .inr rfl | assumption) :
  PS X (.Assign [.Name x pos'] e pos) (tAsg te (gName i)):=by
 intro pins s σ H D I h
 refine wpAny_Assign_Name (thn (he pins s σ H _ I h) fun v s1 ⟨y,H1,I1,r1,q1⟩=>?_) hs
 exact store_ok I1 hN hi hx r1 (fun s2 I2=>⟨_,H1,I2,q1⟩) hf
end
section
variable {X : Cx} {pos : Pos}
end
structure It where
 go : Nat→Hp→Prop
 yld : Nat→Hp→V→Hp→Prop
 stop : Nat→Hp→Prop
noncomputable def FpOk (X : Cx) (pins : List (Addr × Obj)) (H : Hp) (b : Addr) : Prop :=
 H b = none∧b ≠ X.env.locals∧b ∉ X.fs∧(b∈X.ex∨X.s₀.heap.objs.size≤b)∧(∀ x c,X.env.cells.lookup x = some c→c ≠ b)∧∀ p∈X.pn ++ pins,p.1 ≠ b
theorem Inv.fpOk {X : Cx} {pins : List (Addr × Obj)} {σ : St} {H H' : Hp} {s : Shared} {b : Addr} (I : Inv X pins σ H s) (hb : s.heap.objs.size≤b) (hn : H' b = none) : FpOk X pins H' b:=by
 refine ⟨hn,Nat.ne_of_gt (Nat.lt_of_lt_of_le I.lt hb),I.nofs hb,.inr (Nat.le_trans I.sz hb),fun x c e z=>?_,fun p hp z=>?_⟩
 ·obtain ⟨v,q⟩:=I.cell x c e
  exact absurd (Nat.lt_of_lt_of_le q.lt (by rw [z]; exact hb)) (Nat.lt_irrefl _)
 ·exact absurd (Nat.lt_of_lt_of_le (Heap.lt_size (I.pin p hp).1) (by rw [z]; exact hb)) (Nat.lt_irrefl _)
structure Turn (P : Program) (w : World) (K : PySem.W.Frag) (tg : Expr) (J : It) (fp : List Addr) (it : Addr) (tn : Nat→Heap→Prop) : Prop where
 mem : it∈fp
 obj : ∀ i h,tn i h→∀ b∈fp,∃ o,h.get? b = some o∧∀ v,o.data ≠ .cell v
 keep : ∀ i h h',tn i h→(∀ b∈fp,∀ o,h.get? b = some o→h'.get? b = some o)→tn i h'
 item : ∀ (X : Cx),X.prog = P→X.w = w→X.K = K→X.calm = true→∀ (i : Nat) (pins : List (Addr × Obj)) (s : Shared) (σ : St) (H : Hp) (E : Value→Shared→Prop),Inv X pins σ H s→(∀ b∈fp,FpOk X pins H b)→tn i s.heap→J.go i H →
  wpAny (model P w) X.A (pyNext (.ref it)) (fun r s1=>∃ u,r = some u ∧
   wpAny (model P w) X.A (letOwnedTupleGo tg (.ref it) u) (fun _ s2=>∃ x H',Inv X pins σ H' s2∧RelV x u∧J.yld i H x H'∧tn (i + 1) s2.heap∧∀ b∈fp,H' b = none) E s1) E s
 done : ∀ (X : Cx),X.prog = P→X.w = w→X.K = K→X.calm = true→∀ (i : Nat) (pins : List (Addr × Obj)) (s : Shared) (σ : St) (H : Hp) (E : Value→Shared→Prop),Inv X pins σ H s→(∀ b∈fp,FpOk X pins H b)→tn i s.heap→J.stop i H →
  wpAny (model P w) X.A (pyNext (.ref it)) (fun r s1=>r = none∧Inv X pins σ H s1) E s
 self : ∀ (A : Around) (i : Nat) (s : Shared) (Q : Value→Shared→Prop) (E : Value→Shared→Prop),tn i s.heap→Q (.ref it) s→wpAny (model P w) A (pyIter (.ref it)) Q E s
noncomputable abbrev TI:=St→Hp→(It→Hp→Prop)→Prop
noncomputable def PIE (X : Cx) (pins : List (Addr × Obj)) (σ : St) (tg : Expr) (R : It→Hp→Prop) (itv : Value) (s2 : Shared) : Prop :=
 ∃ (it : Addr) (fp : List Addr) (tn : Nat→Heap→Prop) (J : It) (H' : Hp),itv = .ref it∧Inv X pins σ H' s2∧Turn X.prog X.w X.K tg J fp it tn∧tn 0 s2.heap∧(∀ b∈fp,FpOk X pins H' b)∧R J H'
noncomputable def PI (X : Cx) (tg iter : Expr) (wi : TI) : Prop :=
 ∀ (pins : List (Addr × Obj)) (s : Shared) (σ : St) (H : Hp) (R : It→Hp→Prop),Inv X pins σ H s→wi σ H R →
  wpAny (model X.prog X.w) X.A (eval iter X.env) (fun v s1=>wpAny (model X.prog X.w) X.A (pyIter v) (PIE X pins σ tg R) X.xe s1) X.xe s
theorem go_of {M : Model} {A : Around} {E : Value → Shared → Prop} {s : Shared} {tg : Expr} {it : Addr} {u : Value} {o : Obj} {n : String} {vs : Array Value} {Q : Unit → Shared → Prop} (ho : s.heap.get? it = some o) (hc : o.cls = .type n) (hd : o.data = .fields vs)
    (hn : ["enumerate", "zip", "dict_itemiterator", "dict_reverseitemiterator", "odict_iterator", "itertools.zip_longest", "itertools.pairwise"].contains n = false) (hQ : Q () s) : wpAny M A (letOwnedTupleGo tg (.ref it) u) Q E s := by
  unfold letOwnedTupleGo
  cases tg <;> first
    | exact wpAny_pure hQ
    | (cases u <;> first
        | exact wpAny_pure hQ
        | (refine wpAny_bind (wpAny_load ho ?_)
           rw [hc, hd]
           show wpAny M A (if (["enumerate", "zip", "dict_itemiterator", "dict_reverseitemiterator", "odict_iterator", "itertools.zip_longest", "itertools.pairwise"].contains n && vs[0]? == some (rawInt _)) = true then _ else _) Q E s
           rw [if_neg (by intro h; rw [hn, Bool.false_and] at h; cases h)]
           exact wpAny_pure hQ))
noncomputable def Itl (K : PySem.W.Frag) (a : Addr) : It :=
 ⟨fun i H=>∃ xs x,SqL K H a xs∧xs[i]? = some x,fun i H x H'=>H' = H∧∀ xs,SqL K H a xs→xs[i]? = some x,fun i H=>∃ xs,SqL K H a xs∧xs.length≤i⟩
noncomputable def Itt (K : PySem.W.Frag) (a : Addr) : It :=
 ⟨fun i H=>∃ xs x,SqT K H a xs∧xs[i]? = some x,fun i H x H'=>H' = H∧∀ xs,SqT K H a xs→xs[i]? = some x,fun i H=>∃ xs,SqT K H a xs∧xs.length≤i⟩
noncomputable def Itr (lo : Int) (n : Nat) : It:=⟨fun i _=>i < n,fun i H x H'=>H' = H∧x = .int (lo + i),fun i _=>n≤i⟩
theorem turn_list {P : Program} {w : World} {K : PySem.W.Frag} {tg : Expr} (a it : Addr) : Turn P w K tg (Itl K a) [it] it (fun i h=>h.IsListIter it a i) where
 mem:=by simp
 obj:=fun i h st b hb=>by
  have e : b = it:=by simpa using hb
  subst e
  obtain ⟨o,e,c,d⟩:=st
  exact ⟨o,e,fun v z=>by rw [d] at z; cases z⟩
 keep:=fun i h h' st k=>st.at fun o e=>k it (by simp) o e
 item:=by
  intro X hP hw hK hc i pins s σ H E I hf st hg
  subst hP hw hK
  obtain ⟨xs,x,hq,hx⟩:=hg
  obtain ⟨its,rv,p,hz⟩:=I.list hq
  obtain ⟨u,hu,ru⟩:=rv.get hx
  obtain ⟨f0,f1,f2,f3,f4,f5⟩:=hf it (by simp)
  refine wpAny_pyNext_list_item st p.isList (x:=u) (by simpa using hu) fun h' st' sb=>?_
  have I1 : Inv X pins σ H { s with heap:=h' }:=I.turned (t':=s.toks) (fun b o hb e=>(sb.2 b hb).trans e) f0 f1 f3 f4 f5
  obtain ⟨o,e,c,d⟩:=id st'
  exact ⟨u,rfl,go_of (s:={ s with heap:=h' }) e c d (by decide) ⟨x,H,I1,ru,⟨rfl,fun ys hy=>by rw [I.list_inj hy hq]; exact hx⟩,st',fun b hb=>(hf b hb).1⟩⟩
 done:=by
  intro X hP hw hK hc i pins s σ H E I hf st hg
  subst hP hw hK
  obtain ⟨xs,hq,hx⟩:=hg
  obtain ⟨its,rv,p,hz⟩:=I.list hq
  obtain ⟨f0,f1,f2,f3,f4,f5⟩:=hf it (by simp)
  have hl:=rv.length
  exact wpAny_pyNext_list_end (I.ok.hd hc) st p.isList (by simp; omega) fun h' eb=>⟨rfl,I.turned (t':=s.toks) (fun b o hb e=>eb b o hb e) f0 f1 f3 f4 f5⟩
 self:=fun _ _ _ _ _ st h=>wpAny_pyIter_listiter st h
theorem turn_tuple {P : Program} {w : World} {K : PySem.W.Frag} {tg : Expr} (a it : Addr) : Turn P w K tg (Itt K a) [it] it (fun i h=>h.IsTupleIter it a i) where
 mem:=by simp
 obj:=fun i h st b hb=>by
  have e : b = it:=by simpa using hb
  subst e
  obtain ⟨o,e,c,d⟩:=st
  exact ⟨o,e,fun v z=>by rw [d] at z; cases z⟩
 keep:=fun i h h' st k=>st.at fun o e=>k it (by simp) o e
 item:=by
  intro X hP hw hK hc i pins s σ H E I hf st hg
  subst hP hw hK
  obtain ⟨xs,x,hq,hx⟩:=hg
  obtain ⟨its,rv,p,hz⟩:=I.tuple hq
  obtain ⟨u,hu,ru⟩:=rv.get hx
  obtain ⟨f0,f1,f2,f3,f4,f5⟩:=hf it (by simp)
  refine wpAny_pyNext_tuple_item st (show s.heap.IsTuple a its.toArray from p) (x:=u) (by simpa using hu) fun h' st' sb=>?_
  have I1 : Inv X pins σ H { s with heap:=h' }:=I.turned (t':=s.toks) (fun b o hb e=>(sb.2 b hb).trans e) f0 f1 f3 f4 f5
  obtain ⟨o,e,c,d⟩:=id st'
  exact ⟨u,rfl,go_of (s:={ s with heap:=h' }) e c d (by decide) ⟨x,H,I1,ru,⟨rfl,fun ys hy=>by rw [I.tuple_inj hy hq]; exact hx⟩,st',fun b hb=>(hf b hb).1⟩⟩
 done:=by
  intro X hP hw hK hc i pins s σ H E I hf st hg
  subst hP hw hK
  obtain ⟨xs,hq,hx⟩:=hg
  obtain ⟨its,rv,p,hz⟩:=I.tuple hq
  obtain ⟨f0,f1,f2,f3,f4,f5⟩:=hf it (by simp)
  have hl:=rv.length
  exact wpAny_pyNext_tuple_end (I.ok.hd hc) st (show s.heap.IsTuple a its.toArray from p) (by simp; omega) fun h' eb=>⟨rfl,I.turned (t':=s.toks) (fun b o hb e=>eb b o hb e) f0 f1 f3 f4 f5⟩
 self:=fun _ _ _ _ _ st h=>wpAny_pyIter_tupleiter st h
theorem turn_range {P : Program} {w : World} {K : PySem.W.Frag} {tg : Expr} (it : Addr) (lo : Int) (n : Nat) : Turn P w K tg (Itr lo n) [it] it (fun i h=>IsRangeIter h it (lo + (i : Nat) * 1) ((n : Int) - (i : Nat)) 1) where
 mem:=by simp
 obj:=fun i h st b hb=>by
  have e : b = it:=by simpa using hb
  subst e
  exact ⟨_,st,fun v z=>by
   have z' : Data.fields _ = Data.cell v:=z
   cases z'⟩
 keep:=fun i h h' st k=>k it (by simp) _ st
 item:=by
  intro X hP hw hK hc i pins s σ H E I hf st hg
  subst hP hw hK
  obtain ⟨f0,f1,f2,f3,f4,f5⟩:=hf it (by simp)
  have W:=Walks.range (prog:=X.prog) (w:=X.w) (I.ok.hd hc) it lo 1 n
  refine W.item i s _ _ hg st fun v h' tk hv st' kk=>?_
  obtain ⟨t,rfl⟩:=hv
  have I1 : Inv X pins σ H { s with heap:=h',toks:=tk }:=I.turned (fun b o hb e=>kk b o (by simpa using hb) e) f0 f1 f3 f4 f5
  refine ⟨_,rfl,go_of (s:={ s with heap:=h',toks:=tk }) (n:="range_iterator") st' rfl rfl (by decide) ⟨.int (lo + i),H,I1,⟨t,?_⟩,⟨rfl,rfl⟩,st',fun b hb=>(hf b hb).1⟩⟩
  rw [Int.mul_one]
 done:=by
  intro X hP hw hK hc i pins s σ H E I hf st hg
  subst hP hw hK
  obtain ⟨f0,f1,f2,f3,f4,f5⟩:=hf it (by simp)
  exact wpAny_pyNext_range_end (I.ok.hd hc) st (by have : n≤i:=hg; omega) fun h' eb=>⟨rfl,I.turned (t':=s.toks) (fun b o hb e=>eb b o hb e) f0 f1 f3 f4 f5⟩
 self:=fun _ _ _ _ _ st h=>wpAny_pyIter_rangeiter st h
end L2
namespace L2
open PySem PySem.Spec PyProof.Rows
section
variable {X : Cx} {tg : Expr}
noncomputable def iList (K : PySem.W.Frag) (tl : TE) : TI:=fun σ H R=>tl σ H fun x H1=>∃ a,x = .ref a∧(∃ xs,SqL K H1 a xs)∧R (Itl K a) H1
noncomputable def iTup (K : PySem.W.Frag) (tl : TE) : TI:=fun σ H R=>tl σ H fun x H1=>∃ a,x = .ref a∧(∃ xs,SqT K H1 a xs)∧R (Itt K a) H1
theorem pi_list {l : Expr} {tl : TE} (hl : PE X l tl) : PI X tg l (iList X.K tl):=by
 intro pins s σ H R I h
 refine thn (hl pins s σ H _ I h) fun v s1 ⟨x,H1,I1,r1,q1⟩=>?_
 obtain ⟨a,e,⟨xs,hq⟩,q⟩:=q1
 subst e
 cases r1
 obtain ⟨its,rv,p,hz⟩:=I1.list hq
 refine wpAny_pyIter_list p.isList ?_
 refine ⟨s1.heap.objs.size,[s1.heap.objs.size],_,_,H1,rfl,I1.kept (t':=s1.toks) fun b o e=>Heap.get?_push_of_some _ e,turn_list a _,⟨_,Heap.get?_push_size _ rfl,rfl,rfl⟩,fun b hb=>?_,q⟩
 have e : b = s1.heap.objs.size:=by simpa using hb
 subst e
 exact I1.fpOk (Nat.le_refl _) (I1.hok.fresh (Nat.le_refl _))
theorem pi_tup {l : Expr} {tl : TE} (hl : PE X l tl) : PI X tg l (iTup X.K tl):=by
 intro pins s σ H R I h
 refine thn (hl pins s σ H _ I h) fun v s1 ⟨x,H1,I1,r1,q1⟩=>?_
 obtain ⟨a,e,⟨xs,hq⟩,q⟩:=q1
 subst e
 cases r1
 obtain ⟨its,rv,p,hz⟩:=I1.tuple hq
 refine wpAny_pyIter_tuple (show s1.heap.IsTuple a its.toArray from p) ?_
 refine ⟨s1.heap.objs.size,[s1.heap.objs.size],_,_,H1,rfl,I1.kept (t':=s1.toks) fun b o e=>Heap.get?_push_of_some _ e,turn_tuple a _,⟨_,Heap.get?_push_size _ rfl,rfl,rfl⟩,fun b hb=>?_,q⟩
 have e : b = s1.heap.objs.size:=by simpa using hb
 subst e
 exact I1.fpOk (Nat.le_refl _) (I1.hok.fresh (Nat.le_refl _))
theorem range_it {pins : List (Addr × Obj)} {σ : St} {H : Hp} {s : Shared} {R : It→Hp→Prop} {E : Value→Shared→Prop} {lo hi : Int} {t u v : Tok} {tk : Nat} (I : Inv X pins σ H s) (h1 : -(2 ^ 62)≤lo) (h2 : lo < 2 ^ 62) (h3 : -(2 ^ 62)≤hi) (h4 : hi < 2 ^ 62)
  (q : R (Itr lo (hi - lo).toNat) H) : wpAny (model X.prog X.w) X.A (pyIter (.ref s.heap.objs.size)) (PIE X pins σ tg R) E { s with heap:=s.heap.push { cls:=.type "range",data:=.fields #[.int lo t,.int hi u,.int 1 v] },toks:=tk }:=by
 refine wpAny_pyIter_range (IsRange.new ..) (small_one h1 h2 h3 h4) ?_
 have I1 : Inv X pins σ H { s with heap:=s.heap.push { cls:=.type "range",data:=.fields #[.int lo t,.int hi u,.int 1 v] },toks:=tk }:=I.kept fun b o e=>Heap.get?_push_of_some _ e
 refine ⟨(s.heap.push { cls:=.type "range",data:=.fields #[.int lo t,.int hi u,.int 1 v] }).objs.size,[(s.heap.push { cls:=.type "range",data:=.fields #[.int lo t,.int hi u,.int 1 v] }).objs.size],_,_,H,rfl,
  I1.kept (t':=tk) fun b o e=>Heap.get?_push_of_some _ e,turn_range _ lo (hi - lo).toNat,?_,fun b hb=>?_,q⟩
 ·have e1 : lo + ((0 : Nat) : Int) * 1 = lo:=by simp
  have e2 : (((hi - lo).toNat : Nat) : Int) - ((0 : Nat) : Int) = Builtin.Range.rangeSize lo hi 1:=by rw [rangeSize_one]; split <;> omega
  show IsRangeIter _ _ (lo + ((0 : Nat) : Int) * 1) ((((hi - lo).toNat : Nat) : Int) - ((0 : Nat) : Int)) 1
  rw [e1,e2]
  exact Heap.get?_push_size _ rfl
 ·have e : b = (s.heap.push { cls:=.type "range",data:=.fields #[.int lo t,.int hi u,.int 1 v] }).objs.size:=by simpa using hb
  subst e
  exact I1.fpOk (Nat.le_refl _) (I1.hok.fresh (Nat.le_refl _))
noncomputable def iRng1 (ta : TA) : TI:=fun σ H R=>ta σ H fun vs H1=>∃ j : Int,vs = [.int j]∧-(2 ^ 62)≤j∧j < 2 ^ 62∧R (Itr 0 j.toNat) H1
theorem pi_range1 {a : Expr} {ta : TA} {p pos : Pos} (hg : Gl X "range") (hm : X.mg "range" = none) (ha : PA X [a] ta) (hs : starEach [a] X.env = [(false,eval a X.env)]:=by rfl) : PI X tg (.Call (.Name "range" p) [a] [] pos) (iRng1 ta):=by
 intro pins s σ H R I h
 refine Call_ (ld_blt I hg hm boot_range (PyProof.Rows.callWith_type1 (thn (ha pos pins s σ H _ I h) fun us s1 ⟨vs,H1,I1,r1,q1⟩=>?_) hs rfl))
 obtain ⟨j,e,q1,q2,q⟩:=q1
 subst e
 cases r1 with
 | cons r rr =>
  cases rr
  obtain ⟨t,rfl⟩:=r
  exact call_range_1 (range_it I1 (by omega) (by omega) q1 q2 (by simpa using q))
noncomputable def tFor (wi : TI) (g : TG) (tb : TS) : TS:=fun D σ H=>wi σ H fun J H1=>∃ W : Nat→Nat→St→Hp→Prop,(∃ m,W 0 m σ H1)∧∀ i m σ H,W i m σ H →
 (J.stop i H∧D.nx σ H)∨(J.go i H∧∃ N : St→Hp→Prop,(∀ σ' H',N σ' H'→∃ m',m' < m∧W (i + 1) m' σ' H')∧∀ x H',J.yld i H x H'→g x σ H' fun σ2 H2=>tb { D with nx:=N,ct:=N,bk:=D.nx } σ2 H2)
noncomputable def pinsAt (fp : List Addr) (h : Heap) : List (Addr × Obj):=fp.filterMap fun b=>(h.get? b).map fun o=>(b,o)
theorem mem_pinsAt {fp : List Addr} {h : Heap} {b : Addr} {o : Obj} (hb : b∈fp) (e : h.get? b = some o) : (b,o)∈pinsAt fp h:=List.mem_filterMap.mpr ⟨b,hb,by rw [e]; rfl⟩
theorem of_pinsAt {fp : List Addr} {h : Heap} {p : Addr × Obj} (hp : p∈pinsAt fp h) : p.1∈fp∧h.get? p.1 = some p.2:=by
 obtain ⟨b,hb,e⟩:=List.mem_filterMap.mp hp
 cases q : h.get? b with
 | none=>rw [q] at e; cases e
 | some o =>
  rw [q] at e
  have e' : (b,o) = p:=Option.some.inj e
  subst e'
  exact ⟨hb,q⟩
theorem Inv.pinned {pins : List (Addr × Obj)} {σ : St} {H : Hp} {s : Shared} {fp : List Addr} (I : Inv X pins σ H s) (hf : ∀ b∈fp,FpOk X pins H b) (ho : ∀ b∈fp,∃ o,s.heap.get? b = some o∧∀ v,o.data ≠ .cell v) : Inv X (pins ++ pinsAt fp s.heap) σ H s :=
 I.pins_of fun p hp=>(List.mem_append.mp hp).elim (fun z=>I.pin p (List.mem_append_right _ z)) fun z=>by
  obtain ⟨hb,e⟩:=of_pinsAt z
  obtain ⟨f0,f1,f2,_⟩:=hf p.1 hb
  obtain ⟨o,e',d⟩:=ho p.1 hb
  rw [e] at e'; cases e'
  exact ⟨e,f0,f1,f2,d⟩
theorem Inv.unpinned {pins pl : List (Addr × Obj)} {σ : St} {H : Hp} {s : Shared} (I : Inv X (pins ++ pl) σ H s) : Inv X pins σ H s:=I.pins_of fun p hp=>I.pin p (List.mem_append_right _ (List.mem_append_left _ hp))
theorem ps_for {iter : Expr} {body : List Stmt} {wi : TI} {g : TG} {tb : TS} {pos : Pos} (hp : PassesOwn (model X.prog X.w) X.A X.env X.xe) (hc : X.calm = true) (hi : PI X tg iter wi) (hg : PG X tg g) (hb : PSs X body tb)
  (hs : ∀ x,foldedSetIterable iter X.env x = pure x:=by intro _; rfl) : PS X (.For tg iter body [] pos) (tFor wi g tb):=by
 intro pins s σ H D I h
 refine wpAny_For (thn (hi pins s σ H _ I h) fun v s1 h1=>thn h1 fun itv s2 h2=>?_) hs
 obtain ⟨it,fp,tn,J,H2,e,I2,T,st2,f2,W,⟨m0,w0⟩,turn⟩:=h2
 subst e
 have stat : ∀ {H' : Hp},(∀ b∈fp,H' b = none)→∀ b∈fp,FpOk X pins H' b:=fun hn b hb=>⟨hn b hb,(f2 b hb).2⟩
 refine codeAny_forLoop_any (fun n s'=>∃ i σ' H',Inv X pins σ' H' s'∧tn i s'.heap∧(∀ b∈fp,H' b = none)∧W i n σ' H') ?_ m0 ⟨0,σ,H2,I2,st2,fun b hb=>(f2 b hb).1,w0⟩
 rintro n s3 ⟨i,σ3,H3,I3,st3,fr3,w3⟩
 rcases turn i n σ3 H3 w3 with ⟨stop,qn⟩ | ⟨go,N,hN,step⟩
 ·refine wpAny_passesOwn hp (thn (T.done X rfl rfl rfl hc i pins s3 σ3 H3 X.xe I3 (stat fr3) st3 stop) fun r s4 ⟨hr,I4⟩=>?_)
  subst hr
  exact wpAny_execs_nil ⟨σ3,H3,I4,qn⟩
 ·refine wpAny_passesOwn hp (thn (T.item X rfl rfl rfl hc i pins s3 σ3 H3 X.xe I3 (stat fr3) st3 go) fun r s4 ⟨u,hr,h4⟩=>?_)
  subst hr
  refine wpAny_passesOwn hp (thn h4 fun _ s5 ⟨x,H5,I5,r5,y5,st5,fr5⟩=>?_)
  have I5':=I5.pinned (stat fr5) (T.obj _ _ st5)
  refine wpAny_passesOwn hp (thn (hg _ s5 σ3 H5 x u _ I5' r5 (step x H5 y5)) fun _ s6 ⟨σ6,H6,I6,q6⟩=>?_)
  refine wpAny_passesOwn hp (thn (hb _ s6 σ6 H6 _ I6 q6) fun f s7 q7=>?_)
  have again : ∀ {σ7 : St} {H7 : Hp},Inv X (pins ++ pinsAt fp s5.heap) σ7 H7 s7→N σ7 H7→∃ m,m < n∧∃ i σ' H',Inv X pins σ' H' s7∧tn i s7.heap∧(∀ b∈fp,H' b = none)∧W i m σ' H':=fun {σ7 H7} I7 n7=>by
   obtain ⟨m',hm,w7⟩:=hN σ7 H7 n7
   refine ⟨m',hm,i + 1,σ7,H7,I7.unpinned,T.keep _ _ _ st5 fun b hb o e=>(I7.pin (b,o) (List.mem_append_right _ (List.mem_append_right _ (mem_pinsAt hb e)))).1,fun b hb=>?_,w7⟩
   obtain ⟨o,e,d⟩:=T.obj _ _ st5 b hb
   exact (I7.pin (b,o) (List.mem_append_right _ (List.mem_append_right _ (mem_pinsAt hb e)))).2.1
  cases f with
  | next=>obtain ⟨σ7,H7,I7,n7⟩:=q7; exact again I7 n7
  | cont=>obtain ⟨σ7,H7,I7,n7⟩:=q7; exact again I7 n7
  | brk=>obtain ⟨σ7,H7,I7,q7⟩:=q7; exact ⟨σ7,H7,I7.unpinned,q7⟩
  | ret v=>obtain ⟨x7,σ7,H7,I7,r7,q7⟩:=q7; exact ⟨x7,σ7,H7,I7.unpinned,r7,q7⟩
end
theorem for_list {K : PySem.W.Frag} {a : Addr} {xs : List V} {g : TG} {tb : TS} {D : Ends} {σ : St} {H : Hp} (Pv : Nat→St→Hp→Prop) (h0 : Pv 0 σ H) (hl : ∀ i σ H,i≤xs.length→Pv i σ H→SqL K H a xs)
  (hs : ∀ i x σ H,xs[i]? = some x→Pv i σ H→g x σ H fun σ2 H2=>tb { D with nx:=Pv (i + 1),ct:=Pv (i + 1),bk:=D.nx } σ2 H2) (hd : ∀ σ H,Pv xs.length σ H→D.nx σ H) :
  ∃ W : Nat→Nat→St→Hp→Prop,(∃ m,W 0 m σ H)∧∀ i m σ H,W i m σ H →
   ((Itl K a).stop i H∧D.nx σ H)∨((Itl K a).go i H∧∃ N : St→Hp→Prop,(∀ σ' H',N σ' H'→∃ m',m' < m∧W (i + 1) m' σ' H')∧∀ x H',(Itl K a).yld i H x H'→g x σ H' fun σ2 H2=>tb { D with nx:=N,ct:=N,bk:=D.nx } σ2 H2):=by
 refine ⟨fun i m σ H=>m = xs.length - i∧i≤xs.length∧Pv i σ H,⟨xs.length,by simp,Nat.zero_le _,h0⟩,?_⟩
 rintro i m σ H ⟨rfl,hi,p⟩
 have q:=hl i σ H hi p
 by_cases hlt : i < xs.length
 ·refine .inr ⟨⟨xs,xs[i],q,by simp [hlt]⟩,Pv (i + 1),fun σ' H' p'=>⟨xs.length - (i + 1),by omega,rfl,hlt,p'⟩,fun x H' y=>?_⟩
  obtain ⟨e,y⟩:=y
  subst e
  exact hs i x σ _ (y xs q) p
 ·have e : i = xs.length:=by omega
  subst e
  exact .inl ⟨⟨xs,q,Nat.le_refl _⟩,hd σ H p⟩
theorem for_tup {K : PySem.W.Frag} {a : Addr} {xs : List V} {g : TG} {tb : TS} {D : Ends} {σ : St} {H : Hp} (Pv : Nat→St→Hp→Prop) (h0 : Pv 0 σ H) (hl : ∀ i σ H,i≤xs.length→Pv i σ H→SqT K H a xs)
  (hs : ∀ i x σ H,xs[i]? = some x→Pv i σ H→g x σ H fun σ2 H2=>tb { D with nx:=Pv (i + 1),ct:=Pv (i + 1),bk:=D.nx } σ2 H2) (hd : ∀ σ H,Pv xs.length σ H→D.nx σ H) :
  ∃ W : Nat→Nat→St→Hp→Prop,(∃ m,W 0 m σ H)∧∀ i m σ H,W i m σ H →
   ((Itt K a).stop i H∧D.nx σ H)∨((Itt K a).go i H∧∃ N : St→Hp→Prop,(∀ σ' H',N σ' H'→∃ m',m' < m∧W (i + 1) m' σ' H')∧∀ x H',(Itt K a).yld i H x H'→g x σ H' fun σ2 H2=>tb { D with nx:=N,ct:=N,bk:=D.nx } σ2 H2):=by
 refine ⟨fun i m σ H=>m = xs.length - i∧i≤xs.length∧Pv i σ H,⟨xs.length,by simp,Nat.zero_le _,h0⟩,?_⟩
 rintro i m σ H ⟨rfl,hi,p⟩
 have q:=hl i σ H hi p
 by_cases hlt : i < xs.length
 ·refine .inr ⟨⟨xs,xs[i],q,by simp [hlt]⟩,Pv (i + 1),fun σ' H' p'=>⟨xs.length - (i + 1),by omega,rfl,hlt,p'⟩,fun x H' y=>?_⟩
  obtain ⟨e,y⟩:=y
  subst e
  exact hs i x σ _ (y xs q) p
 ·have e : i = xs.length:=by omega
  subst e
  exact .inl ⟨⟨xs,q,Nat.le_refl _⟩,hd σ H p⟩
end L2
namespace L2
open PySem PySem.Spec PyProof.Rows
noncomputable abbrev R2:=V→V→Hp→VK→Prop
noncomputable def OpR (X : Cx) (f : Value→Value→Sem Value) (r : R2) : Prop :=
 ∀ (pins : List (Addr × Obj)) (s : Shared) (σ : St) (H : Hp) (x y : V) (v u : Value) (Q : VK),Inv X pins σ H s→RelV x v→RelV y u→r x y H Q →
  wpAny (model X.prog X.w) X.A (f v u) (EP X pins σ Q) X.xe s
noncomputable def UnR (X : Cx) (f : Value→Sem Value) (r : V→Hp→VK→Prop) : Prop :=
 ∀ (pins : List (Addr × Obj)) (s : Shared) (σ : St) (H : Hp) (x : V) (v : Value) (Q : VK),Inv X pins σ H s→RelV x v→r x H Q →
  wpAny (model X.prog X.w) X.A (f v) (EP X pins σ Q) X.xe s
noncomputable def CallR (X : Cx) (f : Value) (r : List V→Hp→VK→Prop) : Prop :=
 ∀ (pins : List (Addr × Obj)) (s : Shared) (σ : St) (H : Hp) (xs : List V) (us : List Value) (Q : VK),Inv X pins σ H s→Vals xs us→r xs H Q →
  wpAny (model X.prog X.w) X.A (call f us) (EP X pins σ Q) X.xe s
noncomputable def tOp (r : R2) (ta tb : TE) : TE:=fun σ H Q=>ta σ H fun x H1=>tb σ H1 fun y H2=>r x y H2 Q
noncomputable def tUn (r : V→Hp→VK→Prop) (ta : TE) : TE:=fun σ H Q=>ta σ H fun x H1=>r x H1 Q
noncomputable def rI (C : Int→Int→Prop) (g : Int→Int→V) : R2:=fun x y H Q=>∃ i j,x = .int i∧y = .int j∧C i j∧Q (g i j) H
noncomputable def rI0 (g : Int→Int→V) : R2:=fun x y H Q=>∃ i j,x = .int i∧y = .int j∧Q (g i j) H
noncomputable def rU (g : Int→V) : V→Hp→VK→Prop:=fun x H Q=>∃ i,x = .int i∧Q (g i) H
section
variable {X : Cx} {a b c : Expr} {ta tb tc : TE} {pos : Pos}
theorem binT (ha : PE X a ta) (hb : PE X b tb) {pins : List (Addr × Obj)} {s : Shared} {σ : St} {H : Hp} {R : V→V→Hp→Prop} (I : Inv X pins σ H s)
  (h : ta σ H fun x H1=>tb σ H1 fun y H2=>R x y H2) {Q : Value→Shared→Prop} {f : Value→Value→Sem Value}
  (hf : ∀ v u s2 x y H2,Inv X pins σ H2 s2→RelV x v→RelV y u→R x y H2→wpAny (model X.prog X.w) X.A (f v u) Q X.xe s2) :
  wpAny (model X.prog X.w) X.A (eval a X.env) (fun v s₁=>wpAny (model X.prog X.w) X.A (eval b X.env) (fun u s₂=>wpAny (model X.prog X.w) X.A (f v u) Q X.xe s₂) X.xe s₁) X.xe s:=by
 refine thn (ha pins s σ H _ I h) fun v s1 ⟨x,H1,I1,r1,q1⟩=>?_
 refine thn (hb pins s1 σ H1 _ I1 q1) fun u s2 ⟨y,H2,I2,r2,q2⟩=>?_
 exact hf v u s2 x y H2 I2 r1 r2 q2
theorem pe_op {op : Operator} {r : R2} (ho : OpR X (binaryOp op) r) (ha : PE X a ta) (hb : PE X b tb) : PE X (.BinOp a op b pos) (tOp r ta tb):=by
 intro pins s σ H Q I h
 exact wpAny_BinOp (binT ha hb I h fun v u s2 x y H2 I2 rx ry q=>ho pins s2 σ H2 x y v u Q I2 rx ry q)
theorem pe_un {op : UnaryOp} {r : V→Hp→VK→Prop} (ho : UnR X (unaryOp op) r) (ha : PE X a ta) : PE X (.UnaryOp op a pos) (tUn r ta):=by
 intro pins s σ H Q I h
 exact UnaryOp_ (thn (ha pins s σ H _ I h) fun v s1 ⟨x,H1,I1,r1,q1⟩=>ho pins s1 σ H1 x v Q I1 r1 q1)
theorem opI {f : Value→Value→Sem Value} {C : Int→Int→Prop} {g : Int→Int→Int}
  (rule : ∀ (i j : Int) (t u : Tok) (s : Shared) (Q : Value→Shared→Prop) (E : Value→Shared→Prop),C i j→Q (.int (g i j) s.toks) { s with toks:=s.toks + 1 }→wpAny (model X.prog X.w) X.A (f (.int i t) (.int j u)) Q E s) :
  OpR X f (rI C fun i j=>.int (g i j)):=by
 intro pins s σ H x y v u Q I rx ry h
 obtain ⟨i,j,rfl,rfl,hc,q⟩:=h
 obtain ⟨t,rfl⟩:=rx
 obtain ⟨t',rfl⟩:=ry
 exact rule i j t t' s _ _ hc ⟨.int (g i j),H,I.tok _,⟨_,rfl⟩,q⟩
theorem opI0 {f : Value→Value→Sem Value} {g : Int→Int→Int}
  (rule : ∀ (i j : Int) (t u : Tok) (s : Shared) (Q : Value→Shared→Prop) (E : Value→Shared→Prop),Q (.int (g i j) s.toks) { s with toks:=s.toks + 1 }→wpAny (model X.prog X.w) X.A (f (.int i t) (.int j u)) Q E s) :
  OpR X f (rI0 fun i j=>.int (g i j)):=by
 intro pins s σ H x y v u Q I rx ry h
 obtain ⟨i,j,rfl,rfl,q⟩:=h
 obtain ⟨t,rfl⟩:=rx
 obtain ⟨t',rfl⟩:=ry
 exact rule i j t t' s _ _ ⟨.int (g i j),H,I.tok _,⟨_,rfl⟩,q⟩
theorem opB0 {f : Value→Value→Sem Value} {g : Int→Int→Bool}
  (rule : ∀ (i j : Int) (t u : Tok) (s : Shared) (Q : Value→Shared→Prop) (E : Value→Shared→Prop),Q (.bool (g i j)) s→wpAny (model X.prog X.w) X.A (f (.int i t) (.int j u)) Q E s) :
  OpR X f (rI0 fun i j=>.bl (g i j)):=by
 intro pins s σ H x y v u Q I rx ry h
 obtain ⟨i,j,rfl,rfl,q⟩:=h
 obtain ⟨t,rfl⟩:=rx
 obtain ⟨t',rfl⟩:=ry
 exact rule i j t t' s _ _ ⟨.bl (g i j),H,I,rfl,q⟩
noncomputable def CPow (i j : Int) : Prop:=0≤j∧j≤1000000∧i.natAbs < 2 ^ 64
theorem op_add : OpR X (binaryOp .Add) (rI0 fun i j=>.int (i + j)):=opI0 fun _ _ _ _ _ _ _ q=>add_int q
theorem op_sub : OpR X (binaryOp .Sub) (rI0 fun i j=>.int (i - j)):=opI0 fun _ _ _ _ _ _ _ q=>sub_int q
theorem op_mod : OpR X (binaryOp .Mod) (rI (fun _ j=>0 < j) fun i j=>.int (i % j)):=opI fun i j _ _ _ _ _ hc q=>by
 have h1 : (0 : Int) < j:=hc
 exact mod_int' (by omega) (by rw [Int.fmod_eq_emod_of_nonneg i (by omega)]; exact q)
theorem op_pow : OpR X (binaryOp .Pow) (rI CPow fun i j=>.int (i ^ j.toNat)):=opI fun _ _ _ _ _ _ _ hc q=>pow_int_small hc.1 hc.2.1 hc.2.2 q
theorem unI {f : Value→Sem Value} {g : Int→Int}
  (rule : ∀ (i : Int) (t : Tok) (s : Shared) (Q : Value→Shared→Prop) (E : Value→Shared→Prop),Q (.int (g i) s.toks) { s with toks:=s.toks + 1 }→wpAny (model X.prog X.w) X.A (f (.int i t)) Q E s) :
  UnR X f (rU fun i=>.int (g i)):=by
 intro pins s σ H x v Q I rx h
 obtain ⟨i,rfl,q⟩:=h
 obtain ⟨t,rfl⟩:=rx
 exact rule i t s _ _ ⟨.int (g i),H,I.tok _,⟨_,rfl⟩,q⟩
theorem un_neg : UnR X (unaryOp .USub) (rU fun i=>.int (-i)):=unI fun _ _ _ _ _ q=>neg_int q
end
noncomputable def scal : V→V→Bool
 | .non,.non=>true | .non,.int _=>true | .int _,.non=>true | .non,.bl _=>true | .bl _,.non=>true | .non,.str _=>true | .str _,.non=>true
 | .int _,.int _=>true | .bl _,.bl _=>true | .str _,.str _=>true | .byt _,.byt _=>true
 | .int _,.str _=>true | .str _,.int _=>true | .bl _,.str _=>true | .str _,.bl _=>true
 | _,_=>false
noncomputable def rEq : R2:=fun x y H Q=>scal x y = true∧Q (.bl (decide (x = y))) H
theorem dec_int {i j : Int} : decide (V.int i = V.int j) = (i == j):=by
 rw [Bool.eq_iff_iff]
 simp
theorem dec_bl {i j : Bool} : decide (V.bl i = V.bl j) = (i == j):=by
 rw [Bool.eq_iff_iff]
 simp
theorem dec_str {i j : Str} : decide (V.str i = V.str j) = (i == j):=by
 rw [Bool.eq_iff_iff]
 simp
theorem dec_byt {i j : Array UInt8} : decide (V.byt i = V.byt j) = (i.toList == j.toList):=by
 rw [Bool.eq_iff_iff]
 cases i
 cases j
 simp
section
variable {X : Cx} {a b c : Expr} {ta tb tc : TE} {pos : Pos}
theorem fin_bl {pins : List (Addr × Obj)} {σ : St} {H : Hp} {s : Shared} {Q : VK} {k k' : Bool} (I : Inv X pins σ H s) (q : Q (.bl k) H) (e : k = k') : EP X pins σ Q (.bool k') s:=by
 subst e
 exact ⟨.bl k,H,I,rfl,q⟩
theorem op_eq : OpR X (compareOp .Eq) rEq:=by
 intro pins s σ H x y v u Q I rx ry h
 obtain ⟨hs,q⟩:=h
 cases x with
 | non =>
  cases rx
  cases y with
  | non=>cases ry; exact PySem.EqNone.eq_none_none (fin_bl I q (by simp))
  | bl j=>cases ry; exact PySem.EqNone.eq_none_bool (fin_bl I q (by simp))
  | int j=>obtain ⟨t',rfl⟩:=ry; exact PySem.EqNone.eq_none_int (fin_bl I q (by simp))
  | str j=>obtain ⟨t',rfl⟩:=ry; exact PySem.EqNone.eq_none_str (fin_bl I q (by simp))
  | _=>exact absurd (show false = true from hs) Bool.false_ne_true
 | bl i =>
  cases rx
  cases y with
  | non=>cases ry; exact PySem.EqNone.eq_bool_none (fin_bl I q (by simp))
  | bl j=>cases ry; exact eq_bool (fin_bl I q dec_bl)
  | str j=>obtain ⟨t',rfl⟩:=ry; exact PySem.EqMixed.eq_bool_str (fin_bl I q (by simp))
  | _=>exact absurd (show false = true from hs) Bool.false_ne_true
 | int i =>
  obtain ⟨t,rfl⟩:=rx
  cases y with
  | non=>cases ry; exact PySem.EqNone.eq_int_none (fin_bl I q (by simp))
  | int j=>obtain ⟨t',rfl⟩:=ry; exact eq_int (fin_bl I q dec_int)
  | str j=>obtain ⟨t',rfl⟩:=ry; exact PySem.EqMixed.eq_int_str (fin_bl I q (by simp))
  | _=>exact absurd (show false = true from hs) Bool.false_ne_true
 | str i =>
  obtain ⟨t,rfl⟩:=rx
  cases y with
  | non=>cases ry; exact PySem.EqNone.eq_str_none (fin_bl I q (by simp))
  | bl j=>cases ry; exact PySem.EqMixed.eq_str_bool (fin_bl I q (by simp))
  | int j=>obtain ⟨t',rfl⟩:=ry; exact PySem.EqMixed.eq_str_int (fin_bl I q (by simp))
  | str j=>obtain ⟨t',rfl⟩:=ry; exact eq_str (fin_bl I q dec_str)
  | _=>exact absurd (show false = true from hs) Bool.false_ne_true
 | byt i =>
  obtain ⟨t,rfl⟩:=rx
  cases y with
  | byt j=>obtain ⟨t',rfl⟩:=ry; exact PySem.W.eq_bytes (fin_bl I q dec_byt)
  | _=>exact absurd (show false = true from hs) Bool.false_ne_true
 | _=>cases y <;> exact absurd (show false = true from hs) Bool.false_ne_true
theorem op_lt : OpR X (compareOp .Lt) (rI0 fun i j=>.bl (decide (i < j))):=opB0 fun _ _ _ _ _ _ _ q=>lt_int q
theorem op_le : OpR X (compareOp .LtE) (rI0 fun i j=>.bl (decide (i≤j))):=opB0 fun _ _ _ _ _ _ _ q=>le_int q
theorem op_gt : OpR X (compareOp .Gt) (rI0 fun i j=>.bl (decide (j < i))):=opB0 fun _ _ _ _ _ _ _ q=>gt_int q
theorem op_notN : OpR X (compareOp .IsNot) (fun x y H Q=>y = .non∧Q (.bl (!decide (x = .non))) H):=by
 intro pins s σ H x y v u Q I rx ry h
 obtain ⟨rfl,q⟩:=h
 cases ry
 refine isnot_none_gen (fin_bl I q ?_)
 cases x <;> first
  | (cases rx; rfl)
  | (obtain ⟨t,rfl⟩:=rx; rfl)
theorem nomark (b : Expr) {op : CmpOp} (h : op ≠ .In:=by decide) (h2 : op ≠ .NotIn:=by decide) : behindInMarks op b = false:=by
 have e1 : (op == CmpOp.In) = false:=by cases op <;> first | rfl | exact absurd rfl h
 have e2 : (op == CmpOp.NotIn) = false:=by cases op <;> first | rfl | exact absurd rfl h2
 cases b <;> simp [behindInMarks,e1,e2]
theorem pe_cmpR {op : CmpOp} {r : R2} (ho : OpR X (compareOp op) r) (ha : PE X a ta) (hb : PE X b tb) (hm : behindInMarks op b = false) : PE X (.Compare a [op] [b] pos) (tOp r ta tb):=by
 intro pins s σ H Q I h
 exact wpAny_Compare1 (binT ha hb I h fun v u s2 x y H2 I2 rx ry q=>ho pins s2 σ H2 x y v u Q I2 rx ry q) hm
theorem line63 : (sizeLine : Nat) < 2 ^ 63:=by rw [sizeLine_eq]; decide
theorem op_add_str : OpR X (binaryOp .Add) (fun x y H Q=>∃ i j,x = .str i∧y = .str j∧i.length + j.length≤sizeLine∧Q (.str (i ++ j)) H):=by
 intro pins s σ H x y v u Q I rx ry h
 obtain ⟨i,j,rfl,rfl,hz,q⟩:=h
 obtain ⟨t,rfl⟩:=rx
 obtain ⟨t',rfl⟩:=ry
 exact add_str (fun t' tk=>⟨.str (i ++ j),H,I.tok _,⟨_,rfl⟩,q⟩) hz
theorem vals1 {x : V} {us : List Value} (r : Vals [x] us) : ∃ u,us = [u]∧RelV x u:=by
 cases r with
 | cons r1 r2=>cases r2; exact ⟨_,rfl,r1⟩
theorem vals2 {x y : V} {us : List Value} (r : Vals [x,y] us) : ∃ u w',us = [u,w']∧RelV x u∧RelV y w':=by
 cases r with
 | cons r1 r2 =>
  cases r2 with
  | cons r3 r4=>cases r4; exact ⟨_,_,rfl,r1,r3⟩
theorem call_abs : CallR X (.builtin "abs") (fun xs H Q=>∃ i,xs = [.int i]∧Q (.int (if i < 0 then -i else i)) H):=by
 intro pins s σ H xs us Q I r h
 obtain ⟨i,rfl,q⟩:=h
 obtain ⟨u,rfl,t,rfl⟩:=vals1 r
 exact call_abs_int fun u tk=>⟨.int (if i < 0 then -i else i),H,I.tok _,⟨_,rfl⟩,q⟩
theorem call_min2 (hc : X.calm = true) : CallR X (.builtin "min") (fun xs H Q=>∃ i j,xs = [.int i,.int j]∧Q (.int (if j < i then j else i)) H):=by
 intro pins s σ H xs us Q I r h
 obtain ⟨i,j,rfl,q⟩:=h
 obtain ⟨u,w',rfl,⟨t,rfl⟩,⟨t',rfl⟩⟩:=vals2 r
 refine min_two_ints (I.ok.hd hc) fun h' tk k=>⟨_,H,I.kept k,?_,q⟩
 by_cases hj : j < i
 ·rw [if_pos hj,if_pos hj]; exact ⟨_,rfl⟩
 ·rw [if_neg hj,if_neg hj]; exact ⟨_,rfl⟩
end
end L2
namespace L2
open PySem PySem.Spec PyProof.Rows
structure ObjM (h : Heap) (x dx C : Addr) (mA : Str→Option Value) : Prop where
 obj : h.get? x = some (PySem.W.instObj C dx)
 ns : h.Ns1 dx mA
 ne : dx ≠ x
theorem lookIn_ns {h : Heap} {dx : Addr} {mA : Str→Option Value} (n : h.Ns1 dx mA) : ∃ od,h.get? dx = some od∧∀ name,PySem.W.lookIn name od = some (mA name):=by
 obtain ⟨o,es,ep,ho,hd,hk,_,hm⟩:=n
 refine ⟨o,ho,fun name=>?_⟩
 have e:=hm name
 unfold nsFind findBy at e
 rw [← Array.find?_toList] at e
 unfold PySem.W.lookIn
 rw [hd]
 dsimp only
 split
 ·rename_i y q
  rw [q] at e
  exact congrArg some e
 ·rename_i q
  rw [q] at e
  have a : es.toList.any (·.refKey) = false:=by
   rw [List.any_eq_false]
   intro y hy
   obtain ⟨z,t,hkey⟩:=hk y (Array.mem_toList_iff.mp hy)
   simp [DictEntry.refKey,hkey]
  have a' : ¬ es.toList.any (·.refKey) = true:=by rw [a]; exact Bool.false_ne_true
  rw [if_neg a']
  exact congrArg some e
theorem ObjM.look {h : Heap} {x dx C : Addr} {mA : Str→Option Value} (I : ObjM h x dx C mA) : ∃ od,PySem.W.InstAt h x (PySem.W.instObj C dx) C (some od)∧∀ name,PySem.W.lookIn name od = some (mA name) :=
 let ⟨od,ho,hl⟩:=lookIn_ns I.ns
 ⟨od,⟨I.obj,rfl,rfl,ho⟩,hl⟩
section
variable {prog : Program} {w : World} {A : Around} {E : Value→Shared→Prop} {s : Shared} {K : PySem.W.Frag} {x dx C f : Addr} {mA : Str→Option Value} {name : Str} {v : Value}
theorem get_map {expr : Bool} {Q : Value→Shared→Prop} (X : K.In s.heap) (I : ObjM s.heap x dx C mA) (hg : PySem.W.plainGet K C name = true) (hh : PySem.W.hasDictIn K C = true)
  (ha : PySem.W.findIn K (.ref C) name = some none) (hv : mA name = some v) (hv' : PySem.W.handedIn v = true) (h : Q v { s with toks:=s.toks + 1 }) :
  wpAny (model prog w) A (getAttr (.ref x) name expr) Q E s:=by
 obtain ⟨od,J,hl⟩:=I.look
 exact PySem.W.get_value X J (PySem.W.plainGet_of hg).1 (PySem.W.findObj_own hh ha rfl (by rw [hl,hv])) hv' h
theorem get_meth {pl : Sem Bool} {Q : Value × List Value→Shared→Prop} (X : K.In s.heap) (I : ObjM s.heap x dx C mA) (hg : PySem.W.plainGet K C name = true)
  (hf : PySem.W.findIn K (.ref C) name = some (some (.ref f))) (ht : PySem.W.isFn K (.ref f) = true) (hv : mA name = none) (h : Q (.ref f,[.ref x]) s) :
  wpAny (model prog w) A (getMethod (.ref x) name pl) Q E s:=by
 obtain ⟨od,J,hl⟩:=I.look
 exact PySem.W.method_fn X J (PySem.W.plainGet_of hg).1 (PySem.W.plainGet_of hg).2 hf (beq_iff_eq.mp ht) (by show (PySem.W.lookIn name od).map (·.isSome) = some false; rw [hl,hv]; rfl) h
theorem set_map {ns : List Str} {Q : Unit→Shared→Prop} (X : K.In s.heap) (I : ObjM s.heap x dx C mA)
  (hs : PySem.W.findIn K (.ref C) "__setattr__" = some (some (.builtin "object.__setattr__"))) (hp : PySem.W.plainOver K C = true) (ht : PySem.W.takerIn K C name = some none) (hh : PySem.W.hasDictIn K C = true)
  (hw : PySem.Within mA ns) (hsz : ns.length≤sizeLine)
  (h : ∀ h',ObjM h' x dx C (fun y=>if y = name then some v else mA y)→Heap.SameBut dx s.heap h'→Q () { s with heap:=h',toks:=s.toks + 2 }) :
  wpAny (model prog w) A (setAttr (.ref x) name v) Q E s:=by
 obtain ⟨od,J,hl⟩:=I.look
 refine PySem.W.set_plain X J hs (PySem.W.osa_open (s:={ s with toks:=s.toks + 1 }) (r:=none) X J hp ht fun b=>?_)
 obtain ⟨cd,hc,hd'⟩:=PySem.W.any_some hh
 have hx : s.heap.get? x = some ⟨.ref C,some dx,.plain,#[]⟩:=I.obj
 refine wpAny_bind (wpAny_pure (wpAny_bind (wpAny_bind (wpAny_loadPart hx (wpAny_bind (PySem.W.Looks.here (s:={ s with toks:=s.toks + 1 }) (PySem.W.looks_clsIn X hc) ?_))))))
 rw [hd']
 refine wpAny_pure (a:=some dx) (wpAny_bind (wpAny_pure (wpAny_bind ?_)))
 refine wpAny_nsSet1 (s:={ s with toks:=s.toks + 1 }) I.ns fun h' hn2 hs2=>?_
 obtain ⟨oD,esD,epD,hoD,hdD,hcD⟩:=hn2.count (PySem.Within.cons name v hw)
 refine wpAny_bind (wpAny_lookBehind hoD (by rw [hdD]; exact pastItsLine_dict (Nat.le_trans hcD (by rw [List.length_cons]; omega))) ?_)
 exact wpAny_pure (h _ ⟨(hs2.2 _ (Ne.symm I.ne)).trans I.obj,hn2,I.ne⟩ hs2)
theorem make_map {R : Result→Shared→Prop} {vs : List Value} {kw : List (Str × Value)} (X : K.In s.heap) (hm : PySem.W.makesIn K C = true)
  (hi : PySem.W.findIn K (.ref C) "__init__" = some (some (.ref f))) (hf : PySem.W.typeIn K (.ref f) = some (.type "function"))
  (h : codeAny (model prog w) (A.under (.builtin "type.__call__" ⟨.ref C :: vs,kw⟩)) (.call (.ref f) ⟨.ref (s.heap.objs.size + 1) :: vs,kw⟩) (PySem.W.InitBack (s.heap.objs.size + 1) R)
   { s with heap:=(s.heap.push PySem.W.emptyDict).push (PySem.W.instObj C s.heap.objs.size) }) :
  codeAny (model prog w) A (.call (.ref C) ⟨vs,kw⟩) R s:=by
 obtain ⟨hh,g,d,t,os⟩:=s
 exact PySem.W.make_core (PySem.W.makes_of X hm) (PySem.W.looks_findIn X hi) (fun self=>PySem.W.bind_fn X self hf) (.inl rfl) h
end
noncomputable def putF (f : Str) (v : V) : List (Str × V)→List (Str × V)
 | []=>[(f,v)]
 | (g,x) :: r=>if g = f then (g,v) :: r else (g,x) :: putF f v r
theorem lookup_putF (f g : Str) (v : V) : ∀ fs : List (Str × V),(putF f v fs).lookup g = if g = f then some v else fs.lookup g
 | []=>by
  show List.lookup g [(f,v)] = _
  by_cases h : g = f
  ·have hb : (g == f) = true:=beq_iff_eq.mpr h
   simp only [List.lookup,hb,if_pos h]
  ·have hb : (g == f) = false:=beq_eq_false_iff_ne.mpr h
   simp only [List.lookup,hb,if_neg h]
 | (k,x) :: r=>by
  have ih:=lookup_putF f g v r
  rw [show putF f v ((k,x) :: r) = (if k = f then (k,v) :: r else (k,x) :: putF f v r) from rfl]
  by_cases hk : k = f
  ·rw [if_pos hk]
   by_cases h : g = k
   ·have hb : (g == k) = true:=beq_iff_eq.mpr h
    simp only [List.lookup,hb,if_pos (h.trans hk)]
   ·have hb : (g == k) = false:=beq_eq_false_iff_ne.mpr h
    simp only [List.lookup,hb,if_neg (fun e : g = f=>h (e.trans hk.symm))]
  ·rw [if_neg hk]
   by_cases h : g = k
   ·have hb : (g == k) = true:=beq_iff_eq.mpr h
    simp only [List.lookup,hb,if_neg (fun e : g = f=>hk (h.symm.trans e))]
   ·have hb : (g == k) = false:=beq_eq_false_iff_ne.mpr h
    simp only [List.lookup,hb]
    exact ih
theorem keys_putF (f : Str) (v : V) : ∀ fs : List (Str × V),f∈(putF f v fs).map (·.1)∧∀ g,g∈fs.map (·.1)→g∈(putF f v fs).map (·.1)
 | []=>⟨by simp [putF],fun g h=>by simp at h⟩
 | (k,x) :: r=>by
  obtain ⟨i1,i2⟩:=keys_putF f v r
  rw [show putF f v ((k,x) :: r) = (if k = f then (k,v) :: r else (k,x) :: putF f v r) from rfl]
  by_cases hk : k = f
  ·rw [if_pos hk]
   subst hk
   exact ⟨by simp,fun g h=>by simpa using h⟩
  ·rw [if_neg hk]
   refine ⟨?_,fun g h=>?_⟩
   ·rw [List.map_cons]
    exact List.mem_cons_of_mem _ i1
   ·rw [List.map_cons] at h ⊢
    rcases List.mem_cons.mp h with e | e
    ·exact List.mem_cons.mpr (.inl e)
    ·exact List.mem_cons_of_mem _ (i2 g e)
theorem length_putF (f : Str) (v : V) : ∀ fs : List (Str × V),(putF f v fs).length≤fs.length + 1
 | []=>by simp [putF]
 | (k,x) :: r=>by
  have ih:=length_putF f v r
  rw [show putF f v ((k,x) :: r) = (if k = f then (k,v) :: r else (k,x) :: putF f v r) from rfl]
  by_cases hk : k = f
  ·rw [if_pos hk,List.length_cons,List.length_cons]; omega
  ·rw [if_neg hk,List.length_cons,List.length_cons]; omega
theorem RelO.some_of {v : V} {o : Option Value} (r : RelO (some v) o) : ∃ u,o = some u∧RelV v u:=by
 cases o with
 | none=>exact (show False from r).elim
 | some u=>exact ⟨u,rfl,r⟩
theorem RelO.none_of {o : Option Value} (r : RelO none o) : o = none:=by
 cases o with
 | none=>rfl
 | some u=>exact (show False from r).elim
theorem handed_of {v : V} {u : Value} (r : RelV v u) : PySem.W.handedIn u = true:=by
 cases v with
 | non=>cases (show u = Value.none from r); rfl
 | bl b=>cases (show u = Value.bool b from r); rfl
 | int i=>obtain ⟨t,e⟩:=(show ∃ t,u = Value.int i t from r); cases e; rfl
 | str x=>obtain ⟨t,e⟩:=(show ∃ t,u = Value.str x t from r); cases e; rfl
 | byt b=>obtain ⟨t,e⟩:=(show ∃ t,u = Value.bytes b t from r); cases e; rfl
 | flt b=>obtain ⟨t,e⟩:=(show ∃ t,u = Value.float b t from r); cases e; rfl
 | ref a=>cases (show u = Value.ref a from r); rfl
 | ty n=>cases (show u = Value.type n from r); rfl
section
variable {P : Program} {w : World} {H H' : Hp} {h h' : Heap} {a C dx : Addr} {fs fs' : List (Str × V)}
theorem ins_get (hok : HOk P w H h) (e : H a = some (.ins C dx fs)) : ∃ mA,ObjM h a dx C mA∧(∀ f,RelO (fs.lookup f) (mA f))∧PySem.Within mA (fs.map (·.1))∧fs.length≤1000∧H dx = some (.own a):=by
 obtain ⟨d,z,ne,ob,mA,n,r,q⟩:=(show ObjOk P w H h a (.ins C dx fs) from hok a _ e)
 exact ⟨mA,⟨ob,n,ne⟩,r,q,z,d⟩
end
structure Cls (K : PySem.W.Frag) (C : Addr) : Prop where
 pg : PySem.W.plainGet K C Str.empty = true
 hd : PySem.W.hasDictIn K C = true
 po : PySem.W.plainOver K C = true
 sa : PySem.W.findIn K (.ref C) "__setattr__" = some (some (.builtin "object.__setattr__"))
theorem Cls.get {K : PySem.W.Frag} {C : Addr} (c : Cls K C) (f : Str) : PySem.W.plainGet K C f = true:=c.pg
noncomputable def NoAttr (K : PySem.W.Frag) (C : Addr) (f : Str) : Prop:=PySem.W.findIn K (.ref C) f = some none
theorem NoAttr.taker {K : PySem.W.Frag} {C : Addr} {f : Str} (n : NoAttr K C f) : PySem.W.takerIn K C f = some none:=by
 unfold PySem.W.takerIn
 rw [show PySem.W.findIn K (.ref C) f = some none from n]
 rfl
structure Con (K : PySem.W.Frag) (C : Addr) (f : Str) (v : V) (u : Value) : Prop where
 at_ : PySem.W.findIn K (.ref C) f = some (some u)
 rel : RelV v u
 get : PySem.W.specialIn K u "__get__" = some none
 cp : PySem.W.copiedNames.contains f = false
structure Meth (K : PySem.W.Frag) (C : Addr) (m : Str) (f : Addr) : Prop where
 at_ : PySem.W.findIn K (.ref C) m = some (some (.ref f))
 fn : PySem.W.isFn K (.ref f) = true
 kp : PySem.W.keepIn K (.ref f) = true
section
variable {X : Cx} {pins : List (Addr × Obj)} {σ : St} {H : Hp} {s : Shared} {a C dx : Addr} {fs : List (Str × V)} {f : Str} {v : V} {A : Around} {E : Value→Shared→Prop}
theorem getattr_ok {b : Bool} {Q : Value→Shared→Prop} (I : Inv X pins σ H s) (e : H a = some (.ins C dx fs)) (c : Cls X.K C) (n : NoAttr X.K C f) (l : fs.lookup f = some v)
  (h : ∀ u s',Inv X pins σ H s'→RelV v u→Q u s') : wpAny (model X.prog X.w) A (getAttr (.ref a) f b) Q E s:=by
 obtain ⟨mA,O,r,_,_,_⟩:=ins_get I.hok e
 obtain ⟨u,hu,ru⟩:=RelO.some_of (v:=v) (o:=mA f) (by rw [← l]; exact r f)
 exact get_map I.kIn O (c.get f) c.hd n hu (handed_of ru) (h u _ (I.tok _) ru)
theorem getmeth_ok {m : Str} {g : Addr} {pl : Sem Bool} {Q : Value × List Value→Shared→Prop} (I : Inv X pins σ H s) (e : H a = some (.ins C dx fs)) (c : Cls X.K C) (k : Meth X.K C m g) (l : fs.lookup m = none)
  (h : Q (.ref g,[.ref a]) s) : wpAny (model X.prog X.w) A (getMethod (.ref a) m pl) Q E s:=by
 obtain ⟨mA,O,r,_,_,_⟩:=ins_get I.hok e
 have hn : mA m = none:=RelO.none_of (by rw [← l]; exact r m)
 exact get_meth I.kIn O (c.get m) k.at_ k.fn hn h
theorem setattr_ok {y : V} {u : Value} {Q : Unit→Shared→Prop} (I : Inv X pins σ H s) (e : H a = some (.ins C dx fs)) (c : Cls X.K C) (n : NoAttr X.K C f) (hl : fs.length < 1000) (ry : RelV y u)
  (h : ∀ s',Inv X pins σ (upd H a (.ins C dx (putF f y fs))) s'→Q () s') : wpAny (model X.prog X.w) A (setAttr (.ref a) f u) Q E s:=by
 obtain ⟨mA,O,r,wi,_,ho⟩:=ins_get I.hok e
 have hz : (fs.map (·.1)).length≤sizeLine:=by rw [List.length_map,sizeLine_eq]; omega
 refine set_map I.kIn O c.sa c.po n.taker c.hd wi hz fun h' O' sb=>h _ ?_
 have hd : ∃ o,h'.get? dx = some o:=let ⟨o,_,_,e',_⟩:=O'.ns; ⟨o,e'⟩
 refine I.write (x:=a) (e:=dx) (by rw [e]; exact True.intro) (.inr ho) (fun b q hb z=>(sb.2 b hb).trans z) hd ?_
 refine ⟨by rw [upd_ne O.ne]; exact ho,?_,O.ne,O'.obj,_,O'.ns,fun g=>?_,fun g hg=>?_⟩
 ·have:=length_putF f y fs; omega
 ·show RelO ((putF f y fs).lookup g) (if g = f then some u else mA g)
  rw [lookup_putF]
  by_cases q : g = f
  ·rw [if_pos q,if_pos q]; exact ry
  ·rw [if_neg q,if_neg q]; exact r g
 ·by_cases q : g = f
  ·rw [q]; exact (keys_putF f y fs).1
  ·refine (keys_putF f y fs).2 g (wi g fun z=>hg ?_)
   show (if g = f then some u else mA g) = none
   rw [if_neg q]; exact z
theorem Inv.made (I : Inv X pins σ H s) : Inv X pins σ (upd (upd H s.heap.objs.size (.own (s.heap.objs.size + 1))) (s.heap.objs.size + 1) (.ins C s.heap.objs.size []))
  { s with heap:=(s.heap.push PySem.W.emptyDict).push (PySem.W.instObj C s.heap.objs.size) }:=by
 have e1 : (s.heap.push PySem.W.emptyDict).get? s.heap.objs.size = some PySem.W.emptyDict:=Heap.get?_push_size s.heap rfl
 have e2 : ((s.heap.push PySem.W.emptyDict).push (PySem.W.instObj C s.heap.objs.size)).get? (s.heap.objs.size + 1) = some (PySem.W.instObj C s.heap.objs.size):=by
  have:=Heap.get?_push_size (s.heap.push PySem.W.emptyDict) (o:=PySem.W.instObj C s.heap.objs.size) rfl
  rwa [Heap.size_push] at this
 have e3 : (s.heap.push PySem.W.emptyDict).Ns s.heap.objs.size (fun _=>none):=⟨PySem.W.emptyDict,#[],_,e1,rfl,(fun e he=>absurd he (by simp)),fun _=>rfl⟩
 have I1:=I.laid (a:=s.heap.objs.size) (o:=.own (s.heap.objs.size + 1)) (h':=s.heap.push PySem.W.emptyDict) (t':=s.toks) (fun b u q=>Heap.get?_push_of_some _ q) (Nat.le_refl _) ⟨_,e1⟩
 refine I1.laid (a:=s.heap.objs.size + 1) (o:=.ins C s.heap.objs.size []) (t':=s.toks) (fun b u q=>Heap.get?_push_of_some _ q) (Nat.le_of_eq (Heap.size_push _ _)) ?_
 have ne : s.heap.objs.size ≠ s.heap.objs.size + 1:=Nat.ne_of_lt (Nat.lt_succ_self _)
 refine ⟨by rw [upd_ne ne,upd_same],Nat.zero_le _,ne,e2,fun _=>none,(Heap.Ns1.of_empty e3).at fun o q=>Heap.get?_push_of_some _ q,fun _=>True.intro,fun y hy=>absurd rfl hy⟩
theorem attr_of {prog : Program} {w : World} {env : Env} {e : Expr} {f : Str} {pos : Pos} {s : Shared} {Q : Value→Shared→Prop} (hb : attributeBase e f env (eval e env) = eval e env)
  (h : wpAny (model prog w) A (eval e env) (fun o s₁=>wpAny (model prog w) A (getAttr o f true) Q E s₁) E s) : wpAny (model prog w) A (eval (.Attribute e f pos) env) Q E s :=
 Attribute_any_ h (by rw [arm_eval_Attribute,hb])
end
noncomputable def tFld (K : PySem.W.Frag) (ta : TE) (f : Str) : TE:=fun σ H Q=>ta σ H fun x H1=>∃ a C dx fs v,x = .ref a∧H1 a = some (.ins C dx fs)∧Cls K C∧NoAttr K C f∧fs.lookup f = some v∧Q v H1
noncomputable def sFld (K : PySem.W.Frag) (ta tv : TE) (f : Str) : TS:=fun D σ H=>tv σ H fun y H1=>ta σ H1 fun x H2=>∃ a C dx fs,x = .ref a∧H2 a = some (.ins C dx fs)∧Cls K C∧NoAttr K C f∧fs.length < 1000 ∧
 D.nx σ (upd H2 a (.ins C dx (putF f y fs)))
section
variable {X : Cx} {o e value : Expr} {f : Str} {pos pos' tpos : Pos} {ta tv : TE}
theorem pe_fld (he : PE X e ta) (hb : attributeBase e f X.env (eval e X.env) = eval e X.env) : PE X (.Attribute e f pos) (tFld X.K ta f):=by
 intro pins s σ H Q I h
 refine attr_of hb (thn (he pins s σ H _ I h) fun u s1 ⟨x,H1,I1,rx,a,C,dx,fs,v,ex,ea,c,n,l,q⟩=>?_)
 subst ex
 obtain rfl : u = Value.ref a:=rx
 exact getattr_ok I1 ea c n l fun u' s2 I2 ru=>⟨v,H1,I2,ru,q⟩
theorem ps_fld (ha : PE X o ta) (hv : PE X value tv) (hs : swapsWith value (some (.Attribute o f pos')) pos.line X.env = pure false) : PS X (.Assign [.Attribute o f pos'] value pos) (sFld X.K ta tv f):=by
 intro pins s σ H D I h
 refine plainObj_wpAny_Assign_Attribute (thn (hv pins s σ H _ I h) fun u s1 ⟨y,H1,I1,ry,q⟩=>thn (ha pins s1 σ H1 _ I1 q) fun ov s2 ⟨x,H2,I2,rx,a,C,dx,fs,ex,ea,c,n,l,q2⟩=>?_) hs
 subst ex
 obtain rfl : ov = Value.ref a:=rx
 exact setattr_ok I2 ea c n l ry fun s3 I3=>⟨σ,_,I3,q2⟩
theorem methcall_of {pl : Sem Bool} {m : Str} {apos : Pos} {args : List Expr} {pins : List (Addr × Obj)} {s : Shared} {σ : St} {H : Hp} {Q : Value→Shared→Prop} {te : TE} (he : PE X e te) (I : Inv X pins σ H s)
  (h : te σ H fun x H1=>∃ a C dx fs g,x = .ref a∧H1 a = some (.ins C dx fs)∧Cls X.K C∧Meth X.K C m g∧fs.lookup m = none ∧
   ∀ s1,Inv X pins σ H1 s1→wpAny (model X.prog X.w) X.A (callWith pos (.ref g) [.ref a] (backTo pos (starEach args X.env)) (backToKw pos (keywordEach [] X.env))) Q X.xe s1)
  (ht : eval (.Call (.Attribute e m apos) args [] pos) X.env = (do
   let ov ← eval e X.env
   standAt apos.atName
   let (f,first) ← holding [ov] (getMethod ov m pl)
   callWith pos f first (backTo pos (starEach args X.env)) (backToKw pos (keywordEach [] X.env)))) :
  wpAny (model X.prog X.w) X.A (eval (.Call (.Attribute e m apos) args [] pos) X.env) Q X.xe s:=by
 refine PySem.W.methodCall_KW (pl:=pl) (thn (he pins s σ H _ I h) fun u s1 ⟨x,H1,I1,rx,a,C,dx,fs,g,ex,ea,c,k,l,q⟩=>?_) ht
 subst ex
 obtain rfl : u = Value.ref a:=rx
 exact getmeth_ok I1 ea c k l (q s1 I1)
end
section
variable {X : Cx} {pins : List (Addr × Obj)} {σ : St} {H : Hp} {s : Shared} {A : Around} {E : Value→Shared→Prop} {Q : Value→Shared→Prop} {c : Value} {b : Bool}
inductive TyOf (K : PySem.W.Frag) (H : Hp) : V→Value→Prop where
 | non : TyOf K H .non (.type "NoneType")
 | bl (x : Bool) : TyOf K H (.bl x) (.type "bool")
 | int (i : Int) : TyOf K H (.int i) (.type "int")
 | str (x : Str) : TyOf K H (.str x) (.type "str")
 | flt (x : UInt64) : TyOf K H (.flt x) (.type "float")
 | lst {a : Addr} {xs : List V} (e : H a = some (.lst xs)) : TyOf K H (.ref a) (.type "list")
 | frz {a : Addr} {o : Obj} {xs : List V} (e : H a = some (.frz o (.lst xs))) : TyOf K H (.ref a) (.type "list")
 | tup {a : Addr} {xs : List V} (e : H a = some (.tup xs)) : TyOf K H (.ref a) (.type "tuple")
 | dK {a : Addr} {kvs : List (Key × V)} (e : H a = some (.dK kvs)) : TyOf K H (.ref a) (.type "dict")
 | dT {a : Addr} {kvs : List (List Key × V)} (e : H a = some (.dT kvs)) : TyOf K H (.ref a) (.type "dict")
 | ins {a C dx : Addr} {fs : List (Str × V)} (e : H a = some (.ins C dx fs)) (cl : Cls K C) (ha : PySem.W.findIn K (.ref C) "__class__" = some (some (.builtin "object.__class__")))
   (hn : PySem.W.specialIn K (.builtin "object.__class__") "__get__" = some (some (.builtin "getset_descriptor.__get__"))) (htk : PySem.W.takesIn K (.builtin "object.__class__") = some true)
   (hm : PySem.W.mroIn K C (.type "object") = some true) : TyOf K H (.ref a) (.ref C)
end
end L2
namespace L2
open PySem PySem.Spec PyProof.Rows
structure Room (k : Nat) (A : Around) : Prop where
 hd : A.handled = none
 dp : A.depth + 3 * k + 5 < recursionLimit
 un : A.units + 16 * k + 200 < cLine
theorem Room.mono {j k : Nat} {A : Around} (r : Room k A) (h : j≤k) : Room j A:=⟨r.hd,by have:=r.dp; omega,by have:=r.un; omega⟩
theorem Room.deeper {k : Nat} {A : Around} (r : Room (k + 1) A) (env : Env) : Room k (A.deeper env) :=
 ⟨r.hd,by have:=r.dp; show A.depth + 1 + 3 * k + 5 < _; omega,by have:=r.un; show A.units + 3 + 16 * k + 200 < _; omega⟩
theorem make_depth {A : Around} {C : Addr} {us : List Value} {kw : List (Str × Value)} : (A.under (.builtin "type.__call__" ⟨.ref C :: us,kw⟩)).depth = A.depth + 1:=by
 first | rfl | simp [Around.under,Code.weight,Code.isCreation,Code.isGuard,Code.isCaller,Code.frames,Code.isFrame,guardIds]
theorem make_units {A : Around} {C : Addr} {us : List Value} {kw : List (Str × Value)} : (A.under (.builtin "type.__call__" ⟨.ref C :: us,kw⟩)).units = A.units + 1:=by
 first | rfl | simp [Around.under,Code.cUnits,Code.frames,Code.isFrame]
theorem Room.make {k : Nat} {A : Around} (r : Room (k + 1) A) (C : Addr) (us : List Value) (kw : List (Str × Value)) : Room k (A.under (.builtin "type.__call__" ⟨.ref C :: us,kw⟩)) :=
 ⟨r.hd,by have:=r.dp; rw [make_depth]; omega,by have:=r.un; rw [make_units]; omega⟩
theorem Room.depth {k : Nat} {A : Around} (r : Room k A) : A.depth < recursionLimit:=by have:=r.dp; omega
theorem Room.units {k : Nat} {A : Around} (r : Room k A) : A.units + 64 < cLine:=by have:=r.un; omega
noncomputable def tNil : TA:=fun _ H Q=>Q [] H
noncomputable def tCons (ta : TE) (tr : TA) : TA:=fun σ H Q=>ta σ H fun x H1=>tr σ H1 fun xs H2=>Q (x :: xs) H2
section
variable {X : Cx} {e : Expr} {es : List Expr} {te : TE} {t : TA} {pos : Pos}
theorem pa_nil : PA X [] tNil:=fun _ _ _ _ H Q I h=>Calls.spliced_nil ⟨[],H,I,.nil,h⟩
theorem pa_cons (ha : PE X e te) (hr : PA X es t) (hs : starEach (e :: es) X.env = (false,eval e X.env) :: starEach es X.env:=by rfl) : PA X (e :: es) (tCons te t):=by
 intro pos pins s σ H Q I h
 rw [hs]
 show wpAny _ _ (spliced ((false,eval e X.env) :: backTo pos (starEach es X.env))) _ _ s
 refine Calls.spliced_cons (thn (ha pins s σ H _ I h) fun u s1 ⟨x,H1,I1,r1,q1⟩=>?_)
 exact thn (hr pos pins s1 σ H1 _ I1 q1) fun us s2 ⟨xs,H2,I2,r2,q2⟩=>⟨x :: xs,H2,I2,.cons r1 r2,q2⟩
noncomputable def tTup (t : TA) : TE:=fun σ H Q=>t σ H fun xs H1=>xs.length≤sizeLine∧∀ p,H1 p = none→Q (.ref p) (upd H1 p (.tup xs))
noncomputable def tLst (t : TA) : TE:=fun σ H Q=>t σ H fun xs H1=>xs.length≤sizeLine∧∀ p,H1 p = none→Q (.ref p) (upd H1 p (.lst xs))
theorem pe_tup {x1} (h : PA X es t) : PE X (.Tuple es x1 pos) (tTup t):=by
 intro pins s σ H Q I hq
 refine wpAny_Tuple_spliced (thn (h pos pins s σ H _ I hq) fun us s1 ⟨xs,H1,I1,r,z,q⟩=>⟨by rw [← r.length]; exact z,?_⟩)
 have hf : H1 s1.heap.objs.size = none:=I1.hok.fresh (Nat.le_refl _)
 refine ⟨.ref s1.heap.objs.size,upd H1 s1.heap.objs.size (.tup xs),I1.laid (t':=s1.toks) (fun b u e=>Heap.get?_push_of_some _ e) (Nat.le_refl _) ?_,rfl,q _ hf⟩
 exact ⟨z,us,r,⟨_,Heap.get?_push_size _ rfl,rfl,_,rfl⟩⟩
theorem pe_lst (h : PA X es t) : PE X (.List es pos) (tLst t):=by
 intro pins s σ H Q I hq
 refine wpAny_List_spliced (thn (h pos pins s σ H _ I hq) fun us s1 ⟨xs,H1,I1,r,z,q⟩=>⟨by rw [← r.length]; exact z,?_⟩)
 have hf : H1 s1.heap.objs.size = none:=I1.hok.fresh (Nat.le_refl _)
 refine ⟨.ref s1.heap.objs.size,upd H1 s1.heap.objs.size (.lst xs),I1.laid (t':=s1.toks) (fun b u e=>Heap.get?_push_of_some _ e) (Nat.le_refl _) ?_,rfl,q _ hf⟩
 exact ⟨z,us,0,r,Heap.get?_push_size _ rfl⟩
end
noncomputable abbrev Sp:=List V→Hp→VK→XK→Prop
noncomputable abbrev CXT:=List Env→Hp→Shared→XK→Value→Shared→Prop
structure Env0 (P : Program) (w : World) (K : PySem.W.Frag) (mg : Str→Option Value) (base : Heap) (A : Around) (outer : List Env) (s : Shared) (H : Hp) : Prop where
 frames : A.frames = some outer
 mod : Mod K mg base
 bs : ∀ b o,base.get? b = some o→s.heap.get? b = some o∧H b = none
 bsz : base.objs.size≤s.heap.objs.size
 funs : s.heap.FunFrames base outer
 frf : ∀ b∈frs outer,H b = none
 hok : HOk P w H s.heap
 bare : AllBare s.gens
noncomputable def CE (outer : List Env) (P : Program) (w : World) (H : Hp) (s : Shared) (Q : VK) (u : Value) (s' : Shared) : Prop :=
 ∃ v H',s'.os = s.os∧AllBare s'.gens∧Un (frs outer) [] H H' s.heap s'.heap∧HOk P w H' s'.heap∧RelV v u∧Q v H'
noncomputable def CR (CX : CXT) (outer : List Env) (P : Program) (w : World) (H : Hp) (s : Shared) (Q : VK) (E : XK) (r : Result) (s' : Shared) : Prop :=
 match r with
 | .ok (.ret u)=>CE outer P w H s Q u s'
 | .ok _=>False
 | .error e=>CX outer H s E e s'
structure FnOk (P : Program) (w : World) (K : PySem.W.Frag) (mg : Str→Option Value) (base : Heap) (CX : CXT) (k : Nat) (f : Addr) (fd : FuncData) (ps : List Str) (sp : Sp) : Prop where
 len : ∀ vs H Q E,sp vs H Q E→vs.length = ps.length
 run : ∀ (A : Around) (outer : List Env) (s : Shared) (H : Hp) (args : Args) (us : List Value) (vs : List V) (Q : VK) (E : XK),Room k A→Env0 P w K mg base A outer s H→BindsTo s fd args (ps.zip us)→Vals vs us→sp vs H Q E →
  codeAny (model P w) A (.call (.ref f) args) (CR CX outer P w H s Q E) s
theorem FnOk.imp {P : Program} {w : World} {K : PySem.W.Frag} {mg : Str→Option Value} {base : Heap} {CX : CXT} {k : Nat} {f : Addr} {fd : FuncData} {ps : List Str} {sp sp' : Sp} (F : FnOk P w K mg base CX k f fd ps sp)
  (h : ∀ vs H Q E,sp' vs H Q E→sp vs H Q E) : FnOk P w K mg base CX k f fd ps sp' :=
 ⟨fun vs H Q E q=>F.len vs H Q E (h _ _ _ _ q),fun A outer s H args us vs Q E hr he hb hv hs=>F.run A outer s H args us vs Q E hr he hb hv (h _ _ _ _ hs)⟩
theorem Env0.make {P : Program} {w : World} {K : PySem.W.Frag} {mg : Str→Option Value} {base : Heap} {A : Around} {outer : List Env} {s : Shared} {H : Hp} (e : Env0 P w K mg base A outer s H) (C : Addr) (us : List Value) (kw : List (Str × Value)) :
  Env0 P w K mg base (A.under (.builtin "type.__call__" ⟨.ref C :: us,kw⟩)) outer s H:=⟨by first | exact e.frames | (simpa [Around.under,Code.envs,Code.isFrame,pushEnvs] using e.frames),e.mod,e.bs,e.bsz,e.funs,e.frf,e.hok,e.bare⟩
section
variable {X : Cx} {pins : List (Addr × Obj)} {σ : St} {H : Hp} {s s' : Shared}
theorem Inv.env0 (I : Inv X pins σ H s) : Env0 X.prog X.w X.K X.mg X.base X.A X.stack s H :=
 ⟨I.ok.frames,I.ok.mod,I.bs,Nat.le_trans I.ok.bsz I.sz,I.stack,I.stkFree,I.hok,I.bare⟩
theorem Inv.after {Q : VK} {u : Value} (I : Inv X pins σ H s) (h : CE X.stack X.prog X.w H s Q u s') : EP X pins σ Q u s':=by
 obtain ⟨v,H',os,bare,un,hok,r,q⟩:=h
 obtain ⟨hh,g,d,t,os'⟩:=s'
 obtain rfl : os' = s.os:=os
 exact ⟨v,H',I.call (h':=hh) (g':=g) (d':=d) (t':=t) (ch:=[]) un hok bare (fun b z=>absurd z (by simp)),r,q⟩
end
noncomputable def tCall (sp : Sp) (dvs : List V) (E : XK) (t : TA) : TE:=fun σ H Q=>t σ H fun vs H1=>sp (vs ++ dvs) H1 Q E
noncomputable def tMeth (C : Addr) (m : Str) (sp : Sp) (dvs : List V) (E : XK) (ta : TE) (t : TA) : TE:=fun σ H Q=>ta σ H fun x H1=>∃ a dx fs,x = .ref a∧H1 a = some (.ins C dx fs)∧fs.lookup m = none ∧
 t σ H1 fun vs H2=>sp (x :: (vs ++ dvs)) H2 Q E
noncomputable def tMake (C : Addr) (sp : Sp) (dvs : List V) (E : XK) (t : TA) : TE:=fun σ H Q=>t σ H fun vs H1=>∀ x dx,H1 x = none→H1 dx = none→dx ≠ x →
 sp (.ref x :: (vs ++ dvs)) (upd (upd H1 dx (.own x)) x (.ins C dx [])) (fun v H2=>v = .non∧Q (.ref x) H2) E
noncomputable def Binds (K : PySem.W.Frag) (fd : FuncData) (ps : List Str) (ds : List Value) : Prop :=
 ∀ (s : Shared) (us : List Value),K.In s.heap→(us ++ ds).length = ps.length→BindsTo s fd ⟨us,[]⟩ (ps.zip (us ++ ds))
theorem Binds.all {K : PySem.W.Frag} {fd : FuncData} {ps : List Str} (h : ∀ us : List Value,us.length = ps.length→bindArgs fd ⟨us,[]⟩ = pure (ps.zip us)) : Binds K fd ps []:=fun s us _ hl=>by
 rw [List.append_nil] at hl ⊢
 exact .of_eq (h us hl)
noncomputable def Passes (CX : CXT) (X : Cx) (E : XK) : Prop:=∀ (pins : List (Addr × Obj)) (σ : St) (H : Hp) (s : Shared) (e : Value) (s' : Shared),Inv X pins σ H s→CX X.stack H s E e s'→X.xe e s'
section
variable {X : Cx} {CX : CXT} {k : Nat} {f C : Addr} {fd : FuncData} {ps : List Str} {sp : Sp} {dvs : List V} {ds : List Value} {E : XK} {x m : Str} {p pos apos : Pos} {e o : Expr} {es : List Expr} {ta : TE} {t : TA}
theorem run_fn {pins : List (Addr × Obj)} {σ : St} {H : Hp} {s : Shared} {Q : VK} {us : List Value} {vs : List V} (F : FnOk X.prog X.w X.K X.mg X.base CX k f fd ps sp) (hr : Room k X.A) (hb : Binds X.K fd ps ds) (hd : Vals dvs ds) (hx : Passes CX X E)
  (I : Inv X pins σ H s) (r : Vals vs us) (h : sp (vs ++ dvs) H Q E) : wpAny (model X.prog X.w) X.A (call (.ref f) us) (EP X pins σ Q) X.xe s:=by
 have r2 : Vals (vs ++ dvs) (us ++ ds):=r.append hd
 have hl : (us ++ ds).length = ps.length:=by rw [← r2.length]; exact F.len _ _ _ _ h
 refine wpAny_call (codeAny_mono (F.run X.A X.stack s H ⟨us,[]⟩ (us ++ ds) (vs ++ dvs) Q E hr I.env0 (hb s us I.kIn hl) r2 h) fun r s' hq=>?_)
 cases r with
 | error e=>exact hx pins σ H s e s' I hq
 | ok fl =>
  cases fl with
  | ret u=>exact I.after hq
  | next=>exact False.elim hq
  | brk=>exact False.elim hq
  | cont=>exact False.elim hq
theorem pe_call (F : FnOk X.prog X.w X.K X.mg X.base CX k f fd ps sp) (hr : Room k X.A) (hg : Gl X x) (hm : X.mg x = some (.ref f)) (hk : PySem.W.keepIn X.K (.ref f) = true) (hb : Binds X.K fd ps ds) (hd : Vals dvs ds) (hx : Passes CX X E)
  (ha : PA X (e :: es) t) (hdb : (x == ("__debug__" : Str)) = false:=by decide) (he : starEach (e :: es) X.env = (false,eval e X.env) :: starEach es X.env:=by rfl) (hpl : (backTo pos (starEach es X.env)).any (·.1) = false:=by rfl) :
  PE X (.Call (.Name x p) (e :: es) [] pos) (tCall sp dvs E t):=by
 intro pins s σ H Q I h
 refine wpAny_Call_Name_kw (ld_glob I hg hm ?_ hdb)
 refine PySem.W.callWith_K (h₀:=X.base) I.ok.mod.kin hk (thn (ha pos pins s σ H _ I h) fun us s1 ⟨vs,H1,I1,r,q⟩=>⟨I1.kIn,?_⟩) he hpl
 exact run_fn F hr hb hd hx I1 r q
theorem pe_meth {pl : Sem Bool} (he : PE X o ta) (c : Cls X.K C) (hm : Meth X.K C m f) (F : FnOk X.prog X.w X.K X.mg X.base CX k f fd ps sp) (hr : Room k X.A) (hb : Binds X.K fd ps ds) (hd : Vals dvs ds) (hx : Passes CX X E) (ha : PA X (e :: es) t)
  (hst : starEach (e :: es) X.env = (false,eval e X.env) :: starEach es X.env:=by rfl) (hpl : (backTo pos (starEach es X.env)).any (·.1) = false:=by rfl)
  (ht : eval (.Call (.Attribute o m apos) (e :: es) [] pos) X.env = (do
   let ov ← eval o X.env
   standAt apos.atName
   let (f,first) ← holding [ov] (getMethod ov m pl)
   callWith pos f first (backTo pos (starEach (e :: es) X.env)) (backToKw pos (keywordEach [] X.env))):=by rfl) :
  PE X (.Call (.Attribute o m apos) (e :: es) [] pos) (tMeth C m sp dvs E ta t):=by
 intro pins s σ H Q I h
 refine PySem.W.methodCall_KW (pl:=pl) (thn (he pins s σ H _ I h) fun u s1 ⟨x,H1,I1,rx,a,dx,fs,ex,ea,l,q⟩=>?_) ht
 subst ex
 obtain rfl : u = Value.ref a:=rx
 refine getmeth_ok I1 ea c hm l ?_
 refine PySem.W.callWith_K (first:=[.ref a]) (h₀:=X.base) I.ok.mod.kin hm.kp (thn (ha pos pins s1 σ H1 _ I1 q) fun us s2 ⟨vs,H2,I2,r,q2⟩=>⟨I2.kIn,?_⟩) hst hpl
 exact run_fn (us:=.ref a :: us) (vs:=.ref a :: vs) F hr hb hd hx I2 (.cons rfl r) q2
theorem pe_meth0 {pl : Sem Bool} (he : PE X o ta) (c : Cls X.K C) (hm : Meth X.K C m f) (F : FnOk X.prog X.w X.K X.mg X.base CX k f fd ps sp) (hr : Room k X.A) (hb : Binds X.K fd ps ds) (hd : Vals dvs ds) (hx : Passes CX X E)
  (ht : eval (.Call (.Attribute o m apos) [] [] pos) X.env = (do
   let ov ← eval o X.env
   standAt apos.atName
   let (f,first) ← holding [ov] (getMethod ov m pl)
   callWith pos f first (backTo pos (starEach [] X.env)) (backToKw pos (keywordEach [] X.env))):=by rfl) :
  PE X (.Call (.Attribute o m apos) [] [] pos) (tMeth C m sp dvs E ta tNil):=by
 intro pins s σ H Q I h
 refine PySem.W.methodCall_KW (pl:=pl) (thn (he pins s σ H _ I h) fun u s1 ⟨x,H1,I1,rx,a,dx,fs,ex,ea,l,q⟩=>?_) ht
 subst ex
 obtain rfl : u = Value.ref a:=rx
 refine getmeth_ok I1 ea c hm l ?_
 exact PySem.W.callWith_K0 (first:=[.ref a]) I1.kIn hm.kp (run_fn (us:=[.ref a]) (vs:=[.ref a]) F hr hb hd hx I1 (.cons rfl .nil) q)
structure Mk (K : PySem.W.Frag) (C f : Addr) : Prop where
 makes : PySem.W.makesIn K C = true
 init : PySem.W.findIn K (.ref C) "__init__" = some (some (.ref f))
 fn : PySem.W.isFn K (.ref f) = true
 kp : PySem.W.keepIn K (.ref C) = true
theorem run_make {pins : List (Addr × Obj)} {σ : St} {H : Hp} {s : Shared} {Q : VK} {us : List Value} {vs : List V} (M : Mk X.K C f) (F : FnOk X.prog X.w X.K X.mg X.base CX k f fd ps sp) (hr : Room (k + 1) X.A) (hb : Binds X.K fd ps ds) (hd : Vals dvs ds)
  (hx : Passes CX X E) (I : Inv X pins σ H s) (r : Vals vs us)
  (h : ∀ x dx,H x = none→H dx = none→dx ≠ x→sp (.ref x :: (vs ++ dvs)) (upd (upd H dx (.own x)) x (.ins C dx [])) (fun v H2=>v = .non∧Q (.ref x) H2) E) :
  wpAny (model X.prog X.w) X.A (call (.ref C) us) (EP X pins σ Q) X.xe s:=by
 have hq:=h (s.heap.objs.size + 1) s.heap.objs.size (I.hok.fresh (Nat.le_succ _)) (I.hok.fresh (Nat.le_refl _)) (Nat.ne_of_lt (Nat.lt_succ_self _))
 have I2:=Inv.made (C:=C) I
 have r2 : Vals (V.ref (s.heap.objs.size + 1) :: (vs ++ dvs)) (Value.ref (s.heap.objs.size + 1) :: (us ++ ds)):=.cons rfl (r.append hd)
 have hl : (Value.ref (s.heap.objs.size + 1) :: us ++ ds).length = ps.length:=by
  have e:=r2.length
  rw [F.len _ _ _ _ hq] at e
  exact e.symm
 refine wpAny_call (make_map (f:=f) I.kIn M.makes M.init (beq_iff_eq.mp M.fn) (codeAny_mono (F.run _ X.stack _ _ ⟨Value.ref (s.heap.objs.size + 1) :: us,[]⟩ (Value.ref (s.heap.objs.size + 1) :: (us ++ ds)) _ _ E (hr.make C us [])
  (I2.env0.make C us []) (hb _ (Value.ref (s.heap.objs.size + 1) :: us) I2.kIn hl) r2 hq) fun r s' hq'=>?_))
 cases r with
 | error e=>exact hx pins σ _ _ e s' I2 hq'
 | ok fl =>
  cases fl with
  | ret u =>
   obtain ⟨v,H',I3,rv,ev,q3⟩:=I2.after hq'
   subst ev
   exact ⟨rv,⟨V.ref (s.heap.objs.size + 1),H',I3,rfl,q3⟩⟩
  | next=>exact False.elim hq'
  | brk=>exact False.elim hq'
  | cont=>exact False.elim hq'
theorem pe_make (M : Mk X.K C f) (F : FnOk X.prog X.w X.K X.mg X.base CX k f fd ps sp) (hr : Room (k + 1) X.A) (hg : Gl X x) (hm : X.mg x = some (.ref C)) (hb : Binds X.K fd ps ds) (hd : Vals dvs ds) (hx : Passes CX X E)
  (ha : PA X (e :: es) t) (hdb : (x == ("__debug__" : Str)) = false:=by decide) (he : starEach (e :: es) X.env = (false,eval e X.env) :: starEach es X.env:=by rfl) (hpl : (backTo pos (starEach es X.env)).any (·.1) = false:=by rfl) :
  PE X (.Call (.Name x p) (e :: es) [] pos) (tMake C sp dvs E t):=by
 intro pins s σ H Q I h
 refine wpAny_Call_Name_kw (ld_glob I hg hm ?_ hdb)
 refine PySem.W.callWith_K (h₀:=X.base) I.ok.mod.kin M.kp (thn (ha pos pins s σ H _ I h) fun us s1 ⟨vs,H1,I1,r,q⟩=>⟨I1.kIn,?_⟩) he hpl
 exact run_make M F hr hb hd hx I1 r q
end
section
variable {X : Cx} {CX : CXT} {k : Nat} {f C : Addr} {fd : FuncData} {ps ks : List Str} {sp : Sp} {E : XK} {x m : Str} {p pos apos kpos : Pos} {e o : Expr} {es : List Expr} {kws : List Keyword} {te ta : TE} {t tk : TA} {nm : Option Str}
structure KBinds (K : PySem.W.Frag) (fd : FuncData) (ps ks : List Str) (g : List Value→List Value→List Value) (gV : List V→List V→List V) : Prop where
 to : ∀ (s : Shared) (us ws : List Value),K.In s.heap→(g us ws).length = ps.length→BindsTo s fd ⟨us,ks.zip ws⟩ (ps.zip (g us ws))
 rel : ∀ {vs : List V} {us : List Value} {zs : List V} {ws : List Value},Vals vs us→Vals zs ws→Vals (gV vs zs) (g us ws)
variable {g : List Value→List Value→List Value} {gV : List V→List V→List V}
end
structure FnScope (N P : List Str) (sc : Scope) : Prop where
 kind : sc.kind = .function
 co : sc.isCoroutine = false
 gen : sc.isGenerator = false
 nd : N.Nodup
 pre : N.take P.length = P
 par : ∀ x∈P,sc.names.lookup x = some .local∨sc.names.lookup x = some .cell
 nofree : ∀ y∈sc.names,y.2 ≠ .free
theorem bindL_out {kindOf : Str→Option NameKind} {x : Str} : ∀ {binds : List (Str × Value)} {m : Str→Option Value},(∀ v,(x,v) ∉ binds)→bindL kindOf binds m x = m x
 | [],_,_=>rfl
 | (n,v) :: r,m,h=>by
  unfold bindL
  rw [bindL_out fun w hw=>h w (List.mem_cons_of_mem _ hw)]
  split
  ·have : x ≠ n:=by rintro rfl; exact h v List.mem_cons_self
   simp [this]
  ·rfl
theorem bindC_out {kindOf : Str→Option NameKind} {x : Str} : ∀ {binds : List (Str × Value)} {m : Str→Option Value},(∀ v,(x,v) ∉ binds)→bindC kindOf binds m x = m x
 | [],_,_=>rfl
 | (n,v) :: r,m,h=>by
  unfold bindC
  rw [bindC_out fun w hw=>h w (List.mem_cons_of_mem _ hw)]
  split
  ·rfl
  ·have : x ≠ n:=by rintro rfl; exact h v List.mem_cons_self
   simp [this]
theorem bindL_get {kindOf : Str→Option NameKind} {x : Str} {v : Value} : ∀ {P : List Str} {vs : List Value} {i : Nat} {m : Str→Option Value},P.Nodup→P[i]? = some x→vs[i]? = some v→kindOf x = some .local →
  bindL kindOf (P.zip vs) m x = some v
 | [],_,_,_,_,h,_,_=>by simp at h
 | _ :: _,[],_,_,_,_,h,_=>by simp at h
 | p :: P,w :: vs,0,m,nd,h1,h2,hk=>by
  simp at h1 h2; subst h1; subst h2
  show bindL kindOf ((p,w) :: P.zip vs) m p = _
  unfold bindL
  rw [bindL_out fun v hv=>(List.nodup_cons.mp nd).1 (List.of_mem_zip hv).1,if_pos hk]
  simp
 | p :: P,w :: vs,i + 1,m,nd,h1,h2,hk=>by
  show bindL kindOf ((p,w) :: P.zip vs) m x = _
  unfold bindL
  exact bindL_get (i:=i) (List.nodup_cons.mp nd).2 (by simpa using h1) (by simpa using h2) hk
theorem bindC_get {kindOf : Str→Option NameKind} {x : Str} {v : Value} : ∀ {P : List Str} {vs : List Value} {i : Nat} {m : Str→Option Value},P.Nodup→P[i]? = some x→vs[i]? = some v→kindOf x ≠ some .local →
  bindC kindOf (P.zip vs) m x = some v
 | [],_,_,_,_,h,_,_=>by simp at h
 | _ :: _,[],_,_,_,_,h,_=>by simp at h
 | p :: P,w :: vs,0,m,nd,h1,h2,hk=>by
  simp at h1 h2; subst h1; subst h2
  show bindC kindOf ((p,w) :: P.zip vs) m p = _
  unfold bindC
  rw [bindC_out fun v hv=>(List.nodup_cons.mp nd).1 (List.of_mem_zip hv).1,if_neg hk]
  simp
 | p :: P,w :: vs,i + 1,m,nd,h1,h2,hk=>by
  show bindC kindOf ((p,w) :: P.zip vs) m x = _
  unfold bindC
  exact bindC_get (i:=i) (List.nodup_cons.mp nd).2 (by simpa using h1) (by simpa using h2) hk
noncomputable def start (N : List Str) (vs : List V) : St:=vs.map some ++ List.replicate (N.length - vs.length) none
noncomputable def cxOf (CX : CXT) (P : Program) (w : World) (K : PySem.W.Frag) (mg : Str→Option Value) (base : Heap) (N : List Str) (qual : Str) (scope : Scope) (f : Addr) (cd : Value) (A : Around) (outer : List Env) (s : Shared) (H : Hp) (E : XK) : Cx where
 prog:=P
 w:=w
 K:=K
 mg:=mg
 base:=base
 A:=A.deeper (envOfC qual scope s.heap.objs.size f cd)
 N:=N
 s₀:=s
 H₀:=H
 env:=envOfC qual scope s.heap.objs.size f cd
 outer:=outer
 stack:=envOfC qual scope s.heap.objs.size f cd :: outer
 ex:=[]
 calm:=true
 fn:=fun _=>true
 pn:=[]
 xe:=fun e s'=>wpAny (model P w) (A.deeper (envOfC qual scope s.heap.objs.size f cd)) (leaving (envOfC qual scope s.heap.objs.size f cd) e) (fun _ s''=>CX outer H s E e s'') (fun e' s''=>CX outer H s E e' s'') s'
theorem cell_has {sc : Scope} {n : Nat} {x : Str} (h : sc.names.lookup x = some .cell) : ∃ c,(cellsFrom n sc.names []).lookup x = some c:=by
 have q:=PySem.W.cellsFrom_some sc.names n [] (.inl h)
 exact Option.isSome_iff_exists.mp q
theorem inv_start {CX : CXT} {P : Program} {w : World} {K : PySem.W.Frag} {mg : Str→Option Value} {base : Heap} {N ps : List Str} {qual : Str} {scope : Scope} {f : Addr} {cd : Value} {A : Around} {outer : List Env} {s s1 : Shared} {H : Hp} {E : XK} {us : List Value} {vs : List V}
  (S : FnScope N ps scope) (hd : A.handled = none) (e0 : Env0 P w K mg base A outer s H) (hl : vs.length = ps.length) (r : Vals vs us)
  (x : InCallC s s.heap.objs.size (bindL (envOfC qual scope s.heap.objs.size f cd).kindOf (ps.zip us) fun _=>none) (cellsFrom (s.heap.objs.size + 1) scope.names []) (bindC (envOfC qual scope s.heap.objs.size f cd).kindOf (ps.zip us) fun _=>none) s1) :
  Inv (cxOf CX P w K mg base N qual scope f cd A outer s H E) [] (start N vs) H s1:=by
 have hpl : ps.length≤N.length:=by have:=congrArg List.length S.pre; rw [List.length_take] at this; omega
 obtain ⟨h1,tk,rfl,hk⟩:=x.done
 have noA : ∀ b : Addr,b ∉ (cxOf CX P w K mg base N qual scope f cd A outer s H E).ex:=fun b z=>absurd (show b∈([] : List Addr) from z) (by simp)
 refine ⟨⟨e0.mod,S.kind,rfl,rfl,Nat.le_refl _,fun y z c h1 h2=>?_,fun y hy=>?_,fun y c _ h=>?_,fun _=>hd,Around.frames_deeper e0.frames,.inr ⟨rfl,rfl⟩,fun b z=>absurd z (noA b),e0.bs,e0.bsz,fun b _ _=>noA b,fun b z=>absurd z (noA b),e0.funs,e0.frf⟩,
  rfl,e0.bare,Un.kept hk,⟨_,x.toInCall.ns,fun i y v h1 h2 h3=>?_⟩,fun y c h=>⟨_,x.cell y c h⟩,e0.hok.fresh (Nat.le_refl _),fun y c h=>?_,fun p hp=>absurd (show p∈([] : List (Addr × Obj)) from hp) (by simp),e0.hok.kept hk,?_⟩
 ·exact name_of_addr x.apart (PySem.mem_of_lookup h1) (PySem.mem_of_lookup h2)
 ·have hy : scope.names.lookup y = some .cell∨scope.names.lookup y = some .free:=hy
  rcases hy with hy | hy
  ·exact cell_has hy
  ·exact absurd rfl (S.nofree _ (PySem.mem_of_lookup hy))
 ·exact Nat.le_of_lt (x.above y c (PySem.mem_of_lookup h))
 ·have hi : i < vs.length:=by
   unfold start at h2
   by_cases hi : i < vs.length
   ·exact hi
   ·rw [List.getElem?_append_right (by simpa using hi)] at h2
    rw [List.getElem?_replicate] at h2
    split at h2 <;> cases h2
  have ha : vs[i]? = some v:=by
   unfold start at h2
   rw [List.getElem?_append_left (by simpa using hi),List.getElem?_map] at h2
   cases e : vs[i]? with
   | none=>rw [e] at h2; cases h2
   | some a=>rw [e] at h2; cases h2; rfl
  obtain ⟨u,hu,rv⟩:=r.get ha
  have hp : ps[i]? = some y:=by
   rw [← S.pre,List.getElem?_take_of_lt (by omega)]; exact h1
  have ndP : ps.Nodup:=by rw [← S.pre]; exact S.nd.sublist (List.take_sublist _ _)
  refine ⟨u,rv,?_⟩
  rcases S.par y (List.mem_of_getElem? hp) with k | k
  ·exact .inl ⟨k,bindL_get ndP hp hu k⟩
  ·obtain ⟨c,e⟩:=cell_has (n:=s.heap.objs.size + 1) k
   refine .inr ⟨.inl k,c,e,?_⟩
   have q:=x.cell y c e
   rw [bindC_get ndP hp hu (by show scope.names.lookup y ≠ _; rw [k]; decide)] at q
   exact q
 ·exact e0.hok.fresh (Nat.le_of_lt (x.above y c (PySem.mem_of_lookup h)))
 ·unfold start
  show _ = N.length
  rw [List.length_append,List.length_map,List.length_replicate]
  omega
theorem fn_of {CX : CXT} {P : Program} {w : World} {K : PySem.W.Frag} {mg : Str→Option Value} {base : Heap} {k : Nat} {f : Addr} {name qual : Str} {params : Arguments} {body : List Stmt} {scope : Scope} {dV kV doc pm cdv ct oc : Value} {an od : Option Addr}
  {osl : Array (Option Value)} {N ps : List Str} {sp : Sp} (lk : K.lookup f = some ⟨oc,od,.func (PySem.W.fnOf name qual params body scope dV kV doc pm an cdv ct),osl⟩) (hcd : PySem.W.codeIn K cdv qual = true) (S : FnScope N ps scope)
  (len : ∀ vs H Q E,sp vs H Q E→vs.length = ps.length)
  (hbody : ∀ (A : Around) (outer : List Env) (s : Shared) (H : Hp) (vs : List V) (Q : VK) (E : XK),Room k (A.deeper (envOfC qual scope s.heap.objs.size f cdv))→sp vs H Q E →
   ∃ t,PSs (cxOf CX P w K mg base N qual scope f cdv A outer s H E) body t∧t { nx:=fun _ H'=>Q .non H',rt:=Q } (start N vs) H) :
  FnOk P w K mg base CX (k + 1) f (PySem.W.fnOf name qual params body scope dV kV doc pm an cdv ct) ps sp:=by
 refine ⟨len,fun A outer s H args us vs Q E hr e0 hb r hsp=>?_⟩
 have hl:=len _ _ _ _ hsp
 have KX : K.In s.heap:=e0.mod.kin.keeps fun b o e=>(e0.bs b o e).1
 have lim : s.heap.NoLimit:=e0.mod.nolimit.keeps fun b o e=>(e0.bs b o e).1
 have hkind : ∀ y∈ps.zip us,scope.names.lookup y.1 = some .local∨(scope.names.lookup y.1 = some .cell∧((cellsFrom (s.heap.objs.size + 1) scope.names []).lookup y.1).isSome = true):=fun ⟨n,v⟩ hy=>by
  rcases S.par n (List.of_mem_zip hy).1 with q | q
  ·exact .inl q
  ·exact .inr ⟨q,PySem.W.cellsFrom_some _ _ _ (.inl q)⟩
 refine codeAny_call_function hr.depth (KX _ _ lk) rfl S.co S.gen rfl (PySem.W.codeRec_of KX hcd) (hb _ _ _ _ ?_)
 refine wpAny_newFunctionEnv_cells S.kind hkind fun env he s1 x=>?_
 subst he
 refine ⟨lim.keeps x.toInCall.keep,codeAny_func ?_⟩
 obtain ⟨t,ht,hq⟩:=hbody A outer s H vs Q E (hr.deeper _) hsp
 have I : Inv (cxOf CX P w K mg base N qual scope f cdv A outer s H E) [] (start N vs) H s1:=inv_start S hr.hd e0 hl r x
 refine wpAny_mono (ht [] s1 (start N vs) H _ I hq) (fun fl s' hs=>?_) fun e s' hs=>hs
 have fin : ∀ {σ' : St} {H' : Hp} {v : V} {u : Value},Inv (cxOf CX P w K mg base N qual scope f cdv A outer s H E) [] σ' H' s'→RelV v u→Q v H'→CE outer P w H s Q u s' :=
  fun {σ' H' v u} J rv q=>⟨v,H',J.os,J.bare,J.base,J.hok,rv,q⟩
 cases fl with
 | ret u =>
  obtain ⟨v,σ',H',J,rv,q⟩:=hs
  exact fin J rv q
 | next =>
  obtain ⟨σ',H',J,q⟩:=hs
  exact fin (v:=V.non) (u:=Value.none) J rfl q
 | brk =>
  obtain ⟨_,_,_,q⟩:=hs
  exact False.elim q
 | cont =>
  obtain ⟨_,_,_,q⟩:=hs
  exact False.elim q
end L2
namespace L2
open PySem PySem.Spec PyProof.Rows
section
variable {X : Cx} {x : Str} {p pos : Pos} {e : Expr} {es : List Expr} {t : TA} {id T : String} {r : List V→Hp→VK→Prop}
noncomputable def tCB (r : List V→Hp→VK→Prop) (t : TA) : TE:=fun σ H Q=>t σ H fun vs H1=>r vs H1 Q
theorem pe_callB (hc : CallR X (.builtin id) r) (hg : Gl X x) (hm : X.mg x = none) (hv : bootBuiltins x = some (.builtin id)) (ha : PA X (e :: es) t) (hn : x ≠ "__name__":=by decide) (hdb : (x == ("__debug__" : Str)) = false:=by decide)
  (he : starEach (e :: es) X.env = (false,eval e X.env) :: starEach es X.env:=by rfl) (hpl : (backTo pos (starEach es X.env)).any (·.1) = false:=by rfl) : PE X (.Call (.Name x p) (e :: es) [] pos) (tCB r t):=by
 intro pins s σ H Q I h
 refine wpAny_Call_Name_kw (ld_blt I hg hm hv ?_ hn hdb)
 exact PyProof.Rows.callWith_builtin1 (thn (ha pos pins s σ H _ I h) fun us s1 ⟨vs,H1,I1,r1,q1⟩=>hc pins s1 σ H1 vs us Q I1 r1 q1) he hpl
theorem pe_callTy (hc : CallR X (.type T) r) (hg : Gl X x) (hm : X.mg x = none) (hv : bootBuiltins x = some (.type T)) (ha : PA X (e :: es) t) (hn : x ≠ "__name__":=by decide) (hdb : (x == ("__debug__" : Str)) = false:=by decide)
  (he : starEach (e :: es) X.env = (false,eval e X.env) :: starEach es X.env:=by rfl) (hpl : (backTo pos (starEach es X.env)).any (·.1) = false:=by rfl) : PE X (.Call (.Name x p) (e :: es) [] pos) (tCB r t):=by
 intro pins s σ H Q I h
 refine wpAny_Call_Name_kw (ld_blt I hg hm hv ?_ hn hdb)
 exact PyProof.Rows.callWith_type1 (thn (ha pos pins s σ H _ I h) fun us s1 ⟨vs,H1,I1,r1,q1⟩=>hc pins s1 σ H1 vs us Q I1 r1 q1) he hpl
end
end L2
namespace HT
open PySem PyProof.Rows
section
open PySem.SeqAt
open PySem.AutoSeq1 (wpAny_loadPart')
open PySem.MeetsSeq PySem.MeetsSeq2 PySem.MeetsSeq3
end
section
variable {prog : Program} {w : World} {A : Around} {E : Value→Shared→Prop} {s : Shared}
noncomputable def sIx (n d : Nat) : Option Int→Nat
 | none=>d
 | some v=>if v < 0 then (v + (n : Int)).toNat else min v.toNat n
theorem sIx_le (n d : Nat) (hd : d≤n) (o : Option Int) : sIx n d o≤n:=by
 cases o with
 | none=>exact hd
 | some v =>
  show (if v < 0 then (v + (n : Int)).toNat else min v.toNat n)≤n
  by_cases hv : v < 0
  ·rw [if_pos hv]; omega
  ·rw [if_neg hv]; exact Nat.min_le_right _ _
theorem clip_eq (v : Int) (n d : Nat) : (if v < 0 then max (v + (n : Int)) 0 else min v (n : Int)) = ((sIx n d (some v) : Nat) : Int):=by
 show (if v < 0 then max (v + (n : Int)) 0 else min v (n : Int)) = (((if v < 0 then (v + (n : Int)).toNat else min v.toNat n) : Nat) : Int)
 by_cases hv : v < 0
 ·simp only [if_pos hv]; omega
 ·simp only [if_neg hv]; omega
theorem adjust_gen (lo hi : Option Int) (n : Nat) : Builtin.Slice.sliceAdjust lo hi 1 (n : Int) = (((sIx n 0 lo : Nat) : Int),((sIx n n hi : Nat) : Int)):=by
 have h1 : ¬ ((1 : Int) < 0):=by omega
 unfold Builtin.Slice.sliceAdjust
 simp only [h1,if_false]
 refine Prod.ext ?_ ?_
 ·cases lo with
  | none=>rfl
  | some v=>exact clip_eq v n 0
 ·cases hi with
  | none=>rfl
  | some v=>exact clip_eq v n n
theorem places_gen (i j : Nat) : Builtin.Slice.slicePlaces (i : Int) (j : Int) 1 = j - i:=by
 unfold Builtin.Slice.slicePlaces
 have h1 : (1 : Int) > 0:=by omega
 simp only [h1,if_true,Int.ediv_one]
 split <;> omega
theorem slicePart_ {v : Value} {o : Option Int} {Q : Option Int→Shared→Prop} (p : IsPart v o) (h : Q o s) : wpAny (model prog w) A (Builtin.Slice.slicePartIndex v) Q E s:=by
 cases p with
 | none=>exact slicePart_none h
 | int i t=>exact slicePart_int h
theorem sliceApplied_gen {sl : Addr} {vl vu : Value} {lo hi : Option Int} {n : Nat} {Q : Int × Int × Nat→Shared→Prop} (hs : s.heap.IsSliceOf sl vl vu .none) (pl : IsPart vl lo) (pu : IsPart vu hi)
  (h : Q (((sIx n 0 lo : Nat) : Int),1,sIx n n hi - sIx n 0 lo) s) : wpAny (model prog w) A (Builtin.Slice.sliceApplied (.ref sl) (pure (n : Int))) Q E s:=by
 obtain ⟨os,hos,hcs,hds⟩:=id hs
 unfold Builtin.Slice.sliceApplied Builtin.Slice.sliceFields
 refine wpAny_bind (wpAny_bind (wpAny_field hos hds (x:=vl) rfl (wpAny_bind (wpAny_field hos hds (x:=vu) rfl (wpAny_bind (wpAny_field hos hds (x:=.none) rfl (wpAny_pure ?_)))))))
 refine wpAny_bind (slicePart_none ?_)
 show wpAny _ _ (if ((1 : Int) == 0) = true then _ else _) _ _ s
 rw [if_neg (by decide)]
 refine wpAny_bind (slicePart_ pl (wpAny_bind (slicePart_ pu (wpAny_bind (wpAny_pure ?_)))))
 show wpAny _ _ (match Builtin.Slice.sliceAdjust lo hi 1 (n : Int) with | (lo,hi)=>pure (lo,(1 : Int),Builtin.Slice.slicePlaces lo hi 1)) _ _ s
 rw [adjust_gen lo hi n]
 show wpAny _ _ (pure (((sIx n 0 lo : Nat) : Int),(1 : Int),Builtin.Slice.slicePlaces ((sIx n 0 lo : Nat) : Int) ((sIx n n hi : Nat) : Int) 1)) _ _ s
 rw [places_gen]
 exact wpAny_pure h
theorem pick_gen (xs : Array Value) (i k : Nat) : ((List.range k).filterMap fun (m : Nat)=>xs[((i : Int) + (m : Int) * 1).toNat]?).toArray = ((xs.toList.drop i).take k).toArray:=by
 have e : (fun (m : Nat)=>xs[((i : Int) + (m : Int) * 1).toNat]?) = fun m=>xs[i + m]?:=by
  funext m
  have : ((i : Int) + (m : Int) * 1).toNat = i + m:=by omega
  rw [this]
 rw [e]
 have:=pick_run xs i k
 rw [List.filterMap_map] at this
 have e2 : ((fun x=>xs[x]?) ∘ fun x=>i + x) = fun m=>xs[i + m]?:=rfl
 rw [e2] at this
 rw [this]
theorem getItem_tuple_cut {t sl : Addr} {items : Array Value} {vl vu : Value} {lo hi : Option Int} {Q : Value→Shared→Prop} (ht : IsTup s.heap t items) (hs : s.heap.IsSliceOf sl vl vu .none) (pl : IsPart vl lo) (pu : IsPart vu hi)
  (hw : ¬ (sIx items.size 0 lo = 0∧sIx items.size items.size hi = items.size))
  (h : Q (.ref s.heap.objs.size) { s with heap:=s.heap.push { cls:=.type "tuple",data:=.seq ((items.toList.drop (sIx items.size 0 lo)).take (sIx items.size items.size hi - sIx items.size 0 lo)).toArray } })
  (hsz : items.size≤sizeLine) : wpAny (model prog w) A (getItem (.ref t) (.ref sl)) Q E s:=by
 have htake : sizeOk (.seq ((items.toList.drop (sIx items.size 0 lo)).take (sIx items.size items.size hi - sIx items.size 0 lo)).toArray):=by
  show ((items.toList.drop (sIx items.size 0 lo)).take (sIx items.size items.size hi - sIx items.size 0 lo)).toArray.size≤sizeLine
  rw [List.size_toArray,List.length_take,List.length_drop,Array.length_toList]
  omega
 have hj : sIx items.size items.size hi≤items.size:=sIx_le _ _ (Nat.le_refl _) hi
 obtain ⟨os,hos,hcs,hds⟩:=id hs
 have hTs : s.TypeIs (.ref sl) "slice":=⟨os,hos,hcs⟩
 unfold getItem
 try with_reducible refine wpAny_holding ?_
 first | refine wpAny_bind (wpAny_pure ?_) | skip
 refine wpAny_bind (wpAny_sequenceKey ht.typeIs (by decide) ?_)
 refine wpAny_bind (wpAny_callSpecial?_slot (name:=Str.ofString "__getitem__") ht.typeIs PyProof.Rows.slot_tuple_getitem
  (wpAny_call_entry PyProof.Rows.slot_tuple_getitem ht.typeIs entry_tuple_getitem ?_ (args_tuple_getitem _ _)))
 show wpAny _ _ (Builtin.Tuple.tupleItemsOf (.ref t) >>= _) _ _ s
 refine wpAny_bind (tupleItemsOf_ ht ?_)
 refine wpAny_bind (wpAny_typeOf hTs ?_)
 rw [if_pos (by decide)]
 refine wpAny_bind (sliceApplied_gen hs pl pu ?_)
 have hno : ¬ ((((sIx items.size 0 lo : Nat) : Int) == 0 && (1 : Int) == 1 && (sIx items.size items.size hi - sIx items.size 0 lo) == items.size) = true):=by
  intro q
  rw [Bool.and_eq_true,Bool.and_eq_true] at q
  have q1 : ((sIx items.size 0 lo : Nat) : Int) = 0:=eq_of_beq q.1.1
  have q2 : sIx items.size items.size hi - sIx items.size 0 lo = items.size:=eq_of_beq q.2
  exact hw ⟨by omega,by omega⟩
 show wpAny _ _ (if (((sIx items.size 0 lo : Nat) : Int) == 0 && (1 : Int) == 1 && (sIx items.size items.size hi - sIx items.size 0 lo) == items.size) = true then _ else _) _ _ s
 rw [if_neg hno,pick_gen]
 first
  | exact wpAny_bind (m:=Builtin.Tuple.tupleExact _) (wpAny_newObj_type (wpAny_pure ⟨_,rfl,wpAny_pure h⟩) htake)
  | exact wpAny_bind (m:=Builtin.Tuple.tupleExact _) (wpAny_newObj_type (wpAny_bind (wpAny_pure (wpAny_pure ⟨_,rfl,wpAny_pure h⟩))) htake)
  | exact wpAny_bind (wpAny_bind (m:=Builtin.Tuple.tupleExact _) (wpAny_newObj_type (wpAny_pure (wpAny_pure ⟨_,rfl,wpAny_pure h⟩)) htake))
  | exact wpAny_bind (wpAny_bind (m:=Builtin.Tuple.tupleExact _) (wpAny_newObj_type (wpAny_pure ⟨_,rfl,wpAny_pure h⟩) htake))
end
end HT
namespace L2
open PySem PySem.Spec PyProof.Rows
noncomputable abbrev TO:=St→Hp→(Option Int→Hp→Prop)→Prop
noncomputable def PO (X : Cx) (e : Option Expr) (t : TO) : Prop :=
 ∀ (pins : List (Addr × Obj)) (s : Shared) (σ : St) (H : Hp) (Q : Option Int→Hp→Prop),Inv X pins σ H s→t σ H Q →
  wpAny (model X.prog X.w) X.A (evalPart e X.env) (fun u s'=>∃ o H',Inv X pins σ H' s'∧IsPart u o∧Q o H') X.xe s
noncomputable def tNoPart : TO:=fun _ H Q=>Q none H
noncomputable def tPart (t : TE) : TO:=fun σ H Q=>t σ H fun x H1=>∃ i,x = .int i∧Q (some i) H1
section
variable {X : Cx} {e : Expr} {te : TE} {lo hi : Option Expr} {tl th : TO} {pos p2 : Pos}
theorem po_none : PO X none tNoPart:=by
 intro pins s σ H Q I h
 rw [evalPart_none]
 exact wpAny_pure ⟨none,H,I,.none,h⟩
theorem po_some (h : PE X e te) : PO X (some e) (tPart te):=by
 intro pins s σ H Q I hw
 rw [evalPart_some]
 refine thn (h pins s σ H _ I hw) fun u s1 ⟨x,H1,I1,r1,q1⟩=>?_
 obtain ⟨i,rfl,q⟩:=q1
 obtain ⟨t,rfl⟩:=r1
 exact ⟨some i,H1,I1,.int i t,q⟩
noncomputable def SlR (X : Cx) (r : V→Option Int→Option Int→Hp→VK→Prop) : Prop :=
 ∀ (pins : List (Addr × Obj)) (s : Shared) (σ : St) (H : Hp) (x : V) (v vl vu : Value) (lo hi : Option Int) (sl : Addr) (Q : VK),Inv X pins σ H s→RelV x v→s.heap.IsSliceOf sl vl vu .none→IsPart vl lo→IsPart vu hi→r x lo hi H Q →
  ∃ T id,typeLookup (.type T) "__getitem__" = pure (some (.builtin id))∧s.TypeIs v T∧wpAny (model X.prog X.w) X.A (getItem v (.ref sl)) (EP X pins σ Q) X.xe s
noncomputable def tSl (r : V→Option Int→Option Int→Hp→VK→Prop) (te : TE) (tl th : TO) : TE:=fun σ H Q=>te σ H fun x H1=>tl σ H1 fun l H2=>th σ H2 fun u H3=>r x l u H3 Q
theorem pe_slice {r : V→Option Int→Option Int→Hp→VK→Prop} (hr : SlR X r) (he : PE X e te) (hl : PO X lo tl) (hu : PO X hi th) : PE X (.Subscript e (.Slice lo hi none p2) pos) (tSl r te tl th):=by
 intro pins s σ H Q I h
 refine Subscript_ (thn (he pins s σ H _ I h) fun v s1 ⟨x,H1,I1,r1,q1⟩=>?_)
 refine wpAny_Slice (thn (hl pins s1 σ H1 _ I1 q1) fun vl s2 ⟨l,H2,I2,pl,q2⟩=>thn (hu pins s2 σ H2 _ I2 q2) fun vu s3 ⟨u,H3,I3,pu,q3⟩=>?_)
 rw [evalPart_none]
 refine wpAny_pure ?_
 have I4 : Inv X pins σ H3 { s3 with heap:=s3.heap.push { cls:=.type "slice",data:=.fields #[vl,vu,.none] } }:=I3.kept (t':=s3.toks) fun b ob q=>Heap.get?_push_of_some _ q
 obtain ⟨T,id,hT,ht,hg⟩:=hr pins { s3 with heap:=s3.heap.push { cls:=.type "slice",data:=.fields #[vl,vu,.none] } } σ H3 x v vl vu l u s3.heap.objs.size Q I4 r1 (Heap.IsSliceOf.new ..) pl pu q3
 show wpAny (model X.prog X.w) X.A (subscriptTail e (.Slice lo hi none p2) v (.ref s3.heap.objs.size)) (EP X pins σ Q) X.xe { s3 with heap:=s3.heap.push { cls:=.type "slice",data:=.fields #[vl,vu,.none] } }
 exact tail_any (ops:=[.ref s3.heap.objs.size,v]) ht hT hg (by with_unfolding_all rfl)
noncomputable def cutV (xs : List V) (lo hi : Option Int) : List V:=(xs.drop (HT.sIx xs.length 0 lo)).take (HT.sIx xs.length xs.length hi - HT.sIx xs.length 0 lo)
theorem cutV_length (xs : List V) (lo hi : Option Int) : (cutV xs lo hi).length≤xs.length:=by
 unfold cutV
 rw [List.length_take,List.length_drop]
 omega
noncomputable def rSlT (K : PySem.W.Frag) : V→Option Int→Option Int→Hp→VK→Prop:=fun x lo hi H Q=>∃ a xs,x = .ref a∧SqT K H a xs ∧
 ¬ (HT.sIx xs.length 0 lo = 0∧HT.sIx xs.length xs.length hi = xs.length)∧∀ p,H p = none→Q (.ref p) (upd H p (.tup (cutV xs lo hi)))
theorem sl_tup : SlR X (rSlT X.K):=by
 intro pins s σ H x v vl vu lo hi sl Q I rx hs pl pu h
 obtain ⟨a,xs,rfl,hx,hw,q⟩:=h
 cases rx
 obtain ⟨its,r,ht,hz⟩:=I.tuple hx
 have hlen : its.toArray.size = xs.length:=by rw [List.size_toArray]; exact r.length.symm
 refine ⟨"tuple",_,PyProof.Rows.slot_tuple_getitem.lookup,ht.typeIs,?_⟩
 refine HT.getItem_tuple_cut ht hs pl pu (by rw [hlen]; exact hw) ?_ (by rw [hlen]; exact hz)
 rw [hlen]
 refine ⟨.ref s.heap.objs.size,_,I.laid (t':=s.toks) (o:=.tup (cutV xs lo hi)) (fun b ob q=>Heap.get?_push_of_some _ q) (Nat.le_refl _) ?_,rfl,q _ (I.hok.fresh (Nat.le_refl _))⟩
 exact ⟨Nat.le_trans (cutV_length xs lo hi) hz,_,(r.drop (HT.sIx xs.length 0 lo)).take (HT.sIx xs.length xs.length hi - HT.sIx xs.length 0 lo),IsTup.new _ _⟩
end
end L2
namespace L2
open PySem PySem.Spec PyProof.Rows
noncomputable def ixN (n : Nat) (i : Int) : Option Nat:=if 0≤i then (if i < n then some i.toNat else none) else if -(n : Int)≤i then some (i + n).toNat else none
noncomputable def atI {α : Type} (xs : List α) (i : Int) : Option α:=(ixN xs.length i).bind fun j=>xs[j]?
theorem ixN_seq {n : Nat} {i : Int} {j : Nat} (h : ixN n i = some j) : seqIndex? i n = some j∧j < n∧-(n : Int)≤i∧i < n:=by
 unfold ixN at h
 by_cases h0 : 0≤i
 ·rw [if_pos h0] at h
  by_cases h1 : i < n
  ·rw [if_pos h1] at h
   have e : i.toNat = j:=Option.some.inj h
   exact ⟨by rw [seqIndex_of h0 h1,e],by omega,by omega,h1⟩
  ·rw [if_neg h1] at h; cases h
 ·rw [if_neg h0] at h
  by_cases h1 : -(n : Int)≤i
  ·rw [if_pos h1] at h
   have e : (i + n).toNat = j:=Option.some.inj h
   exact ⟨by rw [seqIndex_neg (by omega) h1,e],by omega,h1,by omega⟩
  ·rw [if_neg h1] at h; cases h
theorem atI_get {α : Type} {xs : List α} {i : Int} {v : α} (h : atI xs i = some v) : ∃ j,seqIndex? i xs.length = some j∧xs[j]? = some v∧j < xs.length∧-(xs.length : Int)≤i∧i < xs.length:=by
 unfold atI at h
 cases e : ixN xs.length i with
 | none=>rw [e] at h; cases h
 | some j =>
  rw [e] at h
  obtain ⟨h1,h2,h3,h4⟩:=ixN_seq e
  exact ⟨j,h1,h,h2,h3,h4⟩
theorem atI_nat {α : Type} {xs : List α} {j : Nat} {v : α} (h : xs[j]? = some v) : atI xs (j : Int) = some v:=by
 have hj : j < xs.length:=(List.getElem?_eq_some_iff.mp h).1
 have e : ixN xs.length (j : Int) = some j:=by
  unfold ixN
  rw [if_pos (by omega),if_pos (by omega)]; simp
 unfold atI; rw [e]; exact h
noncomputable def PlainIx (b : Expr) : Prop:=∀ o i,subscripted b false o i = operate [o,i] (getItem o i)
noncomputable def IxR (X : Cx) (r : R2) : Prop :=
 ∀ (value slice : Expr) (pins : List (Addr × Obj)) (s : Shared) (σ : St) (H : Hp) (x y : V) (v u : Value) (Q : VK),Inv X pins σ H s→RelV x v→RelV y u→r x y H Q →
  subscripted slice false v u = operate [v,u] (getItem v u)→wpAny (model X.prog X.w) X.A (subscriptTail value slice v u) (EP X pins σ Q) X.xe s
noncomputable def MtR (X : Cx) (id : String) (r : V→List V→Hp→VK→Prop) : Prop :=
 ∀ (pins : List (Addr × Obj)) (s : Shared) (σ : St) (H : Hp) (x : V) (xs : List V) (v : Value) (us : List Value) (Q : VK),Inv X pins σ H s→RelV x v→Vals xs us→r x xs H Q →
  wpAny (model X.prog X.w) X.A (call (.builtin id) (v :: us)) (EP X pins σ Q) X.xe s
section
variable {X : Cx} {a b : Expr} {ta tb : TE} {pos : Pos}
theorem IxR.or {r r' : R2} (h : IxR X r) (h' : IxR X r') : IxR X (fun x y H Q=>r x y H Q∨r' x y H Q):=by
 intro value slice pins s σ H x y v u Q I rx ry q hs
 rcases q with q | q
 ·exact h value slice pins s σ H x y v u Q I rx ry q hs
 ·exact h' value slice pins s σ H x y v u Q I rx ry q hs
theorem pe_ix {r : R2} (hr : IxR X r) (ha : PE X a ta) (hb : PE X b tb) (hs : PlainIx b) : PE X (.Subscript a b pos) (tOp r ta tb):=by
 intro pins s σ H Q I h
 exact Subscript_ (binT ha hb I h fun v u s2 x y H2 I2 rx ry q=>hr a b pins s2 σ H2 x y v u Q I2 rx ry q (hs _ _))
noncomputable def rIxL (K : PySem.W.Frag) : R2:=fun x y H Q=>∃ p xs i v,x = .ref p∧y = .int i∧SqL K H p xs∧atI xs i = some v∧Q v H
noncomputable def rIxT (K : PySem.W.Frag) : R2:=fun x y H Q=>∃ p xs i v,x = .ref p∧y = .int i∧SqT K H p xs∧atI xs i = some v∧Q v H
noncomputable def rIxS : R2:=fun x y H Q=>∃ z i c,x = .str z∧y = .int i∧z.length≤sizeLine∧atI z.cps.toList i = some c∧Q (.str ⟨#[c]⟩) H
theorem ix_list : IxR X (rIxL X.K):=by
 intro value slice pins s σ H x y v u Q I rx ry h hs
 obtain ⟨p,xs,i,z,rfl,rfl,hq,he,q⟩:=h
 cases rx
 obtain ⟨t,rfl⟩:=ry
 obtain ⟨its,r,pl,hz⟩:=I.list hq
 obtain ⟨j,h1,h2,h3,h4,h5⟩:=atI_get he
 obtain ⟨w,ew,rw'⟩:=r.get h2
 have hl:=r.length
 have hn:=line63
 have fin : EP X pins σ Q w s:=⟨z,H,I,rw',q⟩
 by_cases h0 : 0≤i
 ·have hj : i.toNat = j:=by
   rw [seqIndex_of h0 h5] at h1
   exact Option.some.inj h1
  exact item_listR pl.isList h0 (by omega) (by rw [hj]; simpa using ew) fin hs
 ·have hj : (i + (its.toArray.size : Int)).toNat = j:=by
   rw [seqIndex_neg (by omega) h4] at h1
   rw [List.size_toArray,← hl]
   exact Option.some.inj h1
  exact subscriptTail_builtinR (x:=w) pl.isList.typeIs slot_list_getitem.lookup
   (wpAny_getItem_list_neg (Q:=fun r s'=>r = w∧EP X pins σ Q r s') pl.isList (by omega) (by rw [List.size_toArray] <;> omega) (by omega) (by rw [hj]; simpa using ew) ⟨rfl,fin⟩) hs
theorem ix_tup : IxR X (rIxT X.K):=by
 intro value slice pins s σ H x y v u Q I rx ry h hs
 obtain ⟨p,xs,i,z,rfl,rfl,hq,he,q⟩:=h
 cases rx
 obtain ⟨t,rfl⟩:=ry
 obtain ⟨its,r,pl,hz⟩:=I.tuple hq
 obtain ⟨j,h1,h2,h3,h4,h5⟩:=atI_get he
 obtain ⟨w,ew,rw'⟩:=r.get h2
 have hl:=r.length
 have hn:=line63
 have fin : EP X pins σ Q w s:=⟨z,H,I,rw',q⟩
 exact subscriptTail_builtinR (x:=w) pl.typeIs slot_tuple_getitem.lookup
  (getItem_tuple (j:=j) (Q:=fun r s'=>r = w∧EP X pins σ Q r s') pl (by omega) (by omega) (by rw [List.size_toArray,← hl]; exact h1) (by simpa using ew) ⟨rfl,fin⟩) hs
theorem ix_str : IxR X rIxS:=by
 intro value slice pins s σ H x y v u Q I rx ry h hs
 obtain ⟨z,i,c,rfl,rfl,hz,he,q⟩:=h
 obtain ⟨t,rfl⟩:=rx
 obtain ⟨t',rfl⟩:=ry
 obtain ⟨j,h1,h2,h3,h4,h5⟩:=atI_get he
 have hl : z.cps.toList.length = z.length:=by simp [Str.length]
 rw [hl] at h1 h4 h5
 have hn:=line63
 exact tail_any (typeIs_str s z t) slot_str_getitem.lookup (getItem_str (c:=c) (by
  have e1 : decide (i < -(2 ^ 63 : Int)) = false:=decide_eq_false (by omega)
  have e2 : decide (i ≥ 2 ^ 63) = false:=decide_eq_false (by omega)
  rw [e1,e2,Bool.or_false]) (by rw [h1]; simpa using h2) ⟨.str ⟨#[c]⟩,H,I.tok _,⟨_,rfl⟩,q⟩) hs
theorem mapSeq_set (its : List Value) (n j : Nat) (u : Value) : Obj.mapSeq (·.setIfInBounds j u) { cls:=.type "list",data:=.seq its.toArray n } = { cls:=.type "list",data:=.seq (its.set j u).toArray n }:=by
 simp [Obj.mapSeq]
theorem Inv.lst {pins : List (Addr × Obj)} {σ : St} {H : Hp} {s : Shared} {p : Addr} {xs : List V} (I : Inv X pins σ H s) (h : H p = some (.lst xs)) :
  ∃ (its : List Value) (n : Nat),Vals xs its∧s.heap.get? p = some { cls:=.type "list",data:=.seq its.toArray n }∧xs.length≤sizeLine:=by
 obtain ⟨z,its,n,r,e⟩:=I.hok p _ h
 exact ⟨its,n,r,e,z⟩
theorem Inv.lstUpd {pins : List (Addr × Obj)} {σ : St} {H : Hp} {s : Shared} {p : Addr} {xs ys : List V} {its its' : List Value} {n n' : Nat} {f : Obj→Obj} (I : Inv X pins σ H s) (h : H p = some (.lst xs))
  (ho : s.heap.get? p = some { cls:=.type "list",data:=.seq its.toArray n }) (hf : f { cls:=.type "list",data:=.seq its.toArray n } = { cls:=.type "list",data:=.seq its'.toArray n' }) (r : Vals ys its') (hz : ys.length≤sizeLine) (t : Nat) :
  Inv X pins σ (upd H p (.lst ys)) { s with heap:=s.heap.update p f,toks:=t }:=by
 have e : (s.heap.update p f).get? p = some { cls:=.type "list",data:=.seq its'.toArray n' }:=by
  rw [Heap.get?_update_self f ho (by rw [hf] <;> rfl),hf]
 refine I.write (x:=p) (e:=p) (by rw [h]; trivial) (.inl rfl) (fun b u hb q=>(Heap.get?_update_other _ _ (Ne.symm hb)).trans q) ⟨_,e⟩ ?_
 exact ⟨hz,its',n',r,e⟩
noncomputable def rSetL : V→V→V→Hp→(Hp→Prop)→Prop:=fun o i v H Q=>∃ p xs k j,o = .ref p∧i = .int k∧H p = some (.lst xs)∧ixN xs.length k = some j∧Q (upd H p (.lst (xs.set j v)))
theorem set_list : PSet X rSetL:=by
 intro pins s σ H o i v ov iv u Q I ro ri rv h
 obtain ⟨p,xs,k,j,rfl,rfl,hp,hj,q⟩:=h
 cases ro
 obtain ⟨t,rfl⟩:=ri
 obtain ⟨its,n,r,ho,hz⟩:=I.lst hp
 obtain ⟨h1,h2,h3,h4⟩:=ixN_seq hj
 have hl:=r.length
 have hn:=line63
 have I' : Inv X pins σ (upd H p (.lst (xs.set j v))) { s with heap:=s.heap.update p (Obj.mapSeq (·.setIfInBounds j u)) } :=
  I.lstUpd hp ho (mapSeq_set its n j u) (r.set rv j) (by rw [List.length_set]; exact hz) s.toks
 by_cases h0 : 0≤k
 ·have hk : k.toNat = j:=by
   rw [seqIndex_of h0 h4] at h1
   exact Option.some.inj h1
  exact PySem.W.ki_setAt ho h0 (by omega) (by rw [List.size_toArray,← hl]; exact h4) (by rw [hk]; exact ⟨_,I',q⟩)
 ·have hk : (k + (its.toArray.size : Int)).toNat = j:=by
   rw [seqIndex_neg (by omega) h3] at h1
   rw [List.size_toArray,← hl]
   exact Option.some.inj h1
  exact PySem.W.ki_setBack ho (by omega) (by rw [List.size_toArray,← hl]; exact h3) (by omega) (by rw [hk]; exact ⟨_,I',q⟩)
theorem slice_bounds (lo hi : Option Int) (n : Nat) : (sliceBounds lo hi none n).1 = ((HT.sIx n 0 lo : Nat) : Int)∧(sliceBounds lo hi none n).2.1 = ((HT.sIx n n hi : Nat) : Int)∧(sliceBounds lo hi none n).2.2 = 1:=by
 refine ⟨?_,?_,rfl⟩
 ·cases lo with
  | none=>simp [sliceBounds,HT.sIx]
  | some i =>
   simp only [sliceBounds,HT.sIx,Option.getD_none,show (1 : Int) > 0 by decide,if_true]
   by_cases h : i < 0
   ·simp only [h,if_true] <;> omega
   ·simp only [h,if_false] <;> omega
 ·cases hi with
  | none=>simp [sliceBounds,HT.sIx]
  | some i =>
   simp only [sliceBounds,HT.sIx,Option.getD_none,show (1 : Int) > 0 by decide,if_true]
   by_cases h : i < 0
   ·simp only [h,if_true] <;> omega
   ·simp only [h,if_false] <;> omega
theorem slicePick_cut (its : List Value) (lo hi : Option Int) : slicePick its.toArray lo hi none = ((its.drop (HT.sIx its.length 0 lo)).take (HT.sIx its.length its.length hi - HT.sIx its.length 0 lo)).toArray:=by
 obtain ⟨h1,h2,h3⟩:=slice_bounds lo hi its.toArray.size
 unfold slicePick
 rw [h1,h2,h3]
 simp only [sliceRange_one,pick_run,List.size_toArray] <;> rfl
noncomputable def rSlL (K : PySem.W.Frag) : V→Option Int→Option Int→Hp→VK→Prop:=fun x lo hi H Q=>∃ a xs,x = .ref a∧SqL K H a xs∧∀ p,H p = none→Q (.ref p) (upd H p (.lst (cutV xs lo hi)))
theorem sl_list : SlR X (rSlL X.K):=by
 intro pins s σ H x v vl vu lo hi sl Q I rx hs pl pu h
 obtain ⟨a,xs,rfl,hx,q⟩:=h
 cases rx
 obtain ⟨its,r,ht,hz⟩:=I.list hx
 have hlen:=r.length
 refine ⟨"list",_,slot_list_getitem.lookup,ht.isList.typeIs,?_⟩
 refine wpAny_getItem_list_slice ht.isList hs pl pu .none (by simp) ?_ (by rw [List.size_toArray] <;> omega)
 rw [slicePick_cut,← hlen]
 refine ⟨.ref s.heap.objs.size,_,I.laid (t':=s.toks) (o:=.lst (cutV xs lo hi)) (fun b ob q=>Heap.get?_push_of_some _ q) (Nat.le_refl _) ?_,rfl,q _ (I.hok.fresh (Nat.le_refl _))⟩
 exact ⟨Nat.le_trans (cutV_length xs lo hi) hz,_,0,(r.drop (HT.sIx xs.length 0 lo)).take (HT.sIx xs.length xs.length hi - HT.sIx xs.length 0 lo),Heap.get?_push_size _ rfl⟩
noncomputable def flatV : V→Bool
 | .non=>true
 | .bl _=>true
 | .int _=>true
 | .str _=>true
 | _=>false
noncomputable def eqV : V→V→Bool
 | .non,.non=>true
 | .bl a,.bl b=>a == b
 | .bl a,.int b=>(if a then 1 else 0) == b
 | .int a,.bl b=>a == (if b then 1 else 0)
 | .int a,.int b=>a == b
 | .str a,.str b=>a == b
 | _,_=>false
theorem eqAt_V {A : Around} {s : Shared} {y x : V} {u v : Value} (ry : RelV y u) (rx : RelV x v) (fy : flatV y = true) (fx : flatV x = true) : SeqAt.EqAt A s u v (eqV y x):=by
 cases y with
 | non =>
  cases ry
  cases x with
  | non=>cases rx; exact SeqAt.EqAt.same _
  | bl b=>cases rx; exact SeqAt.EqAt.none_bool b
  | int b=>obtain ⟨t,rfl⟩:=rx; exact SeqAt.EqAt.none_int b t
  | str b=>obtain ⟨t,rfl⟩:=rx; exact SeqAt.EqAt.none_str b t
  | _=>exact absurd (show false = true from fx) Bool.false_ne_true
 | bl a =>
  cases ry
  cases x with
  | non=>cases rx; exact SeqAt.EqAt.bool_none a
  | bl b=>cases rx; exact SeqAt.EqAt.bool_bool a b
  | int b=>obtain ⟨t,rfl⟩:=rx; exact SeqAt.EqAt.bool_int a b t
  | str b=>obtain ⟨t,rfl⟩:=rx; exact SeqAt.EqAt.bool_str a b t
  | _=>exact absurd (show false = true from fx) Bool.false_ne_true
 | int a =>
  obtain ⟨t',rfl⟩:=ry
  cases x with
  | non=>cases rx; exact SeqAt.EqAt.int_none a t'
  | bl b=>cases rx; exact SeqAt.EqAt.int_bool a t' b
  | int b=>obtain ⟨t,rfl⟩:=rx; exact SeqAt.EqAt.int_int a t' b t
  | str b=>obtain ⟨t,rfl⟩:=rx; exact SeqAt.EqAt.int_str a t' b t
  | _=>exact absurd (show false = true from fx) Bool.false_ne_true
 | str a =>
  obtain ⟨t',rfl⟩:=ry
  cases x with
  | non=>cases rx; exact SeqAt.EqAt.str_none a t'
  | bl b=>cases rx; exact SeqAt.EqAt.str_bool a t' b
  | int b=>obtain ⟨t,rfl⟩:=rx; exact SeqAt.EqAt.str_int a t' b t
  | str b=>obtain ⟨t,rfl⟩:=rx; exact SeqAt.EqAt.str_str a t' b t
  | _=>exact absurd (show false = true from fx) Bool.false_ne_true
 | _=>exact absurd (show false = true from fy) Bool.false_ne_true
noncomputable def eqU (x : V) (u : Value) : Bool:=match u with
 | .none=>eqV .non x
 | .bool b=>eqV (.bl b) x
 | .int i _=>eqV (.int i) x
 | .str z _=>eqV (.str z) x
 | _=>false
theorem eqU_of {x y : V} {u : Value} (r : RelV y u) (f : flatV y = true) : eqU x u = eqV y x:=by
 cases y with
 | non=>cases r; rfl
 | bl b=>cases r; rfl
 | int i=>obtain ⟨t,rfl⟩:=r; rfl
 | str z=>obtain ⟨t,rfl⟩:=r; rfl
 | _=>exact absurd (show false = true from f) Bool.false_ne_true
theorem any_eqU {x : V} : ∀ {xs : List V} {us : List Value},Vals xs us→xs.all flatV = true→us.any (eqU x) = xs.any fun y=>eqV y x
 | _,_,.nil,_=>rfl
 | y :: xs,u :: us,.cons r t,f=>by
  rw [List.all_cons,Bool.and_eq_true] at f
  rw [List.any_cons,List.any_cons,eqU_of r f.1,any_eqU t f.2]
theorem mem_eqAt {A : Around} {s : Shared} {x : V} {v : Value} (rx : RelV x v) (fx : flatV x = true) : ∀ {xs : List V} {us : List Value},Vals xs us→xs.all flatV = true→∀ u∈us,SeqAt.EqAt A s u v (eqU x u)
 | _,_,.nil,_=>fun u hu=>by cases hu
 | y :: xs,u :: us,.cons r t,f=>fun u' hu=>by
  rw [List.all_cons,Bool.and_eq_true] at f
  rcases List.mem_cons.mp hu with rfl | hu
  ·rw [eqU_of r f.1]; exact eqAt_V r rx f.1 fx
  ·exact mem_eqAt rx fx t f.2 u' hu
noncomputable def inV (x : V) (xs : List V) : Bool:=xs.any fun y=>eqV y x
noncomputable def rIn (K : PySem.W.Frag) (neg : Bool) : R2:=fun x y H Q=>∃ p xs,y = .ref p∧(SqL K H p xs∨SqT K H p xs)∧flatV x = true∧xs.all flatV = true∧Q (.bl (if neg then !inV x xs else inV x xs)) H
theorem op_notIn_seq : OpR X (compareOp .NotIn) (rIn X.K true):=by
 intro pins s σ H x y v u Q I rx ry h
 obtain ⟨p,xs,rfl,hq,fx,fs,q⟩:=h
 cases ry
 rcases hq with hq | hq
 ·obtain ⟨its,r,pl,hz⟩:=I.list hq
  refine SeqAt.notIn_listAt (eqU x) pl.isList (fun w hw=>mem_eqAt rx fx r fs w (by simpa using hw)) ⟨.bl _,H,I,rfl,?_⟩
  rw [show its.toArray.any (eqU x) = its.any (eqU x) by simp,any_eqU r fs]
  exact q
 ·obtain ⟨its,r,pl,hz⟩:=I.tuple hq
  refine SeqAt.notIn_tupleAt (eqU x) pl (fun w hw=>mem_eqAt rx fx r fs w (by simpa using hw)) ⟨.bl _,H,I,rfl,?_⟩
  rw [show its.toArray.any (eqU x) = its.any (eqU x) by simp,any_eqU r fs]
  exact q
theorem call_len_seq : CallR X (.builtin "len") (fun xs H Q=>∃ p ys,xs = [.ref p]∧(SqL X.K H p ys∨SqT X.K H p ys)∧Q (.int ys.length) H):=by
 intro pins s σ H xs us Q I r h
 obtain ⟨p,ys,rfl,hq,q⟩:=h
 obtain ⟨u,rfl,rx⟩:=vals1 r
 cases rx
 have hn:=line63
 rcases hq with hq | hq
 ·obtain ⟨its,r',pl,hz⟩:=I.list hq
  have hlen:=r'.length
  exact Calls.call_len_list pl.isList (by simp only [List.size_toArray] <;> omega) ⟨.int ys.length,H,I.tok _,⟨s.toks + 1,by rw [List.size_toArray,hlen]⟩,q⟩
 ·obtain ⟨its,r',pl,hz⟩:=I.tuple hq
  have hlen:=r'.length
  exact len_tuple pl (by simp only [List.size_toArray] <;> omega) ⟨.int ys.length,H,I.tok _,⟨s.toks + 1,by rw [List.size_toArray,hlen]⟩,q⟩
theorem call_len_str : CallR X (.builtin "len") (fun xs H Q=>∃ z,xs = [.str z]∧z.length≤sizeLine∧Q (.int z.length) H):=by
 intro pins s σ H xs us Q I r h
 obtain ⟨z,rfl,hz,q⟩:=h
 obtain ⟨u,rfl,t,rfl⟩:=vals1 r
 have hn:=line63
 exact len_str (by omega) ⟨.int z.length,H,I.tok _,⟨_,rfl⟩,q⟩
theorem call_list_of : CallR X (.type "list") (fun xs H Q=>∃ p ys,xs = [.ref p]∧(SqL X.K H p ys∨SqT X.K H p ys)∧∀ l,H l = none→Q (.ref l) (upd H l (.lst ys))):=by
 intro pins s σ H xs us Q I r h
 obtain ⟨p,ys,rfl,hq,q⟩:=h
 obtain ⟨u,rfl,rx⟩:=vals1 r
 cases rx
 have fin : ∀ (its : List Value),Vals ys its→ys.length≤sizeLine→∀ (h' : Heap) (c' : Nat),(∀ b o',s.heap.get? b = some o'→h'.get? b = some o') →
   h'.get? s.heap.objs.size = some { cls:=.type "list",dict:=none,data:=.seq its.toArray c',slots:=#[] }→EP X pins σ Q (.ref s.heap.objs.size) { s with heap:=h' }:=fun its r' hz h' c' kp e =>
  ⟨.ref s.heap.objs.size,_,I.laid (t':=s.toks) kp (Nat.le_refl _) (show ObjOk X.prog X.w _ h' _ (.lst ys) from ⟨hz,its,c',r',e⟩),rfl,q _ (I.hok.fresh (Nat.le_refl _))⟩
 rcases hq with hq | hq
 ·obtain ⟨its,r',pl,hz⟩:=I.list hq
  have hlen:=r'.length
  obtain ⟨o,ho,hc,n,hd⟩:=pl.isList
  exact call_list_seq p (.inl rfl) ho hc hd (fun h' c' kp e=>fin its r' hz h' c' kp e) (by simp only [List.size_toArray] <;> omega)
 ·obtain ⟨its,r',pl,hz⟩:=I.tuple hq
  have hlen:=r'.length
  obtain ⟨o,ho,hc,n,hd⟩:=pl
  exact call_list_seq p (.inr rfl) ho hc hd (fun h' c' kp e=>fin its r' hz h' c' kp e) (by simp only [List.size_toArray] <;> omega)
theorem call_tuple_of : CallR X (.type "tuple") (fun xs H Q=>∃ p ys,xs = [.ref p]∧((SqL X.K H p ys∧∀ l,H l = none→Q (.ref l) (upd H l (.tup ys)))∨(SqT X.K H p ys∧Q (.ref p) H))):=by
 intro pins s σ H xs us Q I r h
 obtain ⟨p,ys,rfl,h⟩:=h
 obtain ⟨u,rfl,rx⟩:=vals1 r
 cases rx
 rcases h with ⟨hq,q⟩ | ⟨hq,q⟩
 ·obtain ⟨its,r',pl,hz⟩:=I.list hq
  have hlen:=r'.length
  refine call_tuple_list pl.isList (fun h' kp=>?_) (by simp only [List.size_toArray] <;> omega)
  have I1 : Inv X pins σ H { s with heap:=h' }:=I.kept (t':=s.toks) kp
  have I2 : Inv X pins σ (upd H h'.objs.size (.tup ys)) { s with heap:=h'.push { cls:=.type "tuple",data:=.seq its.toArray } } :=
   I1.laid (t':=s.toks) (fun b o e=>Heap.get?_push_of_some _ e) (Nat.le_refl _) (show ObjOk X.prog X.w _ _ _ (.tup ys) from ⟨hz,its,r',IsTup.new _ _⟩)
  exact ⟨.ref h'.objs.size,_,I2,rfl,q _ (I1.hok.fresh (Nat.le_refl _))⟩
 ·obtain ⟨its,r',pl,hz⟩:=I.tuple hq
  exact call_tuple_same pl ⟨.ref p,H,I,rfl,q⟩
noncomputable def tyV (K : PySem.W.Frag) (T : String) (x : V) (H : Hp) : Prop:=match x with
 | .str _=>T = "str"
 | .int _=>T = "int"
 | .ref p=>(T = "list"∧∃ xs,SqL K H p xs)∨(T = "tuple"∧∃ o,K.lookup p = some o∧o.cls = .type "tuple"∧o.dict = none) ∨
   (T = "dict"∧((∃ kvs,H p = some (.dK kvs))∨∃ kvs,H p = some (.dT kvs)))∨(T = "set"∧∃ S n,H p = some (.set S n))
 | _=>False
theorem tyV_is {pins : List (Addr × Obj)} {σ : St} {H : Hp} {s : Shared} {T : String} {x : V} {v : Value} (I : Inv X pins σ H s) (r : RelV x v) (ty : tyV X.K T x H) :
  s.TypeIs v T∧∀ a,v = .ref a→∃ ob,s.heap.get? a = some ob∧ob.dict = none:=by
 cases x with
 | str z =>
  obtain ⟨t,rfl⟩:=r
  cases (show T = "str" from ty)
  exact ⟨typeIs_str s z t,fun _ e=>nomatch e⟩
 | int i =>
  obtain ⟨t,rfl⟩:=r
  cases (show T = "int" from ty)
  exact ⟨typeIs_int s i t,fun _ e=>nomatch e⟩
 | ref p =>
  cases r
  rcases ty with ⟨rfl,xs,hq⟩ | ⟨rfl,o,hk,hc,hd⟩ | ⟨rfl,hk⟩ | ⟨rfl,S,n,hk⟩
  ·obtain ⟨its,_,pl,_⟩:=I.list hq
   refine ⟨pl.isList.typeIs,fun a e=>?_⟩
   cases e
   obtain ⟨o,n,e,c,hd,_⟩:=pl
   exact ⟨o,e,hd⟩
  ·refine ⟨⟨o,I.kIn p o hk,hc⟩,fun a e=>?_⟩
   cases e
   exact ⟨o,I.kIn _ o hk,hd⟩
  ·have z : ∃ o,s.heap.get? p = some o∧o.ExactDict:=by
    rcases hk with ⟨kvs,hk⟩ | ⟨kvs,hk⟩
    ·obtain ⟨_,_,_,_,o,_,_,e,ex,_⟩:=I.hok p _ hk
     exact ⟨o,e,ex⟩
    ·obtain ⟨_,_,_,_,o,_,_,e,ex,_⟩:=I.hok p _ hk
     exact ⟨o,e,ex⟩
   obtain ⟨o,e,ex⟩:=z
   refine ⟨⟨o,e,ex.1⟩,fun a e2=>?_⟩
   cases e2
   exact ⟨o,e,ex.2.1⟩
  ·obtain ⟨o,_,_,_,e,ex,_⟩:=I.hok p _ hk
   refine ⟨⟨o,e,ex.1⟩,fun a e2=>?_⟩
   cases e2
   exact ⟨o,e,ex.2.1⟩
 | _=>exact False.elim ty
noncomputable def tBM0 (K : PySem.W.Frag) (T : String) (r : V→List V→Hp→VK→Prop) (to : TE) : TE:=fun σ H Q=>to σ H fun x H1=>tyV K T x H1∧r x [] H1 Q
noncomputable def tBM (K : PySem.W.Frag) (T : String) (r : V→List V→Hp→VK→Prop) (to : TE) (t : TA) : TE:=fun σ H Q=>to σ H fun x H1=>tyV K T x H1∧t σ H1 fun xs H2=>r x xs H2 Q
variable {o e : Expr} {es : List Expr} {to : TE} {t : TA} {name : Str} {apos cpos : Pos} {T id : String} {r : V→List V→Hp→VK→Prop}
theorem pe_bm0 (pa : PlainAttrs T) (slot : Slot T name id) (hty : typeOf (.builtin id) = pure (.type "method_descriptor")) (hm : MtR X id r) (ho : PE X o to)
  (hbase : attributeBase o name X.env (eval o X.env) = eval o X.env:=by rfl) (hline : (apos.endLine == cpos.line) = true:=by rfl) : PE X (.Call (.Attribute o name apos) [] [] cpos) (tBM0 X.K T r to):=by
 intro pins s σ H Q I h
 refine wpAny_Call_method0_late hbase hline (thn (ho pins s σ H _ I h) fun v s1 ⟨x,H1,I1,r1,ty,q1⟩=>?_)
 obtain ⟨h1,h2⟩:=tyV_is I1 r1 ty
 exact ⟨T,id,pa,slot,hty,h1,h2,Calls.callWith_builtin rfl (PySem.evalArgs_none (hm pins s1 σ H1 x [] v [] Q I1 r1 .nil q1))⟩
theorem pe_bm (pa : PlainAttrs T) (slot : Slot T name id) (hty : typeOf (.builtin id) = pure (.type "method_descriptor")) (hm : MtR X id r) (ho : PE X o to) (ha : PA X (e :: es) t)
  (hbase : attributeBase o name X.env (eval o X.env) = eval o X.env:=by rfl)
  (hfew : ((backTo cpos (starEach (e :: es) X.env)).all (fun x=>!x.1) && (backToKw cpos (keywordEach [] X.env)).all (fun x=>x.1.isSome)
   && decide ((e :: es).length + ([] : List Keyword).length + (if ([] : List Keyword).isEmpty then 0 else 1) < 30)) = true:=by rfl)
  (hline : (apos.endLine == cpos.line) = true:=by rfl) (hs : starEach (e :: es) X.env = (false,eval e X.env) :: starEach es X.env:=by rfl) (hplain : (backTo cpos (starEach es X.env)).any (·.1) = false:=by rfl) :
  PE X (.Call (.Attribute o name apos) (e :: es) [] cpos) (tBM X.K T r to t):=by
 intro pins s σ H Q I h
 refine wpAny_Call_method_late hbase hfew hline rfl (thn (ho pins s σ H _ I h) fun v s1 ⟨x,H1,I1,r1,ty,q1⟩=>?_)
 obtain ⟨h1,h2⟩:=tyV_is I1 r1 ty
 refine ⟨T,id,pa,slot,hty,h1,h2,?_⟩
 have hA:=ha cpos pins s1 σ H1 _ I1 q1
 rw [hs] at hA ⊢
 refine Calls.callWith_builtin (by show (false || (backTo cpos (starEach es X.env)).any (·.1)) = false; rw [hplain] <;> rfl) (Calls.evalArgs_plain ?_)
 exact thn hA fun us s2 ⟨vs,H2,I2,r2,q2⟩=>hm pins s2 σ H2 x vs v us Q I2 r1 r2 q2
end
end L2
namespace L2
open PySem PySem.Spec PyProof.Rows
noncomputable def MtM (X : Cx) (id : String) (r : V→List V→Hp→VK→Prop) : Prop :=
 ∀ (pins : List (Addr × Obj)) (s : Shared) (σ : St) (H : Hp) (x : V) (xs : List V) (v : Value) (us : List Value) (Q : VK),Inv X pins σ H s→RelV x v→Vals xs us→r x xs H Q →
  wpAny (model X.prog X.w) X.A (call (.builtin id) (v :: us)) (EP X pins σ Q) X.xe s
theorem Vals.one : ∀ {x : V} {us : List Value},Vals [x] us→∃ u,us = [u]∧RelV x u
 | _,_,.cons r .nil=>⟨_,rfl,r⟩
theorem Vals.zero : ∀ {us : List Value},Vals [] us→us = []
 | _,.nil=>rfl
theorem Vals.dropLast {xs : List V} {us : List Value} (h : Vals xs us) : Vals xs.dropLast us.dropLast:=by
 induction h with
 | nil=>exact .nil
 | cons r t ih =>
  cases t with
  | nil=>exact .nil
  | cons q t'=>exact .cons r ih
theorem Vals.eraseIdx : ∀ {xs : List V} {us : List Value} (i : Nat),Vals xs us→Vals (xs.eraseIdx i) (us.eraseIdx i)
 | _,_,_,.nil=>.nil
 | _,_,0,.cons _ t=>t
 | _,_,i + 1,.cons r t=>.cons r (Vals.eraseIdx i t)
theorem Vals.reverse {xs : List V} {us : List Value} (h : Vals xs us) : Vals xs.reverse us.reverse:=by
 induction h with
 | nil=>exact .nil
 | cons r t ih=>rw [List.reverse_cons,List.reverse_cons]; exact Vals.append ih (.cons r .nil)
theorem erase_last {α : Type} (l : List α) : l.eraseIdx (l.length - 1) = l.dropLast:=by
 induction l with
 | nil=>rfl
 | cons a r ih =>
  cases r with
  | nil=>rfl
  | cons b r =>
   have e : (a :: b :: r).length - 1 = ((b :: r).length - 1) + 1:=by
    have h1 : (a :: b :: r).length = r.length + 2:=rfl
    have h2 : (b :: r).length = r.length + 1:=rfl
    omega
   rw [e,List.eraseIdx_cons_succ,ih]
   all_goals rfl
theorem len_erase {α : Type} : ∀ (l : List α) (i : Nat),(l.eraseIdx i).length≤l.length
 | [],_=>Nat.le_refl _
 | _ :: _,0=>Nat.le_succ _
 | _ :: r,i + 1=>Nat.succ_le_succ (len_erase r i)
section
variable {X : Cx} {pins : List (Addr × Obj)} {σ : St} {H : Hp} {s : Shared} {l b : Addr} {xs ys zs : List V}
theorem Inv.lset {its its' : List Value} {n : Nat} {f : Array Value→Array Value} {t' : Nat} (I : Inv X pins σ H s) (hH : H l = some (.lst xs))
  (e : s.heap.get? l = some { cls:=.type "list",data:=.seq its.toArray n }) (hf : f its.toArray = its'.toArray) (hv : Vals ys its') (hz : ys.length≤sizeLine) :
  Inv X pins σ (upd H l (.lst ys)) { s with heap:=s.heap.update l (Obj.mapSeq f),toks:=t' }:=by
 have q:=PySem.IsL.update e f
 rw [hf] at q
 refine I.write (x:=l) (e:=l) (by rw [hH]; exact trivial) (.inl rfl) (fun b' u hb hu=>(Heap.get?_update_other s.heap (Obj.mapSeq f) (Ne.symm hb)).trans hu) ⟨_,q⟩ ?_
 exact ⟨hz,its',_,hv,q⟩
theorem Inv.lnew {its : List Value} {t' : Nat} (I : Inv X pins σ H s) (hv : Vals ys its) (hz : ys.length≤sizeLine) :
  Inv X pins σ (upd H s.heap.objs.size (.lst ys)) { s with heap:=s.heap.push { cls:=.type "list",data:=.seq its.toArray },toks:=t' } :=
 I.laid (fun _ _ q=>Heap.get?_push_of_some _ q) (Nat.le_refl _) ⟨hz,its,0,hv,Heap.get?_push_size _ rfl⟩
theorem Inv.fresh (I : Inv X pins σ H s) : H s.heap.objs.size = none:=I.hok.fresh (Nat.le_refl _)
theorem Inv.lstM (I : Inv X pins σ H s) (hH : H l = some (.lst xs)) : xs.length≤sizeLine∧∃ (its : List Value) (n : Nat),Vals xs its∧xs.length = its.length∧s.heap.get? l = some { cls:=.type "list",data:=.seq its.toArray n }:=by
 obtain ⟨z,its,n,r,e⟩:=I.hok l _ hH
 exact ⟨z,its,n,r,r.length,e⟩
end
section
variable {X : Cx}
noncomputable def rAppend : V→List V→Hp→VK→Prop:=fun x vs H Q=>∃ l xs y,x = .ref l∧vs = [y]∧H l = some (.lst xs)∧xs.length < sizeLine∧Q .non (upd H l (.lst (xs ++ [y])))
theorem mt_append : MtM X "list.append" rAppend:=by
 intro pins s σ H x vs v us Q I rx rv h
 obtain ⟨l,xs,y,rfl,rfl,hH,hz,q⟩:=h
 cases rx
 obtain ⟨u,rfl,ru⟩:=rv.one
 obtain ⟨z,its,n,r,hl,e⟩:=I.lstM hH
 refine call_meets F.slot_list_append ⟨_,e,rfl⟩ F.entry_list_append (F.args_list_append_2 _ _) (PySem.list_append l its.toArray n u (by rw [List.size_toArray]; omega)) ⟨e,?_⟩
 refine ⟨.non,_,I.lset (its':=its ++ [u]) hH e (by simp) (r.append (.cons ru .nil)) ?_,rfl,q⟩
 rw [List.length_append,List.length_singleton]
 omega
noncomputable def rPop : V→List V→Hp→VK→Prop:=fun x vs H Q=>∃ l xs y,x = .ref l∧vs = []∧H l = some (.lst xs)∧xs[xs.length - 1]? = some y∧Q y (upd H l (.lst xs.dropLast))
theorem mt_pop : MtM X "list.pop" rPop:=by
 intro pins s σ H x vs v us Q I rx rv h
 obtain ⟨l,xs,y,rfl,rfl,hH,hy,q⟩:=h
 cases rx
 have hus:=rv.zero
 subst hus
 obtain ⟨z,its,n,r,hl,e⟩:=I.lstM hH
 obtain ⟨u,hu,ru⟩:=r.get hy
 have hy' : its.toArray[its.toArray.size - 1]? = some u:=by
  show its.toArray[its.length - 1]? = some u
  rw [← Array.getElem?_toList,← hl]
  exact hu
 refine call_meets F.slot_list_pop ⟨_,e,rfl⟩ F.entry_list_pop (F.args_list_pop_1 _) (MeetsSeq.list_pop_last l its.toArray n u hy' (by rw [List.size_toArray]; omega)) ⟨e,?_⟩
 refine ⟨y,_,I.lset (its':=its.dropLast) hH e ?_ r.dropLast ?_,ru,q⟩
 ·show its.toArray.eraseIdxIfInBounds (its.toArray.size - 1) = its.dropLast.toArray
  rw [List.size_toArray,List.eraseIdxIfInBounds_toArray,erase_last]
 ·rw [List.length_dropLast]
  omega
noncomputable def rClear : V→List V→Hp→VK→Prop:=fun x vs H Q=>∃ l xs,x = .ref l∧vs = []∧H l = some (.lst xs)∧Q .non (upd H l (.lst []))
theorem mt_clear : MtM X "list.clear" rClear:=by
 intro pins s σ H x vs v us Q I rx rv h
 obtain ⟨l,xs,rfl,rfl,hH,q⟩:=h
 cases rx
 have hus:=rv.zero
 subst hus
 obtain ⟨z,its,n,r,hl,e⟩:=I.lstM hH
 refine call_meets F.slot_list_clear ⟨_,e,rfl⟩ F.entry_list_clear (F.args_list_clear_1 _) (AutoSeq1.list_clear_list_0 l its.toArray n (by rw [List.size_toArray]; omega)) ⟨e,?_⟩
 exact ⟨.non,_,I.lset (its':=[]) (ys:=[]) hH e rfl .nil (Nat.zero_le _),rfl,q⟩
end
section
variable {prog : Program} {w : World} {A : Around} {E : Value→Shared→Prop} {s : Shared}
end
section
variable {X : Cx}
end
end L2
namespace Att
open PySem PySem.W PySem.Calls PyProof.Rows
theorem ints_of_wellAll {P : Params} {h : Heap} : ∀ (ns : List Int) (vs : List Value),WellAll P h vs (ns.map WData.int)→IntsAre vs ns:=by
 intro ns
 induction ns with
 | nil =>
  intro vs w
  rw [List.map_nil] at w
  cases w
  exact .nil
 | cons n ns ih =>
  intro vs w
  rw [List.map_cons] at w
  cases w with
  | cons a b =>
   cases a
   exact .cons _ _ (ih _ b)
theorem script_of {l : OpenLaw} {n : Nat} (hn : l.most = some n) {P : Params} {h : Heap} {args : List WData} {vals : List Value}
  (hpre : l.row.toRowW.claim.pre args = true) (hwl : WellAll P h vals args) :
  ∃ a vs ns,vals = [Value.ref a]∧args = [WData.list (ns.map WData.int)]∧h.get? a = some { cls:=.type "list",data:=.seq vs.toArray }∧IntsAre vs ns∧ns.length≤n:=by
 have hsh : WShape.hasAll [] args [.list .int] = true:=(pre_splitW hpre).1
 have hc : l.pre.holds [] { args:=args } = true:=(pre_splitW hpre).2
 obtain ⟨d,r,rfl,h1,h2⟩:=hasAllW_cons hsh
 obtain rfl:=hasAllW_nil h2
 obtain ⟨xs,rfl,h3⟩:=hasW_list h1
 obtain ⟨ns,rfl⟩:=items_int h3
 have hlen : ns.length≤n:=by
  unfold OpenLaw.pre at hc
  have h4 : (WTm.not (.lt (.lit (.int (n : Int))) (.len (.arg 0)))).holds [] { args:=[.list (ns.map .int)] } = true:=by
   have h4:=(holds_andW hc).1
   rw [hn] at h4
   exact h4
  have h5:=condW_of h4 (w_not (w_lt w_lit (w_len_list (w_arg rfl))))
  rw [List.length_map] at h5
  refine Nat.le_of_not_lt fun q=>?_
  have q' : (n : Int) < ((ns.length : Nat) : Int):=by omega
  first
   | (rw [decide_eq_true q'] at h5; exact absurd h5 (by decide))
   | (simp at h5; omega)
 cases hwl with
 | cons w1 w2 =>
  cases w2
  cases w1 with
  | list ho hall=>exact ⟨_,_,ns,rfl,rfl,ho,ints_of_wellAll ns _ hall,hlen⟩
theorem post_true (l : OpenLaw) (args : List WData) : l.row.toRowW.claim.post args (.bool true) args = true :=
 postW_of (r:=l.row.toRowW) (X:=(true == true))
  (show WShape.has [] (.bool true) .bool = true by first | rfl | decide | simp [WShape.has,WShape.arms,WShape.armsAll])
  (show (WTm.eq .res (.lit (.bool true))).value [] { args:=args,res:=some (.bool true),after:=args } = some (.bool (true == true)) from w_eq_bool (w_res rfl) w_lit) rfl
theorem attach_call {l : OpenLaw} {n : Nat} {q : Program} {loose : List Str} {XP : (Str→Option Value)→Heap→Prop} {YP : World→Heap→Prop} {d : DefRec}
  (hn : l.most = some n) (hdf : d.params.defaults = [])
  (call : ∀ (w : World) (s₀ s₁ : Shared) (mg mb : Str→Option Value) (fa : Addr) (o : Obj) (pm cd doc : Value) (a : Addr) (vs : List Value) (ns : List Int),
   Ground q loose [] XP w s₀ mg mb s₁.heap→YP w s₁.heap →
   s₁.heap.get? fa = some o→o.data = .func (docDef d.name d.params d.body d.scope pm cd doc)→s₁.heap.CodeRec cd d.name→mg d.name = some (.ref fa) →
   s₁.heap.get? a = some { cls:=.type "list",data:=.seq vs.toArray }→IntsAre vs ns→ns.length≤n→s₁.gens = #[] →
   codeAny (model l.prog w) callerA (.call (.ref fa) ⟨[.ref a],[]⟩) (fun r s'=>r = .ok (.ret (.bool true))∧OldK s₁.heap s'.heap∧s'.os = s₁.os∧AllBare s'.gens) s₁) :
  WalkO q loose XP YP l.row.toRowW d [] (fun f vs=>PySem.call f vs):=by
 intro w s₀ s₁ mg mb G Y fa o pm cd doc dV kV ho hd hcd hD hmg hg args vals as hpre hlay hrd hwl hlo
 obtain rfl : dV = .none:=Dflts.none hD hdf
 obtain rfl : kV = .none:=Dflts.noKw hD
 obtain ⟨a,vs,ns,rfl,rfl,hobj,hints,hlen⟩:=script_of hn hpre hwl
 refine enter_call (codeAny_mono (call w s₀ s₁ mg mb fa o pm cd doc a vs ns G Y ho (fd_plain hd) hcd hmg hobj hints hlen hg) fun r s' hq=>?_)
 obtain ⟨rfl,h2,h3,h4⟩:=hq
 exact ⟨.inl ⟨.bool true,.bool true,[],rfl,fun _=>rfl,.bool true,post_true l _,fun _=>⟨List.Pairwise.nil,fun _ hm=>(nomatch hm)⟩⟩,h2,h3,h4⟩
section
variable {prog : Program} {w : World} {A : Around} {E : Value→Shared→Prop} {s : Shared} {K : Frag}
end
end Att
namespace L2
open PySem PySem.Spec PyProof.Rows
theorem vals_ints : ∀ {vs : List Value} {ns : List Int},IntsAre vs ns→Vals (ns.map V.int) vs
 | _,_,.nil=>.nil
 | _,_,.cons n t h=>.cons ⟨t,rfl⟩ (vals_ints h)
noncomputable def Only (H : Hp) : Prop:=∀ b,H b = none∨∃ o xs,H b = some (.frz o (.lst xs))
theorem law_call {P : Program} {w : World} {K : PySem.W.Frag} {mg mb : Str→Option Value} {CX : CXT} {k : Nat} {fa a : Addr} {fd : FuncData} {x : Str} {sp : Sp} {s₁ : Shared} {vs : List Value} {ns : List Int}
  (KX : K.In s₁.heap) (hns : s₁.heap.Ns mainGlobals mg) (hb : s₁.heap.Ns builtinsNs mb) (hbb : ∀ x : Str,x ≠ "__name__"→mb x = bootBuiltins x) (hlim : s₁.heap.NoLimit) (hg : s₁.gens = #[])
  (ha : s₁.heap.get? a = some { cls:=.type "list",data:=.seq vs.toArray }) (hi : IntsAre vs ns) (hl : ns.length≤sizeLine) (hr : Room k callerA)
  (F : ∀ base : Heap,K.In base→base.Ns mainGlobals mg→FnOk P w K mg base CX k fa fd [x] sp) (hbind : ∀ (s : Shared) (u : Value),BindsTo s fd ⟨[u],[]⟩ [(x,u)])
  (hsp : ∀ H : Hp,Only H→SqL K H a (ns.map V.int)→sp [.ref a] H (fun v _=>v = .bl true) fun _ _ _=>False)
  (hCX : ∀ H e s',CX [] H s₁ (fun _ _ _=>False) e s'→False) :
  codeAny (model P w) callerA (.call (.ref fa) ⟨[.ref a],[]⟩) (fun r s'=>r = .ok (.ret (.bool true))∧OldK s₁.heap s'.heap∧s'.os = s₁.os∧AllBare s'.gens) s₁:=by
 have rv:=vals_ints hi
 have lenV:=hi.length
 have core : ∀ H : Hp,Only H→SqL K H a (ns.map V.int)→HOk P w H s₁.heap→(∀ b,H b ≠ none→b = a)→(H a ≠ none→K.lookup a = none) →
   codeAny (model P w) callerA (.call (.ref fa) ⟨[.ref a],[]⟩) (fun r s'=>r = .ok (.ret (.bool true))∧OldK s₁.heap s'.heap∧s'.os = s₁.os∧AllBare s'.gens) s₁:=by
  intro H hO hS hok hA hK
  have base_of : ∀ {b : Addr} {o : Obj},s₁.heap.get? b = some o→H b = none→(hidT s₁.heap H).get? b = some o:=fun e n=>hidT_get e n
  have noA : ∀ {b : Addr} {o : Obj} {es : Array DictEntry} {ep : Nat},s₁.heap.get? b = some o→o.data = .dict es ep→H b = none:=fun {b o es ep} e d=>by
   cases q : H b with
   | none=>rfl
   | some u =>
    have e' : b = a:=hA b (by rw [q]; simp)
    subst e'
    rw [ha] at e; cases e
    have d' : Data.seq vs.toArray _ = Data.dict es ep:=d
    cases d'
  have nsK : ∀ {b : Addr} {m : Str→Option Value},s₁.heap.Ns b m→(hidT s₁.heap H).Ns b m:=fun {b m} ⟨o,es,ep,e,d,r⟩=>⟨o,es,ep,base_of e (noA e d),d,r⟩
  have hKb : K.In (hidT s₁.heap H):=fun b o e=>base_of (KX b o e) (by
   cases q : H b with
   | none=>rfl
   | some u =>
    have e' : b = a:=hA b (by rw [q]; simp)
    subst e'
    rw [hK (by rw [q]; simp)] at e; cases e)
  have hM : Mod K mg (hidT s₁.heap H):=⟨hKb,nsK hns,⟨mb,nsK hb,hbb⟩,let ⟨mc,h1,h2⟩:=hlim; ⟨mc,nsK h1,h2⟩⟩
  have e0 : Env0 P w K mg (hidT s₁.heap H) callerA [] s₁ H:=⟨rfl,hM,fun b o e=>of_hidT e,Nat.le_of_eq (hidT_size _ _),trivial,fun b hb=>absurd (show b∈([] : List Addr) from hb) (by simp),hok,.of_eq hg⟩
  refine codeAny_mono ((F _ hKb (nsK hns)).run callerA [] s₁ H ⟨[.ref a],[]⟩ [.ref a] [.ref a] _ _ hr e0 (hbind s₁ (.ref a)) (.cons rfl .nil) (hsp H hO hS)) fun r s' h=>?_
  cases r with
  | error e=>exact (hCX H e s' h).elim
  | ok fl =>
   cases fl with
   | next=>exact False.elim h
   | brk=>exact False.elim h
   | cont=>exact False.elim h
   | ret u =>
    obtain ⟨v,H',os,bare,un,hok',r',q⟩:=h
    have q' : v = .bl true:=q
    subst q'
    obtain rfl : u = Value.bool true:=r'
    refine ⟨rfl,OldK.of_keep fun b o e=>?_,os,bare⟩
    cases q : H b with
    | none=>exact un.keep b o e q (by intro z; exact absurd (show b∈([] : List Addr) from z) (by simp)) (by simp)
    | some u =>
     rcases hO b with z | ⟨ob,xs,z⟩
     ·rw [q] at z; cases z
     ·have z2:=un.frzs b ob _ z
      obtain ⟨e1,_⟩:=hok b _ z
      obtain ⟨e2,_⟩:=hok' b _ z2
      rw [e] at e1; cases e1
      exact e2
 cases hk : K.lookup a with
 | some o =>
  have e:=KX a o hk
  rw [ha] at e
  cases e
  refine core (fun _=>none) (fun _=>.inl rfl) (.inr ⟨_,vs.toArray,_,hk,rfl,rfl,rfl,by rw [List.size_toArray,lenV]; exact hl,by simpa using rv⟩) (fun b u z=>by have z' : (none : Option HO) = some u:=z; cases z') (fun b z=>absurd rfl z) fun z=>absurd rfl z
 | none =>
  refine core (fun b=>if b = a then some (.frz { cls:=.type "list",data:=.seq vs.toArray } (.lst (ns.map V.int))) else none) (fun b=>?_) (.inl (.inr ⟨{ cls:=.type "list",data:=.seq vs.toArray },if_pos rfl⟩)) (fun b u z=>?_) (fun b z=>?_) fun _=>hk
  ·by_cases hb : b = a
   ·exact .inr ⟨_,_,if_pos hb⟩
   ·exact .inl (if_neg hb)
  ·by_cases hb : b = a
   ·have z':=(if_pos hb).symm.trans z
    cases z'
    subst hb
    exact ⟨ha,by rw [List.length_map]; exact hl,vs,_,rv,ha⟩
   ·have z':=(if_neg hb).symm.trans z
    cases z'
  ·by_cases hb : b = a
   ·exact hb
   ·exact absurd (if_neg hb) z
end L2
namespace L2
open PySem PySem.Spec PyProof.Rows
theorem walk_of {l : PySem.W.OpenLaw} {n k : Nat} {q : Program} {loose : List Str} {XP : (Str→Option Value)→Heap→Prop} {YP : World→Heap→Prop} {d : DefRec} {K : Params→PySem.W.Frag} {CX : World→CXT} {sp : World→Sp} {x : Str}
  (hn : l.most = some n) (hn2 : n≤sizeLine) (hdf : d.params.defaults = []) (hr : Room k callerA)
  (hY : ∀ (w : World) (h : Heap),YP w h→(K w.params).In h)
  (F : ∀ (w : World) (mg : Str→Option Value) (fa : Addr) (h : Heap),(K w.params).In h→h.Ns mainGlobals mg→mg d.name = some (.ref fa) →
   ∃ fd : FuncData,(∀ (s : Shared) (u : Value),BindsTo s fd ⟨[u],[]⟩ [(x,u)]) ∧
    ∀ base : Heap,(K w.params).In base→base.Ns mainGlobals mg→FnOk l.prog w (K w.params) mg base (CX w) k fa fd [x] (sp w))
  (hsp : ∀ (w : World) (H : Hp) (a : Addr) (ns : List Int),ns.length≤n→Only H→SqL (K w.params) H a (ns.map V.int)→sp w [.ref a] H (fun v _=>v = .bl true) fun _ _ _=>False)
  (hCX : ∀ (w : World) (H : Hp) (s : Shared) (e : Value) (s' : Shared),CX w [] H s (fun _ _ _=>False) e s'→False) :
  PySem.W.WalkO q loose XP YP l.row.toRowW d [] (fun f vs=>PySem.call f vs):=by
 refine Att.attach_call hn hdf fun w s₀ s₁ mg mb fa o pm cd doc a vs ns G Y ho hd hcd hmg hobj hints hlen hg=>?_
 have KX:=hY w _ Y
 obtain ⟨fd,hb,hF⟩:=F w mg fa _ KX G.T.g hmg
 exact law_call KX G.T.g G.T.b G.T.builtins G.T.nolimit hg hobj hints (Nat.le_trans hlen hn2) hr hF hb (fun H hO hS=>hsp w H a ns hlen hO hS) fun H e s'=>hCX w H s₁ e s'
end L2
namespace L2
open PySem PySem.Spec PyProof.Rows
noncomputable def inClass (s : Stmt) (j : Nat) : Stmt:=match s with
 | .ClassDef _ _ _ body _ _ _ _ _ _ _=>body.getD j (.Pass ⟨0,0,0,0⟩)
 | _=>.Pass ⟨0,0,0,0⟩
noncomputable def defArgs (s : Stmt) : Arguments:=match s with
 | .FunctionDef _ a _ _ _ _ _ _ _ _=>a
 | _=>{ posonlyargs:=[],args:=[],vararg:=none,kwonlyargs:=[],kw_defaults:=[],kwarg:=none,defaults:=[] }
noncomputable def defBody (s : Stmt) : List Stmt:=match s with
 | .FunctionDef _ _ b _ _ _ _ _ _ _=>b
 | _=>[]
noncomputable def defScope (s : Stmt) : Scope:=match s with
 | .FunctionDef _ _ _ _ _ _ sc _ _ _=>sc
 | _=>{ kind:=.function,names:=[],isGenerator:=false,isCoroutine:=false }
noncomputable abbrev CX0 : CXT:=fun _ _ _ _ _ _=>False
noncomputable abbrev E0 : XK:=fun _ _ _=>False
theorem pass0 {X : Cx} : Passes CX0 X E0:=fun _ _ _ _ _ _ _ h=>h.elim
structure Fun (K : PySem.W.Frag) (x qual : Str) (st : Stmt) (f : Addr) (fd : FuncData) : Prop where
 ex : ∃ (oc : Value) (od : Option Addr) (kV doc pm : Value) (an : Option Addr) (cdv ct : Value) (osl : Array (Option Value)),
  fd = PySem.W.fnOf x qual (defArgs st) (defBody st) (defScope st) .none kV doc pm an cdv ct∧K.lookup f = some ⟨oc,od,.func fd,osl⟩∧PySem.W.codeIn K cdv qual = true
 kp : PySem.W.keepIn K (.ref f) = true
section
variable {P : Program} {w : World} {K : PySem.W.Frag} {mg : Str→Option Value} {base : Heap}
theorem Fun.ok {x qual : Str} {st : Stmt} {f : Addr} {fd : FuncData} {N ps : List Str} {k : Nat} {sp : Sp} (F : Fun K x qual st f fd) (S : FnScope N ps (defScope st)) (len : ∀ vs H Q E,sp vs H Q E→vs.length = ps.length)
  (hbody : ∀ (cdv : Value) (A : Around) (outer : List Env) (s : Shared) (H : Hp) (vs : List V) (Q : VK) (E : XK),Room k (A.deeper (envOfC qual (defScope st) s.heap.objs.size f cdv))→sp vs H Q E →
   ∃ t,PSs (cxOf CX0 P w K mg base N qual (defScope st) f cdv A outer s H E).nox (defBody st) t∧t { nx:=fun _ H'=>Q .non H',rt:=Q } (start N vs) H) : FnOk P w K mg base CX0 (k + 1) f fd ps sp:=by
 obtain ⟨oc,od,kV,doc,pm,an,cdv,ct,osl,rfl,lk,hcd⟩:=F.ex
 refine fn_of lk hcd S len fun A outer s H vs Q E hr hsp=>?_
 obtain ⟨t,h,q⟩:=hbody cdv A outer s H vs Q E hr hsp
 exact ⟨t,h.nox,q⟩
theorem Fun.binds {x qual : Str} {st : Stmt} {f : Addr} {fd : FuncData} {ps : List Str} (F : Fun K x qual st f fd)
  (h : ∀ (kV doc pm : Value) (an : Option Addr) (cdv ct : Value) (us : List Value),us.length = ps.length→bindArgs (PySem.W.fnOf x qual (defArgs st) (defBody st) (defScope st) .none kV doc pm an cdv ct) ⟨us,[]⟩ = pure (ps.zip us)) : Binds K fd ps []:=by
 obtain ⟨oc,od,kV,doc,pm,an,cdv,ct,osl,rfl,lk,hcd⟩:=F.ex
 exact .all (h kV doc pm an cdv ct)
theorem fun_mk {x qual : Str} {st : Stmt} {f : Addr} {oc : Value} {od an : Option Addr} {osl : Array (Option Value)} {kV doc pm cdv ct : Value} (l : K.lookup f = some ⟨oc,od,.func (PySem.W.fnOf x qual (defArgs st) (defBody st) (defScope st) .none kV doc pm an cdv ct),osl⟩)
  (c : PySem.W.codeIn K cdv qual = true) (k : PySem.W.keepIn K (.ref f) = true) : Fun K x qual st f (PySem.W.fnOf x qual (defArgs st) (defBody st) (defScope st) .none kV doc pm an cdv ct):=⟨⟨oc,od,kV,doc,pm,an,cdv,ct,osl,rfl,l,c⟩,k⟩
end
theorem hu_of {A : Around} {k : Nat} (hr : Room k A) : A.units + 1 < cLine:=Nat.lt_of_le_of_lt (Nat.add_le_add_left (by decide : 1≤64) _) hr.units
theorem small1000 {n : Nat} (h : n≤1000) : n < sizeLine:=Nat.lt_of_le_of_lt h (by decide)
section
variable {X : Cx}
end
noncomputable def Same (H H' : Hp) : Prop:=∀ b o,H b = some o→H' b = some o
theorem Same.refl (H : Hp) : Same H H:=fun _ _ h=>h
theorem Same.trans {H H1 H2 : Hp} (a : Same H H1) (b : Same H1 H2) : Same H H2:=fun c o h=>b c o (a c o h)
theorem Same.free {H H' : Hp} (e : Same H H') {l : Addr} (h : H' l = Option.none) : H l = Option.none:=by
 cases q : H l with
 | none=>rfl
 | some o =>
  rw [e l o q] at h
  cases h
theorem Same.seq {K : PySem.W.Frag} {H H' : Hp} {a : Addr} {xs : List V} (e : Same H H') (h : SqL K H a xs) : SqL K H' a xs:=by
 rcases h with (h | ⟨o,h⟩) | h
 ·exact .inl (.inl (e _ _ h))
 ·exact .inl (.inr ⟨o,e _ _ h⟩)
 ·exact .inr h
end L2
namespace L2
open PySem PySem.Spec PyProof.Rows
theorem PE.imp {X : Cx} {e : Expr} {t t' : TE} (h : PE X e t) (ht : ∀ σ H Q,t' σ H Q→t σ H Q) : PE X e t':=fun pins s σ H Q I q=>h pins s σ H Q I (ht σ H Q q)
section
variable {X : Cx} {pins : List (Addr × Obj)} {σ : List (Option V)} {H : Hp} {s : Shared} {h' : Heap}
theorem Inv.turns {fp : List Addr} {t' : Nat} (I : Inv X pins σ H s) (k : ∀ b o,b ∉ fp→s.heap.get? b = some o→h'.get? b = some o) (hf : ∀ b∈fp,FpOk X pins H b) : Inv X pins σ H { s with heap:=h',toks:=t' }:=by
 have nit : ∀ b u,H b = some u→b ∉ fp:=fun b u e z=>by rw [(hf b z).1] at e; cases e
 refine I.step (g':=s.gens) (d':=s.drawn) (ch:=fp) (fun b hb=>⟨(hf b hb).2.2.2.1,(hf b hb).2.1,(hf b hb).2.2.2.2.1,(hf b hb).2.2.2.2.2⟩) (fun b o _ _ hc e _=>k b o hc e) (fun b o _ _ hc e _=>⟨o.slots,k b o hc e⟩) (fun _ _ _ _ n=>n)
  (fun b o hc e=>⟨o,k b o hc e⟩) (fun _ _ e=>e) (fun _ _ _ e=>e) (fun b ps e=>⟨#[],by rw [e]; simp⟩) (fun m hm=>?_) (fun b u e=>?_) I.bare
 ·obtain ⟨o,es,ep,ho,r⟩:=hm
  exact ⟨o,es,ep,k _ o (fun z=>(hf _ z).2.1 rfl) ho,r⟩
 ·refine (I.hok b u e).stay (fun c v hc q=>k c v ?_ q) (fun _ q=>q) fun _ _ q=>q
  rcases hc with z | z
  ·rw [z]; exact nit b u e
  ·exact nit c _ z
theorem Inv.turnLay {fp : List Addr} {T : Addr} {o : HO} {t' : Nat} (I : Inv X pins σ H s) (k : ∀ b o,b ∉ fp→s.heap.get? b = some o→h'.get? b = some o) (hf : ∀ b∈fp,FpOk X pins H b) (hT : s.heap.objs.size≤T)
  (new : ObjOk X.prog X.w (upd H T o) h' T o) : Inv X pins σ (upd H T o) { s with heap:=h',toks:=t' }:=by
 have hn : H T = none:=I.hok.fresh hT
 have nit : ∀ b u,H b = some u→b ∉ fp:=fun b u e z=>by rw [(hf b z).1] at e; cases e
 have neT : ∀ {b : Addr} {u : Obj},s.heap.get? b = some u→b ≠ T:=fun e=>Nat.ne_of_lt (Nat.lt_of_lt_of_le (Heap.lt_size e) hT)
 refine I.step (g':=s.gens) (d':=s.drawn) (ch:=fp) (fun b hb=>⟨(hf b hb).2.2.2.1,(hf b hb).2.1,(hf b hb).2.2.2.2.1,(hf b hb).2.2.2.2.2⟩) (fun b o _ _ hc e _=>k b o hc e) (fun b o _ _ hc e _=>⟨o.slots,k b o hc e⟩)
  (fun b o _ e n=>by rw [upd_ne (neT e)]; exact n)
  (fun b o hc e=>⟨o,k b o hc e⟩) (fun b xs e=>by rw [upd_ne (ne_of_none e hn)]; exact e) (fun b _ _ e=>by rw [upd_ne (ne_of_none e hn)]; exact e) (fun b ps e=>⟨#[],by rw [upd_ne (ne_of_none e hn),e]; simp⟩) (fun m hm=>?_) (fun b u e=>?_) I.bare
 ·obtain ⟨o,es,ep,ho,r⟩:=hm
  exact ⟨o,es,ep,k _ o (fun z=>(hf _ z).2.1 rfl) ho,r⟩
 ·by_cases hb : b = T
  ·subst hb; rw [upd_same] at e; cases e; exact new
  ·rw [upd_ne hb] at e
   refine (I.hok b u e).stay (fun c v hc q=>k c v ?_ q) (fun c q=>by rw [upd_ne (ne_of_none q hn)]; exact q) fun c xs q=>by rw [upd_ne (ne_of_none q hn)]; exact q
   rcases hc with z | z
   ·rw [z]; exact nit b u e
   ·exact nit c _ z
end
section
variable {X : Cx}
end
structure ZipOff (z TI TO i1 i2 : Addr) : Prop where
 TIz : TI ≠ z
 TOz : TO ≠ z
 i1z : i1 ≠ z
 i2z : i2 ≠ z
 TITO : TI ≠ TO
 TIi1 : TI ≠ i1
 TIi2 : TI ≠ i2
 TOi1 : TO ≠ i1
 TOi2 : TO ≠ i2
 i12 : i1 ≠ i2
section
variable {X : Cx}
end
end L2
namespace L2
open PySem PySem.Spec PyProof.Rows
theorem closure_of {env : Env} : ∀ (names : List (Str × NameKind)) (acc : List (Str × Addr)),(∀ y∈names,y.2 = .free→∃ c,env.cells.lookup y.1 = some c)→(∀ x c,acc.lookup x = some c→env.cells.lookup x = some c) →
  ∃ cl : List (Str × Addr),(forIn names acc fun (x : Str × NameKind) (r : List (Str × Addr))=>(match x with | (name,kind)=>if (kind == NameKind.free) = true then do let c ← cellOf env name; pure (ForInStep.yield ((name,c) :: r)) else pure (ForInStep.yield r) : Sem (ForInStep (List (Str × Addr)))) : Sem (List (Str × Addr))) = pure cl ∧
   (∀ x c,cl.lookup x = some c→env.cells.lookup x = some c)∧(∀ x,(x,NameKind.free)∈names→∃ c,cl.lookup x = some c)∧∀ x c,acc.lookup x = some c→∃ c',cl.lookup x = some c'
 | [],acc,_,ha=>⟨acc,rfl,ha,fun _ h=>(nomatch h),fun x c h=>⟨c,h⟩⟩
 | (n,k) :: r,acc,hf,ha=>by
  by_cases hk : k = .free
  ·subst hk
   obtain ⟨c,hc⟩:=hf (n,.free) List.mem_cons_self rfl
   have ha' : ∀ x c',((n,c) :: acc).lookup x = some c'→env.cells.lookup x = some c':=fun x c' h=>by
    rw [List.lookup_cons] at h
    cases hx : x == n with
    | true =>
     rw [hx] at h
     cases h
     rw [eq_of_beq hx]; exact hc
    | false =>
     rw [hx] at h
     exact ha x c' h
   obtain ⟨cl,e,h1,h2,h3⟩:=closure_of r ((n,c) :: acc) (fun y hy=>hf y (List.mem_cons_of_mem _ hy)) ha'
   refine ⟨cl,?_,h1,fun x hx=>?_,fun x c' hx=>?_⟩
   ·rw [List.forIn_cons]
    have ec : cellOf env n = pure c:=by unfold cellOf; rw [hc]
    simp only [beq_self_eq_true,if_true,ec]
    exact e
   ·rcases List.mem_cons.mp hx with z | z
    ·cases z
     exact h3 n c (by rw [List.lookup_cons,beq_self_eq_true])
    ·exact h2 x z
   ·by_cases hxn : (x == n) = true
    ·exact h3 x c (by rw [List.lookup_cons,hxn])
    ·exact h3 x c' (by rw [List.lookup_cons]; simp only [hxn]; exact hx)
  ·obtain ⟨cl,e,h1,h2,h3⟩:=closure_of r acc (fun y hy=>hf y (List.mem_cons_of_mem _ hy)) ha
   refine ⟨cl,?_,h1,fun x hx=>?_,h3⟩
   ·rw [List.forIn_cons]
    have eb : (k == NameKind.free) = false:=by simpa using hk
    simp only [eb,Bool.false_eq_true,if_false]
    exact e
   ·rcases List.mem_cons.mp hx with z | z
    ·cases z; exact absurd rfl hk
    ·exact h2 x z
theorem closureFor_of {scope : Scope} {env : Env} (hf : ∀ y∈scope.names,y.2 = .free→∃ c,env.cells.lookup y.1 = some c) :
  ∃ cl : List (Str × Addr),closureFor scope env = pure cl∧(∀ x c,cl.lookup x = some c→env.cells.lookup x = some c)∧∀ x,(x,NameKind.free)∈scope.names→∃ c,cl.lookup x = some c:=by
 obtain ⟨cl,e,h1,h2,_⟩:=closure_of (env:=env) scope.names [] hf (fun x c h=>by simp at h)
 refine ⟨cl,?_,h1,h2⟩
 unfold closureFor
 show (forIn scope.names ([] : List (Str × Addr)) _ >>= fun c=>pure c) = pure cl
 refine Eq.trans (congrArg (fun (q : Sem (List (Str × Addr)))=>q >>= fun c=>pure c) e) ?_
 rfl
theorem relabel_from {scope : Scope} {env : Env} {x : Str} {k : NameKind} : ∀ {names : List (Str × NameKind)},(names.map fun (n,k)=>if (k == NameKind.free && env.scope.kind == .function && env.kindOf n == some .cell) then (n,NameKind.cell) else (n,k)).lookup x = some k →
  ∃ k',(x,k')∈names∧(k = k'∨(k' = .free∧k = .cell))
 | [],h=>by simp at h
 | (n,j) :: r,h=>by
  have h' : List.lookup x ((if (j == NameKind.free && env.scope.kind == .function && env.kindOf n == some .cell) = true then (n,NameKind.cell) else (n,j)) :: (r.map fun (n,k)=>if (k == NameKind.free && env.scope.kind == .function && env.kindOf n == some .cell) then (n,NameKind.cell) else (n,k))) = some k:=h
  by_cases hc : (j == NameKind.free && env.scope.kind == .function && env.kindOf n == some .cell) = true
  ·rw [if_pos hc,List.lookup_cons] at h'
   cases hx : x == n with
   | true =>
    rw [hx] at h'
    cases h'
    have ej : j = .free:=by
     simp only [Bool.and_eq_true] at hc
     exact eq_of_beq hc.1.1
    rw [eq_of_beq hx]
    exact ⟨.free,by rw [ej]; exact List.mem_cons_self,.inr ⟨rfl,rfl⟩⟩
   | false =>
    rw [hx] at h'
    obtain ⟨k',hm,q⟩:=relabel_from (scope:=scope) (env:=env) (names:=r) h'
    exact ⟨k',List.mem_cons_of_mem _ hm,q⟩
  ·rw [if_neg hc,List.lookup_cons] at h'
   cases hx : x == n with
   | true =>
    rw [hx] at h'
    cases h'
    rw [eq_of_beq hx]
    exact ⟨_,List.mem_cons_self,.inl rfl⟩
   | false =>
    rw [hx] at h'
    obtain ⟨k',hm,q⟩:=relabel_from (scope:=scope) (env:=env) (names:=r) h'
    exact ⟨k',List.mem_cons_of_mem _ hm,q⟩
theorem relabel_free {env : Env} {x : Str} : ∀ {names : List (Str × NameKind)},names.lookup x = some .free →
  (names.map fun (n,k)=>if (k == NameKind.free && env.scope.kind == .function && env.kindOf n == some .cell) then (n,NameKind.cell) else (n,k)).lookup x = some .cell ∨
  (names.map fun (n,k)=>if (k == NameKind.free && env.scope.kind == .function && env.kindOf n == some .cell) then (n,NameKind.cell) else (n,k)).lookup x = some .free
 | [],h=>by simp at h
 | (n,j) :: r,h=>by
  have ih:=@relabel_free env x r
  show List.lookup x ((if (j == NameKind.free && env.scope.kind == .function && env.kindOf n == some .cell) = true then (n,NameKind.cell) else (n,j)) :: _) = _∨List.lookup x ((if (j == NameKind.free && env.scope.kind == .function && env.kindOf n == some .cell) = true then (n,NameKind.cell) else (n,j)) :: _) = _
  by_cases hc : (j == NameKind.free && env.scope.kind == .function && env.kindOf n == some .cell) = true
  ·rw [if_pos hc,List.lookup_cons]
   cases hx : x == n with
   | true=>exact .inl rfl
   | false =>
    rw [List.lookup_cons,hx] at h
    exact ih h
  ·rw [if_neg hc,List.lookup_cons]
   cases hx : x == n with
   | true =>
    rw [List.lookup_cons,hx] at h
    exact .inr h
   | false =>
    rw [List.lookup_cons,hx] at h
    exact ih h
noncomputable def capB (N : List Str) (sc scope : Scope) : List Str→List (Option Nat)→Bool
 | [],[]=>true
 | _ :: xs,none :: cs=>capB N sc scope xs cs
 | x :: xs,some j :: cs=>(match N[j]? with | some y=>y == x | none=>false) && (match sc.names.lookup x with | some .cell=>true | some .free=>true | _=>false) &&
   (match scope.names.lookup x with | some .free=>true | _=>false) && capB N sc scope xs cs
 | _,_=>false
theorem capB_len {N : List Str} {sc scope : Scope} : ∀ {xs : List Str} {cs : List (Option Nat)},capB N sc scope xs cs = true→cs.length = xs.length
 | [],[],_=>rfl
 | _ :: xs,none :: cs,h=>congrArg (· + 1) (capB_len (xs:=xs) (cs:=cs) h)
 | x :: xs,some j :: cs,h=>by
  simp only [capB,Bool.and_eq_true] at h
  exact congrArg (· + 1) (capB_len (xs:=xs) (cs:=cs) h.2)
 | [],_ :: _,h=>by simp [capB] at h
 | _ :: _,[],h=>by simp [capB] at h
theorem capB_at {N : List Str} {sc scope : Scope} : ∀ {xs : List Str} {cs : List (Option Nat)},capB N sc scope xs cs = true→∀ (i : Nat) (x : Str) (j : Nat),xs[i]? = some x→cs[i]? = some (some j) →
  N[j]? = some x∧(sc.names.lookup x = some .cell∨sc.names.lookup x = some .free)∧scope.names.lookup x = some .free
 | [],[],_,i,x,j,h,_=>by simp at h
 | _ :: xs,none :: cs,h,0,x,j,_,h2=>by simp at h2
 | _ :: xs,none :: cs,h,i + 1,x,j,h1,h2=>capB_at (xs:=xs) (cs:=cs) h i x j (by simpa using h1) (by simpa using h2)
 | y :: xs,some k :: cs,h,0,x,j,h1,h2=>by
  simp only [capB,Bool.and_eq_true] at h
  obtain ⟨⟨⟨a,b⟩,c⟩,_⟩:=h
  have e1 : y = x:=by simpa using h1
  have e2 : k = j:=by simpa using h2
  subst e1 e2
  refine ⟨?_,?_,?_⟩
  ·cases q : N[k]? with
   | none=>rw [q] at a; simp at a
   | some z=>rw [q] at a; rw [eq_of_beq a]
  ·cases q : sc.names.lookup y with
   | none=>rw [q] at b; simp at b
   | some z=>rw [q] at b; cases z <;> first | exact .inl rfl | exact .inr rfl | simp at b
  ·cases q : scope.names.lookup y with
   | none=>rw [q] at c; simp at c
   | some z=>rw [q] at c; cases z <;> first | rfl | simp at c
 | y :: xs,some k :: cs,h,i + 1,x,j,h1,h2=>by
  simp only [capB,Bool.and_eq_true] at h
  exact capB_at (xs:=xs) (cs:=cs) h.2 i x j (by simpa using h1) (by simpa using h2)
 | [],_ :: _,h,_,_,_,_,_=>by simp [capB] at h
 | _ :: _,[],h,_,_,_,_,_=>by simp [capB] at h
noncomputable def lcB (N : List Str) (sc scope : Scope) (N' : List Str) (cap : List (Option Nat)) : Bool :=
 capB N sc scope N' cap && (scope.kind == .function) && (scope.names.all fun y=>y.2 != .cell) &&
 (scope.names.all fun y=>y.2 != .local || scope.names.lookup y.1 == some .local) &&
 (scope.names.all fun y=>y.2 != .free || sc.names.lookup y.1 == some .cell || sc.names.lookup y.1 == some .free)
noncomputable def capSt (cap : List (Option Nat)) (σ : St) : St:=cap.map fun o=>match o with
 | none=>none
 | some j=>match σ[j]? with
  | some v=>v
  | none=>none
noncomputable def lcCx (X : Cx) (scope : Scope) (N' : List Str) (cl : List (Str × Addr)) (C : Addr) (s : Shared) (H : Hp) (ex : List Addr) : Cx :=
 { X with N:=N',s₀:=s,H₀:=H,env:=compEnvC scope cl C X.env,outer:=X.stack,ex:=ex,fn:=fun _=>false,pn:=[],xe:=fun _ _=>False }
section
variable {X : Cx} {pins : List (Addr × Obj)} {σ : St} {H : Hp} {s : Shared}
theorem lc_inv {scope : Scope} {N' : List Str} {cap : List (Option Nat)} {cl : List (Str × Addr)} {ex : List Addr} {h₁ : Heap} {m : Str→Option Value} (hB : lcB X.N X.env.scope scope N' cap = true) (I : Inv X pins σ H s)
  (c1 : ∀ x c,cl.lookup x = some c→X.env.cells.lookup x = some c) (c2 : ∀ x,(x,NameKind.free)∈scope.names→∃ c,cl.lookup x = some c) (hf : ∀ b∈ex,FpOk X pins H b) (hex : ∀ b∈ex,b < s.heap.objs.size)
  (hn : h₁.Ns s.heap.objs.size m) (hk : ∀ b o,s.heap.get? b = some o→h₁.get? b = some o) {t' : Nat} :
  Inv (lcCx X scope N' cl s.heap.objs.size s H ex) [] (capSt cap σ) H { s with heap:=h₁,toks:=t' }:=by
 simp only [lcB,Bool.and_eq_true] at hB
 obtain ⟨⟨⟨⟨b1,b2⟩,b3⟩,b4⟩,b5⟩:=hB
 have kind : scope.kind = .function:=eq_of_beq b2
 have nocell : ∀ y∈scope.names,y.2 ≠ .cell:=fun y hy=>by
  have:=List.all_eq_true.mp b3 y hy
  simpa using this
 have ok : (lcCx X scope N' cl s.heap.objs.size s H ex).Ok:=by
  refine ⟨I.ok.mod,kind,I.ok.glob,I.ok.blt,Nat.le_refl _,fun x y c e1 e2=>I.ok.inj x y c (c1 x c e1) (c1 y c e2),fun x hx=>?_,fun x c e _=>(by cases e),I.ok.hd,I.ok.frames,.inl rfl,fun b hb=>⟨Nat.ne_of_lt (hex b hb),fun x c e=>(hf b hb).2.2.2.2.1 x c (c1 x c e)⟩,
   I.bs,Nat.le_trans I.ok.bsz I.sz,fun b o e hb=>?_,fun b hb hb2=>?_,I.stack,I.stkFree⟩
  ·have hx' : ∃ k,(relabel scope X.env).names.lookup x = some k∧(k = .cell∨k = .free):=by
    rcases hx with z | z
    ·exact ⟨.cell,z,.inl rfl⟩
    ·exact ⟨.free,z,.inr rfl⟩
   obtain ⟨k,e,hkk⟩:=hx'
   obtain ⟨k',hm,q⟩:=relabel_from (scope:=scope) (env:=X.env) (names:=scope.names) e
   have ek : k' = .free:=by
    rcases q with q | q
    ·rw [← q]
     rcases hkk with z | z
     ·exact absurd (q.symm.trans z) (nocell _ hm)
     ·exact z
    ·exact q.1
   rw [ek] at hm
   exact c2 x hm
  ·rcases (hf b hb).2.2.2.1 with z | z
   ·exact I.ok.noex b o e z
   ·exact absurd (Nat.lt_of_lt_of_le (Nat.lt_of_lt_of_le (Heap.lt_size e) I.ok.bsz) z) (Nat.lt_irrefl _)
  ·rcases List.mem_cons.mp (I.stkSub b hb2) with z | z
   ·exact (hf b hb).2.1 z
   ·exact (hf b hb).2.2.1 z
 refine ⟨ok,rfl,I.bare,Un.kept hk,⟨m,hn,fun i x v e1 e2 e3=>?_⟩,fun x c e=>?_,I.hok.fresh (Nat.le_refl _),fun x c e=>I.freeC x c (c1 x c e),fun p hp=>absurd (show p∈([] : List (Addr × Obj)) from hp) (by simp),I.hok.kept hk,?_⟩
 ·have e2' : (capSt cap σ)[i]? = some (some v):=e2
  unfold capSt at e2'
  rw [List.getElem?_map] at e2'
  cases ec : cap[i]? with
  | none=>rw [ec] at e2'; simp at e2'
  | some o =>
   rw [ec] at e2'
   cases o with
   | none=>simp at e2'
   | some j =>
    simp only [Option.map_some,Option.some.injEq] at e2'
    have ej : σ[j]? = some (some v):=by
     cases q : σ[j]? with
     | none=>rw [q] at e2'; simp at e2'
     | some z=>rw [q] at e2'; simp only at e2'; rw [e2']
    obtain ⟨q1,q2,q3⟩:=capB_at b1 i x j e1 ec
    obtain ⟨m0,hn0,hl0⟩:=I.loc
    obtain ⟨u,r,l⟩:=hl0 j x v q1 ej (by rcases q2 with z | z; exact .inr (.inl z); exact .inr (.inr z))
    refine ⟨u,r,?_⟩
    rcases l with ⟨kl,_⟩ | ⟨_,c,hc,z⟩
    ·have kl' : X.env.scope.names.lookup x = some .local:=kl
     rcases q2 with q2 | q2 <;> (rw [q2] at kl'; cases kl')
    ·obtain ⟨o,ho,hd⟩:=z
     obtain ⟨c',hc'⟩:=c2 x (PySem.mem_of_lookup q3)
     have : c' = c:=by
      have:=c1 x c' hc'
      rw [hc] at this
      exact (Option.some.inj this).symm
     subst this
     exact .inr ⟨relabel_free q3,c',hc',o,hk _ _ ho,hd⟩
 ·obtain ⟨v,o,ho,hd⟩:=I.cell x c (c1 x c e)
  exact ⟨v,o,hk _ _ ho,hd⟩
 ·show (capSt cap σ).length = N'.length
  unfold capSt
  rw [List.length_map]
  exact capB_len b1
end
noncomputable def tTrue : TT:=fun _ H Q=>Q true H
noncomputable def PIfs (X : Cx) (ifs : List Expr) (t : TT) : Prop :=
 ∀ (pins : List (Addr × Obj)) (s : Shared) (σ : St) (H : Hp) (Q : Bool→Hp→Prop),Inv X pins σ H s→t σ H Q →
  wpAny (model X.prog X.w) X.A (forIn ifs true fun c r=>if r = true then do let ok ← isTrue c X.env (eval c X.env); pure (ForInStep.yield ok) else pure (ForInStep.yield r)) (TP X pins σ Q) X.xe s
theorem pif_nil {X : Cx} : PIfs X [] tTrue:=fun _ _ _ H _ I h=>wpAny_tests_nil ⟨H,I,h⟩
theorem pif_one {X : Cx} {c : Expr} {t : TT} (h : PT X c t) : PIfs X [c] t:=fun pins s σ H Q I q=>wpAny_tests_one (h pins s σ H Q I q)
section
variable {prog : Program} {w : World} {A : Around} {R : Result→Shared→Prop} {s : Shared}
theorem compLoop_go {elt target iter : Expr} {ifs : List Expr} {scope : Scope} {pos : Pos} {it acc : Value} {env : Env} (I : Nat→Shared→Prop)
  (turn : ∀ n s,I n s→wpAny (model prog w) A (pyNext it) (fun r s₁=>match r with
   | none=>R (.ok .next) s₁
   | some v=>wpAny (model prog w) A (letOwnedTupleGo target it v) (fun _ s₁'=>wpAny (model prog w) A (assign target env v) (fun _ s₂ =>
     wpAny (model prog w) A (forIn ifs true fun c r=>if r = true then do let ok ← isTrue c env (eval c env); pure (ForInStep.yield ok) else pure (ForInStep.yield r)) (fun ok s₃ =>
      if ok = true then wpAny (model prog w) A (eval elt env) (fun x s₄ =>
       wpAny (model prog w) A (call (.builtin "list.append") [acc,x]) (fun _ s₅=>∃ m,m < n∧I m s₅) (fun _ _=>False) s₄) (fun _ _=>False) s₃
      else ∃ m,m < n∧I m s₃) (fun _ _=>False) s₂) (fun _ _=>False) s₁') (fun _ _=>False) s₁) (fun _ _=>False) s)
  (n : Nat) (h : I n s) :
  codeAny (model prog w) A (.compLoop (.ListComp elt [⟨target,iter,ifs,0⟩] scope pos) 0 it acc env) R s:=by
 refine codeAny_loop rfl I (fun n s hI=>?_) n h
 show wpAny _ A ((compTurn (.ListComp elt [⟨target,iter,ifs,0⟩] scope pos) 0 it acc env).onRaise (fun x=>do noteFrame x env; theTreesLotGoes x)) _ _ s
 refine wpAny_noted ?_
 rw [compTurn_list]
 refine wpAny_bind (wpAny_standAt (wpAny_bind (wpAny_mono (turn n s hI) (fun r s₁ h₁=>?_) fun _ _ h'=>h'.elim)))
 cases r with
 | none=>exact wpAny_pure h₁
 | some v =>
  refine wpAny_bind (wpAny_mono h₁ (fun _ s₁' h₁'=>wpAny_bind (wpAny_mono h₁' (fun _ s₂ h₂=>wpAny_bind (wpAny_mono h₂ (fun ok s₃ h₃=>?_) fun _ _ h'=>h'.elim)) fun _ _ h'=>h'.elim)) fun _ _ h'=>h'.elim)
  cases ok with
  | false=>exact wpAny_pure ⟨rfl,h₃⟩
  | true =>
   exact wpAny_bind (wpAny_bind (wpAny_mono h₃ (fun x s₄ h₄=>wpAny_bind (wpAny_mono h₄ (fun _ s₅ h₅=>wpAny_pure (wpAny_pure ⟨rfl,h₅⟩)) fun _ _ h'=>h'.elim)) fun _ _ h'=>h'.elim))
end
noncomputable def CapK (a b : St) : Prop:=∀ (j : Nat) v,a[j]? = some (some v)→b[j]? = some (some v)
theorem CapK.refl {a : St} : CapK a a:=fun _ _ h=>h
theorem CapK.set {a b : St} {i : Nat} {v : Option V} (h : CapK a b) (hi : a[i]? = some none) : CapK a (b.set i v):=fun j u e=>by
 by_cases hj : j = i
 ·subst hj; rw [hi] at e; cases e
 ·rw [List.getElem?_set_ne (Ne.symm hj)]; exact h j u e
noncomputable def lcRd (J : It) (cap : List (Option Nat)) (g : TG) (tc : TT) (te : TE) (σ : St) (H1 : Hp) (Q : VK) : Prop :=
 ∀ D,H1 D = none→∃ W : Nat→Nat→Hp→Prop,(∃ m,W 0 m (upd H1 D (.lst [])))∧∀ i m H,W i m H →
  (J.stop i H∧Q (.ref D) H)∨(J.go i H∧∀ x H',J.yld i H x H'→g x (capSt cap σ) H' fun σ2 H2=>CapK (capSt cap σ) σ2∧tc σ2 H2 fun b H3 =>
   if b = true then te σ2 H3 fun y H4=>∃ xs,H4 D = some (.lst xs)∧xs.length < sizeLine∧∃ m',m' < m∧W (i + 1) m' (upd H4 D (.lst (xs ++ [y])))
   else ∃ m',m' < m∧W (i + 1) m' H3)
noncomputable def tLC (wi : TI) (cap : List (Option Nat)) (g : TG) (tc : TT) (te : TE) : TE:=fun σ H Q=>wi σ H fun J H1=>lcRd J cap g tc te σ H1 Q
section
variable {X : Cx} {pins : List (Addr × Obj)} {σ : St} {H : Hp} {s : Shared} {tg elt iter : Expr} {ifs : List Expr} {scope : Scope} {pos : Pos} {N' : List Str} {cap : List (Option Nat)} {g : TG} {tc : TT} {te : TE}
theorem lc_block {E : Value→Shared→Prop} {J : It} {fp : List Addr} {it : Addr} {tn : Nat→Heap→Prop} {Q : VK} {cl : List (Str × Addr)} {RR : Value→Addr→Result→Shared→Prop} (hc : X.calm = true) (hB : lcB X.N X.env.scope scope N' cap = true)
  (hg : ∀ cl C s₀ H₀ ex,PG (lcCx X scope N' cl C s₀ H₀ ex) tg g) (hi : ∀ cl C s₀ H₀ ex,PIfs (lcCx X scope N' cl C s₀ H₀ ex) ifs tc) (he : ∀ cl C s₀ H₀ ex,PE (lcCx X scope N' cl C s₀ H₀ ex) elt te)
  (c1 : ∀ x c,cl.lookup x = some c→X.env.cells.lookup x = some c) (c2 : ∀ x,(x,NameKind.free)∈scope.names→∃ c,cl.lookup x = some c)
  (I : Inv X pins σ H s) (T : Turn X.prog X.w X.K tg J fp it tn) (st : tn 0 s.heap) (hf : ∀ b∈fp,FpOk X pins H b) (rd : lcRd J cap g tc te σ H Q)
  (hRR : ∀ D C s' m H',Inv X pins σ H' s'→s'.heap.Ns C m→FpOk X pins H' C→Q (.ref D) H'→RR (.ref D) C (.ok .next) s') :
  wpAny (model X.prog X.w) X.A (newList []) (fun acc s₃=>wpAny (model X.prog X.w) X.A (newFunctionEnv scope X.env.globals cl [] X.env.qual none .none (some X.env)) (fun cenv s₄ =>
   codeAny (model X.prog X.w) X.A (.compStart (.ListComp elt [⟨tg,iter,ifs,0⟩] scope pos) 0 (.ref it) acc { cenv with scope:=relabel scope X.env }) (RR acc cenv.locals) s₄) E s₃) E s:=by
 have hB':=hB
 simp only [lcB,Bool.and_eq_true] at hB'
 obtain ⟨⟨⟨⟨b1,b2⟩,b3⟩,b4⟩,b5⟩:=hB'
 have kind : scope.kind = .function:=eq_of_beq b2
 have nocell : ∀ y∈scope.names,y.2 ≠ .cell:=fun y hy=>by
  have:=List.all_eq_true.mp b3 y hy
  simpa using this
 have hfp : ∀ b∈fp,b < s.heap.objs.size:=fun b hb=>let ⟨o,e,_⟩:=T.obj 0 _ st b hb; Heap.lt_size e
 refine wpAny_newObj_type (wpAny_newFunctionEnv nocell (by intro y hy; simp at hy) (fun h₁ hns₁ hsb₁=>?_) kind)
 dsimp only at hns₁ hsb₁ ⊢
 have I3 : Inv X pins σ (upd H s.heap.objs.size (.lst [])) { s with heap:=s.heap.push { cls:=.type "list",data:=.seq ([] : List Value).toArray },toks:=s.toks }:=I.lnew (ys:=[]) (its:=[]) .nil (Nat.zero_le _)
 generalize hs3 : ({ s with heap:=s.heap.push { cls:=.type "list",data:=.seq ([] : List Value).toArray },toks:=s.toks } : Shared) = s3 at I3
 have eh : s3.heap = s.heap.push { cls:=.type "list",data:=.seq ([] : List Value).toArray }:=by rw [← hs3]
 have sz3 : s3.heap.objs.size = s.heap.objs.size + 1:=by rw [eh,Heap.size_push]
 obtain ⟨W,⟨m0,w0⟩,turn⟩:=rd s.heap.objs.size (I.hok.fresh (Nat.le_refl _))
 have hf3 : ∀ b∈fp,FpOk X pins (upd H s.heap.objs.size (.lst [])) b:=fun b hb=>⟨by rw [upd_ne (Nat.ne_of_lt (hfp b hb))]; exact (hf b hb).1,(hf b hb).2⟩
 have hex3 : ∀ b∈fp,b < s3.heap.objs.size:=fun b hb=>by rw [sz3]; exact Nat.lt_succ_of_lt (hfp b hb)
 have hns₁' : h₁.Ns s3.heap.objs.size (fun x=>([] : List (Str × Value)).reverse.lookup x):=by rw [eh]; exact hns₁
 have old : ∀ b o,s3.heap.get? b = some o→h₁.get? b = some o:=fun b o e=>by
  refine hsb₁.extBut b o ?_ (Heap.get?_push_of_some _ (by rw [← eh]; exact e))
  rw [← eh]
  exact Nat.ne_of_lt (Heap.lt_size e)
 have I4:=lc_inv (t':=s.toks) hB I3 c1 c2 hf3 hex3 hns₁' old
 have old0 : ∀ b o,s.heap.get? b = some o→h₁.get? b = some o:=fun b o e=>old b o (by rw [eh]; exact Heap.get?_push_of_some _ e)
 have st4 : tn 0 h₁:=T.keep _ _ _ st fun b _ o e=>old0 b o e
 have eC : (s.heap.push { cls:=.type "list",data:=.seq ([] : List Value).toArray }).objs.size = s3.heap.objs.size:=by rw [eh]
 have stat : ∀ {H' : Hp},(∀ b∈fp,H' b = none)→∀ b∈fp,FpOk (lcCx X scope N' cl s3.heap.objs.size s3 (upd H s.heap.objs.size (.lst [])) fp) [] H' b:=fun hn b hb =>
  ⟨hn b hb,Nat.ne_of_lt (hex3 b hb),fun z=>by
   rcases List.mem_cons.mp (I3.stkSub b z) with q | q
   ·exact (hf b hb).2.1 q
   ·exact (hf b hb).2.2.1 q,.inl hb,fun x c e=>(hf b hb).2.2.2.2.1 x c (c1 x c e),fun p hp=>absurd (show p∈([] : List (Addr × Obj)) from hp) (by simp)⟩
 have loop : ∀ s₃ : Shared,s₃ = { s with heap:=h₁,toks:=s.toks + ([] : List (Str × Value)).length } →
   codeAny (model X.prog X.w) X.A (.compLoop (.ListComp elt [⟨tg,iter,ifs,0⟩] scope pos) 0 (.ref it) (.ref s.heap.objs.size) (compEnvC scope cl s3.heap.objs.size X.env)) (RR (.ref s.heap.objs.size) s3.heap.objs.size) s₃:=by
  rintro s₃ rfl
  refine compLoop_go (fun n s'=>∃ i σ' H',Inv (lcCx X scope N' cl s3.heap.objs.size s3 (upd H s.heap.objs.size (.lst [])) fp) [] σ' H' s'∧(∀ (j : Nat) v,(capSt cap σ)[j]? = some (some v)→σ'[j]? = some (some v))∧tn i s'.heap∧(∀ b∈fp,H' b = none)∧W i n H') ?_ m0 ?_
  ·rintro n s' ⟨i,σ',H',I',wk,st',fr',w'⟩
   have I'':=I'.weak (σ':=capSt cap σ) (by rw [I'.len]; show (capSt cap σ).length = N'.length; unfold capSt; rw [List.length_map]; exact capB_len b1) wk
   rcases turn i n H' w' with ⟨stop,q⟩ | ⟨go,step⟩
   ·refine thn (T.done (lcCx X scope N' cl s3.heap.objs.size s3 (upd H s.heap.objs.size (.lst [])) fp) rfl rfl rfl hc i [] s' (capSt cap σ) H' _ I'' (stat fr') st' stop) fun r s4 ⟨hr,I4'⟩=>?_
    subst hr
    have u : Un (frs X.stack) fp H H' s.heap s4.heap:=(Un.laid (o:=.lst []) (fun b o e=>by show s3.heap.get? b = some o; rw [eh]; exact Heap.get?_push_of_some _ e) (Nat.le_refl _) (I.hok.fresh (Nat.le_refl _))).trans I4'.base
    have IX : Inv X pins σ H' s4:=I.call' (I4'.os.trans (by show s3.os = s.os; rw [← hs3])) u I4'.hok I4'.bare fun b hb=>⟨(hf b hb).2.2.2.1,(hf b hb).2.1,(hf b hb).2.2.2.2.1,(hf b hb).2.2.2.2.2⟩
    obtain ⟨m',hm',_⟩:=I4'.loc
    exact hRR _ _ s4 m' H' IX hm' (I.fpOk (by rw [sz3]; exact Nat.le_succ _) I4'.free) q
   ·refine thn (T.item (lcCx X scope N' cl s3.heap.objs.size s3 (upd H s.heap.objs.size (.lst [])) fp) rfl rfl rfl hc i [] s' (capSt cap σ) H' _ I'' (stat fr') st' go) fun r s4 ⟨v,hr,h4⟩=>?_
    subst hr
    refine thn h4 fun _ s5 ⟨x,H5,I5,r5,y5,st5,fr5⟩=>?_
    have I5':=I5.pinned (stat fr5) (T.obj _ _ st5)
    refine thn (hg _ _ _ _ _ _ s5 (capSt cap σ) H5 x v _ I5' r5 (step x H5 y5)) fun _ s6 ⟨σ6,H6,I6,kc6,q6⟩=>?_
    refine thn (hi _ _ _ _ _ _ s6 σ6 H6 _ I6 q6) fun ok s7 ⟨H7,I7,q7⟩=>?_
    have keepT : ∀ {s8 : Shared} {σ8 : St} {H8 : Hp},Inv (lcCx X scope N' cl s3.heap.objs.size s3 (upd H s.heap.objs.size (.lst [])) fp) ([] ++ pinsAt fp s5.heap) σ8 H8 s8→tn (i + 1) s8.heap∧∀ b∈fp,H8 b = none:=fun {s8 σ8 H8} I8 =>
     ⟨T.keep _ _ _ st5 fun b hb o e=>(I8.pin (b,o) (List.mem_append_right _ (List.mem_append_right _ (mem_pinsAt hb e)))).1,fun b hb=>by
      obtain ⟨o,e,d⟩:=T.obj _ _ st5 b hb
      exact (I8.pin (b,o) (List.mem_append_right _ (List.mem_append_right _ (mem_pinsAt hb e)))).2.1⟩
    have again : ∀ {s8 : Shared} {H8 : Hp} {m' : Nat},Inv (lcCx X scope N' cl s3.heap.objs.size s3 (upd H s.heap.objs.size (.lst [])) fp) ([] ++ pinsAt fp s5.heap) σ6 H8 s8→m' < n→W (i + 1) m' H8 →
      ∃ m,m < n∧∃ i σ' H',Inv (lcCx X scope N' cl s3.heap.objs.size s3 (upd H s.heap.objs.size (.lst [])) fp) [] σ' H' s8∧(∀ (j : Nat) v,(capSt cap σ)[j]? = some (some v)→σ'[j]? = some (some v))∧tn i s8.heap∧(∀ b∈fp,H' b = none)∧W i m H':=fun {s8 H8 m'} I8 lt w8=>by
     obtain ⟨k1,k2⟩:=keepT I8
     exact ⟨m',lt,i + 1,σ6,H8,I8.unpinned,kc6,k1,k2,w8⟩
    cases ok with
    | false =>
     rw [if_neg Bool.false_ne_true] at q7 ⊢
     obtain ⟨m',lt,w8⟩:=q7
     exact again I7 lt w8
    | true =>
     rw [if_pos rfl] at q7 ⊢
     refine thn (he _ _ _ _ _ _ s7 σ6 H7 _ I7 q7) fun y s8 ⟨vy,H8,I8,ry,xs,hD,hz,m',lt,w8⟩=>?_
     refine thn (mt_append (X:=lcCx X scope N' cl s3.heap.objs.size s3 (upd H s.heap.objs.size (.lst [])) fp) _ s8 σ6 H8 (.ref s.heap.objs.size) [vy] _ _ (fun _ H'=>H' = upd H8 s.heap.objs.size (.lst (xs ++ [vy]))) I8 rfl (.cons ry .nil) ⟨_,xs,vy,rfl,rfl,hD,hz,rfl⟩) fun _ s9 ⟨_,H9,I9,_,e9⟩=>?_
     subst e9
     exact again I9 lt w8
  ·have eS : ({ s3 with heap:=h₁,toks:=s.toks } : Shared) = { s with heap:=h₁,toks:=s.toks + ([] : List (Str × Value)).length }:=by rw [← hs3]; rfl
   exact ⟨0,capSt cap σ,upd H s.heap.objs.size (.lst []),eS ▸ I4,fun _ _ h=>h,st4,fun b hb=>(hf3 b hb).1,w0⟩
 rw [eC]
 exact codeAny_compStart_list (loop _ rfl) (T.self _ 0 _ _ _ st4 (loop _ rfl))
theorem lcB_names (hB : lcB X.N X.env.scope scope N' cap = true) : ∀ x∈scope.names,x.2 = .local→scope.names.lookup x.1 = some .local:=fun y hy e=>by
 simp only [lcB,Bool.and_eq_true] at hB
 have:=List.all_eq_true.mp hB.1.2 y hy
 rw [e] at this
 simpa using this
theorem lcB_clos (hB : lcB X.N X.env.scope scope N' cap = true) (ok : X.Ok) : ∃ cl : List (Str × Addr),closureFor scope X.env = pure cl∧(∀ x c,cl.lookup x = some c→X.env.cells.lookup x = some c)∧∀ x,(x,NameKind.free)∈scope.names→∃ c,cl.lookup x = some c:=by
 refine closureFor_of fun y hy e=>ok.has y.1 ?_
 simp only [lcB,Bool.and_eq_true] at hB
 have:=List.all_eq_true.mp hB.2 y hy
 rw [e] at this
 simp only [bne_self_eq_false,Bool.false_or,Bool.or_eq_true] at this
 rcases this with z | z
 ·exact .inl (eq_of_beq z)
 ·exact .inr (eq_of_beq z)
theorem pe_lc {wi : TI} (N : List Str) (sc : Scope) (hc : X.calm = true) (hB0 : lcB N sc scope N' cap = true) (hNN : X.N = N) (hsc : X.env.scope = sc) (hit : PI X tg iter wi)
  (hg : ∀ cl C s₀ H₀ ex,PG (lcCx X scope N' cl C s₀ H₀ ex) tg g) (hi : ∀ cl C s₀ H₀ ex,PIfs (lcCx X scope N' cl C s₀ H₀ ex) ifs tc) (he : ∀ cl C s₀ H₀ ex,PE (lcCx X scope N' cl C s₀ H₀ ex) elt te)
  (hs : ∀ x,foldedSetIterable iter X.env x = pure x:=by intro _; rfl) : PE X (.ListComp elt [⟨tg,iter,ifs,0⟩] scope pos) (tLC wi cap g tc te):=by
 intro pins s σ H Q I h
 have hB : lcB X.N X.env.scope scope N' cap = true:=by rw [hNN,hsc]; exact hB0
 have kind : scope.kind = .function:=by
  simp only [lcB,Bool.and_eq_true] at hB
  exact eq_of_beq hB.1.1.1.2
 obtain ⟨cl,ecl,c1,c2⟩:=lcB_clos hB I.ok
 rw [eval_ListComp]
 refine wpAny_comprehension_free (use:=none) rfl hs ecl kind (lcB_names hB) (thn (hit pins s σ H _ I h) fun v s1 h1=>thn h1 fun itv s2 h2=>?_)
 obtain ⟨it,fp,tn,J,H2,e,I2,T,st2,f2,rd⟩:=h2
 subst e
 refine lc_block (RR:=fun acc C=>compPost (model X.prog X.w) X.A X.xe none (EP X pins σ Q) acc C) hc hB hg hi he c1 c2 I2 T st2 f2 rd fun D C s' m H' I' hm fC q=>?_
 exact ⟨m,hm,fun h' hs'=>⟨.ref D,H',I'.turned (t':=s'.toks) (it:=C) (fun b o hb e=>(hs'.2 b hb).trans e) fC.1 fC.2.1 fC.2.2.2.1 fC.2.2.2.2.1 fC.2.2.2.2.2,rfl,q⟩⟩
theorem ps_setLC {wi : TI} {i : Nat} {y : Str} {ypos spos : Pos} (hN : X.N.Nodup) (hiy : X.N[i]? = some y) (hy : Loc X.env.scope y) (N : List Str) (sc : Scope) (hc : X.calm = true) (hB0 : lcB N sc scope N' cap = true) (hNN : X.N = N) (hsc : X.env.scope = sc) (hit : PI X tg iter wi)
  (hg : ∀ cl C s₀ H₀ ex,PG (lcCx X scope N' cl C s₀ H₀ ex) tg g) (hi : ∀ cl C s₀ H₀ ex,PIfs (lcCx X scope N' cl C s₀ H₀ ex) ifs tc) (he : ∀ cl C s₀ H₀ ex,PE (lcCx X scope N' cl C s₀ H₀ ex) elt te)
  (hsw : swapsWith (.ListComp elt [⟨tg,iter,ifs,0⟩] scope pos) (some (.Name y ypos)) spos.line X.env = pure true:=by rfl)
  (hs : ∀ x,foldedSetIterable iter X.env x = pure x:=by intro _; rfl) (hf : X.fn y = true∨X.env.scope.names.lookup y = some .local:=by first | exact .inl rfl | exact .inr rfl | assumption) :
  PS X (.Assign [.Name y ypos] (.ListComp elt [⟨tg,iter,ifs,0⟩] scope pos) spos) (tAsg (tLC wi cap g tc te) (gName i)):=by
 intro pins s σ H D I h
 have hB : lcB X.N X.env.scope scope N' cap = true:=by rw [hNN,hsc]; exact hB0
 have kind : scope.kind = .function:=by
  simp only [lcB,Bool.and_eq_true] at hB
  exact eq_of_beq hB.1.1.1.2
 obtain ⟨cl,ecl,c1,c2⟩:=lcB_clos hB I.ok
 rw [exec_Assign_Name_used _ _ _ _ hsw]
 refine wpAny_bind (wpAny_standAt (wpAny_bind ?_))
 show wpAny _ X.A (do let _ ← comprehension (.ListComp elt [⟨tg,iter,ifs,0⟩] scope pos) scope X.env _ (newList []) false (eval iter X.env) (some (assign (.Name y ypos) X.env))) _ _ s
 refine wpAny_bind (wpAny_mono (wpAny_comprehension_free (use:=some (assign (.Name y ypos) X.env)) (Q:=fun _ s'=>SP X pins D .next s') rfl hs ecl kind (lcB_names hB)
  (thn (hit pins s σ H _ I h) fun v s1 h1=>thn h1 fun itv s2 h2=>?_)) (fun _ s' hq=>wpAny_pure (wpAny_pure hq)) fun _ _ e=>e)
 obtain ⟨it,fp,tn,J,H2,e,I2,T,st2,f2,rd⟩:=h2
 subst e
 refine lc_block (RR:=fun acc C=>compPost (model X.prog X.w) X.A X.xe (some (assign (.Name y ypos) X.env)) (fun _ s'=>SP X pins D .next s') acc C) hc hB hg hi he c1 c2 I2 T st2 f2 rd fun Da C s' m H' I' hm fC q=>?_
 show wpAny _ X.A (assign (.Name y ypos) X.env (.ref Da)) _ _ _
 refine wpAny_assign_Name (store_ok2 (v:=.ref Da) I' hN hiy hy rfl (fun s'' I'' ⟨a,hsa,hav⟩=>?_) hf)
 have haC : C ≠ a:=by
  rcases hav with z | z
  ·rw [z]; exact fC.2.1
  ·exact (fC.2.2.2.2.1 y a z).symm
 refine ⟨m,hm.sameBut hsa haC,fun h' hs'=>⟨σ.set i (some (.ref Da)),H',I''.turned (t':=s''.toks) (it:=C) (fun b o hb e=>(hs'.2 b hb).trans e) fC.1 fC.2.1 fC.2.2.2.1 fC.2.2.2.2.1 fC.2.2.2.2.2,q⟩⟩
end
end L2
namespace L2
open PySem PySem.Spec PyProof.Rows
noncomputable def CDivB (_ j : Int) : Prop:=0 < j∧j.natAbs.log2 < 9000
noncomputable def CMulB (i j : Int) : Prop:=i.natAbs < 2 ^ 8000∧j.natAbs < 2 ^ 8000
theorem bits_le {i : Int} (h : i.natAbs < 2 ^ 8000) : Builtin.Int.intBits i≤2 ^ 20:=by
 unfold Builtin.Int.intBits
 split
 ·exact Nat.zero_le _
 ·rename_i h0
  have hz : i.natAbs ≠ 0:=by
   intro z
   apply h0
   have : i = 0:=by omega
   rw [this]; rfl
  have : i.natAbs.log2 < 8000:=(Nat.log2_lt hz).mpr h
  have e : (2 : Nat) ^ 20 = 1048576:=by decide
  omega
section
variable {X : Cx}
theorem op_fdivB : OpR X (binaryOp .FloorDiv) (rI CDivB fun i j=>.int (i / j)):=opI fun i j _ _ _ _ _ hc q=>by
 have e : i.fdiv j = i / j:=by rw [Int.fdiv_eq_ediv_of_nonneg _ (Int.le_of_lt hc.1)]
 exact floordiv_int (Int.ne_of_gt hc.1) (by rw [e]; exact q) (.inl (PyProof.noPylong_of_log2 hc.2))
theorem op_mulB : OpR X (binaryOp .Mult) (rI CMulB fun i j=>.int (i * j)):=opI fun _ _ _ _ _ _ _ hc q=>mul_int q (IntMulOk.of_bits (bits_le hc.1) (bits_le hc.2))
end
section
variable {X : Cx}
end
noncomputable def rRev (K : PySem.W.Frag) : V→Hp→VK→Prop:=fun x H Q=>∃ a xs,x = .ref a∧SqL K H a xs∧∀ p,H p = none→Q (.ref p) (upd H p (.lst xs.reverse))
section
variable {X : Cx} {e : Expr} {te : TE} {pos p2 p3 p4 : Pos} {j : Nat}
theorem pe_rev (he : PE X e te) : PE X (.Subscript e (.Slice none none (some (.UnaryOp .USub (.Constant (.int 1) j p3) p4)) p2) pos) (tUn (rRev X.K) te):=by
 intro pins s σ H Q I h
 refine Subscript_ (thn (he pins s σ H _ I h) fun v s1 ⟨x,H1,I1,r1,q1⟩=>?_)
 obtain ⟨a,xs,rfl,hx,q⟩:=q1
 cases r1
 refine wpAny_Slice ?_
 rw [evalPart_none]
 refine wpAny_pure (wpAny_pure ?_)
 rw [evalPart_some]
 refine thn ((pe_un (X:=X) (a:=.Constant (.int 1) j p3) (pos:=p4) un_neg pe_int) pins s1 σ H1 (fun y H2=>y = .int (-1)∧H2 = H1) I1 ⟨1,rfl,rfl,rfl⟩) fun u s2 ⟨y,H2,I2,r2,ey,eH⟩=>?_
 subst ey eH
 obtain ⟨t,rfl⟩:=r2
 have I4 : Inv X pins σ H2 { s2 with heap:=s2.heap.push { cls:=.type "slice",data:=.fields #[.none,.none,.int (-1) t] } }:=I2.kept (t':=s2.toks) fun b ob q=>Heap.get?_push_of_some _ q
 obtain ⟨its,r,ht,hz⟩:=I4.list hx
 have hlen:=r.length
 show wpAny (model X.prog X.w) X.A (subscriptTail e (.Slice none none (some (.UnaryOp .USub (.Constant (.int 1) j p3) p4)) p2) (.ref a) (.ref s2.heap.objs.size)) (EP X pins σ Q) X.xe { s2 with heap:=s2.heap.push { cls:=.type "slice",data:=.fields #[.none,.none,.int (-1) t] } }
 refine tail_any (ops:=[.ref a,.ref s2.heap.objs.size]) ht.isList.typeIs slot_list_getitem.lookup (wpAny_getItem_list_slice ht.isList (Heap.IsSliceOf.new ..) .none .none (.int (-1) t) (by decide) ?_ (by rw [List.size_toArray]; omega)) (by with_unfolding_all rfl)
 rw [PySem.W.krv_pick]
 refine ⟨.ref _,_,I4.laid (t':=s2.toks) (o:=.lst xs.reverse) (fun b ob q=>Heap.get?_push_of_some _ q) (Nat.le_refl _) ?_,rfl,q _ (I4.hok.fresh (Nat.le_refl _))⟩
 exact ⟨by rw [List.length_reverse]; exact hz,its.reverse,0,r.reverse,Heap.get?_push_size _ rfl⟩
end
mutual
noncomputable def Has (K : PySem.W.Frag) (H : Hp) : PyData→V→Prop
 | .none,v=>v = .non
 | .bool b,v=>v = .bl b
 | .int i,v=>v = .int i
 | .str x,v=>v = .str x∧(PyData.str x).canLay0 = true
 | .list ds,v=>∃ a xs,v = .ref a∧SqL K H a xs∧HasL K H ds xs
 | .tuple ds,v=>∃ a xs,v = .ref a∧SqT K H a xs∧HasL K H ds xs
 | .dict _,_=>False
noncomputable def HasL (K : PySem.W.Frag) (H : Hp) : List PyData→List V→Prop
 | [],vs=>vs = []
 | d :: ds,vs=>∃ v r,vs = v :: r∧Has K H d v∧HasL K H ds r
end
theorem Same.seqT {K : PySem.W.Frag} {H H' : Hp} {a : Addr} {xs : List V} (e : Same H H') (h : SqT K H a xs) : SqT K H' a xs:=by
 rcases h with (h | ⟨o,h⟩) | h
 ·exact .inl (.inl (e _ _ h))
 ·exact .inl (.inr ⟨o,e _ _ h⟩)
 ·exact .inr h
mutual
theorem Has.same {K : PySem.W.Frag} {H H' : Hp} (e : Same H H') : ∀ {d : PyData} {v : V},Has K H d v→Has K H' d v
 | .none,_,h=>h
 | .bool _,_,h=>h
 | .int _,_,h=>h
 | .str _,_,h=>h
 | .list _,_,⟨a,xs,h1,h2,h3⟩=>⟨a,xs,h1,e.seq h2,HasL.same e h3⟩
 | .tuple _,_,⟨a,xs,h1,h2,h3⟩=>⟨a,xs,h1,e.seqT h2,HasL.same e h3⟩
theorem HasL.same {K : PySem.W.Frag} {H H' : Hp} (e : Same H H') : ∀ {ds : List PyData} {vs : List V},HasL K H ds vs→HasL K H' ds vs
 | [],_,h=>h
 | _ :: _,_,⟨v,r,h1,h2,h3⟩=>⟨v,r,h1,Has.same e h2,HasL.same e h3⟩
end
theorem HasL.length {K : PySem.W.Frag} {H : Hp} : ∀ {ds : List PyData} {vs : List V},HasL K H ds vs→ds.length = vs.length
 | [],vs,h=>by
  have h' : vs = []:=h
  rw [h']; rfl
 | _ :: _,_,⟨v,r,h1,_,h3⟩=>by rw [h1]; exact congrArg (· + 1) (HasL.length h3)
theorem HasL.get {K : PySem.W.Frag} {H : Hp} : ∀ {ds : List PyData} {vs : List V} {i : Nat} {v : V},HasL K H ds vs→vs[i]? = some v→∃ d,ds[i]? = some d∧Has K H d v
 | [],vs,i,v,h,e=>by
  have h' : vs = []:=h
  rw [h'] at e; simp at e
 | d :: _,_,0,v,⟨u,r,h1,h2,h3⟩,e=>by
  rw [h1] at e
  have : u = v:=by simpa using e
  subst this; exact ⟨d,rfl,h2⟩
 | _ :: ds,_,i + 1,v,⟨u,r,h1,h2,h3⟩,e=>by
  rw [h1] at e
  obtain ⟨d,q1,q2⟩:=HasL.get (i:=i) (v:=v) h3 (by simpa using e)
  exact ⟨d,by simpa using q1,q2⟩
theorem HasL.at {K : PySem.W.Frag} {H : Hp} : ∀ {ds : List PyData} {vs : List V} {i : Nat} {d : PyData},HasL K H ds vs→ds[i]? = some d→∃ v,vs[i]? = some v∧Has K H d v
 | [],_,i,d,_,e=>by simp at e
 | d' :: _,_,0,d,⟨u,r,h1,h2,h3⟩,e=>by
  have : d' = d:=by simpa using e
  subst this; rw [h1]; exact ⟨u,rfl,h2⟩
 | _ :: ds,_,i + 1,d,⟨u,r,h1,h2,h3⟩,e=>by
  obtain ⟨v,q1,q2⟩:=HasL.at (i:=i) (d:=d) h3 (by simpa using e)
  rw [h1]; exact ⟨v,by simpa using q1,q2⟩
theorem HasL.snoc {K : PySem.W.Frag} {H : Hp} {d : PyData} {v : V} (hv : Has K H d v) : ∀ {ds : List PyData} {vs : List V},HasL K H ds vs→HasL K H (ds ++ [d]) (vs ++ [v])
 | [],vs,h=>by
  have h' : vs = []:=h
  rw [h']; exact ⟨v,[],rfl,hv,rfl⟩
 | _ :: _,_,⟨u,r,h1,h2,h3⟩=>by rw [h1]; exact ⟨u,r ++ [v],rfl,h2,HasL.snoc hv h3⟩
theorem HasL.reverse {K : PySem.W.Frag} {H : Hp} : ∀ {ds : List PyData} {vs : List V},HasL K H ds vs→HasL K H ds.reverse vs.reverse
 | [],vs,h=>by
  have h' : vs = []:=h
  rw [h']; rfl
 | _ :: _,_,⟨u,r,g1,g2,g3⟩=>by rw [g1,List.reverse_cons,List.reverse_cons]; exact HasL.snoc g2 (HasL.reverse g3)
theorem HasL.set {K : PySem.W.Frag} {H : Hp} {d : PyData} {v : V} (hv : Has K H d v) : ∀ {ds : List PyData} {vs : List V} (i : Nat),HasL K H ds vs→HasL K H (ds.set i d) (vs.set i v)
 | [],vs,_,h=>by
  have h' : vs = []:=h
  rw [h']; rfl
 | _ :: _,_,0,⟨u,r,g1,g2,g3⟩=>by rw [g1]; exact ⟨v,r,rfl,hv,g3⟩
 | _ :: _,_,i + 1,⟨u,r,g1,g2,g3⟩=>by rw [g1]; exact ⟨u,r.set i v,rfl,g2,HasL.set hv i g3⟩
theorem HasL.ints {K : PySem.W.Frag} {H : Hp} : ∀ {ns : List Int} {vs : List V},HasL K H (ns.map PyData.int) vs ↔ vs = ns.map V.int
 | [],_=>Iff.rfl
 | n :: ns,vs=>by
  constructor
  ·rintro ⟨v,r,h1,h2,h3⟩
   have h2' : v = .int n:=h2
   rw [h1,h2',HasL.ints.mp h3]; rfl
  ·rintro rfl
   exact ⟨.int n,ns.map V.int,rfl,rfl,HasL.ints.mpr rfl⟩
section
variable {X : Cx} {pins : List (Addr × Obj)} {σ : St} {H : Hp} {s : Shared}
mutual
theorem Has.reads (I : Inv X pins σ H s) : ∀ {d : PyData} {v : V} {u : Value},Has X.K H d v→RelV v u→∃ as,Reads s.heap u d as
 | .none,v,u,h,r=>by
  have h' : v = .non:=h
  subst h'; cases r; exact ⟨_,.none⟩
 | .bool b,v,u,h,r=>by
  have h' : v = .bl b:=h
  subst h'; cases r; exact ⟨_,.bool b⟩
 | .int i,v,u,h,r=>by
  have h' : v = .int i:=h
  subst h'; obtain ⟨t,rfl⟩:=r; exact ⟨_,.int i t⟩
 | .str x,v,u,h,r=>by
  have h' : v = .str x:=h.1
  subst h'; obtain ⟨t,rfl⟩:=r; exact ⟨_,.str x t⟩
 | .list ds,v,u,h,r=>by
  obtain ⟨a,xs,rfl,hq,hl⟩:=h
  cases r
  obtain ⟨its,rv,⟨o,n,e,c,_,d⟩,hz⟩:=I.list hq
  obtain ⟨as,ra⟩:=HasL.reads I hl rv
  exact ⟨_,.list e c d (by simpa using ra)⟩
 | .tuple ds,v,u,h,r=>by
  obtain ⟨a,xs,rfl,hq,hl⟩:=h
  cases r
  obtain ⟨its,rv,⟨o,e,c,n,d⟩,hz⟩:=I.tuple hq
  obtain ⟨as,ra⟩:=HasL.reads I hl rv
  exact ⟨_,.tuple e c d (by simpa using ra)⟩
 | .dict _,_,_,h,_=>False.elim h
theorem HasL.reads (I : Inv X pins σ H s) : ∀ {ds : List PyData} {vs : List V} {us : List Value},HasL X.K H ds vs→Vals vs us→∃ as,ReadsAll s.heap us ds as
 | [],vs,us,h,r=>by
  have h' : vs = []:=h
  subst h'; cases r; exact ⟨_,.nil⟩
 | d :: ds,vs,us,h,r=>by
  obtain ⟨v,rr,rfl,h1,h2⟩:=h
  cases r with
  | cons r1 r2 =>
   obtain ⟨as,a1⟩:=Has.reads I h1 r1
   obtain ⟨bs,a2⟩:=HasL.reads I h2 r2
   exact ⟨_,.cons a1 a2⟩
end
end
mutual
theorem Has.can {K : PySem.W.Frag} {H : Hp} : ∀ {d : PyData} {v : V},Has K H d v→d.canLay0 = true
 | .none,_,_=>rfl
 | .bool _,_,_=>rfl
 | .int _,_,_=>rfl
 | .str _,_,h=>h.2
 | .list ds,_,⟨_,_,_,_,h⟩=>by simp only [PyData.canLay0]; exact HasL.can h
 | .tuple ds,_,⟨_,_,_,_,h⟩=>by simp only [PyData.canLay0]; exact HasL.can h
theorem HasL.can {K : PySem.W.Frag} {H : Hp} : ∀ {ds : List PyData} {vs : List V},HasL K H ds vs→PyData.canLayAll0 ds = true
 | [],_,_=>rfl
 | d :: ds,_,⟨_,_,_,h1,h2⟩=>by simp only [PyData.canLayAll0,Bool.and_eq_true]; exact ⟨Has.can h1,HasL.can h2⟩
end
noncomputable def rEqD (K : PySem.W.Frag) : R2:=fun x y H Q=>∃ d e,Has K H d x∧Has K H e y∧d.depth≤60∧Q (.bl (PyData.eqv d e)) H
noncomputable def rNeD (K : PySem.W.Frag) : R2:=fun x y H Q=>∃ d e,Has K H d x∧Has K H e y∧d.depth≤60∧Q (.bl (!PyData.eqv d e)) H
section
variable {X : Cx}
theorem op_eqD (hu : X.A.units + 64 < cLine) : OpR X (compareOp .Eq) (rEqD X.K):=by
 intro pins s σ H x y v u Q I rx ry h
 obtain ⟨d,e,hd,he,hk,q⟩:=h
 obtain ⟨as,ra⟩:=hd.reads I rx
 obtain ⟨bs,rb⟩:=he.reads I ry
 exact SeqAt.compareEq_reads ra rb hd.can he.can (by have:=Nat.min_le_left d.depth e.depth; omega) ⟨.bl _,H,I,rfl,q⟩
theorem op_neD (hu : X.A.units + 64 < cLine) : OpR X (compareOp .NotEq) (rNeD X.K):=by
 intro pins s σ H x y v u Q I rx ry h
 obtain ⟨d,e,hd,he,hk,q⟩:=h
 obtain ⟨as,ra⟩:=hd.reads I rx
 obtain ⟨bs,rb⟩:=he.reads I ry
 exact SeqAt.compareNe_reads ra rb hd.can he.can (by have:=Nat.min_le_left d.depth e.depth; omega) ⟨.bl _,H,I,rfl,q⟩
end
end L2
namespace L2
open PySem PySem.Spec PyProof.Rows
noncomputable def vR (i : Nat) : TE:=fun σ H Q=>match σ[i]? with
 | some (some v)=>Q v H
 | _=>False
noncomputable def visB (sc : Scope) (x : Str) : Bool:=match sc.names.lookup x with
 | some .local=>true
 | some .cell=>true
 | some .free=>true
 | _=>false
noncomputable def locB (sc : Scope) (x : Str) : Bool:=match sc.names.lookup x with
 | some .local=>true
 | some .cell=>true
 | _=>false
noncomputable def glB (sc : Scope) (x : Str) : Bool:=match sc.names.lookup x with
 | some .globalImplicit=>true
 | _=>false
noncomputable def visC (sc : Scope) (x : Str) : Bool:=match sc.names.lookup x with
 | some .local=>true
 | some .free=>true
 | _=>false
noncomputable def plain (x : Str) : Bool:=!(x == ("__debug__" : Str)) && !(x == ("__classdict__" : Str))
theorem vis_of {sc : Scope} {x : Str} (h : visB sc x = true) : Vis sc x:=by
 unfold visB at h
 split at h
 ·rename_i e; exact .inl e
 ·rename_i e; exact .inr (.inl e)
 ·rename_i e; exact .inr (.inr e)
 ·cases h
theorem lo {sc : Scope} {x : Str} (h : locB sc x = true) : Loc sc x:=by
 unfold locB at h
 split at h
 ·rename_i e; exact .inl e
 ·rename_i e; exact .inr e
 ·cases h
theorem visC_of {sc : Scope} {env : Env} {x : Str} (h : visC sc x = true) : Vis (relabel sc env) x:=by
 unfold visC at h
 split at h
 ·rename_i e; exact .inl (lookup_relabel_local e)
 ·rename_i e; exact .inr (relabel_free e)
 ·cases h
noncomputable def locC (sc : Scope) (x : Str) : Bool:=match sc.names.lookup x with
 | some .local=>true
 | _=>false
theorem loC {sc : Scope} {env : Env} {x : Str} (h : locC sc x = true) : (relabel sc env).names.lookup x = some .local:=by
 unfold locC at h
 split at h
 ·rename_i e; exact lookup_relabel_local e
 ·cases h
theorem relabel_glob {env : Env} {x : Str} : ∀ {names : List (Str × NameKind)},names.lookup x = some .globalImplicit →
  (names.map fun (n,k)=>if (k == NameKind.free && env.scope.kind == .function && env.kindOf n == some .cell) then (n,NameKind.cell) else (n,k)).lookup x = some .globalImplicit
 | [],h=>by simp at h
 | (n,j) :: r,h=>by
  have ih:=@relabel_glob env x r
  show List.lookup x ((if (j == NameKind.free && env.scope.kind == .function && env.kindOf n == some .cell) = true then (n,NameKind.cell) else (n,j)) :: _) = _
  by_cases hc : (j == NameKind.free && env.scope.kind == .function && env.kindOf n == some .cell) = true
  ·rw [if_pos hc,List.lookup_cons]
   rw [List.lookup_cons] at h
   cases hx : x == n with
   | true =>
    rw [hx] at h
    simp only [Bool.and_eq_true] at hc
    have ej : j = .free:=eq_of_beq hc.1.1
    rw [ej] at h; cases h
   | false=>rw [hx] at h; exact ih h
  ·rw [if_neg hc,List.lookup_cons]
   rw [List.lookup_cons] at h
   cases hx : x == n with
   | true=>rw [hx] at h; exact h
   | false=>rw [hx] at h; exact ih h
section
variable {X : Cx}
theorem gl {sc : Scope} {x : Str} (h : glB sc x = true) (hs : X.env.scope = sc:=by rfl) : Gl X x:=by
 unfold glB at h
 split at h
 ·rename_i e; show X.env.scope.names.lookup x = _; rw [hs]; exact e
 ·cases h
theorem vR_of {e : Expr} {i : Nat} (h : PE X e (tVar i)) : PE X e (vR i):=h.imp fun σ H Q h=>by
 unfold vR at h
 unfold tVar
 split at h
 ·rename_i v e; exact ⟨v,e,h⟩
 ·exact h.elim
theorem plain_of {x : Str} (h : plain x = true) : (x == ("__debug__" : Str)) = false∧(x == ("__classdict__" : Str)) = false:=by
 unfold plain at h
 simpa using h
theorem pV {N : List Str} {sc : Scope} (vt : N.all (fun x=>visB sc x && plain x) = true) (i : Nat) {x : Str} {pos : Pos} (hN : X.N[i]? = some x:=by rfl) (hXN : X.N = N:=by rfl) (hXs : X.env.scope = sc:=by rfl) : PE X (.Name x pos) (vR i):=by
 have h:=List.all_eq_true.mp vt x (by rw [← hXN]; exact List.mem_of_getElem? hN)
 rw [Bool.and_eq_true] at h
 exact vR_of (pe_var hN (by rw [hXs]; exact vis_of h.1) (plain_of h.2).1 (plain_of h.2).2)
end
section
variable {X : Cx} {scope : Scope} {N' : List Str} {cl : List (Str × Addr)} {C : Addr} {s₀ : Shared} {H₀ : Hp} {ex : List Addr} {x : Str} {pos : Pos}
theorem pVc (vt : N'.all (fun x=>visC scope x && plain x) = true) (i : Nat) (hN : N'[i]? = some x:=by rfl) : PE (lcCx X scope N' cl C s₀ H₀ ex) (.Name x pos) (vR i):=by
 have h:=List.all_eq_true.mp vt x (List.mem_of_getElem? hN)
 rw [Bool.and_eq_true] at h
 exact vR_of (pe_var hN (visC_of (env:=X.env) h.1) (plain_of h.2).1 (plain_of h.2).2)
theorem pgC {i : Nat} (hN : N'.Nodup) (h : locC scope x = true) (hi : N'[i]? = some x:=by rfl) : PG (lcCx X scope N' cl C s₀ H₀ ex) (.Name x pos) (gName i) :=
 pg_name hN hi (.inl (loC (env:=X.env) h)) (.inr (loC (env:=X.env) h))
theorem glC (h : glB scope x = true) : Gl (lcCx X scope N' cl C s₀ H₀ ex) x:=by
 unfold glB at h
 split at h
 ·rename_i e; show (relabel scope X.env).names.lookup x = _; exact relabel_glob e
 ·cases h
end
section
variable {X : Cx}
theorem OpR.imp {f : Value→Value→Sem Value} {r r' : R2} (h : OpR X f r) (hi : ∀ x y H Q,r' x y H Q→r x y H Q) : OpR X f r':=fun pins s σ H x y v u Q I rx ry q=>h pins s σ H x y v u Q I rx ry (hi x y H Q q)
theorem IxR.imp {r r' : R2} (h : IxR X r) (hi : ∀ x y H Q,r' x y H Q→r x y H Q) : IxR X r':=fun a b pins s σ H x y v u Q I rx ry q=>h a b pins s σ H x y v u Q I rx ry (hi x y H Q q)
theorem UnR.imp {f : Value→Sem Value} {r r' : V→Hp→VK→Prop} (h : UnR X f r) (hi : ∀ x H Q,r' x H Q→r x H Q) : UnR X f r':=fun pins s σ H x v Q I rx q=>h pins s σ H x v Q I rx (hi x H Q q)
theorem CallR.imp {f : Value} {r r' : List V→Hp→VK→Prop} (h : CallR X f r) (hi : ∀ xs H Q,r' xs H Q→r xs H Q) : CallR X f r':=fun pins s σ H xs us Q I rx q=>h pins s σ H xs us Q I rx (hi xs H Q q)
theorem PIp.imp {op : Operator} {r r' : TIp} (h : PIp X op r) (hi : ∀ x y H Q,r' x y H Q→r x y H Q) : PIp X op r':=fun pins s σ H x y v u Q I rx ry q=>h pins s σ H x y v u Q I rx ry (hi x y H Q q)
theorem PSet.imp {r r' : TSet} (h : PSet X r) (hi : ∀ x y z H Q,r' x y z H Q→r x y z H Q) : PSet X r':=fun pins s σ H x y z v u w Q I rx ry rz q=>h pins s σ H x y z v u w Q I rx ry rz (hi x y z H Q q)
end
noncomputable def rM (g : Int→Int→V) : R2:=fun x y H Q=>match x,y with
 | .int i,.int j=>Q (g i j) H
 | _,_=>False
noncomputable def rMC (C : Int→Int→Prop) (g : Int→Int→V) : R2:=fun x y H Q=>match x,y with
 | .int i,.int j=>C i j∧Q (g i j) H
 | _,_=>False
noncomputable def isNon : V→Bool
 | .non=>true
 | _=>false
theorem isNon_eq (x : V) : decide (x = .non) = isNon x:=by cases x <;> simp [isNon]
section
variable {X : Cx}
theorem opM {f : Value→Value→Sem Value} {g : Int→Int→V} (h : OpR X f (rI0 g)) : OpR X f (rM g):=h.imp fun x y H Q q=>by
 cases x <;> first | exact False.elim q | (cases y <;> first | exact False.elim q | exact ⟨_,_,rfl,rfl,q⟩)
theorem opMC {f : Value→Value→Sem Value} {C : Int→Int→Prop} {g : Int→Int→V} (h : OpR X f (rI C g)) : OpR X f (rMC C g):=h.imp fun x y H Q q=>by
 cases x <;> first | exact False.elim q | (cases y <;> first | exact False.elim q | exact ⟨_,_,rfl,rfl,q.1,q.2⟩)
theorem oAdd : OpR X (binaryOp .Add) (rM fun i j=>.int (i + j)):=opM op_add
theorem oSub : OpR X (binaryOp .Sub) (rM fun i j=>.int (i - j)):=opM op_sub
theorem oMul : OpR X (binaryOp .Mult) (rMC CMulB fun i j=>.int (i * j)):=opMC op_mulB
theorem oDiv : OpR X (binaryOp .FloorDiv) (rMC CDivB fun i j=>.int (i / j)):=opMC op_fdivB
theorem oMod : OpR X (binaryOp .Mod) (rMC (fun _ j=>0 < j) fun i j=>.int (i % j)):=opMC op_mod
theorem oPow : OpR X (binaryOp .Pow) (rMC CPow fun i j=>.int (i ^ j.toNat)):=opMC op_pow
theorem oLt : OpR X (compareOp .Lt) (rM fun i j=>.bl (decide (i < j))):=opM op_lt
theorem oLe : OpR X (compareOp .LtE) (rM fun i j=>.bl (decide (i≤j))):=opM op_le
theorem oGt : OpR X (compareOp .Gt) (rM fun i j=>.bl (decide (j < i))):=opM op_gt
noncomputable def rNotN : R2:=fun x y H Q=>match y with
 | .non=>Q (.bl (!isNon x)) H
 | _=>False
theorem oNotN : OpR X (compareOp .IsNot) rNotN:=op_notN.imp fun x y H Q q=>by
 cases y <;> first | exact False.elim q | (refine ⟨rfl,?_⟩; rw [isNon_eq]; exact q)
end
noncomputable def tTM (t : TE) : TT:=fun σ H Q=>t σ H fun x H'=>match x with
 | .bl k=>Q k H'
 | _=>False
noncomputable def tAndM (ta tb : TE) : TE:=fun σ H Q=>ta σ H fun x H1=>match x with
 | .bl c=>if c = true then tb σ H1 Q else Q (.bl false) H1
 | _=>False
noncomputable def tNotM (ta : TE) : TE:=fun σ H Q=>ta σ H fun x H1=>match x with
 | .bl c=>Q (.bl (!c)) H1
 | _=>False
noncomputable def tChM (r r' : R2) (ta tb tc : TE) : TE:=fun σ H Q=>ta σ H fun x H1=>tb σ H1 fun y H2=>r x y H2 fun z H3=>match z with
 | .bl k=>if k = true then tc σ H3 fun w' H4=>r' y w' H4 Q else Q (.bl false) H3
 | _=>False
section
variable {X : Cx} {a b c e : Expr} {ta tb tc t : TE} {pos : Pos} {rest : List Expr}
theorem ptC {op : CmpOp} {r : R2} (ho : OpR X (compareOp op) r) (ha : PE X a ta) (hb : PE X b tb) (hm : behindInMarks op b = false:=by first | exact nomark _ | rfl) : PT X (.Compare a [op] [b] pos) (tTM (tOp r ta tb)):=by
 intro pins s σ H Q I h
 refine wpAny_isTrue_Compare1 (thn (ha pins s σ H _ I h) fun v s1 ⟨x,H1,I1,r1,q1⟩=>thn (hb pins s1 σ H1 _ I1 q1) fun u s2 ⟨y,H2,I2,r2,q2⟩ =>
  thn (ho pins s2 σ H2 x y v u _ I2 r1 r2 q2) fun c s3 ⟨z,H3,I3,r3,q3⟩=>?_) hm
 cases z <;> first | exact False.elim q3 | (cases r3; exact wpAny_truthy_bool ⟨H3,I3,q3⟩)
theorem peC {op : CmpOp} {r : R2} (ho : OpR X (compareOp op) r) (ha : PE X a ta) (hb : PE X b tb) (hm : behindInMarks op b = false:=by first | exact nomark _ | rfl) : PE X (.Compare a [op] [b] pos) (tOp r ta tb):=pe_cmpR ho ha hb hm
theorem ptV (h : PE X e t) (he : ∀ whole,isTrue e X.env whole = (do let v ← whole; standAt e.pos; holding [v] (truthy v)):=by intro _; rfl) : PT X e (tTM t):=by
 intro pins s σ H Q I hw
 refine isTrue_plain (thn (h pins s σ H _ I hw) fun v s1 ⟨x,H1,I1,r1,q1⟩=>?_) (he _)
 cases x <;> first | exact False.elim q1 | (cases r1; exact wpAny_truthy_bool ⟨H1,I1,q1⟩)
theorem peAnd (ha : PE X a ta) (hb : PE X (.BoolOp .And (b :: rest) pos) tb) : PE X (.BoolOp .And (a :: b :: rest) pos) (tAndM ta tb):=by
 intro pins s σ H Q I h
 refine BoolOp_and (thn (ha pins s σ H _ I h) fun v s1 ⟨x,H1,I1,r1,q1⟩=>?_)
 cases x with
 | bl c =>
  cases r1
  refine wpAny_truthy_bool ?_
  cases c with
  | true=>exact hb pins s1 σ H1 Q I1 q1
  | false=>exact ⟨.bl false,H1,I1,rfl,q1⟩
 | _=>exact False.elim q1
theorem peNot (ha : PE X a ta) : PE X (.UnaryOp .Not a pos) (tNotM ta):=by
 intro pins s σ H Q I h
 refine UnaryOp_ (thn (ha pins s σ H _ I h) fun v s1 ⟨x,H1,I1,r1,q1⟩=>?_)
 cases x with
 | bl c=>cases r1; exact not_of (wpAny_truthy_bool ⟨.bl (!c),H1,I1,rfl,q1⟩)
 | _=>exact False.elim q1
theorem peCh {op op' : CmpOp} {r r' : R2} (ho : OpR X (compareOp op) r) (ho' : OpR X (compareOp op') r') (ha : PE X a ta) (hb : PE X b tb) (hc : PE X c tc)
  (hm : lastMarks [op,op'] [b,c] = false:=by with_unfolding_all rfl) : PE X (.Compare a [op,op'] [b,c] pos) (tChM r r' ta tb tc):=by
 intro pins s σ H Q I h
 refine Compare_chain (thn (ha pins s σ H _ I h) fun v s1 ⟨x,H1,I1,r1,q1⟩=>chain_link (thn (hb pins s1 σ H1 _ I1 q1) fun u s2 ⟨y,H2,I2,r2,q2⟩ =>
  thn (ho pins s2 σ H2 x y v u _ I2 r1 r2 q2) fun d s3 ⟨z,H3,I3,r3,q3⟩=>?_)) hm
 cases z with
 | bl k =>
  cases r3
  refine wpAny_truthy_bool ?_
  cases k with
  | false=>exact ite_ff ⟨.bl false,H3,I3,rfl,q3⟩
  | true=>exact ite_tt (chain_last (thn (hc pins s3 σ H3 _ I3 q3) fun w' s4 ⟨z',H4,I4,r4,q4⟩=>ho' pins s4 σ H4 y z' u w' Q I4 r2 r4 q4))
 | _=>exact False.elim q3
end
noncomputable def rIxLM (K : PySem.W.Frag) : R2:=fun x y H Q=>match x,y with
 | .ref p,.int i=>∃ xs v,SqL K H p xs∧atI xs i = some v∧Q v H
 | _,_=>False
noncomputable def rIxTM (K : PySem.W.Frag) : R2:=fun x y H Q=>match x,y with
 | .ref p,.int i=>∃ xs v,SqT K H p xs∧atI xs i = some v∧Q v H
 | _,_=>False
section
variable {X : Cx} {a b o e : Expr} {ta tb to te : TE} {pos apos cpos : Pos}
theorem ixL : IxR X (rIxLM X.K):=ix_list.imp fun x y H Q q=>by
 cases x <;> first | exact False.elim q | (cases y <;> first | exact False.elim q | (obtain ⟨xs,v,h1,h2,h3⟩:=q; exact ⟨_,xs,_,v,rfl,rfl,h1,h2,h3⟩))
theorem ixT : IxR X (rIxTM X.K):=ix_tup.imp fun x y H Q q=>by
 cases x <;> first | exact False.elim q | (cases y <;> first | exact False.elim q | (obtain ⟨xs,v,h1,h2,h3⟩:=q; exact ⟨_,xs,_,v,rfl,rfl,h1,h2,h3⟩))
theorem ixN_len {n m : Nat} {i : Int} (h : n = m) : ixN n i = ixN m i:=by rw [h]
theorem peIx {r : R2} (hr : IxR X r) (ha : PE X a ta) (hb : PE X b tb) (hs : PlainIx b:=by intro _ _; rfl) : PE X (.Subscript a b pos) (tOp r ta tb):=pe_ix hr ha hb hs
noncomputable def rSetM : TSet:=fun o i v H Q=>match o,i with
 | .ref p,.int k=>∃ xs j,H p = some (.lst xs)∧ixN xs.length k = some j∧Q (upd H p (.lst (xs.set j v)))
 | _,_=>False
theorem setL : PSet X rSetM:=set_list.imp fun x y z H Q q=>by
 cases x <;> first | exact False.elim q | (cases y <;> first | exact False.elim q | (obtain ⟨xs,j,h1,h2,h3⟩:=q; exact ⟨_,xs,_,j,rfl,rfl,h1,h2,h3⟩))
noncomputable def rLenM (K : PySem.W.Frag) : List V→Hp→VK→Prop:=fun xs H Q=>match xs with
 | [.ref p]=>∃ ys,(SqL K H p ys∨SqT K H p ys)∧Q (.int ys.length) H
 | _=>False
theorem cLen : CallR X (.builtin "len") (rLenM X.K):=call_len_seq.imp fun xs H Q q=>by
 match xs,q with
 | [.ref p],⟨ys,h1,h2⟩=>exact ⟨p,ys,rfl,h1,h2⟩
noncomputable def rAbsM : List V→Hp→VK→Prop:=fun xs H Q=>match xs with
 | [.int i]=>Q (.int (if i < 0 then -i else i)) H
 | _=>False
theorem cAbs : CallR X (.builtin "abs") rAbsM:=call_abs.imp fun xs H Q q=>by
 match xs,q with
 | [.int i],q=>exact ⟨i,rfl,q⟩
noncomputable def rListM (K : PySem.W.Frag) : List V→Hp→VK→Prop:=fun xs H Q=>match xs with
 | [.ref p]=>∃ ys,(SqL K H p ys∨SqT K H p ys)∧∀ l,H l = none→Q (.ref l) (upd H l (.lst ys))
 | _=>False
theorem cList : CallR X (.type "list") (rListM X.K):=call_list_of.imp fun xs H Q q=>by
 match xs,q with
 | [.ref p],⟨ys,h1,h2⟩=>exact ⟨p,ys,rfl,h1,h2⟩
noncomputable def rAppM : V→List V→Hp→VK→Prop:=fun x vs H Q=>match x,vs with
 | .ref l,[y]=>∃ ys,H l = some (.lst ys)∧ys.length < sizeLine∧Q .non (upd H l (.lst (ys ++ [y])))
 | _,_=>False
theorem mApp : MtR X "list.append" rAppM:=fun pins s σ H x xs v us Q I rx rv q=>mt_append pins s σ H x xs v us Q I rx rv (by
 match x,xs,q with
 | .ref l,[y],⟨ys,h1,h2,h3⟩=>exact ⟨l,ys,y,rfl,rfl,h1,h2,h3⟩)
theorem peApp {to : TE} {t : TA} (ho : PE X o to) (ha : PA X [e] t)
  (hbase : attributeBase o "append" X.env (eval o X.env) = eval o X.env:=by rfl)
  (hfew : ((backTo cpos (starEach [e] X.env)).all (fun x=>!x.1) && (backToKw cpos (keywordEach [] X.env)).all (fun x=>x.1.isSome)
   && decide (([e] : List Expr).length + ([] : List Keyword).length + (if ([] : List Keyword).isEmpty then 0 else 1) < 30)) = true:=by rfl)
  (hline : (apos.endLine == cpos.line) = true:=by rfl) (hs : starEach [e] X.env = (false,eval e X.env) :: starEach [] X.env:=by rfl) (hplain : (backTo cpos (starEach [] X.env)).any (·.1) = false:=by rfl) :
  PE X (.Call (.Attribute o "append" apos) [e] [] cpos) (tBM X.K "list" rAppM to t):=pe_bm PySem.F.plainAttrs_list PySem.F.slot_list_append PySem.F.type_list_append mApp ho ha hbase hfew hline hs hplain
structure Cal (P : Program) (w : World) (K : PySem.W.Frag) (mg : Str→Option Value) (base : Heap) (k : Nat) (x : Str) (ps : List Str) (sp : Sp) : Prop where
 ex : ∃ f fd,FnOk P w K mg base CX0 k f fd ps sp∧mg x = some (.ref f)∧PySem.W.keepIn K (.ref f) = true∧Binds K fd ps []
theorem peCal {k : Nat} {x : Str} {ps : List Str} {sp : Sp} {p : Pos} {es : List Expr} {t : TA} (C : Cal X.prog X.w X.K X.mg X.base k x ps sp) (hr : Room k X.A) (hg : Gl X x) (ha : PA X (e :: es) t)
  (hdb : (x == ("__debug__" : Str)) = false:=by decide) (he : starEach (e :: es) X.env = (false,eval e X.env) :: starEach es X.env:=by rfl) (hpl : (backTo pos (starEach es X.env)).any (·.1) = false:=by rfl) :
  PE X (.Call (.Name x p) (e :: es) [] pos) (tCall sp [] E0 t):=by
 obtain ⟨f,fd,F,hm,hk,hb⟩:=C.ex
 exact pe_call F hr hg hm hk hb .nil pass0 ha hdb he hpl
noncomputable def gNilM : TGs:=fun vs σ H Q=>match vs with
 | []=>Q σ H
 | _=>False
noncomputable def gConsM (t : TG) (u : TGs) : TGs:=fun vs σ H Q=>match vs with
 | v :: r=>t v σ H fun σ' H'=>u r σ' H' Q
 | []=>False
noncomputable def gTupM (K : PySem.W.Frag) (n : Nat) (t : TGs) : TG:=fun v σ H Q=>match v with
 | .ref a=>∃ xs,SqT K H a xs∧xs.length = n∧t xs σ H Q
 | _=>False
theorem pgsNil : PGs X [] gNilM:=by
 intro pins s σ H vs us Q I r h
 cases vs with
 | nil=>cases r; exact assignInOrder_nil ⟨σ,H,I,h⟩
 | cons _ _=>exact False.elim h
theorem pgsCons {es : List Expr} {t : TG} {u : TGs} (h1 : PG X e t) (h2 : PGs X es u)
  (hs : (assignEach (e :: es) X.env).map (·.2) = assign e X.env :: (assignEach es X.env).map (·.2):=by rfl) : PGs X (e :: es) (gConsM t u):=by
 intro pins s σ H vs us Q I r h
 cases vs with
 | nil=>exact False.elim h
 | cons v vr =>
  cases r with
  | cons r rr =>
   rw [hs]
   refine assignInOrder_cons (thn (h1 pins s σ H _ _ _ I r h) fun _ s1 ⟨σ1,H1,I1,q1⟩=>?_)
   exact h2 pins s1 σ1 H1 _ _ Q I1 rr q1
theorem pgTup {es : List Expr} {k n : Nat} {t : TGs} (hc : X.calm = true) (h : PGs X es t)
  (hn : (assignEach es X.env).length = n:=by rfl) (hst : (assignEach es X.env).findIdx? (·.1) = none:=by rfl) : PG X (.Tuple es k pos) (gTupM X.K n t):=by
 intro pins s σ H v u Q I r hw
 cases v with
 | ref a =>
  obtain ⟨xs,hq,hl,hw⟩:=hw
  exact pg_tup hc h hn hst pins s σ H (.ref a) u Q I r ⟨a,xs,rfl,hq,hl,hw⟩
 | _=>exact False.elim hw
end
end L2
namespace L2
open PySem PySem.Spec PyProof.Rows
noncomputable def forRd (J : It) (g : TG) (tb : TS) (D : Ends) (σ : St) (H1 : Hp) : Prop:=∃ W : Nat→Nat→St→Hp→Prop,(∃ m,W 0 m σ H1)∧∀ i m σ H,W i m σ H →
 (J.stop i H∧D.nx σ H)∨(J.go i H∧∃ N : St→Hp→Prop,(∀ σ' H',N σ' H'→∃ m',m' < m∧W (i + 1) m' σ' H')∧∀ x H',J.yld i H x H'→g x σ H' fun σ2 H2=>tb { D with nx:=N,ct:=N,bk:=D.nx } σ2 H2)
theorem tFor_eq {wi : TI} {g : TG} {tb : TS} {D : Ends} {σ : St} {H : Hp} : tFor wi g tb D σ H = wi σ H fun J H1=>forRd J g tb D σ H1:=rfl
theorem forL {K : PySem.W.Frag} {a : Addr} {xs : List V} {g : TG} {tb : TS} {D : Ends} {σ : St} {H : Hp} (Pv : Nat→St→Hp→Prop) (h0 : Pv 0 σ H) (hl : ∀ i σ H,i≤xs.length→Pv i σ H→SqL K H a xs)
  (hs : ∀ i x σ H,xs[i]? = some x→Pv i σ H→g x σ H fun σ2 H2=>tb { D with nx:=Pv (i + 1),ct:=Pv (i + 1),bk:=D.nx } σ2 H2) (hd : ∀ σ H,Pv xs.length σ H→D.nx σ H) : forRd (Itl K a) g tb D σ H:=for_list Pv h0 hl hs hd
theorem CapK.nil : CapK [] []:=CapK.refl
theorem same_upd_new {H : Hp} {p : Addr} {o : HO} (h : H p = none) : Same H (upd H p o):=fun b u e=>by rw [upd_ne (ne_of_none e h)]; exact e
end L2
namespace L2
open PySem
theorem PT.imp {X : Cx} {e : Expr} {t t' : TT} (h : PT X e t) (ht : ∀ σ H Q,t' σ H Q→t σ H Q) : PT X e t':=fun pins s σ H Q I q=>h pins s σ H Q I (ht σ H Q q)
theorem PW.imp {X : Cx} {e : Expr} {t t' : TT} (h : PW X e t) (ht : ∀ σ H Q,t' σ H Q→t σ H Q) : PW X e t':=fun wh pins s σ H Q I q=>h wh pins s σ H Q I (ht σ H Q q)
theorem PS.imp {X : Cx} {e : Stmt} {t t' : TS} (h : PS X e t) (ht : ∀ D σ H,t' D σ H→t D σ H) : PS X e t':=fun pins s σ H Q I q=>h pins s σ H Q I (ht Q σ H q)
theorem PSs.imp {X : Cx} {e : List Stmt} {t t' : TS} (h : PSs X e t) (ht : ∀ D σ H,t' D σ H→t D σ H) : PSs X e t':=fun pins s σ H Q I q=>h pins s σ H Q I (ht Q σ H q)
theorem PA.imp {X : Cx} {e : List Expr} {t t' : TA} (h : PA X e t) (ht : ∀ σ H Q,t' σ H Q→t σ H Q) : PA X e t':=fun pos pins s σ H Q I q=>h pos pins s σ H Q I (ht σ H Q q)
theorem PG.imp {X : Cx} {e : Expr} {t t' : TG} (h : PG X e t) (ht : ∀ v σ H Q,t' v σ H Q→t v σ H Q) : PG X e t':=fun pins s σ H v u Q I r q=>h pins s σ H v u Q I r (ht v σ H Q q)
theorem PI.imp {X : Cx} {tg e : Expr} {t t' : TI} (h : PI X tg e t) (ht : ∀ σ H Q,t' σ H Q→t σ H Q) : PI X tg e t':=fun pins s σ H Q I q=>h pins s σ H Q I (ht σ H Q q)
theorem PO.imp {X : Cx} {e : Option Expr} {t t' : TO} (h : PO X e t) (ht : ∀ σ H Q,t' σ H Q→t σ H Q) : PO X e t':=fun pins s σ H Q I q=>h pins s σ H Q I (ht σ H Q q)
end L2
namespace VM
open PySem L2
noncomputable abbrev St:=L2.St
inductive Tg where
 | fr | ow | io | rf | ce
 deriving DecidableEq
noncomputable def Tg.dat : Tg→Bool
 | .rf=>false
 | .ce=>false
 | _=>true
noncomputable def Tg.own : Tg→Bool
 | .fr=>false
 | .rf=>false
 | _=>true
noncomputable abbrev GS:=List (Option (Tg × PyData))
noncomputable abbrev VE:=GS→Option PyData
noncomputable def imo : HO→Bool
 | .tup _=>true
 | .frz _ (.tup _)=>true
 | _=>false
structure Grow (F H F' H' : Hp) : Prop where
 hh : Same H H'
 ff : Same F F'
 fh : Same F' H'
 new : ∀ a o,F' a = some o→F a = some o∨H a = none∨imo o = true
 pl : ∀ a o u,F' a = some (.frz o (.lst u))→F a = some (.frz o (.lst u))
theorem Grow.refl {F H : Hp} (h : Same F H) : Grow F H F H:=⟨Same.refl _,Same.refl _,h,fun _ _ e=>.inl e,fun _ _ _ e=>e⟩
theorem Grow.trans {F H F1 H1 F2 H2 : Hp} (a : Grow F H F1 H1) (b : Grow F1 H1 F2 H2) : Grow F H F2 H2:=⟨a.hh.trans b.hh,a.ff.trans b.ff,b.fh,fun p o e=>by
 rcases b.new p o e with h | h | h
 ·exact a.new p o h
 ·exact .inr (.inl (a.hh.free h))
 ·exact .inr (.inr h),fun p o u e=>a.pl p o u (b.pl p o u e)⟩
theorem Grow.alloc {F H : Hp} {p : Addr} {o : HO} (h : Same F H) (hp : H p = none) : Grow F H F (upd H p o) :=
 ⟨same_upd_new hp,Same.refl _,h.trans (same_upd_new hp),fun _ _ e=>.inl e,fun _ _ _ e=>e⟩
theorem Grow.allocF {F H : Hp} {p : Addr} {o : HO} (h : Same F H) (hp : H p = none) (ho : ∀ x u,o ≠ .frz x u:=by intros; intro z; cases z) : Grow F H (upd F p o) (upd H p o):=by
 have hF : F p = none:=h.free hp
 refine ⟨same_upd_new hp,same_upd_new hF,fun b u e=>?_,fun b u e=>?_,fun b x u e=>?_⟩
 ·by_cases hb : b = p
  ·subst hb; rw [upd_same] at e ⊢; exact e
  ·rw [upd_ne hb] at e ⊢; exact h b u e
 ·by_cases hb : b = p
  ·subst hb; exact .inr (.inl hp)
  ·rw [upd_ne hb] at e; exact .inl e
 ·by_cases hb : b = p
  ·subst hb; rw [upd_same] at e; exact absurd (Option.some.inj e) (ho _ _)
  ·rw [upd_ne hb] at e; exact e
mutual
noncomputable def imm : PyData→Bool
 | .none=>true
 | .bool _=>true
 | .int _=>true
 | .str _=>true
 | .tuple ds=>immL ds
 | _=>false
noncomputable def immL : List PyData→Bool
 | []=>true
 | d :: ds=>imm d && immL ds
end
noncomputable def wide (F H : Hp) : Hp:=fun a=>match H a with
 | some o=>if imo o = true then some o else F a
 | none=>none
theorem wide_imo {F H : Hp} {a : Addr} {o : HO} (h : H a = some o) (hi : imo o = true) : wide F H a = some o:=by
 unfold wide; rw [h]; simp only [hi,if_true]
theorem wide_grow {F H F1 H' : Hp} (g : Grow F H F1 H') : Grow F H (wide F1 H') H':=by
 have key : ∀ a o,F1 a = some o→wide F1 H' a = some o:=fun a o e=>by
  have e2:=g.fh a o e
  unfold wide; rw [e2]
  by_cases hi : imo o = true
  ·simp only [hi,if_true]
  ·simp only [hi]; exact e
 refine ⟨g.hh,fun a o e=>key a o (g.ff a o e),fun a o e=>?_,fun a o e=>?_,fun a x u e=>?_⟩
 ·unfold wide at e
  cases q : H' a with
  | none=>rw [q] at e; cases e
  | some u =>
   rw [q] at e
   by_cases hi : imo u = true
   ·simp only [hi,if_true] at e; exact e
   ·simp only [hi] at e
    rw [← q]; exact g.fh a o e
 ·unfold wide at e
  cases q : H' a with
  | none=>rw [q] at e; cases e
  | some u =>
   rw [q] at e
   by_cases hi : imo u = true
   ·simp only [hi,if_true] at e
    cases e
    exact .inr (.inr hi)
   ·simp only [hi] at e
    exact g.new a o e
 ·unfold wide at e
  cases q : H' a with
  | none=>rw [q] at e; cases e
  | some w =>
   rw [q] at e
   by_cases hi : imo w = true
   ·simp only [hi,if_true] at e
    cases e
    cases hi
   ·simp only [hi] at e
    exact g.pl a x u e
theorem wide_tup {K : PySem.W.Frag} {F H : Hp} {a : Addr} {xs : List V} (h : SqT K H a xs) : SqT K (wide F H) a xs:=by
 rcases h with (h | ⟨o,h⟩) | h
 ·exact .inl (.inl (wide_imo h rfl))
 ·exact .inl (.inr ⟨o,wide_imo h rfl⟩)
 ·exact .inr h
mutual
theorem imm_wide {K : PySem.W.Frag} {F H : Hp} : ∀ {d : PyData} {v : V},imm d = true→Has K H d v→Has K (wide F H) d v
 | .none,_,_,h=>h
 | .bool _,_,_,h=>h
 | .int _,_,_,h=>h
 | .str _,_,_,h=>h
 | .list _,_,f,_=>by simp [imm] at f
 | .tuple ds,_,f,⟨a,xs,e,hq,hl⟩=>⟨a,xs,e,wide_tup hq,immL_wide (by simpa [imm] using f) hl⟩
 | .dict _,_,f,_=>by simp [imm] at f
theorem immL_wide {K : PySem.W.Frag} {F H : Hp} : ∀ {ds : List PyData} {vs : List V},immL ds = true→HasL K H ds vs→HasL K (wide F H) ds vs
 | [],_,_,h=>h
 | d :: ds,_,f,⟨v,r,h1,h2,h3⟩=>by
  simp only [immL,Bool.and_eq_true] at f
  exact ⟨v,r,h1,imm_wide f.1 h2,immL_wide f.2 h3⟩
end
noncomputable def OwnAt (K : PySem.W.Frag) (H₀ F H : Hp) (d : PyData) (v : V) : Prop:=∃ a ds xs,d = .list ds∧v = .ref a∧H a = some (.lst xs)∧F a = none∧H₀ a = none∧HasL K F ds xs
noncomputable def ItemIs (K : PySem.W.Frag) (F : Hp) : PyData→V→Prop
 | .dict [(.int i,.none)],v=>∃ a : Addr,i = (a : Int)∧v = .ref a
 | d,v=>Has K F d v
noncomputable def ItemsAre (K : PySem.W.Frag) (F : Hp) : List PyData→List V→Prop
 | [],vs=>vs = []
 | d :: ds,vs=>∃ v r,vs = v :: r∧ItemIs K F d v∧ItemsAre K F ds r
noncomputable def KeysAre (K : PySem.W.Frag) (F : Hp) : List (PyData × PyData)→List (L2.Key × V)→Prop
 | [],vs=>vs = []
 | (k,d) :: ds,vs=>∃ k' v r,vs = (k',v) :: r∧(match k with | .int i=>k' = Sum.inl i | .str x=>k' = Sum.inr x | _=>False)∧ItemIs K F d v∧KeysAre K F ds r
noncomputable def FldsAre (K : PySem.W.Frag) (F : Hp) : List (PyData × PyData)→List (Str × V)→Prop
 | [],vs=>vs = []
 | (k,d) :: ds,vs=>∃ x v r,vs = (x,v) :: r∧k = .str x∧ItemIs K F d v∧FldsAre K F ds r
noncomputable def CellIs (K : PySem.W.Frag) (F : Hp) : PyData→HO→Prop
 | .list ds,o=>∃ xs,o = .lst xs∧ItemsAre K F ds xs
 | .dict ks,o=>∃ kvs,o = .dK kvs∧KeysAre K F ks kvs
 | .tuple [.int C,.int dx,.dict fs],o=>∃ C' dx' fvs,C = ((C' : Nat) : Int)∧dx = ((dx' : Nat) : Int)∧o = .ins C' dx' fvs∧FldsAre K F fs fvs
 | .tuple [.int C],o=>∃ C',C = ((C' : Nat) : Int)∧o = .own C'
 | _,_=>False
noncomputable def CellAt (K : PySem.W.Frag) (H₀ F H : Hp) (d : PyData) (v : V) : Prop:=∃ a c o,d = .tuple [.int ((a : Addr) : Int),c]∧v = .ref a∧H a = some o∧F a = none∧H₀ a = none∧CellIs K F c o
theorem ItemIs.same {K : PySem.W.Frag} {F F' : Hp} (e : Same F F') {d : PyData} {v : V} (h : ItemIs K F d v) : ItemIs K F' d v:=by
 unfold ItemIs at h ⊢
 split at h
 ·exact h
 ·exact Has.same e h
theorem ItemsAre.same {K : PySem.W.Frag} {F F' : Hp} (e : Same F F') : ∀ {ds : List PyData} {vs : List V},ItemsAre K F ds vs→ItemsAre K F' ds vs
 | [],_,h=>h
 | _ :: _,_,⟨v,r,h1,h2,h3⟩=>⟨v,r,h1,h2.same e,ItemsAre.same e h3⟩
theorem KeysAre.same {K : PySem.W.Frag} {F F' : Hp} (e : Same F F') : ∀ {ds : List (PyData × PyData)} {vs : List (L2.Key × V)},KeysAre K F ds vs→KeysAre K F' ds vs
 | [],_,h=>h
 | (_,_) :: _,_,⟨k,v,r,h1,h2,h3,h4⟩=>⟨k,v,r,h1,h2,h3.same e,KeysAre.same e h4⟩
theorem FldsAre.same {K : PySem.W.Frag} {F F' : Hp} (e : Same F F') : ∀ {ds : List (PyData × PyData)} {vs : List (Str × V)},FldsAre K F ds vs→FldsAre K F' ds vs
 | [],_,h=>h
 | (_,_) :: _,_,⟨k,v,r,h1,h2,h3,h4⟩=>⟨k,v,r,h1,h2,h3.same e,FldsAre.same e h4⟩
theorem CellIs.same {K : PySem.W.Frag} {F F' : Hp} (e : Same F F') {c : PyData} {o : HO} (h : CellIs K F c o) : CellIs K F' c o:=by
 unfold CellIs at h ⊢
 split at h
 ·obtain ⟨xs,h1,h2⟩:=h; exact ⟨xs,h1,h2.same e⟩
 ·obtain ⟨xs,h1,h2⟩:=h; exact ⟨xs,h1,h2.same e⟩
 ·obtain ⟨C',dx',fvs,h1,h2,h3,h4⟩:=h; exact ⟨C',dx',fvs,h1,h2,h3,h4.same e⟩
 ·exact h
 ·exact h.elim
theorem CellIs.mut {K : PySem.W.Frag} {F : Hp} {c : PyData} {o : HO} (h : CellIs K F c o) : imo o = false:=by
 unfold CellIs at h
 split at h
 ·obtain ⟨xs,rfl,_⟩:=h; rfl
 ·obtain ⟨xs,rfl,_⟩:=h; rfl
 ·obtain ⟨C',dx',fvs,_,_,rfl,_⟩:=h; rfl
 ·obtain ⟨C',_,rfl⟩:=h; rfl
 ·exact h.elim
noncomputable def SlotOk (K : PySem.W.Frag) (ioA : Nat→Option Addr) (H₀ F H : Hp) (i : Nat) : Tg→PyData→V→Prop
 | .fr,d,v=>Has K F d v
 | .ow,d,v=>OwnAt K H₀ F H d v
 | .io,d,v=>OwnAt K H₀ F H d v∧∃ a,v = .ref a∧ioA i = some a
 | .rf,d,v=>∃ a : Addr,d = .int (a : Int)∧v = .ref a
 | .ce,d,v=>CellAt K H₀ F H d v
structure VI (K : PySem.W.Frag) (ioA : Nat→Option Addr) (G H₀ : Hp) (S : GS) (F : Hp) (σ : St) (H : Hp) : Prop where
 len : S.length = σ.length
 same : Same H₀ H
 gf : Same G F
 new : ∀ a o,F a = some o→G a = some o∨H₀ a = none∨imo o = true
 sub : Same F H
 slot : ∀ (i : Nat) t d,S[i]? = some (some (t,d))→∃ v,σ[i]? = some (some v)∧SlotOk K ioA H₀ F H i t d v
 inj : ∀ (i j : Nat) t t' d d' v,S[i]? = some (some (t,d))→S[j]? = some (some (t',d'))→t.own = true→t'.own = true→σ[i]? = some (some v)→σ[j]? = some (some v)→i = j
 pl : ∀ a o u,F a = some (.frz o (.lst u))→G a = some (.frz o (.lst u))
section
variable {K : PySem.W.Frag} {ioA : Nat→Option Addr} {G H₀ F H F' H' : Hp} {S : GS} {σ : St}
theorem OwnAt.grow {d : PyData} {v : V} (g : Grow F H F' H') (h : OwnAt K H₀ F H d v) : OwnAt K H₀ F' H' d v:=by
 obtain ⟨a,ds,xs,e1,e2,e3,e4,e5,e6⟩:=h
 refine ⟨a,ds,xs,e1,e2,g.hh _ _ e3,?_,e5,e6.same g.ff⟩
 cases q : F' a with
 | none=>rfl
 | some o =>
  rcases g.new a o q with z | z | z
  ·rw [e4] at z; cases z
  ·rw [e3] at z; cases z
  ·have:=g.fh a o q
   rw [g.hh _ _ e3] at this
   cases this
   simp [imo] at z
theorem CellAt.grow {d : PyData} {v : V} (g : Grow F H F' H') (h : CellAt K H₀ F H d v) : CellAt K H₀ F' H' d v:=by
 obtain ⟨a,c,o,e1,e2,e3,e4,e5,e6⟩:=h
 refine ⟨a,c,o,e1,e2,g.hh _ _ e3,?_,e5,e6.same g.ff⟩
 cases q : F' a with
 | none=>rfl
 | some o' =>
  rcases g.new a o' q with z | z | z
  ·rw [e4] at z; cases z
  ·rw [e3] at z; cases z
  ·have:=g.fh a o' q
   rw [g.hh _ _ e3] at this
   cases this
   rw [e6.mut] at z; cases z
theorem VI.grow (I : VI K ioA G H₀ S F σ H) (g : Grow F H F' H') : VI K ioA G H₀ S F' σ H' where
 len:=I.len
 same:=I.same.trans g.hh
 gf:=I.gf.trans g.ff
 new:=fun a o e=>by
  rcases g.new a o e with z | z | z
  ·exact I.new a o z
  ·exact .inr (.inl (I.same.free z))
  ·exact .inr (.inr z)
 sub:=g.fh
 slot:=fun i t d e=>by
  obtain ⟨v,e1,h⟩:=I.slot i t d e
  refine ⟨v,e1,?_⟩
  cases t with
  | fr=>exact Has.same g.ff h
  | ow=>exact OwnAt.grow g h
  | io=>exact ⟨OwnAt.grow g h.1,h.2⟩
  | rf=>exact h
  | ce=>exact CellAt.grow g h
 inj:=I.inj
 pl:=fun a o u e=>I.pl a o u (g.pl a o u e)
end
noncomputable abbrev Rel:=PySem.W.Frag→Hp→Hp→Hp→Hp→PyData→V→Prop
noncomputable def RW : Rel:=fun K _ _ _ H' d v=>Has K H' d v
noncomputable def RS : Rel:=fun K _ _ F' _ d v=>Has K F' d v
noncomputable def RM : Rel:=fun K _ _ F' H' d v=>Has K F' d v∨∃ ds a xs,d = .list ds∧v = .ref a∧SqL K H' a xs∧HasL K F' ds xs
noncomputable def RN : Rel:=fun K _ H F' H' d v=>∃ ds a xs,d = .list ds∧v = .ref a∧H a = none∧F' a = none∧H' a = some (.lst xs)∧HasL K F' ds xs
noncomputable def tV (K : PySem.W.Frag) (R : Rel) (f : VE) : TE:=fun σ H Q=>∃ ioA G H₀ S F,VI K ioA G H₀ S F σ H∧∃ d,f S = some d∧∀ v F' H',Grow F H F' H'→R K F H F' H' d v→Q v H'
theorem tV.imp {K : PySem.W.Frag} {R R' : Rel} {f f' : VE} {σ : St} {H : Hp} {Q : VK} (hf : ∀ S d,f S = some d→f' S = some d)
  (hR : ∀ (F F' H' : Hp) S d v,f S = some d→Grow F H F' H'→R' K F H F' H' d v→∃ F'',Grow F H F'' H'∧R K F H F'' H' d v) (h : tV K R f σ H Q) : tV K R' f' σ H Q:=by
 obtain ⟨ioA,G,H₀,S,F,I,d,e,q⟩:=h
 refine ⟨ioA,G,H₀,S,F,I,d,hf S d e,fun v F' H' g r=>?_⟩
 obtain ⟨F'',g2,r2⟩:=hR F F' H' S d v e g r
 exact q v F'' H' g2 r2
section
variable {X : Cx} {e : Expr} {f : VE}
theorem sw (h : PE X e (tV X.K RS f)) : PE X e (tV X.K RW f):=h.imp fun _ _ _ q=>tV.imp (fun _ _ h=>h) (fun F F' H' S d v _ g r=>⟨F',g,Has.same g.fh r⟩) q
theorem sm (h : PE X e (tV X.K RS f)) : PE X e (tV X.K RM f):=h.imp fun _ _ _ q=>tV.imp (fun _ _ h=>h) (fun F F' H' S d v _ g r=>⟨F',g,.inl r⟩) q
theorem mw (h : PE X e (tV X.K RM f)) : PE X e (tV X.K RW f):=h.imp fun _ _ _ q=>tV.imp (fun _ _ h=>h) (fun F F' H' S d v _ g r=>⟨F',g,by
 rcases r with r | ⟨ds,a,xs,rfl,rfl,h1,h2⟩
 ·exact Has.same g.fh r
 ·exact ⟨a,xs,rfl,h1,h2.same g.fh⟩⟩) q
theorem nm (h : PE X e (tV X.K RN f)) : PE X e (tV X.K RM f):=h.imp fun _ _ _ q=>tV.imp (fun _ _ h=>h) (fun F F' H' S d v _ g r=>⟨F',g,by
 obtain ⟨ds,a,xs,h1,h2,h3,h4,h5,h6⟩:=r
 exact .inr ⟨ds,a,xs,h1,h2,SqL.of h5,h6⟩⟩) q
theorem RN.frz {K : PySem.W.Frag} {F H F' H' : Hp} {d : PyData} {v : V} (g : Grow F H F' H') (r : RN K F H F' H' d v) : ∃ F'',Grow F H F'' H'∧RS K F H F'' H' d v:=by
 obtain ⟨ds,a,xs,h1,h2,h3,h4,h5,h6⟩:=r
 refine ⟨upd F' a (.lst xs),⟨g.hh,g.ff.trans (same_upd_new h4),fun b o e=>?_,fun b o e=>?_,fun b x u e=>?_⟩,?_⟩
 ·by_cases hb : b = a
  ·subst hb; rw [upd_same] at e; cases e; exact h5
  ·rw [upd_ne hb] at e; exact g.fh b o e
 ·by_cases hb : b = a
  ·subst hb; exact .inr (.inl h3)
  ·rw [upd_ne hb] at e; exact g.new b o e
 ·by_cases hb : b = a
  ·subst hb; rw [upd_same] at e; cases e
  ·rw [upd_ne hb] at e; exact g.pl b x u e
 ·rw [h1]; exact ⟨a,xs,h2,SqL.of upd_same,h6.same (same_upd_new h4)⟩
theorem ns (h : PE X e (tV X.K RN f)) : PE X e (tV X.K RS f):=h.imp fun _ _ _ q=>tV.imp (fun _ _ h=>h) (fun F F' H' S d v _ g r=>RN.frz g r) q
theorem nw (h : PE X e (tV X.K RN f)) : PE X e (tV X.K RW f):=mw (nm h)
noncomputable def vImm (f : VE) : VE:=fun S=>match f S with
 | some d=>if imm d = true then some d else none
 | none=>none
theorem vImm_some {f : VE} {S : GS} {d : PyData} (h : vImm f S = some d) : f S = some d∧imm d = true:=by
 unfold vImm at h
 cases q : f S with
 | none=>rw [q] at h; cases h
 | some u =>
  rw [q] at h
  simp only at h
  split at h
  ·cases h; exact ⟨rfl,by assumption⟩
  ·cases h
theorem ws (h : PE X e (tV X.K RW f)) : PE X e (tV X.K RS (vImm f)):=h.imp fun _ H Q q=>by
 refine tV.imp (fun S d h=>(vImm_some h).1) (fun F F' H' S d v he g r=>⟨wide F' H',wide_grow g,imm_wide (vImm_some he).2 r⟩) q
end
noncomputable def vN (i : Nat) : VE:=fun S=>match S[i]? with
 | some (some (.fr,d))=>some d
 | some (some (.ow,d))=>some d
 | some (some (.io,d))=>some d
 | _=>none
noncomputable def vF (i : Nat) : VE:=fun S=>match S[i]? with
 | some (some (.fr,d))=>some d
 | _=>none
noncomputable def vC (d : PyData) : VE:=fun _=>some d
section
variable {X : Cx} {e : Expr} {pos : Pos}
theorem dN {i : Nat} (h : PE X e (vR i)) : PE X e (tV X.K RM (vN i)):=h.imp fun σ H Q q=>by
 obtain ⟨ioA,G,H₀,S,F,I,d,e,q⟩:=q
 unfold vN at e
 split at e
 ·rename_i d' hS
  cases e
  obtain ⟨v,hv,hs⟩:=I.slot i .fr d hS
  unfold vR; rw [hv]
  exact q v F H (Grow.refl I.sub) (.inl hs)
 ·rename_i d' hS
  cases e
  obtain ⟨v,hv,hs⟩:=I.slot i .ow d hS
  unfold vR; rw [hv]
  obtain ⟨a,ds,xs,e1,e2,e3,e4,e5,e6⟩:=hs
  exact q v F H (Grow.refl I.sub) (.inr ⟨ds,a,xs,e1,e2,SqL.of e3,e6⟩)
 ·rename_i d' hS
  cases e
  obtain ⟨v,hv,hs⟩:=I.slot i .io d hS
  unfold vR; rw [hv]
  obtain ⟨a,ds,xs,e1,e2,e3,e4,e5,e6⟩:=hs.1
  exact q v F H (Grow.refl I.sub) (.inr ⟨ds,a,xs,e1,e2,SqL.of e3,e6⟩)
 ·cases e
theorem dF {i : Nat} (h : PE X e (vR i)) : PE X e (tV X.K RS (vF i)):=h.imp fun σ H Q q=>by
 obtain ⟨ioA,G,H₀,S,F,I,d,e,q⟩:=q
 unfold vF at e
 split at e
 ·rename_i d' hS
  cases e
  obtain ⟨v,hv,hs⟩:=I.slot i .fr d hS
  unfold vR; rw [hv]
  exact q v F H (Grow.refl I.sub) hs
 ·cases e
theorem dC {v : V} {d : PyData} (h : PE X e (tC v)) (hv : ∀ H,Has X.K H d v) : PE X e (tV X.K RS (vC d)):=h.imp fun σ H Q q=>by
 obtain ⟨ioA,G,H₀,S,F,I,d',e,q⟩:=q
 cases e
 exact q v F H (Grow.refl I.sub) (hv F)
theorem dInt {i j} : PE X (.Constant (.int i) j pos) (tV X.K RS (vC (.int i))):=dC pe_int fun _=>rfl
theorem dNone {j} : PE X (.Constant .none j pos) (tV X.K RS (vC .none)):=dC pe_non fun _=>rfl
theorem dStr {x j} (hx : (PyData.str x).canLay0 = true:=by rfl) : PE X (.Constant (.str x) j pos) (tV X.K RS (vC (.str x))):=dC pe_str fun _=>⟨rfl,hx⟩
end
noncomputable def v2 (h : PyData→PyData→Option PyData) (fa fb : VE) : VE:=fun S=>match fa S with
 | some x=>match fb S with
  | some y=>h x y
  | none=>none
 | none=>none
theorem v2_some {h : PyData→PyData→Option PyData} {fa fb : VE} {S : GS} {d : PyData} (e : v2 h fa fb S = some d) : ∃ x y,fa S = some x∧fb S = some y∧h x y = some d:=by
 unfold v2 at e
 cases q : fa S with
 | none=>rw [q] at e; cases e
 | some x =>
  rw [q] at e
  cases q2 : fb S with
  | none=>rw [q2] at e; cases e
  | some y=>rw [q2] at e; exact ⟨x,y,rfl,rfl,e⟩
noncomputable def OpD (K : PySem.W.Frag) (h : PyData→PyData→Option PyData) (r : R2) : Prop:=∀ H x y dx dy d Q,h dx dy = some d→Has K H dx x→Has K H dy y→(∀ v,(∀ H',Has K H' d v)→Q v H)→r x y H Q
theorem rd2 {K : PySem.W.Frag} {h : PyData→PyData→Option PyData} {r : R2} {fa fb : VE} (hd : OpD K h r) {σ : St} {H : Hp} {Q : VK} (q : tV K RS (v2 h fa fb) σ H Q) : tOp r (tV K RW fa) (tV K RW fb) σ H Q:=by
 obtain ⟨ioA,G,H₀,S,F,I,d,e,q⟩:=q
 obtain ⟨x,y,ex,ey,e⟩:=v2_some e
 refine ⟨ioA,G,H₀,S,F,I,x,ex,fun v F1 H1 g1 hx=>⟨ioA,G,H₀,S,F1,I.grow g1,y,ey,fun u F2 H2 g2 hy=>?_⟩⟩
 exact hd H2 v u x y d Q e (Has.same g2.hh hx) hy fun w hw=>q w F2 H2 (g1.trans g2) (hw F2)
section
variable {X : Cx} {a b : Expr} {fa fb : VE} {pos : Pos} {h : PyData→PyData→Option PyData} {r : R2}
theorem dOp {op : Operator} (ho : OpR X (binaryOp op) r) (hd : OpD X.K h r) (ha : PE X a (tV X.K RW fa)) (hb : PE X b (tV X.K RW fb)) : PE X (.BinOp a op b pos) (tV X.K RS (v2 h fa fb)) :=
 (pe_op ho ha hb).imp fun _ _ _ q=>rd2 hd q
end
noncomputable def iop (g : Int→Int→PyData) : PyData→PyData→Option PyData
 | .int a,.int b=>some (g a b)
 | _,_=>none
noncomputable def iopC (C : Int→Int→Prop) [∀ a b,Decidable (C a b)] (g : Int→Int→PyData) : PyData→PyData→Option PyData
 | .int a,.int b=>if C a b then some (g a b) else none
 | _,_=>none
noncomputable def flat0 (d : PyData) (v : V) : Prop:=∀ (K : PySem.W.Frag) (H : Hp),Has K H d v
theorem opd_iop {K : PySem.W.Frag} {g : Int→Int→PyData} {gv : Int→Int→V} (hg : ∀ a b,flat0 (g a b) (gv a b)) : OpD K (iop g) (rM gv):=by
 intro H x y dx dy d Q e hx hy q
 cases dx <;> first | (simp [iop] at e; done) | skip
 cases dy <;> first | (simp [iop] at e; done) | skip
 simp only [iop,Option.some.injEq] at e
 subst e
 have ex : x = _:=hx
 have ey : y = _:=hy
 subst ex ey
 exact q _ fun H'=>hg _ _ K H'
theorem opd_iopC {K : PySem.W.Frag} {C : Int→Int→Prop} [∀ a b,Decidable (C a b)] {C' : Int→Int→Prop} {g : Int→Int→PyData} {gv : Int→Int→V} (hc : ∀ a b,C a b→C' a b) (hg : ∀ a b,flat0 (g a b) (gv a b)) : OpD K (iopC C g) (rMC C' gv):=by
 intro H x y dx dy d Q e hx hy q
 cases dx <;> first | (simp [iopC] at e; done) | skip
 cases dy <;> first | (simp [iopC] at e; done) | skip
 simp only [iopC] at e
 split at e
 ·rename_i hC
  cases e
  have ex : x = _:=hx
  have ey : y = _:=hy
  subst ex ey
  exact ⟨hc _ _ hC,q _ fun H'=>hg _ _ K H'⟩
 ·cases e
set_option exponentiation.threshold 9000
noncomputable def BMul (i j : Int) : Prop:=i.natAbs < 2 ^ 2000∧j.natAbs < 2 ^ 2000
noncomputable instance (i j : Int) : Decidable (BMul i j):=inferInstanceAs (Decidable (_∧_))
noncomputable def BDiv (_ j : Int) : Prop:=0 < j∧j.natAbs < 2 ^ 2000
noncomputable instance (i j : Int) : Decidable (BDiv i j):=inferInstanceAs (Decidable (_∧_))
noncomputable def BMod (_ j : Int) : Prop:=0 < j
noncomputable instance (i j : Int) : Decidable (BMod i j):=inferInstanceAs (Decidable (_ < _))
noncomputable def BPow (i j : Int) : Prop:=0≤j∧j≤1000∧i.natAbs < 2 ^ 60
noncomputable instance (i j : Int) : Decidable (BPow i j):=inferInstanceAs (Decidable (_∧_∧_))
theorem BMul.ok {i j : Int} (h : BMul i j) : CMulB i j:=by
 have e : (2 : Nat) ^ 2000≤2 ^ 8000:=Nat.pow_le_pow_right (by decide) (by decide)
 exact ⟨Nat.lt_of_lt_of_le h.1 e,Nat.lt_of_lt_of_le h.2 e⟩
theorem BDiv.ok {i j : Int} (h : BDiv i j) : CDivB i j:=⟨h.1,by
 have hz : j.natAbs ≠ 0:=by have:=h.1; omega
 have:=(Nat.log2_lt hz).mpr h.2
 omega⟩
theorem BPow.ok {i j : Int} (h : BPow i j) : CPow i j:=⟨h.1,by have:=h.2.1; omega,Nat.lt_trans h.2.2 (by decide)⟩
noncomputable abbrev addD:=iop fun a b=>.int (a + b)
noncomputable abbrev subD:=iop fun a b=>.int (a - b)
noncomputable abbrev mulD:=iopC BMul fun a b=>.int (a * b)
noncomputable abbrev divD:=iopC BDiv fun a b=>.int (a / b)
noncomputable abbrev modD:=iopC BMod fun a b=>.int (a % b)
noncomputable abbrev powD:=iopC BPow fun a b=>.int (a ^ b.toNat)
noncomputable abbrev ltD:=iop fun a b=>.bool (decide (a < b))
noncomputable abbrev leD:=iop fun a b=>.bool (decide (a≤b))
noncomputable abbrev gtD:=iop fun a b=>.bool (decide (b < a))
noncomputable abbrev geD:=iop fun a b=>.bool (decide (b≤a))
section
variable {K : PySem.W.Frag}
theorem hAdd : OpD K addD (rM fun i j=>.int (i + j)):=opd_iop fun _ _ _ _=>rfl
theorem hSub : OpD K subD (rM fun i j=>.int (i - j)):=opd_iop fun _ _ _ _=>rfl
theorem hMul : OpD K mulD (rMC CMulB fun i j=>.int (i * j)):=opd_iopC (fun _ _ h=>h.ok) fun _ _ _ _=>rfl
theorem hDiv : OpD K divD (rMC CDivB fun i j=>.int (i / j)):=opd_iopC (fun _ _ h=>h.ok) fun _ _ _ _=>rfl
theorem hMod : OpD K modD (rMC (fun _ j=>0 < j) fun i j=>.int (i % j)):=opd_iopC (fun _ _ h=>h) fun _ _ _ _=>rfl
theorem hPow : OpD K powD (rMC CPow fun i j=>.int (i ^ j.toNat)):=opd_iopC (fun _ _ h=>h.ok) fun _ _ _ _=>rfl
theorem hLt : OpD K ltD (rM fun i j=>.bl (decide (i < j))):=opd_iop fun _ _ _ _=>rfl
theorem hLe : OpD K leD (rM fun i j=>.bl (decide (i≤j))):=opd_iop fun _ _ _ _=>rfl
theorem hGt : OpD K gtD (rM fun i j=>.bl (decide (j < i))):=opd_iop fun _ _ _ _=>rfl
end
noncomputable def eqD : PyData→PyData→Option PyData:=fun x y=>if x.depth≤60 then some (.bool (PyData.eqv x y)) else none
noncomputable def neD : PyData→PyData→Option PyData:=fun x y=>if x.depth≤60 then some (.bool (!PyData.eqv x y)) else none
theorem hEq {K : PySem.W.Frag} : OpD K eqD (rEqD K):=by
 intro H x y dx dy d Q e hx hy q
 unfold eqD at e
 split at e
 ·cases e; exact ⟨dx,dy,hx,hy,by assumption,q _ fun _=>rfl⟩
 ·cases e
theorem hNe {K : PySem.W.Frag} : OpD K neD (rNeD K):=by
 intro H x y dx dy d Q e hx hy q
 unfold neD at e
 split at e
 ·cases e; exact ⟨dx,dy,hx,hy,by assumption,q _ fun _=>rfl⟩
 ·cases e
noncomputable def isNoneD : PyData→Bool
 | .none=>true
 | _=>false
noncomputable def isD : PyData→PyData→Option PyData:=fun x y=>if isNoneD y then some (.bool (isNoneD x)) else none
noncomputable def isnD : PyData→PyData→Option PyData:=fun x y=>if isNoneD y then some (.bool (!isNoneD x)) else none
theorem none_of {K : PySem.W.Frag} {H : Hp} {d : PyData} {x : V} (h : Has K H d x) (e : isNoneD d = true) : x = .non:=by
 cases d <;> first | exact h | (simp [isNoneD] at e)
noncomputable abbrev VT:=GS→Option Bool
noncomputable def tVT (K : PySem.W.Frag) (f : VT) : TT:=fun σ H Q=>∃ ioA G H₀ S F,VI K ioA G H₀ S F σ H∧∃ b,f S = some b∧∀ F' H',Grow F H F' H'→Q b H'
noncomputable def vB (f : VE) : VT:=fun S=>match f S with
 | some (.bool b)=>some b
 | _=>none
theorem vB_some {f : VE} {S : GS} {b : Bool} (h : vB f S = some b) : f S = some (.bool b):=by
 unfold vB at h
 split at h
 ·cases h; assumption
 ·cases h
noncomputable def tAnd2 (f g : VT) : VT:=fun S=>match f S with
 | some true=>g S
 | some false=>some false
 | none=>none
noncomputable def tOr2 (f g : VT) : VT:=fun S=>match f S with
 | some true=>some true
 | some false=>g S
 | none=>none
noncomputable def tNot2 (f : VT) : VT:=fun S=>match f S with
 | some b=>some !b
 | none=>none
noncomputable def truD : PyData→Option Bool
 | .none=>some false
 | .bool b=>some b
 | .int i=>some (i != 0)
 | .list ds=>some (!ds.isEmpty)
 | .tuple ds=>some (!ds.isEmpty)
 | _=>none
noncomputable def vTru (f : VE) : VT:=fun S=>match f S with
 | some d=>truD d
 | none=>none
theorem HasL.isEmpty {K : PySem.W.Frag} {H : Hp} {ds : List PyData} {vs : List V} (h : HasL K H ds vs) : vs.isEmpty = ds.isEmpty:=by
 have:=h.length
 cases ds <;> cases vs <;> simp_all
section
variable {X : Cx} {a b e : Expr} {fa fb f : VE} {ta tb : VT} {pos : Pos} {h : PyData→PyData→Option PyData} {r : R2} {rest : List Expr}
theorem rdTM {t : TE} {σ : St} {H : Hp} {Q : Bool→Hp→Prop} {K : PySem.W.Frag} (ht : ∀ Q',tV K RS f σ H Q'→t σ H Q') (q : tVT K (vB f) σ H Q) : tTM t σ H Q:=by
 obtain ⟨ioA,G,H₀,S,F,I,b,e,q⟩:=q
 refine ht _ ⟨ioA,G,H₀,S,F,I,.bool b,vB_some e,fun v F' H' g hv=>?_⟩
 have ev : v = .bl b:=hv
 subst ev
 exact q F' H' g
theorem cCmp {op : CmpOp} (ho : OpR X (compareOp op) r) (hd : OpD X.K h r) (ha : PE X a (tV X.K RW fa)) (hb : PE X b (tV X.K RW fb)) (hm : behindInMarks op b = false:=by first | exact nomark _ | rfl) : PT X (.Compare a [op] [b] pos) (tVT X.K (vB (v2 h fa fb))) :=
 PT.imp (ptC ho ha hb hm) fun _ _ _ q=>rdTM (fun _ q=>rd2 hd q) q
theorem cVal (he : PE X e (tV X.K RS f)) (hp : ∀ whole,isTrue e X.env whole = (do let v ← whole; standAt e.pos; holding [v] (truthy v)):=by intro _; rfl) : PT X e (tVT X.K (vB f)) :=
 PT.imp (ptV he hp) fun _ _ _ q=>rdTM (fun _ q=>q) q
theorem cNot (ha : PT X a (tVT X.K ta)) : PT X (.UnaryOp .Not a pos) (tVT X.K (tNot2 ta)):=PT.imp (pt_not ha) fun _ _ _ q=>by
 obtain ⟨ioA,G,H₀,S,F,I,b,e,q⟩:=q
 unfold tNot2 at e
 cases q2 : ta S with
 | none=>rw [q2] at e; cases e
 | some c =>
  rw [q2] at e
  cases e
  exact ⟨ioA,G,H₀,S,F,I,c,q2,fun F' H' g=>q F' H' g⟩
theorem wAnd1 (ha : PT X a (tVT X.K ta)) : PW X (.BoolOp .And [a] pos) (tVT X.K ta):=pw_and1 ha
theorem wOr1 (ha : PT X a (tVT X.K ta)) : PW X (.BoolOp .Or [a] pos) (tVT X.K ta):=pw_or1 ha
theorem wAnd (ha : PT X a (tVT X.K ta)) (hb : PW X (.BoolOp .And (b :: rest) pos) (tVT X.K tb)) : PW X (.BoolOp .And (a :: b :: rest) pos) (tVT X.K (tAnd2 ta tb)):=PW.imp (pw_and ha hb) fun _ _ _ q=>by
 obtain ⟨ioA,G,H₀,S,F,I,b,e,q⟩:=q
 unfold tAnd2 at e
 cases q2 : ta S with
 | none=>rw [q2] at e; cases e
 | some c =>
  rw [q2] at e
  refine ⟨ioA,G,H₀,S,F,I,c,q2,fun F' H' g=>?_⟩
  cases c with
  | true=>rw [if_pos rfl]; exact ⟨ioA,G,H₀,S,F',I.grow g,b,e,fun F2 H2 g2=>q F2 H2 (g.trans g2)⟩
  | false=>rw [if_neg Bool.false_ne_true]; cases e; exact q F' H' g
theorem wOr (ha : PT X a (tVT X.K ta)) (hb : PW X (.BoolOp .Or (b :: rest) pos) (tVT X.K tb)) : PW X (.BoolOp .Or (a :: b :: rest) pos) (tVT X.K (tOr2 ta tb)):=PW.imp (pw_or ha hb) fun _ _ _ q=>by
 obtain ⟨ioA,G,H₀,S,F,I,b,e,q⟩:=q
 unfold tOr2 at e
 cases q2 : ta S with
 | none=>rw [q2] at e; cases e
 | some c =>
  rw [q2] at e
  refine ⟨ioA,G,H₀,S,F,I,c,q2,fun F' H' g=>?_⟩
  cases c with
  | false=>rw [if_neg Bool.false_ne_true]; exact ⟨ioA,G,H₀,S,F',I.grow g,b,e,fun F2 H2 g2=>q F2 H2 (g.trans g2)⟩
  | true=>rw [if_pos rfl]; cases e; exact q F' H' g
end
noncomputable def vAnd (f g : VE) : VE:=fun S=>match f S with
 | some (.bool true)=>g S
 | some (.bool false)=>some (.bool false)
 | _=>none
noncomputable def vOr (f g : VE) : VE:=fun S=>match f S with
 | some (.bool true)=>some (.bool true)
 | some (.bool false)=>g S
 | _=>none
noncomputable def vNot (f : VE) : VE:=fun S=>match f S with
 | some (.bool b)=>some (.bool !b)
 | _=>none
noncomputable def vCh (h h' : PyData→PyData→Option PyData) (fa fb fc : VE) : VE:=fun S=>match fa S with
 | some x=>match fb S with
  | some y=>match h x y with
   | some (.bool true)=>(match fc S with
    | some z=>h' y z
    | none=>none)
   | some (.bool false)=>some (.bool false)
   | _=>none
  | none=>none
 | none=>none
noncomputable def vIf (c : VT) (f g : VE) : VE:=fun S=>match c S with
 | some true=>f S
 | some false=>g S
 | none=>none
section
variable {X : Cx} {a b c e : Expr} {fa fb fc f : VE} {tc : VT} {pos : Pos} {h h' : PyData→PyData→Option PyData} {r r' : R2} {rest : List Expr} {R : Rel}
theorem dAnd (ha : PE X a (tV X.K RS fa)) (hb : PE X (.BoolOp .And (b :: rest) pos) (tV X.K RS fb)) : PE X (.BoolOp .And (a :: b :: rest) pos) (tV X.K RS (vAnd fa fb)):=(peAnd ha hb).imp fun _ _ _ q=>by
 obtain ⟨ioA,G,H₀,S,F,I,d,e,q⟩:=q
 unfold vAnd at e
 split at e
 ·rename_i q2
  refine ⟨ioA,G,H₀,S,F,I,_,q2,fun v F' H' g hv=>?_⟩
  have ev : v = .bl true:=hv
  subst ev
  simp only [if_true]
  exact ⟨ioA,G,H₀,S,F',I.grow g,d,e,fun w F2 H2 g2 hw=>q w F2 H2 (g.trans g2) hw⟩
 ·rename_i q2
  cases e
  refine ⟨ioA,G,H₀,S,F,I,_,q2,fun v F' H' g hv=>?_⟩
  have ev : v = .bl false:=hv
  subst ev
  simp only [Bool.false_eq_true,if_false]
  exact q _ F' H' g rfl
 ·cases e
theorem dNot (ha : PE X a (tV X.K RS fa)) : PE X (.UnaryOp .Not a pos) (tV X.K RS (vNot fa)):=(peNot ha).imp fun _ _ _ q=>by
 obtain ⟨ioA,G,H₀,S,F,I,d,e,q⟩:=q
 unfold vNot at e
 split at e
 ·rename_i b q2
  cases e
  refine ⟨ioA,G,H₀,S,F,I,_,q2,fun v F' H' g hv=>?_⟩
  have ev : v = .bl b:=hv
  subst ev
  exact q _ F' H' g rfl
 ·cases e
theorem dOne {op} (h : PE X a (tV X.K R f)) : PE X (.BoolOp op [a] pos) (tV X.K R f):=pe_one h
theorem rdCh {K : PySem.W.Frag} {σ : St} {H : Hp} {Q : VK} (hd : OpD K h r) (hd' : OpD K h' r') (q : tV K RS (vCh h h' fa fb fc) σ H Q) : tChM r r' (tV K RW fa) (tV K RW fb) (tV K RW fc) σ H Q:=by
 obtain ⟨ioA,G,H₀,S,F,I,d,e,q⟩:=q
 unfold vCh at e
 cases qa : fa S with
 | none=>rw [qa] at e; cases e
 | some x =>
  rw [qa] at e
  cases qb : fb S with
  | none=>rw [qb] at e; cases e
  | some y =>
   rw [qb] at e
   simp only at e
   refine ⟨ioA,G,H₀,S,F,I,x,qa,fun v F1 H1 g1 hx=>⟨ioA,G,H₀,S,F1,I.grow g1,y,qb,fun u F2 H2 g2 hy=>?_⟩⟩
   split at e
   ·rename_i q3
    cases qc : fc S with
    | none=>rw [qc] at e; cases e
    | some z =>
     rw [qc] at e
     refine hd H2 v u x y _ _ q3 (Has.same g2.hh hx) hy fun k hk=>?_
     have ek : k = .bl true:=hk H2
     subst ek
     simp only [if_true]
     refine ⟨ioA,G,H₀,S,F2,(I.grow g1).grow g2,z,qc,fun w F3 H3 g3 hw=>?_⟩
     exact hd' H3 u w y z d Q e (Has.same g3.hh hy) hw fun k hk=>q k F3 H3 ((g1.trans g2).trans g3) (hk F3)
   ·rename_i q3
    cases e
    refine hd H2 v u x y _ _ q3 (Has.same g2.hh hx) hy fun k hk=>?_
    have ek : k = .bl false:=hk H2
    subst ek
    simp only [Bool.false_eq_true,if_false]
    exact q _ F2 H2 (g1.trans g2) rfl
   ·cases e
theorem dCh {op op' : CmpOp} (ho : OpR X (compareOp op) r) (hd : OpD X.K h r) (ho' : OpR X (compareOp op') r') (hd' : OpD X.K h' r') (ha : PE X a (tV X.K RW fa)) (hb : PE X b (tV X.K RW fb)) (hc : PE X c (tV X.K RW fc))
  (hm : lastMarks [op,op'] [b,c] = false:=by with_unfolding_all rfl) : PE X (.Compare a [op,op'] [b,c] pos) (tV X.K RS (vCh h h' fa fb fc)):=(peCh ho ho' ha hb hc hm).imp fun _ _ _ q=>rdCh hd hd' q
end
end VM
namespace VM
open PySem L2
section
variable {K : PySem.W.Frag} {F H F' H' : Hp}
theorem HasL.atI {ds : List PyData} {xs : List V} {i : Int} {d : PyData} (h : HasL K H ds xs) (e : L2.atI ds i = some d) : ∃ v,L2.atI xs i = some v∧Has K H d v:=by
 unfold L2.atI at e ⊢
 rw [ixN_len h.length.symm]
 cases q : ixN ds.length i with
 | none=>rw [q] at e; cases e
 | some j =>
  rw [q] at e
  exact h.at e
theorem HasL.drop : ∀ {ds : List PyData} {vs : List V} (n : Nat),HasL K H ds vs→HasL K H (ds.drop n) (vs.drop n)
 | _,_,0,h=>h
 | [],vs,n + 1,h=>by
  have h' : vs = []:=h
  rw [h']; rfl
 | _ :: _,_,n + 1,⟨_,_,g1,_,g3⟩=>by rw [g1]; exact HasL.drop n g3
theorem HasL.take : ∀ {ds : List PyData} {vs : List V} (n : Nat),HasL K H ds vs→HasL K H (ds.take n) (vs.take n)
 | _,_,0,_=>by simp only [List.take_zero]; rfl
 | [],vs,n + 1,h=>by
  have h' : vs = []:=h
  rw [h']; rfl
 | _ :: _,_,n + 1,⟨u,r,g1,g2,g3⟩=>by rw [g1]; exact ⟨u,r.take n,rfl,g2,HasL.take n g3⟩
theorem RM.list {ds : List PyData} {v : V} (fh : Same F' H') (r : RM K F H F' H' (.list ds) v) : ∃ a xs,v = .ref a∧SqL K H' a xs∧HasL K F' ds xs:=by
 rcases r with ⟨a,xs,rfl,h1,h2⟩ | ⟨ds',a,xs,e,rfl,h1,h2⟩
 ·exact ⟨a,xs,rfl,fh.seq h1,h2⟩
 ·cases e; exact ⟨a,xs,rfl,h1,h2⟩
theorem RM.tuple {ds : List PyData} {v : V} (fh : Same F' H') (r : RM K F H F' H' (.tuple ds) v) : ∃ a xs,v = .ref a∧SqT K H' a xs∧HasL K F' ds xs:=by
 rcases r with ⟨a,xs,rfl,h1,h2⟩ | ⟨ds',a,xs,e,rfl,h1,h2⟩
 ·exact ⟨a,xs,rfl,fh.seqT h1,h2⟩
 ·cases e
theorem RM.grow {F2 H2 : Hp} {d : PyData} {v : V} (g : Grow F' H' F2 H2) (r : RM K F H F' H' d v) : RM K F H F2 H2 d v:=by
 rcases r with r | ⟨ds,a,xs,e,e2,h1,h2⟩
 ·exact .inl (Has.same g.ff r)
 ·exact .inr ⟨ds,a,xs,e,e2,g.hh.seq h1,h2.same g.ff⟩
end
noncomputable def ixDt : PyData→PyData→Option PyData
 | .list ds,.int i=>atI ds i
 | .tuple ds,.int i=>atI ds i
 | _,_=>none
section
variable {X : Cx} {a b e : Expr} {fa fb f : VE} {pos p2 : Pos}
theorem dIx (ha : PE X a (tV X.K RM fa)) (hb : PE X b (tV X.K RW fb)) (hs : PlainIx b:=by intro _ _; rfl) : PE X (.Subscript a b pos) (tV X.K RS (v2 ixDt fa fb)) :=
 (pe_ix (ix_list.or ix_tup) ha hb hs).imp fun _ _ Q q=>by
  obtain ⟨ioA,G,H₀,S,F,I,d,e,q⟩:=q
  obtain ⟨x,y,ex,ey,e⟩:=v2_some e
  refine ⟨ioA,G,H₀,S,F,I,x,ex,fun v F1 H1 g1 hx=>⟨ioA,G,H₀,S,F1,I.grow g1,y,ey,fun u F2 H2 g2 hy=>?_⟩⟩
  have hx2:=RM.grow g2 hx
  unfold ixDt at e
  split at e
  ·rename_i ds i
   have eu : u = .int i:=hy
   obtain ⟨p,xs,rfl,h1,h2⟩:=RM.list g2.fh hx2
   obtain ⟨w,hw,hw2⟩:=HasL.atI h2 e
   exact .inl ⟨p,xs,i,w,rfl,eu,h1,hw,q w F2 H2 (g1.trans g2) hw2⟩
  ·rename_i ds i
   have eu : u = .int i:=hy
   obtain ⟨p,xs,rfl,h1,h2⟩:=RM.tuple g2.fh hx2
   obtain ⟨w,hw,hw2⟩:=HasL.atI h2 e
   exact .inr ⟨p,xs,i,w,rfl,eu,h1,hw,q w F2 H2 (g1.trans g2) hw2⟩
  ·cases e
noncomputable def tVO (K : PySem.W.Frag) (f : GS→Option (Option Int)) : TO:=fun σ H Q=>∃ ioA G H₀ S F,VI K ioA G H₀ S F σ H∧∃ o,f S = some o∧∀ F' H',Grow F H F' H'→Q o H'
noncomputable def oN : GS→Option (Option Int):=fun _=>some none
noncomputable def oI (f : VE) : GS→Option (Option Int):=fun S=>match f S with
 | some (.int i)=>some (some i)
 | _=>none
theorem poN : PO X none (tVO X.K oN):=PO.imp po_none fun _ H Q q=>by
 obtain ⟨ioA,G,H₀,S,F,I,o,e,q⟩:=q
 cases e
 exact q F H (Grow.refl I.sub)
theorem poI (h : PE X e (tV X.K RW f)) : PO X (some e) (tVO X.K (oI f)):=PO.imp (po_some h) fun _ H Q q=>by
 obtain ⟨ioA,G,H₀,S,F,I,o,e,q⟩:=q
 unfold oI at e
 split at e
 ·rename_i i q2
  cases e
  refine ⟨ioA,G,H₀,S,F,I,_,q2,fun v F' H' g hv=>⟨i,hv,q F' H' g⟩⟩
 ·cases e
noncomputable def cutD (xs : List PyData) (lo hi : Option Int) : List PyData:=(xs.drop (HT.sIx xs.length 0 lo)).take (HT.sIx xs.length xs.length hi - HT.sIx xs.length 0 lo)
theorem HasL.cut {K : PySem.W.Frag} {H : Hp} {ds : List PyData} {vs : List V} {lo hi : Option Int} (h : HasL K H ds vs) : HasL K H (cutD ds lo hi) (cutV vs lo hi):=by
 unfold cutD cutV
 rw [h.length]
 exact HasL.take _ (HasL.drop _ h)
noncomputable def vSlL (f : VE) (l u : GS→Option (Option Int)) : VE:=fun S=>match f S,l S,u S with
 | some (.list ds),some lo,some hi=>some (.list (cutD ds lo hi))
 | _,_,_=>none
noncomputable def vSlT (f : VE) (l u : GS→Option (Option Int)) : VE:=fun S=>match f S,l S,u S with
 | some (.tuple ds),some lo,some hi=>if HT.sIx ds.length 0 lo = 0∧HT.sIx ds.length ds.length hi = ds.length then none else some (.tuple (cutD ds lo hi))
 | _,_,_=>none
variable {lo hi : Option Expr} {fl fu : GS→Option (Option Int)}
theorem dSlL (he : PE X e (tV X.K RM f)) (hl : PO X lo (tVO X.K fl)) (hu : PO X hi (tVO X.K fu)) : PE X (.Subscript e (.Slice lo hi none p2) pos) (tV X.K RN (vSlL f fl fu)) :=
 (pe_slice sl_list he hl hu).imp fun _ H Q q=>by
  obtain ⟨ioA,G,H₀,S,F,I,d,e,q⟩:=q
  unfold vSlL at e
  split at e
  ·rename_i ds l u q1 q2 q3
   cases e
   refine ⟨ioA,G,H₀,S,F,I,_,q1,fun v F1 H1 g1 hx=>⟨ioA,G,H₀,S,F1,I.grow g1,l,q2,fun F2 H2 g2=>⟨ioA,G,H₀,S,F2,(I.grow g1).grow g2,u,q3,fun F3 H3 g3=>?_⟩⟩⟩
   obtain ⟨p,xs,rfl,h1,h2⟩:=RM.list g3.fh (RM.grow (g2.trans g3) hx)
   have g:=(g1.trans g2).trans g3
   refine ⟨p,xs,rfl,h1,fun z hz=>q _ F3 _ (g.trans (Grow.alloc g3.fh hz)) ⟨_,z,_,rfl,rfl,g.hh.free hz,g3.fh.free hz,upd_same,HasL.cut h2⟩⟩
  ·cases e
noncomputable def vRev (f : VE) : VE:=fun S=>match f S with
 | some (.list ds)=>some (.list ds.reverse)
 | _=>none
theorem dRev {p3 p4 : Pos} {j : Nat} (he : PE X e (tV X.K RM f)) : PE X (.Subscript e (.Slice none none (some (.UnaryOp .USub (.Constant (.int 1) j p3) p4)) p2) pos) (tV X.K RN (vRev f)) :=
 (pe_rev he).imp fun _ H Q q=>by
  obtain ⟨ioA,G,H₀,S,F,I,d,e,q⟩:=q
  unfold vRev at e
  split at e
  ·rename_i ds q1
   cases e
   refine ⟨ioA,G,H₀,S,F,I,_,q1,fun v F1 H1 g1 hx=>?_⟩
   obtain ⟨p,xs,rfl,h1,h2⟩:=RM.list g1.fh hx
   refine ⟨p,xs,rfl,h1,fun z hz=>q _ F1 _ (g1.trans (Grow.alloc g1.fh hz)) ⟨_,z,_,rfl,rfl,g1.hh.free hz,g1.fh.free hz,upd_same,HasL.reverse h2⟩⟩
  ·cases e
noncomputable def negD : PyData→Option PyData
 | .int i=>some (.int (-i))
 | _=>none
noncomputable def v1 (h : PyData→Option PyData) (f : VE) : VE:=fun S=>match f S with
 | some x=>h x
 | none=>none
end
noncomputable abbrev VA:=GS→Option (List PyData)
noncomputable def tVA (K : PySem.W.Frag) (f : VA) : TA:=fun σ H Q=>∃ ioA G H₀ S F,VI K ioA G H₀ S F σ H∧∃ ds,f S = some ds∧∀ vs F' H',Grow F H F' H'→HasL K F' ds vs→Q vs H'
noncomputable def tVAW (K : PySem.W.Frag) (f : VA) : TA:=fun σ H Q=>∃ ioA G H₀ S F,VI K ioA G H₀ S F σ H∧∃ ds,f S = some ds∧∀ vs F' H',Grow F H F' H'→HasL K H' ds vs→Q vs H'
noncomputable def a0 : VA:=fun _=>some []
noncomputable def aC (f : VE) (fs : VA) : VA:=fun S=>match f S with
 | some d=>match fs S with
  | some ds=>some (d :: ds)
  | none=>none
 | none=>none
theorem aC_some {f : VE} {fs : VA} {S : GS} {ds : List PyData} (h : aC f fs S = some ds) : ∃ d r,f S = some d∧fs S = some r∧ds = d :: r:=by
 unfold aC at h
 cases q : f S with
 | none=>rw [q] at h; cases h
 | some d =>
  rw [q] at h
  cases q2 : fs S with
  | none=>rw [q2] at h; cases h
  | some r=>rw [q2] at h; cases h; exact ⟨d,r,rfl,rfl,rfl⟩
section
variable {X : Cx} {e : Expr} {es : List Expr} {f : VE} {fs : VA} {pos : Pos}
theorem pa0 : PA X [] (tVA X.K a0):=PA.imp pa_nil fun _ H Q q=>by
 obtain ⟨ioA,G,H₀,S,F,I,d,e,q⟩:=q
 cases e
 exact q [] F H (Grow.refl I.sub) rfl
theorem pw0 : PA X [] (tVAW X.K a0):=PA.imp pa_nil fun _ H Q q=>by
 obtain ⟨ioA,G,H₀,S,F,I,d,e,q⟩:=q
 cases e
 exact q [] F H (Grow.refl I.sub) rfl
theorem paC (he : PE X e (tV X.K RS f)) (hr : PA X es (tVA X.K fs)) (hs : starEach (e :: es) X.env = (false,eval e X.env) :: starEach es X.env:=by rfl) : PA X (e :: es) (tVA X.K (aC f fs)):=PA.imp (pa_cons he hr hs) fun _ H Q q=>by
 obtain ⟨ioA,G,H₀,S,F,I,ds,e,q⟩:=q
 obtain ⟨d,r,e1,e2,rfl⟩:=aC_some e
 exact ⟨ioA,G,H₀,S,F,I,d,e1,fun v F1 H1 g1 hx=>⟨ioA,G,H₀,S,F1,I.grow g1,r,e2,fun vs F2 H2 g2 hy=>q _ F2 H2 (g1.trans g2) ⟨v,vs,rfl,Has.same g2.ff hx,hy⟩⟩⟩
theorem pwC (he : PE X e (tV X.K RW f)) (hr : PA X es (tVAW X.K fs)) (hs : starEach (e :: es) X.env = (false,eval e X.env) :: starEach es X.env:=by rfl) : PA X (e :: es) (tVAW X.K (aC f fs)):=PA.imp (pa_cons he hr hs) fun _ H Q q=>by
 obtain ⟨ioA,G,H₀,S,F,I,ds,e,q⟩:=q
 obtain ⟨d,r,e1,e2,rfl⟩:=aC_some e
 exact ⟨ioA,G,H₀,S,F,I,d,e1,fun v F1 H1 g1 hx=>⟨ioA,G,H₀,S,F1,I.grow g1,r,e2,fun vs F2 H2 g2 hy=>q _ F2 H2 (g1.trans g2) ⟨v,vs,rfl,Has.same g2.hh hx,hy⟩⟩⟩
noncomputable def vTup (fs : VA) : VE:=fun S=>match fs S with
 | some ds=>if ds.length≤1000 then some (.tuple ds) else none
 | none=>none
noncomputable def vLst (fs : VA) : VE:=fun S=>match fs S with
 | some ds=>if ds.length≤1000 then some (.list ds) else none
 | none=>none
theorem vTup_some {S : GS} {d : PyData} (h : vTup fs S = some d) : ∃ ds,fs S = some ds∧ds.length≤1000∧d = .tuple ds:=by
 unfold vTup at h
 split at h
 ·split at h
  ·cases h; exact ⟨_,by assumption,by assumption,rfl⟩
  ·cases h
 ·cases h
theorem vLst_some {S : GS} {d : PyData} (h : vLst fs S = some d) : ∃ ds,fs S = some ds∧ds.length≤1000∧d = .list ds:=by
 unfold vLst at h
 split at h
 ·split at h
  ·cases h; exact ⟨_,by assumption,by assumption,rfl⟩
  ·cases h
 ·cases h
theorem dTup {x1} (h : PA X es (tVA X.K fs)) : PE X (.Tuple es x1 pos) (tV X.K RS (vTup fs)):=(pe_tup h).imp fun _ H Q q=>by
 obtain ⟨ioA,G,H₀,S,F,I,d,e,q⟩:=q
 obtain ⟨ds,e1,hl,rfl⟩:=vTup_some e
 refine ⟨ioA,G,H₀,S,F,I,ds,e1,fun vs F1 H1 g1 hx=>⟨by rw [← hx.length]; exact Nat.le_of_lt (small1000 hl),fun p hp=>?_⟩⟩
 exact q _ _ _ (g1.trans (Grow.allocF g1.fh hp)) ⟨p,vs,rfl,SqT.of upd_same,HasL.same (same_upd_new (g1.fh.free hp)) hx⟩
theorem dLst (h : PA X es (tVA X.K fs)) : PE X (.List es pos) (tV X.K RN (vLst fs)):=(pe_lst h).imp fun _ H Q q=>by
 obtain ⟨ioA,G,H₀,S,F,I,d,e,q⟩:=q
 obtain ⟨ds,e1,hl,rfl⟩:=vLst_some e
 refine ⟨ioA,G,H₀,S,F,I,ds,e1,fun vs F1 H1 g1 hx=>⟨by rw [← hx.length]; exact Nat.le_of_lt (small1000 hl),fun p hp=>?_⟩⟩
 exact q _ _ _ (g1.trans (Grow.alloc g1.fh hp)) ⟨ds,p,vs,rfl,rfl,g1.hh.free hp,g1.fh.free hp,upd_same,hx⟩
end
noncomputable def CallD (K : PySem.W.Frag) (h : List PyData→Option PyData) (r : List V→Hp→VK→Prop) : Prop:=∀ H vs ds d Q,h ds = some d→HasL K H ds vs→(∀ v,(∀ H',Has K H' d v)→Q v H)→r vs H Q
noncomputable def vCB (h : List PyData→Option PyData) (fs : VA) : VE:=fun S=>match fs S with
 | some ds=>h ds
 | none=>none
theorem dCB {X : Cx} {e : Expr} {h : List PyData→Option PyData} {r : List V→Hp→VK→Prop} {fs : VA} (he : PE X e (tCB r (tVAW X.K fs))) (hd : CallD X.K h r) : PE X e (tV X.K RS (vCB h fs)):=he.imp fun _ H Q q=>by
 obtain ⟨ioA,G,H₀,S,F,I,d,e,q⟩:=q
 unfold vCB at e
 split at e
 ·rename_i ds q1
  exact ⟨ioA,G,H₀,S,F,I,ds,q1,fun vs F1 H1 g1 hx=>hd H1 vs ds d Q e hx fun v hv=>q v F1 H1 g1 (hv F1)⟩
 ·cases e
noncomputable def lenD : List PyData→Option PyData
 | [.list ds]=>some (.int ds.length)
 | [.tuple ds]=>some (.int ds.length)
 | _=>none
noncomputable def absD : List PyData→Option PyData
 | [.int i]=>some (.int (if i < 0 then -i else i))
 | _=>none
noncomputable def intsOf : List PyData→Option (List Int)
 | []=>some []
 | .int i :: r=>match intsOf r with
  | some ns=>some (i :: ns)
  | none=>none
 | _=>none
noncomputable def min2D : List PyData→Option PyData
 | [.int i,.int j]=>some (.int (if j < i then j else i))
 | _=>none
noncomputable def max2D : List PyData→Option PyData
 | [.int i,.int j]=>some (.int (if j > i then j else i))
 | _=>none
noncomputable def int1D : List PyData→Option PyData
 | [.int i]=>some (.int i)
 | [.bool k]=>some (.int (if k then 1 else 0))
 | _=>none
section
variable {K : PySem.W.Frag}
theorem HasL.one {H : Hp} {d : PyData} {vs : List V} (h : HasL K H [d] vs) : ∃ v,vs = [v]∧Has K H d v:=by
 obtain ⟨v,r,rfl,h1,h2⟩:=h
 have h2' : r = []:=h2
 rw [h2']; exact ⟨v,rfl,h1⟩
theorem HasL.two {H : Hp} {d e : PyData} {vs : List V} (h : HasL K H [d,e] vs) : ∃ v u,vs = [v,u]∧Has K H d v∧Has K H e u:=by
 obtain ⟨v,r,rfl,h1,h2⟩:=h
 obtain ⟨u,rfl,h3⟩:=HasL.one h2
 exact ⟨v,u,rfl,h1,h3⟩
theorem hLen : CallD K lenD (rLenM K):=by
 intro H vs ds d Q e hx q
 unfold lenD at e
 split at e
 ·obtain ⟨v,rfl,a,xs,rfl,h1,h2⟩:=HasL.one hx
  cases e
  exact ⟨xs,.inl h1,by rw [← h2.length]; exact q _ fun _=>rfl⟩
 ·obtain ⟨v,rfl,a,xs,rfl,h1,h2⟩:=HasL.one hx
  cases e
  exact ⟨xs,.inr h1,by rw [← h2.length]; exact q _ fun _=>rfl⟩
 ·cases e
theorem hAbs : CallD K absD rAbsM:=by
 intro H vs ds d Q e hx q
 unfold absD at e
 split at e
 ·obtain ⟨v,rfl,h1⟩:=HasL.one hx
  have ev : v = .int _:=h1
  subst ev
  cases e
  exact q _ fun _=>rfl
 ·cases e
theorem hMin2 : CallD K min2D (fun xs H Q=>∃ i j,xs = [.int i,.int j]∧Q (.int (if j < i then j else i)) H):=by
 intro H vs ds d Q e hx q
 unfold min2D at e
 split at e
 ·rename_i i j
  obtain ⟨v,u,rfl,h1,h2⟩:=HasL.two hx
  have ev : v = .int i:=h1
  have eu : u = .int j:=h2
  subst ev eu
  cases e
  exact ⟨i,j,rfl,q _ fun _=>rfl⟩
 ·cases e
end
noncomputable def tyD : PyData→String
 | .none=>"NoneType"
 | .bool _=>"bool"
 | .int _=>"int"
 | .str _=>"str"
 | .list _=>"list"
 | .tuple _=>"tuple"
 | .dict _=>"dict"
noncomputable def isiD (T : String) (d : PyData) : Option PyData:=match d with
 | .dict _=>none
 | _=>some (.bool (tyD d == T || (tyD d == "bool" && T == "int")))
noncomputable def rIsi (K : PySem.W.Frag) (T : String) : List V→Hp→VK→Prop:=fun xs H Q=>∃ x d b,xs = [x,.ty T]∧Has K H d x∧PySem.W.kitOne K (.type (tyD d)) (.type T) = some b∧Q (.bl b) H
theorem cIsi {X : Cx} {T : String} : CallR X (.builtin "isinstance") (rIsi X.K T):=by
 intro pins s σ H xs us Q I r h
 obtain ⟨x,d,b,rfl,hd,e,q⟩:=h
 cases r with
 | cons rx rr =>
  cases rr with
  | cons r2 rr =>
   cases rr
   rename_i u u2
   cases (show u2 = Value.type T from r2)
   have fin : ∀ tk,EP X pins σ Q (.bool b) { s with toks:=tk }:=fun tk=>⟨.bl b,H,I.kept (t':=tk) fun _ _ h=>h,rfl,q⟩
   cases d with
   | none=>cases (show x = .non from hd); cases (show u = Value.none from rx); exact PySem.W.kia_one PySem.W.kitx_none I.kIn True.intro e (fun z=>nomatch z) fin
   | bool y=>cases (show x = .bl y from hd); cases (show u = Value.bool y from rx); exact PySem.W.kia_one PySem.W.kitx_bool I.kIn True.intro e (fun z=>nomatch z) fin
   | int i=>cases (show x = .int i from hd); obtain ⟨t,q⟩:=(show ∃ t,u = Value.int i t from rx); cases q; exact PySem.W.kia_one PySem.W.kitx_int I.kIn True.intro e (fun z=>nomatch z) fin
   | str y=>cases (show x = .str y from hd.1); obtain ⟨t,q⟩:=(show ∃ t,u = Value.str y t from rx); cases q; exact PySem.W.kia_one PySem.W.kitx_str I.kIn True.intro e (fun z=>nomatch z) fin
   | list ds =>
    obtain ⟨a,ys,rfl,h1,_⟩:=hd
    cases (show u = Value.ref a from rx)
    obtain ⟨its,rv,⟨o,n,e1,c,_,_⟩,hz⟩:=I.list h1
    exact PySem.W.kia_one PySem.W.kitx_list I.kIn ⟨o,e1,c⟩ e (fun z=>nomatch z) fin
   | tuple ds =>
    obtain ⟨a,ys,rfl,h1,_⟩:=hd
    cases (show u = Value.ref a from rx)
    obtain ⟨its,rv,⟨o,e1,c,_⟩,hz⟩:=I.tuple h1
    exact PySem.W.kia_one PySem.W.kitx_tuple I.kIn ⟨o,e1,c⟩ e (fun z=>nomatch z) fin
   | dict k=>exact hd.elim
structure KitT (K : PySem.W.Frag) (T : String) : Prop where
 ok : ∀ d d',isiD T d = some (.bool d')→PySem.W.kitOne K (.type (tyD d)) (.type T) = some d'
noncomputable def vIsi (T : String) (f : VE) : VE:=v1 (isiD T) f
theorem isiD_bool {T : String} {d x : PyData} (h : isiD T d = some x) : ∃ b,x = .bool b:=by
 cases d <;> first | (simp [isiD] at h; done) | (simp only [isiD,Option.some.injEq] at h; exact ⟨_,h.symm⟩)
theorem dIsi {X : Cx} {e : Expr} {T : String} {f : VE} (kt : KitT X.K T) (he : PE X e (tCB (rIsi X.K T) (tCons (tV X.K RW f) (tCons (tC (.ty T)) tNil)))) : PE X e (tV X.K RS (vIsi T f)):=he.imp fun _ H Q q=>by
 obtain ⟨ioA,G,H₀,S,F,I,d,e,q⟩:=q
 unfold vIsi v1 at e
 split at e
 ·rename_i x q1
  obtain ⟨b,rfl⟩:=isiD_bool e
  exact ⟨ioA,G,H₀,S,F,I,x,q1,fun v F1 H1 g1 hx=>⟨v,x,b,rfl,hx,kt.ok x b e,q _ F1 H1 g1 rfl⟩⟩
 ·cases e
noncomputable def vListOf (f : VE) : VE:=fun S=>match f S with
 | some (.list ds)=>some (.list ds)
 | some (.tuple ds)=>some (.list ds)
 | _=>none
end VM
namespace VM
open PySem L2
noncomputable abbrev FnM:=List PyData→Option (Bool × PyData)
noncomputable def RB : Bool→Rel
 | true=>RN
 | false=>RS
noncomputable def spV (K : PySem.W.Frag) (m : FnM) : Sp:=fun vs H Q _=>∃ G ds,Same G H∧HasL K G ds vs∧∃ b d,m ds = some (b,d)∧∀ v F' H',Grow G H F' H'→RB b K G H F' H' d v→Q v H'
noncomputable def vCall (m : FnM) (fs : VA) : VE:=fun S=>match fs S with
 | some ds=>match m ds with
  | some (_,d)=>some d
  | none=>none
 | none=>none
noncomputable def vCallN (m : FnM) (fs : VA) : VE:=fun S=>match fs S with
 | some ds=>match m ds with
  | some (true,d)=>some d
  | _=>none
 | none=>none
noncomputable def immR : Bool→PyData→Bool
 | true,.list ds=>immL ds
 | true,_=>false
 | false,d=>imm d
noncomputable def vCallW (m : FnM) (fs : VA) : VE:=fun S=>match fs S with
 | some ds=>match m ds with
  | some (b,d)=>if immR b d = true then some d else none
  | none=>none
 | none=>none
noncomputable def vCallWN (m : FnM) (fs : VA) : VE:=fun S=>match fs S with
 | some ds=>match m ds with
  | some (true,.list es)=>if immL es = true then some (.list es) else none
  | _=>none
 | none=>none
section
variable {X : Cx} {e : Expr} {m : FnM} {fs : VA}
theorem dCal (he : PE X e (tCall (spV X.K m) [] E0 (tVA X.K fs))) : PE X e (tV X.K RS (vCall m fs)):=he.imp fun _ H Q q=>by
 obtain ⟨ioA,G,H₀,S,F,I,d,e,q⟩:=q
 unfold vCall at e
 split at e
 ·rename_i ds q1
  split at e
  ·rename_i b d' q2
   cases e
   refine ⟨ioA,G,H₀,S,F,I,ds,q1,fun vs F1 H1 g1 hx=>?_⟩
   show spV X.K m (vs ++ []) H1 Q E0
   rw [List.append_nil]
   refine ⟨F1,ds,g1.fh,hx,b,_,q2,fun v F' H' g hv=>?_⟩
   cases b with
   | false=>exact q v F' H' (g1.trans g) hv
   | true =>
    obtain ⟨F'',g2,r2⟩:=RN.frz g hv
    exact q v F'' H' (g1.trans g2) r2
  ·cases e
 ·cases e
theorem dCalN (he : PE X e (tCall (spV X.K m) [] E0 (tVA X.K fs))) : PE X e (tV X.K RN (vCallN m fs)):=he.imp fun _ H Q q=>by
 obtain ⟨ioA,G,H₀,S,F,I,d,e,q⟩:=q
 unfold vCallN at e
 split at e
 ·rename_i ds q1
  split at e
  ·rename_i d' q2
   cases e
   refine ⟨ioA,G,H₀,S,F,I,ds,q1,fun vs F1 H1 g1 hx=>?_⟩
   show spV X.K m (vs ++ []) H1 Q E0
   rw [List.append_nil]
   refine ⟨F1,ds,g1.fh,hx,true,_,q2,fun v F' H' g hv=>?_⟩
   obtain ⟨es,a,xs,h1,h2,h3,h4,h5,h6⟩:=hv
   exact q v F' H' (g1.trans g) ⟨es,a,xs,h1,h2,g1.hh.free h3,h4,h5,h6⟩
  ·cases e
 ·cases e
end
structure ItOk (K : PySem.W.Frag) (F : Hp) (J : It) (ds : List PyData) : Prop where
 go : ∀ (i : Nat) d F' H',ds[i]? = some d→Same F F'→Same F' H'→J.go i H'∧∀ x H'',J.yld i H' x H''→∃ F'',Grow F' H' F'' H''∧Has K F'' d x
 stop : ∀ (i : Nat) F' H',ds.length≤i→Same F F'→Same F' H'→J.stop i H'
noncomputable def tVI (K : PySem.W.Frag) (f : VA) : TI:=fun σ H R=>∃ ioA G H₀ S F,VI K ioA G H₀ S F σ H∧∃ ds,f S = some ds∧∀ J F' H',Grow F H F' H'→ItOk K F' J ds→R J H'
noncomputable def vItems (f : VE) : VA:=fun S=>match f S with
 | some (.list ds)=>some ds
 | _=>none
noncomputable def vItemsT (f : VE) : VA:=fun S=>match f S with
 | some (.tuple ds)=>some ds
 | _=>none
noncomputable def rangeD (lo : Int) (n : Nat) : List PyData:=(List.range n).map fun (i : Nat)=>PyData.int (lo + i)
noncomputable def vRng1 (fs : VA) : VA:=fun S=>match fs S with
 | some [.int j]=>@ite _ (-(2 ^ 62)≤j∧j < 2 ^ 62) (Classical.propDecidable _) (some (rangeD 0 j.toNat)) none
 | _=>none
noncomputable def vRng2 (fs : VA) : VA:=fun S=>match fs S with
 | some [.int i,.int j]=>@ite _ ((-(2 ^ 62)≤i∧i < 2 ^ 62)∧-(2 ^ 62)≤j∧j < 2 ^ 62) (Classical.propDecidable _) (some (rangeD i (j - i).toNat)) none
 | _=>none
noncomputable def enumD : Nat→List PyData→List PyData
 | _,[]=>[]
 | i,d :: r=>.tuple [.int i,d] :: enumD (i + 1) r
noncomputable def zipD (ds es : List PyData) : List PyData:=List.zipWith (fun a b=>PyData.tuple [a,b]) ds es
noncomputable def vEnum (fs : VA) : VA:=fun S=>match fs S with
 | some [.list ds]=>some (enumD 0 ds)
 | _=>none
noncomputable def vZip (fs : VA) : VA:=fun S=>match fs S with
 | some [.list ds,.list es]=>some (zipD ds es)
 | _=>none
section
variable {X : Cx} {tg l : Expr} {f : VE} {fs : VA} {p pos tpos : Pos} {elts : List Expr} {k : Nat}
theorem itok_list {K : PySem.W.Frag} {F : Hp} {a : Addr} {xs : List V} {ds : List PyData} (h1 : SqL K F a xs) (h2 : HasL K F ds xs) : ItOk K F (Itl K a) ds where
 go:=fun i d F' H' e f1 f2=>by
  obtain ⟨v,ev,hv⟩:=h2.at e
  have hq:=(f1.trans f2).seq h1
  refine ⟨⟨xs,v,hq,ev⟩,fun x H'' y=>?_⟩
  obtain ⟨e1,y⟩:=y
  subst e1
  have:=y xs hq
  rw [ev] at this
  cases this
  exact ⟨F',Grow.refl f2,Has.same f1 hv⟩
 stop:=fun i F' H' e f1 f2=>⟨xs,(f1.trans f2).seq h1,by rw [← h2.length]; exact e⟩
theorem itok_rng {K : PySem.W.Frag} {F : Hp} {lo : Int} {n : Nat} : ItOk K F (Itr lo n) (rangeD lo n) where
 go:=fun i d F' H' e f1 f2=>by
  unfold rangeD at e
  rw [List.getElem?_map] at e
  by_cases hi : i < n
  ·rw [List.getElem?_range hi] at e
   cases e
   refine ⟨hi,fun x H'' y=>?_⟩
   obtain ⟨e1,e2⟩:=y
   subst e1 e2
   exact ⟨F',Grow.refl f2,rfl⟩
  ·rw [List.getElem?_eq_none (by simp; omega)] at e
   cases e
 stop:=fun i F' H' e f1 f2=>by
  unfold rangeD at e
  show n≤i
  simpa using e
theorem itL (hl : PE X l (tV X.K RS f)) : PI X tg l (tVI X.K (vItems f)):=PI.imp (pi_list hl) fun _ H Q q=>by
 obtain ⟨ioA,G,H₀,S,F,I,ds,e,q⟩:=q
 unfold vItems at e
 split at e
 ·rename_i q1
  cases e
  refine ⟨ioA,G,H₀,S,F,I,_,q1,fun v F' H' g hv=>?_⟩
  obtain ⟨a,xs,rfl,h1,h2⟩:=hv
  exact ⟨a,rfl,⟨xs,g.fh.seq h1⟩,q _ F' H' g (itok_list h1 h2)⟩
 ·cases e
theorem itR1 (h : PI X tg l (iRng1 (tVAW X.K fs))) : PI X tg l (tVI X.K (vRng1 fs)):=PI.imp h fun _ H Q q=>by
 obtain ⟨ioA,G,H₀,S,F,I,ds,e,q⟩:=q
 unfold vRng1 at e
 split at e
 ·rename_i j q1
  split at e
  ·rename_i hj
   cases e
   refine ⟨ioA,G,H₀,S,F,I,_,q1,fun vs F' H' g hv=>?_⟩
   obtain ⟨v,rfl,hv'⟩:=HasL.one hv
   have ev : v = .int j:=hv'
   exact ⟨j,by rw [ev],hj.1,hj.2,q _ F' H' g itok_rng⟩
  ·cases e
 ·cases e
end
section
variable {K : PySem.W.Frag} {ioA : Nat→Option Addr} {G H₀ F H : Hp} {S : GS} {σ : St}
theorem VI.set (I : VI K ioA G H₀ S F σ H) {i : Nat} {d : PyData} {v : V} (hd : Has K F d v) : VI K ioA G H₀ (S.set i (some (.fr,d))) F (σ.set i (some v)) H where
 pl:=I.pl
 len:=by rw [List.length_set,List.length_set]; exact I.len
 same:=I.same
 gf:=I.gf
 new:=I.new
 sub:=I.sub
 slot:=fun j t d' e=>by
  by_cases hj : j = i
  ·subst hj
   by_cases hl : j < S.length
   ·rw [List.getElem?_set_self hl] at e
    cases e
    exact ⟨v,List.getElem?_set_self (by rw [← I.len]; exact hl),hd⟩
   ·rw [List.getElem?_eq_none (by rw [List.length_set]; omega)] at e
    cases e
  ·rw [List.getElem?_set_ne (Ne.symm hj)] at e ⊢
   exact I.slot j t d' e
 inj:=fun j k t t' d1 d2 u e1 e2 n1 n2 v1 v2=>by
  have h1 : j ≠ i:=fun z=>by
   subst z
   by_cases hl : j < S.length
   ·rw [List.getElem?_set_self hl] at e1; cases e1; exact (Bool.false_ne_true n1)
   ·rw [List.getElem?_eq_none (by rw [List.length_set]; omega)] at e1; cases e1
  have h2 : k ≠ i:=fun z=>by
   subst z
   by_cases hl : k < S.length
   ·rw [List.getElem?_set_self hl] at e2; cases e2; exact (Bool.false_ne_true n2)
   ·rw [List.getElem?_eq_none (by rw [List.length_set]; omega)] at e2; cases e2
  rw [List.getElem?_set_ne (Ne.symm h1)] at e1 v1
  rw [List.getElem?_set_ne (Ne.symm h2)] at e2 v2
  exact I.inj j k t t' d1 d2 u e1 e2 n1 n2 v1 v2
end
noncomputable abbrev VG:=PyData→GS→Option GS
noncomputable abbrev VGs:=List PyData→GS→Option GS
noncomputable def noIo (S : GS) (i : Nat) : Bool:=match S[i]? with
 | some (some (.io,_))=>false
 | _=>true
noncomputable def gN (i : Nat) : VG:=fun d S=>if noIo S i = true then some (S.set i (some (.fr,d))) else none
noncomputable def g0 : VGs:=fun ds S=>match ds with
 | []=>some S
 | _=>none
noncomputable def gC (t : VG) (u : VGs) : VGs:=fun ds S=>match ds with
 | d :: r=>match t d S with
  | some S1=>u r S1
  | none=>none
 | []=>none
noncomputable def gT (n : Nat) (u : VGs) : VG:=fun d S=>match d with
 | .tuple ds=>if ds.length = n then u ds S else none
 | _=>none
noncomputable def tVG (K : PySem.W.Frag) (t : VG) (js : List Nat) : TG:=fun v σ H Q=>∃ ioA G H₀ S F,VI K ioA G H₀ S F σ H∧∃ d S',Has K F d v∧t d S = some S'∧∀ σ',(∀ (j : Nat),j ∉ js→σ'[j]? = σ[j]?)→VI K ioA G H₀ S' F σ' H→Q σ' H
section
variable {X : Cx} {e : Expr} {es : List Expr} {t : VG} {u : VGs} {js ks : List Nat} {pos : Pos}
theorem tgN {i : Nat} (h : PG X e (gName i)) : PG X e (tVG X.K (gN i) [i]):=PG.imp h fun v σ H Q q=>by
 obtain ⟨ioA,G,H₀,S,F,I,d,S',hd,e,q⟩:=q
 unfold gN at e
 split at e
 ·cases e
  exact q _ (fun j hj=>List.getElem?_set_ne (fun z=>hj (by simp [z]))) (I.set hd)
 ·cases e
theorem PGs.imp {t t' : TGs} (h : PGs X es t) (ht : ∀ v σ H Q,t' v σ H Q→t v σ H Q) : PGs X es t':=fun pins s σ H v u Q I r q=>h pins s σ H v u Q I r (ht v σ H Q q)
end
noncomputable def capOne (S : GS) : Option Nat→Option (Tg × PyData)
 | none=>none
 | some j=>match S[j]? with
  | some (some (.fr,d))=>some (.fr,d)
  | some (some (.ow,d))=>some (.fr,d)
  | some (some (.io,d))=>some (.fr,d)
  | _=>none
noncomputable def capFr (S : GS) : List (Option Nat)→Bool
 | []=>true
 | none :: r=>capFr S r
 | some j :: r=>(match S[j]? with
  | some (some (.fr,_))=>true
  | some (some _)=>false
  | _=>true) && capFr S r
noncomputable def capG (cap : List (Option Nat)) (S : GS) : GS:=cap.map (capOne S)
noncomputable def lcD (t : VG) (fc : VT) (fe : VE) (S : GS) : List PyData→Option (List PyData)
 | []=>some []
 | d :: r=>match t d S with
  | none=>none
  | some S2=>match fc S2 with
   | none=>none
   | some false=>lcD t fc fe S r
   | some true=>match fe S2 with
    | none=>none
    | some e=>match lcD t fc fe S r with
     | none=>none
     | some es=>some (e :: es)
noncomputable def vLC (fi : VA) (cap : List (Option Nat)) (t : VG) (fc : VT) (fe : VE) : VE:=fun S=>match fi S with
 | some ds=>@ite _ (capFr S cap = true∧ds.length < sizeLine) (Classical.propDecidable _) (match lcD t fc fe (capG cap S) ds with
  | some es=>some (.list es)
  | none=>none) none
 | none=>none
noncomputable def vLCW (fi : VA) (cap : List (Option Nat)) (t : VG) (fc : VT) (fe : VE) : VE:=fun S=>match fi S with
 | some ds=>@ite _ (ds.length < sizeLine) (Classical.propDecidable _) (match lcD t fc (vImm fe) (capG cap S) ds with
  | some es=>some (.list es)
  | none=>none) none
 | none=>none
theorem capG_get {cap : List (Option Nat)} {S : GS} {i : Nat} {t : Tg} {d : PyData} (h : (capG cap S)[i]? = some (some (t,d))) : ∃ j t',cap[i]? = some (some j)∧S[j]? = some (some (t',d))∧t'.dat = true∧t = .fr:=by
 unfold capG at h
 rw [List.getElem?_map] at h
 cases q : cap[i]? with
 | none=>rw [q] at h; cases h
 | some o =>
  rw [q] at h
  cases o with
  | none=>simp [capOne] at h
  | some j =>
   simp only [Option.map_some,capOne,Option.some.injEq] at h
   split at h
   ·rename_i d' hS
    cases h
    exact ⟨j,.fr,rfl,hS,rfl,rfl⟩
   ·rename_i d' hS
    cases h
    exact ⟨j,.ow,rfl,hS,rfl,rfl⟩
   ·rename_i d' hS
    cases h
    exact ⟨j,.io,rfl,hS,rfl,rfl⟩
   ·cases h
theorem capFr_get {S : GS} : ∀ {cap : List (Option Nat)} {i j : Nat} {t : Tg} {d : PyData},capFr S cap = true→cap[i]? = some (some j)→S[j]? = some (some (t,d))→t = .fr
 | [],i,j,t,d,_,h,_=>by simp at h
 | none :: r,0,j,t,d,_,h,_=>by simp at h
 | none :: r,i + 1,j,t,d,hc,h,hs=>capFr_get (cap:=r) (i:=i) hc (by simpa using h) hs
 | some k :: r,0,j,t,d,hc,h,hs=>by
  have e : k = j:=by simpa using h
  subst e
  unfold capFr at hc
  rw [hs] at hc
  cases t <;> simp at hc ⊢
 | some k :: r,i + 1,j,t,d,hc,h,hs=>by
  unfold capFr at hc
  rw [Bool.and_eq_true] at hc
  exact capFr_get (cap:=r) (i:=i) hc.2 (by simpa using h) hs
theorem capSt_get {cap : List (Option Nat)} {σ : St} {i j : Nat} {v : V} (h : cap[i]? = some (some j)) (hs : σ[j]? = some (some v)) : (capSt cap σ)[i]? = some (some v):=by
 unfold capSt
 rw [List.getElem?_map,h]
 simp only [Option.map_some,hs]
section
variable {K : PySem.W.Frag} {ioA : Nat→Option Addr} {G H₀ F H : Hp} {S : GS} {σ : St} {cap : List (Option Nat)}
theorem VI.block (I : VI K ioA G H₀ S F σ H) {R : Hp} (hR : Same R H) (hv : ∀ (i j : Nat) t d v,cap[i]? = some (some j)→S[j]? = some (some (t,d))→σ[j]? = some (some v)→t.dat = true→SlotOk K ioA H₀ F H j t d v→Has K R d v) :
  VI K (fun _=>none) R H (capG cap S) R (capSt cap σ) H where
 pl:=fun _ _ _ e=>e
 len:=by unfold capG capSt; rw [List.length_map,List.length_map]
 same:=Same.refl _
 gf:=Same.refl _
 new:=fun _ _ e=>.inl e
 sub:=hR
 slot:=fun i t d e=>by
  obtain ⟨j,t',h1,h2,h3,rfl⟩:=capG_get e
  obtain ⟨v,hv1,hs⟩:=I.slot j t' d h2
  exact ⟨v,capSt_get h1 hv1,hv i j t' d v h1 h2 hv1 h3 hs⟩
 inj:=fun i j t t' d d' v e1 _ n1=>by
  obtain ⟨_,_,_,_,_,rfl⟩:=capG_get e1
  exact absurd n1 Bool.false_ne_true
theorem VI.block_fr (I : VI K ioA G H₀ S F σ H) (hc : capFr S cap = true) : VI K (fun _=>none) F H (capG cap S) F (capSt cap σ) H :=
 I.block I.sub fun i j t d v h1 h2 _ _ hs=>by
  have:=capFr_get hc h1 h2
  subst this
  exact hs
end
theorem capK_of {cap : List (Option Nat)} {σ σ' : St} {js : List Nat} (hjs : (js.all fun j=>cap[j]? == some none) = true) (k : ∀ (j : Nat),j ∉ js→σ'[j]? = (capSt cap σ)[j]?) : CapK (capSt cap σ) σ':=fun j v e=>by
 by_cases hj : j∈js
 ·have:=List.all_eq_true.mp hjs j hj
  have hc : cap[j]? = some none:=by simpa using this
  unfold capSt at e
  rw [List.getElem?_map,hc] at e
  simp at e
 ·rw [k j hj]; exact e
theorem rdLC' {K : PySem.W.Frag} {fi : VA} {cap : List (Option Nat)} {t : VG} {js : List Nat} {fc : VT} {fe fe' : VE} (hjs : (js.all fun j=>cap[j]? == some none) = true) {σ : St} {H : Hp} {Q : VK} {ioA : Nat→Option Addr} {G H₀ F : Hp} {S : GS} {ds es : List PyData}
  (I : VI K ioA G H₀ S F σ H) (e1 : fi S = some ds) (hlen : ds.length < sizeLine) (e2 : lcD t fc fe (capG cap S) ds = some es)
  (Rf : Hp→Hp→Hp) (hb : ∀ F' H',Grow F H F' H'→VI K (fun _=>none) (Rf F' H') H' (capG cap S) (Rf F' H') (capSt cap σ) H'∧Same F' (Rf F' H'))
  (hr : ∀ (F' H' F2 H2 : Hp) S2 d v,fe S2 = some d→Same F' H'→Grow (Rf F' H') H' F2 H2→Has K F2 d v→∃ F3,Grow F' H' F3 H2∧Has K F3 d v) (hfe : ∀ S d,fe S = some d→fe' S = some d)
  (q : ∀ v F' H',Grow F H F' H'→RN K F H F' H' (.list es) v→Q v H') : tLC (tVI K fi) cap (tVG K t js) (tVT K fc) (tV K RS fe') σ H Q:=by
 refine ⟨ioA,G,H₀,S,F,I,ds,e1,fun J F1 H1 g1 it D hD=>?_⟩
 refine ⟨fun i m H'=>∃ F' es1 es2 ys,m = ds.length - i∧i≤ds.length∧H' D = some (.lst ys)∧F' D = none∧HasL K F' es1 ys∧Grow F1 H1 F' H'∧es1.length≤i∧lcD t fc fe (capG cap S) (ds.drop i) = some es2∧es1 ++ es2 = es,?_,?_⟩
 ·exact ⟨_,F1,[],es,[],rfl,Nat.zero_le _,upd_same,g1.fh.free hD,rfl,Grow.alloc g1.fh hD,Nat.zero_le _,e2,rfl⟩
 ·rintro i m H' ⟨F',es1,es2,ys,rfl,hi,hDl,hFD,hh,g,hle,hr2,happ⟩
  by_cases hlt : i < ds.length
  ·have hd : ds[i]? = some ds[i]:=by simp [hlt]
   rw [List.drop_eq_getElem_cons hlt] at hr2
   obtain ⟨go,yl⟩:=it.go i ds[i] F' H' hd g.ff g.fh
   refine .inr ⟨go,fun x H2 y=>?_⟩
   obtain ⟨F2,g2,hx⟩:=yl x H2 y
   obtain ⟨IB,hR⟩:=hb F2 H2 ((g1.trans g).trans g2)
   have hr':=hr F2 H2
   generalize Rf F2 H2 = R at *
   generalize ds[i] = d0 at *
   unfold lcD at hr2
   cases q1 : t d0 (capG cap S) with
   | none=>rw [q1] at hr2; cases hr2
   | some S2 =>
    rw [q1] at hr2
    simp only at hr2
    refine ⟨fun _=>none,R,H2,capG cap S,R,IB,d0,S2,Has.same hR hx,q1,fun σ2 k2 I2=>⟨capK_of hjs k2,?_⟩⟩
    have D2 : H2 D = some (.lst ys):=g2.hh _ _ hDl
    cases q2 : fc S2 with
    | none=>rw [q2] at hr2; cases hr2
    | some b =>
     rw [q2] at hr2
     refine ⟨fun _=>none,R,H2,S2,R,I2,b,q2,fun F3 H3 g3=>?_⟩
     cases b with
     | false =>
      simp only [Bool.false_eq_true,if_false]
      have gg : Grow F' H' F2 H3:=⟨g2.hh.trans g3.hh,g2.ff,hR.trans (g3.ff.trans g3.fh),g2.new,g2.pl⟩
      have hF2 : F2 D = none:=by
       cases z : F2 D with
       | none=>rfl
       | some o =>
        rcases g2.new D o z with w | w | w
        ·rw [hFD] at w; cases w
        ·rw [hDl] at w; cases w
        ·have:=g2.fh D o z
         rw [D2] at this; cases this; simp [imo] at w
      exact ⟨ds.length - (i + 1),by omega,F2,es1,es2,ys,rfl,hlt,g3.hh _ _ D2,hF2,hh.same g2.ff,g.trans gg,by omega,hr2,happ⟩
     | true =>
      simp only [if_true] at hr2 ⊢
      cases q3 : fe S2 with
      | none=>rw [q3] at hr2; cases hr2
      | some e0 =>
       rw [q3] at hr2
       simp only at hr2
       cases q4 : lcD t fc fe (capG cap S) (ds.drop (i + 1)) with
       | none=>rw [q4] at hr2; cases hr2
       | some es3 =>
        rw [q4] at hr2
        cases hr2
        refine ⟨fun _=>none,R,H2,S2,F3,I2.grow g3,e0,hfe _ _ q3,fun v F4 H4 g4 hv=>?_⟩
        obtain ⟨F5,g5,hv5⟩:=hr' F4 H4 S2 e0 v q3 g2.fh (g3.trans g4) hv
        have D4 : H4 D = some (.lst ys):=g5.hh _ _ D2
        have g25:=g2.trans g5
        have hF5 : F5 D = none:=by
         cases z : F5 D with
         | none=>rfl
         | some o =>
          rcases g25.new D o z with w | w | w
          ·rw [hFD] at w; cases w
          ·rw [hDl] at w; cases w
          ·have:=g25.fh D o z
           rw [D4] at this; cases this; simp [imo] at w
        have hly:=hh.length
        refine ⟨ys,D4,by omega,ds.length - (i + 1),by omega,F5,es1 ++ [e0],es3,ys ++ [v],rfl,hlt,upd_same,hF5,HasL.snoc hv5 (hh.same g25.ff),?_,by simp; omega,rfl,by simpa using happ⟩
        have g15:=g.trans g25
        refine ⟨fun b o e=>?_,g15.ff,fun b o e=>?_,g15.new,g15.pl⟩
        ·rw [upd_ne (ne_of_none e hD)]; exact g15.hh b o e
        ·rw [upd_ne (ne_of_none e hF5)]; exact g15.fh b o e
  ·have hie : i = ds.length:=by omega
   subst hie
   rw [List.drop_eq_nil_of_le (Nat.le_refl _)] at hr2
   cases hr2
   rw [List.append_nil] at happ
   subst happ
   refine .inl ⟨it.stop _ F' H' (Nat.le_refl _) g.ff g.fh,q _ F' H' (g1.trans g) ⟨_,D,ys,rfl,rfl,g1.hh.free hD,hFD,hDl,hh⟩⟩
theorem rdLC {K : PySem.W.Frag} {fi : VA} {cap : List (Option Nat)} {t : VG} {js : List Nat} {fc : VT} {fe : VE} (hjs : (js.all fun j=>cap[j]? == some none) = true) {σ : St} {H : Hp} {Q : VK} (q : tV K RN (vLC fi cap t fc fe) σ H Q) :
  tLC (tVI K fi) cap (tVG K t js) (tVT K fc) (tV K RS fe) σ H Q:=by
 obtain ⟨ioA,G,H₀,S,F,I,d,e,q⟩:=q
 unfold vLC at e
 split at e
 ·rename_i ds e1
  split at e
  ·rename_i hc
   split at e
   ·rename_i es e2
    cases e
    exact rdLC' hjs I e1 hc.2 e2 (fun F' _=>F') (fun F' H' g=>⟨(I.grow g).block_fr hc.1,Same.refl _⟩) (fun F' H' F2 H2 S2 d v _ _ g2 hv=>⟨F2,g2,hv⟩) (fun _ _ h=>h) q
   ·cases e
  ·cases e
 ·cases e
noncomputable def cTrue : VT:=fun _=>some true
theorem PIfs.imp {X : Cx} {ifs : List Expr} {t t' : TT} (h : PIfs X ifs t) (ht : ∀ σ H Q,t' σ H Q→t σ H Q) : PIfs X ifs t':=fun pins s σ H Q I q=>h pins s σ H Q I (ht σ H Q q)
theorem ifN {X : Cx} : PIfs X [] (tVT X.K cTrue):=PIfs.imp pif_nil fun _ H Q q=>by
 obtain ⟨ioA,G,H₀,S,F,I,b,e,q⟩:=q
 cases e
 exact q F H (Grow.refl I.sub)
theorem dLC {X : Cx} {e : Expr} {fi : VA} {cap : List (Option Nat)} {t : VG} {js : List Nat} {fc : VT} {fe : VE} (he : PE X e (tLC (tVI X.K fi) cap (tVG X.K t js) (tVT X.K fc) (tV X.K RS fe))) (hjs : (js.all fun j=>cap[j]? == some none) = true:=by rfl) : PE X e (tV X.K RN (vLC fi cap t fc fe)) :=
 he.imp fun _ _ _ q=>rdLC hjs q
end VM
namespace VM
open PySem L2
inductive Out where
 | fail
 | nxt (S : GS)
 | ret (S : GS) (b : Bool) (d : PyData)
 | brk (S : GS)
 | cnt (S : GS)
noncomputable abbrev VS:=GS→Out
noncomputable def RR (K : PySem.W.Frag) (H₀ : Hp) (S : GS) (σ : St) (F H : Hp) : Bool→PyData→V→Prop
 | false,d,v=>Has K F d v
 | true,d,v=>OwnAt K H₀ F H d v∧∀ (i : Nat) t d',S[i]? = some (some (t,d'))→t.own = true→σ[i]? ≠ some (some v)
noncomputable def OutOk (K : PySem.W.Frag) (ioA : Nat→Option Addr) (G H₀ : Hp) (D : Ends) : Out→Prop
 | .fail=>False
 | .nxt S=>∀ F σ H,VI K ioA G H₀ S F σ H→D.nx σ H
 | .brk S=>∀ F σ H,VI K ioA G H₀ S F σ H→D.bk σ H
 | .cnt S=>∀ F σ H,VI K ioA G H₀ S F σ H→D.ct σ H
 | .ret S b d=>∀ v F σ H,VI K ioA G H₀ S F σ H→RR K H₀ S σ F H b d v→D.rt v H
noncomputable def tVS (K : PySem.W.Frag) (g : VS) : TS:=fun D σ H=>∃ ioA G H₀ S F,VI K ioA G H₀ S F σ H∧OutOk K ioA G H₀ D (g S)
section
variable {K : PySem.W.Frag} {ioA : Nat→Option Addr} {G H₀ F H F' H' : Hp} {S : GS} {σ : St} {D : Ends}
theorem VI.self (I : VI K ioA G H₀ S F σ H) : VI K ioA F H₀ S F σ H:=⟨I.len,I.same,Same.refl _,fun _ _ e=>.inl e,I.sub,I.slot,I.inj,fun _ _ _ e=>e⟩
theorem VI.rebase {S' : GS} {σ' : St} (I : VI K ioA G H₀ S F σ H) (J : VI K ioA F H₀ S' F' σ' H') : VI K ioA G H₀ S' F' σ' H':=⟨J.len,J.same,I.gf.trans J.gf,fun a o e=>by
 rcases J.new a o e with z | z | z
 ·exact I.new a o z
 ·exact .inr (.inl z)
 ·exact .inr (.inr z),J.sub,J.slot,J.inj,fun a o u e=>I.pl a o u (J.pl a o u e)⟩
end
noncomputable def gNop : VS:=fun S=>.nxt S
noncomputable def gSeq (g1 g2 : VS) : VS:=fun S=>match g1 S with
 | .nxt S1=>g2 S1
 | o=>o
noncomputable def gIf (c : VT) (g1 g2 : VS) : VS:=fun S=>match c S with
 | some true=>g1 S
 | some false=>g2 S
 | none=>.fail
section
variable {X : Cx} {s : Stmt} {rest a b : List Stmt} {g g1 g2 : VS} {c : Expr} {tc : VT} {pos : Pos}
theorem sNil : PSs X [] (tVS X.K gNop):=PSs.imp pss_nil fun D σ H q=>by
 obtain ⟨ioA,G,H₀,S,F,I,q⟩:=q
 exact q F σ H I
theorem sOne (h : PS X s (tVS X.K g)) : PSs X [s] (tVS X.K g):=pss_one h
theorem sSeq (h1 : PS X s (tVS X.K g1)) (h2 : PSs X rest (tVS X.K g2)) : PSs X (s :: rest) (tVS X.K (gSeq g1 g2)):=PSs.imp (pss_cons h1 h2) fun D σ H q=>by
 obtain ⟨ioA,G,H₀,S,F,I,q⟩:=q
 refine ⟨ioA,G,H₀,S,F,I,?_⟩
 unfold gSeq at q
 cases e : g1 S with
 | fail=>rw [e] at q; exact q
 | brk S1=>rw [e] at q; exact q
 | cnt S1=>rw [e] at q; exact q
 | ret S1 b d=>rw [e] at q; exact q
 | nxt S1=>rw [e] at q; exact fun F' σ' H' I'=>⟨ioA,G,H₀,S1,F',I',q⟩
theorem sIf (hc : PT X c (tVT X.K tc)) (ha : PSs X a (tVS X.K g1)) (hb : PSs X b (tVS X.K g2)) : PS X (.If c a b pos) (tVS X.K (gIf tc g1 g2)):=PS.imp (ps_if hc ha hb) fun D σ H q=>by
 obtain ⟨ioA,G,H₀,S,F,I,q⟩:=q
 unfold gIf at q
 cases e : tc S with
 | none=>rw [e] at q; exact q.elim
 | some k =>
  rw [e] at q
  refine ⟨ioA,G,H₀,S,F,I,k,e,fun F' H' g=>?_⟩
  cases k with
  | true=>simp only [if_true]; exact ⟨ioA,G,H₀,S,F',I.grow g,q⟩
  | false=>simp only [Bool.false_eq_true,if_false]; exact ⟨ioA,G,H₀,S,F',I.grow g,q⟩
noncomputable def gFail : VS:=fun _=>.fail
theorem sNever : PS X s (tVS X.K gFail):=PS.imp ps_never fun D σ H q=>by
 obtain ⟨_,_,_,_,_,_,q⟩:=q
 exact q
end
noncomputable def gRet (f : VE) : VS:=fun S=>match f S with
 | some d=>.ret S false d
 | none=>.fail
noncomputable def gRetN (f : VE) : VS:=fun S=>match f S with
 | some d=>.ret S true d
 | none=>.fail
noncomputable def gRetO (i : Nat) : VS:=fun S=>match S[i]? with
 | some (some (.ow,d))=>.ret (S.set i none) true d
 | some (some (.fr,d))=>.ret S false d
 | _=>.fail
section
variable {K : PySem.W.Frag} {ioA : Nat→Option Addr} {G H₀ F H F' H' : Hp} {S : GS} {σ : St}
theorem set_none_get {S : GS} {i j : Nat} {x : Tg × PyData} (h : (S.set i none)[j]? = some (some x)) : j ≠ i∧S[j]? = some (some x):=by
 by_cases hj : j = i
 ·subst hj
  by_cases hl : j < S.length
  ·rw [List.getElem?_set_self hl] at h; cases h
  ·rw [List.getElem?_eq_none (by rw [List.length_set]; omega)] at h; cases h
 ·rw [List.getElem?_set_ne (Ne.symm hj)] at h; exact ⟨hj,h⟩
theorem VI.drop (I : VI K ioA G H₀ S F σ H) (i : Nat) : VI K ioA G H₀ (S.set i none) F σ H where
 pl:=I.pl
 len:=by rw [List.length_set]; exact I.len
 same:=I.same
 gf:=I.gf
 new:=I.new
 sub:=I.sub
 slot:=fun j t d e=>I.slot j t d (set_none_get e).2
 inj:=fun j k t t' d d' v e1 e2=>I.inj j k t t' d d' v (set_none_get e1).2 (set_none_get e2).2
theorem own_alloc (I : VI K ioA G H₀ S F σ H) {i : Nat} {t : Tg} {d : PyData} {a : Addr} (e : S[i]? = some (some (t,d))) (ht : t.own = true) (hv : σ[i]? = some (some (.ref a))) : ∃ xs,H a = some xs:=by
 obtain ⟨v,hv',hs⟩:=I.slot i t d e
 rw [hv] at hv'
 cases hv'
 cases t with
 | fr=>cases ht
 | rf=>cases ht
 | ow=>obtain ⟨a',ds,xs,_,e2,e3,_⟩:=hs; cases e2; exact ⟨_,e3⟩
 | io=>obtain ⟨a',ds,xs,_,e2,e3,_⟩:=hs.1; cases e2; exact ⟨_,e3⟩
 | ce=>obtain ⟨a',c,o,_,e2,e3,_⟩:=hs; cases e2; exact ⟨_,e3⟩
theorem RN.own {d : PyData} {v : V} (I : VI K ioA G H₀ S F σ H) (r : RN K F H F' H' d v) : OwnAt K H₀ F' H' d v∧∀ (i : Nat) t d',S[i]? = some (some (t,d'))→t.own = true→σ[i]? ≠ some (some v):=by
 obtain ⟨ds,a,xs,h1,h2,h3,h4,h5,h6⟩:=r
 refine ⟨⟨a,ds,xs,h1,h2,h5,h4,I.same.free h3,h6⟩,fun i t d' e ht hv=>?_⟩
 rw [h2] at hv
 obtain ⟨ys,hy⟩:=own_alloc I e ht hv
 rw [h3] at hy; cases hy
end
section
variable {X : Cx} {e : Expr} {f : VE} {pos : Pos} {s : Stmt}
theorem sRet (he : PE X e (tV X.K RS f)) : PS X (.Return (some e) pos) (tVS X.K (gRet f)):=PS.imp (ps_ret he) fun D σ H q=>by
 obtain ⟨ioA,G,H₀,S,F,I,q⟩:=q
 unfold gRet at q
 cases e : f S with
 | none=>rw [e] at q; exact q.elim
 | some d=>rw [e] at q; exact ⟨ioA,G,H₀,S,F,I,d,e,fun v F' H' g hv=>q v F' σ H' (I.grow g) hv⟩
theorem sRetN (he : PE X e (tV X.K RN f)) : PS X (.Return (some e) pos) (tVS X.K (gRetN f)):=PS.imp (ps_ret he) fun D σ H q=>by
 obtain ⟨ioA,G,H₀,S,F,I,q⟩:=q
 unfold gRetN at q
 cases e : f S with
 | none=>rw [e] at q; exact q.elim
 | some d=>rw [e] at q; exact ⟨ioA,G,H₀,S,F,I,d,e,fun v F' H' g hv=>q v F' σ H' (I.grow g) (RN.own I hv)⟩
theorem sRetO {i : Nat} (he : PE X e (vR i)) : PS X (.Return (some e) pos) (tVS X.K (gRetO i)):=PS.imp (ps_ret he) fun D σ H q=>by
 obtain ⟨ioA,G,H₀,S,F,I,q⟩:=q
 unfold gRetO at q
 split at q
 ·rename_i d hS
  obtain ⟨v,hv,hs⟩:=I.slot i .ow d hS
  show vR i σ H D.rt
  unfold vR; rw [hv]
  refine q v F σ H (I.drop i) ⟨hs,fun j t d' e ht hv'=>?_⟩
  obtain ⟨hj,e⟩:=set_none_get e
  exact hj (I.inj j i t .ow d' d v e hS ht rfl hv' hv)
 ·rename_i d hS
  obtain ⟨v,hv,hs⟩:=I.slot i .fr d hS
  show vR i σ H D.rt
  unfold vR; rw [hv]
  exact q v F σ H I hs
 ·exact q.elim
noncomputable def gEx (f : VE) : VS:=fun S=>match f S with
 | some _=>.nxt S
 | none=>.fail
noncomputable def gAs (f : VE) (t : VG) : VS:=fun S=>match f S with
 | some d=>match t d S with
  | some S'=>.nxt S'
  | none=>.fail
 | none=>.fail
theorem sAs {t : VG} {js : List Nat} (h : PS X s (tAsg (tV X.K RS f) (tVG X.K t js))) : PS X s (tVS X.K (gAs f t)):=PS.imp h fun D σ H q=>by
 obtain ⟨ioA,G,H₀,S,F,I,q⟩:=q
 unfold gAs at q
 cases e : f S with
 | none=>rw [e] at q; exact q.elim
 | some d =>
  rw [e] at q
  simp only at q
  cases e2 : t d S with
  | none=>rw [e2] at q; exact q.elim
  | some S' =>
   rw [e2] at q
   exact ⟨ioA,G,H₀,S,F,I,d,e,fun v F' H' g hv=>⟨ioA,G,H₀,S,F',I.grow g,d,S',hv,e2,fun σ' _ I'=>q F' σ' H' I'⟩⟩
noncomputable def gOw (i : Nat) (f : VE) : VS:=fun S=>match f S with
 | some d=>if noIo S i = true then .nxt (S.set i (some (.ow,d))) else .fail
 | none=>.fail
theorem tAsg_imp {te te' : TE} {g : TG} (h : PS X s (tAsg te g)) (hi : ∀ σ H Q,te' σ H Q→te σ H Q) : PS X s (tAsg te' g):=PS.imp h fun D σ H q=>hi σ H _ q
noncomputable def frz (i : Nat) (S : GS) : GS:=match S[i]? with
 | some (some (.ow,d))=>S.set i (some (.fr,d))
 | _=>S
noncomputable def gFz (i : Nat) (g : VS) : VS:=fun S=>g (frz i S)
theorem VI.frz {K : PySem.W.Frag} {ioA : Nat→Option Addr} {G H₀ F H : Hp} {S : GS} {σ : St} (I : VI K ioA G H₀ S F σ H) (i : Nat) : ∃ F',VI K ioA G H₀ (frz i S) F' σ H:=by
 unfold VM.frz
 split
 ·rename_i d hS
  obtain ⟨v,hv,a,ds,xs,rfl,rfl,e3,e4,e5,e6⟩:=I.slot i .ow d hS
  have hl : i < S.length:=by
   by_cases h : i < S.length
   ·exact h
   ·rw [List.getElem?_eq_none (by omega)] at hS; cases hS
  have s1 : Same F (upd F a (.lst xs)):=same_upd_new e4
  have s2 : Same (upd F a (.lst xs)) H:=fun b o e=>by
   by_cases hb : b = a
   ·subst hb; rw [upd_same] at e; cases e; exact e3
   ·rw [upd_ne hb] at e; exact I.sub b o e
  refine ⟨upd F a (.lst xs),⟨by rw [List.length_set]; exact I.len,I.same,I.gf.trans s1,fun b o e=>?_,s2,fun j t d' e=>?_,fun j k t t' d1 d2 u g1 g2 n1 n2 v1 v2=>?_,fun b x u e=>by
   by_cases hb : b = a
   ·subst hb; rw [upd_same] at e; cases e
   ·rw [upd_ne hb] at e; exact I.pl b x u e⟩⟩
  ·by_cases hb : b = a
   ·subst hb; exact .inr (.inl e5)
   ·rw [upd_ne hb] at e; exact I.new b o e
  ·by_cases hj : j = i
   ·subst hj
    rw [List.getElem?_set_self hl] at e
    cases e
    exact ⟨_,hv,a,xs,rfl,SqL.of upd_same,e6.same s1⟩
   ·rw [List.getElem?_set_ne (Ne.symm hj)] at e
    obtain ⟨u,hu,hs⟩:=I.slot j t d' e
    have ow : t.own = true→OwnAt K H₀ F H d' u→OwnAt K H₀ (upd F a (.lst xs)) H d' u:=fun ht ⟨b,ds',ys,h1,h2,h3,h4,h5,h6⟩=>by
     refine ⟨b,ds',ys,h1,h2,h3,?_,h5,h6.same s1⟩
     have : b ≠ a:=fun z=>by
      subst z
      exact hj (I.inj j i t .ow d' _ _ e hS ht rfl hu (by rw [h2]; exact hv))
     rw [upd_ne this]; exact h4
    refine ⟨u,hu,?_⟩
    cases t with
    | fr=>exact Has.same s1 hs
    | ow=>exact ow rfl hs
    | io=>exact ⟨ow rfl hs.1,hs.2⟩
    | rf=>exact hs
    | ce =>
     obtain ⟨b,c,o,h1,h2,h3,h4,h5,h6⟩:=hs
     refine ⟨b,c,o,h1,h2,h3,?_,h5,h6.same s1⟩
     have : b ≠ a:=fun z=>by
      subst z
      exact hj (I.inj j i .ce .ow d' _ _ e hS rfl rfl hu (by rw [h2]; exact hv))
     rw [upd_ne this]; exact h4
  ·have nj : ∀ {j : Nat} {t : Tg} {d1 : PyData},(S.set i (some (.fr,.list ds)))[j]? = some (some (t,d1))→t.own = true→S[j]? = some (some (t,d1)):=fun {j t d1} g1 n1=>by
    by_cases hj : j = i
    ·subst hj; rw [List.getElem?_set_self hl] at g1; cases g1; exact absurd n1 Bool.false_ne_true
    ·rw [List.getElem?_set_ne (Ne.symm hj)] at g1; exact g1
   exact I.inj j k t t' d1 d2 u (nj g1 n1) (nj g2 n2) n1 n2 v1 v2
 ·exact ⟨F,I⟩
end
section
variable {K : PySem.W.Frag} {ioA : Nat→Option Addr} {G H₀ F H : Hp} {S : GS} {σ : St}
noncomputable def ownL (S : GS) (i : Nat) : Option (Tg × List PyData):=match S[i]? with
 | some (some (.ow,.list ds))=>some (.ow,ds)
 | some (some (.io,.list ds))=>some (.io,ds)
 | _=>none
theorem ownL_some {i : Nat} {t : Tg} {ds : List PyData} (h : ownL S i = some (t,ds)) : S[i]? = some (some (t,.list ds))∧t.own = true:=by
 unfold ownL at h
 split at h
 ·cases h; exact ⟨by assumption,rfl⟩
 ·cases h; exact ⟨by assumption,rfl⟩
 ·cases h
theorem ownL_tag {i : Nat} {t : Tg} {ds : List PyData} (h : ownL S i = some (t,ds)) : t = .ow∨t = .io:=by
 unfold ownL at h
 split at h
 ·cases h; exact .inl rfl
 ·cases h; exact .inr rfl
 ·cases h
theorem VI.own (I : VI K ioA G H₀ S F σ H) {i : Nat} {t : Tg} {ds : List PyData} (h : ownL S i = some (t,ds)) : ∃ a xs,σ[i]? = some (some (.ref a))∧H a = some (.lst xs)∧HasL K F ds xs ∧
  ∀ (ds' : List PyData) (xs' : List V) (F' H' : Hp),Grow F H F' H'→HasL K F' ds' xs'→VI K ioA G H₀ (S.set i (some (t,.list ds'))) F' σ (upd H' a (.lst xs')):=by
 obtain ⟨hS,ht⟩:=ownL_some h
 obtain ⟨v,hv,hs⟩:=I.slot i t _ hS
 have ho : OwnAt K H₀ F H (.list ds) v:=by
  rcases ownL_tag h with rfl | rfl
  ·exact hs
  ·exact hs.1
 obtain ⟨a,ds0,xs,e1,rfl,e3,e4,e5,e6⟩:=ho
 cases e1
 have hl : i < S.length:=by
  by_cases h : i < S.length
  ·exact h
  ·rw [List.getElem?_eq_none (by omega)] at hS; cases hS
 refine ⟨a,xs,hv,e3,e6,fun ds' xs' F' H' g hx=>?_⟩
 have J:=I.grow g
 have hF' : F' a = none:=by
  cases q : F' a with
  | none=>rfl
  | some o =>
   rcases g.new a o q with z | z | z
   ·rw [e4] at z; cases z
   ·rw [e3] at z; cases z
   ·have:=g.fh a o q
    rw [g.hh _ _ e3] at this; cases this; simp [imo] at z
 refine ⟨by rw [List.length_set]; exact I.len,fun b o e=>?_,J.gf,J.new,fun b o e=>?_,fun j t' d' e=>?_,fun j k t1 t2 d1 d2 u g1 g2 n1 n2 v1 v2=>?_,J.pl⟩
 ·rw [upd_ne (ne_of_none e e5)]; exact J.same b o e
 ·rw [upd_ne (ne_of_none e hF')]; exact J.sub b o e
 ·by_cases hj : j = i
  ·subst hj
   rw [List.getElem?_set_self hl] at e
   cases e
   refine ⟨_,hv,?_⟩
   have o : OwnAt K H₀ F' (upd H' a (.lst xs')) (.list ds') (.ref a):=⟨a,ds',xs',rfl,rfl,upd_same,hF',e5,hx⟩
   rcases ownL_tag h with rfl | rfl
   ·exact o
   ·exact ⟨o,hs.2⟩
  ·rw [List.getElem?_set_ne (Ne.symm hj)] at e
   obtain ⟨u,hu,hs'⟩:=J.slot j t' d' e
   have ow : t'.own = true→OwnAt K H₀ F' H' d' u→OwnAt K H₀ F' (upd H' a (.lst xs')) d' u:=fun ht' ⟨b,ds1,ys,h1,h2,h3,h4,h5,h6⟩=>by
    refine ⟨b,ds1,ys,h1,h2,?_,h4,h5,h6⟩
    have : b ≠ a:=fun z=>by
     subst z
     exact hj (I.inj j i t' t d' _ _ e hS ht' ht hu (by rw [h2]; exact hv))
    rw [upd_ne this]; exact h3
   refine ⟨u,hu,?_⟩
   cases t' with
   | fr=>exact hs'
   | ow=>exact ow rfl hs'
   | io=>exact ⟨ow rfl hs'.1,hs'.2⟩
   | rf=>exact hs'
   | ce =>
    obtain ⟨b,c,o,h1,h2,h3,h4,h5,h6⟩:=hs'
    refine ⟨b,c,o,h1,h2,?_,h4,h5,h6⟩
    have : b ≠ a:=fun z=>by
     subst z
     exact hj (I.inj j i .ce t d' _ _ e hS rfl ht hu (by rw [h2]; exact hv))
    rw [upd_ne this]; exact h3
 ·have nj : ∀ {j : Nat} {t1 : Tg} {d1 : PyData},(S.set i (some (t,.list ds')))[j]? = some (some (t1,d1))→t1.own = true→∃ d2,S[j]? = some (some (t1,d2)):=fun {j t1 d1} g1 n1=>by
   by_cases hj : j = i
   ·subst hj; rw [List.getElem?_set_self hl] at g1; cases g1; exact ⟨_,hS⟩
   ·rw [List.getElem?_set_ne (Ne.symm hj)] at g1; exact ⟨_,g1⟩
  obtain ⟨d3,q1⟩:=nj g1 n1
  obtain ⟨d4,q2⟩:=nj g2 n2
  exact I.inj j k t1 t2 d3 d4 u q1 q2 n1 n2 v1 v2
end
noncomputable def gApp (i : Nat) (fs : VA) : VS:=fun S=>match ownL S i,fs S with
 | some (t,ds),some [d]=>@ite _ (ds.length < sizeLine) (Classical.propDecidable _) (.nxt (S.set i (some (t,.list (ds ++ [d]))))) .fail
 | _,_=>.fail
noncomputable def gPut (i : Nat) (fk f : VE) : VS:=fun S=>match f S,fk S,ownL S i with
 | some d,some (.int k),some (t,ds)=>(match ixN ds.length k with
  | some j=>.nxt (S.set i (some (t,.list (ds.set j d))))
  | none=>.fail)
 | _,_,_=>.fail
noncomputable def gAugI (h : PyData→PyData→Option PyData) (i : Nat) (fk f : VE) : VS:=fun S=>match ownL S i,fk S,f S with
 | some (t,ds),some (.int k),some y=>(match ixN ds.length k with
  | some j=>(match ds[j]? with
   | some x=>(match h x y with
    | some z=>.nxt (S.set i (some (t,.list (ds.set j z))))
    | none=>.fail)
   | none=>.fail)
  | none=>.fail)
 | _,_,_=>.fail
noncomputable def gAug (h : PyData→PyData→Option PyData) (i : Nat) (f : VE) : VS:=fun S=>match S[i]?,f S with
 | some (some (.fr,x)),some y=>(match h x y with
  | some z=>.nxt (S.set i (some (.fr,z)))
  | none=>.fail)
 | _,_=>.fail
section
variable {X : Cx} {s : Stmt} {fs : VA} {f fk : VE} {h : PyData→PyData→Option PyData}
end
noncomputable def forG (t : VG) (g : VS) : List PyData→GS→Out
 | [],S=>.nxt S
 | d :: r,S=>match t d S with
  | none=>.fail
  | some S1=>match g S1 with
   | .nxt S2=>forG t g r S2
   | .cnt S2=>forG t g r S2
   | .brk S2=>.nxt S2
   | .ret S2 b e=>.ret S2 b e
   | .fail=>.fail
noncomputable def gFor (fi : VA) (t : VG) (g : VS) : VS:=fun S=>match fi S with
 | some ds=>forG t g ds S
 | none=>.fail
section
variable {X : Cx} {s : Stmt} {t : VG} {js : List Nat} {g : VS} {fi : VA} {tc : VT}
theorem sFor (hp : PS X s (tFor (tVI X.K fi) (tVG X.K t js) (tVS X.K g))) : PS X s (tVS X.K (gFor fi t g)):=PS.imp hp fun D σ H q=>by
 obtain ⟨ioA,G,H₀,S,F,I,q⟩:=q
 unfold gFor at q
 split at q
 ·rename_i ds q1
  refine ⟨ioA,G,H₀,S,F,I,ds,q1,fun J F1 H1 g1 it=>?_⟩
  have I1:=I.grow g1
  refine ⟨fun i m σ' H'=>∃ S' F',m = ds.length - i∧i≤ds.length∧VI X.K ioA F1 H₀ S' F' σ' H'∧OutOk X.K ioA G H₀ D (forG t g (ds.drop i) S'),⟨_,S,F1,rfl,Nat.zero_le _,I1.self,q⟩,?_⟩
  rintro i m σ' H' ⟨S',F',rfl,hi,I',q'⟩
  by_cases hlt : i < ds.length
  ·have hd : ds[i]? = some ds[i]:=by simp [hlt]
   rw [List.drop_eq_getElem_cons hlt] at q'
   obtain ⟨go,yl⟩:=it.go i ds[i] F' H' hd I'.gf I'.sub
   generalize ds[i] = d0 at *
   unfold forG at q'
   cases q2 : t d0 S' with
   | none=>rw [q2] at q'; exact q'.elim
   | some S1 =>
    rw [q2] at q'
    simp only at q'
    refine .inr ⟨go,fun σ2 H2=>∃ m',m' < ds.length - i∧∃ S2 F2,m' = ds.length - (i + 1)∧i + 1≤ds.length∧VI X.K ioA F1 H₀ S2 F2 σ2 H2∧OutOk X.K ioA G H₀ D (forG t g (ds.drop (i + 1)) S2),fun _ _ h=>h,fun x H2 y=>?_⟩
    obtain ⟨F2,g2,hx⟩:=yl x H2 y
    refine ⟨ioA,F1,H₀,S',F2,I'.grow g2,d0,S1,hx,q2,fun σ3 _ I3=>⟨ioA,F1,H₀,S1,F2,I3,?_⟩⟩
    cases q3 : g S1 with
    | fail=>rw [q3] at q'; exact q'.elim
    | nxt S2=>rw [q3] at q'; exact fun F4 σ4 H4 I4=>⟨_,by omega,S2,F4,rfl,hlt,I4,q'⟩
    | cnt S2=>rw [q3] at q'; exact fun F4 σ4 H4 I4=>⟨_,by omega,S2,F4,rfl,hlt,I4,q'⟩
    | brk S2=>rw [q3] at q'; exact fun F4 σ4 H4 I4=>q' F4 σ4 H4 (I1.rebase I4)
    | ret S2 b e=>rw [q3] at q'; exact fun v F4 σ4 H4 I4 r=>q' v F4 σ4 H4 (I1.rebase I4) r
  ·have e : i = ds.length:=by omega
   subst e
   rw [List.drop_eq_nil_of_le (Nat.le_refl _)] at q'
   exact .inl ⟨it.stop _ F' H' (Nat.le_refl _) I'.gf I'.sub,q' F' σ' H' (I1.rebase I')⟩
 ·exact q.elim
end
noncomputable def ini (nN : Nat) (ds : List PyData) : GS:=ds.map (fun d=>some (.fr,d)) ++ List.replicate (nN - ds.length) none
noncomputable def fnM (n nN : Nat) (g : VS) : FnM:=fun ds=>if ds.length = n then (match g (ini nN ds) with
 | .ret _ b d=>some (b,d)
 | .nxt _=>some (false,.none)
 | _=>none) else none
theorem ini_get {nN : Nat} {ds : List PyData} {i : Nat} {t : Tg} {d : PyData} (h : (ini nN ds)[i]? = some (some (t,d))) : ds[i]? = some d∧t = .fr:=by
 unfold ini at h
 by_cases hi : i < ds.length
 ·rw [List.getElem?_append_left (by simpa using hi),List.getElem?_map] at h
  cases q : ds[i]? with
  | none=>rw [q] at h; cases h
  | some d'=>rw [q] at h; simp at h; exact ⟨by rw [h.2],h.1.symm⟩
 ·rw [List.getElem?_append_right (by simpa using hi),List.getElem?_replicate] at h
  split at h
  ·cases h
  ·cases h
section
variable {P : Program} {w : World} {K : PySem.W.Frag} {mg : Str→Option Value} {base : Heap}
theorem ini_ok {G H : Hp} {N : List Str} {ds : List PyData} {vs : List V} (hs : Same G H) (h : HasL K G ds vs) : VI K (fun _=>none) G H (ini N.length ds) G (L2.start N vs) H where
 pl:=fun _ _ _ e=>e
 len:=by unfold ini L2.start; simp [h.length]
 same:=Same.refl _
 gf:=Same.refl _
 new:=fun _ _ e=>.inl e
 sub:=hs
 slot:=fun i t d e=>by
  obtain ⟨e1,rfl⟩:=ini_get e
  obtain ⟨v,hv,hh⟩:=h.at e1
  refine ⟨v,?_,hh⟩
  have hl : i < vs.length:=by
   by_cases z : i < vs.length
   ·exact z
   ·rw [List.getElem?_eq_none (by omega)] at hv; cases hv
  unfold L2.start
  rw [List.getElem?_append_left (by simpa using hl),List.getElem?_map,hv]
  rfl
 inj:=fun i j t t' d d' v e1 _ n1=>by
  rw [(ini_get e1).2] at n1; exact absurd n1 Bool.false_ne_true
theorem fnV0 {x qual : Str} {st : Stmt} {f : Addr} {fd : FuncData} {N ps : List Str} {k : Nat} {g : VS} (F : Fun K x qual st f fd) (S : FnScope N ps (defScope st))
  (hb : ∀ (cdv : Value) (A : Around) (outer : List Env) (s : Shared) (H : Hp) (E : XK),Room k (A.deeper (PyProof.Rows.envOfC qual (defScope st) s.heap.objs.size f cdv))→PSs (cxOf CX0 P w K mg base N qual (defScope st) f cdv A outer s H E).nox (defBody st) (tVS K g)) :
  FnOk P w K mg base CX0 (k + 1) f fd ps (spV K (fnM ps.length N.length g)):=by
 refine F.ok S (fun vs H Q E h=>?_) (fun cdv A outer s H vs Q E hr h=>⟨_,hb cdv A outer s H E hr,?_⟩)
 ·obtain ⟨G,ds,_,hx,b,d,e,_⟩:=h
  unfold fnM at e
  split at e
  ·rename_i hl; rw [← hx.length]; exact hl
  ·cases e
 ·obtain ⟨G,ds,hs,hx,b,d,e,q⟩:=h
  unfold fnM at e
  split at e
  ·refine ⟨fun _=>none,G,H,ini N.length ds,G,ini_ok hs hx,?_⟩
   split at e
   ·rename_i S' b' d' e2
    cases e
    rw [e2]
    intro v F' σ' H' I r
    refine q v F' H' ⟨I.same,I.gf,I.sub,I.new,I.pl⟩ ?_
    cases b with
    | false=>exact r
    | true =>
     obtain ⟨⟨a,es,xs,h1,h2,h3,h4,h5,h6⟩,_⟩:=r
     exact ⟨es,a,xs,h1,h2,h5,h4,h3,h6⟩
   ·rename_i S' e2
    cases e
    rw [e2]
    intro F' σ' H' I
    exact q .non F' H' ⟨I.same,I.gf,I.sub,I.new,I.pl⟩ rfl
   ·cases e
  ·cases e
theorem fnV {x qual : Str} {st : Stmt} {f : Addr} {fd : FuncData} {N ps : List Str} {k n nN : Nat} {g : VS} (F : Fun K x qual st f fd) (S : FnScope N ps (defScope st)) (hn : ps.length = n) (hN : N.length = nN)
  (hb : ∀ (cdv : Value) (A : Around) (outer : List Env) (s : Shared) (H : Hp) (E : XK),Room k (A.deeper (PyProof.Rows.envOfC qual (defScope st) s.heap.objs.size f cdv))→PSs (cxOf CX0 P w K mg base N qual (defScope st) f cdv A outer s H E).nox (defBody st) (tVS K g)) :
  FnOk P w K mg base CX0 (k + 1) f fd ps (spV K (fnM n nN g)):=by
 subst hn hN
 exact fnV0 F S hb
end
end VM
namespace VM
open PySem L2
open PyProof.Rows (list_addW)
section
variable {X : Cx} {a b e : Expr} {fa fb f : VE} {pos : Pos} {s : Stmt} {fs : VA}
end
noncomputable abbrev xorD:=iop fun a b=>.int (Builtin.bitXor a b)
noncomputable def gOwF (i : Nat) (f : VE) : VS:=fun S=>match f S with
 | some d=>if noIo S i = true then .nxt (S.set i (some (.fr,d))) else .fail
 | none=>.fail
section
variable {X : Cx} {e : Expr} {f : VE} {pos : Pos} {s : Stmt}
theorem sOwF {i : Nat} (h : PS X s (tAsg (tV X.K RN f) (gName i))) : PS X s (tVS X.K (gOwF i f)):=PS.imp h fun D σ H q=>by
 obtain ⟨ioA,G,H₀,S,F,I,q⟩:=q
 unfold gOwF at q
 cases e : f S with
 | none=>rw [e] at q; exact q.elim
 | some d =>
  rw [e] at q
  simp only at q
  split at q
  ·refine ⟨ioA,G,H₀,S,F,I,d,e,fun v F' H' g hv=>?_⟩
   obtain ⟨F'',g2,r2⟩:=RN.frz g hv
   exact q F'' _ H' ((I.grow g2).set r2)
  ·exact q.elim
noncomputable def rClrM : V→List V→Hp→VK→Prop:=fun x vs H Q=>match x,vs with
 | .ref l,[]=>∃ ys,H l = some (.lst ys)∧Q .non (upd H l (.lst []))
 | _,_=>False
theorem mClr : MtR X "list.clear" rClrM:=fun pins s σ H x xs v us Q I rx rv q=>mt_clear pins s σ H x xs v us Q I rx rv (by
 match x,xs,q with
 | .ref l,[],⟨ys,h1,h2⟩=>exact ⟨l,ys,rfl,rfl,h1,h2⟩)
noncomputable def gClr (i : Nat) : VS:=fun S=>match ownL S i with
 | some (t,_)=>.nxt (S.set i (some (t,.list [])))
 | none=>.fail
noncomputable def gPop (i : Nat) : VS:=fun S=>match ownL S i with
 | some (t,ds)=>if ds = [] then .fail else .nxt (S.set i (some (t,.list ds.dropLast)))
 | none=>.fail
theorem HasL.dropLast {K : PySem.W.Frag} {H : Hp} {ds : List PyData} {vs : List V} (h : HasL K H ds vs) : HasL K H ds.dropLast vs.dropLast:=by
 rw [List.dropLast_eq_take,List.dropLast_eq_take,h.length]
 exact HasL.take _ h
end
structure Bl (mg : Str→Option Value) : Prop where
 len : mg "len" = none
 list : mg "list" = none
 range : mg "range" = none
 enumerate : mg "enumerate" = none
 zip : mg "zip" = none
 abs : mg "abs" = none
 sum : mg "sum" = none
 min : mg "min" = none
 max : mg "max" = none
 int : mg "int" = none
 bool : mg "bool" = none
 tuple : mg "tuple" = none
 str : mg "str" = none
 sorted : mg "sorted" = none
 set : mg "set" = none
 isinstance : mg "isinstance" = none
structure Kits (K : PySem.W.Frag) : Prop where
 int : KitT K "int"
 bool : KitT K "bool"
 list : KitT K "list"
 tuple : KitT K "tuple"
end VM
namespace VM
open PySem L2
theorem kit_int {K : PySem.W.Frag} : KitT K "int":=⟨fun d d' h=>by
 cases d with
 | none=>cases h; kernel_rfl
 | bool _=>cases h; kernel_rfl
 | int _=>cases h; kernel_rfl
 | str _=>cases h; kernel_rfl
 | list _=>cases h; kernel_rfl
 | tuple _=>cases h; kernel_rfl
 | dict _=>cases h⟩
theorem kit_bool {K : PySem.W.Frag} : KitT K "bool":=⟨fun d d' h=>by
 cases d with
 | none=>cases h; kernel_rfl
 | bool _=>cases h; kernel_rfl
 | int _=>cases h; kernel_rfl
 | str _=>cases h; kernel_rfl
 | list _=>cases h; kernel_rfl
 | tuple _=>cases h; kernel_rfl
 | dict _=>cases h⟩
theorem kit_list {K : PySem.W.Frag} : KitT K "list":=⟨fun d d' h=>by
 cases d with
 | none=>cases h; kernel_rfl
 | bool _=>cases h; kernel_rfl
 | int _=>cases h; kernel_rfl
 | str _=>cases h; kernel_rfl
 | list _=>cases h; kernel_rfl
 | tuple _=>cases h; kernel_rfl
 | dict _=>cases h⟩
theorem kit_tuple {K : PySem.W.Frag} : KitT K "tuple":=⟨fun d d' h=>by
 cases d with
 | none=>cases h; kernel_rfl
 | bool _=>cases h; kernel_rfl
 | int _=>cases h; kernel_rfl
 | str _=>cases h; kernel_rfl
 | list _=>cases h; kernel_rfl
 | tuple _=>cases h; kernel_rfl
 | dict _=>cases h⟩
theorem kits (K : PySem.W.Frag) : Kits K:=⟨kit_int,kit_bool,kit_list,kit_tuple⟩
noncomputable def spLaw (K : PySem.W.Frag) : Sp:=fun vs H Q _=>∃ (a : Addr) (ns : List Int),vs = [.ref a]∧SqL K H a (ns.map V.int)∧ns.length≤63∧∀ H',Q (.bl true) H'
theorem walk {k : Nat} {x : Str} {l : PySem.W.OpenLaw} {q : Program} {loose : List Str} {XP : (Str→Option Value)→Heap→Prop} {YP : World→Heap→Prop} {d : DefRec} {K : Params→PySem.W.Frag} (hn : l.most = some 63) (hdf : d.params.defaults = []) (hr : Room k callerA)
  (hY : ∀ (w : World) (h : Heap),YP w h→(K w.params).In h)
  (F : ∀ (w : World) (mg : Str→Option Value) (fa : Addr) (h : Heap),(K w.params).In h→h.Ns mainGlobals mg→mg d.name = some (.ref fa) →
   ∃ fd : FuncData,(∀ (s : Shared) (u : Value),BindsTo s fd ⟨[u],[]⟩ [(x,u)])∧∀ base : Heap,(K w.params).In base→base.Ns mainGlobals mg→FnOk l.prog w (K w.params) mg base CX0 k fa fd [x] (spLaw (K w.params))) :
  PySem.W.WalkO q loose XP YP l.row.toRowW d [] (fun f vs=>PySem.call f vs) :=
 L2.walk_of (n:=63) (k:=k) (x:=x) (CX:=fun _=>CX0) (sp:=fun w=>spLaw (K w.params)) hn (by decide) hdf hr hY F (fun _ _ a ns hl _ hS=>⟨a,ns,rfl,hS,hl,fun _=>rfl⟩) fun _ _ _ _ _ z=>z
end VM
namespace VM
open PySem L2
noncomputable def HasIO (K : PySem.W.Frag) (F : Hp) (v0 : V) : List (Option PyData)→List V→Prop
 | [],vs=>vs = []
 | some d :: r,vs=>∃ v us,vs = v :: us∧Has K F d v∧HasIO K F v0 r us
 | none :: r,vs=>∃ us,vs = v0 :: us∧HasIO K F v0 r us
theorem HasIO.same {K : PySem.W.Frag} {F F' : Hp} {v0 : V} (e : Same F F') : ∀ {os : List (Option PyData)} {vs : List V},HasIO K F v0 os vs→HasIO K F' v0 os vs
 | [],_,h=>h
 | some _ :: _,_,⟨v,us,h1,h2,h3⟩=>⟨v,us,h1,Has.same e h2,HasIO.same e h3⟩
 | none :: _,_,⟨us,h1,h3⟩=>⟨us,h1,HasIO.same e h3⟩
theorem HasIO.length {K : PySem.W.Frag} {F : Hp} {v0 : V} : ∀ {os : List (Option PyData)} {vs : List V},HasIO K F v0 os vs→os.length = vs.length
 | [],vs,h=>by have h' : vs = []:=h; rw [h']; rfl
 | some _ :: _,_,⟨v,us,h1,_,h3⟩=>by rw [h1]; exact congrArg (· + 1) (HasIO.length h3)
 | none :: _,_,⟨us,h1,h3⟩=>by rw [h1]; exact congrArg (· + 1) (HasIO.length h3)
theorem HasIO.at {K : PySem.W.Frag} {F : Hp} {v0 : V} : ∀ {os : List (Option PyData)} {vs : List V} {i : Nat} {o : Option PyData},HasIO K F v0 os vs→os[i]? = some o→∃ v,vs[i]? = some v∧match o with | some d=>Has K F d v | none=>v = v0
 | [],_,i,o,_,e=>by simp at e
 | some d :: _,_,0,o,⟨v,us,h1,h2,h3⟩,e=>by
  have e' : some d = o:=by simpa using e
  subst e'; rw [h1]; exact ⟨v,rfl,h2⟩
 | none :: _,_,0,o,⟨us,h1,h3⟩,e=>by
  have e' : none = o:=by simpa using e
  subst e'; rw [h1]; exact ⟨v0,rfl,rfl⟩
 | some _ :: r,_,i + 1,o,⟨v,us,h1,h2,h3⟩,e=>by
  obtain ⟨u,q1,q2⟩:=HasIO.at (i:=i) (o:=o) h3 (by simpa using e)
  rw [h1]; exact ⟨u,by simpa using q1,q2⟩
 | none :: r,_,i + 1,o,⟨us,h1,h3⟩,e=>by
  obtain ⟨u,q1,q2⟩:=HasIO.at (i:=i) (o:=o) h3 (by simpa using e)
  rw [h1]; exact ⟨u,by simpa using q1,q2⟩
noncomputable abbrev VIO:=GS→Option (List (Option PyData))
section
variable {X : Cx} {e : Expr} {es : List Expr} {f : VE} {fs : VIO} {j : Nat}
end
noncomputable abbrev FnIO:=List (Option PyData)→List PyData→Option (Bool × PyData × List PyData)
section
variable {X : Cx} {s : Stmt} {m : FnIO} {j : Nat} {fs : VIO}
end
section
variable {P : Program} {w : World} {K : PySem.W.Frag} {mg : Str→Option Value} {base : Heap}
end
end VM
namespace VM
open PySem L2
section
variable {X : Cx} {o e1 e2 : Expr} {apos cpos : Pos}
theorem peClr {to : TE} (ho : PE X o to) (hbase : attributeBase o "clear" X.env (eval o X.env) = eval o X.env:=by rfl) (hline : (apos.endLine == cpos.line) = true:=by rfl) : PE X (.Call (.Attribute o "clear" apos) [] [] cpos) (tBM0 X.K "list" rClrM to):=pe_bm0 PySem.F.plainAttrs_list PySem.F.slot_list_clear PySem.F.type_list_clear mClr ho hbase hline
noncomputable def gRv (i : Nat) : VS:=fun S=>match ownL S i with
 | some (t,ds)=>.nxt (S.set i (some (t,.list ds.reverse)))
 | none=>.fail
noncomputable def insAt {α : Type} (k : Nat) (y : α) (xs : List α) : List α:=xs.take k ++ y :: xs.drop k
noncomputable def gIns (i : Nat) (fs : VA) : VS:=fun S=>match ownL S i,fs S with
 | some (t,ds),some [.int k,d]=>@ite _ (ds.length < sizeLine∧0≤k∧k < 2 ^ 62) (Classical.propDecidable _) (.nxt (S.set i (some (t,.list (insAt k.toNat d ds))))) .fail
 | _,_=>.fail
noncomputable def gPopAt (i : Nat) (fs : VA) : VS:=fun S=>match ownL S i,fs S with
 | some (t,ds),some [.int k]=>@ite _ (k.toNat < ds.length∧0≤k∧k < 2 ^ 62) (Classical.propDecidable _) (.nxt (S.set i (some (t,.list (ds.eraseIdx k.toNat))))) .fail
 | _,_=>.fail
end
end VM
namespace VM
open PySem L2
noncomputable def unlike (ns : List Int) : List Int:=PyProof.Rows.firstMet (fun i=>ns.getD i 0) ns.length
section
variable {X : Cx}
noncomputable def setLenD : PyData→Option PyData
 | .list ds=>match intsOf ds with
  | some ns=>@ite _ (ns.length≤4000) (Classical.propDecidable _) (some (.int (unlike ns).length)) none
  | none=>none
 | _=>none
noncomputable def vSetLen (f : VE) : VE:=v1 setLenD f
end
end VM
namespace VM
open PySem PyProof PyProof.Rows L2
section
variable {X : Cx} {a b c : Expr} {ta tb tc : TE} {fa fb fc : VE} {pos : Pos} {h h' : PyData→PyData→Option PyData} {r r' : R2}
theorem ptCh {op op' : CmpOp} (ho : OpR X (compareOp op) r) (ho' : OpR X (compareOp op') r') (ha : PE X a ta) (hb : PE X b tb) (hc : PE X c tc)
  (hm : lastMarks [op,op'] [b,c] = false:=by with_unfolding_all rfl) : PT X (.Compare a [op,op'] [b,c] pos) (tTM (tChM r r' ta tb tc)):=by
 intro pins s σ H Q I q
 refine isTrue_chain (thn (ha pins s σ H _ I q) fun v s1 ⟨x,H1,I1,r1,q1⟩=>test_link (thn (hb pins s1 σ H1 _ I1 q1) fun u s2 ⟨y,H2,I2,r2,q2⟩ =>
  thn (ho pins s2 σ H2 x y v u _ I2 r1 r2 q2) fun d s3 ⟨z,H3,I3,r3,q3⟩=>?_)) hm
 cases z with
 | bl k =>
  cases r3
  refine wpAny_truthy_bool ?_
  cases k with
  | false=>exact ite_ff ⟨H3,I3,q3⟩
  | true =>
   refine ite_tt (test_last (thn (hc pins s3 σ H3 _ I3 q3) fun w' s4 ⟨z',H4,I4,r4,q4⟩=>thn (ho' pins s4 σ H4 y z' u w' _ I4 r2 r4 q4) fun d' s5 ⟨z2,H5,I5,r5,q5⟩=>?_))
   cases z2 with
   | bl k2=>cases r5; exact wpAny_truthy_bool ⟨H5,I5,q5⟩
   | _=>exact False.elim q5
 | _=>exact False.elim q3
theorem cCh {op op' : CmpOp} (ho : OpR X (compareOp op) r) (hd : OpD X.K h r) (ho' : OpR X (compareOp op') r') (hd' : OpD X.K h' r') (ha : PE X a (tV X.K RW fa)) (hb : PE X b (tV X.K RW fb)) (hc : PE X c (tV X.K RW fc))
  (hm : lastMarks [op,op'] [b,c] = false:=by with_unfolding_all rfl) : PT X (.Compare a [op,op'] [b,c] pos) (tVT X.K (vB (vCh h h' fa fb fc))) :=
 PT.imp (ptCh ho ho' ha hb hc hm) fun _ _ _ q=>rdTM (fun _ q=>rdCh hd hd' q) q
end
end VM
namespace VM
open PySem PySem.Spec PyProof.Rows L2
section
variable {X : Cx} {tg : Expr}
end
end VM
namespace VM
open PySem L2
set_option exponentiation.threshold 3000
theorem lt2000 {j : Int} (h1 : -10000000000000000000000000000000000000000000000000000000000000000000000000000000000000000000000000000 < j) (h2 : j < 10000000000000000000000000000000000000000000000000000000000000000000000000000000000000000000000000000) : j.natAbs < 2 ^ 2000:=by
 have e : (10000000000000000000000000000000000000000000000000000000000000000000000000000000000000000000000000000 : Nat)≤2 ^ 2000:=Nat.le_trans (show (10000000000000000000000000000000000000000000000000000000000000000000000000000000000000000000000000000 : Nat)≤2 ^ 340 by decide +kernel) (Nat.pow_le_pow_right (by decide) (by decide))
 omega
theorem mulD_i {a b : Int} (h1 : -10000000000000000000000000000000000000000000000000000000000000000000000000000000000000000000000000000 < a) (h2 : a < 10000000000000000000000000000000000000000000000000000000000000000000000000000000000000000000000000000) (h3 : -10000000000000000000000000000000000000000000000000000000000000000000000000000000000000000000000000000 < b) (h4 : b < 10000000000000000000000000000000000000000000000000000000000000000000000000000000000000000000000000000) : mulD (.int a) (.int b) = some (.int (a * b)):=if_pos ⟨lt2000 h1 h2,lt2000 h3 h4⟩
theorem divD_i {a b : Int} (h0 : 0 < b) (h1 : b < 10000000000000000000000000000000000000000000000000000000000000000000000000000000000000000000000000000) : divD (.int a) (.int b) = some (.int (a / b)):=if_pos ⟨h0,lt2000 (by omega) h1⟩
theorem modD_i {a b : Int} (h0 : 0 < b) : modD (.int a) (.int b) = some (.int (a % b)):=if_pos h0
theorem powD_i {a b : Int} (h0 : 0≤b) (h1 : b≤1000) (h2 : 0≤a) (h3 : a < 1152921504606846976) : powD (.int a) (.int b) = some (.int (a ^ b.toNat)):=if_pos ⟨h0,h1,by omega⟩
theorem eqD_i (a b : Int) : eqD (.int a) (.int b) = some (.bool (decide (a = b))):=by
 have : PyData.depth (.int a)≤60:=by simp [PyData.depth]
 unfold eqD
 rw [if_pos this]
 simp only [PyData.eqv,Bool.beq_eq_decide_eq]
theorem neD_i (a b : Int) : neD (.int a) (.int b) = some (.bool (!decide (a = b))):=by
 have : PyData.depth (.int a)≤60:=by simp [PyData.depth]
 unfold neD
 rw [if_pos this]
 simp only [PyData.eqv,Bool.beq_eq_decide_eq]
theorem isD_n (x : PyData) : isD x .none = some (.bool (isNoneD x)):=rfl
theorem isnD_n (x : PyData) : isnD x .none = some (.bool (!isNoneD x)):=rfl
theorem forG_ok {t : VG} {g : VS} (P : Nat → GS → Prop) : ∀ (ds : List PyData) (i : Nat) (S : GS), P i S →
    (∀ (j : Nat) d S, ds[j]? = some d → P (i + j) S → ∃ S1, t d S = some S1 ∧ ∃ S2, (g S1 = .nxt S2 ∨ g S1 = .cnt S2) ∧ P (i + j + 1) S2) → ∃ S', forG t g ds S = .nxt S' ∧ P (i + ds.length) S'
  | [], i, S, h, _ => ⟨S, rfl, h⟩
  | d :: r, i, S, h, st => by
    obtain ⟨S1, e1, S2, e2, p2⟩ := st 0 d S rfl h
    obtain ⟨S', e3, p3⟩ := forG_ok P r (i + 1) S2 p2 fun j d' S' e p => by
      have e' : i + 1 + j = i + (j + 1) := by omega
      rw [e'] at p ⊢
      exact st (j + 1) d' S' (by simpa using e) p
    refine ⟨S', ?_, by rw [List.length_cons]; have e' : i + 1 + r.length = i + (r.length + 1) := by omega
                       rw [← e']; exact p3⟩
    simp only [forG, e1]
    rcases e2 with e2 | e2 <;> (rw [e2]; exact e3)
theorem forG_fun {t : VG} {g : VS} (f : Nat→GS) : ∀ (ds : List PyData) (i : Nat),
  (∀ (j : Nat) d,ds[j]? = some d→∃ S1,t d (f (i + j)) = some S1∧g S1 = .nxt (f (i + j + 1)))→forG t g ds (f i) = .nxt (f (i + ds.length))
 | [],i,_=>rfl
 | d :: r,i,st=>by
  obtain ⟨S1,e1,e2⟩:=st 0 d rfl
  have e3:=forG_fun f r (i + 1) fun j d' e=>by
   have e' : i + 1 + j = i + (j + 1):=by omega
   rw [e']
   exact st (j + 1) d' (by simpa using e)
  simp only [forG]
  rw [show i + 0 = i from rfl] at e1
  rw [e1]
  simp only
  rw [e2]
  simp only
  rw [show i + 0 + 1 = i + 1 from rfl,e3,List.length_cons]
  have e' : i + 1 + r.length = i + (r.length + 1):=by omega
  rw [e']
theorem lcD_map {t : VG} {fc : VT} {fe : VE} {S : GS} {f : PyData→PyData} : ∀ {ds : List PyData},(∀ d∈ds,∃ S2,t d S = some S2∧fc S2 = some true∧fe S2 = some (f d))→lcD t fc fe S ds = some (ds.map f)
 | [],_=>rfl
 | d :: r,h=>by
  obtain ⟨S2,e1,e2,e3⟩:=h d List.mem_cons_self
  have ih:=lcD_map (ds:=r) (f:=f) fun x hx=>h x (List.mem_cons_of_mem _ hx)
  simp only [lcD,e1,e2,e3,ih,List.map_cons]
theorem rangeD_get {lo : Int} {n j : Nat} {d : PyData} (h : (rangeD lo n)[j]? = some d) : j < n∧d = .int (lo + j):=by
 unfold rangeD at h
 rw [List.getElem?_map] at h
 by_cases hj : j < n
 ·rw [List.getElem?_range hj] at h
  cases h
  exact ⟨hj,rfl⟩
 ·rw [List.getElem?_eq_none (by simp; omega)] at h
  cases h
theorem rangeD_length (lo : Int) (n : Nat) : (rangeD lo n).length = n:=by simp [rangeD]
end VM
namespace VM
open PySem L2
noncomputable def bSeq (o : Out) (g : VS) : Out:=match o with
 | .nxt S=>g S
 | o=>o
noncomputable def bIf (o : Option Bool) (g1 g2 : VS) (S : GS) : Out:=match o with
 | some true=>g1 S
 | some false=>g2 S
 | none=>.fail
noncomputable def bAnd (o : Option Bool) (g : VT) (S : GS) : Option Bool:=match o with
 | some true=>g S
 | some false=>some false
 | none=>none
noncomputable def bOr (o : Option Bool) (g : VT) (S : GS) : Option Bool:=match o with
 | some true=>some true
 | some false=>g S
 | none=>none
noncomputable def bAndE (o : Option PyData) (g : VE) (S : GS) : Option PyData:=match o with
 | some (.bool true)=>g S
 | some (.bool false)=>some (.bool false)
 | _=>none
noncomputable def bOrE (o : Option PyData) (g : VE) (S : GS) : Option PyData:=match o with
 | some (.bool true)=>some (.bool true)
 | some (.bool false)=>g S
 | _=>none
noncomputable def bIfE (o : Option Bool) (f g : VE) (S : GS) : Option PyData:=match o with
 | some true=>f S
 | some false=>g S
 | none=>none
noncomputable def b2 (h : PyData→PyData→Option PyData) (o : Option PyData) (fb : VE) (S : GS) : Option PyData:=match o with
 | some x=>(match fb S with
  | some y=>h x y
  | none=>none)
 | none=>none
noncomputable def b1 (h : PyData→Option PyData) (o : Option PyData) : Option PyData:=match o with
 | some y=>h y
 | none=>none
noncomputable def bC (o : Option PyData) (fs : VA) (S : GS) : Option (List PyData):=match o with
 | some d=>(match fs S with
  | some ds=>some (d :: ds)
  | none=>none)
 | none=>none
noncomputable def bC1 (d : PyData) (o : Option (List PyData)) : Option (List PyData):=match o with
 | some ds=>some (d :: ds)
 | none=>none
noncomputable def bAs (o : Option PyData) (t : VG) (S : GS) : Out:=match o with
 | some d=>(match t d S with
  | some S'=>.nxt S'
  | none=>.fail)
 | none=>.fail
noncomputable def bNx (o : Option GS) : Out:=match o with
 | some S'=>.nxt S'
 | none=>.fail
noncomputable def bG (o : Option GS) (u : VGs) (r : List PyData) : Option GS:=match o with
 | some S1=>u r S1
 | none=>none
noncomputable def bRes (o : Option (Bool × PyData)) : Option PyData:=match o with
 | some (_,d)=>some d
 | none=>none
noncomputable def bResN (o : Option (Bool × PyData)) : Option PyData:=match o with
 | some (true,d)=>some d
 | _=>none
noncomputable def bIm : Bool→PyData→Option PyData
 | true,d=>some d
 | false,_=>none
theorem bIm_eq (b : Bool) (d : PyData) : bIm b d = if b = true then some d else none:=by cases b <;> rfl
theorem bIm_t (d : PyData) : bIm true d = some d:=rfl
noncomputable def bResW (o : Option (Bool × PyData)) : Option PyData:=match o with
 | some (b,d)=>bIm (immR b d) d
 | none=>none
noncomputable def bResWN (o : Option (Bool × PyData)) : Option PyData:=match o with
 | some (true,.list es)=>bIm (immL es) (.list es)
 | _=>none
noncomputable def bCall (m : FnM) (o : Option (List PyData)) : Option PyData:=match o with
 | some ds=>bRes (m ds)
 | none=>none
noncomputable def bCallN (m : FnM) (o : Option (List PyData)) : Option PyData:=match o with
 | some ds=>bResN (m ds)
 | none=>none
noncomputable def bCallW (m : FnM) (o : Option (List PyData)) : Option PyData:=match o with
 | some ds=>bResW (m ds)
 | none=>none
noncomputable def bCallWN (m : FnM) (o : Option (List PyData)) : Option PyData:=match o with
 | some ds=>bResWN (m ds)
 | none=>none
noncomputable def bFor (o : Option (List PyData)) (t : VG) (g : VS) (S : GS) : Out:=match o with
 | some ds=>forG t g ds S
 | none=>.fail
noncomputable def bFn (o : Out) : Option (Bool × PyData):=match o with
 | .ret _ b d=>some (b,d)
 | .nxt _=>some (false,.none)
 | _=>none
noncomputable def bCh (h' : PyData→PyData→Option PyData) (y : PyData) (o : Option PyData) (fc : VE) (S : GS) : Option PyData:=match o with
 | some (.bool true)=>(match fc S with
  | some z=>h' y z
  | none=>none)
 | some (.bool false)=>some (.bool false)
 | _=>none
section
variable {g g1 g2 : VS} {S : GS} {t : VG} {u : VGs} {f fa fb fc : VE} {c c2 : VT} {fs : VA} {h h' : PyData→PyData→Option PyData} {d x y : PyData} {r : List PyData} {m : FnM} {b : Bool}
theorem gSeq_eq : gSeq g1 g2 S = bSeq (g1 S) g2:=rfl
theorem bSeq_n : bSeq (.nxt S) g = g S:=rfl
theorem bSeq_r : bSeq (.ret S b d) g = .ret S b d:=rfl
theorem bSeq_b : bSeq (.brk S) g = .brk S:=rfl
theorem bSeq_c : bSeq (.cnt S) g = .cnt S:=rfl
theorem gIf_eq : gIf c g1 g2 S = bIf (c S) g1 g2 S:=rfl
theorem bIf_t : bIf (some true) g1 g2 S = g1 S:=rfl
theorem bIf_f : bIf (some false) g1 g2 S = g2 S:=rfl
theorem tAnd_eq : tAnd2 c c2 S = bAnd (c S) c2 S:=rfl
theorem bAnd_t : bAnd (some true) c S = c S:=rfl
theorem bAnd_f : bAnd (some false) c S = some false:=rfl
theorem tOr_eq : tOr2 c c2 S = bOr (c S) c2 S:=rfl
theorem bOr_t : bOr (some true) c S = some true:=rfl
theorem bOr_f : bOr (some false) c S = c S:=rfl
theorem vAnd_eq : vAnd fa fb S = bAndE (fa S) fb S:=rfl
theorem bAndE_t : bAndE (some (.bool true)) f S = f S:=rfl
theorem bAndE_f : bAndE (some (.bool false)) f S = some (.bool false):=rfl
theorem vOr_eq : vOr fa fb S = bOrE (fa S) fb S:=rfl
theorem bOrE_t : bOrE (some (.bool true)) f S = some (.bool true):=rfl
theorem bOrE_f : bOrE (some (.bool false)) f S = f S:=rfl
theorem vIf_eq : vIf c fa fb S = bIfE (c S) fa fb S:=rfl
theorem bIfE_t : bIfE (some true) fa fb S = fa S:=rfl
theorem bIfE_f : bIfE (some false) fa fb S = fb S:=rfl
theorem v2_eq : v2 h fa fb S = b2 h (fa S) fb S:=rfl
theorem b2_s : b2 h (some x) fb S = b1 (h x) (fb S):=rfl
theorem b1_s {k : PyData→Option PyData} : b1 k (some y) = k y:=rfl
theorem v1_eq {k : PyData→Option PyData} : v1 k f S = b1 k (f S):=rfl
theorem aC_eq : aC f fs S = bC (f S) fs S:=rfl
theorem bC_s : bC (some d) fs S = bC1 d (fs S):=rfl
theorem bC1_s : bC1 d (some r) = some (d :: r):=rfl
theorem gAs_eq : gAs f t S = bAs (f S) t S:=rfl
theorem bAs_s : bAs (some d) t S = bNx (t d S):=rfl
theorem bNx_s : bNx (some S) = .nxt S:=rfl
theorem gC_eq : gC t u (d :: r) S = bG (t d S) u r:=rfl
theorem bG_s : bG (some S) u r = u r S:=rfl
theorem vCall_eq : vCall m fs S = bCall m (fs S):=by unfold vCall bCall bRes; rfl
theorem bCall_s {ds : List PyData} : bCall m (some ds) = bRes (m ds):=rfl
theorem vCallN_eq : vCallN m fs S = bCallN m (fs S):=by unfold vCallN bCallN bResN; rfl
theorem bCallN_s {ds : List PyData} : bCallN m (some ds) = bResN (m ds):=rfl
theorem vCallW_eq : vCallW m fs S = bCallW m (fs S):=by unfold vCallW bCallW bResW; simp only [bIm_eq] <;> rfl
theorem bCallW_s {ds : List PyData} : bCallW m (some ds) = bResW (m ds):=rfl
theorem bResW_s : bResW (some (b,d)) = bIm (immR b d) d:=rfl
theorem vCallWN_eq : vCallWN m fs S = bCallWN m (fs S):=by unfold vCallWN bCallWN bResWN; simp only [bIm_eq] <;> rfl
theorem bCallWN_s {ds : List PyData} : bCallWN m (some ds) = bResWN (m ds):=rfl
theorem bResWN_s : bResWN (some (true,.list r)) = bIm (immL r) (.list r):=rfl
theorem bRes_s : bRes (some (b,d)) = some d:=rfl
theorem bResN_s : bResN (some (true,d)) = some d:=rfl
theorem fnM_eq {n nN : Nat} {ds : List PyData} (e : ds.length = n) : fnM n nN g ds = bFn (g (ini nN ds)):=by unfold fnM; rw [if_pos e]; rfl
theorem bFn_r : bFn (.ret S b d) = some (b,d):=rfl
theorem bFn_n : bFn (.nxt S) = some (false,.none):=rfl
theorem vCh_eq : vCh h h' fa fb fc S = (match fa S with
 | some x=>(match fb S with
  | some y=>bCh h' y (h x y) fc S
  | none=>none)
 | none=>none):=rfl
theorem bCh_t : bCh h' y (some (.bool true)) fc S = b1 (h' y) (fc S):=rfl
theorem bCh_f : bCh h' y (some (.bool false)) fc S = some (.bool false):=rfl
theorem atI_0 {α : Type} (x : α) (r : List α) : atI (x :: r) 0 = some x:=atI_nat (j:=0) rfl
theorem atI_1 {α : Type} (x y : α) (r : List α) : atI (x :: y :: r) 1 = some y:=atI_nat (j:=1) rfl
theorem atI_2 {α : Type} (x y z : α) (r : List α) : atI (x :: y :: z :: r) 2 = some z:=atI_nat (j:=2) rfl
theorem atI_3 {α : Type} (x y z w : α) (r : List α) : atI (x :: y :: z :: w :: r) 3 = some w:=atI_nat (j:=3) rfl
theorem gFor_eq {fi : VA} : gFor fi t g S = bFor (fi S) t g S:=rfl
theorem bFor_s {ds : List PyData} : bFor (some ds) t g S = forG t g ds S:=rfl
end
end VM
namespace VM
open PySem L2
noncomputable def bL (o : Option (List PyData)) : Option PyData:=match o with
 | some es=>some (.list es)
 | none=>none
noncomputable def bLC (o : Option (List PyData)) (cap : List (Option Nat)) (t : VG) (fc : VT) (fe : VE) (S : GS) : Option PyData:=match o with
 | some ds=>@ite _ (capFr S cap = true∧ds.length < sizeLine) (Classical.propDecidable _) (bL (lcD t fc fe (capG cap S) ds)) none
 | none=>none
noncomputable def bLCW (o : Option (List PyData)) (cap : List (Option Nat)) (t : VG) (fc : VT) (fe : VE) (S : GS) : Option PyData:=match o with
 | some ds=>@ite _ (ds.length < sizeLine) (Classical.propDecidable _) (bL (lcD t fc (vImm fe) (capG cap S) ds)) none
 | none=>none
noncomputable def bOw (o : Option PyData) (b : Bool) (i : Nat) (t : Tg) (S : GS) : Out:=match o with
 | some d=>if b = true then .nxt (S.set i (some (t,d))) else .fail
 | none=>.fail
section
variable {S : GS} {cap : List (Option Nat)} {t : VG} {fc : VT} {fe f : VE} {fi : VA} {ds es : List PyData} {i : Nat} {d : PyData} {T : Tg} {b : Bool}
theorem vLC_eq : vLC fi cap t fc fe S = bLC (fi S) cap t fc fe S:=by unfold vLC bLC bL; rfl
theorem bLC_s (h1 : capFr S cap = true) (h2 : ds.length < sizeLine) : bLC (some ds) cap t fc fe S = bL (lcD t fc fe (capG cap S) ds):=if_pos ⟨h1,h2⟩
theorem vLCW_eq : vLCW fi cap t fc fe S = bLCW (fi S) cap t fc fe S:=by unfold vLCW bLCW bL; rfl
theorem bL_s : bL (some es) = some (.list es):=rfl
theorem gOw_eq : gOw i f S = bOw (f S) (noIo S i) i .ow S:=rfl
theorem gOwF_eq : gOwF i f S = bOw (f S) (noIo S i) i .fr S:=rfl
theorem bOw_s : bOw (some d) true i T S = .nxt (S.set i (some (T,d))):=rfl
noncomputable def bImm (o : Option PyData) : Option PyData:=match o with
 | some d=>bIm (imm d) d
 | none=>none
theorem vImm_eq : vImm f S = bImm (f S):=by unfold vImm bImm; simp only [bIm_eq] <;> rfl
theorem bImm_s : bImm (some d) = bIm (imm d) d:=rfl
theorem size_big {n : Nat} (h : n≤16000000) : n < sizeLine:=by have e : sizeLine = 16777216:=rfl; omega
end
end VM
namespace VM
open PySem L2
noncomputable def ob (v : Option PyData) : Option (Tg × PyData):=v.map fun d=>(Tg.fr,d)
theorem ob_some (d : PyData) : ob (some d) = some (Tg.fr,d):=rfl
theorem ob_none : ob none = none:=rfl
theorem noIo_ob (o : Option PyData) : (match ob o with | some (.io,_)=>false | _=>true) = true:=by cases o <;> rfl
end VM
namespace VM
open PySem L2
theorem addD_i (a b : Int) : addD (.int a) (.int b) = some (.int (a + b)):=rfl
theorem subD_i (a b : Int) : subD (.int a) (.int b) = some (.int (a - b)):=rfl
theorem ltD_i (a b : Int) : ltD (.int a) (.int b) = some (.bool (decide (a < b))):=rfl
theorem leD_i (a b : Int) : leD (.int a) (.int b) = some (.bool (decide (a≤b))):=rfl
theorem gtD_i (a b : Int) : gtD (.int a) (.int b) = some (.bool (decide (b < a))):=rfl
theorem geD_i (a b : Int) : geD (.int a) (.int b) = some (.bool (decide (b≤a))):=rfl
theorem xorD_i (a b : Int) : xorD (.int a) (.int b) = some (.int (Builtin.bitXor a b)):=rfl
noncomputable def nio : Option (Option (Tg × PyData))→Bool
 | some (some (.io,_))=>false
 | _=>true
theorem noIo_eq (S : GS) (i : Nat) : noIo S i = nio (S[i]?):=rfl
theorem nio_ob (o : Option PyData) : nio (some (ob o)) = true:=by cases o <;> rfl
theorem nio_n : nio (some none) = true:=rfl
theorem nio_fr (d : PyData) : nio (some (some (.fr,d))) = true:=rfl
theorem nio_ow (d : PyData) : nio (some (some (.ow,d))) = true:=rfl
end VM
namespace VM
open PySem L2
theorem isi_list (ds : List PyData) : isiD "list" (.list ds) = some (.bool true):=by simp [isiD,tyD]
theorem isi_int (i : Int) : isiD "int" (.int i) = some (.bool true):=by simp [isiD,tyD]
theorem isi_bool_i (i : Int) : isiD "bool" (.int i) = some (.bool false):=by simp [isiD,tyD]
theorem isi_tuple (ds : List PyData) : isiD "tuple" (.tuple ds) = some (.bool true):=by simp [isiD,tyD]
end VM
namespace L2
open PySem PySem.Spec PyProof.Rows
section
variable {κ : Type} [DecidableEq κ]
noncomputable def valV (kvs : List (κ × V)) (k : κ) : Option V:=(kvs.find? fun kv=>decide (kv.1 = k)).map (·.2)
noncomputable def putK (kvs : List (κ × V)) (k : κ) (v : V) : List (κ × V) :=
 if (kvs.any fun kv=>decide (kv.1 = k)) = true then kvs.map (fun kv=>if kv.1 = k then (kv.1,v) else kv) else kvs ++ [(k,v)]
noncomputable def dropK (kvs : List (κ × V)) (k : κ) : List (κ × V):=kvs.filter fun kv=>decide (kv.1 ≠ k)
theorem valV_pos {p : κ × V} {r : List (κ × V)} {k : κ} (e : p.1 = k) : valV (p :: r) k = some p.2:=by simp [valV,List.find?_cons,e]
theorem valV_neg {p : κ × V} {r : List (κ × V)} {k : κ} (e : ¬ p.1 = k) : valV (p :: r) k = valV r k:=by simp [valV,List.find?_cons,e]
theorem valV_any (k : κ) : ∀ kvs : List (κ × V),(kvs.any fun kv=>decide (kv.1 = k)) = (valV kvs k).isSome
 | []=>rfl
 | p :: r=>by
  rw [List.any_cons]
  by_cases e : p.1 = k
  ·simp only [valV_pos e,decide_eq_true e,Bool.true_or,Option.isSome_some]
  ·rw [valV_neg e,decide_eq_false e,Bool.false_or]; exact valV_any k r
theorem length_putK (kvs : List (κ × V)) (k : κ) (v : V) : (putK kvs k v).length≤kvs.length + 1:=by
 unfold putK
 split
 ·rw [List.length_map]; omega
 ·rw [List.length_append,List.length_cons,List.length_nil]; omega
theorem RelO.isSome_eq {o : Option V} {u : Option Value} (r : RelO o u) : o.isSome = u.isSome:=by
 cases o with
 | none=>cases u with
  | none=>rfl
  | some _=>exact (show False from r).elim
 | some _=>cases u with
  | none=>exact (show False from r).elim
  | some _=>rfl
theorem RelO.getD {o : Option V} {u : Option Value} {d : V} {d' : Value} (r : RelO o u) (rd : RelV d d') : RelV (o.getD d) (u.getD d'):=by
 cases o with
 | none=>cases u with
  | none=>exact rd
  | some _=>exact (show False from r).elim
 | some _=>cases u with
  | none=>exact (show False from r).elim
  | some _=>exact r
theorem KV.val {kvs : List (κ × V)} {vs : List (κ × Value)} (r : KV kvs vs) (k : κ) : RelO (valV kvs k) (valueAt vs k):=by
 unfold KV at r
 induction r with
 | nil=>exact True.intro
 | @cons p q ps qs h t ih =>
  obtain ⟨h1,h2⟩:=h
  by_cases e : p.1 = k
  ·have e' : q.1 = k:=h1.symm.trans e
   have b : valueAt (q :: qs) k = some q.2:=by simp [valueAt,List.find?_cons,e']
   rw [valV_pos e,b]; exact h2
  ·have e' : ¬ q.1 = k:=fun z=>e (h1.trans z)
   have b : valueAt (q :: qs) k = valueAt qs k:=by simp [valueAt,List.find?_cons,e']
   rw [valV_neg e,b]; exact ih
theorem KV.any {kvs : List (κ × V)} {vs : List (κ × Value)} (r : KV kvs vs) (k : κ) : (kvs.any fun kv=>decide (kv.1 = k)) = vs.any fun kv=>decide (kv.1 = k):=by
 unfold KV at r
 induction r with
 | nil=>rfl
 | cons h t ih=>rw [List.any_cons,List.any_cons,ih,h.1]
theorem KV.repl {kvs : List (κ × V)} {vs : List (κ × Value)} (r : KV kvs vs) (k : κ) {y : V} {u : Value} (ry : RelV y u) :
  KV (kvs.map fun kv=>if kv.1 = k then (kv.1,y) else kv) (vs.map fun kv=>if kv.1 = k then (kv.1,u) else kv):=by
 unfold KV at r ⊢
 induction r with
 | nil=>exact .nil
 | @cons p q ps qs h t ih =>
  rw [List.map_cons,List.map_cons]
  refine .cons ?_ ih
  obtain ⟨h1,h2⟩:=h
  by_cases e : p.1 = k
  ·rw [if_pos e,if_pos (h1.symm.trans e)]; exact ⟨h1,ry⟩
  ·rw [if_neg e,if_neg (fun z=>e (h1.trans z))]; exact ⟨h1,h2⟩
theorem KV.put {kvs : List (κ × V)} {vs : List (κ × Value)} (r : KV kvs vs) (k : κ) {y : V} {u : Value} (ry : RelV y u) : KV (putK kvs k y) (stored vs k u):=by
 unfold putK stored
 rw [r.any k]
 by_cases e : (vs.any fun kv=>decide (kv.1 = k)) = true
 ·rw [if_pos e,if_pos e]; exact r.repl k ry
 ·rw [if_neg e,if_neg e]; exact Paired.snoc r ⟨rfl,ry⟩
theorem KV.drop {kvs : List (κ × V)} {vs : List (κ × Value)} (r : KV kvs vs) (k : κ) : KV (dropK kvs k) (without vs k):=by
 unfold KV at r ⊢
 unfold dropK without
 induction r with
 | nil=>exact .nil
 | @cons p q ps qs h t ih =>
  obtain ⟨h1,h2⟩:=h
  rw [List.filter_cons,List.filter_cons]
  by_cases e : p.1 = k
  ·have a : ¬ decide (p.1 ≠ k) = true:=by simp [e]
   have b : ¬ decide (q.1 ≠ k) = true:=by simp [h1.symm.trans e]
   rw [if_neg a,if_neg b]; exact ih
  ·have e' : ¬ q.1 = k:=fun z=>e (h1.trans z)
   have a : decide (p.1 ≠ k) = true:=by simp [e]
   have b : decide (q.1 ≠ k) = true:=by simp [e']
   rw [if_pos a,if_pos b]; exact .cons ⟨h1,h2⟩ ih
theorem KV.length {kvs : List (κ × V)} {vs : List (κ × Value)} (r : KV kvs vs) : kvs.length = vs.length:=Paired.length r
theorem dropK_le (kvs : List (κ × V)) (k : κ) : (dropK kvs k).length≤kvs.length:=List.length_filter_le _ _
end
theorem kV_is {P : Program} {w : World} {k : Key} {u : Value} (r : RelV (kV k) u) : (mixKind P w).is k u = true:=by
 cases k with
 | inl i=>obtain ⟨t,e⟩:=(show ∃ t,u = Value.int i t from r); subst e; exact mixKind_int P w i t
 | inr x=>obtain ⟨t,e⟩:=(show ∃ t,u = Value.str x t from r); subst e; exact mixKind_str P w x t
theorem items_are {P : Program} {w : World} : ∀ {ks : List Key} {us : List Value},Vals (ks.map kV) us→ItemsAre (mixKind P w) ks us
 | [],_,r=>by rw [List.map_nil] at r; cases r; exact .nil
 | k :: ks,_,r=>by
  rw [List.map_cons] at r
  cases r with
  | cons h t=>exact .cons (kV_is h) (items_are t)
noncomputable abbrev KT (H : Hp) : List (List Key × V)→List (List Key × Addr × Value)→Prop:=Paired fun p q=>p.1 = q.1∧H q.2.1 = some (.tup (p.1.map kV))∧RelV p.2 q.2.2
theorem KT.val {H : Hp} {kvs : List (List Key × V)} {xs : List (List Key × Addr × Value)} (r : KT H kvs xs) (k : List Key) : RelO (valV kvs k) ((atKey xs k).map (·.2)):=by
 induction r with
 | nil=>exact True.intro
 | @cons p q ps qs h t ih =>
  obtain ⟨h1,_,h2⟩:=h
  by_cases e : p.1 = k
  ·have e' : q.1 = k:=h1.symm.trans e
   have b : atKey (q :: qs) k = some q.2:=by simp [atKey,List.find?_cons,e']
   rw [valV_pos e,b]; exact h2
  ·have e' : ¬ q.1 = k:=fun z=>e (h1.trans z)
   have b : atKey (q :: qs) k = atKey qs k:=by simp [atKey,List.find?_cons,e']
   rw [valV_neg e,b]; exact ih
theorem KT.repl {H : Hp} {kvs : List (List Key × V)} {xs : List (List Key × Addr × Value)} (r : KT H kvs xs) (k : List Key) {y : V} {u : Value} (ry : RelV y u) :
  KT H (kvs.map fun kv=>if kv.1 = k then (kv.1,y) else kv) (xs.map (putAt k u)):=by
 induction r with
 | nil=>exact .nil
 | @cons p q ps qs h t ih =>
  rw [List.map_cons,List.map_cons]
  refine .cons ?_ ih
  obtain ⟨h1,h2,h3⟩:=h
  unfold putAt
  by_cases e : p.1 = k
  ·rw [if_pos e,if_pos (h1.symm.trans e)]; exact ⟨h1,h2,ry⟩
  ·rw [if_neg e,if_neg (fun z=>e (h1.trans z))]; exact ⟨h1,h2,h3⟩
theorem KT.put {H : Hp} {kvs : List (List Key × V)} {xs : List (List Key × Addr × Value)} (r : KT H kvs xs) (k : List Key) {b : Addr} {y : V} {u : Value} (hb : H b = some (.tup (k.map kV))) (ry : RelV y u) :
  KT H (putK kvs k y) (storedH xs k b u):=by
 have e : (kvs.any fun kv=>decide (kv.1 = k)) = (atKey xs k).isSome:=by
  rw [valV_any,(r.val k).isSome_eq,Option.isSome_map]
 unfold putK storedH
 rw [e]
 by_cases q : (atKey xs k).isSome = true
 ·rw [if_pos q,if_pos q]; exact r.repl k ry
 ·rw [if_neg q,if_neg q]; exact Paired.snoc r ⟨rfl,hb,ry⟩
theorem KT.keeps {H H' : Hp} {kvs : List (List Key × V)} {xs : List (List Key × Addr × Value)} (r : KT H kvs xs) (ht : ∀ b ys,H b = some (.tup ys)→H' b = some (.tup ys)) : KT H' kvs xs :=
 Paired.mapP r fun _ _ z=>⟨z.1,ht _ _ z.2.1,z.2.2⟩
section
variable {P : Program} {w : World} {H : Hp} {h : Heap} {a : Addr}
theorem rd_of {u : HO} (ok : HOk P w H h) (e : Rd H a u) : ObjOk P w H h a u:=e.ok ok
theorem dk_rd {kvs : List (Key × V)} (ok : HOk P w H h) (e : Rd H a (.dK kvs)) : kvs.length≤sizeLine∧(a == sysModules) = false∧∃ vs,KV kvs vs∧h.DictOf (mixKind P w) a vs :=
 show ObjOk P w H h a (.dK kvs) from rd_of ok e
theorem dk_of {kvs : List (Key × V)} (ok : HOk P w H h) (e : H a = some (.dK kvs)) : kvs.length≤sizeLine∧(a == sysModules) = false∧∃ vs,KV kvs vs∧h.DictOf (mixKind P w) a vs:=dk_rd ok (.inl e)
theorem key_of {ks : List Key} (ok : HOk P w H h) (e : H a = some (.tup (ks.map kV))) : (tupleKind (mixKind P w)).is h ks a:=by
 obtain ⟨_,its,r,o,h1,h2,n,h3⟩:=(show ObjOk P w H h a (.tup (ks.map kV)) from ok a _ e)
 exact ⟨o,its.toArray,n,h1,h2,h3,by simpa using items_are r⟩
theorem dt_rd {kvs : List (List Key × V)} (ok : HOk P w H h) (e : Rd H a (.dT kvs)) : kvs.length≤sizeLine∧(a == sysModules) = false ∧
  ∃ xs,KT H kvs xs∧h.DictOfH (tupleKind (mixKind P w)) a xs:=by
 obtain ⟨z,y,xs,r,o,es,ep,h1,h2,h3,h4,h5⟩:=(show ObjOk P w H h a (.dT kvs) from rd_of ok e)
 refine ⟨z,y,xs,r,o,es,ep,h1,h2,h3,h4,fun x hx=>?_,h5⟩
 have all : ∀ {l : List (List Key × V)} {m : List (List Key × Addr × Value)},KT H l m→∀ x∈m,(tupleKind (mixKind P w)).is h x.1 x.2.1:=by
  intro l m q
  induction q with
  | nil=>intro x hx; exact nomatch hx
  | @cons p q ps qs hq t ih =>
   intro x hx
   rcases List.mem_cons.mp hx with e | hx
   ·subst e
    exact key_of ok (by rw [← hq.1]; exact hq.2.1)
   ·exact ih x hx
 exact all r x hx
theorem dt_of {kvs : List (List Key × V)} (ok : HOk P w H h) (e : H a = some (.dT kvs)) : kvs.length≤sizeLine∧(a == sysModules) = false ∧
  ∃ xs,KT H kvs xs∧h.DictOfH (tupleKind (mixKind P w)) a xs:=dt_rd ok (.inl e)
end
noncomputable def DGet (H : Hp) (a : Addr) (y : V) (r : Option V) : Prop :=
 (∃ kvs k,Rd H a (.dK kvs)∧y = kV k∧r = valV kvs k)∨∃ kvs k b,Rd H a (.dT kvs)∧y = .ref b∧H b = some (.tup (k.map kV))∧r = valV kvs k
noncomputable def DPut (H : Hp) (a : Addr) (y v : V) (H' : Hp) : Prop :=
 (∃ kvs k,H a = some (.dK kvs)∧y = kV k∧kvs.length < sizeLine∧H' = upd H a (.dK (putK kvs k v))) ∨
 ∃ kvs k b,H a = some (.dT kvs)∧y = .ref b∧H b = some (.tup (k.map kV))∧kvs.length < sizeLine∧H' = upd H a (.dT (putK kvs k v))
theorem DGet.k {H : Hp} {a : Addr} {kvs : List (Key × V)} {k : Key} (e : H a = some (.dK kvs)) : DGet H a (kV k) (valV kvs k):=.inl ⟨kvs,k,.inl e,rfl,rfl⟩
theorem DGet.t {H : Hp} {a b : Addr} {kvs : List (List Key × V)} {k : List Key} (e : H a = some (.dT kvs)) (eb : H b = some (.tup (k.map kV))) : DGet H a (.ref b) (valV kvs k):=.inr ⟨kvs,k,b,.inl e,rfl,eb,rfl⟩
theorem DPut.k {H : Hp} {a : Addr} {kvs : List (Key × V)} {k : Key} {v : V} (e : H a = some (.dK kvs)) (hl : kvs.length < sizeLine) : DPut H a (kV k) v (upd H a (.dK (putK kvs k v))):=.inl ⟨kvs,k,e,rfl,hl,rfl⟩
theorem DPut.t {H : Hp} {a b : Addr} {kvs : List (List Key × V)} {k : List Key} {v : V} (e : H a = some (.dT kvs)) (eb : H b = some (.tup (k.map kV))) (hl : kvs.length < sizeLine) :
  DPut H a (.ref b) v (upd H a (.dT (putK kvs k v))):=.inr ⟨kvs,k,b,e,rfl,eb,hl,rfl⟩
section
variable {X : Cx} {pins : List (Addr × Obj)} {σ : St} {H : Hp} {s : Shared} {a : Addr} {y v : V} {u r : Value} {o : Option V} {A : Around} {E : Value→Shared→Prop}
theorem Inv.big (I : Inv X pins σ H s) : sysModules < s.heap.objs.size:=by
 have h : mainGlobals < s.heap.objs.size:=(I.mod.glob.keeps I.bk).lt
 exact Nat.lt_trans (by decide) h
theorem d_getItem {Q : Value→Shared→Prop} (hu : A.units + 1 < cLine) (I : Inv X pins σ H s) (g : DGet H a y (some v)) (ry : RelV y u) (h : ∀ w' s',Inv X pins σ H s'→RelV v w'→Q w' s') :
  wpAny (model X.prog X.w) A (getItem (.ref a) u) Q E s:=by
 rcases g with ⟨kvs,k,e,ey,l⟩ | ⟨kvs,k,b,e,ey,eb,l⟩
 ·subst ey
  obtain ⟨z,hd,vs,rel,dd⟩:=dk_rd I.hok e
  obtain ⟨w',hw,rw'⟩:=RelO.some_of (v:=v) (o:=valueAt vs k) (by rw [l]; exact rel.val k)
  exact wpAny_getItem_of (kV_is ry) dd.mapOf hw (h w' _ (I.tok _) rw')
 ·subst ey
  cases (show u = Value.ref b from ry)
  obtain ⟨z,hd,xs,rel,dd⟩:=dt_rd I.hok e
  obtain ⟨w',hw,rw'⟩:=RelO.some_of (v:=v) (o:=(atKey xs k).map (·.2)) (by rw [l]; exact rel.val k)
  obtain ⟨p,hp,hp2⟩:=Option.map_eq_some_iff.mp hw
  refine wpAny_getItem_heap (tupleKind_room_in1 hu) (key_of I.hok eb) dd hp ?_
  rw [hp2]
  exact h w' _ (I.tok _) rw'
theorem d_in {Q : Value→Shared→Prop} (hu : A.units + 1 < cLine) (I : Inv X pins σ H s) (g : DGet H a y o) (ry : RelV y u) (h : ∀ s',Inv X pins σ H s'→Q (.bool o.isSome) s') :
  wpAny (model X.prog X.w) A (compareOp .In u (.ref a)) Q E s:=by
 rcases g with ⟨kvs,k,e,ey,l⟩ | ⟨kvs,k,b,e,ey,eb,l⟩
 ·subst ey
  obtain ⟨z,hd,vs,rel,dd⟩:=dk_rd I.hok e
  refine wpAny_in_of (kV_is ry) hd dd.mapOf ?_
  rw [← (rel.val k).isSome_eq,← l]
  exact h _ (I.tok _)
 ·subst ey
  cases (show u = Value.ref b from ry)
  obtain ⟨z,hd,xs,rel,dd⟩:=dt_rd I.hok e
  refine wpAny_in_heap (tupleKind_room_in1 hu) (key_of I.hok eb) hd dd ?_
  have q:=(rel.val k).isSome_eq
  rw [Option.isSome_map] at q
  rw [← q,← l]
  exact h _ (I.tok _)
theorem d_notIn {Q : Value→Shared→Prop} (hu : A.units + 1 < cLine) (I : Inv X pins σ H s) (g : DGet H a y o) (ry : RelV y u) (h : ∀ s',Inv X pins σ H s'→Q (.bool (!o.isSome)) s') :
  wpAny (model X.prog X.w) A (compareOp .NotIn u (.ref a)) Q E s:=by
 rcases g with ⟨kvs,k,e,ey,l⟩ | ⟨kvs,k,b,e,ey,eb,l⟩
 ·subst ey
  obtain ⟨z,hd,vs,rel,dd⟩:=dk_rd I.hok e
  refine wpAny_notIn_of (kV_is ry) hd dd.mapOf ?_
  rw [← (rel.val k).isSome_eq,← l]
  exact h _ (I.tok _)
 ·subst ey
  cases (show u = Value.ref b from ry)
  obtain ⟨z,hd,xs,rel,dd⟩:=dt_rd I.hok e
  refine wpAny_notIn_heap (tupleKind_room_in1 hu) (key_of I.hok eb) hd dd ?_
  have q:=(rel.val k).isSome_eq
  rw [Option.isSome_map] at q
  rw [← q,← l]
  exact h _ (I.tok _)
theorem d_write {h' : Heap} {t' : Nat} {ob : HO} (I : Inv X pins σ H s) (mu : Mut (H a)) (hs : Heap.SameBut a s.heap h') (he : ∃ q,h'.get? a = some q) (new : ObjOk X.prog X.w (upd H a ob) h' a ob) :
  Inv X pins σ (upd H a ob) { s with heap:=h',toks:=t' } :=
 I.write (x:=a) (e:=a) mu (.inl rfl) (fun b q hb z=>(hs.2 b hb).trans z) he new
theorem dk_new {P : Program} {w : World} {H' : Hp} {h' : Heap} {kvs : List (Key × V)} {vs : List (Key × Value)} (z : kvs.length≤sizeLine) (hd : (a == sysModules) = false) (rel : KV kvs vs) (dd : h'.DictOf (mixKind P w) a vs) :
  ObjOk P w H' h' a (.dK kvs):=⟨z,hd,vs,rel,dd⟩
theorem d_setItem {H' : Hp} {Q : Unit→Shared→Prop} (hu : A.units + 1 < cLine) (I : Inv X pins σ H s) (g : DPut H a y v H') (ry : RelV y u) (rv : RelV v r) (h : ∀ s',Inv X pins σ H' s'→Q () s') :
  wpAny (model X.prog X.w) A (setItem (.ref a) u r) Q E s:=by
 rcases g with ⟨kvs,k,e,ey,l,eH⟩ | ⟨kvs,k,b,e,ey,eb,l,eH⟩
 ·subst ey eH
  obtain ⟨z,hd,vs,rel,dd⟩:=dk_of I.hok e
  have hz : vs.length≤sizeLine:=by rw [← rel.length]; exact z
  have hl : (putK kvs k v).length≤sizeLine:=by have:=length_putK kvs k v; omega
  refine wpAny_setItem_pairs (hsz:=hz) (kV_is ry) dd fun h' dd' hs=>h _ ?_
  have he : ∃ q,h'.get? a = some q:=let ⟨q,_,_,hq,_⟩:=dd'; ⟨q,hq⟩
  exact d_write I (by rw [e]; exact True.intro) hs he (dk_new hl hd (rel.put k rv) dd')
 ·subst ey eH
  cases (show u = Value.ref b from ry)
  obtain ⟨z,hd,xs,rel,dd⟩:=dt_of I.hok e
  have hz : xs.length≤sizeLine:=by rw [← Paired.length rel]; exact z
  have hl : (putK kvs k v).length≤sizeLine:=by have:=length_putK kvs k v; omega
  refine wpAny_setItem_heap (hsz:=hz) (tupleKind_room_in1 hu) (key_of I.hok eb) dd fun h' dd' hs=>h _ ?_
  obtain ⟨q,es,ep,hq,h2,h3,h4,_,h5⟩:=dd'
  refine d_write I (by rw [e]; exact True.intro) hs ⟨q,hq⟩ ⟨hl,hd,_,(rel.put k eb rv).keeps fun c ys ec=>?_,q,es,ep,hq,h2,h3,h4,h5⟩
  rw [upd_ne (ne_of ec e (fun z=>nomatch z))]
  exact ec
end
section
variable {X : Cx} {pins : List (Addr × Obj)} {σ : St} {H : Hp} {s : Shared} {a : Addr} {kvs : List (Key × V)} {k : Key} {u : Value} {A : Around} {E : Value→Shared→Prop}
theorem d_delItem {Q : Unit→Shared→Prop} (I : Inv X pins σ H s) (e : H a = some (.dK kvs)) (ry : RelV (kV k) u) (l : (valV kvs k).isSome = true) (h : ∀ s',Inv X pins σ (upd H a (.dK (dropK kvs k))) s'→Q () s') :
  wpAny (model X.prog X.w) A (delItem (.ref a) u) Q E s:=by
 obtain ⟨z,hd,vs,rel,dd⟩:=dk_of I.hok e
 refine wpAny_delItem_slot dd.typeIs (by decide) PySem.F.slot_dict_delitem
  (call_meetsIn PySem.F.slot_dict_delitem dd.typeIs PySem.F.entry_dict_delitem (PySem.F.args_dict_delitem_2 _ _) (meets_dict_delitem_pairs (mixKind X.prog X.w) a (kV_is ry)) ⟨vs,dd,by rw [← rel.length]; exact z,by rw [← (rel.val k).isSome_eq]; exact l,fun h' dd' hs=>h _ ?_⟩)
 have he : ∃ q,h'.get? a = some q:=let ⟨q,_,_,hq,_⟩:=dd'; ⟨q,hq⟩
 exact d_write I (by rw [e]; exact True.intro) hs he (dk_new (Nat.le_trans (dropK_le kvs k) z) hd (rel.drop k) dd')
theorem d_pop {v : V} {more : List Value} {Q : Value→Shared→Prop} (I : Inv X pins σ H s) (e : H a = some (.dK kvs)) (ry : RelV (kV k) u) (l : valV kvs k = some v) (hm : more = []∨∃ x,more = [x])
  (h : ∀ w' s',Inv X pins σ (upd H a (.dK (dropK kvs k))) s'→RelV v w'→Q w' s') : wpAny (model X.prog X.w) A (call (.builtin "dict.pop") (.ref a :: u :: more)) Q E s:=by
 obtain ⟨z,hd,vs,rel,dd⟩:=dk_of I.hok e
 obtain ⟨w',hw,rw'⟩:=RelO.some_of (v:=v) (o:=valueAt vs k) (by rw [← l]; exact rel.val k)
 have hp : (keyPart u).isSome = true:=by
  cases k with
  | inl i=>obtain ⟨t,q⟩:=(show ∃ t,u = Value.int i t from ry); subst q; rfl
  | inr x=>obtain ⟨t,q⟩:=(show ∃ t,u = Value.str x t from ry); subst q; rfl
 have ha : argsOk "dict.pop" ⟨.ref a :: u :: more,[]⟩:=by
  rcases hm with q | ⟨x,q⟩
  ·subst q; exact PySem.F.args_dict_pop_2 _ _
  ·subst q; exact PySem.F.args_dict_pop_3 _ _ _
 refine call_meetsIn PySem.F.slot_dict_pop dd.typeIs PySem.F.entry_dict_pop ha (meets_dict_pop_there (mixKind X.prog X.w) a (kV_is ry) more hm hp)
  ⟨vs,w',dd,by rw [← rel.length]; exact z,hw,fun h' dd' hs=>h w' _ ?_ rw'⟩
 have he : ∃ q,h'.get? a = some q:=let ⟨q,_,_,hq,_⟩:=dd'; ⟨q,hq⟩
 exact d_write I (by rw [e]; exact True.intro) hs he (dk_new (Nat.le_trans (dropK_le kvs k) z) hd (rel.drop k) dd')
theorem d_len {Q : Value→Shared→Prop} (I : Inv X pins σ H s) (e : Rd H a (.dK kvs)) (h : ∀ t s',Inv X pins σ H s'→Q (.int kvs.length t) s') : wpAny (model X.prog X.w) A (call (.builtin "len") [.ref a]) Q E s:=by
 obtain ⟨z,hd,vs,rel,dd⟩:=dk_rd I.hok e
 refine call_len_dict hd dd (by rw [← rel.length]; rw [sizeLine_eq] at z; omega) ?_
 rw [← rel.length]
 exact h _ _ (I.tok _)
end
noncomputable def NoSl (i : Expr) : Prop:=∀ ov iv,subscripted i false ov iv = operate [ov,iv] (getItem ov iv)
theorem subD_of {prog : Program} {w : World} {A : Around} {E : Value→Shared→Prop} {s : Shared} {env : Env} {value slice : Expr} {pos : Pos} {T id : String} {Q : Value→Shared→Prop}
  (hl : typeLookup (.type T) "__getitem__" = pure (some (.builtin id))) (hs : NoSl slice)
  (h : wpAny (model prog w) A (eval value env) (fun o s₁=>wpAny (model prog w) A (eval slice env) (fun i s₂=>s₂.TypeIs o T∧wpAny (model prog w) A (getItem o i) Q E s₂) E s₁) E s) :
  wpAny (model prog w) A (eval (.Subscript value slice pos) env) Q E s:=by
 refine Subscript_ (wpAny_mono h (fun o s₁ h₁=>wpAny_mono h₁ (fun i s₂ h₂=>?_) fun _ _ x=>x) fun _ _ x=>x)
 obtain ⟨hT,h₂⟩:=h₂
 unfold subscriptTail
 refine wpAny_bind ?_
 rw [getitemInPython_of_ne hT.not_modules]
 refine wpAny_bind (wpAny_specialOf hT hl ?_)
 have fin : wpAny (model prog w) A (subscripted slice false o i) (fun r s₃=>wpAny (model prog w) A (letTemporaryGo value o r >>= fun _=>pure r) Q E s₃) E s₂:=by
  rw [hs o i]
  exact wpAny_operating (wpAny_mono h₂ (fun r s₃ h₃=>wpAny_bind (wpAny_letTemporaryGo (wpAny_pure h₃))) fun _ _ x=>x)
 first
  | exact wpAny_pure (wpAny_bind fin)
  | exact wpAny_bind (wpAny_pure (wpAny_bind fin))
  | exact wpAny_bind fin
theorem dict_typeIs {X : Cx} {pins : List (Addr × Obj)} {σ : St} {H : Hp} {s : Shared} {a : Addr} {y : V} {o : Option V} (I : Inv X pins σ H s) (g : DGet H a y o) : s.TypeIs (.ref a) "dict":=by
 rcases g with ⟨kvs,k,e,_,_⟩ | ⟨kvs,k,b,e,_,_,_⟩
 ·obtain ⟨_,_,vs,_,dd⟩:=dk_rd I.hok e
  exact dd.typeIs
 ·obtain ⟨_,_,xs,_,dd⟩:=dt_rd I.hok e
  exact dd.typeIs
noncomputable def tDGet (td ty : TE) : TE:=fun σ H Q=>td σ H fun x H1=>ty σ H1 fun y H2=>∃ a v,x = .ref a∧DGet H2 a y (some v)∧Q v H2
noncomputable def tDIn (ty td : TE) : TE:=fun σ H Q=>ty σ H fun y H1=>td σ H1 fun x H2=>∃ a o,x = .ref a∧DGet H2 a y o∧Q (.bl o.isSome) H2
noncomputable def tDNotIn (ty td : TE) : TE:=fun σ H Q=>ty σ H fun y H1=>td σ H1 fun x H2=>∃ a o,x = .ref a∧DGet H2 a y o∧Q (.bl (!o.isSome)) H2
noncomputable def sDPut (td ty tv : TE) : TS:=fun D σ H=>tv σ H fun v H1=>td σ H1 fun x H2=>ty σ H2 fun y H3=>∃ a H4,x = .ref a∧DPut H3 a y v H4∧D.nx σ H4
section
variable {X : Cx} {o i e value : Expr} {pos pos' tpos : Pos} {td ty tv : TE}
theorem pe_dget (hu : X.A.units + 1 < cLine) (ho : PE X o td) (hi : PE X i ty) (hs : NoSl i) : PE X (.Subscript o i pos) (tDGet td ty):=by
 intro pins s σ H Q I h
 refine subD_of PySem.F.slot_dict_getitem.lookup hs (thn (ho pins s σ H _ I h) fun u s1 ⟨x,H1,I1,rx,q1⟩=>thn (hi pins s1 σ H1 _ I1 q1) fun iv s2 ⟨y,H2,I2,ry,a,v,ex,g,q2⟩=>?_)
 subst ex
 obtain rfl : u = Value.ref a:=rx
 exact ⟨dict_typeIs I2 g,d_getItem hu I2 g ry fun w' s3 I3 rw'=>⟨v,H2,I3,rw',q2⟩⟩
theorem pc_din (hu : X.A.units + 1 < cLine) (hi : PE X i ty) (ho : PE X o td) : PC X .In i o (tDIn ty td):=by
 intro pins s σ H Q I h
 refine thn (hi pins s σ H _ I h) fun iv s1 ⟨y,H1,I1,ry,q1⟩=>thn (ho pins s1 σ H1 _ I1 q1) fun u s2 ⟨x,H2,I2,rx,a,ov,ex,g,q2⟩=>?_
 subst ex
 obtain rfl : u = Value.ref a:=rx
 exact d_in hu I2 g ry fun s3 I3=>⟨.bl ov.isSome,H2,I3,rfl,q2⟩
theorem pc_dnotin (hu : X.A.units + 1 < cLine) (hi : PE X i ty) (ho : PE X o td) : PC X .NotIn i o (tDNotIn ty td):=by
 intro pins s σ H Q I h
 refine thn (hi pins s σ H _ I h) fun iv s1 ⟨y,H1,I1,ry,q1⟩=>thn (ho pins s1 σ H1 _ I1 q1) fun u s2 ⟨x,H2,I2,rx,a,ov,ex,g,q2⟩=>?_
 subst ex
 obtain rfl : u = Value.ref a:=rx
 exact d_notIn hu I2 g ry fun s3 I3=>⟨.bl (!ov.isSome),H2,I3,rfl,q2⟩
theorem ps_dput (hu : X.A.units + 1 < cLine) (ho : PE X o td) (hi : PE X i ty) (hv : PE X value tv) (hs : swapsWith value (some (.Subscript o i pos')) pos.line X.env = pure false) :
  PS X (.Assign [.Subscript o i pos'] value pos) (sDPut td ty tv):=by
 intro pins s σ H D I h
 refine wpAny_Assign_Subscript (thn (hv pins s σ H _ I h) fun r s1 ⟨v,H1,I1,rv,q1⟩=>thn (ho pins s1 σ H1 _ I1 q1) fun u s2 ⟨x,H2,I2,rx,q2⟩=>thn (hi pins s2 σ H2 _ I2 q2) fun iv s3 ⟨y,H3,I3,ry,a,H4,ex,g,q3⟩=>?_) hs
 subst ex
 obtain rfl : u = Value.ref a:=rx
 exact d_setItem hu I3 g ry rv fun s4 I4=>⟨σ,H4,I4,q3⟩
end
theorem dk_empty {P : Program} {w : World} {H : Hp} (h : Heap) (hb : sysModules < h.objs.size) : ObjOk P w H (h.push { cls:=.type "dict",data:=.dict #[] }) h.objs.size (.dK []) :=
 ⟨Nat.zero_le _,beq_eq_false_iff_ne.mpr (Ne.symm (Nat.ne_of_lt hb)),[],.nil,Heap.DictOf.new h⟩
noncomputable def tDNewK : TE:=fun _ H Q=>∀ p,H p = none→Q (.ref p) (upd H p (.dK []))
section
variable {X : Cx} {pos : Pos}
theorem pe_dnewK : PE X (.Dict [] [] pos) tDNewK:=fun pins s σ H Q I h =>
 wpAny_Dict_empty ⟨.ref s.heap.objs.size,_,I.laid (a:=s.heap.objs.size) (o:=.dK []) (t':=s.toks) (fun _ _ q=>Heap.get?_push_of_some _ q) (Nat.le_refl _) (dk_empty s.heap I.big),rfl,h _ (I.hok.fresh (Nat.le_refl _))⟩
end
noncomputable def tPairs : List (TE × TE)→St→Hp→(List (V × V)→Hp→Prop)→Prop
 | [],_,H,Q=>Q [] H
 | (tk,tv) :: r,σ,H,Q=>tk σ H fun x H1=>tv σ H1 fun y H2=>tPairs r σ H2 fun ps H3=>Q ((x,y) :: ps) H3
noncomputable abbrev VV : List (V × V)→List (Value × Value)→Prop:=Paired fun p q=>RelV p.1 q.1∧RelV p.2 q.2
noncomputable def PPs (X : Cx) (pos : Pos) (keys : List (Option Expr)) (values : List Expr) (trs : List (TE × TE)) : Prop :=
 ∀ (pins : List (Addr × Obj)) (s : Shared) (σ : St) (H : Hp) (Q : List (V × V)→Hp→Prop),Inv X pins σ H s→tPairs trs σ H Q →
  wpAny (model X.prog X.w) X.A (evalPairs (pairTrees keys values X.env pos)) (fun vs s'=>∃ ps H',Inv X pins σ H' s'∧VV ps vs∧Q ps H') X.xe s
theorem pps_nil {X : Cx} {pos : Pos} : PPs X pos [] [] []:=fun pins s σ H Q I h=>pairTrees_nil_walk ⟨[],H,I,.nil,h⟩
theorem pps_cons {X : Cx} {pos : Pos} {k v : Expr} {ks : List (Option Expr)} {vs : List Expr} {tk tv : TE} {trs : List (TE × TE)} (hk : PE X k tk) (hv : PE X v tv) (hr : PPs X pos ks vs trs) :
  PPs X pos (some k :: ks) (v :: vs) ((tk,tv) :: trs):=fun pins s σ H Q I h =>
 pairTrees_cons_walk (thn (hk pins s σ H _ I h) fun u s1 ⟨x,H1,I1,rx,q1⟩=>thn (hv pins s1 σ H1 _ I1 q1) fun w2 s2 ⟨y,H2,I2,ry,q2⟩ =>
  thn (hr pins s2 σ H2 _ I2 q2) fun ws s3 ⟨ps,H3,I3,rel,q3⟩=>⟨(x,y) :: ps,H3,I3,.cons ⟨rx,ry⟩ rel,q3⟩)
noncomputable def mergeK (kvs more : List (Key × V)) : List (Key × V):=more.foldl (fun acc kv=>putK acc kv.1 kv.2) kvs
theorem KV.merge : ∀ {more : List (Key × V)} {rs : List (Key × Value)} {kvs : List (Key × V)} {vs : List (Key × Value)},KV more rs→KV kvs vs→KV (mergeK kvs more) (merged vs rs):=by
 intro more rs kvs vs r
 unfold KV at r
 induction r generalizing kvs vs with
 | nil=>intro q; exact q
 | @cons p q ps qs h t ih =>
  intro r0
  have e : KV (putK kvs p.1 p.2) (stored vs q.1 q.2):=by
   have:=r0.put p.1 h.2
   rw [← h.1]; exact this
  exact ih e
theorem length_mergeK : ∀ (more kvs : List (Key × V)),(mergeK kvs more).length≤kvs.length + more.length
 | [],kvs=>by show kvs.length≤kvs.length + 0; omega
 | p :: r,kvs=>by
  have h1:=length_mergeK r (putK kvs p.1 p.2)
  have h2:=length_putK kvs p.1 p.2
  show (mergeK (putK kvs p.1 p.2) r).length≤_
  rw [List.length_cons]; omega
theorem carries_of {P : Program} {w : World} : ∀ {kvs : List (Key × V)} {ws : List (Value × Value)},VV (kvs.map fun kv=>(kV kv.1,kv.2)) ws→∃ rs,Carries (mixKind P w) ws rs∧KV kvs rs
 | [],_,r=>by rw [List.map_nil] at r; cases r; exact ⟨[],True.intro,.nil⟩
 | p :: kvs,_,r=>by
  rw [List.map_cons] at r
  cases r with
  | @cons a b as bs h t =>
   obtain ⟨rs,c,q⟩:=carries_of (P:=P) (w:=w) t
   obtain ⟨b1,b2⟩:=b
   exact ⟨(p.1,b2) :: rs,⟨kV_is h.1,rfl,c⟩,.cons ⟨rfl,h.2⟩ q⟩
noncomputable def tDisp (trs : List (TE × TE)) : TE:=fun σ H Q=>∀ p,H p = none→tPairs trs σ (upd H p (.dK [])) fun ps H2=>H2 p = some (.dK [])∧∃ kvs : List (Key × V),ps = kvs.map (fun kv=>(kV kv.1,kv.2))∧kvs.length≤15∧Q (.ref p) (upd H2 p (.dK (mergeK [] kvs)))
theorem pe_disp {X : Cx} {pos : Pos} {keys : List (Option Expr)} {values : List Expr} {trs : List (TE × TE)} (h : PPs X pos keys values trs) (hall : keys.all (·.isSome) = true) (hl : keys.length = values.length) (h0 : keys ≠ [])
  (h15 : keys.length≤15) : PE X (.Dict keys values pos) (tDisp trs):=by
 intro pins s σ H Q I q
 have hn:=I.hok.fresh (Nat.le_refl s.heap.objs.size)
 have I1:=I.laid (a:=s.heap.objs.size) (o:=.dK []) (h':=s.heap.push { cls:=.type "dict",data:=.dict #[] }) (t':=s.toks) (fun _ _ q=>Heap.get?_push_of_some _ q) (Nat.le_refl _) (dk_empty s.heap I.big)
 refine wpAny_Dict_walk (knd:=mixKind X.prog X.w) hall hl h0 h15 (thn (h pins _ σ _ _ I1 (q _ hn)) fun ws s2 ⟨ps,H2,I2,rel,e,kvs,ep,lk,q2⟩=>?_)
 subst ep
 obtain ⟨rs,c,rk⟩:=carries_of (P:=X.prog) (w:=X.w) rel
 obtain ⟨z,hd,vs0,r0,dd⟩:=dk_of I2.hok e
 cases r0
 refine ⟨rs,c,dd,fun h' dd' hs=>⟨.ref s.heap.objs.size,_,?_,rfl,q2⟩⟩
 have hz : (mergeK [] kvs).length≤sizeLine:=by
  have h1:=length_mergeK kvs []
  rw [List.length_nil] at h1
  rw [sizeLine_eq]; omega
 have he : ∃ q,h'.get? s.heap.objs.size = some q:=let ⟨q,_,_,hq,_⟩:=dd'; ⟨q,hq⟩
 exact d_write I2 (by rw [e]; exact True.intro) hs he (dk_new hz hd (rk.merge .nil) dd')
structure M1 (X : Cx) (o : Expr) (m : Str) (apos : Pos) (e : Expr) (cpos : Pos) : Prop where
 base : attributeBase o m X.env (eval o X.env) = eval o X.env
 few : ((backTo cpos (starEach [e] X.env)).all (fun x=>!x.1) && (backToKw cpos (keywordEach [] X.env)).all (fun x=>x.1.isSome)
  && decide (([e] : List Expr).length + ([] : List Keyword).length + (if ([] : List Keyword).isEmpty then 0 else 1) < 30)) = true
 line : (apos.endLine == cpos.line) = true
 trees : backTo cpos (starEach [e] X.env) = [(false,eval e X.env)]
structure M2 (X : Cx) (o : Expr) (m : Str) (apos : Pos) (e f : Expr) (cpos : Pos) : Prop where
 base : attributeBase o m X.env (eval o X.env) = eval o X.env
 few : ((backTo cpos (starEach [e,f] X.env)).all (fun x=>!x.1) && (backToKw cpos (keywordEach [] X.env)).all (fun x=>x.1.isSome)
  && decide (([e,f] : List Expr).length + ([] : List Keyword).length + (if ([] : List Keyword).isEmpty then 0 else 1) < 30)) = true
 line : (apos.endLine == cpos.line) = true
 trees : backTo cpos (starEach [e,f] X.env) = [(false,eval e X.env),(false,eval f X.env)]
noncomputable def IsD (H : Hp) (a : Addr) : Prop:=(∃ kvs,Rd H a (.dK kvs))∨∃ kvs,Rd H a (.dT kvs)
theorem isD_at {X : Cx} {pins : List (Addr × Obj)} {σ : St} {H : Hp} {s : Shared} {a : Addr} (I : Inv X pins σ H s) (d : IsD H a) :
  s.TypeIs (.ref a) "dict"∧(∀ b,Value.ref a = .ref b→∃ ob,s.heap.get? b = some ob∧ob.dict = none)∧(a == sysModules) = false:=by
 rcases d with ⟨kvs,e⟩ | ⟨kvs,e⟩
 ·obtain ⟨_,hd,vs,_,dd⟩:=dk_rd I.hok e
  refine ⟨dd.typeIs,fun b q=>?_,hd⟩
  cases q
  obtain ⟨ob,_,_,h1,h2,_⟩:=dd
  exact ⟨ob,h1,h2.2.1⟩
 ·obtain ⟨_,hd,xs,_,dd⟩:=dt_rd I.hok e
  refine ⟨dd.typeIs,fun b q=>?_,hd⟩
  cases q
  obtain ⟨ob,_,_,h1,h2,_⟩:=dd
  exact ⟨ob,h1,h2.2.1⟩
section
variable {X : Cx} {pins : List (Addr × Obj)} {σ : St} {H : Hp} {s : Shared} {a : Addr} {y d : V} {u r : Value} {o : Option V} {A : Around} {E : Value→Shared→Prop}
end
noncomputable def tDPop1 (td ty : TE) : TE:=fun σ H Q=>td σ H fun x H1=>∃ a,x = .ref a∧IsD H1 a∧ty σ H1 fun y H2=>∃ kvs k v,H2 a = some (.dK kvs)∧y = kV k∧valV kvs k = some v∧Q v (upd H2 a (.dK (dropK kvs k)))
section
variable {X : Cx} {o e f : Expr} {apos cpos : Pos} {td ty tx : TE}
theorem pe_dpop1 (ho : PE X o td) (he : PE X e ty) (m : M1 X o "pop" apos e cpos) : PE X (.Call (.Attribute o "pop" apos) [e] [] cpos) (tDPop1 td ty):=by
 intro pins s σ H Q I h
 refine wpAny_Call_method m.base m.few m.line PySem.F.plainAttrs_dict PySem.F.slot_dict_pop PySem.F.type_dict_pop (thn (ho pins s σ H _ I h) fun u s1 ⟨x,H1,I1,rx,a,ex,d,q1⟩=>?_)
 subst ex
 obtain rfl : u = Value.ref a:=rx
 obtain ⟨t1,t2,_⟩:=isD_at I1 d
 refine ⟨t1,t2,?_⟩
 rw [m.trees]
 refine Calls.callWith_builtin rfl (Calls.evalArgs_plain (Calls.spliced_cons (thn (he pins s1 σ H1 _ I1 q1) fun iv s2 ⟨y,H2,I2,ry,kvs,k,v,ea,ey,l,q2⟩=>Calls.spliced_nil ?_)))
 subst ey
 exact d_pop I2 ea ry l (.inl rfl) fun w' s3 I3 rw'=>⟨v,_,I3,rw',q2⟩
end
section
variable {X : Cx} {pins : List (Addr × Obj)} {σ : St} {H : Hp} {s : Shared} {a : Addr} {kvs : List (Key × V)} {A : Around} {E : Value→Shared→Prop}
end
section
variable {X : Cx} {pins : List (Addr × Obj)} {σ : St} {H : Hp} {s : Shared} {a : Addr} {y : V} {u : Value} {A : Around} {E : Value→Shared→Prop}
end
end L2
namespace VM
theorem len1 {α : Type} : ∀ {us : List α},us.length = 1→∃ x0,us = [x0]
 | [x0],_=>⟨x0,rfl⟩
 | [],h=>by cases h
 | _ :: _ :: _,h=>by cases h
theorem len2 {α : Type} : ∀ {us : List α},us.length = 2→∃ x0 x1,us = [x0,x1]
 | [],h=>by cases h
 | x0 :: r,h=>by
  obtain ⟨x1,rfl⟩:=len1 (us:=r) (by simpa using h)
  exact ⟨x0,x1,rfl⟩
theorem len3 {α : Type} : ∀ {us : List α},us.length = 3→∃ x0 x1 x2,us = [x0,x1,x2]
 | [],h=>by cases h
 | x0 :: r,h=>by
  obtain ⟨x1,x2,rfl⟩:=len2 (us:=r) (by simpa using h)
  exact ⟨x0,x1,x2,rfl⟩
theorem len4 {α : Type} : ∀ {us : List α},us.length = 4→∃ x0 x1 x2 x3,us = [x0,x1,x2,x3]
 | [],h=>by cases h
 | x0 :: r,h=>by
  obtain ⟨x1,x2,x3,rfl⟩:=len3 (us:=r) (by simpa using h)
  exact ⟨x0,x1,x2,x3,rfl⟩
theorem len5 {α : Type} : ∀ {us : List α},us.length = 5→∃ x0 x1 x2 x3 x4,us = [x0,x1,x2,x3,x4]
 | [],h=>by cases h
 | x0 :: r,h=>by
  obtain ⟨x1,x2,x3,x4,rfl⟩:=len4 (us:=r) (by simpa using h)
  exact ⟨x0,x1,x2,x3,x4,rfl⟩
theorem len6 {α : Type} : ∀ {us : List α},us.length = 6→∃ x0 x1 x2 x3 x4 x5,us = [x0,x1,x2,x3,x4,x5]
 | [],h=>by cases h
 | x0 :: r,h=>by
  obtain ⟨x1,x2,x3,x4,x5,rfl⟩:=len5 (us:=r) (by simpa using h)
  exact ⟨x0,x1,x2,x3,x4,x5,rfl⟩
end VM
namespace VM
open PySem L2 PySem.W PySem.Calls PyProof.Rows
section
variable {X : Cx}
end
end VM
namespace VM
open PySem L2
structure MI (K : PySem.W.Frag) (G H₀ : Hp) (D : Addr) (bs : List Addr) (f : Nat→List PyData) (H : Hp) : Prop where
 ex : ∃ F,Same H₀ H∧Same G F∧Same F H∧(∀ a o,F a = some o→G a = some o∨imo o = true)∧F D = none∧H₀ D = none∧H D = some (.lst (bs.map V.ref))∧D ∉ bs∧bs.Nodup ∧
  (∀ b∈bs,F b = none∧H₀ b = none)∧∀ (u : Nat) b,bs[u]? = some b→∃ ys,H b = some (.lst ys)∧HasL K F (f u) ys
section
variable {K : PySem.W.Frag} {G H₀ H : Hp} {D : Addr} {bs : List Addr} {f f' : Nat→List PyData}
end
end VM
namespace VM
open PySem PySem.Spec PyProof.Rows L2
section
variable {K : PySem.W.Frag} {ioA : Nat→Option Addr} {G H₀ F H : Hp} {S : GS} {σ σ' : St}
end
theorem vR_at {i : Nat} {σ : St} {H : Hp} {Q : VK} {v : V} (e : σ[i]? = some (some v)) (q : Q v H) : vR i σ H Q:=by unfold vR; rw [e]; exact q
section
variable {X : Cx} {s1 s2 s3 : Stmt} {rest : List Stmt} {g : VS} {ip is_ iw ia ib iwd il idue : Nat}
end
end VM
namespace L2
open PySem PySem.Spec PyProof.Rows
noncomputable def cutN (l : List Nat) (lo hi : Option Int) : List Nat:=(l.drop (HT.sIx l.length 0 lo)).take (HT.sIx l.length l.length hi - HT.sIx l.length 0 lo)
noncomputable def cutS (z : Str) (lo hi : Option Int) : Str:=⟨(cutN z.cps.toList lo hi).toArray⟩
theorem clipN (o : Option Int) (n d : Nat) (hd : d≤n) : (match o with
  | none=>(d : Int)
  | some i=>max 0 (min (if i < 0 then i + (n : Int) else i) (n : Int))) = ((HT.sIx n d o : Nat) : Int):=by
 cases o with
 | none=>rfl
 | some v =>
  show max (0 : Int) (min (if v < 0 then v + (n : Int) else v) (n : Int)) = (((if v < 0 then (v + (n : Int)).toNat else min v.toNat n : Nat)) : Int)
  split <;> omega
open PySem.Builtin.Str in
theorem idx_cut (lo hi : Option Int) (n : Nat) : strSliceIndices lo hi 1 n = (List.range (HT.sIx n n hi - HT.sIx n 0 lo)).map fun k=>HT.sIx n 0 lo + k:=by
 have e1:=clipN lo n 0 (Nat.zero_le _)
 have e2:=clipN hi n n (Nat.le_refl _)
 have key : strSliceIndices lo hi 1 n = sliceRange ((HT.sIx n 0 lo : Nat) : Int) ((HT.sIx n n hi : Nat) : Int) 1:=by
  rw [← e1,← e2]
  unfold strSliceIndices
  cases lo <;> cases hi <;> rfl
 rw [key]
 generalize HT.sIx n 0 lo = a
 generalize HT.sIx n n hi = b
 unfold sliceRange
 simp only [show ((1 : Int) > 0) = True by simp,if_true]
 have e3 : (if (a : Int) < (b : Int) then ((b : Int) - (a : Int) + 1 - 1) / 1 else 0).toNat = b - a:=by
  by_cases h : (a : Int) < b
  ·rw [if_pos h,Int.ediv_one]; omega
  ·rw [if_neg h]; omega
 rw [e3]
 exact List.map_congr_left fun k _=>by omega
open PySem.Builtin.Str in
theorem made_cut (z : Str) (t : Tok) (l u : Option (Int × Tok)) {Q : Value→Shared→Prop} {s : Shared} (hz : z.length≤sizeLine) (q : ∀ t' k,Q (.str (cutS z (l.map (·.1)) (u.map (·.1))) t') { s with toks:=k }) :
  (sliceMade z t l u none).post Q s:=by
 unfold sliceMade slicePicked
 have hl : z.cps.toList.length = z.length:=by simp [Str.length]
 have a1:=HT.sIx_le z.length 0 (Nat.zero_le _) (l.map (·.1))
 have a2:=HT.sIx_le z.length z.length (Nat.le_refl _) (u.map (·.1))
 have ei : strSliceIndices (l.map (·.1)) (u.map (·.1)) (((none : Option (Int × Tok)).map (·.1)).getD 1) z.length = _:=idx_cut (l.map (·.1)) (u.map (·.1)) z.length
 have ep : (strSliceIndices (l.map (·.1)) (u.map (·.1)) (((none : Option (Int × Tok)).map (·.1)).getD 1) z.length).filterMap (z.cps[·]?) = cutN z.cps.toList (l.map (·.1)) (u.map (·.1)):=by
  rw [ei]
  unfold cutN
  rw [hl]
  generalize hA : HT.sIx z.length 0 (l.map (·.1)) = a at *
  generalize hB : HT.sIx z.length z.length (u.map (·.1)) = b at *
  by_cases c : a≤b
  ·have:=StrLaws.picks z.cps.toList (b - a) a (by omega)
   simpa using this
  ·rw [show b - a = 0 by omega]; simp
 split
 ·rename_i c
  have c' : (strSliceIndices (l.map (·.1)) (u.map (·.1)) (((none : Option (Int × Tok)).map (·.1)).getD 1) z.length).length = z.length:=by
   simp only [Bool.and_eq_true,beq_iff_eq] at c
   exact c.2
  rw [ei,List.length_map,List.length_range] at c'
  have : cutS z (l.map (·.1)) (u.map (·.1)) = z:=by
   unfold cutS cutN
   rw [hl,show HT.sIx z.length 0 (l.map (·.1)) = 0 by omega,List.drop_zero,List.take_of_length_le (by rw [hl]; omega)]
  have q':=q t s.toks
  rw [this] at q'
  exact q'
 ·rw [ep]
  refine ⟨?_,q _ _⟩
  show (cutN z.cps.toList (l.map (·.1)) (u.map (·.1))).toArray.size≤sizeLine
  rw [List.size_toArray]
  unfold cutN
  rw [List.length_take,List.length_drop,hl]
  omega
section
variable {X : Cx}
noncomputable def rSlS : V→Option Int→Option Int→Hp→VK→Prop:=fun x lo hi H Q=>∃ z,x = .str z∧z.length≤sizeLine∧Q (.str (cutS z lo hi)) H
theorem sl_str : SlR X rSlS:=by
 intro pins s σ H x v vl vu lo hi sl Q I rx hs pl pu h
 obtain ⟨z,rfl,hz,q⟩:=h
 obtain ⟨t,rfl⟩:=rx
 refine ⟨"str",_,F.slot_str_getitem.lookup,typeIs_str s z t,?_⟩
 obtain ⟨o,ho,hc,hd⟩:=hs
 have part : ∀ {v : Value} {o : Option Int},IsPart v o→∃ p : Option (Int × Tok),v = partValue p∧p.map (·.1) = o:=fun h=>by
  cases h with
  | none=>exact ⟨none,rfl,rfl⟩
  | int i t=>exact ⟨some (i,t),rfl,rfl⟩
 obtain ⟨pl',rfl,rfl⟩:=part pl
 obtain ⟨pu',rfl,rfl⟩:=part pu
 refine wpAny_getItem_str_slice (l:=pl') (u:=pu') (st:=none) ⟨o,ho,hc,hd⟩ rfl (made_cut z t pl' pu' hz fun t' k=>?_)
 exact ⟨.str _,H,I.kept (t':=k) fun _ _ e=>e,⟨t',rfl⟩,q⟩
theorem op_le_str : OpR X (compareOp .LtE) (fun x y H Q=>∃ i j,x = .str i∧y = .str j∧Q (.bl (!decide (j.cps.toList < i.cps.toList))) H):=by
 intro pins s σ H x y v u Q I rx ry h
 obtain ⟨i,j,rfl,rfl,q⟩:=h
 obtain ⟨t,rfl⟩:=rx
 obtain ⟨t',rfl⟩:=ry
 exact PySem.P.le_str (fin_bl I q rfl)
end
end L2
namespace VM
open PySem PySem.Spec PyProof.Rows L2
theorem can_str {x : Str} : (PyData.str x).canLay0 = true ↔ ∀ c∈x.cps.toList,c < 0x110000:=by
 show x.cps.all (· < 0x110000) = true ↔ _
 rw [Array.all_eq_true']
 simp
theorem can_cut {x : Str} {lo hi : Option Int} (h : (PyData.str x).canLay0 = true) : (PyData.str (cutS x lo hi)).canLay0 = true:=by
 rw [can_str] at h ⊢
 intro c hc
 exact h c (List.mem_of_mem_drop (List.mem_of_mem_take hc))
theorem app_cps (x y : Str) : (x ++ y).cps.toList = x.cps.toList ++ y.cps.toList:=by
 show (x.cps ++ y.cps).toList = _
 simp
theorem can_app {x y : Str} (h : (PyData.str x).canLay0 = true) (g : (PyData.str y).canLay0 = true) : (PyData.str (x ++ y)).canLay0 = true:=by
 rw [can_str] at h g ⊢
 intro c hc
 rw [app_cps] at hc
 rcases List.mem_append.mp hc with z | z
 ·exact h c z
 ·exact g c z
noncomputable def catSD : PyData→PyData→Option PyData
 | .str x,.str y=>if x.length + y.length≤1000 then some (.str (x ++ y)) else none
 | _,_=>none
theorem hCatS {K : PySem.W.Frag} : OpD K catSD (fun x y H Q=>∃ i j,x = .str i∧y = .str j∧i.length + j.length≤sizeLine∧Q (.str (i ++ j)) H):=by
 intro H x y dx dy d Q e hx hy q
 unfold catSD at e
 split at e
 ·split at e
  ·rename_i i j hz
   cases e
   obtain ⟨rfl,c1⟩:=hx
   obtain ⟨rfl,c2⟩:=hy
   exact ⟨_,_,rfl,rfl,Nat.le_trans hz (by decide),q _ fun _=>⟨rfl,can_app c1 c2⟩⟩
  ·cases e
 ·cases e
noncomputable def leSD : PyData→PyData→Option PyData
 | .str x,.str y=>some (.bool (!decide (y.cps.toList < x.cps.toList)))
 | _,_=>none
theorem hLeS {K : PySem.W.Frag} : OpD K leSD (fun x y H Q=>∃ i j,x = .str i∧y = .str j∧Q (.bl (!decide (j.cps.toList < i.cps.toList))) H):=by
 intro H x y dx dy d Q e hx hy q
 unfold leSD at e
 split at e
 ·cases e
  obtain ⟨rfl,c1⟩:=hx
  obtain ⟨rfl,c2⟩:=hy
  exact ⟨_,_,rfl,rfl,q _ fun _=>rfl⟩
 ·cases e
noncomputable def lenSD : List PyData→Option PyData
 | [.str x]=>if x.length≤1000 then some (.int x.length) else none
 | _=>none
theorem hLenS {K : PySem.W.Frag} : CallD K lenSD (fun xs H Q=>∃ z,xs = [.str z]∧z.length≤sizeLine∧Q (.int z.length) H):=by
 intro H vs ds d Q e hx q
 unfold lenSD at e
 split at e
 ·split at e
  ·rename_i x hz
   cases e
   obtain ⟨v,rfl,rfl,_⟩:=HasL.one hx
   exact ⟨_,rfl,Nat.le_trans hz (by decide),q _ fun _=>rfl⟩
  ·cases e
 ·cases e
noncomputable def ixSD : PyData→PyData→Option PyData
 | .str x,.int i=>if x.length≤1000 then (atI x.cps.toList i).map fun c=>.str ⟨#[c]⟩ else none
 | _,_=>none
noncomputable def strsOf : List PyData→Option (List Str)
 | []=>some []
 | .str x :: r=>(strsOf r).map fun l=>x :: l
 | _=>none
theorem strsOf_some : ∀ {ds : List PyData} {xs : List Str},strsOf ds = some xs→ds = xs.map PyData.str
 | [],xs,h=>by cases h; rfl
 | d :: r,xs,h=>by
  unfold strsOf at h
  split at h
  ·rename_i e; cases e
  ·rename_i x r' e
   cases e
   cases q : strsOf r with
   | none=>rw [q] at h; cases h
   | some l=>rw [q] at h; cases h; rw [strsOf_some q]; rfl
  ·cases h
theorem strsOf_map : ∀ (xs : List Str),strsOf (xs.map PyData.str) = some xs
 | []=>rfl
 | x :: r=>by show (strsOf (r.map PyData.str)).map _ = _; rw [strsOf_map r]; rfl
theorem hasStrs {K : PySem.W.Frag} {H : Hp} : ∀ {xs : List Str} {vs : List V},HasL K H (xs.map PyData.str) vs→vs = xs.map V.str
 | [],vs,h=>h
 | x :: xs,vs,h=>by
  obtain ⟨v,r,rfl,⟨rfl,_⟩,h3⟩:=h
  rw [hasStrs h3]; rfl
noncomputable def inSD (neg : Bool) : PyData→PyData→Option PyData
 | .str x,.list ds=>match strsOf ds with
  | some xs=>some (.bool (if neg then !(xs.any fun y=>y == x) else xs.any fun y=>y == x))
  | none=>none
 | _,_=>none
theorem hInS {K : PySem.W.Frag} {neg : Bool} : OpD K (inSD neg) (rIn K neg):=by
 intro H x y dx dy d Q e hx hy q
 unfold inSD at e
 split at e
 ·split at e
  ·rename_i xs hn
   cases e
   obtain ⟨rfl,_⟩:=hx
   obtain ⟨p,vs,rfl,h1,h2⟩:=hy
   rw [strsOf_some hn] at h2
   rw [hasStrs h2] at h1
   have e1 : ∀ x : Str,inV (.str x) (xs.map V.str) = xs.any fun y=>y == x:=fun x=>by
    unfold inV
    rw [List.any_map]
    rfl
   refine ⟨p,_,rfl,.inl h1,rfl,by rw [List.all_map]; simp [flatV],?_⟩
   rw [e1]
   exact q _ fun _=>rfl
  ·cases e
 ·cases e
section
variable {X : Cx} {a b e : Expr} {fa fb f : VE} {pos p2 : Pos} {lo hi : Option Expr} {fl fu : GS→Option (Option Int)}
theorem dIxS (ha : PE X a (tV X.K RW fa)) (hb : PE X b (tV X.K RW fb)) (hs : PlainIx b:=by intro _ _; rfl) : PE X (.Subscript a b pos) (tV X.K RS (v2 ixSD fa fb)) :=
 (pe_ix ix_str ha hb hs).imp fun _ _ Q q=>by
  obtain ⟨ioA,G,H₀,S,F,I,d,e,q⟩:=q
  obtain ⟨x,y,ex,ey,e⟩:=v2_some e
  refine ⟨ioA,G,H₀,S,F,I,x,ex,fun v F1 H1 g1 hx=>⟨ioA,G,H₀,S,F1,I.grow g1,y,ey,fun u F2 H2 g2 hy=>?_⟩⟩
  unfold ixSD at e
  split at e
  ·rename_i z i
   split at e
   ·rename_i hz
    cases ec : atI z.cps.toList i with
    | none=>rw [ec] at e; cases e
    | some c =>
     rw [ec] at e
     cases e
     obtain ⟨rfl,cz⟩:=hx
     have eu : u = .int i:=hy
     refine ⟨z,i,c,rfl,eu,Nat.le_trans hz (by decide),ec,q _ F2 H2 (g1.trans g2) ⟨rfl,?_⟩⟩
     rw [can_str] at cz ⊢
     intro c' hc'
     have : c' = c:=by simpa using hc'
     subst this
     obtain ⟨j,_,h2,_⟩:=atI_get ec
     exact cz c' (List.mem_of_getElem? h2)
   ·cases e
  ·cases e
noncomputable def vSlS (f : VE) (l u : GS→Option (Option Int)) : VE:=fun S=>match f S,l S,u S with
 | some (.str x),some lo,some hi=>if x.length≤1000 then some (.str (cutS x lo hi)) else none
 | _,_,_=>none
theorem dSlS (he : PE X e (tV X.K RW f)) (hl : PO X lo (tVO X.K fl)) (hu : PO X hi (tVO X.K fu)) : PE X (.Subscript e (.Slice lo hi none p2) pos) (tV X.K RS (vSlS f fl fu)) :=
 (pe_slice sl_str he hl hu).imp fun _ H Q q=>by
  obtain ⟨ioA,G,H₀,S,F,I,d,e,q⟩:=q
  unfold vSlS at e
  split at e
  ·rename_i x l u q1 q2 q3
   split at e
   ·rename_i hz
    cases e
    refine ⟨ioA,G,H₀,S,F,I,_,q1,fun v F1 H1 g1 hx=>⟨ioA,G,H₀,S,F1,I.grow g1,l,q2,fun F2 H2 g2=>⟨ioA,G,H₀,S,F2,(I.grow g1).grow g2,u,q3,fun F3 H3 g3=>?_⟩⟩⟩
    obtain ⟨rfl,cx⟩:=hx
    exact ⟨x,rfl,Nat.le_trans hz (by decide),q _ F3 H3 ((g1.trans g2).trans g3) ⟨rfl,can_cut cx⟩⟩
   ·cases e
  ·cases e
end
end VM
namespace L2
open PySem PySem.Spec PyProof.Rows
noncomputable def sgn (z : Str) (i : Nat) : Option Str:=(z.cps[i]?).map fun c=>⟨#[c]⟩
noncomputable def Its (z : Str) : It:=⟨fun i _=>i < z.length,fun i H x H'=>H' = H∧∃ y,sgn z i = some y∧x = .str y,fun i _=>z.length≤i⟩
theorem turn_ascii {P : Program} {w : World} {K : PySem.W.Frag} {tg : Expr} (z : Str) (t : Tok) (it : Addr) : Turn P w K tg (Its z) [it] it (fun i h=>h.IsStrIter it "str_ascii_iterator" z t i) where
 mem:=by simp
 obj:=fun i h st b hb=>by
  obtain rfl : b = it:=by simpa using hb
  obtain ⟨o,e,c,d⟩:=st
  exact ⟨o,e,fun v y=>by rw [d] at y; cases y⟩
 keep:=fun i h h' st k=>let ⟨o,e,r⟩:=st; ⟨o,k it (by simp) o e,r⟩
 item:=by
  intro X hP hw hK hc i pins s σ H E I hf st hg
  subst hP hw hK
  obtain ⟨f0,f1,f2,f3,f4,f5⟩:=hf it (by simp)
  have hi : i < z.cps.size:=hg
  have ec : z.cps[i]? = some z.cps[i]:=by simp [hi]
  refine wpAny_pyNext_ascii_item st ec fun h' st' sb=>?_
  have I1 : Inv X pins σ H { s with heap:=h',toks:=s.toks + 1 }:=I.turned (fun b o hb e=>(sb.2 b hb).trans e) f0 f1 f3 f4 f5
  obtain ⟨o,e,c,d⟩:=id st'
  exact ⟨_,rfl,go_of (s:={ s with heap:=h',toks:=s.toks + 1 }) e c d (by decide) ⟨.str ⟨#[z.cps[i]]⟩,H,I1,⟨_,rfl⟩,⟨rfl,_,by unfold sgn; rw [ec]; rfl,rfl⟩,st',fun b hb=>(hf b hb).1⟩⟩
 done:=by
  intro X hP hw hK hc i pins s σ H E I hf st hg
  subst hP hw hK
  obtain ⟨f0,f1,f2,f3,f4,f5⟩:=hf it (by simp)
  have hi : z.cps.size≤i:=hg
  exact wpAny_pyNext_ascii_end (I.ok.hd hc) st (by simp [hi]) fun h' eb=>⟨rfl,I.turned (t':=s.toks) (fun b o hb e=>eb b o hb e) f0 f1 f3 f4 f5⟩
 self:=fun _ _ _ _ _ st h=>wpAny_pyIter_striter_ascii st h
section
variable {X : Cx} {tg : Expr}
noncomputable def ascii (z : Str) : Bool:=z.cps.all (· < 128)
noncomputable def iStr (tl : TE) : TI:=fun σ H R=>tl σ H fun x H1=>∃ z,x = .str z∧ascii z = true∧R (Its z) H1
theorem pi_str {l : Expr} {tl : TE} (hl : PE X l tl) : PI X tg l (iStr tl):=by
 intro pins s σ H R I h
 refine thn (hl pins s σ H _ I h) fun v s1 ⟨x,H1,I1,r1,q1⟩=>?_
 obtain ⟨z,e,ha,q⟩:=q1
 subst e
 obtain ⟨t,rfl⟩:=r1
 refine wpAny_pyIter_ascii ha ?_
 refine ⟨s1.heap.objs.size,[s1.heap.objs.size],_,_,H1,rfl,I1.kept (t':=s1.toks) fun b o e=>Heap.get?_push_of_some _ e,turn_ascii z t _,⟨_,Heap.get?_push_size _ rfl,rfl,rfl⟩,fun b hb=>?_,q⟩
 obtain rfl : b = s1.heap.objs.size:=by simpa using hb
 exact I1.fpOk (Nat.le_refl _) (I1.hok.fresh (Nat.le_refl _))
noncomputable def rAllM (K : PySem.W.Frag) : List V→Hp→VK→Prop:=fun xs H Q=>∃ (p : Addr) (bs : List Bool),xs = [.ref p]∧SqL K H p (bs.map V.bl)∧Q (.bl (bs.all id)) H
theorem cAll (hc : X.calm = true) : CallR X (.builtin "all") (rAllM X.K):=by
 intro pins s σ H xs us Q I r h
 obtain ⟨p,bs,rfl,hq,q⟩:=h
 obtain ⟨u,rfl,rx⟩:=vals1 r
 cases rx
 obtain ⟨its,rv,pl,hz⟩:=I.list hq
 have hl:=rv.length
 rw [List.length_map] at hl
 have hb : ∀ (i : Nat) v,its[i]? = some v→v = .bool (bs.getD i true):=fun i v e=>by
  have hi : i < bs.length:=by
   rcases Nat.lt_or_ge i bs.length with z | z
   ·exact z
   ·rw [List.getElem?_eq_none (by omega)] at e; cases e
  obtain ⟨u,e2,r2⟩:=rv.get (i:=i) (x:=.bl bs[i]) (by simp [hi])
  rw [e] at e2
  cases e2
  have r2' : v = .bool bs[i]:=r2
  rw [r2']; simp [List.getD,hi]
 refine call_all_walk (wpAny_pyIter_list pl.isList ?_)
 have hne : p ≠ s.heap.objs.size:=by
  obtain ⟨o,n,e,_⟩:=pl
  exact Nat.ne_of_lt (Heap.lt_size e)
 refine ⟨s.heap.objs.size,_,_,_,_,_,fun i=>bs.getD i true,rfl,Walks.list (show X.A.in1.handled = none from I.ok.hd hc) s.heap.objs.size p hne its.toArray,⟨⟨_,Heap.get?_push_size _ rfl,rfl,rfl⟩,?_⟩,?_,fun h' tk hk=>?_⟩
 ·obtain ⟨o,n,e,c1,c2,c3⟩:=pl
  exact ⟨o,Heap.get?_push_of_some _ e,c1,n,c3⟩
 ·intro i v s Q E hv hQ
  rw [hb i v (by simpa using hv)]
  exact wpAny_truthy_bool hQ
 ·have e : (List.range its.toArray.size).all (fun i=>bs.getD i true) = bs.all id:=by
   rw [List.size_toArray,← hl]
   rw [Bool.eq_iff_iff,List.all_eq_true,List.all_eq_true]
   constructor
   ·intro h b hb
    obtain ⟨i,hi,rfl⟩:=List.getElem_of_mem hb
    have:=h i (List.mem_range.mpr hi)
    simpa [List.getD,hi] using this
   ·intro h i hi
    have hi:=List.mem_range.mp hi
    have:=h bs[i] (List.getElem_mem hi)
    simpa [List.getD,hi] using this
  rw [e]
  refine ⟨.bl _,H,I.kept (t':=tk) fun b o eb=>hk b o ?_ (Heap.get?_push_of_some _ eb),rfl,q⟩
  intro z
  have z' : b = s.heap.objs.size:=by simpa using z
  exact absurd (Heap.lt_size eb) (by rw [z']; exact Nat.lt_irrefl _)
end
end L2
namespace VM
open PySem PySem.Spec PyProof.Rows L2
noncomputable def sgnsD (z : Str) : List PyData:=z.cps.toList.map fun c=>.str ⟨#[c]⟩
noncomputable def vItemsS (f : VE) : VA:=fun S=>match f S with
 | some (.str z)=>if ascii z = true then some (sgnsD z) else none
 | _=>none
section
variable {X : Cx} {tg l e : Expr} {f : VE} {fs : VA}
theorem itS (he : PE X l (tV X.K RW f)) : PI X tg l (tVI X.K (vItemsS f)):=PI.imp (pi_str he) fun _ H R q=>by
 obtain ⟨ioA,G,H₀,S,F,I,ds,e,q⟩:=q
 unfold vItemsS at e
 split at e
 ·rename_i z q1
  split at e
  ·rename_i ha
   cases e
   refine ⟨ioA,G,H₀,S,F,I,_,q1,fun v F1 H1 g1 hx=>?_⟩
   obtain ⟨rfl,cz⟩:=hx
   refine ⟨z,rfl,ha,q _ F1 H1 g1 ⟨fun i d F' H' hd s1 s2=>⟨?_,fun x H'' hy=>?_⟩,fun i F' H' hi _ _=>?_⟩⟩
   ·have:=(List.getElem?_eq_some_iff.mp hd).1
    rw [sgnsD,List.length_map] at this
    show i < z.cps.size
    simpa using this
   ·obtain ⟨rfl,y,hy,rfl⟩:=hy
    refine ⟨F',Grow.refl s2,?_⟩
    rw [sgnsD,List.getElem?_map] at hd
    obtain ⟨c,ec,rfl⟩:=Option.map_eq_some_iff.mp hd
    have ec' : z.cps[i]? = some c:=by simpa using ec
    unfold sgn at hy
    rw [ec'] at hy
    cases hy
    refine ⟨rfl,?_⟩
    rw [can_str] at cz ⊢
    intro c' hc'
    have : c' = c:=by simpa using hc'
    subst this
    exact cz c' (List.mem_of_getElem? ec)
   ·rw [sgnsD,List.length_map] at hi
    show z.cps.size≤i
    simpa using hi
  ·cases e
 ·cases e
noncomputable def boolsOf : List PyData→Option (List Bool)
 | []=>some []
 | .bool b :: r=>(boolsOf r).map fun l=>b :: l
 | _=>none
theorem boolsOf_some : ∀ {ds : List PyData} {xs : List Bool},boolsOf ds = some xs→ds = xs.map PyData.bool
 | [],xs,h=>by cases h; rfl
 | d :: r,xs,h=>by
  unfold boolsOf at h
  split at h
  ·rename_i e; cases e
  ·rename_i x r' e
   cases e
   cases q : boolsOf r with
   | none=>rw [q] at h; cases h
   | some l=>rw [q] at h; cases h; rw [boolsOf_some q]; rfl
  ·cases h
theorem boolsOf_map : ∀ (xs : List Bool),boolsOf (xs.map PyData.bool) = some xs
 | []=>rfl
 | x :: r=>by show (boolsOf (r.map PyData.bool)).map _ = _; rw [boolsOf_map r]; rfl
theorem hasBools {K : PySem.W.Frag} {H : Hp} : ∀ {xs : List Bool} {vs : List V},HasL K H (xs.map PyData.bool) vs→vs = xs.map V.bl
 | [],vs,h=>h
 | x :: xs,vs,h=>by
  obtain ⟨v,r,rfl,h2,h3⟩:=h
  have h2' : v = .bl x:=h2
  rw [h2',hasBools h3]; rfl
noncomputable def allD : List PyData→Option PyData
 | [.list ds]=>(boolsOf ds).map fun bs=>.bool (bs.all id)
 | _=>none
theorem hAll {K : PySem.W.Frag} : CallD K allD (rAllM K):=by
 intro H vs ds d Q e hx q
 unfold allD at e
 split at e
 ·rename_i ds
  cases eb : boolsOf ds with
  | none=>rw [eb] at e; cases e
  | some bs =>
   rw [eb] at e
   cases e
   obtain ⟨v,rfl,a,xs,rfl,h1,h2⟩:=HasL.one hx
   rw [boolsOf_some eb] at h2
   rw [hasBools h2] at h1
   exact ⟨a,bs,rfl,h1,q _ fun _=>rfl⟩
 ·cases e
end
end VM
namespace L2
open PySem PySem.Spec PyProof.Rows
section
variable {X : Cx} {pins : List (Addr × Obj)} {σ : List (Option V)} {H : Hp} {s : Shared} {a : Addr} {kvs : List (Key × V)} {o : Obj}
theorem Inv.still (I : Inv X pins σ H s) (h : H a = some (.dK kvs)) (ho : s.heap.get? a = some o) : Inv X pins σ (upd H a (.frz o (.dK kvs))) s:=by
 have new : ObjOk X.prog X.w (upd H a (.frz o (.dK kvs))) s.heap a (.frz o (.dK kvs)):=⟨ho,I.hok a _ h⟩
 exact I.write (h':=s.heap) (t':=s.toks) (e:=a) (by rw [h]; exact True.intro) (.inl rfl) (fun _ _ _ e=>e) ⟨o,ho⟩ new
theorem Inv.loose {σ' : List (Option V)} {H' : Hp} {s' : Shared} (I₀ : Inv X pins σ H s) (h₀ : H a = some (.dK kvs)) (I : Inv X pins σ' H' s') (h : H' a = some (.frz o (.dK kvs))) : Inv X pins σ' (upd H' a (.dK kvs)) s':=by
 have ht : H' a ≠ none:=by rw [h]; simp
 have nf : ∀ ob u,X.H₀ a ≠ some (.frz ob u):=fun ob u e=>by
  have:=I₀.base.frzs a ob u e
  rw [h₀] at this; cases this
 have nt : ∀ xs,X.H₀ a ≠ some (.tup xs):=fun xs e=>by
  have:=I₀.base.tups a xs e
  rw [h₀] at this; cases this
 have nb : ∀ ps,X.H₀ a ≠ some (.tbl ps):=fun ps e=>by
  obtain ⟨more,this⟩:=I₀.base.tbls a ps e
  rw [h₀] at this; cases this
 have hokA:=I.hok a _ h
 refine ⟨I.ok,I.os,I.bare,⟨I.base.keep,I.base.slot,fun b ob e n hx=>?_,I.base.there,fun b xs e=>?_,fun b ob u e=>?_,fun b ps e=>?_⟩,I.loc,I.cell,?_,fun x c e=>?_,fun p hp=>?_,fun b u e=>?_,I.len⟩
 ·have z:=I.base.free b ob e n hx
  rw [upd_ne fun y=>by subst y; exact ht z]; exact z
 ·rw [upd_ne fun y=>by subst y; exact nt xs e]; exact I.base.tups b xs e
 ·rw [upd_ne fun y=>by subst y; exact nf ob u e]; exact I.base.frzs b ob u e
 ·obtain ⟨more,z⟩:=I.base.tbls b ps e
  exact ⟨more,by rw [upd_ne fun y=>by subst y; exact nb ps e]; exact z⟩
 ·rw [upd_ne fun y=>ht (by rw [← y]; exact I.free)]; exact I.free
 ·rw [upd_ne fun y=>ht (by rw [← y]; exact I.freeC x c e)]; exact I.freeC x c e
 ·obtain ⟨p1,p2,p3⟩:=I.pin p hp
  exact ⟨p1,by rw [upd_ne fun y=>ht (by rw [← y]; exact p2)]; exact p2,p3⟩
 ·by_cases hb : b = a
  ·subst hb
   rw [upd_same] at e
   cases e
   exact hokA.2
  ·rw [upd_ne hb] at e
   refine (I.hok b u e).stay (fun c v _ q=>q) (fun c q=>?_) fun c xs q=>?_
   ·rw [upd_ne fun y=>by subst y; rw [h] at q; cases q]; exact q
   ·rw [upd_ne fun y=>by subst y; rw [h] at q; cases q]; exact q
end
noncomputable def Iti (a : Addr) (o : Obj) (kvs : List (Key × V)) : It :=
  ⟨fun i H => H a = some (.frz o (.dK kvs)) ∧ i < kvs.length,
   fun i H v H' => ∃ p kv, kvs[i]? = some kv ∧ H p = none ∧ v = .ref p ∧ H' = upd H p (.tup [kV kv.1, kv.2]),
   fun i H => H a = some (.frz o (.dK kvs)) ∧ kvs.length ≤ i⟩
theorem key_rel {P : Program} {w : World} {k : Key} {v : Value} (h : (mixKind P w).is k v = true) : RelV (kV k) v:=by
 rw [mixKind_is] at h
 rcases keyIs_shape h with ⟨j,t,e,e2⟩ | ⟨x,t,e,e2⟩
 ·subst e; exact ⟨t,e2⟩
 ·subst e; exact ⟨t,e2⟩
theorem still_at {P : Program} {w : World} {H : Hp} {h : Heap} {a : Addr} {o : Obj} {kvs : List (Key × V)} (ok : HOk P w H h) (e : H a = some (.frz o (.dK kvs))) {es : Array DictEntry} {ep : Nat} (ho : o.data = .dict es ep) :
  ∃ vs,KV kvs vs∧h.DictAt (mixKind P w) a vs ep:=by
 obtain ⟨g,_,_,vs,kv,o',es',ep',g',x1,x2,x3,x4,x5⟩:=(show ObjOk P w H h a (.frz o (.dK kvs)) from ok a _ e)
 rw [g] at g'
 cases g'
 rw [ho] at x2
 cases x2
 exact ⟨vs,kv,o,es,g,x1,ho,x3,x4,x5⟩
theorem turn_items {P : Program} {w : World} {K : PySem.W.Frag} {elts : List Expr} {k : Nat} {pos : Pos} (a it : Addr) (o : Obj) (kvs : List (Key × V)) (es : Array DictEntry) (ep : Nat) (ho : o.data = .dict es ep) :
  Turn P w K (.Tuple elts k pos) (Iti a o kvs) [it] it (fun i h=>∃ ok ov,IsItemIter h it a i kvs.length ep ok ov) where
 mem:=by simp
 obj:=fun i h st b hb=>by
  obtain ⟨_,_,he⟩:=st
  rw [List.mem_singleton.mp hb]
  exact ⟨_,he,fun v z=>by have z' : Data.fields _ = Data.cell v:=z; cases z'⟩
 keep:=fun i h h' st k=>by
  obtain ⟨ok,ov,he⟩:=st
  exact ⟨ok,ov,k it (by simp) _ he⟩
 item:=by
  intro X hP hw hK hc i pins s σ H E I hf st hg
  subst hP hw hK
  obtain ⟨ok,ov,he⟩:=st
  obtain ⟨hd,hi⟩:=hg
  obtain ⟨vs,kv,dat⟩:=still_at I.hok hd ho
  have hl:=kv.length
  have ex : kvs[i]? = some kvs[i]:=by simp [hi]
  obtain ⟨⟨k',v'⟩,e2,r1,r2⟩ : ∃ y,vs[i]? = some y∧kvs[i].1 = y.1∧RelV kvs[i].2 y.2:=by
   have key : ∀ {l : List (Key × V)} {r : List (Key × Value)} {j : Nat} {x : Key × V},KV l r→l[j]? = some x→∃ y,r[j]? = some y∧x.1 = y.1∧RelV x.2 y.2:=fun {l r}=>by
    intro j x h
    induction h generalizing j with
    | nil=>intro e; cases e
    | cons h _ ih =>
     cases j with
     | zero=>intro e; cases e; exact ⟨_,rfl,h⟩
     | succ j=>intro e; exact ih e
   exact key kv ex
  rw [hl] at he
  refine wpAny_pyNext_items_item he dat e2 fun key h' hk hO hT hsz hkp=>?_
  refine ⟨_,rfl,wpAny_letOwnedTupleGo_items hO fun h2 he2 hs2=>?_⟩
  have hlt : it < s.heap.objs.size:=Heap.lt_size he
  have hT2 : h2.get? s.heap.objs.size = some { cls:=.type "tuple",data:=.seq #[key,v'] }:=(hs2.2 _ (Nat.ne_of_gt hlt)).trans hT
  have rk : RelV (kV kvs[i].1) key:=by rw [r1]; exact key_rel hk
  refine ⟨.ref s.heap.objs.size,upd H s.heap.objs.size (.tup [kV kvs[i].1,kvs[i].2]),?_,rfl,⟨_,kvs[i],ex,I.hok.fresh (Nat.le_refl _),rfl,rfl⟩,⟨key,v',by rw [hl]; exact he2⟩,fun b hb=>?_⟩
  ·refine I.turnLay (fp:=[it]) (fun b ob hb q=>?_) hf (Nat.le_refl _) ⟨by show 2≤sizeLine; decide,[key,v'],.cons rk (.cons r2 .nil),⟨_,hT2,rfl,_,rfl⟩⟩
   have h1 : b ≠ it:=fun z=>hb (by simp [z])
   exact (hs2.2 b h1).trans (hkp b ob h1 q)
  ·rw [List.mem_singleton.mp hb,upd_ne (Nat.ne_of_lt hlt)]
   exact (hf it (by simp)).1
 done:=by
  intro X hP hw hK hc i pins s σ H E I hf st hg
  subst hP hw hK
  obtain ⟨ok,ov,he⟩:=st
  obtain ⟨hd,hi⟩:=hg
  obtain ⟨vs,kv,dat⟩:=still_at I.hok hd ho
  have hl:=kv.length
  rw [hl] at he
  refine wpAny_pyNext_items_end (I.ok.hd hc) he dat (List.getElem?_eq_none (by omega)) fun h' eb=>⟨rfl,I.turns (t':=s.toks) (fp:=[it]) (fun b ob hb q=>eb b ob (fun z=>hb (by simp [z])) q) hf⟩
 self:=fun _ _ _ _ _ st h=>by
  obtain ⟨ok,ov,he⟩:=st
  exact PySem.W.kcp_self he h
section
variable {X : Cx} {elts : List Expr} {k : Nat} {tpos : Pos}
noncomputable def itemsObj (d : Addr) : Obj:={ cls:=.type "dict_items",data:=.fields #[.ref d] }
noncomputable def rItemsM : V→List V→Hp→VK→Prop:=fun x vs H Q=>match x,vs with
 | .ref d,[]=>∃ kvs,H d = some (.dK kvs)∧∀ z,H z = none→Q (.ref z) (upd H z (HO.ext fun h=>h.get? z = some (itemsObj d)))
 | _,_=>False
theorem mItems : MtR X "dict.items" rItemsM:=by
 intro pins s σ H x vs v us Q I rx rv q
 match x,vs,q with
 | .ref d,[],⟨kvs,hH,q⟩ =>
  cases rx
  have hus:=rv.zero
  subst hus
  obtain ⟨z,hS,ws,rel,dd⟩:=dk_of I.hok hH
  refine call_meetsIn PySem.F.slot_dict_items dd.typeIs PySem.F.entry_dict_items (PySem.F.args_dict_items_1 _) (meets_dict_items (mixKind X.prog X.w) d hS) ⟨⟨ws,dd⟩,?_⟩
  have e : (s.heap.push (itemsObj d)).get? s.heap.objs.size = some (itemsObj d):=Heap.get?_push_size _ rfl
  exact ⟨.ref _,_,I.laid (a:=s.heap.objs.size) (o:=HO.ext fun h=>h.get? s.heap.objs.size = some (itemsObj d)) (h':=s.heap.push (itemsObj d)) (t':=s.toks) (fun _ _ q=>Heap.get?_push_of_some _ q) (Nat.le_refl _) ⟨e,⟨_,e⟩,fun h1 h2 a b=>b _ a⟩,rfl,q _ I.fresh⟩
noncomputable def iItems (K : PySem.W.Frag) (td : TE) : TI:=fun σ H R=>tBM0 K "dict" rItemsM td σ H fun v H2=>∃ z a kvs H1,v = .ref z∧H2 = upd H1 z (HO.ext fun h=>h.get? z = some (itemsObj a))∧H1 z = none∧H1 a = some (.dK kvs)∧∀ o,R (Iti a o kvs) (upd H2 a (.frz o (.dK kvs)))
theorem pi_items {d : Expr} {td : TE} {apos cpos : Pos} (hd : PE X d td) (hbase : attributeBase d "items" X.env (eval d X.env) = eval d X.env:=by rfl) (hline : (apos.endLine == cpos.line) = true:=by rfl) :
  PI X (.Tuple elts k tpos) (.Call (.Attribute d "items" apos) [] [] cpos) (iItems X.K td):=by
 intro pins s σ H R I h
 have pe:=pe_bm0 (X:=X) (apos:=apos) (cpos:=cpos) PySem.F.plainAttrs_dict PySem.F.slot_dict_items PySem.F.type_dict_items mItems hd hbase hline
 refine thn (pe pins s σ H _ I h) fun v s1 ⟨x,H2,I2,r2,z,a,kvs,H1,ex,eH,hz,ha,q⟩=>?_
 subst ex
 cases r2
 subst eH
 have hza : a ≠ z:=ne_of_none ha hz
 have ha2 : upd H1 z (HO.ext fun h=>h.get? z = some (itemsObj a)) a = some (.dK kvs):=by rw [upd_ne hza]; exact ha
 have hv : s1.heap.get? z = some (itemsObj a):=(I2.hok z _ upd_same).1
 obtain ⟨_,hS,ws,rel,dd⟩:=dk_of I2.hok ha2
 obtain ⟨o,es,ep,d1,d2,d3,d4,d5,d6⟩:=id dd
 have hl:=rel.length
 refine wpAny_pyIter_items (knd:=mixKind X.prog X.w) ⟨_,hv,rfl,rfl⟩ ⟨o,es,d1,d2,d3,d4,d5,d6⟩ ?_
 have I3:=I2.kept (t':=s1.toks) (h':=s1.heap.push { cls:=.type "dict_itemiterator",data:=.fields #[.none,.bool false,.ref a,.int 0 0,.int ws.length 0,.int ep 0,.none,.none] }) fun b ob e=>Heap.get?_push_of_some _ e
 refine ⟨s1.heap.objs.size,[s1.heap.objs.size],_,_,_,rfl,I3.still ha2 (Heap.get?_push_of_some _ d1),turn_items a _ o kvs es ep d3,⟨.none,.none,by rw [hl]; exact Heap.get?_push_size _ rfl⟩,fun b hb=>?_,q o⟩
 rw [List.mem_singleton.mp hb]
 have fr:=I2.hok.fresh (Nat.le_refl s1.heap.objs.size)
 refine I2.fpOk (Nat.le_refl _) ?_
 rw [upd_ne fun y=>by rw [y,ha2] at fr; cases fr]
 exact fr
theorem ps_loose {st : Stmt} {t : TS} (h : PS X st t) : PS X st (fun D σ H=>∃ a kvs,H a = some (.dK kvs)∧t { D with nx:=fun σ' H'=>∃ o,H' a = some (.frz o (.dK kvs))∧D.nx σ' (upd H' a (.dK kvs)) } σ H):=by
 intro pins s σ H D I q
 obtain ⟨a,kvs,ha,q⟩:=q
 refine thn (h pins s σ H _ I q) fun f s' hf=>?_
 cases f with
 | next =>
  obtain ⟨σ',H',I',o,h1,h2⟩:=hf
  exact ⟨σ',_,Inv.loose I ha I' h1,h2⟩
 | brk=>exact hf
 | cont=>exact hf
 | ret u=>exact hf
theorem cListD (hc : X.calm = true) : CallR X (.type "list") (fun xs H Q=>∃ a kvs,xs = [.ref a]∧H a = some (.dK kvs)∧∀ z,H z = none→Q (.ref z) (upd H z (.lst (kvs.map fun kv=>kV kv.1)))):=by
 intro pins s σ H xs us Q I r h
 obtain ⟨a,kvs,rfl,ha,q⟩:=h
 obtain ⟨u,rfl,rx⟩:=vals1 r
 cases rx
 obtain ⟨hz,hS,ws,rel,dd⟩:=dk_of I.hok ha
 obtain ⟨ep,dat⟩:=dd.dictAt
 have hl:=rel.length
 refine PySem.W.kdl_call (PySem.W.kdl_dict (knd:=mixKind X.prog X.w) (kvs:=ws) (ep:=ep) hS) (I.ok.hd hc) dat (by omega) fun h' tk acc c hk hD hacc=>?_
 have hv : Vals (kvs.map fun kv=>kV kv.1) acc.toList:=by
  have key : ∀ {l : List (Key × V)} {r : List (Key × Value)} {us : List Value},KV l r→us.length = r.length→(∀ (j : Nat) v,us[j]? = some v→∃ k x,r[j]? = some (k,x)∧(mixKind X.prog X.w).is k v = true)→Vals (l.map fun kv=>kV kv.1) us:=fun {l r us} h=>by
   induction h generalizing us with
   | nil=>intro hl _; cases us with
    | nil=>exact .nil
    | cons _ _=>cases hl
   | @cons x y l r h _ ih =>
    intro hl hv
    cases us with
    | nil=>cases hl
    | cons u us =>
     refine .cons ?_ (ih (by simpa using hl) fun j v e=>hv (j + 1) v e)
     obtain ⟨k,x',e,hk⟩:=hv 0 u rfl
     have e' : y = (k,x'):=by simpa using e
     show RelV (kV x.1) u
     rw [h.1,e']
     exact key_rel hk
  refine key rel (by rw [Array.length_toList]; exact hacc.1) fun j v e=>hacc.2 j v (by rw [← Array.getElem?_toList]; exact e)
 exact ⟨.ref s.heap.objs.size,_,I.laid (t':=tk) (h':=h') (o:=.lst (kvs.map fun kv=>kV kv.1)) hk (Nat.le_refl _) ⟨by rw [List.length_map]; exact hz,acc.toList,c,hv,by rw [hD]⟩,rfl,q _ (I.hok.fresh (Nat.le_refl _))⟩
end
end L2
namespace L2
open PySem PySem.Spec PyProof.Rows PySem.SeqAt
open PySem.MeetsSeq (size_erased plain_remove_loop entry_remove_loop)
open PySem.AutoSeq1 (wpAny_loadPart')
theorem remove_loopAt (l : Addr) (items : Array Value) (n : Nat) (x : Value) (j : Nat) (hj : j < items.size) (k : Nat) (hs1 : items.size≤sizeLine) :
  ∀ i : Nat,j - i = k→i≤j→Meets (Builtin.«list.remove.loop» ⟨[.ref l,x,rawInt i],[]⟩)
   (fun A R s=>s.heap.get? l = some { cls:=.type "list",dict:=none,data:=.seq items n,slots:=#[] }∧(∀ m (hm : m < items.size),m≤j→EqAt A.in1 s items[m] x (decide (m = j)))∧R (.ok (.ret .none)) { s with heap:=s.heap.update l (Obj.mapSeq fun xs=>xs.eraseIdxIfInBounds j) }):=by
 induction k with
 | zero =>
  intro i hk hij prog w A R s h
  obtain ⟨hp,g,d,tk,os⟩:=s; obtain ⟨hl,he,h⟩:=h
  have hij' : i = j:=by omega
  subst hij'
  wp_walk using wpAny_loadPart' hl
  have hi : items[((i : Nat) : Int).toNat]? = some items[i]:=by simp [hj]
  rw [hi]
  refine wpAny_bind (he i hj (Nat.le_refl _) prog w _ _ ?_)
  rw [decide_eq_true rfl]
  have hz' : (items.eraseIdxIfInBounds i).size≤sizeLine + 1:=Nat.le_trans (size_erased items _) (Nat.le_succ_of_le hs1)
  wp_walk using (wpAny_updateSeq hl rfl (hz:=hs1) (_hz':=hz')),wpAny_loadPart' hl
  simpa using h
 | succ k ih =>
  intro i hk hij prog w A R s h
  obtain ⟨hp,g,d,tk,os⟩:=s; obtain ⟨hl,he,h⟩:=h
  have hlt : i < items.size:=by omega
  wp_walk using wpAny_loadPart' hl
  have hi : items[((i : Nat) : Int).toNat]? = some items[i]:=by simp [hlt]
  have hc : ((i : Int) + 1) = ((i + 1 : Nat) : Int):=by push_cast; rfl
  rw [hi]
  refine wpAny_bind (he i hlt (by omega) prog w _ _ ?_)
  rw [decide_eq_false (by omega)]
  wp_walk
  rw [hc]
  exact ⟨plainId_quiet plain_remove_loop _,codeAny_builtin entry_remove_loop (by
   rw [Around.under_plainId plain_remove_loop _]
   exact ih (i + 1) (by omega) (by omega) prog w A R _ ⟨hl,he,h⟩)⟩
theorem list_removeAt (l : Addr) (items : Array Value) (n : Nat) (x : Value) (j : Nat) (hj : j < items.size) (hs1 : items.size≤sizeLine) :
  Meets (Builtin.«list.remove» ⟨[.ref l,x],[]⟩)
   (fun A R s=>s.heap.get? l = some { cls:=.type "list",dict:=none,data:=.seq items n,slots:=#[] }∧(∀ m (hm : m < items.size),m≤j→EqAt A.in1 s items[m] x (decide (m = j)))∧R (.ok (.ret .none)) { s with heap:=s.heap.update l (Obj.mapSeq fun xs=>xs.eraseIdxIfInBounds j) }):=by
 intro prog w A R s h
 obtain ⟨hp,g,d,tk,os⟩:=s; obtain ⟨hl,he,h⟩:=h
 wp_walk using wpAny_loadPart' hl
 exact ⟨plainId_quiet plain_remove_loop _,codeAny_builtin entry_remove_loop (by
  rw [Around.under_plainId plain_remove_loop _]
  exact remove_loopAt l items n x j hj _ hs1 0 rfl (Nat.zero_le _) prog w A R _ ⟨hl,he,h⟩)⟩
section
variable {X : Cx}
noncomputable def rRemM (K : PySem.W.Frag) : V→List V→Hp→VK→Prop:=fun x vs H Q=>∃ l y xs ds dy j,x = .ref l∧vs = [y]∧H l = some (.lst xs)∧HasL K H ds xs∧Has K H dy y∧dy.depth≤60∧j < xs.length∧(∀ m d,m≤j→ds[m]? = some d→PyData.eqv d dy = decide (m = j))∧Q .non (upd H l (.lst (xs.eraseIdx j)))
theorem mRem (hu : X.A.units + 64 < cLine) : MtR X "list.remove" (rRemM X.K):=by
 intro pins s σ H x vs v us Q I rx rv h
 obtain ⟨l,y,xs,ds,dy,j,rfl,rfl,hH,hd,hy,hdep,hj,heq,q⟩:=h
 cases rx
 obtain ⟨u,rfl,ru⟩:=rv.one
 obtain ⟨z,its,n,r,hl,e⟩:=I.lstM hH
 obtain ⟨bs,rb⟩:=hy.reads I ru
 refine call_meets F.slot_list_remove ⟨_,e,rfl⟩ F.entry_list_remove (F.args_list_remove_2 _ _) (list_removeAt l its.toArray n u j (by rw [List.size_toArray]; omega) (by rw [List.size_toArray]; omega)) ⟨e,fun m hm hmj=>?_,?_⟩
 ·have hm' : m < xs.length:=by rw [List.size_toArray] at hm; omega
  have ex : xs[m]? = some xs[m]:=by simp [hm']
  obtain ⟨d,ed,hdv⟩:=hd.get ex
  obtain ⟨u',eu,ru'⟩:=r.get ex
  have e2 : its.toArray[m] = u':=by
   have : its[m]? = some its.toArray[m]:=by simp
   rw [eu] at this
   exact (Option.some.inj this).symm
  rw [e2,← heq m d hmj ed]
  obtain ⟨as,ra⟩:=hdv.reads I ru'
  refine eqAt_reads d dy _ s u' u as bs ra rb hdv.can hy.can ?_
  show X.A.units + 1 + _ < cLine
  have:=Nat.min_le_right d.depth dy.depth
  omega
 ·refine ⟨.non,_,I.lset (its':=its.eraseIdx j) hH e ?_ (r.eraseIdx j) ?_,rfl,q⟩
  ·show its.toArray.eraseIdxIfInBounds j = (its.eraseIdx j).toArray
   rw [List.eraseIdxIfInBounds_toArray]
  ·have:=len_erase xs j
   omega
theorem peRem {o e : Expr} {apos cpos : Pos} {to : TE} {t : TA} (hu : X.A.units + 64 < cLine) (ho : PE X o to) (ha : PA X [e] t)
  (hbase : attributeBase o "remove" X.env (eval o X.env) = eval o X.env:=by rfl)
  (hfew : ((backTo cpos (starEach [e] X.env)).all (fun x=>!x.1) && (backToKw cpos (keywordEach [] X.env)).all (fun x=>x.1.isSome)
   && decide (([e] : List Expr).length + ([] : List Keyword).length + (if ([] : List Keyword).isEmpty then 0 else 1) < 30)) = true:=by rfl)
  (hline : (apos.endLine == cpos.line) = true:=by rfl) (hs : starEach [e] X.env = (false,eval e X.env) :: starEach [] X.env:=by rfl) (hplain : (backTo cpos (starEach [] X.env)).any (·.1) = false:=by rfl) :
  PE X (.Call (.Attribute o "remove" apos) [e] [] cpos) (tBM X.K "list" (rRemM X.K) to t):=pe_bm PySem.F.plainAttrs_list PySem.F.slot_list_remove PySem.F.type_list_remove (mRem hu) ho ha hbase hfew hline hs hplain
end
end L2
namespace VM
open PySem PySem.Spec PyProof.Rows L2
noncomputable def rTupM (K : PySem.W.Frag) : List V→Hp→VK→Prop:=fun xs H Q=>∃ p ys,xs = [.ref p]∧((SqL K H p ys∧∀ l,H l = none→Q (.ref l) (upd H l (.tup ys)))∨(SqT K H p ys∧Q (.ref p) H))
theorem cTup {X : Cx} : CallR X (.type "tuple") (rTupM X.K):=call_tuple_of
noncomputable def vTupOf (f : VE) : VE:=fun S=>match f S with
 | some (.list ds)=>some (.tuple ds)
 | _=>none
theorem dTupOf {X : Cx} {e : Expr} {f : VE} (he : PE X e (tCB (rTupM X.K) (tCons (tV X.K RM f) tNil))) : PE X e (tV X.K RS (vTupOf f)):=he.imp fun _ H Q q=>by
 obtain ⟨ioA,G,H₀,S,F,I,d,e,q⟩:=q
 unfold vTupOf at e
 split at e
 ·rename_i ds q1
  cases e
  refine ⟨ioA,G,H₀,S,F,I,_,q1,fun v F1 H1 g1 hx=>?_⟩
  obtain ⟨p,xs,rfl,h1,h2⟩:=RM.list g1.fh hx
  refine ⟨p,xs,rfl,.inl ⟨h1,fun z hz=>q _ (upd F1 z (.tup xs)) _ (g1.trans (Grow.allocF g1.fh hz)) ⟨z,xs,rfl,SqT.of upd_same,h2.same (same_upd_new (g1.fh.free hz))⟩⟩⟩
 ·cases e
section
variable {K : PySem.W.Frag} {S : GS} {σ : St} {H : Hp}
noncomputable def FrAt (K : PySem.W.Frag) (H : Hp) : GS→St→Prop
 | [],σ=>σ = []
 | none :: S,σ=>∃ x r,σ = x :: r∧FrAt K H S r
 | some (t,d) :: S,σ=>∃ v r,σ = some v :: r∧t = .fr∧Has K H d v∧FrAt K H S r
theorem FrAt.len : ∀ {S : GS} {σ : St},FrAt K H S σ→S.length = σ.length
 | [],σ,h=>by rw [show σ = [] from h]; rfl
 | none :: S,σ,⟨x,r,e,h⟩=>by rw [e,List.length_cons,List.length_cons,FrAt.len h]
 | some (t,d) :: S,σ,⟨v,r,e,_,_,h⟩=>by rw [e,List.length_cons,List.length_cons,FrAt.len h]
theorem FrAt.slot : ∀ {S : GS} {σ : St},FrAt K H S σ→∀ (i : Nat) t d,S[i]? = some (some (t,d))→t = .fr∧∃ v,σ[i]? = some (some v)∧Has K H d v
 | [],σ,_,i,t,d,e=>by simp at e
 | none :: S,σ,⟨x,r,e,h⟩,i,t,d,e2=>by
  subst e
  cases i with
  | zero=>cases e2
  | succ i=>exact FrAt.slot h i t d e2
 | some (t0,d0) :: S,σ,⟨v,r,e,h1,h2,h⟩,i,t,d,e2=>by
  subst e
  cases i with
  | zero=>cases e2; exact ⟨h1,v,rfl,h2⟩
  | succ i=>exact FrAt.slot h i t d e2
theorem VI.at (h : FrAt K H S σ) : VI K (fun _=>none) H H S H σ H where
 len:=h.len
 same:=Same.refl _
 gf:=Same.refl _
 new:=fun _ _ e=>.inl e
 sub:=Same.refl _
 slot:=fun i t d e=>by
  obtain ⟨rfl,v,e1,e2⟩:=h.slot i t d e
  exact ⟨v,e1,e2⟩
 inj:=fun i j t t' d d' v e1 _ o1 _ _ _=>by
  obtain ⟨rfl,_⟩:=h.slot i t d e1
  cases o1
 pl:=fun _ _ _ e=>e
theorem tV_at {f : VE} {d : PyData} {Q : VK} (h : FrAt K H S σ) (e : f S = some d) (q : ∀ v H',Same H H'→Has K H' d v→Q v H') : tV K RS f σ H Q :=
 ⟨_,_,_,S,H,VI.at h,d,e,fun v _ H' g hv=>q v H' g.hh (Has.same g.fh hv)⟩
theorem tVN_at {f : VE} {ds : List PyData} {Q : VK} (h : FrAt K H S σ) (e : f S = some (.list ds)) (q : ∀ a xs H',Same H H'→H a = none→H' a = some (.lst xs)→HasL K H' ds xs→Q (.ref a) H') : tV K RN f σ H Q :=
 ⟨_,_,_,S,H,VI.at h,_,e,fun v F' H' g hv=>by
  obtain ⟨ds',a,xs,e1,rfl,h1,_,h3,h4⟩:=hv
  cases e1
  exact q a xs H' g.hh h1 h3 (HasL.same g.fh h4)⟩
theorem tVT_at {f : VT} {b : Bool} {Q : Bool→Hp→Prop} (h : FrAt K H S σ) (e : f S = some b) (q : ∀ H',Same H H'→Q b H') : tVT K f σ H Q :=
 ⟨_,_,_,S,H,VI.at h,b,e,fun _ H' g=>q H' g.hh⟩
end
end VM
namespace K61
open PySem PySem.Spec PyProof.Rows L2 VM
set_option maxHeartbeats 4000000
noncomputable def top (i : Nat) : Stmt:=PySem.Challenge.pw_leavehall_k61_deeds_and_what_is_asked.main.body.getD i (.Pass ⟨0,0,0,0⟩)
noncomputable abbrev mth (j : Nat) : Stmt:=inClass (top 15) j
noncomputable abbrev Q4:=Int × Int × Int × Int
noncomputable def numE (x : Str × Int) : Key × V:=(.inr x.1,.int x.2)
noncomputable def LdE (H : Hp) (kv : Key × V) (x : Str × Q4) : Prop:=kv.1 = .inr x.1∧∃ t,kv.2 = .ref t∧H t = some (.tup [.int x.2.1,.int x.2.2.1,.int x.2.2.2.1,.int x.2.2.2.2])
structure Hall (H : Hp) (C p dx nn ll : Addr) (nums : List (Str × Int)) (ls : List (Str × Q4)) : Prop where
 ins : H p = some (.ins C dx [("numbers",.ref nn),("laid",.ref ll)])
 num : H nn = some (.dK (nums.map numE))
 laid : ∃ kvs,H ll = some (.dK kvs)∧Paired (LdE H) kvs ls
 ne : nn ≠ ll
theorem LdE.same {H H' : Hp} (k : ∀ t xs,H t = some (.tup xs)→H' t = some (.tup xs)) {kv : Key × V} {x : Str × Q4} (h : LdE H kv x) : LdE H' kv x:=let ⟨a,t,b,c⟩:=h; ⟨a,t,b,k t _ c⟩
theorem Hall.grow {H H' : Hp} {C p dx nn ll : Addr} {nums : List (Str × Int)} {ls : List (Str × Q4)} (h : Hall H C p dx nn ll nums ls) (k : Same H H') : Hall H' C p dx nn ll nums ls:=by
 obtain ⟨a,b,⟨kvs,c,d⟩,n⟩:=h
 exact ⟨k _ _ a,k _ _ b,⟨kvs,k _ _ c,d.mono fun _ _ z=>z.same fun t xs e=>k _ _ e⟩,n⟩
noncomputable def getP {α : Type} (nm : Str) : List (Str × α)→Option α
 | []=>none
 | x :: r=>if x.1 = nm then some x.2 else getP nm r
noncomputable def putP {α : Type} (nm : Str) (v : α) (l : List (Str × α)) : List (Str × α):=if (l.any fun x=>decide (x.1 = nm)) = true then l.map (fun x=>if x.1 = nm then (x.1,v) else x) else l ++ [(nm,v)]
noncomputable def dropP {α : Type} (nm : Str) (l : List (Str × α)) : List (Str × α):=l.filter fun x=>!decide (x.1 = nm)
theorem inr_eq {a b : Str} : ((Sum.inr a : Key) = Sum.inr b) ↔ a = b:=⟨fun h=>Sum.inr.inj h,fun h=>by rw [h]⟩
theorem num_get (nm : Str) : ∀ nums : List (Str × Int),valV (nums.map numE) (.inr nm) = (getP nm nums).map V.int
 | []=>rfl
 | x :: r=>by
  rw [List.map_cons,getP]
  by_cases e : x.1 = nm
  ·rw [if_pos e,valV_pos (by show Sum.inr x.1 = _; rw [e])]; rfl
  ·rw [if_neg e,valV_neg (by intro z; exact e (Sum.inr.inj z)),num_get nm r]
theorem ld_get {H : Hp} (nm : Str) : ∀ {kvs : List (Key × V)} {ls : List (Str × Q4)},Paired (LdE H) kvs ls→match getP nm ls with
  | none=>valV kvs (.inr nm) = none
  | some q=>∃ t,valV kvs (.inr nm) = some (.ref t)∧H t = some (.tup [.int q.1,.int q.2.1,.int q.2.2.1,.int q.2.2.2])
 | _,_,.nil=>rfl
 | _,_,.cons (a:=kv) (b:=x) h r=>by
  obtain ⟨h1,t,h2,h3⟩:=h
  rw [getP]
  by_cases e : x.1 = nm
  ·rw [if_pos e]
   exact ⟨t,by rw [valV_pos (by rw [h1,e]),h2],h3⟩
  ·rw [if_neg e]
   have ih:=ld_get nm r
   rw [valV_neg (by intro z; rw [h1] at z; exact e (Sum.inr.inj z))]
   exact ih
theorem ld_any {H : Hp} (nm : Str) {kvs : List (Key × V)} {ls : List (Str × Q4)} (h : Paired (LdE H) kvs ls) : (kvs.any fun kv=>decide (kv.1 = .inr nm)) = ls.any fun x=>decide (x.1 = nm):=by
 induction h with
 | nil=>rfl
 | cons h _ ih =>
  rw [List.any_cons,List.any_cons,ih,h.1]
  congr 1
  exact decide_eq_decide.mpr inr_eq
theorem ld_put {H : Hp} {nm : Str} {t : Addr} {q : Q4} (ht : H t = some (.tup [.int q.1,.int q.2.1,.int q.2.2.1,.int q.2.2.2])) {kvs : List (Key × V)} {ls : List (Str × Q4)} (h : Paired (LdE H) kvs ls) :
  Paired (LdE H) (putK kvs (.inr nm) (.ref t)) (putP nm q ls):=by
 unfold putK putP
 rw [ld_any nm h]
 split
 ·rename_i c
  clear c
  induction h with
  | nil=>exact .nil
  | @cons a b _ _ h _ ih =>
   rw [List.map_cons,List.map_cons]
   refine .cons ?_ ih
   by_cases e : b.1 = nm
   ·rw [if_pos (by rw [h.1,e]),if_pos e]; exact ⟨h.1,t,rfl,ht⟩
   ·rw [if_neg (by intro z; rw [h.1] at z; exact e (Sum.inr.inj z)),if_neg e]; exact h
 ·rename_i c
  clear c
  induction h with
  | nil=>exact .cons ⟨rfl,t,rfl,ht⟩ .nil
  | cons h _ ih=>exact .cons h ih
theorem ld_drop {H : Hp} {nm : Str} {kvs : List (Key × V)} {ls : List (Str × Q4)} (h : Paired (LdE H) kvs ls) : Paired (LdE H) (dropK kvs (.inr nm)) (dropP nm ls):=by
 unfold dropK dropP
 induction h with
 | nil=>exact .nil
 | @cons a b _ _ h _ ih =>
  rw [List.filter_cons,List.filter_cons]
  by_cases e : b.1 = nm
  ·rw [if_neg (by rw [h.1,e]; simp),if_neg (by simp [e])]; exact ih
  ·have ne : a.1 ≠ Sum.inr nm:=fun z=>by rw [h.1] at z; exact e (Sum.inr.inj z)
   rw [if_pos (decide_eq_true ne),if_pos (by simp [e])]; exact .cons h ih
theorem num_put (nm : Str) (v : Int) (nums : List (Str × Int)) : putK (nums.map numE) (.inr nm) (.int v) = (putP nm v nums).map numE:=by
 unfold putK putP
 have ea : ((nums.map numE).any fun kv=>decide (kv.1 = .inr nm)) = nums.any fun x=>decide (x.1 = nm):=by
  rw [List.any_map]
  congr 1
  funext x
  exact decide_eq_decide.mpr inr_eq
 rw [ea]
 split
 ·rw [List.map_map,List.map_map]
  refine List.map_congr_left fun x _=>?_
  by_cases e : x.1 = nm
  ·show (if (numE x).1 = Sum.inr nm then ((numE x).1,V.int v) else numE x) = numE (if x.1 = nm then (x.1,v) else x)
   rw [if_pos (show (numE x).1 = Sum.inr nm from inr_eq.mpr e),if_pos e]; rfl
  ·show (if (numE x).1 = Sum.inr nm then ((numE x).1,V.int v) else numE x) = numE (if x.1 = nm then (x.1,v) else x)
   rw [if_neg (show ¬ (numE x).1 = Sum.inr nm from fun z=>e (inr_eq.mp z)),if_neg e]
 ·rw [List.map_append]; rfl
noncomputable def Stay (nn ll : Addr) (H H' : Hp) : Prop:=∀ b o,b ≠ nn→b ≠ ll→H b = some o→H' b = some o
theorem Stay.same {nn ll : Addr} {H H' : Hp} (h : Same H H') : Stay nn ll H H':=fun b o _ _ e=>h b o e
theorem Stay.trans {nn ll : Addr} {H H' H'' : Hp} (a : Stay nn ll H H') (b : Stay nn ll H' H'') : Stay nn ll H H'':=fun c o h1 h2 e=>b c o h1 h2 (a c o h1 h2 e)
section
variable {H : Hp} {C p dx nn ll : Addr} {nums : List (Str × Int)} {ls ls' : List (Str × Q4)} {kvs kvs' : List (Key × V)}
theorem tup_keep {a : Addr} {o : HO} {ks : List (Key × V)} (h : H a = some (.dK ks)) : ∀ t xs,H t = some (.tup xs)→upd H a o t = some (.tup xs):=fun t xs e=>by
 rw [upd_ne fun z=>by subst z; rw [h] at e; cases e]; exact e
theorem Hall.put (h : Hall H C p dx nn ll nums ls) (hk : H ll = some (.dK kvs)) (hl : Paired (LdE H) kvs' ls') : Hall (upd H ll (.dK kvs')) C p dx nn ll nums ls':=by
 refine ⟨?_,?_,⟨kvs',upd_same,hl.mono fun _ _ z=>z.same (tup_keep hk)⟩,h.ne⟩
 ·rw [upd_ne fun z=>by have:=h.ins; rw [z,hk] at this; cases this]; exact h.ins
 ·rw [upd_ne h.ne]; exact h.num
theorem Stay.put (hk : H ll = some (.dK kvs)) : Stay nn ll H (upd H ll (.dK kvs')):=fun b o _ h2 e=>by rw [upd_ne h2]; exact e
theorem Hall.num' {nums' : List (Str × Int)} (h : Hall H C p dx nn ll nums ls) : Hall (upd H nn (.dK (nums'.map numE))) C p dx nn ll nums' ls:=by
 obtain ⟨kvs,hk,hl⟩:=h.laid
 refine ⟨?_,upd_same,⟨kvs,?_,hl.mono fun _ _ z=>z.same (tup_keep h.num)⟩,h.ne⟩
 ·rw [upd_ne fun z=>by have:=h.ins; rw [z,h.num] at this; cases this]; exact h.ins
 ·rw [upd_ne h.ne.symm]; exact hk
theorem Stay.num {ks : List (Key × V)} : Stay nn ll H (upd H nn (.dK ks)):=fun b o h1 _ e=>by rw [upd_ne h1]; exact e
end
end K61
namespace K61
open PySem PySem.Spec PyProof.Rows L2 VM
set_option maxHeartbeats 4000000
structure Cl (K : PySem.W.Frag) (C : Addr) : Prop where
 cl : Cls K C
 n1 : NoAttr K C "numbers"
 n2 : NoAttr K C "laid"
theorem fld_at {K : PySem.W.Frag} {i : Nat} {f : Str} {σ : L2.St} {H : Hp} {Q : VK} {p C dx : Addr} {fs : List (Str × V)} {v : V} (e : σ[i]? = some (some (.ref p))) (h : H p = some (.ins C dx fs)) (c : Cls K C) (n : NoAttr K C f) (l : fs.lookup f = some v) (q : Q v H) :
  tFld K (vR i) f σ H Q:=vR_at e ⟨p,C,dx,fs,v,rfl,h,c,n,l,q⟩
theorem ix_at {K : PySem.W.Frag} {i : Nat} {j : Int} {σ : L2.St} {H : Hp} {Q : VK} {t : Addr} {xs : List V} {v : V} (e : σ[i]? = some (some (.ref t))) (h : H t = some (.tup xs)) (a : atI xs j = some v) (q : Q v H) : tOp (rIxTM K) (vR i) (tC (.int j)) σ H Q :=
 vR_at e ⟨xs,v,SqT.of h,a,q⟩
theorem op1 {g : Int→Int→V} {ta : TE} {j : Int} {σ : L2.St} {H : Hp} {Q : VK} : tOp (rM g) ta (tC (.int j)) σ H Q = ta σ H fun x H1=>rM g x (.int j) H1 Q:=rfl
theorem op_at {g : Int→Int→V} {ta : TE} {i : Nat} {σ : L2.St} {H : Hp} {Q : VK} {x y : Int} (h : ∀ R : VK,R (.int x) H→ta σ H R) (e : σ[i]? = some (some (.int y))) (q : Q (g x y) H) : tOp (rM g) ta (vR i) σ H Q:=h _ (vR_at e q)
section
variable {P : Program} {w : World} {K : PySem.W.Frag} {mg : Str→Option Value} {base : Heap} {C : Addr}
noncomputable def spFind (C : Addr) : Sp:=fun vs H Q _=>∃ p dx nn ll nums ls nm q,vs = [.ref p,.str nm]∧Hall H C p dx nn ll nums ls∧getP nm ls = some q∧Q .non H
theorem sc_find : FnScope ["self","name"] ["self","name"] (defScope (mth 5)):=⟨rfl,rfl,rfl,by decide +kernel,rfl,by decide +kernel,by decide +kernel⟩
theorem ok_find {f : Addr} {fd : FuncData} (F : Fun K "look_for" "NamedHall.look_for" (mth 5) f fd) (c : Cl K C) : FnOk P w K mg base CX0 1 f fd ["self","name"] (spFind C):=by
 have vt:=(show (["self","name"] : List Str).all (fun x=>visB (defScope (mth 5)) x && plain x) = true by decide +kernel)
 refine Fun.ok (k:=0) F sc_find (fun vs H Q E h=>by obtain ⟨_,_,_,_,_,_,_,_,rfl,_⟩:=h; rfl) fun cdv A outer s H vs Q E hr hsp=>?_
 obtain ⟨p,dx,nn,ll,nums,ls,nm,q,rfl,hh,hg,hq⟩:=hsp
 refine ⟨_,pss_one (ps_if (pt_cmp (pc_dnotin (hu_of hr) (pV vt 1) (pe_fld (pV vt 0) rfl))) (pss_one ps_never) pss_nil),?_⟩
 obtain ⟨kvs,hk,hl⟩:=hh.laid
 have g:=ld_get nm hl
 rw [hg] at g
 obtain ⟨t,gv,gt⟩:=g
 unfold tIfS tB tDNotIn
 refine vR_at (v:=.str nm) rfl (fld_at (p:=p) rfl hh.ins c.cl c.n2 rfl ⟨ll,_,rfl,DGet.k (k:=.inr nm) hk,_,rfl,?_⟩)
 rw [gv]
 exact hq
noncomputable def spChg (C : Addr) : Sp:=fun vs H Q _=>∃ p dx nn ll nums ls nm q ch,vs = [.ref p,.str nm,.int ch]∧Hall H C p dx nn ll nums ls∧getP nm ls = some q∧ls.length < 100 ∧
 ∀ H',Hall H' C p dx nn ll nums (putP nm (q.1,q.2.1,q.2.2.1 + ch,q.2.2.2) ls)→Stay nn ll H H'→Q .non H'
theorem sc_chg : FnScope ["self","name","change","passage"] ["self","name","change"] (defScope (mth 6)):=⟨rfl,rfl,rfl,by decide +kernel,rfl,by decide +kernel,by decide +kernel⟩
theorem ok_chg {f : Addr} {fd : FuncData} (F : Fun K "change_width" "NamedHall.change_width" (mth 6) f fd) (c : Cl K C) : FnOk P w K mg base CX0 1 f fd ["self","name","change"] (spChg C):=by
 have nd:=sc_chg.nd
 have vt:=(show (["self","name","change","passage"] : List Str).all (fun x=>visB (defScope (mth 6)) x && plain x) = true by decide +kernel)
 refine Fun.ok (k:=0) F sc_chg (fun vs H Q E h=>by obtain ⟨_,_,_,_,_,_,_,_,_,rfl,_⟩:=h; rfl) fun cdv A outer s H vs Q E hr hsp=>?_
 obtain ⟨p,dx,nn,ll,nums,ls,nm,q,ch,rfl,hh,hg,hn,hq⟩:=hsp
 refine ⟨_,pss_cons (ps_set (i:=3) nd rfl (lo (sc:=defScope (mth 6)) (by decide +kernel)) (pe_dget (hu_of hr) (pe_fld (pV vt 0) rfl) (pV vt 1) (fun _ _=>rfl)))
  (pss_one (ps_dput (hu_of hr) (pe_fld (pV vt 0) rfl) (pV vt 1) (pe_tup (pa_cons (peIx ixT (pV vt 3) pe_int) (pa_cons (peIx ixT (pV vt 3) pe_int) (pa_cons (pe_op oAdd (peIx ixT (pV vt 3) pe_int) (pV vt 2)) (pa_cons (peIx ixT (pV vt 3) pe_int) pa_nil))))) rfl)),?_⟩
 obtain ⟨kvs,hk,hl⟩:=hh.laid
 have g:=ld_get nm hl
 rw [hg] at g
 obtain ⟨t,gv,gt⟩:=g
 have hkl:=hl.length
 unfold tSeq tAsg tDGet gName sDPut tTup tCons
 refine fld_at (p:=p) rfl hh.ins c.cl c.n2 rfl (vR_at (v:=.str nm) rfl ⟨ll,.ref t,rfl,by rw [← gv]; exact DGet.k (k:=.inr nm) hk,?_⟩)
 dsimp only
 refine ix_at (t:=t) rfl gt rfl (ix_at (t:=t) rfl gt rfl (op_at (x:=q.2.2.1) (y:=ch) (fun R r=>ix_at (t:=t) rfl gt rfl r) rfl (ix_at (t:=t) rfl gt rfl ⟨by show 4≤sizeLine; decide,fun t' ht'=>?_⟩)))
 have hne : ll ≠ t':=ne_of_none hk ht'
 have same:=same_upd_new (o:=.tup [.int q.1,.int q.2.1,.int (q.2.2.1 + ch),.int q.2.2.2]) ht'
 have hh1:=hh.grow same
 have hk1:=same _ _ hk
 refine fld_at (p:=p) rfl hh1.ins c.cl c.n2 rfl (vR_at (v:=.str nm) rfl ⟨ll,_,rfl,DPut.k (k:=.inr nm) hk1 (size_big (by omega)),?_⟩)
 refine hq _ (hh1.put hk1 (ld_put (q:=(q.1,q.2.1,q.2.2.1 + ch,q.2.2.2)) upd_same (hl.mono fun _ _ z=>z.same fun u xs e=>same _ _ e))) ((Stay.same same).trans (Stay.put hk1))
noncomputable def spShut (C : Addr) : Sp:=fun vs H Q _=>∃ p dx nn ll nums ls nm q,vs = [.ref p,.str nm]∧Hall H C p dx nn ll nums ls∧getP nm ls = some q∧∀ H',Hall H' C p dx nn ll nums (dropP nm ls)→Stay nn ll H H'→Q .non H'
theorem sc_shut : FnScope ["self","name"] ["self","name"] (defScope (mth 2)):=⟨rfl,rfl,rfl,by decide +kernel,rfl,by decide +kernel,by decide +kernel⟩
theorem ok_shut {f : Addr} {fd : FuncData} (F : Fun K "shut" "NamedHall.shut" (mth 2) f fd) (c : Cl K C) {f5 : Addr} {fd5 : FuncData} (F5 : FnOk P w K mg base CX0 1 f5 fd5 ["self","name"] (spFind C)) (m5 : Meth K C "look_for" f5) (b5 : Binds K fd5 ["self","name"] []) :
  FnOk P w K mg base CX0 2 f fd ["self","name"] (spShut C):=by
 have vt:=(show (["self","name"] : List Str).all (fun x=>visB (defScope (mth 2)) x && plain x) = true by decide +kernel)
 refine Fun.ok (k:=1) F sc_shut (fun vs H Q E h=>by obtain ⟨_,_,_,_,_,_,_,_,rfl,_⟩:=h; rfl) fun cdv A outer s H vs Q E hr hsp=>?_
 obtain ⟨p,dx,nn,ll,nums,ls,nm,q,rfl,hh,hg,hq⟩:=hsp
 refine ⟨_,pss_cons (ps_expr (pe_meth (pV vt 0) c.cl m5 F5 hr b5 .nil pass0 (pa_cons (pV vt 1) pa_nil))) (pss_one (ps_expr (pe_dpop1 (pe_fld (pV vt 0) rfl) (pV vt 1) ⟨rfl,rfl,rfl,rfl⟩))),?_⟩
 obtain ⟨kvs,hk,hl⟩:=hh.laid
 have g:=ld_get nm hl
 rw [hg] at g
 obtain ⟨t,gv,gt⟩:=g
 unfold tSeq tDrop tMeth tDPop1 tCons tNil
 refine vR_at (v:=.ref p) rfl ⟨p,dx,_,rfl,hh.ins,rfl,vR_at (v:=.str nm) rfl ⟨p,dx,nn,ll,nums,ls,nm,q,rfl,hh,hg,?_⟩⟩
 dsimp only
 refine fld_at (p:=p) rfl hh.ins c.cl c.n2 rfl ⟨ll,rfl,.inl ⟨_,.inl hk⟩,vR_at (v:=.str nm) rfl ⟨kvs,.inr nm,.ref t,hk,rfl,gv,?_⟩⟩
 exact hq _ (hh.put hk (ld_drop hl)) (Stay.put hk)
noncomputable def spWiden (C : Addr) : Sp:=fun vs H Q _=>∃ p dx nn ll nums ls nm q ch,vs = [.ref p,.str nm,.int ch]∧Hall H C p dx nn ll nums ls∧getP nm ls = some q∧1≤ch∧ls.length < 100 ∧
 ∀ H',Hall H' C p dx nn ll nums (putP nm (q.1,q.2.1,q.2.2.1 + ch,q.2.2.2) ls)→Stay nn ll H H'→Q .non H'
theorem sc_widen : FnScope ["self","name","more"] ["self","name","more"] (defScope (mth 3)):=⟨rfl,rfl,rfl,by decide +kernel,rfl,by decide +kernel,by decide +kernel⟩
theorem ok_widen {f : Addr} {fd : FuncData} (F : Fun K "widen" "NamedHall.widen" (mth 3) f fd) (c : Cl K C) {f5 f6 : Addr} {fd5 fd6 : FuncData} (F5 : FnOk P w K mg base CX0 1 f5 fd5 ["self","name"] (spFind C)) (m5 : Meth K C "look_for" f5) (b5 : Binds K fd5 ["self","name"] [])
  (F6 : FnOk P w K mg base CX0 1 f6 fd6 ["self","name","change"] (spChg C)) (m6 : Meth K C "change_width" f6) (b6 : Binds K fd6 ["self","name","change"] []) :
  FnOk P w K mg base CX0 2 f fd ["self","name","more"] (spWiden C):=by
 have vt:=(show (["self","name","more"] : List Str).all (fun x=>visB (defScope (mth 3)) x && plain x) = true by decide +kernel)
 refine Fun.ok (k:=1) F sc_widen (fun vs H Q E h=>by obtain ⟨_,_,_,_,_,_,_,_,_,rfl,_⟩:=h; rfl) fun cdv A outer s H vs Q E hr hsp=>?_
 obtain ⟨p,dx,nn,ll,nums,ls,nm,q,ch,rfl,hh,hg,h1,hn,hq⟩:=hsp
 refine ⟨_,pss_cons (ps_expr (pe_meth (pV vt 0) c.cl m5 F5 hr b5 .nil pass0 (pa_cons (pV vt 1) pa_nil))) (pss_cons (ps_if (ptC oLt (pV vt 2) pe_int) (pss_one ps_never) pss_nil)
  (pss_one (ps_expr (pe_meth (pV vt 0) c.cl m6 F6 hr b6 .nil pass0 (pa_cons (pV vt 1) (pa_cons (pV vt 2) pa_nil)))))),?_⟩
 unfold tSeq tDrop tMeth tCons tNil
 refine vR_at (v:=.ref p) rfl ⟨p,dx,_,rfl,hh.ins,rfl,vR_at (v:=.str nm) rfl ⟨p,dx,nn,ll,nums,ls,nm,q,rfl,hh,hg,?_⟩⟩
 dsimp only
 unfold tIfS tTM
 rw [op1]
 refine vR_at (v:=.int ch) rfl ?_
 show (if decide (ch < 1) = true then _ else _)
 rw [if_neg (by simp; omega)]
 unfold tNext
 dsimp only
 refine vR_at (v:=.ref p) rfl ⟨p,dx,_,rfl,hh.ins,rfl,vR_at (v:=.str nm) rfl (vR_at (v:=.int ch) rfl ⟨p,dx,nn,ll,nums,ls,nm,q,ch,rfl,hh,hg,hn,fun H' h1 h2=>?_⟩)⟩
 exact hq H' h1 h2
end
end K61
namespace K61
open PySem PySem.Spec PyProof.Rows L2 VM
set_option maxHeartbeats 4000000
theorem forIt {a : Addr} {o : Obj} {kvs : List (Key × V)} {g : TG} {tb : TS} {D : Ends} {σ : L2.St} {H : Hp} (Pv : Nat→L2.St→Hp→Prop) (h0 : Pv 0 σ H) (hl : ∀ i σ H,i≤kvs.length→Pv i σ H→H a = some (.frz o (.dK kvs)))
  (hs : ∀ i kv σ H p,kvs[i]? = some kv→Pv i σ H→H p = none→g (.ref p) σ (upd H p (.tup [kV kv.1,kv.2])) fun σ2 H2=>tb { D with nx:=Pv (i + 1),ct:=Pv (i + 1),bk:=D.nx } σ2 H2) (hd : ∀ σ H,Pv kvs.length σ H→D.nx σ H) :
  forRd (Iti a o kvs) g tb D σ H:=by
 refine ⟨fun i m σ H=>m = kvs.length - i∧i≤kvs.length∧Pv i σ H,⟨kvs.length,by simp,Nat.zero_le _,h0⟩,?_⟩
 rintro i m σ H ⟨rfl,hi,p⟩
 have q:=hl i σ H hi p
 by_cases hlt : i < kvs.length
 ·refine .inr ⟨⟨q,hlt⟩,Pv (i + 1),fun σ' H' p'=>⟨kvs.length - (i + 1),by omega,rfl,hlt,p'⟩,fun x H' y=>?_⟩
  obtain ⟨pp,kv,hz,hn,e1,e2⟩:=y
  subst e1 e2
  exact hs i kv σ _ pp hz p hn
 ·have e : i = kvs.length:=by omega
  subst e
  exact .inl ⟨⟨q,Nat.le_refl _⟩,hd σ H p⟩
theorem cLenD {X : Cx} : CallR X (.builtin "len") (fun xs H Q=>∃ a kvs,xs = [.ref a]∧H a = some (.dK kvs)∧Q (.int kvs.length) H):=by
 intro pins s σ H xs us Q I r h
 obtain ⟨a,kvs,rfl,ha,q⟩:=h
 obtain ⟨u,rfl,rx⟩:=vals1 r
 cases rx
 exact d_len I (.inl ha) fun t s' I'=>⟨.int _,H,I',⟨t,rfl⟩,q⟩
noncomputable abbrev Row:=Str × Str × Str × Int × Int
noncomputable def rowV (r : Row) : List V:=[.str r.1,.str r.2.1,.str r.2.2.1,.int r.2.2.2.1,.int r.2.2.2.2]
noncomputable def RowT (H : Hp) (v : V) (r : Row) : Prop:=∃ t,v = .ref t∧H t = some (.tup (rowV r))
noncomputable def LR (seen : List Str) (x : Str × Q4) (r : Row) : Prop:=x.1 = r.1∧atI (seen.map V.str) x.2.1 = some (.str r.2.1)∧atI (seen.map V.str) x.2.2.1 = some (.str r.2.2.1)∧x.2.2.2.1 = r.2.2.2.1∧x.2.2.2.2 = r.2.2.2.2
noncomputable def seenOf (nums : List (Str × Int)) : List Str:=nums.map (·.1)
theorem paired_get {α β : Type} {R : α→β→Prop} {l : List α} {r : List β} (h : Paired R l r) : ∀ {i : Nat} {a : α},l[i]? = some a→∃ b,r[i]? = some b∧R a b:=by
 induction h with
 | nil=>intro i a e; cases e
 | cons h _ ih =>
  intro i a e
  cases i with
  | zero=>cases e; exact ⟨_,rfl,h⟩
  | succ i=>exact ih e
theorem paired_snoc {α β : Type} {R : α→β→Prop} : ∀ {l : List α} {r : List β} {a : α} {b : β},Paired R l r→R a b→Paired R (l ++ [a]) (r ++ [b])
 | _,_,_,_,.nil,h=>.cons h .nil
 | _,_,_,_,.cons x r,h=>.cons x (paired_snoc r h)
section
variable {P : Program} {w : World} {K : PySem.W.Frag} {mg : Str→Option Value} {base : Heap} {C : Addr}
noncomputable def spNarrow (C : Addr) : Sp:=fun vs H Q _=>∃ p dx nn ll nums ls nm q ch,vs = [.ref p,.str nm,.int ch]∧Hall H C p dx nn ll nums ls∧getP nm ls = some q∧1≤ch∧ch < q.2.2.1∧ls.length < 100 ∧
 ∀ H',Hall H' C p dx nn ll nums (putP nm (q.1,q.2.1,q.2.2.1 + -ch,q.2.2.2) ls)→Stay nn ll H H'→Q .non H'
theorem sc_narrow : FnScope ["self","name","less"] ["self","name","less"] (defScope (mth 4)):=⟨rfl,rfl,rfl,by decide +kernel,rfl,by decide +kernel,by decide +kernel⟩
theorem ok_narrow {f : Addr} {fd : FuncData} (F : Fun K "narrow" "NamedHall.narrow" (mth 4) f fd) (c : Cl K C) {f5 f6 : Addr} {fd5 fd6 : FuncData} (F5 : FnOk P w K mg base CX0 1 f5 fd5 ["self","name"] (spFind C)) (m5 : Meth K C "look_for" f5) (b5 : Binds K fd5 ["self","name"] [])
  (F6 : FnOk P w K mg base CX0 1 f6 fd6 ["self","name","change"] (spChg C)) (m6 : Meth K C "change_width" f6) (b6 : Binds K fd6 ["self","name","change"] []) :
  FnOk P w K mg base CX0 2 f fd ["self","name","less"] (spNarrow C):=by
 have vt:=(show (["self","name","less"] : List Str).all (fun x=>visB (defScope (mth 4)) x && plain x) = true by decide +kernel)
 refine Fun.ok (k:=1) F sc_narrow (fun vs H Q E h=>by obtain ⟨_,_,_,_,_,_,_,_,_,rfl,_⟩:=h; rfl) fun cdv A outer s H vs Q E hr hsp=>?_
 obtain ⟨p,dx,nn,ll,nums,ls,nm,q,ch,rfl,hh,hg,h1,h2,hn,hq⟩:=hsp
 refine ⟨_,pss_cons (ps_expr (pe_meth (pV vt 0) c.cl m5 F5 hr b5 .nil pass0 (pa_cons (pV vt 1) pa_nil)))
  (pss_cons (ps_if (PW.pt (pw_or (ptC oLt (pV vt 2) pe_int) (pw_or1 (ptC oLt (pe_op oSub (peIx ixT (pe_dget (hu_of hr) (pe_fld (pV vt 0) rfl) (pV vt 1) (fun _ _=>rfl)) pe_int) (pV vt 2)) pe_int)))) (pss_one ps_never) pss_nil)
  (pss_one (ps_expr (pe_meth (pV vt 0) c.cl m6 F6 hr b6 .nil pass0 (pa_cons (pV vt 1) (pa_cons (pe_un un_neg (pV vt 2)) pa_nil)))))),?_⟩
 obtain ⟨kvs,hk,hl⟩:=hh.laid
 have g:=ld_get nm hl
 rw [hg] at g
 obtain ⟨t,gv,gt⟩:=g
 unfold tSeq tDrop tMeth tCons tNil
 refine vR_at (v:=.ref p) rfl ⟨p,dx,_,rfl,hh.ins,rfl,vR_at (v:=.str nm) rfl ⟨p,dx,nn,ll,nums,ls,nm,q,rfl,hh,hg,?_⟩⟩
 dsimp only
 unfold tIfS tOr tTM
 rw [op1]
 refine vR_at (v:=.int ch) rfl ?_
 show (if decide (ch < 1) = true then _ else _)
 rw [if_neg (by simp; omega)]
 rw [op1]
 refine op_at (x:=q.2.2.1) (y:=ch) (fun R r=>?_) rfl ?_
 ·unfold tOp tDGet
  exact fld_at (p:=p) rfl hh.ins c.cl c.n2 rfl (vR_at (v:=.str nm) rfl ⟨ll,.ref t,rfl,by rw [← gv]; exact DGet.k (k:=.inr nm) hk,⟨_,_,SqT.of gt,rfl,r⟩⟩)
 show (if decide (q.2.2.1 - ch < 1) = true then _ else _)
 rw [if_neg (by simp; omega)]
 unfold tNext
 dsimp only
 refine vR_at (v:=.ref p) rfl ⟨p,dx,_,rfl,hh.ins,rfl,vR_at (v:=.str nm) rfl ?_⟩
 unfold tUn
 refine vR_at (v:=.int ch) rfl ⟨ch,rfl,p,dx,nn,ll,nums,ls,nm,q,-ch,rfl,hh,hg,hn,fun H' h1 h2=>?_⟩
 exact hq H' h1 h2
noncomputable def spRooms (C : Addr) : Sp:=fun vs H Q _=>∃ p dx nn ll nums ls,vs = [.ref p]∧Hall H C p dx nn ll nums ls∧∀ z,H z = none→Q (.ref z) (upd H z (.lst ((seenOf nums).map V.str)))
theorem sc_rooms : FnScope ["self"] ["self"] (defScope (mth 7)):=⟨rfl,rfl,rfl,by decide +kernel,rfl,by decide +kernel,by decide +kernel⟩
theorem ok_rooms {f : Addr} {fd : FuncData} (F : Fun K "rooms" "NamedHall.rooms" (mth 7) f fd) (B : Bl mg) (c : Cl K C) : FnOk P w K mg base CX0 1 f fd ["self"] (spRooms C):=by
 have vt:=(show (["self"] : List Str).all (fun x=>visB (defScope (mth 7)) x && plain x) = true by decide +kernel)
 refine Fun.ok (k:=0) F sc_rooms (fun vs H Q E h=>by obtain ⟨_,_,_,_,_,_,rfl,_⟩:=h; rfl) fun cdv A outer s H vs Q E hr hsp=>?_
 obtain ⟨p,dx,nn,ll,nums,ls,rfl,hh,hq⟩:=hsp
 refine ⟨_,pss_one (ps_ret (pe_callTy (cListD rfl) (gl (sc:=defScope (mth 7)) (by decide +kernel)) B.list PyProof.Rows.boot_list (pa_cons (pe_fld (pV vt 0) rfl) pa_nil))),?_⟩
 unfold tRet tCB tCons tNil
 refine fld_at (p:=p) rfl hh.ins c.cl c.n1 rfl ⟨nn,_,rfl,hh.num,fun z hz=>?_⟩
 have e : (nums.map numE).map (fun kv=>kV kv.1) = (seenOf nums).map V.str:=by
  unfold seenOf
  rw [List.map_map,List.map_map]
  rfl
 rw [e]
 exact hq z hz
noncomputable def spPass (C : Addr) : Sp:=fun vs H Q _=>∃ p dx nn ll nums ls rows,vs = [.ref p]∧Hall H C p dx nn ll nums ls∧ls.length < 100∧Paired (LR (seenOf nums)) ls rows ∧
 ∀ H' q ts,Same H H'→H q = none→H' q = some (.lst ts)→Paired (RowT H') ts rows→Q (.ref q) H'
theorem sc_pass : FnScope ["self","rooms","told","name","passage"] ["self"] (defScope (mth 8)):=⟨rfl,rfl,rfl,by decide +kernel,rfl,by decide +kernel,by decide +kernel⟩
theorem ixL_at {i : Nat} {tj : TE} {σ : L2.St} {H : Hp} {Q : VK} {t : Addr} {xs : List V} {j : Int} {v : V} (e : σ[i]? = some (some (.ref t))) (h : H t = some (.lst xs)) (hj : ∀ R : VK,R (.int j) H→tj σ H R) (a : atI xs j = some v) (q : Q v H) : tOp (rIxLM K) (vR i) tj σ H Q :=
 vR_at e (hj _ ⟨xs,v,SqL.of h,a,q⟩)
theorem ok_pass {f : Addr} {fd : FuncData} (F : Fun K "passages" "NamedHall.passages" (mth 8) f fd) (c : Cl K C) {f7 : Addr} {fd7 : FuncData} (F7 : FnOk P w K mg base CX0 1 f7 fd7 ["self"] (spRooms C)) (m7 : Meth K C "rooms" f7) (b7 : Binds K fd7 ["self"] []) :
  FnOk P w K mg base CX0 2 f fd ["self"] (spPass C):=by
 have nd:=sc_pass.nd
 have vt:=(show (["self","rooms","told","name","passage"] : List Str).all (fun x=>visB (defScope (mth 8)) x && plain x) = true by decide +kernel)
 refine Fun.ok (k:=1) F sc_pass (fun vs H Q E h=>by obtain ⟨_,_,_,_,_,_,_,rfl,_⟩:=h; rfl) fun cdv A outer s H vs Q E hr hsp=>?_
 obtain ⟨p,dx,nn,ll,nums,ls,rows,rfl,hh,hn,hR,hq⟩:=hsp
 refine ⟨_,pss_cons (ps_set (i:=1) nd rfl (lo (sc:=defScope (mth 8)) (by decide +kernel)) (pe_meth0 (pV vt 0) c.cl m7 F7 hr b7 .nil pass0))
  (pss_cons (ps_set (i:=2) nd rfl (lo (sc:=defScope (mth 8)) (by decide +kernel)) (pe_lst pa_nil))
  (pss_cons (ps_loose (ps_for PassesOwn.never rfl (pi_items (pe_fld (pV vt 0) rfl)) (pgTup (n:=2) rfl (pgsCons (pg_name (i:=3) nd rfl (lo (sc:=defScope (mth 8)) (by decide +kernel))) (pgsCons (pg_name (i:=4) nd rfl (lo (sc:=defScope (mth 8)) (by decide +kernel))) pgsNil)))
   (pss_one (ps_expr (peApp (pV vt 2) (pa_cons (pe_tup (pa_cons (pV vt 3) (pa_cons (peIx ixL (pV vt 1) (peIx ixT (pV vt 4) pe_int)) (pa_cons (peIx ixL (pV vt 1) (peIx ixT (pV vt 4) pe_int)) (pa_cons (peIx ixT (pV vt 4) pe_int) (pa_cons (peIx ixT (pV vt 4) pe_int) pa_nil)))))) pa_nil))))))
  (pss_one (ps_ret (pV vt 2))))),?_⟩
 obtain ⟨kvs,hk,hl⟩:=hh.laid
 have hkl:=hl.length
 have hrl:=hR.length
 unfold tSeq tAsg tMeth tNil gName tLst
 refine vR_at (v:=.ref p) rfl ⟨p,dx,_,rfl,hh.ins,rfl,p,dx,nn,ll,nums,ls,rfl,hh,fun rz hrz=>?_⟩
 dsimp only
 refine ⟨Nat.zero_le _,fun tz htz=>?_⟩
 have s1:=same_upd_new (o:=.lst ((seenOf nums).map V.str)) hrz
 have s2:=same_upd_new (o:=.lst []) htz
 have s12:=s1.trans s2
 have hz0 : H tz = none:=s1.free htz
 have hrt : rz ≠ tz:=fun z=>by subst z; rw [upd_same] at htz; cases htz
 have hllz : ll ≠ tz:=ne_of_none hk hz0
 refine ⟨ll,kvs,s12 _ _ hk,?_⟩
 rw [tFor_eq]
 unfold iItems tBM0
 refine fld_at (p:=p) rfl (s12 _ _ hh.ins) c.cl c.n2 rfl ⟨.inr (.inr (.inl ⟨rfl,.inl ⟨kvs,s12 _ _ hk⟩⟩)),kvs,s12 _ _ hk,fun z hz=>?_⟩
 refine ⟨z,ll,kvs,_,rfl,rfl,hz,s12 _ _ hk,fun o=>?_⟩
 have s3:=same_upd_new (o:=HO.ext fun h=>h.get? z = some (itemsObj ll)) hz
 have hzt : tz ≠ z:=fun y=>by subst y; rw [upd_same] at hz; cases hz
 have hzr : rz ≠ z:=fun y=>by subst y; rw [upd_ne hrt,upd_same] at hz; cases hz
 have hrll : ll ≠ rz:=ne_of_none hk hrz
 refine forIt (fun i σ' H'=>(∃ x y,σ' = [some (.ref p),some (.ref rz),some (.ref tz),x,y])∧H' ll = some (.frz o (.dK kvs))∧H' rz = some (.lst ((seenOf nums).map V.str))∧(∃ ts,H' tz = some (.lst ts)∧ts.length = i∧Paired (RowT H') ts (rows.take i))∧∀ b ob,b ≠ ll→H b = some ob→H' b = some ob)
  ⟨⟨_,_,rfl⟩,upd_same,by rw [upd_ne hrll.symm,upd_ne hzr,upd_ne hrt,upd_same],⟨[],by rw [upd_ne hllz.symm,upd_ne hzt,upd_same],rfl,.nil⟩,fun b ob hb e=>by rw [upd_ne hb]; exact s3 _ _ (s12 _ _ e)⟩ (fun _ _ _ _ h=>h.2.1) ?_ ?_
 ·rintro i kv σ' H' p' hkv ⟨⟨x,y,rfl⟩,i1,i2,⟨ts,i3,i4,i5⟩,i6⟩ hp'
  obtain ⟨x1,e1,e2⟩:=paired_get hl hkv
  obtain ⟨r,e3,e4⟩:=paired_get hR e1
  obtain ⟨hkey,t,hv,ht⟩:=e2
  obtain ⟨l1,l2,l3,l4,l5⟩:=e4
  have hi : i < kvs.length:=(List.getElem?_eq_some_iff.mp hkv).1
  rw [l1] at hkey
  have htl : t ≠ ll:=fun z=>by subst z; rw [hk] at ht; cases ht
  have ht':=i6 _ _ htl ht
  have s4:=same_upd_new (o:=.tup [kV kv.1,kv.2]) hp'
  refine ⟨_,SqT.of upd_same,rfl,?_⟩
  rw [hkey,hv]
  show tDrop (tBM K "list" rAppM (vR 2) _) _ [some (.ref p),some (.ref rz),some (.ref tz),some (.str r.1),some (.ref t)] _
  rw [hkey,hv] at s4
  unfold tDrop tBM
  refine vR_at (v:=.ref tz) rfl ⟨.inl ⟨rfl,_,SqL.of (s4 _ _ i3)⟩,?_⟩
  unfold tCons tTup
  refine vR_at (v:=.str r.1) rfl (ixL_at (t:=rz) rfl (s4 _ _ i2) (fun R r=>ix_at (t:=t) rfl (s4 _ _ ht') rfl r) l2 (ixL_at (t:=rz) rfl (s4 _ _ i2) (fun R r=>ix_at (t:=t) rfl (s4 _ _ ht') rfl r) l3 (ix_at (t:=t) rfl (s4 _ _ ht') rfl (ix_at (t:=t) rfl (s4 _ _ ht') rfl ⟨by show 5≤sizeLine; decide,fun t' ht2=>?_⟩))))
  rw [l4,l5]
  have s5:=same_upd_new (o:=.tup (rowV r)) ht2
  refine ⟨ts,s5 _ _ (s4 _ _ i3),size_big (by omega),?_⟩
  have s45:=s4.trans s5
  have nt : ∀ b ob,b ≠ tz→upd (upd H' p' (.tup [kV (Sum.inr r.1),V.ref t])) t' (.tup (rowV r)) b = some ob→upd (upd (upd H' p' (.tup [kV (Sum.inr r.1),V.ref t])) t' (.tup (rowV r))) tz (.lst (ts ++ [.ref t'])) b = some ob:=fun b ob hb e=>by rw [upd_ne hb]; exact e
  have ntt : ∀ b xs,upd (upd H' p' (.tup [kV (Sum.inr r.1),V.ref t])) t' (.tup (rowV r)) b = some (.tup xs)→b ≠ tz:=fun b xs e z=>by subst z; rw [s45 _ _ i3] at e; cases e
  refine ⟨⟨_,_,rfl⟩,nt _ _ hllz (s45 _ _ i1),nt _ _ hrt (s45 _ _ i2),⟨_,upd_same,by rw [List.length_append,i4]; rfl,?_⟩,fun b ob hb e=>nt _ _ (fun z=>by subst z; rw [hz0] at e; cases e) (s45 _ _ (i6 _ _ hb e))⟩
  have etk : rows.take (i + 1) = rows.take i ++ [r]:=by rw [List.take_succ,e3]; rfl
  rw [etk]
  refine paired_snoc (i5.mono fun v r' h=>?_) ⟨t',rfl,nt _ _ (ntt _ _ upd_same) upd_same⟩
  obtain ⟨u,eu,hu⟩:=h
  exact ⟨u,eu,nt _ _ (ntt _ _ (s45 _ _ hu)) (s45 _ _ hu)⟩
 ·rintro σ' H' ⟨⟨x,y,rfl⟩,i1,i2,⟨ts,i3,i4,i5⟩,i6⟩
  refine ⟨o,i1,?_⟩
  unfold tRet
  refine vR_at (v:=.ref tz) rfl ?_
  refine hq _ tz ts (fun b ob e=>?_) hz0 (by rw [upd_ne hllz.symm]; exact i3) ?_
  ·by_cases hb : b = ll
   ·subst hb; rw [hk] at e; cases e; exact upd_same
   ·rw [upd_ne hb]; exact i6 _ _ hb e
  ·rw [List.take_of_length_le (by omega)] at i5
   refine i5.mono fun v r' h=>?_
   obtain ⟨u,eu,hu⟩:=h
   exact ⟨u,eu,by rw [upd_ne fun z=>by subst z; rw [i1] at hu; cases hu]; exact hu⟩
end
end K61
namespace K61
open PySem L2 VM
seal L2.PE L2.PT L2.PW L2.PA L2.PS L2.PSs L2.PG L2.PGs L2.PI L2.PIfs L2.PO L2.OpR L2.UnR L2.CallR L2.IxR L2.MtR L2.PSet L2.PIp VM.OpD VM.CallD
set_option maxHeartbeats 4000000
noncomputable def g_look_at_name : VS :=
 (gIf (tOr2 (tNot2 (vB (vCh leD leD (vC (.int 1)) (vCB lenSD (aC (vN 0) a0)) (vC (.int 12))))) (tNot2 (vB (vCB allD (aC (vLC (vItemsS (vN 0)) [none] (gN 0) cTrue (vCh leSD leSD (vC (.str "a")) (vN 0) (vC (.str "z")))) a0)))))
 gFail
 gNop)
noncomputable def m_look_at_name : FnM:=fnM 1 1 g_look_at_name
theorem sc_look_at_name : FnScope ["name"] ["name"] (defScope (top 16)):=⟨rfl,rfl,rfl,by decide +kernel,rfl,by decide +kernel,by decide +kernel⟩
theorem ok_look_at_name {P : Program} {w : World} {K : PySem.W.Frag} {mg : Str → Option Value} {base : Heap} {f : Addr} {fd : FuncData} (F : Fun K "look_at_name" "look_at_name" (top 16) f fd) (B : Bl mg) (KT : Kits K) (Ball : mg "all" = none) {tkL : Tok} (GLONGEST_NAME : mg "LONGEST_NAME" = some (.int 12 tkL))  : FnOk P w K mg base CX0 1 f fd ["name"] (spV K m_look_at_name) := by
  have nd := sc_look_at_name.nd
  have vt := (show (["name"] : List Str).all (fun x => visB (defScope (top 16)) x && plain x) = true by decide +kernel)
  refine fnV (k := 0) (n := 1) (nN := 1) (g := g_look_at_name) F sc_look_at_name rfl rfl fun cdv A outer s H E hr => ?_
  exact (sOne (sIf (PW.pt (wOr (cNot (cCh oLe hLe oLe hLe (sw dInt) (sw (dCB (pe_callB call_len_str (gl (sc := (defScope (top 16))) (by decide +kernel)) B.len PySem.boot_len (pwC (mw (dN (pV vt 0))) pw0)) hLenS)) (sw (dC (pe_glob (v := .int 12) (gl (sc := (defScope (top 16))) (by decide +kernel)) GLONGEST_NAME ⟨_, rfl⟩) fun _ => rfl)))) (wOr1 (cNot (cVal (dCB (pe_callB (cAll rfl) (gl (sc := (defScope (top 16))) (by decide +kernel)) Ball PyProof.Rows.boot_all (pwC (nw (dLC (pe_lc (te := tV K RS _) (tc := tVT K _) (g := tVG K _ _) (N' := ["sign"]) (cap := [none]) ["name"] (defScope (top 16)) rfl (by decide +kernel) rfl rfl (itS (mw (dN (pV vt 0)))) (fun _ _ _ _ _ => (tgN (pgC (i := 0) (show (["sign"] : List Str).Nodup by decide +kernel) (by decide +kernel)))) (fun _ _ _ _ _ => ifN) (fun _ _ _ _ _ => (dCh op_le_str hLeS op_le_str hLeS (sw (dStr (by decide +kernel))) (mw (dN (pVc (by decide +kernel) 0))) (sw (dStr (by decide +kernel)))))))) pw0)) hAll))))))
 (sOne sNever)
 sNil))
noncomputable def g__law_cell_at : VS :=
 (gSeq (gIf (vB (v2 ltD (vN 1) (vCB lenD (aC (vN 0) a0))))
 (gRet (v2 ixDt (vN 0) (vN 1)))
 gNop)
 (gRet (vC (.int 0))))
noncomputable def m__law_cell_at : FnM:=fnM 2 2 g__law_cell_at
theorem sc__law_cell_at : FnScope ["_law_script","_law_k"] ["_law_script","_law_k"] (defScope (top 18)):=⟨rfl,rfl,rfl,by decide +kernel,rfl,by decide +kernel,by decide +kernel⟩
theorem ok__law_cell_at {P : Program} {w : World} {K : PySem.W.Frag} {mg : Str → Option Value} {base : Heap} {f : Addr} {fd : FuncData} (F : Fun K "_law_cell_at" "_law_cell_at" (top 18) f fd) (B : Bl mg) (KT : Kits K)  : FnOk P w K mg base CX0 1 f fd ["_law_script", "_law_k"] (spV K m__law_cell_at) := by
  have nd := sc__law_cell_at.nd
  have vt := (show (["_law_script", "_law_k"] : List Str).all (fun x => visB (defScope (top 18)) x && plain x) = true by decide +kernel)
  refine fnV (k := 0) (n := 2) (nN := 2) (g := g__law_cell_at) F sc__law_cell_at rfl rfl fun cdv A outer s H E hr => ?_
  exact (sSeq (sIf (cCmp oLt hLt (mw (dN (pV vt 1))) (sw (dCB (pe_callB cLen (gl (sc := (defScope (top 18))) (by decide +kernel)) B.len PySem.boot_len (pwC (mw (dN (pV vt 0))) pw0)) hLen)))
 (sOne (sRet (dIx (dN (pV vt 0)) (mw (dN (pV vt 1))))))
 sNil)
 (sOne (sRet dInt)))
noncomputable def g__law_mixed : VS :=
 (gSeq (gIf (vB (v2 eqD (v2 modD (vN 0) (vC (.int 2))) (vC (.int 0))))
 (gSeq (gAs (v2 divD (vCB absD (aC (vN 0) a0)) (vC (.int 2))) (gN 2))
 (gSeq (gFor (vRng1 (aC (vN 1) a0)) (gN 3)
 (gAs (v2 divD (vN 2) (v2 powD (vC (.int 10)) (vC (.int 12)))) (gN 2)))
 (gRetO 2)))
 gNop)
 (gSeq (gAs (v2 modD (v2 addD (vN 0) (v2 mulD (vC (.int 7919)) (vN 1))) (vC (.int 2147483629))) (gN 2))
 (gSeq (gAs (v2 modD (v2 addD (v2 addD (v2 mulD (vN 2) (vN 2)) (v2 mulD (vC (.int 16807)) (vN 2))) (vN 1)) (vC (.int 2147483629))) (gN 2))
 (gRet (v2 modD (v2 mulD (vN 2) (vN 2)) (vC (.int 2147483587)))))))
noncomputable def m__law_mixed : FnM:=fnM 2 4 g__law_mixed
theorem sc__law_mixed : FnScope ["_law_cell","_law_k","_law_number","_law_time"] ["_law_cell","_law_k"] (defScope (top 19)):=⟨rfl,rfl,rfl,by decide +kernel,rfl,by decide +kernel,by decide +kernel⟩
theorem ok__law_mixed {P : Program} {w : World} {K : PySem.W.Frag} {mg : Str → Option Value} {base : Heap} {f : Addr} {fd : FuncData} (F : Fun K "_law_mixed" "_law_mixed" (top 19) f fd) (B : Bl mg) (KT : Kits K)  : FnOk P w K mg base CX0 1 f fd ["_law_cell", "_law_k"] (spV K m__law_mixed) := by
  have nd := sc__law_mixed.nd
  have vt := (show (["_law_cell", "_law_k", "_law_number", "_law_time"] : List Str).all (fun x => visB (defScope (top 19)) x && plain x) = true by decide +kernel)
  refine fnV (k := 0) (n := 2) (nN := 4) (g := g__law_mixed) F sc__law_mixed rfl rfl fun cdv A outer s H E hr => ?_
  exact (sSeq (sIf (cCmp (op_eqD hr.units) hEq (sw (dOp oMod hMod (mw (dN (pV vt 0))) (sw dInt))) (sw dInt))
 (sSeq (sAs (ps_asg (dOp oDiv hDiv (sw (dCB (pe_callB cAbs (gl (sc := (defScope (top 19))) (by decide +kernel)) B.abs PyProof.Rows.boot_abs (pwC (mw (dN (pV vt 0))) pw0)) hAbs)) (sw dInt)) (tgN (pg_name (i := 2) nd rfl (lo (sc := (defScope (top 19))) (by decide +kernel))))))
 (sSeq (sFor (ps_for PassesOwn.never rfl (itR1 (pi_range1 (gl (sc := (defScope (top 19))) (by decide +kernel)) B.range (pwC (mw (dN (pV vt 1))) pw0))) (tgN (pg_name (i := 3) nd rfl (lo (sc := (defScope (top 19))) (by decide +kernel))))
 (sOne (sAs (ps_asg (dOp oDiv hDiv (mw (dN (pV vt 2))) (sw (dOp oPow hPow (sw dInt) (sw dInt)))) (tgN (pg_name (i := 2) nd rfl (lo (sc := (defScope (top 19))) (by decide +kernel)))))))))
 (sOne (sRetO (pV vt 2)))))
 sNil)
 (sSeq (sAs (ps_asg (dOp oMod hMod (sw (dOp oAdd hAdd (mw (dN (pV vt 0))) (sw (dOp oMul hMul (sw dInt) (mw (dN (pV vt 1))))))) (sw dInt)) (tgN (pg_name (i := 2) nd rfl (lo (sc := (defScope (top 19))) (by decide +kernel))))))
 (sSeq (sAs (ps_asg (dOp oMod hMod (sw (dOp oAdd hAdd (sw (dOp oAdd hAdd (sw (dOp oMul hMul (mw (dN (pV vt 2))) (mw (dN (pV vt 2))))) (sw (dOp oMul hMul (sw dInt) (mw (dN (pV vt 2))))))) (mw (dN (pV vt 1))))) (sw dInt)) (tgN (pg_name (i := 2) nd rfl (lo (sc := (defScope (top 19))) (by decide +kernel))))))
 (sOne (sRet (dOp oMod hMod (sw (dOp oMul hMul (mw (dN (pV vt 2))) (mw (dN (pV vt 2))))) (sw dInt)))))))
noncomputable def g__law_whole : VS :=
 (gRet (vAnd (vIsi "int" (vN 0)) (vNot (vIsi "bool" (vN 0)))))
noncomputable def m__law_whole : FnM:=fnM 1 1 g__law_whole
theorem sc__law_whole : FnScope ["_law_found"] ["_law_found"] (defScope (top 20)):=⟨rfl,rfl,rfl,by decide +kernel,rfl,by decide +kernel,by decide +kernel⟩
theorem ok__law_whole {P : Program} {w : World} {K : PySem.W.Frag} {mg : Str→Option Value} {base : Heap} {f : Addr} {fd : FuncData} (F : Fun K "_law_whole" "_law_whole" (top 20) f fd) (B : Bl mg) (KT : Kits K)  : FnOk P w K mg base CX0 1 f fd ["_law_found"] (spV K m__law_whole):=by
 have nd:=sc__law_whole.nd
 have vt:=(show (["_law_found"] : List Str).all (fun x=>visB (defScope (top 20)) x && plain x) = true by decide +kernel)
 refine fnV (k:=0) (n:=1) (nN:=1) (g:=g__law_whole) F sc__law_whole rfl rfl fun cdv A outer s H E hr=>?_
 exact (sOne (sRet (dAnd (dIsi KT.int (pe_callB cIsi (gl (sc:=(defScope (top 20))) (by decide +kernel)) B.isinstance PyProof.Rows.boot_isinstance (pa_cons (mw (dN (pV vt 0))) (pa_cons (pe_bltn (v:=.ty "int") (gl (sc:=(defScope (top 20))) (by decide +kernel)) B.int PyProof.Rows.boot_int rfl) pa_nil)))) (dOne (dNot (dIsi KT.bool (pe_callB cIsi (gl (sc:=(defScope (top 20))) (by decide +kernel)) B.isinstance PyProof.Rows.boot_isinstance (pa_cons (mw (dN (pV vt 0))) (pa_cons (pe_bltn (v:=.ty "bool") (gl (sc:=(defScope (top 20))) (by decide +kernel)) B.bool PyProof.Rows.boot_bool rfl) pa_nil)))))))))
noncomputable def g__law_words : VS :=
 (gSeq (gAs (vC (.str "abcdefghijklmnopqrstuvwxyz")) (gN 3))
 (gSeq (gAs (vCall m__law_mixed (aC (vF 0) (aC (vF 2) a0))) (gN 4))
 (gSeq (gAs (vSlS (vN 3) (oI (v2 modD (vN 4) (vC (.int 26)))) (oI (v2 addD (v2 modD (vN 4) (vC (.int 26))) (v2 modD (v2 divD (vN 4) (vC (.int 26))) (vC (.int 12)))))) (gN 5))
 (gSeq (gAs (vSlS (vN 5) oN (oI (vC (.int 11)))) (gN 5))
 (gSeq (gAs (v2 modD (v2 divD (vN 4) (vC (.int 312))) (v2 addD (vCB lenSD (aC (vN 5) a0)) (vC (.int 1)))) (gN 6))
 (gRetN (vLC (vRng1 (aC (vN 1) a0)) [none, some 5, some 3, some 6] (gN 0) cTrue (v2 catSD (v2 catSD (vSlS (vN 1) oN (oI (vN 3))) (v2 ixSD (vN 2) (vN 0))) (vSlS (vN 1) (oI (vN 3)) oN)))))))))
noncomputable def m__law_words : FnM:=fnM 3 7 g__law_words
theorem sc__law_words : FnScope ["_law_cell","_law_many","_law_k","_law_letters","_law_number","_law_base","_law_at"] ["_law_cell","_law_many","_law_k"] (defScope (top 21)):=⟨rfl,rfl,rfl,by decide +kernel,rfl,by decide +kernel,by decide +kernel⟩
theorem ok__law_words {P : Program} {w : World} {K : PySem.W.Frag} {mg : Str → Option Value} {base : Heap} {f : Addr} {fd : FuncData} (F : Fun K "_law_words" "_law_words" (top 21) f fd) (B : Bl mg) (KT : Kits K) (C_law_mixed : Cal P w K mg base 1 "_law_mixed" ["_law_cell", "_law_k"] (spV K m__law_mixed)) : FnOk P w K mg base CX0 2 f fd ["_law_cell", "_law_many", "_law_k"] (spV K m__law_words) := by
  have nd := sc__law_words.nd
  have vt := (show (["_law_cell", "_law_many", "_law_k", "_law_letters", "_law_number", "_law_base", "_law_at"] : List Str).all (fun x => visB (defScope (top 21)) x && plain x) = true by decide +kernel)
  refine fnV (k := 1) (n := 3) (nN := 7) (g := g__law_words) F sc__law_words rfl rfl fun cdv A outer s H E hr => ?_
  exact (sSeq (sAs (ps_asg (dStr (by decide +kernel)) (tgN (pg_name (i := 3) nd rfl (lo (sc := (defScope (top 21))) (by decide +kernel))))))
 (sSeq (sAs (ps_asg (dCal (peCal C_law_mixed (hr.mono (by decide)) (gl (sc := (defScope (top 21))) (by decide +kernel)) (paC (dF (pV vt 0)) (paC (dF (pV vt 2)) pa0)))) (tgN (pg_name (i := 4) nd rfl (lo (sc := (defScope (top 21))) (by decide +kernel))))))
 (sSeq (sAs (ps_asg (dSlS (mw (dN (pV vt 3))) (poI (sw (dOp oMod hMod (mw (dN (pV vt 4))) (sw dInt)))) (poI (sw (dOp oAdd hAdd (sw (dOp oMod hMod (mw (dN (pV vt 4))) (sw dInt))) (sw (dOp oMod hMod (sw (dOp oDiv hDiv (mw (dN (pV vt 4))) (sw dInt))) (sw dInt))))))) (tgN (pg_name (i := 5) nd rfl (lo (sc := (defScope (top 21))) (by decide +kernel))))))
 (sSeq (sAs (ps_asg (dSlS (mw (dN (pV vt 5))) poN (poI (sw dInt))) (tgN (pg_name (i := 5) nd rfl (lo (sc := (defScope (top 21))) (by decide +kernel))))))
 (sSeq (sAs (ps_asg (dOp oMod hMod (sw (dOp oDiv hDiv (mw (dN (pV vt 4))) (sw dInt))) (sw (dOp oAdd hAdd (sw (dCB (pe_callB call_len_str (gl (sc := (defScope (top 21))) (by decide +kernel)) B.len PySem.boot_len (pwC (mw (dN (pV vt 5))) pw0)) hLenS)) (sw dInt)))) (tgN (pg_name (i := 6) nd rfl (lo (sc := (defScope (top 21))) (by decide +kernel))))))
 (sOne (sRetN (dLC (pe_lc (te := tV K RS _) (tc := tVT K _) (g := tVG K _ _) (N' := ["_law_j", "_law_base", "_law_letters", "_law_at"]) (cap := [none, some 5, some 3, some 6]) ["_law_cell", "_law_many", "_law_k", "_law_letters", "_law_number", "_law_base", "_law_at"] (defScope (top 21)) rfl (by decide +kernel) rfl rfl (itR1 (pi_range1 (gl (sc := (defScope (top 21))) (by decide +kernel)) B.range (pwC (mw (dN (pV vt 1))) pw0))) (fun _ _ _ _ _ => (tgN (pgC (i := 0) (show (["_law_j", "_law_base", "_law_letters", "_law_at"] : List Str).Nodup by decide +kernel) (by decide +kernel)))) (fun _ _ _ _ _ => ifN) (fun _ _ _ _ _ => (dOp op_add_str hCatS (sw (dOp op_add_str hCatS (sw (dSlS (mw (dN (pVc (by decide +kernel) 1))) poN (poI (mw (dN (pVc (by decide +kernel) 3)))))) (sw (dIxS (mw (dN (pVc (by decide +kernel) 2))) (mw (dN (pVc (by decide +kernel) 0))))))) (sw (dSlS (mw (dN (pVc (by decide +kernel) 1))) (poI (mw (dN (pVc (by decide +kernel) 3)))) poN)))))))))))))
noncomputable def g__law_length : VS :=
 (gSeq (gAs (vCall m__law_mixed (aC (vF 0) (aC (vC (.int 2)) a0))) (gN 1))
 (gSeq (gIf (vB (v2 eqD (v2 modD (vN 1) (vC (.int 6))) (vC (.int 0))))
 (gRet (v2 addD (vC (.int 1)) (v2 modD (vN 0) (v2 powD (vC (.int 10)) (vC (.int 58))))))
 gNop)
 (gRet (v2 addD (vC (.int 1)) (v2 modD (v2 divD (vN 1) (vC (.int 6))) (vC (.int 5)))))))
noncomputable def m__law_length : FnM:=fnM 1 2 g__law_length
theorem sc__law_length : FnScope ["_law_cell","_law_number"] ["_law_cell"] (defScope (top 22)):=⟨rfl,rfl,rfl,by decide +kernel,rfl,by decide +kernel,by decide +kernel⟩
theorem ok__law_length {P : Program} {w : World} {K : PySem.W.Frag} {mg : Str → Option Value} {base : Heap} {f : Addr} {fd : FuncData} (F : Fun K "_law_length" "_law_length" (top 22) f fd) (B : Bl mg) (KT : Kits K) (C_law_mixed : Cal P w K mg base 1 "_law_mixed" ["_law_cell", "_law_k"] (spV K m__law_mixed)) : FnOk P w K mg base CX0 2 f fd ["_law_cell"] (spV K m__law_length) := by
  have nd := sc__law_length.nd
  have vt := (show (["_law_cell", "_law_number"] : List Str).all (fun x => visB (defScope (top 22)) x && plain x) = true by decide +kernel)
  refine fnV (k := 1) (n := 1) (nN := 2) (g := g__law_length) F sc__law_length rfl rfl fun cdv A outer s H E hr => ?_
  exact (sSeq (sAs (ps_asg (dCal (peCal C_law_mixed (hr.mono (by decide)) (gl (sc := (defScope (top 22))) (by decide +kernel)) (paC (dF (pV vt 0)) (paC dInt pa0)))) (tgN (pg_name (i := 1) nd rfl (lo (sc := (defScope (top 22))) (by decide +kernel))))))
 (sSeq (sIf (cCmp (op_eqD hr.units) hEq (sw (dOp oMod hMod (mw (dN (pV vt 1))) (sw dInt))) (sw dInt))
 (sOne (sRet (dOp oAdd hAdd (sw dInt) (sw (dOp oMod hMod (mw (dN (pV vt 0))) (sw (dOp oPow hPow (sw dInt) (sw dInt))))))))
 sNil)
 (sOne (sRet (dOp oAdd hAdd (sw dInt) (sw (dOp oMod hMod (sw (dOp oDiv hDiv (mw (dN (pV vt 1))) (sw dInt))) (sw dInt))))))))
noncomputable def g__law_width : VS :=
 (gSeq (gAs (vCall m__law_mixed (aC (vF 0) (aC (vC (.int 1)) a0))) (gN 1))
 (gSeq (gIf (vB (v2 eqD (v2 modD (vN 1) (vC (.int 4))) (vC (.int 0))))
 (gRet (v2 addD (vC (.int 1)) (v2 modD (vN 0) (v2 powD (vC (.int 10)) (vC (.int 58))))))
 gNop)
 (gRet (v2 addD (vC (.int 1)) (v2 modD (v2 divD (vN 1) (vC (.int 4))) (vC (.int 6)))))))
noncomputable def m__law_width : FnM:=fnM 1 2 g__law_width
theorem sc__law_width : FnScope ["_law_cell","_law_number"] ["_law_cell"] (defScope (top 23)):=⟨rfl,rfl,rfl,by decide +kernel,rfl,by decide +kernel,by decide +kernel⟩
theorem ok__law_width {P : Program} {w : World} {K : PySem.W.Frag} {mg : Str → Option Value} {base : Heap} {f : Addr} {fd : FuncData} (F : Fun K "_law_width" "_law_width" (top 23) f fd) (B : Bl mg) (KT : Kits K) (C_law_mixed : Cal P w K mg base 1 "_law_mixed" ["_law_cell", "_law_k"] (spV K m__law_mixed)) : FnOk P w K mg base CX0 2 f fd ["_law_cell"] (spV K m__law_width) := by
  have nd := sc__law_width.nd
  have vt := (show (["_law_cell", "_law_number"] : List Str).all (fun x => visB (defScope (top 23)) x && plain x) = true by decide +kernel)
  refine fnV (k := 1) (n := 1) (nN := 2) (g := g__law_width) F sc__law_width rfl rfl fun cdv A outer s H E hr => ?_
  exact (sSeq (sAs (ps_asg (dCal (peCal C_law_mixed (hr.mono (by decide)) (gl (sc := (defScope (top 23))) (by decide +kernel)) (paC (dF (pV vt 0)) (paC dInt pa0)))) (tgN (pg_name (i := 1) nd rfl (lo (sc := (defScope (top 23))) (by decide +kernel))))))
 (sSeq (sIf (cCmp (op_eqD hr.units) hEq (sw (dOp oMod hMod (mw (dN (pV vt 1))) (sw dInt))) (sw dInt))
 (sOne (sRet (dOp oAdd hAdd (sw dInt) (sw (dOp oMod hMod (mw (dN (pV vt 0))) (sw (dOp oPow hPow (sw dInt) (sw dInt))))))))
 sNil)
 (sOne (sRet (dOp oAdd hAdd (sw dInt) (sw (dOp oMod hMod (sw (dOp oDiv hDiv (mw (dN (pV vt 1))) (sw dInt))) (sw dInt))))))))
noncomputable def g__law_fresh : VS :=
 (gSeq (gOwF 2 (vLC (vItems (vF 1)) [none] (gN 0) cTrue (v2 ixDt (vN 0) (vC (.int 0)))))
 (gSeq (gFor (vItems (vF 0)) (gN 3)
 (gIf (vB (v2 (inSD true) (vN 3) (vN 2)))
 (gRetO 3)
 gNop))
 (gRet (vC .none))))
noncomputable def m__law_fresh : FnM:=fnM 2 4 g__law_fresh
theorem sc__law_fresh : FnScope ["_law_words_here","_law_held","_law_names","_law_word"] ["_law_words_here","_law_held"] (defScope (top 24)):=⟨rfl,rfl,rfl,by decide +kernel,rfl,by decide +kernel,by decide +kernel⟩
theorem ok__law_fresh {P : Program} {w : World} {K : PySem.W.Frag} {mg : Str → Option Value} {base : Heap} {f : Addr} {fd : FuncData} (F : Fun K "_law_fresh" "_law_fresh" (top 24) f fd) (B : Bl mg) (KT : Kits K)  : FnOk P w K mg base CX0 1 f fd ["_law_words_here", "_law_held"] (spV K m__law_fresh) := by
  have nd := sc__law_fresh.nd
  have vt := (show (["_law_words_here", "_law_held", "_law_names", "_law_word"] : List Str).all (fun x => visB (defScope (top 24)) x && plain x) = true by decide +kernel)
  refine fnV (k := 0) (n := 2) (nN := 4) (g := g__law_fresh) F sc__law_fresh rfl rfl fun cdv A outer s H E hr => ?_
  exact (sSeq (sOwF (tAsg_imp (ps_setLC (i := 2) nd rfl (lo (sc := (defScope (top 24))) (by decide +kernel)) (te := tV K RS _) (tc := tVT K _) (g := tVG K _ _) (N' := ["_law_row"]) (cap := [none]) ["_law_words_here", "_law_held", "_law_names", "_law_word"] (defScope (top 24)) rfl (by decide +kernel) rfl rfl (itL (dF (pV vt 1))) (fun _ _ _ _ _ => (tgN (pgC (i := 0) (show (["_law_row"] : List Str).Nodup by decide +kernel) (by decide +kernel)))) (fun _ _ _ _ _ => ifN) (fun _ _ _ _ _ => (dIx (dN (pVc (by decide +kernel) 0)) (sw dInt)))) fun _ _ _ q => rdLC rfl q))
 (sSeq (sFor (ps_for PassesOwn.never rfl (itL (dF (pV vt 0))) (tgN (pg_name (i := 3) nd rfl (lo (sc := (defScope (top 24))) (by decide +kernel))))
 (sOne (sIf (cCmp op_notIn_seq hInS (mw (dN (pV vt 3))) (mw (dN (pV vt 2))))
 (sOne (sRetO (pV vt 3)))
 sNil))))
 (sOne (sRet dNone))))
noncomputable def g__law_deed : VS :=
 (gSeq (gAs (vCall m__law_mixed (aC (vF 0) (aC (vC (.int 0)) a0))) (gN 4))
 (gSeq (gAs (v2 modD (vN 4) (vC (.int 9))) (gN 5))
 (gSeq (gIf (tOr2 (vB (v2 eqD (vN 1) (vLst a0))) (tAnd2 (vB (v2 ltD (vN 5) (vC (.int 5)))) (vB (v2 ltD (vCB lenD (aC (vN 1) a0)) (vCB lenD (aC (vN 3) a0))))))
 (gSeq (gAs (v2 modD (v2 divD (vN 4) (vC (.int 9))) (vCB lenD (aC (vN 2) a0))) (gN 6))
 (gSeq (gAs (v2 modD (v2 addD (v2 addD (vN 6) (vC (.int 1))) (v2 modD (v2 divD (vN 4) (vC (.int 90))) (v2 subD (vCB lenD (aC (vN 2) a0)) (vC (.int 1))))) (vCB lenD (aC (vN 2) a0))) (gN 7))
 (gRet (vTup (aC (vC (.str "lay")) (aC (vCall m__law_fresh (aC (vF 3) (aC (vF 1) a0))) (aC (v2 ixDt (vN 2) (vN 6)) (aC (v2 ixDt (vN 2) (vN 7)) (aC (vCall m__law_width (aC (vF 0) a0)) (aC (vCall m__law_length (aC (vF 0) a0)) a0))))))))))
 gNop)
 (gSeq (gAs (v2 ixDt (vN 1) (v2 modD (v2 divD (vN 4) (vC (.int 9))) (vCB lenD (aC (vN 1) a0)))) (gN 8))
 (gSeq (gIf (vB (v2 eqD (vN 5) (vC (.int 5))))
 (gRet (vTup (aC (vC (.str "shut")) (aC (v2 ixDt (vN 8) (vC (.int 0))) a0))))
 gNop)
 (gSeq (gIf (tAnd2 (vB (v2 eqD (vN 5) (vC (.int 6)))) (vB (v2 gtD (v2 ixDt (vN 8) (vC (.int 3))) (vC (.int 1)))))
 (gRet (vTup (aC (vC (.str "narrow")) (aC (v2 ixDt (vN 8) (vC (.int 0))) (aC (v2 addD (vC (.int 1)) (v2 modD (v2 divD (vN 4) (vC (.int 90))) (vCB min2D (aC (v2 subD (v2 ixDt (vN 8) (vC (.int 3))) (vC (.int 1))) (aC (vC (.int 3)) a0))))) a0)))))
 gNop)
 (gRet (vTup (aC (vC (.str "widen")) (aC (v2 ixDt (vN 8) (vC (.int 0))) (aC (vCall m__law_width (aC (vF 0) a0)) a0)))))))))))
noncomputable def m__law_deed : FnM:=fnM 4 9 g__law_deed
theorem sc__law_deed : FnScope ["_law_cell","_law_held","_law_rooms","_law_names","_law_number","_law_way","_law_a","_law_b","_law_row"] ["_law_cell","_law_held","_law_rooms","_law_names"] (defScope (top 25)):=⟨rfl,rfl,rfl,by decide +kernel,rfl,by decide +kernel,by decide +kernel⟩
theorem ok__law_deed {P : Program} {w : World} {K : PySem.W.Frag} {mg : Str → Option Value} {base : Heap} {f : Addr} {fd : FuncData} (F : Fun K "_law_deed" "_law_deed" (top 25) f fd) (B : Bl mg) (KT : Kits K) (C_law_mixed : Cal P w K mg base 1 "_law_mixed" ["_law_cell", "_law_k"] (spV K m__law_mixed)) (C_law_width : Cal P w K mg base 2 "_law_width" ["_law_cell"] (spV K m__law_width)) (C_law_fresh : Cal P w K mg base 1 "_law_fresh" ["_law_words_here", "_law_held"] (spV K m__law_fresh)) (C_law_length : Cal P w K mg base 2 "_law_length" ["_law_cell"] (spV K m__law_length)) : FnOk P w K mg base CX0 3 f fd ["_law_cell", "_law_held", "_law_rooms", "_law_names"] (spV K m__law_deed) := by
  have nd := sc__law_deed.nd
  have vt := (show (["_law_cell", "_law_held", "_law_rooms", "_law_names", "_law_number", "_law_way", "_law_a", "_law_b", "_law_row"] : List Str).all (fun x => visB (defScope (top 25)) x && plain x) = true by decide +kernel)
  refine fnV (k := 2) (n := 4) (nN := 9) (g := g__law_deed) F sc__law_deed rfl rfl fun cdv A outer s H E hr => ?_
  exact (sSeq (sAs (ps_asg (dCal (peCal C_law_mixed (hr.mono (by decide)) (gl (sc := (defScope (top 25))) (by decide +kernel)) (paC (dF (pV vt 0)) (paC dInt pa0)))) (tgN (pg_name (i := 4) nd rfl (lo (sc := (defScope (top 25))) (by decide +kernel))))))
 (sSeq (sAs (ps_asg (dOp oMod hMod (mw (dN (pV vt 4))) (sw dInt)) (tgN (pg_name (i := 5) nd rfl (lo (sc := (defScope (top 25))) (by decide +kernel))))))
 (sSeq (sIf (PW.pt (wOr (cCmp (op_eqD hr.units) hEq (mw (dN (pV vt 1))) (nw (dLst pa0))) (wOr1 (PW.pt (wAnd (cCmp oLt hLt (mw (dN (pV vt 5))) (sw dInt)) (wAnd1 (cCmp oLt hLt (sw (dCB (pe_callB cLen (gl (sc := (defScope (top 25))) (by decide +kernel)) B.len PySem.boot_len (pwC (mw (dN (pV vt 1))) pw0)) hLen)) (sw (dCB (pe_callB cLen (gl (sc := (defScope (top 25))) (by decide +kernel)) B.len PySem.boot_len (pwC (mw (dN (pV vt 3))) pw0)) hLen)))))))))
 (sSeq (sAs (ps_asg (dOp oMod hMod (sw (dOp oDiv hDiv (mw (dN (pV vt 4))) (sw dInt))) (sw (dCB (pe_callB cLen (gl (sc := (defScope (top 25))) (by decide +kernel)) B.len PySem.boot_len (pwC (mw (dN (pV vt 2))) pw0)) hLen))) (tgN (pg_name (i := 6) nd rfl (lo (sc := (defScope (top 25))) (by decide +kernel))))))
 (sSeq (sAs (ps_asg (dOp oMod hMod (sw (dOp oAdd hAdd (sw (dOp oAdd hAdd (mw (dN (pV vt 6))) (sw dInt))) (sw (dOp oMod hMod (sw (dOp oDiv hDiv (mw (dN (pV vt 4))) (sw dInt))) (sw (dOp oSub hSub (sw (dCB (pe_callB cLen (gl (sc := (defScope (top 25))) (by decide +kernel)) B.len PySem.boot_len (pwC (mw (dN (pV vt 2))) pw0)) hLen)) (sw dInt))))))) (sw (dCB (pe_callB cLen (gl (sc := (defScope (top 25))) (by decide +kernel)) B.len PySem.boot_len (pwC (mw (dN (pV vt 2))) pw0)) hLen))) (tgN (pg_name (i := 7) nd rfl (lo (sc := (defScope (top 25))) (by decide +kernel))))))
 (sOne (sRet (dTup (paC (dStr (by decide +kernel)) (paC (dCal (peCal C_law_fresh (hr.mono (by decide)) (gl (sc := (defScope (top 25))) (by decide +kernel)) (paC (dF (pV vt 3)) (paC (dF (pV vt 1)) pa0)))) (paC (dIx (dN (pV vt 2)) (mw (dN (pV vt 6)))) (paC (dIx (dN (pV vt 2)) (mw (dN (pV vt 7)))) (paC (dCal (peCal C_law_width (hr.mono (by decide)) (gl (sc := (defScope (top 25))) (by decide +kernel)) (paC (dF (pV vt 0)) pa0))) (paC (dCal (peCal C_law_length (hr.mono (by decide)) (gl (sc := (defScope (top 25))) (by decide +kernel)) (paC (dF (pV vt 0)) pa0))) pa0)))))))))))
 sNil)
 (sSeq (sAs (ps_asg (dIx (dN (pV vt 1)) (sw (dOp oMod hMod (sw (dOp oDiv hDiv (mw (dN (pV vt 4))) (sw dInt))) (sw (dCB (pe_callB cLen (gl (sc := (defScope (top 25))) (by decide +kernel)) B.len PySem.boot_len (pwC (mw (dN (pV vt 1))) pw0)) hLen))))) (tgN (pg_name (i := 8) nd rfl (lo (sc := (defScope (top 25))) (by decide +kernel))))))
 (sSeq (sIf (cCmp (op_eqD hr.units) hEq (mw (dN (pV vt 5))) (sw dInt))
 (sOne (sRet (dTup (paC (dStr (by decide +kernel)) (paC (dIx (dN (pV vt 8)) (sw dInt)) pa0)))))
 sNil)
 (sSeq (sIf (PW.pt (wAnd (cCmp (op_eqD hr.units) hEq (mw (dN (pV vt 5))) (sw dInt)) (wAnd1 (cCmp oGt hGt (sw (dIx (dN (pV vt 8)) (sw dInt))) (sw dInt)))))
 (sOne (sRet (dTup (paC (dStr (by decide +kernel)) (paC (dIx (dN (pV vt 8)) (sw dInt)) (paC (dOp oAdd hAdd (sw dInt) (sw (dOp oMod hMod (sw (dOp oDiv hDiv (mw (dN (pV vt 4))) (sw dInt))) (sw (dCB (pe_callB (call_min2 rfl) (gl (sc := (defScope (top 25))) (by decide +kernel)) B.min PyProof.Rows.boot_min (pwC (sw (dOp oSub hSub (sw (dIx (dN (pV vt 8)) (sw dInt))) (sw dInt))) (pwC (sw dInt) pw0))) hMin2))))) pa0))))))
 sNil)
 (sOne (sRet (dTup (paC (dStr (by decide +kernel)) (paC (dIx (dN (pV vt 8)) (sw dInt)) (paC (dCal (peCal C_law_width (hr.mono (by decide)) (gl (sc := (defScope (top 25))) (by decide +kernel)) (paC (dF (pV vt 0)) pa0))) pa0))))))))))))
end K61
namespace K61
open PySem PySem.Spec PyProof.Rows L2 VM
set_option maxHeartbeats 4000000
noncomputable def lcSc : Stmt→Scope
 | .Assign _ (.ListComp _ _ sc _) _=>sc
 | _=>defScope (.Pass ⟨0,0,0,0⟩)
noncomputable def NameOk (nm : Str) : Prop:=m_look_at_name [.str nm] = some (false,.none)∧(PyData.str nm).canLay0 = true
noncomputable def addF (nums : List (Str × Int)) (rs : List Str) : List (Str × Int):=rs.foldl (fun n r=>putP r (n.length : Int) n) nums
noncomputable def newOf (nums : List (Str × Int)) (rs : List Str) : List Str:=rs.filter fun r=>(getP r nums).isNone
theorem putP_len {α : Type} (nm : Str) (v : α) (l : List (Str × α)) : (putP nm v l).length≤l.length + 1:=by
 unfold putP
 split
 ·rw [List.length_map]; omega
 ·rw [List.length_append]; simp
theorem addF_len (rs : List Str) : ∀ nums,(addF nums rs).length≤nums.length + rs.length:=by
 induction rs with
 | nil=>intro nums; exact Nat.le_refl _
 | cons r rs ih =>
  intro nums
  have h1:=ih (putP r (nums.length : Int) nums)
  have h2:=putP_len r (nums.length : Int) nums
  show (addF (putP r (nums.length : Int) nums) rs).length≤_
  rw [List.length_cons]; omega
theorem lcF {K : PySem.W.Frag} {a : Addr} {xs : List V} {cap : List (Option Nat)} {tc : TT} {te : TE} {σ : L2.St} {H1 : Hp} {Q : VK} (keep : V→Bool) (hq : SqT K H1 a xs) (hz : xs.length < sizeLine)
  (hc : ∀ x∈xs,∀ D ys (R : Bool→Hp→Prop),H1 D = none→R (keep x) (upd H1 D (.lst ys))→tc ((capSt cap σ).set 0 (some x)) (upd H1 D (.lst ys)) R)
  (hk : ∀ x,CapK (capSt cap σ) ((capSt cap σ).set 0 (some x))) (he : ∀ (x : V) (H : Hp) (R : VK),R x H→te ((capSt cap σ).set 0 (some x)) H R)
  (hQ : ∀ D,H1 D = none→Q (.ref D) (upd H1 D (.lst (xs.filter keep)))) : lcRd (Itt K a) cap (gName 0) tc te σ H1 Q:=by
 intro D hD
 refine ⟨fun i m H=>m = xs.length - i∧i≤xs.length∧H = upd H1 D (.lst ((xs.take i).filter keep)),⟨_,rfl,Nat.zero_le _,rfl⟩,?_⟩
 rintro i m H ⟨rfl,hi,rfl⟩
 have hqH : SqT K (upd H1 D (.lst ((xs.take i).filter keep))) a xs:=(same_upd_new hD).seqT hq
 by_cases hlt : i < xs.length
 ·refine .inr ⟨⟨xs,xs[i],hqH,by simp [hlt]⟩,fun x H' y=>?_⟩
  obtain ⟨e,y⟩:=y
  subst e
  have ex:=y xs hqH
  have etk : xs.take (i + 1) = xs.take i ++ [x]:=by rw [List.take_succ,ex]; rfl
  show CapK _ _∧_
  refine ⟨hk x,hc x (List.mem_of_getElem? ex) D _ _ hD ?_⟩
  by_cases hx : keep x = true
  ·rw [if_pos hx]
   refine he x _ _ ⟨_,upd_same,?_,xs.length - (i + 1),by omega,rfl,hlt,?_⟩
   ·have:=List.length_filter_le keep (xs.take i)
    rw [List.length_take] at this; omega
   ·rw [upd_upd,etk,List.filter_append]
    simp [hx]
  ·rw [if_neg hx]
   refine ⟨xs.length - (i + 1),by omega,rfl,hlt,?_⟩
   rw [etk,List.filter_append]
   simp [hx]
 ·have e : i = xs.length:=by omega
  subst e
  refine .inl ⟨⟨xs,hqH,Nat.le_refl _⟩,?_⟩
  rw [List.take_of_length_le (Nat.le_refl _)]
  exact hQ D hD
section
variable {P : Program} {w : World} {K : PySem.W.Frag} {mg : Str→Option Value} {base : Heap} {C : Addr}
theorem look_at {i : Nat} {σ : L2.St} {H : Hp} {nm : Str} {Q : VK} {E : XK} (e : σ[i]? = some (some (.str nm))) (h : NameOk nm) (q : ∀ v H',Same H H'→Q v H') : tCall (spV K m_look_at_name) [] E (tCons (vR i) tNil) σ H Q :=
 vR_at e ⟨H,[.str nm],Same.refl _,⟨.str nm,[],rfl,⟨rfl,h.2⟩,rfl⟩,false,.none,h.1,fun v F' H' g _=>q v H' g.hh⟩
noncomputable def spLay (C : Addr) : Sp:=fun vs H Q _=>∃ p dx nn ll nums ls nm a b wd len ia ib,vs = [.ref p,.str nm,.str a,.str b,.int wd,.int len]∧Hall H C p dx nn ll nums ls∧NameOk nm∧NameOk a∧NameOk b∧getP nm ls = none∧a ≠ b∧1≤wd∧1≤len ∧
 ls.length < 50∧nums.length < 30∧getP a (addF nums (newOf nums [a,b])) = some ia∧getP b (addF nums (newOf nums [a,b])) = some ib ∧
 ∀ H',Hall H' C p dx nn ll (addF nums (newOf nums [a,b])) (putP nm (ia,ib,wd,len) ls)→Stay nn ll H H'→Q .non H'
theorem sc_lay : FnScope ["self","name","a","b","width","length","added","room"] ["self","name","a","b","width","length"] (defScope (mth 1)):=⟨rfl,rfl,rfl,by decide +kernel,rfl,by decide +kernel,by decide +kernel⟩
theorem ok_lay {f : Addr} {fd : FuncData} (F : Fun K "lay" "NamedHall.lay" (mth 1) f fd) (B : Bl mg) (c : Cl K C) (Cl0 : Cal P w K mg base 1 "look_at_name" ["name"] (spV K m_look_at_name)) {t60 t40 : Tok} (g60 : mg "MOST_PASSAGES" = some (.int 60 t60)) (g40 : mg "MOST_ROOMS" = some (.int 40 t40)) :
  FnOk P w K mg base CX0 2 f fd ["self","name","a","b","width","length"] (spLay C):=by
 have nd:=sc_lay.nd
 have vt:=(show (["self","name","a","b","width","length","added","room"] : List Str).all (fun x=>visB (defScope (mth 1)) x && plain x) = true by decide +kernel)
 refine Fun.ok (k:=1) F sc_lay (fun vs H Q E h=>by obtain ⟨_,_,_,_,_,_,_,_,_,_,_,_,_,rfl,_⟩:=h; rfl) fun cdv A outer s H vs Q E hr hsp=>?_
 obtain ⟨p,dx,nn,ll,nums,ls,nm,a,b,wd,len,ia,ib,rfl,hh,n1,n2,n3,hg,hab,hw,hl1,hn1,hn2,ga,gb,hq⟩:=hsp
 have vc:=(show (["room","self"] : List Str).all (fun x=>visC (lcSc ((defBody (mth 1)).getD 5 (.Pass ⟨0,0,0,0⟩))) x && plain x) = true by decide +kernel)
 refine ⟨_,pss_cons (ps_expr (peCal Cl0 hr (gl (sc:=defScope (mth 1)) (by decide +kernel)) (pa_cons (pV vt 1) pa_nil)))
  (pss_cons (ps_expr (peCal Cl0 hr (gl (sc:=defScope (mth 1)) (by decide +kernel)) (pa_cons (pV vt 2) pa_nil)))
  (pss_cons (ps_expr (peCal Cl0 hr (gl (sc:=defScope (mth 1)) (by decide +kernel)) (pa_cons (pV vt 3) pa_nil)))
  (pss_cons (ps_if (pt_cmp (pc_din (hu_of hr) (pV vt 1) (pe_fld (pV vt 0) rfl))) (pss_one ps_never) pss_nil)
  (pss_cons (ps_if (PW.pt (pw_or (ptC op_eq (pV vt 2) (pV vt 3)) (pw_or (ptC oLt (pV vt 4) pe_int) (pw_or1 (ptC oLt (pV vt 5) pe_int))))) (pss_one ps_never) pss_nil)
  (pss_cons (ps_setLC (tc:=tB (tDNotIn (vR 0) (tFld K (vR 1) "numbers"))) (te:=vR 0) (i:=6) nd rfl (lo (sc:=defScope (mth 1)) (by decide +kernel)) (N':=["room","self"]) (cap:=[none,some 0]) ["self","name","a","b","width","length","added","room"] (defScope (mth 1)) rfl (by decide +kernel) rfl rfl
   (pi_tup (pe_tup (pa_cons (pV vt 2) (pa_cons (pV vt 3) pa_nil)))) (fun _ _ _ _ _=>pgC (i:=0) (show (["room","self"] : List Str).Nodup by decide +kernel) (by decide +kernel)) (fun _ _ _ _ _=>pif_one (pt_cmp (pc_dnotin (hu_of hr) (pVc vc 0) (pe_fld (pVc vc 1) (by rfl))))) (fun _ _ _ _ _=>pVc vc 0))
  (pss_cons (ps_if (PW.pt (pw_or (ptC oGt (pe_op oAdd (pe_callB cLenD (gl (sc:=defScope (mth 1)) (by decide +kernel)) B.len PySem.boot_len (pa_cons (pe_fld (pV vt 0) rfl) pa_nil)) pe_int) (pe_glob (v:=.int 60) (gl (sc:=defScope (mth 1)) (by decide +kernel)) g60 ⟨_,rfl⟩))
   (pw_or1 (ptC oGt (pe_op oAdd (pe_callB cLenD (gl (sc:=defScope (mth 1)) (by decide +kernel)) B.len PySem.boot_len (pa_cons (pe_fld (pV vt 0) rfl) pa_nil)) (pe_callB cLen (gl (sc:=defScope (mth 1)) (by decide +kernel)) B.len PySem.boot_len (pa_cons (pV vt 6) pa_nil))) (pe_glob (v:=.int 40) (gl (sc:=defScope (mth 1)) (by decide +kernel)) g40 ⟨_,rfl⟩))))) (pss_one ps_never) pss_nil)
  (pss_cons (ps_for PassesOwn.never rfl (pi_list (pV vt 6)) (pg_name (i:=7) nd rfl (lo (sc:=defScope (mth 1)) (by decide +kernel))) (pss_one (ps_dput (hu_of hr) (pe_fld (pV vt 0) rfl) (pV vt 7) (pe_callB cLenD (gl (sc:=defScope (mth 1)) (by decide +kernel)) B.len PySem.boot_len (pa_cons (pe_fld (pV vt 0) rfl) pa_nil)) rfl)))
  (pss_one (ps_dput (hu_of hr) (pe_fld (pV vt 0) rfl) (pV vt 1) (pe_tup (pa_cons (pe_dget (hu_of hr) (pe_fld (pV vt 0) rfl) (pV vt 2) (fun _ _=>rfl)) (pa_cons (pe_dget (hu_of hr) (pe_fld (pV vt 0) rfl) (pV vt 3) (fun _ _=>rfl)) (pa_cons (pV vt 4) (pa_cons (pV vt 5) pa_nil))))) rfl))))))))),?_⟩
 unfold tSeq tDrop
 refine look_at rfl n1 fun _ H1 s1=>?_
 try dsimp only
 refine look_at rfl n2 fun _ H2 s2=>?_
 refine look_at rfl n3 fun _ H3 s3=>?_
 have s123:=(s1.trans s2).trans s3
 have hh3:=hh.grow s123
 obtain ⟨kvs,hk,hl⟩:=hh3.laid
 have g:=ld_get nm hl
 rw [hg] at g
 have hkl:=hl.length
 try dsimp only
 unfold tIfS tB tDIn
 refine vR_at (v:=.str nm) rfl (fld_at (p:=p) rfl hh3.ins c.cl c.n2 rfl ⟨ll,_,rfl,DGet.k (k:=.inr nm) hk,_,rfl,?_⟩)
 rw [g]
 show (if (none : Option V).isSome = true then _ else _)
 rw [if_neg (by simp)]
 unfold tNext tOr tTM
 try dsimp only
 refine vR_at (v:=.str a) rfl (vR_at (v:=.str b) rfl ⟨rfl,?_⟩)
 show (if decide (V.str a = V.str b) = true then _ else _)
 rw [if_neg (by simp [hab])]
 rw [K61.op1]
 refine vR_at (v:=.int wd) rfl ?_
 show (if decide (wd < 1) = true then _ else _)
 rw [if_neg (by simp; omega)]
 rw [K61.op1]
 refine vR_at (v:=.int len) rfl ?_
 show (if decide (len < 1) = true then _ else _)
 rw [if_neg (by simp; omega)]
 unfold tAsg tLC iTup tTup tCons
 try dsimp only
 refine vR_at (v:=.str a) rfl (vR_at (v:=.str b) rfl ⟨by show 2≤sizeLine; decide,fun t ht=>⟨t,rfl,⟨_,SqT.of upd_same⟩,?_⟩⟩)
 have s4:=same_upd_new (o:=.tup [.str a,.str b]) ht
 have hh4:=hh3.grow s4
 refine lcF (fun x=>match x with | .str r=>(getP r nums).isNone | _=>false) (SqT.of upd_same) (by show 2 < sizeLine; decide) ?_ (fun x=>CapK.set CapK.refl rfl) (fun x Hx R r=>vR_at rfl r) ?_
 ·intro x hx D ys R hD r
  have sD:=same_upd_new (o:=.lst ys) hD
  obtain ⟨rm,rfl⟩ : ∃ rm,x = .str rm:=by
   rcases List.mem_cons.mp hx with rfl | hx
   ·exact ⟨_,rfl⟩
   ·rw [List.mem_singleton.mp hx]; exact ⟨_,rfl⟩
  refine vR_at (v:=.str rm) rfl (fld_at (p:=p) rfl ((hh4.grow sD).ins) c.cl c.n1 rfl ⟨nn,_,rfl,DGet.k (k:=.inr rm) ((hh4.grow sD).num),_,rfl,?_⟩)
  rw [num_get]
  have e : (!(Option.map V.int (getP rm nums)).isSome) = (getP rm nums).isNone:=by cases getP rm nums <;> rfl
  rw [e]
  exact r
 intro D hD
 have eN : List.filter (fun x=>match x with | .str r=>(getP r nums).isNone | _=>false) [V.str a,V.str b] = (newOf nums [a,b]).map V.str:=by
  unfold newOf
  rw [show [V.str a,V.str b] = [a,b].map V.str from rfl,List.filter_map]
  rfl
 rw [eN]
 have s5:=same_upd_new (o:=.lst ((newOf nums [a,b]).map V.str)) hD
 have hh5:=hh4.grow s5
 have hk5:=s5 _ _ (s4 _ _ hk)
 have hD5 : upd (upd H3 t (.tup [.str a,.str b])) D (.lst ((newOf nums [a,b]).map V.str)) D = some (.lst ((newOf nums [a,b]).map V.str)):=upd_same
 have hl5 : Paired (LdE (upd (upd H3 t (.tup [.str a,.str b])) D (.lst ((newOf nums [a,b]).map V.str)))) kvs ls:=hl.mono fun _ _ z=>z.same fun u xs e=>s5 _ _ (s4 _ _ e)
 have s35:=s4.trans s5
 generalize upd (upd H3 t (.tup [.str a,.str b])) D (.lst ((newOf nums [a,b]).map V.str)) = H5 at hh5 hk5 hD5 hl5 s35 ⊢
 have nl : (newOf nums [a,b]).length≤2:=List.length_filter_le _ _
 generalize hN : newOf nums [a,b] = nw at *
 dsimp only [gName]
 rw [K61.op1,K61.op1]
 unfold tCB
 refine fld_at (p:=p) rfl hh5.ins c.cl c.n2 rfl ⟨ll,kvs,rfl,hk5,?_⟩
 show (if decide ((60 : Int) < (kvs.length : Int) + 1) = true then _ else _)
 rw [if_neg (by simp; omega)]
 rw [K61.op1]
 unfold tOp
 refine fld_at (p:=p) rfl hh5.ins c.cl c.n1 rfl ⟨nn,_,rfl,hh5.num,vR_at (v:=.ref D) rfl ⟨nw.map V.str,.inl (SqL.of hD5),?_⟩⟩
 show (if decide ((40 : Int) < ((nums.map numE).length : Int) + ((nw.map V.str).length : Int)) = true then _ else _)
 rw [if_neg (by rw [List.length_map,List.length_map]; simp; omega)]
 try dsimp only
 rw [tFor_eq]
 unfold iList
 refine vR_at (v:=.ref D) rfl ⟨D,rfl,⟨_,SqL.of hD5⟩,?_⟩
 refine forL (xs:=nw.map V.str) (fun i σ' H'=>(∃ y,σ' = [some (.ref p),some (.str nm),some (.str a),some (.str b),some (.int wd),some (.int len),some (.ref D),y])∧Hall H' C p dx nn ll (addF nums (nw.take i)) ls∧H' D = some (.lst (nw.map V.str))∧Stay nn ll H5 H') ⟨⟨_,rfl⟩,hh5,hD5,Stay.same (Same.refl _)⟩ (fun _ _ _ _ h=>SqL.of h.2.2.1) ?_ ?_
 ·rintro i x σ' H' hx ⟨⟨y,rfl⟩,i1,i2,i3⟩
  rw [List.getElem?_map] at hx
  obtain ⟨rm,er,rfl⟩:=Option.map_eq_some_iff.mp hx
  unfold gName sDPut
  show tFld K (vR 0) "numbers" [some (.ref p),some (.str nm),some (.str a),some (.str b),some (.int wd),some (.int len),some (.ref D),some (.str rm)] H' _
  refine fld_at (p:=p) rfl i1.ins c.cl c.n1 rfl ⟨nn,_,rfl,i1.num,fld_at (p:=p) rfl i1.ins c.cl c.n1 rfl (vR_at (v:=.str rm) rfl ⟨nn,_,rfl,DPut.k (k:=.inr rm) i1.num (size_big ?_),?_⟩)⟩
  ·have:=addF_len (nw.take i) nums
   have : (nw.take i).length≤nw.length:=by rw [List.length_take]; omega
   rw [List.length_map]; omega
  rw [List.length_map,num_put]
  have e : putP rm ((addF nums (nw.take i)).length : Int) (addF nums (nw.take i)) = addF nums (nw.take (i + 1)):=by
   rw [List.take_succ,er]
   unfold addF
   rw [List.foldl_append]
   rfl
  rw [e]
  refine ⟨⟨_,rfl⟩,i1.num',?_,i3.trans Stay.num⟩
  rw [upd_ne fun z=>by have:=i1.num; rw [← z,i2] at this; cases this]; exact i2
 ·rintro σ' H' ⟨⟨y,rfl⟩,i1,i2,i3⟩
  rw [List.length_map,List.take_of_length_le (Nat.le_refl _)] at i1
  obtain ⟨kv2,hk2,hl2⟩:=i1.laid
  have hkl2:=hl2.length
  dsimp only
  unfold sDPut tDGet
  refine fld_at (p:=p) rfl i1.ins c.cl c.n1 rfl (vR_at (v:=.str a) rfl ⟨nn,.int ia,rfl,?_,?_⟩)
  ·have:=DGet.k (k:=.inr a) i1.num
   rw [num_get,ga] at this
   exact this
  refine fld_at (p:=p) rfl i1.ins c.cl c.n1 rfl (vR_at (v:=.str b) rfl ⟨nn,.int ib,rfl,?_,?_⟩)
  ·have:=DGet.k (k:=.inr b) i1.num
   rw [num_get,gb] at this
   exact this
  refine vR_at (v:=.int wd) rfl (vR_at (v:=.int len) rfl ⟨by show 4≤sizeLine; decide,fun t' ht'=>?_⟩)
  have s6:=same_upd_new (o:=.tup [.int ia,.int ib,.int wd,.int len]) ht'
  have hh6:=i1.grow s6
  have hk6:=s6 _ _ hk2
  refine fld_at (p:=p) rfl hh6.ins c.cl c.n2 rfl (vR_at (v:=.str nm) rfl ⟨ll,_,rfl,DPut.k (k:=.inr nm) hk6 (size_big (by omega)),?_⟩)
  refine hq _ (hh6.put hk6 (ld_put (q:=(ia,ib,wd,len)) upd_same (hl2.mono fun _ _ z=>z.same fun u xs e=>s6 _ _ e))) ?_
  exact ((((Stay.same s123).trans (Stay.same s35)).trans i3).trans (Stay.same s6)).trans (Stay.put hk6)
end
end K61
namespace K61
open PySem PySem.Spec PyProof.Rows L2 VM
set_option maxHeartbeats 4000000
section
variable {P : Program} {w : World} {K : PySem.W.Frag} {mg : Str→Option Value} {base : Heap} {C : Addr}
noncomputable def spInit (C : Addr) : Sp:=fun vs H Q _=>∃ x dx a b,vs = [.ref x,.str a,.str b]∧H x = some (.ins C dx [])∧NameOk a∧NameOk b∧a ≠ b ∧
 ∀ H' nn ll,Hall H' C x dx nn ll [(a,0),(b,1)] []→(∀ c o,c ≠ x→H c = some o→H' c = some o)→H nn = none→H ll = none→Q .non H'
theorem sc_init : FnScope ["self","start","goal"] ["self","start","goal"] (defScope (mth 0)):=⟨rfl,rfl,rfl,by decide +kernel,rfl,by decide +kernel,by decide +kernel⟩
theorem ok_init {f : Addr} {fd : FuncData} (F : Fun K "__init__" "NamedHall.__init__" (mth 0) f fd) (c : Cl K C) (Cl0 : Cal P w K mg base 1 "look_at_name" ["name"] (spV K m_look_at_name)) {t0 t1 : Tok} (g0 : mg "START" = some (.int 0 t0)) (g1 : mg "GOAL" = some (.int 1 t1)) :
  FnOk P w K mg base CX0 2 f fd ["self","start","goal"] (spInit C):=by
 have vt:=(show (["self","start","goal"] : List Str).all (fun x=>visB (defScope (mth 0)) x && plain x) = true by decide +kernel)
 refine Fun.ok (k:=1) F sc_init (fun vs H Q E h=>by obtain ⟨_,_,_,_,rfl,_⟩:=h; rfl) fun cdv A outer s H vs Q E hr hsp=>?_
 obtain ⟨x,dx,a,b,rfl,hx,n1,n2,hab,hq⟩:=hsp
 refine ⟨_,pss_cons (ps_expr (peCal Cl0 hr (gl (sc:=defScope (mth 0)) (by decide +kernel)) (pa_cons (pV vt 1) pa_nil)))
  (pss_cons (ps_expr (peCal Cl0 hr (gl (sc:=defScope (mth 0)) (by decide +kernel)) (pa_cons (pV vt 2) pa_nil)))
  (pss_cons (ps_if (ptC op_eq (pV vt 1) (pV vt 2)) (pss_one ps_never) pss_nil)
  (pss_cons (ps_fld (pV vt 0) (pe_disp (pps_cons (pV vt 1) (pe_glob (v:=.int 0) (gl (sc:=defScope (mth 0)) (by decide +kernel)) g0 ⟨_,rfl⟩) (pps_cons (pV vt 2) (pe_glob (v:=.int 1) (gl (sc:=defScope (mth 0)) (by decide +kernel)) g1 ⟨_,rfl⟩) pps_nil)) rfl rfl (by simp) (by decide)) rfl)
  (pss_one (ps_fld (pV vt 0) pe_dnewK rfl))))),?_⟩
 unfold tSeq tDrop
 refine look_at rfl n1 fun _ H1 s1=>?_
 try dsimp only
 refine look_at rfl n2 fun _ H2 s2=>?_
 have s12:=s1.trans s2
 have hx2:=s12 _ _ hx
 try dsimp only
 unfold tIfS tTM
 refine vR_at (v:=.str a) rfl (vR_at (v:=.str b) rfl ⟨rfl,?_⟩)
 show (if decide (V.str a = V.str b) = true then _ else _)
 rw [if_neg (by simp [hab])]
 unfold tNext
 try dsimp only
 unfold sFld tDisp
 intro d hd
 have hxd : x ≠ d:=ne_of_none hx2 hd
 unfold tPairs tPairs tPairs tC
 refine vR_at (v:=.str a) rfl (vR_at (v:=.str b) rfl ⟨upd_same,[(.inr a,.int 0),(.inr b,.int 1)],rfl,by simp,?_⟩)
 rw [upd_upd]
 have eM : mergeK [] [((Sum.inr a : Key),V.int 0),(.inr b,.int 1)] = ([(a,0),(b,1)] : List (Str × Int)).map numE:=by
  have : ¬ (Sum.inr a : Key) = Sum.inr b:=fun z=>hab (Sum.inr.inj z)
  unfold mergeK
  rw [List.foldl_cons,List.foldl_cons,List.foldl_nil]
  unfold putK
  simp [this,numE]
 rw [eM]
 refine vR_at (v:=.ref x) rfl ⟨x,C,dx,[],rfl,by rw [upd_ne hxd]; exact hx2,c.cl,c.n1,by decide,?_⟩
 intro e he
 have hxe : x ≠ e:=fun z=>by subst z; rw [upd_same] at he; cases he
 have hde : d ≠ e:=fun z=>by subst z; rw [upd_ne hxd.symm,upd_same] at he; cases he
 refine vR_at (v:=.ref x) rfl ⟨x,C,dx,_,rfl,by rw [upd_ne hxe,upd_same],c.cl,c.n2,by show 1 < 1000; decide,?_⟩
 have he2 : H2 e = none:=by
  rw [upd_ne hxe.symm,upd_ne hde.symm] at he; exact he
 refine hq _ d e ⟨?_,?_,⟨[],?_,.nil⟩,hde⟩ (fun c o hc e1=>?_) (s12.free hd) (s12.free he2)
 ·rw [upd_same]; rfl
 ·rw [upd_ne hxd.symm,upd_ne hde,upd_ne hxd.symm,upd_same]
 ·rw [upd_ne hxe.symm,upd_same]
 ·have e2:=s12 _ _ e1
  have z1 : c ≠ e:=fun z=>by subst z; rw [he2] at e2; cases e2
  have z2 : c ≠ d:=fun z=>by subst z; rw [hd] at e2; cases e2
  rw [upd_ne hc,upd_ne z1,upd_ne hc,upd_ne z2]
  exact e2
end
end K61
namespace K61
open PySem PySem.Spec PyProof.Rows L2 VM
set_option maxHeartbeats 4000000
inductive Deed where
 | lay (nm a b : Str) (w l : Int)
 | shut (nm : Str)
 | widen (nm : Str) (k : Int)
 | narrow (nm : Str) (k : Int)
noncomputable def Deed.vals : Deed→List V
 | .lay nm a b w l=>[.str "lay",.str nm,.str a,.str b,.int w,.int l]
 | .shut nm=>[.str "shut",.str nm]
 | .widen nm k=>[.str "widen",.str nm,.int k]
 | .narrow nm k=>[.str "narrow",.str nm,.int k]
noncomputable def Deed.nm : Deed→Str
 | .lay nm _ _ _ _=>nm
 | .shut nm=>nm
 | .widen nm _=>nm
 | .narrow nm _=>nm
noncomputable def Deed.word : Deed→Str
 | .lay _ _ _ _ _=>"lay"
 | .shut _=>"shut"
 | .widen _ _=>"widen"
 | .narrow _ _=>"narrow"
theorem Deed.at0 (d : Deed) : atI d.vals 0 = some (.str d.word):=by cases d <;> rfl
theorem Deed.at1 (d : Deed) : atI d.vals 1 = some (.str d.nm):=by cases d <;> rfl
theorem ixT_at {K : PySem.W.Frag} {i : Nat} {j : Int} {σ : L2.St} {H : Hp} {Q : VK} {t : Addr} {xs : List V} {v : V} (e : σ[i]? = some (some (.ref t))) (h : SqT K H t xs) (a : atI xs j = some v) (q : Q v H) : tOp (rIxTM K) (vR i) (tC (.int j)) σ H Q :=
 vR_at e ⟨xs,v,h,a,q⟩
theorem eq_at {K : PySem.W.Frag} {ta tb : TE} {σ : L2.St} {H : Hp} {Q : Bool→Hp→Prop} {x y : Str} (ha : ∀ R : VK,R (.str x) H→ta σ H R) (hb : ∀ R : VK,R (.str y) H→tb σ H R) (q : Q (decide (x = y)) H) : tTM (tOp rEq ta tb) σ H Q:=by
 unfold tTM tOp
 refine ha _ (hb _ ⟨rfl,?_⟩)
 have e : decide (V.str x = V.str y) = decide (x = y):=decide_eq_decide.mpr ⟨fun h=>V.str.inj h,fun h=>by rw [h]⟩
 rw [e]
 exact q
section
variable {P : Program} {w : World} {K : PySem.W.Frag} {mg : Str→Option Value} {base : Heap} {C : Addr}
noncomputable def Deed.sp (C : Addr) (p : Addr) : Deed→Hp→VK→XK→Prop
 | .lay nm a b w l,H,Q,E=>spLay C [.ref p,.str nm,.str a,.str b,.int w,.int l] H Q E
 | .shut nm,H,Q,E=>spShut C [.ref p,.str nm] H Q E
 | .widen nm k,H,Q,E=>spWiden C [.ref p,.str nm,.int k] H Q E
 | .narrow nm k,H,Q,E=>spNarrow C [.ref p,.str nm,.int k] H Q E
noncomputable def spDo (K : PySem.W.Frag) (C : Addr) : Sp:=fun vs H Q E=>∃ p dx nn ll t d,vs = [.ref p,.ref t]∧H p = some (.ins C dx [("numbers",.ref nn),("laid",.ref ll)])∧SqT K H t (Deed.vals d)∧d.sp C p H Q E
theorem sc_do : FnScope ["_law_hall","_law_deed_here"] ["_law_hall","_law_deed_here"] (defScope (top 26)):=⟨rfl,rfl,rfl,by decide +kernel,rfl,by decide +kernel,by decide +kernel⟩
structure Ms (P : Program) (w : World) (K : PySem.W.Frag) (mg : Str→Option Value) (base : Heap) (C : Addr) (lv : Nat) (m : Str) (ps : List Str) (sp : Sp) : Prop where
 ex : ∃ f fd,FnOk P w K mg base CX0 lv f fd ps sp∧Meth K C m f∧Binds K fd ps []
theorem ok_do {f : Addr} {fd : FuncData} (F : Fun K "_law_do" "_law_do" (top 26) f fd) (c : Cl K C) (Ml : Ms P w K mg base C 2 "lay" ["self","name","a","b","width","length"] (spLay C)) (Msh : Ms P w K mg base C 2 "shut" ["self","name"] (spShut C))
  (Mw : Ms P w K mg base C 2 "widen" ["self","name","more"] (spWiden C)) (Mn : Ms P w K mg base C 2 "narrow" ["self","name","less"] (spNarrow C)) : FnOk P w K mg base CX0 3 f fd ["_law_hall","_law_deed_here"] (spDo K C):=by
 have vt:=(show (["_law_hall","_law_deed_here"] : List Str).all (fun x=>visB (defScope (top 26)) x && plain x) = true by decide +kernel)
 obtain ⟨fl,fdl,Fl,ml,bl⟩:=Ml.ex
 obtain ⟨fs,fds,Fs,ms,bs⟩:=Msh.ex
 obtain ⟨fw,fdw,Fw,mw,bw⟩:=Mw.ex
 obtain ⟨fn,fdn,Fn',mn,bn⟩:=Mn.ex
 refine Fun.ok (k:=2) F sc_do (fun vs H Q E h=>by obtain ⟨_,_,_,_,_,_,rfl,_⟩:=h; rfl) fun cdv A outer s H vs Q E hr hsp=>?_
 obtain ⟨p,dx,nn,ll,t,d,rfl,hp,ht,hd⟩:=hsp
 refine ⟨_,pss_cons (ps_if (ptC op_eq (peIx ixT (pV vt 1) pe_int) pe_str) (pss_one (ps_ret (pe_meth (pV vt 0) c.cl ml Fl hr bl .nil pass0 (pa_cons (peIx ixT (pV vt 1) pe_int) (pa_cons (peIx ixT (pV vt 1) pe_int) (pa_cons (peIx ixT (pV vt 1) pe_int) (pa_cons (peIx ixT (pV vt 1) pe_int) (pa_cons (peIx ixT (pV vt 1) pe_int) pa_nil)))))))) pss_nil)
  (pss_cons (ps_if (ptC op_eq (peIx ixT (pV vt 1) pe_int) pe_str) (pss_one (ps_ret (pe_meth (pV vt 0) c.cl ms Fs hr bs .nil pass0 (pa_cons (peIx ixT (pV vt 1) pe_int) pa_nil)))) pss_nil)
  (pss_cons (ps_if (ptC op_eq (peIx ixT (pV vt 1) pe_int) pe_str) (pss_one (ps_ret (pe_meth (pV vt 0) c.cl mw Fw hr bw .nil pass0 (pa_cons (peIx ixT (pV vt 1) pe_int) (pa_cons (peIx ixT (pV vt 1) pe_int) pa_nil))))) pss_nil)
  (pss_one (ps_ret (pe_meth (pV vt 0) c.cl mn Fn' hr bn .nil pass0 (pa_cons (peIx ixT (pV vt 1) pe_int) (pa_cons (peIx ixT (pV vt 1) pe_int) pa_nil))))))),?_⟩
 have word : ∀ (y : Str) (R : Bool→Hp→Prop),R (decide (d.word = y)) H→tTM (tOp rEq (tOp (rIxTM K) (vR 1) (tC (.int 0))) (tC (.str y))) (L2.start ["_law_hall","_law_deed_here"] [.ref p,.ref t]) H R:=fun y R r=>eq_at (K:=K) (fun R r=>ixT_at (t:=t) rfl ht d.at0 r) (fun R r=>r) r
 unfold tSeq tIfS
 refine word _ _ ?_
 cases d with
 | lay nm a b w l =>
  rw [if_pos (show decide ((Deed.lay nm a b w l).word = "lay") = true from (by decide +kernel : decide (("lay" : Str) = "lay") = true))]
  unfold tRet tMeth tCons
  exact vR_at (v:=.ref p) rfl ⟨p,dx,_,rfl,hp,rfl,ixT_at (t:=t) rfl ht rfl (ixT_at (t:=t) rfl ht rfl (ixT_at (t:=t) rfl ht rfl (ixT_at (t:=t) rfl ht rfl (ixT_at (t:=t) rfl ht rfl hd))))⟩
 | shut nm =>
  rw [if_neg (show ¬ decide ((Deed.shut nm).word = "lay") = true from (by decide +kernel : ¬ decide (("shut" : Str) = "lay") = true))]
  unfold tNext
  dsimp only
  refine word _ _ ?_
  rw [if_pos (show decide ((Deed.shut nm).word = "shut") = true from (by decide +kernel : decide (("shut" : Str) = "shut") = true))]
  unfold tRet tMeth tCons
  exact vR_at (v:=.ref p) rfl ⟨p,dx,_,rfl,hp,rfl,ixT_at (t:=t) rfl ht rfl hd⟩
 | widen nm k =>
  rw [if_neg (show ¬ decide ((Deed.widen nm k).word = "lay") = true from (by decide +kernel : ¬ decide (("widen" : Str) = "lay") = true))]
  unfold tNext
  dsimp only
  refine word _ _ ?_
  rw [if_neg (show ¬ decide ((Deed.widen nm k).word = "shut") = true from (by decide +kernel : ¬ decide (("widen" : Str) = "shut") = true))]
  refine word _ _ ?_
  rw [if_pos (show decide ((Deed.widen nm k).word = "widen") = true from (by decide +kernel : decide (("widen" : Str) = "widen") = true))]
  unfold tRet tMeth tCons
  exact vR_at (v:=.ref p) rfl ⟨p,dx,_,rfl,hp,rfl,ixT_at (t:=t) rfl ht rfl (ixT_at (t:=t) rfl ht rfl hd)⟩
 | narrow nm k =>
  rw [if_neg (show ¬ decide ((Deed.narrow nm k).word = "lay") = true from (by decide +kernel : ¬ decide (("narrow" : Str) = "lay") = true))]
  unfold tNext
  dsimp only
  refine word _ _ ?_
  rw [if_neg (show ¬ decide ((Deed.narrow nm k).word = "shut") = true from (by decide +kernel : ¬ decide (("narrow" : Str) = "shut") = true))]
  refine word _ _ ?_
  rw [if_neg (show ¬ decide ((Deed.narrow nm k).word = "widen") = true from (by decide +kernel : ¬ decide (("narrow" : Str) = "widen") = true))]
  unfold tRet tMeth tCons
  exact vR_at (v:=.ref p) rfl ⟨p,dx,_,rfl,hp,rfl,ixT_at (t:=t) rfl ht rfl (ixT_at (t:=t) rfl ht rfl hd)⟩
end
end K61
namespace K61
open PySem PySem.Spec PyProof.Rows L2 VM
set_option maxHeartbeats 4000000
noncomputable def rowD (r : Row) : PyData:=.list [.str r.1,.str r.2.1,.str r.2.2.1,.int r.2.2.2.1,.int r.2.2.2.2]
noncomputable abbrev PR:=Addr × Row
structure Held (H : Hp) (D : Addr) (prs : List PR) : Prop where
 top : H D = some (.lst (prs.map fun x=>.ref x.1))
 row : ∀ x∈prs,H x.1 = some (.lst (rowV x.2))
 can : ∀ x∈prs,(rowD x.2).canLay0 = true
theorem Held.grow {H H' : Hp} {D : Addr} {prs : List PR} (h : Held H D prs) (k : Same H H') : Held H' D prs:=⟨k _ _ h.top,fun x hx=>k _ _ (h.row x hx),h.can⟩
noncomputable def addS (seen : List Str) (rs : List Str) : List Str:=rs.foldl (fun s r=>if (s.any fun y=>y == r) = true then s else s ++ [r]) seen
noncomputable def chgR (nm : Str) (k : Int) (r : Row) : Row:=if r.1 = nm then (r.1,r.2.1,r.2.2.1,r.2.2.2.1 + k,r.2.2.2.2) else r
noncomputable def noteR : Deed→List Row→List Row
 | .lay nm a b w l,rows=>rows ++ [(nm,a,b,w,l)]
 | .shut nm,rows=>rows.filter fun r=>!decide (r.1 = nm)
 | .widen nm k,rows=>rows.map (chgR nm k)
 | .narrow nm k,rows=>rows.map (chgR nm (-k))
noncomputable def noteS : Deed→List Str→List Str
 | .lay _ a b _ _,seen=>addS seen [a,b]
 | _,seen=>seen
theorem addS_len (rs : List Str) : ∀ seen,(addS seen rs).length≤seen.length + rs.length:=by
 induction rs with
 | nil=>intro seen; exact Nat.le_refl _
 | cons r rs ih =>
  intro seen
  have h1:=ih (if (seen.any fun y=>y == r) = true then seen else seen ++ [r])
  show (addS (if (seen.any fun y=>y == r) = true then seen else seen ++ [r]) rs).length≤_
  have : (if (seen.any fun y=>y == r) = true then seen else seen ++ [r]).length≤seen.length + 1:=by
   split
   ·omega
   ·rw [List.length_append]; simp
  rw [List.length_cons]; omega
theorem inV_strs (x : Str) (xs : List Str) : inV (.str x) (xs.map V.str) = xs.any fun y=>y == x:=by
 unfold inV
 rw [List.any_map]
 rfl
theorem has_row {K : PySem.W.Frag} {H : Hp} {a : Addr} {r : Row} (h : H a = some (.lst (rowV r))) (c : (rowD r).canLay0 = true) : Has K H (rowD r) (.ref a):=by
 simp only [rowD,PyData.canLay0,PyData.canLayAll0,Bool.and_eq_true] at c
 obtain ⟨c1,c2,c3,_⟩:=c
 refine ⟨a,rowV r,rfl,SqL.of h,?_⟩
 refine ⟨_,_,rfl,⟨rfl,by simp only [PyData.canLay0]; exact c1⟩,_,_,rfl,⟨rfl,by simp only [PyData.canLay0]; exact c2⟩,_,_,rfl,⟨rfl,by simp only [PyData.canLay0]; exact c3⟩,_,_,rfl,rfl,_,_,rfl,rfl,rfl⟩
theorem hasL_rows {K : PySem.W.Frag} {H : Hp} : ∀ {prs : List PR},(∀ x∈prs,H x.1 = some (.lst (rowV x.2)))→(∀ x∈prs,(rowD x.2).canLay0 = true)→HasL K H (prs.map fun x=>rowD x.2) (prs.map fun x=>V.ref x.1)
 | [],_,_=>rfl
 | x :: r,h,c=>⟨_,_,rfl,has_row (h x (List.mem_cons_self ..)) (c x (List.mem_cons_self ..)),hasL_rows (fun y hy=>h y (List.mem_cons_of_mem _ hy)) (fun y hy=>c y (List.mem_cons_of_mem _ hy))⟩
theorem eqv_row_ne {r s : Row} (h : r.1 ≠ s.1) : PyData.eqv (rowD r) (rowD s) = false:=by
 simp only [rowD,PyData.eqv,PyData.eqvAll]
 simp [h]
section
variable {P : Program} {w : World} {K : PySem.W.Frag} {mg : Str→Option Value} {base : Heap}
noncomputable def spNoted (K : PySem.W.Frag) : Sp:=fun vs H Q _=>∃ D sA t prs seen d,vs = [.ref D,.ref sA,.ref t]∧Held H D prs∧H sA = some (.lst (seen.map V.str))∧(D :: sA :: prs.map (·.1)).Nodup∧SqT K H t (Deed.vals d)∧prs.length < 100∧seen.length < 100 ∧
 (∀ nm a b w l,d = .lay nm a b w l→(rowD (nm,a,b,w,l)).canLay0 = true) ∧
 ∀ H' prs',Held H' D prs'→prs'.map (·.2) = noteR d (prs.map (·.2))→H' sA = some (.lst ((noteS d seen).map V.str))→(D :: sA :: prs'.map (·.1)).Nodup→(∀ b o,b ∉ D :: sA :: prs.map (·.1)→H b = some o→H' b = some o) →
  (∀ b∈prs'.map (·.1),b∈prs.map (·.1)∨H b = none)→Q .non H'
theorem sc_noted : FnScope ["_law_held","_law_seen","_law_deed_here","_law_room","_law_row"] ["_law_held","_law_seen","_law_deed_here"] (defScope (top 27)):=⟨rfl,rfl,rfl,by decide +kernel,rfl,by decide +kernel,by decide +kernel⟩
noncomputable def tAnd2 (K : PySem.W.Frag) (y : Str) : TT:=tAnd (tTM (tOp rEq (tOp (rIxLM K) (vR 4) (tC (.int 0))) (tOp (rIxTM K) (vR 2) (tC (.int 1))))) (tTM (tOp rEq (tOp (rIxTM K) (vR 2) (tC (.int 0))) (tC (.str y))))
theorem and2 {y : Str} {σ : L2.St} {H : Hp} {Q : Bool→Hp→Prop} {a t : Addr} {r : Row} {d : Deed} (e4 : σ[4]? = some (some (.ref a))) (e2 : σ[2]? = some (some (.ref t))) (ha : H a = some (.lst (rowV r))) (ht : SqT K H t d.vals)
  (q : Q (decide (r.1 = d.nm) && decide (d.word = y)) H) : tAnd2 K y σ H Q:=by
 unfold tAnd2 tAnd
 refine eq_at (K:=K) (x:=r.1) (y:=d.nm) (fun R h=>ixL_at (t:=a) e4 ha (fun R h=>h) rfl h) (fun R h=>ixT_at (t:=t) e2 ht d.at1 h) ?_
 by_cases e : r.1 = d.nm
 ·rw [decide_eq_true e,Bool.true_and] at q
  rw [if_pos (decide_eq_true e)]
  exact eq_at (K:=K) (fun R h=>ixT_at (t:=t) e2 ht d.at0 h) (fun R h=>h) q
 ·rw [decide_eq_false e,Bool.false_and] at q
  rw [if_neg (by simpa using e)]
  exact q
noncomputable def tRowB (K : PySem.W.Frag) : TS:=tSeq (tIfS (tAnd2 K "shut") (tDrop (tBM K "list" (rRemM K) (vR 0) (tCons (vR 4) tNil))) tNext)
 (tSeq (tIfS (tAnd2 K "widen") (tAsg (tOp (rM fun i j=>.int (i + j)) (tOp (rIxLM K) (vR 4) (tC (.int 3))) (tOp (rIxTM K) (vR 2) (tC (.int 2)))) (gSub (vR 4) (tC (.int 3)) rSetM)) tNext)
  (tIfS (tAnd2 K "narrow") (tAsg (tOp (rM fun i j=>.int (i - j)) (tOp (rIxLM K) (vR 4) (tC (.int 3))) (tOp (rIxTM K) (vR 2) (tC (.int 2)))) (gSub (vR 4) (tC (.int 3)) rSetM)) tNext))
theorem op2 {r : R2} {ta tb : TE} {σ : L2.St} {H : Hp} {Q : VK} : tOp r ta tb σ H Q = ta σ H fun x H1=>tb σ H1 fun y H2=>r x y H2 Q:=rfl
theorem no_word {x : Bool} {d : Deed} {y : Str} (h : decide (d.word = y) = false) : ¬ (x && decide (d.word = y)) = true:=by rw [h,Bool.and_false]; simp
theorem yes_word {r : Row} {d : Deed} {y : Str} (h : decide (d.word = y) = true) (e : r.1 = d.nm) : (decide (r.1 = d.nm) && decide (d.word = y)) = true:=by rw [h,Bool.and_true]; exact decide_eq_true e
theorem no_name {r : Row} {d : Deed} {y : Str} (e : r.1 ≠ d.nm) : ¬ (decide (r.1 = d.nm) && decide (d.word = y)) = true:=by rw [decide_eq_false e,Bool.false_and]; simp
section
variable {Dn : Ends} {σ : L2.St} {H : Hp} {a t D : Addr} {r : Row} {d : Deed}
theorem rowB_no (e4 : σ[4]? = some (some (.ref a))) (e2 : σ[2]? = some (some (.ref t))) (ha : H a = some (.lst (rowV r))) (ht : SqT K H t d.vals) (h : r.1 ≠ d.nm∨d.word = "lay") (q : Dn.nx σ H) : tRowB K Dn σ H:=by
 have z : ∀ y : Str,decide (("lay" : Str) = y) = false→¬ (decide (r.1 = d.nm) && decide (d.word = y)) = true:=fun y hy=>by
  rcases h with h | h
  ·exact no_name h
  ·exact no_word (by rw [h]; exact hy)
 unfold tRowB tSeq tIfS
 refine and2 e4 e2 ha ht ?_
 rw [if_neg (z _ (by decide +kernel))]
 unfold tNext
 dsimp only
 refine and2 e4 e2 ha ht ?_
 rw [if_neg (z _ (by decide +kernel))]
 refine and2 e4 e2 ha ht ?_
 rw [if_neg (z _ (by decide +kernel))]
 exact q
theorem set_row {nm : Str} {k : Int} {r : Row} (e : r.1 = nm) : (rowV r).set 3 (.int (r.2.2.2.1 + k)) = rowV (chgR nm k r):=by
 unfold chgR
 rw [if_pos e]
 rfl
theorem rowB_widen {nm : Str} {k : Int} (e4 : σ[4]? = some (some (.ref a))) (e2 : σ[2]? = some (some (.ref t))) (ha : H a = some (.lst (rowV r))) (ht : SqT K H t (Deed.vals (.widen nm k))) (e : r.1 = nm) (q : Dn.nx σ (upd H a (.lst (rowV (chgR nm k r))))) : tRowB K Dn σ H:=by
 have hn : ∀ xs,H a ≠ some (.tup xs):=fun xs z=>by rw [ha] at z; cases z
 have ht2 : SqT K (upd H a (.lst (rowV (chgR nm k r)))) t (Deed.vals (.widen nm k)):=by
  rcases ht with (h | ⟨o,h⟩) | h
  ·exact .inl (.inl (by rw [upd_ne fun z=>by subst z; rw [ha] at h; cases h]; exact h))
  ·exact .inl (.inr ⟨o,by rw [upd_ne fun z=>by subst z; rw [ha] at h; cases h]; exact h⟩)
  ·exact .inr h
 unfold tRowB tSeq tIfS
 refine and2 e4 e2 ha ht ?_
 rw [if_neg (no_word (show decide ((Deed.widen nm k).word = "shut") = false from (by decide +kernel : decide (("widen" : Str) = "shut") = false)))]
 unfold tNext
 dsimp only
 refine and2 e4 e2 ha ht ?_
 rw [if_pos (yes_word (show decide ((Deed.widen nm k).word = "widen") = true from (by decide +kernel : decide (("widen" : Str) = "widen") = true)) e)]
 unfold tAsg gSub
 rw [op2]
 refine ixL_at (t:=a) e4 ha (fun R h=>h) (v:=.int r.2.2.2.1) rfl ?_
 refine ixT_at (t:=t) e2 ht (v:=.int k) rfl ?_
 unfold rM
 dsimp only
 refine vR_at (v:=.ref a) e4 ⟨_,3,ha,rfl,?_⟩
 rw [set_row e]
 dsimp only
 refine and2 (r:=chgR nm k r) e4 e2 upd_same ht2 ?_
 rw [if_neg (no_word (show decide ((Deed.widen nm k).word = "narrow") = false from (by decide +kernel : decide (("widen" : Str) = "narrow") = false)))]
 exact q
theorem rowB_narrow {nm : Str} {k : Int} (e4 : σ[4]? = some (some (.ref a))) (e2 : σ[2]? = some (some (.ref t))) (ha : H a = some (.lst (rowV r))) (ht : SqT K H t (Deed.vals (.narrow nm k))) (e : r.1 = nm) (q : Dn.nx σ (upd H a (.lst (rowV (chgR nm (-k) r))))) : tRowB K Dn σ H:=by
 unfold tRowB tSeq tIfS
 refine and2 e4 e2 ha ht ?_
 rw [if_neg (no_word (show decide ((Deed.narrow nm k).word = "shut") = false from (by decide +kernel : decide (("narrow" : Str) = "shut") = false)))]
 unfold tNext
 dsimp only
 refine and2 e4 e2 ha ht ?_
 rw [if_neg (no_word (show decide ((Deed.narrow nm k).word = "widen") = false from (by decide +kernel : decide (("narrow" : Str) = "widen") = false)))]
 refine and2 e4 e2 ha ht ?_
 rw [if_pos (yes_word (show decide ((Deed.narrow nm k).word = "narrow") = true from (by decide +kernel : decide (("narrow" : Str) = "narrow") = true)) e)]
 unfold tAsg gSub
 rw [op2]
 refine ixL_at (t:=a) e4 ha (fun R h=>h) (v:=.int r.2.2.2.1) rfl ?_
 refine ixT_at (t:=t) e2 ht (v:=.int k) rfl ?_
 unfold rM
 dsimp only
 refine vR_at (v:=.ref a) e4 ⟨_,3,ha,rfl,?_⟩
 rw [Int.sub_eq_add_neg,set_row e]
 exact q
theorem rowB_shut {nm : Str} {pre post : List PR} (e0 : σ[0]? = some (some (.ref D))) (e4 : σ[4]? = some (some (.ref a))) (e2 : σ[2]? = some (some (.ref t))) (hD : H D = some (.lst ((pre ++ (a,r) :: post).map fun x=>.ref x.1))) (hrow : ∀ x∈pre ++ (a,r) :: post,H x.1 = some (.lst (rowV x.2)))
  (hcan : ∀ x∈pre ++ (a,r) :: post,(rowD x.2).canLay0 = true) (haD : a ≠ D) (hpre : ∀ x∈pre,x.2.1 ≠ nm) (ht : SqT K H t (Deed.vals (.shut nm))) (e : r.1 = nm) (q : Dn.nx σ (upd H D (.lst ((pre ++ post).map fun x=>.ref x.1)))) : tRowB K Dn σ H:=by
 have ha : H a = some (.lst (rowV r)):=hrow (a,r) (by simp)
 have ht2 : SqT K (upd H D (.lst ((pre ++ post).map fun x=>.ref x.1))) t (Deed.vals (.shut nm)):=by
  rcases ht with (h | ⟨o,h⟩) | h
  ·exact .inl (.inl (by rw [upd_ne fun z=>by subst z; rw [hD] at h; cases h]; exact h))
  ·exact .inl (.inr ⟨o,by rw [upd_ne fun z=>by subst z; rw [hD] at h; cases h]; exact h⟩)
  ·exact .inr h
 have ha2 : upd H D (.lst ((pre ++ post).map fun x=>.ref x.1)) a = some (.lst (rowV r)):=by rw [upd_ne haD]; exact ha
 unfold tRowB tSeq tIfS
 refine and2 e4 e2 ha ht ?_
 rw [if_pos (yes_word (show decide ((Deed.shut nm).word = "shut") = true from (by decide +kernel : decide (("shut" : Str) = "shut") = true)) e)]
 unfold tDrop tBM tCons tNil
 refine vR_at (v:=.ref D) e0 ⟨.inl ⟨rfl,_,SqL.of hD⟩,vR_at (v:=.ref a) e4 ⟨D,.ref a,_,_,rowD r,pre.length,rfl,rfl,hD,hasL_rows hrow hcan,has_row ha (hcan (a,r) (by simp)),?_,?_,?_,?_⟩⟩
 ·simp [rowD,PyData.depth,PyData.depthAll]
 ·simp
 ·intro m d' hm hd'
  rw [List.getElem?_map] at hd'
  obtain ⟨x,ex,rfl⟩:=Option.map_eq_some_iff.mp hd'
  by_cases hmj : m = pre.length
  ·subst hmj
   rw [List.getElem?_append_right (Nat.le_refl _),Nat.sub_self] at ex
   have ex' : (a,r) = x:=by simpa using ex
   subst ex'
   rw [decide_eq_true rfl,SeqAt.eqv_refl _ (hcan (a,r) (by simp))]
  ·rw [List.getElem?_append_left (by omega)] at ex
   rw [decide_eq_false hmj,eqv_row_ne]
   rw [e]
   exact hpre x (List.mem_of_getElem? ex)
 ·have ee : ((pre ++ (a,r) :: post).map fun x=>V.ref x.1).eraseIdx pre.length = (pre ++ post).map fun x=>V.ref x.1:=by
   rw [List.map_append,List.map_cons,List.eraseIdx_append_of_length_le (by rw [List.length_map]; exact Nat.le_refl _),List.length_map,Nat.sub_self,List.map_append]
   rfl
  rw [ee]
  unfold tNext
  dsimp only
  refine and2 e4 e2 ha2 ht2 ?_
  rw [if_neg (no_word (show decide ((Deed.shut nm).word = "widen") = false from (by decide +kernel : decide (("shut" : Str) = "widen") = false)))]
  refine and2 e4 e2 ha2 ht2 ?_
  rw [if_neg (no_word (show decide ((Deed.shut nm).word = "narrow") = false from (by decide +kernel : decide (("shut" : Str) = "narrow") = false)))]
  exact q
end
end
end K61
namespace K61
open PySem PySem.Spec PyProof.Rows L2 VM
set_option maxHeartbeats 4000000
section
variable {P : Program} {w : World} {K : PySem.W.Frag} {mg : Str→Option Value} {base : Heap}
noncomputable def noteR2 : Deed→List Row→List Row
 | .lay _ _ _ _ _,rows=>rows
 | .shut nm,rows=>rows.filter fun r=>!decide (r.1 = nm)
 | .widen nm k,rows=>rows.map (chgR nm k)
 | .narrow nm k,rows=>rows.map (chgR nm (-k))
theorem SqT.off {H H' : Hp} {t : Addr} {xs : List V} (h : SqT K H t xs) (k : ∀ o,imo o = true→H t = some o→H' t = some o) : SqT K H' t xs:=by
 rcases h with (h | ⟨o,h⟩) | h
 ·exact .inl (.inl (k _ rfl h))
 ·exact .inl (.inr ⟨o,k _ rfl h⟩)
 ·exact .inr h
theorem can_chg {nm : Str} {k : Int} {r : Row} (h : (rowD r).canLay0 = true) : (rowD (chgR nm k r)).canLay0 = true:=by
 unfold chgR
 split
 ·simpa only [rowD,PyData.canLay0,PyData.canLayAll0] using h
 ·exact h
variable {Dn : Ends} {D sA t lz : Addr} {x3 x4 : Option V} {H : Hp} {prs : List PR} {d : Deed}
theorem rows_chg {nm : Str} {k : Int} (hb : ∀ {Dn : Ends} {σ : L2.St} {H : Hp} {a : Addr} {r : Row},σ[4]? = some (some (.ref a))→σ[2]? = some (some (.ref t))→H a = some (.lst (rowV r))→SqT K H t d.vals→r.1 = nm→Dn.nx σ (upd H a (.lst (rowV (chgR nm k r))))→tRowB K Dn σ H) (hnm : d.nm = nm)
  (hH : Held H D prs) (hnd : (D :: prs.map (·.1)).Nodup) (hlz : H lz = some (.lst (prs.map fun x=>.ref x.1))) (hz : lz ∉ D :: prs.map (·.1)) (ht : SqT K H t d.vals)
  (q : ∀ H' prs' x4,Held H' D prs'→prs'.map (·.2) = (prs.map (·.2)).map (chgR nm k)→(prs'.map (·.1)).Sublist (prs.map (·.1))→(∀ b o,b ∉ D :: prs.map (·.1)→H b = some o→H' b = some o)→Dn.nx [some (.ref D),some (.ref sA),some (.ref t),x3,x4] H') :
  forRd (Itl K lz) (gName 4) (tRowB K) Dn [some (.ref D),some (.ref sA),some (.ref t),x3,x4] H:=by
 have hnd2:=(List.nodup_cons.mp hnd).2
 have hDn:=(List.nodup_cons.mp hnd).1
 have hz2 : lz ∉ prs.map (·.1):=fun z=>hz (List.mem_cons_of_mem _ z)
 refine forL (xs:=prs.map fun x=>V.ref x.1) (fun i σ' H'=>(∃ y,σ' = [some (.ref D),some (.ref sA),some (.ref t),x3,y])∧(∀ (j : Nat) (x : PR),prs[j]? = some x→H' x.1 = some (.lst (rowV (if j < i then chgR nm k x.2 else x.2))))∧∀ b o,b ∉ prs.map (·.1)→H b = some o→H' b = some o)
  ⟨⟨_,rfl⟩,fun j x e=>by rw [if_neg (Nat.not_lt_zero _)]; exact hH.row x (List.mem_of_getElem? e),fun _ _ _ e=>e⟩ (fun i σ' H' _ h=>SqL.of (h.2.2 _ _ hz2 hlz)) ?_ ?_
 ·rintro i v σ' H' hv ⟨⟨y,rfl⟩,i1,i2⟩
  rw [List.getElem?_map] at hv
  obtain ⟨x,ex,rfl⟩:=Option.map_eq_some_iff.mp hv
  have hx:=i1 i x ex
  rw [if_neg (Nat.lt_irrefl _)] at hx
  have ht' : SqT K H' t d.vals:=SqT.off ht fun o ho e=>i2 _ _ (fun z=>by
   obtain ⟨p,hp,e2⟩:=List.mem_map.mp z
   rw [← e2,hH.row p hp] at e
   cases e; cases ho) e
  show tRowB K _ [some (.ref D),some (.ref sA),some (.ref t),x3,some (.ref x.1)] H'
  by_cases e : x.2.1 = nm
  ·refine hb rfl rfl hx ht' e ⟨⟨_,rfl⟩,fun j z ez=>?_,fun b o hbn eo=>?_⟩
   ·by_cases hj : z.1 = x.1
    ·have : j = i:=(List.getElem?_inj (by
      rcases Nat.lt_or_ge j (prs.map (·.1)).length with g | g
      ·exact g
      ·rw [List.getElem?_eq_none (by rw [List.length_map] at g; exact g)] at ez; cases ez) hnd2).mp (by rw [List.getElem?_map,List.getElem?_map,ez,ex]; exact congrArg some hj)
     subst this
     rw [ex] at ez
     cases ez
     rw [upd_same,if_pos (Nat.lt_succ_self _)]
    ·rw [upd_ne hj,i1 j z ez]
     have : j ≠ i:=fun g=>by subst g; rw [ex] at ez; cases ez; exact hj rfl
     by_cases g : j < i
     ·rw [if_pos g,if_pos (by omega)]
     ·rw [if_neg g,if_neg (by omega)]
   ·rw [upd_ne fun g=>hbn (by rw [g]; exact List.mem_map_of_mem (f:=fun x : PR=>x.1) (List.mem_of_getElem? ex))]
    exact i2 b o hbn eo
  ·refine rowB_no rfl rfl hx ht' (.inl (by rw [hnm]; exact e)) ⟨⟨_,rfl⟩,fun j z ez=>?_,i2⟩
   rw [i1 j z ez]
   by_cases g : j < i
   ·rw [if_pos g,if_pos (by omega)]
   ·by_cases g2 : j = i
    ·subst g2
     rw [ex] at ez
     cases ez
     rw [if_neg g,if_pos (by omega)]
     unfold chgR
     rw [if_neg e]
    ·rw [if_neg g,if_neg (by omega)]
 ·rintro σ' H' ⟨⟨y,rfl⟩,i1,i2⟩
  refine q H' (prs.map fun x=>(x.1,chgR nm k x.2)) y ⟨?_,fun x hx=>?_,fun x hx=>?_⟩ ?_ ?_ fun b o hb e=>i2 b o (fun z=>hb (List.mem_cons_of_mem _ z)) e
  ·rw [List.map_map]; exact i2 D _ hDn hH.top
  ·obtain ⟨z,hz,rfl⟩:=List.mem_map.mp hx
   obtain ⟨j,hj,rfl⟩:=List.getElem_of_mem hz
   rw [i1 j prs[j] (by simp [hj]),if_pos (by rw [List.length_map]; exact hj)]
  ·obtain ⟨z,hz,rfl⟩:=List.mem_map.mp hx
   exact can_chg (hH.can z hz)
  ·rw [List.map_map,List.map_map]; rfl
  ·rw [List.map_map]; exact List.Sublist.refl _
theorem rows_loop (hH : Held H D prs) (hnd : (D :: prs.map (·.1)).Nodup) (hlz : H lz = some (.lst (prs.map fun x=>.ref x.1))) (hz : lz ∉ D :: prs.map (·.1)) (ht : SqT K H t d.vals)
  (q : ∀ H' prs' x4,Held H' D prs'→prs'.map (·.2) = noteR2 d (prs.map (·.2))→(prs'.map (·.1)).Sublist (prs.map (·.1))→(∀ b o,b ∉ D :: prs.map (·.1)→H b = some o→H' b = some o)→Dn.nx [some (.ref D),some (.ref sA),some (.ref t),x3,x4] H') :
  forRd (Itl K lz) (gName 4) (tRowB K) Dn [some (.ref D),some (.ref sA),some (.ref t),x3,x4] H:=by
 have hDn:=(List.nodup_cons.mp hnd).1
 have hlD : lz ≠ D:=fun z=>hz (by rw [z]; exact List.mem_cons_self ..)
 cases d with
 | lay nm a b w l =>
  refine forL (xs:=prs.map fun x=>V.ref x.1) (fun i σ' H'=>(∃ y,σ' = [some (.ref D),some (.ref sA),some (.ref t),x3,y])∧H' = H) ⟨⟨_,rfl⟩,rfl⟩ (fun i σ' H' _ h=>by rw [h.2]; exact SqL.of hlz) ?_ ?_
  ·rintro i v σ' H' hv ⟨⟨y,rfl⟩,rfl⟩
   rw [List.getElem?_map] at hv
   obtain ⟨x,ex,rfl⟩:=Option.map_eq_some_iff.mp hv
   exact rowB_no (a:=x.1) rfl rfl (hH.row x (List.mem_of_getElem? ex)) ht (.inr rfl) ⟨⟨_,rfl⟩,rfl⟩
  ·rintro σ' H' ⟨⟨y,rfl⟩,rfl⟩
   exact q _ prs y hH rfl (List.Sublist.refl _) fun _ _ _ e=>e
 | shut nm =>
  refine forL (xs:=prs.map fun x=>V.ref x.1) (fun i σ' H'=>(∃ y,σ' = [some (.ref D),some (.ref sA),some (.ref t),x3,y])∧H' D = some (.lst (((prs.take i).filter (fun x=>!decide (x.2.1 = nm)) ++ prs.drop i).map fun x=>.ref x.1))∧∀ b o,b ≠ D→H b = some o→H' b = some o)
   ⟨⟨_,rfl⟩,hH.top,fun _ _ _ e=>e⟩ (fun i σ' H' _ h=>SqL.of (h.2.2 _ _ hlD hlz)) ?_ ?_
  ·rintro i v σ' H' hv ⟨⟨y,rfl⟩,i1,i2⟩
   rw [List.getElem?_map] at hv
   obtain ⟨x,ex,rfl⟩:=Option.map_eq_some_iff.mp hv
   have hi : i < prs.length:=(List.getElem?_eq_some_iff.mp ex).1
   have exi : prs[i] = x:=(List.getElem?_eq_some_iff.mp ex).2
   have ed : prs.drop i = x :: prs.drop (i + 1):=by rw [List.drop_eq_getElem_cons hi,exi]
   have et : prs.take (i + 1) = prs.take i ++ [x]:=by rw [List.take_succ,ex]; rfl
   have rowN : ∀ z∈prs,z.1 ≠ D:=fun z hz g=>hDn (by rw [← g]; exact List.mem_map_of_mem (f:=fun x : PR=>x.1) hz)
   have hrow : ∀ z∈prs,H' z.1 = some (.lst (rowV z.2)):=fun z hz=>i2 _ _ (rowN z hz) (hH.row z hz)
   have hx:=hrow x (List.mem_of_getElem? ex)
   have ht' : SqT K H' t (Deed.vals (.shut nm)):=SqT.off ht fun o ho e=>i2 _ _ (fun z=>by rw [z,hH.top] at e; cases e; cases ho) e
   have hsub : ∀ z∈(prs.take i).filter (fun x=>!decide (x.2.1 = nm)) ++ x :: prs.drop (i + 1),z∈prs:=fun z hz=>by
    rcases List.mem_append.mp hz with g | g
    ·exact List.mem_of_mem_take ((List.mem_filter.mp g).1)
    ·rw [← ed] at g; exact List.mem_of_mem_drop g
   show tRowB K _ [some (.ref D),some (.ref sA),some (.ref t),x3,some (.ref x.1)] H'
   by_cases e : x.2.1 = nm
   ·rw [ed] at i1
    refine rowB_shut (a:=x.1) (r:=x.2) (pre:=(prs.take i).filter (fun x=>!decide (x.2.1 = nm))) (post:=prs.drop (i + 1)) rfl rfl rfl i1 (fun z hz=>hrow z (hsub z hz)) (fun z hz=>hH.can z (hsub z hz)) (rowN x (List.mem_of_getElem? ex)) (fun z hz=>?_) ht' e ⟨⟨_,rfl⟩,?_,fun b o hb eo=>?_⟩
    ·have:=(List.mem_filter.mp hz).2
     simpa using this
    ·rw [upd_same,et,List.filter_append]
     simp [e]
    ·rw [upd_ne hb]; exact i2 b o hb eo
   ·refine rowB_no (a:=x.1) rfl rfl hx ht' (.inl e) ⟨⟨_,rfl⟩,?_,i2⟩
    rw [i1,ed,et,List.filter_append]
    simp [e]
  ·rintro σ' H' ⟨⟨y,rfl⟩,i1,i2⟩
   rw [List.length_map,List.take_of_length_le (Nat.le_refl _),List.drop_of_length_le (Nat.le_refl _),List.append_nil] at i1
   have hm : ∀ z∈prs.filter (fun x=>!decide (x.2.1 = nm)),z∈prs:=fun z hz=>(List.mem_filter.mp hz).1
   refine q H' (prs.filter fun x=>!decide (x.2.1 = nm)) y ⟨i1,fun z hz=>i2 _ _ (fun g=>hDn (by rw [← g]; exact List.mem_map_of_mem (f:=fun x : PR=>x.1) (hm z hz))) (hH.row z (hm z hz)),fun z hz=>hH.can z (hm z hz)⟩ ?_ ((List.filter_sublist).map _) fun b o hb e=>i2 b o (fun z=>hb (by rw [z]; exact List.mem_cons_self ..)) e
   show _ = (prs.map (·.2)).filter _
   rw [List.filter_map]
   rfl
 | widen nm k=>exact rows_chg (fun e4 e2 ha ht e q=>rowB_widen e4 e2 ha ht e q) rfl hH hnd hlz hz ht q
 | narrow nm k=>exact rows_chg (fun e4 e2 ha ht e q=>rowB_narrow e4 e2 ha ht e q) rfl hH hnd hlz hz ht q
end
end K61
namespace K61
open PySem PySem.Spec PyProof.Rows L2 VM
set_option maxHeartbeats 4000000
section
variable {P : Program} {w : World} {K : PySem.W.Frag} {mg : Str→Option Value} {base : Heap}
variable {Dn : Ends} {D sA t : Addr} {x3 x4 : Option V} {H : Hp} {prs : List PR} {d : Deed} {seen : List Str}
theorem noted2 (hH : Held H D prs) (hnd : (D :: prs.map (·.1)).Nodup) (ht : SqT K H t d.vals)
  (q : ∀ H' prs' x4,Held H' D prs'→prs'.map (·.2) = noteR2 d (prs.map (·.2))→(prs'.map (·.1)).Sublist (prs.map (·.1))→(∀ b o,b ∉ D :: prs.map (·.1)→H b = some o→H' b = some o)→Dn.nx [some (.ref D),some (.ref sA),some (.ref t),x3,x4] H') :
  tFor (iList K (tCB (rListM K) (tCons (vR 0) tNil))) (gName 4) (tRowB K) Dn [some (.ref D),some (.ref sA),some (.ref t),x3,x4] H:=by
 rw [tFor_eq]
 unfold iList tCB tCons tNil
 refine vR_at (v:=.ref D) rfl ⟨_,.inl (SqL.of hH.top),fun lz hlz=>⟨lz,rfl,⟨_,SqL.of upd_same⟩,?_⟩⟩
 have sm:=same_upd_new (o:=.lst (prs.map fun x=>.ref x.1)) hlz
 refine rows_loop (d:=d) (hH.grow sm) hnd upd_same (fun z=>?_) (sm.seqT ht) fun H' prs' y a1 a2 a3 a4=>q H' prs' y a1 a2 a3 fun b o hb e=>a4 b o hb (sm _ _ e)
 rcases List.mem_cons.mp z with g | g
 ·rw [g,hH.top] at hlz; cases hlz
 ·obtain ⟨p,hp,e⟩:=List.mem_map.mp g
  rw [← e,hH.row p hp] at hlz; cases hlz
noncomputable def tSeenB (K : PySem.W.Frag) : TS:=tIfS (tTM (tOp (rIn K true) (vR 3) (vR 1))) (tDrop (tBM K "list" rAppM (vR 1) (tCons (vR 3) tNil))) tNext
theorem addS_step {seen rs : List Str} {i : Nat} {r : Str} (e : rs[i]? = some r) : addS seen (rs.take (i + 1)) = if ((addS seen (rs.take i)).any fun y=>y == r) = true then addS seen (rs.take i) else addS seen (rs.take i) ++ [r]:=by
 rw [List.take_succ,e]
 unfold addS
 rw [List.foldl_append]
 rfl
theorem seen_loop {a b : Str} {tt : Addr} (htt : SqT K H tt [.str a,.str b]) (hs : H sA = some (.lst (seen.map V.str))) (hl : seen.length < 1000)
  (q : ∀ H' x3,H' sA = some (.lst ((addS seen [a,b]).map V.str))→(∀ c o,c ≠ sA→H c = some o→H' c = some o)→Dn.nx [some (.ref D),some (.ref sA),some (.ref t),x3,x4] H') :
  forRd (Itt K tt) (gName 3) (tSeenB K) Dn [some (.ref D),some (.ref sA),some (.ref t),x3,x4] H:=by
 refine for_tup (xs:=[a,b].map V.str) (fun i σ' H'=>(∃ y,σ' = [some (.ref D),some (.ref sA),some (.ref t),y,x4])∧H' sA = some (.lst ((addS seen ([a,b].take i)).map V.str))∧∀ c o,c ≠ sA→H c = some o→H' c = some o) ⟨⟨_,rfl⟩,hs,fun _ _ _ e=>e⟩
  (fun i σ' H' _ h=>SqT.off htt fun o ho e=>h.2.2 _ _ (fun z=>by rw [z,hs] at e; cases e; cases ho) e) ?_ ?_
 ·rintro i v σ' H' hv ⟨⟨y,rfl⟩,i1,i2⟩
  rw [List.getElem?_map] at hv
  obtain ⟨r,er,rfl⟩:=Option.map_eq_some_iff.mp hv
  show tSeenB K _ [some (.ref D),some (.ref sA),some (.ref t),some (.str r),x4] H'
  unfold tSeenB tIfS tTM
  rw [op2]
  refine vR_at (v:=.str r) rfl (vR_at (v:=.ref sA) rfl ⟨sA,_,rfl,.inl (SqL.of i1),rfl,by rw [List.all_map]; simp [flatV],?_⟩)
  rw [inV_strs]
  have st:=addS_step (seen:=seen) er
  show (if (!(addS seen ([a,b].take i)).any fun y=>y == r) = true then _ else _)
  have hlen : (addS seen ([a,b].take i)).length < 2000:=by
   have:=addS_len ([a,b].take i) seen
   have : ([a,b].take i).length≤2:=by rw [List.length_take]; exact Nat.min_le_right _ _
   omega
  by_cases c : ((addS seen ([a,b].take i)).any fun y=>y == r) = true
  ·rw [if_neg (by rw [c]; simp)]
   rw [if_pos c] at st
   exact ⟨⟨_,rfl⟩,by rw [st]; exact i1,i2⟩
  ·rw [if_pos (by rw [Bool.eq_false_iff.mpr c]; rfl)]
   rw [if_neg c] at st
   unfold tDrop tBM tCons tNil
   refine vR_at (v:=.ref sA) rfl ⟨.inl ⟨rfl,_,SqL.of i1⟩,vR_at (v:=.str r) rfl ⟨_,i1,size_big (by rw [List.length_map]; omega),⟨_,rfl⟩,?_,fun c o hc e=>?_⟩⟩
   ·rw [upd_same,st,List.map_append]; rfl
   ·rw [upd_ne hc]; exact i2 c o hc e
 ·rintro σ' H' ⟨⟨y,rfl⟩,i1,i2⟩
  exact q H' y i1 i2
theorem ok_noted {f : Addr} {fd : FuncData} (F : Fun K "_law_noted" "_law_noted" (top 27) f fd) (B : Bl mg) : FnOk P w K mg base CX0 1 f fd ["_law_held","_law_seen","_law_deed_here"] (spNoted K):=by
 have nd:=sc_noted.nd
 have vt:=(show (["_law_held","_law_seen","_law_deed_here","_law_room","_law_row"] : List Str).all (fun x=>visB (defScope (top 27)) x && plain x) = true by decide +kernel)
 refine Fun.ok (k:=0) F sc_noted (fun vs H Q E h=>by obtain ⟨_,_,_,_,_,_,rfl,_⟩:=h; rfl) fun cdv A outer s H vs Q E hr hsp=>?_
 obtain ⟨D,sA,t,prs,seen,d,rfl,hH,hs,hnd,ht,hl1,hl2,hcan,hq⟩:=hsp
 refine ⟨_,pss_cons (ps_if (ptC op_eq (peIx ixT (pV vt 2) pe_int) pe_str)
   (pss_cons (ps_expr (peApp (pV vt 0) (pa_cons (pe_lst (pa_cons (peIx ixT (pV vt 2) pe_int) (pa_cons (peIx ixT (pV vt 2) pe_int) (pa_cons (peIx ixT (pV vt 2) pe_int) (pa_cons (peIx ixT (pV vt 2) pe_int) (pa_cons (peIx ixT (pV vt 2) pe_int) pa_nil)))))) pa_nil)))
   (pss_one (ps_for PassesOwn.never rfl (pi_tup (pe_slice sl_tup (pV vt 2) (po_some pe_int) (po_some pe_int))) (pg_name (i:=3) nd rfl (lo (sc:=defScope (top 27)) (by decide +kernel)))
    (pss_one (ps_if (ptC op_notIn_seq (pV vt 3) (pV vt 1)) (pss_one (ps_expr (peApp (pV vt 1) (pa_cons (pV vt 3) pa_nil)))) pss_nil))))) pss_nil)
  (pss_one (ps_for PassesOwn.never rfl (pi_list (pe_callTy cList (gl (sc:=defScope (top 27)) (by decide +kernel)) B.list PyProof.Rows.boot_list (pa_cons (pV vt 0) pa_nil))) (pg_name (i:=4) nd rfl (lo (sc:=defScope (top 27)) (by decide +kernel)))
   (pss_cons (ps_if (PW.pt (pw_and (ptC op_eq (peIx ixL (pV vt 4) pe_int) (peIx ixT (pV vt 2) pe_int)) (pw_and1 (ptC op_eq (peIx ixT (pV vt 2) pe_int) pe_str)))) (pss_one (ps_expr (peRem hr.units (pV vt 0) (pa_cons (pV vt 4) pa_nil)))) pss_nil)
   (pss_cons (ps_if (PW.pt (pw_and (ptC op_eq (peIx ixL (pV vt 4) pe_int) (peIx ixT (pV vt 2) pe_int)) (pw_and1 (ptC op_eq (peIx ixT (pV vt 2) pe_int) pe_str)))) (pss_one (ps_asg (pe_op oAdd (peIx ixL (pV vt 4) pe_int) (peIx ixT (pV vt 2) pe_int)) (pg_sub (pV vt 4) pe_int setL))) pss_nil)
   (pss_one (ps_if (PW.pt (pw_and (ptC op_eq (peIx ixL (pV vt 4) pe_int) (peIx ixT (pV vt 2) pe_int)) (pw_and1 (ptC op_eq (peIx ixT (pV vt 2) pe_int) pe_str)))) (pss_one (ps_asg (pe_op oSub (peIx ixL (pV vt 4) pe_int) (peIx ixT (pV vt 2) pe_int)) (pg_sub (pV vt 4) pe_int setL))) pss_nil)))))),?_⟩
 obtain ⟨hD1,hnd1⟩:=List.nodup_cons.mp hnd
 obtain ⟨hs1,hnd2⟩:=List.nodup_cons.mp hnd1
 have hDs : D ≠ sA:=fun z=>hD1 (by rw [z]; exact List.mem_cons_self ..)
 have hDp : D ∉ prs.map (·.1):=fun z=>hD1 (List.mem_cons_of_mem _ z)
 unfold tSeq tIfS
 refine eq_at (K:=K) (x:=d.word) (fun R h=>ixT_at (t:=t) rfl ht d.at0 h) (fun R h=>h) ?_
 cases d with
 | lay nm a b w l =>
  rw [if_pos (show decide ((Deed.lay nm a b w l).word = "lay") = true from (by decide +kernel : decide (("lay" : Str) = "lay") = true))]
  unfold tDrop tBM tCons tLst
  refine vR_at (v:=.ref D) rfl ⟨.inl ⟨rfl,_,SqL.of hH.top⟩,ixT_at (t:=t) rfl ht rfl (ixT_at (t:=t) rfl ht rfl (ixT_at (t:=t) rfl ht rfl (ixT_at (t:=t) rfl ht rfl (ixT_at (t:=t) rfl ht rfl ⟨by show 5≤sizeLine; decide,fun ra hra=>?_⟩))))⟩
  have s1:=same_upd_new (o:=.lst (rowV (nm,a,b,w,l))) hra
  have hDra : D ≠ ra:=ne_of_none hH.top hra
  have hsra : sA ≠ ra:=ne_of_none hs hra
  refine ⟨_,s1 _ _ hH.top,size_big (by rw [List.length_map]; omega),?_⟩
  have hrp : ∀ x∈prs,x.1 ≠ ra:=fun x hx=>ne_of_none (hH.row x hx) hra
  have hxD : ∀ x∈prs,x.1 ≠ D:=fun x hx g=>hDp (by rw [← g]; exact List.mem_map_of_mem (f:=fun x : PR=>x.1) hx)
  have held1 : Held (upd (upd H ra (.lst (rowV (nm,a,b,w,l)))) D (.lst ((prs.map fun x=>.ref x.1) ++ [.ref ra]))) D (prs ++ [(ra,(nm,a,b,w,l))]):=by
   refine ⟨by rw [upd_same,List.map_append]; rfl,fun x hx=>?_,fun x hx=>?_⟩
   ·rcases List.mem_append.mp hx with g | g
    ·rw [upd_ne (hxD x g)]; exact s1 _ _ (hH.row x g)
    ·rw [List.mem_singleton.mp g,upd_ne hDra.symm,upd_same]
   ·rcases List.mem_append.mp hx with g | g
    ·exact hH.can x g
    ·rw [List.mem_singleton.mp g]; exact hcan _ _ _ _ _ rfl
  have hs2 : upd (upd H ra (.lst (rowV (nm,a,b,w,l)))) D (.lst ((prs.map fun x=>.ref x.1) ++ [.ref ra])) sA = some (.lst (seen.map V.str)):=by rw [upd_ne hDs.symm]; exact s1 _ _ hs
  have fr1 : ∀ c o,c ≠ D→H c = some o→upd (upd H ra (.lst (rowV (nm,a,b,w,l)))) D (.lst ((prs.map fun x=>.ref x.1) ++ [.ref ra])) c = some o:=fun c o hc e=>by rw [upd_ne hc]; exact s1 _ _ e
  have ht1 : SqT K (upd (upd H ra (.lst (rowV (nm,a,b,w,l)))) D (.lst ((prs.map fun x=>.ref x.1) ++ [.ref ra]))) t (Deed.vals (.lay nm a b w l)):=SqT.off ht fun o ho e=>fr1 _ _ (fun z=>by rw [z,hH.top] at e; cases e; cases ho) e
  have none1 : ∀ c,upd (upd H ra (.lst (rowV (nm,a,b,w,l)))) D (.lst ((prs.map fun x=>.ref x.1) ++ [.ref ra])) c = none→H c = none:=fun c e=>by
   by_cases hc : c = D
   ·subst hc; rw [upd_same] at e; cases e
   ·rw [upd_ne hc] at e; exact s1.free e
  have eM : (prs ++ [(ra,(nm,a,b,w,l))]).map (·.1) = prs.map (·.1) ++ [ra]:=by rw [List.map_append]; rfl
  have hnd3 : (D :: sA :: (prs ++ [(ra,(nm,a,b,w,l))]).map (·.1)).Nodup:=by
   rw [eM]
   have hra' : ra ∉ prs.map (·.1):=fun z=>by
    obtain ⟨x,hx,e⟩:=List.mem_map.mp z
    exact hrp x hx e
   refine List.nodup_cons.mpr ⟨fun z=>?_,List.nodup_cons.mpr ⟨fun z=>?_,List.nodup_append.mpr ⟨hnd2,by simp,fun x hx y hy g=>?_⟩⟩⟩
   ·rcases List.mem_cons.mp z with g | g
    ·exact hDs g
    ·rcases List.mem_append.mp g with g | g
     ·exact hDp g
     ·exact hDra (List.mem_singleton.mp g)
   ·rcases List.mem_append.mp z with g | g
    ·exact hs1 g
    ·exact hsra (List.mem_singleton.mp g)
   ·rw [List.mem_singleton.mp hy] at g
    exact hra' (g ▸ hx)
  rw [show ([V.str nm,V.str a,V.str b,V.int w,V.int l] : List V) = rowV (nm,a,b,w,l) from rfl]
  generalize upd (upd H ra (.lst (rowV (nm,a,b,w,l)))) D (.lst ((prs.map fun x=>.ref x.1) ++ [.ref ra])) = H1 at held1 hs2 fr1 ht1 none1 ⊢
  dsimp only
  rw [tFor_eq]
  unfold iTup tSl tPart
  refine vR_at (v:=.ref t) rfl ⟨2,rfl,4,rfl,t,_,rfl,ht1,by show ¬ (HT.sIx 6 0 (some 2) = 0∧HT.sIx 6 6 (some 4) = 6); decide,fun tt htt=>⟨tt,rfl,⟨_,SqT.of upd_same⟩,?_⟩⟩
  have s2:=same_upd_new (o:=.tup [.str a,.str b]) htt
  refine seen_loop (K:=K) (a:=a) (b:=b) (SqT.of upd_same) (s2 _ _ hs2) (by omega) fun H2 x3 g1 g2=>?_
  have held2 : Held H2 D (prs ++ [(ra,(nm,a,b,w,l))]):=by
   refine ⟨g2 _ _ hDs (s2 _ _ held1.top),fun x hx=>g2 _ _ (fun z=>?_) (s2 _ _ (held1.row x hx)),held1.can⟩
   have:=(List.nodup_cons.mp (List.nodup_cons.mp hnd3).2).1
   exact this (by rw [← z]; exact List.mem_map_of_mem (f:=fun x : PR=>x.1) hx)
  have ht2 : SqT K H2 t (Deed.vals (.lay nm a b w l)):=SqT.off (s2.seqT ht1) fun o ho e=>g2 _ _ (fun z=>by rw [z,s2 _ _ hs2] at e; cases e; cases ho) e
  have hnd4 : (D :: (prs ++ [(ra,(nm,a,b,w,l))]).map (·.1)).Nodup:=List.nodup_cons.mpr ⟨fun z=>(List.nodup_cons.mp hnd3).1 (List.mem_cons_of_mem _ z),(List.nodup_cons.mp (List.nodup_cons.mp hnd3).2).2⟩
  refine noted2 (K:=K) (d:=.lay nm a b w l) held2 hnd4 ht2 fun H3 prs3 x4 a1 a2 a3 a4=>?_
  have hsN : sA ∉ D :: (prs ++ [(ra,(nm,a,b,w,l))]).map (·.1):=fun z=>by
   rcases List.mem_cons.mp z with g | g
   ·exact hDs g.symm
   ·exact (List.nodup_cons.mp (List.nodup_cons.mp hnd3).2).1 g
  refine hq H3 prs3 a1 ?_ (a4 _ _ hsN g1) ?_ (fun c o hc e=>?_) fun c hc=>?_
  ·rw [a2,List.map_append]; rfl
  ·refine List.nodup_cons.mpr ⟨fun z=>?_,List.nodup_cons.mpr ⟨fun z=>?_,a3.nodup (List.nodup_cons.mp hnd4).2⟩⟩
   ·rcases List.mem_cons.mp z with g | g
    ·exact hDs g
    ·exact (List.nodup_cons.mp hnd4).1 (a3.subset g)
   ·exact hsN (List.mem_cons_of_mem _ (a3.subset z))
  ·have hcD : c ≠ D:=fun z=>hc (by rw [z]; exact List.mem_cons_self ..)
   have hcs : c ≠ sA:=fun z=>hc (by rw [z]; exact List.mem_cons_of_mem _ (List.mem_cons_self ..))
   refine a4 _ _ (fun z=>?_) (g2 _ _ hcs (s2 _ _ (fr1 _ _ hcD e)))
   rcases List.mem_cons.mp z with g | g
   ·exact hcD g
   ·rw [eM] at g
    rcases List.mem_append.mp g with g | g
    ·exact hc (List.mem_cons_of_mem _ (List.mem_cons_of_mem _ g))
    ·rw [List.mem_singleton.mp g,hra] at e; cases e
  ·have:=a3.subset hc
   rw [eM] at this
   rcases List.mem_append.mp this with g | g
   ·exact .inl g
   ·rw [List.mem_singleton.mp g]; exact .inr hra
 | _ =>
  rw [if_neg (by first | exact (by decide +kernel : ¬ decide (("shut" : Str) = "lay") = true) | exact (by decide +kernel : ¬ decide (("widen" : Str) = "lay") = true) | exact (by decide +kernel : ¬ decide (("narrow" : Str) = "lay") = true))]
  unfold tNext
  refine noted2 (K:=K) hH (List.nodup_cons.mpr ⟨hDp,hnd2⟩) ht fun H3 prs3 x4 a1 a2 a3 a4=>?_
  refine hq H3 prs3 a1 a2 (a4 _ _ (fun z=>?_) hs) ?_ (fun c o hc e=>?_) fun c hc=>.inl (a3.subset hc)
  ·rcases List.mem_cons.mp z with g | g
   ·exact hDs g.symm
   ·exact hs1 g
  ·refine List.nodup_cons.mpr ⟨fun z=>?_,List.nodup_cons.mpr ⟨fun z=>hs1 (a3.subset z),a3.nodup hnd2⟩⟩
   rcases List.mem_cons.mp z with g | g
   ·exact hDs g
   ·exact hDp (a3.subset g)
  ·refine a4 _ _ (fun z=>?_) e
   rcases List.mem_cons.mp z with g | g
   ·exact hc (by rw [g]; exact List.mem_cons_self ..)
   ·exact hc (List.mem_cons_of_mem _ (List.mem_cons_of_mem _ g))
end
end K61
set_option hygiene false in
local macro_rules | `(tactic| walk_at "e0")=>`(tactic| (try simp only [fnM_eq,ob_some,ob_none,bFn_r,bFn_n,ini,gSeq_eq,bSeq_n,bSeq_r,bSeq_b,bSeq_c,gIf_eq,bIf_t,bIf_f,tAnd_eq,bAnd_t,bAnd_f,tOr_eq,bOr_t,bOr_f,tNot2,vAnd_eq,bAndE_t,bAndE_f,vOr_eq,bOrE_t,bOrE_f,vIf_eq,bIfE_t,bIfE_f,v2_eq,b2_s,b1_s,v1_eq,aC_eq,bC_s,bC1_s,a0,gAs_eq,bAs_s,bNx_s,gC_eq,bG_s,g0,vCall_eq,bCall_s,vCallN_eq,bCallN_s,vCallW_eq,bCallW_s,bResW_s,vCallWN_eq,bCallWN_s,bResWN_s,bIm_t,vImm_eq,bImm_s,bRes_s,bResN_s,vCh_eq,bCh_t,bCh_f,atI_0,atI_1,atI_2,atI_3,gFor_eq,bFor_s,gRet,gRetN,gRetO,gEx,gN,gT,gOw_eq,gOwF_eq,bOw_s,vLC_eq,vLCW_eq,bL_s,gFz,frz,gApp,gPut,gAug,gAugI,gNop,gFail,gClr,gPop,gRv,gIns,gPopAt,vSetLen,ownL,noIo_eq,nio_ob,nio_n,nio_fr,nio_ow,vN,vF,vC,vB,vTru,truD,vNot,imm,immL,ixDt,oN,oI,vSlL,vSlT,vRev,negD,vTup,vLst,vCB,lenD,absD,min2D,max2D,int1D,vIsi,isi_list,isi_int,isi_bool_i,isi_tuple,vListOf,immR,vItems,vItemsT,vRng1,vRng2,vEnum,vZip,capFr,capG,capOne,cTrue,addD_i,subD_i,ltD_i,leD_i,gtD_i,geD_i,xorD_i,eqD_i,neD_i,Int.reduceToNat,Int.reducePow,isD_n,isnD_n,isNoneD,List.length_cons,List.length_nil,List.map_cons,List.map_nil,List.replicate,List.cons_append,List.nil_append,List.append_nil,List.getElem?_cons_zero,List.getElem?_cons_succ,List.set_cons_zero,List.set_cons_succ,Nat.reduceAdd,Nat.reduceSub,Nat.reduceLeDiff,Nat.reduceEqDiff,Bool.and_true,Bool.true_and,Bool.not_true,Bool.not_false,Bool.false_eq_true,↓reduceIte,if_true,if_false]))
namespace K61
open PySem PySem.Spec PyProof.Rows L2 VM
set_option maxHeartbeats 4000000
noncomputable def rowTD (r : Row) : PyData:=.tuple [.str r.1,.str r.2.1,.str r.2.2.1,.int r.2.2.2.1,.int r.2.2.2.2]
noncomputable def heldD (rows : List Row) : PyData:=.list (rows.map rowD)
noncomputable def passD (rows : List Row) : PyData:=.list (rows.map rowTD)
noncomputable def strsD (xs : List Str) : PyData:=.list (xs.map .str)
theorem neD_self {d : PyData} (h : d.depth≤60) (c : d.canLay0 = true) : neD d d = some (.bool false):=by
 unfold neD
 rw [if_pos h,SeqAt.eqv_refl _ c]
 rfl
theorem depth_all : ∀ (ds : List PyData) (n : Nat),(∀ d∈ds,d.depth≤n)→PyData.depthAll ds≤n + 1
 | [],_,_=>by simp [PyData.depthAll]
 | d :: r,n,h=>by
  have h1:=h d (List.mem_cons_self ..)
  have h2:=depth_all r n fun x hx=>h x (List.mem_cons_of_mem _ hx)
  simp only [PyData.depthAll]
  omega
theorem can_all : ∀ (ds : List PyData),(∀ d∈ds,d.canLay0 = true)→PyData.canLayAll0 ds = true
 | [],_=>rfl
 | d :: r,h=>by
  simp only [PyData.canLayAll0,Bool.and_eq_true]
  exact ⟨h d (List.mem_cons_self ..),can_all r fun x hx=>h x (List.mem_cons_of_mem _ hx)⟩
theorem depth_strs (xs : List Str) : (strsD xs).depth≤60:=by
 have:=depth_all (xs.map PyData.str) 5 (fun d hd=>by obtain ⟨x,_,rfl⟩:=List.mem_map.mp hd; simp [PyData.depth])
 simp only [strsD,PyData.depth]
 omega
theorem can_strs {xs : List Str} (h : ∀ x∈xs,(PyData.str x).canLay0 = true) : (strsD xs).canLay0 = true:=by
 simp only [strsD,PyData.canLay0]
 exact can_all _ fun d hd=>by obtain ⟨x,hx,rfl⟩:=List.mem_map.mp hd; exact h x hx
theorem depth_pass (rows : List Row) : (passD rows).depth≤60:=by
 have:=depth_all (rows.map rowTD) 10 (fun d hd=>by obtain ⟨x,_,rfl⟩:=List.mem_map.mp hd; simp [rowTD,PyData.depth,PyData.depthAll])
 simp only [passD,PyData.depth]
 omega
theorem can_rowT {r : Row} (h : (rowD r).canLay0 = true) : (rowTD r).canLay0 = true:=by
 simpa only [rowD,rowTD,PyData.canLay0] using h
theorem can_pass {rows : List Row} (h : ∀ r∈rows,(rowD r).canLay0 = true) : (passD rows).canLay0 = true:=by
 simp only [passD,PyData.canLay0]
 exact can_all _ fun d hd=>by obtain ⟨x,hx,rfl⟩:=List.mem_map.mp hd; exact can_rowT (h x hx)
theorem e_whole (x : Int) : m__law_whole [.int x] = some (false,.bool true):=by
 unfold m__law_whole g__law_whole
 walk_at "e0"
theorem e_lcH {x0 x2 x3 x4 x5 : Option (Tg × PyData)} {rows : List Row} (hl : rows.length < 1000) : (vLC (vItems (vF 1)) [none] (gN 0) cTrue (vTupOf (vN 0))) [x0,some (.fr,heldD rows),x2,x3,x4,x5] = some (passD rows):=by
 unfold heldD
 walk_at "e0"
 rw [bLC_s rfl (by rw [List.length_map]; exact size_big (by omega))]
 rw [lcD_map (f:=fun d=>match d with | .list ds=>.tuple ds | d=>d)]
 ·walk_at "e0"
  unfold passD
  rw [List.map_map]
  rfl
 ·intro d hd
  obtain ⟨r,_,rfl⟩:=List.mem_map.mp hd
  refine ⟨_,rfl,rfl,rfl⟩
theorem e_t3 {x0 x1 x5 : Option (Tg × PyData)} {seen : List Str} {rows : List Row} (h : ∀ x∈seen,(PyData.str x).canLay0 = true) :
  (tOr2 (tNot2 (vB (vIsi "list" (vN 3)))) (tOr2 (vB (v2 neD (vN 3) (vN 2))) (tNot2 (vB (vIsi "list" (vN 4)))))) [x0,x1,some (.fr,strsD seen),some (.fr,strsD seen),some (.fr,passD rows),x5] = some false:=by
 have e:=neD_self (depth_strs seen) (can_strs h)
 unfold strsD at e ⊢
 unfold passD
 walk_at "e0"
 rw [e]
 walk_at "e0"
theorem e_t4 {x0 x2 x3 x5 : Option (Tg × PyData)} {rows : List Row} (hl : rows.length < 1000) (h : ∀ r∈rows,(rowD r).canLay0 = true) :
  (vB (v2 neD (vN 4) (vLC (vItems (vF 1)) [none] (gN 0) cTrue (vTupOf (vN 0))))) [x0,some (.fr,heldD rows),x2,x3,some (.fr,passD rows),x5] = some false:=by
 have e:=neD_self (depth_pass rows) (can_pass h)
 have e2:=e_lcH (x0:=x0) (x2:=x2) (x3:=x3) (x4:=some (.fr,passD rows)) (x5:=x5) hl
 unfold vB
 have e3 : vN 4 [x0,some (.fr,heldD rows),x2,x3,some (.fr,passD rows),x5] = some (passD rows):=by
  walk_at "e0"
 rw [v2_eq,e3,b2_s,e2,b1_s,e]
theorem e_t5 {x0 x1 x2 x3 x4 : Option (Tg × PyData)} {r : Row} :
  (tOr2 (tNot2 (vB (vIsi "tuple" (vN 5)))) (tOr2 (tNot2 (vB (vCall m__law_whole (aC (v2 ixDt (vN 5) (vC (.int 3))) a0)))) (tNot2 (vB (vCall m__law_whole (aC (v2 ixDt (vN 5) (vC (.int 4))) a0)))))) [x0,x1,x2,x3,x4,some (.fr,rowTD r)] = some false:=by
 unfold rowTD
 walk_at "e0"
 rw [e_whole]
 walk_at "e0"
 rw [show atI [PyData.str r.1,.str r.2.1,.str r.2.2.1,.int r.2.2.2.1,.int r.2.2.2.2] 4 = some (.int r.2.2.2.2) from rfl]
 walk_at "e0"
 rw [e_whole]
 walk_at "e0"
end K61
namespace K61
open PySem PySem.Spec PyProof.Rows L2 VM
set_option maxHeartbeats 4000000
section
variable {P : Program} {w : World} {K : PySem.W.Frag} {mg : Str→Option Value} {base : Heap} {C : Addr}
theorem tVW_at {S : GS} {σ : L2.St} {H : Hp} {f : VE} {d : PyData} {Q : VK} (h : FrAt K H S σ) (e : f S = some d) (q : ∀ v H',Same H H'→Has K H' d v→Q v H') : tV K RW f σ H Q :=
 ⟨_,_,_,S,H,VI.at h,d,e,fun v _ H' g hv=>q v H' g.hh hv⟩
theorem hasL_strs {H : Hp} : ∀ {xs : List Str},(∀ x∈xs,(PyData.str x).canLay0 = true)→HasL K H (xs.map .str) (xs.map V.str)
 | [],_=>rfl
 | x :: r,h=>⟨_,_,rfl,⟨rfl,h x (List.mem_cons_self ..)⟩,hasL_strs fun y hy=>h y (List.mem_cons_of_mem _ hy)⟩
theorem has_strs {H : Hp} {a : Addr} {xs : List Str} (h : H a = some (.lst (xs.map V.str))) (c : ∀ x∈xs,(PyData.str x).canLay0 = true) : Has K H (strsD xs) (.ref a):=⟨a,_,rfl,SqL.of h,hasL_strs c⟩
theorem has_rowT {H : Hp} {v : V} {r : Row} (h : RowT H v r) (c : (rowD r).canLay0 = true) : Has K H (rowTD r) v:=by
 obtain ⟨t,rfl,h⟩:=h
 simp only [rowD,PyData.canLay0,PyData.canLayAll0,Bool.and_eq_true] at c
 obtain ⟨c1,c2,c3,_⟩:=c
 refine ⟨t,rowV r,rfl,SqT.of h,?_⟩
 refine ⟨_,_,rfl,⟨rfl,by simp only [PyData.canLay0]; exact c1⟩,_,_,rfl,⟨rfl,by simp only [PyData.canLay0]; exact c2⟩,_,_,rfl,⟨rfl,by simp only [PyData.canLay0]; exact c3⟩,_,_,rfl,rfl,_,_,rfl,rfl,rfl⟩
theorem hasL_rowT {H : Hp} : ∀ {ts : List V} {rows : List Row},Paired (RowT H) ts rows→(∀ r∈rows,(rowD r).canLay0 = true)→HasL K H (rows.map rowTD) ts
 | _,_,.nil,_=>rfl
 | _,_,.cons h r,c=>⟨_,_,rfl,has_rowT h (c _ (List.mem_cons_self ..)),hasL_rowT r fun y hy=>c y (List.mem_cons_of_mem _ hy)⟩
theorem has_pass {H : Hp} {a : Addr} {ts : List V} {rows : List Row} (h : H a = some (.lst ts)) (p : Paired (RowT H) ts rows) (c : ∀ r∈rows,(rowD r).canLay0 = true) : Has K H (passD rows) (.ref a):=⟨a,_,rfl,SqL.of h,hasL_rowT p c⟩
theorem Held.can' {H : Hp} {D : Addr} {prs : List PR} (h : Held H D prs) : ∀ r∈prs.map (·.2),(rowD r).canLay0 = true:=fun r hr=>by
 obtain ⟨x,hx,rfl⟩:=List.mem_map.mp hr
 exact h.can x hx
theorem Held.has {H : Hp} {D : Addr} {prs : List PR} (h : Held H D prs) : Has K H (heldD (prs.map (·.2))) (.ref D):=⟨D,_,rfl,SqL.of h.top,by rw [List.map_map]; exact hasL_rows h.row h.can⟩
noncomputable def spTold (C : Addr) : Sp:=fun vs H Q _=>∃ p dx nn ll nums ls D prs sA,vs = [.ref p,.ref D,.ref sA]∧Hall H C p dx nn ll nums ls∧Held H D prs∧H sA = some (.lst ((seenOf nums).map V.str))∧(∀ x∈seenOf nums,(PyData.str x).canLay0 = true) ∧
 Paired (LR (seenOf nums)) ls (prs.map (·.2))∧ls.length < 100∧∀ H',Same H H'→Q (.bl true) H'
theorem sc_told : FnScope ["_law_hall","_law_held","_law_seen","_law_rooms","_law_passages","_law_one"] ["_law_hall","_law_held","_law_seen"] (defScope (top 28)):=⟨rfl,rfl,rfl,by decide +kernel,rfl,by decide +kernel,by decide +kernel⟩
theorem ok_told {f : Addr} {fd : FuncData} (F : Fun K "_law_told" "_law_told" (top 28) f fd) (B : Bl mg) (KT : Kits K) (c : Cl K C) (C_law_whole : Cal P w K mg base 1 "_law_whole" ["_law_found"] (spV K m__law_whole))
  (Mr : Ms P w K mg base C 1 "rooms" ["self"] (spRooms C)) (Mp : Ms P w K mg base C 2 "passages" ["self"] (spPass C)) : FnOk P w K mg base CX0 3 f fd ["_law_hall","_law_held","_law_seen"] (spTold C):=by
 have nd:=sc_told.nd
 have vt:=(show (["_law_hall","_law_held","_law_seen","_law_rooms","_law_passages","_law_one"] : List Str).all (fun x=>visB (defScope (top 28)) x && plain x) = true by decide +kernel)
 obtain ⟨f7,fd7,F7,m7,b7⟩:=Mr.ex
 obtain ⟨f8,fd8,F8,m8,b8⟩:=Mp.ex
 refine Fun.ok (k:=2) F sc_told (fun vs H Q E h=>by obtain ⟨_,_,_,_,_,_,_,_,_,rfl,_⟩:=h; rfl) fun cdv A outer s H vs Q E hr hsp=>?_
 obtain ⟨p,dx,nn,ll,nums,ls,D,prs,sA,rfl,hh,hH,hs,hcan,hR,hl,hq⟩:=hsp
 refine ⟨_,pss_cons (ps_set (i:=3) nd rfl (lo (sc:=defScope (top 28)) (by decide +kernel)) (pe_meth0 (pV vt 0) c.cl m7 F7 (hr.mono (by decide)) b7 .nil pass0))
  (pss_cons (ps_set (i:=4) nd rfl (lo (sc:=defScope (top 28)) (by decide +kernel)) (pe_meth0 (pV vt 0) c.cl m8 F8 hr b8 .nil pass0))
  (pss_cons (ps_if (PW.pt (wOr (cNot (cVal (dIsi KT.list (pe_callB cIsi (gl (sc:=(defScope (top 28))) (by decide +kernel)) B.isinstance PyProof.Rows.boot_isinstance (pa_cons (mw (dN (pV vt 3))) (pa_cons (pe_bltn (v:=.ty "list") (gl (sc:=(defScope (top 28))) (by decide +kernel)) B.list PyProof.Rows.boot_list rfl) pa_nil)))))) (wOr (cCmp (op_neD hr.units) hNe (mw (dN (pV vt 3))) (mw (dN (pV vt 2)))) (wOr1 (cNot (cVal (dIsi KT.list (pe_callB cIsi (gl (sc:=(defScope (top 28))) (by decide +kernel)) B.isinstance PyProof.Rows.boot_isinstance (pa_cons (mw (dN (pV vt 4))) (pa_cons (pe_bltn (v:=.ty "list") (gl (sc:=(defScope (top 28))) (by decide +kernel)) B.list PyProof.Rows.boot_list rfl) pa_nil)))))))))) (pss_one (ps_ret pe_bl)) pss_nil)
  (pss_cons (ps_if (cCmp (op_neD hr.units) hNe (mw (dN (pV vt 4))) (nw (dLC (pe_lc (te:=tV K RS _) (tc:=tVT K _) (g:=tVG K _ _) (N':=["_law_row"]) (cap:=[none]) ["_law_hall","_law_held","_law_seen","_law_rooms","_law_passages","_law_one"] (defScope (top 28)) rfl (by decide +kernel) rfl rfl (itL (dF (pV vt 1))) (fun _ _ _ _ _=>(tgN (pgC (i:=0) (show (["_law_row"] : List Str).Nodup by decide +kernel) (by decide +kernel)))) (fun _ _ _ _ _=>ifN) (fun _ _ _ _ _=>(dTupOf (pe_callTy cTup (glC (by decide +kernel)) (by exact B.tuple) PyProof.Rows.boot_tuple (pa_cons (dN (pVc (by decide +kernel) 0)) pa_nil)))))))) (pss_one (ps_ret pe_bl)) pss_nil)
  (pss_cons (ps_for PassesOwn.never rfl (pi_list (pV vt 4)) (pg_name (i:=5) nd rfl (lo (sc:=defScope (top 28)) (by decide +kernel))) (pss_one (ps_if (PW.pt (wOr (cNot (cVal (dIsi KT.tuple (pe_callB cIsi (gl (sc:=(defScope (top 28))) (by decide +kernel)) B.isinstance PyProof.Rows.boot_isinstance (pa_cons (mw (dN (pV vt 5))) (pa_cons (pe_bltn (v:=.ty "tuple") (gl (sc:=(defScope (top 28))) (by decide +kernel)) B.tuple PyProof.Rows.boot_tuple rfl) pa_nil)))))) (wOr (cNot (cVal (dCal (peCal C_law_whole (hr.mono (by decide)) (gl (sc:=(defScope (top 28))) (by decide +kernel)) (paC (dIx (dN (pV vt 5)) (sw dInt)) pa0))))) (wOr1 (cNot (cVal (dCal (peCal C_law_whole (hr.mono (by decide)) (gl (sc:=(defScope (top 28))) (by decide +kernel)) (paC (dIx (dN (pV vt 5)) (sw dInt)) pa0))))))))) (pss_one (ps_ret pe_bl)) pss_nil)))
  (pss_cons (ps_expr (peClr (pV vt 3)))
  (pss_cons (ps_expr (peClr (pV vt 4)))
  (pss_one (ps_ret (peAnd (peC (op_eqD hr.units) (pe_meth0 (pV vt 0) c.cl m7 F7 (hr.mono (by decide)) b7 .nil pass0) (pV vt 2)) (pe_one (peC (op_eqD hr.units) (pe_meth0 (pV vt 0) c.cl m8 F8 hr b8 .nil pass0) (nw (dLC (pe_lc (te:=tV K RS _) (tc:=tVT K _) (g:=tVG K _ _) (N':=["_law_row"]) (cap:=[none]) ["_law_hall","_law_held","_law_seen","_law_rooms","_law_passages","_law_one"] (defScope (top 28)) rfl (by decide +kernel) rfl rfl (itL (dF (pV vt 1))) (fun _ _ _ _ _=>(tgN (pgC (i:=0) (show (["_law_row"] : List Str).Nodup by decide +kernel) (by decide +kernel)))) (fun _ _ _ _ _=>ifN) (fun _ _ _ _ _=>(dTupOf (pe_callTy cTup (glC (by decide +kernel)) (by exact B.tuple) PyProof.Rows.boot_tuple (pa_cons (dN (pVc (by decide +kernel) 0)) pa_nil)))))))))))))))))),?_⟩
 have hc':=hH.can'
 have hrl : (prs.map (·.2)).length < 1000:=by rw [← hR.length]; omega
 generalize hrows : prs.map (·.2) = rows at hR hc' hrl
 have held : ∀ {H' : Hp},Same H H'→Has K H' (heldD rows) (.ref D):=fun k=>by rw [← hrows]; exact (hH.grow k).has
 have hseen : ∀ {H' : Hp},Same H H'→Has K H' (strsD (seenOf nums)) (.ref sA):=fun k=>has_strs (k _ _ hs) hcan
 unfold tSeq tAsg tMeth tNil gName
 refine vR_at (v:=.ref p) rfl ⟨p,dx,_,rfl,hh.ins,rfl,p,dx,nn,ll,nums,ls,rfl,hh,fun rz hrz=>?_⟩
 have s1:=same_upd_new (o:=.lst ((seenOf nums).map V.str)) hrz
 have hz1 : upd H rz (.lst ((seenOf nums).map V.str)) rz = some (.lst ((seenOf nums).map V.str)):=upd_same
 generalize upd H rz (.lst ((seenOf nums).map V.str)) = H1 at s1 hz1 ⊢
 dsimp only
 have hh1:=hh.grow s1
 refine vR_at (v:=.ref p) rfl ⟨p,dx,_,rfl,hh1.ins,rfl,p,dx,nn,ll,nums,ls,rows,rfl,hh1,hl,hR,fun H2 pz ts s2 hpz hts hrw=>?_⟩
 have s12:=s1.trans s2
 have hz2:=s2 _ _ hz1
 have hpr : rz ≠ pz:=fun z=>by subst z; rw [hz1] at hpz; cases hpz
 have fr : ∀ {H' : Hp},Same H2 H'→FrAt K H' [none,some (.fr,heldD rows),some (.fr,strsD (seenOf nums)),some (.fr,strsD (seenOf nums)),some (.fr,passD rows),none] [some (.ref p),some (.ref D),some (.ref sA),some (.ref rz),some (.ref pz),none]:=fun k =>
  ⟨_,_,rfl,_,_,rfl,rfl,held (s12.trans k),_,_,rfl,rfl,hseen (s12.trans k),_,_,rfl,rfl,has_strs (k _ _ hz2) hcan,_,_,rfl,rfl,has_pass (k _ _ hts) (hrw.mono fun v r h=>let ⟨t,a,b⟩:=h; ⟨t,a,k _ _ b⟩) hc',_,_,rfl,rfl⟩
 unfold tIfS
 refine tVT_at (fr (Same.refl _)) (e_t3 hcan) fun H3 s3=>?_
 rw [if_neg (by simp)]
 unfold tNext
 dsimp only
 refine tVT_at (fr s3) (e_t4 hrl hc') fun H4 s4=>?_
 rw [if_neg (by simp)]
 have s24:=s3.trans s4
 rw [tFor_eq]
 unfold iList
 refine vR_at (v:=.ref pz) rfl ⟨pz,rfl,⟨_,SqL.of (s24 _ _ hts)⟩,?_⟩
 refine forL (xs:=ts) (fun i σ' H'=>(∃ y,σ' = [some (.ref p),some (.ref D),some (.ref sA),some (.ref rz),some (.ref pz),y])∧Same H2 H') ⟨⟨_,rfl⟩,s24⟩ (fun i σ' H' _ h=>SqL.of (h.2 _ _ hts)) ?_ ?_
 ·rintro i v σ' H' hv ⟨⟨y,rfl⟩,i1⟩
  obtain ⟨r,er,hrt⟩:=paired_get hrw hv
  have hrt' : RowT H' v r:=let ⟨t,a,b⟩:=hrt; ⟨t,a,i1 _ _ b⟩
  show tVT K _ [some (.ref p),some (.ref D),some (.ref sA),some (.ref rz),some (.ref pz),some v] H' _
  refine tVT_at (S:=[none,none,none,none,none,some (.fr,rowTD r)]) ⟨_,_,rfl,_,_,rfl,_,_,rfl,_,_,rfl,_,_,rfl,_,_,rfl,rfl,has_rowT hrt' (hc' r (List.mem_of_getElem? er)),rfl⟩ e_t5 fun H6 s6=>?_
  rw [if_neg (by simp)]
  exact ⟨⟨_,rfl⟩,i1.trans s6⟩
 ·rintro σ' H5 ⟨⟨y,rfl⟩,s25⟩
  try dsimp only
  unfold tDrop tBM0
  refine vR_at (v:=.ref rz) rfl ⟨.inl ⟨rfl,_,SqL.of (s25 _ _ hz2)⟩,_,s25 _ _ hz2,?_⟩
  dsimp only
  refine vR_at (v:=.ref pz) rfl ⟨.inl ⟨rfl,ts,SqL.of (by rw [upd_ne hpr.symm]; exact s25 _ _ hts)⟩,ts,by rw [upd_ne hpr.symm]; exact s25 _ _ hts,?_⟩
  have s7 : Same H (upd (upd H5 rz (.lst [])) pz (.lst [])):=fun b o e=>by
   have e5:=s25 _ _ (s12 _ _ e)
   have z1 : b ≠ rz:=fun z=>by subst z; rw [hrz] at e; cases e
   have z2 : b ≠ pz:=fun z=>by subst z; have:=s1 _ _ e; rw [hpz] at this; cases this
   rw [upd_ne z2,upd_ne z1]; exact e5
  generalize upd (upd H5 rz (.lst [])) pz (.lst []) = H7 at s7 ⊢
  have hh7:=hh.grow s7
  dsimp only
  unfold tRet tAndM
  rw [op2]
  refine vR_at (v:=.ref p) rfl ⟨p,dx,_,rfl,hh7.ins,rfl,p,dx,nn,ll,nums,ls,rfl,hh7,fun rz2 hrz2=>?_⟩
  have s8:=same_upd_new (o:=.lst ((seenOf nums).map V.str)) hrz2
  have hz8 : upd H7 rz2 (.lst ((seenOf nums).map V.str)) rz2 = some (.lst ((seenOf nums).map V.str)):=upd_same
  generalize upd H7 rz2 (.lst ((seenOf nums).map V.str)) = H8 at s8 hz8 ⊢
  have s78:=s7.trans s8
  have hh8:=hh.grow s78
  refine vR_at (v:=.ref sA) rfl ⟨_,_,has_strs hz8 hcan,hseen s78,depth_strs _,?_⟩
  rw [SeqAt.eqv_refl _ (can_strs hcan)]
  show (if true = true then _ else _)
  rw [if_pos rfl,op2]
  refine vR_at (v:=.ref p) rfl ⟨p,dx,_,rfl,hh8.ins,rfl,p,dx,nn,ll,nums,ls,rows,rfl,hh8,hl,hR,fun H9 qz us s9 hqz hus hrw9=>?_⟩
  have s19:=s78.trans s9
  refine tVW_at (S:=[none,some (.fr,heldD rows),none,none,none,none]) ⟨_,_,rfl,_,_,rfl,rfl,held s19,_,_,rfl,_,_,rfl,_,_,rfl,_,_,rfl,rfl⟩ (e_lcH hrl) fun v H10 s10 hv=>?_
  refine ⟨_,_,has_pass (s10 _ _ hus) (hrw9.mono fun v r h=>let ⟨t,a,b⟩:=h; ⟨t,a,s10 _ _ b⟩) hc',hv,depth_pass _,?_⟩
  rw [SeqAt.eqv_refl _ (can_pass hc')]
  exact hq _ (s19.trans s10)
end
end K61
namespace K61
open PySem PySem.Spec PyProof.Rows L2 VM
set_option maxHeartbeats 4000000
noncomputable def cellI (ns : List Int) (k : Int) : Int:=ns.getD k.toNat 0
theorem atI_ints {ns : List Int} {k : Int} (h0 : 0≤k) (h1 : k < ns.length) : atI (ns.map PyData.int) k = some (.int (cellI ns k)):=by
 obtain ⟨j,rfl⟩ : ∃ j : Nat,k = j:=⟨k.toNat,by omega⟩
 have hj : j < ns.length:=by omega
 refine atI_nat ?_
 simp [hj,cellI]
noncomputable def divN (n : Int) : Nat→Int
 | 0=>n
 | k + 1=>divN n k / 1000000000000
noncomputable def mixO (x k : Int) : Int:=((x * x + 16807 * x + k) % 2147483629) * ((x * x + 16807 * x + k) % 2147483629) % 2147483587
noncomputable def mixI (c k : Int) : Int:=if c % 2 = 0 then divN ((if c < 0 then -c else c) / 2) k.toNat else mixO ((c + 7919 * k) % 2147483629) k
theorem mod_in (a : Int) {b : Int} (h : 0 < b) : 0≤a % b∧a % b < b:=⟨Int.emod_nonneg a (by omega),Int.emod_lt_of_pos a h⟩
theorem e_cell {ns : List Int} {k : Int} (h0 : 0≤k) : m__law_cell_at [.list (ns.map .int),.int k] = some (false,.int (cellI ns k)):=by
 unfold m__law_cell_at g__law_cell_at
 walk_at "e0"
 simp only [List.length_map]
 by_cases h : k < ns.length
 ·simp only [h,decide_true]
  walk_at "e0"
  rw [atI_ints h0 h]
  walk_at "e0"
 ·simp only [h,decide_false]
  walk_at "e0"
  have e : cellI ns k = 0:=by
   unfold cellI
   rw [List.getD_eq_getElem?_getD,List.getElem?_eq_none (by omega)]
   rfl
  rw [e]
theorem e_mix {c k : Int} (h0 : 0≤k) (h1 : k≤100) : m__law_mixed [.int c,.int k] = some (false,.int (mixI c k)):=by
 unfold m__law_mixed g__law_mixed mixI
 walk_at "e0"
 simp only [modD_i (show (0 : Int) < 2 by decide),eqD_i]
 walk_at "e0"
 by_cases h : c % 2 = 0
 ·simp only [h,decide_true]
  walk_at "e0"
  simp only [divD_i (show (0 : Int) < 2 by decide) (by decide)]
  walk_at "e0"
  rw [if_pos (by omega)]
  walk_at "e0"
  have key:=forG_fun (t:=gN 3) (g:=gAs (v2 divD (vN 2) (v2 powD (vC (.int 10)) (vC (.int 12)))) (gN 2))
   (fun i=>[some (Tg.fr,.int c),some (Tg.fr,.int k),some (Tg.fr,.int (divN ((if c < 0 then -c else c) / 2) i)),if i = 0 then none else some (Tg.fr,.int ((i - 1 : Nat) : Int))]) (rangeD 0 k.toNat) 0 ?_
  ·simp only [divN,↓reduceIte,Nat.zero_add,rangeD_length] at key
   rw [key]
   walk_at "e0"
  ·intro j d hj
   obtain ⟨hj,rfl⟩:=rangeD_get hj
   refine ⟨[some (Tg.fr,.int c),some (Tg.fr,.int k),some (Tg.fr,.int (divN ((if c < 0 then -c else c) / 2) j)),some (Tg.fr,.int (j : Int))],?_,?_⟩
   ·cases j <;> (walk_at "e0"; simp [nio])
   ·walk_at "e0"
    simp only [powD_i (show (0 : Int)≤12 by decide) (by decide) (show (0 : Int)≤10 by decide) (by decide)]
    walk_at "e0"
    simp only [divD_i (show (0 : Int) < 1000000000000 by decide) (by decide)]
    walk_at "e0"
    simp [divN]
 ·simp only [h,decide_false]
  walk_at "e0"
  rw [mulD_i (by decide) (by decide) (by omega) (by omega)]
  walk_at "e0"
  simp only [modD_i (show (0 : Int) < 2147483629 by decide)]
  walk_at "e0"
  have b:=mod_in (c + 7919 * k) (show (0 : Int) < 2147483629 by decide)
  generalize (c + 7919 * k) % 2147483629 = x at *
  rw [mulD_i (by omega) (by omega) (by omega) (by omega)]
  walk_at "e0"
  rw [mulD_i (by omega) (by omega) (by omega) (by omega)]
  walk_at "e0"
  simp only [modD_i (show (0 : Int) < 2147483629 by decide)]
  walk_at "e0"
  have b:=mod_in (x * x + 16807 * x + k) (show (0 : Int) < 2147483629 by decide)
  unfold mixO
  generalize (x * x + 16807 * x + k) % 2147483629 = y at *
  rw [mulD_i (by omega) (by omega) (by omega) (by omega)]
  walk_at "e0"
  simp only [modD_i (show (0 : Int) < 2147483587 by decide)]
  walk_at "e0"
theorem e_wid (c : Int) : ∃ w,m__law_width [.int c] = some (false,.int w)∧1≤w:=by
 unfold m__law_width g__law_width
 walk_at "e0"
 simp only [e_mix (c:=c) (k:=1) (by decide) (by decide)]
 walk_at "e0"
 simp only [modD_i (show (0 : Int) < 4 by decide),eqD_i]
 walk_at "e0"
 by_cases h : mixI c 1 % 4 = 0
 ·simp only [h,decide_true]
  walk_at "e0"
  simp only [powD_i (show (0 : Int)≤58 by decide) (by decide) (show (0 : Int)≤10 by decide) (by decide)]
  walk_at "e0"
  simp only [modD_i (show (0 : Int) < 10000000000000000000000000000000000000000000000000000000000 by decide)]
  walk_at "e0"
  exact ⟨_,rfl,by have:=mod_in c (show (0 : Int) < 10000000000000000000000000000000000000000000000000000000000 by decide); omega⟩
 ·simp only [h,decide_false]
  walk_at "e0"
  simp only [divD_i (show (0 : Int) < 4 by decide) (by decide)]
  walk_at "e0"
  simp only [modD_i (show (0 : Int) < 6 by decide)]
  walk_at "e0"
  exact ⟨_,rfl,by have:=mod_in (mixI c 1 / 4) (show (0 : Int) < 6 by decide); omega⟩
theorem e_len (c : Int) : ∃ w,m__law_length [.int c] = some (false,.int w)∧1≤w:=by
 unfold m__law_length g__law_length
 walk_at "e0"
 simp only [e_mix (c:=c) (k:=2) (by decide) (by decide)]
 walk_at "e0"
 simp only [modD_i (show (0 : Int) < 6 by decide),eqD_i]
 walk_at "e0"
 by_cases h : mixI c 2 % 6 = 0
 ·simp only [h,decide_true]
  walk_at "e0"
  simp only [powD_i (show (0 : Int)≤58 by decide) (by decide) (show (0 : Int)≤10 by decide) (by decide)]
  walk_at "e0"
  simp only [modD_i (show (0 : Int) < 10000000000000000000000000000000000000000000000000000000000 by decide)]
  walk_at "e0"
  exact ⟨_,rfl,by have:=mod_in c (show (0 : Int) < 10000000000000000000000000000000000000000000000000000000000 by decide); omega⟩
 ·simp only [h,decide_false]
  walk_at "e0"
  simp only [divD_i (show (0 : Int) < 6 by decide) (by decide)]
  walk_at "e0"
  simp only [modD_i (show (0 : Int) < 5 by decide)]
  walk_at "e0"
  exact ⟨_,rfl,by have:=mod_in (mixI c 2 / 6) (show (0 : Int) < 5 by decide); omega⟩
noncomputable def abc : Str:="abcdefghijklmnopqrstuvwxyz"
theorem abc_cps : abc.cps.toList = (List.range 26).map (· + 97):=by decide +kernel
theorem abc_len : abc.length = 26:=by decide +kernel
noncomputable def AZ (x : Str) : Prop:=∀ c∈x.cps.toList,97≤c∧c≤122
theorem abc_az : AZ abc:=fun c hc=>by
 rw [abc_cps] at hc
 obtain ⟨i,hi,rfl⟩:=List.mem_map.mp hc
 have:=List.mem_range.mp hi
 omega
theorem cut_cps (z : Str) (lo hi : Option Int) : (cutS z lo hi).cps.toList = cutN z.cps.toList lo hi:=by unfold cutS; simp
theorem AZ.cut {z : Str} (h : AZ z) (lo hi : Option Int) : AZ (cutS z lo hi):=fun c hc=>by
 rw [cut_cps] at hc
 exact h c (List.mem_of_mem_drop (List.mem_of_mem_take hc))
theorem len_cps (z : Str) : z.length = z.cps.toList.length:=by simp [Str.length]
theorem cut_len_le (z : Str) (lo hi : Option Int) : (cutS z lo hi).length≤z.length:=by
 rw [len_cps,cut_cps,len_cps z]
 unfold cutN
 rw [List.length_take,List.length_drop]
 omega
theorem sIx_pos {n d : Nat} (i : Int) (h : 0≤i) : HT.sIx n d (some i) = min i.toNat n:=by
 show (if i < 0 then _ else _) = _
 rw [if_neg (by omega)]
theorem cut_11 (z : Str) : (cutS z none (some 11)).length≤11:=by
 rw [len_cps,cut_cps]
 unfold cutN
 rw [sIx_pos 11 (by decide),List.length_take]
 show min (min 11 _ - _) _≤11
 omega
theorem cut_pre (z : Str) (i : Nat) (h : i≤z.length) : (cutS z none (some (i : Int))).cps.toList = z.cps.toList.take i:=by
 rw [cut_cps]
 unfold cutN
 rw [sIx_pos (i : Int) (by omega),Int.toNat_natCast,← len_cps]
 show (z.cps.toList.drop 0).take (min i z.length - 0) = _
 rw [List.drop_zero,Nat.sub_zero,Nat.min_eq_left h]
theorem cut_suf (z : Str) (i : Nat) (h : i≤z.length) : (cutS z (some (i : Int)) none).cps.toList = z.cps.toList.drop i:=by
 rw [cut_cps]
 unfold cutN
 rw [sIx_pos (i : Int) (by omega),Int.toNat_natCast,← len_cps,Nat.min_eq_left h]
 show (z.cps.toList.drop i).take (z.length - i) = _
 rw [List.take_of_length_le]
 rw [List.length_drop,← len_cps]
 exact Nat.le_refl _
noncomputable def wordOf (base : Str) (i j : Nat) : Str:=(cutS base none (some (i : Int)) ++ ⟨#[j + 97]⟩) ++ cutS base (some (i : Int)) none
theorem word_cps {base : Str} {i : Nat} (j : Nat) (h : i≤base.length) : (wordOf base i j).cps.toList = base.cps.toList.take i ++ (j + 97) :: base.cps.toList.drop i:=by
 unfold wordOf
 rw [app_cps,app_cps,cut_pre base i h,cut_suf base i h]
 simp
theorem word_inj {base : Str} {i j k : Nat} (h : i≤base.length) (e : wordOf base i j = wordOf base i k) : j = k:=by
 have:=congrArg (fun z : Str=>z.cps.toList) e
 simp only [word_cps _ h] at this
 have:=List.append_cancel_left this
 have:=(List.cons.inj this).1
 omega
theorem AZ.ascii {z : Str} (h : AZ z) : ascii z = true:=by
 unfold L2.ascii
 rw [Array.all_eq_true']
 intro c hc
 have:=h c (by simpa using hc)
 simp; omega
theorem AZ.can {z : Str} (h : AZ z) : (PyData.str z).canLay0 = true:=by
 rw [can_str]
 intro c hc
 have:=h c hc
 omega
theorem sgn_le {c : Nat} (h : 97≤c∧c≤122) : (vCh leSD leSD (vC (.str "a")) (vN 0) (vC (.str "z"))) [some (.fr,.str ⟨#[c]⟩)] = some (.bool true):=by
 have e1 : leSD (.str "a") (.str ⟨#[c]⟩) = some (.bool true):=by
  show some (PyData.bool (!decide ([c] < ("a" : Str).cps.toList))) = _
  have : (("a" : Str).cps.toList) = [97]:=by decide +kernel
  rw [this,decide_eq_false (fun z=>by rcases List.cons_lt_cons_iff.mp z with g | ⟨_,g⟩; omega; exact absurd g (by simp))]
  rfl
 have e2 : leSD (.str ⟨#[c]⟩) (.str "z") = some (.bool true):=by
  show some (PyData.bool (!decide (("z" : Str).cps.toList < [c]))) = _
  have : (("z" : Str).cps.toList) = [122]:=by decide +kernel
  rw [this,decide_eq_false (fun z=>by rcases List.cons_lt_cons_iff.mp z with g | ⟨_,g⟩; omega; exact absurd g (by simp))]
  rfl
 walk_at "e0"
 rw [e1]
 walk_at "e0"
 exact e2
theorem name_ok {z : Str} (h : AZ z) (h1 : 1≤z.length) (h2 : z.length≤12) : NameOk z:=by
 refine ⟨?_,h.can⟩
 have el : lenSD [.str z] = some (.int (z.length : Int)):=by show (if z.length≤1000 then _ else _) = _; rw [if_pos (by omega)]
 have es : (vLC (vItemsS (vN 0)) [none] (gN 0) cTrue (vCh leSD leSD (vC (.str "a")) (vN 0) (vC (.str "z")))) [some (.fr,.str z)] = some (.list (z.cps.toList.map fun _=>.bool true)):=by
  rw [vLC_eq]
  unfold vItemsS
  have en : vN 0 [some (.fr,.str z)] = some (.str z):=by walk_at "e0"
  rw [en]
  simp only [h.ascii,if_true]
  unfold sgnsD
  rw [bLC_s rfl (by rw [List.length_map,← len_cps]; exact size_big (by omega))]
  rw [lcD_map (f:=fun _=>.bool true)]
  ·walk_at "e0"
   rw [List.map_map]
   rfl
  ·intro d hd
   obtain ⟨c,hc,rfl⟩:=List.mem_map.mp hd
   exact ⟨[some (.fr,.str ⟨#[c]⟩)],by walk_at "e0",rfl,sgn_le (h c hc)⟩
 have ea : allD [.list (z.cps.toList.map fun _=>.bool true)] = some (.bool true):=by
  show (boolsOf _).map _ = _
  rw [show (z.cps.toList.map fun _=>PyData.bool true) = (z.cps.toList.map fun _=>true).map PyData.bool by rw [List.map_map]; rfl,boolsOf_map]
  simp
 have eB : (tNot2 (vB (vCB allD (aC (vLC (vItemsS (vN 0)) [none] (gN 0) cTrue (vCh leSD leSD (vC (.str "a")) (vN 0) (vC (.str "z")))) a0)))) [some (.fr,.str z)] = some false:=by
  unfold tNot2 vB vCB
  rw [aC_eq,es]
  show (match (match allD [.list (z.cps.toList.map fun _=>.bool true)] with | some (.bool b)=>some b | _=>none) with | some b=>some !b | none=>none) = _
  rw [ea]
  rfl
 have eA : (tNot2 (vB (vCh leD leD (vC (.int 1)) (vCB lenSD (aC (vN 0) a0)) (vC (.int 12))))) [some (.fr,.str z)] = some false:=by
  walk_at "e0"
  rw [el]
  walk_at "e0"
  have g1 : decide ((1 : Int)≤(z.length : Int)) = true:=decide_eq_true (by omega)
  have g2 : decide ((z.length : Int)≤12) = true:=decide_eq_true (by omega)
  simp only [g1,g2]
  walk_at "e0"
  simp only [g2]
  walk_at "e0"
 have eT : (tOr2 (tNot2 (vB (vCh leD leD (vC (.int 1)) (vCB lenSD (aC (vN 0) a0)) (vC (.int 12))))) (tNot2 (vB (vCB allD (aC (vLC (vItemsS (vN 0)) [none] (gN 0) cTrue (vCh leSD leSD (vC (.str "a")) (vN 0) (vC (.str "z")))) a0))))) [some (.fr,.str z)] = some false:=by
  rw [tOr_eq,eA,bOr_f,eB]
 unfold m_look_at_name g_look_at_name
 rw [fnM_eq (by rfl)]
 show bFn (gIf _ gFail gNop [some (.fr,.str z)]) = _
 rw [gIf_eq,eT,bIf_f]
 rfl
noncomputable def baseOf (n : Int) : Str:=cutS (cutS abc (some (n % 26)) (some (n % 26 + n / 26 % 12))) none (some 11)
noncomputable def atOf (n : Int) : Nat:=(n / 312 % ((baseOf n).length + 1 : Int)).toNat
noncomputable def wordsOf (n : Int) (many : Nat) : List Str:=(List.range many).map fun j=>wordOf (baseOf n) (atOf n) j
theorem at_le (n : Int) : atOf n≤(baseOf n).length:=by
 unfold atOf
 have:=mod_in (n / 312) (show (0 : Int) < ((baseOf n).length + 1 : Int) by omega)
 omega
theorem base_az (n : Int) : AZ (baseOf n):=(abc_az.cut _ _).cut _ _
theorem word_ok (n : Int) {j : Nat} (hj : j < 26) : NameOk (wordOf (baseOf n) (atOf n) j):=by
 have ec:=word_cps j (at_le n)
 have hb:=cut_11 (cutS abc (some (n % 26)) (some (n % 26 + n / 26 % 12)))
 have hb' : (baseOf n).length≤11:=hb
 have hl : (wordOf (baseOf n) (atOf n) j).length = (baseOf n).length + 1:=by
  rw [len_cps,ec,List.length_append,List.length_cons,List.length_take,List.length_drop,← len_cps,Nat.min_eq_left (at_le n)]
  have:=at_le n
  omega
 refine name_ok (fun c hc=>?_) (by omega) (by omega)
 rw [ec] at hc
 rcases List.mem_append.mp hc with g | g
 ·exact base_az n c (List.mem_of_mem_take g)
 ·rcases List.mem_cons.mp g with g | g
  ·omega
  ·exact base_az n c (List.mem_of_mem_drop g)
theorem words_ok (n : Int) {many : Nat} (hm : many≤8) : ∀ x∈wordsOf n many,NameOk x:=fun x hx=>by
 obtain ⟨j,hj,rfl⟩:=List.mem_map.mp hx
 have:=List.mem_range.mp hj
 exact word_ok n (by omega)
theorem words_nd (n : Int) (many : Nat) : (wordsOf n many).Nodup:=by
 unfold wordsOf
 refine List.Pairwise.map _ (fun a b h=>?_) List.nodup_range
 exact fun e=>h (word_inj (at_le n) e)
theorem words_len (n : Int) (many : Nat) : (wordsOf n many).length = many:=by unfold wordsOf; rw [List.length_map,List.length_range]
theorem vSlS_at {f : VE} {l u : GS→Option (Option Int)} {S : GS} {x : Str} {lo hi : Option Int} (h1 : f S = some (.str x)) (h2 : l S = some lo) (h3 : u S = some hi) (h : x.length≤1000) : vSlS f l u S = some (.str (cutS x lo hi)):=by
 unfold vSlS
 rw [h1,h2,h3]
 exact if_pos h
theorem catSD_at {x y : Str} (h : x.length + y.length≤1000) : catSD (.str x) (.str y) = some (.str (x ++ y)):=if_pos h
theorem ixSD_at {x : Str} {j c : Nat} (h : x.length≤1000) (e : x.cps.toList[j]? = some c) : ixSD (.str x) (.int (j : Int)) = some (.str ⟨#[c]⟩):=by
 show (if x.length≤1000 then _ else _) = _
 rw [if_pos h,atI_nat e]
 rfl
theorem lenSD_at {x : Str} (h : x.length≤1000) : lenSD [.str x] = some (.int (x.length : Int)):=if_pos h
theorem app_len (x y : Str) : (x ++ y).length = x.length + y.length:=by rw [len_cps,app_cps,List.length_append,← len_cps,← len_cps]
theorem e_words {c k : Int} (h0 : 0≤k) (h1 : k≤100) {many : Nat} (hm : many≤8) : m__law_words [.int c,.int (many : Int),.int k] = some (true,strsD (wordsOf (mixI c k) many)):=by
 unfold m__law_words g__law_words
 walk_at "e0"
 simp only [e_mix (c:=c) (k:=k) h0 h1]
 walk_at "e0"
 generalize mixI c k = n
 have hb1 : (cutS abc (some (n % 26)) (some (n % 26 + n / 26 % 12))).length≤26:=by rw [← abc_len]; exact cut_len_le _ _ _
 have hb2 : (baseOf n).length≤11:=cut_11 _
 rw [vSlS_at (x:=abc) (lo:=some (n % 26)) (hi:=some (n % 26 + n / 26 % 12)) (by walk_at "e0"; rfl) (by walk_at "e0"; simp only [modD_i (show (0 : Int) < 26 by decide)])
  (by walk_at "e0"; simp only [modD_i (show (0 : Int) < 26 by decide)]; walk_at "e0"; simp only [divD_i (show (0 : Int) < 26 by decide) (by decide)]; walk_at "e0"; simp only [modD_i (show (0 : Int) < 12 by decide)]; walk_at "e0") (by rw [abc_len]; decide)]
 walk_at "e0"
 rw [vSlS_at (x:=cutS abc (some (n % 26)) (some (n % 26 + n / 26 % 12))) (lo:=none) (hi:=some 11) (by walk_at "e0") (by walk_at "e0") (by walk_at "e0") (by omega)]
 walk_at "e0"
 rw [show cutS (cutS abc (some (n % 26)) (some (n % 26 + n / 26 % 12))) none (some 11) = baseOf n from rfl]
 simp only [divD_i (show (0 : Int) < 312 by decide) (by decide)]
 walk_at "e0"
 rw [lenSD_at (show (baseOf n).length≤1000 by omega)]
 walk_at "e0"
 rw [modD_i (show (0 : Int) < ((baseOf n).length : Int) + 1 by omega)]
 walk_at "e0"
 have ea : n / 312 % (((baseOf n).length : Int) + 1) = (atOf n : Int):=by
  unfold atOf
  have:=mod_in (n / 312) (show (0 : Int) < ((baseOf n).length + 1 : Int) by omega)
  omega
 rw [ea]
 rw [if_pos (by omega)]
 walk_at "e0"
 rw [bLC_s rfl (by rw [rangeD_length]; exact size_big (by omega))]
 have hal:=at_le n
 rw [lcD_map (f:=fun d=>match d with | .int j=>.str (wordOf (baseOf n) (atOf n) j.toNat) | d=>d)]
 ·walk_at "e0"
  unfold strsD wordsOf rangeD
  rw [List.map_map,List.map_map,Int.toNat_natCast]
  refine congrArg (fun l=>some (true,PyData.list l)) (List.map_congr_left fun j _=>?_)
  show PyData.str (wordOf (baseOf n) (atOf n) (0 + (j : Int)).toNat) = _
  rw [show (0 + (j : Int)).toNat = j by omega]
  rfl
 ·intro d hd
  obtain ⟨j,hj,rfl⟩:=List.getElem_of_mem hd
  have hj' : j < many:=by rw [rangeD_length,Int.toNat_natCast] at hj; exact hj
  have ed : (rangeD 0 (many : Int).toNat)[j] = .int (j : Int):=by
   have:=(rangeD_get (lo:=0) (n:=(many : Int).toNat) (j:=j) (d:=(rangeD 0 (many : Int).toNat)[j]) (by simp [hj])).2
   rw [this]
   congr 1
   omega
  rw [ed]
  refine ⟨[some (.fr,.int (j : Int)),some (.fr,.str (baseOf n)),some (.fr,.str abc),some (.fr,.int (atOf n : Int))],by walk_at "e0"; rfl,rfl,?_⟩
  have e1 : (vSlS (vN 1) oN (oI (vN 3))) [some (.fr,.int (j : Int)),some (.fr,.str (baseOf n)),some (.fr,.str abc),some (.fr,.int (atOf n : Int))] = some (.str (cutS (baseOf n) none (some (atOf n : Int)))) :=
   vSlS_at (by walk_at "e0") (by walk_at "e0") (by walk_at "e0") (by omega)
  have e2 : (vSlS (vN 1) (oI (vN 3)) oN) [some (.fr,.int (j : Int)),some (.fr,.str (baseOf n)),some (.fr,.str abc),some (.fr,.int (atOf n : Int))] = some (.str (cutS (baseOf n) (some (atOf n : Int)) none)) :=
   vSlS_at (by walk_at "e0") (by walk_at "e0") (by walk_at "e0") (by omega)
  have e3 : ixSD (.str abc) (.int (j : Int)) = some (.str ⟨#[j + 97]⟩):=ixSD_at (by rw [abc_len]; decide) (by rw [abc_cps,List.getElem?_map,List.getElem?_range (by omega)]; rfl)
  have l1:=cut_len_le (baseOf n) none (some (atOf n : Int))
  have l2:=cut_len_le (baseOf n) (some (atOf n : Int)) none
  have l3 : (⟨#[j + 97]⟩ : Str).length = 1:=rfl
  rw [v2_eq,v2_eq,e1,b2_s]
  walk_at "e0"
  rw [e3,b1_s,catSD_at (by rw [l3]; omega),b2_s,e2,b1_s,catSD_at (by rw [app_len,l3]; omega)]
  rfl
end K61
namespace K61
open PySem PySem.Spec PyProof.Rows L2 VM
set_option maxHeartbeats 4000000
theorem inSD_at (x : Str) (xs : List Str) : inSD true (.str x) (.list (xs.map .str)) = some (.bool (!(xs.any fun y=>y == x))):=by
 show (match strsOf (xs.map .str) with | some xs=>some (PyData.bool (if true = true then !(xs.any fun y=>y == x) else xs.any fun y=>y == x)) | none=>none) = _
 rw [strsOf_map]
 rfl
noncomputable def freshOf (words : List Str) (nms : List Str) : Option Str:=words.find? fun x=>!(nms.any fun y=>y == x)
theorem fresh_loop {L1 L2 : PyData} (nms : List Str) : ∀ (words : List Str) (x3 : Option (Tg × PyData)),(x3 = none∨∃ z,x3 = some (.fr,.str z)) →
  (∃ w,freshOf words nms = some w∧forG (gN 3) (gIf (vB (v2 (inSD true) (vN 3) (vN 2))) (gRetO 3) gNop) (words.map .str) [some (.fr,L1),some (.fr,L2),some (.fr,.list (nms.map .str)),x3] = .ret [some (.fr,L1),some (.fr,L2),some (.fr,.list (nms.map .str)),some (.fr,.str w)] false (.str w))
 ∨freshOf words nms = none
 | [],_,_=>.inr rfl
 | w :: ws,x3,hx=>by
  by_cases h : (nms.any fun y=>y == w) = true
  ·have ih:=fresh_loop (L1:=L1) (L2:=L2) nms ws (some (.fr,.str w)) (.inr ⟨w,rfl⟩)
   have e : freshOf (w :: ws) nms = freshOf ws nms:=by
    unfold freshOf
    rw [List.find?_cons,h]
    rfl
   rw [e]
   rcases ih with ⟨v,g1,g2⟩ | g
   ·refine .inl ⟨v,g1,?_⟩
    rw [List.map_cons,forG]
    rcases hx with rfl | ⟨z,rfl⟩ <;> (walk_at "e0"; rw [inSD_at,h]; walk_at "e0"; exact g2)
   ·exact .inr g
  ·have h' : (nms.any fun y=>y == w) = false:=Bool.eq_false_iff.mpr h
   refine .inl ⟨w,?_,?_⟩
   ·unfold freshOf
    rw [List.find?_cons,h']
    rfl
   ·rw [List.map_cons,forG]
    rcases hx with rfl | ⟨z,rfl⟩ <;> (walk_at "e0"; rw [inSD_at,h']; walk_at "e0")
theorem e_fresh {words : List Str} {rows : List Row} {w : Str} (hl : rows.length < 1000) (h : freshOf words (rows.map (·.1)) = some w) : m__law_fresh [strsD words,heldD rows] = some (false,.str w):=by
 have eL : (vLC (vItems (vF 1)) [none] (gN 0) cTrue (v2 ixDt (vN 0) (vC (.int 0)))) [some (.fr,strsD words),some (.fr,heldD rows),none,none] = some (.list ((rows.map (·.1)).map .str)):=by
  unfold heldD
  walk_at "e0"
  rw [bLC_s rfl (by rw [List.length_map]; exact size_big (by omega))]
  rw [lcD_map (f:=fun d=>match d with | .list (x :: _)=>x | d=>d)]
  ·walk_at "e0"
   rw [List.map_map,List.map_map]
   rfl
  ·intro d hd
   obtain ⟨r,_,rfl⟩:=List.mem_map.mp hd
   exact ⟨_,rfl,rfl,rfl⟩
 rcases fresh_loop (L1:=strsD words) (L2:=heldD rows) (rows.map (·.1)) words none (.inl rfl) with ⟨v,g1,g2⟩ | g
 ·rw [h] at g1
  cases g1
  unfold m__law_fresh g__law_fresh
  rw [fnM_eq (by rfl)]
  show bFn (gSeq _ _ [some (.fr,strsD words),some (.fr,heldD rows),none,none]) = _
  rw [gSeq_eq,gOwF_eq,eL]
  unfold strsD at g2 ⊢
  walk_at "e0"
  rw [g2]
  walk_at "e0"
 ·rw [h] at g; cases g
noncomputable def Deed.dat : Deed→PyData
 | .lay nm a b w l=>.tuple [.str "lay",.str nm,.str a,.str b,.int w,.int l]
 | .shut nm=>.tuple [.str "shut",.str nm]
 | .widen nm k=>.tuple [.str "widen",.str nm,.int k]
 | .narrow nm k=>.tuple [.str "narrow",.str nm,.int k]
structure Draw (rooms names : List Str) (rows : List Row) : Prop where
 r2 : 2≤rooms.length
 r5 : rooms.length≤5
 rn : rooms.Nodup
 n8 : names.length = 8
 nn : (rows.map (·.1)).Nodup
 sub : ∀ r∈rows,r.1∈names
 wd : ∀ r∈rows,1≤r.2.2.2.1
noncomputable def DeedOk (rooms names : List Str) (rows : List Row) : Deed→Prop
 | .lay nm a b w l=>nm∈names∧nm ∉ rows.map (·.1)∧a∈rooms∧b∈rooms∧a ≠ b∧1≤w∧1≤l
 | .shut nm=>nm∈rows.map (·.1)
 | .widen nm k=>nm∈rows.map (·.1)∧1≤k
 | .narrow nm k=>∃ r∈rows,r.1 = nm∧1≤k∧k < r.2.2.2.1
theorem nodup_le {xs ys : List Str} (h : xs.Nodup) (s : ∀ x∈xs,x∈ys) : xs.length≤ys.length:=by
 induction xs generalizing ys with
 | nil=>exact Nat.zero_le _
 | cons x xs ih =>
  obtain ⟨h1,h2⟩:=List.nodup_cons.mp h
  have hx:=s x (List.mem_cons_self ..)
  have:=ih (ys:=ys.erase x) h2 fun y hy=>(List.mem_erase_of_ne (fun z : y = x=>h1 (by rw [← z]; exact hy))).mpr (s y (List.mem_cons_of_mem _ hy))
  rw [List.length_erase_of_mem hx] at this
  have:=List.length_pos_of_mem hx
  rw [List.length_cons]; omega
theorem Draw.len {rooms names : List Str} {rows : List Row} (h : Draw rooms names rows) : rows.length≤8:=by
 have:=nodup_le (ys:=names) h.nn fun x hx=>by
  obtain ⟨r,hr,rfl⟩:=List.mem_map.mp hx
  exact h.sub r hr
 rw [List.length_map,h.n8] at this
 exact this
theorem fresh_some {names nms : List Str} (hn : names.Nodup) (h : nms.length < names.length) : ∃ w,freshOf names nms = some w∧w∈names∧w ∉ nms:=by
 cases e : freshOf names nms with
 | some w =>
  refine ⟨w,rfl,List.mem_of_find?_eq_some e,fun hw=>?_⟩
  have:=List.find?_some e
  have h2 : (nms.any fun y=>y == w) = true:=List.any_eq_true.mpr ⟨w,hw,by simp⟩
  rw [h2] at this
  cases this
 | none =>
  have:=List.find?_eq_none.mp e
  have:=nodup_le hn (ys:=nms) fun x hx=>by
   have:=this x hx
   simpa using this
  omega
theorem ixD_strs {xs : List Str} {i : Nat} (h : i < xs.length) : ixDt (.list (xs.map .str)) (.int (i : Int)) = some (.str xs[i]):=by
 show atI _ _ = _
 exact atI_nat (by simp [h])
theorem ixD_rows {xs : List Row} {i : Nat} (h : i < xs.length) : ixDt (.list (xs.map rowD)) (.int (i : Int)) = some (rowD xs[i]):=by
 show atI _ _ = _
 exact atI_nat (by simp [h])
theorem eq_nil (rows : List Row) : eqD (.list (rows.map rowD)) (.list []) = some (.bool (decide (rows = []))):=by
 unfold eqD
 have hd : (PyData.list (rows.map rowD)).depth≤60:=by
  have:=depth_all (rows.map rowD) 10 (fun d hd=>by obtain ⟨x,_,rfl⟩:=List.mem_map.mp hd; simp [rowD,PyData.depth,PyData.depthAll])
  simp only [PyData.depth]
  omega
 rw [if_pos hd]
 cases rows with
 | nil=>rfl
 | cons r rs=>simp [PyData.eqv,PyData.eqvAll]
noncomputable def gLayB : VS := (gSeq (gAs (v2 modD (v2 divD (vN 4) (vC (.int 9))) (vCB lenD (aC (vN 2) a0))) (gN 6))
 (gSeq (gAs (v2 modD (v2 addD (v2 addD (vN 6) (vC (.int 1))) (v2 modD (v2 divD (vN 4) (vC (.int 90))) (v2 subD (vCB lenD (aC (vN 2) a0)) (vC (.int 1))))) (vCB lenD (aC (vN 2) a0))) (gN 7))
 (gRet (vTup (aC (vC (.str "lay")) (aC (vCall m__law_fresh (aC (vF 3) (aC (vF 1) a0))) (aC (v2 ixDt (vN 2) (vN 6)) (aC (v2 ixDt (vN 2) (vN 7)) (aC (vCall m__law_width (aC (vF 0) a0)) (aC (vCall m__law_length (aC (vF 0) a0)) a0))))))))))
noncomputable def gRestB : VS := (gSeq (gAs (v2 ixDt (vN 1) (v2 modD (v2 divD (vN 4) (vC (.int 9))) (vCB lenD (aC (vN 1) a0)))) (gN 8))
 (gSeq (gIf (vB (v2 eqD (vN 5) (vC (.int 5))))
 (gRet (vTup (aC (vC (.str "shut")) (aC (v2 ixDt (vN 8) (vC (.int 0))) a0))))
 gNop)
 (gSeq (gIf (VM.tAnd2 (vB (v2 eqD (vN 5) (vC (.int 6)))) (vB (v2 gtD (v2 ixDt (vN 8) (vC (.int 3))) (vC (.int 1)))))
 (gRet (vTup (aC (vC (.str "narrow")) (aC (v2 ixDt (vN 8) (vC (.int 0))) (aC (v2 addD (vC (.int 1)) (v2 modD (v2 divD (vN 4) (vC (.int 90))) (vCB min2D (aC (v2 subD (v2 ixDt (vN 8) (vC (.int 3))) (vC (.int 1))) (aC (vC (.int 3)) a0))))) a0)))))
 gNop)
 (gRet (vTup (aC (vC (.str "widen")) (aC (v2 ixDt (vN 8) (vC (.int 0))) (aC (vCall m__law_width (aC (vF 0) a0)) a0))))))))
theorem deed_eq : g__law_deed = (gSeq (gAs (vCall m__law_mixed (aC (vF 0) (aC (vC (.int 0)) a0))) (gN 4))
 (gSeq (gAs (v2 modD (vN 4) (vC (.int 9))) (gN 5))
 (gSeq (gIf (tOr2 (vB (v2 eqD (vN 1) (vLst a0))) (VM.tAnd2 (vB (v2 ltD (vN 5) (vC (.int 5)))) (vB (v2 ltD (vCB lenD (aC (vN 1) a0)) (vCB lenD (aC (vN 3) a0))))))
 gLayB gNop) gRestB))) := rfl
noncomputable def slot (c n : Int) (rows : List Row) (rooms names : List Str) : GS:=[some (.fr,.int c),some (.fr,.list (rows.map rowD)),some (.fr,.list (rooms.map .str)),some (.fr,.list (names.map .str)),some (.fr,.int n),some (.fr,.int (n % 9)),none,none,none]
theorem layB {c n : Int} {rooms names : List Str} {rows : List Row} (h : Draw rooms names rows) (hnn : names.Nodup) (hlt : rows.length < names.length) : ∃ d S',gLayB (slot c n rows rooms names) = .ret S' false d.dat∧DeedOk rooms names rows d:=by
 have h8:=h.len
 have r2:=h.r2
 have r5:=h.r5
 have n8:=h.n8
 obtain ⟨w,hw1,hw2,hw3⟩:=fresh_some (nms:=rows.map (·.1)) hnn (by rw [List.length_map]; exact hlt)
 have hf:=e_fresh (rows:=rows) (by omega) hw1
 unfold heldD strsD at hf
 obtain ⟨wd,e1,e2⟩:=e_wid c
 obtain ⟨ln,e3,e4⟩:=e_len c
 have ma:=mod_in (n / 9) (show (0 : Int) < (rooms.length : Int) by omega)
 have ms:=mod_in (n / 90) (show (0 : Int) < (rooms.length : Int) - 1 by omega)
 obtain ⟨ia,hia⟩ : ∃ ia : Nat,n / 9 % (rooms.length : Int) = ia:=⟨(n / 9 % (rooms.length : Int)).toNat,by omega⟩
 have hia' : ia < rooms.length:=by omega
 obtain ⟨st,hst⟩ : ∃ st : Nat,n / 90 % ((rooms.length : Int) - 1) = st:=⟨(n / 90 % ((rooms.length : Int) - 1)).toNat,by omega⟩
 have mb:=mod_in ((ia : Int) + 1 + st) (show (0 : Int) < (rooms.length : Int) by omega)
 obtain ⟨ib,hib⟩ : ∃ ib : Nat,((ia : Int) + 1 + st) % (rooms.length : Int) = ib:=⟨(((ia : Int) + 1 + st) % (rooms.length : Int)).toNat,by omega⟩
 have hib' : ib < rooms.length:=by omega
 have hne : ia ≠ ib:=fun g=>by
  subst g
  have h1 : ((ia : Int) + 1 + st) < (rooms.length : Int)∨(rooms.length : Int)≤((ia : Int) + 1 + st):=by omega
  rcases h1 with h1 | h1
  ·rw [Int.emod_eq_of_lt (by omega) h1] at hib; omega
  ·have e : ((ia : Int) + 1 + st) % (rooms.length : Int) = ((ia : Int) + 1 + st) - (rooms.length : Int):=by
    rw [← Int.sub_emod_right,Int.emod_eq_of_lt (by omega) (by omega)]
   omega
 refine ⟨.lay w rooms[ia] rooms[ib] wd ln,[some (.fr,.int c),some (.fr,.list (rows.map rowD)),some (.fr,.list (rooms.map .str)),some (.fr,.list (names.map .str)),some (.fr,.int n),some (.fr,.int (n % 9)),some (.fr,.int (ia : Int)),some (.fr,.int (ib : Int)),none],?_,hw2,hw3,List.getElem_mem hia',List.getElem_mem hib',fun g=>hne ((List.getElem_inj h.rn).mp g),e2,e4⟩
 unfold gLayB slot
 walk_at "e0"
 simp only [divD_i (show (0 : Int) < 9 by decide) (by decide)]
 walk_at "e0"
 simp only [List.length_map]
 rw [modD_i (show (0 : Int) < (rooms.length : Int) by omega),hia]
 walk_at "e0"
 simp only [divD_i (show (0 : Int) < 90 by decide) (by decide)]
 walk_at "e0"
 simp only [List.length_map]
 rw [modD_i (show (0 : Int) < (rooms.length : Int) - 1 by omega),hst]
 walk_at "e0"
 simp only [List.length_map]
 rw [modD_i (show (0 : Int) < (rooms.length : Int) by omega),hib]
 walk_at "e0"
 rw [hf]
 walk_at "e0"
 rw [show atI (rooms.map PyData.str) (ia : Int) = some (.str rooms[ia]) from ixD_strs hia']
 walk_at "e0"
 rw [show atI (rooms.map PyData.str) (ib : Int) = some (.str rooms[ib]) from ixD_strs hib']
 walk_at "e0"
 rw [e1]
 walk_at "e0"
 rw [e3]
 walk_at "e0"
 rfl
theorem restB {c n : Int} {rooms names : List Str} {rows : List Row} (h : Draw rooms names rows) (hne : rows ≠ []) : ∃ d S',gRestB (slot c n rows rooms names) = .ret S' false d.dat∧DeedOk rooms names rows d:=by
 have h8:=h.len
 have hpos : 0 < rows.length:=List.length_pos_iff.mpr hne
 have ma:=mod_in (n / 9) (show (0 : Int) < (rows.length : Int) by omega)
 obtain ⟨i,hi⟩ : ∃ i : Nat,n / 9 % (rows.length : Int) = i:=⟨(n / 9 % (rows.length : Int)).toNat,by omega⟩
 have hi' : i < rows.length:=by omega
 have hm : rows[i]∈rows:=List.getElem_mem hi'
 have hwd:=h.wd _ hm
 have hat : atI (rows.map rowD) (i : Int) = some (rowD rows[i]):=ixD_rows hi'
 generalize rows[i] = r at hm hwd hat
 have hmn : r.1∈rows.map (·.1):=List.mem_map_of_mem (f:=fun x : Row=>x.1) hm
 by_cases c5 : n % 9 = 5
 ·refine ⟨.shut r.1,[some (.fr,.int c),some (.fr,.list (rows.map rowD)),some (.fr,.list (rooms.map .str)),some (.fr,.list (names.map .str)),some (.fr,.int n),some (.fr,.int (n % 9)),none,none,some (.fr,rowD r)],?_,hmn⟩
  unfold gRestB slot
  walk_at "e0"
  simp only [divD_i (show (0 : Int) < 9 by decide) (by decide)]
  walk_at "e0"
  simp only [List.length_map]
  rw [modD_i (show (0 : Int) < (rows.length : Int) by omega),hi]
  walk_at "e0"
  rw [hat]
  walk_at "e0"
  simp only [c5,decide_true]
  unfold rowD
  walk_at "e0"
  rfl
 ·by_cases c6 : n % 9 = 6∧1 < r.2.2.2.1
  ·have mm:=mod_in (n / 90) (show (0 : Int) < min (r.2.2.2.1 - 1) 3 by omega)
   refine ⟨.narrow r.1 (1 + n / 90 % min (r.2.2.2.1 - 1) 3),[some (.fr,.int c),some (.fr,.list (rows.map rowD)),some (.fr,.list (rooms.map .str)),some (.fr,.list (names.map .str)),some (.fr,.int n),some (.fr,.int (n % 9)),none,none,some (.fr,rowD r)],?_,r,hm,rfl,by omega,by omega⟩
   unfold gRestB slot
   walk_at "e0"
   simp only [divD_i (show (0 : Int) < 9 by decide) (by decide)]
   walk_at "e0"
   simp only [List.length_map]
   rw [modD_i (show (0 : Int) < (rows.length : Int) by omega),hi]
   walk_at "e0"
   rw [hat]
   walk_at "e0"
   have d5 : decide (n % 9 = 5) = false:=decide_eq_false c5
   have d6 : decide (n % 9 = 6) = true:=decide_eq_true c6.1
   have d1 : decide (r.2.2.2.1 > 1) = true:=decide_eq_true c6.2
   simp only [d5]
   walk_at "e0"
   simp only [d6]
   unfold rowD
   walk_at "e0"
   simp only [d1]
   walk_at "e0"
   simp only [divD_i (show (0 : Int) < 90 by decide) (by decide)]
   walk_at "e0"
   rw [show (if 3 < r.2.2.2.1 - 1 then (3 : Int) else r.2.2.2.1 - 1) = min (r.2.2.2.1 - 1) 3 by split <;> omega]
   rw [modD_i (show (0 : Int) < min (r.2.2.2.1 - 1) 3 by omega)]
   walk_at "e0"
   rfl
  ·obtain ⟨wd,e1,e2⟩:=e_wid c
   refine ⟨.widen r.1 wd,[some (.fr,.int c),some (.fr,.list (rows.map rowD)),some (.fr,.list (rooms.map .str)),some (.fr,.list (names.map .str)),some (.fr,.int n),some (.fr,.int (n % 9)),none,none,some (.fr,rowD r)],?_,hmn,e2⟩
   unfold gRestB slot
   walk_at "e0"
   simp only [divD_i (show (0 : Int) < 9 by decide) (by decide)]
   walk_at "e0"
   simp only [List.length_map]
   rw [modD_i (show (0 : Int) < (rows.length : Int) by omega),hi]
   walk_at "e0"
   rw [hat]
   walk_at "e0"
   have d5 : decide (n % 9 = 5) = false:=decide_eq_false c5
   simp only [d5]
   unfold rowD
   walk_at "e0"
   by_cases g6 : n % 9 = 6
   ·have d6 : decide (n % 9 = 6) = true:=decide_eq_true g6
    simp only [d6]
    walk_at "e0"
    have : decide (r.2.2.2.1 > 1) = false:=decide_eq_false (fun z=>c6 ⟨g6,z⟩)
    simp only [this]
    walk_at "e0"
    rw [e1]
    walk_at "e0"
    rfl
   ·have d6 : decide (n % 9 = 6) = false:=decide_eq_false g6
    simp only [d6]
    walk_at "e0"
    rw [e1]
    walk_at "e0"
    rfl
theorem e_deed {c : Int} {rooms names : List Str} {rows : List Row} (h : Draw rooms names rows) (hnn : names.Nodup) : ∃ d,m__law_deed [.int c,heldD rows,strsD rooms,strsD names] = some (false,d.dat)∧DeedOk rooms names rows d:=by
 have h8:=h.len
 have n8:=h.n8
 unfold m__law_deed
 rw [deed_eq]
 unfold heldD strsD
 walk_at "e0"
 simp only [e_mix (c:=c) (k:=0) (by decide) (by decide)]
 walk_at "e0"
 simp only [modD_i (show (0 : Int) < 9 by decide)]
 walk_at "e0"
 generalize mixI c 0 = n
 rw [eq_nil]
 walk_at "e0"
 by_cases hnil : rows = []
 ·simp only [hnil,decide_true]
  walk_at "e0"
  obtain ⟨d,S',g1,g2⟩:=layB (c:=c) (n:=n) h hnn (by rw [hnil,n8]; decide)
  rw [hnil] at g1
  refine ⟨d,?_,by rw [← hnil]; exact g2⟩
  unfold slot at g1
  rw [List.map_nil] at g1
  rw [g1]
  walk_at "e0"
 ·simp only [hnil,decide_false]
  walk_at "e0"
  have fin : ∃ d,bFn (gRestB (slot c n rows rooms names)) = some (false,d.dat)∧DeedOk rooms names rows d:=by
   obtain ⟨d,S',g1,g2⟩:=restB (c:=c) (n:=n) h hnil
   exact ⟨d,by rw [g1]; walk_at "e0",g2⟩
  by_cases c5 : n % 9 < 5
  ·simp only [c5,decide_true]
   walk_at "e0"
   simp only [List.length_map]
   by_cases hlt : rows.length < names.length
   ·have e : decide ((rows.length : Int) < (names.length : Int)) = true:=decide_eq_true (by omega)
    simp only [e]
    walk_at "e0"
    obtain ⟨d,S',g1,g2⟩:=layB (c:=c) (n:=n) h hnn hlt
    refine ⟨d,?_,g2⟩
    unfold slot at g1
    rw [g1]
    walk_at "e0"
   ·have e : decide ((rows.length : Int) < (names.length : Int)) = false:=decide_eq_false (by omega)
    simp only [e]
    walk_at "e0"
    exact fin
  ·simp only [c5,decide_false]
   walk_at "e0"
   exact fin
end K61
namespace K61
open PySem PySem.Spec PyProof.Rows L2 VM
set_option maxHeartbeats 4000000
noncomputable def LN (seen : List Str) (x : Str × Q4) (r : Row) : Prop:=x.1 = r.1∧(∃ i : Nat,x.2.1 = i∧seen[i]? = some r.2.1)∧(∃ j : Nat,x.2.2.1 = j∧seen[j]? = some r.2.2.1)∧x.2.2.2.1 = r.2.2.2.1∧x.2.2.2.2 = r.2.2.2.2
theorem LN.lr {seen : List Str} {x : Str × Q4} {r : Row} (h : LN seen x r) : LR seen x r:=by
 obtain ⟨h1,⟨i,h2,h3⟩,⟨j,h4,h5⟩,h6,h7⟩:=h
 refine ⟨h1,?_,?_,h6,h7⟩
 ·rw [h2]; exact atI_nat (by rw [List.getElem?_map,h3]; rfl)
 ·rw [h4]; exact atI_nat (by rw [List.getElem?_map,h5]; rfl)
theorem get_grow {seen more : List Str} {i : Nat} {x : Str} (h : seen[i]? = some x) : (seen ++ more)[i]? = some x:=by
 rw [List.getElem?_append_left (List.getElem?_eq_some_iff.mp h).1]; exact h
theorem LN.grow {seen more : List Str} {x : Str × Q4} {r : Row} (h : LN seen x r) : LN (seen ++ more) x r:=by
 obtain ⟨h1,⟨i,h2,h3⟩,⟨j,h4,h5⟩,h6,h7⟩:=h
 exact ⟨h1,⟨i,h2,get_grow h3⟩,⟨j,h4,get_grow h5⟩,h6,h7⟩
structure Ok (rooms names : List Str) (rows : List Row) (nums : List (Str × Int)) (ls : List (Str × Q4)) : Prop where
 dr : Draw rooms names rows
 num : ∀ (i : Nat) x,nums[i]? = some x→x.2 = (i : Int)
 nd : (seenOf nums).Nodup
 sub : ∀ x∈seenOf nums,x∈rooms
 lr : Paired (LN (seenOf nums)) ls rows
theorem paired_names {seen : List Str} {ls : List (Str × Q4)} {rows : List Row} (h : Paired (LN seen) ls rows) : ls.map (·.1) = rows.map (·.1):=by
 induction h with
 | nil=>rfl
 | cons h _ ih=>rw [List.map_cons,List.map_cons,ih,h.1]
theorem getP_none {α : Type} {nm : Str} : ∀ {l : List (Str × α)},nm ∉ l.map (·.1)→getP nm l = none
 | [],_=>rfl
 | x :: r,h=>by
  rw [getP,if_neg fun e=>h (by rw [List.map_cons,e]; exact List.mem_cons_self ..)]
  exact getP_none fun z=>h (by rw [List.map_cons]; exact List.mem_cons_of_mem _ z)
theorem getP_ex {α : Type} {nm : Str} : ∀ {l : List (Str × α)},nm∈l.map (·.1)→∃ v,getP nm l = some v
 | [],h=>by cases h
 | x :: r,h=>by
  rw [getP]
  by_cases e : x.1 = nm
  ·exact ⟨x.2,by rw [if_pos e]⟩
  ·rw [if_neg e]
   refine getP_ex ?_
   rcases List.mem_cons.mp h with g | g
   ·exact absurd g.symm e
   ·exact g
theorem getP_mem {α : Type} {nm : Str} {v : α} : ∀ {l : List (Str × α)},getP nm l = some v→∃ i : Nat,l[i]? = some (nm,v)
 | [],h=>by cases h
 | x :: r,h=>by
  rw [getP] at h
  by_cases e : x.1 = nm
  ·rw [if_pos e] at h
   cases h
   exact ⟨0,by rw [← e]; rfl⟩
  ·rw [if_neg e] at h
   obtain ⟨i,hi⟩:=getP_mem h
   exact ⟨i + 1,hi⟩
theorem getP_uniq {α : Type} {nm : Str} : ∀ {l : List (Str × α)} {x : Str × α},(l.map (·.1)).Nodup→x∈l→x.1 = nm→getP nm l = some x.2
 | [],x,_,h,_=>by cases h
 | y :: r,x,hn,h,e=>by
  rw [List.map_cons] at hn
  obtain ⟨h1,h2⟩:=List.nodup_cons.mp hn
  rw [getP]
  rcases List.mem_cons.mp h with g | g
  ·rw [if_pos (by rw [← g]; exact e),g]
  ·rw [if_neg fun z=>h1 (by rw [z,← e]; exact List.mem_map_of_mem (f:=fun x : Str × α=>x.1) g)]
   exact getP_uniq h2 g e
theorem putP_new {α : Type} {nm : Str} {v : α} {l : List (Str × α)} (h : nm ∉ l.map (·.1)) : putP nm v l = l ++ [(nm,v)]:=by
 unfold putP
 rw [if_neg]
 intro z
 obtain ⟨x,hx,e⟩:=List.any_eq_true.mp z
 exact h (by rw [← of_decide_eq_true e]; exact List.mem_map_of_mem (f:=fun x : Str × α=>x.1) hx)
theorem putP_old {α : Type} {nm : Str} {v : α} {l : List (Str × α)} (h : nm∈l.map (·.1)) : putP nm v l = l.map fun x=>if x.1 = nm then (x.1,v) else x:=by
 unfold putP
 rw [if_pos]
 obtain ⟨x,hx,e⟩:=List.mem_map.mp h
 exact List.any_eq_true.mpr ⟨x,hx,decide_eq_true e⟩
theorem addF_seen : ∀ {rs : List Str} {nums : List (Str × Int)},rs.Nodup→(∀ r∈rs,r ∉ seenOf nums)→(∀ (i : Nat) x,nums[i]? = some x→x.2 = (i : Int))→seenOf (addF nums rs) = seenOf nums ++ rs∧∀ (i : Nat) x,(addF nums rs)[i]? = some x→x.2 = (i : Int)
 | [],nums,_,_,hn=>⟨by rw [List.append_nil]; rfl,hn⟩
 | r :: rs,nums,h1,h2,hn=>by
  obtain ⟨a1,a2⟩:=List.nodup_cons.mp h1
  have e : addF nums (r :: rs) = addF (nums ++ [(r,(nums.length : Int))]) rs:=by
   show addF (putP r (nums.length : Int) nums) rs = _
   rw [putP_new (h2 r (List.mem_cons_self ..))]
  have es : seenOf (nums ++ [(r,(nums.length : Int))]) = seenOf nums ++ [r]:=by unfold seenOf; rw [List.map_append]; rfl
  rw [e]
  obtain ⟨b1,b2⟩:=addF_seen (rs:=rs) (nums:=nums ++ [(r,(nums.length : Int))]) a2 (fun x hx=>by
   rw [es]
   intro z
   rcases List.mem_append.mp z with g | g
   ·exact h2 x (List.mem_cons_of_mem _ hx) g
   ·exact a1 (by rw [← List.mem_singleton.mp g]; exact hx)) (fun i x ex=>by
   rcases Nat.lt_or_ge i nums.length with g | g
   ·rw [List.getElem?_append_left g] at ex; exact hn i x ex
   ·rw [List.getElem?_append_right g] at ex
    have : i - nums.length = 0:=by
     rcases Nat.eq_zero_or_pos (i - nums.length) with z | z
     ·exact z
     ·rw [List.getElem?_eq_none (by simp; omega)] at ex; cases ex
    rw [this] at ex
    cases ex
    show (nums.length : Int) = i
    omega)
  exact ⟨by rw [b1,es,List.append_assoc]; rfl,b2⟩
theorem new_is {nums : List (Str × Int)} {r : Str} : (getP r nums).isNone = true ↔ r ∉ seenOf nums:=by
 constructor
 ·intro h z
  obtain ⟨v,e⟩:=getP_ex z
  rw [e] at h; cases h
 ·intro h
  rw [getP_none h]; rfl
theorem any_mem {s : List Str} {r : Str} : (s.any fun y=>y == r) = true ↔ r∈s:=by
 rw [List.any_eq_true]
 constructor
 ·rintro ⟨x,hx,e⟩
  rw [← eq_of_beq e]; exact hx
 ·exact fun h=>⟨r,h,beq_self_eq_true r⟩
theorem add_two {nums : List (Str × Int)} {a b : Str} (hab : a ≠ b) : addS (seenOf nums) [a,b] = seenOf nums ++ newOf nums [a,b]:=by
 have step : ∀ (s : List Str) (r : Str),(if (s.any fun y=>y == r) = true then s else s ++ [r]) = if r∈s then s else s ++ [r]:=fun s r=>by
  by_cases h : r∈s
  ·rw [if_pos (any_mem.mpr h),if_pos h]
  ·rw [if_neg fun z=>h (any_mem.mp z),if_neg h]
 show (if ((if ((seenOf nums).any fun y=>y == a) = true then seenOf nums else seenOf nums ++ [a]).any fun y=>y == b) = true then (if ((seenOf nums).any fun y=>y == a) = true then seenOf nums else seenOf nums ++ [a]) else (if ((seenOf nums).any fun y=>y == a) = true then seenOf nums else seenOf nums ++ [a]) ++ [b]) = _
 rw [step,step]
 unfold newOf
 by_cases ha : a∈seenOf nums
 ·rw [if_pos ha]
  have na : (getP a nums).isNone = false:=Bool.eq_false_iff.mpr fun z=>new_is.mp z ha
  by_cases hb : b∈seenOf nums
  ·rw [if_pos hb]
   have nb : (getP b nums).isNone = false:=Bool.eq_false_iff.mpr fun z=>new_is.mp z hb
   simp [List.filter_cons,na,nb]
  ·rw [if_neg hb]
   have nb : (getP b nums).isNone = true:=new_is.mpr hb
   simp [List.filter_cons,na,nb]
 ·rw [if_neg ha]
  have na : (getP a nums).isNone = true:=new_is.mpr ha
  by_cases hb : b∈seenOf nums
  ·rw [if_pos (List.mem_append.mpr (.inl hb))]
   have nb : (getP b nums).isNone = false:=Bool.eq_false_iff.mpr fun z=>new_is.mp z hb
   simp [List.filter_cons,na,nb]
  ·have nb : (getP b nums).isNone = true:=new_is.mpr hb
   rw [if_neg fun z=>by
    rcases List.mem_append.mp z with g | g
    ·exact hb g
    ·exact hab (List.mem_singleton.mp g).symm]
   simp [List.filter_cons,na,nb]
theorem num_at {nums : List (Str × Int)} {r : Str} (hn : ∀ (i : Nat) x,nums[i]? = some x→x.2 = (i : Int)) (h : r∈seenOf nums) : ∃ i : Nat,getP r nums = some (i : Int)∧(seenOf nums)[i]? = some r:=by
 obtain ⟨v,e⟩:=getP_ex h
 obtain ⟨i,hi⟩:=getP_mem e
 have:=hn i _ hi
 exact ⟨i,by rw [e,← this],by unfold seenOf; rw [List.getElem?_map,hi]; rfl⟩
theorem paired_filter {R : (Str × Q4)→Row→Prop} {p : (Str × Q4)→Bool} {q : Row→Bool} {l : List (Str × Q4)} {r : List Row} (h : Paired R l r) (hpq : ∀ x y,R x y→p x = q y) : Paired R (l.filter p) (r.filter q):=by
 induction h with
 | nil=>exact .nil
 | @cons a b _ _ h _ ih =>
  rw [List.filter_cons,List.filter_cons,hpq a b h]
  split
  ·exact .cons h ih
  ·exact ih
theorem paired_map {R : (Str × Q4)→Row→Prop} {f : (Str × Q4)→(Str × Q4)} {g : Row→Row} {l : List (Str × Q4)} {r : List Row} (h : Paired R l r) : (∀ x∈l,∀ y,R x y→R (f x) (g y))→Paired R (l.map f) (r.map g):=by
 induction h with
 | nil=>intro _; exact .nil
 | @cons a b _ _ h _ ih =>
  intro k
  exact .cons (k a (List.mem_cons_self ..) b h) (ih fun x hx=>k x (List.mem_cons_of_mem _ hx))
theorem paired_left {R : (Str × Q4)→Row→Prop} {l : List (Str × Q4)} {r : List Row} (h : Paired R l r) : ∀ {y : Row},y∈r→∃ x∈l,R x y:=by
 induction h with
 | nil=>intro y hy; cases hy
 | @cons a b _ _ h _ ih =>
  intro y hy
  rcases List.mem_cons.mp hy with g | g
  ·rw [g]; exact ⟨a,List.mem_cons_self ..,h⟩
  ·obtain ⟨x,hx,e⟩:=ih g
   exact ⟨x,List.mem_cons_of_mem _ hx,e⟩
theorem chg_names (nm : Str) (k : Int) (rows : List Row) : (rows.map (chgR nm k)).map (·.1) = rows.map (·.1):=by
 rw [List.map_map]
 refine List.map_congr_left fun r _=>?_
 show (chgR nm k r).1 = r.1
 unfold chgR
 split <;> rfl
theorem row_uniq {rows : List Row} (h : (rows.map (·.1)).Nodup) {r s : Row} (hr : r∈rows) (hs : s∈rows) (e : r.1 = s.1) : r = s:=by
 induction rows with
 | nil=>cases hr
 | cons x xs ih =>
  rw [List.map_cons] at h
  obtain ⟨h1,h2⟩:=List.nodup_cons.mp h
  rcases List.mem_cons.mp hr with g | g <;> rcases List.mem_cons.mp hs with g' | g'
  ·rw [g,g']
  ·exact absurd (by rw [← g,e]; exact List.mem_map_of_mem (f:=fun x : Row=>x.1) g') h1
  ·exact absurd (by rw [← g',← e]; exact List.mem_map_of_mem (f:=fun x : Row=>x.1) g) h1
  ·exact ih h2 g g'
section
variable {rooms names : List Str} {rows : List Row} {nums : List (Str × Int)} {ls : List (Str × Q4)}
theorem Ok.len (h : Ok rooms names rows nums ls) : ls.length≤8∧nums.length≤5:=by
 have h1:=h.lr.length
 have h2:=h.dr.len
 have h3:=nodup_le h.nd h.sub
 have h4:=h.dr.r5
 have h5 : (seenOf nums).length = nums.length:=by unfold seenOf; rw [List.length_map]
 omega
theorem Ok.chg (h : Ok rooms names rows nums ls) {nm : Str} {k : Int} (hm : nm∈rows.map (·.1)) (hw : ∀ r∈rows,r.1 = nm→1≤r.2.2.2.1 + k) :
  ∃ q,getP nm ls = some q∧(∀ r∈rows,r.1 = nm→q.2.2.1 = r.2.2.2.1)∧Ok rooms names (rows.map (chgR nm k)) nums (putP nm (q.1,q.2.1,q.2.2.1 + k,q.2.2.2) ls):=by
 have en:=paired_names h.lr
 have hml : nm∈ls.map (·.1):=by rw [en]; exact hm
 have hnl : (ls.map (·.1)).Nodup:=by rw [en]; exact h.dr.nn
 obtain ⟨q,hq⟩:=getP_ex hml
 refine ⟨q,hq,fun r hr e=>?_,⟨h.dr.r2,h.dr.r5,h.dr.rn,h.dr.n8,by rw [chg_names]; exact h.dr.nn,fun r hr=>?_,fun r hr=>?_⟩,h.num,h.nd,h.sub,?_⟩
 ·obtain ⟨x,hx,hxr⟩:=paired_left h.lr hr
  have:=getP_uniq hnl hx (hxr.1.trans e)
  rw [hq] at this
  cases this
  exact hxr.2.2.2.1
 ·obtain ⟨s,hs,rfl⟩:=List.mem_map.mp hr
  have : (chgR nm k s).1 = s.1:=by unfold chgR; split <;> rfl
  rw [this]; exact h.dr.sub s hs
 ·obtain ⟨s,hs,rfl⟩:=List.mem_map.mp hr
  unfold chgR
  split
  ·rename_i e; exact hw s hs e
  ·exact h.dr.wd s hs
 ·rw [putP_old hml]
  refine paired_map h.lr fun x hx y hxy=>?_
  unfold chgR
  by_cases e : x.1 = nm
  ·have:=getP_uniq hnl hx e
   rw [hq] at this
   cases this
   rw [if_pos e,if_pos (hxy.1.symm.trans e)]
   obtain ⟨h1,h2,h3,h4,h5⟩:=hxy
   exact ⟨h1,h2,h3,by show x.2.2.2.1 + k = y.2.2.2.1 + k; rw [h4],h5⟩
  ·rw [if_neg e,if_neg fun z=>e (hxy.1.trans z)]
   exact hxy
theorem step {C p dx nn ll : Addr} {H : Hp} {d : Deed} (h : Ok rooms names rows nums ls) (hR : ∀ x∈rooms,NameOk x) (hN : ∀ x∈names,NameOk x) (hd : DeedOk rooms names rows d) (hh : Hall H C p dx nn ll nums ls) :
  ∃ nums' ls',Ok rooms names (noteR d rows) nums' ls'∧seenOf nums' = noteS d (seenOf nums)∧∀ (Q : VK) (E : XK),(∀ H',Hall H' C p dx nn ll nums' ls'→Stay nn ll H H'→Q .non H')→d.sp C p H Q E:=by
 obtain ⟨hl,hnl⟩:=h.len
 have en:=paired_names h.lr
 cases d with
 | lay nm a b w l =>
  obtain ⟨d1,d2,d3,d4,d5,d6,d7⟩:=hd
  have fnd : (newOf nums [a,b]).Nodup:=List.Pairwise.filter _ (by simp [d5])
  have fout : ∀ r∈newOf nums [a,b],r ∉ seenOf nums:=fun r hr=>new_is.mp (List.mem_filter.mp hr).2
  have fin : ∀ r∈newOf nums [a,b],r = a∨r = b:=fun r hr=>by
   have:=(List.mem_filter.mp hr).1
   simpa using this
  obtain ⟨s1,s2⟩:=addF_seen fnd fout h.num
  have mem : ∀ r,r∈[a,b]→r∈seenOf (addF nums (newOf nums [a,b])):=fun r hr=>by
   rw [s1]
   by_cases g : r∈seenOf nums
   ·exact List.mem_append.mpr (.inl g)
   ·exact List.mem_append.mpr (.inr (List.mem_filter.mpr ⟨hr,new_is.mpr g⟩))
  obtain ⟨ia,ga,ga2⟩:=num_at s2 (mem a (by simp))
  obtain ⟨ib,gb,gb2⟩:=num_at s2 (mem b (by simp))
  have hnm : nm ∉ ls.map (·.1):=by rw [en]; exact d2
  refine ⟨addF nums (newOf nums [a,b]),putP nm ((ia : Int),(ib : Int),w,l) ls,⟨⟨h.dr.r2,h.dr.r5,h.dr.rn,h.dr.n8,?_,?_,?_⟩,s2,?_,?_,?_⟩,?_,?_⟩
  ·show ((rows ++ [(nm,a,b,w,l)]).map (·.1)).Nodup
   rw [List.map_append]
   refine List.nodup_append.mpr ⟨h.dr.nn,by simp,fun x hx y hy z=>?_⟩
   have : y = nm:=by simpa using hy
   exact d2 (by rw [← this,← z]; exact hx)
  ·intro r hr
   rcases List.mem_append.mp hr with g | g
   ·exact h.dr.sub r g
   ·rw [List.mem_singleton.mp g]; exact d1
  ·intro r hr
   rcases List.mem_append.mp hr with g | g
   ·exact h.dr.wd r g
   ·rw [List.mem_singleton.mp g]; exact d6
  ·rw [s1]
   exact List.nodup_append.mpr ⟨h.nd,fnd,fun x hx y hy z=>fout y hy (z ▸ hx)⟩
  ·intro x hx
   rw [s1] at hx
   rcases List.mem_append.mp hx with g | g
   ·exact h.sub x g
   ·rcases fin x g with e | e
    ·rw [e]; exact d3
    ·rw [e]; exact d4
  ·rw [putP_new hnm]
   refine paired_snoc ?_ ⟨rfl,⟨ia,rfl,ga2⟩,⟨ib,rfl,gb2⟩,rfl,rfl⟩
   rw [s1]
   exact h.lr.mono fun x y z=>z.grow
  ·rw [s1]; exact (add_two d5).symm
  ·intro Q E q
   exact ⟨p,dx,nn,ll,nums,ls,nm,a,b,w,l,ia,ib,rfl,hh,hN nm d1,hR a d3,hR b d4,getP_none hnm,d5,d6,d7,by omega,by omega,ga,gb,q⟩
 | shut nm =>
  obtain ⟨q,hq⟩:=getP_ex (show nm∈ls.map (·.1) by rw [en]; exact hd)
  refine ⟨nums,dropP nm ls,⟨⟨h.dr.r2,h.dr.r5,h.dr.rn,h.dr.n8,?_,?_,?_⟩,h.num,h.nd,h.sub,?_⟩,rfl,fun Q E k=>⟨p,dx,nn,ll,nums,ls,nm,q,rfl,hh,hq,k⟩⟩
  ·exact (List.Sublist.map _ List.filter_sublist).nodup h.dr.nn
  ·exact fun r hr=>h.dr.sub r (List.mem_filter.mp hr).1
  ·exact fun r hr=>h.dr.wd r (List.mem_filter.mp hr).1
  ·exact paired_filter h.lr fun x y z=>by rw [z.1]
 | widen nm k =>
  obtain ⟨d1,d2⟩:=hd
  obtain ⟨q,g1,g2,g3⟩:=h.chg (k:=k) d1 fun r hr e=>by have:=h.dr.wd r hr; omega
  exact ⟨nums,_,g3,rfl,fun Q E kk=>⟨p,dx,nn,ll,nums,ls,nm,q,k,rfl,hh,g1,d2,by omega,kk⟩⟩
 | narrow nm k =>
  obtain ⟨r,hr,e,d2,d3⟩:=hd
  have hm : nm∈rows.map (·.1):=by rw [← e]; exact List.mem_map_of_mem (f:=fun x : Row=>x.1) hr
  obtain ⟨q,g1,g2,g3⟩:=h.chg (k:=-k) hm fun s hs es=>by
   have:=row_uniq h.dr.nn hs hr (es.trans e.symm)
   rw [this]; omega
  exact ⟨nums,_,g3,rfl,fun Q E kk=>⟨p,dx,nn,ll,nums,ls,nm,q,k,rfl,hh,g1,d2,by rw [g2 r hr e]; exact d3,by omega,kk⟩⟩
end
end K61
namespace K61
open PySem PySem.Spec PyProof.Rows L2 VM
set_option maxHeartbeats 4000000
noncomputable def roomsOf (ns : List Int) : List Str:=wordsOf (mixI (cellI ns 0) 0) (2 + mixI (cellI ns 0) 2 % 4).toNat
noncomputable def namesOf (ns : List Int) : List Str:=wordsOf (mixI (cellI ns 1) (mixI (cellI ns 1) 2 % 2)) 8
section
variable {ns : List Int} {x1 x2 x3 x4 x5 x6 x7 x8 : Option (Tg × PyData)}
theorem e_w1 : (vCallN m__law_words (aC (vCall m__law_cell_at (aC (vF 0) (aC (vC (.int 0)) a0))) (aC (v2 addD (vC (.int 2)) (v2 modD (vCall m__law_mixed (aC (vCall m__law_cell_at (aC (vF 0) (aC (vC (.int 0)) a0))) (aC (vC (.int 2)) a0))) (vC (.int 4)))) (aC (vC (.int 0)) a0))))
  [some (.fr,.list (ns.map .int)),x1,x2,x3,x4,x5,x6,x7,x8] = some (.list ((roomsOf ns).map .str)):=by
 have m:=mod_in (mixI (cellI ns 0) 2) (show (0 : Int) < 4 by decide)
 walk_at "e0"
 rw [e_cell (by decide)]
 walk_at "e0"
 rw [e_cell (by decide)]
 walk_at "e0"
 rw [e_mix (by decide) (by decide)]
 walk_at "e0"
 simp only [modD_i (show (0 : Int) < 4 by decide)]
 walk_at "e0"
 have e:=e_words (c:=cellI ns 0) (k:=0) (by decide) (by decide) (many:=(2 + mixI (cellI ns 0) 2 % 4).toNat) (by omega)
 rw [show (((2 + mixI (cellI ns 0) 2 % 4).toNat : Nat) : Int) = 2 + mixI (cellI ns 0) 2 % 4 by omega] at e
 rw [e]
 unfold strsD roomsOf
 walk_at "e0"
theorem e_w2 : (vCallN m__law_words (aC (vCall m__law_cell_at (aC (vF 0) (aC (vC (.int 1)) a0))) (aC (vC (.int 8)) (aC (v2 modD (vCall m__law_mixed (aC (vCall m__law_cell_at (aC (vF 0) (aC (vC (.int 1)) a0))) (aC (vC (.int 2)) a0))) (vC (.int 2))) a0))))
  [some (.fr,.list (ns.map .int)),x1,x2,x3,x4,x5,x6,x7,x8] = some (.list ((namesOf ns).map .str)):=by
 have m:=mod_in (mixI (cellI ns 1) 2) (show (0 : Int) < 2 by decide)
 walk_at "e0"
 rw [e_cell (by decide)]
 walk_at "e0"
 rw [e_cell (by decide)]
 walk_at "e0"
 rw [e_mix (by decide) (by decide)]
 walk_at "e0"
 simp only [modD_i (show (0 : Int) < 2 by decide)]
 walk_at "e0"
 have e:=e_words (c:=cellI ns 1) (k:=mixI (cellI ns 1) 2 % 2) (by omega) (by omega) (many:=8) (by decide)
 rw [show ((8 : Nat) : Int) = 8 from rfl] at e
 rw [e]
 unfold strsD namesOf
 walk_at "e0"
theorem e_rev {r0 r1 : Str} {rest : List Str} {x0 : Option (Tg × PyData)} : (vRev (vSlL (vN 1) oN (oI (vC (.int 2))))) [x0,some (.fr,.list ((r0 :: r1 :: rest).map .str)),x2,x3,x4,x5,x6,x7,x8] = some (.list [.str r1,.str r0]):=by
 walk_at "e0"
 rfl
end
theorem e_dcall {c : Int} {rows : List Row} {rs nms : List Str} {d : PyData} {x0 x3 x4 x6 x8 : Option (Tg × PyData)} (h : m__law_deed [.int c,heldD rows,strsD rs,strsD nms] = some (false,d)) :
  (vCall m__law_deed (aC (vF 7) (aC (vF 5) (aC (vF 1) (aC (vF 2) a0))))) [x0,some (.fr,strsD rs),some (.fr,strsD nms),x3,x4,some (.fr,heldD rows),x6,some (.fr,.int c),x8] = some d:=by
 walk_at "e0"
 rw [h]
 walk_at "e0"
theorem rooms_two (ns : List Int) : ∃ r0 r1 rest,roomsOf ns = r0 :: r1 :: rest∧rest.length≤3∧(r0 :: r1 :: rest).Nodup∧∀ x∈r0 :: r1 :: rest,NameOk x:=by
 have m:=mod_in (mixI (cellI ns 0) 2) (show (0 : Int) < 4 by decide)
 have hl : (roomsOf ns).length = (2 + mixI (cellI ns 0) 2 % 4).toNat:=words_len _ _
 have hn : (roomsOf ns).Nodup:=words_nd _ _
 have hk : ∀ x∈roomsOf ns,NameOk x:=words_ok _ (by omega)
 match e : roomsOf ns with
 | []=>rw [e] at hl; simp at hl; omega
 | [_]=>rw [e] at hl; simp at hl; omega
 | r0 :: r1 :: rest =>
  rw [e] at hl hn hk
  refine ⟨r0,r1,rest,rfl,?_,hn,hk⟩
  simp only [List.length_cons] at hl
  omega
theorem names_ok (ns : List Int) : (namesOf ns).length = 8∧(namesOf ns).Nodup∧∀ x∈namesOf ns,NameOk x:=⟨words_len _ _,words_nd _ _,words_ok _ (by decide)⟩
section
variable {K : PySem.W.Frag} {H H' : Hp} {C p dx nn ll : Addr} {nums : List (Str × Int)} {ls : List (Str × Q4)}
theorem Hall.off (h : Hall H C p dx nn ll nums ls) (k : ∀ b o,(∀ ys,o ≠ .lst ys)→H b = some o→H' b = some o) : Hall H' C p dx nn ll nums ls:=by
 obtain ⟨a,b,⟨kvs,c,d⟩,n⟩:=h
 exact ⟨k _ _ (by intro ys z; cases z) a,k _ _ (by intro ys z; cases z) b,⟨kvs,k _ _ (by intro ys z; cases z) c,d.mono fun _ _ z=>z.same fun t xs e=>k _ _ (by intro ys z; cases z) e⟩,n⟩
theorem Hall.beside {p' dx' nn' ll' : Addr} {nums' : List (Str × Int)} {ls' : List (Str × Q4)} (h : Hall H C p dx nn ll nums []) (g : Hall H C p' dx' nn' ll' nums' ls') (h1 : nn ≠ nn') (h2 : nn ≠ ll') (h3 : ll ≠ nn') (h4 : ll ≠ ll') (s : Stay nn' ll' H H') : Hall H' C p dx nn ll nums []:=by
 obtain ⟨a,b,⟨kvs,c,d⟩,n⟩:=h
 obtain ⟨kvs',c',_⟩:=g.laid
 have hp1 : p ≠ nn':=fun z=>by rw [z,g.num] at a; cases a
 have hp2 : p ≠ ll':=fun z=>by rw [z,c'] at a; cases a
 refine ⟨s _ _ hp1 hp2 a,s _ _ h1 h2 b,⟨kvs,s _ _ h3 h4 c,?_⟩,n⟩
 cases d
 exact .nil
theorem lst_stay {a : Addr} {xs : List V} (h : Hall H C p dx nn ll nums ls) (s : Stay nn ll H H') (e : H a = some (.lst xs)) : H' a = some (.lst xs):=by
 obtain ⟨kvs,c,_⟩:=h.laid
 exact s _ _ (fun z=>by rw [z,h.num] at e; cases e) (fun z=>by rw [z,c] at e; cases e) e
theorem tup_stay {a : Addr} {xs : List V} (h : Hall H C p dx nn ll nums ls) (s : Stay nn ll H H') (e : SqT K H a xs) : SqT K H' a xs:=by
 obtain ⟨kvs,c,_⟩:=h.laid
 refine SqT.off e fun o ho e=>s _ _ (fun z=>?_) (fun z=>?_) e
 ·rw [z,h.num] at e; cases e; cases ho
 ·rw [z,c] at e; cases e; cases ho
theorem cut2 (r0 r1 : Str) (rest : List Str) : cutV ((r0 :: r1 :: rest).map V.str) none (some 2) = [r0,r1].map V.str:=by
 unfold cutV
 rw [sIx_pos 2 (by decide)]
 have : min (2 : Int).toNat ((r0 :: r1 :: rest).map V.str).length = 2:=by
  rw [List.length_map,List.length_cons,List.length_cons]
  show min 2 _ = 2
  omega
 rw [this]
 rfl
theorem deed_has {d : Deed} {v : V} (h : Has K H d.dat v) : ∃ t,v = .ref t∧SqT K H t d.vals:=by
 cases d with
 | lay nm a b w l =>
  obtain ⟨t,xs,rfl,hq,y1,r1,rfl,⟨rfl,_⟩,y2,r2,rfl,⟨rfl,_⟩,y3,r3,rfl,⟨rfl,_⟩,y4,r4,rfl,⟨rfl,_⟩,y5,r5,rfl,h5,y6,r6,rfl,h6,hr⟩:=h
  have e5 : y5 = .int w:=h5
  have e6 : y6 = .int l:=h6
  have er : r6 = []:=hr
  subst e5 e6 er
  exact ⟨t,rfl,hq⟩
 | shut nm =>
  obtain ⟨t,xs,rfl,hq,y1,r1,rfl,⟨rfl,_⟩,y2,r2,rfl,⟨rfl,_⟩,hr⟩:=h
  have er : r2 = []:=hr
  subst er
  exact ⟨t,rfl,hq⟩
 | widen nm k =>
  obtain ⟨t,xs,rfl,hq,y1,r1,rfl,⟨rfl,_⟩,y2,r2,rfl,⟨rfl,_⟩,y5,r5,rfl,h5,hr⟩:=h
  have e5 : y5 = .int k:=h5
  have er : r5 = []:=hr
  subst e5 er
  exact ⟨t,rfl,hq⟩
 | narrow nm k =>
  obtain ⟨t,xs,rfl,hq,y1,r1,rfl,⟨rfl,_⟩,y2,r2,rfl,⟨rfl,_⟩,y5,r5,rfl,h5,hr⟩:=h
  have e5 : y5 = .int k:=h5
  have er : r5 = []:=hr
  subst e5 er
  exact ⟨t,rfl,hq⟩
theorem deed_can {rooms names : List Str} {rows : List Row} {nm a b : Str} {w l : Int} (hR : ∀ x∈rooms,NameOk x) (hN : ∀ x∈names,NameOk x) (h : DeedOk rooms names rows (.lay nm a b w l)) : (rowD (nm,a,b,w,l)).canLay0 = true:=by
 obtain ⟨h1,_,h3,h4,_⟩:=h
 have c1:=(hN _ h1).2
 have c2:=(hR _ h3).2
 have c3:=(hR _ h4).2
 simp only [rowD,PyData.canLay0,PyData.canLayAll0,Bool.and_eq_true] at c1 c2 c3 ⊢
 exact ⟨c1,c2,c3,trivial,trivial,trivial⟩
end
end K61
namespace K61
open PySem PySem.Spec PyProof.Rows L2 VM
set_option maxHeartbeats 4000000
section
variable {P : Program} {w : World} {K : PySem.W.Frag} {mg : Str→Option Value} {base : Heap} {C : Addr}
structure Stand (K : PySem.W.Frag) (C : Addr) (rs nms : List Str) (r0 r1 : Str) (cells : List Int) (ra na p dx nn ll p' dx' nn' ll' D sA cz : Addr) (H : Hp) : Prop where
 ex : ∃ nums ls prs,Ok rs nms (prs.map (·.2)) nums ls∧Hall H C p dx nn ll nums ls∧Held H D prs∧H sA = some (.lst ((seenOf nums).map V.str))∧(D :: sA :: prs.map (·.1)).Nodup∧ra ∉ D :: sA :: prs.map (·.1)∧na ∉ D :: sA :: prs.map (·.1)∧cz ∉ D :: sA :: prs.map (·.1)
 other : Hall H C p' dx' nn' ll' [(r1,0),(r0,1)] []
 rooms : H ra = some (.lst (rs.map V.str))
 names : H na = some (.lst (nms.map V.str))
 cells : H cz = some (.lst (cells.map V.int))
theorem Stand.grow {rs nms : List Str} {r0 r1 : Str} {cells : List Int} {ra na p dx nn ll p' dx' nn' ll' D sA cz : Addr} {H H' : Hp} (h : Stand K C rs nms r0 r1 cells ra na p dx nn ll p' dx' nn' ll' D sA cz H) (k : Same H H') : Stand K C rs nms r0 r1 cells ra na p dx nn ll p' dx' nn' ll' D sA cz H':=by
 obtain ⟨⟨nums,ls,prs,a1,a2,a3,a4,a5⟩,b,c,d,e⟩:=h
 exact ⟨⟨nums,ls,prs,a1,a2.grow k,a3.grow k,k _ _ a4,a5⟩,b.grow k,k _ _ c,k _ _ d,k _ _ e⟩
theorem sc_law : FnScope ["_law_script","_law_rooms","_law_names","_law_hall","_law_other","_law_held","_law_seen","_law_cell","_law_deed_here"] ["_law_script"] (defScope (top 29)):=⟨rfl,rfl,rfl,by decide +kernel,rfl,by decide +kernel,by decide +kernel⟩
theorem cells_of (ns : List Int) (lo hi : Option Int) : ∃ cs : List Int,cutV (ns.map V.int) lo hi = cs.map V.int∧cs.length≤ns.length:=by
 refine ⟨(ns.drop (HT.sIx ns.length 0 lo)).take (HT.sIx ns.length ns.length hi - HT.sIx ns.length 0 lo),?_,?_⟩
 ·unfold cutV
  rw [List.length_map,← List.map_drop,← List.map_take]
 ·rw [List.length_take,List.length_drop]; omega
theorem make_at {a b : Str} {t : TA} {σ : L2.St} {H : Hp} {Q : VK} {E : XK} (ha : ∀ R : List V→Hp→Prop,R [.str a,.str b] H→t σ H R) (n1 : NameOk a) (n2 : NameOk b) (hab : a ≠ b)
  (q : ∀ x dx nn ll H',Hall H' C x dx nn ll [(a,0),(b,1)] []→Same H H'→H nn = none→H ll = none→Q (.ref x) H') : tMake C (spInit C) [] E t σ H Q:=by
 refine ha _ fun x dx hx hdx hne=>⟨x,dx,a,b,rfl,upd_same,n1,n2,hab,fun H' nn ll hall fr hnn hll=>⟨rfl,q x dx nn ll H' hall (fun c o e=>?_) ?_ ?_⟩⟩
 ·have z1 : c ≠ x:=fun z=>by subst z; rw [hx] at e; cases e
  have z2 : c ≠ dx:=fun z=>by subst z; rw [hdx] at e; cases e
  exact fr c o z1 (by rw [upd_ne z1,upd_ne z2]; exact e)
 ·have z1 : nn ≠ x:=fun z=>by subst z; rw [upd_same] at hnn; cases hnn
  have z2 : nn ≠ dx:=fun z=>by subst z; rw [upd_ne z1,upd_same] at hnn; cases hnn
  rw [upd_ne z1,upd_ne z2] at hnn; exact hnn
 ·have z1 : ll ≠ x:=fun z=>by subst z; rw [upd_same] at hll; cases hll
  have z2 : ll ≠ dx:=fun z=>by subst z; rw [upd_ne z1,upd_same] at hll; cases hll
  rw [upd_ne z1,upd_ne z2] at hll; exact hll
theorem ok_law {f : Addr} {fd : FuncData} (F : Fun K "law" "law" (top 29) f fd) (B : Bl mg) (KT : Kits K) (c : Cl K C) {fi : Addr} {fdi : FuncData} (M : Mk K C fi) (Fi : FnOk P w K mg base CX0 2 fi fdi ["self","start","goal"] (spInit C)) (bi : Binds K fdi ["self","start","goal"] []) (hC : mg "NamedHall" = some (.ref C))
  (Mr : Ms P w K mg base C 1 "rooms" ["self"] (spRooms C)) (Mp : Ms P w K mg base C 2 "passages" ["self"] (spPass C))
  (C_law_cell_at : Cal P w K mg base 1 "_law_cell_at" ["_law_script","_law_k"] (spV K m__law_cell_at)) (C_law_mixed : Cal P w K mg base 1 "_law_mixed" ["_law_cell","_law_k"] (spV K m__law_mixed)) (C_law_words : Cal P w K mg base 2 "_law_words" ["_law_cell","_law_many","_law_k"] (spV K m__law_words))
  (C_law_deed : Cal P w K mg base 3 "_law_deed" ["_law_cell","_law_held","_law_rooms","_law_names"] (spV K m__law_deed)) (C_law_do : Cal P w K mg base 3 "_law_do" ["_law_hall","_law_deed_here"] (spDo K C)) (C_law_noted : Cal P w K mg base 1 "_law_noted" ["_law_held","_law_seen","_law_deed_here"] (spNoted K))
  (C_law_told : Cal P w K mg base 3 "_law_told" ["_law_hall","_law_held","_law_seen"] (spTold C)) : FnOk P w K mg base CX0 4 f fd ["_law_script"] (spLaw K):=by
 have nd:=sc_law.nd
 have vt:=(show (["_law_script","_law_rooms","_law_names","_law_hall","_law_other","_law_held","_law_seen","_law_cell","_law_deed_here"] : List Str).all (fun x=>visB (defScope (top 29)) x && plain x) = true by decide +kernel)
 obtain ⟨f7,fd7,F7,m7,b7⟩:=Mr.ex
 obtain ⟨f8,fd8,F8,m8,b8⟩:=Mp.ex
 refine Fun.ok (k:=3) F sc_law (fun vs H Q E h=>by obtain ⟨_,_,rfl,_⟩:=h; rfl) fun cdv A outer s H vs Q E hr hsp=>?_
 obtain ⟨sc,ns,rfl,hsc,hns,hq⟩:=hsp
 refine ⟨_,pss_cons (ps_asg (dCalN (peCal C_law_words (hr.mono (by decide)) (gl (sc:=(defScope (top 29))) (by decide +kernel)) (paC (dCal (peCal C_law_cell_at (hr.mono (by decide)) (gl (sc:=(defScope (top 29))) (by decide +kernel)) (paC (dF (pV vt 0)) (paC dInt pa0)))) (paC (dOp oAdd hAdd (sw dInt) (sw (dOp oMod hMod (sw (dCal (peCal C_law_mixed (hr.mono (by decide)) (gl (sc:=(defScope (top 29))) (by decide +kernel)) (paC (dCal (peCal C_law_cell_at (hr.mono (by decide)) (gl (sc:=(defScope (top 29))) (by decide +kernel)) (paC (dF (pV vt 0)) (paC dInt pa0)))) (paC dInt pa0))))) (sw dInt)))) (paC dInt pa0))))) (pg_name (i:=1) nd rfl (lo (sc:=defScope (top 29)) (by decide +kernel))))
  (pss_cons (ps_asg (dCalN (peCal C_law_words (hr.mono (by decide)) (gl (sc:=(defScope (top 29))) (by decide +kernel)) (paC (dCal (peCal C_law_cell_at (hr.mono (by decide)) (gl (sc:=(defScope (top 29))) (by decide +kernel)) (paC (dF (pV vt 0)) (paC dInt pa0)))) (paC dInt (paC (dOp oMod hMod (sw (dCal (peCal C_law_mixed (hr.mono (by decide)) (gl (sc:=(defScope (top 29))) (by decide +kernel)) (paC (dCal (peCal C_law_cell_at (hr.mono (by decide)) (gl (sc:=(defScope (top 29))) (by decide +kernel)) (paC (dF (pV vt 0)) (paC dInt pa0)))) (paC dInt pa0))))) (sw dInt)) pa0))))) (pg_name (i:=2) nd rfl (lo (sc:=defScope (top 29)) (by decide +kernel))))
  (pss_cons (ps_set (i:=3) nd rfl (lo (sc:=defScope (top 29)) (by decide +kernel)) (pe_make M Fi hr (gl (sc:=defScope (top 29)) (by decide +kernel)) hC bi .nil pass0 (pa_cons (peIx ixL (pV vt 1) pe_int) (pa_cons (peIx ixL (pV vt 1) pe_int) pa_nil))))
  (pss_cons (ps_set (i:=4) nd rfl (lo (sc:=defScope (top 29)) (by decide +kernel)) (pe_make M Fi hr (gl (sc:=defScope (top 29)) (by decide +kernel)) hC bi .nil pass0 (pa_cons (peIx ixL (pV vt 1) pe_int) (pa_cons (peIx ixL (pV vt 1) pe_int) pa_nil))))
  (pss_cons (ps_set (i:=5) nd rfl (lo (sc:=defScope (top 29)) (by decide +kernel)) (pe_lst pa_nil))
  (pss_cons (ps_set (i:=6) nd rfl (lo (sc:=defScope (top 29)) (by decide +kernel)) (pe_slice sl_list (pV vt 1) po_none (po_some pe_int)))
  (pss_cons (ps_if (pt_not (ptV (peCal C_law_told hr (gl (sc:=defScope (top 29)) (by decide +kernel)) (pa_cons (pV vt 3) (pa_cons (pV vt 5) (pa_cons (pV vt 6) pa_nil)))))) (pss_one (ps_ret pe_bl)) pss_nil)
  (pss_cons (ps_for PassesOwn.never rfl (pi_list (pe_slice sl_list (pV vt 0) (po_some pe_int) (po_some pe_int))) (pg_name (i:=7) nd rfl (lo (sc:=defScope (top 29)) (by decide +kernel)))
   (pss_cons (ps_asg (dCal (peCal C_law_deed (hr.mono (by decide)) (gl (sc:=(defScope (top 29))) (by decide +kernel)) (paC (dF (pV vt 7)) (paC (dF (pV vt 5)) (paC (dF (pV vt 1)) (paC (dF (pV vt 2)) pa0)))))) (pg_name (i:=8) nd rfl (lo (sc:=defScope (top 29)) (by decide +kernel))))
   (pss_cons (ps_if (ptC oNotN (peCal C_law_do hr (gl (sc:=defScope (top 29)) (by decide +kernel)) (pa_cons (pV vt 3) (pa_cons (pV vt 8) pa_nil))) pe_non) (pss_one (ps_ret pe_bl)) pss_nil)
   (pss_cons (ps_expr (peCal C_law_noted (hr.mono (by decide)) (gl (sc:=defScope (top 29)) (by decide +kernel)) (pa_cons (pV vt 5) (pa_cons (pV vt 6) (pa_cons (pV vt 8) pa_nil)))))
   (pss_one (ps_if (pt_not (ptV (peCal C_law_told hr (gl (sc:=defScope (top 29)) (by decide +kernel)) (pa_cons (pV vt 3) (pa_cons (pV vt 5) (pa_cons (pV vt 6) pa_nil)))))) (pss_one (ps_ret pe_bl)) pss_nil))))))
  (pss_one (ps_ret (peAnd (peC (op_eqD hr.units) (pe_meth0 (pV vt 4) c.cl m7 F7 (hr.mono (by decide)) b7 .nil pass0) (nw (dRev (nm (dSlL (dN (pV vt 1)) poN (poI (sw dInt))))))) (pe_one (peC (op_eqD hr.units) (pe_meth0 (pV vt 4) c.cl m8 F8 (hr.mono (by decide)) b8 .nil pass0) (pe_lst pa_nil))))))))))))),?_⟩
 obtain ⟨r0,r1,rest,ers,hrest,hrn,hrk⟩:=rooms_two ns
 obtain ⟨hn8,hnn,hnk⟩:=names_ok ns
 have hscr : ∀ {H' : Hp},Same H H'→Has K H' (.list (ns.map .int)) (.ref sc):=fun k=>⟨sc,_,rfl,k.seq hsc,HasL.ints.mpr rfl⟩
 unfold tSeq tAsg gName
 refine tVN_at (S:=[some (.fr,.list (ns.map .int)),none,none,none,none,none,none,none,none]) ⟨_,_,rfl,rfl,hscr (Same.refl _),_,_,rfl,_,_,rfl,_,_,rfl,_,_,rfl,_,_,rfl,_,_,rfl,_,_,rfl,_,_,rfl,rfl⟩ e_w1 fun ra xs H1 s1 hra0 hra hx=>?_
 rw [hasStrs hx] at hra
 dsimp only
 refine tVN_at (S:=[some (.fr,.list (ns.map .int)),none,none,none,none,none,none,none,none]) ⟨_,_,rfl,rfl,hscr s1,_,_,rfl,_,_,rfl,_,_,rfl,_,_,rfl,_,_,rfl,_,_,rfl,_,_,rfl,_,_,rfl,rfl⟩ e_w2 fun na ys H2 s2 hna0 hna hy=>?_
 rw [hasStrs hy] at hna
 have hra2:=s2 _ _ hra
 rw [ers] at hra2
 generalize hnm : namesOf ns = nms at hna hn8 hnn hnk
 have hrana : ra ≠ na:=ne_of_none hra hna0
 have hab : r0 ≠ r1:=fun z=>(List.nodup_cons.mp hrn).1 (by rw [z]; exact List.mem_cons_self ..)
 have k0:=hrk r0 (List.mem_cons_self ..)
 have k1:=hrk r1 (List.mem_cons_of_mem _ (List.mem_cons_self ..))
 have at0 : atI ((r0 :: r1 :: rest).map V.str) 0 = some (.str r0):=atI_nat (j:=0) rfl
 have at1 : atI ((r0 :: r1 :: rest).map V.str) 1 = some (.str r1):=atI_nat (j:=1) rfl
 refine make_at (a:=r0) (b:=r1) (fun R r=>?_) k0 k1 hab fun p dx nn ll H3 hall3 s3 hnn3 hll3=>?_
 ·exact ixL_at (t:=ra) rfl hra2 (fun R r=>r) at0 (ixL_at (t:=ra) rfl hra2 (fun R r=>r) at1 r)
 try dsimp only
 refine make_at (a:=r1) (b:=r0) (fun R r=>?_) k1 k0 hab.symm fun p' dx' nn' ll' H4 hall4 s4 hnn4 hll4=>?_
 ·exact ixL_at (t:=ra) rfl (s3 _ _ hra2) (fun R r=>r) at1 (ixL_at (t:=ra) rfl (s3 _ _ hra2) (fun R r=>r) at0 r)
 obtain ⟨kvs3,hk3,hkp3⟩:=hall3.laid
 have q1 : nn' ≠ nn:=(ne_of_none hall3.num hnn4).symm
 have q2 : nn' ≠ ll:=(ne_of_none hk3 hnn4).symm
 have q3 : ll' ≠ nn:=(ne_of_none hall3.num hll4).symm
 have q4 : ll' ≠ ll:=(ne_of_none hk3 hll4).symm
 have s34:=s3.trans s4
 try dsimp only
 unfold tLst tNil
 refine ⟨Nat.zero_le _,fun D hD=>?_⟩
 have s5:=same_upd_new (o:=.lst []) hD
 have hD5 : upd H4 D (.lst []) D = some (.lst []):=upd_same
 generalize upd H4 D (.lst []) = H5 at s5 hD5 ⊢
 have s35:=s34.trans s5
 try dsimp only
 unfold tSl tNoPart tPart
 refine vR_at (v:=.ref ra) rfl ⟨2,rfl,ra,_,rfl,SqL.of (s35 _ _ hra2),fun sA hsA=>?_⟩
 rw [cut2]
 have s6:=same_upd_new (o:=.lst ([r0,r1].map V.str)) hsA
 have hs6 : upd H5 sA (.lst ([r0,r1].map V.str)) sA = some (.lst ([r0,r1].map V.str)):=upd_same
 generalize upd H5 sA (.lst ([r0,r1].map V.str)) = H6 at s6 hs6 ⊢
 have hDs : D ≠ sA:=ne_of_none hD5 hsA
 have s46:=s5.trans s6
 have hcan : ∀ x∈[r0,r1],(PyData.str x).canLay0 = true:=fun x hx=>by
  rcases List.mem_cons.mp hx with g | g
  ·rw [g]; exact k0.2
  ·rw [List.mem_singleton.mp g]; exact k1.2
 have hrkc : ∀ x∈r0 :: r1 :: rest,(PyData.str x).canLay0 = true:=fun x hx=>(hrk x hx).2
 have hnkc : ∀ x∈nms,(PyData.str x).canLay0 = true:=fun x hx=>(hnk x hx).2
 have hall6 : Hall H6 C p dx nn ll [(r0,0),(r1,1)] []:=hall3.grow (s4.trans s46)
 try dsimp only
 unfold tIfS tNot tTM tCall tCons
 refine vR_at (v:=.ref p) rfl (vR_at (v:=.ref D) rfl (vR_at (v:=.ref sA) rfl ⟨p,dx,nn,ll,[(r0,0),(r1,1)],[],D,[],sA,rfl,hall6,⟨s6 _ _ hD5,fun _ h=>by (cases h),fun _ h=>by (cases h)⟩,hs6,hcan,.nil,by decide,fun H7 s7=>?_⟩))
 show (if (!true) = true then _ else _)
 rw [if_neg (by simp)]
 unfold tNext
 try dsimp only
 have s27 : Same H2 H7:=s34.trans (s46.trans s7)
 have s47:=s46.trans s7
 rw [tFor_eq]
 unfold iList
 refine vR_at (v:=.ref sc) rfl ⟨2,rfl,14,rfl,sc,_,rfl,((s1.trans s2).trans s27).seq hsc,fun cz hcz=>⟨cz,rfl,⟨_,SqL.of upd_same⟩,?_⟩⟩
 obtain ⟨cs,ecs,hcl⟩:=cells_of ns (some 2) (some 14)
 rw [ecs]
 have s8:=same_upd_new (o:=.lst (cs.map V.int)) hcz
 have hcz8 : upd H7 cz (.lst (cs.map V.int)) cz = some (.lst (cs.map V.int)):=upd_same
 generalize upd H7 cz (.lst (cs.map V.int)) = H8 at s8 hcz8 ⊢
 have hra7:=s27 _ _ hra2
 have hna7:=s27 _ _ hna
 have hD7:=s7 _ _ (s6 _ _ hD5)
 have hs7:=s7 _ _ hs6
 have hra4:=s34 _ _ hra2
 have hna4:=s34 _ _ hna
 have ne2 : ∀ {x : Addr},x ≠ D→x ≠ sA→x ∉ D :: sA :: ([] : List PR).map (·.1):=fun a b z=>by
  rcases List.mem_cons.mp z with g | g
  ·exact a g
  ·rcases List.mem_cons.mp g with g | g
   ·exact b g
   ·cases g
 have st8 : Stand K C (r0 :: r1 :: rest) nms r0 r1 cs ra na p dx nn ll p' dx' nn' ll' D sA cz H8:=by
  refine ⟨⟨[(r0,0),(r1,1)],[],[],⟨⟨by simp,by simp only [List.length_cons]; omega,hrn,hn8,.nil,fun _ h=>by (cases h),fun _ h=>by (cases h)⟩,fun i x e=>?_,?_,?_,.nil⟩,(hall6.grow s7).grow s8,⟨s8 _ _ hD7,fun _ h=>by (cases h),fun _ h=>by (cases h)⟩,s8 _ _ hs7,?_,?_,?_,?_⟩,(hall4.grow s47).grow s8,s8 _ _ hra7,s8 _ _ hna7,hcz8⟩
  ·match i,e with
   | 0,e=>cases e; rfl
   | 1,e=>cases e; rfl
  ·show [r0,r1].Nodup
   simp [hab]
  ·intro x hx
   have hx' : x∈[r0,r1]:=hx
   rcases List.mem_cons.mp hx' with g | g
   ·rw [g]; exact List.mem_cons_self ..
   ·rw [List.mem_singleton.mp g]; exact List.mem_cons_of_mem _ (List.mem_cons_self ..)
  ·simp [hDs]
  ·exact ne2 (ne_of_none hra4 hD) (ne_of_none (s5 _ _ hra4) hsA)
  ·exact ne2 (ne_of_none hna4 hD) (ne_of_none (s5 _ _ hna4) hsA)
  ·exact ne2 (ne_of_none hD7 hcz).symm (ne_of_none hs7 hcz).symm
 refine forL (xs:=cs.map V.int) (fun i σ' H'=>(∃ y7 y8,σ' = [some (.ref sc),some (.ref ra),some (.ref na),some (.ref p),some (.ref p'),some (.ref D),some (.ref sA),y7,y8])∧Stand K C (r0 :: r1 :: rest) nms r0 r1 cs ra na p dx nn ll p' dx' nn' ll' D sA cz H')
  ⟨⟨_,_,rfl⟩,st8⟩ (fun i σ' H' _ h=>SqL.of h.2.cells) ?_ ?_
 ·rintro i v σ' Ha hv ⟨⟨y7,y8,rfl⟩,st⟩
  rw [List.getElem?_map] at hv
  obtain ⟨cell,_,rfl⟩:=Option.map_eq_some_iff.mp hv
  obtain ⟨⟨nums,ls,prs,ok,hall,held,hseen,hnd,hra',hna',hcz'⟩,hoth,hrooms,hnames,hcells⟩:=st
  obtain ⟨d,ed,dok⟩:=e_deed (c:=cell) ok.dr hnn
  have hlen:=ok.dr.len
  rw [List.length_map] at hlen
  show tV K RS _ [some (.ref sc),some (.ref ra),some (.ref na),some (.ref p),some (.ref p'),some (.ref D),some (.ref sA),some (.int cell),y8] Ha _
  refine tV_at (S:=[none,some (.fr,strsD (r0 :: r1 :: rest)),some (.fr,strsD nms),none,none,some (.fr,heldD (prs.map (·.2))),none,some (.fr,.int cell),none])
   ⟨_,_,rfl,_,_,rfl,rfl,has_strs hrooms hrkc,_,_,rfl,rfl,has_strs hnames hnkc,_,_,rfl,_,_,rfl,_,_,rfl,rfl,held.has,_,_,rfl,_,_,rfl,rfl,rfl,_,_,rfl,rfl⟩ (e_dcall ed) fun v Hb sb hv=>?_
  obtain ⟨t,rfl,ht⟩:=deed_has hv
  obtain ⟨nums2,ls2,ok2,eseen,run⟩:=step (C:=C) (H:=Hb) ok hrk hnk dok (hall.grow sb)
  try dsimp only
  rw [op2]
  refine vR_at (v:=.ref p) rfl (vR_at (v:=.ref t) rfl ⟨p,dx,nn,ll,t,d,rfl,(hall.grow sb).ins,ht,run _ _ fun Hc hallc stay=>?_⟩)
  simp only [tC,rNotN,isNon,Bool.not_true,Bool.false_eq_true,if_false]
  have hallb:=hall.grow sb
  have heldb:=held.grow sb
  have heldc : Held Hc D prs:=⟨lst_stay hallb stay heldb.top,fun x hx=>lst_stay hallb stay (heldb.row x hx),heldb.can⟩
  have hseenc:=lst_stay hallb stay (sb _ _ hseen)
  have hothc:=(hoth.grow sb).beside hallb q1 q2 q3 q4 stay
  have htc : SqT K Hc t d.vals:=tup_stay hallb stay ht
  have hroomsc:=lst_stay hallb stay (sb _ _ hrooms)
  have hnamesc:=lst_stay hallb stay (sb _ _ hnames)
  have hcellsc:=lst_stay hallb stay (sb _ _ hcells)
  have hsl : (seenOf nums).length≤5:=by
   have:=nodup_le ok.nd ok.sub
   have:=ok.dr.r5
   omega
  try dsimp only
  unfold tDrop
  refine vR_at (v:=.ref D) rfl (vR_at (v:=.ref sA) rfl (vR_at (v:=.ref t) rfl ⟨D,sA,t,prs,seenOf nums,d,rfl,heldc,hseenc,hnd,htc,by omega,by omega,fun nm a b w l e=>?_,fun Hd prs2 heldd erows hseend hnd2 frame hnew=>?_⟩))
  ·subst e
   exact deed_can hrk hnk dok
  have notin : ∀ b o,(∀ ys,o ≠ .lst ys)→Hc b = some o→b ∉ D :: sA :: prs.map (·.1):=fun b o ho e z=>by
   rcases List.mem_cons.mp z with g | g
   ·rw [g,heldc.top] at e; cases e; exact ho _ rfl
   ·rcases List.mem_cons.mp g with g | g
    ·rw [g,hseenc] at e; cases e; exact ho _ rfl
    ·obtain ⟨x,hx,ex⟩:=List.mem_map.mp g
     rw [← ex,heldc.row x hx] at e; cases e; exact ho _ rfl
  have halld : Hall Hd C p dx nn ll nums2 ls2:=hallc.off fun b o ho e=>frame b o (notin b o ho e) e
  have hothd : Hall Hd C p' dx' nn' ll' [(r1,0),(r0,1)] []:=hothc.off fun b o ho e=>frame b o (notin b o ho e) e
  have out : ∀ {x : Addr} {xs : List V},Hc x = some (.lst xs)→x ∉ D :: sA :: prs.map (·.1)→x ∉ D :: sA :: prs2.map (·.1):=fun {x xs} e h z=>by
   rcases List.mem_cons.mp z with g | g
   ·exact h (by rw [g]; exact List.mem_cons_self ..)
   ·rcases List.mem_cons.mp g with g | g
    ·exact h (by rw [g]; exact List.mem_cons_of_mem _ (List.mem_cons_self ..))
    ·rcases hnew x g with g | g
     ·exact h (List.mem_cons_of_mem _ (List.mem_cons_of_mem _ g))
     ·rw [g] at e; cases e
  rw [← eseen] at hseend
  have okd : Ok (r0 :: r1 :: rest) nms (prs2.map (·.2)) nums2 ls2:=by rw [erows]; exact ok2
  have std : Stand K C (r0 :: r1 :: rest) nms r0 r1 cs ra na p dx nn ll p' dx' nn' ll' D sA cz Hd:=⟨⟨nums2,ls2,prs2,okd,halld,heldd,hseend,hnd2,out hroomsc hra',out hnamesc hna',out hcellsc hcz'⟩,hothd,frame _ _ hra' hroomsc,frame _ _ hna' hnamesc,frame _ _ hcz' hcellsc⟩
  have hcand : ∀ x∈seenOf nums2,(PyData.str x).canLay0 = true:=fun x hx=>hrkc x (ok2.sub x hx)
  try dsimp only
  refine vR_at (v:=.ref p) rfl (vR_at (v:=.ref D) rfl (vR_at (v:=.ref sA) rfl ⟨p,dx,nn,ll,nums2,ls2,D,prs2,sA,rfl,halld,heldd,hseend,hcand,okd.lr.mono fun _ _ z=>z.lr,by have:=ok2.len; omega,fun He se=>?_⟩))
  show (if (!true) = true then _ else _)
  rw [if_neg (by simp)]
  exact ⟨⟨_,_,rfl⟩,std.grow se⟩
 ·rintro σ' Hz ⟨⟨y7,y8,rfl⟩,st⟩
  have hoth:=st.other
  try dsimp only
  unfold tRet tAndM tMeth
  rw [op2]
  refine vR_at (v:=.ref p') rfl ⟨p',dx',_,rfl,hoth.ins,rfl,p',dx',nn',ll',_,_,rfl,hoth,fun z hz=>?_⟩
  have sz:=same_upd_new (o:=.lst ((seenOf [(r1,0),(r0,1)]).map V.str)) hz
  have hz1 : upd Hz z (.lst ((seenOf [(r1,0),(r0,1)]).map V.str)) z = some (.lst ([r1,r0].map V.str)):=upd_same
  generalize upd Hz z (.lst ((seenOf [(r1,0),(r0,1)]).map V.str)) = Hy at sz hz1 ⊢
  have hcan2 : ∀ x∈[r1,r0],(PyData.str x).canLay0 = true:=fun x hx=>by
   rcases List.mem_cons.mp hx with g | g
   ·rw [g]; exact k1.2
   ·rw [List.mem_singleton.mp g]; exact k0.2
  refine tVW_at (S:=[none,some (.fr,.list ((r0 :: r1 :: rest).map .str)),none,none,none,none,none,none,none]) ⟨_,_,rfl,_,_,rfl,rfl,has_strs (sz _ _ st.rooms) hrkc,_,_,rfl,_,_,rfl,_,_,rfl,_,_,rfl,_,_,rfl,_,_,rfl,_,_,rfl,rfl⟩ e_rev fun v Hx sx hv=>?_
  refine ⟨strsD [r1,r0],strsD [r1,r0],has_strs (sx _ _ hz1) hcan2,hv,depth_strs _,?_⟩
  rw [SeqAt.eqv_refl _ (can_strs hcan2)]
  show (if true = true then _ else _)
  rw [if_pos rfl,op2]
  have hoth2:=(hoth.grow sz).grow sx
  refine vR_at (v:=.ref p') rfl ⟨p',dx',_,rfl,hoth2.ins,rfl,p',dx',nn',ll',_,[],[],rfl,hoth2,by decide,.nil,fun Hw q ts sw hq0 hqt hp=>?_⟩
  cases hp
  refine ⟨Nat.zero_le _,fun e he=>?_⟩
  have se:=same_upd_new (o:=.lst []) he
  exact ⟨.list [],.list [],⟨q,[],rfl,SqL.of (se _ _ hqt),rfl⟩,⟨e,[],rfl,SqL.of upd_same,rfl⟩,by decide,hq _⟩
end
end K61
namespace K61
open PySem L2 VM
set_option maxHeartbeats 4000000
theorem all_mk {l : PySem.W.OpenLaw} {w : World} {K : PySem.W.Frag} {h : Heap} {mg : Str→Option Value} {fa C f0 f1 f2 f3 f4 f5 f6 f7 f8 f9 f10 f11 f12 f13 f14 f15 f16 f17 f18 f19 f20 f21 : Addr} (X : K.In h) (G : h.Ns mainGlobals mg) (hfa : mg "law" = some (.ref fa)) {od0 an0 od1 an1 od2 an2 od3 an3 od4 an4 od5 an5 od6 an6 od7 an7 od8 an8 od9 an9 od10 an10 od11 an11 od12 an12 od13 an13 od14 an14 od15 an15 od16 an16 od17 an17 od18 an18 od19 an19 od20 an20 od21 an21 : Option Addr} {sl0 sl1 sl2 sl3 sl4 sl5 sl6 sl7 sl8 sl9 sl10 sl11 sl12 sl13 sl14 sl15 sl16 sl17 sl18 sl19 sl20 sl21 : Array (Option Value)} {oc0 kV0 dc0 pm0 cd0 ct0 oc1 kV1 dc1 pm1 cd1 ct1 oc2 kV2 dc2 pm2 cd2 ct2 oc3 kV3 dc3 pm3 cd3 ct3 oc4 kV4 dc4 pm4 cd4 ct4 oc5 kV5 dc5 pm5 cd5 ct5 oc6 kV6 dc6 pm6 cd6 ct6 oc7 kV7 dc7 pm7 cd7 ct7 oc8 kV8 dc8 pm8 cd8 ct8 oc9 kV9 dc9 pm9 cd9 ct9 oc10 kV10 dc10 pm10 cd10 ct10 oc11 kV11 dc11 pm11 cd11 ct11 oc12 kV12 dc12 pm12 cd12 ct12 oc13 kV13 dc13 pm13 cd13 ct13 oc14 kV14 dc14 pm14 cd14 ct14 oc15 kV15 dc15 pm15 cd15 ct15 oc16 kV16 dc16 pm16 cd16 ct16 oc17 kV17 dc17 pm17 cd17 ct17 oc18 kV18 dc18 pm18 cd18 ct18 oc19 kV19 dc19 pm19 cd19 ct19 oc20 kV20 dc20 pm20 cd20 ct20 oc21 kV21 dc21 pm21 cd21 ct21 : Value} {tk_LONGEST_NAME tk_MOST_PASSAGES tk_MOST_ROOMS tk_START tk_GOAL : Tok}
  (a0 : PySem.W.nsIn K mainGlobals "look_at_name" = some (some (.ref f0)))
  (l0 : K.lookup f0 = some ⟨oc0,od0,.func (PySem.W.fnOf "look_at_name" "look_at_name" (defArgs (top 16)) (defBody (top 16)) (defScope (top 16)) .none kV0 dc0 pm0 an0 cd0 ct0),sl0⟩)
  (c0 : PySem.W.codeIn K cd0 "look_at_name" = true)
  (k0 : PySem.W.keepIn K (.ref f0) = true)
  (a1 : PySem.W.nsIn K mainGlobals "_law_cell_at" = some (some (.ref f1)))
  (l1 : K.lookup f1 = some ⟨oc1,od1,.func (PySem.W.fnOf "_law_cell_at" "_law_cell_at" (defArgs (top 18)) (defBody (top 18)) (defScope (top 18)) .none kV1 dc1 pm1 an1 cd1 ct1),sl1⟩)
  (c1 : PySem.W.codeIn K cd1 "_law_cell_at" = true)
  (k1 : PySem.W.keepIn K (.ref f1) = true)
  (a2 : PySem.W.nsIn K mainGlobals "_law_mixed" = some (some (.ref f2)))
  (l2 : K.lookup f2 = some ⟨oc2,od2,.func (PySem.W.fnOf "_law_mixed" "_law_mixed" (defArgs (top 19)) (defBody (top 19)) (defScope (top 19)) .none kV2 dc2 pm2 an2 cd2 ct2),sl2⟩)
  (c2 : PySem.W.codeIn K cd2 "_law_mixed" = true)
  (k2 : PySem.W.keepIn K (.ref f2) = true)
  (a3 : PySem.W.nsIn K mainGlobals "_law_whole" = some (some (.ref f3)))
  (l3 : K.lookup f3 = some ⟨oc3,od3,.func (PySem.W.fnOf "_law_whole" "_law_whole" (defArgs (top 20)) (defBody (top 20)) (defScope (top 20)) .none kV3 dc3 pm3 an3 cd3 ct3),sl3⟩)
  (c3 : PySem.W.codeIn K cd3 "_law_whole" = true)
  (k3 : PySem.W.keepIn K (.ref f3) = true)
  (a4 : PySem.W.nsIn K mainGlobals "_law_words" = some (some (.ref f4)))
  (l4 : K.lookup f4 = some ⟨oc4,od4,.func (PySem.W.fnOf "_law_words" "_law_words" (defArgs (top 21)) (defBody (top 21)) (defScope (top 21)) .none kV4 dc4 pm4 an4 cd4 ct4),sl4⟩)
  (c4 : PySem.W.codeIn K cd4 "_law_words" = true)
  (k4 : PySem.W.keepIn K (.ref f4) = true)
  (a5 : PySem.W.nsIn K mainGlobals "_law_length" = some (some (.ref f5)))
  (l5 : K.lookup f5 = some ⟨oc5,od5,.func (PySem.W.fnOf "_law_length" "_law_length" (defArgs (top 22)) (defBody (top 22)) (defScope (top 22)) .none kV5 dc5 pm5 an5 cd5 ct5),sl5⟩)
  (c5 : PySem.W.codeIn K cd5 "_law_length" = true)
  (k5 : PySem.W.keepIn K (.ref f5) = true)
  (a6 : PySem.W.nsIn K mainGlobals "_law_width" = some (some (.ref f6)))
  (l6 : K.lookup f6 = some ⟨oc6,od6,.func (PySem.W.fnOf "_law_width" "_law_width" (defArgs (top 23)) (defBody (top 23)) (defScope (top 23)) .none kV6 dc6 pm6 an6 cd6 ct6),sl6⟩)
  (c6 : PySem.W.codeIn K cd6 "_law_width" = true)
  (k6 : PySem.W.keepIn K (.ref f6) = true)
  (a7 : PySem.W.nsIn K mainGlobals "_law_fresh" = some (some (.ref f7)))
  (l7 : K.lookup f7 = some ⟨oc7,od7,.func (PySem.W.fnOf "_law_fresh" "_law_fresh" (defArgs (top 24)) (defBody (top 24)) (defScope (top 24)) .none kV7 dc7 pm7 an7 cd7 ct7),sl7⟩)
  (c7 : PySem.W.codeIn K cd7 "_law_fresh" = true)
  (k7 : PySem.W.keepIn K (.ref f7) = true)
  (a8 : PySem.W.nsIn K mainGlobals "_law_deed" = some (some (.ref f8)))
  (l8 : K.lookup f8 = some ⟨oc8,od8,.func (PySem.W.fnOf "_law_deed" "_law_deed" (defArgs (top 25)) (defBody (top 25)) (defScope (top 25)) .none kV8 dc8 pm8 an8 cd8 ct8),sl8⟩)
  (c8 : PySem.W.codeIn K cd8 "_law_deed" = true)
  (k8 : PySem.W.keepIn K (.ref f8) = true)
  (a9 : PySem.W.nsIn K mainGlobals "_law_do" = some (some (.ref f9)))
  (l9 : K.lookup f9 = some ⟨oc9,od9,.func (PySem.W.fnOf "_law_do" "_law_do" (defArgs (top 26)) (defBody (top 26)) (defScope (top 26)) .none kV9 dc9 pm9 an9 cd9 ct9),sl9⟩)
  (c9 : PySem.W.codeIn K cd9 "_law_do" = true)
  (k9 : PySem.W.keepIn K (.ref f9) = true)
  (a10 : PySem.W.nsIn K mainGlobals "_law_noted" = some (some (.ref f10)))
  (l10 : K.lookup f10 = some ⟨oc10,od10,.func (PySem.W.fnOf "_law_noted" "_law_noted" (defArgs (top 27)) (defBody (top 27)) (defScope (top 27)) .none kV10 dc10 pm10 an10 cd10 ct10),sl10⟩)
  (c10 : PySem.W.codeIn K cd10 "_law_noted" = true)
  (k10 : PySem.W.keepIn K (.ref f10) = true)
  (a11 : PySem.W.nsIn K mainGlobals "_law_told" = some (some (.ref f11)))
  (l11 : K.lookup f11 = some ⟨oc11,od11,.func (PySem.W.fnOf "_law_told" "_law_told" (defArgs (top 28)) (defBody (top 28)) (defScope (top 28)) .none kV11 dc11 pm11 an11 cd11 ct11),sl11⟩)
  (c11 : PySem.W.codeIn K cd11 "_law_told" = true)
  (k11 : PySem.W.keepIn K (.ref f11) = true)
  (a12 : PySem.W.nsIn K mainGlobals "law" = some (some (.ref f12)))
  (l12 : K.lookup f12 = some ⟨oc12,od12,.func (PySem.W.fnOf "law" "law" (defArgs (top 29)) (defBody (top 29)) (defScope (top 29)) .none kV12 dc12 pm12 an12 cd12 ct12),sl12⟩)
  (c12 : PySem.W.codeIn K cd12 "law" = true)
  (k12 : PySem.W.keepIn K (.ref f12) = true)
  (aC : PySem.W.nsIn K mainGlobals "NamedHall" = some (some (.ref C)))
  (pg : PySem.W.plainGet K C Str.empty = true)
  (hd : PySem.W.hasDictIn K C = true)
  (po : PySem.W.plainOver K C = true)
  (sa : PySem.W.findIn K (.ref C) "__setattr__" = some (some (.builtin "object.__setattr__")))
  (no1 : PySem.W.findIn K (.ref C) "numbers" = some none)
  (no2 : PySem.W.findIn K (.ref C) "laid" = some none)
  (mk : PySem.W.makesIn K C = true)
  (kC : PySem.W.keepIn K (.ref C) = true)
  (a13 : PySem.W.findIn K (.ref C) "__init__" = some (some (.ref f13)))
  (l13 : K.lookup f13 = some ⟨oc13,od13,.func (PySem.W.fnOf "__init__" "NamedHall.__init__" (defArgs (mth 0)) (defBody (mth 0)) (defScope (mth 0)) .none kV13 dc13 pm13 an13 cd13 ct13),sl13⟩)
  (c13 : PySem.W.codeIn K cd13 "NamedHall.__init__" = true)
  (k13 : PySem.W.keepIn K (.ref f13) = true)
  (n13 : PySem.W.isFn K (.ref f13) = true)
  (a14 : PySem.W.findIn K (.ref C) "lay" = some (some (.ref f14)))
  (l14 : K.lookup f14 = some ⟨oc14,od14,.func (PySem.W.fnOf "lay" "NamedHall.lay" (defArgs (mth 1)) (defBody (mth 1)) (defScope (mth 1)) .none kV14 dc14 pm14 an14 cd14 ct14),sl14⟩)
  (c14 : PySem.W.codeIn K cd14 "NamedHall.lay" = true)
  (k14 : PySem.W.keepIn K (.ref f14) = true)
  (n14 : PySem.W.isFn K (.ref f14) = true)
  (a15 : PySem.W.findIn K (.ref C) "shut" = some (some (.ref f15)))
  (l15 : K.lookup f15 = some ⟨oc15,od15,.func (PySem.W.fnOf "shut" "NamedHall.shut" (defArgs (mth 2)) (defBody (mth 2)) (defScope (mth 2)) .none kV15 dc15 pm15 an15 cd15 ct15),sl15⟩)
  (c15 : PySem.W.codeIn K cd15 "NamedHall.shut" = true)
  (k15 : PySem.W.keepIn K (.ref f15) = true)
  (n15 : PySem.W.isFn K (.ref f15) = true)
  (a16 : PySem.W.findIn K (.ref C) "widen" = some (some (.ref f16)))
  (l16 : K.lookup f16 = some ⟨oc16,od16,.func (PySem.W.fnOf "widen" "NamedHall.widen" (defArgs (mth 3)) (defBody (mth 3)) (defScope (mth 3)) .none kV16 dc16 pm16 an16 cd16 ct16),sl16⟩)
  (c16 : PySem.W.codeIn K cd16 "NamedHall.widen" = true)
  (k16 : PySem.W.keepIn K (.ref f16) = true)
  (n16 : PySem.W.isFn K (.ref f16) = true)
  (a17 : PySem.W.findIn K (.ref C) "narrow" = some (some (.ref f17)))
  (l17 : K.lookup f17 = some ⟨oc17,od17,.func (PySem.W.fnOf "narrow" "NamedHall.narrow" (defArgs (mth 4)) (defBody (mth 4)) (defScope (mth 4)) .none kV17 dc17 pm17 an17 cd17 ct17),sl17⟩)
  (c17 : PySem.W.codeIn K cd17 "NamedHall.narrow" = true)
  (k17 : PySem.W.keepIn K (.ref f17) = true)
  (n17 : PySem.W.isFn K (.ref f17) = true)
  (a18 : PySem.W.findIn K (.ref C) "look_for" = some (some (.ref f18)))
  (l18 : K.lookup f18 = some ⟨oc18,od18,.func (PySem.W.fnOf "look_for" "NamedHall.look_for" (defArgs (mth 5)) (defBody (mth 5)) (defScope (mth 5)) .none kV18 dc18 pm18 an18 cd18 ct18),sl18⟩)
  (c18 : PySem.W.codeIn K cd18 "NamedHall.look_for" = true)
  (k18 : PySem.W.keepIn K (.ref f18) = true)
  (n18 : PySem.W.isFn K (.ref f18) = true)
  (a19 : PySem.W.findIn K (.ref C) "change_width" = some (some (.ref f19)))
  (l19 : K.lookup f19 = some ⟨oc19,od19,.func (PySem.W.fnOf "change_width" "NamedHall.change_width" (defArgs (mth 6)) (defBody (mth 6)) (defScope (mth 6)) .none kV19 dc19 pm19 an19 cd19 ct19),sl19⟩)
  (c19 : PySem.W.codeIn K cd19 "NamedHall.change_width" = true)
  (k19 : PySem.W.keepIn K (.ref f19) = true)
  (n19 : PySem.W.isFn K (.ref f19) = true)
  (a20 : PySem.W.findIn K (.ref C) "rooms" = some (some (.ref f20)))
  (l20 : K.lookup f20 = some ⟨oc20,od20,.func (PySem.W.fnOf "rooms" "NamedHall.rooms" (defArgs (mth 7)) (defBody (mth 7)) (defScope (mth 7)) .none kV20 dc20 pm20 an20 cd20 ct20),sl20⟩)
  (c20 : PySem.W.codeIn K cd20 "NamedHall.rooms" = true)
  (k20 : PySem.W.keepIn K (.ref f20) = true)
  (n20 : PySem.W.isFn K (.ref f20) = true)
  (a21 : PySem.W.findIn K (.ref C) "passages" = some (some (.ref f21)))
  (l21 : K.lookup f21 = some ⟨oc21,od21,.func (PySem.W.fnOf "passages" "NamedHall.passages" (defArgs (mth 8)) (defBody (mth 8)) (defScope (mth 8)) .none kV21 dc21 pm21 an21 cd21 ct21),sl21⟩)
  (c21 : PySem.W.codeIn K cd21 "NamedHall.passages" = true)
  (k21 : PySem.W.keepIn K (.ref f21) = true)
  (n21 : PySem.W.isFn K (.ref f21) = true)
  (g_LONGEST_NAME : PySem.W.nsIn K mainGlobals "LONGEST_NAME" = some (some (.int 12 tk_LONGEST_NAME)))
  (g_MOST_PASSAGES : PySem.W.nsIn K mainGlobals "MOST_PASSAGES" = some (some (.int 60 tk_MOST_PASSAGES)))
  (g_MOST_ROOMS : PySem.W.nsIn K mainGlobals "MOST_ROOMS" = some (some (.int 40 tk_MOST_ROOMS)))
  (g_START : PySem.W.nsIn K mainGlobals "START" = some (some (.int 0 tk_START)))
  (g_GOAL : PySem.W.nsIn K mainGlobals "GOAL" = some (some (.int 1 tk_GOAL)))
  (z_len : PySem.W.nsIn K mainGlobals "len" = some none)
  (z_list : PySem.W.nsIn K mainGlobals "list" = some none)
  (z_range : PySem.W.nsIn K mainGlobals "range" = some none)
  (z_enumerate : PySem.W.nsIn K mainGlobals "enumerate" = some none)
  (z_zip : PySem.W.nsIn K mainGlobals "zip" = some none)
  (z_abs : PySem.W.nsIn K mainGlobals "abs" = some none)
  (z_sum : PySem.W.nsIn K mainGlobals "sum" = some none)
  (z_min : PySem.W.nsIn K mainGlobals "min" = some none)
  (z_max : PySem.W.nsIn K mainGlobals "max" = some none)
  (z_int : PySem.W.nsIn K mainGlobals "int" = some none)
  (z_bool : PySem.W.nsIn K mainGlobals "bool" = some none)
  (z_tuple : PySem.W.nsIn K mainGlobals "tuple" = some none)
  (z_str : PySem.W.nsIn K mainGlobals "str" = some none)
  (z_sorted : PySem.W.nsIn K mainGlobals "sorted" = some none)
  (z_set : PySem.W.nsIn K mainGlobals "set" = some none)
  (z_isinstance : PySem.W.nsIn K mainGlobals "isinstance" = some none)
  (z_all : PySem.W.nsIn K mainGlobals "all" = some none) :
  ∃ fd : FuncData,(∀ (s : Shared) (v : Value),BindsTo s fd ⟨[v],[]⟩ [("_law_script",v)])∧∀ base : Heap,K.In base→base.Ns mainGlobals mg→FnOk l.prog w K mg base CX0 4 fa fd ["_law_script"] (spLaw K):=by
 have e:=hfa.symm.trans (PySem.W.mg_of X G a12)
 cases e
 have B : Bl mg:=⟨PySem.W.mg_none_of X G z_len,PySem.W.mg_none_of X G z_list,PySem.W.mg_none_of X G z_range,PySem.W.mg_none_of X G z_enumerate,PySem.W.mg_none_of X G z_zip,PySem.W.mg_none_of X G z_abs,PySem.W.mg_none_of X G z_sum,PySem.W.mg_none_of X G z_min,PySem.W.mg_none_of X G z_max,PySem.W.mg_none_of X G z_int,PySem.W.mg_none_of X G z_bool,PySem.W.mg_none_of X G z_tuple,PySem.W.mg_none_of X G z_str,PySem.W.mg_none_of X G z_sorted,PySem.W.mg_none_of X G z_set,PySem.W.mg_none_of X G z_isinstance⟩
 have cl : Cl K C:=⟨⟨pg,hd,po,sa⟩,no1,no2⟩
 have F0:=fun_mk (st:=top 16) l0 c0 k0
 have b0:=F0.binds (ps:=["name"]) fun _ _ _ _ _ _ us hl=>by obtain ⟨x0,rfl⟩:=len1 hl; exact rfl
 have F1:=fun_mk (st:=top 18) l1 c1 k1
 have b1:=F1.binds (ps:=["_law_script","_law_k"]) fun _ _ _ _ _ _ us hl=>by obtain ⟨x0,x1,rfl⟩:=len2 hl; exact rfl
 have F2:=fun_mk (st:=top 19) l2 c2 k2
 have b2:=F2.binds (ps:=["_law_cell","_law_k"]) fun _ _ _ _ _ _ us hl=>by obtain ⟨x0,x1,rfl⟩:=len2 hl; exact rfl
 have F3:=fun_mk (st:=top 20) l3 c3 k3
 have b3:=F3.binds (ps:=["_law_found"]) fun _ _ _ _ _ _ us hl=>by obtain ⟨x0,rfl⟩:=len1 hl; exact rfl
 have F4:=fun_mk (st:=top 21) l4 c4 k4
 have b4:=F4.binds (ps:=["_law_cell","_law_many","_law_k"]) fun _ _ _ _ _ _ us hl=>by obtain ⟨x0,x1,x2,rfl⟩:=len3 hl; exact rfl
 have F5:=fun_mk (st:=top 22) l5 c5 k5
 have b5:=F5.binds (ps:=["_law_cell"]) fun _ _ _ _ _ _ us hl=>by obtain ⟨x0,rfl⟩:=len1 hl; exact rfl
 have F6:=fun_mk (st:=top 23) l6 c6 k6
 have b6:=F6.binds (ps:=["_law_cell"]) fun _ _ _ _ _ _ us hl=>by obtain ⟨x0,rfl⟩:=len1 hl; exact rfl
 have F7:=fun_mk (st:=top 24) l7 c7 k7
 have b7:=F7.binds (ps:=["_law_words_here","_law_held"]) fun _ _ _ _ _ _ us hl=>by obtain ⟨x0,x1,rfl⟩:=len2 hl; exact rfl
 have F8:=fun_mk (st:=top 25) l8 c8 k8
 have b8:=F8.binds (ps:=["_law_cell","_law_held","_law_rooms","_law_names"]) fun _ _ _ _ _ _ us hl=>by obtain ⟨x0,x1,x2,x3,rfl⟩:=len4 hl; exact rfl
 have F9:=fun_mk (st:=top 26) l9 c9 k9
 have b9:=F9.binds (ps:=["_law_hall","_law_deed_here"]) fun _ _ _ _ _ _ us hl=>by obtain ⟨x0,x1,rfl⟩:=len2 hl; exact rfl
 have F10:=fun_mk (st:=top 27) l10 c10 k10
 have b10:=F10.binds (ps:=["_law_held","_law_seen","_law_deed_here"]) fun _ _ _ _ _ _ us hl=>by obtain ⟨x0,x1,x2,rfl⟩:=len3 hl; exact rfl
 have F11:=fun_mk (st:=top 28) l11 c11 k11
 have b11:=F11.binds (ps:=["_law_hall","_law_held","_law_seen"]) fun _ _ _ _ _ _ us hl=>by obtain ⟨x0,x1,x2,rfl⟩:=len3 hl; exact rfl
 have F12:=fun_mk (st:=top 29) l12 c12 k12
 have F13:=fun_mk (st:=mth 0) l13 c13 k13
 have b13:=F13.binds (ps:=["self","start","goal"]) fun _ _ _ _ _ _ us hl=>by obtain ⟨x0,x1,x2,rfl⟩:=len3 hl; exact rfl
 have m13 : Meth K C "__init__" f13:=⟨a13,n13,k13⟩
 have F14:=fun_mk (st:=mth 1) l14 c14 k14
 have b14:=F14.binds (ps:=["self","name","a","b","width","length"]) fun _ _ _ _ _ _ us hl=>by obtain ⟨x0,x1,x2,x3,x4,x5,rfl⟩:=len6 hl; exact rfl
 have m14 : Meth K C "lay" f14:=⟨a14,n14,k14⟩
 have F15:=fun_mk (st:=mth 2) l15 c15 k15
 have b15:=F15.binds (ps:=["self","name"]) fun _ _ _ _ _ _ us hl=>by obtain ⟨x0,x1,rfl⟩:=len2 hl; exact rfl
 have m15 : Meth K C "shut" f15:=⟨a15,n15,k15⟩
 have F16:=fun_mk (st:=mth 3) l16 c16 k16
 have b16:=F16.binds (ps:=["self","name","more"]) fun _ _ _ _ _ _ us hl=>by obtain ⟨x0,x1,x2,rfl⟩:=len3 hl; exact rfl
 have m16 : Meth K C "widen" f16:=⟨a16,n16,k16⟩
 have F17:=fun_mk (st:=mth 4) l17 c17 k17
 have b17:=F17.binds (ps:=["self","name","less"]) fun _ _ _ _ _ _ us hl=>by obtain ⟨x0,x1,x2,rfl⟩:=len3 hl; exact rfl
 have m17 : Meth K C "narrow" f17:=⟨a17,n17,k17⟩
 have F18:=fun_mk (st:=mth 5) l18 c18 k18
 have b18:=F18.binds (ps:=["self","name"]) fun _ _ _ _ _ _ us hl=>by obtain ⟨x0,x1,rfl⟩:=len2 hl; exact rfl
 have m18 : Meth K C "look_for" f18:=⟨a18,n18,k18⟩
 have F19:=fun_mk (st:=mth 6) l19 c19 k19
 have b19:=F19.binds (ps:=["self","name","change"]) fun _ _ _ _ _ _ us hl=>by obtain ⟨x0,x1,x2,rfl⟩:=len3 hl; exact rfl
 have m19 : Meth K C "change_width" f19:=⟨a19,n19,k19⟩
 have F20:=fun_mk (st:=mth 7) l20 c20 k20
 have b20:=F20.binds (ps:=["self"]) fun _ _ _ _ _ _ us hl=>by obtain ⟨x0,rfl⟩:=len1 hl; exact rfl
 have m20 : Meth K C "rooms" f20:=⟨a20,n20,k20⟩
 have F21:=fun_mk (st:=mth 8) l21 c21 k21
 have b21:=F21.binds (ps:=["self"]) fun _ _ _ _ _ _ us hl=>by obtain ⟨x0,rfl⟩:=len1 hl; exact rfl
 have m21 : Meth K C "passages" f21:=⟨a21,n21,k21⟩
 refine ⟨PySem.W.fnOf "law" "law" (defArgs (top 29)) (defBody (top 29)) (defScope (top 29)) .none kV12 dc12 pm12 an12 cd12 ct12,fun s v=>.of_eq rfl,fun base _ _=>?_⟩
 have Clook_at_name : Cal l.prog w K mg base 1 "look_at_name" ["name"] (spV K m_look_at_name):=⟨_,_,ok_look_at_name F0 B (kits K) (PySem.W.mg_none_of X G z_all) (PySem.W.mg_of X G g_LONGEST_NAME),PySem.W.mg_of X G a0,k0,b0⟩
 have C_law_cell_at : Cal l.prog w K mg base 1 "_law_cell_at" ["_law_script","_law_k"] (spV K m__law_cell_at):=⟨_,_,ok__law_cell_at F1 B (kits K),PySem.W.mg_of X G a1,k1,b1⟩
 have C_law_mixed : Cal l.prog w K mg base 1 "_law_mixed" ["_law_cell","_law_k"] (spV K m__law_mixed):=⟨_,_,ok__law_mixed F2 B (kits K),PySem.W.mg_of X G a2,k2,b2⟩
 have C_law_whole : Cal l.prog w K mg base 1 "_law_whole" ["_law_found"] (spV K m__law_whole):=⟨_,_,ok__law_whole F3 B (kits K),PySem.W.mg_of X G a3,k3,b3⟩
 have C_law_words : Cal l.prog w K mg base 2 "_law_words" ["_law_cell","_law_many","_law_k"] (spV K m__law_words):=⟨_,_,ok__law_words F4 B (kits K) C_law_mixed,PySem.W.mg_of X G a4,k4,b4⟩
 have C_law_length : Cal l.prog w K mg base 2 "_law_length" ["_law_cell"] (spV K m__law_length):=⟨_,_,ok__law_length F5 B (kits K) C_law_mixed,PySem.W.mg_of X G a5,k5,b5⟩
 have C_law_width : Cal l.prog w K mg base 2 "_law_width" ["_law_cell"] (spV K m__law_width):=⟨_,_,ok__law_width F6 B (kits K) C_law_mixed,PySem.W.mg_of X G a6,k6,b6⟩
 have C_law_fresh : Cal l.prog w K mg base 1 "_law_fresh" ["_law_words_here","_law_held"] (spV K m__law_fresh):=⟨_,_,ok__law_fresh F7 B (kits K),PySem.W.mg_of X G a7,k7,b7⟩
 have C_law_deed : Cal l.prog w K mg base 3 "_law_deed" ["_law_cell","_law_held","_law_rooms","_law_names"] (spV K m__law_deed):=⟨_,_,ok__law_deed F8 B (kits K) C_law_mixed C_law_width C_law_fresh C_law_length,PySem.W.mg_of X G a8,k8,b8⟩
 have O5:=ok_find (P:=l.prog) (w:=w) (mg:=mg) (base:=base) F18 cl
 have O6:=ok_chg (P:=l.prog) (w:=w) (mg:=mg) (base:=base) F19 cl
 have Mshut : Ms l.prog w K mg base C 2 "shut" ["self","name"] (spShut C):=⟨_,_,ok_shut F15 cl O5 m18 b18,m15,b15⟩
 have Mwiden : Ms l.prog w K mg base C 2 "widen" ["self","name","more"] (spWiden C):=⟨_,_,ok_widen F16 cl O5 m18 b18 O6 m19 b19,m16,b16⟩
 have Mnarrow : Ms l.prog w K mg base C 2 "narrow" ["self","name","less"] (spNarrow C):=⟨_,_,ok_narrow F17 cl O5 m18 b18 O6 m19 b19,m17,b17⟩
 have Mlay : Ms l.prog w K mg base C 2 "lay" ["self","name","a","b","width","length"] (spLay C):=⟨_,_,ok_lay F14 B cl Clook_at_name (PySem.W.mg_of X G g_MOST_PASSAGES) (PySem.W.mg_of X G g_MOST_ROOMS),m14,b14⟩
 have O7:=ok_rooms (P:=l.prog) (w:=w) (mg:=mg) (base:=base) F20 B cl
 have Mrooms : Ms l.prog w K mg base C 1 "rooms" ["self"] (spRooms C):=⟨_,_,O7,m20,b20⟩
 have Mpass : Ms l.prog w K mg base C 2 "passages" ["self"] (spPass C):=⟨_,_,ok_pass F21 cl O7 m20 b20,m21,b21⟩
 have Oi:=ok_init (P:=l.prog) (w:=w) (mg:=mg) (base:=base) F13 cl Clook_at_name (PySem.W.mg_of X G g_START) (PySem.W.mg_of X G g_GOAL)
 have C_law_do : Cal l.prog w K mg base 3 "_law_do" ["_law_hall","_law_deed_here"] (spDo K C):=⟨_,_,ok_do F9 cl Mlay Mshut Mwiden Mnarrow,PySem.W.mg_of X G a9,k9,b9⟩
 have C_law_noted : Cal l.prog w K mg base 1 "_law_noted" ["_law_held","_law_seen","_law_deed_here"] (spNoted K):=⟨_,_,ok_noted F10 B,PySem.W.mg_of X G a10,k10,b10⟩
 have C_law_told : Cal l.prog w K mg base 3 "_law_told" ["_law_hall","_law_held","_law_seen"] (spTold C):=⟨_,_,ok_told F11 B (kits K) cl C_law_whole Mrooms Mpass,PySem.W.mg_of X G a11,k11,b11⟩
 exact ok_law F12 B (kits K) cl ⟨mk,a13,n13,kC⟩ Oi b13 (PySem.W.mg_of X G aC) Mrooms Mpass C_law_cell_at C_law_mixed C_law_words C_law_deed C_law_do C_law_noted C_law_told
end K61
open PySem PySem.W PyProof.Rows
def PySem.W.Fast.tw16452857380162696267 : Nat := 0
def PySem.W.Fast.tw562418686082247862 : Nat := 0
def PySem.W.Fast.tw5617958569384874488 : Nat := 0
def PySem.W.Fast.tw6246780307559293175 : Nat := 0
def PySem.W.Fast.tw11155259586359174980 : Nat := 0
def PySem.W.Fast.tw16702608527905530523 : Nat := 0
def PySem.W.Fast.tw4327711966635843420 : Nat := 0
def PySem.W.Fast.tw8581710356919921189 : Nat := 0
def PySem.W.Fast.tw7075203473337655033 : Nat := 0
def PySem.W.Fast.tw4114893267408189565 : Nat := 0
def PySem.W.Fast.tw1410959061803240204 : Nat := 0
def PySem.W.Fast.tw9148889719065163416 : Nat := 0
set_option maxRecDepth 100000 in
set_option maxHeartbeats 0 in
theorem PySem.Challenge.cw_leavehall_k61_deeds_and_what_is_asked_holds : PySem.Challenge.rw_leavehall_k61_deeds_and_what_is_asked.Holds := by
 w_on; o_law; k_head; (case hw=>w_witness2)
 k_fill
 refine VM.walk (l:=PySem.Challenge.rw_leavehall_k61_deeds_and_what_is_asked) (k:=4) (x:="_law_script") rfl rfl ⟨rfl,by decide,by decide⟩ (fun w h Y=>PySem.W.kIn_of Y) ?F
 case F =>
  intro w mg fa h KX G hmg
  refine' K61.all_mk KX G hmg ?a0 ?l0 ?c0 ?k0 ?a1 ?l1 ?c1 ?k1 ?a2 ?l2 ?c2 ?k2 ?a3 ?l3 ?c3 ?k3 ?a4 ?l4 ?c4 ?k4 ?a5 ?l5 ?c5 ?k5 ?a6 ?l6 ?c6 ?k6 ?a7 ?l7 ?c7 ?k7 ?a8 ?l8 ?c8 ?k8 ?a9 ?l9 ?c9 ?k9 ?a10 ?l10 ?c10 ?k10 ?a11 ?l11 ?c11 ?k11 ?a12 ?l12 ?c12 ?k12 ?aC ?pg ?hd ?po ?sa ?no1 ?no2 ?mk ?kC ?a13 ?l13 ?c13 ?k13 ?n13 ?a14 ?l14 ?c14 ?k14 ?n14 ?a15 ?l15 ?c15 ?k15 ?n15 ?a16 ?l16 ?c16 ?k16 ?n16 ?a17 ?l17 ?c17 ?k17 ?n17 ?a18 ?l18 ?c18 ?k18 ?n18 ?a19 ?l19 ?c19 ?k19 ?n19 ?a20 ?l20 ?c20 ?k20 ?n20 ?a21 ?l21 ?c21 ?k21 ?n21 ?g_LONGEST_NAME ?g_MOST_PASSAGES ?g_MOST_ROOMS ?g_START ?g_GOAL ?z_len ?z_list ?z_range ?z_enumerate ?z_zip ?z_abs ?z_sum ?z_min ?z_max ?z_int ?z_bool ?z_tuple ?z_str ?z_sorted ?z_set ?z_isinstance ?z_all
  (case a0=>k_is)
  (case l0=>k_is)
  (case c0=>k_is)
  (case k0=>k_is)
  (case a1=>k_is)
  (case l1=>k_is)
  (case c1=>k_is)
  (case k1=>k_is)
  (case a2=>k_is)
  (case l2=>k_is)
  (case c2=>k_is)
  (case k2=>k_is)
  (case a3=>k_is)
  (case l3=>k_is)
  (case c3=>k_is)
  (case k3=>k_is)
  (case a4=>k_is)
  (case l4=>k_is)
  (case c4=>k_is)
  (case k4=>k_is)
  (case a5=>k_is)
  (case l5=>k_is)
  (case c5=>k_is)
  (case k5=>k_is)
  (case a6=>k_is)
  (case l6=>k_is)
  (case c6=>k_is)
  (case k6=>k_is)
  (case a7=>k_is)
  (case l7=>k_is)
  (case c7=>k_is)
  (case k7=>k_is)
  (case a8=>k_is)
  (case l8=>k_is)
  (case c8=>k_is)
  (case k8=>k_is)
  (case a9=>k_is)
  (case l9=>k_is)
  (case c9=>k_is)
  (case k9=>k_is)
  (case a10=>k_is)
  (case l10=>k_is)
  (case c10=>k_is)
  (case k10=>k_is)
  (case a11=>k_is)
  (case l11=>k_is)
  (case c11=>k_is)
  (case k11=>k_is)
  (case a12=>k_is)
  (case l12=>k_is)
  (case c12=>k_is)
  (case k12=>k_is)
  (case aC=>k_is)
  (case pg=>k_is)
  (case hd=>k_is)
  (case po=>k_is)
  (case sa=>k_is)
  (case no1=>k_is)
  (case no2=>k_is)
  (case mk=>k_is)
  (case kC=>k_is)
  (case a13=>k_is)
  (case l13=>k_is)
  (case c13=>k_is)
  (case k13=>k_is)
  (case n13=>k_is)
  (case a14=>k_is)
  (case l14=>k_is)
  (case c14=>k_is)
  (case k14=>k_is)
  (case n14=>k_is)
  (case a15=>k_is)
  (case l15=>k_is)
  (case c15=>k_is)
  (case k15=>k_is)
  (case n15=>k_is)
  (case a16=>k_is)
  (case l16=>k_is)
  (case c16=>k_is)
  (case k16=>k_is)
  (case n16=>k_is)
  (case a17=>k_is)
  (case l17=>k_is)
  (case c17=>k_is)
  (case k17=>k_is)
  (case n17=>k_is)
  (case a18=>k_is)
  (case l18=>k_is)
  (case c18=>k_is)
  (case k18=>k_is)
  (case n18=>k_is)
  (case a19=>k_is)
  (case l19=>k_is)
  (case c19=>k_is)
  (case k19=>k_is)
  (case n19=>k_is)
  (case a20=>k_is)
  (case l20=>k_is)
  (case c20=>k_is)
  (case k20=>k_is)
  (case n20=>k_is)
  (case a21=>k_is)
  (case l21=>k_is)
  (case c21=>k_is)
  (case k21=>k_is)
  (case n21=>k_is)
  (case g_LONGEST_NAME=>k_is)
  (case g_MOST_PASSAGES=>k_is)
  (case g_MOST_ROOMS=>k_is)
  (case g_START=>k_is)
  (case g_GOAL=>k_is)
  (case z_len=>k_is)
  (case z_list=>k_is)
  (case z_range=>k_is)
  (case z_enumerate=>k_is)
  (case z_zip=>k_is)
  (case z_abs=>k_is)
  (case z_sum=>k_is)
  (case z_min=>k_is)
  (case z_max=>k_is)
  (case z_int=>k_is)
  (case z_bool=>k_is)
  (case z_tuple=>k_is)
  (case z_str=>k_is)
  (case z_sorted=>k_is)
  (case z_set=>k_is)
  (case z_isinstance=>k_is)
  (case z_all=>k_is)
