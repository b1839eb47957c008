import PyProof.Rows.All
import Wide.All
import OpenK.AllK
import Wide.FinOn
import Lean
import PyProof.EqAt
import PyProof.EqKinds
import PyProof.TupleCall
import PySem.Challenge.RW_leavehall_k21_flows_parted
set_option Elab.async false
set_option linter.all false
set_option maxRecDepth 100000
namespace L2
open PySem PySem.Spec PyProof.Rows
noncomputable abbrev Key := Sum Int Str
noncomputable def keyIs : Key → Value → Bool
  | .inl k, v => Value.isInt k v
  | .inr x, v => Value.isStrOf x v
noncomputable def keyH (w : World) : Key → Int
  | .inl k => hashInt k
  | .inr x => hashStr w x
theorem keyIs_shape : ∀ {k : Key} {v : Value}, keyIs k v = true → (∃ i t, k = Sum.inl i ∧ v = Value.int i t) ∨ (∃ x t, k = Sum.inr x ∧ v = Value.str x t)
  | .inl i, v, h => by
    obtain ⟨t, e⟩ := Value.isInt_shape (k := i) (v := v) h
    exact .inl ⟨i, t, rfl, e⟩
  | .inr x, v, h => by
    obtain ⟨t, e⟩ := Value.isStrOf_shape (x := x) (v := v) h
    exact .inr ⟨x, t, rfl, e⟩
theorem key_ll (a b : Int) : decide ((Sum.inl a : Key) = Sum.inl b) = (a == b) := by
  by_cases e : a = b
  · subst e; simp
  · have h : ¬ (Sum.inl a : Key) = Sum.inl b := fun q => e (Sum.inl.inj q)
    rw [decide_eq_false h]
    exact (beq_eq_false_iff_ne.mpr e).symm
theorem key_rr (a b : Str) : decide ((Sum.inr a : Key) = Sum.inr b) = decide (a = b) := by
  by_cases e : a = b
  · subst e; simp
  · have h : ¬ (Sum.inr a : Key) = Sum.inr b := fun q => e (Sum.inr.inj q)
    rw [decide_eq_false h, decide_eq_false e]
theorem key_lr (a : Int) (b : Str) : decide ((Sum.inl a : Key) = Sum.inr b) = false := decide_eq_false (fun q => nomatch q)
theorem key_rl (a : Str) (b : Int) : decide ((Sum.inr a : Key) = Sum.inl b) = false := decide_eq_false (fun q => nomatch q)
noncomputable def mixKind (prog : Program) (w : World) : PySem.KeyKind prog w Key where
  is := keyIs
  hash := keyH w
  inj := fun v a b ha hb => by
    rcases keyIs_shape ha with ⟨i, t, rfl, rfl⟩ | ⟨x, t, rfl, rfl⟩
    · rcases keyIs_shape hb with ⟨j, u, rfl, e⟩ | ⟨y, u, rfl, e⟩
      · injection e with e1 _; rw [e1]
      · exact nomatch e
    · rcases keyIs_shape hb with ⟨j, u, rfl, e⟩ | ⟨y, u, rfl, e⟩
      · exact nomatch e
      · injection e with e1 _; rw [e1]
  byValue := fun k v h => by
    rcases keyIs_shape h with ⟨i, t, rfl, rfl⟩ | ⟨x, t, rfl, rfl⟩ <;> rfl
  pyHash := fun hv h => by
    rcases keyIs_shape hv with ⟨i, t, rfl, rfl⟩ | ⟨x, t, rfl, rfl⟩
    · exact wpAny_pyHash_int h
    · exact wpAny_pyHash_str h
  eqBool := fun hu hv h => by
    rcases keyIs_shape hu with ⟨i, t, rfl, rfl⟩ | ⟨x, t, rfl, rfl⟩
    · rcases keyIs_shape hv with ⟨j, u, rfl, rfl⟩ | ⟨y, u, rfl, rfl⟩
      · rw [key_ll] at h; exact wpAny_eqBool_int h
      · rw [key_lr] at h; exact SeqAt.EqAt.int_str i t y u _ _ _ _ h
    · rcases keyIs_shape hv with ⟨j, u, rfl, rfl⟩ | ⟨y, u, rfl, rfl⟩
      · rw [key_rl] at h; exact SeqAt.EqAt.str_int x t j u _ _ _ _ h
      · rw [key_rr] at h; exact wpAny_eqBool_str h
  «strs» := fun k x t v h => by
    rcases keyIs_shape h with ⟨i, u, rfl, e⟩ | ⟨y, u, rfl, e⟩
    · exact nomatch e
    · injection e with e1 _
      subst e1
      cases v <;> rfl
end L2
namespace L2
open PySem PySem.Spec PyProof.Rows
inductive V where
  | non | bl (b : Bool) | int (i : Int) | str (x : Str) | byt (b : Array UInt8) | flt (b : UInt64) | ref (a : Addr) | ty (n : String)
  deriving DecidableEq
noncomputable def RelV : V → Value → Prop
  | .non, u => u = Value.none
  | .bl b, u => u = Value.bool b
  | .int i, u => ∃ t, u = Value.int i t
  | .str x, u => ∃ t, u = Value.str x t
  | .byt b, u => ∃ t, u = Value.bytes b t
  | .flt b, u => ∃ t, u = Value.float b t
  | .ref a, u => u = Value.ref a
  | .ty n, u => u = Value.type n
noncomputable abbrev Vals : List V → List Value → Prop := Paired RelV
theorem Vals.length {xs : List V} {us : List Value} (r : Vals xs us) : xs.length = us.length := Paired.length r
theorem Vals.get : ∀ {xs : List V} {us : List Value} {i : Nat} {x : V}, Vals xs us → xs[i]? = some x → ∃ u, us[i]? = some u ∧ RelV x u
  | _, _, _, _, .nil, e => by simp at e
  | _, _, 0, _, .cons r _, e => by simp at e; subst e; exact ⟨_, rfl, r⟩
  | _, _, i + 1, x, .cons _ t, e => by
    obtain ⟨u, h1, h2⟩ := Vals.get (i := i) (x := x) t (by simpa using e)
    exact ⟨u, by simpa using h1, h2⟩
theorem Vals.set {x : V} {u : Value} (r : RelV x u) : ∀ {xs : List V} {us : List Value} (i : Nat), Vals xs us → Vals (xs.set i x) (us.set i u)
  | _, _, _, .nil => .nil
  | _, _, 0, .cons _ t => .cons r t
  | _, _, i + 1, .cons q t => .cons q (Vals.set r i t)
theorem Vals.append : ∀ {xs ys : List V} {us ws : List Value}, Vals xs us → Vals ys ws → Vals (xs ++ ys) (us ++ ws)
  | _, _, _, _, .nil, s => s
  | _, _, _, _, .cons r t, s => .cons r (Vals.append t s)
theorem Vals.take : ∀ {xs : List V} {us : List Value} (n : Nat), Vals xs us → Vals (xs.take n) (us.take n)
  | _, _, 0, _ => .nil
  | _, _, _ + 1, .nil => .nil
  | _, _, n + 1, .cons r t => .cons r (Vals.take n t)
theorem Vals.drop : ∀ {xs : List V} {us : List Value} (n : Nat), Vals xs us → Vals (xs.drop n) (us.drop n)
  | _, _, 0, r => r
  | _, _, _ + 1, .nil => .nil
  | _, _, n + 1, .cons _ t => Vals.drop n t
theorem Vals.none_of : ∀ {xs : List V} {us : List Value} {i : Nat}, Vals xs us → xs[i]? = none → us[i]? = none := fun {xs us i} r e => by
  have h1 := r.length
  have h2 : xs.length ≤ i := List.getElem?_eq_none_iff.mp e
  exact List.getElem?_eq_none_iff.mpr (by omega)
noncomputable def RelO : Option V → Option Value → Prop
  | some v, some u => RelV v u
  | none, none => True
  | _, _ => False
noncomputable def KV {κ : Type} : List (κ × V) → List (κ × Value) → Prop := Paired fun (p : κ × V) (q : κ × Value) => p.1 = q.1 ∧ RelV p.2 q.2
noncomputable def kV : Key → V
  | .inl i => .int i
  | .inr x => .str x
inductive HO where
  | lst (xs : List V)
  | tup (xs : List V)
  | dK (kvs : List (Key × V)) | dT (kvs : List (List Key × V))
  | set (S : Int → Bool) (n : Nat)
  | ins (C dx : Addr) (fs : List (Str × V))
  | own (x : Addr)
  | xd (fs : List (Str × V))
  | met (f x : Addr)
  | rng (lo hi : Int)
  | frz (o : Obj) (u : HO)
  | tbl (ps : Array Value)
  | ext (φ : Heap → Prop)
noncomputable abbrev Hp := Addr → Option HO
noncomputable def upd (H : Hp) (a : Addr) (o : HO) : Hp := fun b => if b = a then some o else H b
theorem upd_same {H : Hp} {a : Addr} {o : HO} : upd H a o a = some o := by unfold upd; rw [if_pos rfl]
theorem upd_ne {H : Hp} {a b : Addr} {o : HO} (h : b ≠ a) : upd H a o b = H b := by unfold upd; rw [if_neg h]
theorem ne_of_none {H : Hp} {a b : Addr} {o : HO} (h : H a = some o) (h' : H b = none) : a ≠ b := by
  intro e; subst e; rw [h] at h'; cases h'
section
variable (P : Program) (w : World)
noncomputable def ObjOk (H : Hp) (h : Heap) (a : Addr) : HO → Prop
  | .lst xs => xs.length ≤ sizeLine ∧ ∃ (its : List Value) (n : Nat), Vals xs its ∧ h.get? a = some { cls := .type "list", data := .seq its.toArray n }
  | .tup xs => xs.length ≤ sizeLine ∧ ∃ its : List Value, Vals xs its ∧ IsTup h a its.toArray
  | .dK kvs => kvs.length ≤ sizeLine ∧ (a == sysModules) = false ∧ ∃ vs, KV kvs vs ∧ h.DictOf (mixKind P w) a vs
  | .dT kvs => kvs.length ≤ sizeLine ∧ (a == sysModules) = false ∧ ∃ xs : List (List Key × Addr × Value),
      Paired (fun (p : List Key × V) (q : List Key × Addr × Value) => p.1 = q.1 ∧ H q.2.1 = some (.tup (p.1.map kV)) ∧ RelV p.2 q.2.2) kvs xs ∧
      ∃ o es ep, h.get? a = some o ∧ o.ExactDict ∧ o.data = .dict es ep ∧ es.toList = xs.map (entryOfKey (tupleKind (mixKind P w))) ∧ (xs.map (·.1)).Nodup
  | .set S n => h.SetOf (intKind P w) a S n
  | .ins C dx fs => H dx = some (.own a) ∧ fs.length ≤ 1000 ∧ dx ≠ a ∧ h.get? a = some (PySem.W.instObj C dx) ∧
      ∃ mA, h.Ns1 dx mA ∧ (∀ f, RelO (fs.lookup f) (mA f)) ∧ PySem.Within mA (fs.map (·.1))
  | .own _ => ∃ o, h.get? a = some o
  | .xd fs => ∃ mA, h.Ns1 a mA ∧ ∀ f, RelO (fs.lookup f) (mA f)
  | .rng lo hi => ∃ t u v, h.get? a = some { cls := .type "range", data := .fields #[.int lo t, .int hi u, .int 1 v] }
  | .frz o u => h.get? a = some o ∧ ObjOk H h a u
  | .tbl ps => h.get? a = some { cls := .none, data := .fields ps }
  | .met f x => h.get? a = some (PySem.W.methodObj (.ref f) (.ref x))
  | .ext φ => φ h ∧ (∃ o, h.get? a = some o) ∧ ∀ h1 h2 : Heap, φ h1 → (∀ o, h1.get? a = some o → h2.get? a = some o) → φ h2
noncomputable def HOk (H : Hp) (h : Heap) : Prop := ∀ a o, H a = some o → ObjOk P w H h a o
end
section
variable {P : Program} {w : World} {H H' : Hp} {h h' : Heap} {a : Addr} {o : HO}
theorem ObjOk.lt (x : ObjOk P w H h a o) : a < h.objs.size := by
  cases o with
  | lst xs => obtain ⟨_, _, _, _, e⟩ := x; exact Heap.lt_size e
  | tup xs => obtain ⟨_, _, _, p⟩ := x; exact p.lt
  | dK kvs => obtain ⟨_, _, _, _, o, _, _, e, _⟩ := x; exact Heap.lt_size e
  | dT kvs => obtain ⟨_, _, _, _, o, _, _, e, _⟩ := x; exact Heap.lt_size e
  | set S n => obtain ⟨o, _, _, _, e, _⟩ := x; exact Heap.lt_size e
  | ins C dx fs => obtain ⟨_, _, _, e, _⟩ := x; exact Heap.lt_size e
  | own y => obtain ⟨_, e⟩ := x; exact Heap.lt_size e
  | xd fs => obtain ⟨_, ⟨_, _, _, e, _⟩, _⟩ := x; exact Heap.lt_size e
  | rng lo hi => obtain ⟨_, _, _, e⟩ := x; exact Heap.lt_size e
  | frz ob u => obtain ⟨e, _⟩ := x; exact Heap.lt_size e
  | tbl ps => exact Heap.lt_size (show h.get? a = some _ from x)
  | met f y => exact Heap.lt_size (show h.get? a = some _ from x)
  | ext φ => obtain ⟨_, ⟨_, e⟩, _⟩ := x; exact Heap.lt_size e
theorem Paired.mapP {α β : Type} {F G : α → β → Prop} : ∀ {l₁ : List α} {l₂ : List β}, Paired F l₁ l₂ → (∀ a b, F a b → G a b) → Paired G l₁ l₂
  | _, _, .nil, _ => .nil
  | _, _, .cons r t, f => .cons (f _ _ r) (Paired.mapP t f)
theorem ObjOk.stay (x : ObjOk P w H h a o) (k : ∀ b u, (b = a ∨ H b = some (.own a)) → h.get? b = some u → h'.get? b = some u)
    (ho : ∀ b, H b = some (.own a) → H' b = some (.own a)) (ht : ∀ b xs, H b = some (.tup xs) → H' b = some (.tup xs)) : ObjOk P w H' h' a o := by
  induction o with
  | lst xs => obtain ⟨z, its, n, r, e⟩ := x; exact ⟨z, its, n, r, k _ _ (.inl rfl) e⟩
  | tup xs => obtain ⟨z, its, r, ob, e, c⟩ := x; exact ⟨z, its, r, ob, k _ _ (.inl rfl) e, c⟩
  | dK kvs => obtain ⟨z, y, vs, r, ob, es, ep, e, c⟩ := x; exact ⟨z, y, vs, r, ob, es, ep, k _ _ (.inl rfl) e, c⟩
  | dT kvs =>
    obtain ⟨z, y, xs, r, ob, es, ep, e, c⟩ := x
    exact ⟨z, y, xs, Paired.mapP r fun p q z => ⟨z.1, ht _ _ z.2.1, z.2.2⟩, ob, es, ep, k _ _ (.inl rfl) e, c⟩
  | set S n => obtain ⟨ob, es, ep, t, e, c⟩ := x; exact ⟨ob, es, ep, t, k _ _ (.inl rfl) e, c⟩
  | ins C dx fs =>
    obtain ⟨d, z, ne, e, mA, ⟨od, es, ep, e2, c⟩, r⟩ := x
    exact ⟨ho _ d, z, ne, k _ _ (.inl rfl) e, mA, ⟨od, es, ep, k _ _ (.inr d) e2, c⟩, r⟩
  | own y => obtain ⟨ob, e⟩ := x; exact ⟨ob, k _ _ (.inl rfl) e⟩
  | xd fs => obtain ⟨mA, ⟨od, es, ep, e, c⟩, r⟩ := x; exact ⟨mA, ⟨od, es, ep, k _ _ (.inl rfl) e, c⟩, r⟩
  | rng lo hi => obtain ⟨t, u, v, e⟩ := x; exact ⟨t, u, v, k _ _ (.inl rfl) e⟩
  | frz ob u ih => obtain ⟨e, q⟩ := x; exact ⟨k _ _ (.inl rfl) e, ih q⟩
  | tbl ps =>
    have e : h.get? a = some { cls := .none, data := .fields ps } := x
    show h'.get? a = some { cls := .none, data := .fields ps }
    exact k a _ (.inl rfl) e
  | met f y =>
    have e : h.get? a = some (PySem.W.methodObj (.ref f) (.ref y)) := x
    show h'.get? a = some (PySem.W.methodObj (.ref f) (.ref y))
    exact k a _ (.inl rfl) e
  | ext φ => obtain ⟨p, ⟨o, e⟩, st⟩ := x; exact ⟨st _ _ p fun o q => k _ _ (.inl rfl) q, ⟨o, k _ _ (.inl rfl) e⟩, st⟩
theorem HOk.lt (x : HOk P w H h) (e : H a = some o) : a < h.objs.size := (x a o e).lt
theorem HOk.fresh (x : HOk P w H h) (e : h.objs.size ≤ a) : H a = none := by
  cases q : H a with
  | none => rfl
  | some u => exact absurd (Nat.lt_of_lt_of_le (x.lt q) e) (Nat.lt_irrefl _)
theorem HOk.kept (x : HOk P w H h) (k : ∀ b u, h.get? b = some u → h'.get? b = some u) : HOk P w H h' := fun a o e =>
  (x a o e).stay (fun b u _ q => k b u q) (fun _ q => q) fun _ _ q => q
theorem HOk.laid (x : HOk P w H h) (k : ∀ b u, h.get? b = some u → h'.get? b = some u) (hp : h.objs.size ≤ a) (new : ObjOk P w (upd H a o) h' a o) : HOk P w (upd H a o) h' := fun b u e => by
  have hn := x.fresh hp
  by_cases hb : b = a
  · subst hb; rw [upd_same] at e; cases e; exact new
  · rw [upd_ne hb] at e
    exact (x b u e).stay (fun c v _ q => k c v q) (fun c q => by rw [upd_ne (ne_of_none q hn)]; exact q) fun c xs q => by rw [upd_ne (ne_of_none q hn)]; exact q
end
noncomputable def Rd (H : Hp) (a : Addr) (u : HO) : Prop := H a = some u ∨ ∃ o, H a = some (.frz o u)
theorem Rd.of {H : Hp} {a : Addr} {u : HO} (h : H a = some u) : Rd H a u := .inl h
theorem Rd.ok {P : Program} {w : World} {H : Hp} {h : Heap} {a : Addr} {u : HO} (r : Rd H a u) (x : HOk P w H h) : ObjOk P w H h a u := by
  rcases r with r | ⟨o, r⟩
  · exact x a u r
  · obtain ⟨_, q⟩ := x a _ r
    exact q
noncomputable def Mut : Option HO → Prop
  | some (.lst _) => True
  | some (.dK _) => True
  | some (.dT _) => True
  | some (.set _ _) => True
  | some (.ins _ _ _) => True
  | some (.ext _) => True
  | _ => False
section
variable {P : Program} {w : World} {H : Hp} {h h' : Heap} {x e : Addr} {o' : HO}
theorem HOk.write (ok : HOk P w H h) (mu : Mut (H x)) (he : e = x ∨ H e = some (.own x)) (k : ∀ b u, b ≠ e → h.get? b = some u → h'.get? b = some u) (heo : ∃ u, h'.get? e = some u)
    (new : ObjOk P w (upd H x o') h' x o') : HOk P w (upd H x o') h' := fun b u q => by
  have nown : ∀ c y, H c = some (.own y) → c ≠ x := fun c y r z => by subst z; rw [r] at mu; exact mu
  have ntup : ∀ c xs, H c = some (.tup xs) → c ≠ x := fun c xs r z => by subst z; rw [r] at mu; exact mu
  by_cases hb : b = x
  · subst hb; rw [upd_same] at q; cases q; exact new
  · rw [upd_ne hb] at q
    by_cases hbe : b = e
    · have q' : H b = some (.own x) := by
        rcases he with z | z
        · exact absurd (hbe.trans z) hb
        · rw [hbe]; exact z
      rw [q] at q'; cases q'
      obtain ⟨v, hv⟩ := heo
      exact ⟨v, by rw [hbe]; exact hv⟩
    · refine (ok b u q).stay (fun c v hc r => k c v ?_ r) (fun c r => by rw [upd_ne (nown c b r)]; exact r) fun c xs r => by rw [upd_ne (ntup c xs r)]; exact r
      rcases hc with rfl | hc
      · exact hbe
      · rintro rfl
        rcases he with z | z
        · exact nown c b hc z
        · rw [hc] at z; cases z; exact hb rfl
end
structure Un (fs ex : List Addr) (H H' : Hp) (h h' : Heap) : Prop where
  keep : ∀ b o, h.get? b = some o → H b = none → b ∉ fs → b ∉ ex → h'.get? b = some o
  slot : ∀ b o, h.get? b = some o → H b = none → b ∈ fs → b ∉ ex → ∃ sl, h'.get? b = some { o with slots := sl }
  free : ∀ b o, h.get? b = some o → H b = none → b ∉ ex → H' b = none
  there : ∀ b o, h.get? b = some o → b ∉ ex → ∃ o', h'.get? b = some o'
  tups : ∀ b xs, H b = some (.tup xs) → H' b = some (.tup xs)
  frzs : ∀ b o u, H b = some (.frz o u) → H' b = some (.frz o u)
  tbls : ∀ b ps, H b = some (.tbl ps) → ∃ more, H' b = some (.tbl (ps ++ more))
section
variable {fs fs' ex ex' : List Addr} {H H1 H2 : Hp} {h h1 h2 h' : Heap} {a x e : Addr} {o : HO}
theorem Un.any (u : Un fs ex H H1 h h1) {b : Addr} {ob : Obj} (q : h.get? b = some ob) (n : H b = none) (hx : b ∉ ex) : ∃ sl, h1.get? b = some { ob with slots := sl } := by
  by_cases hb : b ∈ fs
  · exact u.slot b ob q n hb hx
  · exact ⟨ob.slots, u.keep b ob q n hb hx⟩
theorem Un.trans (a : Un fs ex H H1 h h1) (b : Un fs ex H1 H2 h1 h2) : Un fs ex H H2 h h2 where
  keep := fun c ob q n hc hx => b.keep c ob (a.keep c ob q n hc hx) (a.free c ob q n hx) hc hx
  slot := fun c ob q n hc hx => by
    obtain ⟨sl, e1⟩ := a.slot c ob q n hc hx
    obtain ⟨sl', e2⟩ := b.slot c _ e1 (a.free c ob q n hx) hc hx
    exact ⟨sl', e2⟩
  free := fun c ob q n hx => by
    obtain ⟨o', e1⟩ := a.there c ob q hx
    exact b.free c o' e1 (a.free c ob q n hx) hx
  there := fun c ob q hx => by
    obtain ⟨o', e1⟩ := a.there c ob q hx
    exact b.there c o' e1 hx
  tups := fun c xs q => b.tups c xs (a.tups c xs q)
  frzs := fun c ob xs q => b.frzs c ob xs (a.frzs c ob xs q)
  tbls := fun c ps q => by
    obtain ⟨m1, e1⟩ := a.tbls c ps q
    obtain ⟨m2, e2⟩ := b.tbls c _ e1
    exact ⟨m1 ++ m2, by rw [e2, Array.append_assoc]⟩
theorem Un.kept (k : ∀ b u, h.get? b = some u → h'.get? b = some u) : Un fs ex H H h h' :=
  ⟨fun b ob q _ _ _ => k b ob q, fun b ob q _ _ _ => ⟨ob.slots, k b ob q⟩, fun _ _ _ n _ => n, fun b ob q _ => ⟨ob, k b ob q⟩, fun _ _ q => q, fun _ _ _ q => q, fun _ ps q => ⟨#[], by rw [q]; simp⟩⟩
theorem Un.refl : Un fs ex H H h h := Un.kept fun _ _ q => q
theorem Un.laid (k : ∀ b u, h.get? b = some u → h'.get? b = some u) (hp : h.objs.size ≤ a) (hn : H a = none) : Un fs ex H (upd H a o) h h' where
  keep := fun b u q _ _ _ => k b u q
  slot := fun b u q _ _ _ => ⟨u.slots, k b u q⟩
  free := fun b u q n _ => by rw [upd_ne (Nat.ne_of_lt (Nat.lt_of_lt_of_le (Heap.lt_size q) hp))]; exact n
  there := fun b u q _ => ⟨u, k b u q⟩
  tups := fun b xs q => by rw [upd_ne (ne_of_none q hn)]; exact q
  frzs := fun b u xs q => by rw [upd_ne (ne_of_none q hn)]; exact q
  tbls := fun b ps q => ⟨#[], by rw [upd_ne (ne_of_none q hn), q]; simp⟩
theorem Un.write (mu : Mut (H x)) (he : e = x ∨ H e = some (.own x)) (k : ∀ b u, b ≠ e → h.get? b = some u → h'.get? b = some u) (heo : ∃ u, h'.get? e = some u) : Un fs ex H (upd H x o) h h' := by
  have hx : ∀ b, H b = none → b ≠ x := fun b n z => by subst z; rw [n] at mu; exact mu
  have hb : ∀ b, H b = none → b ≠ e := fun b n z => by
    subst z
    rcases he with r | r
    · exact hx b n r
    · rw [n] at r; cases r
  have hm : ∀ b u, H b = some u → ¬ Mut (some u) → b ≠ x := fun b u q nm z => by subst z; rw [q] at mu; exact nm mu
  refine ⟨fun b u q n _ _ => k b u (hb b n) q, fun b u q n _ _ => ⟨u.slots, k b u (hb b n) q⟩, fun b u q n _ => by rw [upd_ne (hx b n)]; exact n, fun b u q _ => ?_,
    fun b xs q => by rw [upd_ne (hm b _ q fun z => z)]; exact q, fun b u xs q => by rw [upd_ne (hm b _ q fun z => z)]; exact q, fun b ps q => ⟨#[], by rw [upd_ne (hm b _ q fun z => z), q]; simp⟩⟩
  by_cases hbe : b = e
  · subst hbe; exact heo
  · exact ⟨u, k b u hbe q⟩
theorem Un.mono (u : Un fs ex H H1 h h1) (hs : ∀ b ∈ fs, b ∈ fs') (hx : ∀ b ∈ ex, b ∈ ex') : Un fs' ex' H H1 h h1 :=
  ⟨fun b ob q n hb he => u.keep b ob q n (fun z => hb (hs b z)) fun z => he (hx b z), fun _ _ q n _ he => u.any q n fun z => he (hx _ z), fun b ob q n he => u.free b ob q n fun z => he (hx b z), fun b ob q he => u.there b ob q fun z => he (hx b z), u.tups, u.frzs, u.tbls⟩
end
noncomputable def trk (h : Heap) (H : Hp) : List Addr := (List.range h.objs.size).filter fun a => (H a).isSome
noncomputable def hidT (h : Heap) (H : Hp) : Heap := PySem.W.hideAll h (trk h H)
theorem hidT_size (h : Heap) (H : Hp) : (hidT h H).objs.size = h.objs.size := PySem.W.hideAll_size _ _
theorem hidT_get {h : Heap} {H : Hp} {b : Addr} {o : Obj} (e : h.get? b = some o) (n : H b = none) : (hidT h H).get? b = some o :=
  PySem.W.hideAll_get _ e fun hm => by
    have q : (H b).isSome = true := (List.mem_filter.mp hm).2
    rw [n] at q; simp at q
theorem of_hidT {h : Heap} {H : Hp} {b : Addr} {o : Obj} (e : (hidT h H).get? b = some o) : h.get? b = some o ∧ H b = none := by
  have e' : h.get? b = some o := PySem.W.of_hideAll (trk h H) e
  refine ⟨e', ?_⟩
  cases q : H b with
  | none => rfl
  | some x =>
    have hm : b ∈ trk h H := List.mem_filter.mpr ⟨List.mem_range.mpr (Heap.lt_size e'), by simp [q]⟩
    have z : (hidT h H).get? b = none := PySem.W.hideAll_none (trk h H) hm
    rw [z] at e; cases e
noncomputable def allNews (g h : Heap) (L : Addr) : List (Addr × Obj) := (List.range h.objs.size).filterMap fun a => if a = L ∨ (g.get? a).isSome = true then none else (h.get? a).map fun o => (a, o)
noncomputable def rest (g h : Heap) (L d : Addr) : List (Addr × Obj) := (allNews g h L).filter fun p => decide (p.1 ≠ d)
end L2
namespace L2
open PySem PySem.Spec PyProof.Rows
structure Mod (K : PySem.W.Frag) (mg : Str → Option Value) (base : Heap) : Prop where
  kin : K.In base
  glob : base.Ns mainGlobals mg
  blt : ∃ mb, base.Ns builtinsNs mb ∧ ∀ x : Str, x ≠ "__name__" → mb x = bootBuiltins x
  nolimit : base.NoLimit
structure Cx where
  prog : Program
  w : World
  K : PySem.W.Frag
  mg : Str → Option Value
  base : Heap
  A : Around
  N : List Str
  s₀ : Shared
  H₀ : Hp
  env : Env
  outer : List Env
  stack : List Env
  ex : List Addr
  fn : Str → Bool
  calm : Bool
  pn : List (Addr × Obj)
  xe : Value → Shared → Prop
noncomputable def frs (l : List Env) : List Addr := l.filterMap (·.frame)
noncomputable abbrev Cx.fs (X : Cx) : List Addr := frs X.outer
noncomputable def Vis (sc : Scope) (x : Str) : Prop := sc.names.lookup x = some .local ∨ sc.names.lookup x = some .cell ∨ sc.names.lookup x = some .free
noncomputable def Loc (sc : Scope) (x : Str) : Prop := sc.names.lookup x = some .local ∨ sc.names.lookup x = some .cell
noncomputable def Look (env : Env) (h : Heap) (m : Str → Option Value) (x : Str) (u : Value) : Prop :=
  (env.kindOf x = some .local ∧ m x = some u) ∨ ((env.kindOf x = some .cell ∨ env.kindOf x = some .free) ∧ ∃ c, env.cells.lookup x = some c ∧ h.IsCell c (some u))
structure Cx.Ok (X : Cx) : Prop where
  mod : Mod X.K X.mg X.base
  kind : X.env.scope.kind = .function
  glob : X.env.globals = mainGlobals
  blt : X.env.builtins = builtinsNs
  above : X.s₀.heap.objs.size ≤ X.env.locals
  inj : ∀ x y c, X.env.cells.lookup x = some c → X.env.cells.lookup y = some c → x = y
  has : ∀ x, (X.env.kindOf x = some .cell ∨ X.env.kindOf x = some .free) → ∃ c, X.env.cells.lookup x = some c
  cab : ∀ x c, X.fn x = true → X.env.cells.lookup x = some c → X.s₀.heap.objs.size ≤ c
  hd : X.calm = true → X.A.handled = none
  frames : X.A.frames = some X.stack
  stk : X.stack = X.outer ∨ (X.stack = X.env :: X.outer ∧ X.env.frame = some X.env.locals)
  exf : ∀ b ∈ X.ex, b ≠ X.env.locals ∧ ∀ x c, X.env.cells.lookup x = some c → c ≠ b
  bs : ∀ b o, X.base.get? b = some o → X.s₀.heap.get? b = some o ∧ X.H₀ b = none
  bsz : X.base.objs.size ≤ X.s₀.heap.objs.size
  noex : ∀ b o, X.base.get? b = some o → b ∉ X.ex
  exfs : ∀ b ∈ X.ex, b ∉ X.fs
  funs : X.s₀.heap.FunFrames X.base X.outer
  frf : ∀ b ∈ X.fs, X.H₀ b = none
structure Inv (X : Cx) (pins : List (Addr × Obj)) (σ : List (Option V)) (H : Hp) (s : Shared) : Prop where
  ok : X.Ok
  os : s.os = X.s₀.os
  bare : AllBare s.gens
  base : Un X.fs X.ex X.H₀ H X.s₀.heap s.heap
  loc : ∃ m, s.heap.Ns X.env.locals m ∧ ∀ (i : Nat) (x : Str) (v : V), X.N[i]? = some x → σ[i]? = some (some v) → Vis X.env.scope x → ∃ u, RelV v u ∧ Look X.env s.heap m x u
  cell : ∀ x c, X.env.cells.lookup x = some c → ∃ v, s.heap.IsCell c v
  free : H X.env.locals = none
  freeC : ∀ x c, X.env.cells.lookup x = some c → H c = none
  pin : ∀ p ∈ X.pn ++ pins, s.heap.get? p.1 = some p.2 ∧ H p.1 = none ∧ p.1 ≠ X.env.locals ∧ p.1 ∉ X.fs ∧ ∀ v, p.2.data ≠ .cell v
  hok : HOk X.prog X.w H s.heap
  len : σ.length = X.N.length
section
variable {X : Cx} {pins : List (Addr × Obj)} {σ : List (Option V)} {H H' : Hp} {s : Shared} {h' : Heap}
theorem Cx.Ok.nofr (ok : X.Ok) {b : Addr} {o : Obj} (e : X.base.get? b = some o) : b ∉ X.fs := fun hb => by
  have := (ok.funs.mem hb).1
  rw [e] at this; cases this
theorem Inv.bs (I : Inv X pins σ H s) : ∀ b o, X.base.get? b = some o → s.heap.get? b = some o ∧ H b = none := fun b o e =>
  ⟨I.base.keep b o (I.ok.bs b o e).1 (I.ok.bs b o e).2 (I.ok.nofr e) (I.ok.noex b o e), I.base.free b o (I.ok.bs b o e).1 (I.ok.bs b o e).2 (I.ok.noex b o e)⟩
theorem Inv.bk (I : Inv X pins σ H s) : ∀ b o, X.base.get? b = some o → s.heap.get? b = some o := fun b o e => (I.bs b o e).1
theorem Inv.mod (I : Inv X pins σ H s) : Mod X.K X.mg X.base := I.ok.mod
theorem Inv.kIn (I : Inv X pins σ H s) : X.K.In s.heap := I.ok.mod.kin.keeps I.bk
theorem Inv.nolimit (I : Inv X pins σ H s) : s.heap.NoLimit := I.ok.mod.nolimit.keeps I.bk
theorem Inv.fr (I : Inv X pins σ H s) : ∃ m, Fr X.base X.env.locals s.heap m :=
  let ⟨m, hn, _⟩ := I.loc
  ⟨m, hn, I.bk, Nat.le_trans I.ok.bsz I.ok.above⟩
theorem Inv.lt (I : Inv X pins σ H s) : X.env.locals < s.heap.objs.size := let ⟨_, hn, _⟩ := I.loc; hn.lt
theorem Inv.sz (I : Inv X pins σ H s) : X.s₀.heap.objs.size ≤ s.heap.objs.size := Nat.le_trans I.ok.above (Nat.le_of_lt I.lt)
theorem Inv.nofs (I : Inv X pins σ H s) {a : Addr} (h : s.heap.objs.size ≤ a) : a ∉ X.fs := fun hb => by
  obtain ⟨_, o, ho, _⟩ := I.ok.funs.mem hb
  exact absurd (Nat.lt_of_lt_of_le (Heap.lt_size ho) (Nat.le_trans I.sz h)) (Nat.lt_irrefl _)
theorem Inv.cne (I : Inv X pins σ H s) : ∀ x c, X.env.cells.lookup x = some c → c ≠ X.env.locals := fun x c e z => by
  obtain ⟨v, o, ho, hd⟩ := I.cell x c e
  obtain ⟨m, ⟨o', es, ep, ho', hd', _⟩, _⟩ := I.loc
  rw [z, ho'] at ho; cases ho; rw [hd'] at hd; cases hd
theorem Inv.funs (I : Inv X pins σ H s) : s.heap.FunFrames X.base X.outer := by
  have all : ∀ (l : List Env), (∀ b ∈ frs l, b ∈ X.fs) → X.s₀.heap.FunFrames X.base l → s.heap.FunFrames X.base l := by
    intro l
    induction l with
    | nil => intro _ _; trivial
    | cons env r ih =>
      intro hs hl
      obtain ⟨hk, ⟨L, o, hf, hn, ho, hd⟩, hr⟩ := hl
      have hL : L ∈ X.fs := hs L (by unfold frs; rw [List.filterMap_cons, hf]; exact List.mem_cons_self)
      obtain ⟨sl, e⟩ := I.base.slot L o ho (I.ok.frf L hL) hL fun z => I.ok.exfs L z hL
      exact ⟨hk, ⟨L, _, hf, hn, e, hd⟩, ih (fun b hb => hs b (by unfold frs; rw [List.filterMap_cons, hf]; exact List.mem_cons_of_mem _ hb)) hr⟩
  exact all X.outer (fun _ hb => hb) I.ok.funs
theorem Inv.stack (I : Inv X pins σ H s) : s.heap.FunFrames X.base X.stack := by
  rcases I.ok.stk with e | ⟨e, hf⟩
  · rw [e]; exact I.funs
  · rw [e]
    obtain ⟨m, hn, _⟩ := I.loc
    refine .cons (by rw [I.ok.kind]; decide) hf hn ?_ I.funs
    exact Heap.get?_none_of_le (Nat.le_trans I.ok.bsz I.ok.above)
theorem Inv.stkSub (I : Inv X pins σ H s) : ∀ b ∈ frs X.stack, b ∈ X.env.locals :: X.fs := fun b hb => by
  rcases I.ok.stk with e | ⟨e, hf⟩
  · rw [e] at hb; exact List.mem_cons_of_mem _ hb
  · rw [e] at hb
    unfold frs at hb
    rw [List.filterMap_cons, hf] at hb
    exact hb
theorem Inv.stkFree (I : Inv X pins σ H s) : ∀ b ∈ frs X.stack, H b = none := fun b hb => by
  rcases List.mem_cons.mp (I.stkSub b hb) with e | hb
  · rw [e]; exact I.free
  · obtain ⟨_, o, ho, _⟩ := I.ok.funs.mem hb
    exact I.base.free b o ho (I.ok.frf b hb) fun z => I.ok.exfs b z hb
theorem Inv.step {g' : Array GenState} {t' : Nat} {d' : Drawn} {ch : List Addr} (I : Inv X pins σ H s)
    (hch : ∀ b ∈ ch, (b ∈ X.ex ∨ X.s₀.heap.objs.size ≤ b) ∧ b ≠ X.env.locals ∧ (∀ x c, X.env.cells.lookup x = some c → c ≠ b) ∧ ∀ p ∈ X.pn ++ pins, p.1 ≠ b)
    (keep : ∀ b o, b ≠ X.env.locals → b ∉ X.fs → b ∉ ch → s.heap.get? b = some o → H b = none → h'.get? b = some o)
    (slot : ∀ b o, b ≠ X.env.locals → b ∈ X.fs → b ∉ ch → s.heap.get? b = some o → H b = none → ∃ sl, h'.get? b = some { o with slots := sl }) (free : ∀ b o, b ∉ ch → s.heap.get? b = some o → H b = none → H' b = none)
    (there : ∀ b o, b ∉ ch → s.heap.get? b = some o → ∃ o', h'.get? b = some o')
    (tups : ∀ b xs, H b = some (.tup xs) → H' b = some (.tup xs)) (frzs : ∀ b o u, H b = some (.frz o u) → H' b = some (.frz o u)) (tbls : ∀ b ps, H b = some (.tbl ps) → ∃ more, H' b = some (.tbl (ps ++ more)))
    (ns : ∀ m, s.heap.Ns X.env.locals m → h'.Ns X.env.locals m) (hok : HOk X.prog X.w H' h') (hg : AllBare g') :
    Inv X pins σ H' { s with heap := h', gens := g', drawn := d', toks := t' } := by
  have neL : ∀ b o, X.s₀.heap.get? b = some o → b ≠ X.env.locals := fun b o e => Nat.ne_of_lt (Nat.lt_of_lt_of_le (Heap.lt_size e) I.ok.above)
  have neC : ∀ b o, X.s₀.heap.get? b = some o → b ∉ X.ex → b ∉ ch := fun b o e hx hb => by
    rcases (hch b hb).1 with z | z
    · exact hx z
    · exact absurd (Nat.lt_of_lt_of_le (Heap.lt_size e) z) (Nat.lt_irrefl _)
  have cellK : ∀ x c, X.env.cells.lookup x = some c → ∀ v, s.heap.IsCell c v → h'.IsCell c v := fun x c e v ⟨o, ho, hd⟩ => by
    have nch : c ∉ ch := fun z => (hch c z).2.2.1 x c e rfl
    by_cases hc : c ∈ X.fs
    · obtain ⟨sl, q⟩ := slot c o (I.cne x c e) hc nch ho (I.freeC x c e)
      exact ⟨_, q, hd⟩
    · exact ⟨o, keep c o (I.cne x c e) hc nch ho (I.freeC x c e), hd⟩
  refine ⟨I.ok, I.os, hg, ⟨fun b o e n hb hx => ?_, fun b o e n hb hx => ?_, fun b o e n hx => ?_, fun b o e hx => ?_, fun b xs e => tups b xs (I.base.tups b xs e), fun b o xs e => frzs b o xs (I.base.frzs b o xs e), fun b ps e => ?_⟩, ?_, fun x c e => ?_, ?_, fun x c e => ?_, fun p hp => ?_, hok, I.len⟩
  · exact keep b o (neL b o e) hb (neC b o e hx) (I.base.keep b o e n hb hx) (I.base.free b o e n hx)
  · obtain ⟨sl, e1⟩ := I.base.slot b o e n hb hx
    obtain ⟨sl', e2⟩ := slot b _ (neL b o e) hb (neC b o e hx) e1 (I.base.free b o e n hx)
    exact ⟨sl', e2⟩
  · obtain ⟨o', e1⟩ := I.base.there b o e hx
    exact free b o' (neC b o e hx) e1 (I.base.free b o e n hx)
  · obtain ⟨o', e1⟩ := I.base.there b o e hx
    exact there b o' (neC b o e hx) e1
  · obtain ⟨m1, e1⟩ := I.base.tbls b ps e
    obtain ⟨m2, e2⟩ := tbls b _ e1
    exact ⟨m1 ++ m2, by rw [e2, Array.append_assoc]⟩
  · obtain ⟨m, hn, hl⟩ := I.loc
    refine ⟨m, ns m hn, fun i x v e1 e2 e3 => ?_⟩
    obtain ⟨u, r, l⟩ := hl i x v e1 e2 e3
    refine ⟨u, r, ?_⟩
    rcases l with l | ⟨k, c, e, z⟩
    · exact .inl l
    · exact .inr ⟨k, c, e, cellK x c e _ z⟩
  · obtain ⟨v, z⟩ := I.cell x c e
    exact ⟨v, cellK x c e v z⟩
  · obtain ⟨m, ⟨o, _, _, ho, _⟩, _⟩ := I.loc
    exact free _ o (fun z => (hch _ z).2.1 rfl) ho I.free
  · obtain ⟨v, o, ho, hd⟩ := I.cell x c e
    exact free c o (fun z => (hch c z).2.2.1 x c e rfl) ho (I.freeC x c e)
  · obtain ⟨e, n, ne, nf, d⟩ := I.pin p hp
    have nch : p.1 ∉ ch := fun z => (hch p.1 z).2.2.2 p hp rfl
    exact ⟨keep p.1 p.2 ne nf nch e n, free p.1 p.2 nch e n, ne, nf, d⟩
theorem Inv.un {t' : Nat} (I : Inv X pins σ H s) (u : Un X.fs [] H H' s.heap h') (hok : HOk X.prog X.w H' h') : Inv X pins σ H' { s with heap := h', toks := t' } := by
  obtain ⟨m, ⟨o, es, ep, ho, r⟩, _⟩ := id I.loc
  obtain ⟨sl, hL⟩ := u.any ho I.free (by simp)
  exact I.step (g' := s.gens) (d' := s.drawn) (ch := []) (fun _ z => nomatch z) (fun b o _ hb _ e n => u.keep b o e n hb (by simp)) (fun b o _ hb _ e n => u.slot b o e n hb (by simp)) (fun b o _ e n => u.free b o e n (by simp)) (fun b o _ e => u.there b o e (by simp)) u.tups u.frzs u.tbls (fun m' hm => by
    obtain ⟨o', es', ep', ho', r'⟩ := hm
    rw [ho] at ho'; cases ho'
    exact ⟨_, es', ep', hL, r'⟩) hok I.bare
theorem Inv.call {g' : Array GenState} {t' : Nat} {d' : Drawn} {ch : List Addr} (I : Inv X pins σ H s) (u : Un (frs X.stack) ch H H' s.heap h') (hok : HOk X.prog X.w H' h') (hg : AllBare g')
    (hch : ∀ b ∈ ch, (b ∈ X.ex ∨ X.s₀.heap.objs.size ≤ b) ∧ b ≠ X.env.locals ∧ (∀ x c, X.env.cells.lookup x = some c → c ≠ b) ∧ ∀ p ∈ X.pn ++ pins, p.1 ≠ b) :
    Inv X pins σ H' { s with heap := h', gens := g', drawn := d', toks := t' } := by
  obtain ⟨m, ⟨o, es, ep, ho, r⟩, _⟩ := id I.loc
  obtain ⟨sl, hL⟩ := u.any ho I.free fun z => (hch _ z).2.1 rfl
  exact I.step (ch := ch) hch (fun b o hL hb hc e n => u.keep b o e n (fun z => (List.mem_cons.mp (I.stkSub b z)).elim hL hb) hc) (fun b o _ _ hc e n => u.any e n hc) (fun b o hc e n => u.free b o e n hc) (fun b o hc e => u.there b o e hc) u.tups u.frzs u.tbls (fun m' hm => by
    obtain ⟨o', es', ep', ho', r'⟩ := hm
    rw [ho] at ho'; cases ho'
    exact ⟨_, es', ep', hL, r'⟩) hok hg
theorem Inv.turned {t' : Nat} {it : Addr} (I : Inv X pins σ H s) (k : ∀ b o, b ≠ it → s.heap.get? b = some o → h'.get? b = some o) (hn : H it = none) (hL : it ≠ X.env.locals)
    (h1 : it ∈ X.ex ∨ X.s₀.heap.objs.size ≤ it) (h2 : ∀ x c, X.env.cells.lookup x = some c → c ≠ it) (h3 : ∀ p ∈ X.pn ++ pins, p.1 ≠ it) : Inv X pins σ H { s with heap := h', toks := t' } := by
  have nit : ∀ b u, H b = some u → b ≠ it := fun b u e z => by rw [z, hn] at e; cases e
  refine I.step (g' := s.gens) (d' := s.drawn) (ch := [it]) (fun b hb => ?_) (fun b o _ _ hc e _ => k b o (fun z => hc (by simp [z])) e) (fun b o _ _ hc e _ => ⟨o.slots, k b o (fun z => hc (by simp [z])) e⟩) (fun _ _ _ _ n => n)
    (fun b o hc e => ⟨o, k b o (fun z => hc (by simp [z])) e⟩) (fun _ _ e => e) (fun _ _ _ e => e) (fun b ps e => ⟨#[], by rw [e]; simp⟩) (fun m hm => ?_) (fun b u e => ?_) I.bare
  · have e : b = it := by simpa using hb
    subst e
    exact ⟨h1, hL, h2, h3⟩
  · obtain ⟨o, es, ep, ho, r⟩ := hm
    exact ⟨o, es, ep, k _ o (Ne.symm hL) ho, r⟩
  · refine (I.hok b u e).stay (fun c v hc q => k c v ?_ q) (fun _ q => q) fun _ _ q => q
    rcases hc with z | z
    · rw [z]; exact nit b u e
    · exact nit c _ z
theorem Inv.tok (I : Inv X pins σ H s) (t : Nat) : Inv X pins σ H { s with toks := t } := I.un (h' := s.heap) (t' := t) Un.refl I.hok
theorem Inv.kept {t' : Nat} (I : Inv X pins σ H s) (k : ∀ b u, s.heap.get? b = some u → h'.get? b = some u) : Inv X pins σ H { s with heap := h', toks := t' } := I.un (Un.kept k) (I.hok.kept k)
theorem Inv.laid {a : Addr} {o : HO} {t' : Nat} (I : Inv X pins σ H s) (k : ∀ b u, s.heap.get? b = some u → h'.get? b = some u) (hp : s.heap.objs.size ≤ a) (new : ObjOk X.prog X.w (upd H a o) h' a o) :
    Inv X pins σ (upd H a o) { s with heap := h', toks := t' } := I.un (Un.laid k hp (I.hok.fresh hp)) (I.hok.laid k hp new)
theorem Inv.write {x e : Addr} {o : HO} {t' : Nat} (I : Inv X pins σ H s) (mu : Mut (H x)) (he : e = x ∨ H e = some (.own x)) (k : ∀ b u, b ≠ e → s.heap.get? b = some u → h'.get? b = some u) (heo : ∃ u, h'.get? e = some u)
    (new : ObjOk X.prog X.w (upd H x o) h' x o) : Inv X pins σ (upd H x o) { s with heap := h', toks := t' } := I.un (Un.write mu he k heo) (I.hok.write mu he k heo new)
theorem Inv.weak {σ' : List (Option V)} (I : Inv X pins σ H s) (hl : σ'.length = σ.length) (w : ∀ (i : Nat) v, σ'[i]? = some (some v) → σ[i]? = some (some v)) : Inv X pins σ' H s :=
  ⟨I.ok, I.os, I.bare, I.base, let ⟨m, hn, hl'⟩ := I.loc; ⟨m, hn, fun i x v e1 e2 e3 => hl' i x v e1 (w i v e2) e3⟩, I.cell, I.free, I.freeC, I.pin, I.hok, hl.trans I.len⟩
theorem Inv.pins_of {pins' : List (Addr × Obj)} (I : Inv X pins σ H s) (h : ∀ p ∈ pins', s.heap.get? p.1 = some p.2 ∧ H p.1 = none ∧ p.1 ≠ X.env.locals ∧ p.1 ∉ X.fs ∧ ∀ v, p.2.data ≠ .cell v) : Inv X pins' σ H s :=
  ⟨I.ok, I.os, I.bare, I.base, I.loc, I.cell, I.free, I.freeC, fun p hp => (List.mem_append.mp hp).elim (fun z => I.pin p (List.mem_append_left _ z)) (h p), I.hok, I.len⟩
theorem nodup_ix {N : List Str} (hN : N.Nodup) {i j : Nat} {x : Str} (a : N[i]? = some x) (b : N[j]? = some x) : i = j := by
  obtain ⟨h1, e1⟩ := List.getElem?_eq_some_iff.mp a
  obtain ⟨h2, e2⟩ := List.getElem?_eq_some_iff.mp b
  exact (List.getElem_inj hN).mp (e1.trans e2.symm)
theorem store_ok2 {M : Model} {A : Around} {E : Value → Shared → Prop} {i : Nat} {x : Str} {v : V} {u : Value} {Q : Unit → Shared → Prop} (I : Inv X pins σ H s) (hN : X.N.Nodup) (hi : X.N[i]? = some x) (hx : Loc X.env.scope x) (r : RelV v u)
    (h : ∀ s', Inv X pins (σ.set i (some v)) H s' → (∃ a, Heap.SameBut a s.heap s'.heap ∧ (a = X.env.locals ∨ X.env.cells.lookup x = some a)) → Q () s') (hf : X.fn x = true ∨ X.env.scope.names.lookup x = some .local := by first | exact .inl rfl | exact .inr rfl | assumption) : wpAny M A (storeName X.env x u) Q E s := by
  obtain ⟨m, hn, hl⟩ := id I.loc
  have hcls : (X.env.scope.kind == .class || (X.env.scope.kind == .module && X.env.locals != X.env.globals)) = false := by rw [I.ok.kind]; rfl
  have hiσ : i < σ.length := by rw [I.len]; exact (List.getElem?_eq_some_iff.mp hi).1
  have cne := I.cne
  have tracked : ∀ {a : Addr} {h' : Heap}, (∃ o, s.heap.get? a = some o ∧ H a = none) → Heap.SameBut a s.heap h' → HOk X.prog X.w H h' := fun {a h'} ha hs b ob e => by
    obtain ⟨_, _, hfree⟩ := ha
    refine (I.hok b ob e).stay (fun c w' hc q => (hs.2 c ?_).trans q) (fun _ q => q) fun _ _ q => q
    rintro rfl
    rcases hc with rfl | hc
    · rw [hfree] at e; cases e
    · rw [hfree] at hc; cases hc
  rcases hx with hk | hk
  · refine wpAny_storeName_local hk hn (fun h' hn' hs => ?_) hcls
    obtain ⟨oL, _, _, hoL, _⟩ := id hn
    refine h _ ⟨I.ok, I.os, I.bare, ⟨fun b o e n hb hx => ?_, fun b o e n hb hx => ?_, I.base.free, fun b o e hx => ?_, I.base.tups, I.base.frzs, I.base.tbls⟩, ⟨_, hn', fun j y v' e1 e2 e3 => ?_⟩, fun y c e => ?_, I.free, I.freeC, fun p hp => ?_, tracked ⟨oL, hoL, I.free⟩ hs, by simpa using I.len⟩ ⟨_, hs, .inl rfl⟩
    · exact (hs.2 b (Nat.ne_of_lt (Nat.lt_of_lt_of_le (Heap.lt_size e) I.ok.above))).trans (I.base.keep b o e n hb hx)
    · obtain ⟨sl, e1⟩ := I.base.slot b o e n hb hx
      exact ⟨sl, (hs.2 b (Nat.ne_of_lt (Nat.lt_of_lt_of_le (Heap.lt_size e) I.ok.above))).trans e1⟩
    · obtain ⟨o', e1⟩ := I.base.there b o e hx
      exact ⟨o', (hs.2 b (Nat.ne_of_lt (Nat.lt_of_lt_of_le (Heap.lt_size e) I.ok.above))).trans e1⟩
    · by_cases hj : j = i
      · subst hj
        rw [hi] at e1; cases e1
        rw [List.getElem?_set_self hiσ] at e2
        cases e2
        exact ⟨u, r, .inl ⟨hk, by simp⟩⟩
      · rw [List.getElem?_set_ne (Ne.symm hj)] at e2
        obtain ⟨u', r', q⟩ := hl j y v' e1 e2 e3
        refine ⟨u', r', ?_⟩
        rcases q with ⟨k, e⟩ | ⟨k, c, e, z⟩
        · refine .inl ⟨k, ?_⟩
          have : y ≠ x := fun e => hj (nodup_ix hN e1 (e ▸ hi))
          simp [this, e]
        · exact .inr ⟨k, c, e, z.sameBut hs (cne y c e)⟩
    · obtain ⟨w', z⟩ := I.cell y c e
      exact ⟨w', z.sameBut hs (cne y c e)⟩
    · obtain ⟨e, n, ne, nf, d⟩ := I.pin p hp
      exact ⟨(hs.2 p.1 ne).trans e, n, ne, nf, d⟩
  · have hfn : X.fn x = true := by
      rcases hf with z | z
      · exact z
      · rw [z] at hk; cases hk
    obtain ⟨c, hc⟩ := I.ok.has x (.inl hk)
    obtain ⟨w', z⟩ := I.cell x c hc
    refine wpAny_storeName_cell I.ok.kind hk hc z (fun h' hc' hs => ?_)
    obtain ⟨oc, hoc, hocd⟩ := id z
    refine h { s with heap := h' } ⟨I.ok, I.os, I.bare, ⟨fun b o e n hb hx => ?_, fun b o e n hb hx => ?_, I.base.free, fun b o e hx => ?_, I.base.tups, I.base.frzs, I.base.tbls⟩, ⟨m, hn.sameBut hs (Ne.symm (cne x c hc)), fun j y v' e1 e2 e3 => ?_⟩, fun y c' e => ?_, I.free, I.freeC, fun p hp => ?_, tracked ⟨oc, hoc, I.freeC x c hc⟩ hs, by simpa using I.len⟩ ⟨c, hs, .inr hc⟩
    · exact (hs.2 b (Nat.ne_of_lt (Nat.lt_of_lt_of_le (Heap.lt_size e) (I.ok.cab x c hfn hc)))).trans (I.base.keep b o e n hb hx)
    · obtain ⟨sl, e1⟩ := I.base.slot b o e n hb hx
      exact ⟨sl, (hs.2 b (Nat.ne_of_lt (Nat.lt_of_lt_of_le (Heap.lt_size e) (I.ok.cab x c hfn hc)))).trans e1⟩
    · obtain ⟨o', e1⟩ := I.base.there b o e hx
      exact ⟨o', (hs.2 b (Nat.ne_of_lt (Nat.lt_of_lt_of_le (Heap.lt_size e) (I.ok.cab x c hfn hc)))).trans e1⟩
    · by_cases hj : j = i
      · subst hj
        rw [hi] at e1; cases e1
        rw [List.getElem?_set_self hiσ] at e2
        cases e2
        exact ⟨u, r, .inr ⟨.inl hk, c, hc, hc'⟩⟩
      · rw [List.getElem?_set_ne (Ne.symm hj)] at e2
        obtain ⟨u', r', q⟩ := hl j y v' e1 e2 e3
        refine ⟨u', r', ?_⟩
        rcases q with q | ⟨k, c', e, z'⟩
        · exact .inl q
        · refine .inr ⟨k, c', e, z'.sameBut hs ?_⟩
          rintro rfl
          exact hj (nodup_ix hN e1 (I.ok.inj _ _ _ e hc ▸ hi))
    · by_cases hcc : c' = c
      · subst hcc; exact ⟨_, hc'⟩
      · obtain ⟨w2, z2⟩ := I.cell y c' e
        exact ⟨w2, z2.sameBut hs hcc⟩
    · obtain ⟨e, n, ne, nf, d⟩ := I.pin p hp
      refine ⟨(hs.2 p.1 ?_).trans e, n, ne, nf, d⟩
      intro q
      rw [q, hoc] at e
      have q' : oc = p.2 := Option.some.inj e
      exact d w' (by rw [← q']; exact hocd)
theorem store_ok {M : Model} {A : Around} {E : Value → Shared → Prop} {i : Nat} {x : Str} {v : V} {u : Value} {Q : Unit → Shared → Prop} (I : Inv X pins σ H s) (hN : X.N.Nodup) (hi : X.N[i]? = some x) (hx : Loc X.env.scope x) (r : RelV v u)
    (h : ∀ s', Inv X pins (σ.set i (some v)) H s' → Q () s') (hf : X.fn x = true ∨ X.env.scope.names.lookup x = some .local := by first | exact .inl rfl | exact .inr rfl | assumption) : wpAny M A (storeName X.env x u) Q E s :=
  store_ok2 I hN hi hx r (fun s' I' _ => h s' I') hf
theorem Inv.call' {s' : Shared} {ch : List Addr} (I : Inv X pins σ H s) (ho : s'.os = s.os) (u : Un (frs X.stack) ch H H' s.heap s'.heap) (hok : HOk X.prog X.w H' s'.heap) (hg : AllBare s'.gens)
    (hch : ∀ b ∈ ch, (b ∈ X.ex ∨ X.s₀.heap.objs.size ≤ b) ∧ b ≠ X.env.locals ∧ (∀ x c, X.env.cells.lookup x = some c → c ≠ b) ∧ ∀ p ∈ X.pn ++ pins, p.1 ≠ b) : Inv X pins σ H' s' := by
  obtain ⟨h', g', d', t', o'⟩ := s'
  have e : o' = s.os := ho
  subst e
  exact I.call (g' := g') (t' := t') (d' := d') u hok hg hch
end
noncomputable abbrev XK := Value → Option Addr → Hp → Prop
noncomputable abbrev St := List (Option V)
noncomputable abbrev VK := V → Hp → Prop
noncomputable abbrev TE := St → Hp → VK → Prop
noncomputable abbrev TT := St → Hp → (Bool → Hp → Prop) → Prop
noncomputable abbrev TA := St → Hp → (List V → Hp → Prop) → Prop
structure Ends where
  nx : St → Hp → Prop
  rt : VK
  bk : St → Hp → Prop := fun _ _ => False
  ct : St → Hp → Prop := fun _ _ => False
noncomputable abbrev TS := Ends → St → Hp → Prop
noncomputable def EP (X : Cx) (pins : List (Addr × Obj)) (σ : St) (Q : VK) (u : Value) (s' : Shared) : Prop := ∃ v H', Inv X pins σ H' s' ∧ RelV v u ∧ Q v H'
noncomputable def TP (X : Cx) (pins : List (Addr × Obj)) (σ : St) (Q : Bool → Hp → Prop) (b : Bool) (s' : Shared) : Prop := ∃ H', Inv X pins σ H' s' ∧ Q b H'
noncomputable def AP (X : Cx) (pins : List (Addr × Obj)) (σ : St) (Q : List V → Hp → Prop) (us : List Value) (s' : Shared) : Prop := ∃ vs H', Inv X pins σ H' s' ∧ Vals vs us ∧ Q vs H'
noncomputable def SP (X : Cx) (pins : List (Addr × Obj)) (D : Ends) (f : Flow) (s' : Shared) : Prop :=
  match f with
  | .next => ∃ σ' H', Inv X pins σ' H' s' ∧ D.nx σ' H'
  | .brk => ∃ σ' H', Inv X pins σ' H' s' ∧ D.bk σ' H'
  | .cont => ∃ σ' H', Inv X pins σ' H' s' ∧ D.ct σ' H'
  | .ret u => ∃ v σ' H', Inv X pins σ' H' s' ∧ RelV v u ∧ D.rt v H'
noncomputable def PE (X : Cx) (e : Expr) (t : TE) : Prop :=
  ∀ (pins : List (Addr × Obj)) (s : Shared) (σ : St) (H : Hp) (Q : VK), Inv X pins σ H s → t σ H Q → wpAny (model X.prog X.w) X.A (eval e X.env) (EP X pins σ Q) X.xe s
noncomputable def PT (X : Cx) (e : Expr) (t : TT) : Prop :=
  ∀ (pins : List (Addr × Obj)) (s : Shared) (σ : St) (H : Hp) (Q : Bool → Hp → Prop), Inv X pins σ H s → t σ H Q → wpAny (model X.prog X.w) X.A (isTrue e X.env (eval e X.env)) (TP X pins σ Q) X.xe s
noncomputable def PW (X : Cx) (e : Expr) (t : TT) : Prop :=
  ∀ (whole : Sem Value) (pins : List (Addr × Obj)) (s : Shared) (σ : St) (H : Hp) (Q : Bool → Hp → Prop), Inv X pins σ H s → t σ H Q → wpAny (model X.prog X.w) X.A (isTrue e X.env whole) (TP X pins σ Q) X.xe s
theorem PW.pt {X : Cx} {e : Expr} {t : TT} (h : PW X e t) : PT X e t := h _
noncomputable def PA (X : Cx) (es : List Expr) (t : TA) : Prop :=
  ∀ (pos : Pos) (pins : List (Addr × Obj)) (s : Shared) (σ : St) (H : Hp) (Q : List V → Hp → Prop), Inv X pins σ H s → t σ H Q → wpAny (model X.prog X.w) X.A (spliced (backTo pos (starEach es X.env))) (AP X pins σ Q) X.xe s
noncomputable def PS (X : Cx) (st : Stmt) (t : TS) : Prop :=
  ∀ (pins : List (Addr × Obj)) (s : Shared) (σ : St) (H : Hp) (D : Ends), Inv X pins σ H s → t D σ H → wpAny (model X.prog X.w) X.A (exec st X.env) (SP X pins D) X.xe s
noncomputable def PSs (X : Cx) (st : List Stmt) (t : TS) : Prop :=
  ∀ (pins : List (Addr × Obj)) (s : Shared) (σ : St) (H : Hp) (D : Ends), Inv X pins σ H s → t D σ H → wpAny (model X.prog X.w) X.A (execs st X.env) (SP X pins D) X.xe s
theorem thn {α : Type} {t : Sem α} {Q Q' : α → Shared → Prop} {M : Model} {A : Around} {E : Value → Shared → Prop} {s : Shared} (h : wpAny M A t Q E s) (hQ : ∀ a s, Q a s → Q' a s) : wpAny M A t Q' E s := wpAny_mono h hQ fun _ _ x => x
end L2
namespace L2
open PySem PySem.Spec PyProof.Rows
section
variable {X : Cx}
noncomputable def tVar (i : Nat) : TE := fun σ H Q => ∃ v, σ[i]? = some (some v) ∧ Q v H
noncomputable def tC (v : V) : TE := fun _ H Q => Q v H
theorem pe_var {i : Nat} {x : Str} {pos : Pos} (hN : X.N[i]? = some x) (hv : Vis X.env.scope x) (hd : (x == ("__debug__" : Str)) = false := by decide) (hcd : (x == ("__classdict__" : Str)) = false := by decide) : PE X (.Name x pos) (tVar i) := by
  intro pins s σ H Q I h
  obtain ⟨v, e, h⟩ := h
  obtain ⟨m, hn, hl⟩ := I.loc
  obtain ⟨u, r, l⟩ := hl i x v hN e hv
  have fin : EP X pins σ Q u s := ⟨v, H, I, r, h⟩
  rcases l with ⟨hk, hm⟩ | ⟨hk, c, hc, hcell⟩
  · exact wpAny_Name (wpAny_loadName_local I.ok.kind hk hn hm fin) hd
  · rcases hk with hk | hk
    · exact wpAny_Name (wpAny_loadName_cell I.ok.kind hk hc hcell fin) hd
    · exact wpAny_Name (wpAny_loadName_free I.ok.kind hk hc hcell fin hcd) hd
theorem pe_int {i j pos} : PE X (.Constant (.int i) j pos) (tC (.int i)) := fun _ _ _ H _ I h => wpAny_Constant_int ⟨.int i, H, I.tok _, ⟨_, rfl⟩, h⟩
theorem pe_bl {b j pos} : PE X (.Constant (.bool b) j pos) (tC (.bl b)) := fun _ _ _ H _ I h => Constant_bool ⟨.bl b, H, I, rfl, h⟩
theorem pe_non {j pos} : PE X (.Constant .none j pos) (tC .non) := fun _ _ _ H _ I h => Constant_none ⟨.non, H, I, rfl, h⟩
noncomputable def Gl (X : Cx) (x : Str) : Prop := X.env.kindOf x = some .globalImplicit
theorem ld_glob {E : Value → Shared → Prop} {pins : List (Addr × Obj)} {s : Shared} {σ : St} {H : Hp} {x : Str} {u : Value} {pos : Pos} {Q : Value → Shared → Prop} (I : Inv X pins σ H s) (hg : Gl X x) (hm : X.mg x = some u) (h : Q u s)
    (hd : (x == ("__debug__" : Str)) = false := by decide) : wpAny (model X.prog X.w) X.A (eval (.Name x pos) X.env) Q E s :=
  Calls.Name_function_global I.ok.kind hg (Calls.loadGlobal_global (by rw [I.ok.glob]; exact I.mod.glob.keeps I.bk) hm h) hd
theorem ld_blt {E : Value → Shared → Prop} {pins : List (Addr × Obj)} {s : Shared} {σ : St} {H : Hp} {x : Str} {u : Value} {pos : Pos} {Q : Value → Shared → Prop} (I : Inv X pins σ H s) (hg : Gl X x) (hm : X.mg x = none) (hv : bootBuiltins x = some u) (h : Q u s)
    (hn : x ≠ "__name__" := by decide) (hd : (x == ("__debug__" : Str)) = false := by decide) : wpAny (model X.prog X.w) X.A (eval (.Name x pos) X.env) Q E s := by
  obtain ⟨mb, h1, h2⟩ := I.mod.blt
  exact Calls.Name_function_global I.ok.kind hg (Calls.loadGlobal_builtin (by rw [I.ok.glob]; exact I.mod.glob.keeps I.bk) hm (by rw [I.ok.blt]; exact h1.keeps I.bk) ((h2 x hn).trans hv) h) hd
theorem pe_bltn {x : Str} {v : V} {u : Value} {pos : Pos} (hg : Gl X x) (hm : X.mg x = none) (hv : bootBuiltins x = some u) (r : RelV v u) (hn : x ≠ "__name__" := by decide) (hd : (x == ("__debug__" : Str)) = false := by decide) : PE X (.Name x pos) (tC v) :=
  fun _ _ _ H _ I h => ld_blt I hg hm hv ⟨v, H, I, r, h⟩ hn hd
variable {a b : Expr} {ta tb : TE} {pos : Pos}
variable {tA tB' : TT} {rest : List Expr}
noncomputable def tAnd (t u : TT) : TT := fun σ H Q => t σ H fun c H1 => if c = true then u σ H1 Q else Q false H1
noncomputable def tOr (t u : TT) : TT := fun σ H Q => t σ H fun c H1 => if c = true then Q true H1 else u σ H1 Q
noncomputable def tNot (t : TT) : TT := fun σ H Q => t σ H fun c H1 => Q (!c) H1
theorem pw_and1 (ha : PT X a tA) : PW X (.BoolOp .And [a] pos) tA := by
  intro wh pins s σ H Q I h
  refine isTrue_and (thn (ha pins s σ H Q I h) fun c s1 e => ?_)
  cases c with
  | true => exact isTrue_and_nil e
  | false => exact e
theorem pw_or1 (ha : PT X a tA) : PW X (.BoolOp .Or [a] pos) tA := by
  intro wh pins s σ H Q I h
  refine isTrue_or (thn (ha pins s σ H Q I h) fun c s1 e => ?_)
  cases c with
  | false => exact isTrue_or_nil e
  | true => exact e
theorem pw_and (ha : PT X a tA) (hb : PW X (.BoolOp .And (b :: rest) pos) tB') : PW X (.BoolOp .And (a :: b :: rest) pos) (tAnd tA tB') := by
  intro wh pins s σ H Q I h
  refine isTrue_and (thn (ha pins s σ H _ I h) fun c s1 ⟨H1, I1, q1⟩ => ?_)
  cases c with
  | true => exact hb wh pins s1 σ H1 Q I1 q1
  | false => exact ⟨H1, I1, q1⟩
theorem pw_or (ha : PT X a tA) (hb : PW X (.BoolOp .Or (b :: rest) pos) tB') : PW X (.BoolOp .Or (a :: b :: rest) pos) (tOr tA tB') := by
  intro wh pins s σ H Q I h
  refine isTrue_or (thn (ha pins s σ H _ I h) fun c s1 ⟨H1, I1, q1⟩ => ?_)
  cases c with
  | true => exact ⟨H1, I1, q1⟩
  | false => exact hb wh pins s1 σ H1 Q I1 q1
theorem pt_not (ha : PT X a tA) : PT X (.UnaryOp .Not a pos) (tNot tA) := by
  intro pins s σ H Q I h
  exact isTrue_not (ha pins s σ H (fun c H1 => Q (!c) H1) I h)
theorem pe_one {op} {t : TE} (h : PE X a t) : PE X (.BoolOp op [a] pos) t := fun pins s σ H Q I hw => BoolOp_one (h pins s σ H Q I hw)
end
end L2
namespace L2
open PySem PySem.Spec PyProof.Rows
noncomputable def SqL (K : PySem.W.Frag) (H : Hp) (a : Addr) (xs : List V) : Prop :=
  Rd H a (.lst xs) ∨
    ∃ (o : Obj) (its : Array Value) (n : Nat), K.lookup a = some o ∧ o.cls = .type "list" ∧ o.dict = none ∧ o.data = .seq its n ∧ its.size ≤ sizeLine ∧ Vals xs its.toList
noncomputable def SqT (K : PySem.W.Frag) (H : Hp) (a : Addr) (xs : List V) : Prop :=
  Rd H a (.tup xs) ∨
    ∃ (o : Obj) (its : Array Value) (n : Nat), K.lookup a = some o ∧ o.cls = .type "tuple" ∧ o.data = .seq its n ∧ its.size ≤ sizeLine ∧ Vals xs its.toList
noncomputable def absV : Value → Option V
  | .none => some .non
  | .bool b => some (.bl b)
  | .int i _ => some (.int i)
  | .str x _ => some (.str x)
  | .bytes b _ => some (.byt b)
  | .float b _ => some (.flt b)
  | .ref a => some (.ref a)
  | .type n => some (.ty n)
  | _ => none
theorem RelV.abs {x : V} {u : Value} (r : RelV x u) : absV u = some x := by
  cases x with
  | non => cases r; rfl
  | bl _ => cases r; rfl
  | int _ => obtain ⟨t, rfl⟩ := r; rfl
  | str _ => obtain ⟨t, rfl⟩ := r; rfl
  | byt _ => obtain ⟨t, rfl⟩ := r; rfl
  | flt _ => obtain ⟨t, rfl⟩ := r; rfl
  | ref _ => cases r; rfl
  | ty _ => cases r; rfl
theorem RelV.inj {x y : V} {u : Value} (r : RelV x u) (q : RelV y u) : x = y := Option.some.inj (r.abs.symm.trans q.abs)
theorem Vals.inj : ∀ {xs ys : List V} {us : List Value}, Vals xs us → Vals ys us → xs = ys
  | _, _, _, .nil, .nil => rfl
  | _, _, _, .cons r t, .cons r' t' => by rw [r.inj r', Vals.inj t t']
section
variable {X : Cx} {pins : List (Addr × Obj)} {σ : St} {H : Hp} {s : Shared} {a : Addr} {xs ys : List V}
theorem SqL.of {K : PySem.W.Frag} (h : H a = some (.lst xs)) : SqL K H a xs := .inl (.inl h)
theorem SqT.of {K : PySem.W.Frag} (h : H a = some (.tup xs)) : SqT K H a xs := .inl (.inl h)
theorem Inv.list (I : Inv X pins σ H s) (h : SqL X.K H a xs) : ∃ its : List Value, Vals xs its ∧ PlainL s.heap a its.toArray ∧ xs.length ≤ sizeLine := by
  rcases h with h | ⟨o, its, n, hk, hc, hd, hs, hz, r⟩
  · obtain ⟨z, its, n, r, e⟩ := h.ok I.hok
    exact ⟨its, r, ⟨_, n, e, rfl, rfl, rfl⟩, z⟩
  · refine ⟨its.toList, r, ⟨o, n, I.kIn a o hk, hc, hd, by simpa using hs⟩, ?_⟩
    have e := r.length
    simp only [Array.length_toList] at e
    omega
theorem Inv.tuple (I : Inv X pins σ H s) (h : SqT X.K H a xs) : ∃ its : List Value, Vals xs its ∧ IsTup s.heap a its.toArray ∧ xs.length ≤ sizeLine := by
  rcases h with h | ⟨o, its, n, hk, hc, hs, hz, r⟩
  · obtain ⟨z, its, r, p⟩ := h.ok I.hok
    exact ⟨its, r, p, z⟩
  · refine ⟨its.toList, r, ⟨o, I.kIn a o hk, hc, n, by simpa using hs⟩, ?_⟩
    have e := r.length
    simp only [Array.length_toList] at e
    omega
theorem Inv.list_inj (I : Inv X pins σ H s) (h : SqL X.K H a xs) (h' : SqL X.K H a ys) : xs = ys := by
  obtain ⟨its, r, ⟨o, n, e, _, _, d⟩, _⟩ := I.list h
  obtain ⟨its', r', ⟨o', n', e', _, _, d'⟩, _⟩ := I.list h'
  rw [e] at e'; cases e'
  rw [d] at d'
  injection d' with d1 _
  have : its = its' := by simpa using congrArg Array.toList d1
  subst this
  exact r.inj r'
end
noncomputable abbrev Cx.wish (X : Cx) (E : Value → Shared → Prop) : Cx := { X with xe := E }
noncomputable abbrev Cx.nox (X : Cx) : Cx := X.wish fun _ _ => False
theorem Cx.Ok.wish {X : Cx} (ok : X.Ok) (E : Value → Shared → Prop) : (X.wish E).Ok :=
  ⟨ok.mod, ok.kind, ok.glob, ok.blt, ok.above, ok.inj, ok.has, ok.cab, ok.hd, ok.frames, ok.stk, ok.exf, ok.bs, ok.bsz, ok.noex, ok.exfs, ok.funs, ok.frf⟩
theorem Cx.Ok.unwish {X : Cx} {E : Value → Shared → Prop} (ok : (X.wish E).Ok) : X.Ok :=
  ⟨ok.mod, ok.kind, ok.glob, ok.blt, ok.above, ok.inj, ok.has, ok.cab, ok.hd, ok.frames, ok.stk, ok.exf, ok.bs, ok.bsz, ok.noex, ok.exfs, ok.funs, ok.frf⟩
section
variable {X : Cx} {pins : List (Addr × Obj)} {σ : St} {H : Hp} {s : Shared} {E : Value → Shared → Prop}
theorem Inv.wish (I : Inv X pins σ H s) (E : Value → Shared → Prop) : Inv (X.wish E) pins σ H s := ⟨I.ok.wish E, I.os, I.bare, I.base, I.loc, I.cell, I.free, I.freeC, I.pin, I.hok, I.len⟩
theorem Inv.unwish (I : Inv (X.wish E) pins σ H s) : Inv X pins σ H s := ⟨I.ok.unwish, I.os, I.bare, I.base, I.loc, I.cell, I.free, I.freeC, I.pin, I.hok, I.len⟩
theorem SP.unwish {D : Ends} {f : Flow} {s' : Shared} (h : SP (X.wish E) pins D f s') : SP X pins D f s' := by
  cases f with
  | next => obtain ⟨σ', H', I, q⟩ := h; exact ⟨σ', H', I.unwish, q⟩
  | brk => obtain ⟨σ', H', I, q⟩ := h; exact ⟨σ', H', I.unwish, q⟩
  | cont => obtain ⟨σ', H', I, q⟩ := h; exact ⟨σ', H', I.unwish, q⟩
  | ret u => obtain ⟨v, σ', H', I, r, q⟩ := h; exact ⟨v, σ', H', I.unwish, r, q⟩
theorem PE.nox {e : Expr} {t : TE} (h : PE X.nox e t) : PE X e t := fun pins s σ H Q I hw =>
  wpAny_mono (h pins s σ H Q (I.wish _) hw) (fun _ _ ⟨v, H', I', r, q⟩ => ⟨v, H', I'.unwish, r, q⟩) fun _ _ z => False.elim z
theorem PT.nox {e : Expr} {t : TT} (h : PT X.nox e t) : PT X e t := fun pins s σ H Q I hw =>
  wpAny_mono (h pins s σ H Q (I.wish _) hw) (fun _ _ ⟨H', I', q⟩ => ⟨H', I'.unwish, q⟩) fun _ _ z => False.elim z
theorem PSs.nox {st : List Stmt} {t : TS} (h : PSs X.nox st t) : PSs X st t := fun pins s σ H D I hw =>
  wpAny_mono (h pins s σ H D (I.wish _) hw) (fun _ _ q => q.unwish) fun _ _ z => False.elim z
end
section
variable {X : Cx} {st : Stmt} {rest : List Stmt} {t u : TS} {e : Expr} {te : TE} {pos : Pos}
noncomputable def tNext : TS := fun D σ H => D.nx σ H
noncomputable def tSeq (t u : TS) : TS := fun D σ H => t { D with nx := u D } σ H
theorem pss_nil : PSs X [] tNext := fun _ _ σ H _ I h => wpAny_execs_nil ⟨σ, H, I, h⟩
theorem pss_cons (h1 : PS X st t) (h2 : PSs X rest u) : PSs X (st :: rest) (tSeq t u) := by
  intro pins s σ H D I h
  refine wpAny_execs_cons (thn (h1 pins s σ H { D with nx := u D } I h) fun f s1 q => ?_)
  cases f with
  | next =>
    obtain ⟨σ', H', I', q⟩ := q
    exact h2 pins s1 σ' H' D I' q
  | ret v => exact q
  | brk => exact q
  | cont => exact q
theorem pss_one (h1 : PS X st t) : PSs X [st] t := by
  intro pins s σ H D I h
  refine wpAny_execs_cons (thn (h1 pins s σ H D I h) fun f s1 q => ?_)
  cases f with
  | next => exact wpAny_execs_nil q
  | ret v => exact q
  | brk => exact q
  | cont => exact q
theorem Inv.quiet {pins : List (Addr × Obj)} {σ : St} {H : Hp} {s : Shared} (I : Inv X pins σ H s) : interactive X.env = false := by simp [interactive, I.ok.kind]
noncomputable def tDrop (te : TE) : TS := fun D σ H => te σ H fun _ H1 => D.nx σ H1
theorem ps_expr (he : PE X e te) (hs : swapsWith e none pos.line X.env = pure false := by rfl) : PS X (.Expr e pos) (tDrop te) := by
  intro pins s σ H D I h
  exact wpAny_Expr_any (thn (he pins s σ H _ I h) fun v s1 ⟨x, H1, I1, r1, q1⟩ => ⟨σ, H1, I1, q1⟩) I.quiet hs
noncomputable def tRet (te : TE) : TS := fun D σ H => te σ H D.rt
theorem ps_ret (he : PE X e te) : PS X (.Return (some e) pos) (tRet te) := by
  intro pins s σ H D I h
  exact wpAny_Return_some (thn (he pins s σ H _ I h) fun v s1 ⟨x, H1, I1, r1, q1⟩ => ⟨x, σ, H1, I1, r1, q1⟩)
noncomputable def tIfS (c : TT) (t u : TS) : TS := fun D σ H => c σ H fun b H1 => if b = true then t D σ H1 else u D σ H1
theorem ps_if {c : Expr} {a b : List Stmt} {tc : TT} (hc : PT X c tc) (ha : PSs X a t) (hb : PSs X b u) : PS X (.If c a b pos) (tIfS tc t u) := by
  intro pins s σ H D I h
  refine wpAny_If (thn (hc pins s σ H _ I h) fun d s1 ⟨H1, I1, q1⟩ => ?_)
  cases d with
  | true => exact ha pins s1 σ H1 D I1 q1
  | false => exact hb pins s1 σ H1 D I1 q1
end
noncomputable abbrev TG := V → St → Hp → (St → Hp → Prop) → Prop
noncomputable abbrev TGs := List V → St → Hp → (St → Hp → Prop) → Prop
noncomputable def PG (X : Cx) (target : Expr) (t : TG) : Prop :=
  ∀ (pins : List (Addr × Obj)) (s : Shared) (σ : St) (H : Hp) (v : V) (u : Value) (Q : St → Hp → Prop), Inv X pins σ H s → RelV v u → t v σ H Q →
    wpAny (model X.prog X.w) X.A (assign target X.env u) (fun _ s' => ∃ σ' H', Inv X pins σ' H' s' ∧ Q σ' H') X.xe s
noncomputable def PGs (X : Cx) (ts : List Expr) (t : TGs) : Prop :=
  ∀ (pins : List (Addr × Obj)) (s : Shared) (σ : St) (H : Hp) (vs : List V) (us : List Value) (Q : St → Hp → Prop), Inv X pins σ H s → Vals vs us → t vs σ H Q →
    wpAny (model X.prog X.w) X.A (assignInOrder ((assignEach ts X.env).map (·.2)) us) (fun _ s' => ∃ σ' H', Inv X pins σ' H' s' ∧ Q σ' H') X.xe s
noncomputable abbrev TSet := V → V → V → Hp → (Hp → Prop) → Prop
noncomputable def PSet (X : Cx) (t : TSet) : Prop :=
  ∀ (pins : List (Addr × Obj)) (s : Shared) (σ : St) (H : Hp) (o i v : V) (ov iv u : Value) (Q : Hp → Prop), Inv X pins σ H s → RelV o ov → RelV i iv → RelV v u → t o i v H Q →
    wpAny (model X.prog X.w) X.A (setItem ov iv u) (fun _ s' => ∃ H', Inv X pins σ H' s' ∧ Q H') X.xe s
noncomputable abbrev TIp := V → V → Hp → VK → Prop
noncomputable def PIp (X : Cx) (op : Operator) (t : TIp) : Prop :=
  ∀ (pins : List (Addr × Obj)) (s : Shared) (σ : St) (H : Hp) (x y : V) (v u : Value) (Q : VK), Inv X pins σ H s → RelV x v → RelV y u → t x y H Q →
    wpAny (model X.prog X.w) X.A (inplaceOp op v u) (EP X pins σ Q) X.xe s
section
variable {X : Cx} {pos : Pos}
noncomputable def gName (i : Nat) : TG := fun v σ H Q => Q (σ.set i (some v)) H
theorem pg_name {i : Nat} {x : Str} (hN : X.N.Nodup) (hi : X.N[i]? = some x) (hx : Loc X.env.scope x) (hf : X.fn x = true ∨ X.env.scope.names.lookup x = some .local := by first | exact .inl rfl | exact .inr rfl | assumption) : PG X (.Name x pos) (gName i) := by
  intro pins s σ H v u Q I r h
  exact wpAny_assign_Name (store_ok I hN hi hx r (fun s' I' => ⟨_, H, I', h⟩) hf)
noncomputable def gTup (K : PySem.W.Frag) (n : Nat) (t : TGs) : TG := fun v σ H Q => ∃ a xs, v = .ref a ∧ SqT K H a xs ∧ xs.length = n ∧ t xs σ H Q
theorem pg_tup {es : List Expr} {k : Nat} {t : TGs} {n : Nat} (hc : X.calm = true) (h : PGs X es t)
    (hn : (assignEach es X.env).length = n := by rfl) (hst : (assignEach es X.env).findIdx? (·.1) = none := by rfl) : PG X (.Tuple es k pos) (gTup X.K n t) := by
  intro pins s σ H v u Q I r hw
  obtain ⟨a, xs, e1, hq, hl, hw⟩ := hw
  subst e1
  cases r
  obtain ⟨its, rv, ht, hz⟩ := I.tuple hq
  refine assign_Tuple_tuple (I.ok.hd hc) ht (by simp [hn, ← hl, rv.length]) hst fun h' hx => ?_
  have I1 : Inv X pins σ H { s with heap := h' } := I.kept (t' := s.toks) fun b o e => hx b o (Nat.ne_of_lt (Heap.lt_size e)) e
  exact h pins _ σ H xs _ Q I1 (by simpa using rv) hw
noncomputable def gSub (to ti : TE) (t : TSet) : TG := fun v σ H Q => to σ H fun o H1 => ti σ H1 fun i H2 => t o i v H2 fun H3 => Q σ H3
theorem pg_sub {o i : Expr} {to ti : TE} {t : TSet} (ho : PE X o to) (hi : PE X i ti) (hs : PSet X t)
    (ha : ∀ v, assign (.Subscript o i pos) X.env v = (do
      let ov ← holding [v] (eval o X.env)
      let iv ← holding [v, ov] (eval i X.env)
      standAt pos
      holding [v, ov, iv] (setItem ov iv v)
      release [v, ov, iv] []) := by intro _; rfl) : PG X (.Subscript o i pos) (gSub to ti t) := by
  intro pins s σ H v u Q I r h
  rw [ha]
  refine wpAny_bind (wpAny_holding (thn (ho pins s σ H _ I h) fun ov s1 ⟨x, H1, I1, r1, q1⟩ => ?_))
  refine wpAny_bind (wpAny_holding (thn (hi pins s1 σ H1 _ I1 q1) fun iv s2 ⟨y, H2, I2, r2, q2⟩ => ?_))
  refine wpAny_bind (wpAny_standAt (wpAny_bind (wpAny_holding (thn (hs pins s2 σ H2 x y v ov iv u _ I2 r1 r2 r q2) fun _ s3 ⟨H3, I3, q3⟩ => ?_))))
  exact wpAny_release ⟨σ, H3, I3, q3⟩
noncomputable def tAsg (te : TE) (g : TG) : TS := fun D σ H => te σ H fun x H1 => g x σ H1 D.nx
theorem ps_asg {tg e : Expr} {te : TE} {g : TG} (he : PE X e te) (hg : PG X tg g) (hs : swapsWithSole [tg] e pos.line X.env = pure false := by rfl) (hw : swappedStores [tg] e X.env = pure none := by rfl)
    (h1 : (assignEach [tg] X.env).map (·.2) = [assign tg X.env] := by rfl) : PS X (.Assign [tg] e pos) (tAsg te g) := by
  intro pins s σ H D I h
  refine wpAny_Assign_stores (thn (he pins s σ H _ I h) fun v s1 ⟨x, H1, I1, r1, q1⟩ => ?_) hs hw
  rw [h1]
  exact thn (hg pins s1 σ H1 x v _ I1 r1 q1) fun _ s2 q => q
theorem ps_set {i : Nat} {x : Str} {e : Expr} {te : TE} {pos' : Pos} (hN : X.N.Nodup) (hi : X.N[i]? = some x) (hx : Loc X.env.scope x) (he : PE X e te) (hs : swapsWith e (some (.Name x pos')) pos.line X.env = pure false := by rfl) (hf : X.fn x = true ∨ X.env.scope.names.lookup x = some .local := by first | exact .inl rfl | exact .inr rfl | assumption) :
    PS X (.Assign [.Name x pos'] e pos) (tAsg te (gName i)) := by
  intro pins s σ H D I h
  refine wpAny_Assign_Name (thn (he pins s σ H _ I h) fun v s1 ⟨y, H1, I1, r1, q1⟩ => ?_) hs
  exact store_ok I1 hN hi hx r1 (fun s2 I2 => ⟨_, H1, I2, q1⟩) hf
noncomputable def tAugS (to ti te : TE) (tget : V → V → Hp → VK → Prop) (tip : TIp) (tset : TSet) : TS := fun D σ H => to σ H fun o H1 => ti σ H1 fun i H2 => tget o i H2 fun x H3 => te σ H3 fun y H4 => tip x y H4 fun z H5 => tset o i z H5 fun H6 => D.nx σ H6
noncomputable def PGet (X : Cx) (t : V → V → Hp → VK → Prop) : Prop :=
  ∀ (pins : List (Addr × Obj)) (s : Shared) (σ : St) (H : Hp) (o i : V) (ov iv : Value) (Q : VK), Inv X pins σ H s → RelV o ov → RelV i iv → t o i H Q →
    wpAny (model X.prog X.w) X.A (getItem ov iv) (EP X pins σ Q) X.xe s
theorem ps_augS {o i e : Expr} {to ti te : TE} {tget : V → V → Hp → VK → Prop} {tip : TIp} {tset : TSet} {op : Operator} {tpos : Pos} (ho : PE X o to) (hi : PE X i ti) (hg : PGet X tget) (he : PE X e te) (hp : PIp X op tip) (hs : PSet X tset)
    (ha : ∀ ov iv new, augStore i ov iv new = (do holding [new, ov, iv] (setItem ov iv new); release [new, ov, iv] []; pure .next) := by intros; rfl) : PS X (.AugAssign (.Subscript o i tpos) op e pos) (tAugS to ti te tget tip tset) := by
  intro pins s σ H D I h
  refine wpAny_AugAssign_SubscriptAny (thn (ho pins s σ H _ I h) fun ov s1 ⟨x1, H1, I1, r1, q1⟩ => ?_) ha
  refine thn (hi pins s1 σ H1 _ I1 q1) fun iv s2 ⟨x2, H2, I2, r2, q2⟩ => ?_
  refine thn (hg pins s2 σ H2 x1 x2 ov iv _ I2 r1 r2 q2) fun old s3 ⟨x3, H3, I3, r3, q3⟩ => ?_
  refine thn (he pins s3 σ H3 _ I3 q3) fun v s4 ⟨x4, H4, I4, r4, q4⟩ => ?_
  refine thn (hp pins s4 σ H4 x3 x4 old v _ I4 r3 r4 q4) fun new s5 ⟨x5, H5, I5, r5, q5⟩ => ?_
  exact thn (hs pins s5 σ H5 x1 x2 x5 ov iv new _ I5 r1 r2 r5 q5) fun _ s6 ⟨H6, I6, q6⟩ => ⟨σ, H6, I6, q6⟩
noncomputable def ipI (f : Int → Int → Int) : TIp := fun x y H Q => ∃ i j, x = .int i ∧ y = .int j ∧ Q (.int (f i j)) H
theorem ip_sub : PIp X .Sub (ipI fun i j => i - j) := by
  intro pins s σ H x y v u Q I r1 r2 h
  obtain ⟨i, j, e1, e2, q⟩ := h
  subst e1; subst e2
  obtain ⟨t, rfl⟩ := r1
  obtain ⟨t', rfl⟩ := r2
  exact isub_int ⟨.int _, H, I.tok _, ⟨_, rfl⟩, q⟩
end
section
variable {X : Cx} {pos : Pos}
noncomputable def tWhile (c : TT) (tb : TS) : TS := fun D σ H => ∃ W : Nat → St → Hp → Prop, (∃ m, W m σ H) ∧ ∀ m σ H, W m σ H →
  c σ H fun b H1 => if b = true then ∃ N : St → Hp → Prop, (∀ σ' H', N σ' H' → ∃ m', m' < m ∧ W m' σ' H') ∧ tb { D with nx := N, ct := N, bk := D.nx } σ H1 else D.nx σ H1
theorem ps_while {c : Expr} {body : List Stmt} {tc : TT} {tb : TS} (hp : PassesOwn (model X.prog X.w) X.A X.env X.xe) (hc : PT X c tc) (hb : PSs X body tb) : PS X (.While c body [] pos) (tWhile tc tb) := by
  intro pins s σ H D I h
  obtain ⟨W, ⟨m0, w0⟩, turn⟩ := h
  refine wpAny_While (codeAny_whileLoop (fun n s' => ∃ σ' H', Inv X pins σ' H' s' ∧ W n σ' H') ?_ m0 ⟨σ, H, I, w0⟩)
  rintro n s1 ⟨σ1, H1, I1, w1⟩
  refine wpAny_passesOwn hp (thn (hc pins s1 σ1 H1 _ I1 (turn n σ1 H1 w1)) fun b s2 ⟨H2, I2, q2⟩ => ?_)
  cases b with
  | true =>
    obtain ⟨N, hN, q2⟩ := q2
    rw [if_pos rfl]
    refine wpAny_passesOwn hp (thn (hb pins s2 σ1 H2 _ I2 q2) fun f s3 q3 => ?_)
    cases f with
    | next =>
      obtain ⟨σ3, H3, I3, n3⟩ := q3
      obtain ⟨m', hm, w3⟩ := hN σ3 H3 n3
      exact ⟨m', hm, σ3, H3, I3, w3⟩
    | cont =>
      obtain ⟨σ3, H3, I3, n3⟩ := q3
      obtain ⟨m', hm, w3⟩ := hN σ3 H3 n3
      exact ⟨m', hm, σ3, H3, I3, w3⟩
    | brk => exact q3
    | ret v => exact q3
  | false =>
    rw [if_neg Bool.false_ne_true]
    exact wpAny_execs_nil ⟨σ1, H2, I2, q2⟩
end
structure It where
  go : Nat → Hp → Prop
  yld : Nat → Hp → V → Hp → Prop
  stop : Nat → Hp → Prop
noncomputable def FpOk (X : Cx) (pins : List (Addr × Obj)) (H : Hp) (b : Addr) : Prop :=
  H b = none ∧ b ≠ X.env.locals ∧ b ∉ X.fs ∧ (b ∈ X.ex ∨ X.s₀.heap.objs.size ≤ b) ∧ (∀ x c, X.env.cells.lookup x = some c → c ≠ b) ∧ ∀ p ∈ X.pn ++ pins, p.1 ≠ b
theorem Inv.fpOk {X : Cx} {pins : List (Addr × Obj)} {σ : St} {H H' : Hp} {s : Shared} {b : Addr} (I : Inv X pins σ H s) (hb : s.heap.objs.size ≤ b) (hn : H' b = none) : FpOk X pins H' b := by
  refine ⟨hn, Nat.ne_of_gt (Nat.lt_of_lt_of_le I.lt hb), I.nofs hb, .inr (Nat.le_trans I.sz hb), fun x c e z => ?_, fun p hp z => ?_⟩
  · obtain ⟨v, q⟩ := I.cell x c e
    exact absurd (Nat.lt_of_lt_of_le q.lt (by rw [z]; exact hb)) (Nat.lt_irrefl _)
  · exact absurd (Nat.lt_of_lt_of_le (Heap.lt_size (I.pin p hp).1) (by rw [z]; exact hb)) (Nat.lt_irrefl _)
structure Turn (P : Program) (w : World) (K : PySem.W.Frag) (tg : Expr) (J : It) (fp : List Addr) (it : Addr) (tn : Nat → Heap → Prop) : Prop where
  mem : it ∈ fp
  obj : ∀ i h, tn i h → ∀ b ∈ fp, ∃ o, h.get? b = some o ∧ ∀ v, o.data ≠ .cell v
  keep : ∀ i h h', tn i h → (∀ b ∈ fp, ∀ o, h.get? b = some o → h'.get? b = some o) → tn i h'
  item : ∀ (X : Cx), X.prog = P → X.w = w → X.K = K → X.calm = true → ∀ (i : Nat) (pins : List (Addr × Obj)) (s : Shared) (σ : St) (H : Hp) (E : Value → Shared → Prop), Inv X pins σ H s → (∀ b ∈ fp, FpOk X pins H b) → tn i s.heap → J.go i H →
    wpAny (model P w) X.A (pyNext (.ref it)) (fun r s1 => ∃ u, r = some u ∧
      wpAny (model P w) X.A (letOwnedTupleGo tg (.ref it) u) (fun _ s2 => ∃ x H', Inv X pins σ H' s2 ∧ RelV x u ∧ J.yld i H x H' ∧ tn (i + 1) s2.heap ∧ ∀ b ∈ fp, H' b = none) E s1) E s
  done : ∀ (X : Cx), X.prog = P → X.w = w → X.K = K → X.calm = true → ∀ (i : Nat) (pins : List (Addr × Obj)) (s : Shared) (σ : St) (H : Hp) (E : Value → Shared → Prop), Inv X pins σ H s → (∀ b ∈ fp, FpOk X pins H b) → tn i s.heap → J.stop i H →
    wpAny (model P w) X.A (pyNext (.ref it)) (fun r s1 => r = none ∧ Inv X pins σ H s1) E s
  self : ∀ (A : Around) (i : Nat) (s : Shared) (Q : Value → Shared → Prop) (E : Value → Shared → Prop), tn i s.heap → Q (.ref it) s → wpAny (model P w) A (pyIter (.ref it)) Q E s
noncomputable abbrev TI := St → Hp → (It → Hp → Prop) → Prop
noncomputable def PIE (X : Cx) (pins : List (Addr × Obj)) (σ : St) (tg : Expr) (R : It → Hp → Prop) (itv : Value) (s2 : Shared) : Prop :=
  ∃ (it : Addr) (fp : List Addr) (tn : Nat → Heap → Prop) (J : It) (H' : Hp), itv = .ref it ∧ Inv X pins σ H' s2 ∧ Turn X.prog X.w X.K tg J fp it tn ∧ tn 0 s2.heap ∧ (∀ b ∈ fp, FpOk X pins H' b) ∧ R J H'
noncomputable def PI (X : Cx) (tg iter : Expr) (wi : TI) : Prop :=
  ∀ (pins : List (Addr × Obj)) (s : Shared) (σ : St) (H : Hp) (R : It → Hp → Prop), Inv X pins σ H s → wi σ H R →
    wpAny (model X.prog X.w) X.A (eval iter X.env) (fun v s1 => wpAny (model X.prog X.w) X.A (pyIter v) (PIE X pins σ tg R) X.xe s1) X.xe s
theorem go_of {M : Model} {A : Around} {E : Value → Shared → Prop} {s : Shared} {tg : Expr} {it : Addr} {u : Value} {o : Obj} {n : String} {vs : Array Value} {Q : Unit → Shared → Prop} (ho : s.heap.get? it = some o) (hc : o.cls = .type n) (hd : o.data = .fields vs)
    (hn : ["enumerate", "zip", "dict_itemiterator", "dict_reverseitemiterator", "odict_iterator", "itertools.zip_longest", "itertools.pairwise"].contains n = false) (hQ : Q () s) : wpAny M A (letOwnedTupleGo tg (.ref it) u) Q E s := by
  unfold letOwnedTupleGo
  cases tg <;> first
    | exact wpAny_pure hQ
    | (cases u <;> first
        | exact wpAny_pure hQ
        | (refine wpAny_bind (wpAny_load ho ?_)
           rw [hc, hd]
           show wpAny M A (if (["enumerate", "zip", "dict_itemiterator", "dict_reverseitemiterator", "odict_iterator", "itertools.zip_longest", "itertools.pairwise"].contains n && vs[0]? == some (rawInt _)) = true then _ else _) Q E s
           rw [if_neg (by intro h; rw [hn, Bool.false_and] at h; cases h)]
           exact wpAny_pure hQ))
noncomputable def Itl (K : PySem.W.Frag) (a : Addr) : It :=
  ⟨fun i H => ∃ xs x, SqL K H a xs ∧ xs[i]? = some x, fun i H x H' => H' = H ∧ ∀ xs, SqL K H a xs → xs[i]? = some x, fun i H => ∃ xs, SqL K H a xs ∧ xs.length ≤ i⟩
noncomputable def Itr (lo : Int) (n : Nat) : It := ⟨fun i _ => i < n, fun i H x H' => H' = H ∧ x = .int (lo + i), fun i _ => n ≤ i⟩
theorem turn_list {P : Program} {w : World} {K : PySem.W.Frag} {tg : Expr} (a it : Addr) : Turn P w K tg (Itl K a) [it] it (fun i h => h.IsListIter it a i) where
  mem := by simp
  obj := fun i h st b hb => by
    have e : b = it := by simpa using hb
    subst e
    obtain ⟨o, e, c, d⟩ := st
    exact ⟨o, e, fun v z => by rw [d] at z; cases z⟩
  keep := fun i h h' st k => st.at fun o e => k it (by simp) o e
  item := by
    intro X hP hw hK hc i pins s σ H E I hf st hg
    subst hP hw hK
    obtain ⟨xs, x, hq, hx⟩ := hg
    obtain ⟨its, rv, p, hz⟩ := I.list hq
    obtain ⟨u, hu, ru⟩ := rv.get hx
    obtain ⟨f0, f1, f2, f3, f4, f5⟩ := hf it (by simp)
    refine wpAny_pyNext_list_item st p.isList (x := u) (by simpa using hu) fun h' st' sb => ?_
    have I1 : Inv X pins σ H { s with heap := h' } := I.turned (t' := s.toks) (fun b o hb e => (sb.2 b hb).trans e) f0 f1 f3 f4 f5
    obtain ⟨o, e, c, d⟩ := id st'
    exact ⟨u, rfl, go_of (s := { s with heap := h' }) e c d (by decide) ⟨x, H, I1, ru, ⟨rfl, fun ys hy => by rw [I.list_inj hy hq]; exact hx⟩, st', fun b hb => (hf b hb).1⟩⟩
  done := by
    intro X hP hw hK hc i pins s σ H E I hf st hg
    subst hP hw hK
    obtain ⟨xs, hq, hx⟩ := hg
    obtain ⟨its, rv, p, hz⟩ := I.list hq
    obtain ⟨f0, f1, f2, f3, f4, f5⟩ := hf it (by simp)
    have hl := rv.length
    exact wpAny_pyNext_list_end (I.ok.hd hc) st p.isList (by simp; omega) fun h' eb => ⟨rfl, I.turned (t' := s.toks) (fun b o hb e => eb b o hb e) f0 f1 f3 f4 f5⟩
  self := fun _ _ _ _ _ st h => wpAny_pyIter_listiter st h
theorem turn_range {P : Program} {w : World} {K : PySem.W.Frag} {tg : Expr} (it : Addr) (lo : Int) (n : Nat) : Turn P w K tg (Itr lo n) [it] it (fun i h => IsRangeIter h it (lo + (i : Nat) * 1) ((n : Int) - (i : Nat)) 1) where
  mem := by simp
  obj := fun i h st b hb => by
    have e : b = it := by simpa using hb
    subst e
    exact ⟨_, st, fun v z => by
      have z' : Data.fields _ = Data.cell v := z
      cases z'⟩
  keep := fun i h h' st k => k it (by simp) _ st
  item := by
    intro X hP hw hK hc i pins s σ H E I hf st hg
    subst hP hw hK
    obtain ⟨f0, f1, f2, f3, f4, f5⟩ := hf it (by simp)
    have W := Walks.range (prog := X.prog) (w := X.w) (I.ok.hd hc) it lo 1 n
    refine W.item i s _ _ hg st fun v h' tk hv st' kk => ?_
    obtain ⟨t, rfl⟩ := hv
    have I1 : Inv X pins σ H { s with heap := h', toks := tk } := I.turned (fun b o hb e => kk b o (by simpa using hb) e) f0 f1 f3 f4 f5
    refine ⟨_, rfl, go_of (s := { s with heap := h', toks := tk }) (n := "range_iterator") st' rfl rfl (by decide) ⟨.int (lo + i), H, I1, ⟨t, ?_⟩, ⟨rfl, rfl⟩, st', fun b hb => (hf b hb).1⟩⟩
    rw [Int.mul_one]
  done := by
    intro X hP hw hK hc i pins s σ H E I hf st hg
    subst hP hw hK
    obtain ⟨f0, f1, f2, f3, f4, f5⟩ := hf it (by simp)
    exact wpAny_pyNext_range_end (I.ok.hd hc) st (by have : n ≤ i := hg; omega) fun h' eb => ⟨rfl, I.turned (t' := s.toks) (fun b o hb e => eb b o hb e) f0 f1 f3 f4 f5⟩
  self := fun _ _ _ _ _ st h => wpAny_pyIter_rangeiter st h
end L2
namespace L2
open PySem PySem.Spec PyProof.Rows
section
variable {X : Cx} {tg : Expr}
noncomputable def iList (K : PySem.W.Frag) (tl : TE) : TI := fun σ H R => tl σ H fun x H1 => ∃ a, x = .ref a ∧ (∃ xs, SqL K H1 a xs) ∧ R (Itl K a) H1
theorem pi_list {l : Expr} {tl : TE} (hl : PE X l tl) : PI X tg l (iList X.K tl) := by
  intro pins s σ H R I h
  refine thn (hl pins s σ H _ I h) fun v s1 ⟨x, H1, I1, r1, q1⟩ => ?_
  obtain ⟨a, e, ⟨xs, hq⟩, q⟩ := q1
  subst e
  cases r1
  obtain ⟨its, rv, p, hz⟩ := I1.list hq
  refine wpAny_pyIter_list p.isList ?_
  refine ⟨s1.heap.objs.size, [s1.heap.objs.size], _, _, H1, rfl, I1.kept (t' := s1.toks) fun b o e => Heap.get?_push_of_some _ e, turn_list a _, ⟨_, Heap.get?_push_size _ rfl, rfl, rfl⟩, fun b hb => ?_, q⟩
  have e : b = s1.heap.objs.size := by simpa using hb
  subst e
  exact I1.fpOk (Nat.le_refl _) (I1.hok.fresh (Nat.le_refl _))
theorem range_it {pins : List (Addr × Obj)} {σ : St} {H : Hp} {s : Shared} {R : It → Hp → Prop} {E : Value → Shared → Prop} {lo hi : Int} {t u v : Tok} {tk : Nat} (I : Inv X pins σ H s) (h1 : -(2 ^ 62) ≤ lo) (h2 : lo < 2 ^ 62) (h3 : -(2 ^ 62) ≤ hi) (h4 : hi < 2 ^ 62)
    (q : R (Itr lo (hi - lo).toNat) H) : wpAny (model X.prog X.w) X.A (pyIter (.ref s.heap.objs.size)) (PIE X pins σ tg R) E { s with heap := s.heap.push { cls := .type "range", data := .fields #[.int lo t, .int hi u, .int 1 v] }, toks := tk } := by
  refine wpAny_pyIter_range (IsRange.new ..) (small_one h1 h2 h3 h4) ?_
  have I1 : Inv X pins σ H { s with heap := s.heap.push { cls := .type "range", data := .fields #[.int lo t, .int hi u, .int 1 v] }, toks := tk } := I.kept fun b o e => Heap.get?_push_of_some _ e
  refine ⟨(s.heap.push { cls := .type "range", data := .fields #[.int lo t, .int hi u, .int 1 v] }).objs.size, [(s.heap.push { cls := .type "range", data := .fields #[.int lo t, .int hi u, .int 1 v] }).objs.size], _, _, H, rfl,
    I1.kept (t' := tk) fun b o e => Heap.get?_push_of_some _ e, turn_range _ lo (hi - lo).toNat, ?_, fun b hb => ?_, q⟩
  · have e1 : lo + ((0 : Nat) : Int) * 1 = lo := by simp
    have e2 : (((hi - lo).toNat : Nat) : Int) - ((0 : Nat) : Int) = Builtin.Range.rangeSize lo hi 1 := by rw [rangeSize_one]; split <;> omega
    show IsRangeIter _ _ (lo + ((0 : Nat) : Int) * 1) ((((hi - lo).toNat : Nat) : Int) - ((0 : Nat) : Int)) 1
    rw [e1, e2]
    exact Heap.get?_push_size _ rfl
  · have e : b = (s.heap.push { cls := .type "range", data := .fields #[.int lo t, .int hi u, .int 1 v] }).objs.size := by simpa using hb
    subst e
    exact I1.fpOk (Nat.le_refl _) (I1.hok.fresh (Nat.le_refl _))
noncomputable def iRng1 (ta : TA) : TI := fun σ H R => ta σ H fun vs H1 => ∃ j : Int, vs = [.int j] ∧ -(2 ^ 62) ≤ j ∧ j < 2 ^ 62 ∧ R (Itr 0 j.toNat) H1
theorem pi_range1 {a : Expr} {ta : TA} {p pos : Pos} (hg : Gl X "range") (hm : X.mg "range" = none) (ha : PA X [a] ta) (hs : starEach [a] X.env = [(false, eval a X.env)] := by rfl) : PI X tg (.Call (.Name "range" p) [a] [] pos) (iRng1 ta) := by
  intro pins s σ H R I h
  refine Call_ (ld_blt I hg hm boot_range (PyProof.Rows.callWith_type1 (thn (ha pos pins s σ H _ I h) fun us s1 ⟨vs, H1, I1, r1, q1⟩ => ?_) hs rfl))
  obtain ⟨j, e, q1, q2, q⟩ := q1
  subst e
  cases r1 with
  | cons r rr =>
    cases rr
    obtain ⟨t, rfl⟩ := r
    exact call_range_1 (range_it I1 (by omega) (by omega) q1 q2 (by simpa using q))
noncomputable def tFor (wi : TI) (g : TG) (tb : TS) : TS := fun D σ H => wi σ H fun J H1 => ∃ W : Nat → Nat → St → Hp → Prop, (∃ m, W 0 m σ H1) ∧ ∀ i m σ H, W i m σ H →
  (J.stop i H ∧ D.nx σ H) ∨ (J.go i H ∧ ∃ N : St → Hp → Prop, (∀ σ' H', N σ' H' → ∃ m', m' < m ∧ W (i + 1) m' σ' H') ∧ ∀ x H', J.yld i H x H' → g x σ H' fun σ2 H2 => tb { D with nx := N, ct := N, bk := D.nx } σ2 H2)
noncomputable def pinsAt (fp : List Addr) (h : Heap) : List (Addr × Obj) := fp.filterMap fun b => (h.get? b).map fun o => (b, o)
theorem mem_pinsAt {fp : List Addr} {h : Heap} {b : Addr} {o : Obj} (hb : b ∈ fp) (e : h.get? b = some o) : (b, o) ∈ pinsAt fp h := List.mem_filterMap.mpr ⟨b, hb, by rw [e]; rfl⟩
theorem of_pinsAt {fp : List Addr} {h : Heap} {p : Addr × Obj} (hp : p ∈ pinsAt fp h) : p.1 ∈ fp ∧ h.get? p.1 = some p.2 := by
  obtain ⟨b, hb, e⟩ := List.mem_filterMap.mp hp
  cases q : h.get? b with
  | none => rw [q] at e; cases e
  | some o =>
    rw [q] at e
    have e' : (b, o) = p := Option.some.inj e
    subst e'
    exact ⟨hb, q⟩
theorem Inv.pinned {pins : List (Addr × Obj)} {σ : St} {H : Hp} {s : Shared} {fp : List Addr} (I : Inv X pins σ H s) (hf : ∀ b ∈ fp, FpOk X pins H b) (ho : ∀ b ∈ fp, ∃ o, s.heap.get? b = some o ∧ ∀ v, o.data ≠ .cell v) : Inv X (pins ++ pinsAt fp s.heap) σ H s :=
  I.pins_of fun p hp => (List.mem_append.mp hp).elim (fun z => I.pin p (List.mem_append_right _ z)) fun z => by
    obtain ⟨hb, e⟩ := of_pinsAt z
    obtain ⟨f0, f1, f2, _⟩ := hf p.1 hb
    obtain ⟨o, e', d⟩ := ho p.1 hb
    rw [e] at e'; cases e'
    exact ⟨e, f0, f1, f2, d⟩
theorem Inv.unpinned {pins pl : List (Addr × Obj)} {σ : St} {H : Hp} {s : Shared} (I : Inv X (pins ++ pl) σ H s) : Inv X pins σ H s := I.pins_of fun p hp => I.pin p (List.mem_append_right _ (List.mem_append_left _ hp))
theorem ps_for {iter : Expr} {body : List Stmt} {wi : TI} {g : TG} {tb : TS} {pos : Pos} (hp : PassesOwn (model X.prog X.w) X.A X.env X.xe) (hc : X.calm = true) (hi : PI X tg iter wi) (hg : PG X tg g) (hb : PSs X body tb)
    (hs : ∀ x, foldedSetIterable iter X.env x = pure x := by intro _; rfl) : PS X (.For tg iter body [] pos) (tFor wi g tb) := by
  intro pins s σ H D I h
  refine wpAny_For (thn (hi pins s σ H _ I h) fun v s1 h1 => thn h1 fun itv s2 h2 => ?_) hs
  obtain ⟨it, fp, tn, J, H2, e, I2, T, st2, f2, W, ⟨m0, w0⟩, turn⟩ := h2
  subst e
  have stat : ∀ {H' : Hp}, (∀ b ∈ fp, H' b = none) → ∀ b ∈ fp, FpOk X pins H' b := fun hn b hb => ⟨hn b hb, (f2 b hb).2⟩
  refine codeAny_forLoop_any (fun n s' => ∃ i σ' H', Inv X pins σ' H' s' ∧ tn i s'.heap ∧ (∀ b ∈ fp, H' b = none) ∧ W i n σ' H') ?_ m0 ⟨0, σ, H2, I2, st2, fun b hb => (f2 b hb).1, w0⟩
  rintro n s3 ⟨i, σ3, H3, I3, st3, fr3, w3⟩
  rcases turn i n σ3 H3 w3 with ⟨stop, qn⟩ | ⟨go, N, hN, step⟩
  · refine wpAny_passesOwn hp (thn (T.done X rfl rfl rfl hc i pins s3 σ3 H3 X.xe I3 (stat fr3) st3 stop) fun r s4 ⟨hr, I4⟩ => ?_)
    subst hr
    exact wpAny_execs_nil ⟨σ3, H3, I4, qn⟩
  · refine wpAny_passesOwn hp (thn (T.item X rfl rfl rfl hc i pins s3 σ3 H3 X.xe I3 (stat fr3) st3 go) fun r s4 ⟨u, hr, h4⟩ => ?_)
    subst hr
    refine wpAny_passesOwn hp (thn h4 fun _ s5 ⟨x, H5, I5, r5, y5, st5, fr5⟩ => ?_)
    have I5' := I5.pinned (stat fr5) (T.obj _ _ st5)
    refine wpAny_passesOwn hp (thn (hg _ s5 σ3 H5 x u _ I5' r5 (step x H5 y5)) fun _ s6 ⟨σ6, H6, I6, q6⟩ => ?_)
    refine wpAny_passesOwn hp (thn (hb _ s6 σ6 H6 _ I6 q6) fun f s7 q7 => ?_)
    have again : ∀ {σ7 : St} {H7 : Hp}, Inv X (pins ++ pinsAt fp s5.heap) σ7 H7 s7 → N σ7 H7 → ∃ m, m < n ∧ ∃ i σ' H', Inv X pins σ' H' s7 ∧ tn i s7.heap ∧ (∀ b ∈ fp, H' b = none) ∧ W i m σ' H' := fun {σ7 H7} I7 n7 => by
      obtain ⟨m', hm, w7⟩ := hN σ7 H7 n7
      refine ⟨m', hm, i + 1, σ7, H7, I7.unpinned, T.keep _ _ _ st5 fun b hb o e => (I7.pin (b, o) (List.mem_append_right _ (List.mem_append_right _ (mem_pinsAt hb e)))).1, fun b hb => ?_, w7⟩
      obtain ⟨o, e, d⟩ := T.obj _ _ st5 b hb
      exact (I7.pin (b, o) (List.mem_append_right _ (List.mem_append_right _ (mem_pinsAt hb e)))).2.1
    cases f with
    | next => obtain ⟨σ7, H7, I7, n7⟩ := q7; exact again I7 n7
    | cont => obtain ⟨σ7, H7, I7, n7⟩ := q7; exact again I7 n7
    | brk => obtain ⟨σ7, H7, I7, q7⟩ := q7; exact ⟨σ7, H7, I7.unpinned, q7⟩
    | ret v => obtain ⟨x7, σ7, H7, I7, r7, q7⟩ := q7; exact ⟨x7, σ7, H7, I7.unpinned, r7, q7⟩
end
theorem for_list {K : PySem.W.Frag} {a : Addr} {xs : List V} {g : TG} {tb : TS} {D : Ends} {σ : St} {H : Hp} (Pv : Nat → St → Hp → Prop) (h0 : Pv 0 σ H) (hl : ∀ i σ H, i ≤ xs.length → Pv i σ H → SqL K H a xs)
    (hs : ∀ i x σ H, xs[i]? = some x → Pv i σ H → g x σ H fun σ2 H2 => tb { D with nx := Pv (i + 1), ct := Pv (i + 1), bk := D.nx } σ2 H2) (hd : ∀ σ H, Pv xs.length σ H → D.nx σ H) :
    ∃ W : Nat → Nat → St → Hp → Prop, (∃ m, W 0 m σ H) ∧ ∀ i m σ H, W i m σ H →
      ((Itl K a).stop i H ∧ D.nx σ H) ∨ ((Itl K a).go i H ∧ ∃ N : St → Hp → Prop, (∀ σ' H', N σ' H' → ∃ m', m' < m ∧ W (i + 1) m' σ' H') ∧ ∀ x H', (Itl K a).yld i H x H' → g x σ H' fun σ2 H2 => tb { D with nx := N, ct := N, bk := D.nx } σ2 H2) := by
  refine ⟨fun i m σ H => m = xs.length - i ∧ i ≤ xs.length ∧ Pv i σ H, ⟨xs.length, by simp, Nat.zero_le _, h0⟩, ?_⟩
  rintro i m σ H ⟨rfl, hi, p⟩
  have q := hl i σ H hi p
  by_cases hlt : i < xs.length
  · refine .inr ⟨⟨xs, xs[i], q, by simp [hlt]⟩, Pv (i + 1), fun σ' H' p' => ⟨xs.length - (i + 1), by omega, rfl, hlt, p'⟩, fun x H' y => ?_⟩
    obtain ⟨e, y⟩ := y
    subst e
    exact hs i x σ _ (y xs q) p
  · have e : i = xs.length := by omega
    subst e
    exact .inl ⟨⟨xs, q, Nat.le_refl _⟩, hd σ H p⟩
end L2
namespace L2
open PySem PySem.Spec PyProof.Rows
noncomputable abbrev R2 := V → V → Hp → VK → Prop
noncomputable def OpR (X : Cx) (f : Value → Value → Sem Value) (r : R2) : Prop :=
  ∀ (pins : List (Addr × Obj)) (s : Shared) (σ : St) (H : Hp) (x y : V) (v u : Value) (Q : VK), Inv X pins σ H s → RelV x v → RelV y u → r x y H Q →
    wpAny (model X.prog X.w) X.A (f v u) (EP X pins σ Q) X.xe s
noncomputable def UnR (X : Cx) (f : Value → Sem Value) (r : V → Hp → VK → Prop) : Prop :=
  ∀ (pins : List (Addr × Obj)) (s : Shared) (σ : St) (H : Hp) (x : V) (v : Value) (Q : VK), Inv X pins σ H s → RelV x v → r x H Q →
    wpAny (model X.prog X.w) X.A (f v) (EP X pins σ Q) X.xe s
noncomputable def CallR (X : Cx) (f : Value) (r : List V → Hp → VK → Prop) : Prop :=
  ∀ (pins : List (Addr × Obj)) (s : Shared) (σ : St) (H : Hp) (xs : List V) (us : List Value) (Q : VK), Inv X pins σ H s → Vals xs us → r xs H Q →
    wpAny (model X.prog X.w) X.A (call f us) (EP X pins σ Q) X.xe s
noncomputable def TruR (X : Cx) (r : V → Hp → (Bool → Hp → Prop) → Prop) : Prop :=
  ∀ (pins : List (Addr × Obj)) (s : Shared) (σ : St) (H : Hp) (x : V) (v : Value) (Q : Bool → Hp → Prop), Inv X pins σ H s → RelV x v → r x H Q →
    wpAny (model X.prog X.w) X.A (truthy v) (TP X pins σ Q) X.xe s
noncomputable def tOp (r : R2) (ta tb : TE) : TE := fun σ H Q => ta σ H fun x H1 => tb σ H1 fun y H2 => r x y H2 Q
noncomputable def tUn (r : V → Hp → VK → Prop) (ta : TE) : TE := fun σ H Q => ta σ H fun x H1 => r x H1 Q
noncomputable def rI (C : Int → Int → Prop) (g : Int → Int → V) : R2 := fun x y H Q => ∃ i j, x = .int i ∧ y = .int j ∧ C i j ∧ Q (g i j) H
noncomputable def rI0 (g : Int → Int → V) : R2 := fun x y H Q => ∃ i j, x = .int i ∧ y = .int j ∧ Q (g i j) H
noncomputable def rU (g : Int → V) : V → Hp → VK → Prop := fun x H Q => ∃ i, x = .int i ∧ Q (g i) H
section
variable {X : Cx} {a b c : Expr} {ta tb tc : TE} {pos : Pos}
theorem binT (ha : PE X a ta) (hb : PE X b tb) {pins : List (Addr × Obj)} {s : Shared} {σ : St} {H : Hp} {R : V → V → Hp → Prop} (I : Inv X pins σ H s)
    (h : ta σ H fun x H1 => tb σ H1 fun y H2 => R x y H2) {Q : Value → Shared → Prop} {f : Value → Value → Sem Value}
    (hf : ∀ v u s2 x y H2, Inv X pins σ H2 s2 → RelV x v → RelV y u → R x y H2 → wpAny (model X.prog X.w) X.A (f v u) Q X.xe s2) :
    wpAny (model X.prog X.w) X.A (eval a X.env) (fun v s₁ => wpAny (model X.prog X.w) X.A (eval b X.env) (fun u s₂ => wpAny (model X.prog X.w) X.A (f v u) Q X.xe s₂) X.xe s₁) X.xe s := by
  refine thn (ha pins s σ H _ I h) fun v s1 ⟨x, H1, I1, r1, q1⟩ => ?_
  refine thn (hb pins s1 σ H1 _ I1 q1) fun u s2 ⟨y, H2, I2, r2, q2⟩ => ?_
  exact hf v u s2 x y H2 I2 r1 r2 q2
theorem pe_op {op : Operator} {r : R2} (ho : OpR X (binaryOp op) r) (ha : PE X a ta) (hb : PE X b tb) : PE X (.BinOp a op b pos) (tOp r ta tb) := by
  intro pins s σ H Q I h
  exact wpAny_BinOp (binT ha hb I h fun v u s2 x y H2 I2 rx ry q => ho pins s2 σ H2 x y v u Q I2 rx ry q)
theorem pe_un {op : UnaryOp} {r : V → Hp → VK → Prop} (ho : UnR X (unaryOp op) r) (ha : PE X a ta) : PE X (.UnaryOp op a pos) (tUn r ta) := by
  intro pins s σ H Q I h
  exact UnaryOp_ (thn (ha pins s σ H _ I h) fun v s1 ⟨x, H1, I1, r1, q1⟩ => ho pins s1 σ H1 x v Q I1 r1 q1)
theorem opI {f : Value → Value → Sem Value} {C : Int → Int → Prop} {g : Int → Int → Int}
    (rule : ∀ (i j : Int) (t u : Tok) (s : Shared) (Q : Value → Shared → Prop) (E : Value → Shared → Prop), C i j → Q (.int (g i j) s.toks) { s with toks := s.toks + 1 } → wpAny (model X.prog X.w) X.A (f (.int i t) (.int j u)) Q E s) :
    OpR X f (rI C fun i j => .int (g i j)) := by
  intro pins s σ H x y v u Q I rx ry h
  obtain ⟨i, j, rfl, rfl, hc, q⟩ := h
  obtain ⟨t, rfl⟩ := rx
  obtain ⟨t', rfl⟩ := ry
  exact rule i j t t' s _ _ hc ⟨.int (g i j), H, I.tok _, ⟨_, rfl⟩, q⟩
theorem opI0 {f : Value → Value → Sem Value} {g : Int → Int → Int}
    (rule : ∀ (i j : Int) (t u : Tok) (s : Shared) (Q : Value → Shared → Prop) (E : Value → Shared → Prop), Q (.int (g i j) s.toks) { s with toks := s.toks + 1 } → wpAny (model X.prog X.w) X.A (f (.int i t) (.int j u)) Q E s) :
    OpR X f (rI0 fun i j => .int (g i j)) := by
  intro pins s σ H x y v u Q I rx ry h
  obtain ⟨i, j, rfl, rfl, q⟩ := h
  obtain ⟨t, rfl⟩ := rx
  obtain ⟨t', rfl⟩ := ry
  exact rule i j t t' s _ _ ⟨.int (g i j), H, I.tok _, ⟨_, rfl⟩, q⟩
theorem opB0 {f : Value → Value → Sem Value} {g : Int → Int → Bool}
    (rule : ∀ (i j : Int) (t u : Tok) (s : Shared) (Q : Value → Shared → Prop) (E : Value → Shared → Prop), Q (.bool (g i j)) s → wpAny (model X.prog X.w) X.A (f (.int i t) (.int j u)) Q E s) :
    OpR X f (rI0 fun i j => .bl (g i j)) := by
  intro pins s σ H x y v u Q I rx ry h
  obtain ⟨i, j, rfl, rfl, q⟩ := h
  obtain ⟨t, rfl⟩ := rx
  obtain ⟨t', rfl⟩ := ry
  exact rule i j t t' s _ _ ⟨.bl (g i j), H, I, rfl, q⟩
noncomputable def CPow (i j : Int) : Prop := 0 ≤ j ∧ j ≤ 1000000 ∧ i.natAbs < 2 ^ 64
noncomputable def CMul (i j : Int) : Prop := (-(2 ^ 64) < i ∧ i < 2 ^ 64) ∨ (-(2 ^ 64) < j ∧ j < 2 ^ 64)
theorem CMul.ok {i j : Int} (h : CMul i j) : IntMulOk i j := by
  rcases h with ⟨h1, h2⟩ | ⟨h1, h2⟩
  · exact .of_left (intBits_le_64 h1 h2)
  · exact .of_right (intBits_le_64 h1 h2)
theorem op_add : OpR X (binaryOp .Add) (rI0 fun i j => .int (i + j)) := opI0 fun _ _ _ _ _ _ _ q => add_int q
theorem op_sub : OpR X (binaryOp .Sub) (rI0 fun i j => .int (i - j)) := opI0 fun _ _ _ _ _ _ _ q => sub_int q
theorem op_mod : OpR X (binaryOp .Mod) (rI (fun _ j => 0 < j) fun i j => .int (i % j)) := opI fun i j _ _ _ _ _ hc q => by
  have h1 : (0 : Int) < j := hc
  exact mod_int' (by omega) (by rw [Int.fmod_eq_emod_of_nonneg i (by omega)]; exact q)
theorem op_pow : OpR X (binaryOp .Pow) (rI CPow fun i j => .int (i ^ j.toNat)) := opI fun _ _ _ _ _ _ _ hc q => pow_int_small hc.1 hc.2.1 hc.2.2 q
theorem unI {f : Value → Sem Value} {g : Int → Int}
    (rule : ∀ (i : Int) (t : Tok) (s : Shared) (Q : Value → Shared → Prop) (E : Value → Shared → Prop), Q (.int (g i) s.toks) { s with toks := s.toks + 1 } → wpAny (model X.prog X.w) X.A (f (.int i t)) Q E s) :
    UnR X f (rU fun i => .int (g i)) := by
  intro pins s σ H x v Q I rx h
  obtain ⟨i, rfl, q⟩ := h
  obtain ⟨t, rfl⟩ := rx
  exact rule i t s _ _ ⟨.int (g i), H, I.tok _, ⟨_, rfl⟩, q⟩
theorem un_neg : UnR X (unaryOp .USub) (rU fun i => .int (-i)) := unI fun _ _ _ _ _ q => neg_int q
end
section
variable {X : Cx} {a b c : Expr} {ta tb tc : TE} {pos : Pos}
theorem fin_bl {pins : List (Addr × Obj)} {σ : St} {H : Hp} {s : Shared} {Q : VK} {k k' : Bool} (I : Inv X pins σ H s) (q : Q (.bl k) H) (e : k = k') : EP X pins σ Q (.bool k') s := by
  subst e
  exact ⟨.bl k, H, I, rfl, q⟩
theorem op_lt : OpR X (compareOp .Lt) (rI0 fun i j => .bl (decide (i < j))) := opB0 fun _ _ _ _ _ _ _ q => lt_int q
theorem op_gt : OpR X (compareOp .Gt) (rI0 fun i j => .bl (decide (j < i))) := opB0 fun _ _ _ _ _ _ _ q => gt_int q
theorem op_ge : OpR X (compareOp .GtE) (rI0 fun i j => .bl (decide (j ≤ i))) := opB0 fun _ _ _ _ _ _ _ q => ge_int q
theorem op_isN : OpR X (compareOp .Is) (fun x y H Q => y = .non ∧ Q (.bl (decide (x = .non))) H) := by
  intro pins s σ H x y v u Q I rx ry h
  obtain ⟨rfl, q⟩ := h
  cases ry
  refine is_none_gen (fin_bl I q ?_)
  cases x <;> first
    | (cases rx; rfl)
    | (obtain ⟨t, rfl⟩ := rx; rfl)
theorem op_notN : OpR X (compareOp .IsNot) (fun x y H Q => y = .non ∧ Q (.bl (!decide (x = .non))) H) := by
  intro pins s σ H x y v u Q I rx ry h
  obtain ⟨rfl, q⟩ := h
  cases ry
  refine isnot_none_gen (fin_bl I q ?_)
  cases x <;> first
    | (cases rx; rfl)
    | (obtain ⟨t, rfl⟩ := rx; rfl)
theorem OpR.or {f : Value → Value → Sem Value} {r r' : R2} (h : OpR X f r) (h' : OpR X f r') : OpR X f (fun x y H Q => r x y H Q ∨ r' x y H Q) := by
  intro pins s σ H x y v u Q I rx ry q
  rcases q with q | q
  · exact h pins s σ H x y v u Q I rx ry q
  · exact h' pins s σ H x y v u Q I rx ry q
theorem nomark (b : Expr) {op : CmpOp} (h : op ≠ .In := by decide) (h2 : op ≠ .NotIn := by decide) : behindInMarks op b = false := by
  have e1 : (op == CmpOp.In) = false := by cases op <;> first | rfl | exact absurd rfl h
  have e2 : (op == CmpOp.NotIn) = false := by cases op <;> first | rfl | exact absurd rfl h2
  cases b <;> simp [behindInMarks, e1, e2]
theorem pe_cmpR {op : CmpOp} {r : R2} (ho : OpR X (compareOp op) r) (ha : PE X a ta) (hb : PE X b tb) (hm : behindInMarks op b = false) : PE X (.Compare a [op] [b] pos) (tOp r ta tb) := by
  intro pins s σ H Q I h
  exact wpAny_Compare1 (binT ha hb I h fun v u s2 x y H2 I2 rx ry q => ho pins s2 σ H2 x y v u Q I2 rx ry q) hm
noncomputable def TruV (K : PySem.W.Frag) (x : V) (H : Hp) (k : Bool) : Prop :=
  match x with
  | .non => k = false
  | .bl b => k = b
  | .int i => k = (i != 0)
  | .str y => y.length ≤ sizeLine ∧ k = ((y.length : Int) != 0)
  | .byt y => y.size ≤ sizeLine ∧ k = ((y.size : Int) != 0)
  | .ref p => (∃ xs, SqL K H p xs ∧ k = !xs.isEmpty) ∨ (∃ xs, SqT K H p xs ∧ k = !xs.isEmpty) ∨ ∃ kvs, H p = some (.dK kvs) ∧ k = !kvs.isEmpty
  | _ => False
theorem isEmpty_kv {κ : Type} {kvs : List (κ × V)} {vs : List (κ × Value)} (r : KV kvs vs) : (!vs.isEmpty) = !kvs.isEmpty := by
  cases r <;> rfl
theorem isEmpty_of {xs : List V} {its : List Value} (r : Vals xs its) : (!its.toArray.isEmpty) = !xs.isEmpty := by
  cases r <;> simp
theorem line63 : (sizeLine : Nat) < 2 ^ 63 := by rw [sizeLine_eq]; decide
theorem tru_ok : TruR X (fun x H Q => ∃ k, TruV X.K x H k ∧ Q k H) := by
  intro pins s σ H x v Q I rx h
  obtain ⟨k, e, q⟩ := h
  have hl := line63
  have hs : sizeLine = 16777216 := sizeLine_eq
  cases x with
  | non =>
    cases rx
    have e' : k = false := e
    subst e'
    exact truthy_none ⟨H, I, q⟩
  | bl b =>
    cases rx
    have e' : k = b := e
    subst e'
    exact wpAny_truthy_bool ⟨H, I, q⟩
  | int i =>
    obtain ⟨t, rfl⟩ := rx
    have e' : k = (i != 0) := e
    subst e'
    exact PySem.P.truthy_int ⟨H, I, q⟩
  | str y =>
    obtain ⟨t, rfl⟩ := rx
    obtain ⟨hy, e'⟩ : y.length ≤ sizeLine ∧ k = ((y.length : Int) != 0) := e
    subst e'
    exact PySem.P.truthy_str (by omega) ⟨H, I.tok _, q⟩
  | byt y =>
    obtain ⟨t, rfl⟩ := rx
    obtain ⟨hy, e'⟩ : y.size ≤ sizeLine ∧ k = ((y.size : Int) != 0) := e
    subst e'
    exact PySem.W.truthy_bytes (by omega) ⟨H, I.tok _, q⟩
  | ref p =>
    cases rx
    have e' : (∃ xs, SqL X.K H p xs ∧ k = !xs.isEmpty) ∨ (∃ xs, SqT X.K H p xs ∧ k = !xs.isEmpty) ∨ ∃ kvs, H p = some (.dK kvs) ∧ k = !kvs.isEmpty := e
    rcases e' with ⟨xs, hx, e'⟩ | ⟨xs, hx, e'⟩ | ⟨kvs, hx, e'⟩
    · subst e'
      obtain ⟨its, r, pl, hz⟩ := I.list hx
      have hlen := r.length
      exact wpAny_truthy_list pl.isList (by simp only [List.size_toArray]; omega) ⟨H, I.tok _, by rw [isEmpty_of r]; exact q⟩
    · subst e'
      obtain ⟨its, r, pl, hz⟩ := I.tuple hx
      have hlen := r.length
      exact truthy_tuple pl (by simp only [List.size_toArray]; omega) ⟨H, I.tok _, by rw [isEmpty_of r]; exact q⟩
    · subst e'
      obtain ⟨hz, hS, vs, r, m⟩ : kvs.length ≤ sizeLine ∧ (p == sysModules) = false ∧ ∃ vs, KV kvs vs ∧ s.heap.DictOf (mixKind X.prog X.w) p vs := I.hok p _ hx
      have hlen : kvs.length = vs.length := Paired.length r
      exact wpAny_truthy_dict hS m (by omega) ⟨H, I.tok _, by rw [isEmpty_kv r]; exact q⟩
  | _ => exact (show False from e).elim
theorem pt_truth (ha : PE X a ta) (he : ∀ whole, isTrue a X.env whole = (do let v ← whole; standAt a.pos; holding [v] (truthy v))) :
    PT X a (fun σ H Q => ta σ H fun x H' => ∃ k, TruV X.K x H' k ∧ Q k H') := by
  intro pins s σ H Q I h
  exact isTrue_plain (thn (ha pins s σ H _ I h) fun v s1 ⟨x, H1, I1, r1, q1⟩ => tru_ok pins s1 σ H1 x v Q I1 r1 q1) (he _)
theorem vals1 {x : V} {us : List Value} (r : Vals [x] us) : ∃ u, us = [u] ∧ RelV x u := by
  cases r with
  | cons r1 r2 => cases r2; exact ⟨_, rfl, r1⟩
end
end L2
namespace L2
open PySem PySem.Spec PyProof.Rows
structure ObjM (h : Heap) (x dx C : Addr) (mA : Str → Option Value) : Prop where
  obj : h.get? x = some (PySem.W.instObj C dx)
  ns : h.Ns1 dx mA
  ne : dx ≠ x
section
variable {prog : Program} {w : World} {A : Around} {E : Value → Shared → Prop} {s : Shared} {K : PySem.W.Frag} {x dx C f : Addr} {mA : Str → Option Value} {name : Str} {v : Value}
end
noncomputable def putF (f : Str) (v : V) : List (Str × V) → List (Str × V)
  | [] => [(f, v)]
  | (g, x) :: r => if g = f then (g, v) :: r else (g, x) :: putF f v r
theorem RelO.none_of {o : Option Value} (r : RelO none o) : o = none := by
  cases o with
  | none => rfl
  | some u => exact (show False from r).elim
section
variable {P : Program} {w : World} {H H' : Hp} {h h' : Heap} {a C dx : Addr} {fs fs' : List (Str × V)}
end
structure Cls (K : PySem.W.Frag) (C : Addr) : Prop where
  pg : PySem.W.plainGet K C Str.empty = true
  hd : PySem.W.hasDictIn K C = true
  po : PySem.W.plainOver K C = true
  sa : PySem.W.findIn K (.ref C) "__setattr__" = some (some (.builtin "object.__setattr__"))
theorem Cls.get {K : PySem.W.Frag} {C : Addr} (c : Cls K C) (f : Str) : PySem.W.plainGet K C f = true := c.pg
structure Con (K : PySem.W.Frag) (C : Addr) (f : Str) (v : V) (u : Value) : Prop where
  at_ : PySem.W.findIn K (.ref C) f = some (some u)
  rel : RelV v u
  get : PySem.W.specialIn K u "__get__" = some none
  cp : PySem.W.copiedNames.contains f = false
structure Meth (K : PySem.W.Frag) (C : Addr) (m : Str) (f : Addr) : Prop where
  at_ : PySem.W.findIn K (.ref C) m = some (some (.ref f))
  fn : PySem.W.isFn K (.ref f) = true
  kp : PySem.W.keepIn K (.ref f) = true
section
variable {X : Cx} {pins : List (Addr × Obj)} {σ : St} {H : Hp} {s : Shared} {a C dx : Addr} {fs : List (Str × V)} {f : Str} {v : V} {A : Around} {E : Value → Shared → Prop}
end
section
variable {X : Cx} {o e value : Expr} {f : Str} {pos pos' tpos : Pos} {ta tv : TE}
end
section
variable {X : Cx} {pins : List (Addr × Obj)} {σ : St} {H : Hp} {s : Shared} {A : Around} {E : Value → Shared → Prop} {Q : Value → Shared → Prop} {c : Value} {b : Bool}
inductive TyOf (K : PySem.W.Frag) (H : Hp) : V → Value → Prop where
  | non : TyOf K H .non (.type "NoneType")
  | bl (x : Bool) : TyOf K H (.bl x) (.type "bool")
  | int (i : Int) : TyOf K H (.int i) (.type "int")
  | str (x : Str) : TyOf K H (.str x) (.type "str")
  | flt (x : UInt64) : TyOf K H (.flt x) (.type "float")
  | lst {a : Addr} {xs : List V} (e : H a = some (.lst xs)) : TyOf K H (.ref a) (.type "list")
  | frz {a : Addr} {o : Obj} {xs : List V} (e : H a = some (.frz o (.lst xs))) : TyOf K H (.ref a) (.type "list")
  | tup {a : Addr} {xs : List V} (e : H a = some (.tup xs)) : TyOf K H (.ref a) (.type "tuple")
  | dK {a : Addr} {kvs : List (Key × V)} (e : H a = some (.dK kvs)) : TyOf K H (.ref a) (.type "dict")
  | dT {a : Addr} {kvs : List (List Key × V)} (e : H a = some (.dT kvs)) : TyOf K H (.ref a) (.type "dict")
  | ins {a C dx : Addr} {fs : List (Str × V)} (e : H a = some (.ins C dx fs)) (cl : Cls K C) (ha : PySem.W.findIn K (.ref C) "__class__" = some (some (.builtin "object.__class__")))
      (hn : PySem.W.specialIn K (.builtin "object.__class__") "__get__" = some (some (.builtin "getset_descriptor.__get__"))) (htk : PySem.W.takesIn K (.builtin "object.__class__") = some true)
      (hm : PySem.W.mroIn K C (.type "object") = some true) : TyOf K H (.ref a) (.ref C)
end
end L2
namespace L2
open PySem PySem.Spec PyProof.Rows
structure Room (k : Nat) (A : Around) : Prop where
  hd : A.handled = none
  dp : A.depth + 3 * k + 5 < recursionLimit
  un : A.units + 16 * k + 200 < cLine
theorem Room.mono {j k : Nat} {A : Around} (r : Room k A) (h : j ≤ k) : Room j A := ⟨r.hd, by have := r.dp; omega, by have := r.un; omega⟩
theorem Room.deeper {k : Nat} {A : Around} (r : Room (k + 1) A) (env : Env) : Room k (A.deeper env) :=
  ⟨r.hd, by have := r.dp; show A.depth + 1 + 3 * k + 5 < _; omega, by have := r.un; show A.units + 3 + 16 * k + 200 < _; omega⟩
theorem Room.in1 {k : Nat} {A : Around} (r : Room (k + 1) A) : Room k A.in1 :=
  ⟨r.hd, by have := r.dp; show A.depth + 3 * k + 5 < _; omega, by have := r.un; show A.units + 1 + 16 * k + 200 < _; omega⟩
theorem make_depth {A : Around} {C : Addr} {us : List Value} {kw : List (Str × Value)} : (A.under (.builtin "type.__call__" ⟨.ref C :: us, kw⟩)).depth = A.depth + 1 := by
  first | rfl | simp [Around.under, Code.weight, Code.isCreation, Code.isGuard, Code.isCaller, Code.frames, Code.isFrame, guardIds]
theorem make_units {A : Around} {C : Addr} {us : List Value} {kw : List (Str × Value)} : (A.under (.builtin "type.__call__" ⟨.ref C :: us, kw⟩)).units = A.units + 1 := by
  first | rfl | simp [Around.under, Code.cUnits, Code.frames, Code.isFrame]
theorem Room.make {k : Nat} {A : Around} (r : Room (k + 1) A) (C : Addr) (us : List Value) (kw : List (Str × Value)) : Room k (A.under (.builtin "type.__call__" ⟨.ref C :: us, kw⟩)) :=
  ⟨r.hd, by have := r.dp; rw [make_depth]; omega, by have := r.un; rw [make_units]; omega⟩
theorem Room.depth {k : Nat} {A : Around} (r : Room k A) : A.depth < recursionLimit := by have := r.dp; omega
theorem Room.units {k : Nat} {A : Around} (r : Room k A) : A.units + 64 < cLine := by have := r.un; omega
noncomputable def tNil : TA := fun _ H Q => Q [] H
noncomputable def tCons (ta : TE) (tr : TA) : TA := fun σ H Q => ta σ H fun x H1 => tr σ H1 fun xs H2 => Q (x :: xs) H2
section
variable {X : Cx} {e : Expr} {es : List Expr} {te : TE} {t : TA} {pos : Pos}
theorem pa_nil : PA X [] tNil := fun _ _ _ _ H Q I h => Calls.spliced_nil ⟨[], H, I, .nil, h⟩
theorem pa_cons (ha : PE X e te) (hr : PA X es t) (hs : starEach (e :: es) X.env = (false, eval e X.env) :: starEach es X.env := by rfl) : PA X (e :: es) (tCons te t) := by
  intro pos pins s σ H Q I h
  rw [hs]
  show wpAny _ _ (spliced ((false, eval e X.env) :: backTo pos (starEach es X.env))) _ _ s
  refine Calls.spliced_cons (thn (ha pins s σ H _ I h) fun u s1 ⟨x, H1, I1, r1, q1⟩ => ?_)
  exact thn (hr pos pins s1 σ H1 _ I1 q1) fun us s2 ⟨xs, H2, I2, r2, q2⟩ => ⟨x :: xs, H2, I2, .cons r1 r2, q2⟩
noncomputable def tTup (t : TA) : TE := fun σ H Q => t σ H fun xs H1 => xs.length ≤ sizeLine ∧ ∀ p, H1 p = none → Q (.ref p) (upd H1 p (.tup xs))
noncomputable def tLst (t : TA) : TE := fun σ H Q => t σ H fun xs H1 => xs.length ≤ sizeLine ∧ ∀ p, H1 p = none → Q (.ref p) (upd H1 p (.lst xs))
theorem pe_tup {x1} (h : PA X es t) : PE X (.Tuple es x1 pos) (tTup t) := by
  intro pins s σ H Q I hq
  refine wpAny_Tuple_spliced (thn (h pos pins s σ H _ I hq) fun us s1 ⟨xs, H1, I1, r, z, q⟩ => ⟨by rw [← r.length]; exact z, ?_⟩)
  have hf : H1 s1.heap.objs.size = none := I1.hok.fresh (Nat.le_refl _)
  refine ⟨.ref s1.heap.objs.size, upd H1 s1.heap.objs.size (.tup xs), I1.laid (t' := s1.toks) (fun b u e => Heap.get?_push_of_some _ e) (Nat.le_refl _) ?_, rfl, q _ hf⟩
  exact ⟨z, us, r, ⟨_, Heap.get?_push_size _ rfl, rfl, _, rfl⟩⟩
theorem pe_lst (h : PA X es t) : PE X (.List es pos) (tLst t) := by
  intro pins s σ H Q I hq
  refine wpAny_List_spliced (thn (h pos pins s σ H _ I hq) fun us s1 ⟨xs, H1, I1, r, z, q⟩ => ⟨by rw [← r.length]; exact z, ?_⟩)
  have hf : H1 s1.heap.objs.size = none := I1.hok.fresh (Nat.le_refl _)
  refine ⟨.ref s1.heap.objs.size, upd H1 s1.heap.objs.size (.lst xs), I1.laid (t' := s1.toks) (fun b u e => Heap.get?_push_of_some _ e) (Nat.le_refl _) ?_, rfl, q _ hf⟩
  exact ⟨z, us, 0, r, Heap.get?_push_size _ rfl⟩
end
noncomputable abbrev Sp := List V → Hp → VK → XK → Prop
noncomputable abbrev CXT := List Env → Hp → Shared → XK → Value → Shared → Prop
structure Env0 (P : Program) (w : World) (K : PySem.W.Frag) (mg : Str → Option Value) (base : Heap) (A : Around) (outer : List Env) (s : Shared) (H : Hp) : Prop where
  frames : A.frames = some outer
  mod : Mod K mg base
  bs : ∀ b o, base.get? b = some o → s.heap.get? b = some o ∧ H b = none
  bsz : base.objs.size ≤ s.heap.objs.size
  funs : s.heap.FunFrames base outer
  frf : ∀ b ∈ frs outer, H b = none
  hok : HOk P w H s.heap
  bare : AllBare s.gens
noncomputable def CE (outer : List Env) (P : Program) (w : World) (H : Hp) (s : Shared) (Q : VK) (u : Value) (s' : Shared) : Prop :=
  ∃ v H', s'.os = s.os ∧ AllBare s'.gens ∧ Un (frs outer) [] H H' s.heap s'.heap ∧ HOk P w H' s'.heap ∧ RelV v u ∧ Q v H'
noncomputable def CR (CX : CXT) (outer : List Env) (P : Program) (w : World) (H : Hp) (s : Shared) (Q : VK) (E : XK) (r : Result) (s' : Shared) : Prop :=
  match r with
  | .ok (.ret u) => CE outer P w H s Q u s'
  | .ok _ => False
  | .error e => CX outer H s E e s'
structure FnOk (P : Program) (w : World) (K : PySem.W.Frag) (mg : Str → Option Value) (base : Heap) (CX : CXT) (k : Nat) (f : Addr) (fd : FuncData) (ps : List Str) (sp : Sp) : Prop where
  len : ∀ vs H Q E, sp vs H Q E → vs.length = ps.length
  run : ∀ (A : Around) (outer : List Env) (s : Shared) (H : Hp) (args : Args) (us : List Value) (vs : List V) (Q : VK) (E : XK), Room k A → Env0 P w K mg base A outer s H → BindsTo s fd args (ps.zip us) → Vals vs us → sp vs H Q E →
    codeAny (model P w) A (.call (.ref f) args) (CR CX outer P w H s Q E) s
theorem FnOk.mono {P : Program} {w : World} {K : PySem.W.Frag} {mg : Str → Option Value} {base : Heap} {CX : CXT} {j k : Nat} {f : Addr} {fd : FuncData} {ps : List Str} {sp : Sp} (F : FnOk P w K mg base CX j f fd ps sp) (h : j ≤ k) :
    FnOk P w K mg base CX k f fd ps sp := ⟨F.len, fun A outer s H args us vs Q E hr => F.run A outer s H args us vs Q E (hr.mono h)⟩
theorem FnOk.imp {P : Program} {w : World} {K : PySem.W.Frag} {mg : Str → Option Value} {base : Heap} {CX : CXT} {k : Nat} {f : Addr} {fd : FuncData} {ps : List Str} {sp sp' : Sp} (F : FnOk P w K mg base CX k f fd ps sp)
    (h : ∀ vs H Q E, sp' vs H Q E → sp vs H Q E) : FnOk P w K mg base CX k f fd ps sp' :=
  ⟨fun vs H Q E q => F.len vs H Q E (h _ _ _ _ q), fun A outer s H args us vs Q E hr he hb hv hs => F.run A outer s H args us vs Q E hr he hb hv (h _ _ _ _ hs)⟩
theorem Env0.make {P : Program} {w : World} {K : PySem.W.Frag} {mg : Str → Option Value} {base : Heap} {A : Around} {outer : List Env} {s : Shared} {H : Hp} (e : Env0 P w K mg base A outer s H) (C : Addr) (us : List Value) (kw : List (Str × Value)) :
    Env0 P w K mg base (A.under (.builtin "type.__call__" ⟨.ref C :: us, kw⟩)) outer s H := ⟨by first | exact e.frames | (simpa [Around.under, Code.envs, Code.isFrame, pushEnvs] using e.frames), e.mod, e.bs, e.bsz, e.funs, e.frf, e.hok, e.bare⟩
theorem Env0.in1 {P : Program} {w : World} {K : PySem.W.Frag} {mg : Str → Option Value} {base : Heap} {A : Around} {outer : List Env} {s : Shared} {H : Hp} (e : Env0 P w K mg base A outer s H) :
    Env0 P w K mg base A.in1 outer s H := ⟨e.frames, e.mod, e.bs, e.bsz, e.funs, e.frf, e.hok, e.bare⟩
section
variable {X : Cx} {pins : List (Addr × Obj)} {σ : St} {H : Hp} {s s' : Shared}
theorem Inv.env0 (I : Inv X pins σ H s) : Env0 X.prog X.w X.K X.mg X.base X.A X.stack s H :=
  ⟨I.ok.frames, I.ok.mod, I.bs, Nat.le_trans I.ok.bsz I.sz, I.stack, I.stkFree, I.hok, I.bare⟩
theorem Inv.after {Q : VK} {u : Value} (I : Inv X pins σ H s) (h : CE X.stack X.prog X.w H s Q u s') : EP X pins σ Q u s' := by
  obtain ⟨v, H', os, bare, un, hok, r, q⟩ := h
  obtain ⟨hh, g, d, t, os'⟩ := s'
  obtain rfl : os' = s.os := os
  exact ⟨v, H', I.call (h' := hh) (g' := g) (d' := d) (t' := t) (ch := []) un hok bare (fun b z => absurd z (by simp)), r, q⟩
end
noncomputable def tCall (sp : Sp) (dvs : List V) (E : XK) (t : TA) : TE := fun σ H Q => t σ H fun vs H1 => sp (vs ++ dvs) H1 Q E
noncomputable def Binds (K : PySem.W.Frag) (fd : FuncData) (ps : List Str) (ds : List Value) : Prop :=
  ∀ (s : Shared) (us : List Value), K.In s.heap → (us ++ ds).length = ps.length → BindsTo s fd ⟨us, []⟩ (ps.zip (us ++ ds))
theorem Binds.all {K : PySem.W.Frag} {fd : FuncData} {ps : List Str} (h : ∀ us : List Value, us.length = ps.length → bindArgs fd ⟨us, []⟩ = pure (ps.zip us)) : Binds K fd ps [] := fun s us _ hl => by
  rw [List.append_nil] at hl ⊢
  exact .of_eq (h us hl)
noncomputable def Passes (CX : CXT) (X : Cx) (E : XK) : Prop := ∀ (pins : List (Addr × Obj)) (σ : St) (H : Hp) (s : Shared) (e : Value) (s' : Shared), Inv X pins σ H s → CX X.stack H s E e s' → X.xe e s'
section
variable {X : Cx} {CX : CXT} {k : Nat} {f C : Addr} {fd : FuncData} {ps : List Str} {sp : Sp} {dvs : List V} {ds : List Value} {E : XK} {x m : Str} {p pos apos : Pos} {e o : Expr} {es : List Expr} {ta : TE} {t : TA}
theorem run_fn {pins : List (Addr × Obj)} {σ : St} {H : Hp} {s : Shared} {Q : VK} {us : List Value} {vs : List V} (F : FnOk X.prog X.w X.K X.mg X.base CX k f fd ps sp) (hr : Room k X.A) (hb : Binds X.K fd ps ds) (hd : Vals dvs ds) (hx : Passes CX X E)
    (I : Inv X pins σ H s) (r : Vals vs us) (h : sp (vs ++ dvs) H Q E) : wpAny (model X.prog X.w) X.A (call (.ref f) us) (EP X pins σ Q) X.xe s := by
  have r2 : Vals (vs ++ dvs) (us ++ ds) := r.append hd
  have hl : (us ++ ds).length = ps.length := by rw [← r2.length]; exact F.len _ _ _ _ h
  refine wpAny_call (codeAny_mono (F.run X.A X.stack s H ⟨us, []⟩ (us ++ ds) (vs ++ dvs) Q E hr I.env0 (hb s us I.kIn hl) r2 h) fun r s' hq => ?_)
  cases r with
  | error e => exact hx pins σ H s e s' I hq
  | ok fl =>
    cases fl with
    | ret u => exact I.after hq
    | next => exact False.elim hq
    | brk => exact False.elim hq
    | cont => exact False.elim hq
theorem pe_call (F : FnOk X.prog X.w X.K X.mg X.base CX k f fd ps sp) (hr : Room k X.A) (hg : Gl X x) (hm : X.mg x = some (.ref f)) (hk : PySem.W.keepIn X.K (.ref f) = true) (hb : Binds X.K fd ps ds) (hd : Vals dvs ds) (hx : Passes CX X E)
    (ha : PA X (e :: es) t) (hdb : (x == ("__debug__" : Str)) = false := by decide) (he : starEach (e :: es) X.env = (false, eval e X.env) :: starEach es X.env := by rfl) (hpl : (backTo pos (starEach es X.env)).any (·.1) = false := by rfl) :
    PE X (.Call (.Name x p) (e :: es) [] pos) (tCall sp dvs E t) := by
  intro pins s σ H Q I h
  refine wpAny_Call_Name_kw (ld_glob I hg hm ?_ hdb)
  refine PySem.W.callWith_K (h₀ := X.base) I.ok.mod.kin hk (thn (ha pos pins s σ H _ I h) fun us s1 ⟨vs, H1, I1, r, q⟩ => ⟨I1.kIn, ?_⟩) he hpl
  exact run_fn F hr hb hd hx I1 r q
structure Mk (K : PySem.W.Frag) (C f : Addr) : Prop where
  makes : PySem.W.makesIn K C = true
  init : PySem.W.findIn K (.ref C) "__init__" = some (some (.ref f))
  fn : PySem.W.isFn K (.ref f) = true
  kp : PySem.W.keepIn K (.ref C) = true
end
section
variable {X : Cx} {CX : CXT} {k : Nat} {f C : Addr} {fd : FuncData} {ps ks : List Str} {sp : Sp} {E : XK} {x m : Str} {p pos apos kpos : Pos} {e o : Expr} {es : List Expr} {kws : List Keyword} {te ta : TE} {t tk : TA} {nm : Option Str}
structure KBinds (K : PySem.W.Frag) (fd : FuncData) (ps ks : List Str) (g : List Value → List Value → List Value) (gV : List V → List V → List V) : Prop where
  to : ∀ (s : Shared) (us ws : List Value), K.In s.heap → (g us ws).length = ps.length → BindsTo s fd ⟨us, ks.zip ws⟩ (ps.zip (g us ws))
  rel : ∀ {vs : List V} {us : List Value} {zs : List V} {ws : List Value}, Vals vs us → Vals zs ws → Vals (gV vs zs) (g us ws)
variable {g : List Value → List Value → List Value} {gV : List V → List V → List V}
end
structure FnScope (N P : List Str) (sc : Scope) : Prop where
  kind : sc.kind = .function
  co : sc.isCoroutine = false
  gen : sc.isGenerator = false
  nd : N.Nodup
  pre : N.take P.length = P
  par : ∀ x ∈ P, sc.names.lookup x = some .local ∨ sc.names.lookup x = some .cell
  nofree : ∀ y ∈ sc.names, y.2 ≠ .free
theorem bindL_out {kindOf : Str → Option NameKind} {x : Str} : ∀ {binds : List (Str × Value)} {m : Str → Option Value}, (∀ v, (x, v) ∉ binds) → bindL kindOf binds m x = m x
  | [], _, _ => rfl
  | (n, v) :: r, m, h => by
    unfold bindL
    rw [bindL_out fun w hw => h w (List.mem_cons_of_mem _ hw)]
    split
    · have : x ≠ n := by rintro rfl; exact h v List.mem_cons_self
      simp [this]
    · rfl
theorem bindC_out {kindOf : Str → Option NameKind} {x : Str} : ∀ {binds : List (Str × Value)} {m : Str → Option Value}, (∀ v, (x, v) ∉ binds) → bindC kindOf binds m x = m x
  | [], _, _ => rfl
  | (n, v) :: r, m, h => by
    unfold bindC
    rw [bindC_out fun w hw => h w (List.mem_cons_of_mem _ hw)]
    split
    · rfl
    · have : x ≠ n := by rintro rfl; exact h v List.mem_cons_self
      simp [this]
theorem bindL_get {kindOf : Str → Option NameKind} {x : Str} {v : Value} : ∀ {P : List Str} {vs : List Value} {i : Nat} {m : Str → Option Value}, P.Nodup → P[i]? = some x → vs[i]? = some v → kindOf x = some .local →
    bindL kindOf (P.zip vs) m x = some v
  | [], _, _, _, _, h, _, _ => by simp at h
  | _ :: _, [], _, _, _, _, h, _ => by simp at h
  | p :: P, w :: vs, 0, m, nd, h1, h2, hk => by
    simp at h1 h2; subst h1; subst h2
    show bindL kindOf ((p, w) :: P.zip vs) m p = _
    unfold bindL
    rw [bindL_out fun v hv => (List.nodup_cons.mp nd).1 (List.of_mem_zip hv).1, if_pos hk]
    simp
  | p :: P, w :: vs, i + 1, m, nd, h1, h2, hk => by
    show bindL kindOf ((p, w) :: P.zip vs) m x = _
    unfold bindL
    exact bindL_get (i := i) (List.nodup_cons.mp nd).2 (by simpa using h1) (by simpa using h2) hk
theorem bindC_get {kindOf : Str → Option NameKind} {x : Str} {v : Value} : ∀ {P : List Str} {vs : List Value} {i : Nat} {m : Str → Option Value}, P.Nodup → P[i]? = some x → vs[i]? = some v → kindOf x ≠ some .local →
    bindC kindOf (P.zip vs) m x = some v
  | [], _, _, _, _, h, _, _ => by simp at h
  | _ :: _, [], _, _, _, _, h, _ => by simp at h
  | p :: P, w :: vs, 0, m, nd, h1, h2, hk => by
    simp at h1 h2; subst h1; subst h2
    show bindC kindOf ((p, w) :: P.zip vs) m p = _
    unfold bindC
    rw [bindC_out fun v hv => (List.nodup_cons.mp nd).1 (List.of_mem_zip hv).1, if_neg hk]
    simp
  | p :: P, w :: vs, i + 1, m, nd, h1, h2, hk => by
    show bindC kindOf ((p, w) :: P.zip vs) m x = _
    unfold bindC
    exact bindC_get (i := i) (List.nodup_cons.mp nd).2 (by simpa using h1) (by simpa using h2) hk
noncomputable def start (N : List Str) (vs : List V) : St := vs.map some ++ List.replicate (N.length - vs.length) none
noncomputable def cxOf (CX : CXT) (P : Program) (w : World) (K : PySem.W.Frag) (mg : Str → Option Value) (base : Heap) (N : List Str) (qual : Str) (scope : Scope) (f : Addr) (cd : Value) (A : Around) (outer : List Env) (s : Shared) (H : Hp) (E : XK) : Cx where
  prog := P
  w := w
  K := K
  mg := mg
  base := base
  A := A.deeper (envOfC qual scope s.heap.objs.size f cd)
  N := N
  s₀ := s
  H₀ := H
  env := envOfC qual scope s.heap.objs.size f cd
  outer := outer
  stack := envOfC qual scope s.heap.objs.size f cd :: outer
  ex := []
  calm := true
  fn := fun _ => true
  pn := []
  xe := fun e s' => wpAny (model P w) (A.deeper (envOfC qual scope s.heap.objs.size f cd)) (leaving (envOfC qual scope s.heap.objs.size f cd) e) (fun _ s'' => CX outer H s E e s'') (fun e' s'' => CX outer H s E e' s'') s'
theorem cell_has {sc : Scope} {n : Nat} {x : Str} (h : sc.names.lookup x = some .cell) : ∃ c, (cellsFrom n sc.names []).lookup x = some c := by
  have q := PySem.W.cellsFrom_some sc.names n [] (.inl h)
  exact Option.isSome_iff_exists.mp q
theorem inv_start {CX : CXT} {P : Program} {w : World} {K : PySem.W.Frag} {mg : Str → Option Value} {base : Heap} {N ps : List Str} {qual : Str} {scope : Scope} {f : Addr} {cd : Value} {A : Around} {outer : List Env} {s s1 : Shared} {H : Hp} {E : XK} {us : List Value} {vs : List V}
    (S : FnScope N ps scope) (hd : A.handled = none) (e0 : Env0 P w K mg base A outer s H) (hl : vs.length = ps.length) (r : Vals vs us)
    (x : InCallC s s.heap.objs.size (bindL (envOfC qual scope s.heap.objs.size f cd).kindOf (ps.zip us) fun _ => none) (cellsFrom (s.heap.objs.size + 1) scope.names []) (bindC (envOfC qual scope s.heap.objs.size f cd).kindOf (ps.zip us) fun _ => none) s1) :
    Inv (cxOf CX P w K mg base N qual scope f cd A outer s H E) [] (start N vs) H s1 := by
  have hpl : ps.length ≤ N.length := by have := congrArg List.length S.pre; rw [List.length_take] at this; omega
  obtain ⟨h1, tk, rfl, hk⟩ := x.done
  have noA : ∀ b : Addr, b ∉ (cxOf CX P w K mg base N qual scope f cd A outer s H E).ex := fun b z => absurd (show b ∈ ([] : List Addr) from z) (by simp)
  refine ⟨⟨e0.mod, S.kind, rfl, rfl, Nat.le_refl _, fun y z c h1 h2 => ?_, fun y hy => ?_, fun y c _ h => ?_, fun _ => hd, Around.frames_deeper e0.frames, .inr ⟨rfl, rfl⟩, fun b z => absurd z (noA b), e0.bs, e0.bsz, fun b _ _ => noA b, fun b z => absurd z (noA b), e0.funs, e0.frf⟩,
    rfl, e0.bare, Un.kept hk, ⟨_, x.toInCall.ns, fun i y v h1 h2 h3 => ?_⟩, fun y c h => ⟨_, x.cell y c h⟩, e0.hok.fresh (Nat.le_refl _), fun y c h => ?_, fun p hp => absurd (show p ∈ ([] : List (Addr × Obj)) from hp) (by simp), e0.hok.kept hk, ?_⟩
  · exact name_of_addr x.apart (PySem.mem_of_lookup h1) (PySem.mem_of_lookup h2)
  · have hy : scope.names.lookup y = some .cell ∨ scope.names.lookup y = some .free := hy
    rcases hy with hy | hy
    · exact cell_has hy
    · exact absurd rfl (S.nofree _ (PySem.mem_of_lookup hy))
  · exact Nat.le_of_lt (x.above y c (PySem.mem_of_lookup h))
  · have hi : i < vs.length := by
      unfold start at h2
      by_cases hi : i < vs.length
      · exact hi
      · rw [List.getElem?_append_right (by simpa using hi)] at h2
        rw [List.getElem?_replicate] at h2
        split at h2 <;> cases h2
    have ha : vs[i]? = some v := by
      unfold start at h2
      rw [List.getElem?_append_left (by simpa using hi), List.getElem?_map] at h2
      cases e : vs[i]? with
      | none => rw [e] at h2; cases h2
      | some a => rw [e] at h2; cases h2; rfl
    obtain ⟨u, hu, rv⟩ := r.get ha
    have hp : ps[i]? = some y := by
      rw [← S.pre, List.getElem?_take_of_lt (by omega)]; exact h1
    have ndP : ps.Nodup := by rw [← S.pre]; exact S.nd.sublist (List.take_sublist _ _)
    refine ⟨u, rv, ?_⟩
    rcases S.par y (List.mem_of_getElem? hp) with k | k
    · exact .inl ⟨k, bindL_get ndP hp hu k⟩
    · obtain ⟨c, e⟩ := cell_has (n := s.heap.objs.size + 1) k
      refine .inr ⟨.inl k, c, e, ?_⟩
      have q := x.cell y c e
      rw [bindC_get ndP hp hu (by show scope.names.lookup y ≠ _; rw [k]; decide)] at q
      exact q
  · exact e0.hok.fresh (Nat.le_of_lt (x.above y c (PySem.mem_of_lookup h)))
  · unfold start
    show _ = N.length
    rw [List.length_append, List.length_map, List.length_replicate]
    omega
theorem fn_of {CX : CXT} {P : Program} {w : World} {K : PySem.W.Frag} {mg : Str → Option Value} {base : Heap} {k : Nat} {f : Addr} {name qual : Str} {params : Arguments} {body : List Stmt} {scope : Scope} {dV kV doc pm cdv ct oc : Value} {an od : Option Addr}
    {osl : Array (Option Value)} {N ps : List Str} {sp : Sp} (lk : K.lookup f = some ⟨oc, od, .func (PySem.W.fnOf name qual params body scope dV kV doc pm an cdv ct), osl⟩) (hcd : PySem.W.codeIn K cdv qual = true) (S : FnScope N ps scope)
    (len : ∀ vs H Q E, sp vs H Q E → vs.length = ps.length)
    (hbody : ∀ (A : Around) (outer : List Env) (s : Shared) (H : Hp) (vs : List V) (Q : VK) (E : XK), Room k (A.deeper (envOfC qual scope s.heap.objs.size f cdv)) → sp vs H Q E →
      ∃ t, PSs (cxOf CX P w K mg base N qual scope f cdv A outer s H E) body t ∧ t { nx := fun _ H' => Q .non H', rt := Q } (start N vs) H) :
    FnOk P w K mg base CX (k + 1) f (PySem.W.fnOf name qual params body scope dV kV doc pm an cdv ct) ps sp := by
  refine ⟨len, fun A outer s H args us vs Q E hr e0 hb r hsp => ?_⟩
  have hl := len _ _ _ _ hsp
  have KX : K.In s.heap := e0.mod.kin.keeps fun b o e => (e0.bs b o e).1
  have lim : s.heap.NoLimit := e0.mod.nolimit.keeps fun b o e => (e0.bs b o e).1
  have hkind : ∀ y ∈ ps.zip us, scope.names.lookup y.1 = some .local ∨ (scope.names.lookup y.1 = some .cell ∧ ((cellsFrom (s.heap.objs.size + 1) scope.names []).lookup y.1).isSome = true) := fun ⟨n, v⟩ hy => by
    rcases S.par n (List.of_mem_zip hy).1 with q | q
    · exact .inl q
    · exact .inr ⟨q, PySem.W.cellsFrom_some _ _ _ (.inl q)⟩
  refine codeAny_call_function hr.depth (KX _ _ lk) rfl S.co S.gen rfl (PySem.W.codeRec_of KX hcd) (hb _ _ _ _ ?_)
  refine wpAny_newFunctionEnv_cells S.kind hkind fun env he s1 x => ?_
  subst he
  refine ⟨lim.keeps x.toInCall.keep, codeAny_func ?_⟩
  obtain ⟨t, ht, hq⟩ := hbody A outer s H vs Q E (hr.deeper _) hsp
  have I : Inv (cxOf CX P w K mg base N qual scope f cdv A outer s H E) [] (start N vs) H s1 := inv_start S hr.hd e0 hl r x
  refine wpAny_mono (ht [] s1 (start N vs) H _ I hq) (fun fl s' hs => ?_) fun e s' hs => hs
  have fin : ∀ {σ' : St} {H' : Hp} {v : V} {u : Value}, Inv (cxOf CX P w K mg base N qual scope f cdv A outer s H E) [] σ' H' s' → RelV v u → Q v H' → CE outer P w H s Q u s' :=
    fun {σ' H' v u} J rv q => ⟨v, H', J.os, J.bare, J.base, J.hok, rv, q⟩
  cases fl with
  | ret u =>
    obtain ⟨v, σ', H', J, rv, q⟩ := hs
    exact fin J rv q
  | next =>
    obtain ⟨σ', H', J, q⟩ := hs
    exact fin (v := V.non) (u := Value.none) J rfl q
  | brk =>
    obtain ⟨_, _, _, q⟩ := hs
    exact False.elim q
  | cont =>
    obtain ⟨_, _, _, q⟩ := hs
    exact False.elim q
end L2
namespace L2
open PySem PySem.Spec PyProof.Rows
section
variable {X : Cx} {x : Str} {p pos : Pos} {e : Expr} {es : List Expr} {t : TA} {id T : String} {r : List V → Hp → VK → Prop}
noncomputable def tCB (r : List V → Hp → VK → Prop) (t : TA) : TE := fun σ H Q => t σ H fun vs H1 => r vs H1 Q
theorem pe_callB (hc : CallR X (.builtin id) r) (hg : Gl X x) (hm : X.mg x = none) (hv : bootBuiltins x = some (.builtin id)) (ha : PA X (e :: es) t) (hn : x ≠ "__name__" := by decide) (hdb : (x == ("__debug__" : Str)) = false := by decide)
    (he : starEach (e :: es) X.env = (false, eval e X.env) :: starEach es X.env := by rfl) (hpl : (backTo pos (starEach es X.env)).any (·.1) = false := by rfl) : PE X (.Call (.Name x p) (e :: es) [] pos) (tCB r t) := by
  intro pins s σ H Q I h
  refine wpAny_Call_Name_kw (ld_blt I hg hm hv ?_ hn hdb)
  exact PyProof.Rows.callWith_builtin1 (thn (ha pos pins s σ H _ I h) fun us s1 ⟨vs, H1, I1, r1, q1⟩ => hc pins s1 σ H1 vs us Q I1 r1 q1) he hpl
theorem pe_callTy (hc : CallR X (.type T) r) (hg : Gl X x) (hm : X.mg x = none) (hv : bootBuiltins x = some (.type T)) (ha : PA X (e :: es) t) (hn : x ≠ "__name__" := by decide) (hdb : (x == ("__debug__" : Str)) = false := by decide)
    (he : starEach (e :: es) X.env = (false, eval e X.env) :: starEach es X.env := by rfl) (hpl : (backTo pos (starEach es X.env)).any (·.1) = false := by rfl) : PE X (.Call (.Name x p) (e :: es) [] pos) (tCB r t) := by
  intro pins s σ H Q I h
  refine wpAny_Call_Name_kw (ld_blt I hg hm hv ?_ hn hdb)
  exact PyProof.Rows.callWith_type1 (thn (ha pos pins s σ H _ I h) fun us s1 ⟨vs, H1, I1, r1, q1⟩ => hc pins s1 σ H1 vs us Q I1 r1 q1) he hpl
end
end L2
namespace HT
open PySem PyProof.Rows
section
open PySem.SeqAt
open PySem.AutoSeq1 (wpAny_loadPart')
open PySem.MeetsSeq PySem.MeetsSeq2 PySem.MeetsSeq3
end
section
variable {prog : Program} {w : World} {A : Around} {E : Value → Shared → Prop} {s : Shared}
noncomputable def sIx (n d : Nat) : Option Int → Nat
  | none => d
  | some v => if v < 0 then (v + (n : Int)).toNat else min v.toNat n
end
end HT
namespace L2
open PySem PySem.Spec PyProof.Rows
noncomputable abbrev TO := St → Hp → (Option Int → Hp → Prop) → Prop
noncomputable def PO (X : Cx) (e : Option Expr) (t : TO) : Prop :=
  ∀ (pins : List (Addr × Obj)) (s : Shared) (σ : St) (H : Hp) (Q : Option Int → Hp → Prop), Inv X pins σ H s → t σ H Q →
    wpAny (model X.prog X.w) X.A (evalPart e X.env) (fun u s' => ∃ o H', Inv X pins σ H' s' ∧ IsPart u o ∧ Q o H') X.xe s
noncomputable def tPart (t : TE) : TO := fun σ H Q => t σ H fun x H1 => ∃ i, x = .int i ∧ Q (some i) H1
section
variable {X : Cx} {e : Expr} {te : TE} {lo hi : Option Expr} {tl th : TO} {pos p2 : Pos}
theorem po_some (h : PE X e te) : PO X (some e) (tPart te) := by
  intro pins s σ H Q I hw
  rw [evalPart_some]
  refine thn (h pins s σ H _ I hw) fun u s1 ⟨x, H1, I1, r1, q1⟩ => ?_
  obtain ⟨i, rfl, q⟩ := q1
  obtain ⟨t, rfl⟩ := r1
  exact ⟨some i, H1, I1, .int i t, q⟩
noncomputable def SlR (X : Cx) (r : V → Option Int → Option Int → Hp → VK → Prop) : Prop :=
  ∀ (pins : List (Addr × Obj)) (s : Shared) (σ : St) (H : Hp) (x : V) (v vl vu : Value) (lo hi : Option Int) (sl : Addr) (Q : VK), Inv X pins σ H s → RelV x v → s.heap.IsSliceOf sl vl vu .none → IsPart vl lo → IsPart vu hi → r x lo hi H Q →
    ∃ T id, typeLookup (.type T) "__getitem__" = pure (some (.builtin id)) ∧ s.TypeIs v T ∧ wpAny (model X.prog X.w) X.A (getItem v (.ref sl)) (EP X pins σ Q) X.xe s
theorem SlR.or {r r' : V → Option Int → Option Int → Hp → VK → Prop} (h : SlR X r) (h' : SlR X r') : SlR X (fun x lo hi H Q => r x lo hi H Q ∨ r' x lo hi H Q) := by
  intro pins s σ H x v vl vu lo hi sl Q I rx hs pl pu q
  rcases q with q | q
  · exact h pins s σ H x v vl vu lo hi sl Q I rx hs pl pu q
  · exact h' pins s σ H x v vl vu lo hi sl Q I rx hs pl pu q
noncomputable def tSl (r : V → Option Int → Option Int → Hp → VK → Prop) (te : TE) (tl th : TO) : TE := fun σ H Q => te σ H fun x H1 => tl σ H1 fun l H2 => th σ H2 fun u H3 => r x l u H3 Q
theorem pe_slice {r : V → Option Int → Option Int → Hp → VK → Prop} (hr : SlR X r) (he : PE X e te) (hl : PO X lo tl) (hu : PO X hi th) : PE X (.Subscript e (.Slice lo hi none p2) pos) (tSl r te tl th) := by
  intro pins s σ H Q I h
  refine Subscript_ (thn (he pins s σ H _ I h) fun v s1 ⟨x, H1, I1, r1, q1⟩ => ?_)
  refine wpAny_Slice (thn (hl pins s1 σ H1 _ I1 q1) fun vl s2 ⟨l, H2, I2, pl, q2⟩ => thn (hu pins s2 σ H2 _ I2 q2) fun vu s3 ⟨u, H3, I3, pu, q3⟩ => ?_)
  rw [evalPart_none]
  refine wpAny_pure ?_
  have I4 : Inv X pins σ H3 { s3 with heap := s3.heap.push { cls := .type "slice", data := .fields #[vl, vu, .none] } } := I3.kept (t' := s3.toks) fun b ob q => Heap.get?_push_of_some _ q
  obtain ⟨T, id, hT, ht, hg⟩ := hr pins { s3 with heap := s3.heap.push { cls := .type "slice", data := .fields #[vl, vu, .none] } } σ H3 x v vl vu l u s3.heap.objs.size Q I4 r1 (Heap.IsSliceOf.new ..) pl pu q3
  show wpAny (model X.prog X.w) X.A (subscriptTail e (.Slice lo hi none p2) v (.ref s3.heap.objs.size)) (EP X pins σ Q) X.xe { s3 with heap := s3.heap.push { cls := .type "slice", data := .fields #[vl, vu, .none] } }
  exact tail_any (ops := [.ref s3.heap.objs.size, v]) ht hT hg (by with_unfolding_all rfl)
noncomputable def cutV (xs : List V) (lo hi : Option Int) : List V := (xs.drop (HT.sIx xs.length 0 lo)).take (HT.sIx xs.length xs.length hi - HT.sIx xs.length 0 lo)
theorem cutV_length (xs : List V) (lo hi : Option Int) : (cutV xs lo hi).length ≤ xs.length := by
  unfold cutV
  rw [List.length_take, List.length_drop]
  omega
end
end L2
namespace L2
open PySem PySem.Spec PyProof.Rows
noncomputable def ixN (n : Nat) (i : Int) : Option Nat := if 0 ≤ i then (if i < n then some i.toNat else none) else if -(n : Int) ≤ i then some (i + n).toNat else none
noncomputable def atI {α : Type} (xs : List α) (i : Int) : Option α := (ixN xs.length i).bind fun j => xs[j]?
theorem ixN_seq {n : Nat} {i : Int} {j : Nat} (h : ixN n i = some j) : seqIndex? i n = some j ∧ j < n ∧ -(n : Int) ≤ i ∧ i < n := by
  unfold ixN at h
  by_cases h0 : 0 ≤ i
  · rw [if_pos h0] at h
    by_cases h1 : i < n
    · rw [if_pos h1] at h
      have e : i.toNat = j := Option.some.inj h
      exact ⟨by rw [seqIndex_of h0 h1, e], by omega, by omega, h1⟩
    · rw [if_neg h1] at h; cases h
  · rw [if_neg h0] at h
    by_cases h1 : -(n : Int) ≤ i
    · rw [if_pos h1] at h
      have e : (i + n).toNat = j := Option.some.inj h
      exact ⟨by rw [seqIndex_neg (by omega) h1, e], by omega, h1, by omega⟩
    · rw [if_neg h1] at h; cases h
theorem atI_get {α : Type} {xs : List α} {i : Int} {v : α} (h : atI xs i = some v) : ∃ j, seqIndex? i xs.length = some j ∧ xs[j]? = some v ∧ j < xs.length ∧ -(xs.length : Int) ≤ i ∧ i < xs.length := by
  unfold atI at h
  cases e : ixN xs.length i with
  | none => rw [e] at h; cases h
  | some j =>
    rw [e] at h
    obtain ⟨h1, h2, h3, h4⟩ := ixN_seq e
    exact ⟨j, h1, h, h2, h3, h4⟩
theorem atI_nat {α : Type} {xs : List α} {j : Nat} {v : α} (h : xs[j]? = some v) : atI xs (j : Int) = some v := by
  have hj : j < xs.length := (List.getElem?_eq_some_iff.mp h).1
  have e : ixN xs.length (j : Int) = some j := by
    unfold ixN
    rw [if_pos (by omega), if_pos (by omega)]; simp
  unfold atI; rw [e]; exact h
theorem atI_last {α : Type} (xs : List α) (v : α) : atI (xs ++ [v]) (-1) = some v := by
  have hl : (xs ++ [v]).length = xs.length + 1 := by simp
  have e : ixN (xs ++ [v]).length (-1) = some xs.length := by
    unfold ixN
    rw [hl, if_neg (by decide), if_pos (by omega)]
    congr 1
    omega
  unfold atI
  rw [e]
  show (xs ++ [v])[xs.length]? = some v
  simp
noncomputable def PlainIx (b : Expr) : Prop := ∀ o i, subscripted b false o i = operate [o, i] (getItem o i)
noncomputable def IxR (X : Cx) (r : R2) : Prop :=
  ∀ (value slice : Expr) (pins : List (Addr × Obj)) (s : Shared) (σ : St) (H : Hp) (x y : V) (v u : Value) (Q : VK), Inv X pins σ H s → RelV x v → RelV y u → r x y H Q →
    subscripted slice false v u = operate [v, u] (getItem v u) → wpAny (model X.prog X.w) X.A (subscriptTail value slice v u) (EP X pins σ Q) X.xe s
noncomputable def MtR (X : Cx) (id : String) (r : V → List V → Hp → VK → Prop) : Prop :=
  ∀ (pins : List (Addr × Obj)) (s : Shared) (σ : St) (H : Hp) (x : V) (xs : List V) (v : Value) (us : List Value) (Q : VK), Inv X pins σ H s → RelV x v → Vals xs us → r x xs H Q →
    wpAny (model X.prog X.w) X.A (call (.builtin id) (v :: us)) (EP X pins σ Q) X.xe s
section
variable {X : Cx} {a b : Expr} {ta tb : TE} {pos : Pos}
theorem IxR.or {r r' : R2} (h : IxR X r) (h' : IxR X r') : IxR X (fun x y H Q => r x y H Q ∨ r' x y H Q) := by
  intro value slice pins s σ H x y v u Q I rx ry q hs
  rcases q with q | q
  · exact h value slice pins s σ H x y v u Q I rx ry q hs
  · exact h' value slice pins s σ H x y v u Q I rx ry q hs
theorem MtR.or {id : String} {r r' : V → List V → Hp → VK → Prop} (h : MtR X id r) (h' : MtR X id r') : MtR X id (fun x xs H Q => r x xs H Q ∨ r' x xs H Q) := by
  intro pins s σ H x xs v us Q I rx rs q
  rcases q with q | q
  · exact h pins s σ H x xs v us Q I rx rs q
  · exact h' pins s σ H x xs v us Q I rx rs q
theorem pe_ix {r : R2} (hr : IxR X r) (ha : PE X a ta) (hb : PE X b tb) (hs : PlainIx b) : PE X (.Subscript a b pos) (tOp r ta tb) := by
  intro pins s σ H Q I h
  exact Subscript_ (binT ha hb I h fun v u s2 x y H2 I2 rx ry q => hr a b pins s2 σ H2 x y v u Q I2 rx ry q (hs _ _))
noncomputable def rIxL (K : PySem.W.Frag) : R2 := fun x y H Q => ∃ p xs i v, x = .ref p ∧ y = .int i ∧ SqL K H p xs ∧ atI xs i = some v ∧ Q v H
noncomputable def rIxT (K : PySem.W.Frag) : R2 := fun x y H Q => ∃ p xs i v, x = .ref p ∧ y = .int i ∧ SqT K H p xs ∧ atI xs i = some v ∧ Q v H
theorem ix_list : IxR X (rIxL X.K) := by
  intro value slice pins s σ H x y v u Q I rx ry h hs
  obtain ⟨p, xs, i, z, rfl, rfl, hq, he, q⟩ := h
  cases rx
  obtain ⟨t, rfl⟩ := ry
  obtain ⟨its, r, pl, hz⟩ := I.list hq
  obtain ⟨j, h1, h2, h3, h4, h5⟩ := atI_get he
  obtain ⟨w, ew, rw'⟩ := r.get h2
  have hl := r.length
  have hn := line63
  have fin : EP X pins σ Q w s := ⟨z, H, I, rw', q⟩
  by_cases h0 : 0 ≤ i
  · have hj : i.toNat = j := by
      rw [seqIndex_of h0 h5] at h1
      exact Option.some.inj h1
    exact item_listR pl.isList h0 (by omega) (by rw [hj]; simpa using ew) fin hs
  · have hj : (i + (its.toArray.size : Int)).toNat = j := by
      rw [seqIndex_neg (by omega) h4] at h1
      rw [List.size_toArray, ← hl]
      exact Option.some.inj h1
    exact subscriptTail_builtinR (x := w) pl.isList.typeIs slot_list_getitem.lookup
      (wpAny_getItem_list_neg (Q := fun r s' => r = w ∧ EP X pins σ Q r s') pl.isList (by omega) (by rw [List.size_toArray] <;> omega) (by omega) (by rw [hj]; simpa using ew) ⟨rfl, fin⟩) hs
theorem ix_tup : IxR X (rIxT X.K) := by
  intro value slice pins s σ H x y v u Q I rx ry h hs
  obtain ⟨p, xs, i, z, rfl, rfl, hq, he, q⟩ := h
  cases rx
  obtain ⟨t, rfl⟩ := ry
  obtain ⟨its, r, pl, hz⟩ := I.tuple hq
  obtain ⟨j, h1, h2, h3, h4, h5⟩ := atI_get he
  obtain ⟨w, ew, rw'⟩ := r.get h2
  have hl := r.length
  have hn := line63
  have fin : EP X pins σ Q w s := ⟨z, H, I, rw', q⟩
  exact subscriptTail_builtinR (x := w) pl.typeIs slot_tuple_getitem.lookup
    (getItem_tuple (j := j) (Q := fun r s' => r = w ∧ EP X pins σ Q r s') pl (by omega) (by omega) (by rw [List.size_toArray, ← hl]; exact h1) (by simpa using ew) ⟨rfl, fin⟩) hs
theorem mapSeq_set (its : List Value) (n j : Nat) (u : Value) : Obj.mapSeq (·.setIfInBounds j u) { cls := .type "list", data := .seq its.toArray n } = { cls := .type "list", data := .seq (its.set j u).toArray n } := by
  simp [Obj.mapSeq]
theorem Inv.lst {pins : List (Addr × Obj)} {σ : St} {H : Hp} {s : Shared} {p : Addr} {xs : List V} (I : Inv X pins σ H s) (h : H p = some (.lst xs)) :
    ∃ (its : List Value) (n : Nat), Vals xs its ∧ s.heap.get? p = some { cls := .type "list", data := .seq its.toArray n } ∧ xs.length ≤ sizeLine := by
  obtain ⟨z, its, n, r, e⟩ := I.hok p _ h
  exact ⟨its, n, r, e, z⟩
theorem Inv.lstUpd {pins : List (Addr × Obj)} {σ : St} {H : Hp} {s : Shared} {p : Addr} {xs ys : List V} {its its' : List Value} {n n' : Nat} {f : Obj → Obj} (I : Inv X pins σ H s) (h : H p = some (.lst xs))
    (ho : s.heap.get? p = some { cls := .type "list", data := .seq its.toArray n }) (hf : f { cls := .type "list", data := .seq its.toArray n } = { cls := .type "list", data := .seq its'.toArray n' }) (r : Vals ys its') (hz : ys.length ≤ sizeLine) (t : Nat) :
    Inv X pins σ (upd H p (.lst ys)) { s with heap := s.heap.update p f, toks := t } := by
  have e : (s.heap.update p f).get? p = some { cls := .type "list", data := .seq its'.toArray n' } := by
    rw [Heap.get?_update_self f ho (by rw [hf] <;> rfl), hf]
  refine I.write (x := p) (e := p) (by rw [h]; trivial) (.inl rfl) (fun b u hb q => (Heap.get?_update_other _ _ (Ne.symm hb)).trans q) ⟨_, e⟩ ?_
  exact ⟨hz, its', n', r, e⟩
noncomputable def rSetL : V → V → V → Hp → (Hp → Prop) → Prop := fun o i v H Q => ∃ p xs k j, o = .ref p ∧ i = .int k ∧ H p = some (.lst xs) ∧ ixN xs.length k = some j ∧ Q (upd H p (.lst (xs.set j v)))
theorem set_list : PSet X rSetL := by
  intro pins s σ H o i v ov iv u Q I ro ri rv h
  obtain ⟨p, xs, k, j, rfl, rfl, hp, hj, q⟩ := h
  cases ro
  obtain ⟨t, rfl⟩ := ri
  obtain ⟨its, n, r, ho, hz⟩ := I.lst hp
  obtain ⟨h1, h2, h3, h4⟩ := ixN_seq hj
  have hl := r.length
  have hn := line63
  have I' : Inv X pins σ (upd H p (.lst (xs.set j v))) { s with heap := s.heap.update p (Obj.mapSeq (·.setIfInBounds j u)) } :=
    I.lstUpd hp ho (mapSeq_set its n j u) (r.set rv j) (by rw [List.length_set]; exact hz) s.toks
  by_cases h0 : 0 ≤ k
  · have hk : k.toNat = j := by
      rw [seqIndex_of h0 h4] at h1
      exact Option.some.inj h1
    exact PySem.W.ki_setAt ho h0 (by omega) (by rw [List.size_toArray, ← hl]; exact h4) (by rw [hk]; exact ⟨_, I', q⟩)
  · have hk : (k + (its.toArray.size : Int)).toNat = j := by
      rw [seqIndex_neg (by omega) h3] at h1
      rw [List.size_toArray, ← hl]
      exact Option.some.inj h1
    exact PySem.W.ki_setBack ho (by omega) (by rw [List.size_toArray, ← hl]; exact h3) (by omega) (by rw [hk]; exact ⟨_, I', q⟩)
theorem slice_bounds (lo hi : Option Int) (n : Nat) : (sliceBounds lo hi none n).1 = ((HT.sIx n 0 lo : Nat) : Int) ∧ (sliceBounds lo hi none n).2.1 = ((HT.sIx n n hi : Nat) : Int) ∧ (sliceBounds lo hi none n).2.2 = 1 := by
  refine ⟨?_, ?_, rfl⟩
  · cases lo with
    | none => simp [sliceBounds, HT.sIx]
    | some i =>
      simp only [sliceBounds, HT.sIx, Option.getD_none, show (1 : Int) > 0 by decide, if_true]
      by_cases h : i < 0
      · simp only [h, if_true] <;> omega
      · simp only [h, if_false] <;> omega
  · cases hi with
    | none => simp [sliceBounds, HT.sIx]
    | some i =>
      simp only [sliceBounds, HT.sIx, Option.getD_none, show (1 : Int) > 0 by decide, if_true]
      by_cases h : i < 0
      · simp only [h, if_true] <;> omega
      · simp only [h, if_false] <;> omega
theorem slicePick_cut (its : List Value) (lo hi : Option Int) : slicePick its.toArray lo hi none = ((its.drop (HT.sIx its.length 0 lo)).take (HT.sIx its.length its.length hi - HT.sIx its.length 0 lo)).toArray := by
  obtain ⟨h1, h2, h3⟩ := slice_bounds lo hi its.toArray.size
  unfold slicePick
  rw [h1, h2, h3]
  simp only [sliceRange_one, pick_run, List.size_toArray] <;> rfl
noncomputable def rSlL (K : PySem.W.Frag) : V → Option Int → Option Int → Hp → VK → Prop := fun x lo hi H Q => ∃ a xs, x = .ref a ∧ SqL K H a xs ∧ ∀ p, H p = none → Q (.ref p) (upd H p (.lst (cutV xs lo hi)))
theorem sl_list : SlR X (rSlL X.K) := by
  intro pins s σ H x v vl vu lo hi sl Q I rx hs pl pu h
  obtain ⟨a, xs, rfl, hx, q⟩ := h
  cases rx
  obtain ⟨its, r, ht, hz⟩ := I.list hx
  have hlen := r.length
  refine ⟨"list", _, slot_list_getitem.lookup, ht.isList.typeIs, ?_⟩
  refine wpAny_getItem_list_slice ht.isList hs pl pu .none (by simp) ?_ (by rw [List.size_toArray] <;> omega)
  rw [slicePick_cut, ← hlen]
  refine ⟨.ref s.heap.objs.size, _, I.laid (t' := s.toks) (o := .lst (cutV xs lo hi)) (fun b ob q => Heap.get?_push_of_some _ q) (Nat.le_refl _) ?_, rfl, q _ (I.hok.fresh (Nat.le_refl _))⟩
  exact ⟨Nat.le_trans (cutV_length xs lo hi) hz, _, 0, (r.drop (HT.sIx xs.length 0 lo)).take (HT.sIx xs.length xs.length hi - HT.sIx xs.length 0 lo), Heap.get?_push_size _ rfl⟩
theorem call_len_seq : CallR X (.builtin "len") (fun xs H Q => ∃ p ys, xs = [.ref p] ∧ (SqL X.K H p ys ∨ SqT X.K H p ys) ∧ Q (.int ys.length) H) := by
  intro pins s σ H xs us Q I r h
  obtain ⟨p, ys, rfl, hq, q⟩ := h
  obtain ⟨u, rfl, rx⟩ := vals1 r
  cases rx
  have hn := line63
  rcases hq with hq | hq
  · obtain ⟨its, r', pl, hz⟩ := I.list hq
    have hlen := r'.length
    exact Calls.call_len_list pl.isList (by simp only [List.size_toArray] <;> omega) ⟨.int ys.length, H, I.tok _, ⟨s.toks + 1, by rw [List.size_toArray, hlen]⟩, q⟩
  · obtain ⟨its, r', pl, hz⟩ := I.tuple hq
    have hlen := r'.length
    exact len_tuple pl (by simp only [List.size_toArray] <;> omega) ⟨.int ys.length, H, I.tok _, ⟨s.toks + 1, by rw [List.size_toArray, hlen]⟩, q⟩
theorem CallR.or {f : Value} {r r' : List V → Hp → VK → Prop} (h : CallR X f r) (h' : CallR X f r') : CallR X f (fun xs H Q => r xs H Q ∨ r' xs H Q) := by
  intro pins s σ H xs us Q I rs q
  rcases q with q | q
  · exact h pins s σ H xs us Q I rs q
  · exact h' pins s σ H xs us Q I rs q
theorem call_list_of : CallR X (.type "list") (fun xs H Q => ∃ p ys, xs = [.ref p] ∧ (SqL X.K H p ys ∨ SqT X.K H p ys) ∧ ∀ l, H l = none → Q (.ref l) (upd H l (.lst ys))) := by
  intro pins s σ H xs us Q I r h
  obtain ⟨p, ys, rfl, hq, q⟩ := h
  obtain ⟨u, rfl, rx⟩ := vals1 r
  cases rx
  have fin : ∀ (its : List Value), Vals ys its → ys.length ≤ sizeLine → ∀ (h' : Heap) (c' : Nat), (∀ b o', s.heap.get? b = some o' → h'.get? b = some o') →
      h'.get? s.heap.objs.size = some { cls := .type "list", dict := none, data := .seq its.toArray c', slots := #[] } → EP X pins σ Q (.ref s.heap.objs.size) { s with heap := h' } := fun its r' hz h' c' kp e =>
    ⟨.ref s.heap.objs.size, _, I.laid (t' := s.toks) kp (Nat.le_refl _) (show ObjOk X.prog X.w _ h' _ (.lst ys) from ⟨hz, its, c', r', e⟩), rfl, q _ (I.hok.fresh (Nat.le_refl _))⟩
  rcases hq with hq | hq
  · obtain ⟨its, r', pl, hz⟩ := I.list hq
    have hlen := r'.length
    obtain ⟨o, ho, hc, n, hd⟩ := pl.isList
    exact call_list_seq p (.inl rfl) ho hc hd (fun h' c' kp e => fin its r' hz h' c' kp e) (by simp only [List.size_toArray] <;> omega)
  · obtain ⟨its, r', pl, hz⟩ := I.tuple hq
    have hlen := r'.length
    obtain ⟨o, ho, hc, n, hd⟩ := pl
    exact call_list_seq p (.inr rfl) ho hc hd (fun h' c' kp e => fin its r' hz h' c' kp e) (by simp only [List.size_toArray] <;> omega)
noncomputable def tyV (K : PySem.W.Frag) (T : String) (x : V) (H : Hp) : Prop := match x with
  | .str _ => T = "str"
  | .int _ => T = "int"
  | .ref p => (T = "list" ∧ ∃ xs, SqL K H p xs) ∨ (T = "tuple" ∧ ∃ o, K.lookup p = some o ∧ o.cls = .type "tuple" ∧ o.dict = none) ∨
      (T = "dict" ∧ ((∃ kvs, H p = some (.dK kvs)) ∨ ∃ kvs, H p = some (.dT kvs))) ∨ (T = "set" ∧ ∃ S n, H p = some (.set S n))
  | _ => False
theorem tyV_is {pins : List (Addr × Obj)} {σ : St} {H : Hp} {s : Shared} {T : String} {x : V} {v : Value} (I : Inv X pins σ H s) (r : RelV x v) (ty : tyV X.K T x H) :
    s.TypeIs v T ∧ ∀ a, v = .ref a → ∃ ob, s.heap.get? a = some ob ∧ ob.dict = none := by
  cases x with
  | str z =>
    obtain ⟨t, rfl⟩ := r
    cases (show T = "str" from ty)
    exact ⟨typeIs_str s z t, fun _ e => nomatch e⟩
  | int i =>
    obtain ⟨t, rfl⟩ := r
    cases (show T = "int" from ty)
    exact ⟨typeIs_int s i t, fun _ e => nomatch e⟩
  | ref p =>
    cases r
    rcases ty with ⟨rfl, xs, hq⟩ | ⟨rfl, o, hk, hc, hd⟩ | ⟨rfl, hk⟩ | ⟨rfl, S, n, hk⟩
    · obtain ⟨its, _, pl, _⟩ := I.list hq
      refine ⟨pl.isList.typeIs, fun a e => ?_⟩
      cases e
      obtain ⟨o, n, e, c, hd, _⟩ := pl
      exact ⟨o, e, hd⟩
    · refine ⟨⟨o, I.kIn p o hk, hc⟩, fun a e => ?_⟩
      cases e
      exact ⟨o, I.kIn _ o hk, hd⟩
    · have z : ∃ o, s.heap.get? p = some o ∧ o.ExactDict := by
        rcases hk with ⟨kvs, hk⟩ | ⟨kvs, hk⟩
        · obtain ⟨_, _, _, _, o, _, _, e, ex, _⟩ := I.hok p _ hk
          exact ⟨o, e, ex⟩
        · obtain ⟨_, _, _, _, o, _, _, e, ex, _⟩ := I.hok p _ hk
          exact ⟨o, e, ex⟩
      obtain ⟨o, e, ex⟩ := z
      refine ⟨⟨o, e, ex.1⟩, fun a e2 => ?_⟩
      cases e2
      exact ⟨o, e, ex.2.1⟩
    · obtain ⟨o, _, _, _, e, ex, _⟩ := I.hok p _ hk
      refine ⟨⟨o, e, ex.1⟩, fun a e2 => ?_⟩
      cases e2
      exact ⟨o, e, ex.2.1⟩
  | _ => exact False.elim ty
noncomputable def tBM0 (K : PySem.W.Frag) (T : String) (r : V → List V → Hp → VK → Prop) (to : TE) : TE := fun σ H Q => to σ H fun x H1 => tyV K T x H1 ∧ r x [] H1 Q
noncomputable def tBM (K : PySem.W.Frag) (T : String) (r : V → List V → Hp → VK → Prop) (to : TE) (t : TA) : TE := fun σ H Q => to σ H fun x H1 => tyV K T x H1 ∧ t σ H1 fun xs H2 => r x xs H2 Q
variable {o e : Expr} {es : List Expr} {to : TE} {t : TA} {name : Str} {apos cpos : Pos} {T id : String} {r : V → List V → Hp → VK → Prop}
theorem pe_bm0 (pa : PlainAttrs T) (slot : Slot T name id) (hty : typeOf (.builtin id) = pure (.type "method_descriptor")) (hm : MtR X id r) (ho : PE X o to)
    (hbase : attributeBase o name X.env (eval o X.env) = eval o X.env := by rfl) (hline : (apos.endLine == cpos.line) = true := by rfl) : PE X (.Call (.Attribute o name apos) [] [] cpos) (tBM0 X.K T r to) := by
  intro pins s σ H Q I h
  refine wpAny_Call_method0_late hbase hline (thn (ho pins s σ H _ I h) fun v s1 ⟨x, H1, I1, r1, ty, q1⟩ => ?_)
  obtain ⟨h1, h2⟩ := tyV_is I1 r1 ty
  exact ⟨T, id, pa, slot, hty, h1, h2, Calls.callWith_builtin rfl (PySem.evalArgs_none (hm pins s1 σ H1 x [] v [] Q I1 r1 .nil q1))⟩
theorem pe_bm (pa : PlainAttrs T) (slot : Slot T name id) (hty : typeOf (.builtin id) = pure (.type "method_descriptor")) (hm : MtR X id r) (ho : PE X o to) (ha : PA X (e :: es) t)
    (hbase : attributeBase o name X.env (eval o X.env) = eval o X.env := by rfl)
    (hfew : ((backTo cpos (starEach (e :: es) X.env)).all (fun x => !x.1) && (backToKw cpos (keywordEach [] X.env)).all (fun x => x.1.isSome)
      && decide ((e :: es).length + ([] : List Keyword).length + (if ([] : List Keyword).isEmpty then 0 else 1) < 30)) = true := by rfl)
    (hline : (apos.endLine == cpos.line) = true := by rfl) (hs : starEach (e :: es) X.env = (false, eval e X.env) :: starEach es X.env := by rfl) (hplain : (backTo cpos (starEach es X.env)).any (·.1) = false := by rfl) :
    PE X (.Call (.Attribute o name apos) (e :: es) [] cpos) (tBM X.K T r to t) := by
  intro pins s σ H Q I h
  refine wpAny_Call_method_late hbase hfew hline rfl (thn (ho pins s σ H _ I h) fun v s1 ⟨x, H1, I1, r1, ty, q1⟩ => ?_)
  obtain ⟨h1, h2⟩ := tyV_is I1 r1 ty
  refine ⟨T, id, pa, slot, hty, h1, h2, ?_⟩
  have hA := ha cpos pins s1 σ H1 _ I1 q1
  rw [hs] at hA ⊢
  refine Calls.callWith_builtin (by show (false || (backTo cpos (starEach es X.env)).any (·.1)) = false; rw [hplain] <;> rfl) (Calls.evalArgs_plain ?_)
  exact thn hA fun us s2 ⟨vs, H2, I2, r2, q2⟩ => hm pins s2 σ H2 x vs v us Q I2 r1 r2 q2
end
end L2
namespace L2
open PySem PySem.Spec PyProof.Rows
noncomputable def MtM (X : Cx) (id : String) (r : V → List V → Hp → VK → Prop) : Prop :=
  ∀ (pins : List (Addr × Obj)) (s : Shared) (σ : St) (H : Hp) (x : V) (xs : List V) (v : Value) (us : List Value) (Q : VK), Inv X pins σ H s → RelV x v → Vals xs us → r x xs H Q →
    wpAny (model X.prog X.w) X.A (call (.builtin id) (v :: us)) (EP X pins σ Q) X.xe s
theorem Vals.one : ∀ {x : V} {us : List Value}, Vals [x] us → ∃ u, us = [u] ∧ RelV x u
  | _, _, .cons r .nil => ⟨_, rfl, r⟩
theorem Vals.two : ∀ {x y : V} {us : List Value}, Vals [x, y] us → ∃ u v, us = [u, v] ∧ RelV x u ∧ RelV y v
  | _, _, _, .cons r (.cons q .nil) => ⟨_, _, rfl, r, q⟩
theorem Vals.zero : ∀ {us : List Value}, Vals [] us → us = []
  | _, .nil => rfl
theorem Vals.dropLast {xs : List V} {us : List Value} (h : Vals xs us) : Vals xs.dropLast us.dropLast := by
  induction h with
  | nil => exact .nil
  | cons r t ih =>
    cases t with
    | nil => exact .nil
    | cons q t' => exact .cons r ih
theorem Vals.eraseIdx : ∀ {xs : List V} {us : List Value} (i : Nat), Vals xs us → Vals (xs.eraseIdx i) (us.eraseIdx i)
  | _, _, _, .nil => .nil
  | _, _, 0, .cons _ t => t
  | _, _, i + 1, .cons r t => .cons r (Vals.eraseIdx i t)
theorem Vals.reverse {xs : List V} {us : List Value} (h : Vals xs us) : Vals xs.reverse us.reverse := by
  induction h with
  | nil => exact .nil
  | cons r t ih => rw [List.reverse_cons, List.reverse_cons]; exact Vals.append ih (.cons r .nil)
theorem Vals.rep {xs : List V} {us : List Value} (h : Vals xs us) : ∀ k : Nat, Vals (List.replicate k xs).flatten (List.replicate k us).flatten
  | 0 => .nil
  | k + 1 => by
    rw [List.replicate_succ, List.replicate_succ, List.flatten_cons, List.flatten_cons]
    exact Vals.append h (Vals.rep h k)
theorem foldl_rep (its : List Value) : ∀ (k : Nat) (acc : List Value),
    List.foldl (fun x1 x2 => x1 ++ x2) acc.toArray (List.replicate k its.toArray) = (acc ++ (List.replicate k its).flatten).toArray
  | 0, acc => by simp
  | k + 1, acc => by
    have e : acc.toArray ++ its.toArray = (acc ++ its).toArray := by simp
    have e2 : (acc ++ its) ++ (List.replicate k its).flatten = acc ++ (List.replicate (k + 1) its).flatten := by
      rw [List.replicate_succ, List.flatten_cons, List.append_assoc]
    rw [← e2, ← foldl_rep its k (acc ++ its), ← e, List.replicate_succ, List.foldl_cons]
section
variable {X : Cx} {pins : List (Addr × Obj)} {σ : St} {H : Hp} {s : Shared} {l b : Addr} {xs ys zs : List V}
theorem Inv.lset {its its' : List Value} {n : Nat} {f : Array Value → Array Value} {t' : Nat} (I : Inv X pins σ H s) (hH : H l = some (.lst xs))
    (e : s.heap.get? l = some { cls := .type "list", data := .seq its.toArray n }) (hf : f its.toArray = its'.toArray) (hv : Vals ys its') (hz : ys.length ≤ sizeLine) :
    Inv X pins σ (upd H l (.lst ys)) { s with heap := s.heap.update l (Obj.mapSeq f), toks := t' } := by
  have q := PySem.IsL.update e f
  rw [hf] at q
  refine I.write (x := l) (e := l) (by rw [hH]; exact trivial) (.inl rfl) (fun b' u hb hu => (Heap.get?_update_other s.heap (Obj.mapSeq f) (Ne.symm hb)).trans hu) ⟨_, q⟩ ?_
  exact ⟨hz, its', _, hv, q⟩
theorem Inv.lnew {its : List Value} {t' : Nat} (I : Inv X pins σ H s) (hv : Vals ys its) (hz : ys.length ≤ sizeLine) :
    Inv X pins σ (upd H s.heap.objs.size (.lst ys)) { s with heap := s.heap.push { cls := .type "list", data := .seq its.toArray }, toks := t' } :=
  I.laid (fun _ _ q => Heap.get?_push_of_some _ q) (Nat.le_refl _) ⟨hz, its, 0, hv, Heap.get?_push_size _ rfl⟩
theorem Inv.fresh (I : Inv X pins σ H s) : H s.heap.objs.size = none := I.hok.fresh (Nat.le_refl _)
theorem Inv.lstM (I : Inv X pins σ H s) (hH : H l = some (.lst xs)) : xs.length ≤ sizeLine ∧ ∃ (its : List Value) (n : Nat), Vals xs its ∧ xs.length = its.length ∧ s.heap.get? l = some { cls := .type "list", data := .seq its.toArray n } := by
  obtain ⟨z, its, n, r, e⟩ := I.hok l _ hH
  exact ⟨z, its, n, r, r.length, e⟩
theorem notLongL {n : Nat} (h : n ≤ sizeLine) : Builtin.List.listTooLong n = false := by
  unfold Builtin.List.listTooLong
  exact decide_eq_false (by omega)
end
section
variable {X : Cx}
noncomputable def rAppend : V → List V → Hp → VK → Prop := fun x vs H Q => ∃ l xs y, x = .ref l ∧ vs = [y] ∧ H l = some (.lst xs) ∧ xs.length < sizeLine ∧ Q .non (upd H l (.lst (xs ++ [y])))
theorem mt_append : MtM X "list.append" rAppend := by
  intro pins s σ H x vs v us Q I rx rv h
  obtain ⟨l, xs, y, rfl, rfl, hH, hz, q⟩ := h
  cases rx
  obtain ⟨u, rfl, ru⟩ := rv.one
  obtain ⟨z, its, n, r, hl, e⟩ := I.lstM hH
  refine call_meets F.slot_list_append ⟨_, e, rfl⟩ F.entry_list_append (F.args_list_append_2 _ _) (PySem.list_append l its.toArray n u (by rw [List.size_toArray]; omega)) ⟨e, ?_⟩
  refine ⟨.non, _, I.lset (its' := its ++ [u]) hH e (by simp) (r.append (.cons ru .nil)) ?_, rfl, q⟩
  rw [List.length_append, List.length_singleton]
  omega
noncomputable def rClear : V → List V → Hp → VK → Prop := fun x vs H Q => ∃ l xs, x = .ref l ∧ vs = [] ∧ H l = some (.lst xs) ∧ Q .non (upd H l (.lst []))
theorem mt_clear : MtM X "list.clear" rClear := by
  intro pins s σ H x vs v us Q I rx rv h
  obtain ⟨l, xs, rfl, rfl, hH, q⟩ := h
  cases rx
  have hus := rv.zero
  subst hus
  obtain ⟨z, its, n, r, hl, e⟩ := I.lstM hH
  refine call_meets F.slot_list_clear ⟨_, e, rfl⟩ F.entry_list_clear (F.args_list_clear_1 _) (AutoSeq1.list_clear_list_0 l its.toArray n (by rw [List.size_toArray]; omega)) ⟨e, ?_⟩
  exact ⟨.non, _, I.lset (its' := []) (ys := []) hH e rfl .nil (Nat.zero_le _), rfl, q⟩
noncomputable def rRep : R2 := fun x y H Q => ∃ l k xs, x = .ref l ∧ y = .int k ∧ H l = some (.lst xs) ∧ -(2 ^ 63) ≤ k ∧ k < 2 ^ 63 ∧ xs.length * k.toNat ≤ sizeLine ∧
  ∀ p, H p = none → Q (.ref p) (upd H p (.lst (List.replicate k.toNat xs).flatten))
theorem len_rep {α : Type} (xs : List α) (k : Nat) : (List.replicate k xs).flatten.length = k * xs.length := by
  induction k with
  | zero => simp
  | succ k ih => rw [List.replicate_succ, List.flatten_cons, List.length_append, ih, Nat.succ_mul, Nat.add_comm]
theorem op_rep : OpR X (binaryOp .Mult) rRep := by
  intro pins s σ H x y v u Q I rx ry h
  obtain ⟨l, k, xs, rfl, rfl, hH, h1, h2, hz, q⟩ := h
  cases rx
  obtain ⟨t, rfl⟩ := ry
  obtain ⟨z, its, n, r, hl, e⟩ := I.lstM hH
  have hlen : its.toArray.size * k.toNat ≤ sizeLine := by rw [List.size_toArray, ← hl]; exact hz
  have hcap : ¬ its.toArray.size * k.toNat > (2 ^ 63 - 1) / 8 := by
    have : (sizeLine : Nat) ≤ (2 ^ 63 - 1) / 8 := by decide
    omega
  have hfit : ¬ (!Builtin.List.listFitsIndex k) = true := by
    rw [fitsIndex_both h1 h2]
    exact Bool.false_ne_true
  have hlong : ¬ Builtin.List.listTooLong (its.toArray.size * k.toNat) = true := by
    rw [notLongL hlen]
    exact Bool.false_ne_true
  have hnew : List.foldl (fun x1 x2 => x1 ++ x2) #[] (List.replicate (if its.toArray.isEmpty = true then 0 else k.toNat) its.toArray) = (List.replicate k.toNat its).flatten.toArray := by
    have f0 : ∀ m : Nat, List.foldl (fun x1 x2 => x1 ++ x2) #[] (List.replicate m its.toArray) = (List.replicate m its).flatten.toArray := fun m => by
      have := foldl_rep its m []
      rw [List.nil_append] at this
      exact this
    rw [f0]
    cases its with
    | nil => simp
    | cons a r' => rw [if_neg (by simp)]
  refine wpAny_binaryOp_repeat_ref (T := "list") (U := "int") (by decide) ⟨_, e, rfl⟩ (fun s' => typeIs_int s' k t) noFill_list_mul F.fills_int_mul F.slot_int_rmul repeat_list F.slot_int_index.lookup
    (call_meets F.slot_int_rmul (typeIs_int s k t) F.entry_int_rmul (F.args_int_rmul_2 _ _) (int___rmul___int_list k t l its.toArray n)
      ⟨e, rfl, ⟨_, e, rfl⟩, call_meets F.slot_list_mul ⟨_, e, rfl⟩ F.entry_list_mul (F.args_list_mul_2 _ _) (AutoListH.list___mul___list_int_3 l its.toArray n k t hfit hcap hlong) ⟨e, ?_⟩⟩)
  rw [hnew]
  exact ⟨.ref _, _, I.lnew (t' := s.toks) (r.rep k.toNat) (by rw [len_rep, Nat.mul_comm]; exact hz), rfl, q _ I.fresh⟩
end
section
variable {prog : Program} {w : World} {A : Around} {E : Value → Shared → Prop} {s : Shared}
end
section
variable {X : Cx}
end
end L2
namespace Att
open PySem PySem.W PySem.Calls PyProof.Rows
theorem ints_of_wellAll {P : Params} {h : Heap} : ∀ (ns : List Int) (vs : List Value), WellAll P h vs (ns.map WData.int) → IntsAre vs ns := by
  intro ns
  induction ns with
  | nil =>
    intro vs w
    rw [List.map_nil] at w
    cases w
    exact .nil
  | cons n ns ih =>
    intro vs w
    rw [List.map_cons] at w
    cases w with
    | cons a b =>
      cases a
      exact .cons _ _ (ih _ b)
theorem script_of {l : OpenLaw} {n : Nat} (hn : l.most = some n) {P : Params} {h : Heap} {args : List WData} {vals : List Value}
    (hpre : l.row.toRowW.claim.pre args = true) (hwl : WellAll P h vals args) :
    ∃ a vs ns, vals = [Value.ref a] ∧ args = [WData.list (ns.map WData.int)] ∧ h.get? a = some { cls := .type "list", data := .seq vs.toArray } ∧ IntsAre vs ns ∧ ns.length ≤ n := by
  have hsh : WShape.hasAll [] args [.list .int] = true := (pre_splitW hpre).1
  have hc : l.pre.holds [] { args := args } = true := (pre_splitW hpre).2
  obtain ⟨d, r, rfl, h1, h2⟩ := hasAllW_cons hsh
  obtain rfl := hasAllW_nil h2
  obtain ⟨xs, rfl, h3⟩ := hasW_list h1
  obtain ⟨ns, rfl⟩ := items_int h3
  have hlen : ns.length ≤ n := by
    unfold OpenLaw.pre at hc
    have h4 : (WTm.not (.lt (.lit (.int (n : Int))) (.len (.arg 0)))).holds [] { args := [.list (ns.map .int)] } = true := by
      have h4 := (holds_andW hc).1
      rw [hn] at h4
      exact h4
    have h5 := condW_of h4 (w_not (w_lt w_lit (w_len_list (w_arg rfl))))
    rw [List.length_map] at h5
    refine Nat.le_of_not_lt fun q => ?_
    have q' : (n : Int) < ((ns.length : Nat) : Int) := by omega
    first
      | (rw [decide_eq_true q'] at h5; exact absurd h5 (by decide))
      | (simp at h5; omega)
  cases hwl with
  | cons w1 w2 =>
    cases w2
    cases w1 with
    | list ho hall => exact ⟨_, _, ns, rfl, rfl, ho, ints_of_wellAll ns _ hall, hlen⟩
theorem post_true (l : OpenLaw) (args : List WData) : l.row.toRowW.claim.post args (.bool true) args = true :=
  postW_of (r := l.row.toRowW) (X := (true == true))
    (show WShape.has [] (.bool true) .bool = true by first | rfl | decide | simp [WShape.has, WShape.arms, WShape.armsAll])
    (show (WTm.eq .res (.lit (.bool true))).value [] { args := args, res := some (.bool true), after := args } = some (.bool (true == true)) from w_eq_bool (w_res rfl) w_lit) rfl
theorem attach_call {l : OpenLaw} {n : Nat} {q : Program} {loose : List Str} {XP : (Str → Option Value) → Heap → Prop} {YP : World → Heap → Prop} {d : DefRec}
    (hn : l.most = some n) (hdf : d.params.defaults = [])
    (call : ∀ (w : World) (s₀ s₁ : Shared) (mg mb : Str → Option Value) (fa : Addr) (o : Obj) (pm cd doc : Value) (a : Addr) (vs : List Value) (ns : List Int),
      Ground q loose [] XP w s₀ mg mb s₁.heap → YP w s₁.heap →
      s₁.heap.get? fa = some o → o.data = .func (docDef d.name d.params d.body d.scope pm cd doc) → s₁.heap.CodeRec cd d.name → mg d.name = some (.ref fa) →
      s₁.heap.get? a = some { cls := .type "list", data := .seq vs.toArray } → IntsAre vs ns → ns.length ≤ n → s₁.gens = #[] →
      codeAny (model l.prog w) callerA (.call (.ref fa) ⟨[.ref a], []⟩) (fun r s' => r = .ok (.ret (.bool true)) ∧ OldK s₁.heap s'.heap ∧ s'.os = s₁.os ∧ AllBare s'.gens) s₁) :
    WalkO q loose XP YP l.row.toRowW d [] (fun f vs => PySem.call f vs) := by
  intro w s₀ s₁ mg mb G Y fa o pm cd doc dV kV ho hd hcd hD hmg hg args vals as hpre hlay hrd hwl hlo
  obtain rfl : dV = .none := Dflts.none hD hdf
  obtain rfl : kV = .none := Dflts.noKw hD
  obtain ⟨a, vs, ns, rfl, rfl, hobj, hints, hlen⟩ := script_of hn hpre hwl
  refine enter_call (codeAny_mono (call w s₀ s₁ mg mb fa o pm cd doc a vs ns G Y ho (fd_plain hd) hcd hmg hobj hints hlen hg) fun r s' hq => ?_)
  obtain ⟨rfl, h2, h3, h4⟩ := hq
  exact ⟨.inl ⟨.bool true, .bool true, [], rfl, fun _ => rfl, .bool true, post_true l _, fun _ => ⟨List.Pairwise.nil, fun _ hm => (nomatch hm)⟩⟩, h2, h3, h4⟩
section
variable {prog : Program} {w : World} {A : Around} {E : Value → Shared → Prop} {s : Shared} {K : Frag}
end
end Att
namespace L2
open PySem PySem.Spec PyProof.Rows
theorem vals_ints : ∀ {vs : List Value} {ns : List Int}, IntsAre vs ns → Vals (ns.map V.int) vs
  | _, _, .nil => .nil
  | _, _, .cons n t h => .cons ⟨t, rfl⟩ (vals_ints h)
noncomputable def Only (H : Hp) : Prop := ∀ b, H b = none ∨ ∃ o xs, H b = some (.frz o (.lst xs))
theorem law_call {P : Program} {w : World} {K : PySem.W.Frag} {mg mb : Str → Option Value} {CX : CXT} {k : Nat} {fa a : Addr} {fd : FuncData} {x : Str} {sp : Sp} {s₁ : Shared} {vs : List Value} {ns : List Int}
    (KX : K.In s₁.heap) (hns : s₁.heap.Ns mainGlobals mg) (hb : s₁.heap.Ns builtinsNs mb) (hbb : ∀ x : Str, x ≠ "__name__" → mb x = bootBuiltins x) (hlim : s₁.heap.NoLimit) (hg : s₁.gens = #[])
    (ha : s₁.heap.get? a = some { cls := .type "list", data := .seq vs.toArray }) (hi : IntsAre vs ns) (hl : ns.length ≤ sizeLine) (hr : Room k callerA)
    (F : ∀ base : Heap, K.In base → base.Ns mainGlobals mg → FnOk P w K mg base CX k fa fd [x] sp) (hbind : ∀ (s : Shared) (u : Value), BindsTo s fd ⟨[u], []⟩ [(x, u)])
    (hsp : ∀ H : Hp, Only H → SqL K H a (ns.map V.int) → sp [.ref a] H (fun v _ => v = .bl true) fun _ _ _ => False)
    (hCX : ∀ H e s', CX [] H s₁ (fun _ _ _ => False) e s' → False) :
    codeAny (model P w) callerA (.call (.ref fa) ⟨[.ref a], []⟩) (fun r s' => r = .ok (.ret (.bool true)) ∧ OldK s₁.heap s'.heap ∧ s'.os = s₁.os ∧ AllBare s'.gens) s₁ := by
  have rv := vals_ints hi
  have lenV := hi.length
  have core : ∀ H : Hp, Only H → SqL K H a (ns.map V.int) → HOk P w H s₁.heap → (∀ b, H b ≠ none → b = a) → (H a ≠ none → K.lookup a = none) →
      codeAny (model P w) callerA (.call (.ref fa) ⟨[.ref a], []⟩) (fun r s' => r = .ok (.ret (.bool true)) ∧ OldK s₁.heap s'.heap ∧ s'.os = s₁.os ∧ AllBare s'.gens) s₁ := by
    intro H hO hS hok hA hK
    have base_of : ∀ {b : Addr} {o : Obj}, s₁.heap.get? b = some o → H b = none → (hidT s₁.heap H).get? b = some o := fun e n => hidT_get e n
    have noA : ∀ {b : Addr} {o : Obj} {es : Array DictEntry} {ep : Nat}, s₁.heap.get? b = some o → o.data = .dict es ep → H b = none := fun {b o es ep} e d => by
      cases q : H b with
      | none => rfl
      | some u =>
        have e' : b = a := hA b (by rw [q]; simp)
        subst e'
        rw [ha] at e; cases e
        have d' : Data.seq vs.toArray _ = Data.dict es ep := d
        cases d'
    have nsK : ∀ {b : Addr} {m : Str → Option Value}, s₁.heap.Ns b m → (hidT s₁.heap H).Ns b m := fun {b m} ⟨o, es, ep, e, d, r⟩ => ⟨o, es, ep, base_of e (noA e d), d, r⟩
    have hKb : K.In (hidT s₁.heap H) := fun b o e => base_of (KX b o e) (by
      cases q : H b with
      | none => rfl
      | some u =>
        have e' : b = a := hA b (by rw [q]; simp)
        subst e'
        rw [hK (by rw [q]; simp)] at e; cases e)
    have hM : Mod K mg (hidT s₁.heap H) := ⟨hKb, nsK hns, ⟨mb, nsK hb, hbb⟩, let ⟨mc, h1, h2⟩ := hlim; ⟨mc, nsK h1, h2⟩⟩
    have e0 : Env0 P w K mg (hidT s₁.heap H) callerA [] s₁ H := ⟨rfl, hM, fun b o e => of_hidT e, Nat.le_of_eq (hidT_size _ _), trivial, fun b hb => absurd (show b ∈ ([] : List Addr) from hb) (by simp), hok, .of_eq hg⟩
    refine codeAny_mono ((F _ hKb (nsK hns)).run callerA [] s₁ H ⟨[.ref a], []⟩ [.ref a] [.ref a] _ _ hr e0 (hbind s₁ (.ref a)) (.cons rfl .nil) (hsp H hO hS)) fun r s' h => ?_
    cases r with
    | error e => exact (hCX H e s' h).elim
    | ok fl =>
      cases fl with
      | next => exact False.elim h
      | brk => exact False.elim h
      | cont => exact False.elim h
      | ret u =>
        obtain ⟨v, H', os, bare, un, hok', r', q⟩ := h
        have q' : v = .bl true := q
        subst q'
        obtain rfl : u = Value.bool true := r'
        refine ⟨rfl, OldK.of_keep fun b o e => ?_, os, bare⟩
        cases q : H b with
        | none => exact un.keep b o e q (by intro z; exact absurd (show b ∈ ([] : List Addr) from z) (by simp)) (by simp)
        | some u =>
          rcases hO b with z | ⟨ob, xs, z⟩
          · rw [q] at z; cases z
          · have z2 := un.frzs b ob _ z
            obtain ⟨e1, _⟩ := hok b _ z
            obtain ⟨e2, _⟩ := hok' b _ z2
            rw [e] at e1; cases e1
            exact e2
  cases hk : K.lookup a with
  | some o =>
    have e := KX a o hk
    rw [ha] at e
    cases e
    refine core (fun _ => none) (fun _ => .inl rfl) (.inr ⟨_, vs.toArray, _, hk, rfl, rfl, rfl, by rw [List.size_toArray, lenV]; exact hl, by simpa using rv⟩) (fun b u z => by have z' : (none : Option HO) = some u := z; cases z') (fun b z => absurd rfl z) fun z => absurd rfl z
  | none =>
    refine core (fun b => if b = a then some (.frz { cls := .type "list", data := .seq vs.toArray } (.lst (ns.map V.int))) else none) (fun b => ?_) (.inl (.inr ⟨{ cls := .type "list", data := .seq vs.toArray }, if_pos rfl⟩)) (fun b u z => ?_) (fun b z => ?_) fun _ => hk
    · by_cases hb : b = a
      · exact .inr ⟨_, _, if_pos hb⟩
      · exact .inl (if_neg hb)
    · by_cases hb : b = a
      · have z' := (if_pos hb).symm.trans z
        cases z'
        subst hb
        exact ⟨ha, by rw [List.length_map]; exact hl, vs, _, rv, ha⟩
      · have z' := (if_neg hb).symm.trans z
        cases z'
    · by_cases hb : b = a
      · exact hb
      · exact absurd (if_neg hb) z
end L2
namespace L2
open PySem PySem.Spec PyProof.Rows
theorem walk_of {l : PySem.W.OpenLaw} {n k : Nat} {q : Program} {loose : List Str} {XP : (Str → Option Value) → Heap → Prop} {YP : World → Heap → Prop} {d : DefRec} {K : Params → PySem.W.Frag} {CX : World → CXT} {sp : World → Sp} {x : Str}
    (hn : l.most = some n) (hn2 : n ≤ sizeLine) (hdf : d.params.defaults = []) (hr : Room k callerA)
    (hY : ∀ (w : World) (h : Heap), YP w h → (K w.params).In h)
    (F : ∀ (w : World) (mg : Str → Option Value) (fa : Addr) (h : Heap), (K w.params).In h → h.Ns mainGlobals mg → mg d.name = some (.ref fa) →
      ∃ fd : FuncData, (∀ (s : Shared) (u : Value), BindsTo s fd ⟨[u], []⟩ [(x, u)]) ∧
        ∀ base : Heap, (K w.params).In base → base.Ns mainGlobals mg → FnOk l.prog w (K w.params) mg base (CX w) k fa fd [x] (sp w))
    (hsp : ∀ (w : World) (H : Hp) (a : Addr) (ns : List Int), ns.length ≤ n → Only H → SqL (K w.params) H a (ns.map V.int) → sp w [.ref a] H (fun v _ => v = .bl true) fun _ _ _ => False)
    (hCX : ∀ (w : World) (H : Hp) (s : Shared) (e : Value) (s' : Shared), CX w [] H s (fun _ _ _ => False) e s' → False) :
    PySem.W.WalkO q loose XP YP l.row.toRowW d [] (fun f vs => PySem.call f vs) := by
  refine Att.attach_call hn hdf fun w s₀ s₁ mg mb fa o pm cd doc a vs ns G Y ho hd hcd hmg hobj hints hlen hg => ?_
  have KX := hY w _ Y
  obtain ⟨fd, hb, hF⟩ := F w mg fa _ KX G.T.g hmg
  exact law_call KX G.T.g G.T.b G.T.builtins G.T.nolimit hg hobj hints (Nat.le_trans hlen hn2) hr hF hb (fun H hO hS => hsp w H a ns hlen hO hS) fun H e s' => hCX w H s₁ e s'
end L2
namespace L2
open PySem PySem.Spec PyProof.Rows
noncomputable def defArgs (s : Stmt) : Arguments := match s with
  | .FunctionDef _ a _ _ _ _ _ _ _ _ => a
  | _ => { posonlyargs := [], args := [], vararg := none, kwonlyargs := [], kw_defaults := [], kwarg := none, defaults := [] }
noncomputable def defBody (s : Stmt) : List Stmt := match s with
  | .FunctionDef _ _ b _ _ _ _ _ _ _ => b
  | _ => []
noncomputable def defScope (s : Stmt) : Scope := match s with
  | .FunctionDef _ _ _ _ _ _ sc _ _ _ => sc
  | _ => { kind := .function, names := [], isGenerator := false, isCoroutine := false }
noncomputable abbrev CX0 : CXT := fun _ _ _ _ _ _ => False
noncomputable abbrev E0 : XK := fun _ _ _ => False
theorem pass0 {X : Cx} : Passes CX0 X E0 := fun _ _ _ _ _ _ _ h => h.elim
structure Fun (K : PySem.W.Frag) (x qual : Str) (st : Stmt) (f : Addr) (fd : FuncData) : Prop where
  ex : ∃ (oc : Value) (od : Option Addr) (kV doc pm : Value) (an : Option Addr) (cdv ct : Value) (osl : Array (Option Value)),
    fd = PySem.W.fnOf x qual (defArgs st) (defBody st) (defScope st) .none kV doc pm an cdv ct ∧ K.lookup f = some ⟨oc, od, .func fd, osl⟩ ∧ PySem.W.codeIn K cdv qual = true
  kp : PySem.W.keepIn K (.ref f) = true
section
variable {P : Program} {w : World} {K : PySem.W.Frag} {mg : Str → Option Value} {base : Heap}
theorem Fun.ok {x qual : Str} {st : Stmt} {f : Addr} {fd : FuncData} {N ps : List Str} {k : Nat} {sp : Sp} (F : Fun K x qual st f fd) (S : FnScope N ps (defScope st)) (len : ∀ vs H Q E, sp vs H Q E → vs.length = ps.length)
    (hbody : ∀ (cdv : Value) (A : Around) (outer : List Env) (s : Shared) (H : Hp) (vs : List V) (Q : VK) (E : XK), Room k (A.deeper (envOfC qual (defScope st) s.heap.objs.size f cdv)) → sp vs H Q E →
      ∃ t, PSs (cxOf CX0 P w K mg base N qual (defScope st) f cdv A outer s H E).nox (defBody st) t ∧ t { nx := fun _ H' => Q .non H', rt := Q } (start N vs) H) : FnOk P w K mg base CX0 (k + 1) f fd ps sp := by
  obtain ⟨oc, od, kV, doc, pm, an, cdv, ct, osl, rfl, lk, hcd⟩ := F.ex
  refine fn_of lk hcd S len fun A outer s H vs Q E hr hsp => ?_
  obtain ⟨t, h, q⟩ := hbody cdv A outer s H vs Q E hr hsp
  exact ⟨t, h.nox, q⟩
theorem Fun.binds {x qual : Str} {st : Stmt} {f : Addr} {fd : FuncData} {ps : List Str} (F : Fun K x qual st f fd)
    (h : ∀ (kV doc pm : Value) (an : Option Addr) (cdv ct : Value) (us : List Value), us.length = ps.length → bindArgs (PySem.W.fnOf x qual (defArgs st) (defBody st) (defScope st) .none kV doc pm an cdv ct) ⟨us, []⟩ = pure (ps.zip us)) : Binds K fd ps [] := by
  obtain ⟨oc, od, kV, doc, pm, an, cdv, ct, osl, rfl, lk, hcd⟩ := F.ex
  exact .all (h kV doc pm an cdv ct)
theorem fun_mk {x qual : Str} {st : Stmt} {f : Addr} {oc : Value} {od an : Option Addr} {osl : Array (Option Value)} {kV doc pm cdv ct : Value} (l : K.lookup f = some ⟨oc, od, .func (PySem.W.fnOf x qual (defArgs st) (defBody st) (defScope st) .none kV doc pm an cdv ct), osl⟩)
    (c : PySem.W.codeIn K cdv qual = true) (k : PySem.W.keepIn K (.ref f) = true) : Fun K x qual st f (PySem.W.fnOf x qual (defArgs st) (defBody st) (defScope st) .none kV doc pm an cdv ct) := ⟨⟨oc, od, kV, doc, pm, an, cdv, ct, osl, rfl, l, c⟩, k⟩
end
theorem small1000 {n : Nat} (h : n ≤ 1000) : n < sizeLine := Nat.lt_of_le_of_lt h (by decide)
section
variable {X : Cx}
end
noncomputable def Same (H H' : Hp) : Prop := ∀ b o, H b = some o → H' b = some o
theorem Same.refl (H : Hp) : Same H H := fun _ _ h => h
theorem Same.trans {H H1 H2 : Hp} (a : Same H H1) (b : Same H1 H2) : Same H H2 := fun c o h => b c o (a c o h)
theorem Same.free {H H' : Hp} (e : Same H H') {l : Addr} (h : H' l = Option.none) : H l = Option.none := by
  cases q : H l with
  | none => rfl
  | some o =>
    rw [e l o q] at h
    cases h
theorem Same.seq {K : PySem.W.Frag} {H H' : Hp} {a : Addr} {xs : List V} (e : Same H H') (h : SqL K H a xs) : SqL K H' a xs := by
  rcases h with (h | ⟨o, h⟩) | h
  · exact .inl (.inl (e _ _ h))
  · exact .inl (.inr ⟨o, e _ _ h⟩)
  · exact .inr h
end L2
namespace L2
open PySem PySem.Spec PyProof.Rows
theorem PE.imp {X : Cx} {e : Expr} {t t' : TE} (h : PE X e t) (ht : ∀ σ H Q, t' σ H Q → t σ H Q) : PE X e t' := fun pins s σ H Q I q => h pins s σ H Q I (ht σ H Q q)
section
variable {X : Cx} {pins : List (Addr × Obj)} {σ : List (Option V)} {H : Hp} {s : Shared} {h' : Heap}
theorem Inv.turns {fp : List Addr} {t' : Nat} (I : Inv X pins σ H s) (k : ∀ b o, b ∉ fp → s.heap.get? b = some o → h'.get? b = some o) (hf : ∀ b ∈ fp, FpOk X pins H b) : Inv X pins σ H { s with heap := h', toks := t' } := by
  have nit : ∀ b u, H b = some u → b ∉ fp := fun b u e z => by rw [(hf b z).1] at e; cases e
  refine I.step (g' := s.gens) (d' := s.drawn) (ch := fp) (fun b hb => ⟨(hf b hb).2.2.2.1, (hf b hb).2.1, (hf b hb).2.2.2.2.1, (hf b hb).2.2.2.2.2⟩) (fun b o _ _ hc e _ => k b o hc e) (fun b o _ _ hc e _ => ⟨o.slots, k b o hc e⟩) (fun _ _ _ _ n => n)
    (fun b o hc e => ⟨o, k b o hc e⟩) (fun _ _ e => e) (fun _ _ _ e => e) (fun b ps e => ⟨#[], by rw [e]; simp⟩) (fun m hm => ?_) (fun b u e => ?_) I.bare
  · obtain ⟨o, es, ep, ho, r⟩ := hm
    exact ⟨o, es, ep, k _ o (fun z => (hf _ z).2.1 rfl) ho, r⟩
  · refine (I.hok b u e).stay (fun c v hc q => k c v ?_ q) (fun _ q => q) fun _ _ q => q
    rcases hc with z | z
    · rw [z]; exact nit b u e
    · exact nit c _ z
theorem Inv.turnLay {fp : List Addr} {T : Addr} {o : HO} {t' : Nat} (I : Inv X pins σ H s) (k : ∀ b o, b ∉ fp → s.heap.get? b = some o → h'.get? b = some o) (hf : ∀ b ∈ fp, FpOk X pins H b) (hT : s.heap.objs.size ≤ T)
    (new : ObjOk X.prog X.w (upd H T o) h' T o) : Inv X pins σ (upd H T o) { s with heap := h', toks := t' } := by
  have hn : H T = none := I.hok.fresh hT
  have nit : ∀ b u, H b = some u → b ∉ fp := fun b u e z => by rw [(hf b z).1] at e; cases e
  have neT : ∀ {b : Addr} {u : Obj}, s.heap.get? b = some u → b ≠ T := fun e => Nat.ne_of_lt (Nat.lt_of_lt_of_le (Heap.lt_size e) hT)
  refine I.step (g' := s.gens) (d' := s.drawn) (ch := fp) (fun b hb => ⟨(hf b hb).2.2.2.1, (hf b hb).2.1, (hf b hb).2.2.2.2.1, (hf b hb).2.2.2.2.2⟩) (fun b o _ _ hc e _ => k b o hc e) (fun b o _ _ hc e _ => ⟨o.slots, k b o hc e⟩)
    (fun b o _ e n => by rw [upd_ne (neT e)]; exact n)
    (fun b o hc e => ⟨o, k b o hc e⟩) (fun b xs e => by rw [upd_ne (ne_of_none e hn)]; exact e) (fun b _ _ e => by rw [upd_ne (ne_of_none e hn)]; exact e) (fun b ps e => ⟨#[], by rw [upd_ne (ne_of_none e hn), e]; simp⟩) (fun m hm => ?_) (fun b u e => ?_) I.bare
  · obtain ⟨o, es, ep, ho, r⟩ := hm
    exact ⟨o, es, ep, k _ o (fun z => (hf _ z).2.1 rfl) ho, r⟩
  · by_cases hb : b = T
    · subst hb; rw [upd_same] at e; cases e; exact new
    · rw [upd_ne hb] at e
      refine (I.hok b u e).stay (fun c v hc q => k c v ?_ q) (fun c q => by rw [upd_ne (ne_of_none q hn)]; exact q) fun c xs q => by rw [upd_ne (ne_of_none q hn)]; exact q
      rcases hc with z | z
      · rw [z]; exact nit b u e
      · exact nit c _ z
end
noncomputable def Ite (K : PySem.W.Frag) (a : Addr) : It :=
  ⟨fun i H => ∃ xs x, SqL K H a xs ∧ xs[i]? = some x,
   fun i H v H' => ∃ p x, H p = none ∧ v = .ref p ∧ (∀ xs, SqL K H a xs → xs[i]? = some x) ∧ H' = upd H p (.tup [.int (i : Int), x]),
   fun i H => ∃ xs, SqL K H a xs ∧ xs.length ≤ i⟩
theorem turn_enum {P : Program} {w : World} {K : PySem.W.Frag} {elts : List Expr} {k : Nat} {pos : Pos} (a e it : Addr) (hei : e ≠ it) :
    Turn P w K (.Tuple elts k pos) (Ite K a) [e, it] e (fun i h => (∃ old, IsEnum h e it (i : Nat) old) ∧ h.IsListIter it a i) where
  mem := by simp
  obj := fun i h st b hb => by
    obtain ⟨⟨old, he⟩, ⟨o, e1, c, d⟩⟩ := st
    rcases List.mem_cons.mp hb with rfl | hb
    · exact ⟨_, he, fun v z => by have z' : Data.fields _ = Data.cell v := z; cases z'⟩
    · rw [List.mem_singleton.mp hb]
      exact ⟨o, e1, fun v z => by rw [d] at z; cases z⟩
  keep := fun i h h' st k => by
    obtain ⟨⟨old, he⟩, st⟩ := st
    exact ⟨⟨old, k e (by simp) _ he⟩, st.at fun o e => k it (by simp) o e⟩
  item := by
    intro X hP hw hK hc i pins s σ H E I hf st hg
    subst hP hw hK
    obtain ⟨⟨old, he⟩, hit⟩ := st
    obtain ⟨xs, x, hq, hx⟩ := hg
    obtain ⟨its, rv, p, hz⟩ := I.list hq
    obtain ⟨u, hu, ru⟩ := rv.get hx
    refine wpAny_pyNext_enum_item he hit p.isList (x := u) (by simpa using hu) hei fun h' ho hit' hT hsz hk => ?_
    refine ⟨_, rfl, wpAny_letOwnedTupleGo_enum ho fun h2 he2 hs2 => ?_⟩
    have hlt : e < s.heap.objs.size := Heap.lt_size he
    have hT2 : h2.get? s.heap.objs.size = some { cls := .type "tuple", data := .seq #[.int i s.toks, u] } := (hs2.2 _ (Nat.ne_of_gt hlt)).trans hT
    refine ⟨.ref s.heap.objs.size, upd H s.heap.objs.size (.tup [.int (i : Int), x]), ?_, rfl, ⟨_, x, I.hok.fresh (Nat.le_refl _), rfl, fun ys hy => by rw [I.list_inj hy hq]; exact hx, rfl⟩, ⟨⟨u, by simpa using he2⟩, hit'.at fun o y => (hs2.2 it hei.symm).trans y⟩, fun b hb => ?_⟩
    · refine I.turnLay (fp := [e, it]) (fun b o hb q => ?_) hf (Nat.le_refl _) ⟨by show 2 ≤ sizeLine; decide, [.int i s.toks, u], .cons ⟨_, rfl⟩ (.cons ru .nil), ⟨_, hT2, rfl, _, rfl⟩⟩
      have h1 : b ≠ e := fun z => hb (by simp [z])
      have h2' : b ≠ it := fun z => hb (by simp [z])
      exact (hs2.2 b h1).trans (hk b o h1 h2' q)
    · have hne : b ≠ s.heap.objs.size := by
        rcases List.mem_cons.mp hb with rfl | hb
        · exact Nat.ne_of_lt hlt
        · rw [List.mem_singleton.mp hb]
          obtain ⟨_, y, _⟩ := hit
          exact Nat.ne_of_lt (Heap.lt_size y)
      rw [upd_ne hne]; exact (hf b hb).1
  done := by
    intro X hP hw hK hc i pins s σ H E I hf st hg
    subst hP hw hK
    obtain ⟨⟨old, he⟩, hit⟩ := st
    obtain ⟨xs, hq, hx⟩ := hg
    obtain ⟨its, rv, p, hz⟩ := I.list hq
    have hl := rv.length
    refine wpAny_pyNext_enum_end (I.ok.hd hc) he hit p.isList (by simp; omega) fun h' eb => ⟨rfl, I.turns (t' := s.toks) (fp := [e, it]) (fun b o hb q => eb b o (fun z => hb (by simp [z])) q) hf⟩
  self := fun _ _ _ _ _ st h => by
    obtain ⟨⟨old, he⟩, _⟩ := st
    exact wpAny_pyIter_enum he h
section
variable {X : Cx}
noncomputable def iEnum (K : PySem.W.Frag) (ta : TA) : TI := fun σ H R => ta σ H fun vs H1 => ∃ a, vs = [.ref a] ∧ (∃ xs, SqL K H1 a xs) ∧ R (Ite K a) H1
theorem pi_enum {elts : List Expr} {k : Nat} {tpos : Pos} {l : Expr} {ta : TA} {p pos : Pos} (hg : Gl X "enumerate") (hm : X.mg "enumerate" = none) (ha : PA X [l] ta) (hs : starEach [l] X.env = [(false, eval l X.env)] := by rfl) :
    PI X (.Tuple elts k tpos) (.Call (.Name "enumerate" p) [l] [] pos) (iEnum X.K ta) := by
  intro pins s σ H R I h
  refine Call_ (ld_blt I hg hm boot_enumerate (PyProof.Rows.callWith_type1 (thn (ha pos pins s σ H _ I h) fun us s1 ⟨vs, H1, I1, r1, q1⟩ => ?_) hs rfl))
  obtain ⟨a, e, ⟨xs, hq⟩, q⟩ := q1
  subst e
  cases r1 with
  | cons r rr =>
    cases rr
    cases r
    obtain ⟨its, rv, pl, hz⟩ := I1.list hq
    refine call_enumerate_list pl.isList fun h' hE hI hsz hk => ?_
    refine wpAny_pyIter_enum hE ?_
    have hne : s1.heap.objs.size + 1 ≠ s1.heap.objs.size := Nat.succ_ne_self _
    refine ⟨_, [s1.heap.objs.size + 1, s1.heap.objs.size], _, _, H1, rfl, I1.kept (t' := s1.toks) hk, turn_enum a _ s1.heap.objs.size hne, ⟨⟨.none, hE⟩, hI⟩, fun b hb => ?_, q⟩
    have hb' : s1.heap.objs.size ≤ b := by
      rcases List.mem_cons.mp hb with rfl | hb
      · exact Nat.le_succ _
      · rw [List.mem_singleton.mp hb]; exact Nat.le_refl _
    exact I1.fpOk hb' (I1.hok.fresh hb')
end
noncomputable def Itz (K : PySem.W.Frag) (a b : Addr) : It :=
  ⟨fun i H => ∃ xs x ys y, SqL K H a xs ∧ xs[i]? = some x ∧ SqL K H b ys ∧ ys[i]? = some y,
   fun i H v H' => ∃ p x y, H p = none ∧ v = .ref p ∧ (∀ xs, SqL K H a xs → xs[i]? = some x) ∧ (∀ ys, SqL K H b ys → ys[i]? = some y) ∧ H' = upd H p (.tup [x, y]),
   fun i H => ∃ xs ys, SqL K H a xs ∧ SqL K H b ys ∧ (xs.length ≤ i ∨ ys.length ≤ i)⟩
structure ZipOff (z TI TO i1 i2 : Addr) : Prop where
  TIz : TI ≠ z
  TOz : TO ≠ z
  i1z : i1 ≠ z
  i2z : i2 ≠ z
  TITO : TI ≠ TO
  TIi1 : TI ≠ i1
  TIi2 : TI ≠ i2
  TOi1 : TO ≠ i1
  TOi2 : TO ≠ i2
  i12 : i1 ≠ i2
noncomputable def ZipSt (z TI TO i1 i2 a b : Addr) (i : Nat) (h : Heap) : Prop :=
  IsZip h z TI TO .none ∧ IsPair h TI (.ref i1) (.ref i2) ∧ (∃ c d, IsPair h TO c d) ∧ h.IsListIter i1 a i ∧ h.IsListIter i2 b i
theorem zip_apart {h : Heap} {z TI TO i1 i2 a b : Addr} {i : Nat} {xs ys : Array Value} (D : ZipOff z TI TO i1 i2) (st : ZipSt z TI TO i1 i2 a b i h) (ha : h.IsList a xs) (hb : h.IsList b ys) : ZipApart z TI TO i1 i2 a b := by
  obtain ⟨hz, hTI, ⟨c, d, hTO⟩, ⟨o1, e1, c1, _⟩, ⟨o2, e2, c2, _⟩⟩ := st
  obtain ⟨oa, ea, ca, _⟩ := ha
  obtain ⟨ob, eb, cb, _⟩ := hb
  have nz : ∀ {l : Addr} {o : Obj}, h.get? l = some o → o.cls = .type "list" → l ≠ z := fun e c q => by
    subst q; rw [hz] at e; cases e; simp at c
  have nT : ∀ {l : Addr} {o : Obj}, h.get? l = some o → o.cls = .type "list" → l ≠ TO := fun e c q => by
    subst q; rw [hTO] at e; cases e; simp at c
  have n1 : ∀ {l : Addr} {o : Obj}, h.get? l = some o → o.cls = .type "list" → l ≠ i1 := fun e c q => by
    subst q; rw [e1] at e; cases e; rw [c1] at c; simp at c
  have n2 : ∀ {l : Addr} {o : Obj}, h.get? l = some o → o.cls = .type "list" → l ≠ i2 := fun e c q => by
    subst q; rw [e2] at e; cases e; rw [c2] at c; simp at c
  exact ⟨D.TIz, D.TOz, D.i1z, D.i2z, D.TITO, D.TIi1, D.TIi2, D.TOi1, D.TOi2, D.i12, nz ea ca, nT ea ca, n1 ea ca, n2 ea ca, nz eb cb, nT eb cb, n1 eb cb, n2 eb cb⟩
theorem turn_zip {P : Program} {w : World} {K : PySem.W.Frag} {elts : List Expr} {k : Nat} {pos : Pos} (a b z TI TO i1 i2 : Addr) (D : ZipOff z TI TO i1 i2) :
    Turn P w K (.Tuple elts k pos) (Itz K a b) [z, TI, TO, i1, i2] z (ZipSt z TI TO i1 i2 a b) where
  mem := by simp
  obj := fun i h st c hc => by
    obtain ⟨hz, hTI, ⟨c1, d1, hTO⟩, ⟨o1, e1, _, g1⟩, ⟨o2, e2, _, g2⟩⟩ := st
    simp only [List.mem_cons, List.not_mem_nil, or_false] at hc
    rcases hc with rfl | rfl | rfl | rfl | rfl
    · exact ⟨_, hz, fun v q => by have q' : Data.fields _ = Data.cell v := q; cases q'⟩
    · exact ⟨_, hTI, fun v q => by have q' : Data.seq _ _ = Data.cell v := q; cases q'⟩
    · exact ⟨_, hTO, fun v q => by have q' : Data.seq _ _ = Data.cell v := q; cases q'⟩
    · exact ⟨o1, e1, fun v q => by rw [g1] at q; cases q⟩
    · exact ⟨o2, e2, fun v q => by rw [g2] at q; cases q⟩
  keep := fun i h h' st k => by
    obtain ⟨hz, hTI, ⟨c1, d1, hTO⟩, h1, h2⟩ := st
    exact ⟨k z (by simp) _ hz, k TI (by simp) _ hTI, ⟨c1, d1, k TO (by simp) _ hTO⟩, h1.at fun o e => k i1 (by simp) o e, h2.at fun o e => k i2 (by simp) o e⟩
  item := by
    intro X hP hw hK hc i pins s σ H E I hf st hg
    subst hP hw hK
    obtain ⟨xs, x, ys, y, hq, hx, hq2, hy⟩ := hg
    obtain ⟨its, rv, p, hz⟩ := I.list hq
    obtain ⟨u, hu, ru⟩ := rv.get hx
    obtain ⟨its2, rv2, p2, hz2⟩ := I.list hq2
    obtain ⟨u2, hu2, ru2⟩ := rv2.get hy
    have DA := zip_apart D st p.isList p2.isList
    obtain ⟨sz, sTI, ⟨c1, d1, sTO⟩, s1, s2⟩ := st
    refine wpAny_pyNext_zip_item DA sz sTI sTO s1 s2 p.isList p2.isList (x := u) (y := u2) (by simpa using hu) (by simpa using hu2) fun h' a1 a2 a3 a4 a5 a6 hk => ?_
    refine ⟨_, rfl, wpAny_letOwnedTupleGo_zip a1 fun h2 he2 hs2 => ?_⟩
    have lt : ∀ {c : Addr} {o : Obj}, s.heap.get? c = some o → c ≠ s.heap.objs.size := fun e => Nat.ne_of_lt (Heap.lt_size e)
    have hT2 : IsPair h2 s.heap.objs.size u u2 := (hs2.2 _ (lt sz).symm).trans a5
    have sTI' := hk _ _ DA.TIz DA.TITO DA.TIi1 DA.TIi2 sTI
    refine ⟨.ref s.heap.objs.size, upd H s.heap.objs.size (.tup [x, y]), ?_, rfl, ⟨_, x, y, I.hok.fresh (Nat.le_refl _), rfl, fun zs hz => by rw [I.list_inj hz hq]; exact hx, fun zs hz => by rw [I.list_inj hz hq2]; exact hy, rfl⟩,
      ⟨he2, (hs2.2 _ DA.TIz).trans sTI', ⟨u, u2, (hs2.2 _ DA.TOz).trans a2⟩, a3.at fun o q => (hs2.2 i1 DA.i1z).trans q, a4.at fun o q => (hs2.2 i2 DA.i2z).trans q⟩, fun c hc => ?_⟩
    · refine I.turnLay (fp := [z, TI, TO, i1, i2]) (t' := s.toks) (fun c o hc q => ?_) hf (Nat.le_refl _) ⟨by show 2 ≤ sizeLine; decide, [u, u2], .cons ru (.cons ru2 .nil), ⟨_, hT2, rfl, _, rfl⟩⟩
      simp only [List.mem_cons, List.not_mem_nil, or_false, not_or] at hc
      obtain ⟨n1, n2, n3, n4, n5⟩ := hc
      exact (hs2.2 c n1).trans (hk c o n1 n3 n4 n5 q)
    · have hne : c ≠ s.heap.objs.size := by
        simp only [List.mem_cons, List.not_mem_nil, or_false] at hc
        obtain ⟨_, e1, _⟩ := s1
        obtain ⟨_, e2, _⟩ := s2
        rcases hc with rfl | rfl | rfl | rfl | rfl
        · exact lt sz
        · exact lt sTI
        · exact lt sTO
        · exact lt e1
        · exact lt e2
      rw [upd_ne hne]; exact (hf c hc).1
  done := by
    intro X hP hw hK hc i pins s σ H E I hf st hg
    subst hP hw hK
    obtain ⟨xs, ys, hq, hq2, hx⟩ := hg
    obtain ⟨its, rv, p, hz⟩ := I.list hq
    obtain ⟨its2, rv2, p2, hz2⟩ := I.list hq2
    have hl := rv.length
    have hl2 := rv2.length
    have DA := zip_apart D st p.isList p2.isList
    obtain ⟨sz, sTI, ⟨c1, d1, sTO⟩, s1, s2⟩ := st
    refine wpAny_pyNext_zip_end (I.ok.hd hc) DA sz sTI sTO s1 s2 p.isList p2.isList (by rcases hx with q | q; exact .inl (by simp; omega); exact .inr (by simp; omega)) fun h' hk => ⟨rfl, I.turns (t' := s.toks) (fp := [z, TI, TO, i1, i2]) (fun c o hc q => ?_) hf⟩
    simp only [List.mem_cons, List.not_mem_nil, or_false, not_or] at hc
    obtain ⟨n1, n2, n3, n4, n5⟩ := hc
    exact hk c o n1 n3 n4 n5 q
  self := fun _ _ _ _ _ st h => wpAny_pyIter_zip st.1 h
section
variable {X : Cx}
noncomputable def iZip (K : PySem.W.Frag) (ta : TA) : TI := fun σ H R => ta σ H fun vs H1 => ∃ a b, vs = [.ref a, .ref b] ∧ (∃ xs, SqL K H1 a xs) ∧ (∃ ys, SqL K H1 b ys) ∧ R (Itz K a b) H1
theorem pi_zip {elts : List Expr} {k : Nat} {tpos : Pos} {l l2 : Expr} {ta : TA} {p pos : Pos} (hg : Gl X "zip") (hm : X.mg "zip" = none) (ha : PA X [l, l2] ta) (hs : starEach [l, l2] X.env = [(false, eval l X.env), (false, eval l2 X.env)] := by rfl) (hs2 : starEach [l2] X.env = [(false, eval l2 X.env)] := by rfl) :
    PI X (.Tuple elts k tpos) (.Call (.Name "zip" p) [l, l2] [] pos) (iZip X.K ta) := by
  intro pins s σ H R I h
  refine Call_ (ld_blt I hg hm boot_zip (PyProof.Rows.callWith_type1 (thn (ha pos pins s σ H _ I h) fun us s1 ⟨vs, H1, I1, r1, q1⟩ => ?_) (by rw [hs, hs2]) (by rw [hs2]; rfl)))
  obtain ⟨a, b, e, ⟨xs, hq⟩, ⟨ys, hq2⟩, q⟩ := q1
  subst e
  cases r1 with
  | cons r rr =>
    cases rr with
    | cons r2 rr =>
      cases rr
      cases r
      cases r2
      obtain ⟨its, rv, pl, hz⟩ := I1.list hq
      obtain ⟨its2, rv2, pl2, hz2⟩ := I1.list hq2
      refine call_zip_2 pl.isList pl2.isList fun h' g1 g2 g3 g4 g5 hsz hk => ?_
      refine wpAny_pyIter_zip g1 ?_
      have D : ZipOff (s1.heap.objs.size + 4) (s1.heap.objs.size + 2) (s1.heap.objs.size + 3) s1.heap.objs.size (s1.heap.objs.size + 1) := by
        have e : ∀ n : Nat, (n : Addr) = n := fun _ => rfl
        constructor <;> (intro z; have z' := congrArg (fun x : Nat => x) z; simp at z')
      refine ⟨_, [s1.heap.objs.size + 4, s1.heap.objs.size + 2, s1.heap.objs.size + 3, s1.heap.objs.size, s1.heap.objs.size + 1], _, _, H1, rfl, I1.kept (t' := s1.toks) hk, turn_zip a b _ _ _ _ _ D, ⟨g1, g2, ⟨_, _, g3⟩, g4, g5⟩, fun c hc => ?_, q⟩
      have hb' : s1.heap.objs.size ≤ c := by
        simp only [List.mem_cons, List.not_mem_nil, or_false] at hc
        rcases hc with rfl | rfl | rfl | rfl | rfl
        · exact Nat.le_add_right _ _
        · exact Nat.le_add_right _ _
        · exact Nat.le_add_right _ _
        · exact Nat.le_refl _
        · exact Nat.le_add_right _ _
      exact I1.fpOk hb' (I1.hok.fresh hb')
end
end L2
namespace L2
open PySem PySem.Spec PyProof.Rows
theorem closure_of {env : Env} : ∀ (names : List (Str × NameKind)) (acc : List (Str × Addr)), (∀ y ∈ names, y.2 = .free → ∃ c, env.cells.lookup y.1 = some c) → (∀ x c, acc.lookup x = some c → env.cells.lookup x = some c) →
    ∃ cl : List (Str × Addr), (forIn names acc fun (x : Str × NameKind) (r : List (Str × Addr)) => (match x with | (name, kind) => if (kind == NameKind.free) = true then do let c ← cellOf env name; pure (ForInStep.yield ((name, c) :: r)) else pure (ForInStep.yield r) : Sem (ForInStep (List (Str × Addr)))) : Sem (List (Str × Addr))) = pure cl ∧
      (∀ x c, cl.lookup x = some c → env.cells.lookup x = some c) ∧ (∀ x, (x, NameKind.free) ∈ names → ∃ c, cl.lookup x = some c) ∧ ∀ x c, acc.lookup x = some c → ∃ c', cl.lookup x = some c'
  | [], acc, _, ha => ⟨acc, rfl, ha, fun _ h => (nomatch h), fun x c h => ⟨c, h⟩⟩
  | (n, k) :: r, acc, hf, ha => by
    by_cases hk : k = .free
    · subst hk
      obtain ⟨c, hc⟩ := hf (n, .free) List.mem_cons_self rfl
      have ha' : ∀ x c', ((n, c) :: acc).lookup x = some c' → env.cells.lookup x = some c' := fun x c' h => by
        rw [List.lookup_cons] at h
        cases hx : x == n with
        | true =>
          rw [hx] at h
          cases h
          rw [eq_of_beq hx]; exact hc
        | false =>
          rw [hx] at h
          exact ha x c' h
      obtain ⟨cl, e, h1, h2, h3⟩ := closure_of r ((n, c) :: acc) (fun y hy => hf y (List.mem_cons_of_mem _ hy)) ha'
      refine ⟨cl, ?_, h1, fun x hx => ?_, fun x c' hx => ?_⟩
      · rw [List.forIn_cons]
        have ec : cellOf env n = pure c := by unfold cellOf; rw [hc]
        simp only [beq_self_eq_true, if_true, ec]
        exact e
      · rcases List.mem_cons.mp hx with z | z
        · cases z
          exact h3 n c (by rw [List.lookup_cons, beq_self_eq_true])
        · exact h2 x z
      · by_cases hxn : (x == n) = true
        · exact h3 x c (by rw [List.lookup_cons, hxn])
        · exact h3 x c' (by rw [List.lookup_cons]; simp only [hxn]; exact hx)
    · obtain ⟨cl, e, h1, h2, h3⟩ := closure_of r acc (fun y hy => hf y (List.mem_cons_of_mem _ hy)) ha
      refine ⟨cl, ?_, h1, fun x hx => ?_, h3⟩
      · rw [List.forIn_cons]
        have eb : (k == NameKind.free) = false := by simpa using hk
        simp only [eb, Bool.false_eq_true, if_false]
        exact e
      · rcases List.mem_cons.mp hx with z | z
        · cases z; exact absurd rfl hk
        · exact h2 x z
theorem closureFor_of {scope : Scope} {env : Env} (hf : ∀ y ∈ scope.names, y.2 = .free → ∃ c, env.cells.lookup y.1 = some c) :
    ∃ cl : List (Str × Addr), closureFor scope env = pure cl ∧ (∀ x c, cl.lookup x = some c → env.cells.lookup x = some c) ∧ ∀ x, (x, NameKind.free) ∈ scope.names → ∃ c, cl.lookup x = some c := by
  obtain ⟨cl, e, h1, h2, _⟩ := closure_of (env := env) scope.names [] hf (fun x c h => by simp at h)
  refine ⟨cl, ?_, h1, h2⟩
  unfold closureFor
  show (forIn scope.names ([] : List (Str × Addr)) _ >>= fun c => pure c) = pure cl
  refine Eq.trans (congrArg (fun (q : Sem (List (Str × Addr))) => q >>= fun c => pure c) e) ?_
  rfl
theorem relabel_from {scope : Scope} {env : Env} {x : Str} {k : NameKind} : ∀ {names : List (Str × NameKind)}, (names.map fun (n, k) => if (k == NameKind.free && env.scope.kind == .function && env.kindOf n == some .cell) then (n, NameKind.cell) else (n, k)).lookup x = some k →
    ∃ k', (x, k') ∈ names ∧ (k = k' ∨ (k' = .free ∧ k = .cell))
  | [], h => by simp at h
  | (n, j) :: r, h => by
    have h' : List.lookup x ((if (j == NameKind.free && env.scope.kind == .function && env.kindOf n == some .cell) = true then (n, NameKind.cell) else (n, j)) :: (r.map fun (n, k) => if (k == NameKind.free && env.scope.kind == .function && env.kindOf n == some .cell) then (n, NameKind.cell) else (n, k))) = some k := h
    by_cases hc : (j == NameKind.free && env.scope.kind == .function && env.kindOf n == some .cell) = true
    · rw [if_pos hc, List.lookup_cons] at h'
      cases hx : x == n with
      | true =>
        rw [hx] at h'
        cases h'
        have ej : j = .free := by
          simp only [Bool.and_eq_true] at hc
          exact eq_of_beq hc.1.1
        rw [eq_of_beq hx]
        exact ⟨.free, by rw [ej]; exact List.mem_cons_self, .inr ⟨rfl, rfl⟩⟩
      | false =>
        rw [hx] at h'
        obtain ⟨k', hm, q⟩ := relabel_from (scope := scope) (env := env) (names := r) h'
        exact ⟨k', List.mem_cons_of_mem _ hm, q⟩
    · rw [if_neg hc, List.lookup_cons] at h'
      cases hx : x == n with
      | true =>
        rw [hx] at h'
        cases h'
        rw [eq_of_beq hx]
        exact ⟨_, List.mem_cons_self, .inl rfl⟩
      | false =>
        rw [hx] at h'
        obtain ⟨k', hm, q⟩ := relabel_from (scope := scope) (env := env) (names := r) h'
        exact ⟨k', List.mem_cons_of_mem _ hm, q⟩
theorem relabel_free {env : Env} {x : Str} : ∀ {names : List (Str × NameKind)}, names.lookup x = some .free →
    (names.map fun (n, k) => if (k == NameKind.free && env.scope.kind == .function && env.kindOf n == some .cell) then (n, NameKind.cell) else (n, k)).lookup x = some .cell ∨
    (names.map fun (n, k) => if (k == NameKind.free && env.scope.kind == .function && env.kindOf n == some .cell) then (n, NameKind.cell) else (n, k)).lookup x = some .free
  | [], h => by simp at h
  | (n, j) :: r, h => by
    have ih := @relabel_free env x r
    show List.lookup x ((if (j == NameKind.free && env.scope.kind == .function && env.kindOf n == some .cell) = true then (n, NameKind.cell) else (n, j)) :: _) = _ ∨ List.lookup x ((if (j == NameKind.free && env.scope.kind == .function && env.kindOf n == some .cell) = true then (n, NameKind.cell) else (n, j)) :: _) = _
    by_cases hc : (j == NameKind.free && env.scope.kind == .function && env.kindOf n == some .cell) = true
    · rw [if_pos hc, List.lookup_cons]
      cases hx : x == n with
      | true => exact .inl rfl
      | false =>
        rw [List.lookup_cons, hx] at h
        exact ih h
    · rw [if_neg hc, List.lookup_cons]
      cases hx : x == n with
      | true =>
        rw [List.lookup_cons, hx] at h
        exact .inr h
      | false =>
        rw [List.lookup_cons, hx] at h
        exact ih h
noncomputable def capB (N : List Str) (sc scope : Scope) : List Str → List (Option Nat) → Bool
  | [], [] => true
  | _ :: xs, none :: cs => capB N sc scope xs cs
  | x :: xs, some j :: cs => (match N[j]? with | some y => y == x | none => false) && (match sc.names.lookup x with | some .cell => true | some .free => true | _ => false) &&
      (match scope.names.lookup x with | some .free => true | _ => false) && capB N sc scope xs cs
  | _, _ => false
theorem capB_len {N : List Str} {sc scope : Scope} : ∀ {xs : List Str} {cs : List (Option Nat)}, capB N sc scope xs cs = true → cs.length = xs.length
  | [], [], _ => rfl
  | _ :: xs, none :: cs, h => congrArg (· + 1) (capB_len (xs := xs) (cs := cs) h)
  | x :: xs, some j :: cs, h => by
    simp only [capB, Bool.and_eq_true] at h
    exact congrArg (· + 1) (capB_len (xs := xs) (cs := cs) h.2)
  | [], _ :: _, h => by simp [capB] at h
  | _ :: _, [], h => by simp [capB] at h
theorem capB_at {N : List Str} {sc scope : Scope} : ∀ {xs : List Str} {cs : List (Option Nat)}, capB N sc scope xs cs = true → ∀ (i : Nat) (x : Str) (j : Nat), xs[i]? = some x → cs[i]? = some (some j) →
    N[j]? = some x ∧ (sc.names.lookup x = some .cell ∨ sc.names.lookup x = some .free) ∧ scope.names.lookup x = some .free
  | [], [], _, i, x, j, h, _ => by simp at h
  | _ :: xs, none :: cs, h, 0, x, j, _, h2 => by simp at h2
  | _ :: xs, none :: cs, h, i + 1, x, j, h1, h2 => capB_at (xs := xs) (cs := cs) h i x j (by simpa using h1) (by simpa using h2)
  | y :: xs, some k :: cs, h, 0, x, j, h1, h2 => by
    simp only [capB, Bool.and_eq_true] at h
    obtain ⟨⟨⟨a, b⟩, c⟩, _⟩ := h
    have e1 : y = x := by simpa using h1
    have e2 : k = j := by simpa using h2
    subst e1 e2
    refine ⟨?_, ?_, ?_⟩
    · cases q : N[k]? with
      | none => rw [q] at a; simp at a
      | some z => rw [q] at a; rw [eq_of_beq a]
    · cases q : sc.names.lookup y with
      | none => rw [q] at b; simp at b
      | some z => rw [q] at b; cases z <;> first | exact .inl rfl | exact .inr rfl | simp at b
    · cases q : scope.names.lookup y with
      | none => rw [q] at c; simp at c
      | some z => rw [q] at c; cases z <;> first | rfl | simp at c
  | y :: xs, some k :: cs, h, i + 1, x, j, h1, h2 => by
    simp only [capB, Bool.and_eq_true] at h
    exact capB_at (xs := xs) (cs := cs) h.2 i x j (by simpa using h1) (by simpa using h2)
  | [], _ :: _, h, _, _, _, _, _ => by simp [capB] at h
  | _ :: _, [], h, _, _, _, _, _ => by simp [capB] at h
noncomputable def lcB (N : List Str) (sc scope : Scope) (N' : List Str) (cap : List (Option Nat)) : Bool :=
  capB N sc scope N' cap && (scope.kind == .function) && (scope.names.all fun y => y.2 != .cell) &&
  (scope.names.all fun y => y.2 != .local || scope.names.lookup y.1 == some .local) &&
  (scope.names.all fun y => y.2 != .free || sc.names.lookup y.1 == some .cell || sc.names.lookup y.1 == some .free)
noncomputable def capSt (cap : List (Option Nat)) (σ : St) : St := cap.map fun o => match o with
  | none => none
  | some j => match σ[j]? with
    | some v => v
    | none => none
noncomputable def lcCx (X : Cx) (scope : Scope) (N' : List Str) (cl : List (Str × Addr)) (C : Addr) (s : Shared) (H : Hp) (ex : List Addr) : Cx :=
  { X with N := N', s₀ := s, H₀ := H, env := compEnvC scope cl C X.env, outer := X.stack, ex := ex, fn := fun _ => false, pn := [], xe := fun _ _ => False }
section
variable {X : Cx} {pins : List (Addr × Obj)} {σ : St} {H : Hp} {s : Shared}
theorem lc_inv {scope : Scope} {N' : List Str} {cap : List (Option Nat)} {cl : List (Str × Addr)} {ex : List Addr} {h₁ : Heap} {m : Str → Option Value} (hB : lcB X.N X.env.scope scope N' cap = true) (I : Inv X pins σ H s)
    (c1 : ∀ x c, cl.lookup x = some c → X.env.cells.lookup x = some c) (c2 : ∀ x, (x, NameKind.free) ∈ scope.names → ∃ c, cl.lookup x = some c) (hf : ∀ b ∈ ex, FpOk X pins H b) (hex : ∀ b ∈ ex, b < s.heap.objs.size)
    (hn : h₁.Ns s.heap.objs.size m) (hk : ∀ b o, s.heap.get? b = some o → h₁.get? b = some o) {t' : Nat} :
    Inv (lcCx X scope N' cl s.heap.objs.size s H ex) [] (capSt cap σ) H { s with heap := h₁, toks := t' } := by
  simp only [lcB, Bool.and_eq_true] at hB
  obtain ⟨⟨⟨⟨b1, b2⟩, b3⟩, b4⟩, b5⟩ := hB
  have kind : scope.kind = .function := eq_of_beq b2
  have nocell : ∀ y ∈ scope.names, y.2 ≠ .cell := fun y hy => by
    have := List.all_eq_true.mp b3 y hy
    simpa using this
  have ok : (lcCx X scope N' cl s.heap.objs.size s H ex).Ok := by
    refine ⟨I.ok.mod, kind, I.ok.glob, I.ok.blt, Nat.le_refl _, fun x y c e1 e2 => I.ok.inj x y c (c1 x c e1) (c1 y c e2), fun x hx => ?_, fun x c e _ => (by cases e), I.ok.hd, I.ok.frames, .inl rfl, fun b hb => ⟨Nat.ne_of_lt (hex b hb), fun x c e => (hf b hb).2.2.2.2.1 x c (c1 x c e)⟩,
      I.bs, Nat.le_trans I.ok.bsz I.sz, fun b o e hb => ?_, fun b hb hb2 => ?_, I.stack, I.stkFree⟩
    · have hx' : ∃ k, (relabel scope X.env).names.lookup x = some k ∧ (k = .cell ∨ k = .free) := by
        rcases hx with z | z
        · exact ⟨.cell, z, .inl rfl⟩
        · exact ⟨.free, z, .inr rfl⟩
      obtain ⟨k, e, hkk⟩ := hx'
      obtain ⟨k', hm, q⟩ := relabel_from (scope := scope) (env := X.env) (names := scope.names) e
      have ek : k' = .free := by
        rcases q with q | q
        · rw [← q]
          rcases hkk with z | z
          · exact absurd (q.symm.trans z) (nocell _ hm)
          · exact z
        · exact q.1
      rw [ek] at hm
      exact c2 x hm
    · rcases (hf b hb).2.2.2.1 with z | z
      · exact I.ok.noex b o e z
      · exact absurd (Nat.lt_of_lt_of_le (Nat.lt_of_lt_of_le (Heap.lt_size e) I.ok.bsz) z) (Nat.lt_irrefl _)
    · rcases List.mem_cons.mp (I.stkSub b hb2) with z | z
      · exact (hf b hb).2.1 z
      · exact (hf b hb).2.2.1 z
  refine ⟨ok, rfl, I.bare, Un.kept hk, ⟨m, hn, fun i x v e1 e2 e3 => ?_⟩, fun x c e => ?_, I.hok.fresh (Nat.le_refl _), fun x c e => I.freeC x c (c1 x c e), fun p hp => absurd (show p ∈ ([] : List (Addr × Obj)) from hp) (by simp), I.hok.kept hk, ?_⟩
  · have e2' : (capSt cap σ)[i]? = some (some v) := e2
    unfold capSt at e2'
    rw [List.getElem?_map] at e2'
    cases ec : cap[i]? with
    | none => rw [ec] at e2'; simp at e2'
    | some o =>
      rw [ec] at e2'
      cases o with
      | none => simp at e2'
      | some j =>
        simp only [Option.map_some, Option.some.injEq] at e2'
        have ej : σ[j]? = some (some v) := by
          cases q : σ[j]? with
          | none => rw [q] at e2'; simp at e2'
          | some z => rw [q] at e2'; simp only at e2'; rw [e2']
        obtain ⟨q1, q2, q3⟩ := capB_at b1 i x j e1 ec
        obtain ⟨m0, hn0, hl0⟩ := I.loc
        obtain ⟨u, r, l⟩ := hl0 j x v q1 ej (by rcases q2 with z | z; exact .inr (.inl z); exact .inr (.inr z))
        refine ⟨u, r, ?_⟩
        rcases l with ⟨kl, _⟩ | ⟨_, c, hc, z⟩
        · have kl' : X.env.scope.names.lookup x = some .local := kl
          rcases q2 with q2 | q2 <;> (rw [q2] at kl'; cases kl')
        · obtain ⟨o, ho, hd⟩ := z
          obtain ⟨c', hc'⟩ := c2 x (PySem.mem_of_lookup q3)
          have : c' = c := by
            have := c1 x c' hc'
            rw [hc] at this
            exact (Option.some.inj this).symm
          subst this
          exact .inr ⟨relabel_free q3, c', hc', o, hk _ _ ho, hd⟩
  · obtain ⟨v, o, ho, hd⟩ := I.cell x c (c1 x c e)
    exact ⟨v, o, hk _ _ ho, hd⟩
  · show (capSt cap σ).length = N'.length
    unfold capSt
    rw [List.length_map]
    exact capB_len b1
end
noncomputable def tTrue : TT := fun _ H Q => Q true H
noncomputable def PIfs (X : Cx) (ifs : List Expr) (t : TT) : Prop :=
  ∀ (pins : List (Addr × Obj)) (s : Shared) (σ : St) (H : Hp) (Q : Bool → Hp → Prop), Inv X pins σ H s → t σ H Q →
    wpAny (model X.prog X.w) X.A (forIn ifs true fun c r => if r = true then do let ok ← isTrue c X.env (eval c X.env); pure (ForInStep.yield ok) else pure (ForInStep.yield r)) (TP X pins σ Q) X.xe s
theorem pif_nil {X : Cx} : PIfs X [] tTrue := fun _ _ _ H _ I h => wpAny_tests_nil ⟨H, I, h⟩
theorem pif_one {X : Cx} {c : Expr} {t : TT} (h : PT X c t) : PIfs X [c] t := fun pins s σ H Q I q => wpAny_tests_one (h pins s σ H Q I q)
section
variable {prog : Program} {w : World} {A : Around} {R : Result → Shared → Prop} {s : Shared}
theorem compLoop_go {elt target iter : Expr} {ifs : List Expr} {scope : Scope} {pos : Pos} {it acc : Value} {env : Env} (I : Nat → Shared → Prop)
    (turn : ∀ n s, I n s → wpAny (model prog w) A (pyNext it) (fun r s₁ => match r with
      | none => R (.ok .next) s₁
      | some v => wpAny (model prog w) A (letOwnedTupleGo target it v) (fun _ s₁' => wpAny (model prog w) A (assign target env v) (fun _ s₂ =>
          wpAny (model prog w) A (forIn ifs true fun c r => if r = true then do let ok ← isTrue c env (eval c env); pure (ForInStep.yield ok) else pure (ForInStep.yield r)) (fun ok s₃ =>
            if ok = true then wpAny (model prog w) A (eval elt env) (fun x s₄ =>
              wpAny (model prog w) A (call (.builtin "list.append") [acc, x]) (fun _ s₅ => ∃ m, m < n ∧ I m s₅) (fun _ _ => False) s₄) (fun _ _ => False) s₃
            else ∃ m, m < n ∧ I m s₃) (fun _ _ => False) s₂) (fun _ _ => False) s₁') (fun _ _ => False) s₁) (fun _ _ => False) s)
    (n : Nat) (h : I n s) :
    codeAny (model prog w) A (.compLoop (.ListComp elt [⟨target, iter, ifs, 0⟩] scope pos) 0 it acc env) R s := by
  refine codeAny_loop rfl I (fun n s hI => ?_) n h
  show wpAny _ A ((compTurn (.ListComp elt [⟨target, iter, ifs, 0⟩] scope pos) 0 it acc env).onRaise (fun x => do noteFrame x env; theTreesLotGoes x)) _ _ s
  refine wpAny_noted ?_
  rw [compTurn_list]
  refine wpAny_bind (wpAny_standAt (wpAny_bind (wpAny_mono (turn n s hI) (fun r s₁ h₁ => ?_) fun _ _ h' => h'.elim)))
  cases r with
  | none => exact wpAny_pure h₁
  | some v =>
    refine wpAny_bind (wpAny_mono h₁ (fun _ s₁' h₁' => wpAny_bind (wpAny_mono h₁' (fun _ s₂ h₂ => wpAny_bind (wpAny_mono h₂ (fun ok s₃ h₃ => ?_) fun _ _ h' => h'.elim)) fun _ _ h' => h'.elim)) fun _ _ h' => h'.elim)
    cases ok with
    | false => exact wpAny_pure ⟨rfl, h₃⟩
    | true =>
      exact wpAny_bind (wpAny_bind (wpAny_mono h₃ (fun x s₄ h₄ => wpAny_bind (wpAny_mono h₄ (fun _ s₅ h₅ => wpAny_pure (wpAny_pure ⟨rfl, h₅⟩)) fun _ _ h' => h'.elim)) fun _ _ h' => h'.elim))
end
noncomputable def CapK (a b : St) : Prop := ∀ (j : Nat) v, a[j]? = some (some v) → b[j]? = some (some v)
theorem CapK.refl {a : St} : CapK a a := fun _ _ h => h
theorem CapK.set {a b : St} {i : Nat} {v : Option V} (h : CapK a b) (hi : a[i]? = some none) : CapK a (b.set i v) := fun j u e => by
  by_cases hj : j = i
  · subst hj; rw [hi] at e; cases e
  · rw [List.getElem?_set_ne (Ne.symm hj)]; exact h j u e
noncomputable def lcRd (J : It) (cap : List (Option Nat)) (g : TG) (tc : TT) (te : TE) (σ : St) (H1 : Hp) (Q : VK) : Prop :=
  ∀ D, H1 D = none → ∃ W : Nat → Nat → Hp → Prop, (∃ m, W 0 m (upd H1 D (.lst []))) ∧ ∀ i m H, W i m H →
    (J.stop i H ∧ Q (.ref D) H) ∨ (J.go i H ∧ ∀ x H', J.yld i H x H' → g x (capSt cap σ) H' fun σ2 H2 => CapK (capSt cap σ) σ2 ∧ tc σ2 H2 fun b H3 =>
      if b = true then te σ2 H3 fun y H4 => ∃ xs, H4 D = some (.lst xs) ∧ xs.length < sizeLine ∧ ∃ m', m' < m ∧ W (i + 1) m' (upd H4 D (.lst (xs ++ [y])))
      else ∃ m', m' < m ∧ W (i + 1) m' H3)
noncomputable def tLC (wi : TI) (cap : List (Option Nat)) (g : TG) (tc : TT) (te : TE) : TE := fun σ H Q => wi σ H fun J H1 => lcRd J cap g tc te σ H1 Q
section
variable {X : Cx} {pins : List (Addr × Obj)} {σ : St} {H : Hp} {s : Shared} {tg elt iter : Expr} {ifs : List Expr} {scope : Scope} {pos : Pos} {N' : List Str} {cap : List (Option Nat)} {g : TG} {tc : TT} {te : TE}
theorem lc_block {E : Value → Shared → Prop} {J : It} {fp : List Addr} {it : Addr} {tn : Nat → Heap → Prop} {Q : VK} {cl : List (Str × Addr)} {RR : Value → Addr → Result → Shared → Prop} (hc : X.calm = true) (hB : lcB X.N X.env.scope scope N' cap = true)
    (hg : ∀ cl C s₀ H₀ ex, PG (lcCx X scope N' cl C s₀ H₀ ex) tg g) (hi : ∀ cl C s₀ H₀ ex, PIfs (lcCx X scope N' cl C s₀ H₀ ex) ifs tc) (he : ∀ cl C s₀ H₀ ex, PE (lcCx X scope N' cl C s₀ H₀ ex) elt te)
    (c1 : ∀ x c, cl.lookup x = some c → X.env.cells.lookup x = some c) (c2 : ∀ x, (x, NameKind.free) ∈ scope.names → ∃ c, cl.lookup x = some c)
    (I : Inv X pins σ H s) (T : Turn X.prog X.w X.K tg J fp it tn) (st : tn 0 s.heap) (hf : ∀ b ∈ fp, FpOk X pins H b) (rd : lcRd J cap g tc te σ H Q)
    (hRR : ∀ D C s' m H', Inv X pins σ H' s' → s'.heap.Ns C m → FpOk X pins H' C → Q (.ref D) H' → RR (.ref D) C (.ok .next) s') :
    wpAny (model X.prog X.w) X.A (newList []) (fun acc s₃ => wpAny (model X.prog X.w) X.A (newFunctionEnv scope X.env.globals cl [] X.env.qual none .none (some X.env)) (fun cenv s₄ =>
      codeAny (model X.prog X.w) X.A (.compStart (.ListComp elt [⟨tg, iter, ifs, 0⟩] scope pos) 0 (.ref it) acc { cenv with scope := relabel scope X.env }) (RR acc cenv.locals) s₄) E s₃) E s := by
  have hB' := hB
  simp only [lcB, Bool.and_eq_true] at hB'
  obtain ⟨⟨⟨⟨b1, b2⟩, b3⟩, b4⟩, b5⟩ := hB'
  have kind : scope.kind = .function := eq_of_beq b2
  have nocell : ∀ y ∈ scope.names, y.2 ≠ .cell := fun y hy => by
    have := List.all_eq_true.mp b3 y hy
    simpa using this
  have hfp : ∀ b ∈ fp, b < s.heap.objs.size := fun b hb => let ⟨o, e, _⟩ := T.obj 0 _ st b hb; Heap.lt_size e
  refine wpAny_newObj_type (wpAny_newFunctionEnv nocell (by intro y hy; simp at hy) (fun h₁ hns₁ hsb₁ => ?_) kind)
  dsimp only at hns₁ hsb₁ ⊢
  have I3 : Inv X pins σ (upd H s.heap.objs.size (.lst [])) { s with heap := s.heap.push { cls := .type "list", data := .seq ([] : List Value).toArray }, toks := s.toks } := I.lnew (ys := []) (its := []) .nil (Nat.zero_le _)
  generalize hs3 : ({ s with heap := s.heap.push { cls := .type "list", data := .seq ([] : List Value).toArray }, toks := s.toks } : Shared) = s3 at I3
  have eh : s3.heap = s.heap.push { cls := .type "list", data := .seq ([] : List Value).toArray } := by rw [← hs3]
  have sz3 : s3.heap.objs.size = s.heap.objs.size + 1 := by rw [eh, Heap.size_push]
  obtain ⟨W, ⟨m0, w0⟩, turn⟩ := rd s.heap.objs.size (I.hok.fresh (Nat.le_refl _))
  have hf3 : ∀ b ∈ fp, FpOk X pins (upd H s.heap.objs.size (.lst [])) b := fun b hb => ⟨by rw [upd_ne (Nat.ne_of_lt (hfp b hb))]; exact (hf b hb).1, (hf b hb).2⟩
  have hex3 : ∀ b ∈ fp, b < s3.heap.objs.size := fun b hb => by rw [sz3]; exact Nat.lt_succ_of_lt (hfp b hb)
  have hns₁' : h₁.Ns s3.heap.objs.size (fun x => ([] : List (Str × Value)).reverse.lookup x) := by rw [eh]; exact hns₁
  have old : ∀ b o, s3.heap.get? b = some o → h₁.get? b = some o := fun b o e => by
    refine hsb₁.extBut b o ?_ (Heap.get?_push_of_some _ (by rw [← eh]; exact e))
    rw [← eh]
    exact Nat.ne_of_lt (Heap.lt_size e)
  have I4 := lc_inv (t' := s.toks) hB I3 c1 c2 hf3 hex3 hns₁' old
  have old0 : ∀ b o, s.heap.get? b = some o → h₁.get? b = some o := fun b o e => old b o (by rw [eh]; exact Heap.get?_push_of_some _ e)
  have st4 : tn 0 h₁ := T.keep _ _ _ st fun b _ o e => old0 b o e
  have eC : (s.heap.push { cls := .type "list", data := .seq ([] : List Value).toArray }).objs.size = s3.heap.objs.size := by rw [eh]
  have stat : ∀ {H' : Hp}, (∀ b ∈ fp, H' b = none) → ∀ b ∈ fp, FpOk (lcCx X scope N' cl s3.heap.objs.size s3 (upd H s.heap.objs.size (.lst [])) fp) [] H' b := fun hn b hb =>
    ⟨hn b hb, Nat.ne_of_lt (hex3 b hb), fun z => by
      rcases List.mem_cons.mp (I3.stkSub b z) with q | q
      · exact (hf b hb).2.1 q
      · exact (hf b hb).2.2.1 q, .inl hb, fun x c e => (hf b hb).2.2.2.2.1 x c (c1 x c e), fun p hp => absurd (show p ∈ ([] : List (Addr × Obj)) from hp) (by simp)⟩
  have loop : ∀ s₃ : Shared, s₃ = { s with heap := h₁, toks := s.toks + ([] : List (Str × Value)).length } →
      codeAny (model X.prog X.w) X.A (.compLoop (.ListComp elt [⟨tg, iter, ifs, 0⟩] scope pos) 0 (.ref it) (.ref s.heap.objs.size) (compEnvC scope cl s3.heap.objs.size X.env)) (RR (.ref s.heap.objs.size) s3.heap.objs.size) s₃ := by
    rintro s₃ rfl
    refine compLoop_go (fun n s' => ∃ i σ' H', Inv (lcCx X scope N' cl s3.heap.objs.size s3 (upd H s.heap.objs.size (.lst [])) fp) [] σ' H' s' ∧ (∀ (j : Nat) v, (capSt cap σ)[j]? = some (some v) → σ'[j]? = some (some v)) ∧ tn i s'.heap ∧ (∀ b ∈ fp, H' b = none) ∧ W i n H') ?_ m0 ?_
    · rintro n s' ⟨i, σ', H', I', wk, st', fr', w'⟩
      have I'' := I'.weak (σ' := capSt cap σ) (by rw [I'.len]; show (capSt cap σ).length = N'.length; unfold capSt; rw [List.length_map]; exact capB_len b1) wk
      rcases turn i n H' w' with ⟨stop, q⟩ | ⟨go, step⟩
      · refine thn (T.done (lcCx X scope N' cl s3.heap.objs.size s3 (upd H s.heap.objs.size (.lst [])) fp) rfl rfl rfl hc i [] s' (capSt cap σ) H' _ I'' (stat fr') st' stop) fun r s4 ⟨hr, I4'⟩ => ?_
        subst hr
        have u : Un (frs X.stack) fp H H' s.heap s4.heap := (Un.laid (o := .lst []) (fun b o e => by show s3.heap.get? b = some o; rw [eh]; exact Heap.get?_push_of_some _ e) (Nat.le_refl _) (I.hok.fresh (Nat.le_refl _))).trans I4'.base
        have IX : Inv X pins σ H' s4 := I.call' (I4'.os.trans (by show s3.os = s.os; rw [← hs3])) u I4'.hok I4'.bare fun b hb => ⟨(hf b hb).2.2.2.1, (hf b hb).2.1, (hf b hb).2.2.2.2.1, (hf b hb).2.2.2.2.2⟩
        obtain ⟨m', hm', _⟩ := I4'.loc
        exact hRR _ _ s4 m' H' IX hm' (I.fpOk (by rw [sz3]; exact Nat.le_succ _) I4'.free) q
      · refine thn (T.item (lcCx X scope N' cl s3.heap.objs.size s3 (upd H s.heap.objs.size (.lst [])) fp) rfl rfl rfl hc i [] s' (capSt cap σ) H' _ I'' (stat fr') st' go) fun r s4 ⟨v, hr, h4⟩ => ?_
        subst hr
        refine thn h4 fun _ s5 ⟨x, H5, I5, r5, y5, st5, fr5⟩ => ?_
        have I5' := I5.pinned (stat fr5) (T.obj _ _ st5)
        refine thn (hg _ _ _ _ _ _ s5 (capSt cap σ) H5 x v _ I5' r5 (step x H5 y5)) fun _ s6 ⟨σ6, H6, I6, kc6, q6⟩ => ?_
        refine thn (hi _ _ _ _ _ _ s6 σ6 H6 _ I6 q6) fun ok s7 ⟨H7, I7, q7⟩ => ?_
        have keepT : ∀ {s8 : Shared} {σ8 : St} {H8 : Hp}, Inv (lcCx X scope N' cl s3.heap.objs.size s3 (upd H s.heap.objs.size (.lst [])) fp) ([] ++ pinsAt fp s5.heap) σ8 H8 s8 → tn (i + 1) s8.heap ∧ ∀ b ∈ fp, H8 b = none := fun {s8 σ8 H8} I8 =>
          ⟨T.keep _ _ _ st5 fun b hb o e => (I8.pin (b, o) (List.mem_append_right _ (List.mem_append_right _ (mem_pinsAt hb e)))).1, fun b hb => by
            obtain ⟨o, e, d⟩ := T.obj _ _ st5 b hb
            exact (I8.pin (b, o) (List.mem_append_right _ (List.mem_append_right _ (mem_pinsAt hb e)))).2.1⟩
        have again : ∀ {s8 : Shared} {H8 : Hp} {m' : Nat}, Inv (lcCx X scope N' cl s3.heap.objs.size s3 (upd H s.heap.objs.size (.lst [])) fp) ([] ++ pinsAt fp s5.heap) σ6 H8 s8 → m' < n → W (i + 1) m' H8 →
            ∃ m, m < n ∧ ∃ i σ' H', Inv (lcCx X scope N' cl s3.heap.objs.size s3 (upd H s.heap.objs.size (.lst [])) fp) [] σ' H' s8 ∧ (∀ (j : Nat) v, (capSt cap σ)[j]? = some (some v) → σ'[j]? = some (some v)) ∧ tn i s8.heap ∧ (∀ b ∈ fp, H' b = none) ∧ W i m H' := fun {s8 H8 m'} I8 lt w8 => by
          obtain ⟨k1, k2⟩ := keepT I8
          exact ⟨m', lt, i + 1, σ6, H8, I8.unpinned, kc6, k1, k2, w8⟩
        cases ok with
        | false =>
          rw [if_neg Bool.false_ne_true] at q7 ⊢
          obtain ⟨m', lt, w8⟩ := q7
          exact again I7 lt w8
        | true =>
          rw [if_pos rfl] at q7 ⊢
          refine thn (he _ _ _ _ _ _ s7 σ6 H7 _ I7 q7) fun y s8 ⟨vy, H8, I8, ry, xs, hD, hz, m', lt, w8⟩ => ?_
          refine thn (mt_append (X := lcCx X scope N' cl s3.heap.objs.size s3 (upd H s.heap.objs.size (.lst [])) fp) _ s8 σ6 H8 (.ref s.heap.objs.size) [vy] _ _ (fun _ H' => H' = upd H8 s.heap.objs.size (.lst (xs ++ [vy]))) I8 rfl (.cons ry .nil) ⟨_, xs, vy, rfl, rfl, hD, hz, rfl⟩) fun _ s9 ⟨_, H9, I9, _, e9⟩ => ?_
          subst e9
          exact again I9 lt w8
    · have eS : ({ s3 with heap := h₁, toks := s.toks } : Shared) = { s with heap := h₁, toks := s.toks + ([] : List (Str × Value)).length } := by rw [← hs3]; rfl
      exact ⟨0, capSt cap σ, upd H s.heap.objs.size (.lst []), eS ▸ I4, fun _ _ h => h, st4, fun b hb => (hf3 b hb).1, w0⟩
  rw [eC]
  exact codeAny_compStart_list (loop _ rfl) (T.self _ 0 _ _ _ st4 (loop _ rfl))
theorem lcB_names (hB : lcB X.N X.env.scope scope N' cap = true) : ∀ x ∈ scope.names, x.2 = .local → scope.names.lookup x.1 = some .local := fun y hy e => by
  simp only [lcB, Bool.and_eq_true] at hB
  have := List.all_eq_true.mp hB.1.2 y hy
  rw [e] at this
  simpa using this
theorem lcB_clos (hB : lcB X.N X.env.scope scope N' cap = true) (ok : X.Ok) : ∃ cl : List (Str × Addr), closureFor scope X.env = pure cl ∧ (∀ x c, cl.lookup x = some c → X.env.cells.lookup x = some c) ∧ ∀ x, (x, NameKind.free) ∈ scope.names → ∃ c, cl.lookup x = some c := by
  refine closureFor_of fun y hy e => ok.has y.1 ?_
  simp only [lcB, Bool.and_eq_true] at hB
  have := List.all_eq_true.mp hB.2 y hy
  rw [e] at this
  simp only [bne_self_eq_false, Bool.false_or, Bool.or_eq_true] at this
  rcases this with z | z
  · exact .inl (eq_of_beq z)
  · exact .inr (eq_of_beq z)
theorem pe_lc {wi : TI} (N : List Str) (sc : Scope) (hc : X.calm = true) (hB0 : lcB N sc scope N' cap = true) (hNN : X.N = N) (hsc : X.env.scope = sc) (hit : PI X tg iter wi)
    (hg : ∀ cl C s₀ H₀ ex, PG (lcCx X scope N' cl C s₀ H₀ ex) tg g) (hi : ∀ cl C s₀ H₀ ex, PIfs (lcCx X scope N' cl C s₀ H₀ ex) ifs tc) (he : ∀ cl C s₀ H₀ ex, PE (lcCx X scope N' cl C s₀ H₀ ex) elt te)
    (hs : ∀ x, foldedSetIterable iter X.env x = pure x := by intro _; rfl) : PE X (.ListComp elt [⟨tg, iter, ifs, 0⟩] scope pos) (tLC wi cap g tc te) := by
  intro pins s σ H Q I h
  have hB : lcB X.N X.env.scope scope N' cap = true := by rw [hNN, hsc]; exact hB0
  have kind : scope.kind = .function := by
    simp only [lcB, Bool.and_eq_true] at hB
    exact eq_of_beq hB.1.1.1.2
  obtain ⟨cl, ecl, c1, c2⟩ := lcB_clos hB I.ok
  rw [eval_ListComp]
  refine wpAny_comprehension_free (use := none) rfl hs ecl kind (lcB_names hB) (thn (hit pins s σ H _ I h) fun v s1 h1 => thn h1 fun itv s2 h2 => ?_)
  obtain ⟨it, fp, tn, J, H2, e, I2, T, st2, f2, rd⟩ := h2
  subst e
  refine lc_block (RR := fun acc C => compPost (model X.prog X.w) X.A X.xe none (EP X pins σ Q) acc C) hc hB hg hi he c1 c2 I2 T st2 f2 rd fun D C s' m H' I' hm fC q => ?_
  exact ⟨m, hm, fun h' hs' => ⟨.ref D, H', I'.turned (t' := s'.toks) (it := C) (fun b o hb e => (hs'.2 b hb).trans e) fC.1 fC.2.1 fC.2.2.2.1 fC.2.2.2.2.1 fC.2.2.2.2.2, rfl, q⟩⟩
theorem ps_setLC {wi : TI} {i : Nat} {y : Str} {ypos spos : Pos} (hN : X.N.Nodup) (hiy : X.N[i]? = some y) (hy : Loc X.env.scope y) (N : List Str) (sc : Scope) (hc : X.calm = true) (hB0 : lcB N sc scope N' cap = true) (hNN : X.N = N) (hsc : X.env.scope = sc) (hit : PI X tg iter wi)
    (hg : ∀ cl C s₀ H₀ ex, PG (lcCx X scope N' cl C s₀ H₀ ex) tg g) (hi : ∀ cl C s₀ H₀ ex, PIfs (lcCx X scope N' cl C s₀ H₀ ex) ifs tc) (he : ∀ cl C s₀ H₀ ex, PE (lcCx X scope N' cl C s₀ H₀ ex) elt te)
    (hsw : swapsWith (.ListComp elt [⟨tg, iter, ifs, 0⟩] scope pos) (some (.Name y ypos)) spos.line X.env = pure true := by rfl)
    (hs : ∀ x, foldedSetIterable iter X.env x = pure x := by intro _; rfl) (hf : X.fn y = true ∨ X.env.scope.names.lookup y = some .local := by first | exact .inl rfl | exact .inr rfl | assumption) :
    PS X (.Assign [.Name y ypos] (.ListComp elt [⟨tg, iter, ifs, 0⟩] scope pos) spos) (tAsg (tLC wi cap g tc te) (gName i)) := by
  intro pins s σ H D I h
  have hB : lcB X.N X.env.scope scope N' cap = true := by rw [hNN, hsc]; exact hB0
  have kind : scope.kind = .function := by
    simp only [lcB, Bool.and_eq_true] at hB
    exact eq_of_beq hB.1.1.1.2
  obtain ⟨cl, ecl, c1, c2⟩ := lcB_clos hB I.ok
  rw [exec_Assign_Name_used _ _ _ _ hsw]
  refine wpAny_bind (wpAny_standAt (wpAny_bind ?_))
  show wpAny _ X.A (do let _ ← comprehension (.ListComp elt [⟨tg, iter, ifs, 0⟩] scope pos) scope X.env _ (newList []) false (eval iter X.env) (some (assign (.Name y ypos) X.env))) _ _ s
  refine wpAny_bind (wpAny_mono (wpAny_comprehension_free (use := some (assign (.Name y ypos) X.env)) (Q := fun _ s' => SP X pins D .next s') rfl hs ecl kind (lcB_names hB)
    (thn (hit pins s σ H _ I h) fun v s1 h1 => thn h1 fun itv s2 h2 => ?_)) (fun _ s' hq => wpAny_pure (wpAny_pure hq)) fun _ _ e => e)
  obtain ⟨it, fp, tn, J, H2, e, I2, T, st2, f2, rd⟩ := h2
  subst e
  refine lc_block (RR := fun acc C => compPost (model X.prog X.w) X.A X.xe (some (assign (.Name y ypos) X.env)) (fun _ s' => SP X pins D .next s') acc C) hc hB hg hi he c1 c2 I2 T st2 f2 rd fun Da C s' m H' I' hm fC q => ?_
  show wpAny _ X.A (assign (.Name y ypos) X.env (.ref Da)) _ _ _
  refine wpAny_assign_Name (store_ok2 (v := .ref Da) I' hN hiy hy rfl (fun s'' I'' ⟨a, hsa, hav⟩ => ?_) hf)
  have haC : C ≠ a := by
    rcases hav with z | z
    · rw [z]; exact fC.2.1
    · exact (fC.2.2.2.2.1 y a z).symm
  refine ⟨m, hm.sameBut hsa haC, fun h' hs' => ⟨σ.set i (some (.ref Da)), H', I''.turned (t' := s''.toks) (it := C) (fun b o hb e => (hs'.2 b hb).trans e) fC.1 fC.2.1 fC.2.2.2.1 fC.2.2.2.2.1 fC.2.2.2.2.2, q⟩⟩
end
end L2
namespace L2
open PySem PySem.Spec PyProof.Rows
noncomputable def CDivB (_ j : Int) : Prop := 0 < j ∧ j.natAbs.log2 < 9000
noncomputable def CMulB (i j : Int) : Prop := i.natAbs < 2 ^ 8000 ∧ j.natAbs < 2 ^ 8000
theorem bits_le {i : Int} (h : i.natAbs < 2 ^ 8000) : Builtin.Int.intBits i ≤ 2 ^ 20 := by
  unfold Builtin.Int.intBits
  split
  · exact Nat.zero_le _
  · rename_i h0
    have hz : i.natAbs ≠ 0 := by
      intro z
      apply h0
      have : i = 0 := by omega
      rw [this]; rfl
    have : i.natAbs.log2 < 8000 := (Nat.log2_lt hz).mpr h
    have e : (2 : Nat) ^ 20 = 1048576 := by decide
    omega
section
variable {X : Cx}
theorem op_fdivB : OpR X (binaryOp .FloorDiv) (rI CDivB fun i j => .int (i / j)) := opI fun i j _ _ _ _ _ hc q => by
  have e : i.fdiv j = i / j := by rw [Int.fdiv_eq_ediv_of_nonneg _ (Int.le_of_lt hc.1)]
  exact floordiv_int (Int.ne_of_gt hc.1) (by rw [e]; exact q) (.inl (PyProof.noPylong_of_log2 hc.2))
theorem op_mulB : OpR X (binaryOp .Mult) (rI CMulB fun i j => .int (i * j)) := opI fun _ _ _ _ _ _ _ hc q => mul_int q (IntMulOk.of_bits (bits_le hc.1) (bits_le hc.2))
end
theorem ints_vals : ∀ {ns : List Int} {vs : List Value}, Vals (ns.map V.int) vs → IntsAre vs ns
  | [], _, .nil => .nil
  | n :: ns, _, .cons r t => by
    obtain ⟨k, rfl⟩ := r
    exact .cons n k (ints_vals t)
section
variable {X : Cx}
theorem call_sumL (hc : X.calm = true) : CallR X (.builtin "sum") (fun xs H Q => ∃ (p : Addr) (ns : List Int), xs = [.ref p] ∧ SqL X.K H p (ns.map V.int) ∧ Q (.int ns.sum) H) := by
  intro pins s σ H xs us Q I r q
  obtain ⟨p, ns, rfl, hq, q⟩ := q
  obtain ⟨u, rfl, ru⟩ := r.one
  cases ru
  obtain ⟨its, rv, pl, hz⟩ := I.list hq
  have hi := ints_vals rv
  obtain ⟨zs, e⟩ := hi.allInts.items
  have hns : ns = zs.toList.map (·.1) := by rw [← hi.numsOf, ← nums_intItems, ← e]
  have hl := pl.isList
  rw [e] at hl
  refine sum_intListG (I.ok.hd hc) hl fun h' tk t' hk => ?_
  have e2 : preSum (numAt zs) zs.size = ns.sum := by rw [preSum_eq, List.take_of_length_le (by simp), ← hns]
  rw [e2]
  exact ⟨.int ns.sum, H, I.kept hk, ⟨_, rfl⟩, q⟩
theorem call_minL (hc : X.calm = true) : CallR X (.builtin "min") (fun xs H Q => ∃ (p : Addr) (ns : List Int), xs = [.ref p] ∧ SqL X.K H p (ns.map V.int) ∧ 0 < ns.length ∧ ∀ M, M ∈ ns → (∀ a, a ∈ ns → M ≤ a) → Q (.int M) H) := by
  intro pins s σ H xs us Q I r q
  obtain ⟨p, ns, rfl, hq, hne, q⟩ := q
  obtain ⟨u, rfl, ru⟩ := r.one
  cases ru
  obtain ⟨its, rv, pl, hz⟩ := I.list hq
  have hi := ints_vals rv
  obtain ⟨zs, e⟩ := hi.allInts.items
  have hns : ns = zs.toList.map (·.1) := by rw [← hi.numsOf, ← nums_intItems, ← e]
  have hl := pl.isList
  rw [e] at hl
  have hsz : 0 < zs.size := by
    have h3 := hne; rw [hns, List.length_map, Array.length_toList] at h3; exact h3
  refine min_intList (I.ok.hd hc) hl hsz fun v h' tk hv hk => ?_
  obtain ⟨t, rfl⟩ := intItems_at hv
  obtain ⟨h1, h2⟩ := argBest_lt (numAt zs) (zs.size - 1)
  refine ⟨.int _, H, I.kept hk, ⟨t, rfl⟩, q _ ?_ fun a ha => ?_⟩
  · rw [hns, numAt_eq]; exact getD_mem (by rw [List.length_map, Array.length_toList]; omega)
  · rw [hns] at ha
    obtain ⟨j, hj, rfl⟩ := mem_getD ha
    rw [List.length_map, Array.length_toList] at hj
    rw [← numAt_eq]; exact h2 j (by omega)
end
section
variable {X : Cx} {e : Expr} {te : TE} {pos p2 p3 p4 : Pos} {j : Nat}
end
mutual
noncomputable def Has (K : PySem.W.Frag) (H : Hp) : PyData → V → Prop
  | .none, v => v = .non
  | .bool b, v => v = .bl b
  | .int i, v => v = .int i
  | .str x, v => v = .str x ∧ (PyData.str x).canLay0 = true
  | .list ds, v => ∃ a xs, v = .ref a ∧ SqL K H a xs ∧ HasL K H ds xs
  | .tuple ds, v => ∃ a xs, v = .ref a ∧ SqT K H a xs ∧ HasL K H ds xs
  | .dict _, _ => False
noncomputable def HasL (K : PySem.W.Frag) (H : Hp) : List PyData → List V → Prop
  | [], vs => vs = []
  | d :: ds, vs => ∃ v r, vs = v :: r ∧ Has K H d v ∧ HasL K H ds r
end
theorem Same.seqT {K : PySem.W.Frag} {H H' : Hp} {a : Addr} {xs : List V} (e : Same H H') (h : SqT K H a xs) : SqT K H' a xs := by
  rcases h with (h | ⟨o, h⟩) | h
  · exact .inl (.inl (e _ _ h))
  · exact .inl (.inr ⟨o, e _ _ h⟩)
  · exact .inr h
mutual
theorem Has.same {K : PySem.W.Frag} {H H' : Hp} (e : Same H H') : ∀ {d : PyData} {v : V}, Has K H d v → Has K H' d v
  | .none, _, h => h
  | .bool _, _, h => h
  | .int _, _, h => h
  | .str _, _, h => h
  | .list _, _, ⟨a, xs, h1, h2, h3⟩ => ⟨a, xs, h1, e.seq h2, HasL.same e h3⟩
  | .tuple _, _, ⟨a, xs, h1, h2, h3⟩ => ⟨a, xs, h1, e.seqT h2, HasL.same e h3⟩
theorem HasL.same {K : PySem.W.Frag} {H H' : Hp} (e : Same H H') : ∀ {ds : List PyData} {vs : List V}, HasL K H ds vs → HasL K H' ds vs
  | [], _, h => h
  | _ :: _, _, ⟨v, r, h1, h2, h3⟩ => ⟨v, r, h1, Has.same e h2, HasL.same e h3⟩
end
theorem HasL.length {K : PySem.W.Frag} {H : Hp} : ∀ {ds : List PyData} {vs : List V}, HasL K H ds vs → ds.length = vs.length
  | [], vs, h => by
    have h' : vs = [] := h
    rw [h']; rfl
  | _ :: _, _, ⟨v, r, h1, _, h3⟩ => by rw [h1]; exact congrArg (· + 1) (HasL.length h3)
theorem HasL.get {K : PySem.W.Frag} {H : Hp} : ∀ {ds : List PyData} {vs : List V} {i : Nat} {v : V}, HasL K H ds vs → vs[i]? = some v → ∃ d, ds[i]? = some d ∧ Has K H d v
  | [], vs, i, v, h, e => by
    have h' : vs = [] := h
    rw [h'] at e; simp at e
  | d :: _, _, 0, v, ⟨u, r, h1, h2, h3⟩, e => by
    rw [h1] at e
    have : u = v := by simpa using e
    subst this; exact ⟨d, rfl, h2⟩
  | _ :: ds, _, i + 1, v, ⟨u, r, h1, h2, h3⟩, e => by
    rw [h1] at e
    obtain ⟨d, q1, q2⟩ := HasL.get (i := i) (v := v) h3 (by simpa using e)
    exact ⟨d, by simpa using q1, q2⟩
theorem HasL.at {K : PySem.W.Frag} {H : Hp} : ∀ {ds : List PyData} {vs : List V} {i : Nat} {d : PyData}, HasL K H ds vs → ds[i]? = some d → ∃ v, vs[i]? = some v ∧ Has K H d v
  | [], _, i, d, _, e => by simp at e
  | d' :: _, _, 0, d, ⟨u, r, h1, h2, h3⟩, e => by
    have : d' = d := by simpa using e
    subst this; rw [h1]; exact ⟨u, rfl, h2⟩
  | _ :: ds, _, i + 1, d, ⟨u, r, h1, h2, h3⟩, e => by
    obtain ⟨v, q1, q2⟩ := HasL.at (i := i) (d := d) h3 (by simpa using e)
    rw [h1]; exact ⟨v, by simpa using q1, q2⟩
theorem HasL.snoc {K : PySem.W.Frag} {H : Hp} {d : PyData} {v : V} (hv : Has K H d v) : ∀ {ds : List PyData} {vs : List V}, HasL K H ds vs → HasL K H (ds ++ [d]) (vs ++ [v])
  | [], vs, h => by
    have h' : vs = [] := h
    rw [h']; exact ⟨v, [], rfl, hv, rfl⟩
  | _ :: _, _, ⟨u, r, h1, h2, h3⟩ => by rw [h1]; exact ⟨u, r ++ [v], rfl, h2, HasL.snoc hv h3⟩
theorem HasL.append {K : PySem.W.Frag} {H : Hp} {es : List PyData} {us : List V} (h2 : HasL K H es us) : ∀ {ds : List PyData} {vs : List V}, HasL K H ds vs → HasL K H (ds ++ es) (vs ++ us)
  | [], vs, h => by
    have h' : vs = [] := h
    rw [h']; exact h2
  | _ :: _, _, ⟨u, r, g1, g2, g3⟩ => by rw [g1]; exact ⟨u, r ++ us, rfl, g2, HasL.append h2 g3⟩
theorem HasL.reverse {K : PySem.W.Frag} {H : Hp} : ∀ {ds : List PyData} {vs : List V}, HasL K H ds vs → HasL K H ds.reverse vs.reverse
  | [], vs, h => by
    have h' : vs = [] := h
    rw [h']; rfl
  | _ :: _, _, ⟨u, r, g1, g2, g3⟩ => by rw [g1, List.reverse_cons, List.reverse_cons]; exact HasL.snoc g2 (HasL.reverse g3)
theorem HasL.set {K : PySem.W.Frag} {H : Hp} {d : PyData} {v : V} (hv : Has K H d v) : ∀ {ds : List PyData} {vs : List V} (i : Nat), HasL K H ds vs → HasL K H (ds.set i d) (vs.set i v)
  | [], vs, _, h => by
    have h' : vs = [] := h
    rw [h']; rfl
  | _ :: _, _, 0, ⟨u, r, g1, g2, g3⟩ => by rw [g1]; exact ⟨v, r, rfl, hv, g3⟩
  | _ :: _, _, i + 1, ⟨u, r, g1, g2, g3⟩ => by rw [g1]; exact ⟨u, r.set i v, rfl, g2, HasL.set hv i g3⟩
theorem HasL.ints {K : PySem.W.Frag} {H : Hp} : ∀ {ns : List Int} {vs : List V}, HasL K H (ns.map PyData.int) vs ↔ vs = ns.map V.int
  | [], _ => Iff.rfl
  | n :: ns, vs => by
    constructor
    · rintro ⟨v, r, h1, h2, h3⟩
      have h2' : v = .int n := h2
      rw [h1, h2', HasL.ints.mp h3]; rfl
    · rintro rfl
      exact ⟨.int n, ns.map V.int, rfl, rfl, HasL.ints.mpr rfl⟩
section
variable {X : Cx} {pins : List (Addr × Obj)} {σ : St} {H : Hp} {s : Shared}
mutual
theorem Has.reads (I : Inv X pins σ H s) : ∀ {d : PyData} {v : V} {u : Value}, Has X.K H d v → RelV v u → ∃ as, Reads s.heap u d as
  | .none, v, u, h, r => by
    have h' : v = .non := h
    subst h'; cases r; exact ⟨_, .none⟩
  | .bool b, v, u, h, r => by
    have h' : v = .bl b := h
    subst h'; cases r; exact ⟨_, .bool b⟩
  | .int i, v, u, h, r => by
    have h' : v = .int i := h
    subst h'; obtain ⟨t, rfl⟩ := r; exact ⟨_, .int i t⟩
  | .str x, v, u, h, r => by
    have h' : v = .str x := h.1
    subst h'; obtain ⟨t, rfl⟩ := r; exact ⟨_, .str x t⟩
  | .list ds, v, u, h, r => by
    obtain ⟨a, xs, rfl, hq, hl⟩ := h
    cases r
    obtain ⟨its, rv, ⟨o, n, e, c, _, d⟩, hz⟩ := I.list hq
    obtain ⟨as, ra⟩ := HasL.reads I hl rv
    exact ⟨_, .list e c d (by simpa using ra)⟩
  | .tuple ds, v, u, h, r => by
    obtain ⟨a, xs, rfl, hq, hl⟩ := h
    cases r
    obtain ⟨its, rv, ⟨o, e, c, n, d⟩, hz⟩ := I.tuple hq
    obtain ⟨as, ra⟩ := HasL.reads I hl rv
    exact ⟨_, .tuple e c d (by simpa using ra)⟩
  | .dict _, _, _, h, _ => False.elim h
theorem HasL.reads (I : Inv X pins σ H s) : ∀ {ds : List PyData} {vs : List V} {us : List Value}, HasL X.K H ds vs → Vals vs us → ∃ as, ReadsAll s.heap us ds as
  | [], vs, us, h, r => by
    have h' : vs = [] := h
    subst h'; cases r; exact ⟨_, .nil⟩
  | d :: ds, vs, us, h, r => by
    obtain ⟨v, rr, rfl, h1, h2⟩ := h
    cases r with
    | cons r1 r2 =>
      obtain ⟨as, a1⟩ := Has.reads I h1 r1
      obtain ⟨bs, a2⟩ := HasL.reads I h2 r2
      exact ⟨_, .cons a1 a2⟩
end
end
mutual
theorem Has.can {K : PySem.W.Frag} {H : Hp} : ∀ {d : PyData} {v : V}, Has K H d v → d.canLay0 = true
  | .none, _, _ => rfl
  | .bool _, _, _ => rfl
  | .int _, _, _ => rfl
  | .str _, _, h => h.2
  | .list ds, _, ⟨_, _, _, _, h⟩ => by simp only [PyData.canLay0]; exact HasL.can h
  | .tuple ds, _, ⟨_, _, _, _, h⟩ => by simp only [PyData.canLay0]; exact HasL.can h
theorem HasL.can {K : PySem.W.Frag} {H : Hp} : ∀ {ds : List PyData} {vs : List V}, HasL K H ds vs → PyData.canLayAll0 ds = true
  | [], _, _ => rfl
  | d :: ds, _, ⟨_, _, _, h1, h2⟩ => by simp only [PyData.canLayAll0, Bool.and_eq_true]; exact ⟨Has.can h1, HasL.can h2⟩
end
noncomputable def rEqD (K : PySem.W.Frag) : R2 := fun x y H Q => ∃ d e, Has K H d x ∧ Has K H e y ∧ d.depth ≤ 60 ∧ Q (.bl (PyData.eqv d e)) H
noncomputable def rNeD (K : PySem.W.Frag) : R2 := fun x y H Q => ∃ d e, Has K H d x ∧ Has K H e y ∧ d.depth ≤ 60 ∧ Q (.bl (!PyData.eqv d e)) H
section
variable {X : Cx}
theorem op_eqD (hu : X.A.units + 64 < cLine) : OpR X (compareOp .Eq) (rEqD X.K) := by
  intro pins s σ H x y v u Q I rx ry h
  obtain ⟨d, e, hd, he, hk, q⟩ := h
  obtain ⟨as, ra⟩ := hd.reads I rx
  obtain ⟨bs, rb⟩ := he.reads I ry
  exact SeqAt.compareEq_reads ra rb hd.can he.can (by have := Nat.min_le_left d.depth e.depth; omega) ⟨.bl _, H, I, rfl, q⟩
theorem op_neD (hu : X.A.units + 64 < cLine) : OpR X (compareOp .NotEq) (rNeD X.K) := by
  intro pins s σ H x y v u Q I rx ry h
  obtain ⟨d, e, hd, he, hk, q⟩ := h
  obtain ⟨as, ra⟩ := hd.reads I rx
  obtain ⟨bs, rb⟩ := he.reads I ry
  exact SeqAt.compareNe_reads ra rb hd.can he.can (by have := Nat.min_le_left d.depth e.depth; omega) ⟨.bl _, H, I, rfl, q⟩
end
end L2
namespace L2
open PySem PySem.Spec PyProof.Rows
noncomputable def vR (i : Nat) : TE := fun σ H Q => match σ[i]? with
  | some (some v) => Q v H
  | _ => False
noncomputable def visB (sc : Scope) (x : Str) : Bool := match sc.names.lookup x with
  | some .local => true
  | some .cell => true
  | some .free => true
  | _ => false
noncomputable def locB (sc : Scope) (x : Str) : Bool := match sc.names.lookup x with
  | some .local => true
  | some .cell => true
  | _ => false
noncomputable def glB (sc : Scope) (x : Str) : Bool := match sc.names.lookup x with
  | some .globalImplicit => true
  | _ => false
noncomputable def visC (sc : Scope) (x : Str) : Bool := match sc.names.lookup x with
  | some .local => true
  | some .free => true
  | _ => false
noncomputable def plain (x : Str) : Bool := !(x == ("__debug__" : Str)) && !(x == ("__classdict__" : Str))
theorem vis_of {sc : Scope} {x : Str} (h : visB sc x = true) : Vis sc x := by
  unfold visB at h
  split at h
  · rename_i e; exact .inl e
  · rename_i e; exact .inr (.inl e)
  · rename_i e; exact .inr (.inr e)
  · cases h
theorem lo {sc : Scope} {x : Str} (h : locB sc x = true) : Loc sc x := by
  unfold locB at h
  split at h
  · rename_i e; exact .inl e
  · rename_i e; exact .inr e
  · cases h
theorem visC_of {sc : Scope} {env : Env} {x : Str} (h : visC sc x = true) : Vis (relabel sc env) x := by
  unfold visC at h
  split at h
  · rename_i e; exact .inl (lookup_relabel_local e)
  · rename_i e; exact .inr (relabel_free e)
  · cases h
noncomputable def locC (sc : Scope) (x : Str) : Bool := match sc.names.lookup x with
  | some .local => true
  | _ => false
theorem loC {sc : Scope} {env : Env} {x : Str} (h : locC sc x = true) : (relabel sc env).names.lookup x = some .local := by
  unfold locC at h
  split at h
  · rename_i e; exact lookup_relabel_local e
  · cases h
section
variable {X : Cx}
theorem gl {sc : Scope} {x : Str} (h : glB sc x = true) (hs : X.env.scope = sc := by rfl) : Gl X x := by
  unfold glB at h
  split at h
  · rename_i e; show X.env.scope.names.lookup x = _; rw [hs]; exact e
  · cases h
theorem vR_of {e : Expr} {i : Nat} (h : PE X e (tVar i)) : PE X e (vR i) := h.imp fun σ H Q h => by
  unfold vR at h
  unfold tVar
  split at h
  · rename_i v e; exact ⟨v, e, h⟩
  · exact h.elim
theorem plain_of {x : Str} (h : plain x = true) : (x == ("__debug__" : Str)) = false ∧ (x == ("__classdict__" : Str)) = false := by
  unfold plain at h
  simpa using h
theorem pV {N : List Str} {sc : Scope} (vt : N.all (fun x => visB sc x && plain x) = true) (i : Nat) {x : Str} {pos : Pos} (hN : X.N[i]? = some x := by rfl) (hXN : X.N = N := by rfl) (hXs : X.env.scope = sc := by rfl) : PE X (.Name x pos) (vR i) := by
  have h := List.all_eq_true.mp vt x (by rw [← hXN]; exact List.mem_of_getElem? hN)
  rw [Bool.and_eq_true] at h
  exact vR_of (pe_var hN (by rw [hXs]; exact vis_of h.1) (plain_of h.2).1 (plain_of h.2).2)
end
section
variable {X : Cx} {scope : Scope} {N' : List Str} {cl : List (Str × Addr)} {C : Addr} {s₀ : Shared} {H₀ : Hp} {ex : List Addr} {x : Str} {pos : Pos}
theorem pVc (vt : N'.all (fun x => visC scope x && plain x) = true) (i : Nat) (hN : N'[i]? = some x := by rfl) : PE (lcCx X scope N' cl C s₀ H₀ ex) (.Name x pos) (vR i) := by
  have h := List.all_eq_true.mp vt x (List.mem_of_getElem? hN)
  rw [Bool.and_eq_true] at h
  exact vR_of (pe_var hN (visC_of (env := X.env) h.1) (plain_of h.2).1 (plain_of h.2).2)
theorem pgC {i : Nat} (hN : N'.Nodup) (h : locC scope x = true) (hi : N'[i]? = some x := by rfl) : PG (lcCx X scope N' cl C s₀ H₀ ex) (.Name x pos) (gName i) :=
  pg_name hN hi (.inl (loC (env := X.env) h)) (.inr (loC (env := X.env) h))
end
section
variable {X : Cx}
theorem OpR.imp {f : Value → Value → Sem Value} {r r' : R2} (h : OpR X f r) (hi : ∀ x y H Q, r' x y H Q → r x y H Q) : OpR X f r' := fun pins s σ H x y v u Q I rx ry q => h pins s σ H x y v u Q I rx ry (hi x y H Q q)
theorem IxR.imp {r r' : R2} (h : IxR X r) (hi : ∀ x y H Q, r' x y H Q → r x y H Q) : IxR X r' := fun a b pins s σ H x y v u Q I rx ry q => h a b pins s σ H x y v u Q I rx ry (hi x y H Q q)
theorem UnR.imp {f : Value → Sem Value} {r r' : V → Hp → VK → Prop} (h : UnR X f r) (hi : ∀ x H Q, r' x H Q → r x H Q) : UnR X f r' := fun pins s σ H x v Q I rx q => h pins s σ H x v Q I rx (hi x H Q q)
theorem CallR.imp {f : Value} {r r' : List V → Hp → VK → Prop} (h : CallR X f r) (hi : ∀ xs H Q, r' xs H Q → r xs H Q) : CallR X f r' := fun pins s σ H xs us Q I rx q => h pins s σ H xs us Q I rx (hi xs H Q q)
theorem PIp.imp {op : Operator} {r r' : TIp} (h : PIp X op r) (hi : ∀ x y H Q, r' x y H Q → r x y H Q) : PIp X op r' := fun pins s σ H x y v u Q I rx ry q => h pins s σ H x y v u Q I rx ry (hi x y H Q q)
theorem PSet.imp {r r' : TSet} (h : PSet X r) (hi : ∀ x y z H Q, r' x y z H Q → r x y z H Q) : PSet X r' := fun pins s σ H x y z v u w Q I rx ry rz q => h pins s σ H x y z v u w Q I rx ry rz (hi x y z H Q q)
end
noncomputable def rM (g : Int → Int → V) : R2 := fun x y H Q => match x, y with
  | .int i, .int j => Q (g i j) H
  | _, _ => False
noncomputable def rMC (C : Int → Int → Prop) (g : Int → Int → V) : R2 := fun x y H Q => match x, y with
  | .int i, .int j => C i j ∧ Q (g i j) H
  | _, _ => False
noncomputable def isNon : V → Bool
  | .non => true
  | _ => false
theorem isNon_eq (x : V) : decide (x = .non) = isNon x := by cases x <;> simp [isNon]
section
variable {X : Cx}
theorem opM {f : Value → Value → Sem Value} {g : Int → Int → V} (h : OpR X f (rI0 g)) : OpR X f (rM g) := h.imp fun x y H Q q => by
  cases x <;> first | exact False.elim q | (cases y <;> first | exact False.elim q | exact ⟨_, _, rfl, rfl, q⟩)
theorem opMC {f : Value → Value → Sem Value} {C : Int → Int → Prop} {g : Int → Int → V} (h : OpR X f (rI C g)) : OpR X f (rMC C g) := h.imp fun x y H Q q => by
  cases x <;> first | exact False.elim q | (cases y <;> first | exact False.elim q | exact ⟨_, _, rfl, rfl, q.1, q.2⟩)
theorem oAdd : OpR X (binaryOp .Add) (rM fun i j => .int (i + j)) := opM op_add
theorem oSub : OpR X (binaryOp .Sub) (rM fun i j => .int (i - j)) := opM op_sub
theorem oMul : OpR X (binaryOp .Mult) (rMC CMulB fun i j => .int (i * j)) := opMC op_mulB
theorem oDiv : OpR X (binaryOp .FloorDiv) (rMC CDivB fun i j => .int (i / j)) := opMC op_fdivB
theorem oMod : OpR X (binaryOp .Mod) (rMC (fun _ j => 0 < j) fun i j => .int (i % j)) := opMC op_mod
theorem oPow : OpR X (binaryOp .Pow) (rMC CPow fun i j => .int (i ^ j.toNat)) := opMC op_pow
theorem oLt : OpR X (compareOp .Lt) (rM fun i j => .bl (decide (i < j))) := opM op_lt
theorem oGt : OpR X (compareOp .Gt) (rM fun i j => .bl (decide (j < i))) := opM op_gt
theorem oGe : OpR X (compareOp .GtE) (rM fun i j => .bl (decide (j ≤ i))) := opM op_ge
noncomputable def rIsN : R2 := fun x y H Q => match y with
  | .non => Q (.bl (isNon x)) H
  | _ => False
noncomputable def rNotN : R2 := fun x y H Q => match y with
  | .non => Q (.bl (!isNon x)) H
  | _ => False
theorem oIsN : OpR X (compareOp .Is) rIsN := op_isN.imp fun x y H Q q => by
  cases y <;> first | exact False.elim q | (refine ⟨rfl, ?_⟩; rw [isNon_eq]; exact q)
theorem oNotN : OpR X (compareOp .IsNot) rNotN := op_notN.imp fun x y H Q q => by
  cases y <;> first | exact False.elim q | (refine ⟨rfl, ?_⟩; rw [isNon_eq]; exact q)
noncomputable def rUM (g : Int → V) : V → Hp → VK → Prop := fun x H Q => match x with
  | .int i => Q (g i) H
  | _ => False
theorem uNeg : UnR X (unaryOp .USub) (rUM fun i => .int (-i)) := un_neg.imp fun x H Q q => by
  cases x <;> first | exact False.elim q | exact ⟨_, rfl, q⟩
end
noncomputable def tTM (t : TE) : TT := fun σ H Q => t σ H fun x H' => match x with
  | .bl k => Q k H'
  | _ => False
noncomputable def tAndM (ta tb : TE) : TE := fun σ H Q => ta σ H fun x H1 => match x with
  | .bl c => if c = true then tb σ H1 Q else Q (.bl false) H1
  | _ => False
section
variable {X : Cx} {a b c e : Expr} {ta tb tc t : TE} {pos : Pos} {rest : List Expr}
theorem ptC {op : CmpOp} {r : R2} (ho : OpR X (compareOp op) r) (ha : PE X a ta) (hb : PE X b tb) (hm : behindInMarks op b = false := by first | exact nomark _ | rfl) : PT X (.Compare a [op] [b] pos) (tTM (tOp r ta tb)) := by
  intro pins s σ H Q I h
  refine wpAny_isTrue_Compare1 (thn (ha pins s σ H _ I h) fun v s1 ⟨x, H1, I1, r1, q1⟩ => thn (hb pins s1 σ H1 _ I1 q1) fun u s2 ⟨y, H2, I2, r2, q2⟩ =>
    thn (ho pins s2 σ H2 x y v u _ I2 r1 r2 q2) fun c s3 ⟨z, H3, I3, r3, q3⟩ => ?_) hm
  cases z <;> first | exact False.elim q3 | (cases r3; exact wpAny_truthy_bool ⟨H3, I3, q3⟩)
theorem peC {op : CmpOp} {r : R2} (ho : OpR X (compareOp op) r) (ha : PE X a ta) (hb : PE X b tb) (hm : behindInMarks op b = false := by first | exact nomark _ | rfl) : PE X (.Compare a [op] [b] pos) (tOp r ta tb) := pe_cmpR ho ha hb hm
theorem ptV (h : PE X e t) (he : ∀ whole, isTrue e X.env whole = (do let v ← whole; standAt e.pos; holding [v] (truthy v)) := by intro _; rfl) : PT X e (tTM t) := by
  intro pins s σ H Q I hw
  refine isTrue_plain (thn (h pins s σ H _ I hw) fun v s1 ⟨x, H1, I1, r1, q1⟩ => ?_) (he _)
  cases x <;> first | exact False.elim q1 | (cases r1; exact wpAny_truthy_bool ⟨H1, I1, q1⟩)
theorem peAnd (ha : PE X a ta) (hb : PE X (.BoolOp .And (b :: rest) pos) tb) : PE X (.BoolOp .And (a :: b :: rest) pos) (tAndM ta tb) := by
  intro pins s σ H Q I h
  refine BoolOp_and (thn (ha pins s σ H _ I h) fun v s1 ⟨x, H1, I1, r1, q1⟩ => ?_)
  cases x with
  | bl c =>
    cases r1
    refine wpAny_truthy_bool ?_
    cases c with
    | true => exact hb pins s1 σ H1 Q I1 q1
    | false => exact ⟨.bl false, H1, I1, rfl, q1⟩
  | _ => exact False.elim q1
end
section
variable {X : Cx} {a b o e : Expr} {ta tb to te : TE} {pos apos cpos : Pos}
theorem ixN_len {n m : Nat} {i : Int} (h : n = m) : ixN n i = ixN m i := by rw [h]
noncomputable def rSetM : TSet := fun o i v H Q => match o, i with
  | .ref p, .int k => ∃ xs j, H p = some (.lst xs) ∧ ixN xs.length k = some j ∧ Q (upd H p (.lst (xs.set j v)))
  | _, _ => False
theorem setL : PSet X rSetM := set_list.imp fun x y z H Q q => by
  cases x <;> first | exact False.elim q | (cases y <;> first | exact False.elim q | (obtain ⟨xs, j, h1, h2, h3⟩ := q; exact ⟨_, xs, _, j, rfl, rfl, h1, h2, h3⟩))
noncomputable def rLenM (K : PySem.W.Frag) : List V → Hp → VK → Prop := fun xs H Q => match xs with
  | [.ref p] => ∃ ys, (SqL K H p ys ∨ SqT K H p ys) ∧ Q (.int ys.length) H
  | _ => False
theorem cLen : CallR X (.builtin "len") (rLenM X.K) := call_len_seq.imp fun xs H Q q => by
  match xs, q with
  | [.ref p], ⟨ys, h1, h2⟩ => exact ⟨p, ys, rfl, h1, h2⟩
noncomputable def rListM (K : PySem.W.Frag) : List V → Hp → VK → Prop := fun xs H Q => match xs with
  | [.ref p] => ∃ ys, (SqL K H p ys ∨ SqT K H p ys) ∧ ∀ l, H l = none → Q (.ref l) (upd H l (.lst ys))
  | _ => False
theorem cList : CallR X (.type "list") (rListM X.K) := call_list_of.imp fun xs H Q q => by
  match xs, q with
  | [.ref p], ⟨ys, h1, h2⟩ => exact ⟨p, ys, rfl, h1, h2⟩
noncomputable def rSumM (K : PySem.W.Frag) : List V → Hp → VK → Prop := fun xs H Q => match xs with
  | [.ref p] => ∃ ns : List Int, SqL K H p (ns.map V.int) ∧ Q (.int ns.sum) H
  | _ => False
theorem cSum (hc : X.calm = true) : CallR X (.builtin "sum") (rSumM X.K) := (call_sumL hc).imp fun xs H Q q => by
  match xs, q with
  | [.ref p], ⟨ys, h1, h2⟩ => exact ⟨p, ys, rfl, h1, h2⟩
noncomputable def rMinM (K : PySem.W.Frag) : List V → Hp → VK → Prop := fun xs H Q => match xs with
  | [.ref p] => ∃ ns : List Int, SqL K H p (ns.map V.int) ∧ 0 < ns.length ∧ ∀ M, M ∈ ns → (∀ a, a ∈ ns → M ≤ a) → Q (.int M) H
  | _ => False
theorem cMin (hc : X.calm = true) : CallR X (.builtin "min") (rMinM X.K) := (call_minL hc).imp fun xs H Q q => by
  match xs, q with
  | [.ref p], ⟨ys, h1, h2, h3⟩ => exact ⟨p, ys, rfl, h1, h2, h3⟩
noncomputable def rAppM : V → List V → Hp → VK → Prop := fun x vs H Q => match x, vs with
  | .ref l, [y] => ∃ ys, H l = some (.lst ys) ∧ ys.length < sizeLine ∧ Q .non (upd H l (.lst (ys ++ [y])))
  | _, _ => False
theorem mApp : MtR X "list.append" rAppM := fun pins s σ H x xs v us Q I rx rv q => mt_append pins s σ H x xs v us Q I rx rv (by
  match x, xs, q with
  | .ref l, [y], ⟨ys, h1, h2, h3⟩ => exact ⟨l, ys, y, rfl, rfl, h1, h2, h3⟩)
theorem peApp {to : TE} {t : TA} (ho : PE X o to) (ha : PA X [e] t)
    (hbase : attributeBase o "append" X.env (eval o X.env) = eval o X.env := by rfl)
    (hfew : ((backTo cpos (starEach [e] X.env)).all (fun x => !x.1) && (backToKw cpos (keywordEach [] X.env)).all (fun x => x.1.isSome)
      && decide (([e] : List Expr).length + ([] : List Keyword).length + (if ([] : List Keyword).isEmpty then 0 else 1) < 30)) = true := by rfl)
    (hline : (apos.endLine == cpos.line) = true := by rfl) (hs : starEach [e] X.env = (false, eval e X.env) :: starEach [] X.env := by rfl) (hplain : (backTo cpos (starEach [] X.env)).any (·.1) = false := by rfl) :
    PE X (.Call (.Attribute o "append" apos) [e] [] cpos) (tBM X.K "list" rAppM to t) := pe_bm PySem.F.plainAttrs_list PySem.F.slot_list_append PySem.F.type_list_append mApp ho ha hbase hfew hline hs hplain
structure Cal (P : Program) (w : World) (K : PySem.W.Frag) (mg : Str → Option Value) (base : Heap) (k : Nat) (x : Str) (ps : List Str) (sp : Sp) : Prop where
  ex : ∃ f fd, FnOk P w K mg base CX0 k f fd ps sp ∧ mg x = some (.ref f) ∧ PySem.W.keepIn K (.ref f) = true ∧ Binds K fd ps []
theorem peCal {k : Nat} {x : Str} {ps : List Str} {sp : Sp} {p : Pos} {es : List Expr} {t : TA} (C : Cal X.prog X.w X.K X.mg X.base k x ps sp) (hr : Room k X.A) (hg : Gl X x) (ha : PA X (e :: es) t)
    (hdb : (x == ("__debug__" : Str)) = false := by decide) (he : starEach (e :: es) X.env = (false, eval e X.env) :: starEach es X.env := by rfl) (hpl : (backTo pos (starEach es X.env)).any (·.1) = false := by rfl) :
    PE X (.Call (.Name x p) (e :: es) [] pos) (tCall sp [] E0 t) := by
  obtain ⟨f, fd, F, hm, hk, hb⟩ := C.ex
  exact pe_call F hr hg hm hk hb .nil pass0 ha hdb he hpl
noncomputable def gNilM : TGs := fun vs σ H Q => match vs with
  | [] => Q σ H
  | _ => False
noncomputable def gConsM (t : TG) (u : TGs) : TGs := fun vs σ H Q => match vs with
  | v :: r => t v σ H fun σ' H' => u r σ' H' Q
  | [] => False
noncomputable def gTupM (K : PySem.W.Frag) (n : Nat) (t : TGs) : TG := fun v σ H Q => match v with
  | .ref a => ∃ xs, SqT K H a xs ∧ xs.length = n ∧ t xs σ H Q
  | _ => False
theorem pgsNil : PGs X [] gNilM := by
  intro pins s σ H vs us Q I r h
  cases vs with
  | nil => cases r; exact assignInOrder_nil ⟨σ, H, I, h⟩
  | cons _ _ => exact False.elim h
theorem pgsCons {es : List Expr} {t : TG} {u : TGs} (h1 : PG X e t) (h2 : PGs X es u)
    (hs : (assignEach (e :: es) X.env).map (·.2) = assign e X.env :: (assignEach es X.env).map (·.2) := by rfl) : PGs X (e :: es) (gConsM t u) := by
  intro pins s σ H vs us Q I r h
  cases vs with
  | nil => exact False.elim h
  | cons v vr =>
    cases r with
    | cons r rr =>
      rw [hs]
      refine assignInOrder_cons (thn (h1 pins s σ H _ _ _ I r h) fun _ s1 ⟨σ1, H1, I1, q1⟩ => ?_)
      exact h2 pins s1 σ1 H1 _ _ Q I1 rr q1
theorem pgTup {es : List Expr} {k n : Nat} {t : TGs} (hc : X.calm = true) (h : PGs X es t)
    (hn : (assignEach es X.env).length = n := by rfl) (hst : (assignEach es X.env).findIdx? (·.1) = none := by rfl) : PG X (.Tuple es k pos) (gTupM X.K n t) := by
  intro pins s σ H v u Q I r hw
  cases v with
  | ref a =>
    obtain ⟨xs, hq, hl, hw⟩ := hw
    exact pg_tup hc h hn hst pins s σ H (.ref a) u Q I r ⟨a, xs, rfl, hq, hl, hw⟩
  | _ => exact False.elim hw
theorem iSub : PIp X .Sub (rM fun i j => .int (i - j)) := ip_sub.imp fun x y H Q q => by
  cases x <;> first | exact False.elim q | (cases y <;> first | exact False.elim q | exact ⟨_, _, rfl, rfl, q⟩)
end
end L2
namespace L2
open PySem PySem.Spec PyProof.Rows
noncomputable def forRd (J : It) (g : TG) (tb : TS) (D : Ends) (σ : St) (H1 : Hp) : Prop := ∃ W : Nat → Nat → St → Hp → Prop, (∃ m, W 0 m σ H1) ∧ ∀ i m σ H, W i m σ H →
  (J.stop i H ∧ D.nx σ H) ∨ (J.go i H ∧ ∃ N : St → Hp → Prop, (∀ σ' H', N σ' H' → ∃ m', m' < m ∧ W (i + 1) m' σ' H') ∧ ∀ x H', J.yld i H x H' → g x σ H' fun σ2 H2 => tb { D with nx := N, ct := N, bk := D.nx } σ2 H2)
theorem tFor_eq {wi : TI} {g : TG} {tb : TS} {D : Ends} {σ : St} {H : Hp} : tFor wi g tb D σ H = wi σ H fun J H1 => forRd J g tb D σ H1 := rfl
theorem forL {K : PySem.W.Frag} {a : Addr} {xs : List V} {g : TG} {tb : TS} {D : Ends} {σ : St} {H : Hp} (Pv : Nat → St → Hp → Prop) (h0 : Pv 0 σ H) (hl : ∀ i σ H, i ≤ xs.length → Pv i σ H → SqL K H a xs)
    (hs : ∀ i x σ H, xs[i]? = some x → Pv i σ H → g x σ H fun σ2 H2 => tb { D with nx := Pv (i + 1), ct := Pv (i + 1), bk := D.nx } σ2 H2) (hd : ∀ σ H, Pv xs.length σ H → D.nx σ H) : forRd (Itl K a) g tb D σ H := for_list Pv h0 hl hs hd
theorem CapK.nil : CapK [] [] := CapK.refl
theorem CapK.skip {a b : St} {x : Option V} (h : CapK a b) : CapK (none :: a) (x :: b) := fun j v e => by
  cases j with
  | zero => simp at e
  | succ j => exact h j v (by simpa using e)
theorem CapK.keep {a b : St} {x : Option V} (h : CapK a b) : CapK (x :: a) (x :: b) := fun j v e => by
  cases j with
  | zero => exact e
  | succ j => exact h j v (by simpa using e)
theorem ixN_last {n : Nat} (h : 0 < n) : ixN n (-1) = some (n - 1) := by
  unfold ixN
  rw [if_neg (by decide), if_pos (by omega)]
  congr 1
  omega
theorem same_upd_new {H : Hp} {p : Addr} {o : HO} (h : H p = none) : Same H (upd H p o) := fun b u e => by rw [upd_ne (ne_of_none e h)]; exact e
end L2
namespace L2
open PySem
theorem PT.imp {X : Cx} {e : Expr} {t t' : TT} (h : PT X e t) (ht : ∀ σ H Q, t' σ H Q → t σ H Q) : PT X e t' := fun pins s σ H Q I q => h pins s σ H Q I (ht σ H Q q)
theorem PW.imp {X : Cx} {e : Expr} {t t' : TT} (h : PW X e t) (ht : ∀ σ H Q, t' σ H Q → t σ H Q) : PW X e t' := fun wh pins s σ H Q I q => h wh pins s σ H Q I (ht σ H Q q)
theorem PS.imp {X : Cx} {e : Stmt} {t t' : TS} (h : PS X e t) (ht : ∀ D σ H, t' D σ H → t D σ H) : PS X e t' := fun pins s σ H Q I q => h pins s σ H Q I (ht Q σ H q)
theorem PSs.imp {X : Cx} {e : List Stmt} {t t' : TS} (h : PSs X e t) (ht : ∀ D σ H, t' D σ H → t D σ H) : PSs X e t' := fun pins s σ H Q I q => h pins s σ H Q I (ht Q σ H q)
theorem PA.imp {X : Cx} {e : List Expr} {t t' : TA} (h : PA X e t) (ht : ∀ σ H Q, t' σ H Q → t σ H Q) : PA X e t' := fun pos pins s σ H Q I q => h pos pins s σ H Q I (ht σ H Q q)
theorem PG.imp {X : Cx} {e : Expr} {t t' : TG} (h : PG X e t) (ht : ∀ v σ H Q, t' v σ H Q → t v σ H Q) : PG X e t' := fun pins s σ H v u Q I r q => h pins s σ H v u Q I r (ht v σ H Q q)
theorem PI.imp {X : Cx} {tg e : Expr} {t t' : TI} (h : PI X tg e t) (ht : ∀ σ H Q, t' σ H Q → t σ H Q) : PI X tg e t' := fun pins s σ H Q I q => h pins s σ H Q I (ht σ H Q q)
theorem PO.imp {X : Cx} {e : Option Expr} {t t' : TO} (h : PO X e t) (ht : ∀ σ H Q, t' σ H Q → t σ H Q) : PO X e t' := fun pins s σ H Q I q => h pins s σ H Q I (ht σ H Q q)
end L2
namespace VM
open PySem L2
noncomputable abbrev St := L2.St
inductive Tg where
  | fr | ow | io
  deriving DecidableEq
noncomputable abbrev GS := List (Option (Tg × PyData))
noncomputable abbrev VE := GS → Option PyData
noncomputable def imo : HO → Bool
  | .tup _ => true
  | .frz _ (.tup _) => true
  | _ => false
structure Grow (F H F' H' : Hp) : Prop where
  hh : Same H H'
  ff : Same F F'
  fh : Same F' H'
  new : ∀ a o, F' a = some o → F a = some o ∨ H a = none ∨ imo o = true
  pl : ∀ a o u, F' a = some (.frz o (.lst u)) → F a = some (.frz o (.lst u))
theorem Grow.refl {F H : Hp} (h : Same F H) : Grow F H F H := ⟨Same.refl _, Same.refl _, h, fun _ _ e => .inl e, fun _ _ _ e => e⟩
theorem Grow.trans {F H F1 H1 F2 H2 : Hp} (a : Grow F H F1 H1) (b : Grow F1 H1 F2 H2) : Grow F H F2 H2 := ⟨a.hh.trans b.hh, a.ff.trans b.ff, b.fh, fun p o e => by
  rcases b.new p o e with h | h | h
  · exact a.new p o h
  · exact .inr (.inl (a.hh.free h))
  · exact .inr (.inr h), fun p o u e => a.pl p o u (b.pl p o u e)⟩
theorem Grow.alloc {F H : Hp} {p : Addr} {o : HO} (h : Same F H) (hp : H p = none) : Grow F H F (upd H p o) :=
  ⟨same_upd_new hp, Same.refl _, h.trans (same_upd_new hp), fun _ _ e => .inl e, fun _ _ _ e => e⟩
theorem Grow.allocF {F H : Hp} {p : Addr} {o : HO} (h : Same F H) (hp : H p = none) (ho : ∀ x u, o ≠ .frz x u := by intros; intro z; cases z) : Grow F H (upd F p o) (upd H p o) := by
  have hF : F p = none := h.free hp
  refine ⟨same_upd_new hp, same_upd_new hF, fun b u e => ?_, fun b u e => ?_, fun b x u e => ?_⟩
  · by_cases hb : b = p
    · subst hb; rw [upd_same] at e ⊢; exact e
    · rw [upd_ne hb] at e ⊢; exact h b u e
  · by_cases hb : b = p
    · subst hb; exact .inr (.inl hp)
    · rw [upd_ne hb] at e; exact .inl e
  · by_cases hb : b = p
    · subst hb; rw [upd_same] at e; exact absurd (Option.some.inj e) (ho _ _)
    · rw [upd_ne hb] at e; exact e
mutual
noncomputable def imm : PyData → Bool
  | .none => true
  | .bool _ => true
  | .int _ => true
  | .str _ => true
  | .tuple ds => immL ds
  | _ => false
noncomputable def immL : List PyData → Bool
  | [] => true
  | d :: ds => imm d && immL ds
end
noncomputable def wide (F H : Hp) : Hp := fun a => match H a with
  | some o => if imo o = true then some o else F a
  | none => none
theorem wide_imo {F H : Hp} {a : Addr} {o : HO} (h : H a = some o) (hi : imo o = true) : wide F H a = some o := by
  unfold wide; rw [h]; simp only [hi, if_true]
theorem wide_grow {F H F1 H' : Hp} (g : Grow F H F1 H') : Grow F H (wide F1 H') H' := by
  have key : ∀ a o, F1 a = some o → wide F1 H' a = some o := fun a o e => by
    have e2 := g.fh a o e
    unfold wide; rw [e2]
    by_cases hi : imo o = true
    · simp only [hi, if_true]
    · simp only [hi]; exact e
  refine ⟨g.hh, fun a o e => key a o (g.ff a o e), fun a o e => ?_, fun a o e => ?_, fun a x u e => ?_⟩
  · unfold wide at e
    cases q : H' a with
    | none => rw [q] at e; cases e
    | some u =>
      rw [q] at e
      by_cases hi : imo u = true
      · simp only [hi, if_true] at e; exact e
      · simp only [hi] at e
        rw [← q]; exact g.fh a o e
  · unfold wide at e
    cases q : H' a with
    | none => rw [q] at e; cases e
    | some u =>
      rw [q] at e
      by_cases hi : imo u = true
      · simp only [hi, if_true] at e
        cases e
        exact .inr (.inr hi)
      · simp only [hi] at e
        exact g.new a o e
  · unfold wide at e
    cases q : H' a with
    | none => rw [q] at e; cases e
    | some w =>
      rw [q] at e
      by_cases hi : imo w = true
      · simp only [hi, if_true] at e
        cases e
        cases hi
      · simp only [hi] at e
        exact g.pl a x u e
theorem wide_none {F H : Hp} {a : Addr} {xs : List V} (h : H a = some (.lst xs)) (hf : F a = none) : wide F H a = none := by
  unfold wide; rw [h]; simpa [imo] using hf
theorem wide_tup {K : PySem.W.Frag} {F H : Hp} {a : Addr} {xs : List V} (h : SqT K H a xs) : SqT K (wide F H) a xs := by
  rcases h with (h | ⟨o, h⟩) | h
  · exact .inl (.inl (wide_imo h rfl))
  · exact .inl (.inr ⟨o, wide_imo h rfl⟩)
  · exact .inr h
mutual
theorem imm_wide {K : PySem.W.Frag} {F H : Hp} : ∀ {d : PyData} {v : V}, imm d = true → Has K H d v → Has K (wide F H) d v
  | .none, _, _, h => h
  | .bool _, _, _, h => h
  | .int _, _, _, h => h
  | .str _, _, _, h => h
  | .list _, _, f, _ => by simp [imm] at f
  | .tuple ds, _, f, ⟨a, xs, e, hq, hl⟩ => ⟨a, xs, e, wide_tup hq, immL_wide (by simpa [imm] using f) hl⟩
  | .dict _, _, f, _ => by simp [imm] at f
theorem immL_wide {K : PySem.W.Frag} {F H : Hp} : ∀ {ds : List PyData} {vs : List V}, immL ds = true → HasL K H ds vs → HasL K (wide F H) ds vs
  | [], _, _, h => h
  | d :: ds, _, f, ⟨v, r, h1, h2, h3⟩ => by
    simp only [immL, Bool.and_eq_true] at f
    exact ⟨v, r, h1, imm_wide f.1 h2, immL_wide f.2 h3⟩
end
noncomputable def OwnAt (K : PySem.W.Frag) (H₀ F H : Hp) (d : PyData) (v : V) : Prop := ∃ a ds xs, d = .list ds ∧ v = .ref a ∧ H a = some (.lst xs) ∧ F a = none ∧ H₀ a = none ∧ HasL K F ds xs
noncomputable def SlotOk (K : PySem.W.Frag) (ioA : Nat → Option Addr) (H₀ F H : Hp) (i : Nat) : Tg → PyData → V → Prop
  | .fr, d, v => Has K F d v
  | .ow, d, v => OwnAt K H₀ F H d v
  | .io, d, v => OwnAt K H₀ F H d v ∧ ∃ a, v = .ref a ∧ ioA i = some a
structure VI (K : PySem.W.Frag) (ioA : Nat → Option Addr) (G H₀ : Hp) (S : GS) (F : Hp) (σ : St) (H : Hp) : Prop where
  len : S.length = σ.length
  same : Same H₀ H
  gf : Same G F
  new : ∀ a o, F a = some o → G a = some o ∨ H₀ a = none ∨ imo o = true
  sub : Same F H
  slot : ∀ (i : Nat) t d, S[i]? = some (some (t, d)) → ∃ v, σ[i]? = some (some v) ∧ SlotOk K ioA H₀ F H i t d v
  inj : ∀ (i j : Nat) t t' d d' v, S[i]? = some (some (t, d)) → S[j]? = some (some (t', d')) → t ≠ .fr → t' ≠ .fr → σ[i]? = some (some v) → σ[j]? = some (some v) → i = j
  pl : ∀ a o u, F a = some (.frz o (.lst u)) → G a = some (.frz o (.lst u))
section
variable {K : PySem.W.Frag} {ioA : Nat → Option Addr} {G H₀ F H F' H' : Hp} {S : GS} {σ : St}
theorem OwnAt.grow {d : PyData} {v : V} (g : Grow F H F' H') (h : OwnAt K H₀ F H d v) : OwnAt K H₀ F' H' d v := by
  obtain ⟨a, ds, xs, e1, e2, e3, e4, e5, e6⟩ := h
  refine ⟨a, ds, xs, e1, e2, g.hh _ _ e3, ?_, e5, e6.same g.ff⟩
  cases q : F' a with
  | none => rfl
  | some o =>
    rcases g.new a o q with z | z | z
    · rw [e4] at z; cases z
    · rw [e3] at z; cases z
    · have := g.fh a o q
      rw [g.hh _ _ e3] at this
      cases this
      simp [imo] at z
theorem VI.grow (I : VI K ioA G H₀ S F σ H) (g : Grow F H F' H') : VI K ioA G H₀ S F' σ H' where
  len := I.len
  same := I.same.trans g.hh
  gf := I.gf.trans g.ff
  new := fun a o e => by
    rcases g.new a o e with z | z | z
    · exact I.new a o z
    · exact .inr (.inl (I.same.free z))
    · exact .inr (.inr z)
  sub := g.fh
  slot := fun i t d e => by
    obtain ⟨v, e1, h⟩ := I.slot i t d e
    refine ⟨v, e1, ?_⟩
    cases t with
    | fr => exact Has.same g.ff h
    | ow => exact OwnAt.grow g h
    | io => exact ⟨OwnAt.grow g h.1, h.2⟩
  inj := I.inj
  pl := fun a o u e => I.pl a o u (g.pl a o u e)
end
noncomputable abbrev Rel := PySem.W.Frag → Hp → Hp → Hp → Hp → PyData → V → Prop
noncomputable def RW : Rel := fun K _ _ _ H' d v => Has K H' d v
noncomputable def RS : Rel := fun K _ _ F' _ d v => Has K F' d v
noncomputable def RM : Rel := fun K _ _ F' H' d v => Has K F' d v ∨ ∃ ds a xs, d = .list ds ∧ v = .ref a ∧ SqL K H' a xs ∧ HasL K F' ds xs
noncomputable def RN : Rel := fun K _ H F' H' d v => ∃ ds a xs, d = .list ds ∧ v = .ref a ∧ H a = none ∧ F' a = none ∧ H' a = some (.lst xs) ∧ HasL K F' ds xs
noncomputable def tV (K : PySem.W.Frag) (R : Rel) (f : VE) : TE := fun σ H Q => ∃ ioA G H₀ S F, VI K ioA G H₀ S F σ H ∧ ∃ d, f S = some d ∧ ∀ v F' H', Grow F H F' H' → R K F H F' H' d v → Q v H'
theorem tV.imp {K : PySem.W.Frag} {R R' : Rel} {f f' : VE} {σ : St} {H : Hp} {Q : VK} (hf : ∀ S d, f S = some d → f' S = some d)
    (hR : ∀ (F F' H' : Hp) S d v, f S = some d → Grow F H F' H' → R' K F H F' H' d v → ∃ F'', Grow F H F'' H' ∧ R K F H F'' H' d v) (h : tV K R f σ H Q) : tV K R' f' σ H Q := by
  obtain ⟨ioA, G, H₀, S, F, I, d, e, q⟩ := h
  refine ⟨ioA, G, H₀, S, F, I, d, hf S d e, fun v F' H' g r => ?_⟩
  obtain ⟨F'', g2, r2⟩ := hR F F' H' S d v e g r
  exact q v F'' H' g2 r2
section
variable {X : Cx} {e : Expr} {f : VE}
theorem sw (h : PE X e (tV X.K RS f)) : PE X e (tV X.K RW f) := h.imp fun _ _ _ q => tV.imp (fun _ _ h => h) (fun F F' H' S d v _ g r => ⟨F', g, Has.same g.fh r⟩) q
theorem sm (h : PE X e (tV X.K RS f)) : PE X e (tV X.K RM f) := h.imp fun _ _ _ q => tV.imp (fun _ _ h => h) (fun F F' H' S d v _ g r => ⟨F', g, .inl r⟩) q
theorem mw (h : PE X e (tV X.K RM f)) : PE X e (tV X.K RW f) := h.imp fun _ _ _ q => tV.imp (fun _ _ h => h) (fun F F' H' S d v _ g r => ⟨F', g, by
  rcases r with r | ⟨ds, a, xs, rfl, rfl, h1, h2⟩
  · exact Has.same g.fh r
  · exact ⟨a, xs, rfl, h1, h2.same g.fh⟩⟩) q
theorem nm (h : PE X e (tV X.K RN f)) : PE X e (tV X.K RM f) := h.imp fun _ _ _ q => tV.imp (fun _ _ h => h) (fun F F' H' S d v _ g r => ⟨F', g, by
  obtain ⟨ds, a, xs, h1, h2, h3, h4, h5, h6⟩ := r
  exact .inr ⟨ds, a, xs, h1, h2, SqL.of h5, h6⟩⟩) q
theorem RN.frz {K : PySem.W.Frag} {F H F' H' : Hp} {d : PyData} {v : V} (g : Grow F H F' H') (r : RN K F H F' H' d v) : ∃ F'', Grow F H F'' H' ∧ RS K F H F'' H' d v := by
  obtain ⟨ds, a, xs, h1, h2, h3, h4, h5, h6⟩ := r
  refine ⟨upd F' a (.lst xs), ⟨g.hh, g.ff.trans (same_upd_new h4), fun b o e => ?_, fun b o e => ?_, fun b x u e => ?_⟩, ?_⟩
  · by_cases hb : b = a
    · subst hb; rw [upd_same] at e; cases e; exact h5
    · rw [upd_ne hb] at e; exact g.fh b o e
  · by_cases hb : b = a
    · subst hb; exact .inr (.inl h3)
    · rw [upd_ne hb] at e; exact g.new b o e
  · by_cases hb : b = a
    · subst hb; rw [upd_same] at e; cases e
    · rw [upd_ne hb] at e; exact g.pl b x u e
  · rw [h1]; exact ⟨a, xs, h2, SqL.of upd_same, h6.same (same_upd_new h4)⟩
theorem ns (h : PE X e (tV X.K RN f)) : PE X e (tV X.K RS f) := h.imp fun _ _ _ q => tV.imp (fun _ _ h => h) (fun F F' H' S d v _ g r => RN.frz g r) q
theorem nw (h : PE X e (tV X.K RN f)) : PE X e (tV X.K RW f) := mw (nm h)
noncomputable def vImm (f : VE) : VE := fun S => match f S with
  | some d => if imm d = true then some d else none
  | none => none
theorem vImm_some {f : VE} {S : GS} {d : PyData} (h : vImm f S = some d) : f S = some d ∧ imm d = true := by
  unfold vImm at h
  cases q : f S with
  | none => rw [q] at h; cases h
  | some u =>
    rw [q] at h
    simp only at h
    split at h
    · cases h; exact ⟨rfl, by assumption⟩
    · cases h
theorem ws (h : PE X e (tV X.K RW f)) : PE X e (tV X.K RS (vImm f)) := h.imp fun _ H Q q => by
  refine tV.imp (fun S d h => (vImm_some h).1) (fun F F' H' S d v he g r => ⟨wide F' H', wide_grow g, imm_wide (vImm_some he).2 r⟩) q
end
noncomputable def vN (i : Nat) : VE := fun S => match S[i]? with
  | some (some (_, d)) => some d
  | _ => none
noncomputable def vF (i : Nat) : VE := fun S => match S[i]? with
  | some (some (.fr, d)) => some d
  | _ => none
noncomputable def vC (d : PyData) : VE := fun _ => some d
section
variable {X : Cx} {e : Expr} {pos : Pos}
theorem dN {i : Nat} (h : PE X e (vR i)) : PE X e (tV X.K RM (vN i)) := h.imp fun σ H Q q => by
  obtain ⟨ioA, G, H₀, S, F, I, d, e, q⟩ := q
  unfold vN at e
  split at e
  · rename_i t d' hS
    cases e
    obtain ⟨v, hv, hs⟩ := I.slot i t d hS
    unfold vR; rw [hv]
    refine q v F H (Grow.refl I.sub) ?_
    cases t with
    | fr => exact .inl hs
    | ow => obtain ⟨a, ds, xs, e1, e2, e3, e4, e5, e6⟩ := hs; exact .inr ⟨ds, a, xs, e1, e2, SqL.of e3, e6⟩
    | io => obtain ⟨a, ds, xs, e1, e2, e3, e4, e5, e6⟩ := hs.1; exact .inr ⟨ds, a, xs, e1, e2, SqL.of e3, e6⟩
  · cases e
theorem dF {i : Nat} (h : PE X e (vR i)) : PE X e (tV X.K RS (vF i)) := h.imp fun σ H Q q => by
  obtain ⟨ioA, G, H₀, S, F, I, d, e, q⟩ := q
  unfold vF at e
  split at e
  · rename_i d' hS
    cases e
    obtain ⟨v, hv, hs⟩ := I.slot i .fr d hS
    unfold vR; rw [hv]
    exact q v F H (Grow.refl I.sub) hs
  · cases e
theorem dC {v : V} {d : PyData} (h : PE X e (tC v)) (hv : ∀ H, Has X.K H d v) : PE X e (tV X.K RS (vC d)) := h.imp fun σ H Q q => by
  obtain ⟨ioA, G, H₀, S, F, I, d', e, q⟩ := q
  cases e
  exact q v F H (Grow.refl I.sub) (hv F)
theorem dInt {i j} : PE X (.Constant (.int i) j pos) (tV X.K RS (vC (.int i))) := dC pe_int fun _ => rfl
theorem dBool {b j} : PE X (.Constant (.bool b) j pos) (tV X.K RS (vC (.bool b))) := dC pe_bl fun _ => rfl
theorem dNone {j} : PE X (.Constant .none j pos) (tV X.K RS (vC .none)) := dC pe_non fun _ => rfl
end
noncomputable def v2 (h : PyData → PyData → Option PyData) (fa fb : VE) : VE := fun S => match fa S with
  | some x => match fb S with
    | some y => h x y
    | none => none
  | none => none
theorem v2_some {h : PyData → PyData → Option PyData} {fa fb : VE} {S : GS} {d : PyData} (e : v2 h fa fb S = some d) : ∃ x y, fa S = some x ∧ fb S = some y ∧ h x y = some d := by
  unfold v2 at e
  cases q : fa S with
  | none => rw [q] at e; cases e
  | some x =>
    rw [q] at e
    cases q2 : fb S with
    | none => rw [q2] at e; cases e
    | some y => rw [q2] at e; exact ⟨x, y, rfl, rfl, e⟩
noncomputable def OpD (K : PySem.W.Frag) (h : PyData → PyData → Option PyData) (r : R2) : Prop := ∀ H x y dx dy d Q, h dx dy = some d → Has K H dx x → Has K H dy y → (∀ v, (∀ H', Has K H' d v) → Q v H) → r x y H Q
theorem rd2 {K : PySem.W.Frag} {h : PyData → PyData → Option PyData} {r : R2} {fa fb : VE} (hd : OpD K h r) {σ : St} {H : Hp} {Q : VK} (q : tV K RS (v2 h fa fb) σ H Q) : tOp r (tV K RW fa) (tV K RW fb) σ H Q := by
  obtain ⟨ioA, G, H₀, S, F, I, d, e, q⟩ := q
  obtain ⟨x, y, ex, ey, e⟩ := v2_some e
  refine ⟨ioA, G, H₀, S, F, I, x, ex, fun v F1 H1 g1 hx => ⟨ioA, G, H₀, S, F1, I.grow g1, y, ey, fun u F2 H2 g2 hy => ?_⟩⟩
  exact hd H2 v u x y d Q e (Has.same g2.hh hx) hy fun w hw => q w F2 H2 (g1.trans g2) (hw F2)
section
variable {X : Cx} {a b : Expr} {fa fb : VE} {pos : Pos} {h : PyData → PyData → Option PyData} {r : R2}
theorem dOp {op : Operator} (ho : OpR X (binaryOp op) r) (hd : OpD X.K h r) (ha : PE X a (tV X.K RW fa)) (hb : PE X b (tV X.K RW fb)) : PE X (.BinOp a op b pos) (tV X.K RS (v2 h fa fb)) :=
  (pe_op ho ha hb).imp fun _ _ _ q => rd2 hd q
theorem dCmp {op : CmpOp} (ho : OpR X (compareOp op) r) (hd : OpD X.K h r) (ha : PE X a (tV X.K RW fa)) (hb : PE X b (tV X.K RW fb)) (hm : behindInMarks op b = false := by first | exact nomark _ | rfl) : PE X (.Compare a [op] [b] pos) (tV X.K RS (v2 h fa fb)) :=
  (peC ho ha hb hm).imp fun _ _ _ q => rd2 hd q
end
noncomputable def iop (g : Int → Int → PyData) : PyData → PyData → Option PyData
  | .int a, .int b => some (g a b)
  | _, _ => none
noncomputable def iopC (C : Int → Int → Prop) [∀ a b, Decidable (C a b)] (g : Int → Int → PyData) : PyData → PyData → Option PyData
  | .int a, .int b => if C a b then some (g a b) else none
  | _, _ => none
noncomputable def flat0 (d : PyData) (v : V) : Prop := ∀ (K : PySem.W.Frag) (H : Hp), Has K H d v
theorem opd_iop {K : PySem.W.Frag} {g : Int → Int → PyData} {gv : Int → Int → V} (hg : ∀ a b, flat0 (g a b) (gv a b)) : OpD K (iop g) (rM gv) := by
  intro H x y dx dy d Q e hx hy q
  cases dx <;> first | (simp [iop] at e; done) | skip
  cases dy <;> first | (simp [iop] at e; done) | skip
  simp only [iop, Option.some.injEq] at e
  subst e
  have ex : x = _ := hx
  have ey : y = _ := hy
  subst ex ey
  exact q _ fun H' => hg _ _ K H'
theorem opd_iopC {K : PySem.W.Frag} {C : Int → Int → Prop} [∀ a b, Decidable (C a b)] {C' : Int → Int → Prop} {g : Int → Int → PyData} {gv : Int → Int → V} (hc : ∀ a b, C a b → C' a b) (hg : ∀ a b, flat0 (g a b) (gv a b)) : OpD K (iopC C g) (rMC C' gv) := by
  intro H x y dx dy d Q e hx hy q
  cases dx <;> first | (simp [iopC] at e; done) | skip
  cases dy <;> first | (simp [iopC] at e; done) | skip
  simp only [iopC] at e
  split at e
  · rename_i hC
    cases e
    have ex : x = _ := hx
    have ey : y = _ := hy
    subst ex ey
    exact ⟨hc _ _ hC, q _ fun H' => hg _ _ K H'⟩
  · cases e
set_option exponentiation.threshold 9000
noncomputable def BMul (i j : Int) : Prop := i.natAbs < 2 ^ 2000 ∧ j.natAbs < 2 ^ 2000
noncomputable instance (i j : Int) : Decidable (BMul i j) := inferInstanceAs (Decidable (_ ∧ _))
noncomputable def BDiv (_ j : Int) : Prop := 0 < j ∧ j.natAbs < 2 ^ 2000
noncomputable instance (i j : Int) : Decidable (BDiv i j) := inferInstanceAs (Decidable (_ ∧ _))
noncomputable def BMod (_ j : Int) : Prop := 0 < j
noncomputable instance (i j : Int) : Decidable (BMod i j) := inferInstanceAs (Decidable (_ < _))
noncomputable def BPow (i j : Int) : Prop := 0 ≤ j ∧ j ≤ 1000 ∧ i.natAbs < 2 ^ 60
noncomputable instance (i j : Int) : Decidable (BPow i j) := inferInstanceAs (Decidable (_ ∧ _ ∧ _))
theorem BMul.ok {i j : Int} (h : BMul i j) : CMulB i j := by
  have e : (2 : Nat) ^ 2000 ≤ 2 ^ 8000 := Nat.pow_le_pow_right (by decide) (by decide)
  exact ⟨Nat.lt_of_lt_of_le h.1 e, Nat.lt_of_lt_of_le h.2 e⟩
theorem BDiv.ok {i j : Int} (h : BDiv i j) : CDivB i j := ⟨h.1, by
  have hz : j.natAbs ≠ 0 := by have := h.1; omega
  have := (Nat.log2_lt hz).mpr h.2
  omega⟩
theorem BPow.ok {i j : Int} (h : BPow i j) : CPow i j := ⟨h.1, by have := h.2.1; omega, Nat.lt_trans h.2.2 (by decide)⟩
noncomputable abbrev addD := iop fun a b => .int (a + b)
noncomputable abbrev subD := iop fun a b => .int (a - b)
noncomputable abbrev mulD := iopC BMul fun a b => .int (a * b)
noncomputable abbrev divD := iopC BDiv fun a b => .int (a / b)
noncomputable abbrev modD := iopC BMod fun a b => .int (a % b)
noncomputable abbrev powD := iopC BPow fun a b => .int (a ^ b.toNat)
noncomputable abbrev ltD := iop fun a b => .bool (decide (a < b))
noncomputable abbrev leD := iop fun a b => .bool (decide (a ≤ b))
noncomputable abbrev gtD := iop fun a b => .bool (decide (b < a))
noncomputable abbrev geD := iop fun a b => .bool (decide (b ≤ a))
section
variable {K : PySem.W.Frag}
theorem hAdd : OpD K addD (rM fun i j => .int (i + j)) := opd_iop fun _ _ _ _ => rfl
theorem hSub : OpD K subD (rM fun i j => .int (i - j)) := opd_iop fun _ _ _ _ => rfl
theorem hMul : OpD K mulD (rMC CMulB fun i j => .int (i * j)) := opd_iopC (fun _ _ h => h.ok) fun _ _ _ _ => rfl
theorem hDiv : OpD K divD (rMC CDivB fun i j => .int (i / j)) := opd_iopC (fun _ _ h => h.ok) fun _ _ _ _ => rfl
theorem hMod : OpD K modD (rMC (fun _ j => 0 < j) fun i j => .int (i % j)) := opd_iopC (fun _ _ h => h) fun _ _ _ _ => rfl
theorem hPow : OpD K powD (rMC CPow fun i j => .int (i ^ j.toNat)) := opd_iopC (fun _ _ h => h.ok) fun _ _ _ _ => rfl
theorem hLt : OpD K ltD (rM fun i j => .bl (decide (i < j))) := opd_iop fun _ _ _ _ => rfl
theorem hGt : OpD K gtD (rM fun i j => .bl (decide (j < i))) := opd_iop fun _ _ _ _ => rfl
theorem hGe : OpD K geD (rM fun i j => .bl (decide (j ≤ i))) := opd_iop fun _ _ _ _ => rfl
end
noncomputable def eqD : PyData → PyData → Option PyData := fun x y => if x.depth ≤ 60 then some (.bool (PyData.eqv x y)) else none
noncomputable def neD : PyData → PyData → Option PyData := fun x y => if x.depth ≤ 60 then some (.bool (!PyData.eqv x y)) else none
theorem hEq {K : PySem.W.Frag} : OpD K eqD (rEqD K) := by
  intro H x y dx dy d Q e hx hy q
  unfold eqD at e
  split at e
  · cases e; exact ⟨dx, dy, hx, hy, by assumption, q _ fun _ => rfl⟩
  · cases e
theorem hNe {K : PySem.W.Frag} : OpD K neD (rNeD K) := by
  intro H x y dx dy d Q e hx hy q
  unfold neD at e
  split at e
  · cases e; exact ⟨dx, dy, hx, hy, by assumption, q _ fun _ => rfl⟩
  · cases e
noncomputable def isNoneD : PyData → Bool
  | .none => true
  | _ => false
noncomputable def isD : PyData → PyData → Option PyData := fun x y => if isNoneD y then some (.bool (isNoneD x)) else none
noncomputable def isnD : PyData → PyData → Option PyData := fun x y => if isNoneD y then some (.bool (!isNoneD x)) else none
theorem isNone_of {K : PySem.W.Frag} {H : Hp} {d : PyData} {x : V} (h : Has K H d x) : isNon x = isNoneD d := by
  cases d with
  | none => have e : x = .non := h; rw [e]; rfl
  | bool b => have e : x = .bl b := h; rw [e]; rfl
  | int i => have e : x = .int i := h; rw [e]; rfl
  | str y => have e : x = .str y := h.1; rw [e]; rfl
  | list ds => obtain ⟨a, xs, rfl, _⟩ := h; rfl
  | tuple ds => obtain ⟨a, xs, rfl, _⟩ := h; rfl
  | dict k => exact h.elim
theorem none_of {K : PySem.W.Frag} {H : Hp} {d : PyData} {x : V} (h : Has K H d x) (e : isNoneD d = true) : x = .non := by
  cases d <;> first | exact h | (simp [isNoneD] at e)
theorem hIs {K : PySem.W.Frag} : OpD K isD rIsN := by
  intro H x y dx dy d Q e hx hy q
  unfold isD at e
  split at e
  · rename_i hn
    cases e
    have := none_of hy hn
    subst this
    show Q (.bl (isNon x)) H
    rw [isNone_of hx]; exact q _ fun _ => rfl
  · cases e
theorem hIsn {K : PySem.W.Frag} : OpD K isnD rNotN := by
  intro H x y dx dy d Q e hx hy q
  unfold isnD at e
  split at e
  · rename_i hn
    cases e
    have := none_of hy hn
    subst this
    show Q (.bl (!isNon x)) H
    rw [isNone_of hx]; exact q _ fun _ => rfl
  · cases e
noncomputable abbrev VT := GS → Option Bool
noncomputable def tVT (K : PySem.W.Frag) (f : VT) : TT := fun σ H Q => ∃ ioA G H₀ S F, VI K ioA G H₀ S F σ H ∧ ∃ b, f S = some b ∧ ∀ F' H', Grow F H F' H' → Q b H'
noncomputable def vB (f : VE) : VT := fun S => match f S with
  | some (.bool b) => some b
  | _ => none
theorem vB_some {f : VE} {S : GS} {b : Bool} (h : vB f S = some b) : f S = some (.bool b) := by
  unfold vB at h
  split at h
  · cases h; assumption
  · cases h
noncomputable def tAnd2 (f g : VT) : VT := fun S => match f S with
  | some true => g S
  | some false => some false
  | none => none
noncomputable def tOr2 (f g : VT) : VT := fun S => match f S with
  | some true => some true
  | some false => g S
  | none => none
noncomputable def tNot2 (f : VT) : VT := fun S => match f S with
  | some b => some !b
  | none => none
noncomputable def truD : PyData → Option Bool
  | .none => some false
  | .bool b => some b
  | .int i => some (i != 0)
  | .list ds => some (!ds.isEmpty)
  | .tuple ds => some (!ds.isEmpty)
  | _ => none
noncomputable def vTru (f : VE) : VT := fun S => match f S with
  | some d => truD d
  | none => none
theorem HasL.isEmpty {K : PySem.W.Frag} {H : Hp} {ds : List PyData} {vs : List V} (h : HasL K H ds vs) : vs.isEmpty = ds.isEmpty := by
  have := h.length
  cases ds <;> cases vs <;> simp_all
section
variable {X : Cx} {a b e : Expr} {fa fb f : VE} {ta tb : VT} {pos : Pos} {h : PyData → PyData → Option PyData} {r : R2} {rest : List Expr}
theorem rdTM {t : TE} {σ : St} {H : Hp} {Q : Bool → Hp → Prop} {K : PySem.W.Frag} (ht : ∀ Q', tV K RS f σ H Q' → t σ H Q') (q : tVT K (vB f) σ H Q) : tTM t σ H Q := by
  obtain ⟨ioA, G, H₀, S, F, I, b, e, q⟩ := q
  refine ht _ ⟨ioA, G, H₀, S, F, I, .bool b, vB_some e, fun v F' H' g hv => ?_⟩
  have ev : v = .bl b := hv
  subst ev
  exact q F' H' g
theorem cCmp {op : CmpOp} (ho : OpR X (compareOp op) r) (hd : OpD X.K h r) (ha : PE X a (tV X.K RW fa)) (hb : PE X b (tV X.K RW fb)) (hm : behindInMarks op b = false := by first | exact nomark _ | rfl) : PT X (.Compare a [op] [b] pos) (tVT X.K (vB (v2 h fa fb))) :=
  PT.imp (ptC ho ha hb hm) fun _ _ _ q => rdTM (fun _ q => rd2 hd q) q
theorem cVal (he : PE X e (tV X.K RS f)) (hp : ∀ whole, isTrue e X.env whole = (do let v ← whole; standAt e.pos; holding [v] (truthy v)) := by intro _; rfl) : PT X e (tVT X.K (vB f)) :=
  PT.imp (ptV he hp) fun _ _ _ q => rdTM (fun _ q => q) q
theorem cNot (ha : PT X a (tVT X.K ta)) : PT X (.UnaryOp .Not a pos) (tVT X.K (tNot2 ta)) := PT.imp (pt_not ha) fun _ _ _ q => by
  obtain ⟨ioA, G, H₀, S, F, I, b, e, q⟩ := q
  unfold tNot2 at e
  cases q2 : ta S with
  | none => rw [q2] at e; cases e
  | some c =>
    rw [q2] at e
    cases e
    exact ⟨ioA, G, H₀, S, F, I, c, q2, fun F' H' g => q F' H' g⟩
theorem wAnd1 (ha : PT X a (tVT X.K ta)) : PW X (.BoolOp .And [a] pos) (tVT X.K ta) := pw_and1 ha
theorem wOr1 (ha : PT X a (tVT X.K ta)) : PW X (.BoolOp .Or [a] pos) (tVT X.K ta) := pw_or1 ha
theorem wAnd (ha : PT X a (tVT X.K ta)) (hb : PW X (.BoolOp .And (b :: rest) pos) (tVT X.K tb)) : PW X (.BoolOp .And (a :: b :: rest) pos) (tVT X.K (tAnd2 ta tb)) := PW.imp (pw_and ha hb) fun _ _ _ q => by
  obtain ⟨ioA, G, H₀, S, F, I, b, e, q⟩ := q
  unfold tAnd2 at e
  cases q2 : ta S with
  | none => rw [q2] at e; cases e
  | some c =>
    rw [q2] at e
    refine ⟨ioA, G, H₀, S, F, I, c, q2, fun F' H' g => ?_⟩
    cases c with
    | true => rw [if_pos rfl]; exact ⟨ioA, G, H₀, S, F', I.grow g, b, e, fun F2 H2 g2 => q F2 H2 (g.trans g2)⟩
    | false => rw [if_neg Bool.false_ne_true]; cases e; exact q F' H' g
theorem wOr (ha : PT X a (tVT X.K ta)) (hb : PW X (.BoolOp .Or (b :: rest) pos) (tVT X.K tb)) : PW X (.BoolOp .Or (a :: b :: rest) pos) (tVT X.K (tOr2 ta tb)) := PW.imp (pw_or ha hb) fun _ _ _ q => by
  obtain ⟨ioA, G, H₀, S, F, I, b, e, q⟩ := q
  unfold tOr2 at e
  cases q2 : ta S with
  | none => rw [q2] at e; cases e
  | some c =>
    rw [q2] at e
    refine ⟨ioA, G, H₀, S, F, I, c, q2, fun F' H' g => ?_⟩
    cases c with
    | false => rw [if_neg Bool.false_ne_true]; exact ⟨ioA, G, H₀, S, F', I.grow g, b, e, fun F2 H2 g2 => q F2 H2 (g.trans g2)⟩
    | true => rw [if_pos rfl]; cases e; exact q F' H' g
theorem cTru (he : PE X e (tV X.K RW f)) (hp : ∀ whole, isTrue e X.env whole = (do let v ← whole; standAt e.pos; holding [v] (truthy v)) := by intro _; rfl) : PT X e (tVT X.K (vTru f)) :=
  PT.imp (pt_truth he hp) fun _ _ _ q => by
    obtain ⟨ioA, G, H₀, S, F, I, b, e, q⟩ := q
    unfold vTru at e
    cases q2 : f S with
    | none => rw [q2] at e; cases e
    | some d =>
      rw [q2] at e
      refine ⟨ioA, G, H₀, S, F, I, d, q2, fun v F' H' g hv => ⟨b, ?_, q F' H' g⟩⟩
      cases d with
      | none => cases e; have ev : v = .non := hv; rw [ev]; rfl
      | bool c => cases e; have ev : v = .bl _ := hv; rw [ev]; rfl
      | int i => cases e; have ev : v = .int _ := hv; rw [ev]; rfl
      | list ds => cases e; obtain ⟨p, xs, rfl, h1, h2⟩ := hv; exact .inl ⟨xs, h1, by rw [HasL.isEmpty h2]⟩
      | tuple ds => cases e; obtain ⟨p, xs, rfl, h1, h2⟩ := hv; exact .inr (.inl ⟨xs, h1, by rw [HasL.isEmpty h2]⟩)
      | str y => cases e
      | dict k => cases e
end
noncomputable def vAnd (f g : VE) : VE := fun S => match f S with
  | some (.bool true) => g S
  | some (.bool false) => some (.bool false)
  | _ => none
noncomputable def vOr (f g : VE) : VE := fun S => match f S with
  | some (.bool true) => some (.bool true)
  | some (.bool false) => g S
  | _ => none
noncomputable def vNot (f : VE) : VE := fun S => match f S with
  | some (.bool b) => some (.bool !b)
  | _ => none
noncomputable def vCh (h h' : PyData → PyData → Option PyData) (fa fb fc : VE) : VE := fun S => match fa S with
  | some x => match fb S with
    | some y => match h x y with
      | some (.bool true) => (match fc S with
        | some z => h' y z
        | none => none)
      | some (.bool false) => some (.bool false)
      | _ => none
    | none => none
  | none => none
noncomputable def vIf (c : VT) (f g : VE) : VE := fun S => match c S with
  | some true => f S
  | some false => g S
  | none => none
section
variable {X : Cx} {a b c e : Expr} {fa fb fc f : VE} {tc : VT} {pos : Pos} {h h' : PyData → PyData → Option PyData} {r r' : R2} {rest : List Expr} {R : Rel}
theorem dAnd (ha : PE X a (tV X.K RS fa)) (hb : PE X (.BoolOp .And (b :: rest) pos) (tV X.K RS fb)) : PE X (.BoolOp .And (a :: b :: rest) pos) (tV X.K RS (vAnd fa fb)) := (peAnd ha hb).imp fun _ _ _ q => by
  obtain ⟨ioA, G, H₀, S, F, I, d, e, q⟩ := q
  unfold vAnd at e
  split at e
  · rename_i q2
    refine ⟨ioA, G, H₀, S, F, I, _, q2, fun v F' H' g hv => ?_⟩
    have ev : v = .bl true := hv
    subst ev
    simp only [if_true]
    exact ⟨ioA, G, H₀, S, F', I.grow g, d, e, fun w F2 H2 g2 hw => q w F2 H2 (g.trans g2) hw⟩
  · rename_i q2
    cases e
    refine ⟨ioA, G, H₀, S, F, I, _, q2, fun v F' H' g hv => ?_⟩
    have ev : v = .bl false := hv
    subst ev
    simp only [Bool.false_eq_true, if_false]
    exact q _ F' H' g rfl
  · cases e
theorem dOne {op} (h : PE X a (tV X.K R f)) : PE X (.BoolOp op [a] pos) (tV X.K R f) := pe_one h
end
end VM
namespace VM
open PySem L2
section
variable {K : PySem.W.Frag} {F H F' H' : Hp}
theorem HasL.atI {ds : List PyData} {xs : List V} {i : Int} {d : PyData} (h : HasL K H ds xs) (e : L2.atI ds i = some d) : ∃ v, L2.atI xs i = some v ∧ Has K H d v := by
  unfold L2.atI at e ⊢
  rw [ixN_len h.length.symm]
  cases q : ixN ds.length i with
  | none => rw [q] at e; cases e
  | some j =>
    rw [q] at e
    exact h.at e
theorem HasL.drop : ∀ {ds : List PyData} {vs : List V} (n : Nat), HasL K H ds vs → HasL K H (ds.drop n) (vs.drop n)
  | _, _, 0, h => h
  | [], vs, n + 1, h => by
    have h' : vs = [] := h
    rw [h']; rfl
  | _ :: _, _, n + 1, ⟨_, _, g1, _, g3⟩ => by rw [g1]; exact HasL.drop n g3
theorem HasL.take : ∀ {ds : List PyData} {vs : List V} (n : Nat), HasL K H ds vs → HasL K H (ds.take n) (vs.take n)
  | _, _, 0, _ => by simp only [List.take_zero]; rfl
  | [], vs, n + 1, h => by
    have h' : vs = [] := h
    rw [h']; rfl
  | _ :: _, _, n + 1, ⟨u, r, g1, g2, g3⟩ => by rw [g1]; exact ⟨u, r.take n, rfl, g2, HasL.take n g3⟩
theorem RM.list {ds : List PyData} {v : V} (fh : Same F' H') (r : RM K F H F' H' (.list ds) v) : ∃ a xs, v = .ref a ∧ SqL K H' a xs ∧ HasL K F' ds xs := by
  rcases r with ⟨a, xs, rfl, h1, h2⟩ | ⟨ds', a, xs, e, rfl, h1, h2⟩
  · exact ⟨a, xs, rfl, fh.seq h1, h2⟩
  · cases e; exact ⟨a, xs, rfl, h1, h2⟩
theorem RM.tuple {ds : List PyData} {v : V} (fh : Same F' H') (r : RM K F H F' H' (.tuple ds) v) : ∃ a xs, v = .ref a ∧ SqT K H' a xs ∧ HasL K F' ds xs := by
  rcases r with ⟨a, xs, rfl, h1, h2⟩ | ⟨ds', a, xs, e, rfl, h1, h2⟩
  · exact ⟨a, xs, rfl, fh.seqT h1, h2⟩
  · cases e
theorem RM.grow {F2 H2 : Hp} {d : PyData} {v : V} (g : Grow F' H' F2 H2) (r : RM K F H F' H' d v) : RM K F H F2 H2 d v := by
  rcases r with r | ⟨ds, a, xs, e, e2, h1, h2⟩
  · exact .inl (Has.same g.ff r)
  · exact .inr ⟨ds, a, xs, e, e2, g.hh.seq h1, h2.same g.ff⟩
end
noncomputable def ixDt : PyData → PyData → Option PyData
  | .list ds, .int i => atI ds i
  | .tuple ds, .int i => atI ds i
  | _, _ => none
section
variable {X : Cx} {a b e : Expr} {fa fb f : VE} {pos p2 : Pos}
theorem dIx (ha : PE X a (tV X.K RM fa)) (hb : PE X b (tV X.K RW fb)) (hs : PlainIx b := by intro _ _; rfl) : PE X (.Subscript a b pos) (tV X.K RS (v2 ixDt fa fb)) :=
  (pe_ix (ix_list.or ix_tup) ha hb hs).imp fun _ _ Q q => by
    obtain ⟨ioA, G, H₀, S, F, I, d, e, q⟩ := q
    obtain ⟨x, y, ex, ey, e⟩ := v2_some e
    refine ⟨ioA, G, H₀, S, F, I, x, ex, fun v F1 H1 g1 hx => ⟨ioA, G, H₀, S, F1, I.grow g1, y, ey, fun u F2 H2 g2 hy => ?_⟩⟩
    have hx2 := RM.grow g2 hx
    unfold ixDt at e
    split at e
    · rename_i ds i
      have eu : u = .int i := hy
      obtain ⟨p, xs, rfl, h1, h2⟩ := RM.list g2.fh hx2
      obtain ⟨w, hw, hw2⟩ := HasL.atI h2 e
      exact .inl ⟨p, xs, i, w, rfl, eu, h1, hw, q w F2 H2 (g1.trans g2) hw2⟩
    · rename_i ds i
      have eu : u = .int i := hy
      obtain ⟨p, xs, rfl, h1, h2⟩ := RM.tuple g2.fh hx2
      obtain ⟨w, hw, hw2⟩ := HasL.atI h2 e
      exact .inr ⟨p, xs, i, w, rfl, eu, h1, hw, q w F2 H2 (g1.trans g2) hw2⟩
    · cases e
noncomputable def tVO (K : PySem.W.Frag) (f : GS → Option (Option Int)) : TO := fun σ H Q => ∃ ioA G H₀ S F, VI K ioA G H₀ S F σ H ∧ ∃ o, f S = some o ∧ ∀ F' H', Grow F H F' H' → Q o H'
noncomputable def oN : GS → Option (Option Int) := fun _ => some none
noncomputable def oI (f : VE) : GS → Option (Option Int) := fun S => match f S with
  | some (.int i) => some (some i)
  | _ => none
theorem poI (h : PE X e (tV X.K RW f)) : PO X (some e) (tVO X.K (oI f)) := PO.imp (po_some h) fun _ H Q q => by
  obtain ⟨ioA, G, H₀, S, F, I, o, e, q⟩ := q
  unfold oI at e
  split at e
  · rename_i i q2
    cases e
    refine ⟨ioA, G, H₀, S, F, I, _, q2, fun v F' H' g hv => ⟨i, hv, q F' H' g⟩⟩
  · cases e
noncomputable def cutD (xs : List PyData) (lo hi : Option Int) : List PyData := (xs.drop (HT.sIx xs.length 0 lo)).take (HT.sIx xs.length xs.length hi - HT.sIx xs.length 0 lo)
theorem HasL.cut {K : PySem.W.Frag} {H : Hp} {ds : List PyData} {vs : List V} {lo hi : Option Int} (h : HasL K H ds vs) : HasL K H (cutD ds lo hi) (cutV vs lo hi) := by
  unfold cutD cutV
  rw [h.length]
  exact HasL.take _ (HasL.drop _ h)
noncomputable def vSlL (f : VE) (l u : GS → Option (Option Int)) : VE := fun S => match f S, l S, u S with
  | some (.list ds), some lo, some hi => some (.list (cutD ds lo hi))
  | _, _, _ => none
noncomputable def vSlT (f : VE) (l u : GS → Option (Option Int)) : VE := fun S => match f S, l S, u S with
  | some (.tuple ds), some lo, some hi => if HT.sIx ds.length 0 lo = 0 ∧ HT.sIx ds.length ds.length hi = ds.length then none else some (.tuple (cutD ds lo hi))
  | _, _, _ => none
variable {lo hi : Option Expr} {fl fu : GS → Option (Option Int)}
theorem dSlL (he : PE X e (tV X.K RM f)) (hl : PO X lo (tVO X.K fl)) (hu : PO X hi (tVO X.K fu)) : PE X (.Subscript e (.Slice lo hi none p2) pos) (tV X.K RN (vSlL f fl fu)) :=
  (pe_slice sl_list he hl hu).imp fun _ H Q q => by
    obtain ⟨ioA, G, H₀, S, F, I, d, e, q⟩ := q
    unfold vSlL at e
    split at e
    · rename_i ds l u q1 q2 q3
      cases e
      refine ⟨ioA, G, H₀, S, F, I, _, q1, fun v F1 H1 g1 hx => ⟨ioA, G, H₀, S, F1, I.grow g1, l, q2, fun F2 H2 g2 => ⟨ioA, G, H₀, S, F2, (I.grow g1).grow g2, u, q3, fun F3 H3 g3 => ?_⟩⟩⟩
      obtain ⟨p, xs, rfl, h1, h2⟩ := RM.list g3.fh (RM.grow (g2.trans g3) hx)
      have g := (g1.trans g2).trans g3
      refine ⟨p, xs, rfl, h1, fun z hz => q _ F3 _ (g.trans (Grow.alloc g3.fh hz)) ⟨_, z, _, rfl, rfl, g.hh.free hz, g3.fh.free hz, upd_same, HasL.cut h2⟩⟩
    · cases e
noncomputable def vRev (f : VE) : VE := fun S => match f S with
  | some (.list ds) => some (.list ds.reverse)
  | _ => none
noncomputable def negD : PyData → Option PyData
  | .int i => some (.int (-i))
  | _ => none
noncomputable def v1 (h : PyData → Option PyData) (f : VE) : VE := fun S => match f S with
  | some x => h x
  | none => none
theorem dNeg (ha : PE X a (tV X.K RW f)) : PE X (.UnaryOp .USub a pos) (tV X.K RS (v1 negD f)) := (pe_un uNeg ha).imp fun _ H Q q => by
  obtain ⟨ioA, G, H₀, S, F, I, d, e, q⟩ := q
  unfold v1 at e
  split at e
  · rename_i x q1
    unfold negD at e
    split at e
    · rename_i i
      cases e
      refine ⟨ioA, G, H₀, S, F, I, _, q1, fun v F1 H1 g1 hx => ?_⟩
      have ev : v = .int i := hx
      subst ev
      exact q _ F1 H1 g1 rfl
    · cases e
  · cases e
end
noncomputable abbrev VA := GS → Option (List PyData)
noncomputable def tVA (K : PySem.W.Frag) (f : VA) : TA := fun σ H Q => ∃ ioA G H₀ S F, VI K ioA G H₀ S F σ H ∧ ∃ ds, f S = some ds ∧ ∀ vs F' H', Grow F H F' H' → HasL K F' ds vs → Q vs H'
noncomputable def tVAW (K : PySem.W.Frag) (f : VA) : TA := fun σ H Q => ∃ ioA G H₀ S F, VI K ioA G H₀ S F σ H ∧ ∃ ds, f S = some ds ∧ ∀ vs F' H', Grow F H F' H' → HasL K H' ds vs → Q vs H'
noncomputable def a0 : VA := fun _ => some []
noncomputable def aC (f : VE) (fs : VA) : VA := fun S => match f S with
  | some d => match fs S with
    | some ds => some (d :: ds)
    | none => none
  | none => none
theorem aC_some {f : VE} {fs : VA} {S : GS} {ds : List PyData} (h : aC f fs S = some ds) : ∃ d r, f S = some d ∧ fs S = some r ∧ ds = d :: r := by
  unfold aC at h
  cases q : f S with
  | none => rw [q] at h; cases h
  | some d =>
    rw [q] at h
    cases q2 : fs S with
    | none => rw [q2] at h; cases h
    | some r => rw [q2] at h; cases h; exact ⟨d, r, rfl, rfl, rfl⟩
section
variable {X : Cx} {e : Expr} {es : List Expr} {f : VE} {fs : VA} {pos : Pos}
theorem pa0 : PA X [] (tVA X.K a0) := PA.imp pa_nil fun _ H Q q => by
  obtain ⟨ioA, G, H₀, S, F, I, d, e, q⟩ := q
  cases e
  exact q [] F H (Grow.refl I.sub) rfl
theorem pw0 : PA X [] (tVAW X.K a0) := PA.imp pa_nil fun _ H Q q => by
  obtain ⟨ioA, G, H₀, S, F, I, d, e, q⟩ := q
  cases e
  exact q [] F H (Grow.refl I.sub) rfl
theorem paC (he : PE X e (tV X.K RS f)) (hr : PA X es (tVA X.K fs)) (hs : starEach (e :: es) X.env = (false, eval e X.env) :: starEach es X.env := by rfl) : PA X (e :: es) (tVA X.K (aC f fs)) := PA.imp (pa_cons he hr hs) fun _ H Q q => by
  obtain ⟨ioA, G, H₀, S, F, I, ds, e, q⟩ := q
  obtain ⟨d, r, e1, e2, rfl⟩ := aC_some e
  exact ⟨ioA, G, H₀, S, F, I, d, e1, fun v F1 H1 g1 hx => ⟨ioA, G, H₀, S, F1, I.grow g1, r, e2, fun vs F2 H2 g2 hy => q _ F2 H2 (g1.trans g2) ⟨v, vs, rfl, Has.same g2.ff hx, hy⟩⟩⟩
theorem pwC (he : PE X e (tV X.K RW f)) (hr : PA X es (tVAW X.K fs)) (hs : starEach (e :: es) X.env = (false, eval e X.env) :: starEach es X.env := by rfl) : PA X (e :: es) (tVAW X.K (aC f fs)) := PA.imp (pa_cons he hr hs) fun _ H Q q => by
  obtain ⟨ioA, G, H₀, S, F, I, ds, e, q⟩ := q
  obtain ⟨d, r, e1, e2, rfl⟩ := aC_some e
  exact ⟨ioA, G, H₀, S, F, I, d, e1, fun v F1 H1 g1 hx => ⟨ioA, G, H₀, S, F1, I.grow g1, r, e2, fun vs F2 H2 g2 hy => q _ F2 H2 (g1.trans g2) ⟨v, vs, rfl, Has.same g2.hh hx, hy⟩⟩⟩
noncomputable def vTup (fs : VA) : VE := fun S => match fs S with
  | some ds => if ds.length ≤ 1000 then some (.tuple ds) else none
  | none => none
noncomputable def vLst (fs : VA) : VE := fun S => match fs S with
  | some ds => if ds.length ≤ 1000 then some (.list ds) else none
  | none => none
theorem vTup_some {S : GS} {d : PyData} (h : vTup fs S = some d) : ∃ ds, fs S = some ds ∧ ds.length ≤ 1000 ∧ d = .tuple ds := by
  unfold vTup at h
  split at h
  · split at h
    · cases h; exact ⟨_, by assumption, by assumption, rfl⟩
    · cases h
  · cases h
theorem vLst_some {S : GS} {d : PyData} (h : vLst fs S = some d) : ∃ ds, fs S = some ds ∧ ds.length ≤ 1000 ∧ d = .list ds := by
  unfold vLst at h
  split at h
  · split at h
    · cases h; exact ⟨_, by assumption, by assumption, rfl⟩
    · cases h
  · cases h
theorem dTup {x1} (h : PA X es (tVA X.K fs)) : PE X (.Tuple es x1 pos) (tV X.K RS (vTup fs)) := (pe_tup h).imp fun _ H Q q => by
  obtain ⟨ioA, G, H₀, S, F, I, d, e, q⟩ := q
  obtain ⟨ds, e1, hl, rfl⟩ := vTup_some e
  refine ⟨ioA, G, H₀, S, F, I, ds, e1, fun vs F1 H1 g1 hx => ⟨by rw [← hx.length]; exact Nat.le_of_lt (small1000 hl), fun p hp => ?_⟩⟩
  exact q _ _ _ (g1.trans (Grow.allocF g1.fh hp)) ⟨p, vs, rfl, SqT.of upd_same, HasL.same (same_upd_new (g1.fh.free hp)) hx⟩
theorem dLst (h : PA X es (tVA X.K fs)) : PE X (.List es pos) (tV X.K RN (vLst fs)) := (pe_lst h).imp fun _ H Q q => by
  obtain ⟨ioA, G, H₀, S, F, I, d, e, q⟩ := q
  obtain ⟨ds, e1, hl, rfl⟩ := vLst_some e
  refine ⟨ioA, G, H₀, S, F, I, ds, e1, fun vs F1 H1 g1 hx => ⟨by rw [← hx.length]; exact Nat.le_of_lt (small1000 hl), fun p hp => ?_⟩⟩
  exact q _ _ _ (g1.trans (Grow.alloc g1.fh hp)) ⟨ds, p, vs, rfl, rfl, g1.hh.free hp, g1.fh.free hp, upd_same, hx⟩
end
noncomputable def CallD (K : PySem.W.Frag) (h : List PyData → Option PyData) (r : List V → Hp → VK → Prop) : Prop := ∀ H vs ds d Q, h ds = some d → HasL K H ds vs → (∀ v, (∀ H', Has K H' d v) → Q v H) → r vs H Q
noncomputable def vCB (h : List PyData → Option PyData) (fs : VA) : VE := fun S => match fs S with
  | some ds => h ds
  | none => none
theorem dCB {X : Cx} {e : Expr} {h : List PyData → Option PyData} {r : List V → Hp → VK → Prop} {fs : VA} (he : PE X e (tCB r (tVAW X.K fs))) (hd : CallD X.K h r) : PE X e (tV X.K RS (vCB h fs)) := he.imp fun _ H Q q => by
  obtain ⟨ioA, G, H₀, S, F, I, d, e, q⟩ := q
  unfold vCB at e
  split at e
  · rename_i ds q1
    exact ⟨ioA, G, H₀, S, F, I, ds, q1, fun vs F1 H1 g1 hx => hd H1 vs ds d Q e hx fun v hv => q v F1 H1 g1 (hv F1)⟩
  · cases e
noncomputable def lenD : List PyData → Option PyData
  | [.list ds] => some (.int ds.length)
  | [.tuple ds] => some (.int ds.length)
  | _ => none
noncomputable def absD : List PyData → Option PyData
  | [.int i] => some (.int (if i < 0 then -i else i))
  | _ => none
noncomputable def intsOf : List PyData → Option (List Int)
  | [] => some []
  | .int i :: r => match intsOf r with
    | some ns => some (i :: ns)
    | none => none
  | _ => none
theorem intsOf_some : ∀ {ds : List PyData} {ns : List Int}, intsOf ds = some ns → ds = ns.map PyData.int
  | [], _, h => by cases h; rfl
  | .int i :: r, ns, h => by
    unfold intsOf at h
    cases q : intsOf r with
    | none => rw [q] at h; cases h
    | some ms => rw [q] at h; cases h; rw [intsOf_some q]; rfl
  | .none :: _, _, h => by cases h
  | .bool _ :: _, _, h => by cases h
  | .str _ :: _, _, h => by cases h
  | .list _ :: _, _, h => by cases h
  | .tuple _ :: _, _, h => by cases h
  | .dict _ :: _, _, h => by cases h
theorem intsOf_map (ns : List Int) : intsOf (ns.map PyData.int) = some ns := by
  induction ns with
  | nil => rfl
  | cons n ns ih => simp only [List.map_cons, intsOf, ih]
noncomputable def sumD : List PyData → Option PyData
  | [.list ds] => match intsOf ds with
    | some ns => some (.int ns.sum)
    | none => none
  | _ => none
noncomputable def leastOf : List Int → Int
  | [] => 0
  | [n] => n
  | n :: r => min n (leastOf r)
theorem leastOf_spec : ∀ {ns : List Int}, ns ≠ [] → leastOf ns ∈ ns ∧ ∀ a ∈ ns, leastOf ns ≤ a
  | [n], _ => by simp [leastOf]
  | n :: m :: r, _ => by
    obtain ⟨h1, h2⟩ := leastOf_spec (ns := m :: r) (by simp)
    have e : leastOf (n :: m :: r) = min n (leastOf (m :: r)) := rfl
    rw [e]
    refine ⟨?_, fun a ha => ?_⟩
    · by_cases hle : n ≤ leastOf (m :: r)
      · rw [Int.min_eq_left hle]; exact List.mem_cons_self
      · rw [Int.min_eq_right (by omega)]; exact List.mem_cons_of_mem _ h1
    · rcases List.mem_cons.mp ha with rfl | ha
      · exact Int.min_le_left ..
      · exact Int.le_trans (Int.min_le_right ..) (h2 a ha)
noncomputable def minD : List PyData → Option PyData
  | [.list ds] => match intsOf ds with
    | some (n :: r) => some (.int (leastOf (n :: r)))
    | _ => none
  | _ => none
noncomputable def min2D : List PyData → Option PyData
  | [.int i, .int j] => some (.int (if j < i then j else i))
  | _ => none
noncomputable def max2D : List PyData → Option PyData
  | [.int i, .int j] => some (.int (if j > i then j else i))
  | _ => none
noncomputable def int1D : List PyData → Option PyData
  | [.int i] => some (.int i)
  | [.bool k] => some (.int (if k then 1 else 0))
  | _ => none
section
variable {K : PySem.W.Frag}
theorem HasL.one {H : Hp} {d : PyData} {vs : List V} (h : HasL K H [d] vs) : ∃ v, vs = [v] ∧ Has K H d v := by
  obtain ⟨v, r, rfl, h1, h2⟩ := h
  have h2' : r = [] := h2
  rw [h2']; exact ⟨v, rfl, h1⟩
theorem HasL.two {H : Hp} {d e : PyData} {vs : List V} (h : HasL K H [d, e] vs) : ∃ v u, vs = [v, u] ∧ Has K H d v ∧ Has K H e u := by
  obtain ⟨v, r, rfl, h1, h2⟩ := h
  obtain ⟨u, rfl, h3⟩ := HasL.one h2
  exact ⟨v, u, rfl, h1, h3⟩
theorem hLen : CallD K lenD (rLenM K) := by
  intro H vs ds d Q e hx q
  unfold lenD at e
  split at e
  · obtain ⟨v, rfl, a, xs, rfl, h1, h2⟩ := HasL.one hx
    cases e
    exact ⟨xs, .inl h1, by rw [← h2.length]; exact q _ fun _ => rfl⟩
  · obtain ⟨v, rfl, a, xs, rfl, h1, h2⟩ := HasL.one hx
    cases e
    exact ⟨xs, .inr h1, by rw [← h2.length]; exact q _ fun _ => rfl⟩
  · cases e
theorem hSum : CallD K sumD (rSumM K) := by
  intro H vs ds d Q e hx q
  unfold sumD at e
  split at e
  · split at e
    · rename_i ns hn
      obtain ⟨v, rfl, a, xs, rfl, h1, h2⟩ := HasL.one hx
      cases e
      rw [intsOf_some hn] at h2
      rw [HasL.ints.mp h2] at h1
      exact ⟨ns, h1, q _ fun _ => rfl⟩
    · cases e
  · cases e
theorem hMin : CallD K minD (rMinM K) := by
  intro H vs ds d Q e hx q
  unfold minD at e
  split at e
  · split at e
    · rename_i n r hn
      obtain ⟨v, rfl, a, xs, rfl, h1, h2⟩ := HasL.one hx
      cases e
      rw [intsOf_some hn] at h2
      rw [HasL.ints.mp h2] at h1
      refine ⟨n :: r, h1, by simp, fun M hM hA => ?_⟩
      obtain ⟨g1, g2⟩ := leastOf_spec (ns := n :: r) (by simp)
      have : M = leastOf (n :: r) := Int.le_antisymm (hA _ g1) (g2 _ hM)
      rw [this]
      exact q _ fun _ => rfl
    · cases e
  · cases e
end
noncomputable def tyD : PyData → String
  | .none => "NoneType"
  | .bool _ => "bool"
  | .int _ => "int"
  | .str _ => "str"
  | .list _ => "list"
  | .tuple _ => "tuple"
  | .dict _ => "dict"
noncomputable def isiD (T : String) (d : PyData) : Option PyData := match d with
  | .dict _ => none
  | _ => some (.bool (tyD d == T || (tyD d == "bool" && T == "int")))
noncomputable def rIsi (K : PySem.W.Frag) (T : String) : List V → Hp → VK → Prop := fun xs H Q => ∃ x d b, xs = [x, .ty T] ∧ Has K H d x ∧ PySem.W.kitOne K (.type (tyD d)) (.type T) = some b ∧ Q (.bl b) H
theorem cIsi {X : Cx} {T : String} : CallR X (.builtin "isinstance") (rIsi X.K T) := by
  intro pins s σ H xs us Q I r h
  obtain ⟨x, d, b, rfl, hd, e, q⟩ := h
  cases r with
  | cons rx rr =>
    cases rr with
    | cons r2 rr =>
      cases rr
      rename_i u u2
      cases (show u2 = Value.type T from r2)
      have fin : ∀ tk, EP X pins σ Q (.bool b) { s with toks := tk } := fun tk => ⟨.bl b, H, I.kept (t' := tk) fun _ _ h => h, rfl, q⟩
      cases d with
      | none => cases (show x = .non from hd); cases (show u = Value.none from rx); exact PySem.W.kia_one PySem.W.kitx_none I.kIn True.intro e (fun z => nomatch z) fin
      | bool y => cases (show x = .bl y from hd); cases (show u = Value.bool y from rx); exact PySem.W.kia_one PySem.W.kitx_bool I.kIn True.intro e (fun z => nomatch z) fin
      | int i => cases (show x = .int i from hd); obtain ⟨t, q⟩ := (show ∃ t, u = Value.int i t from rx); cases q; exact PySem.W.kia_one PySem.W.kitx_int I.kIn True.intro e (fun z => nomatch z) fin
      | str y => cases (show x = .str y from hd.1); obtain ⟨t, q⟩ := (show ∃ t, u = Value.str y t from rx); cases q; exact PySem.W.kia_one PySem.W.kitx_str I.kIn True.intro e (fun z => nomatch z) fin
      | list ds =>
        obtain ⟨a, ys, rfl, h1, _⟩ := hd
        cases (show u = Value.ref a from rx)
        obtain ⟨its, rv, ⟨o, n, e1, c, _, _⟩, hz⟩ := I.list h1
        exact PySem.W.kia_one PySem.W.kitx_list I.kIn ⟨o, e1, c⟩ e (fun z => nomatch z) fin
      | tuple ds =>
        obtain ⟨a, ys, rfl, h1, _⟩ := hd
        cases (show u = Value.ref a from rx)
        obtain ⟨its, rv, ⟨o, e1, c, _⟩, hz⟩ := I.tuple h1
        exact PySem.W.kia_one PySem.W.kitx_tuple I.kIn ⟨o, e1, c⟩ e (fun z => nomatch z) fin
      | dict k => exact hd.elim
structure KitT (K : PySem.W.Frag) (T : String) : Prop where
  ok : ∀ d d', isiD T d = some (.bool d') → PySem.W.kitOne K (.type (tyD d)) (.type T) = some d'
noncomputable def vIsi (T : String) (f : VE) : VE := v1 (isiD T) f
theorem isiD_bool {T : String} {d x : PyData} (h : isiD T d = some x) : ∃ b, x = .bool b := by
  cases d <;> first | (simp [isiD] at h; done) | (simp only [isiD, Option.some.injEq] at h; exact ⟨_, h.symm⟩)
theorem dIsi {X : Cx} {e : Expr} {T : String} {f : VE} (kt : KitT X.K T) (he : PE X e (tCB (rIsi X.K T) (tCons (tV X.K RW f) (tCons (tC (.ty T)) tNil)))) : PE X e (tV X.K RS (vIsi T f)) := he.imp fun _ H Q q => by
  obtain ⟨ioA, G, H₀, S, F, I, d, e, q⟩ := q
  unfold vIsi v1 at e
  split at e
  · rename_i x q1
    obtain ⟨b, rfl⟩ := isiD_bool e
    exact ⟨ioA, G, H₀, S, F, I, x, q1, fun v F1 H1 g1 hx => ⟨v, x, b, rfl, hx, kt.ok x b e, q _ F1 H1 g1 rfl⟩⟩
  · cases e
noncomputable def vListOf (f : VE) : VE := fun S => match f S with
  | some (.list ds) => some (.list ds)
  | some (.tuple ds) => some (.list ds)
  | _ => none
theorem dListOf {X : Cx} {e : Expr} {f : VE} (he : PE X e (tCB (rListM X.K) (tCons (tV X.K RM f) tNil))) : PE X e (tV X.K RN (vListOf f)) := he.imp fun _ H Q q => by
  obtain ⟨ioA, G, H₀, S, F, I, d, e, q⟩ := q
  unfold vListOf at e
  split at e
  · rename_i ds q1
    cases e
    refine ⟨ioA, G, H₀, S, F, I, _, q1, fun v F1 H1 g1 hx => ?_⟩
    obtain ⟨p, xs, rfl, h1, h2⟩ := RM.list g1.fh hx
    exact ⟨xs, .inl h1, fun z hz => q _ F1 _ (g1.trans (Grow.alloc g1.fh hz)) ⟨_, z, _, rfl, rfl, g1.hh.free hz, g1.fh.free hz, upd_same, h2⟩⟩
  · rename_i ds q1
    cases e
    refine ⟨ioA, G, H₀, S, F, I, _, q1, fun v F1 H1 g1 hx => ?_⟩
    obtain ⟨p, xs, rfl, h1, h2⟩ := RM.tuple g1.fh hx
    exact ⟨xs, .inr h1, fun z hz => q _ F1 _ (g1.trans (Grow.alloc g1.fh hz)) ⟨_, z, _, rfl, rfl, g1.hh.free hz, g1.fh.free hz, upd_same, h2⟩⟩
  · cases e
end VM
namespace VM
open PySem L2
noncomputable abbrev FnM := List PyData → Option (Bool × PyData)
noncomputable def RB : Bool → Rel
  | true => RN
  | false => RS
noncomputable def spV (K : PySem.W.Frag) (m : FnM) : Sp := fun vs H Q _ => ∃ G ds, Same G H ∧ HasL K G ds vs ∧ ∃ b d, m ds = some (b, d) ∧ ∀ v F' H', Grow G H F' H' → RB b K G H F' H' d v → Q v H'
noncomputable def vCall (m : FnM) (fs : VA) : VE := fun S => match fs S with
  | some ds => match m ds with
    | some (_, d) => some d
    | none => none
  | none => none
noncomputable def vCallN (m : FnM) (fs : VA) : VE := fun S => match fs S with
  | some ds => match m ds with
    | some (true, d) => some d
    | _ => none
  | none => none
noncomputable def immR : Bool → PyData → Bool
  | true, .list ds => immL ds
  | true, _ => false
  | false, d => imm d
noncomputable def vCallW (m : FnM) (fs : VA) : VE := fun S => match fs S with
  | some ds => match m ds with
    | some (b, d) => if immR b d = true then some d else none
    | none => none
  | none => none
noncomputable def vCallWN (m : FnM) (fs : VA) : VE := fun S => match fs S with
  | some ds => match m ds with
    | some (true, .list es) => if immL es = true then some (.list es) else none
    | _ => none
  | none => none
section
variable {X : Cx} {e : Expr} {m : FnM} {fs : VA}
theorem dCal (he : PE X e (tCall (spV X.K m) [] E0 (tVA X.K fs))) : PE X e (tV X.K RS (vCall m fs)) := he.imp fun _ H Q q => by
  obtain ⟨ioA, G, H₀, S, F, I, d, e, q⟩ := q
  unfold vCall at e
  split at e
  · rename_i ds q1
    split at e
    · rename_i b d' q2
      cases e
      refine ⟨ioA, G, H₀, S, F, I, ds, q1, fun vs F1 H1 g1 hx => ?_⟩
      show spV X.K m (vs ++ []) H1 Q E0
      rw [List.append_nil]
      refine ⟨F1, ds, g1.fh, hx, b, _, q2, fun v F' H' g hv => ?_⟩
      cases b with
      | false => exact q v F' H' (g1.trans g) hv
      | true =>
        obtain ⟨F'', g2, r2⟩ := RN.frz g hv
        exact q v F'' H' (g1.trans g2) r2
    · cases e
  · cases e
theorem dCalN (he : PE X e (tCall (spV X.K m) [] E0 (tVA X.K fs))) : PE X e (tV X.K RN (vCallN m fs)) := he.imp fun _ H Q q => by
  obtain ⟨ioA, G, H₀, S, F, I, d, e, q⟩ := q
  unfold vCallN at e
  split at e
  · rename_i ds q1
    split at e
    · rename_i d' q2
      cases e
      refine ⟨ioA, G, H₀, S, F, I, ds, q1, fun vs F1 H1 g1 hx => ?_⟩
      show spV X.K m (vs ++ []) H1 Q E0
      rw [List.append_nil]
      refine ⟨F1, ds, g1.fh, hx, true, _, q2, fun v F' H' g hv => ?_⟩
      obtain ⟨es, a, xs, h1, h2, h3, h4, h5, h6⟩ := hv
      exact q v F' H' (g1.trans g) ⟨es, a, xs, h1, h2, g1.hh.free h3, h4, h5, h6⟩
    · cases e
  · cases e
theorem dCalW (he : PE X e (tCall (spV X.K m) [] E0 (tVAW X.K fs))) : PE X e (tV X.K RS (vCallW m fs)) := he.imp fun _ H Q q => by
  obtain ⟨ioA, G, H₀, S, F, I, d, e, q⟩ := q
  unfold vCallW at e
  split at e
  · rename_i ds q1
    split at e
    · rename_i b d' q2
      split at e
      · rename_i hi
        cases e
        refine ⟨ioA, G, H₀, S, F, I, ds, q1, fun vs F1 H1 g1 hx => ?_⟩
        show spV X.K m (vs ++ []) H1 Q E0
        rw [List.append_nil]
        refine ⟨H1, ds, Same.refl _, hx, b, _, q2, fun v F' H' g hv => ?_⟩
        have gw : Grow F1 H1 (wide F1 H') H' := wide_grow ⟨g.hh, Same.refl _, g1.fh.trans g.hh, fun _ _ e => .inl e, fun _ _ _ e => e⟩
        cases b with
        | false => exact q v _ H' (g1.trans gw) (imm_wide hi (Has.same g.fh hv))
        | true =>
          obtain ⟨es, a, xs, rfl, h2, h3, h4, h5, h6⟩ := hv
          have hF1 : F1 a = none := g1.fh.free h3
          obtain ⟨F'', g2, r2⟩ := RN.frz (K := X.K) (d := .list es) gw ⟨es, a, xs, rfl, h2, h3, wide_none h5 hF1, h5, immL_wide hi (h6.same g.fh)⟩
          exact q v F'' H' (g1.trans g2) r2
      · cases e
    · cases e
  · cases e
end
structure ItOk (K : PySem.W.Frag) (F : Hp) (J : It) (ds : List PyData) : Prop where
  go : ∀ (i : Nat) d F' H', ds[i]? = some d → Same F F' → Same F' H' → J.go i H' ∧ ∀ x H'', J.yld i H' x H'' → ∃ F'', Grow F' H' F'' H'' ∧ Has K F'' d x
  stop : ∀ (i : Nat) F' H', ds.length ≤ i → Same F F' → Same F' H' → J.stop i H'
noncomputable def tVI (K : PySem.W.Frag) (f : VA) : TI := fun σ H R => ∃ ioA G H₀ S F, VI K ioA G H₀ S F σ H ∧ ∃ ds, f S = some ds ∧ ∀ J F' H', Grow F H F' H' → ItOk K F' J ds → R J H'
noncomputable def vItems (f : VE) : VA := fun S => match f S with
  | some (.list ds) => some ds
  | _ => none
noncomputable def vItemsT (f : VE) : VA := fun S => match f S with
  | some (.tuple ds) => some ds
  | _ => none
noncomputable def rangeD (lo : Int) (n : Nat) : List PyData := (List.range n).map fun (i : Nat) => PyData.int (lo + i)
noncomputable def vRng1 (fs : VA) : VA := fun S => match fs S with
  | some [.int j] => @ite _ (-(2 ^ 62) ≤ j ∧ j < 2 ^ 62) (Classical.propDecidable _) (some (rangeD 0 j.toNat)) none
  | _ => none
noncomputable def vRng2 (fs : VA) : VA := fun S => match fs S with
  | some [.int i, .int j] => @ite _ ((-(2 ^ 62) ≤ i ∧ i < 2 ^ 62) ∧ -(2 ^ 62) ≤ j ∧ j < 2 ^ 62) (Classical.propDecidable _) (some (rangeD i (j - i).toNat)) none
  | _ => none
noncomputable def enumD : Nat → List PyData → List PyData
  | _, [] => []
  | i, d :: r => .tuple [.int i, d] :: enumD (i + 1) r
theorem enumD_get : ∀ (k : Nat) (ds : List PyData) (i : Nat), (enumD k ds)[i]? = ds[i]?.map fun d => .tuple [.int ((k + i : Nat) : Int), d]
  | _, [], _ => by simp [enumD]
  | k, d :: r, 0 => by simp [enumD]
  | k, d :: r, i + 1 => by
    simp only [enumD, List.getElem?_cons_succ]
    rw [enumD_get (k + 1) r i]
    have e : k + 1 + i = k + (i + 1) := by omega
    rw [e]
theorem enumD_length (k : Nat) (ds : List PyData) : (enumD k ds).length = ds.length := by
  induction ds generalizing k with
  | nil => rfl
  | cons d r ih => simp [enumD, ih]
noncomputable def zipD (ds es : List PyData) : List PyData := List.zipWith (fun a b => PyData.tuple [a, b]) ds es
noncomputable def vEnum (fs : VA) : VA := fun S => match fs S with
  | some [.list ds] => some (enumD 0 ds)
  | _ => none
noncomputable def vZip (fs : VA) : VA := fun S => match fs S with
  | some [.list ds, .list es] => some (zipD ds es)
  | _ => none
section
variable {X : Cx} {tg l : Expr} {f : VE} {fs : VA} {p pos tpos : Pos} {elts : List Expr} {k : Nat}
theorem itok_list {K : PySem.W.Frag} {F : Hp} {a : Addr} {xs : List V} {ds : List PyData} (h1 : SqL K F a xs) (h2 : HasL K F ds xs) : ItOk K F (Itl K a) ds where
  go := fun i d F' H' e f1 f2 => by
    obtain ⟨v, ev, hv⟩ := h2.at e
    have hq := (f1.trans f2).seq h1
    refine ⟨⟨xs, v, hq, ev⟩, fun x H'' y => ?_⟩
    obtain ⟨e1, y⟩ := y
    subst e1
    have := y xs hq
    rw [ev] at this
    cases this
    exact ⟨F', Grow.refl f2, Has.same f1 hv⟩
  stop := fun i F' H' e f1 f2 => ⟨xs, (f1.trans f2).seq h1, by rw [← h2.length]; exact e⟩
theorem itok_rng {K : PySem.W.Frag} {F : Hp} {lo : Int} {n : Nat} : ItOk K F (Itr lo n) (rangeD lo n) where
  go := fun i d F' H' e f1 f2 => by
    unfold rangeD at e
    rw [List.getElem?_map] at e
    by_cases hi : i < n
    · rw [List.getElem?_range hi] at e
      cases e
      refine ⟨hi, fun x H'' y => ?_⟩
      obtain ⟨e1, e2⟩ := y
      subst e1 e2
      exact ⟨F', Grow.refl f2, rfl⟩
    · rw [List.getElem?_eq_none (by simp; omega)] at e
      cases e
  stop := fun i F' H' e f1 f2 => by
    unfold rangeD at e
    show n ≤ i
    simpa using e
theorem itok_enum {K : PySem.W.Frag} {F : Hp} {a : Addr} {xs : List V} {ds : List PyData} (h1 : SqL K F a xs) (h2 : HasL K F ds xs) : ItOk K F (Ite K a) (enumD 0 ds) where
  go := fun i d F' H' e f1 f2 => by
    rw [enumD_get] at e
    cases q : ds[i]? with
    | none => rw [q] at e; cases e
    | some d0 =>
      rw [q] at e
      cases e
      obtain ⟨v, ev, hv⟩ := h2.at q
      have hq := (f1.trans f2).seq h1
      refine ⟨⟨xs, v, hq, ev⟩, fun x H'' y => ?_⟩
      obtain ⟨pp, z, hn, e1, hz, e2⟩ := y
      subst e1 e2
      have := hz xs hq
      rw [ev] at this
      cases this
      have gr : Grow F' H' (upd F' pp (.tup [.int (i : Int), v])) (upd H' pp (.tup [.int (i : Int), v])) := Grow.allocF f2 hn
      refine ⟨_, gr, pp, _, rfl, SqT.of upd_same, _, _, rfl, ?_, _, _, rfl, Has.same (f1.trans gr.ff) hv, rfl⟩
      show V.int (i : Int) = V.int ((0 + i : Nat) : Int)
      rw [Nat.zero_add]
  stop := fun i F' H' e f1 f2 => ⟨xs, (f1.trans f2).seq h1, by rw [← h2.length]; rw [enumD_length] at e; exact e⟩
theorem itok_zip {K : PySem.W.Frag} {F : Hp} {a b : Addr} {xs ys : List V} {ds es : List PyData} (h1 : SqL K F a xs) (h2 : HasL K F ds xs) (h3 : SqL K F b ys) (h4 : HasL K F es ys) : ItOk K F (Itz K a b) (zipD ds es) where
  go := fun i d F' H' e f1 f2 => by
    unfold zipD at e
    rw [List.getElem?_zipWith] at e
    cases q : ds[i]? with
    | none => rw [q] at e; cases e
    | some d0 =>
      cases q2 : es[i]? with
      | none => rw [q, q2] at e; cases e
      | some e0 =>
        rw [q, q2] at e
        cases e
        obtain ⟨v, ev, hv⟩ := h2.at q
        obtain ⟨u, eu, hu⟩ := h4.at q2
        have hq := (f1.trans f2).seq h1
        have hq2 := (f1.trans f2).seq h3
        refine ⟨⟨xs, v, ys, u, hq, ev, hq2, eu⟩, fun x H'' y => ?_⟩
        obtain ⟨pp, z, w, hn, e1, hz, hw, e2⟩ := y
        subst e1 e2
        have t1 := hz xs hq
        have t2 := hw ys hq2
        rw [ev] at t1
        rw [eu] at t2
        cases t1
        cases t2
        have gr : Grow F' H' (upd F' pp (.tup [v, u])) (upd H' pp (.tup [v, u])) := Grow.allocF f2 hn
        exact ⟨_, gr, pp, _, rfl, SqT.of upd_same, _, _, rfl, Has.same (f1.trans gr.ff) hv, _, _, rfl, Has.same (f1.trans gr.ff) hu, rfl⟩
  stop := fun i F' H' e f1 f2 => by
    unfold zipD at e
    rw [List.length_zipWith] at e
    exact ⟨xs, ys, (f1.trans f2).seq h1, (f1.trans f2).seq h3, by rw [← h2.length, ← h4.length]; omega⟩
theorem itL (hl : PE X l (tV X.K RS f)) : PI X tg l (tVI X.K (vItems f)) := PI.imp (pi_list hl) fun _ H Q q => by
  obtain ⟨ioA, G, H₀, S, F, I, ds, e, q⟩ := q
  unfold vItems at e
  split at e
  · rename_i q1
    cases e
    refine ⟨ioA, G, H₀, S, F, I, _, q1, fun v F' H' g hv => ?_⟩
    obtain ⟨a, xs, rfl, h1, h2⟩ := hv
    exact ⟨a, rfl, ⟨xs, g.fh.seq h1⟩, q _ F' H' g (itok_list h1 h2)⟩
  · cases e
theorem itR1 (h : PI X tg l (iRng1 (tVAW X.K fs))) : PI X tg l (tVI X.K (vRng1 fs)) := PI.imp h fun _ H Q q => by
  obtain ⟨ioA, G, H₀, S, F, I, ds, e, q⟩ := q
  unfold vRng1 at e
  split at e
  · rename_i j q1
    split at e
    · rename_i hj
      cases e
      refine ⟨ioA, G, H₀, S, F, I, _, q1, fun vs F' H' g hv => ?_⟩
      obtain ⟨v, rfl, hv'⟩ := HasL.one hv
      have ev : v = .int j := hv'
      exact ⟨j, by rw [ev], hj.1, hj.2, q _ F' H' g itok_rng⟩
    · cases e
  · cases e
theorem itE (h : PI X tg l (iEnum X.K (tVA X.K fs))) : PI X tg l (tVI X.K (vEnum fs)) := PI.imp h fun _ H Q q => by
  obtain ⟨ioA, G, H₀, S, F, I, ds, e, q⟩ := q
  unfold vEnum at e
  split at e
  · rename_i es q1
    cases e
    refine ⟨ioA, G, H₀, S, F, I, _, q1, fun vs F' H' g hv => ?_⟩
    obtain ⟨v, rfl, a, xs, rfl, h1, h2⟩ := HasL.one hv
    exact ⟨a, rfl, ⟨xs, g.fh.seq h1⟩, q _ F' H' g (itok_enum h1 h2)⟩
  · cases e
theorem itZ (h : PI X tg l (iZip X.K (tVA X.K fs))) : PI X tg l (tVI X.K (vZip fs)) := PI.imp h fun _ H Q q => by
  obtain ⟨ioA, G, H₀, S, F, I, ds, e, q⟩ := q
  unfold vZip at e
  split at e
  · rename_i es es2 q1
    cases e
    refine ⟨ioA, G, H₀, S, F, I, _, q1, fun vs F' H' g hv => ?_⟩
    obtain ⟨v, u, rfl, ⟨a, xs, rfl, h1, h2⟩, b, ys, rfl, h3, h4⟩ := HasL.two hv
    exact ⟨a, b, rfl, ⟨xs, g.fh.seq h1⟩, ⟨ys, g.fh.seq h3⟩, q _ F' H' g (itok_zip h1 h2 h3 h4)⟩
  · cases e
end
section
variable {K : PySem.W.Frag} {ioA : Nat → Option Addr} {G H₀ F H : Hp} {S : GS} {σ : St}
theorem VI.set (I : VI K ioA G H₀ S F σ H) {i : Nat} {d : PyData} {v : V} (hd : Has K F d v) : VI K ioA G H₀ (S.set i (some (.fr, d))) F (σ.set i (some v)) H where
  pl := I.pl
  len := by rw [List.length_set, List.length_set]; exact I.len
  same := I.same
  gf := I.gf
  new := I.new
  sub := I.sub
  slot := fun j t d' e => by
    by_cases hj : j = i
    · subst hj
      by_cases hl : j < S.length
      · rw [List.getElem?_set_self hl] at e
        cases e
        exact ⟨v, List.getElem?_set_self (by rw [← I.len]; exact hl), hd⟩
      · rw [List.getElem?_eq_none (by rw [List.length_set]; omega)] at e
        cases e
    · rw [List.getElem?_set_ne (Ne.symm hj)] at e ⊢
      exact I.slot j t d' e
  inj := fun j k t t' d1 d2 u e1 e2 n1 n2 v1 v2 => by
    have h1 : j ≠ i := fun z => by
      subst z
      by_cases hl : j < S.length
      · rw [List.getElem?_set_self hl] at e1; cases e1; exact n1 rfl
      · rw [List.getElem?_eq_none (by rw [List.length_set]; omega)] at e1; cases e1
    have h2 : k ≠ i := fun z => by
      subst z
      by_cases hl : k < S.length
      · rw [List.getElem?_set_self hl] at e2; cases e2; exact n2 rfl
      · rw [List.getElem?_eq_none (by rw [List.length_set]; omega)] at e2; cases e2
    rw [List.getElem?_set_ne (Ne.symm h1)] at e1 v1
    rw [List.getElem?_set_ne (Ne.symm h2)] at e2 v2
    exact I.inj j k t t' d1 d2 u e1 e2 n1 n2 v1 v2
end
noncomputable abbrev VG := PyData → GS → Option GS
noncomputable abbrev VGs := List PyData → GS → Option GS
noncomputable def noIo (S : GS) (i : Nat) : Bool := match S[i]? with
  | some (some (.io, _)) => false
  | _ => true
noncomputable def gN (i : Nat) : VG := fun d S => if noIo S i = true then some (S.set i (some (.fr, d))) else none
noncomputable def g0 : VGs := fun ds S => match ds with
  | [] => some S
  | _ => none
noncomputable def gC (t : VG) (u : VGs) : VGs := fun ds S => match ds with
  | d :: r => match t d S with
    | some S1 => u r S1
    | none => none
  | [] => none
noncomputable def gT (n : Nat) (u : VGs) : VG := fun d S => match d with
  | .tuple ds => if ds.length = n then u ds S else none
  | _ => none
noncomputable def tVG (K : PySem.W.Frag) (t : VG) (js : List Nat) : TG := fun v σ H Q => ∃ ioA G H₀ S F, VI K ioA G H₀ S F σ H ∧ ∃ d S', Has K F d v ∧ t d S = some S' ∧ ∀ σ', (∀ (j : Nat), j ∉ js → σ'[j]? = σ[j]?) → VI K ioA G H₀ S' F σ' H → Q σ' H
noncomputable def tVGs (K : PySem.W.Frag) (t : VGs) (js : List Nat) : TGs := fun vs σ H Q => ∃ ioA G H₀ S F, VI K ioA G H₀ S F σ H ∧ ∃ ds S', HasL K F ds vs ∧ t ds S = some S' ∧ ∀ σ', (∀ (j : Nat), j ∉ js → σ'[j]? = σ[j]?) → VI K ioA G H₀ S' F σ' H → Q σ' H
section
variable {X : Cx} {e : Expr} {es : List Expr} {t : VG} {u : VGs} {js ks : List Nat} {pos : Pos}
theorem tgN {i : Nat} (h : PG X e (gName i)) : PG X e (tVG X.K (gN i) [i]) := PG.imp h fun v σ H Q q => by
  obtain ⟨ioA, G, H₀, S, F, I, d, S', hd, e, q⟩ := q
  unfold gN at e
  split at e
  · cases e
    exact q _ (fun j hj => List.getElem?_set_ne (fun z => hj (by simp [z]))) (I.set hd)
  · cases e
theorem PGs.imp {t t' : TGs} (h : PGs X es t) (ht : ∀ v σ H Q, t' v σ H Q → t v σ H Q) : PGs X es t' := fun pins s σ H v u Q I r q => h pins s σ H v u Q I r (ht v σ H Q q)
theorem tg0 : PGs X [] (tVGs X.K g0 []) := PGs.imp pgsNil fun vs σ H Q q => by
  obtain ⟨ioA, G, H₀, S, F, I, ds, S', hd, e, q⟩ := q
  unfold g0 at e
  split at e
  · cases e
    have hd' : vs = [] := hd
    rw [hd']
    exact q σ (fun _ _ => rfl) I
  · cases e
theorem tgC (h1 : PG X e (tVG X.K t js)) (h2 : PGs X es (tVGs X.K u ks)) (hs : (assignEach (e :: es) X.env).map (·.2) = assign e X.env :: (assignEach es X.env).map (·.2) := by rfl) : PGs X (e :: es) (tVGs X.K (gC t u) (js ++ ks)) := PGs.imp (pgsCons h1 h2 hs) fun vs σ H Q q => by
  obtain ⟨ioA, G, H₀, S, F, I, ds, S', hd, e, q⟩ := q
  unfold gC at e
  split at e
  · rename_i d r
    split at e
    · rename_i S1 q1
      obtain ⟨v, rr, rfl, hv, hr⟩ := hd
      refine ⟨ioA, G, H₀, S, F, I, d, S1, hv, q1, fun σ1 k1 I1 => ⟨ioA, G, H₀, S1, F, I1, r, S', hr, e, fun σ2 k2 I2 => q σ2 (fun j hj => ?_) I2⟩⟩
      rw [k2 j (fun z => hj (List.mem_append_right _ z)), k1 j (fun z => hj (List.mem_append_left _ z))]
    · cases e
  · cases e
theorem tgT {k n : Nat} (hc : X.calm = true) (h : PGs X es (tVGs X.K u js)) (hn : (assignEach es X.env).length = n := by rfl) (hst : (assignEach es X.env).findIdx? (·.1) = none := by rfl) : PG X (.Tuple es k pos) (tVG X.K (gT n u) js) := PG.imp (pgTup hc h hn hst) fun v σ H Q q => by
  obtain ⟨ioA, G, H₀, S, F, I, d, S', hd, e, q⟩ := q
  unfold gT at e
  split at e
  · rename_i ds
    split at e
    · rename_i hl
      obtain ⟨a, xs, rfl, h1, h2⟩ := hd
      exact ⟨xs, I.sub.seqT h1, by rw [← h2.length]; exact hl, ioA, G, H₀, S, F, I, ds, S', h2, e, q⟩
    · cases e
  · cases e
end
noncomputable def capOne (S : GS) : Option Nat → Option (Tg × PyData)
  | none => none
  | some j => match S[j]? with
    | some (some (_, d)) => some (.fr, d)
    | _ => none
noncomputable def capFr (S : GS) : List (Option Nat) → Bool
  | [] => true
  | none :: r => capFr S r
  | some j :: r => (match S[j]? with
    | some (some (.fr, _)) => true
    | some (some _) => false
    | _ => true) && capFr S r
noncomputable def capG (cap : List (Option Nat)) (S : GS) : GS := cap.map (capOne S)
noncomputable def lcD (t : VG) (fc : VT) (fe : VE) (S : GS) : List PyData → Option (List PyData)
  | [] => some []
  | d :: r => match t d S with
    | none => none
    | some S2 => match fc S2 with
      | none => none
      | some false => lcD t fc fe S r
      | some true => match fe S2 with
        | none => none
        | some e => match lcD t fc fe S r with
          | none => none
          | some es => some (e :: es)
noncomputable def vLC (fi : VA) (cap : List (Option Nat)) (t : VG) (fc : VT) (fe : VE) : VE := fun S => match fi S with
  | some ds => @ite _ (capFr S cap = true ∧ ds.length < sizeLine) (Classical.propDecidable _) (match lcD t fc fe (capG cap S) ds with
    | some es => some (.list es)
    | none => none) none
  | none => none
noncomputable def vLCW (fi : VA) (cap : List (Option Nat)) (t : VG) (fc : VT) (fe : VE) : VE := fun S => match fi S with
  | some ds => @ite _ (ds.length < sizeLine) (Classical.propDecidable _) (match lcD t fc (vImm fe) (capG cap S) ds with
    | some es => some (.list es)
    | none => none) none
  | none => none
theorem capG_get {cap : List (Option Nat)} {S : GS} {i : Nat} {t : Tg} {d : PyData} (h : (capG cap S)[i]? = some (some (t, d))) : ∃ j t', cap[i]? = some (some j) ∧ S[j]? = some (some (t', d)) ∧ t = .fr := by
  unfold capG at h
  rw [List.getElem?_map] at h
  cases q : cap[i]? with
  | none => rw [q] at h; cases h
  | some o =>
    rw [q] at h
    cases o with
    | none => simp [capOne] at h
    | some j =>
      simp only [Option.map_some, capOne, Option.some.injEq] at h
      split at h
      · rename_i t' d' hS
        cases h
        exact ⟨j, t', rfl, hS, rfl⟩
      · cases h
theorem capFr_get {S : GS} : ∀ {cap : List (Option Nat)} {i j : Nat} {t : Tg} {d : PyData}, capFr S cap = true → cap[i]? = some (some j) → S[j]? = some (some (t, d)) → t = .fr
  | [], i, j, t, d, _, h, _ => by simp at h
  | none :: r, 0, j, t, d, _, h, _ => by simp at h
  | none :: r, i + 1, j, t, d, hc, h, hs => capFr_get (cap := r) (i := i) hc (by simpa using h) hs
  | some k :: r, 0, j, t, d, hc, h, hs => by
    have e : k = j := by simpa using h
    subst e
    unfold capFr at hc
    rw [hs] at hc
    cases t <;> simp at hc ⊢
  | some k :: r, i + 1, j, t, d, hc, h, hs => by
    unfold capFr at hc
    rw [Bool.and_eq_true] at hc
    exact capFr_get (cap := r) (i := i) hc.2 (by simpa using h) hs
theorem capSt_get {cap : List (Option Nat)} {σ : St} {i j : Nat} {v : V} (h : cap[i]? = some (some j)) (hs : σ[j]? = some (some v)) : (capSt cap σ)[i]? = some (some v) := by
  unfold capSt
  rw [List.getElem?_map, h]
  simp only [Option.map_some, hs]
section
variable {K : PySem.W.Frag} {ioA : Nat → Option Addr} {G H₀ F H : Hp} {S : GS} {σ : St} {cap : List (Option Nat)}
theorem VI.block (I : VI K ioA G H₀ S F σ H) {R : Hp} (hR : Same R H) (hv : ∀ (i j : Nat) t d v, cap[i]? = some (some j) → S[j]? = some (some (t, d)) → σ[j]? = some (some v) → SlotOk K ioA H₀ F H j t d v → Has K R d v) :
    VI K (fun _ => none) R H (capG cap S) R (capSt cap σ) H where
  pl := fun _ _ _ e => e
  len := by unfold capG capSt; rw [List.length_map, List.length_map]
  same := Same.refl _
  gf := Same.refl _
  new := fun _ _ e => .inl e
  sub := hR
  slot := fun i t d e => by
    obtain ⟨j, t', h1, h2, rfl⟩ := capG_get e
    obtain ⟨v, hv1, hs⟩ := I.slot j t' d h2
    exact ⟨v, capSt_get h1 hv1, hv i j t' d v h1 h2 hv1 hs⟩
  inj := fun i j t t' d d' v e1 _ n1 => by
    obtain ⟨_, _, _, _, rfl⟩ := capG_get e1
    exact absurd rfl n1
theorem VI.block_fr (I : VI K ioA G H₀ S F σ H) (hc : capFr S cap = true) : VI K (fun _ => none) F H (capG cap S) F (capSt cap σ) H :=
  I.block I.sub fun i j t d v h1 h2 _ hs => by
    have := capFr_get hc h1 h2
    subst this
    exact hs
theorem VI.block_any (I : VI K ioA G H₀ S F σ H) : VI K (fun _ => none) H H (capG cap S) H (capSt cap σ) H :=
  I.block (Same.refl _) fun i j t d v h1 h2 _ hs => by
    have own : OwnAt K H₀ F H d v → Has K H d v := fun ⟨a, ds, xs, e1, e2, e3, _, _, e6⟩ => by
      rw [e1]; exact ⟨a, xs, e2, SqL.of e3, e6.same I.sub⟩
    cases t with
    | fr => exact Has.same I.sub hs
    | ow => exact own hs
    | io => exact own hs.1
end
theorem capK_of {cap : List (Option Nat)} {σ σ' : St} {js : List Nat} (hjs : (js.all fun j => cap[j]? == some none) = true) (k : ∀ (j : Nat), j ∉ js → σ'[j]? = (capSt cap σ)[j]?) : CapK (capSt cap σ) σ' := fun j v e => by
  by_cases hj : j ∈ js
  · have := List.all_eq_true.mp hjs j hj
    have hc : cap[j]? = some none := by simpa using this
    unfold capSt at e
    rw [List.getElem?_map, hc] at e
    simp at e
  · rw [k j hj]; exact e
theorem rdLC' {K : PySem.W.Frag} {fi : VA} {cap : List (Option Nat)} {t : VG} {js : List Nat} {fc : VT} {fe fe' : VE} (hjs : (js.all fun j => cap[j]? == some none) = true) {σ : St} {H : Hp} {Q : VK} {ioA : Nat → Option Addr} {G H₀ F : Hp} {S : GS} {ds es : List PyData}
    (I : VI K ioA G H₀ S F σ H) (e1 : fi S = some ds) (hlen : ds.length < sizeLine) (e2 : lcD t fc fe (capG cap S) ds = some es)
    (Rf : Hp → Hp → Hp) (hb : ∀ F' H', Grow F H F' H' → VI K (fun _ => none) (Rf F' H') H' (capG cap S) (Rf F' H') (capSt cap σ) H' ∧ Same F' (Rf F' H'))
    (hr : ∀ (F' H' F2 H2 : Hp) S2 d v, fe S2 = some d → Same F' H' → Grow (Rf F' H') H' F2 H2 → Has K F2 d v → ∃ F3, Grow F' H' F3 H2 ∧ Has K F3 d v) (hfe : ∀ S d, fe S = some d → fe' S = some d)
    (q : ∀ v F' H', Grow F H F' H' → RN K F H F' H' (.list es) v → Q v H') : tLC (tVI K fi) cap (tVG K t js) (tVT K fc) (tV K RS fe') σ H Q := by
  refine ⟨ioA, G, H₀, S, F, I, ds, e1, fun J F1 H1 g1 it D hD => ?_⟩
  refine ⟨fun i m H' => ∃ F' es1 es2 ys, m = ds.length - i ∧ i ≤ ds.length ∧ H' D = some (.lst ys) ∧ F' D = none ∧ HasL K F' es1 ys ∧ Grow F1 H1 F' H' ∧ es1.length ≤ i ∧ lcD t fc fe (capG cap S) (ds.drop i) = some es2 ∧ es1 ++ es2 = es, ?_, ?_⟩
  · exact ⟨_, F1, [], es, [], rfl, Nat.zero_le _, upd_same, g1.fh.free hD, rfl, Grow.alloc g1.fh hD, Nat.zero_le _, e2, rfl⟩
  · rintro i m H' ⟨F', es1, es2, ys, rfl, hi, hDl, hFD, hh, g, hle, hr2, happ⟩
    by_cases hlt : i < ds.length
    · have hd : ds[i]? = some ds[i] := by simp [hlt]
      rw [List.drop_eq_getElem_cons hlt] at hr2
      obtain ⟨go, yl⟩ := it.go i ds[i] F' H' hd g.ff g.fh
      refine .inr ⟨go, fun x H2 y => ?_⟩
      obtain ⟨F2, g2, hx⟩ := yl x H2 y
      obtain ⟨IB, hR⟩ := hb F2 H2 ((g1.trans g).trans g2)
      have hr' := hr F2 H2
      generalize Rf F2 H2 = R at *
      generalize ds[i] = d0 at *
      unfold lcD at hr2
      cases q1 : t d0 (capG cap S) with
      | none => rw [q1] at hr2; cases hr2
      | some S2 =>
        rw [q1] at hr2
        simp only at hr2
        refine ⟨fun _ => none, R, H2, capG cap S, R, IB, d0, S2, Has.same hR hx, q1, fun σ2 k2 I2 => ⟨capK_of hjs k2, ?_⟩⟩
        have D2 : H2 D = some (.lst ys) := g2.hh _ _ hDl
        cases q2 : fc S2 with
        | none => rw [q2] at hr2; cases hr2
        | some b =>
          rw [q2] at hr2
          refine ⟨fun _ => none, R, H2, S2, R, I2, b, q2, fun F3 H3 g3 => ?_⟩
          cases b with
          | false =>
            simp only [Bool.false_eq_true, if_false]
            have gg : Grow F' H' F2 H3 := ⟨g2.hh.trans g3.hh, g2.ff, hR.trans (g3.ff.trans g3.fh), g2.new, g2.pl⟩
            have hF2 : F2 D = none := by
              cases z : F2 D with
              | none => rfl
              | some o =>
                rcases g2.new D o z with w | w | w
                · rw [hFD] at w; cases w
                · rw [hDl] at w; cases w
                · have := g2.fh D o z
                  rw [D2] at this; cases this; simp [imo] at w
            exact ⟨ds.length - (i + 1), by omega, F2, es1, es2, ys, rfl, hlt, g3.hh _ _ D2, hF2, hh.same g2.ff, g.trans gg, by omega, hr2, happ⟩
          | true =>
            simp only [if_true] at hr2 ⊢
            cases q3 : fe S2 with
            | none => rw [q3] at hr2; cases hr2
            | some e0 =>
              rw [q3] at hr2
              simp only at hr2
              cases q4 : lcD t fc fe (capG cap S) (ds.drop (i + 1)) with
              | none => rw [q4] at hr2; cases hr2
              | some es3 =>
                rw [q4] at hr2
                cases hr2
                refine ⟨fun _ => none, R, H2, S2, F3, I2.grow g3, e0, hfe _ _ q3, fun v F4 H4 g4 hv => ?_⟩
                obtain ⟨F5, g5, hv5⟩ := hr' F4 H4 S2 e0 v q3 g2.fh (g3.trans g4) hv
                have D4 : H4 D = some (.lst ys) := g5.hh _ _ D2
                have g25 := g2.trans g5
                have hF5 : F5 D = none := by
                  cases z : F5 D with
                  | none => rfl
                  | some o =>
                    rcases g25.new D o z with w | w | w
                    · rw [hFD] at w; cases w
                    · rw [hDl] at w; cases w
                    · have := g25.fh D o z
                      rw [D4] at this; cases this; simp [imo] at w
                have hly := hh.length
                refine ⟨ys, D4, by omega, ds.length - (i + 1), by omega, F5, es1 ++ [e0], es3, ys ++ [v], rfl, hlt, upd_same, hF5, HasL.snoc hv5 (hh.same g25.ff), ?_, by simp; omega, rfl, by simpa using happ⟩
                have g15 := g.trans g25
                refine ⟨fun b o e => ?_, g15.ff, fun b o e => ?_, g15.new, g15.pl⟩
                · rw [upd_ne (ne_of_none e hD)]; exact g15.hh b o e
                · rw [upd_ne (ne_of_none e hF5)]; exact g15.fh b o e
    · have hie : i = ds.length := by omega
      subst hie
      rw [List.drop_eq_nil_of_le (Nat.le_refl _)] at hr2
      cases hr2
      rw [List.append_nil] at happ
      subst happ
      refine .inl ⟨it.stop _ F' H' (Nat.le_refl _) g.ff g.fh, q _ F' H' (g1.trans g) ⟨_, D, ys, rfl, rfl, g1.hh.free hD, hFD, hDl, hh⟩⟩
theorem rdLC {K : PySem.W.Frag} {fi : VA} {cap : List (Option Nat)} {t : VG} {js : List Nat} {fc : VT} {fe : VE} (hjs : (js.all fun j => cap[j]? == some none) = true) {σ : St} {H : Hp} {Q : VK} (q : tV K RN (vLC fi cap t fc fe) σ H Q) :
    tLC (tVI K fi) cap (tVG K t js) (tVT K fc) (tV K RS fe) σ H Q := by
  obtain ⟨ioA, G, H₀, S, F, I, d, e, q⟩ := q
  unfold vLC at e
  split at e
  · rename_i ds e1
    split at e
    · rename_i hc
      split at e
      · rename_i es e2
        cases e
        exact rdLC' hjs I e1 hc.2 e2 (fun F' _ => F') (fun F' H' g => ⟨(I.grow g).block_fr hc.1, Same.refl _⟩) (fun F' H' F2 H2 S2 d v _ _ g2 hv => ⟨F2, g2, hv⟩) (fun _ _ h => h) q
      · cases e
    · cases e
  · cases e
theorem rdLCW {K : PySem.W.Frag} {fi : VA} {cap : List (Option Nat)} {t : VG} {js : List Nat} {fc : VT} {fe : VE} (hjs : (js.all fun j => cap[j]? == some none) = true) {σ : St} {H : Hp} {Q : VK} (q : tV K RN (vLCW fi cap t fc fe) σ H Q) :
    tLC (tVI K fi) cap (tVG K t js) (tVT K fc) (tV K RS fe) σ H Q := by
  obtain ⟨ioA, G, H₀, S, F, I, d, e, q⟩ := q
  unfold vLCW at e
  split at e
  · rename_i ds e1
    split at e
    · rename_i hc
      split at e
      · rename_i es e2
        cases e
        refine rdLC' hjs I e1 hc e2 (fun _ H' => H') (fun F' H' g => ⟨(I.grow g).block_any, g.fh⟩) (fun F' H' F2 H2 S2 d v he fh g2 hv => ?_) (fun _ _ h => (vImm_some h).1) q
        exact ⟨wide F' H2, wide_grow ⟨g2.hh, Same.refl _, fh.trans g2.hh, fun _ _ e => .inl e, fun _ _ _ e => e⟩, imm_wide (vImm_some he).2 (Has.same g2.fh hv)⟩
      · cases e
    · cases e
  · cases e
noncomputable def cTrue : VT := fun _ => some true
theorem PIfs.imp {X : Cx} {ifs : List Expr} {t t' : TT} (h : PIfs X ifs t) (ht : ∀ σ H Q, t' σ H Q → t σ H Q) : PIfs X ifs t' := fun pins s σ H Q I q => h pins s σ H Q I (ht σ H Q q)
theorem ifN {X : Cx} : PIfs X [] (tVT X.K cTrue) := PIfs.imp pif_nil fun _ H Q q => by
  obtain ⟨ioA, G, H₀, S, F, I, b, e, q⟩ := q
  cases e
  exact q F H (Grow.refl I.sub)
theorem dLC {X : Cx} {e : Expr} {fi : VA} {cap : List (Option Nat)} {t : VG} {js : List Nat} {fc : VT} {fe : VE} (he : PE X e (tLC (tVI X.K fi) cap (tVG X.K t js) (tVT X.K fc) (tV X.K RS fe))) (hjs : (js.all fun j => cap[j]? == some none) = true := by rfl) : PE X e (tV X.K RN (vLC fi cap t fc fe)) :=
  he.imp fun _ _ _ q => rdLC hjs q
theorem dLCW {X : Cx} {e : Expr} {fi : VA} {cap : List (Option Nat)} {t : VG} {js : List Nat} {fc : VT} {fe : VE} (he : PE X e (tLC (tVI X.K fi) cap (tVG X.K t js) (tVT X.K fc) (tV X.K RS fe))) (hjs : (js.all fun j => cap[j]? == some none) = true := by rfl) : PE X e (tV X.K RN (vLCW fi cap t fc fe)) :=
  he.imp fun _ _ _ q => rdLCW hjs q
end VM
namespace VM
open PySem L2
inductive Out where
  | fail
  | nxt (S : GS)
  | ret (S : GS) (b : Bool) (d : PyData)
  | brk (S : GS)
  | cnt (S : GS)
noncomputable abbrev VS := GS → Out
noncomputable def RR (K : PySem.W.Frag) (H₀ : Hp) (S : GS) (σ : St) (F H : Hp) : Bool → PyData → V → Prop
  | false, d, v => Has K F d v
  | true, d, v => OwnAt K H₀ F H d v ∧ ∀ (i : Nat) t d', S[i]? = some (some (t, d')) → t ≠ .fr → σ[i]? ≠ some (some v)
noncomputable def OutOk (K : PySem.W.Frag) (ioA : Nat → Option Addr) (G H₀ : Hp) (D : Ends) : Out → Prop
  | .fail => False
  | .nxt S => ∀ F σ H, VI K ioA G H₀ S F σ H → D.nx σ H
  | .brk S => ∀ F σ H, VI K ioA G H₀ S F σ H → D.bk σ H
  | .cnt S => ∀ F σ H, VI K ioA G H₀ S F σ H → D.ct σ H
  | .ret S b d => ∀ v F σ H, VI K ioA G H₀ S F σ H → RR K H₀ S σ F H b d v → D.rt v H
noncomputable def tVS (K : PySem.W.Frag) (g : VS) : TS := fun D σ H => ∃ ioA G H₀ S F, VI K ioA G H₀ S F σ H ∧ OutOk K ioA G H₀ D (g S)
section
variable {K : PySem.W.Frag} {ioA : Nat → Option Addr} {G H₀ F H F' H' : Hp} {S : GS} {σ : St} {D : Ends}
theorem VI.self (I : VI K ioA G H₀ S F σ H) : VI K ioA F H₀ S F σ H := ⟨I.len, I.same, Same.refl _, fun _ _ e => .inl e, I.sub, I.slot, I.inj, fun _ _ _ e => e⟩
theorem VI.rebase {S' : GS} {σ' : St} (I : VI K ioA G H₀ S F σ H) (J : VI K ioA F H₀ S' F' σ' H') : VI K ioA G H₀ S' F' σ' H' := ⟨J.len, J.same, I.gf.trans J.gf, fun a o e => by
  rcases J.new a o e with z | z | z
  · exact I.new a o z
  · exact .inr (.inl z)
  · exact .inr (.inr z), J.sub, J.slot, J.inj, fun a o u e => I.pl a o u (J.pl a o u e)⟩
theorem OutOk.rebase (I : VI K ioA G H₀ S F σ H) : ∀ {o : Out}, OutOk K ioA G H₀ D o → OutOk K ioA F H₀ D o
  | .fail, h => h
  | .nxt _, h => fun F' σ' H' J => h F' σ' H' (I.rebase J)
  | .brk _, h => fun F' σ' H' J => h F' σ' H' (I.rebase J)
  | .cnt _, h => fun F' σ' H' J => h F' σ' H' (I.rebase J)
  | .ret _ _ _, h => fun v F' σ' H' J r => h v F' σ' H' (I.rebase J) r
end
noncomputable def gNop : VS := fun S => .nxt S
noncomputable def gSeq (g1 g2 : VS) : VS := fun S => match g1 S with
  | .nxt S1 => g2 S1
  | o => o
noncomputable def gIf (c : VT) (g1 g2 : VS) : VS := fun S => match c S with
  | some true => g1 S
  | some false => g2 S
  | none => .fail
section
variable {X : Cx} {s : Stmt} {rest a b : List Stmt} {g g1 g2 : VS} {c : Expr} {tc : VT} {pos : Pos}
theorem sNil : PSs X [] (tVS X.K gNop) := PSs.imp pss_nil fun D σ H q => by
  obtain ⟨ioA, G, H₀, S, F, I, q⟩ := q
  exact q F σ H I
theorem sOne (h : PS X s (tVS X.K g)) : PSs X [s] (tVS X.K g) := pss_one h
theorem sSeq (h1 : PS X s (tVS X.K g1)) (h2 : PSs X rest (tVS X.K g2)) : PSs X (s :: rest) (tVS X.K (gSeq g1 g2)) := PSs.imp (pss_cons h1 h2) fun D σ H q => by
  obtain ⟨ioA, G, H₀, S, F, I, q⟩ := q
  refine ⟨ioA, G, H₀, S, F, I, ?_⟩
  unfold gSeq at q
  cases e : g1 S with
  | fail => rw [e] at q; exact q
  | brk S1 => rw [e] at q; exact q
  | cnt S1 => rw [e] at q; exact q
  | ret S1 b d => rw [e] at q; exact q
  | nxt S1 => rw [e] at q; exact fun F' σ' H' I' => ⟨ioA, G, H₀, S1, F', I', q⟩
theorem sIf (hc : PT X c (tVT X.K tc)) (ha : PSs X a (tVS X.K g1)) (hb : PSs X b (tVS X.K g2)) : PS X (.If c a b pos) (tVS X.K (gIf tc g1 g2)) := PS.imp (ps_if hc ha hb) fun D σ H q => by
  obtain ⟨ioA, G, H₀, S, F, I, q⟩ := q
  unfold gIf at q
  cases e : tc S with
  | none => rw [e] at q; exact q.elim
  | some k =>
    rw [e] at q
    refine ⟨ioA, G, H₀, S, F, I, k, e, fun F' H' g => ?_⟩
    cases k with
    | true => simp only [if_true]; exact ⟨ioA, G, H₀, S, F', I.grow g, q⟩
    | false => simp only [Bool.false_eq_true, if_false]; exact ⟨ioA, G, H₀, S, F', I.grow g, q⟩
noncomputable def gFail : VS := fun _ => .fail
end
noncomputable def gRet (f : VE) : VS := fun S => match f S with
  | some d => .ret S false d
  | none => .fail
noncomputable def gRetN (f : VE) : VS := fun S => match f S with
  | some d => .ret S true d
  | none => .fail
noncomputable def gRetO (i : Nat) : VS := fun S => match S[i]? with
  | some (some (.ow, d)) => .ret (S.set i none) true d
  | some (some (.fr, d)) => .ret S false d
  | _ => .fail
section
variable {K : PySem.W.Frag} {ioA : Nat → Option Addr} {G H₀ F H F' H' : Hp} {S : GS} {σ : St}
theorem set_none_get {S : GS} {i j : Nat} {x : Tg × PyData} (h : (S.set i none)[j]? = some (some x)) : j ≠ i ∧ S[j]? = some (some x) := by
  by_cases hj : j = i
  · subst hj
    by_cases hl : j < S.length
    · rw [List.getElem?_set_self hl] at h; cases h
    · rw [List.getElem?_eq_none (by rw [List.length_set]; omega)] at h; cases h
  · rw [List.getElem?_set_ne (Ne.symm hj)] at h; exact ⟨hj, h⟩
theorem VI.drop (I : VI K ioA G H₀ S F σ H) (i : Nat) : VI K ioA G H₀ (S.set i none) F σ H where
  pl := I.pl
  len := by rw [List.length_set]; exact I.len
  same := I.same
  gf := I.gf
  new := I.new
  sub := I.sub
  slot := fun j t d e => I.slot j t d (set_none_get e).2
  inj := fun j k t t' d d' v e1 e2 => I.inj j k t t' d d' v (set_none_get e1).2 (set_none_get e2).2
theorem own_alloc (I : VI K ioA G H₀ S F σ H) {i : Nat} {t : Tg} {d : PyData} {a : Addr} (e : S[i]? = some (some (t, d))) (ht : t ≠ .fr) (hv : σ[i]? = some (some (.ref a))) : ∃ xs, H a = some (.lst xs) := by
  obtain ⟨v, hv', hs⟩ := I.slot i t d e
  rw [hv] at hv'
  cases hv'
  cases t with
  | fr => exact absurd rfl ht
  | ow => obtain ⟨a', ds, xs, _, e2, e3, _⟩ := hs; cases e2; exact ⟨xs, e3⟩
  | io => obtain ⟨a', ds, xs, _, e2, e3, _⟩ := hs.1; cases e2; exact ⟨xs, e3⟩
theorem RN.own {d : PyData} {v : V} (I : VI K ioA G H₀ S F σ H) (r : RN K F H F' H' d v) : OwnAt K H₀ F' H' d v ∧ ∀ (i : Nat) t d', S[i]? = some (some (t, d')) → t ≠ .fr → σ[i]? ≠ some (some v) := by
  obtain ⟨ds, a, xs, h1, h2, h3, h4, h5, h6⟩ := r
  refine ⟨⟨a, ds, xs, h1, h2, h5, h4, I.same.free h3, h6⟩, fun i t d' e ht hv => ?_⟩
  rw [h2] at hv
  obtain ⟨ys, hy⟩ := own_alloc I e ht hv
  rw [h3] at hy; cases hy
end
section
variable {X : Cx} {e : Expr} {f : VE} {pos : Pos} {s : Stmt}
theorem sRet (he : PE X e (tV X.K RS f)) : PS X (.Return (some e) pos) (tVS X.K (gRet f)) := PS.imp (ps_ret he) fun D σ H q => by
  obtain ⟨ioA, G, H₀, S, F, I, q⟩ := q
  unfold gRet at q
  cases e : f S with
  | none => rw [e] at q; exact q.elim
  | some d => rw [e] at q; exact ⟨ioA, G, H₀, S, F, I, d, e, fun v F' H' g hv => q v F' σ H' (I.grow g) hv⟩
theorem sRetN (he : PE X e (tV X.K RN f)) : PS X (.Return (some e) pos) (tVS X.K (gRetN f)) := PS.imp (ps_ret he) fun D σ H q => by
  obtain ⟨ioA, G, H₀, S, F, I, q⟩ := q
  unfold gRetN at q
  cases e : f S with
  | none => rw [e] at q; exact q.elim
  | some d => rw [e] at q; exact ⟨ioA, G, H₀, S, F, I, d, e, fun v F' H' g hv => q v F' σ H' (I.grow g) (RN.own I hv)⟩
theorem sRetO {i : Nat} (he : PE X e (vR i)) : PS X (.Return (some e) pos) (tVS X.K (gRetO i)) := PS.imp (ps_ret he) fun D σ H q => by
  obtain ⟨ioA, G, H₀, S, F, I, q⟩ := q
  unfold gRetO at q
  split at q
  · rename_i d hS
    obtain ⟨v, hv, hs⟩ := I.slot i .ow d hS
    show vR i σ H D.rt
    unfold vR; rw [hv]
    refine q v F σ H (I.drop i) ⟨hs, fun j t d' e ht hv' => ?_⟩
    obtain ⟨hj, e⟩ := set_none_get e
    exact hj (I.inj j i t .ow d' d v e hS ht (by simp) hv' hv)
  · rename_i d hS
    obtain ⟨v, hv, hs⟩ := I.slot i .fr d hS
    show vR i σ H D.rt
    unfold vR; rw [hv]
    exact q v F σ H I hs
  · exact q.elim
noncomputable def gEx (f : VE) : VS := fun S => match f S with
  | some _ => .nxt S
  | none => .fail
noncomputable def gAs (f : VE) (t : VG) : VS := fun S => match f S with
  | some d => match t d S with
    | some S' => .nxt S'
    | none => .fail
  | none => .fail
theorem sAs {t : VG} {js : List Nat} (h : PS X s (tAsg (tV X.K RS f) (tVG X.K t js))) : PS X s (tVS X.K (gAs f t)) := PS.imp h fun D σ H q => by
  obtain ⟨ioA, G, H₀, S, F, I, q⟩ := q
  unfold gAs at q
  cases e : f S with
  | none => rw [e] at q; exact q.elim
  | some d =>
    rw [e] at q
    simp only at q
    cases e2 : t d S with
    | none => rw [e2] at q; exact q.elim
    | some S' =>
      rw [e2] at q
      exact ⟨ioA, G, H₀, S, F, I, d, e, fun v F' H' g hv => ⟨ioA, G, H₀, S, F', I.grow g, d, S', hv, e2, fun σ' _ I' => q F' σ' H' I'⟩⟩
noncomputable def gOw (i : Nat) (f : VE) : VS := fun S => match f S with
  | some d => if noIo S i = true then .nxt (S.set i (some (.ow, d))) else .fail
  | none => .fail
theorem VI.setOwn {K : PySem.W.Frag} {ioA : Nat → Option Addr} {G H₀ F H : Hp} {S : GS} {σ : St} {i : Nat} {d : PyData} {v : V} (I : VI K ioA G H₀ S F σ H) (ho : OwnAt K H₀ F H d v) (hn : ∀ (i : Nat) t d', S[i]? = some (some (t, d')) → t ≠ .fr → σ[i]? ≠ some (some v)) :
    VI K ioA G H₀ (S.set i (some (.ow, d))) F (σ.set i (some v)) H where
  pl := I.pl
  len := by rw [List.length_set, List.length_set]; exact I.len
  same := I.same
  gf := I.gf
  new := I.new
  sub := I.sub
  slot := fun j t d' e => by
    by_cases hj : j = i
    · subst hj
      by_cases hl : j < S.length
      · rw [List.getElem?_set_self hl] at e
        cases e
        exact ⟨v, List.getElem?_set_self (by rw [← I.len]; exact hl), ho⟩
      · rw [List.getElem?_eq_none (by rw [List.length_set]; omega)] at e
        cases e
    · rw [List.getElem?_set_ne (Ne.symm hj)] at e ⊢
      exact I.slot j t d' e
  inj := fun j k t t' d1 d2 u e1 e2 n1 n2 v1 v2 => by
    have at_i : ∀ {j : Nat} {t : Tg} {d1 : PyData} {u : V}, (S.set i (some (.ow, d)))[j]? = some (some (t, d1)) → (σ.set i (some v))[j]? = some (some u) → j = i → u = v := fun {j t d1 u} e1 v1 z => by
      subst z
      by_cases hl : j < S.length
      · rw [List.getElem?_set_self (by rw [← I.len]; exact hl)] at v1
        exact (Option.some.inj (Option.some.inj v1)).symm
      · rw [List.getElem?_eq_none (by rw [List.length_set]; omega)] at e1; cases e1
    by_cases hj : j = i
    · by_cases hk : k = i
      · rw [hj, hk]
      · have := at_i e1 v1 hj
        subst this
        rw [List.getElem?_set_ne (Ne.symm hk)] at e2 v2
        exact absurd v2 (hn k t' d2 e2 n2)
    · by_cases hk : k = i
      · have := at_i e2 v2 hk
        subst this
        rw [List.getElem?_set_ne (Ne.symm hj)] at e1 v1
        exact absurd v1 (hn j t d1 e1 n1)
      · rw [List.getElem?_set_ne (Ne.symm hj)] at e1 v1
        rw [List.getElem?_set_ne (Ne.symm hk)] at e2 v2
        exact I.inj j k t t' d1 d2 u e1 e2 n1 n2 v1 v2
theorem sOw {i : Nat} (h : PS X s (tAsg (tV X.K RN f) (gName i))) : PS X s (tVS X.K (gOw i f)) := PS.imp h fun D σ H q => by
  obtain ⟨ioA, G, H₀, S, F, I, q⟩ := q
  unfold gOw at q
  cases e : f S with
  | none => rw [e] at q; exact q.elim
  | some d =>
    rw [e] at q
    simp only at q
    split at q
    · refine ⟨ioA, G, H₀, S, F, I, d, e, fun v F' H' g hv => ?_⟩
      obtain ⟨h1, h2⟩ := RN.own I hv
      exact q F' _ H' ((I.grow g).setOwn h1 h2)
    · exact q.elim
theorem tAsg_imp {te te' : TE} {g : TG} (h : PS X s (tAsg te g)) (hi : ∀ σ H Q, te' σ H Q → te σ H Q) : PS X s (tAsg te' g) := PS.imp h fun D σ H q => hi σ H _ q
noncomputable def frz (i : Nat) (S : GS) : GS := match S[i]? with
  | some (some (.ow, d)) => S.set i (some (.fr, d))
  | _ => S
noncomputable def gFz (i : Nat) (g : VS) : VS := fun S => g (frz i S)
theorem VI.frz {K : PySem.W.Frag} {ioA : Nat → Option Addr} {G H₀ F H : Hp} {S : GS} {σ : St} (I : VI K ioA G H₀ S F σ H) (i : Nat) : ∃ F', VI K ioA G H₀ (frz i S) F' σ H := by
  unfold VM.frz
  split
  · rename_i d hS
    obtain ⟨v, hv, a, ds, xs, rfl, rfl, e3, e4, e5, e6⟩ := I.slot i .ow d hS
    have hl : i < S.length := by
      by_cases h : i < S.length
      · exact h
      · rw [List.getElem?_eq_none (by omega)] at hS; cases hS
    have s1 : Same F (upd F a (.lst xs)) := same_upd_new e4
    have s2 : Same (upd F a (.lst xs)) H := fun b o e => by
      by_cases hb : b = a
      · subst hb; rw [upd_same] at e; cases e; exact e3
      · rw [upd_ne hb] at e; exact I.sub b o e
    refine ⟨upd F a (.lst xs), ⟨by rw [List.length_set]; exact I.len, I.same, I.gf.trans s1, fun b o e => ?_, s2, fun j t d' e => ?_, fun j k t t' d1 d2 u g1 g2 n1 n2 v1 v2 => ?_, fun b x u e => by
      by_cases hb : b = a
      · subst hb; rw [upd_same] at e; cases e
      · rw [upd_ne hb] at e; exact I.pl b x u e⟩⟩
    · by_cases hb : b = a
      · subst hb; exact .inr (.inl e5)
      · rw [upd_ne hb] at e; exact I.new b o e
    · by_cases hj : j = i
      · subst hj
        rw [List.getElem?_set_self hl] at e
        cases e
        exact ⟨_, hv, a, xs, rfl, SqL.of upd_same, e6.same s1⟩
      · rw [List.getElem?_set_ne (Ne.symm hj)] at e
        obtain ⟨u, hu, hs⟩ := I.slot j t d' e
        have ow : t ≠ .fr → OwnAt K H₀ F H d' u → OwnAt K H₀ (upd F a (.lst xs)) H d' u := fun ht ⟨b, ds', ys, h1, h2, h3, h4, h5, h6⟩ => by
          refine ⟨b, ds', ys, h1, h2, h3, ?_, h5, h6.same s1⟩
          have : b ≠ a := fun z => by
            subst z
            exact hj (I.inj j i t .ow d' _ _ e hS ht (by simp) hu (by rw [h2]; exact hv))
          rw [upd_ne this]; exact h4
        refine ⟨u, hu, ?_⟩
        cases t with
        | fr => exact Has.same s1 hs
        | ow => exact ow (by simp) hs
        | io => exact ⟨ow (by simp) hs.1, hs.2⟩
    · have nj : ∀ {j : Nat} {t : Tg} {d1 : PyData}, (S.set i (some (.fr, .list ds)))[j]? = some (some (t, d1)) → t ≠ .fr → S[j]? = some (some (t, d1)) := fun {j t d1} g1 n1 => by
        by_cases hj : j = i
        · subst hj; rw [List.getElem?_set_self hl] at g1; cases g1; exact absurd rfl n1
        · rw [List.getElem?_set_ne (Ne.symm hj)] at g1; exact g1
      exact I.inj j k t t' d1 d2 u (nj g1 n1) (nj g2 n2) n1 n2 v1 v2
  · exact ⟨F, I⟩
theorem sFz {i : Nat} {g : VS} (h : PS X s (tVS X.K g)) : PS X s (tVS X.K (gFz i g)) := PS.imp h fun D σ H q => by
  obtain ⟨ioA, G, H₀, S, F, I, q⟩ := q
  obtain ⟨F', I'⟩ := I.frz i
  exact ⟨ioA, G, H₀, _, F', I', q⟩
end
section
variable {K : PySem.W.Frag} {ioA : Nat → Option Addr} {G H₀ F H : Hp} {S : GS} {σ : St}
noncomputable def ownL (S : GS) (i : Nat) : Option (Tg × List PyData) := match S[i]? with
  | some (some (.ow, .list ds)) => some (.ow, ds)
  | some (some (.io, .list ds)) => some (.io, ds)
  | _ => none
theorem ownL_some {i : Nat} {t : Tg} {ds : List PyData} (h : ownL S i = some (t, ds)) : S[i]? = some (some (t, .list ds)) ∧ t ≠ .fr := by
  unfold ownL at h
  split at h
  · cases h; exact ⟨by assumption, by simp⟩
  · cases h; exact ⟨by assumption, by simp⟩
  · cases h
theorem VI.own (I : VI K ioA G H₀ S F σ H) {i : Nat} {t : Tg} {ds : List PyData} (h : ownL S i = some (t, ds)) : ∃ a xs, σ[i]? = some (some (.ref a)) ∧ H a = some (.lst xs) ∧ HasL K F ds xs ∧
    ∀ (ds' : List PyData) (xs' : List V) (F' H' : Hp), Grow F H F' H' → HasL K F' ds' xs' → VI K ioA G H₀ (S.set i (some (t, .list ds'))) F' σ (upd H' a (.lst xs')) := by
  obtain ⟨hS, ht⟩ := ownL_some h
  obtain ⟨v, hv, hs⟩ := I.slot i t _ hS
  have ho : OwnAt K H₀ F H (.list ds) v := by
    cases t with
    | fr => exact absurd rfl ht
    | ow => exact hs
    | io => exact hs.1
  obtain ⟨a, ds0, xs, e1, rfl, e3, e4, e5, e6⟩ := ho
  cases e1
  have hl : i < S.length := by
    by_cases h : i < S.length
    · exact h
    · rw [List.getElem?_eq_none (by omega)] at hS; cases hS
  refine ⟨a, xs, hv, e3, e6, fun ds' xs' F' H' g hx => ?_⟩
  have J := I.grow g
  have hF' : F' a = none := by
    cases q : F' a with
    | none => rfl
    | some o =>
      rcases g.new a o q with z | z | z
      · rw [e4] at z; cases z
      · rw [e3] at z; cases z
      · have := g.fh a o q
        rw [g.hh _ _ e3] at this; cases this; simp [imo] at z
  refine ⟨by rw [List.length_set]; exact I.len, fun b o e => ?_, J.gf, J.new, fun b o e => ?_, fun j t' d' e => ?_, fun j k t1 t2 d1 d2 u g1 g2 n1 n2 v1 v2 => ?_, J.pl⟩
  · rw [upd_ne (ne_of_none e e5)]; exact J.same b o e
  · rw [upd_ne (ne_of_none e hF')]; exact J.sub b o e
  · by_cases hj : j = i
    · subst hj
      rw [List.getElem?_set_self hl] at e
      cases e
      refine ⟨_, hv, ?_⟩
      have o : OwnAt K H₀ F' (upd H' a (.lst xs')) (.list ds') (.ref a) := ⟨a, ds', xs', rfl, rfl, upd_same, hF', e5, hx⟩
      cases t with
      | fr => exact absurd rfl ht
      | ow => exact o
      | io => exact ⟨o, hs.2⟩
    · rw [List.getElem?_set_ne (Ne.symm hj)] at e
      obtain ⟨u, hu, hs'⟩ := J.slot j t' d' e
      have ow : t' ≠ .fr → OwnAt K H₀ F' H' d' u → OwnAt K H₀ F' (upd H' a (.lst xs')) d' u := fun ht' ⟨b, ds1, ys, h1, h2, h3, h4, h5, h6⟩ => by
        refine ⟨b, ds1, ys, h1, h2, ?_, h4, h5, h6⟩
        have : b ≠ a := fun z => by
          subst z
          exact hj (I.inj j i t' t d' _ _ e hS ht' ht hu (by rw [h2]; exact hv))
        rw [upd_ne this]; exact h3
      refine ⟨u, hu, ?_⟩
      cases t' with
      | fr => exact hs'
      | ow => exact ow (by simp) hs'
      | io => exact ⟨ow (by simp) hs'.1, hs'.2⟩
  · have nj : ∀ {j : Nat} {t1 : Tg} {d1 : PyData}, (S.set i (some (t, .list ds')))[j]? = some (some (t1, d1)) → t1 ≠ .fr → ∃ d2, S[j]? = some (some (t1, d2)) := fun {j t1 d1} g1 n1 => by
      by_cases hj : j = i
      · subst hj; rw [List.getElem?_set_self hl] at g1; cases g1; exact ⟨_, hS⟩
      · rw [List.getElem?_set_ne (Ne.symm hj)] at g1; exact ⟨_, g1⟩
    obtain ⟨d3, q1⟩ := nj g1 n1
    obtain ⟨d4, q2⟩ := nj g2 n2
    exact I.inj j k t1 t2 d3 d4 u q1 q2 n1 n2 v1 v2
end
noncomputable def gApp (i : Nat) (fs : VA) : VS := fun S => match ownL S i, fs S with
  | some (t, ds), some [d] => @ite _ (ds.length < sizeLine) (Classical.propDecidable _) (.nxt (S.set i (some (t, .list (ds ++ [d]))))) .fail
  | _, _ => .fail
noncomputable def gPut (i : Nat) (fk f : VE) : VS := fun S => match f S, fk S, ownL S i with
  | some d, some (.int k), some (t, ds) => (match ixN ds.length k with
    | some j => .nxt (S.set i (some (t, .list (ds.set j d))))
    | none => .fail)
  | _, _, _ => .fail
noncomputable def gAugI (h : PyData → PyData → Option PyData) (i : Nat) (fk f : VE) : VS := fun S => match ownL S i, fk S, f S with
  | some (t, ds), some (.int k), some y => (match ixN ds.length k with
    | some j => (match ds[j]? with
      | some x => (match h x y with
        | some z => .nxt (S.set i (some (t, .list (ds.set j z))))
        | none => .fail)
      | none => .fail)
    | none => .fail)
  | _, _, _ => .fail
noncomputable def gAug (h : PyData → PyData → Option PyData) (i : Nat) (f : VE) : VS := fun S => match S[i]?, f S with
  | some (some (.fr, x)), some y => (match h x y with
    | some z => .nxt (S.set i (some (.fr, z)))
    | none => .fail)
  | _, _ => .fail
section
variable {X : Cx} {s : Stmt} {fs : VA} {f fk : VE} {h : PyData → PyData → Option PyData}
theorem sApp {i : Nat} (hp : PS X s (tDrop (tBM X.K "list" rAppM (vR i) (tVA X.K fs)))) : PS X s (tVS X.K (gApp i fs)) := PS.imp hp fun D σ H q => by
  obtain ⟨ioA, G, H₀, S, F, I, q⟩ := q
  unfold gApp at q
  split at q
  · rename_i t ds d q1 q2
    split at q
    · rename_i hz
      obtain ⟨a, xs, hv, hH, hx, nx⟩ := I.own q1
      unfold tDrop tBM vR
      simp only [hv]
      refine ⟨.inl ⟨rfl, xs, SqL.of hH⟩, ioA, G, H₀, S, F, I, [d], q2, fun vs F' H' g hvs => ?_⟩
      obtain ⟨v, rfl, hv2⟩ := HasL.one hvs
      refine ⟨xs, g.hh _ _ hH, by rw [← hx.length]; exact hz, q F' σ _ (nx _ _ F' H' g (HasL.snoc hv2 (hx.same g.ff)))⟩
    · exact q.elim
  · exact q.elim
theorem sPut {i : Nat} (hp : PS X s (tAsg (tV X.K RS f) (gSub (vR i) (tV X.K RW fk) rSetM))) : PS X s (tVS X.K (gPut i fk f)) := PS.imp hp fun D σ H q => by
  obtain ⟨ioA, G, H₀, S, F, I, q⟩ := q
  unfold gPut at q
  split at q
  · rename_i d k t ds q1 q2 q3
    split at q
    · rename_i j q4
      refine ⟨ioA, G, H₀, S, F, I, d, q1, fun v F1 H1 g1 hv => ?_⟩
      obtain ⟨a, xs, hv', hH, hx, nx⟩ := (I.grow g1).own q3
      show vR i σ H1 _
      unfold vR; rw [hv']
      refine ⟨ioA, G, H₀, S, F1, I.grow g1, _, q2, fun u F2 H2 g2 hu => ?_⟩
      have eu : u = .int k := hu
      subst eu
      refine ⟨xs, j, g2.hh _ _ hH, by rw [← hx.length]; exact q4, q F2 σ _ (nx _ _ F2 H2 g2 (HasL.set (Has.same g2.ff hv) j (hx.same g2.ff)))⟩
    · exact q.elim
  · exact q.elim
theorem getL : PGet X (rIxL X.K) := by
  intro pins s σ H x y v u Q I rx ry h
  obtain ⟨p, xs, i, z, rfl, rfl, hq, he, q⟩ := h
  cases rx
  obtain ⟨t, rfl⟩ := ry
  obtain ⟨its, r, pl, hz⟩ := I.list hq
  obtain ⟨j, h1, h2, h3, h4, h5⟩ := atI_get he
  obtain ⟨w, ew, rw'⟩ := r.get h2
  have hl := r.length
  have hn := line63
  have fin : EP X pins σ Q w s := ⟨z, H, I, rw', q⟩
  by_cases h0 : 0 ≤ i
  · have hj : i.toNat = j := by
      rw [seqIndex_of h0 h5] at h1
      exact Option.some.inj h1
    exact wpAny_getItem_list pl.isList h0 (by omega) (by rw [hj]; simpa using ew) fin
  · have hj : (i + (its.toArray.size : Int)).toNat = j := by
      rw [seqIndex_neg (by omega) h4] at h1
      rw [List.size_toArray, ← hl]
      exact Option.some.inj h1
    exact wpAny_getItem_list_neg pl.isList (by omega) (by rw [List.size_toArray] <;> omega) (by omega) (by rw [hj]; simpa using ew) fin
theorem sAugI {r : R2} (hd : OpD X.K h r) {i : Nat} (hp : PS X s (tAugS (vR i) (tV X.K RW fk) (tV X.K RS f) (rIxL X.K) r rSetM)) : PS X s (tVS X.K (gAugI h i fk f)) := PS.imp hp fun D σ H q => by
  obtain ⟨ioA, G, H₀, S, F, I, q⟩ := q
  unfold gAugI at q
  split at q
  · rename_i t ds k y q1 q2 q3
    split at q
    · rename_i j q4
      split at q
      · rename_i x q5
        split at q
        · rename_i z q6
          obtain ⟨a, xs, hv', hH, hx, nx⟩ := I.own q1
          show vR i σ H _
          unfold vR; rw [hv']
          refine ⟨ioA, G, H₀, S, F, I, _, q2, fun u F1 H1 g1 hu => ?_⟩
          have eu : u = .int k := hu
          subst eu
          obtain ⟨w, hw1, hw2⟩ := hx.at q5
          have q4' : ixN xs.length k = some j := by rw [← hx.length]; exact q4
          refine ⟨a, xs, k, w, rfl, rfl, SqL.of (g1.hh _ _ hH), by unfold atI; rw [q4']; exact hw1, ?_⟩
          refine ⟨ioA, G, H₀, S, F1, I.grow g1, y, q3, fun v F2 H2 g2 hv => ?_⟩
          have g := g1.trans g2
          refine hd H2 w v x y z _ q6 (Has.same g2.fh (Has.same g.ff hw2)) (Has.same g2.fh hv) fun v2 hv2 => ?_
          exact ⟨xs, j, g.hh _ _ hH, q4', q F2 σ _ (nx _ _ F2 H2 g (HasL.set (hv2 F2) j (hx.same g.ff)))⟩
        · exact q.elim
      · exact q.elim
    · exact q.elim
  · exact q.elim
end
noncomputable def forG (t : VG) (g : VS) : List PyData → GS → Out
  | [], S => .nxt S
  | d :: r, S => match t d S with
    | none => .fail
    | some S1 => match g S1 with
      | .nxt S2 => forG t g r S2
      | .cnt S2 => forG t g r S2
      | .brk S2 => .nxt S2
      | .ret S2 b e => .ret S2 b e
      | .fail => .fail
noncomputable def gFor (fi : VA) (t : VG) (g : VS) : VS := fun S => match fi S with
  | some ds => forG t g ds S
  | none => .fail
noncomputable def whileN (c : VT) (g : VS) : Nat → GS → Out
  | 0, _ => .fail
  | n + 1, S => match c S with
    | none => .fail
    | some false => .nxt S
    | some true => match g S with
      | .nxt S2 => whileN c g n S2
      | .cnt S2 => whileN c g n S2
      | .brk S2 => .nxt S2
      | .ret S2 b e => .ret S2 b e
      | .fail => .fail
open Classical in
noncomputable def gWh (c : VT) (g : VS) : VS := fun S => if h : ∃ n, whileN c g n S ≠ .fail then whileN c g h.choose S else .fail
theorem whileN_mono {c : VT} {g : VS} : ∀ {n : Nat} {S : GS}, whileN c g n S ≠ .fail → whileN c g (n + 1) S = whileN c g n S
  | 0, _, h => absurd rfl h
  | n + 1, S, h => by
    rw [whileN]
    conv => rhs; rw [whileN]
    rw [whileN] at h
    cases q : c S with
    | none => rfl
    | some b =>
      rw [q] at h
      cases b with
      | false => rfl
      | true =>
        simp only at h ⊢
        cases q2 : g S with
        | nxt S2 => rw [q2] at h; exact whileN_mono h
        | cnt S2 => rw [q2] at h; exact whileN_mono h
        | brk _ => rfl
        | ret _ _ _ => rfl
        | fail => rfl
theorem whileN_le {c : VT} {g : VS} {n m : Nat} {S : GS} (h : whileN c g n S ≠ .fail) (hm : n ≤ m) : whileN c g m S = whileN c g n S := by
  induction hm with
  | refl => rfl
  | step hm ih => rw [whileN_mono (by rw [ih]; exact h), ih]
theorem gWh_eq {c : VT} {g : VS} {n : Nat} {S : GS} {o : Out} (h : whileN c g n S = o) (ho : o ≠ .fail) : gWh c g S = o := by
  have hx : ∃ n, whileN c g n S ≠ .fail := ⟨n, by rw [h]; exact ho⟩
  unfold gWh
  rw [dif_pos hx]
  rcases Nat.le_total n hx.choose with l | l
  · rw [whileN_le (by rw [h]; exact ho) l, h]
  · rw [← whileN_le hx.choose_spec l, h]
section
variable {X : Cx} {s : Stmt} {t : VG} {js : List Nat} {g : VS} {fi : VA} {tc : VT}
theorem sFor (hp : PS X s (tFor (tVI X.K fi) (tVG X.K t js) (tVS X.K g))) : PS X s (tVS X.K (gFor fi t g)) := PS.imp hp fun D σ H q => by
  obtain ⟨ioA, G, H₀, S, F, I, q⟩ := q
  unfold gFor at q
  split at q
  · rename_i ds q1
    refine ⟨ioA, G, H₀, S, F, I, ds, q1, fun J F1 H1 g1 it => ?_⟩
    have I1 := I.grow g1
    refine ⟨fun i m σ' H' => ∃ S' F', m = ds.length - i ∧ i ≤ ds.length ∧ VI X.K ioA F1 H₀ S' F' σ' H' ∧ OutOk X.K ioA G H₀ D (forG t g (ds.drop i) S'), ⟨_, S, F1, rfl, Nat.zero_le _, I1.self, q⟩, ?_⟩
    rintro i m σ' H' ⟨S', F', rfl, hi, I', q'⟩
    by_cases hlt : i < ds.length
    · have hd : ds[i]? = some ds[i] := by simp [hlt]
      rw [List.drop_eq_getElem_cons hlt] at q'
      obtain ⟨go, yl⟩ := it.go i ds[i] F' H' hd I'.gf I'.sub
      generalize ds[i] = d0 at *
      unfold forG at q'
      cases q2 : t d0 S' with
      | none => rw [q2] at q'; exact q'.elim
      | some S1 =>
        rw [q2] at q'
        simp only at q'
        refine .inr ⟨go, fun σ2 H2 => ∃ m', m' < ds.length - i ∧ ∃ S2 F2, m' = ds.length - (i + 1) ∧ i + 1 ≤ ds.length ∧ VI X.K ioA F1 H₀ S2 F2 σ2 H2 ∧ OutOk X.K ioA G H₀ D (forG t g (ds.drop (i + 1)) S2), fun _ _ h => h, fun x H2 y => ?_⟩
        obtain ⟨F2, g2, hx⟩ := yl x H2 y
        refine ⟨ioA, F1, H₀, S', F2, I'.grow g2, d0, S1, hx, q2, fun σ3 _ I3 => ⟨ioA, F1, H₀, S1, F2, I3, ?_⟩⟩
        cases q3 : g S1 with
        | fail => rw [q3] at q'; exact q'.elim
        | nxt S2 => rw [q3] at q'; exact fun F4 σ4 H4 I4 => ⟨_, by omega, S2, F4, rfl, hlt, I4, q'⟩
        | cnt S2 => rw [q3] at q'; exact fun F4 σ4 H4 I4 => ⟨_, by omega, S2, F4, rfl, hlt, I4, q'⟩
        | brk S2 => rw [q3] at q'; exact fun F4 σ4 H4 I4 => q' F4 σ4 H4 (I1.rebase I4)
        | ret S2 b e => rw [q3] at q'; exact fun v F4 σ4 H4 I4 r => q' v F4 σ4 H4 (I1.rebase I4) r
    · have e : i = ds.length := by omega
      subst e
      rw [List.drop_eq_nil_of_le (Nat.le_refl _)] at q'
      exact .inl ⟨it.stop _ F' H' (Nat.le_refl _) I'.gf I'.sub, q' F' σ' H' (I1.rebase I')⟩
  · exact q.elim
theorem sWh (hp : PS X s (tWhile (tVT X.K tc) (tVS X.K g))) : PS X s (tVS X.K (gWh tc g)) := PS.imp hp fun D σ H q => by
  obtain ⟨ioA, G, H₀, S, F, I, q⟩ := q
  unfold gWh at q
  split at q
  · rename_i hx
    refine ⟨fun m σ' H' => ∃ S' F', VI X.K ioA G H₀ S' F' σ' H' ∧ OutOk X.K ioA G H₀ D (whileN tc g m S'), ⟨hx.choose, S, F, I, q⟩, ?_⟩
    rintro m σ' H' ⟨S', F', I', q'⟩
    cases m with
    | zero => exact q'.elim
    | succ n =>
      rw [whileN] at q'
      cases q2 : tc S' with
      | none => rw [q2] at q'; exact q'.elim
      | some b =>
        rw [q2] at q'
        refine ⟨ioA, G, H₀, S', F', I', b, q2, fun F2 H2 g2 => ?_⟩
        cases b with
        | false => simp only [Bool.false_eq_true, if_false]; exact q' F2 σ' H2 (I'.grow g2)
        | true =>
          simp only [if_true]
          simp only at q'
          refine ⟨fun σ2 H2 => ∃ m', m' < n + 1 ∧ ∃ S' F', VI X.K ioA G H₀ S' F' σ2 H2 ∧ OutOk X.K ioA G H₀ D (whileN tc g m' S'), fun _ _ h => h, ioA, G, H₀, S', F2, I'.grow g2, ?_⟩
          cases q3 : g S' with
          | fail => rw [q3] at q'; exact q'.elim
          | nxt S2 => rw [q3] at q'; exact fun F4 σ4 H4 I4 => ⟨n, by omega, S2, F4, I4, q'⟩
          | cnt S2 => rw [q3] at q'; exact fun F4 σ4 H4 I4 => ⟨n, by omega, S2, F4, I4, q'⟩
          | brk S2 => rw [q3] at q'; exact fun F4 σ4 H4 I4 => q' F4 σ4 H4 I4
          | ret S2 b e => rw [q3] at q'; exact fun v F4 σ4 H4 I4 r => q' v F4 σ4 H4 I4 r
  · exact q.elim
end
noncomputable def ini (nN : Nat) (ds : List PyData) : GS := ds.map (fun d => some (.fr, d)) ++ List.replicate (nN - ds.length) none
noncomputable def fnM (n nN : Nat) (g : VS) : FnM := fun ds => if ds.length = n then (match g (ini nN ds) with
  | .ret _ b d => some (b, d)
  | .nxt _ => some (false, .none)
  | _ => none) else none
theorem ini_get {nN : Nat} {ds : List PyData} {i : Nat} {t : Tg} {d : PyData} (h : (ini nN ds)[i]? = some (some (t, d))) : ds[i]? = some d ∧ t = .fr := by
  unfold ini at h
  by_cases hi : i < ds.length
  · rw [List.getElem?_append_left (by simpa using hi), List.getElem?_map] at h
    cases q : ds[i]? with
    | none => rw [q] at h; cases h
    | some d' => rw [q] at h; simp at h; exact ⟨by rw [h.2], h.1.symm⟩
  · rw [List.getElem?_append_right (by simpa using hi), List.getElem?_replicate] at h
    split at h
    · cases h
    · cases h
section
variable {P : Program} {w : World} {K : PySem.W.Frag} {mg : Str → Option Value} {base : Heap}
theorem ini_ok {G H : Hp} {N : List Str} {ds : List PyData} {vs : List V} (hs : Same G H) (h : HasL K G ds vs) : VI K (fun _ => none) G H (ini N.length ds) G (L2.start N vs) H where
  pl := fun _ _ _ e => e
  len := by unfold ini L2.start; simp [h.length]
  same := Same.refl _
  gf := Same.refl _
  new := fun _ _ e => .inl e
  sub := hs
  slot := fun i t d e => by
    obtain ⟨e1, rfl⟩ := ini_get e
    obtain ⟨v, hv, hh⟩ := h.at e1
    refine ⟨v, ?_, hh⟩
    have hl : i < vs.length := by
      by_cases z : i < vs.length
      · exact z
      · rw [List.getElem?_eq_none (by omega)] at hv; cases hv
    unfold L2.start
    rw [List.getElem?_append_left (by simpa using hl), List.getElem?_map, hv]
    rfl
  inj := fun i j t t' d d' v e1 _ n1 => absurd (ini_get e1).2 n1
theorem fnV0 {x qual : Str} {st : Stmt} {f : Addr} {fd : FuncData} {N ps : List Str} {k : Nat} {g : VS} (F : Fun K x qual st f fd) (S : FnScope N ps (defScope st))
    (hb : ∀ (cdv : Value) (A : Around) (outer : List Env) (s : Shared) (H : Hp) (E : XK), Room k (A.deeper (PyProof.Rows.envOfC qual (defScope st) s.heap.objs.size f cdv)) → PSs (cxOf CX0 P w K mg base N qual (defScope st) f cdv A outer s H E).nox (defBody st) (tVS K g)) :
    FnOk P w K mg base CX0 (k + 1) f fd ps (spV K (fnM ps.length N.length g)) := by
  refine F.ok S (fun vs H Q E h => ?_) (fun cdv A outer s H vs Q E hr h => ⟨_, hb cdv A outer s H E hr, ?_⟩)
  · obtain ⟨G, ds, _, hx, b, d, e, _⟩ := h
    unfold fnM at e
    split at e
    · rename_i hl; rw [← hx.length]; exact hl
    · cases e
  · obtain ⟨G, ds, hs, hx, b, d, e, q⟩ := h
    unfold fnM at e
    split at e
    · refine ⟨fun _ => none, G, H, ini N.length ds, G, ini_ok hs hx, ?_⟩
      split at e
      · rename_i S' b' d' e2
        cases e
        rw [e2]
        intro v F' σ' H' I r
        refine q v F' H' ⟨I.same, I.gf, I.sub, I.new, I.pl⟩ ?_
        cases b with
        | false => exact r
        | true =>
          obtain ⟨⟨a, es, xs, h1, h2, h3, h4, h5, h6⟩, _⟩ := r
          exact ⟨es, a, xs, h1, h2, h5, h4, h3, h6⟩
      · rename_i S' e2
        cases e
        rw [e2]
        intro F' σ' H' I
        exact q .non F' H' ⟨I.same, I.gf, I.sub, I.new, I.pl⟩ rfl
      · cases e
    · cases e
theorem fnV {x qual : Str} {st : Stmt} {f : Addr} {fd : FuncData} {N ps : List Str} {k n nN : Nat} {g : VS} (F : Fun K x qual st f fd) (S : FnScope N ps (defScope st)) (hn : ps.length = n) (hN : N.length = nN)
    (hb : ∀ (cdv : Value) (A : Around) (outer : List Env) (s : Shared) (H : Hp) (E : XK), Room k (A.deeper (PyProof.Rows.envOfC qual (defScope st) s.heap.objs.size f cdv)) → PSs (cxOf CX0 P w K mg base N qual (defScope st) f cdv A outer s H E).nox (defBody st) (tVS K g)) :
    FnOk P w K mg base CX0 (k + 1) f fd ps (spV K (fnM n nN g)) := by
  subst hn hN
  exact fnV0 F S hb
end
end VM
namespace VM
open PySem L2
open PyProof.Rows (list_addW)
noncomputable def repD : PyData → PyData → Option PyData
  | .list xs, .int k => @ite _ (k < 2 ^ 63 ∧ -(2 ^ 63) ≤ k ∧ xs.length * k.toNat ≤ sizeLine) (Classical.propDecidable _) (some (.list (List.replicate k.toNat xs).flatten)) none
  | _, _ => none
theorem HasL.rep {K : PySem.W.Frag} {H : Hp} {ds : List PyData} {vs : List V} (h : HasL K H ds vs) : ∀ k : Nat, HasL K H (List.replicate k ds).flatten (List.replicate k vs).flatten
  | 0 => rfl
  | k + 1 => by
    rw [List.replicate_succ, List.replicate_succ, List.flatten_cons, List.flatten_cons]
    exact HasL.append (HasL.rep h k) h
section
variable {X : Cx} {a b e : Expr} {fa fb f : VE} {pos : Pos} {s : Stmt} {fs : VA}
theorem dRep (ha : PE X a (tV X.K RN fa)) (hb : PE X b (tV X.K RW fb)) : PE X (.BinOp a .Mult b pos) (tV X.K RN (v2 repD fa fb)) := (pe_op op_rep ha hb).imp fun _ H Q q => by
  obtain ⟨ioA, G, H₀, S, F, I, d, e, q⟩ := q
  obtain ⟨x, y, ex, ey, e⟩ := v2_some e
  refine ⟨ioA, G, H₀, S, F, I, x, ex, fun v F1 H1 g1 hx => ⟨ioA, G, H₀, S, F1, I.grow g1, y, ey, fun u F2 H2 g2 hy => ?_⟩⟩
  unfold repD at e
  split at e
  · split at e
    · rename_i hz
      cases e
      obtain ⟨es, p, xs, e1, rfl, h3, h4, h5, h6⟩ := hx
      cases e1
      have eu : u = .int _ := hy
      subst eu
      have g := g1.trans g2
      refine ⟨p, _, xs, rfl, rfl, g2.hh _ _ h5, hz.2.1, hz.1, by rw [← h6.length]; exact hz.2.2, fun z hz => q _ F2 _ (g.trans (Grow.alloc g2.fh hz)) ⟨_, z, _, rfl, rfl, g.hh.free hz, g2.fh.free hz, upd_same, HasL.rep (h6.same g2.ff) _⟩⟩
    · cases e
  · cases e
end
noncomputable abbrev xorD := iop fun a b => .int (Builtin.bitXor a b)
noncomputable def gOwF (i : Nat) (f : VE) : VS := fun S => match f S with
  | some d => if noIo S i = true then .nxt (S.set i (some (.fr, d))) else .fail
  | none => .fail
section
variable {X : Cx} {e : Expr} {f : VE} {pos : Pos} {s : Stmt}
theorem sOwF {i : Nat} (h : PS X s (tAsg (tV X.K RN f) (gName i))) : PS X s (tVS X.K (gOwF i f)) := PS.imp h fun D σ H q => by
  obtain ⟨ioA, G, H₀, S, F, I, q⟩ := q
  unfold gOwF at q
  cases e : f S with
  | none => rw [e] at q; exact q.elim
  | some d =>
    rw [e] at q
    simp only at q
    split at q
    · refine ⟨ioA, G, H₀, S, F, I, d, e, fun v F' H' g hv => ?_⟩
      obtain ⟨F'', g2, r2⟩ := RN.frz g hv
      exact q F'' _ H' ((I.grow g2).set r2)
    · exact q.elim
noncomputable def rClrM : V → List V → Hp → VK → Prop := fun x vs H Q => match x, vs with
  | .ref l, [] => ∃ ys, H l = some (.lst ys) ∧ Q .non (upd H l (.lst []))
  | _, _ => False
theorem mClr : MtR X "list.clear" rClrM := fun pins s σ H x xs v us Q I rx rv q => mt_clear pins s σ H x xs v us Q I rx rv (by
  match x, xs, q with
  | .ref l, [], ⟨ys, h1, h2⟩ => exact ⟨l, ys, rfl, rfl, h1, h2⟩)
noncomputable def gClr (i : Nat) : VS := fun S => match ownL S i with
  | some (t, _) => .nxt (S.set i (some (t, .list [])))
  | none => .fail
noncomputable def gPop (i : Nat) : VS := fun S => match ownL S i with
  | some (t, ds) => if ds = [] then .fail else .nxt (S.set i (some (t, .list ds.dropLast)))
  | none => .fail
theorem HasL.dropLast {K : PySem.W.Frag} {H : Hp} {ds : List PyData} {vs : List V} (h : HasL K H ds vs) : HasL K H ds.dropLast vs.dropLast := by
  rw [List.dropLast_eq_take, List.dropLast_eq_take, h.length]
  exact HasL.take _ h
end
structure Bl (mg : Str → Option Value) : Prop where
  len : mg "len" = none
  list : mg "list" = none
  range : mg "range" = none
  enumerate : mg "enumerate" = none
  zip : mg "zip" = none
  abs : mg "abs" = none
  sum : mg "sum" = none
  min : mg "min" = none
  max : mg "max" = none
  int : mg "int" = none
  bool : mg "bool" = none
  tuple : mg "tuple" = none
  str : mg "str" = none
  sorted : mg "sorted" = none
  set : mg "set" = none
  isinstance : mg "isinstance" = none
structure Kits (K : PySem.W.Frag) : Prop where
  int : KitT K "int"
  bool : KitT K "bool"
  list : KitT K "list"
  tuple : KitT K "tuple"
end VM
namespace VM
open PySem L2
theorem kit_int {K : PySem.W.Frag} : KitT K "int" := ⟨fun d d' h => by
  cases d with
  | none => cases h; kernel_rfl
  | bool _ => cases h; kernel_rfl
  | int _ => cases h; kernel_rfl
  | str _ => cases h; kernel_rfl
  | list _ => cases h; kernel_rfl
  | tuple _ => cases h; kernel_rfl
  | dict _ => cases h⟩
theorem kit_bool {K : PySem.W.Frag} : KitT K "bool" := ⟨fun d d' h => by
  cases d with
  | none => cases h; kernel_rfl
  | bool _ => cases h; kernel_rfl
  | int _ => cases h; kernel_rfl
  | str _ => cases h; kernel_rfl
  | list _ => cases h; kernel_rfl
  | tuple _ => cases h; kernel_rfl
  | dict _ => cases h⟩
theorem kit_list {K : PySem.W.Frag} : KitT K "list" := ⟨fun d d' h => by
  cases d with
  | none => cases h; kernel_rfl
  | bool _ => cases h; kernel_rfl
  | int _ => cases h; kernel_rfl
  | str _ => cases h; kernel_rfl
  | list _ => cases h; kernel_rfl
  | tuple _ => cases h; kernel_rfl
  | dict _ => cases h⟩
theorem kit_tuple {K : PySem.W.Frag} : KitT K "tuple" := ⟨fun d d' h => by
  cases d with
  | none => cases h; kernel_rfl
  | bool _ => cases h; kernel_rfl
  | int _ => cases h; kernel_rfl
  | str _ => cases h; kernel_rfl
  | list _ => cases h; kernel_rfl
  | tuple _ => cases h; kernel_rfl
  | dict _ => cases h⟩
theorem kits (K : PySem.W.Frag) : Kits K := ⟨kit_int, kit_bool, kit_list, kit_tuple⟩
noncomputable def spLaw (K : PySem.W.Frag) : Sp := fun vs H Q _ => ∃ (a : Addr) (ns : List Int), vs = [.ref a] ∧ SqL K H a (ns.map V.int) ∧ ns.length ≤ 63 ∧ ∀ H', Q (.bl true) H'
theorem law_sp {K : PySem.W.Frag} {m : FnM} (hm : ∀ ns : List Int, ns.length ≤ 63 → m [.list (ns.map .int)] = some (false, .bool true)) : ∀ vs H Q E, spLaw K vs H Q E → spV K m vs H Q E := by
  rintro vs H Q E ⟨a, ns, rfl, hS, hl, q⟩
  refine ⟨H, [.list (ns.map .int)], Same.refl _, ⟨_, _, rfl, ⟨a, _, rfl, hS, HasL.ints.mpr rfl⟩, rfl⟩, false, _, hm ns hl, fun v F' H' g hv => ?_⟩
  have ev : v = .bl true := hv
  rw [ev]; exact q H'
theorem walk {k : Nat} {x : Str} {l : PySem.W.OpenLaw} {q : Program} {loose : List Str} {XP : (Str → Option Value) → Heap → Prop} {YP : World → Heap → Prop} {d : DefRec} {K : Params → PySem.W.Frag} (hn : l.most = some 63) (hdf : d.params.defaults = []) (hr : Room k callerA)
    (hY : ∀ (w : World) (h : Heap), YP w h → (K w.params).In h)
    (F : ∀ (w : World) (mg : Str → Option Value) (fa : Addr) (h : Heap), (K w.params).In h → h.Ns mainGlobals mg → mg d.name = some (.ref fa) →
      ∃ fd : FuncData, (∀ (s : Shared) (u : Value), BindsTo s fd ⟨[u], []⟩ [(x, u)]) ∧ ∀ base : Heap, (K w.params).In base → base.Ns mainGlobals mg → FnOk l.prog w (K w.params) mg base CX0 k fa fd [x] (spLaw (K w.params))) :
    PySem.W.WalkO q loose XP YP l.row.toRowW d [] (fun f vs => PySem.call f vs) :=
  L2.walk_of (n := 63) (k := k) (x := x) (CX := fun _ => CX0) (sp := fun w => spLaw (K w.params)) hn (by decide) hdf hr hY F (fun _ _ a ns hl _ hS => ⟨a, ns, rfl, hS, hl, fun _ => rfl⟩) fun _ _ _ _ _ z => z
end VM
namespace VM
open PySem L2
noncomputable def HasIO (K : PySem.W.Frag) (F : Hp) (v0 : V) : List (Option PyData) → List V → Prop
  | [], vs => vs = []
  | some d :: r, vs => ∃ v us, vs = v :: us ∧ Has K F d v ∧ HasIO K F v0 r us
  | none :: r, vs => ∃ us, vs = v0 :: us ∧ HasIO K F v0 r us
theorem HasIO.same {K : PySem.W.Frag} {F F' : Hp} {v0 : V} (e : Same F F') : ∀ {os : List (Option PyData)} {vs : List V}, HasIO K F v0 os vs → HasIO K F' v0 os vs
  | [], _, h => h
  | some _ :: _, _, ⟨v, us, h1, h2, h3⟩ => ⟨v, us, h1, Has.same e h2, HasIO.same e h3⟩
  | none :: _, _, ⟨us, h1, h3⟩ => ⟨us, h1, HasIO.same e h3⟩
theorem HasIO.length {K : PySem.W.Frag} {F : Hp} {v0 : V} : ∀ {os : List (Option PyData)} {vs : List V}, HasIO K F v0 os vs → os.length = vs.length
  | [], vs, h => by have h' : vs = [] := h; rw [h']; rfl
  | some _ :: _, _, ⟨v, us, h1, _, h3⟩ => by rw [h1]; exact congrArg (· + 1) (HasIO.length h3)
  | none :: _, _, ⟨us, h1, h3⟩ => by rw [h1]; exact congrArg (· + 1) (HasIO.length h3)
theorem HasIO.at {K : PySem.W.Frag} {F : Hp} {v0 : V} : ∀ {os : List (Option PyData)} {vs : List V} {i : Nat} {o : Option PyData}, HasIO K F v0 os vs → os[i]? = some o → ∃ v, vs[i]? = some v ∧ match o with | some d => Has K F d v | none => v = v0
  | [], _, i, o, _, e => by simp at e
  | some d :: _, _, 0, o, ⟨v, us, h1, h2, h3⟩, e => by
    have e' : some d = o := by simpa using e
    subst e'; rw [h1]; exact ⟨v, rfl, h2⟩
  | none :: _, _, 0, o, ⟨us, h1, h3⟩, e => by
    have e' : none = o := by simpa using e
    subst e'; rw [h1]; exact ⟨v0, rfl, rfl⟩
  | some _ :: r, _, i + 1, o, ⟨v, us, h1, h2, h3⟩, e => by
    obtain ⟨u, q1, q2⟩ := HasIO.at (i := i) (o := o) h3 (by simpa using e)
    rw [h1]; exact ⟨u, by simpa using q1, q2⟩
  | none :: r, _, i + 1, o, ⟨us, h1, h3⟩, e => by
    obtain ⟨u, q1, q2⟩ := HasIO.at (i := i) (o := o) h3 (by simpa using e)
    rw [h1]; exact ⟨u, by simpa using q1, q2⟩
noncomputable abbrev VIO := GS → Option (List (Option PyData))
noncomputable def ioO : VIO := fun _ => some []
noncomputable def ioC (f : VE) (fs : VIO) : VIO := fun S => match f S with
  | some d => match fs S with
    | some os => some (some d :: os)
    | none => none
  | none => none
noncomputable def ioN (fs : VIO) : VIO := fun S => match fs S with
  | some os => some (none :: os)
  | none => none
section
variable {X : Cx} {e : Expr} {es : List Expr} {f : VE} {fs : VIO} {j : Nat}
end
noncomputable abbrev FnIO := List (Option PyData) → List PyData → Option (Bool × PyData × List PyData)
theorem VI.bound {K : PySem.W.Frag} {ioA : Nat → Option Addr} {G H₀ F H : Hp} {S : GS} {σ : St} (I : VI K ioA G H₀ S F σ H) {i : Nat} {t : Tg} {ds : List PyData} (h : ownL S i = some (t, ds)) : ∃ a, σ[i]? = some (some (.ref a)) ∧ F a = none ∧ H₀ a = none := by
  obtain ⟨hS, ht⟩ := ownL_some h
  obtain ⟨v, hv, hs⟩ := I.slot i t _ hS
  cases t with
  | fr => exact absurd rfl ht
  | ow => obtain ⟨a, _, _, _, rfl, _, h4, h5, _⟩ := hs; exact ⟨a, hv, h4, h5⟩
  | io => obtain ⟨a, _, _, _, rfl, _, h4, h5, _⟩ := hs.1; exact ⟨a, hv, h4, h5⟩
noncomputable def gIoAs (m : FnIO) (j : Nat) (fs : VIO) (i : Nat) : VS := fun S => match ownL S j, fs S with
  | some (t, ls), some os => (match m os ls with
    | some (_, d, ls') => if noIo (S.set j (some (t, .list ls'))) i = true ∧ i ≠ j then .nxt ((S.set j (some (t, .list ls'))).set i (some (.fr, d))) else .fail
    | none => .fail)
  | _, _ => .fail
noncomputable def gIoEx (m : FnIO) (j : Nat) (fs : VIO) : VS := fun S => match ownL S j, fs S with
  | some (t, ls), some os => (match m os ls with
    | some (_, _, ls') => .nxt (S.set j (some (t, .list ls')))
    | none => .fail)
  | _, _ => .fail
noncomputable def gIoRet (m : FnIO) (j : Nat) (fs : VIO) : VS := fun S => match ownL S j, fs S with
  | some (t, ls), some os => (match m os ls with
    | some (b, d, ls') => .ret (S.set j (some (t, .list ls'))) b d
    | none => .fail)
  | _, _ => .fail
section
variable {X : Cx} {s : Stmt} {m : FnIO} {j : Nat} {fs : VIO}
end
noncomputable def iniIO (nN : Nat) (os : List (Option PyData)) (ls : List PyData) : GS := os.map (fun o => match o with | some d => some (.fr, d) | none => some (.io, .list ls)) ++ List.replicate (nN - os.length) none
noncomputable def oneIO : Nat → List (Option PyData) → Bool
  | _, [] => false
  | 0, none :: r => r.all Option.isSome
  | 0, some _ :: _ => false
  | k + 1, some _ :: r => oneIO k r
  | _ + 1, none :: _ => false
noncomputable def lentL (S : GS) (k : Nat) : Option (List PyData) := match S[k]? with
  | some (some (.io, .list ls)) => some ls
  | _ => none
noncomputable def fnIO (n nN k : Nat) (g : VS) : FnIO := fun os ls => if os.length = n ∧ oneIO k os = true then (match g (iniIO nN os ls) with
  | .ret S b d => (match lentL S k with
    | some ls' => some (b, d, ls')
    | none => none)
  | .nxt S => (match lentL S k with
    | some ls' => some (false, .none, ls')
    | none => none)
  | _ => none) else none
section
variable {P : Program} {w : World} {K : PySem.W.Frag} {mg : Str → Option Value} {base : Heap}
end
end VM
namespace VM
open PySem L2
section
variable {X : Cx} {o e1 e2 : Expr} {apos cpos : Pos}
theorem peClr {to : TE} (ho : PE X o to) (hbase : attributeBase o "clear" X.env (eval o X.env) = eval o X.env := by rfl) (hline : (apos.endLine == cpos.line) = true := by rfl) : PE X (.Call (.Attribute o "clear" apos) [] [] cpos) (tBM0 X.K "list" rClrM to) := pe_bm0 PySem.F.plainAttrs_list PySem.F.slot_list_clear PySem.F.type_list_clear mClr ho hbase hline
noncomputable def gRv (i : Nat) : VS := fun S => match ownL S i with
  | some (t, ds) => .nxt (S.set i (some (t, .list ds.reverse)))
  | none => .fail
noncomputable def insAt {α : Type} (k : Nat) (y : α) (xs : List α) : List α := xs.take k ++ y :: xs.drop k
noncomputable def rInM : V → List V → Hp → VK → Prop := fun x vs H Q => match x, vs with
  | .ref l, [.int i, y] => ∃ ys, H l = some (.lst ys) ∧ 0 ≤ i ∧ i < 2 ^ 62 ∧ ys.length < sizeLine ∧ Q .non (upd H l (.lst (insAt i.toNat y ys)))
  | _, _ => False
theorem mIn : MtR X "list.insert" rInM := by
  intro pins s σ H x vs v us Q I rx rv q
  match x, vs, q with
  | .ref l, [.int i, y], ⟨xs, hH, i0, i1, hz, q⟩ =>
    cases rx
    obtain ⟨u, w, rfl, ru, rw'⟩ := rv.two
    obtain ⟨t, rfl⟩ := ru
    obtain ⟨z, its, n, r, hl, e⟩ := I.lstM hH
    have hfit : ¬ (!Builtin.List.listFitsIndex i) = true := by
      unfold Builtin.List.listFitsIndex
      have h1 : -(2 ^ 63 : Int) ≤ i := by omega
      have h2 : i < 2 ^ 63 := by omega
      rw [decide_eq_true h1, decide_eq_true h2]
      exact Bool.false_ne_true
    refine call_meets PySem.F.slot_list_insert ⟨_, e, rfl⟩ PySem.F.entry_list_insert (PySem.F.args_list_insert_3 _ _ _) (AutoSeq1.list_insert_list_int_val_1 l its.toArray n i t w hfit (by rw [List.size_toArray]; omega)) ⟨e, ?_⟩
    have vv : Vals (insAt i.toNat y xs) (insAt i.toNat w its) := (r.take _).append (.cons rw' (r.drop _))
    have ln : (insAt i.toNat y xs).length ≤ sizeLine := by
      unfold insAt
      rw [List.length_append, List.length_cons, List.length_take, List.length_drop]
      omega
    refine ⟨.non, _, I.lset (its' := insAt i.toNat w its) hH e ?_ vv ln, rfl, q⟩
    simp only [List.size_toArray]
    rw [if_neg (by omega)]
    unfold insAt
    apply Array.toList_inj.mp
    simp [List.extract_eq_take_drop]
    by_cases hk : i.toNat ≤ its.length
    · rw [Nat.min_eq_left hk, List.take_of_length_le (l := its.drop i.toNat) (by rw [List.length_drop]; omega)]
    · rw [Nat.min_eq_right (by omega), List.take_of_length_le (i := i.toNat) (by omega), List.drop_of_length_le (i := i.toNat) (by omega)]
      simp
theorem peIn {to : TE} {t : TA} (ho : PE X o to) (ha : PA X [e1, e2] t)
    (hbase : attributeBase o "insert" X.env (eval o X.env) = eval o X.env := by rfl)
    (hfew : ((backTo cpos (starEach [e1, e2] X.env)).all (fun x => !x.1) && (backToKw cpos (keywordEach [] X.env)).all (fun x => x.1.isSome)
      && decide (([e1, e2] : List Expr).length + ([] : List Keyword).length + (if ([] : List Keyword).isEmpty then 0 else 1) < 30)) = true := by rfl)
    (hline : (apos.endLine == cpos.line) = true := by rfl) (hs : starEach [e1, e2] X.env = (false, eval e1 X.env) :: starEach [e2] X.env := by rfl) (hplain : (backTo cpos (starEach [e2] X.env)).any (·.1) = false := by rfl) :
    PE X (.Call (.Attribute o "insert" apos) [e1, e2] [] cpos) (tBM X.K "list" rInM to t) := pe_bm PySem.F.plainAttrs_list PySem.F.slot_list_insert PySem.F.type_list_insert mIn ho ha hbase hfew hline hs hplain
noncomputable def gIns (i : Nat) (fs : VA) : VS := fun S => match ownL S i, fs S with
  | some (t, ds), some [.int k, d] => @ite _ (ds.length < sizeLine ∧ 0 ≤ k ∧ k < 2 ^ 62) (Classical.propDecidable _) (.nxt (S.set i (some (t, .list (insAt k.toNat d ds))))) .fail
  | _, _ => .fail
theorem HasL.ins {K : PySem.W.Frag} {H : Hp} {ds : List PyData} {vs : List V} {d : PyData} {v : V} (k : Nat) (hv : Has K H d v) (h : HasL K H ds vs) : HasL K H (insAt k d ds) (insAt k v vs) :=
  HasL.append (show HasL K H (d :: ds.drop k) (v :: vs.drop k) from ⟨v, _, rfl, hv, HasL.drop _ h⟩) (HasL.take _ h)
theorem sIns {s : Stmt} {fs : VA} {i : Nat} (hp : PS X s (tDrop (tBM X.K "list" rInM (vR i) (tVA X.K fs)))) : PS X s (tVS X.K (gIns i fs)) := PS.imp hp fun D σ H q => by
  obtain ⟨ioA, G, H₀, S, F, I, q⟩ := q
  unfold gIns at q
  split at q
  · rename_i t ds k d q1 q2
    split at q
    · rename_i hz
      obtain ⟨a, xs, hv, hH, hx, nx⟩ := I.own q1
      unfold tDrop tBM vR
      simp only [hv]
      refine ⟨.inl ⟨rfl, xs, SqL.of hH⟩, ioA, G, H₀, S, F, I, [.int k, d], q2, fun vs F' H' g hvs => ?_⟩
      obtain ⟨u, r, rfl, hu, hr⟩ := hvs
      obtain ⟨v, rfl, hv2⟩ := HasL.one hr
      cases (show u = .int k from hu)
      refine ⟨xs, g.hh _ _ hH, hz.2.1, hz.2.2, by rw [← hx.length]; exact hz.1, q F' σ _ (nx _ _ F' H' g (HasL.ins _ hv2 (hx.same g.ff)))⟩
    · exact q.elim
  · exact q.elim
noncomputable def gPopAt (i : Nat) (fs : VA) : VS := fun S => match ownL S i, fs S with
  | some (t, ds), some [.int k] => @ite _ (k.toNat < ds.length ∧ 0 ≤ k ∧ k < 2 ^ 62) (Classical.propDecidable _) (.nxt (S.set i (some (t, .list (ds.eraseIdx k.toNat))))) .fail
  | _, _ => .fail
theorem HasL.erase {K : PySem.W.Frag} {H : Hp} : ∀ {ds : List PyData} {vs : List V} (k : Nat), HasL K H ds vs → HasL K H (ds.eraseIdx k) (vs.eraseIdx k)
  | [], vs, k, h => by
    have h' : vs = [] := h
    rw [h']; rfl
  | _ :: _, _, 0, ⟨v, r, h1, _, h3⟩ => by rw [h1]; exact h3
  | _ :: _, _, k + 1, ⟨v, r, h1, h2, h3⟩ => by rw [h1]; exact ⟨v, _, rfl, h2, HasL.erase k h3⟩
end
end VM
namespace VM
open PySem L2
noncomputable def unlike (ns : List Int) : List Int := PyProof.Rows.firstMet (fun i => ns.getD i 0) ns.length
section
variable {X : Cx}
noncomputable def rSetOfM (K : PySem.W.Frag) : List V → Hp → VK → Prop := fun xs H Q => match xs with
  | [.ref p] => ∃ ns : List Int, SqL K H p (ns.map V.int) ∧ ns.length ≤ 4000 ∧ ∀ z S, H z = none → Q (.ref z) (upd H z (.set S (unlike ns).length))
  | _ => False
theorem ints_are : ∀ {ns : List Int} {its : List Value}, Vals (ns.map V.int) its → PyProof.Rows.IntsAre its ns
  | [], _, h => by cases h; exact .nil
  | n :: ns, _, h => by
    cases h with
    | cons r1 r2 =>
      obtain ⟨t, rfl⟩ := r1
      exact .cons n t (ints_are r2)
theorem cSetOf (hc : X.calm = true) : CallR X (.type "set") (rSetOfM X.K) := by
  intro pins s σ H xs us Q I r h
  match xs, h with
  | [.ref p], ⟨ns, hq, hl, q⟩ =>
    obtain ⟨u, rfl, rx⟩ := vals1 r
    cases rx
    obtain ⟨its, r', pl, hz⟩ := I.list hq
    have hlen := r'.length
    rw [List.length_map] at hlen
    refine PySem.call_set_list (items := its.toArray) (ns := ns) (I.ok.hd hc) pl.isList (by simpa using ints_are r') (by rw [List.size_toArray]; unfold scanBound; omega) fun h' tk hS hk => ?_
    have ez : its.toArray.size = ns.length := by rw [List.size_toArray, hlen]
    rw [ez] at hS
    exact ⟨.ref _, _, I.laid (a := s.heap.objs.size) (o := .set _ _) (h' := h') (t' := tk) (fun b u e => hk b u (Heap.lt_size e) e) (Nat.le_refl _) hS, rfl, q _ _ I.fresh⟩
noncomputable def rLenSetM : List V → Hp → VK → Prop := fun xs H Q => match xs with
  | [.ref p] => ∃ S n, H p = some (.set S n) ∧ Q (.int n) H
  | _ => False
theorem cLenSet : CallR X (.builtin "len") rLenSetM := by
  intro pins s σ H xs us Q I r h
  match xs, h with
  | [.ref p], ⟨S, n, e, q⟩ =>
    obtain ⟨u, rfl, rx⟩ := vals1 r
    cases rx
    obtain ⟨o, es, ep, t, h1, h2, h3, h4, h5, h6, h7, h8⟩ := I.hok p _ e
    have hb : es.size < 4096 := h6
    refine PySem.call_len_set h1 h2 h3 h7 (by omega) ⟨.int n, H, I.tok _, ⟨s.toks + 1, ?_⟩, q⟩
    rw [h8]
noncomputable def setLenD : PyData → Option PyData
  | .list ds => match intsOf ds with
    | some ns => @ite _ (ns.length ≤ 4000) (Classical.propDecidable _) (some (.int (unlike ns).length)) none
    | none => none
  | _ => none
noncomputable def vSetLen (f : VE) : VE := v1 setLenD f
theorem dSetLen {e : Expr} {f : VE} (he : PE X e (tCB rLenSetM (tCons (tCB (rSetOfM X.K) (tCons (tV X.K RM f) tNil)) tNil))) : PE X e (tV X.K RS (vSetLen f)) := he.imp fun _ H Q q => by
  obtain ⟨ioA, G, H₀, S, F, I, d, e, q⟩ := q
  unfold vSetLen v1 at e
  split at e
  · rename_i x q1
    unfold setLenD at e
    split at e
    · rename_i ds
      split at e
      · rename_i ns q2
        split at e
        · rename_i hz
          cases e
          refine ⟨ioA, G, H₀, S, F, I, _, q1, fun v F1 H1 g1 hx => ?_⟩
          obtain ⟨p, xs, rfl, h1, h2⟩ := RM.list g1.fh hx
          rw [intsOf_some q2] at h2
          have h2' := HasL.ints.mp h2
          rw [h2'] at h1
          refine ⟨ns, h1, hz, fun z S' hz' => ?_⟩
          exact ⟨S', _, upd_same, q _ F1 _ (g1.trans (Grow.alloc g1.fh hz')) rfl⟩
        · cases e
      · cases e
    · cases e
  · cases e
end
theorem range_getD : ∀ ns : List Int, (List.range ns.length).map (fun i => ns.getD i 0) = ns := fun ns => by
  apply List.ext_getElem?
  intro i
  rw [List.getElem?_map]
  by_cases h : i < ns.length
  · rw [List.getElem?_range h, List.getElem?_eq_getElem h]
    simp [h]
  · rw [List.getElem?_eq_none (by simp; omega), List.getElem?_eq_none (by omega)]
    rfl
theorem unlike_eq (ns : List Int) : unlike ns = ns.foldl PyProof.Rows.step_dedup [] := by
  unfold unlike PyProof.Rows.firstMet
  rw [range_getD]
theorem unlike_nodup {ns : List Int} (h : ns.Nodup) : unlike ns = ns := by
  have key : ∀ (ns acc : List Int), (acc ++ ns).Nodup → ns.foldl PyProof.Rows.step_dedup acc = acc ++ ns := fun ns => by
    induction ns with
    | nil => intro acc _; simp
    | cons n r ih =>
      intro acc nd
      have hn : n ∉ acc := fun z => (List.nodup_append.mp nd).2.2 n z n List.mem_cons_self rfl
      have e : PyProof.Rows.step_dedup acc n = acc ++ [n] := by
        unfold PyProof.Rows.step_dedup
        simp [hn]
      rw [List.foldl_cons, e, ih _ (by simpa using nd)]
      simp
  rw [unlike_eq, key ns [] (by simpa using h)]
  rfl
end VM
namespace VM
open PySem PyProof PyProof.Rows L2
section
variable {X : Cx} {a b c : Expr} {ta tb tc : TE} {fa fb fc : VE} {pos : Pos} {h h' : PyData → PyData → Option PyData} {r r' : R2}
end
end VM
namespace VM
open PySem PySem.Spec PyProof.Rows L2
section
variable {X : Cx} {tg : Expr}
end
end VM
namespace VM
open PySem L2
set_option exponentiation.threshold 3000
theorem lt2000 {j : Int} (h1 : -10000000000000000000000000000000000000000000000000000000000000000000000000000000000000000000000000000 < j) (h2 : j < 10000000000000000000000000000000000000000000000000000000000000000000000000000000000000000000000000000) : j.natAbs < 2 ^ 2000 := by
  have e : (10000000000000000000000000000000000000000000000000000000000000000000000000000000000000000000000000000 : Nat) ≤ 2 ^ 2000 := Nat.le_trans (show (10000000000000000000000000000000000000000000000000000000000000000000000000000000000000000000000000000 : Nat) ≤ 2 ^ 340 by decide +kernel) (Nat.pow_le_pow_right (by decide) (by decide))
  omega
theorem mulD_i {a b : Int} (h1 : -10000000000000000000000000000000000000000000000000000000000000000000000000000000000000000000000000000 < a) (h2 : a < 10000000000000000000000000000000000000000000000000000000000000000000000000000000000000000000000000000) (h3 : -10000000000000000000000000000000000000000000000000000000000000000000000000000000000000000000000000000 < b) (h4 : b < 10000000000000000000000000000000000000000000000000000000000000000000000000000000000000000000000000000) : mulD (.int a) (.int b) = some (.int (a * b)) := if_pos ⟨lt2000 h1 h2, lt2000 h3 h4⟩
theorem divD_i {a b : Int} (h0 : 0 < b) (h1 : b < 10000000000000000000000000000000000000000000000000000000000000000000000000000000000000000000000000000) : divD (.int a) (.int b) = some (.int (a / b)) := if_pos ⟨h0, lt2000 (by omega) h1⟩
theorem modD_i {a b : Int} (h0 : 0 < b) : modD (.int a) (.int b) = some (.int (a % b)) := if_pos h0
theorem powD_i {a b : Int} (h0 : 0 ≤ b) (h1 : b ≤ 1000) (h2 : 0 ≤ a) (h3 : a < 1152921504606846976) : powD (.int a) (.int b) = some (.int (a ^ b.toNat)) := if_pos ⟨h0, h1, by omega⟩
theorem eqD_i (a b : Int) : eqD (.int a) (.int b) = some (.bool (decide (a = b))) := by
  have : PyData.depth (.int a) ≤ 60 := by simp [PyData.depth]
  unfold eqD
  rw [if_pos this]
  simp only [PyData.eqv, Bool.beq_eq_decide_eq]
theorem neD_i (a b : Int) : neD (.int a) (.int b) = some (.bool (!decide (a = b))) := by
  have : PyData.depth (.int a) ≤ 60 := by simp [PyData.depth]
  unfold neD
  rw [if_pos this]
  simp only [PyData.eqv, Bool.beq_eq_decide_eq]
theorem isD_n (x : PyData) : isD x .none = some (.bool (isNoneD x)) := rfl
theorem isnD_n (x : PyData) : isnD x .none = some (.bool (!isNoneD x)) := rfl
theorem forG_ok {t : VG} {g : VS} (P : Nat → GS → Prop) : ∀ (ds : List PyData) (i : Nat) (S : GS), P i S →
    (∀ (j : Nat) d S, ds[j]? = some d → P (i + j) S → ∃ S1, t d S = some S1 ∧ ∃ S2, (g S1 = .nxt S2 ∨ g S1 = .cnt S2) ∧ P (i + j + 1) S2) → ∃ S', forG t g ds S = .nxt S' ∧ P (i + ds.length) S'
  | [], i, S, h, _ => ⟨S, rfl, h⟩
  | d :: r, i, S, h, st => by
    obtain ⟨S1, e1, S2, e2, p2⟩ := st 0 d S rfl h
    obtain ⟨S', e3, p3⟩ := forG_ok P r (i + 1) S2 p2 fun j d' S' e p => by
      have e' : i + 1 + j = i + (j + 1) := by omega
      rw [e'] at p ⊢
      exact st (j + 1) d' S' (by simpa using e) p
    refine ⟨S', ?_, by rw [List.length_cons]; have e' : i + 1 + r.length = i + (r.length + 1) := by omega
                       rw [← e']; exact p3⟩
    simp only [forG, e1]
    rcases e2 with e2 | e2 <;> (rw [e2]; exact e3)
theorem lcD_map {t : VG} {fc : VT} {fe : VE} {S : GS} {f : PyData → PyData} : ∀ {ds : List PyData}, (∀ d ∈ ds, ∃ S2, t d S = some S2 ∧ fc S2 = some true ∧ fe S2 = some (f d)) → lcD t fc fe S ds = some (ds.map f)
  | [], _ => rfl
  | d :: r, h => by
    obtain ⟨S2, e1, e2, e3⟩ := h d List.mem_cons_self
    have ih := lcD_map (ds := r) (f := f) fun x hx => h x (List.mem_cons_of_mem _ hx)
    simp only [lcD, e1, e2, e3, ih, List.map_cons]
theorem lcD_filter {t : VG} {fc : VT} {fe : VE} {S : GS} {p : PyData → Bool} {f : PyData → PyData} : ∀ {ds : List PyData}, (∀ d ∈ ds, ∃ S2, t d S = some S2 ∧ fc S2 = some (p d) ∧ (p d = true → fe S2 = some (f d))) → lcD t fc fe S ds = some ((ds.filter p).map f)
  | [], _ => rfl
  | d :: r, h => by
    obtain ⟨S2, e1, e2, e3⟩ := h d List.mem_cons_self
    have ih := lcD_filter (ds := r) (f := f) (p := p) fun x hx => h x (List.mem_cons_of_mem _ hx)
    cases q : p d with
    | true => simp only [lcD, e1, e2, q, e3 q, ih, List.filter_cons, if_true, List.map_cons]
    | false => simp only [lcD, e1, e2, q, ih, List.filter_cons, Bool.false_eq_true, if_false]
theorem rangeD_get {lo : Int} {n j : Nat} {d : PyData} (h : (rangeD lo n)[j]? = some d) : j < n ∧ d = .int (lo + j) := by
  unfold rangeD at h
  rw [List.getElem?_map] at h
  by_cases hj : j < n
  · rw [List.getElem?_range hj] at h
    cases h
    exact ⟨hj, rfl⟩
  · rw [List.getElem?_eq_none (by simp; omega)] at h
    cases h
theorem rangeD_length (lo : Int) (n : Nat) : (rangeD lo n).length = n := by simp [rangeD]
theorem cutD_map {α : Type} (f : α → PyData) (xs : List α) (lo hi : Option Int) : cutD (xs.map f) lo hi = ((xs.drop (HT.sIx xs.length 0 lo)).take (HT.sIx xs.length xs.length hi - HT.sIx xs.length 0 lo)).map f := by
  unfold cutD
  rw [List.length_map, List.map_take, List.map_drop]
end VM
namespace VM
open PySem L2
noncomputable def bSeq (o : Out) (g : VS) : Out := match o with
  | .nxt S => g S
  | o => o
noncomputable def bIf (o : Option Bool) (g1 g2 : VS) (S : GS) : Out := match o with
  | some true => g1 S
  | some false => g2 S
  | none => .fail
noncomputable def bAnd (o : Option Bool) (g : VT) (S : GS) : Option Bool := match o with
  | some true => g S
  | some false => some false
  | none => none
noncomputable def bOr (o : Option Bool) (g : VT) (S : GS) : Option Bool := match o with
  | some true => some true
  | some false => g S
  | none => none
noncomputable def bAndE (o : Option PyData) (g : VE) (S : GS) : Option PyData := match o with
  | some (.bool true) => g S
  | some (.bool false) => some (.bool false)
  | _ => none
noncomputable def bOrE (o : Option PyData) (g : VE) (S : GS) : Option PyData := match o with
  | some (.bool true) => some (.bool true)
  | some (.bool false) => g S
  | _ => none
noncomputable def bIfE (o : Option Bool) (f g : VE) (S : GS) : Option PyData := match o with
  | some true => f S
  | some false => g S
  | none => none
noncomputable def b2 (h : PyData → PyData → Option PyData) (o : Option PyData) (fb : VE) (S : GS) : Option PyData := match o with
  | some x => (match fb S with
    | some y => h x y
    | none => none)
  | none => none
noncomputable def b1 (h : PyData → Option PyData) (o : Option PyData) : Option PyData := match o with
  | some y => h y
  | none => none
noncomputable def bC (o : Option PyData) (fs : VA) (S : GS) : Option (List PyData) := match o with
  | some d => (match fs S with
    | some ds => some (d :: ds)
    | none => none)
  | none => none
noncomputable def bC1 (d : PyData) (o : Option (List PyData)) : Option (List PyData) := match o with
  | some ds => some (d :: ds)
  | none => none
noncomputable def bAs (o : Option PyData) (t : VG) (S : GS) : Out := match o with
  | some d => (match t d S with
    | some S' => .nxt S'
    | none => .fail)
  | none => .fail
noncomputable def bNx (o : Option GS) : Out := match o with
  | some S' => .nxt S'
  | none => .fail
noncomputable def bG (o : Option GS) (u : VGs) (r : List PyData) : Option GS := match o with
  | some S1 => u r S1
  | none => none
noncomputable def bRes (o : Option (Bool × PyData)) : Option PyData := match o with
  | some (_, d) => some d
  | none => none
noncomputable def bResN (o : Option (Bool × PyData)) : Option PyData := match o with
  | some (true, d) => some d
  | _ => none
noncomputable def bIm : Bool → PyData → Option PyData
  | true, d => some d
  | false, _ => none
theorem bIm_eq (b : Bool) (d : PyData) : bIm b d = if b = true then some d else none := by cases b <;> rfl
theorem bIm_t (d : PyData) : bIm true d = some d := rfl
noncomputable def bResW (o : Option (Bool × PyData)) : Option PyData := match o with
  | some (b, d) => bIm (immR b d) d
  | none => none
noncomputable def bResWN (o : Option (Bool × PyData)) : Option PyData := match o with
  | some (true, .list es) => bIm (immL es) (.list es)
  | _ => none
noncomputable def bCall (m : FnM) (o : Option (List PyData)) : Option PyData := match o with
  | some ds => bRes (m ds)
  | none => none
noncomputable def bCallN (m : FnM) (o : Option (List PyData)) : Option PyData := match o with
  | some ds => bResN (m ds)
  | none => none
noncomputable def bCallW (m : FnM) (o : Option (List PyData)) : Option PyData := match o with
  | some ds => bResW (m ds)
  | none => none
noncomputable def bCallWN (m : FnM) (o : Option (List PyData)) : Option PyData := match o with
  | some ds => bResWN (m ds)
  | none => none
noncomputable def bFor (o : Option (List PyData)) (t : VG) (g : VS) (S : GS) : Out := match o with
  | some ds => forG t g ds S
  | none => .fail
noncomputable def bFn (o : Out) : Option (Bool × PyData) := match o with
  | .ret _ b d => some (b, d)
  | .nxt _ => some (false, .none)
  | _ => none
noncomputable def bCh (h' : PyData → PyData → Option PyData) (y : PyData) (o : Option PyData) (fc : VE) (S : GS) : Option PyData := match o with
  | some (.bool true) => (match fc S with
    | some z => h' y z
    | none => none)
  | some (.bool false) => some (.bool false)
  | _ => none
section
variable {g g1 g2 : VS} {S : GS} {t : VG} {u : VGs} {f fa fb fc : VE} {c c2 : VT} {fs : VA} {h h' : PyData → PyData → Option PyData} {d x y : PyData} {r : List PyData} {m : FnM} {b : Bool}
theorem gSeq_eq : gSeq g1 g2 S = bSeq (g1 S) g2 := rfl
theorem bSeq_n : bSeq (.nxt S) g = g S := rfl
theorem bSeq_r : bSeq (.ret S b d) g = .ret S b d := rfl
theorem bSeq_b : bSeq (.brk S) g = .brk S := rfl
theorem bSeq_c : bSeq (.cnt S) g = .cnt S := rfl
theorem gIf_eq : gIf c g1 g2 S = bIf (c S) g1 g2 S := rfl
theorem bIf_t : bIf (some true) g1 g2 S = g1 S := rfl
theorem bIf_f : bIf (some false) g1 g2 S = g2 S := rfl
theorem tAnd_eq : tAnd2 c c2 S = bAnd (c S) c2 S := rfl
theorem bAnd_t : bAnd (some true) c S = c S := rfl
theorem bAnd_f : bAnd (some false) c S = some false := rfl
theorem tOr_eq : tOr2 c c2 S = bOr (c S) c2 S := rfl
theorem bOr_t : bOr (some true) c S = some true := rfl
theorem bOr_f : bOr (some false) c S = c S := rfl
theorem vAnd_eq : vAnd fa fb S = bAndE (fa S) fb S := rfl
theorem bAndE_t : bAndE (some (.bool true)) f S = f S := rfl
theorem bAndE_f : bAndE (some (.bool false)) f S = some (.bool false) := rfl
theorem vOr_eq : vOr fa fb S = bOrE (fa S) fb S := rfl
theorem bOrE_t : bOrE (some (.bool true)) f S = some (.bool true) := rfl
theorem bOrE_f : bOrE (some (.bool false)) f S = f S := rfl
theorem vIf_eq : vIf c fa fb S = bIfE (c S) fa fb S := rfl
theorem bIfE_t : bIfE (some true) fa fb S = fa S := rfl
theorem bIfE_f : bIfE (some false) fa fb S = fb S := rfl
theorem v2_eq : v2 h fa fb S = b2 h (fa S) fb S := rfl
theorem b2_s : b2 h (some x) fb S = b1 (h x) (fb S) := rfl
theorem b1_s {k : PyData → Option PyData} : b1 k (some y) = k y := rfl
theorem v1_eq {k : PyData → Option PyData} : v1 k f S = b1 k (f S) := rfl
theorem aC_eq : aC f fs S = bC (f S) fs S := rfl
theorem bC_s : bC (some d) fs S = bC1 d (fs S) := rfl
theorem bC1_s : bC1 d (some r) = some (d :: r) := rfl
theorem gAs_eq : gAs f t S = bAs (f S) t S := rfl
theorem bAs_s : bAs (some d) t S = bNx (t d S) := rfl
theorem bNx_s : bNx (some S) = .nxt S := rfl
theorem gC_eq : gC t u (d :: r) S = bG (t d S) u r := rfl
theorem bG_s : bG (some S) u r = u r S := rfl
theorem vCall_eq : vCall m fs S = bCall m (fs S) := by unfold vCall bCall bRes; rfl
theorem bCall_s {ds : List PyData} : bCall m (some ds) = bRes (m ds) := rfl
theorem vCallN_eq : vCallN m fs S = bCallN m (fs S) := by unfold vCallN bCallN bResN; rfl
theorem bCallN_s {ds : List PyData} : bCallN m (some ds) = bResN (m ds) := rfl
theorem vCallW_eq : vCallW m fs S = bCallW m (fs S) := by unfold vCallW bCallW bResW; simp only [bIm_eq] <;> rfl
theorem bCallW_s {ds : List PyData} : bCallW m (some ds) = bResW (m ds) := rfl
theorem bResW_s : bResW (some (b, d)) = bIm (immR b d) d := rfl
theorem vCallWN_eq : vCallWN m fs S = bCallWN m (fs S) := by unfold vCallWN bCallWN bResWN; simp only [bIm_eq] <;> rfl
theorem bCallWN_s {ds : List PyData} : bCallWN m (some ds) = bResWN (m ds) := rfl
theorem bResWN_s : bResWN (some (true, .list r)) = bIm (immL r) (.list r) := rfl
theorem bRes_s : bRes (some (b, d)) = some d := rfl
theorem bResN_s : bResN (some (true, d)) = some d := rfl
theorem fnM_eq {n nN : Nat} {ds : List PyData} (e : ds.length = n) : fnM n nN g ds = bFn (g (ini nN ds)) := by unfold fnM; rw [if_pos e]; rfl
theorem bFn_r : bFn (.ret S b d) = some (b, d) := rfl
theorem bFn_n : bFn (.nxt S) = some (false, .none) := rfl
theorem vCh_eq : vCh h h' fa fb fc S = (match fa S with
  | some x => (match fb S with
    | some y => bCh h' y (h x y) fc S
    | none => none)
  | none => none) := rfl
theorem bCh_t : bCh h' y (some (.bool true)) fc S = b1 (h' y) (fc S) := rfl
theorem bCh_f : bCh h' y (some (.bool false)) fc S = some (.bool false) := rfl
theorem atI_0 {α : Type} (x : α) (r : List α) : atI (x :: r) 0 = some x := atI_nat (j := 0) rfl
theorem atI_1 {α : Type} (x y : α) (r : List α) : atI (x :: y :: r) 1 = some y := atI_nat (j := 1) rfl
theorem atI_2 {α : Type} (x y z : α) (r : List α) : atI (x :: y :: z :: r) 2 = some z := atI_nat (j := 2) rfl
theorem atI_3 {α : Type} (x y z w : α) (r : List α) : atI (x :: y :: z :: w :: r) 3 = some w := atI_nat (j := 3) rfl
theorem gFor_eq {fi : VA} : gFor fi t g S = bFor (fi S) t g S := rfl
theorem bFor_s {ds : List PyData} : bFor (some ds) t g S = forG t g ds S := rfl
end
end VM
namespace VM
open PySem L2
noncomputable def bL (o : Option (List PyData)) : Option PyData := match o with
  | some es => some (.list es)
  | none => none
noncomputable def bLC (o : Option (List PyData)) (cap : List (Option Nat)) (t : VG) (fc : VT) (fe : VE) (S : GS) : Option PyData := match o with
  | some ds => @ite _ (capFr S cap = true ∧ ds.length < sizeLine) (Classical.propDecidable _) (bL (lcD t fc fe (capG cap S) ds)) none
  | none => none
noncomputable def bLCW (o : Option (List PyData)) (cap : List (Option Nat)) (t : VG) (fc : VT) (fe : VE) (S : GS) : Option PyData := match o with
  | some ds => @ite _ (ds.length < sizeLine) (Classical.propDecidable _) (bL (lcD t fc (vImm fe) (capG cap S) ds)) none
  | none => none
noncomputable def bOw (o : Option PyData) (b : Bool) (i : Nat) (t : Tg) (S : GS) : Out := match o with
  | some d => if b = true then .nxt (S.set i (some (t, d))) else .fail
  | none => .fail
section
variable {S : GS} {cap : List (Option Nat)} {t : VG} {fc : VT} {fe f : VE} {fi : VA} {ds es : List PyData} {i : Nat} {d : PyData} {T : Tg} {b : Bool}
theorem vLC_eq : vLC fi cap t fc fe S = bLC (fi S) cap t fc fe S := by unfold vLC bLC bL; rfl
theorem bLC_s (h1 : capFr S cap = true) (h2 : ds.length < sizeLine) : bLC (some ds) cap t fc fe S = bL (lcD t fc fe (capG cap S) ds) := if_pos ⟨h1, h2⟩
theorem vLCW_eq : vLCW fi cap t fc fe S = bLCW (fi S) cap t fc fe S := by unfold vLCW bLCW bL; rfl
theorem bLCW_s (h2 : ds.length < sizeLine) : bLCW (some ds) cap t fc fe S = bL (lcD t fc (vImm fe) (capG cap S) ds) := if_pos h2
theorem bL_s : bL (some es) = some (.list es) := rfl
theorem gOw_eq : gOw i f S = bOw (f S) (noIo S i) i .ow S := rfl
theorem gOwF_eq : gOwF i f S = bOw (f S) (noIo S i) i .fr S := rfl
theorem bOw_s : bOw (some d) true i T S = .nxt (S.set i (some (T, d))) := rfl
noncomputable def bImm (o : Option PyData) : Option PyData := match o with
  | some d => bIm (imm d) d
  | none => none
theorem vImm_eq : vImm f S = bImm (f S) := by unfold vImm bImm; simp only [bIm_eq] <;> rfl
theorem bImm_s : bImm (some d) = bIm (imm d) d := rfl
theorem size_big {n : Nat} (h : n ≤ 16000000) : n < sizeLine := by have e : sizeLine = 16777216 := rfl; omega
end
end VM
namespace VM
open PySem L2
noncomputable def ob (v : Option PyData) : Option (Tg × PyData) := v.map fun d => (Tg.fr, d)
theorem ob_some (d : PyData) : ob (some d) = some (Tg.fr, d) := rfl
theorem ob_none : ob none = none := rfl
theorem atI_of {α : Type} (f : α → PyData) {xs : List α} {i : Nat} {x : α} (h : xs[i]? = some x) : atI (xs.map f) (i : Int) = some (f x) := atI_nat (by rw [List.getElem?_map, h]; rfl)
theorem ixN_of {n i : Nat} (h : i < n) : ixN n (i : Int) = some i := by
  unfold ixN
  rw [if_pos (by omega), if_pos (by omega)]
  simp
end VM
namespace VM
open PySem L2
theorem addD_i (a b : Int) : addD (.int a) (.int b) = some (.int (a + b)) := rfl
theorem subD_i (a b : Int) : subD (.int a) (.int b) = some (.int (a - b)) := rfl
theorem ltD_i (a b : Int) : ltD (.int a) (.int b) = some (.bool (decide (a < b))) := rfl
theorem leD_i (a b : Int) : leD (.int a) (.int b) = some (.bool (decide (a ≤ b))) := rfl
theorem gtD_i (a b : Int) : gtD (.int a) (.int b) = some (.bool (decide (b < a))) := rfl
theorem geD_i (a b : Int) : geD (.int a) (.int b) = some (.bool (decide (b ≤ a))) := rfl
theorem xorD_i (a b : Int) : xorD (.int a) (.int b) = some (.int (Builtin.bitXor a b)) := rfl
noncomputable def nio : Option (Option (Tg × PyData)) → Bool
  | some (some (.io, _)) => false
  | _ => true
theorem noIo_eq (S : GS) (i : Nat) : noIo S i = nio (S[i]?) := rfl
theorem nio_ob (o : Option PyData) : nio (some (ob o)) = true := by cases o <;> rfl
theorem nio_n : nio (some none) = true := rfl
theorem nio_fr (d : PyData) : nio (some (some (.fr, d))) = true := rfl
theorem nio_ow (d : PyData) : nio (some (some (.ow, d))) = true := rfl
theorem rep_one {α : Type} (x : α) (n : Nat) : (List.replicate n [x]).flatten = List.replicate n x := by
  induction n with
  | zero => rfl
  | succ k ih => rw [List.replicate_succ, List.flatten_cons, ih, List.replicate_succ]; rfl
theorem repD_one (x : PyData) {n : Nat} (h : n ≤ 16000000) : repD (.list [x]) (.int (n : Int)) = some (.list (List.replicate n x)) := by
  unfold repD
  have e : sizeLine = 16777216 := rfl
  simp only [List.length_cons, List.length_nil, Int.toNat_natCast]
  rw [if_pos ⟨by omega, by omega, by omega⟩, rep_one]
end VM
namespace VM
open PySem L2
theorem isi_list (ds : List PyData) : isiD "list" (.list ds) = some (.bool true) := by simp [isiD, tyD]
theorem isi_int (i : Int) : isiD "int" (.int i) = some (.bool true) := by simp [isiD, tyD]
theorem isi_bool_i (i : Int) : isiD "bool" (.int i) = some (.bool false) := by simp [isiD, tyD]
theorem isi_tuple (ds : List PyData) : isiD "tuple" (.tuple ds) = some (.bool true) := by simp [isiD, tyD]
end VM
namespace L2
open PySem PySem.Spec PyProof.Rows
section
variable {κ : Type} [DecidableEq κ]
noncomputable def valV (kvs : List (κ × V)) (k : κ) : Option V := (kvs.find? fun kv => decide (kv.1 = k)).map (·.2)
noncomputable def putK (kvs : List (κ × V)) (k : κ) (v : V) : List (κ × V) :=
  if (kvs.any fun kv => decide (kv.1 = k)) = true then kvs.map (fun kv => if kv.1 = k then (kv.1, v) else kv) else kvs ++ [(k, v)]
noncomputable def dropK (kvs : List (κ × V)) (k : κ) : List (κ × V) := kvs.filter fun kv => decide (kv.1 ≠ k)
theorem valV_pos {p : κ × V} {r : List (κ × V)} {k : κ} (e : p.1 = k) : valV (p :: r) k = some p.2 := by simp [valV, List.find?_cons, e]
theorem valV_neg {p : κ × V} {r : List (κ × V)} {k : κ} (e : ¬ p.1 = k) : valV (p :: r) k = valV r k := by simp [valV, List.find?_cons, e]
theorem valV_any (k : κ) : ∀ kvs : List (κ × V), (kvs.any fun kv => decide (kv.1 = k)) = (valV kvs k).isSome
  | [] => rfl
  | p :: r => by
    rw [List.any_cons]
    by_cases e : p.1 = k
    · simp only [valV_pos e, decide_eq_true e, Bool.true_or, Option.isSome_some]
    · rw [valV_neg e, decide_eq_false e, Bool.false_or]; exact valV_any k r
theorem RelO.isSome_eq {o : Option V} {u : Option Value} (r : RelO o u) : o.isSome = u.isSome := by
  cases o with
  | none => cases u with
    | none => rfl
    | some _ => exact (show False from r).elim
  | some _ => cases u with
    | none => exact (show False from r).elim
    | some _ => rfl
theorem RelO.getD {o : Option V} {u : Option Value} {d : V} {d' : Value} (r : RelO o u) (rd : RelV d d') : RelV (o.getD d) (u.getD d') := by
  cases o with
  | none => cases u with
    | none => exact rd
    | some _ => exact (show False from r).elim
  | some _ => cases u with
    | none => exact (show False from r).elim
    | some _ => exact r
theorem KV.val {kvs : List (κ × V)} {vs : List (κ × Value)} (r : KV kvs vs) (k : κ) : RelO (valV kvs k) (valueAt vs k) := by
  unfold KV at r
  induction r with
  | nil => exact True.intro
  | @cons p q ps qs h t ih =>
    obtain ⟨h1, h2⟩ := h
    by_cases e : p.1 = k
    · have e' : q.1 = k := h1.symm.trans e
      have b : valueAt (q :: qs) k = some q.2 := by simp [valueAt, List.find?_cons, e']
      rw [valV_pos e, b]; exact h2
    · have e' : ¬ q.1 = k := fun z => e (h1.trans z)
      have b : valueAt (q :: qs) k = valueAt qs k := by simp [valueAt, List.find?_cons, e']
      rw [valV_neg e, b]; exact ih
theorem KV.any {kvs : List (κ × V)} {vs : List (κ × Value)} (r : KV kvs vs) (k : κ) : (kvs.any fun kv => decide (kv.1 = k)) = vs.any fun kv => decide (kv.1 = k) := by
  unfold KV at r
  induction r with
  | nil => rfl
  | cons h t ih => rw [List.any_cons, List.any_cons, ih, h.1]
theorem KV.repl {kvs : List (κ × V)} {vs : List (κ × Value)} (r : KV kvs vs) (k : κ) {y : V} {u : Value} (ry : RelV y u) :
    KV (kvs.map fun kv => if kv.1 = k then (kv.1, y) else kv) (vs.map fun kv => if kv.1 = k then (kv.1, u) else kv) := by
  unfold KV at r ⊢
  induction r with
  | nil => exact .nil
  | @cons p q ps qs h t ih =>
    rw [List.map_cons, List.map_cons]
    refine .cons ?_ ih
    obtain ⟨h1, h2⟩ := h
    by_cases e : p.1 = k
    · rw [if_pos e, if_pos (h1.symm.trans e)]; exact ⟨h1, ry⟩
    · rw [if_neg e, if_neg (fun z => e (h1.trans z))]; exact ⟨h1, h2⟩
theorem KV.put {kvs : List (κ × V)} {vs : List (κ × Value)} (r : KV kvs vs) (k : κ) {y : V} {u : Value} (ry : RelV y u) : KV (putK kvs k y) (stored vs k u) := by
  unfold putK stored
  rw [r.any k]
  by_cases e : (vs.any fun kv => decide (kv.1 = k)) = true
  · rw [if_pos e, if_pos e]; exact r.repl k ry
  · rw [if_neg e, if_neg e]; exact Paired.snoc r ⟨rfl, ry⟩
theorem KV.drop {kvs : List (κ × V)} {vs : List (κ × Value)} (r : KV kvs vs) (k : κ) : KV (dropK kvs k) (without vs k) := by
  unfold KV at r ⊢
  unfold dropK without
  induction r with
  | nil => exact .nil
  | @cons p q ps qs h t ih =>
    obtain ⟨h1, h2⟩ := h
    rw [List.filter_cons, List.filter_cons]
    by_cases e : p.1 = k
    · have a : ¬ decide (p.1 ≠ k) = true := by simp [e]
      have b : ¬ decide (q.1 ≠ k) = true := by simp [h1.symm.trans e]
      rw [if_neg a, if_neg b]; exact ih
    · have e' : ¬ q.1 = k := fun z => e (h1.trans z)
      have a : decide (p.1 ≠ k) = true := by simp [e]
      have b : decide (q.1 ≠ k) = true := by simp [e']
      rw [if_pos a, if_pos b]; exact .cons ⟨h1, h2⟩ ih
theorem KV.length {kvs : List (κ × V)} {vs : List (κ × Value)} (r : KV kvs vs) : kvs.length = vs.length := Paired.length r
end
noncomputable abbrev KT (H : Hp) : List (List Key × V) → List (List Key × Addr × Value) → Prop := Paired fun p q => p.1 = q.1 ∧ H q.2.1 = some (.tup (p.1.map kV)) ∧ RelV p.2 q.2.2
theorem KT.val {H : Hp} {kvs : List (List Key × V)} {xs : List (List Key × Addr × Value)} (r : KT H kvs xs) (k : List Key) : RelO (valV kvs k) ((atKey xs k).map (·.2)) := by
  induction r with
  | nil => exact True.intro
  | @cons p q ps qs h t ih =>
    obtain ⟨h1, _, h2⟩ := h
    by_cases e : p.1 = k
    · have e' : q.1 = k := h1.symm.trans e
      have b : atKey (q :: qs) k = some q.2 := by simp [atKey, List.find?_cons, e']
      rw [valV_pos e, b]; exact h2
    · have e' : ¬ q.1 = k := fun z => e (h1.trans z)
      have b : atKey (q :: qs) k = atKey qs k := by simp [atKey, List.find?_cons, e']
      rw [valV_neg e, b]; exact ih
theorem KT.repl {H : Hp} {kvs : List (List Key × V)} {xs : List (List Key × Addr × Value)} (r : KT H kvs xs) (k : List Key) {y : V} {u : Value} (ry : RelV y u) :
    KT H (kvs.map fun kv => if kv.1 = k then (kv.1, y) else kv) (xs.map (putAt k u)) := by
  induction r with
  | nil => exact .nil
  | @cons p q ps qs h t ih =>
    rw [List.map_cons, List.map_cons]
    refine .cons ?_ ih
    obtain ⟨h1, h2, h3⟩ := h
    unfold putAt
    by_cases e : p.1 = k
    · rw [if_pos e, if_pos (h1.symm.trans e)]; exact ⟨h1, h2, ry⟩
    · rw [if_neg e, if_neg (fun z => e (h1.trans z))]; exact ⟨h1, h2, h3⟩
theorem KT.put {H : Hp} {kvs : List (List Key × V)} {xs : List (List Key × Addr × Value)} (r : KT H kvs xs) (k : List Key) {b : Addr} {y : V} {u : Value} (hb : H b = some (.tup (k.map kV))) (ry : RelV y u) :
    KT H (putK kvs k y) (storedH xs k b u) := by
  have e : (kvs.any fun kv => decide (kv.1 = k)) = (atKey xs k).isSome := by
    rw [valV_any, (r.val k).isSome_eq, Option.isSome_map]
  unfold putK storedH
  rw [e]
  by_cases q : (atKey xs k).isSome = true
  · rw [if_pos q, if_pos q]; exact r.repl k ry
  · rw [if_neg q, if_neg q]; exact Paired.snoc r ⟨rfl, hb, ry⟩
theorem KT.keeps {H H' : Hp} {kvs : List (List Key × V)} {xs : List (List Key × Addr × Value)} (r : KT H kvs xs) (ht : ∀ b ys, H b = some (.tup ys) → H' b = some (.tup ys)) : KT H' kvs xs :=
  Paired.mapP r fun _ _ z => ⟨z.1, ht _ _ z.2.1, z.2.2⟩
section
variable {P : Program} {w : World} {H : Hp} {h : Heap} {a : Addr}
end
noncomputable def DGet (H : Hp) (a : Addr) (y : V) (r : Option V) : Prop :=
  (∃ kvs k, Rd H a (.dK kvs) ∧ y = kV k ∧ r = valV kvs k) ∨ ∃ kvs k b, Rd H a (.dT kvs) ∧ y = .ref b ∧ H b = some (.tup (k.map kV)) ∧ r = valV kvs k
noncomputable def DPut (H : Hp) (a : Addr) (y v : V) (H' : Hp) : Prop :=
  (∃ kvs k, H a = some (.dK kvs) ∧ y = kV k ∧ kvs.length < sizeLine ∧ H' = upd H a (.dK (putK kvs k v))) ∨
  ∃ kvs k b, H a = some (.dT kvs) ∧ y = .ref b ∧ H b = some (.tup (k.map kV)) ∧ kvs.length < sizeLine ∧ H' = upd H a (.dT (putK kvs k v))
theorem DGet.k {H : Hp} {a : Addr} {kvs : List (Key × V)} {k : Key} (e : H a = some (.dK kvs)) : DGet H a (kV k) (valV kvs k) := .inl ⟨kvs, k, .inl e, rfl, rfl⟩
theorem DGet.t {H : Hp} {a b : Addr} {kvs : List (List Key × V)} {k : List Key} (e : H a = some (.dT kvs)) (eb : H b = some (.tup (k.map kV))) : DGet H a (.ref b) (valV kvs k) := .inr ⟨kvs, k, b, .inl e, rfl, eb, rfl⟩
theorem DPut.k {H : Hp} {a : Addr} {kvs : List (Key × V)} {k : Key} {v : V} (e : H a = some (.dK kvs)) (hl : kvs.length < sizeLine) : DPut H a (kV k) v (upd H a (.dK (putK kvs k v))) := .inl ⟨kvs, k, e, rfl, hl, rfl⟩
theorem DPut.t {H : Hp} {a b : Addr} {kvs : List (List Key × V)} {k : List Key} {v : V} (e : H a = some (.dT kvs)) (eb : H b = some (.tup (k.map kV))) (hl : kvs.length < sizeLine) :
    DPut H a (.ref b) v (upd H a (.dT (putK kvs k v))) := .inr ⟨kvs, k, b, e, rfl, eb, hl, rfl⟩
section
variable {X : Cx} {pins : List (Addr × Obj)} {σ : St} {H : Hp} {s : Shared} {a : Addr} {y v : V} {u r : Value} {o : Option V} {A : Around} {E : Value → Shared → Prop}
end
section
variable {X : Cx} {pins : List (Addr × Obj)} {σ : St} {H : Hp} {s : Shared} {a : Addr} {kvs : List (Key × V)} {k : Key} {u : Value} {A : Around} {E : Value → Shared → Prop}
end
section
variable {X : Cx} {o i e value : Expr} {pos pos' tpos : Pos} {td ty tv : TE}
end
section
variable {X : Cx} {pos : Pos}
end
structure M1 (X : Cx) (o : Expr) (m : Str) (apos : Pos) (e : Expr) (cpos : Pos) : Prop where
  base : attributeBase o m X.env (eval o X.env) = eval o X.env
  few : ((backTo cpos (starEach [e] X.env)).all (fun x => !x.1) && (backToKw cpos (keywordEach [] X.env)).all (fun x => x.1.isSome)
    && decide (([e] : List Expr).length + ([] : List Keyword).length + (if ([] : List Keyword).isEmpty then 0 else 1) < 30)) = true
  line : (apos.endLine == cpos.line) = true
  trees : backTo cpos (starEach [e] X.env) = [(false, eval e X.env)]
structure M2 (X : Cx) (o : Expr) (m : Str) (apos : Pos) (e f : Expr) (cpos : Pos) : Prop where
  base : attributeBase o m X.env (eval o X.env) = eval o X.env
  few : ((backTo cpos (starEach [e, f] X.env)).all (fun x => !x.1) && (backToKw cpos (keywordEach [] X.env)).all (fun x => x.1.isSome)
    && decide (([e, f] : List Expr).length + ([] : List Keyword).length + (if ([] : List Keyword).isEmpty then 0 else 1) < 30)) = true
  line : (apos.endLine == cpos.line) = true
  trees : backTo cpos (starEach [e, f] X.env) = [(false, eval e X.env), (false, eval f X.env)]
section
variable {X : Cx} {pins : List (Addr × Obj)} {σ : St} {H : Hp} {s : Shared} {a : Addr} {y d : V} {u r : Value} {o : Option V} {A : Around} {E : Value → Shared → Prop}
end
section
variable {X : Cx} {o e f : Expr} {apos cpos : Pos} {td ty tx : TE}
end
section
variable {X : Cx} {pins : List (Addr × Obj)} {σ : St} {H : Hp} {s : Shared} {a : Addr} {kvs : List (Key × V)} {A : Around} {E : Value → Shared → Prop}
end
section
variable {X : Cx} {pins : List (Addr × Obj)} {σ : St} {H : Hp} {s : Shared} {a : Addr} {y : V} {u : Value} {A : Around} {E : Value → Shared → Prop}
end
end L2
namespace VM
open PySem L2 PySem.W PySem.Calls PyProof.Rows
section
variable {X : Cx}
end
end VM
namespace Sp
noncomputable def tot {α : Type} (f : Nat → α → Nat) : Nat → List α → Nat
  | _, [] => 0
  | i, x :: xs => f i x + tot f (i + 1) xs
structure Lb where
  d : Int
  c : Nat
  fr : Option (Nat × Nat)
noncomputable def near (d : Int) (c : Nat) : Option Lb → Bool
  | none => true
  | some l => decide (d < l.d) || (decide (d = l.d) && decide (c < l.c))
noncomputable def leL (l : Lb) (d : Int) (c : Nat) : Prop := l.d < d ∨ (l.d = d ∧ l.c ≤ c)
structure RS where
  lab : List (Option Lb)
  wait : List Bool
  queue : List Nat
  place : Nat
noncomputable abbrev Mv := Nat × Nat × Int
noncomputable def relax (left : Nat → Int) (u : Nat) (d : Int) (c : Nat) (s : RS) (m : Mv) : RS :=
  if 0 < left m.1 ∧ near (d + m.2.2) c (s.lab[m.2.1]?.getD none) = true then
    { s with lab := s.lab.set m.2.1 (some ⟨d + m.2.2, c, some (m.1, u)⟩),
             wait := if s.wait[m.2.1]?.getD false = true then s.wait else s.wait.set m.2.1 true,
             queue := if s.wait[m.2.1]?.getD false = true then s.queue else s.queue ++ [m.2.1] }
  else s
noncomputable def RS.room (s : RS) : Nat := s.queue[s.place]?.getD 0
noncomputable def RS.at (s : RS) : Lb := ((s.lab[s.room]?.getD none).getD ⟨0, 0, none⟩)
noncomputable def stepR (left : Nat → Int) (out : Nat → List Mv) (s : RS) : RS :=
  (out s.room).foldl (relax left s.room s.at.d (s.at.c + 1)) { s with place := s.place + 1, wait := s.wait.set s.room false }
noncomputable def RS.done (s : RS) : Prop := s.queue.length ≤ s.place
inductive Ends (left : Nat → Int) (out : Nat → List Mv) : Nat → RS → RS → Prop
  | stop {s} : s.done → Ends left out 0 s s
  | go {m s t} : ¬ s.done → Ends left out m (stepR left out s) t → Ends left out (m + 1) s t
structure Fit (n : Nat) (left : Nat → Int) (out : Nat → List Mv) (π : Nat → Int) : Prop where
  room : ∀ u m, m ∈ out u → m.2.1 < n
  ne : ∀ u m, m ∈ out u → m.2.1 ≠ u
  pay : ∀ u m, u < n → m ∈ out u → 0 < left m.1 → π m.2.1 ≤ π u + m.2.2
variable {n : Nat} {left : Nat → Int} {out : Nat → List Mv} {π : Nat → Int} {st : Nat}
structure LabOk (n : Nat) (left : Nat → Int) (out : Nat → List Mv) (π : Nat → Int) (st : Nat) (s : RS) : Prop where
  pl : s.place ≤ s.queue.length
  ll : s.lab.length = n
  wl : s.wait.length = n
  ql : ∀ v ∈ s.queue, v < n
  st0 : s.lab[st]? = some (some ⟨0, 0, none⟩)
  lo : ∀ v l, s.lab[v]? = some (some l) → π v - π st ≤ l.d
  fr : ∀ v l, s.lab[v]? = some (some l) → v ≠ st → ∃ mv u x lu, l.fr = some (mv, u) ∧ u < n ∧ (mv, v, x) ∈ out u ∧ 0 < left mv ∧ s.lab[u]? = some (some lu) ∧ leL ⟨lu.d + x, lu.c + 1, none⟩ l.d l.c
  wq : ∀ v, s.wait[v]? = some true → v ∈ s.queue.drop s.place
  lq : ∀ v ∈ s.queue, ∃ l, s.lab[v]? = some (some l)
noncomputable def Slack (left : Nat → Int) (s : RS) (l : Lb) (ms : List Mv) : Prop :=
  ∀ m ∈ ms, 0 < left m.1 → ∃ lv, s.lab[m.2.1]? = some (some lv) ∧ leL lv (l.d + m.2.2) (l.c + 1)
structure RInv (n : Nat) (left : Nat → Int) (out : Nat → List Mv) (π : Nat → Int) (st : Nat) (s : RS) : Prop extends LabOk n left out π st s where
  rel : ∀ u l, s.lab[u]? = some (some l) → u ∉ s.queue.drop s.place → Slack left s l (out u)
noncomputable def un (o : Option Lb) : Nat := if o.isNone then 1 else 0
noncomputable def far (π : Nat → Int) (st v : Nat) (o : Option Lb) : Nat := match o with
  | none => 0
  | some l => (l.d - (π v - π st)).toNat
noncomputable def cnt (o : Option Lb) : Nat := match o with
  | none => 0
  | some l => l.c
noncomputable def mu (π : Nat → Int) (st : Nat) (s : RS) : Nat × Nat × Nat := (tot (fun _ o => un o) 0 s.lab, tot (far π st) 0 s.lab, 2 * tot (fun _ o => cnt o) 0 s.lab + (s.queue.length - s.place))
noncomputable def L3 (a b : Nat × Nat × Nat) : Prop := a.1 < b.1 ∨ (a.1 = b.1 ∧ (a.2.1 < b.2.1 ∨ (a.2.1 = b.2.1 ∧ a.2.2 < b.2.2)))
theorem L3.trans {a b c : Nat × Nat × Nat} (h : L3 a b) (g : L3 b c) : L3 a c := by unfold L3 at *; omega
theorem leL.trans {a b : Lb} {d : Int} {c : Nat} (h : leL a b.d b.c) (g : leL b d c) : leL a d c := by unfold leL at *; omega
theorem leL.refl (a : Lb) : leL a a.d a.c := by unfold leL; omega
structure Looked (n : Nat) (left : Nat → Int) (out : Nat → List Mv) (π : Nat → Int) (st : Nat) (s t : RS) : Prop where
  ok : LabOk n left out π st t
  pl : t.place = s.place
  low : ∀ (v : Nat) (l : Lb), s.lab[v]? = some (some l) → ∃ l' : Lb, t.lab[v]? = some (some l') ∧ leL l' l.d l.c
  same : ∀ v : Nat, v ∈ t.queue.drop t.place ∨ t.lab[v]? = s.lab[v]?
  sub : ∀ v, v ∈ s.queue.drop s.place → v ∈ t.queue.drop t.place
  ms : mu π st t = mu π st s ∨ L3 (mu π st t) (mu π st s)
theorem Looked.refl {s : RS} (h : LabOk n left out π st s) : Looked n left out π st s s := ⟨h, rfl, fun v l e => ⟨l, e, leL.refl l⟩, fun _ => .inr rfl, fun _ h => h, .inl rfl⟩
theorem Looked.trans {s t r : RS} (a : Looked n left out π st s t) (b : Looked n left out π st t r) : Looked n left out π st s r := by
  refine ⟨b.ok, b.pl.trans a.pl, fun v l e => ?_, fun v => ?_, fun v h => b.sub v (a.sub v h), ?_⟩
  · obtain ⟨l1, e1, q1⟩ := a.low v l e
    obtain ⟨l2, e2, q2⟩ := b.low v l1 e1
    exact ⟨l2, e2, q2.trans q1⟩
  · rcases b.same v with h | h
    · exact .inl h
    · rcases a.same v with g | g
      · exact .inl (b.sub v g)
      · exact .inr (h.trans g)
  · rcases a.ms with h | h
    · rw [← h]; exact b.ms
    · rcases b.ms with g | g
      · rw [g]; exact .inr h
      · exact .inr (g.trans h)
noncomputable def startR (n st : Nat) : RS := { lab := (List.replicate n none).set st (some ⟨0, 0, none⟩), wait := List.replicate n false, queue := [st], place := 0 }
structure Tree (n : Nat) (left : Nat → Int) (out : Nat → List Mv) (π : Nat → Int) (st : Nat) (lab : List (Option Lb)) : Prop where
  ll : lab.length = n
  st0 : lab[st]? = some (some ⟨0, 0, none⟩)
  fr : ∀ (v : Nat) (l : Lb), lab[v]? = some (some l) → v ≠ st → ∃ (mv u : Nat) (x : Int) (lu : Lb), l.fr = some (mv, u) ∧ u < n ∧ (mv, v, x) ∈ out u ∧ 0 < left mv ∧ lab[u]? = some (some lu) ∧ l.d = lu.d + x ∧ l.c = lu.c + 1
  rel : ∀ (u : Nat) (l : Lb) (m : Mv), lab[u]? = some (some l) → m ∈ out u → 0 < left m.1 → ∃ lv : Lb, lab[m.2.1]? = some (some lv) ∧ lv.d ≤ l.d + m.2.2
  lo : ∀ (v : Nat) (l : Lb), lab[v]? = some (some l) → π v - π st ≤ l.d
end Sp
namespace Sp
structure Pas where
  a : Nat
  b : Nat
  w : Int
  l : Int
structure Hall (n : Nat) (ps : List Pas) : Prop where
  ra : ∀ q ∈ ps, q.a < n
  rb : ∀ q ∈ ps, q.b < n
  ne : ∀ q ∈ ps, q.a ≠ q.b
  w1 : ∀ q ∈ ps, 1 ≤ q.w
  l1 : ∀ q ∈ ps, 1 ≤ q.l
noncomputable def outFrom : Nat → List Pas → Nat → List Mv
  | _, [], _ => []
  | k, q :: ps, u => (if q.a = u then [(2 * k, q.b, q.l)] else []) ++ ((if q.b = u then [(2 * k + 1, q.a, -q.l)] else []) ++ outFrom (k + 1) ps u)
noncomputable def outOf (ps : List Pas) (u : Nat) : List Mv := outFrom 0 ps u
theorem mem_outFrom {u : Nat} {m : Mv} : ∀ {ps : List Pas} {k : Nat}, m ∈ outFrom k ps u ↔ ∃ i q, ps[i]? = some q ∧ ((q.a = u ∧ m = (2 * (k + i), q.b, q.l)) ∨ (q.b = u ∧ m = (2 * (k + i) + 1, q.a, -q.l)))
  | [], k => by simp [outFrom]
  | q :: ps, k => by
    have ih := @mem_outFrom u m ps (k + 1)
    simp only [outFrom, List.mem_append]
    constructor
    · rintro (h | h | h)
      · split at h
        · rename_i e
          exact ⟨0, q, rfl, .inl ⟨e, by simpa using h⟩⟩
        · cases h
      · split at h
        · rename_i e
          exact ⟨0, q, rfl, .inr ⟨e, by simpa using h⟩⟩
        · cases h
      · obtain ⟨i, q', e, r⟩ := ih.mp h
        have e2 : k + 1 + i = k + (i + 1) := by omega
        rw [e2] at r
        exact ⟨i + 1, q', by simpa using e, r⟩
    · rintro ⟨i, q', e, r⟩
      cases i with
      | zero =>
        have e' : q = q' := by simpa using e
        subst e'
        rcases r with ⟨h1, h2⟩ | ⟨h1, h2⟩
        · left; rw [if_pos h1]; simpa using h2
        · right; left; rw [if_pos h1]; simpa using h2
      | succ i =>
        right; right
        have e2 : k + (i + 1) = k + 1 + i := by omega
        rw [e2] at r
        exact ih.mpr ⟨i, q', by simpa using e, r⟩
theorem mem_outOf {u : Nat} {m : Mv} {ps : List Pas} : m ∈ outOf ps u ↔ ∃ i q, ps[i]? = some q ∧ ((q.a = u ∧ m = (2 * i, q.b, q.l)) ∨ (q.b = u ∧ m = (2 * i + 1, q.a, -q.l))) := by
  unfold outOf
  rw [mem_outFrom]
  simp only [Nat.zero_add]
noncomputable abbrev Lf := Nat → Int
structure Laid (ps : List Pas) (left : Lf) : Prop where
  nn : ∀ i, 0 ≤ left i
  sum : ∀ i q, ps[i]? = some q → left (2 * i) + left (2 * i + 1) = q.w
noncomputable def sumP (f : Nat → Pas → Int) : Nat → List Pas → Int
  | _, [] => 0
  | k, q :: ps => f k q + sumP f (k + 1) ps
noncomputable def b2 (p : Prop) [Decidable p] : Int := if p then 1 else 0
noncomputable def net (ps : List Pas) (left : Lf) (v : Nat) : Int := sumP (fun i q => left (2 * i + 1) * (b2 (q.b = v) - b2 (q.a = v))) 0 ps
noncomputable def cost (ps : List Pas) (left : Lf) : Int := sumP (fun i q => left (2 * i + 1) * q.l) 0 ps
noncomputable def partner (m : Nat) : Nat := if m % 2 = 0 then m + 1 else m - 1
noncomputable def move (p : Int) (left : Lf) (m : Nat) : Lf := fun i => if i = m then left i - p else if i = partner m then left i + p else left i
noncomputable def Leads (ps : List Pas) (m u v : Nat) (x : Int) : Prop := (m, v, x) ∈ outOf ps u
theorem Leads.cases {ps : List Pas} {m u v : Nat} {x : Int} (h : Leads ps m u v x) : ∃ i q, ps[i]? = some q ∧ ((q.a = u ∧ q.b = v ∧ m = 2 * i ∧ x = q.l) ∨ (q.b = u ∧ q.a = v ∧ m = 2 * i + 1 ∧ x = -q.l)) := by
  obtain ⟨i, q, e, h⟩ := mem_outOf.mp h
  refine ⟨i, q, e, ?_⟩
  rcases h with ⟨h1, h2⟩ | ⟨h1, h2⟩
  · injection h2 with a b; injection b with b c; exact .inl ⟨h1, b.symm, a, c⟩
  · injection h2 with a b; injection b with b c; exact .inr ⟨h1, b.symm, a, c⟩
theorem partner_even (i : Nat) : partner (2 * i) = 2 * i + 1 := by unfold partner; rw [if_pos (by omega)]
theorem partner_odd (i : Nat) : partner (2 * i + 1) = 2 * i := by unfold partner; rw [if_neg (by omega)]; omega
noncomputable def wayF (lab : List (Option Lb)) : Nat → Nat → List Nat
  | 0, _ => []
  | c + 1, v => match lab[v]? with
    | some (some l) => (match l.fr with
      | some (mv, u) => mv :: wayF lab c u
      | none => [])
    | _ => []
variable {n : Nat} {ps : List Pas} {left : Lf} {π : Nat → Int} {st : Nat} {lab : List (Option Lb)}
theorem Leads.uniq {m u v u' v' : Nat} {x x' : Int} (h : Leads ps m u v x) (g : Leads ps m u' v' x') : u = u' ∧ v = v' ∧ x = x' := by
  obtain ⟨i, q, e, h⟩ := h.cases
  obtain ⟨j, q', e', g⟩ := g.cases
  have hij : i = j := by rcases h with ⟨_, _, h, _⟩ | ⟨_, _, h, _⟩ <;> rcases g with ⟨_, _, g, _⟩ | ⟨_, _, g, _⟩ <;> omega
  subst hij
  rw [e] at e'
  cases e'
  rcases h with ⟨h1, h2, h3, h4⟩ | ⟨h1, h2, h3, h4⟩ <;> rcases g with ⟨g1, g2, g3, g4⟩ | ⟨g1, g2, g3, g4⟩
  · exact ⟨h1.symm.trans g1, h2.symm.trans g2, h4.trans g4.symm⟩
  · omega
  · omega
  · exact ⟨h1.symm.trans g1, h2.symm.trans g2, h4.trans g4.symm⟩
theorem Leads.back {m u v : Nat} {x : Int} (h : Leads ps m u v x) : Leads ps (partner m) v u (-x) := by
  obtain ⟨i, q, e, h⟩ := h.cases
  refine mem_outOf.mpr ⟨i, q, e, ?_⟩
  rcases h with ⟨h1, h2, rfl, rfl⟩ | ⟨h1, h2, rfl, rfl⟩
  · rw [partner_even]; exact .inr ⟨h2, by rw [h1]⟩
  · rw [partner_odd]; exact .inl ⟨h2, by rw [h1, Int.neg_neg]⟩
noncomputable def pushAll (p : Int) (left : Lf) (ms : List Nat) : Lf := ms.foldl (move p) left
theorem above (f : Nat → Option Int) : ∀ (n : Nat) (K : Int), ∃ C : Int, K ≤ C ∧ ∀ v y, v < n → f v = some y → y ≤ C
  | 0, K => ⟨K, Int.le_refl _, fun _ _ h => absurd h (Nat.not_lt_zero _)⟩
  | n + 1, K => by
    obtain ⟨C, h1, h2⟩ := above f n K
    cases e : f n with
    | none => exact ⟨C, h1, fun v y hv hy => by
        by_cases z : v = n
        · rw [z, e] at hy; cases hy
        · exact h2 v y (by omega) hy⟩
    | some z => exact ⟨max C z, by omega, fun v y hv hy => by
        by_cases q : v = n
        · rw [q, e] at hy; cases hy; omega
        · have := h2 v y (by omega) hy; omega⟩
end Sp
namespace Sp
variable {n : Nat} {ps : List Pas} {left : Lf} {π : Nat → Int} {st g : Nat} {lab : List (Option Lb)}
theorem Ends.uniq {left : Lf} {out : Nat → List Mv} : ∀ {m : Nat} {s t : RS} {m' : Nat} {t' : RS}, Ends left out m s t → Ends left out m' s t' → t = t' ∧ m = m'
  | _, _, _, _, _, .stop _, .stop _ => ⟨rfl, rfl⟩
  | _, _, _, _, _, .stop h, .go h' _ => absurd h h'
  | _, _, _, _, _, .go h _, .stop h' => absurd h' h
  | _, _, _, _, _, .go _ a, .go _ b => by
    obtain ⟨h1, h2⟩ := Ends.uniq a b
    exact ⟨h1, by rw [h2]⟩
noncomputable def Found (n : Nat) (ps : List Pas) (st : Nat) (left : Lf) (lab : List (Option Lb)) : Prop := ∃ m t, Ends left (outOf ps) m (startR n st) t ∧ t.lab = lab
theorem Found.uniq {lab lab' : List (Option Lb)} (h : Found n ps st left lab) (g : Found n ps st left lab') : lab = lab' := by
  obtain ⟨_, _, a, rfl⟩ := h
  obtain ⟨_, _, b, rfl⟩ := g
  rw [(a.uniq b).1]
theorem Hall.room (Hh : Hall n ps) : ∀ u m, m ∈ outOf ps u → m.2.1 < n := fun u m hm => by
  obtain ⟨i, q, e, h⟩ := mem_outOf.mp hm
  have := List.mem_of_getElem? e
  rcases h with ⟨_, rfl⟩ | ⟨_, rfl⟩
  · exact Hh.rb q this
  · exact Hh.ra q this
structure Pushed (n : Nat) (ps : List Pas) (st g : Nat) (left : Lf) (len p : Int) (left' : Lf) : Prop where
  ex : ∃ lab l, Found n ps st left lab ∧ lab[g]? = some (some l) ∧ len = l.d ∧ (∃ m ∈ wayF lab l.c g, p = left m) ∧ (∀ m ∈ wayF lab l.c g, p ≤ left m) ∧ left' = pushAll p left (wayF lab l.c g)
structure St (n : Nat) (ps : List Pas) (st : Nat) (left : Lf) (π : Nat → Int) : Prop where
  laid : Laid ps left
  fit : Fit n left (outOf ps) π
  z : π st = 0
inductive Runs (n : Nat) (ps : List Pas) (st g : Nat) (lim : Option Int) : Lf → List (Int × Int) → Lf → Prop
  | none {left : Lf} {lab : List (Option Lb)} : Found n ps st left lab → lab[g]? = some none → Runs n ps st g lim left [] left
  | far {left : Lf} {lab : List (Option Lb)} {l : Lb} {T : Int} : Found n ps st left lab → lab[g]? = some (some l) → lim = some T → T < l.d → Runs n ps st g lim left [] left
  | go {left left' left'' : Lf} {len p : Int} {r : List (Int × Int)} : Pushed n ps st g left len p left' → (∀ T, lim = some T → len ≤ T) → Runs n ps st g lim left' r left'' → Runs n ps st g lim left ((len, p) :: r) left''
noncomputable def many (r : List (Int × Int)) : Int := (r.map (·.2)).sum
theorem Fit.min {L : Lf} {out : Nat → List Mv} {p q : Nat → Int} (hp : Fit n L out p) (hq : Fit n L out q) : Fit n L out fun v => min (p v) (q v) :=
  ⟨hp.room, hp.ne, fun u m hu hm h => by have := hp.pay u m hu hm h; have := hq.pay u m hu hm h; omega⟩
noncomputable def wide (ps : List Pas) : Int := sumP (fun _ q => q.w) 0 ps
noncomputable def rest (ps : List Pas) (g : Nat) (left : Lf) : Nat := (wide ps - net ps left g).toNat
end Sp
namespace Sp
noncomputable def wsum (φ : Int → Int) (r : List (Int × Int)) : Int := (r.map fun x => x.2 * φ x.1).sum
structure Rise (s : List (Int × Int)) : Prop where
  up : s.Pairwise fun x y => x.1 < y.1
  pos : ∀ x ∈ s, 1 ≤ x.1 ∧ 1 ≤ x.2
end Sp
namespace Sp
theorem nodup_sub {α : Type} [DecidableEq α] : ∀ {l m : List α}, l.Nodup → (∀ x ∈ l, x ∈ m) → l.length ≤ m.length
  | [], _, _, _ => Nat.zero_le _
  | x :: l, m, h, s => by
    have hx : x ∈ m := s x List.mem_cons_self
    have h1 : l.length ≤ (m.erase x).length := nodup_sub (List.nodup_cons.mp h).2 fun y hy => by
      have hne : y ≠ x := fun z => (List.nodup_cons.mp h).1 (z ▸ hy)
      exact (List.mem_erase_of_ne hne).mpr (s y (List.mem_cons_of_mem _ hy))
    rw [List.length_erase_of_mem hx] at h1
    have : 0 < m.length := List.length_pos_of_mem hx
    rw [List.length_cons]
    omega
theorem nodup_lt {l : List Nat} {n : Nat} (h : l.Nodup) (hl : ∀ x ∈ l, x < n) : l.length ≤ n := by
  have := nodup_sub (m := List.range n) h fun x hx => List.mem_range.mpr (hl x hx)
  rwa [List.length_range] at this
theorem nodup_pairs {l : List (Nat × Nat)} {n : Nat} (h : l.Nodup) (hl : ∀ x ∈ l, x.1 < n ∧ x.2 < n) : l.length ≤ n * n := by
  have h2 : (l.map fun x => x.1 * n + x.2).Nodup := by
    rw [List.Nodup, List.pairwise_map]
    refine List.Pairwise.imp_of_mem (fun {a b} ha hb hne e => hne ?_) h
    obtain ⟨a1, a2⟩ := hl a ha
    obtain ⟨b1, b2⟩ := hl b hb
    have q1 : a.1 = b.1 := by
      rcases Nat.lt_trichotomy a.1 b.1 with z | z | z
      · have : (a.1 + 1) * n ≤ b.1 * n := Nat.mul_le_mul_right n z
        rw [Nat.add_mul] at this
        omega
      · exact z
      · have : (b.1 + 1) * n ≤ a.1 * n := Nat.mul_le_mul_right n z
        rw [Nat.add_mul] at this
        omega
    have q2 : a.2 = b.2 := by rw [q1] at e; omega
    exact Prod.ext q1 q2
  have := nodup_lt (n := n * n) h2 fun x hx => by
    obtain ⟨a, ha, rfl⟩ := List.mem_map.mp hx
    obtain ⟨a1, a2⟩ := hl a ha
    have : (a.1 + 1) * n ≤ n * n := Nat.mul_le_mul_right n a1
    rw [Nat.add_mul] at this
    omega
  rwa [List.length_map] at this
variable {n : Nat} {left : Nat → Int} {out : Nat → List Mv} {π : Nat → Int} {st : Nat}
noncomputable def PathOk (n : Nat) (π : Nat → Int) (lab : List (Option Lb)) (v : Nat) (l : Lb) : Prop :=
  ∃ pth : List Nat, pth.Nodup ∧ pth.length = l.c + 1 ∧ ∀ y ∈ pth, y < n ∧ ∃ (dy : Int) (cy : Nat) (ly : Lb), lab[y]? = some (some ly) ∧ leL ly dy cy ∧ π v ≤ π y + (l.d - dy) ∧ cy ≤ l.c
noncomputable def Paths (n : Nat) (π : Nat → Int) (lab : List (Option Lb)) : Prop := ∀ v l, lab[v]? = some (some l) → PathOk n π lab v l
theorem PathOk.lt {lab : List (Option Lb)} {v : Nat} {l : Lb} (h : PathOk n π lab v l) : l.c < n := by
  obtain ⟨pth, nd, hl, h⟩ := h
  have := nodup_lt nd fun y hy => (h y hy).1
  omega
theorem PathOk.low {lab lab' : List (Option Lb)} {v : Nat} {l : Lb} (hlow : ∀ (v : Nat) (l : Lb), lab[v]? = some (some l) → ∃ l' : Lb, lab'[v]? = some (some l') ∧ leL l' l.d l.c) (h : PathOk n π lab v l) : PathOk n π lab' v l := by
  obtain ⟨pth, nd, hl, h⟩ := h
  refine ⟨pth, nd, hl, fun y hy => ?_⟩
  obtain ⟨h1, dy, cy, ly, h2, h3, h4, h5⟩ := h y hy
  obtain ⟨ly', e, q⟩ := hlow y ly h2
  exact ⟨h1, dy, cy, ly', e, q.trans h3, h4, h5⟩
theorem PathOk.more {lab lab' : List (Option Lb)} {u v : Nat} {lu : Lb} {x : Int} {fr : Option (Nat × Nat)} (h : PathOk n π lab u lu) (hv : v < n) (hpay : π v ≤ π u + x) (hnear : near (lu.d + x) (lu.c + 1) (lab[v]?.getD none) = true)
    (hlow : ∀ (v : Nat) (l : Lb), lab[v]? = some (some l) → ∃ l' : Lb, lab'[v]? = some (some l') ∧ leL l' l.d l.c) (hnew : lab'[v]? = some (some ⟨lu.d + x, lu.c + 1, fr⟩)) : PathOk n π lab' v ⟨lu.d + x, lu.c + 1, fr⟩ := by
  obtain ⟨pth, nd, hl, h⟩ := h
  refine ⟨v :: pth, List.nodup_cons.mpr ⟨fun hm => ?_, nd⟩, by rw [List.length_cons, hl], fun y hy => ?_⟩
  · obtain ⟨_, dy, cy, ly, h2, h3, h4, h5⟩ := h v hm
    rw [h2] at hnear
    simp only [Option.getD_some, near, Bool.or_eq_true, decide_eq_true_eq, Bool.and_eq_true] at hnear
    unfold leL at h3
    omega
  · rcases List.mem_cons.mp hy with rfl | hy
    · refine ⟨hv, lu.d + x, lu.c + 1, _, hnew, .inr ⟨rfl, Nat.le_refl _⟩, ?_, Nat.le_refl _⟩
      show π y ≤ π y + (lu.d + x - (lu.d + x))
      omega
    · obtain ⟨h1, dy, cy, ly, h2, h3, h4, h5⟩ := h y hy
      obtain ⟨ly', e, q⟩ := hlow y ly h2
      refine ⟨h1, dy, cy, ly', e, q.trans h3, ?_, ?_⟩
      · show π v ≤ π y + (lu.d + x - dy)
        omega
      · show cy ≤ lu.c + 1
        omega
structure QP (n : Nat) (p : Nat) (b : Nat) (s : RS) (phs : List Nat) : Prop where
  len : phs.length = s.queue.length
  lt : ∀ x ∈ phs, x < n
  nd : (s.queue.zip phs).Nodup
  old : ∀ (j : Nat) x, j < s.place → phs[j]? = some x → x ≤ p
  pen : ∀ (j : Nat) x, s.place ≤ j → phs[j]? = some x → p ≤ x ∧ x ≤ p + 1
  srt : ∀ (i j : Nat) x y, s.place ≤ i → i ≤ j → phs[i]? = some x → phs[j]? = some y → x ≤ y
  cnt : ∀ (j : Nat) x v l, s.place ≤ j → phs[j]? = some x → s.queue[j]? = some v → s.lab[v]? = some (some l) → x ≤ l.c
  wt : ∀ (j : Nat) v, b ≤ j → s.queue[j]? = some v → s.wait[v]? = some true
  one : ∀ (i j : Nat) v, s.place ≤ i → s.place ≤ j → s.queue[i]? = some v → s.queue[j]? = some v → i = j
theorem QP.bound {p b : Nat} {s : RS} {phs : List Nat} (h : QP n p b s phs) (hq : ∀ v ∈ s.queue, v < n) : s.queue.length ≤ n * n := by
  have := nodup_pairs (n := n) h.nd fun x hx => ⟨hq _ (List.of_mem_zip hx).1, h.lt _ (List.of_mem_zip hx).2⟩
  rw [List.length_zip, h.len, Nat.min_self] at this
  exact this
noncomputable def QI (n : Nat) (π : Nat → Int) (s : RS) : Prop := (∃ p phs, QP n p (s.place + 1) s phs) ∧ Paths n π s.lab
theorem QP.next {s : RS} {p p' : Nat} {phs : List Nat} (Q : QP n p (s.place + 1) s phs) (I : RInv n left out π st s) (hq : s.queue[s.place]? = some s.room) (hp' : phs[s.place]? = some p') : QP n p' (s.place + 1) { s with place := s.place + 1, wait := s.wait.set s.room false } phs := by
  have hpp := Q.pen s.place p' (Nat.le_refl _) hp'
  refine ⟨Q.len, Q.lt, Q.nd, fun j x hj e => ?_, fun j x hj e => ?_, fun i j x y hi hij e1 e2 => Q.srt i j x y (by have : s.place + 1 ≤ i := hi; omega) hij e1 e2, fun j x v l hj e1 e2 e3 => Q.cnt j x v l (by have : s.place + 1 ≤ j := hj; omega) e1 e2 e3, fun j v hj e => ?_, fun i j v hi hj e1 e2 => Q.one i j v (by have : s.place + 1 ≤ i := hi; omega) (by have : s.place + 1 ≤ j := hj; omega) e1 e2⟩
  · have hj' : j < s.place + 1 := hj
    by_cases z : j = s.place
    · subst z; rw [hp'] at e; cases e; exact Nat.le_refl _
    · have := Q.old j x (by omega) e; omega
  · have hj' : s.place + 1 ≤ j := hj
    refine ⟨Q.srt s.place j p' x (Nat.le_refl _) (by omega) hp' e, ?_⟩
    have := (Q.pen j x (by omega) e).2
    omega
  · have hj' : s.place + 1 ≤ j := hj
    show (s.wait.set s.room false)[v]? = some true
    have hne : v ≠ s.room := fun z => by
      subst z
      have := Q.one j s.place s.room (by omega) (Nat.le_refl _) e hq
      omega
    rw [List.getElem?_set_ne (Ne.symm hne)]
    exact Q.wt j v hj' e
theorem QI.bound {s : RS} (I : RInv n left out π st s) (h : QI n π s) : s.queue.length ≤ n * n := by
  obtain ⟨⟨p, phs, Q⟩, _⟩ := h
  exact Q.bound I.ql
end Sp
namespace Sp
variable {n : Nat} {ps : List Pas} {left : Lf} {π : Nat → Int} {st g : Nat} {lab : List (Option Lb)}
noncomputable def vals : List Pas → List Int
  | [] => [0]
  | q :: r => (vals r).map (fun x => x - q.l) ++ (vals r ++ (vals r).map (fun x => x + q.l))
end Sp
namespace Sp
noncomputable abbrev Tie := Nat × Nat × Int
structure TieOk (n : Nat) (φ : Nat → Int) (e : Tie) : Prop where
  a : e.1 < n
  b : e.2.1 < n
  ne : e.1 ≠ e.2.1
  pay : φ e.2.1 ≤ φ e.1 + e.2.2
noncomputable def up (d : Nat → Int) (b : Nat) (x : Int) : Nat → Int := fun v => if v = b then x else d v
variable {n : Nat} {φ : Nat → Int}
end Sp
namespace VM
open PySem L2
noncomputable abbrev Pq := Int × Int × Int × Int
noncomputable def pD (q : Pq) : PyData := .tuple [.int q.1, .int q.2.1, .int q.2.2.1, .int q.2.2.2]
noncomputable def psD (ps : List Pq) : PyData := .list (ps.map pD)
noncomputable def pOf : PyData → Option Pq
  | .tuple [.int a, .int b, .int w, .int l] => some (a, b, w, l)
  | _ => none
noncomputable def psOf : List PyData → Option (List Pq)
  | [] => some []
  | d :: r => match pOf d with
    | some q => (match psOf r with
      | some qs => some (q :: qs)
      | none => none)
    | none => none
noncomputable def mvD (m e : Int) (x : Int) : PyData := .tuple [.int m, .int e, .int x]
noncomputable def mvsF : Nat → List Pq → Int → List PyData
  | _, [], _ => []
  | k, q :: r, u => (if q.1 = u then [mvD (2 * k) q.2.1 q.2.2.2] else []) ++ ((if q.2.1 = u then [mvD (2 * k + 1) q.1 (-q.2.2.2)] else []) ++ mvsF (k + 1) r u)
noncomputable def movesD (ps : List Pq) (n : Nat) : PyData := .list ((List.range n).map fun (u : Nat) => .list (mvsF 0 ps (u : Int)))
noncomputable def m_moves_of : FnM := fun ds => match ds with
  | [.int m, .list pds] => (match psOf pds with
    | some ps => if 0 ≤ m ∧ m ≤ 1000 ∧ ps.length ≤ 1000 ∧ (∀ q ∈ ps, (0 ≤ q.1 ∧ q.1 < m) ∧ 0 ≤ q.2.1 ∧ q.2.1 < m) then some (false, movesD ps m.toNat) else none
    | none => none)
  | _ => none
structure MI (K : PySem.W.Frag) (G H₀ : Hp) (D : Addr) (bs : List Addr) (f : Nat → List PyData) (H : Hp) : Prop where
  ex : ∃ F, Same H₀ H ∧ Same G F ∧ Same F H ∧ (∀ a o, F a = some o → G a = some o ∨ imo o = true) ∧ F D = none ∧ H₀ D = none ∧ H D = some (.lst (bs.map V.ref)) ∧ D ∉ bs ∧ bs.Nodup ∧
    (∀ b ∈ bs, F b = none ∧ H₀ b = none) ∧ ∀ (u : Nat) b, bs[u]? = some b → ∃ ys, H b = some (.lst ys) ∧ HasL K F (f u) ys
section
variable {K : PySem.W.Frag} {G H₀ H : Hp} {D : Addr} {bs : List Addr} {f f' : Nat → List PyData}
theorem MI.congr (I : MI K G H₀ D bs f H) (h : ∀ u, u < bs.length → f u = f' u) : MI K G H₀ D bs f' H := by
  obtain ⟨F, h1, h2, h3, h4, h5, h6, h7, h8, h9, h10, h11⟩ := I.ex
  refine ⟨F, h1, h2, h3, h4, h5, h6, h7, h8, h9, h10, fun u b e => ?_⟩
  have hu : u < bs.length := by
    by_cases z : u < bs.length
    · exact z
    · rw [List.getElem?_eq_none (by omega)] at e; cases e
  obtain ⟨ys, q1, q2⟩ := h11 u b e
  exact ⟨ys, q1, by rw [← h u hu]; exact q2⟩
theorem MI.put (I : MI K G H₀ D bs f H) {u : Nat} {b p : Addr} {m e x : Int} (hb : bs[u]? = some b) (hp : H p = none) (hf : ∀ w, f' w = if w = u then f w ++ [mvD m e x] else f w) :
    ∃ ys, H b = some (.lst ys) ∧ (upd H p (.tup [.int m, .int e, .int x])) b = some (.lst ys) ∧ ys.length = (f u).length ∧ MI K G H₀ D bs f' (upd (upd H p (.tup [.int m, .int e, .int x])) b (.lst (ys ++ [.ref p]))) := by
  obtain ⟨F, h1, h2, h3, h4, h5, h6, h7, h8, h9, h10, h11⟩ := I.ex
  obtain ⟨ys, q1, q2⟩ := h11 u b hb
  have hbm : b ∈ bs := List.mem_of_getElem? hb
  have hbp : b ≠ p := ne_of_none q1 hp
  have hDp : D ≠ p := ne_of_none h7 hp
  have hDb : D ≠ b := fun z => h8 (z ▸ hbm)
  have hFp : F p = none := h3.free hp
  refine ⟨ys, q1, by rw [upd_ne hbp]; exact q1, q2.length.symm, upd F p (.tup [.int m, .int e, .int x]), ?_, h2.trans (same_upd_new hFp), ?_, ?_, ?_, h6, ?_, h8, h9, ?_, ?_⟩
  · intro a o e
    have ha : a ≠ b := ne_of_none e (h10 b hbm).2
    rw [upd_ne ha]
    exact same_upd_new hp a o (h1 a o e)
  · intro a o e
    by_cases ha : a = p
    · subst ha; rw [upd_same] at e; rw [upd_ne (Ne.symm hbp), upd_same]; exact e
    · rw [upd_ne ha] at e
      have hab : a ≠ b := ne_of_none e (h10 b hbm).1
      rw [upd_ne hab, upd_ne ha]; exact h3 a o e
  · intro a o e
    by_cases ha : a = p
    · subst ha; rw [upd_same] at e; cases e; exact .inr rfl
    · rw [upd_ne ha] at e; exact h4 a o e
  · rw [upd_ne hDp]; exact h5
  · rw [upd_ne hDb, upd_ne hDp]; exact h7
  · intro b' hb'
    have : b' ≠ p := fun z => by
      subst z
      obtain ⟨u', e'⟩ := List.mem_iff_getElem?.mp hb'
      obtain ⟨zs, z1, _⟩ := h11 u' _ e'
      rw [hp] at z1; cases z1
    rw [upd_ne this]; exact h10 b' hb'
  · intro w b' hw
    obtain ⟨zs, z1, z2⟩ := h11 w b' hw
    have hb'p : b' ≠ p := ne_of_none z1 hp
    by_cases hwu : w = u
    · subst hwu
      rw [hb] at hw
      cases hw
      rw [q1] at z1
      cases z1
      refine ⟨ys ++ [.ref p], upd_same, ?_⟩
      rw [hf, if_pos rfl]
      have hv : Has K (upd F p (.tup [.int m, .int e, .int x])) (mvD m e x) (.ref p) := ⟨p, _, rfl, SqT.of upd_same, _, _, rfl, rfl, _, _, rfl, rfl, _, _, rfl, rfl, rfl⟩
      exact HasL.snoc hv (HasL.same (same_upd_new hFp) z2)
    · have hne : b' ≠ b := fun z => by
        subst z
        exact hwu ((List.getElem?_inj (by
          by_cases zz : w < bs.length
          · exact zz
          · rw [List.getElem?_eq_none (by omega)] at hw; cases hw) h9).mp (by rw [hw, hb]))
      refine ⟨zs, by rw [upd_ne hne, upd_ne hb'p]; exact z1, ?_⟩
      rw [hf, if_neg hwu]
      exact HasL.same (same_upd_new hFp) z2
theorem MI.fin (I : MI K G H₀ D bs f H) : ∃ F, Grow G H₀ F H ∧ Has K F (.list ((List.range bs.length).map fun u => .list (f u))) (.ref D) := by
  obtain ⟨F, h1, h2, h3, h4, h5, h6, h7, h8, h9, h10, h11⟩ := I.ex
  let F' : Hp := fun a => if a = D ∨ a ∈ bs then H a else F a
  have eF : ∀ a, F' a = if a = D ∨ a ∈ bs then H a else F a := fun _ => rfl
  have FF : Same F F' := fun a o e => by
    have : ¬ (a = D ∨ a ∈ bs) := fun z => by
      rcases z with z | z
      · rw [z, h5] at e; cases e
      · rw [(h10 a z).1] at e; cases e
    rw [eF, if_neg this]; exact e
  refine ⟨F', ⟨h1, h2.trans FF, fun a o e => ?_, fun a o e => ?_, fun a x u e => ?_⟩, ?_⟩
  · rw [eF] at e
    split at e
    · exact e
    · exact h3 a o e
  · rw [eF] at e
    split at e
    · rename_i z
      rcases z with z | z
      · rw [z]; exact .inr (.inl h6)
      · exact .inr (.inl (h10 a z).2)
    · rcases h4 a o e with z | z
      · exact .inl z
      · exact .inr (.inr z)
  · rw [eF] at e
    split at e
    · rename_i z
      rcases z with z | z
      · rw [z, h7] at e; cases e
      · obtain ⟨i, hi⟩ := List.mem_iff_getElem?.mp z
        obtain ⟨ys, q1, _⟩ := h11 i a hi
        rw [q1] at e; cases e
    · rcases h4 a _ e with z | z
      · exact z
      · cases z
  · refine ⟨D, bs.map V.ref, rfl, SqL.of (by rw [eF, if_pos (.inl rfl)]; exact h7), ?_⟩
    have key : ∀ (cs : List Addr) (k : Nat), (∀ (i : Nat) b, cs[i]? = some b → bs[k + i]? = some b) → HasL K F' ((List.range' k cs.length).map fun u => PyData.list (f u)) (cs.map V.ref) := fun cs => by
      induction cs with
      | nil => intro k _; rfl
      | cons b r ih =>
        intro k hk
        have hb := hk 0 b rfl
        obtain ⟨ys, q1, q2⟩ := h11 k b hb
        rw [List.length_cons, List.range'_succ]
        refine ⟨_, _, rfl, ⟨b, ys, rfl, SqL.of (by rw [eF, if_pos (.inr (List.mem_of_getElem? hb))]; exact q1), HasL.same FF q2⟩, ih (k + 1) fun i c hc => ?_⟩
        have := hk (i + 1) c (by simpa using hc)
        rw [← this]
        congr 1
        omega
    have := key bs 0 fun i b hb => by rw [Nat.zero_add]; exact hb
    rw [List.range_eq_range']
    exact this
end
end VM
namespace VM
open PySem PySem.Spec PyProof.Rows L2
noncomputable def forget (js : List Nat) (S : GS) : GS := js.foldl (fun S j => S.set j none) S
section
variable {K : PySem.W.Frag} {ioA : Nat → Option Addr} {G H₀ F H : Hp} {S : GS} {σ σ' : St}
theorem forget_get : ∀ {js : List Nat} {S : GS} {k : Nat} {x : Tg × PyData}, (forget js S)[k]? = some (some x) → k ∉ js ∧ S[k]? = some (some x)
  | [], _, _, _, h => ⟨by simp, h⟩
  | j :: js, S, k, x, h => by
    obtain ⟨h1, h2⟩ := forget_get (js := js) (S := S.set j none) h
    obtain ⟨h3, h4⟩ := set_none_get h2
    exact ⟨fun z => by rcases List.mem_cons.mp z with z | z; exact h3 z; exact h1 z, h4⟩
theorem forget_len : ∀ (js : List Nat) (S : GS), (forget js S).length = S.length
  | [], _ => rfl
  | j :: js, S => by
    show (forget js (S.set j none)).length = _
    rw [forget_len js, List.length_set]
theorem VI.forget (I : VI K ioA G H₀ S F σ H) {js : List Nat} (hl : σ'.length = σ.length) (h : ∀ k, k ∉ js → σ'[k]? = σ[k]?) : VI K ioA G H₀ (forget js S) F σ' H where
  pl := I.pl
  len := by rw [forget_len, hl]; exact I.len
  same := I.same
  gf := I.gf
  new := I.new
  sub := I.sub
  slot := fun k t d e => by
    obtain ⟨h1, h2⟩ := forget_get e
    rw [h k h1]
    exact I.slot k t d h2
  inj := fun j k t t' d d' v e1 e2 n1 n2 v1 v2 => by
    obtain ⟨a1, a2⟩ := forget_get e1
    obtain ⟨b1, b2⟩ := forget_get e2
    rw [h j a1] at v1
    rw [h k b1] at v2
    exact I.inj j k t t' d d' v a2 b2 n1 n2 v1 v2
end
theorem vR_at {i : Nat} {σ : St} {H : Hp} {Q : VK} {v : V} (e : σ[i]? = some (some v)) (q : Q v H) : vR i σ H Q := by unfold vR; rw [e]; exact q
section
variable {X : Cx} {s1 s2 s3 : Stmt} {rest : List Stmt} {g : VS} {ip is_ iw ia ib iwd il idue : Nat}
end
end VM
namespace VM
open PySem PySem.Spec PyProof.Rows L2
mutual
noncomputable def subl : PyData → List (List PyData)
  | .list ds => ds :: sublL ds
  | .tuple ds => sublL ds
  | _ => []
noncomputable def sublL : List PyData → List (List PyData)
  | [] => []
  | d :: r => subl d ++ sublL r
end
noncomputable def isL (o : HO) (xs : List V) : Prop := o = .lst xs ∨ ∃ x, o = .frz x (.lst xs)
noncomputable def holds (K : PySem.W.Frag) (F : Hp) (E : List (List PyData)) (o : HO) : Prop := imo o = true ∨ ∃ es ∈ E, ∃ xs, isL o xs ∧ HasL K F es xs
open Classical in
noncomputable def few (K : PySem.W.Frag) (F : Hp) (E : List (List PyData)) : Hp := fun a => match F a with
  | some o => if holds K F E o then some o else none
  | none => none
section
variable {K : PySem.W.Frag} {F : Hp} {E : List (List PyData)}
theorem few_at {a : Addr} {o : HO} (h : few K F E a = some o) : F a = some o ∧ holds K F E o := by
  unfold few at h
  split at h
  · rename_i u e
    split at h
    · rename_i hh; cases h; exact ⟨e, hh⟩
    · cases h
  · cases h
theorem few_of {a : Addr} {o : HO} (h : F a = some o) (ho : holds K F E o) : few K F E a = some o := by
  unfold few
  rw [h]
  exact if_pos ho
theorem few_sub : Same (few K F E) F := fun _ _ h => (few_at h).1
theorem few_sqL {a : Addr} {xs : List V} {ds : List PyData} (hd : ds ∈ E) (hl : HasL K F ds xs) (h : SqL K F a xs) : SqL K (few K F E) a xs := by
  rcases h with (h | ⟨o, h⟩) | h
  · exact .inl (.inl (few_of h (.inr ⟨ds, hd, xs, .inl rfl, hl⟩)))
  · exact .inl (.inr ⟨o, few_of h (.inr ⟨ds, hd, xs, .inr ⟨o, rfl⟩, hl⟩)⟩)
  · exact .inr h
theorem few_sqT {a : Addr} {xs : List V} (h : SqT K F a xs) : SqT K (few K F E) a xs := by
  rcases h with (h | ⟨o, h⟩) | h
  · exact .inl (.inl (few_of h (.inl rfl)))
  · exact .inl (.inr ⟨o, few_of h (.inl rfl)⟩)
  · exact .inr h
mutual
theorem Has.few : ∀ {d : PyData} {v : V}, (∀ es ∈ subl d, es ∈ E) → Has K F d v → Has K (few K F E) d v
  | .none, _, _, h => h
  | .bool _, _, _, h => h
  | .int _, _, _, h => h
  | .str _, _, _, h => h
  | .list ds, _, f, ⟨a, xs, e, hq, hl⟩ => ⟨a, xs, e, few_sqL (f ds (by simp [subl])) hl hq, HasL.few (fun es hes => f es (by simp [subl, hes])) hl⟩
  | .tuple ds, _, f, ⟨a, xs, e, hq, hl⟩ => ⟨a, xs, e, few_sqT hq, HasL.few (fun es hes => f es (by simpa [subl] using hes)) hl⟩
  | .dict _, _, _, h => h
theorem HasL.few : ∀ {ds : List PyData} {vs : List V}, (∀ es ∈ sublL ds, es ∈ E) → HasL K F ds vs → HasL K (few K F E) ds vs
  | [], _, _, h => h
  | d :: ds, _, f, ⟨v, r, h1, h2, h3⟩ => ⟨v, r, h1, Has.few (fun es hes => f es (by simp [sublL, hes])) h2, HasL.few (fun es hes => f es (by simp [sublL, hes])) h3⟩
end
theorem ints_vals : ∀ {z : List Int} {xs : List V}, HasL K F (z.map .int) xs → xs = z.map V.int
  | [], _, h => h
  | i :: z, _, ⟨v, r, h1, h2, h3⟩ => by
    have e : v = .int i := h2
    rw [h1, e, ints_vals h3]; rfl
theorem int_data : ∀ {d : PyData} {i : Int}, Has K F d (.int i) → d = .int i
  | .none, _, h => by cases h
  | .bool _, _, h => by cases h
  | .int j, i, h => by have : V.int i = V.int j := h; cases this; rfl
  | .str _, _, h => by cases h.1
  | .list _, _, ⟨_, _, e, _⟩ => by cases e
  | .tuple _, _, ⟨_, _, e, _⟩ => by cases e
  | .dict _, _, h => h.elim
theorem ints_data : ∀ {z : List Int} {es : List PyData}, HasL K F es (z.map V.int) → es = z.map .int
  | [], [], _ => rfl
  | [], d :: es, ⟨v, r, h1, _, _⟩ => by cases h1
  | i :: z, [], h => by have h' : (i :: z).map V.int = [] := h; cases h'
  | i :: z, d :: es, ⟨v, r, h1, h2, h3⟩ => by
    simp only [List.map_cons, List.cons.injEq] at h1
    obtain ⟨rfl, rfl⟩ := h1
    rw [int_data h2, ints_data h3]; rfl
end
noncomputable def mask : List Bool → GS → GS
  | b :: bs, s :: S => (if b = true then s else none) :: mask bs S
  | [], s :: S => none :: mask [] S
  | _, [] => []
theorem mask_len : ∀ (mk : List Bool) (S : GS), (mask mk S).length = S.length
  | b :: bs, s :: S => by rw [mask, List.length_cons, List.length_cons, mask_len bs S]
  | [], s :: S => by rw [mask, List.length_cons, List.length_cons, mask_len [] S]
  | [], [] => rfl
  | _ :: _, [] => rfl
theorem mask_get : ∀ {mk : List Bool} {S : GS} {k : Nat} {x : Tg × PyData}, (mask mk S)[k]? = some (some x) → S[k]? = some (some x) ∧ mk[k]? = some true
  | b :: bs, s :: S, 0, x, h => by
    rw [mask, List.getElem?_cons_zero] at h
    split at h
    · rename_i hb; rw [List.getElem?_cons_zero, List.getElem?_cons_zero, hb]; exact ⟨h, rfl⟩
    · cases h
  | b :: bs, s :: S, k + 1, x, h => by
    rw [mask, List.getElem?_cons_succ] at h
    rw [List.getElem?_cons_succ, List.getElem?_cons_succ]
    exact mask_get h
  | [], s :: S, 0, x, h => by rw [mask, List.getElem?_cons_zero] at h; cases h
  | [], s :: S, k + 1, x, h => by
    rw [mask, List.getElem?_cons_succ] at h
    have := (mask_get h).2
    cases this
  | [], [], _, x, h => by cases h
  | _ :: _, [], _, x, h => by cases h
noncomputable def allFr (S : GS) : Bool := S.all fun s => match s with
  | some (.fr, _) => true
  | none => true
  | _ => false
theorem allFr_get {S : GS} (h : allFr S = true) {k : Nat} {t : Tg} {d : PyData} (e : S[k]? = some (some (t, d))) : t = .fr := by
  have := List.all_eq_true.mp h _ (List.mem_of_getElem? e)
  cases t <;> simp at this ⊢
noncomputable def sublS : GS → List (List PyData)
  | [] => []
  | some (_, d) :: S => subl d ++ sublS S
  | none :: S => sublS S
theorem sublS_get : ∀ {S : GS} {k : Nat} {t : Tg} {d : PyData}, S[k]? = some (some (t, d)) → ∀ es ∈ subl d, es ∈ sublS S
  | some (t', d') :: S, 0, t, d, e, es, h => by cases e; rw [sublS]; exact List.mem_append.mpr (.inl h)
  | none :: S, 0, t, d, e, es, h => by cases e
  | some (t', d') :: S, k + 1, t, d, e, es, h => by rw [sublS]; exact List.mem_append.mpr (.inr (sublS_get (by simpa using e) es h))
  | none :: S, k + 1, t, d, e, es, h => by rw [sublS]; exact sublS_get (by simpa using e) es h
  | [], _, _, _, e, _, _ => by cases e
section
variable {K : PySem.W.Frag} {ioA : Nat → Option Addr} {G H₀ F H : Hp} {S : GS} {σ : St}
theorem VI.few (I : VI K ioA G H₀ S F σ H) {mk : List Bool} (hf : allFr (mask mk S) = true) : VI K (fun _ => none) (few K F (sublS (mask mk S))) H (mask mk S) (few K F (sublS (mask mk S))) σ H where
  len := by rw [mask_len]; exact I.len
  same := Same.refl _
  gf := Same.refl _
  new := fun _ _ e => .inl e
  sub := few_sub.trans I.sub
  slot := fun k t d e => by
    have ht := allFr_get hf e
    subst ht
    obtain ⟨v, hv, hs⟩ := I.slot k .fr d (mask_get e).1
    exact ⟨v, hv, Has.few (fun es hes => sublS_get e es hes) hs⟩
  inj := fun i j t t' d d' v e1 _ n1 => absurd (allFr_get hf e1) n1
  pl := fun _ _ _ e => e
end
noncomputable def noLists (K : PySem.W.Frag) : Prop := ∀ a o, K.lookup a = some o → o.cls ≠ .type "list"
theorem told_new {K : PySem.W.Frag} {F H F2 H2 : Hp} {S2 : GS} {σ2 : St} {E : List (List PyData)} (nl : noLists K) (J : VI K (fun _ => none) (few K F E) H S2 F2 σ2 H2) {a : Addr} {xs : List V} {z : List Int} (hz : z.map PyData.int ∉ E) (hq : SqL K F2 a xs) (hx : HasL K F2 (z.map .int) xs) :
    F2 a = some (.lst xs) ∧ H a = none := by
  have no : ∀ o, isL o xs → few K F E a = some o → False := fun o ho e => by
    obtain ⟨_, hh⟩ := few_at e
    rcases hh with hh | ⟨es, hes, ys, hy, hl⟩
    · rcases ho with rfl | ⟨x, rfl⟩ <;> cases hh
    · have exy : xs = ys := by
        rcases ho with rfl | ⟨x, rfl⟩ <;> rcases hy with hy | ⟨y, hy⟩ <;> cases hy <;> rfl
      rw [← exy, ints_vals hx] at hl
      exact hz (by rw [← ints_data hl]; exact hes)
  rcases hq with (h | ⟨o, h⟩) | ⟨o, its, n, h1, h2, _⟩
  · refine ⟨h, ?_⟩
    rcases J.new a _ h with w | w | w
    · exact (no _ (.inl rfl) w).elim
    · exact w
    · cases w
  · exact (no _ (.inr ⟨o, rfl⟩) (J.pl a o xs h)).elim
  · exact absurd h2 (nl a o h1)
open Classical in
noncomputable def gTrash (mk : List Bool) (gA : VS) (kill : GS → Option (List (List Int))) (keep : List Bool) (g : VS) : VS := fun S =>
  if allFr (mask mk S) = true then match gA (mask mk S) with
    | .nxt S2 => match kill S2 with
      | some zs => if allFr (mask keep S2) = true ∧ ∀ z ∈ zs, z.map PyData.int ∉ sublS (mask mk S) ∧ z.map PyData.int ∉ sublS (mask keep S2) then g (mask keep S2) else .fail
      | none => .fail
    | _ => .fail
  else .fail
section
variable {X : Cx} {s : Stmt} {rest all : List Stmt} {g1 g2 gA g : VS} {T tT : TS} {mk keep : List Bool} {kill : GS → Option (List (List Int))}
theorem sMid (h1 : PS X s (tVS X.K g1)) (h2 : PSs X rest (tSeq (tVS X.K g2) T)) : PSs X (s :: rest) (tSeq (tVS X.K (gSeq g1 g2)) T) := PSs.imp (pss_cons h1 h2) fun D σ H q => by
  obtain ⟨ioA, G, H₀, S, F, I, q⟩ := q
  refine ⟨ioA, G, H₀, S, F, I, ?_⟩
  unfold gSeq at q
  cases e : g1 S with
  | fail => rw [e] at q; exact q
  | nxt S1 =>
    rw [e] at q
    exact fun F' σ' H' I' => ⟨ioA, G, H₀, S1, F', I', q⟩
  | ret S1 b d => rw [e] at q; exact q
  | brk S1 => rw [e] at q; exact q
  | cnt S1 => rw [e] at q; exact q
theorem sMid1 (h1 : PS X s (tVS X.K g1)) (h2 : PSs X rest T) : PSs X (s :: rest) (tSeq (tVS X.K g1) T) := pss_cons h1 h2
noncomputable def Kills (K : PySem.W.Frag) (kill : GS → Option (List (List Int))) (keep : List Bool) (tT : TS) : Prop :=
  ∀ (Fs Hc F2 : Hp) (S2 : GS) (σ2 : St) (H2 : Hp) (zs : List (List Int)) (D : Ends), VI K (fun _ => none) Fs Hc S2 F2 σ2 H2 → kill S2 = some zs →
    (∀ a xs z, z ∈ zs → SqL K F2 a xs → HasL K F2 (z.map .int) xs → F2 a = some (.lst xs) ∧ Hc a = none) →
    (∀ (σ3 : St) (H3 : Hp), σ3.length = σ2.length → (∀ k : Nat, keep[k]? = some true → σ3[k]? = σ2[k]?) → (∀ a, H3 a = H2 a ∨ (Hc a = none ∧ ∀ o, F2 a = some o → ∃ z ∈ zs, ∃ xs, o = .lst xs ∧ HasL K F2 (z.map .int) xs)) → D.nx σ3 H3) → tT D σ2 H2
theorem sTrash (nl : noLists X.K) (h : PSs X all (tSeq (tVS X.K gA) (tSeq tT (tVS X.K g)))) (hk : Kills X.K kill keep tT) : PSs X all (tVS X.K (gTrash mk gA kill keep g)) := PSs.imp h fun D σ H q => by
  obtain ⟨ioA, G, H₀, S, F, I, q⟩ := q
  unfold gTrash at q
  split at q
  · rename_i hf
    split at q
    · rename_i S2 eA
      split at q
      · rename_i zs ek
        split at q
        · rename_i hc
          obtain ⟨hf2, hz⟩ := hc
          refine ⟨fun _ => none, few X.K F (sublS (mask mk S)), H, mask mk S, few X.K F (sublS (mask mk S)), I.few hf, ?_⟩
          rw [eA]
          intro F2 σ2 H2 J
          refine hk _ _ F2 S2 σ2 H2 zs _ J ek (fun a xs z hzm hq hx => told_new nl J (hz z hzm).1 hq hx) fun σ3 H3 hl hkeep hch => ?_
          have inH2 : ∀ a o, H a = some o → H2 a = some o := J.same
          have noZ : ∀ a o, H a = some o → H3 a = H2 a := fun a o e => by
            rcases hch a with w | w
            · exact w
            · rw [w.1] at e; cases e
          let F3 : Hp := fun a => match F a with
            | some o => some o
            | none => few X.K F2 (sublS (mask keep S2)) a
          have e3 : ∀ a, F3 a = match F a with | some o => some o | none => few X.K F2 (sublS (mask keep S2)) a := fun _ => rfl
          have F3F : Same F F3 := fun a o e => by rw [e3, e]
          have few3 : Same (few X.K F2 (sublS (mask keep S2))) F3 := fun a o e => by
            rw [e3]
            cases eF : F a with
            | none => exact e
            | some u =>
              have h1 := inH2 a u (I.sub a u eF)
              have h2 := J.sub a o (few_at e).1
              rw [h1] at h2
              exact h2
          have sub3 : Same F3 H3 := fun a o e => by
            rw [e3] at e
            cases eF : F a with
            | some u =>
              rw [eF] at e
              cases e
              rw [noZ a _ (I.sub a _ eF)]
              exact inH2 a _ (I.sub a _ eF)
            | none =>
              rw [eF] at e
              obtain ⟨e2, hh⟩ := few_at e
              rcases hch a with w | w
              · rw [w]; exact J.sub a o e2
              · obtain ⟨z, hzm, xs, rfl, hx⟩ := w.2 o e2
                rcases hh with hh | ⟨es, hes, ys, hy, hl'⟩
                · cases hh
                · have exy : xs = ys := by
                    rcases hy with hy | ⟨y, hy⟩ <;> cases hy <;> rfl
                  rw [← exy, ints_vals hx] at hl'
                  exact absurd (by rw [← ints_data hl']; exact hes) (hz z hzm).2
          refine ⟨ioA, G, H₀, mask keep S2, F3, ⟨?_, ?_, I.gf.trans F3F, fun a o e => ?_, sub3, fun k t d e => ?_, fun i j t t' d d' v e1 _ n1 => absurd (allFr_get hf2 e1) n1, fun a x u e => ?_⟩, q⟩
          · rw [mask_len, hl]; exact J.len
          · intro a o e
            have := I.same a o e
            rw [noZ a o this]
            exact inH2 a o this
          · rw [e3] at e
            cases eF : F a with
            | some u => rw [eF] at e; cases e; exact I.new a _ eF
            | none =>
              rw [eF] at e
              rcases J.new a o (few_at e).1 with w | w | w
              · rw [(few_at w).1] at eF; cases eF
              · exact .inr (.inl (I.same.free w))
              · exact .inr (.inr w)
          · have ht := allFr_get hf2 e
            subst ht
            obtain ⟨v, hv, hs⟩ := J.slot k .fr d (mask_get e).1
            exact ⟨v, by rw [hkeep k (mask_get e).2]; exact hv, Has.same few3 (Has.few (fun es hes => sublS_get e es hes) hs)⟩
          · rw [e3] at e
            cases eF : F a with
            | some w => rw [eF] at e; cases e; exact I.pl a _ _ eF
            | none =>
              rw [eF] at e
              have := J.pl a x u (few_at e).1
              rw [(few_at this).1] at eF
              cases eF
        · exact q.elim
      · exact q.elim
    · exact q.elim
  · exact q.elim
end
end VM
namespace VM
open PySem PySem.Spec PyProof.Rows L2
noncomputable def zOf : PyData → Option (List Int)
  | .tuple [.list w, _] => intsOf w
  | _ => none
noncomputable def zsOf : List PyData → Option (List (List Int))
  | [] => some []
  | d :: r => match zOf d, zsOf r with
    | some z, some zs => some (z :: zs)
    | _, _ => none
theorem zsOf_get : ∀ {ds : List PyData} {zs : List (List Int)}, zsOf ds = some zs → ∀ (i : Nat) d, ds[i]? = some d → ∃ w e z, d = .tuple [.list w, e] ∧ intsOf w = some z ∧ z ∈ zs
  | [], _, _, i, d, h => by simp at h
  | x :: r, zs, hz, i, d, h => by
    unfold zsOf at hz
    split at hz
    · rename_i z zs' e1 e2
      cases hz
      cases i with
      | zero =>
        cases h
        unfold zOf at e1
        split at e1
        · rename_i w e
          exact ⟨w, e, z, rfl, e1, List.mem_cons_self⟩
        · cases e1
      | succ i =>
        obtain ⟨w, e, z', h1, h2, h3⟩ := zsOf_get e2 i d (by simpa using h)
        exact ⟨w, e, z', h1, h2, List.mem_cons_of_mem _ h3⟩
    · cases hz
section
variable {K : PySem.W.Frag}
end
noncomputable def listCls : Value → Bool
  | .type s => s == "list"
  | _ => false
noncomputable def noListsB (K : PySem.W.Frag) : Bool := K.all fun p => !listCls p.2.cls
theorem lookup_mem {a : Addr} {o : Obj} : ∀ {K : PySem.W.Frag}, K.lookup a = some o → ∃ b, (b, o) ∈ K
  | [], h => by cases h
  | (b, u) :: K, h => by
    rw [List.lookup_cons] at h
    split at h
    · cases h; exact ⟨b, List.mem_cons_self⟩
    · obtain ⟨c, hc⟩ := lookup_mem h; exact ⟨c, List.mem_cons_of_mem _ hc⟩
theorem noLists_of {K : PySem.W.Frag} (h : noListsB K = true) : noLists K := fun a o e z => by
  obtain ⟨b, hb⟩ := lookup_mem e
  have := List.all_eq_true.mp h _ hb
  simp only [z, listCls] at this
  exact absurd this (by decide)
theorem seq3 {X : Cx} {l : List Stmt} {t u v : TS} (h : PSs X l (tSeq t (tSeq u v))) : PSs X l (tSeq (tSeq t u) v) := h
end VM
namespace VM
open PySem PySem.Spec PyProof.Rows L2
section
variable {K : PySem.W.Frag}
noncomputable def kill21 (it : Nat) : GS → Option (List (List Int)) := fun S => match S[it]? with
  | some (some (.ow, .list ws)) => (match zsOf ws with
    | some zs => if ws.length < 1000000 then some zs else none
    | _ => none)
  | _ => none
noncomputable def tKill21 (K : PySem.W.Frag) (it ia ib : Nat) : TS := tSeq
  (tFor (iList K (vR it)) (gTupM K 2 (gConsM (gName ia) (gConsM (gName ib) gNilM))) (tDrop (tBM0 K "list" rClrM (vR ia))))
  (tDrop (tBM K "list" rAppM (vR it) (tCons (tTup (tCons (tLst tNil) (tCons (tC (.int 1)) tNil))) tNil)))
theorem kills21 {it ia ib : Nat} {keep : List Bool} (n1 : it ≠ ia) (n2 : it ≠ ib) (n3 : ia ≠ ib) (ka : keep[ia]? ≠ some true) (kb : keep[ib]? ≠ some true) : Kills K (fun S => if ia < S.length ∧ ib < S.length then kill21 it S else none) keep (tKill21 K it ia ib) := by
  intro Fs Hc F2 S2 σ2 H2 zs D J ek new fin
  simp only at ek
  split at ek
  · rename_i hb
    unfold kill21 at ek
    split at ek
    · rename_i ws eS
      split at ek
      · rename_i zs' e1
        split at ek
        · rename_i hz
          cases ek
          obtain ⟨v, hv, p, ds, ys, ed, rfl, hHp, hFp, hCp, hy⟩ := J.slot it .ow _ eS
          cases ed
          have lens : ia < σ2.length ∧ ib < σ2.length := by rw [← J.len]; exact hb
          let Z : Addr → Prop := fun a => ∃ z ∈ zs, ∃ xs, F2 a = some (.lst xs) ∧ HasL K F2 (z.map .int) xs ∧ Hc a = none
          have zP : ¬ Z p := fun ⟨z, hzm, xs, ha, _⟩ => by rw [hFp] at ha; cases ha
          have keepT : ∀ {H' : Hp} {t : Addr} {l : List V}, (∀ a, H' a = H2 a ∨ ∃ xs, F2 a = some (.lst xs)) → SqT K F2 t l → SqT K H' t l := fun {H' t l} hc h => by
            rcases h with (h | ⟨o, h⟩) | h
            · rcases hc t with w | ⟨xs, w⟩
              · exact .inl (.inl (by rw [w]; exact J.sub _ _ h))
              · rw [h] at w; cases w
            · rcases hc t with w | ⟨xs, w⟩
              · exact .inl (.inr ⟨o, by rw [w]; exact J.sub _ _ h⟩)
              · rw [h] at w; cases w
            · exact .inr h
          have hit : ∀ σ' : St, (∀ k, k ≠ ia → k ≠ ib → σ'[k]? = σ2[k]?) → σ'[it]? = some (some (.ref p)) := fun σ' h => by rw [h it n1 n2]; exact hv
          have hyl : ys.length < 1000000 := by rw [← hy.length]; exact hz
          unfold tKill21
          show tFor _ _ _ _ σ2 H2
          rw [tFor_eq]
          simp only [iList]
          refine vR_at (v := .ref p) hv ⟨p, rfl, ⟨ys, SqL.of hHp⟩, ?_⟩
          refine forL (xs := ys) (fun i σ' H' => σ'.length = σ2.length ∧ (∀ k, k ≠ ia → k ≠ ib → σ'[k]? = σ2[k]?) ∧ ∀ a, H' a = H2 a ∨ (Z a ∧ ∃ xs, H' a = some (.lst xs))) ?_ ?_ ?_ ?_
          · exact ⟨rfl, fun _ _ _ => rfl, fun _ => .inl rfl⟩
          · rintro i σ' H' _ ⟨_, _, hc⟩
            rcases hc p with c | c
            · exact SqL.of (by rw [c]; exact hHp)
            · exact absurd c.1 zP
          · rintro i x σ' H' hxi ⟨hsl, hsk, hc⟩
            obtain ⟨dd, hdd, hxv⟩ := hy.get hxi
            obtain ⟨w, e, z, rfl, hw, hzm⟩ := zsOf_get e1 i dd hdd
            obtain ⟨t, l, rfl, hTt, hl⟩ := hxv
            obtain ⟨y0, r0, rfl, hy0, hl⟩ := hl
            obtain ⟨y1, r1, rfl, hy1, hl⟩ := hl
            have hl' : r1 = [] := hl
            subst hl'
            obtain ⟨a, xs, rfl, hqa, hxs⟩ := hy0
            have ew := intsOf_some hw
            have hna := new a xs z hzm hqa (by rw [← ew]; exact hxs)
            have hZa : Z a := ⟨z, hzm, xs, hna.1, by rw [← ew]; exact hxs, hna.2⟩
            have hHa : ∃ xs', H' a = some (.lst xs') := by
              rcases hc a with c | c
              · exact ⟨xs, by rw [c]; exact J.sub _ _ hna.1⟩
              · exact c.2
            obtain ⟨xs', hH'⟩ := hHa
            refine ⟨_, keepT (fun b => by
              rcases hc b with c | ⟨⟨_, _, q, c, _⟩, _⟩
              · exact .inl c
              · exact .inr ⟨q, c⟩) hTt, rfl, ?_⟩
            simp only [gConsM, gNilM, gName, tDrop, tBM0]
            have gA : ((σ'.set ia (some (V.ref a))).set ib (some y1))[ia]? = some (some (.ref a)) := by
              rw [List.getElem?_set_ne (Ne.symm n3), List.getElem?_set_self (by omega)]
            refine vR_at (v := .ref a) gA ⟨.inl ⟨rfl, xs', SqL.of hH'⟩, xs', hH', ?_⟩
            refine ⟨by simp only [List.length_set]; exact hsl, fun k k1 k2 => ?_, fun b => ?_⟩
            · rw [List.getElem?_set_ne (Ne.symm k2), List.getElem?_set_ne (Ne.symm k1)]; exact hsk k k1 k2
            · by_cases hb' : b = a
              · subst hb'
                exact .inr ⟨hZa, _, upd_same⟩
              · rw [upd_ne hb']
                exact hc b
          · rintro σ3 H3 ⟨hsl, hsk, hc⟩
            have hH3 : H3 p = some (.lst ys) := by
              rcases hc p with c | c
              · rw [c]; exact hHp
              · exact absurd c.1 zP
            have hnew : ∀ b, H3 b = none → H2 b = none := fun b h => by
              rcases hc b with c | ⟨_, q, c⟩
              · rw [← c]; exact h
              · rw [h] at c; cases c
            have hfr : ∀ b, H2 b = none → Hc b = none ∧ ∀ o, F2 b = some o → ∃ z ∈ zs, ∃ xs, o = .lst xs ∧ HasL K F2 (z.map .int) xs := fun b h => by
              constructor
              · cases q : Hc b with
                | none => rfl
                | some o => have := J.same _ _ q; rw [h] at this; cases this
              · intro o ho
                have := J.sub _ _ ho
                rw [h] at this; cases this
            simp only [tDrop, tBM, tCons, tNil, tTup, tLst, tC]
            refine vR_at (v := .ref p) (hit σ3 hsk) ⟨.inl ⟨rfl, ys, SqL.of hH3⟩, ?_⟩
            refine ⟨Nat.zero_le _, fun p1 h1 => ⟨Nat.le_of_lt (size_big (by simp)), fun p2 h2 => ?_⟩⟩
            have n21 : p2 ≠ p1 := fun z => by rw [z, upd_same] at h2; cases h2
            rw [upd_ne n21] at h2
            have np1 : p ≠ p1 := fun z => by rw [← z, hH3] at h1; cases h1
            have np2 : p ≠ p2 := fun z => by rw [← z, hH3] at h2; cases h2
            refine ⟨ys, by rw [upd_ne np2, upd_ne np1]; exact hH3, size_big (by omega), ?_⟩
            refine fin σ3 _ hsl (fun k hk => hsk k (fun z => ka (z ▸ hk)) (fun z => kb (z ▸ hk))) fun b => ?_
            by_cases b0 : b = p
            · subst b0
              exact .inr ⟨hCp, fun o ho => by rw [hFp] at ho; cases ho⟩
            · rw [upd_ne b0]
              by_cases b2 : b = p2
              · subst b2; exact .inr (hfr _ (hnew _ h2))
              · rw [upd_ne b2]
                by_cases b1 : b = p1
                · subst b1; exact .inr (hfr _ (hnew _ h1))
                · rw [upd_ne b1]
                  rcases hc b with c | ⟨⟨z, hzm, q', c1, c2, c3⟩, _⟩
                  · exact .inl c
                  · exact .inr ⟨c3, fun o ho => ⟨z, hzm, q', by rw [c1] at ho; cases ho; rfl, c2⟩⟩
        · cases ek
      · cases ek
    · cases ek
  · cases ek
end
end VM
namespace Pg
open PySem L2 VM
noncomputable def g_left_behind : VS :=
 (gSeq (gOw 2 (vLst a0))
 (gSeq (gFor (vZip (aC (vF 0) (aC (vF 1) a0))) (gT 2 (gC (gN 3) (gC (gN 4) g0)))
 (gSeq (gApp 2 (aC (v2 subD (v2 ixDt (vN 3) (vC (.int 2))) (vN 4)) a0))
 (gApp 2 (aC (vF 4) a0))))
 (gRetO 2)))
noncomputable def m_left_behind : FnM := fnM 2 5 g_left_behind
noncomputable def g_is_nearer : VS :=
 (gSeq (gIf (tOr2 (vB (v2 isD (vN 2) (vC .none))) (vB (v2 ltD (vN 0) (v2 ixDt (vN 2) (vC (.int 0))))))
 (gRet (vC (.bool true)))
 gNop)
 (gRet (vAnd (v2 eqD (vN 0) (v2 ixDt (vN 2) (vC (.int 0)))) (v2 ltD (vN 1) (v2 ixDt (vN 2) (vC (.int 1)))))))
noncomputable def m_is_nearer : FnM := fnM 3 3 g_is_nearer
noncomputable def g_reach : VS :=
 (gSeq (gOw 3 (v2 repD (vLst (aC (vC .none) a0)) (vCB lenD (aC (vN 0) a0))))
 (gSeq (gPut 3 (vN 2) (vTup (aC (vC (.int 0)) (aC (vC (.int 0)) (aC (vC .none) (aC (vC .none) a0))))))
 (gSeq (gOw 4 (v2 repD (vLst (aC (vC (.bool false)) a0)) (vCB lenD (aC (vN 0) a0))))
 (gSeq (gOw 5 (vLst (aC (vF 2) a0)))
 (gSeq (gAs (vC (.int 0)) (gN 6))
 (gSeq (gWh (vB (v2 ltD (vN 6) (vCB lenD (aC (vN 5) a0))))
 (gSeq (gAs (v2 ixDt (vN 5) (vN 6)) (gN 7))
 (gSeq (gAug addD 6 (vC (.int 1)))
 (gSeq (gPut 4 (vN 7) (vC (.bool false)))
 (gSeq (gAs (v2 ixDt (v2 ixDt (vN 3) (vN 7)) (vC (.int 0))) (gN 8))
 (gSeq (gAs (v2 addD (v2 ixDt (v2 ixDt (vN 3) (vN 7)) (vC (.int 1))) (vC (.int 1))) (gN 9))
 (gFor (vItems (v2 ixDt (vN 0) (vN 7))) (gT 3 (gC (gN 10) (gC (gN 11) (gC (gN 12) g0))))
 (gIf (tAnd2 (vB (v2 gtD (v2 ixDt (vN 1) (vN 10)) (vC (.int 0)))) (vB (vCall m_is_nearer (aC (v2 addD (vN 8) (vN 12)) (aC (vF 9) (aC (v2 ixDt (vN 3) (vN 11)) a0))))))
 (gSeq (gPut 3 (vN 11) (vTup (aC (v2 addD (vN 8) (vN 12)) (aC (vF 9) (aC (vF 10) (aC (vF 7) a0))))))
 (gIf (tNot2 (vB (v2 ixDt (vN 4) (vN 11))))
 (gSeq (gPut 4 (vN 11) (vC (.bool true)))
 (gApp 5 (aC (vF 11) a0)))
 gNop))
 gNop))))))))
 (gRetO 3)))))))
noncomputable def m_reach : FnM := fnM 3 13 g_reach
noncomputable def g_push : VS :=
 (gSeq (gAs (vCB minD (aC (vLCW (vItems (vF 1)) [none, some 0] (gN 0) cTrue (v2 ixDt (vN 1) (vN 0))) a0)) (gN 2))
 (gSeq (gFor (vItems (vF 1)) (gN 3)
 (gSeq (gAugI subD 0 (vN 3) (vF 2))
 (gAugI addD 0 (v2 xorD (vN 3) (vC (.int 1))) (vF 2))))
 (gRetO 2)))
noncomputable def m_push : FnIO := fnIO 2 4 0 g_push
noncomputable def g_way_to : VS :=
 (gSeq (gOw 3 (vLst a0))
 (gSeq (gAs (vF 2) (gN 4))
 (gSeq (gWh (vB (v2 neD (vN 4) (vN 1)))
 (gSeq (gApp 3 (aC (v2 ixDt (v2 ixDt (vN 0) (vN 4)) (vC (.int 2))) a0))
 (gAs (v2 ixDt (v2 ixDt (vN 0) (vN 4)) (vC (.int 3))) (gN 4))))
 (gRetO 3))))
noncomputable def m_way_to : FnM := fnM 3 5 g_way_to
noncomputable def g_push_all : VS :=
 (gSeq (gOw 5 (vLst a0))
 (gWh (vB (vC (.bool true)))
 (gSeq (gAs (vCallW m_reach (aC (vN 0) (aC (vN 1) (aC (vN 2) a0)))) (gN 6))
 (gSeq (gIf (vB (v2 isD (v2 ixDt (vN 6) (vN 3)) (vC .none)))
 (gRetO 5)
 gNop)
 (gSeq (gAs (v2 ixDt (v2 ixDt (vN 6) (vN 3)) (vC (.int 0))) (gN 7))
 (gSeq (gIf (tAnd2 (vB (v2 isnD (vN 4) (vC .none))) (vB (v2 gtD (vN 7) (vN 4))))
 (gRetO 5)
 gNop)
 (gSeq (gIoAs m_push 1 (ioN (ioC (vCall m_way_to (aC (vF 6) (aC (vF 2) (aC (vF 3) a0)))) ioO)) 8)
 (gIf (tAnd2 (vTru (vN 5)) (vB (v2 eqD (v2 ixDt (v2 ixDt (vN 5) (v1 negD (vC (.int 1)))) (vC (.int 0))) (vN 7))))
 (gPut 5 (v1 negD (vC (.int 1))) (vTup (aC (vF 7) (aC (v2 addD (v2 ixDt (v2 ixDt (vN 5) (v1 negD (vC (.int 1)))) (vC (.int 1))) (vN 8)) a0))))
 (gApp 5 (aC (vTup (aC (vF 7) (aC (vF 8) a0))) a0))))))))))
noncomputable def m_push_all : FnIO := fnIO 5 9 1 g_push_all
noncomputable def g_steps_of : VS :=
 (gSeq (gOw 4 (vCallN m_left_behind (aC (vF 1) (aC (v2 repD (vLst (aC (vC (.int 0)) a0)) (vCB lenD (aC (vN 1) a0))) a0))))
 (gIoRet m_push_all 4 (ioC (vCall VM.m_moves_of (aC (vF 0) (aC (vF 1) a0))) (ioN (ioC (vF 2) (ioC (vF 3) (ioC (vC .none) ioO)))))))
noncomputable def m_steps_of : FnM := fnM 4 5 g_steps_of
noncomputable def g_best_flow : VS :=
 (gSeq (gOw 5 (vCallN m_left_behind (aC (vF 1) (aC (v2 repD (vLst (aC (vC (.int 0)) a0)) (vCB lenD (aC (vN 1) a0))) a0))))
 (gSeq (gIoEx m_push_all 5 (ioC (vCall VM.m_moves_of (aC (vF 0) (aC (vF 1) a0))) (ioN (ioC (vF 2) (ioC (vF 3) (ioC (vF 4) ioO))))))
 (gRetN (vLCW (vRng1 (aC (vCB lenD (aC (vN 1) a0)) a0)) [none, some 5] (gN 0) cTrue (v2 ixDt (vN 1) (v2 addD (v2 mulD (vC (.int 2)) (vN 0)) (vC (.int 1))))))))
noncomputable def m_best_flow : FnM := fnM 5 6 g_best_flow
noncomputable def g_length_of : VS :=
 (gRet (vCB sumD (aC (vLC (vItems (vF 1)) [none, some 0] (gN 0) cTrue (v2 ixDt (v2 ixDt (vN 1) (vN 0)) (vC (.int 3)))) a0)))
noncomputable def m_length_of : FnM := fnM 2 2 g_length_of
noncomputable def g_passage_on : VS :=
 (gSeq (gFor (vEnum (aC (vF 0) a0)) (gT 2 (gC (gN 3) (gC (gN 4) g0)))
 (gIf (tAnd2 (vB (v2 eqD (v2 ixDt (vN 4) (vC (.int 0))) (vN 1))) (vB (v2 gtD (v2 ixDt (vN 2) (vN 3)) (vC (.int 0)))))
 (gRetO 3)
 gNop))
 (gRet (vC .none)))
noncomputable def m_passage_on : FnM := fnM 3 5 g_passage_on
noncomputable def g_walk_along : VS :=
 (gSeq (gOw 4 (vLst a0))
 (gSeq (gAs (vF 1) (gN 5))
 (gSeq (gWh (vB (v2 neD (vN 5) (vN 2)))
 (gSeq (gAs (vCall m_passage_on (aC (vF 0) (aC (vF 5) (aC (vF 3) a0)))) (gN 6))
 (gSeq (gIf (vB (v2 isD (vN 6) (vC .none)))
 (gRetN (vLst a0))
 gNop)
 (gSeq (gApp 4 (aC (vF 6) a0))
 (gAs (v2 ixDt (v2 ixDt (vN 0) (vN 6)) (vC (.int 1))) (gN 5))))))
 (gRetO 4))))
noncomputable def m_walk_along : FnM := fnM 4 7 g_walk_along
noncomputable def g_walks_of : VS :=
 (gSeq (gOw 4 (vListOf (vN 3)))
 (gSeq (gOw 5 (vLst a0))
 (gWh (vB (vC (.bool true)))
 (gSeq (gAs (vCallW m_walk_along (aC (vN 0) (aC (vN 1) (aC (vN 2) (aC (vN 4) a0))))) (gN 6))
 (gSeq (gIf (tNot2 (vTru (vN 6)))
 (gRetO 5)
 gNop)
 (gSeq (gAs (vCB minD (aC (vLCW (vItems (vF 6)) [none, some 4] (gN 0) cTrue (v2 ixDt (vN 1) (vN 0))) a0)) (gN 7))
 (gSeq (gFor (vItems (vF 6)) (gN 8)
 (gAugI subD 4 (vN 8) (vF 7)))
 (gApp 5 (aC (vTup (aC (vF 6) (aC (vF 7) a0))) a0)))))))))
noncomputable def m_walks_of : FnM := fnM 4 9 g_walks_of
end Pg
namespace PM
open PySem L2 VM Sp
local macro_rules | `(tactic| walk_at "ev") => `(tactic| (try simp only [fnM_eq, ob_some, ob_none, bFn_r, bFn_n, ini, gSeq_eq, bSeq_n, bSeq_r, bSeq_b, bSeq_c, gIf_eq, bIf_t, bIf_f, tAnd_eq, bAnd_t, bAnd_f, tOr_eq, bOr_t, bOr_f, tNot2, vAnd_eq, bAndE_t, bAndE_f, vOr_eq, bOrE_t, bOrE_f, vIf_eq, bIfE_t, bIfE_f, v2_eq, b2_s, b1_s, v1_eq, aC_eq, bC_s, bC1_s, a0, gAs_eq, bAs_s, bNx_s, gC_eq, bG_s, g0, vCall_eq, bCall_s, vCallN_eq, bCallN_s, vCallW_eq, bCallW_s, bResW_s, vCallWN_eq, bCallWN_s, bResWN_s, bIm_t, vImm_eq, bImm_s, bRes_s, bResN_s, vCh_eq, bCh_t, bCh_f, atI_0, atI_1, atI_2, atI_3, gFor_eq, bFor_s, gRet, gRetN, gRetO, gEx, gN, gT, gOw_eq, gOwF_eq, bOw_s, vLC_eq, vLCW_eq, bL_s, gFz, frz, gApp, gPut, gAug, gAugI, gNop, gFail, gClr, gPop, ownL, noIo_eq, nio_ob, nio_n, nio_fr, nio_ow, vN, vF, vC, vB, vTru, truD, vNot, imm, immL, ixDt, oN, oI, vSlL, vSlT, vRev, negD, vTup, vLst, vCB, lenD, absD, min2D, max2D, int1D, vIsi, isi_list, isi_int, isi_bool_i, isi_tuple, vListOf, immR, vItems, vItemsT, vRng1, vRng2, vEnum, vZip, capFr, capG, capOne, cTrue, addD_i, subD_i, ltD_i, leD_i, gtD_i, geD_i, xorD_i, eqD_i, neD_i, Int.reduceToNat, Int.reducePow, isD_n, isnD_n, isNoneD, List.length_cons, List.length_nil, List.map_cons, List.map_nil, List.replicate, List.cons_append, List.nil_append, List.append_nil, List.getElem?_cons_zero, List.getElem?_cons_succ, List.set_cons_zero, List.set_cons_succ, Nat.reduceAdd, Nat.reduceSub, Nat.reduceLeDiff, Nat.reduceEqDiff, Bool.and_true, Bool.true_and, Bool.not_true, Bool.not_false, Bool.false_eq_true, ↓reduceIte, if_true, if_false]))
noncomputable def toPq (p : Pas) : Pq := ((p.a : Int), (p.b : Int), p.w, p.l)
noncomputable def hD (ps : List Pas) : PyData := psD (ps.map toPq)
noncomputable def natD (v : Nat) : PyData := .int v
noncomputable def lf (L : List Int) : Lf := fun i => L.getD i 0
noncomputable def bodyR : VS := (gIf (tAnd2 (vB (v2 gtD (v2 ixDt (vN 1) (vN 10)) (vC (.int 0)))) (vB (vCall Pg.m_is_nearer (aC (v2 addD (vN 8) (vN 12)) (aC (vF 9) (aC (v2 ixDt (vN 3) (vN 11)) a0))))))
 (gSeq (gPut 3 (vN 11) (vTup (aC (v2 addD (vN 8) (vN 12)) (aC (vF 9) (aC (vF 10) (aC (vF 7) a0))))))
 (gIf (tNot2 (vB (v2 ixDt (vN 4) (vN 11))))
 (gSeq (gPut 4 (vN 11) (vC (.bool true)))
 (gApp 5 (aC (vF 11) a0)))
 gNop))
 gNop)
variable {n : Nat} {ps : List Pas} {L : List Int} {st : Nat} {π : Nat → Int}
noncomputable def bodyW : VS := (gSeq (gAs (v2 ixDt (vN 5) (vN 6)) (gN 7))
 (gSeq (gAug addD 6 (vC (.int 1)))
 (gSeq (gPut 4 (vN 7) (vC (.bool false)))
 (gSeq (gAs (v2 ixDt (v2 ixDt (vN 3) (vN 7)) (vC (.int 0))) (gN 8))
 (gSeq (gAs (v2 addD (v2 ixDt (v2 ixDt (vN 3) (vN 7)) (vC (.int 1))) (vC (.int 1))) (gN 9))
 (gFor (vItems (v2 ixDt (vN 0) (vN 7))) (gT 3 (gC (gN 10) (gC (gN 11) (gC (gN 12) g0))))
 bodyR))))))
end PM
namespace PM
open PySem L2 VM Sp
local macro_rules | `(tactic| walk_at "ev") => `(tactic| (try simp only [fnM_eq, ob_some, ob_none, bFn_r, bFn_n, ini, gSeq_eq, bSeq_n, bSeq_r, bSeq_b, bSeq_c, gIf_eq, bIf_t, bIf_f, tAnd_eq, bAnd_t, bAnd_f, tOr_eq, bOr_t, bOr_f, tNot2, vAnd_eq, bAndE_t, bAndE_f, vOr_eq, bOrE_t, bOrE_f, vIf_eq, bIfE_t, bIfE_f, v2_eq, b2_s, b1_s, v1_eq, aC_eq, bC_s, bC1_s, a0, gAs_eq, bAs_s, bNx_s, gC_eq, bG_s, g0, vCall_eq, bCall_s, vCallN_eq, bCallN_s, vCallW_eq, bCallW_s, bResW_s, vCallWN_eq, bCallWN_s, bResWN_s, bIm_t, vImm_eq, bImm_s, bRes_s, bResN_s, vCh_eq, bCh_t, bCh_f, atI_0, atI_1, atI_2, atI_3, gFor_eq, bFor_s, gRet, gRetN, gRetO, gEx, gN, gT, gOw_eq, gOwF_eq, bOw_s, vLC_eq, vLCW_eq, bL_s, gFz, frz, gApp, gPut, gAug, gAugI, gNop, gFail, gClr, gPop, ownL, noIo_eq, nio_ob, nio_n, nio_fr, nio_ow, vN, vF, vC, vB, vTru, truD, vNot, imm, immL, ixDt, oN, oI, vSlL, vSlT, vRev, negD, vTup, vLst, vCB, lenD, absD, min2D, max2D, int1D, vIsi, isi_list, isi_int, isi_bool_i, isi_tuple, vListOf, immR, vItems, vItemsT, vRng1, vRng2, vEnum, vZip, capFr, capG, capOne, cTrue, addD_i, subD_i, ltD_i, leD_i, gtD_i, geD_i, xorD_i, eqD_i, neD_i, Int.reduceToNat, Int.reducePow, isD_n, isnD_n, isNoneD, List.length_cons, List.length_nil, List.map_cons, List.map_nil, List.replicate, List.cons_append, List.nil_append, List.append_nil, List.getElem?_cons_zero, List.getElem?_cons_succ, List.set_cons_zero, List.set_cons_succ, Nat.reduceAdd, Nat.reduceSub, Nat.reduceLeDiff, Nat.reduceEqDiff, Bool.and_true, Bool.true_and, Bool.not_true, Bool.not_false, Bool.false_eq_true, ↓reduceIte, if_true, if_false]))
variable {n : Nat} {ps : List Pas} {L : List Int} {st g : Nat} {π : Nat → Int} {lab : List (Option Lb)} {left : Lf}
theorem at_lf {L : List Int} {m : Nat} (h : m < L.length) : atI (L.map PyData.int) (m : Int) = some (.int (lf L m)) := by
  refine atI_of _ ?_
  unfold lf
  rw [List.getD_eq_getElem?_getD, List.getElem?_eq_getElem h]; rfl
theorem get_lf {L : List Int} {m : Nat} (h : m < L.length) : (L.map PyData.int)[m]? = some (.int (lf L m)) := by
  unfold lf
  rw [List.getElem?_map, List.getD_eq_getElem?_getD, List.getElem?_eq_getElem h]; rfl
end PM
namespace PM
open PySem L2 VM Sp
local macro_rules | `(tactic| walk_at "ev") => `(tactic| (try simp only [fnM_eq, ob_some, ob_none, bFn_r, bFn_n, ini, gSeq_eq, bSeq_n, bSeq_r, bSeq_b, bSeq_c, gIf_eq, bIf_t, bIf_f, tAnd_eq, bAnd_t, bAnd_f, tOr_eq, bOr_t, bOr_f, tNot2, vAnd_eq, bAndE_t, bAndE_f, vOr_eq, bOrE_t, bOrE_f, vIf_eq, bIfE_t, bIfE_f, v2_eq, b2_s, b1_s, v1_eq, aC_eq, bC_s, bC1_s, a0, gAs_eq, bAs_s, bNx_s, gC_eq, bG_s, g0, vCall_eq, bCall_s, vCallN_eq, bCallN_s, vCallW_eq, bCallW_s, bResW_s, vCallWN_eq, bCallWN_s, bResWN_s, bIm_t, vImm_eq, bImm_s, bRes_s, bResN_s, vCh_eq, bCh_t, bCh_f, atI_0, atI_1, atI_2, atI_3, gFor_eq, bFor_s, gRet, gRetN, gRetO, gEx, gN, gT, gOw_eq, gOwF_eq, bOw_s, vLC_eq, vLCW_eq, bL_s, gFz, frz, gApp, gPut, gAug, gAugI, gNop, gFail, gClr, gPop, ownL, noIo_eq, nio_ob, nio_n, nio_fr, nio_ow, vN, vF, vC, vB, vTru, truD, vNot, imm, immL, ixDt, oN, oI, vSlL, vSlT, vRev, negD, vTup, vLst, vCB, lenD, absD, min2D, max2D, int1D, vIsi, isi_list, isi_int, isi_bool_i, isi_tuple, vListOf, immR, vItems, vItemsT, vRng1, vRng2, vEnum, vZip, capFr, capG, capOne, cTrue, addD_i, subD_i, ltD_i, leD_i, gtD_i, geD_i, xorD_i, eqD_i, neD_i, Int.reduceToNat, Int.reducePow, isD_n, isnD_n, isNoneD, List.length_cons, List.length_nil, List.map_cons, List.map_nil, List.replicate, List.cons_append, List.nil_append, List.append_nil, List.getElem?_cons_zero, List.getElem?_cons_succ, List.set_cons_zero, List.set_cons_succ, Nat.reduceAdd, Nat.reduceSub, Nat.reduceLeDiff, Nat.reduceEqDiff, Bool.and_true, Bool.true_and, Bool.not_true, Bool.not_false, Bool.false_eq_true, ↓reduceIte, if_true, if_false]))
variable {n : Nat} {ps : List Pas} {L : List Int} {st g : Nat} {π : Nat → Int} {lab : List (Option Lb)} {left : Lf}
noncomputable def stepD (x : Int × Int) : PyData := .tuple [.int x.1, .int x.2]
theorem atI_last {α : Type} {xs : List α} {y : α} (h : xs.getLast? = some y) : atI xs (-1) = some y := by
  have hne : xs ≠ [] := by intro z; rw [z] at h; cases h
  unfold atI
  rw [ixN_last (List.length_pos_iff.mpr hne)]
  rw [List.getLast?_eq_getElem?] at h
  exact h
theorem whileN_ret {c : VT} {b : VS} {k : Nat} {S S2 : GS} {o : Bool} {d : PyData} (h1 : c S = some true) (h2 : b S = .ret S2 o d) : whileN c b (k + 1) S = .ret S2 o d := by rw [whileN, h1]; simp only; rw [h2]
theorem whileN_go {c : VT} {b : VS} {k : Nat} {S S2 : GS} {o : Out} (h1 : c S = some true) (h2 : b S = .nxt S2) (h3 : whileN c b k S2 = o) : whileN c b (k + 1) S = o := by rw [whileN, h1]; simp only; rw [h2]; exact h3
end PM
namespace PM
open PySem L2 VM Sp
local macro_rules | `(tactic| walk_at "ev") => `(tactic| (try simp only [fnM_eq, ob_some, ob_none, bFn_r, bFn_n, ini, gSeq_eq, bSeq_n, bSeq_r, bSeq_b, bSeq_c, gIf_eq, bIf_t, bIf_f, tAnd_eq, bAnd_t, bAnd_f, tOr_eq, bOr_t, bOr_f, tNot2, vAnd_eq, bAndE_t, bAndE_f, vOr_eq, bOrE_t, bOrE_f, vIf_eq, bIfE_t, bIfE_f, v2_eq, b2_s, b1_s, v1_eq, aC_eq, bC_s, bC1_s, a0, gAs_eq, bAs_s, bNx_s, gC_eq, bG_s, g0, vCall_eq, bCall_s, vCallN_eq, bCallN_s, vCallW_eq, bCallW_s, bResW_s, vCallWN_eq, bCallWN_s, bResWN_s, bIm_t, vImm_eq, bImm_s, bRes_s, bResN_s, vCh_eq, bCh_t, bCh_f, atI_0, atI_1, atI_2, atI_3, gFor_eq, bFor_s, gRet, gRetN, gRetO, gEx, gN, gT, gOw_eq, gOwF_eq, bOw_s, vLC_eq, vLCW_eq, bL_s, gFz, frz, gApp, gPut, gAug, gAugI, gNop, gFail, gClr, gPop, ownL, noIo_eq, nio_ob, nio_n, nio_fr, nio_ow, vN, vF, vC, vB, vTru, truD, vNot, imm, immL, ixDt, oN, oI, vSlL, vSlT, vRev, negD, vTup, vLst, vCB, lenD, absD, min2D, max2D, int1D, vIsi, isi_list, isi_int, isi_bool_i, isi_tuple, vListOf, immR, vItems, vItemsT, vRng1, vRng2, vEnum, vZip, capFr, capG, capOne, cTrue, addD_i, subD_i, ltD_i, leD_i, gtD_i, geD_i, xorD_i, eqD_i, neD_i, Int.reduceToNat, Int.reducePow, isD_n, isnD_n, isNoneD, List.length_cons, List.length_nil, List.map_cons, List.map_nil, List.replicate, List.cons_append, List.nil_append, List.append_nil, List.getElem?_cons_zero, List.getElem?_cons_succ, List.set_cons_zero, List.set_cons_succ, Nat.reduceAdd, Nat.reduceSub, Nat.reduceLeDiff, Nat.reduceEqDiff, Bool.and_true, Bool.true_and, Bool.not_true, Bool.not_false, Bool.false_eq_true, ↓reduceIte, if_true, if_false]))
variable {n : Nat} {ps : List Pas} {L : List Int} {st g : Nat} {π : Nat → Int} {lab : List (Option Lb)} {left : Lf}
structure Small (n : Nat) (ps : List Pas) : Prop where
  n1 : n ≤ 1000
  p1 : ps.length ≤ 1000
  vs : ∃ vs : List Int, vs.length ≤ 16000000 ∧ ∀ v ∈ vals ps, v ∈ vs
end PM
namespace LH
open PySem L2 VM Sp PM
noncomputable def cellI (ns : List Int) (k : Int) : Int := ns.getD k.toNat 0
theorem atI_ints {ns : List Int} {k : Int} (h0 : 0 ≤ k) (h1 : k < ns.length) : atI (ns.map PyData.int) k = some (.int (cellI ns k)) := by
  obtain ⟨j, rfl⟩ : ∃ j : Nat, k = j := ⟨k.toNat, by omega⟩
  have hj : j < ns.length := by omega
  refine atI_nat ?_
  simp [hj, cellI]
theorem cellI_far {ns : List Int} {k : Int} (h0 : 0 ≤ k) (h : ¬ k < ns.length) : cellI ns k = 0 := by
  unfold cellI
  rw [List.getD_eq_getElem?_getD, List.getElem?_eq_none (by omega)]
  rfl
theorem mod_in (a : Int) {b : Int} (h : 0 < b) : 0 ≤ a % b ∧ a % b < b := ⟨Int.emod_nonneg a (by omega), Int.emod_lt_of_pos a h⟩
structure PqOk (m B C : Int) (q : Pq) : Prop where
  a0 : 0 ≤ q.1
  a1 : q.1 < m
  b0 : 0 ≤ q.2.1
  b1 : q.2.1 < m
  ne : q.1 ≠ q.2.1
  w1 : 1 ≤ q.2.2.1
  wB : q.2.2.1 ≤ B
  l1 : 1 ≤ q.2.2.2
  lC : q.2.2.2 ≤ C
theorem PqOk.mono {m B B' C : Int} {q : Pq} (h : PqOk m B C q) (hB : B ≤ B') : PqOk m B' C q := ⟨h.a0, h.a1, h.b0, h.b1, h.ne, h.w1, by have := h.wB; omega, h.l1, h.lC⟩
structure HallB (n : Nat) (ps : List Pas) (B C : Int) : Prop extends Hall n ps where
  wB : ∀ q ∈ ps, q.w ≤ B
  lC : ∀ q ∈ ps, q.l ≤ C
end LH
namespace LH
open PySem L2 VM Sp PM
theorem can_psD (ps : List Pq) : (psD ps).canLay0 = true := by
  have key : ∀ ps : List Pq, PyData.canLayAll0 (ps.map pD) = true := fun ps => by
    induction ps with
    | nil => rfl
    | cons q ps ih => simp only [List.map_cons, PyData.canLayAll0, ih, Bool.and_true]; rfl
  show PyData.canLay0 (.list _) = true
  simp only [PyData.canLay0]
  exact key ps
end LH
namespace LH
open PySem L2 VM Sp PM
noncomputable def zs (F : Pas → Int → Int) : List Pas → List Int → Int
  | q :: r, f :: fs => F q f + zs F r fs
  | _, _ => 0
structure FlowOk (n : Nat) (ps : List Pas) (st g : Nat) (T : Int) (fl : List Int) (M C : Int) : Prop where
  len : fl.length = ps.length
  lo : ∀ (i : Nat) q f, ps[i]? = some q → fl[i]? = some f → 0 ≤ f ∧ f ≤ q.w
  net : ∀ z : Nat, zs (fun q f => f * (Sp.b2 (q.b = z) - Sp.b2 (q.a = z))) ps fl = M * (Sp.b2 (g = z) - Sp.b2 (st = z))
  cost : zs (fun q f => f * q.l) ps fl = C
  M0 : 0 ≤ M
  W0 : 0 ≤ M * (T + 1) - C
  price : ∃ π : Nat → Int, π st = 0 ∧ T + 1 ≤ π g ∧ (0 < M → π g = T + 1) ∧ ∀ (i : Nat) q f, ps[i]? = some q → fl[i]? = some f → (f < q.w → π q.b ≤ π q.a + q.l) ∧ (0 < f → π q.a ≤ π q.b - q.l)
variable {n : Nat} {ps : List Pas} {st g : Nat} {T : Int}
end LH
namespace LH
open PySem L2 VM Sp PM
end LH
namespace LH
open PySem L2 VM Sp PM
variable {n : Nat} {ps : List Pas} {st g : Nat} {T : Int}
theorem zs_sum (Z : List Nat) (c : Nat → Pas → Int) : ∀ (ps : List Pas) (fl : List Int), zs (fun q f => f * (Z.map fun z => c z q).sum) ps fl = (Z.map fun z => zs (fun q f => f * c z q) ps fl).sum
  | [], _ => by
    simp only [zs]
    induction Z with
    | nil => rfl
    | cons z Z ih => rw [List.map_cons, List.sum_cons, ← ih]; rfl
  | _ :: _, [] => by
    simp only [zs]
    induction Z with
    | nil => rfl
    | cons z Z ih => rw [List.map_cons, List.sum_cons, ← ih]; rfl
  | q :: r, f :: fs => by
    simp only [zs]
    rw [zs_sum Z c r fs]
    induction Z with
    | nil => simp
    | cons z Z ih => rw [List.map_cons, List.map_cons, List.map_cons, List.sum_cons, List.sum_cons, List.sum_cons, ← ih, Int.mul_add]; omega
theorem sum_sub {α : Type} (F G : α → Int) : ∀ Z : List α, (Z.map fun z => F z - G z).sum = (Z.map F).sum - (Z.map G).sum
  | [] => rfl
  | z :: Z => by rw [List.map_cons, List.map_cons, List.map_cons, List.sum_cons, List.sum_cons, List.sum_cons, sum_sub F G Z]; omega
theorem sum_mul (M : Int) (F : Nat → Int) : ∀ Z : List Nat, (Z.map fun z => M * F z).sum = M * (Z.map F).sum
  | [] => by simp
  | z :: Z => by rw [List.map_cons, List.map_cons, List.sum_cons, List.sum_cons, sum_mul M F Z, Int.mul_add]
end LH
namespace LH
open PySem L2 VM Sp PM
variable {n : Nat} {ps : List Pas} {st g : Nat} {T : Int}
structure StepsOk (n : Nat) (ps : List Pas) (st g : Nat) (G : List (Int × Int)) : Prop where
  e : Pg.m_steps_of [.int n, hD ps, .int st, .int g] = some (true, .list (G.map stepD))
  rise : Rise G
  len : G.length ≤ 16000000
  low : ∀ x ∈ G, x.1 ≤ (ps.map Pas.l).sum
  flow : ∀ T : Int, ∃ fl M C, FlowOk n ps st g T fl M C ∧ Pg.m_best_flow [.int n, hD ps, .int st, .int g, .int T] = some (true, .list (fl.map .int)) ∧ M * (T + 1) - C = wsum (fun l => if l ≤ T then T + 1 - l else 0) G
  last : ∀ T : Int, (ps.map Pas.l).sum ≤ T → ∃ fl C, ∃ P : Nat → Prop, FlowOk n ps st g T fl (many G) C ∧ Pg.m_best_flow [.int n, hD ps, .int st, .int g, .int T] = some (true, .list (fl.map .int)) ∧ P st ∧ ¬ P g ∧ ∀ (i : Nat) q f, ps[i]? = some q → fl[i]? = some f → (P q.a → f < q.w → P q.b) ∧ (P q.b → 0 < f → P q.a)
end LH
namespace LH
open PySem L2 VM Sp PM
variable {n : Nat} {ps : List Pas} {st g : Nat} {T : Int} {fl : List Int} {M C : Int}
theorem zs_scale (m : Int) (F : Pas → Int) : ∀ (ps : List Pas) (fl : List Int), zs (fun q f => f * (m * F q)) ps fl = m * zs (fun q f => f * F q) ps fl
  | [], _ => by simp [zs]
  | _ :: _, [] => by simp [zs]
  | q :: r, f :: fs => by
    rw [zs, zs, zs_scale m F r fs, Int.mul_add, ← Int.mul_assoc, Int.mul_comm f m, Int.mul_assoc]
theorem sum_pick (μ : Nat → Int) (a : Nat) : ∀ {Z : List Nat}, Z.Nodup → (Z.map fun z => μ z * Sp.b2 (a = z)).sum = if a ∈ Z then μ a else 0
  | [], _ => by simp
  | z :: Z, nd => by
    obtain ⟨h1, h2⟩ := List.nodup_cons.mp nd
    rw [List.map_cons, List.sum_cons, sum_pick μ a h2]
    unfold Sp.b2
    by_cases e : a = z
    · subst e; simp [h1]
    · simp [e]
theorem pick_room (μ : Nat → Int) {a : Nat} (h : a < n) : ((List.range n).map fun z => μ z * Sp.b2 (a = z)).sum = μ a := by
  rw [sum_pick μ a List.nodup_range, if_pos (List.mem_range.mpr h)]
theorem pick_pas (μ : Nat → Int) {a b : Nat} (ha : a < n) (hb : b < n) : ((List.range n).map fun z => μ z * (Sp.b2 (b = z) - Sp.b2 (a = z))).sum = μ b - μ a := by
  have e : ((List.range n).map fun z => μ z * (Sp.b2 (b = z) - Sp.b2 (a = z))) = (List.range n).map fun z => μ z * Sp.b2 (b = z) - μ z * Sp.b2 (a = z) := List.map_congr_left fun z _ => by rw [Int.mul_sub]
  rw [e, sum_sub, pick_room μ hb, pick_room μ ha]
theorem zs_congr_ps {F G : Pas → Int → Int} : ∀ {ps : List Pas} {fl : List Int}, (∀ q ∈ ps, ∀ f, F q f = G q f) → zs F ps fl = zs G ps fl
  | [], _, _ => by simp [zs]
  | _ :: _, [], _ => by simp [zs]
  | q :: r, f :: fs, h => by rw [zs, zs, h q List.mem_cons_self, zs_congr_ps fun q' hq f' => h q' (List.mem_cons_of_mem _ hq) f']
theorem zs_pot (Hh : Hall n ps) (hst : st < n) (hg : g < n) (net : ∀ z : Nat, zs (fun q f => f * (Sp.b2 (q.b = z) - Sp.b2 (q.a = z))) ps fl = M * (Sp.b2 (g = z) - Sp.b2 (st = z))) (μ : Nat → Int) : zs (fun q f => f * (μ q.b - μ q.a)) ps fl = M * (μ g - μ st) := by
  have e1 : zs (fun q f => f * (μ q.b - μ q.a)) ps fl = zs (fun q f => f * ((List.range n).map fun z => μ z * (Sp.b2 (q.b = z) - Sp.b2 (q.a = z))).sum) ps fl := zs_congr_ps fun q hq f => by rw [pick_pas μ (Hh.ra q hq) (Hh.rb q hq)]
  rw [e1, zs_sum (List.range n) (fun z q => μ z * (Sp.b2 (q.b = z) - Sp.b2 (q.a = z)))]
  have e2 : ((List.range n).map fun z => zs (fun q f => f * (μ z * (Sp.b2 (q.b = z) - Sp.b2 (q.a = z)))) ps fl) = (List.range n).map fun z => M * (μ z * (Sp.b2 (g = z) - Sp.b2 (st = z))) := List.map_congr_left fun z _ => by
    rw [zs_scale (μ z) (fun q => Sp.b2 (q.b = z) - Sp.b2 (q.a = z)), net z, ← Int.mul_assoc, Int.mul_comm (μ z) M, Int.mul_assoc]
  rw [e2, sum_mul M, pick_pas μ hst hg]
theorem zs_sub2 (F G : Pas → Int → Int) : ∀ (ps : List Pas) (fl : List Int), zs (fun q f => F q f - G q f) ps fl = zs F ps fl - zs G ps fl
  | [], _ => by simp [zs]
  | _ :: _, [] => by simp [zs]
  | q :: r, f :: fs => by rw [zs, zs, zs, zs_sub2 F G r fs]; omega
theorem zs_mono {F G : Pas → Int → Int} : ∀ {ps : List Pas} {fl : List Int}, (∀ (i : Nat) q f, ps[i]? = some q → fl[i]? = some f → F q f ≤ G q f) → zs F ps fl ≤ zs G ps fl
  | [], _, _ => by simp [zs]
  | _ :: _, [], _ => by simp [zs]
  | q :: r, f :: fs, h => by
    have h0 := h 0 q f rfl rfl
    have := zs_mono (F := F) (G := G) (ps := r) (fl := fs) fun i q' f' a b => h (i + 1) q' f' (by simpa using a) (by simpa using b)
    rw [zs, zs]
    omega
noncomputable def over (μ : Nat → Int) (q : Pas) : Int := if q.l < μ q.b - μ q.a then q.w * (μ q.b - μ q.a - q.l) else 0
theorem worth_pot (Hh : Hall n ps) (hst : st < n) (hg : g < n) (net : ∀ z : Nat, zs (fun q f => f * (Sp.b2 (q.b = z) - Sp.b2 (q.a = z))) ps fl = M * (Sp.b2 (g = z) - Sp.b2 (st = z))) (cost : zs (fun q f => f * q.l) ps fl = C) {μ : Nat → Int} (m0 : μ st = 0) (m1 : μ g = T + 1) : M * (T + 1) - C = zs (fun q f => f * (μ q.b - μ q.a - q.l)) ps fl := by
  have e := zs_pot Hh hst hg net μ
  rw [m0, m1, Int.sub_zero] at e
  rw [← e, ← cost, ← zs_sub2]
  exact zs_congr_ps fun q _ f => by rw [Int.mul_sub f (μ q.b - μ q.a) q.l]
theorem weak_dual (Hh : Hall n ps) (hst : st < n) (hg : g < n) (lo : ∀ (i : Nat) q f, ps[i]? = some q → fl[i]? = some f → 0 ≤ f ∧ f ≤ q.w) (net : ∀ z : Nat, zs (fun q f => f * (Sp.b2 (q.b = z) - Sp.b2 (q.a = z))) ps fl = M * (Sp.b2 (g = z) - Sp.b2 (st = z))) (cost : zs (fun q f => f * q.l) ps fl = C) {μ : Nat → Int} (m0 : μ st = 0) (m1 : μ g = T + 1) : M * (T + 1) - C ≤ zs (fun q _ => over μ q) ps fl := by
  rw [worth_pot Hh hst hg net cost m0 m1]
  refine zs_mono fun i q f a b => ?_
  have h := lo i q f a b
  unfold over
  split
  · exact Int.mul_le_mul_of_nonneg_right h.2 (by omega)
  · exact Int.mul_nonpos_of_nonneg_of_nonpos h.1 (by omega)
theorem zs_const (F : Pas → Int) : ∀ {ps : List Pas} {fl : List Int}, fl.length = ps.length → zs (fun q _ => F q) ps fl = (ps.map F).sum
  | [], _, _ => by simp [zs]
  | _ :: _, [], h => by simp at h
  | q :: r, f :: fs, h => by rw [zs, List.map_cons, List.sum_cons, zs_const F (by simpa using h)]
end LH
namespace LH
open PySem L2 VM Sp PM
variable {n : Nat} {ps : List Pas} {st g : Nat} {fl : List Int} {M : Int}
noncomputable def inF (z : Nat) : Pas → Int → Int := fun q f => f * Sp.b2 (q.b = z)
noncomputable def outF (z : Nat) : Pas → Int → Int := fun q f => f * Sp.b2 (q.a = z)
theorem zs_split (z : Nat) : ∀ (ps : List Pas) (fl : List Int), zs (fun q f => f * (Sp.b2 (q.b = z) - Sp.b2 (q.a = z))) ps fl = zs (inF z) ps fl - zs (outF z) ps fl
  | [], _ => by simp [zs]
  | _ :: _, [] => by simp [zs]
  | q :: r, f :: fs => by
    rw [zs, zs, zs, zs_split z r fs, Int.mul_sub]
    unfold inF outF
    omega
theorem b2_nn (p : Prop) [Decidable p] : 0 ≤ Sp.b2 p := by unfold Sp.b2; split <;> decide
theorem zs_nn {F : Pas → Int → Int} : ∀ {ps : List Pas} {fl : List Int}, (∀ (i : Nat) q f, ps[i]? = some q → fl[i]? = some f → 0 ≤ F q f) → 0 ≤ zs F ps fl
  | [], _, _ => by simp [zs]
  | _ :: _, [], _ => by simp [zs]
  | q :: r, f :: fs, h => by
    have h0 := h 0 q f rfl rfl
    have := zs_nn (F := F) (ps := r) (fl := fs) fun i q' f' a b => h (i + 1) q' f' (by simpa using a) (by simpa using b)
    rw [zs]; omega
theorem zs_part {F : Pas → Int → Int} : ∀ {ps : List Pas} {fl : List Int}, (∀ (i : Nat) q f, ps[i]? = some q → fl[i]? = some f → 0 ≤ F q f) → ∀ (i : Nat) q f, ps[i]? = some q → fl[i]? = some f → F q f ≤ zs F ps fl
  | [], _, _, i, q, f, a, _ => by simp at a
  | _ :: _, [], _, i, q, f, _, b => by simp at b
  | p :: r, f0 :: fs, h, 0, q, f, a, b => by
    cases a; cases b
    have := zs_nn (F := F) (ps := r) (fl := fs) fun i q' f' a b => h (i + 1) q' f' (by simpa using a) (by simpa using b)
    rw [zs]; omega
  | p :: r, f0 :: fs, h, i + 1, q, f, a, b => by
    have h0 := h 0 p f0 rfl rfl
    have := zs_part (F := F) (ps := r) (fl := fs) (fun i q' f' a b => h (i + 1) q' f' (by simpa using a) (by simpa using b)) i q f (by simpa using a) (by simpa using b)
    rw [zs]; omega
theorem zs_some {F : Pas → Int → Int} : ∀ {ps : List Pas} {fl : List Int}, 0 < zs F ps fl → ∃ (i : Nat) (q : Pas) (f : Int), ps[i]? = some q ∧ fl[i]? = some f ∧ 0 < F q f
  | [], _, h => by simp [zs] at h
  | _ :: _, [], h => by simp [zs] at h
  | q :: r, f :: fs, h => by
    rw [zs] at h
    by_cases h0 : 0 < F q f
    · exact ⟨0, q, f, rfl, rfl, h0⟩
    · obtain ⟨i, q', f', a, b, c⟩ := zs_some (F := F) (ps := r) (fl := fs) (by omega)
      exact ⟨i + 1, q', f', by simpa using a, by simpa using b, c⟩
theorem pos_b2 {f : Int} {p : Prop} [Decidable p] (h : 0 < f * Sp.b2 p) : 0 < f ∧ p := by
  unfold Sp.b2 at h
  split at h
  · rename_i hp; exact ⟨by omega, hp⟩
  · omega
structure Cons (ps : List Pas) (st g : Nat) (fl : List Int) (M : Int) : Prop where
  nn : ∀ (i : Nat) q f, ps[i]? = some q → fl[i]? = some f → 0 ≤ f
  net : ∀ z : Nat, zs (fun q f => f * (Sp.b2 (q.b = z) - Sp.b2 (q.a = z))) ps fl = M * (Sp.b2 (g = z) - Sp.b2 (st = z))
theorem Cons.inNN (K : Cons ps st g fl M) (z : Nat) : ∀ (i : Nat) q f, ps[i]? = some q → fl[i]? = some f → 0 ≤ inF z q f := fun i q f a b => Int.mul_nonneg (K.nn i q f a b) (b2_nn _)
theorem Cons.outNN (K : Cons ps st g fl M) (z : Nat) : ∀ (i : Nat) q f, ps[i]? = some q → fl[i]? = some f → 0 ≤ outF z q f := fun i q f a b => Int.mul_nonneg (K.nn i q f a b) (b2_nn _)
theorem out_some {z : Nat} (h : 0 < zs (outF z) ps fl) : ∃ (i : Nat) (q : Pas) (f : Int), ps[i]? = some q ∧ fl[i]? = some f ∧ 0 < f ∧ q.a = z := by
  obtain ⟨i, q, f, a, b, c⟩ := zs_some h
  have := pos_b2 c
  exact ⟨i, q, f, a, b, this.1, this.2⟩
theorem Cons.start (K : Cons ps st g fl M) (hne : st ≠ g) (hM : 0 < M) : ∃ (i : Nat) (q : Pas) (f : Int), ps[i]? = some q ∧ fl[i]? = some f ∧ 0 < f ∧ q.a = st := by
  have e := K.net st
  rw [zs_split] at e
  have h1 := zs_nn (K.inNN st)
  have e2 : Sp.b2 (g = st) - Sp.b2 (st = st) = -1 := by unfold Sp.b2; rw [if_neg (fun z => hne z.symm), if_pos rfl]; rfl
  rw [e2] at e
  exact out_some (by omega)
theorem Cons.on (K : Cons ps st g fl M) (hM : 0 ≤ M) {i : Nat} {q : Pas} {f : Int} (a : ps[i]? = some q) (b : fl[i]? = some f) (hf : 0 < f) (hg : q.b ≠ g ∨ M = 0) : ∃ (j : Nat) (p : Pas) (h : Int), ps[j]? = some p ∧ fl[j]? = some h ∧ 0 < h ∧ p.a = q.b := by
  have e := K.net q.b
  rw [zs_split] at e
  have h1 := zs_part (K.inNN q.b) i q f a b
  have h2 : inF q.b q f = f := by unfold inF Sp.b2; rw [if_pos rfl]; omega
  rw [h2] at h1
  have h3 : M * (Sp.b2 (g = q.b) - Sp.b2 (st = q.b)) ≤ 0 := by
    rcases hg with hg | hg
    · have : Sp.b2 (g = q.b) = 0 := by unfold Sp.b2; rw [if_neg (fun z => hg z.symm)]
      rw [this]
      have := b2_nn (st = q.b)
      exact Int.mul_nonpos_of_nonneg_of_nonpos hM (by omega)
    · rw [hg]; omega
  exact out_some (by omega)
theorem Cons.none (K : Cons ps st g fl 0) {ρ : Nat → Int} (up : ∀ (i : Nat) q f, ps[i]? = some q → fl[i]? = some f → 0 < f → ρ q.a < ρ q.b) : ∀ (i : Nat) q f, ps[i]? = some q → fl[i]? = some f → f = 0 := by
  obtain ⟨R, hR⟩ : ∃ R : Int, ∀ q ∈ ps, ρ q.b ≤ R := by
    clear K up
    induction ps with
    | nil => exact ⟨0, by simp⟩
    | cons p r ih =>
      obtain ⟨R, h⟩ := ih
      refine ⟨max R (ρ p.b), fun q hq => ?_⟩
      rcases List.mem_cons.mp hq with rfl | hq
      · exact Int.le_max_right ..
      · exact Int.le_trans (h q hq) (Int.le_max_left ..)
  have key : ∀ (k : Nat) (i : Nat) q f, ps[i]? = some q → fl[i]? = some f → 0 < f → R - ρ q.b < k → False := fun k => by
    induction k with
    | zero =>
      intro i q f a b hf hk
      have := hR q (List.mem_of_getElem? a)
      omega
    | succ k ih =>
      intro i q f a b hf hk
      obtain ⟨j, p, h, a', b', hh, e⟩ := K.on (Int.le_refl _) a b hf (.inr rfl)
      have u := up j p h a' b' hh
      rw [e] at u
      exact ih j p h a' b' hh (by omega)
  intro i q f a b
  have h0 := K.nn i q f a b
  by_cases hf : 0 < f
  · exact (key ((R - ρ q.b).toNat + 1) i q f a b hf (by omega)).elim
  · omega
theorem in_some {z : Nat} (h : 0 < zs (inF z) ps fl) : ∃ (i : Nat) (q : Pas) (f : Int), ps[i]? = some q ∧ fl[i]? = some f ∧ 0 < f ∧ q.b = z := by
  obtain ⟨i, q, f, a, b, c⟩ := zs_some h
  have := pos_b2 c
  exact ⟨i, q, f, a, b, this.1, this.2⟩
theorem Cons.back (K : Cons ps st g fl M) (hM : 0 ≤ M) {i : Nat} {q : Pas} {f : Int} (a : ps[i]? = some q) (b : fl[i]? = some f) (hf : 0 < f) (hs : q.a ≠ st) : ∃ (j : Nat) (p : Pas) (h : Int), ps[j]? = some p ∧ fl[j]? = some h ∧ 0 < h ∧ p.b = q.a := by
  have e := K.net q.a
  rw [zs_split] at e
  have h1 := zs_part (K.outNN q.a) i q f a b
  have h2 : outF q.a q f = f := by unfold outF Sp.b2; rw [if_pos rfl]; omega
  rw [h2] at h1
  have h3 : 0 ≤ M * (Sp.b2 (g = q.a) - Sp.b2 (st = q.a)) := by
    have : Sp.b2 (st = q.a) = 0 := by unfold Sp.b2; rw [if_neg (fun z => hs z.symm)]
    rw [this]
    have := b2_nn (g = q.a)
    exact Int.mul_nonneg hM (by omega)
  exact in_some (by omega)
theorem Cons.high (K : Cons ps st g fl M) (hM : 0 ≤ M) {ρ : Nat → Int} (up : ∀ (i : Nat) q f, ps[i]? = some q → fl[i]? = some f → 0 < f → ρ q.a < ρ q.b) : ∀ (i : Nat) q f, ps[i]? = some q → fl[i]? = some f → 0 < f → ρ q.b ≤ ρ g := by
  obtain ⟨R, hR⟩ : ∃ R : Int, ∀ q ∈ ps, ρ q.b ≤ R := by
    clear K up
    induction ps with
    | nil => exact ⟨0, by simp⟩
    | cons p r ih =>
      obtain ⟨R, h⟩ := ih
      refine ⟨max R (ρ p.b), fun q hq => ?_⟩
      rcases List.mem_cons.mp hq with rfl | hq
      · exact Int.le_max_right ..
      · exact Int.le_trans (h q hq) (Int.le_max_left ..)
  have key : ∀ (k : Nat) (i : Nat) q f, ps[i]? = some q → fl[i]? = some f → 0 < f → R - ρ q.b < k → ρ q.b ≤ ρ g := fun k => by
    induction k with
    | zero =>
      intro i q f a b hf hk
      have := hR q (List.mem_of_getElem? a)
      omega
    | succ k ih =>
      intro i q f a b hf hk
      by_cases e : q.b = g
      · rw [e]; exact Int.le_refl _
      · obtain ⟨j, p, h, a', b', hh, e2⟩ := K.on hM a b hf (.inl e)
        have u := up j p h a' b' hh
        rw [e2] at u
        have := ih j p h a' b' hh (by omega)
        omega
  intro i q f a b hf
  exact key ((R - ρ q.b).toNat + 1) i q f a b hf (by omega)
theorem Cons.low (K : Cons ps st g fl M) (hM : 0 ≤ M) {ρ : Nat → Int} (up : ∀ (i : Nat) q f, ps[i]? = some q → fl[i]? = some f → 0 < f → ρ q.a < ρ q.b) : ∀ (i : Nat) q f, ps[i]? = some q → fl[i]? = some f → 0 < f → ρ st ≤ ρ q.a := by
  obtain ⟨R, hR⟩ : ∃ R : Int, ∀ q ∈ ps, R ≤ ρ q.a := by
    clear K up
    induction ps with
    | nil => exact ⟨0, by simp⟩
    | cons p r ih =>
      obtain ⟨R, h⟩ := ih
      refine ⟨min R (ρ p.a), fun q hq => ?_⟩
      rcases List.mem_cons.mp hq with rfl | hq
      · exact Int.min_le_right ..
      · exact Int.le_trans (Int.min_le_left ..) (h q hq)
  have key : ∀ (k : Nat) (i : Nat) q f, ps[i]? = some q → fl[i]? = some f → 0 < f → ρ q.a - R < k → ρ st ≤ ρ q.a := fun k => by
    induction k with
    | zero =>
      intro i q f a b hf hk
      have := hR q (List.mem_of_getElem? a)
      omega
    | succ k ih =>
      intro i q f a b hf hk
      by_cases e : q.a = st
      · rw [e]; exact Int.le_refl _
      · obtain ⟨j, p, h, a', b', hh, e2⟩ := K.back hM a b hf e
        have u := up j p h a' b' hh
        rw [e2] at u
        have := ih j p h a' b' hh (by omega)
        omega
  intro i q f a b hf
  exact key ((ρ q.a - R).toNat + 1) i q f a b hf (by omega)
theorem FlowOk.cons {T C : Int} (F : FlowOk n ps st g T fl M C) : Cons ps st g fl M := ⟨fun i q f a b => (F.lo i q f a b).1, F.net⟩
end LH
namespace LH
open PySem L2 VM Sp PM
variable {n : Nat} {ps : List Pas} {st g : Nat} {fl : List Int} {M : Int}
noncomputable def goes (ps : List Pas) : Nat → List Nat → Option Nat
  | u, [] => some u
  | u, j :: w => match ps[j]? with
    | some q => if q.a = u then goes ps q.b w else none
    | none => none
theorem goes_snoc {j : Nat} {q : Pas} (hq : ps[j]? = some q) : ∀ {w : List Nat} {u : Nat}, goes ps u w = some q.a → goes ps u (w ++ [j]) = some q.b
  | [], u, h => by
    simp only [goes, Option.some.injEq] at h
    simp only [List.nil_append, goes, hq, h, ↓reduceIte]
  | i :: w, u, h => by
    rw [List.cons_append, goes]
    rw [goes] at h
    cases e : ps[i]? with
    | none => rw [e] at h; cases h
    | some p =>
      rw [e] at h
      simp only at h ⊢
      by_cases ha : p.a = u
      · rw [if_pos ha] at h ⊢; exact goes_snoc hq h
      · rw [if_neg ha] at h; cases h
noncomputable def atF (F : Pas → Int) (ps : List Pas) (j : Nat) : Int := match ps[j]? with
  | some q => F q
  | none => 0
theorem atF_some {F : Pas → Int} {j : Nat} {q : Pas} (h : ps[j]? = some q) : atF F ps j = F q := by unfold atF; rw [h]
noncomputable def alongF (F : Pas → Int) (ps : List Pas) (w : List Nat) : Int := (w.map (atF F ps)).sum
theorem alongF_nil (F : Pas → Int) : alongF F ps [] = 0 := rfl
theorem alongF_cons (F : Pas → Int) (j : Nat) (w : List Nat) : alongF F ps (j :: w) = atF F ps j + alongF F ps w := by simp [alongF]
theorem goes_pot (μ : Nat → Int) : ∀ {w : List Nat} {u v : Nat}, goes ps u w = some v → alongF (fun q => μ q.b - μ q.a) ps w = μ v - μ u
  | [], u, v, h => by
    simp only [goes, Option.some.injEq] at h
    rw [alongF_nil, h]; omega
  | j :: w, u, v, h => by
    rw [goes] at h
    cases e : ps[j]? with
    | none => rw [e] at h; cases h
    | some p =>
      rw [e] at h
      simp only at h
      by_cases ha : p.a = u
      · rw [if_pos ha] at h
        rw [alongF_cons, goes_pot μ h, atF_some e, ha]; omega
      · rw [if_neg ha] at h; cases h
theorem lf_get {L : List Int} {i : Nat} {f : Int} (h : L[i]? = some f) : lf L i = f := by unfold lf; rw [List.getD_eq_getElem?_getD, h]; rfl
theorem get_of {L : List Int} {i : Nat} (h : i < L.length) : L[i]? = some (lf L i) := by unfold lf; rw [List.getD_eq_getElem?_getD, List.getElem?_eq_getElem h]; rfl
noncomputable def takeJ (m : Int) (fl : List Int) (j : Nat) : List Int := fl.set j (lf fl j - m)
noncomputable def takeW (m : Int) (fl : List Int) (w : List Nat) : List Int := w.foldl (takeJ m) fl
theorem takeJ_len (m : Int) (fl : List Int) (j : Nat) : (takeJ m fl j).length = fl.length := List.length_set ..
theorem takeW_len (m : Int) : ∀ (w : List Nat) (fl : List Int), (takeW m fl w).length = fl.length
  | [], _ => rfl
  | j :: w, fl => by
    show (takeW m (takeJ m fl j) w).length = _
    rw [takeW_len m w, takeJ_len]
theorem takeJ_lf {m : Int} {j : Nat} (h : j < fl.length) (i : Nat) : lf (takeJ m fl j) i = lf fl i - if i = j then m else 0 := by
  by_cases e : i = j
  · subst e
    rw [if_pos rfl]
    exact lf_get (by unfold takeJ; rw [List.getElem?_set_self h])
  · rw [if_neg e, Int.sub_zero]
    unfold takeJ lf
    simp only [List.getD_eq_getElem?_getD, List.getElem?_set_ne (fun z => e z.symm)]
theorem takeW_lf {m : Int} : ∀ {w : List Nat} {fl : List Int}, w.Nodup → (∀ j ∈ w, j < fl.length) → ∀ i, lf (takeW m fl w) i = lf fl i - if i ∈ w then m else 0
  | [], _, _, _, i => by simp [takeW]
  | j :: w, fl, nd, h, i => by
    obtain ⟨n1, n2⟩ := List.nodup_cons.mp nd
    show lf (takeW m (takeJ m fl j) w) i = _
    rw [takeW_lf n2 (fun i hi => by rw [takeJ_len]; exact h i (List.mem_cons_of_mem _ hi)), takeJ_lf (h j List.mem_cons_self)]
    by_cases e : i = j
    · subst e
      rw [if_pos rfl, if_neg n1, if_pos List.mem_cons_self]; omega
    · rw [if_neg e]
      by_cases hw : i ∈ w
      · rw [if_pos hw, if_pos (List.mem_cons_of_mem _ hw)]; omega
      · rw [if_neg hw, if_neg (fun z => by rcases List.mem_cons.mp z with z | z; exact e z; exact hw z)]; omega
theorem zs_set (F : Pas → Int) (x : Int) : ∀ (ps : List Pas) (fl : List Int) (j : Nat), fl.length = ps.length → j < fl.length → zs (fun q f => f * F q) ps (fl.set j (lf fl j - x)) = zs (fun q f => f * F q) ps fl - x * atF F ps j
  | [], [], j, _, h => by simp at h
  | [], _ :: _, _, e, _ => by simp at e
  | _ :: _, [], _, e, _ => by simp at e
  | q :: r, f :: fs, 0, e, _ => by
    have e1 : lf (f :: fs) 0 = f := rfl
    have e2 : atF F (q :: r) 0 = F q := rfl
    rw [List.set_cons_zero, zs, zs, e1, e2, Int.sub_mul]; omega
  | q :: r, f :: fs, j + 1, e, h => by
    have e1 : lf (f :: fs) (j + 1) = lf fs j := rfl
    have e2 : atF F (q :: r) (j + 1) = atF F r j := rfl
    rw [List.set_cons_succ, zs, zs, e1, e2, zs_set F x r fs j (by simpa using e) (by simpa using h)]; omega
theorem zs_take (F : Pas → Int) (m : Int) : ∀ {w : List Nat} {fl : List Int}, fl.length = ps.length → (∀ j ∈ w, j < fl.length) → zs (fun q f => f * F q) ps (takeW m fl w) = zs (fun q f => f * F q) ps fl - m * alongF F ps w
  | [], fl, _, _ => by rw [alongF_nil, Int.mul_zero, Int.sub_zero]; rfl
  | j :: w, fl, e, h => by
    show zs _ ps (takeW m (takeJ m fl j) w) = _
    rw [zs_take F m (by rw [takeJ_len]; exact e) (fun i hi => by rw [takeJ_len]; exact h i (List.mem_cons_of_mem _ hi))]
    unfold takeJ
    rw [zs_set F m ps fl j e (h j List.mem_cons_self), alongF_cons, Int.mul_add]; omega
noncomputable def cntP : List Int → Nat
  | [] => 0
  | f :: r => (if 0 < f then 1 else 0) + cntP r
theorem cntP_le : ∀ {a b : List Int}, a.length = b.length → (∀ i : Nat, 0 < lf a i → 0 < lf b i) → cntP a ≤ cntP b
  | [], [], _, _ => Nat.le_refl _
  | [], _ :: _, e, _ => by simp at e
  | _ :: _, [], e, _ => by simp at e
  | x :: a, y :: b, e, h => by
    have ih := cntP_le (a := a) (b := b) (by simpa using e) fun i hi => h (i + 1) hi
    have h0 : 0 < x → 0 < y := h 0
    rw [cntP, cntP]
    by_cases hx : 0 < x
    · rw [if_pos hx, if_pos (h0 hx)]; omega
    · rw [if_neg hx]; omega
theorem cntP_lt : ∀ {a b : List Int}, a.length = b.length → (∀ i : Nat, 0 < lf a i → 0 < lf b i) → (∃ i : Nat, lf a i ≤ 0 ∧ 0 < lf b i) → cntP a < cntP b
  | [], [], _, _, ⟨i, h1, h2⟩ => by simp [lf] at h2
  | [], _ :: _, e, _, _ => by simp at e
  | _ :: _, [], e, _, _ => by simp at e
  | x :: a, y :: b, e, h, ⟨i, h1, h2⟩ => by
    have e' : a.length = b.length := by simpa using e
    have hh : ∀ i : Nat, 0 < lf a i → 0 < lf b i := fun i hi => h (i + 1) hi
    rw [cntP, cntP]
    cases i with
    | zero =>
      have h1' : x ≤ 0 := h1
      have h2' : 0 < y := h2
      have := cntP_le e' hh
      rw [if_neg (by omega), if_pos h2']; omega
    | succ i =>
      have := cntP_lt e' hh ⟨i, h1, h2⟩
      have h0 : 0 < x → 0 < y := h 0
      by_cases hx : 0 < x
      · rw [if_pos hx, if_pos (h0 hx)]; omega
      · rw [if_neg hx]; omega
theorem cntP_len : ∀ a : List Int, cntP a ≤ a.length
  | [] => Nat.le_refl _
  | x :: a => by
    have := cntP_len a
    rw [cntP, List.length_cons]
    split <;> omega
noncomputable def share (i : Nat) : List (List Nat × Int) → Int
  | [] => 0
  | x :: ws => (if i ∈ x.1 then x.2 else 0) + share i ws
noncomputable def worthW (F : Pas → Int) (ps : List Pas) : List (List Nat × Int) → Int
  | [] => 0
  | x :: ws => x.2 * alongF F ps x.1 + worthW F ps ws
structure WalkOk (ps : List Pas) (st g : Nat) (x : List Nat × Int) : Prop where
  go : goes ps st x.1 = some g
  nd : x.1.Nodup
  ix : ∀ j ∈ x.1, j < ps.length
  ne : x.1 ≠ []
  m1 : 1 ≤ x.2
structure Parted (ps : List Pas) (st g : Nat) (fl : List Int) (ws : List (List Nat × Int)) : Prop where
  walk : ∀ x ∈ ws, WalkOk ps st g x
  sum : ∀ i : Nat, i < ps.length → share i ws = lf fl i
  few : ws.length ≤ cntP fl
  tot : ∀ F : Pas → Int, worthW F ps ws = zs (fun q f => f * F q) ps fl
noncomputable def Up (ps : List Pas) (fl : List Int) (ρ : Nat → Int) : Prop := ∀ (i : Nat) q f, ps[i]? = some q → fl[i]? = some f → 0 < f → ρ q.a < ρ q.b
theorem zs_zero (F : Pas → Int) : ∀ {ps : List Pas} {fl : List Int}, (∀ i : Nat, i < ps.length → lf fl i = 0) → zs (fun q f => f * F q) ps fl = 0
  | [], _, _ => by simp [zs]
  | _ :: _, [], _ => by simp [zs]
  | q :: r, f :: fs, h => by
    have h0 : f = 0 := h 0 (by simp)
    rw [zs, h0, Int.zero_mul, zs_zero F (ps := r) (fl := fs) fun i hi => h (i + 1) (by simpa using hi)]; rfl
theorem Parted.nil (h : ∀ i : Nat, i < ps.length → lf fl i = 0) : Parted ps st g fl [] :=
  ⟨fun _ h => (nomatch h), fun i hi => (h i hi).symm, Nat.zero_le _, fun F => (zs_zero F h).symm⟩
theorem Cons.take {w : List Nat} {m : Int} (K : Cons ps st g fl M) (hl : fl.length = ps.length) (hw : goes ps st w = some g) (nd : w.Nodup) (hi : ∀ j ∈ w, j < ps.length) (hm : ∀ j ∈ w, m ≤ lf fl j) : Cons ps st g (takeW m fl w) (M - m) := by
  have hi' : ∀ j ∈ w, j < fl.length := fun j hj => by rw [hl]; exact hi j hj
  refine ⟨fun i q f a b => ?_, fun z => ?_⟩
  · have e := takeW_lf (m := m) nd hi' i
    rw [lf_get b] at e
    have hil : i < fl.length := by have := (List.getElem?_eq_some_iff.mp b).1; rwa [takeW_len] at this
    have := K.nn i q _ a (get_of hil)
    rw [e]
    by_cases hiw : i ∈ w
    · rw [if_pos hiw]; have := hm i hiw; omega
    · rw [if_neg hiw]; omega
  · have := zs_take (ps := ps) (fun q => Sp.b2 (q.b = z) - Sp.b2 (q.a = z)) m hl hi'
    rw [this, K.net z, goes_pot (fun v => Sp.b2 (v = z)) hw, Int.sub_mul]
theorem take_pos {w : List Nat} {m : Int} (hm : 0 ≤ m) (nd : w.Nodup) (hi : ∀ j ∈ w, j < fl.length) {i : Nat} (h : 0 < lf (takeW m fl w) i) : 0 < lf fl i := by
  rw [takeW_lf nd hi i] at h
  by_cases hw : i ∈ w
  · rw [if_pos hw] at h; omega
  · rw [if_neg hw] at h; omega
theorem Up.take {w : List Nat} {m : Int} {ρ : Nat → Int} (U : Up ps fl ρ) (hm : 0 ≤ m) (nd : w.Nodup) (hi : ∀ j ∈ w, j < fl.length) : Up ps (takeW m fl w) ρ := fun i q f a b h => by
  have hil : i < fl.length := by have := (List.getElem?_eq_some_iff.mp b).1; rwa [takeW_len] at this
  rw [← lf_get b] at h
  exact U i q _ a (get_of hil) (take_pos hm nd hi h)
theorem Parted.more {w : List Nat} {m : Int} {ws : List (List Nat × Int)} (hl : fl.length = ps.length) (W : WalkOk ps st g (w, m)) (hm : ∀ j ∈ w, m ≤ lf fl j) (hat : ∃ j ∈ w, lf fl j = m) (P : Parted ps st g (takeW m fl w) ws) : Parted ps st g fl ((w, m) :: ws) := by
  have hi' : ∀ j ∈ w, j < fl.length := fun j hj => by rw [hl]; exact W.ix j hj
  have m1 := W.m1
  simp only at m1
  refine ⟨fun x hx => ?_, fun i hi => ?_, ?_, fun F => ?_⟩
  · rcases List.mem_cons.mp hx with rfl | hx
    · exact W
    · exact P.walk x hx
  · have := P.sum i hi
    rw [takeW_lf W.nd hi' i] at this
    rw [share, this]
    simp only
    split <;> omega
  · have h1 := P.few
    obtain ⟨j, hj, e⟩ := hat
    have h2 : cntP (takeW m fl w) < cntP fl := cntP_lt (takeW_len ..) (fun i h => take_pos (by omega) W.nd hi' h) ⟨j, by rw [takeW_lf W.nd hi' j, if_pos hj]; omega, by omega⟩
    rw [List.length_cons]; omega
  · rw [worthW, P.tot F, zs_take F m hl hi']
    simp only
    omega
theorem Cons.most {ρ : Nat → Int} {w : List Nat} {m : Int} (K : Cons ps st g fl M) (hl : fl.length = ps.length) (hne : st ≠ g) (U : Up ps fl ρ) (hM : 0 ≤ M) (hw : goes ps st w = some g) (hi : ∀ j ∈ w, j < ps.length) (hm : ∀ j ∈ w, m ≤ lf fl j) (wn : w ≠ []) : 0 ≤ M - m := by
  cases w with
  | nil => exact absurd rfl wn
  | cons j w =>
    have hj := hi j List.mem_cons_self
    have hmj := hm j List.mem_cons_self
    have e := List.getElem?_eq_getElem hj
    rw [goes, e] at hw
    simp only at hw
    by_cases ha : ps[j].a = st
    · have ef : fl[j]? = some (lf fl j) := get_of (by rw [hl]; exact hj)
      have part := zs_part (K.outNN st) j _ _ e ef
      have hn := K.net st
      rw [zs_split] at hn
      have e2 : Sp.b2 (g = st) - Sp.b2 (st = st) = -1 := by unfold Sp.b2; rw [if_neg (fun z => hne z.symm), if_pos rfl]; rfl
      rw [e2] at hn
      have hin : zs (inF st) ps fl ≤ 0 := by
        by_cases z : 0 < zs (inF st) ps fl
        · obtain ⟨i, q, f, a, b, c, d⟩ := in_some z
          have h1 := K.low hM U i q f a b c
          have h2 := U i q f a b c
          rw [d] at h2
          omega
        · omega
      have e3 : outF st ps[j] (lf fl j) = lf fl j := by unfold outF Sp.b2; rw [if_pos ha, Int.mul_one]
      omega
    · rw [if_neg ha] at hw; cases hw
theorem share_nn {ws : List (List Nat × Int)} (h : ∀ x ∈ ws, 1 ≤ x.2) (i : Nat) : 0 ≤ share i ws := by
  induction ws with
  | nil => exact Int.le_refl _
  | cons x ws ih =>
    have := ih fun y hy => h y (List.mem_cons_of_mem _ hy)
    have := h x List.mem_cons_self
    rw [share]
    split <;> omega
theorem share_le {ws : List (List Nat × Int)} (h : ∀ x ∈ ws, 1 ≤ x.2) {i : Nat} : ∀ x ∈ ws, i ∈ x.1 → x.2 ≤ share i ws := by
  induction ws with
  | nil => intro x hx; simp at hx
  | cons y ws ih =>
    intro x hx hi
    have h0 := share_nn (fun y hy => h y (List.mem_cons_of_mem _ hy)) i
    have h1 := h y List.mem_cons_self
    rw [share]
    rcases List.mem_cons.mp hx with rfl | hx
    · rw [if_pos hi]; omega
    · have := ih (fun y hy => h y (List.mem_cons_of_mem _ hy)) x hx hi
      split <;> omega
theorem Parted.has {ws : List (List Nat × Int)} (P : Parted ps st g fl ws) {x : List Nat × Int} (hx : x ∈ ws) : ∀ j ∈ x.1, x.2 ≤ lf fl j ∧ 0 < lf fl j := fun j hj => by
  have m1 := (P.walk x hx).m1
  have := share_le (fun y hy => (P.walk y hy).m1) x hx hj
  rw [P.sum j ((P.walk x hx).ix j hj)] at this
  omega
end LH
namespace LH
open PySem L2 VM Sp PM
local macro_rules | `(tactic| walk_at "ev") => `(tactic| (try simp only [fnM_eq, ob_some, ob_none, bFn_r, bFn_n, ini, gSeq_eq, bSeq_n, bSeq_r, bSeq_b, bSeq_c, gIf_eq, bIf_t, bIf_f, tAnd_eq, bAnd_t, bAnd_f, tOr_eq, bOr_t, bOr_f, tNot2, vAnd_eq, bAndE_t, bAndE_f, vOr_eq, bOrE_t, bOrE_f, vIf_eq, bIfE_t, bIfE_f, v2_eq, b2_s, b1_s, v1_eq, aC_eq, bC_s, bC1_s, a0, gAs_eq, bAs_s, bNx_s, gC_eq, bG_s, g0, vCall_eq, bCall_s, vCallN_eq, bCallN_s, vCallW_eq, bCallW_s, bResW_s, vCallWN_eq, bCallWN_s, bResWN_s, bIm_t, vImm_eq, bImm_s, bRes_s, bResN_s, vCh_eq, bCh_t, bCh_f, atI_0, atI_1, atI_2, atI_3, gFor_eq, bFor_s, gRet, gRetN, gRetO, gEx, gN, gT, gOw_eq, gOwF_eq, bOw_s, vLC_eq, vLCW_eq, bL_s, gFz, frz, gApp, gPut, gAug, gAugI, gNop, gFail, gClr, gPop, gRv, gIns, gPopAt, vSetLen, ownL, noIo_eq, nio_ob, nio_n, nio_fr, nio_ow, vN, vF, vC, vB, vTru, truD, vNot, imm, immL, ixDt, oN, oI, vSlL, vSlT, vRev, negD, vTup, vLst, vCB, lenD, absD, min2D, max2D, int1D, vIsi, isi_list, isi_int, isi_bool_i, isi_tuple, vListOf, immR, vItems, vItemsT, vRng1, vRng2, vEnum, vZip, capFr, capG, capOne, cTrue, addD_i, subD_i, ltD_i, leD_i, gtD_i, geD_i, xorD_i, eqD_i, neD_i, Int.reduceToNat, Int.reducePow, isD_n, isnD_n, isNoneD, List.length_cons, List.length_nil, List.map_cons, List.map_nil, List.replicate, List.cons_append, List.nil_append, List.append_nil, List.getElem?_cons_zero, List.getElem?_cons_succ, List.set_cons_zero, List.set_cons_succ, Nat.reduceAdd, Nat.reduceSub, Nat.reduceLeDiff, Nat.reduceEqDiff, Bool.and_true, Bool.true_and, Bool.not_true, Bool.not_false, Bool.false_eq_true, ↓reduceIte, if_true, if_false]))
variable {n : Nat} {ps : List Pas} {st g : Nat} {fl : List Int} {M : Int}
noncomputable def OnRes (ps : List Pas) (fl : List Int) (u k : Nat) (o : Out) : Prop :=
  (∃ (i : Nat) (q : Pas) (S' : GS), ps[i]? = some q ∧ q.a = u ∧ 0 < lf fl i ∧ o = Out.ret S' false (.int (i : Int))) ∨
  ((∀ (i : Nat) (q : Pas), k ≤ i → ps[i]? = some q → q.a = u → lf fl i ≤ 0) ∧ ∃ x3' x4', o = Out.nxt [some (Tg.fr, .list ((ps.map toPq).map pD)), some (Tg.fr, .int (u : Int)), some (Tg.fr, .list (fl.map .int)), ob x3', ob x4'])
theorem OnRes.step {u k : Nat} {o : Out} (h : OnRes ps fl u (k + 1) o) (h0 : ∀ q : Pas, ps[k]? = some q → q.a = u → lf fl k ≤ 0) : OnRes ps fl u k o := by
  rcases h with h | ⟨h1, h2⟩
  · exact .inl h
  · refine .inr ⟨fun i q hi e ha => ?_, h2⟩
    by_cases z : i = k
    · subst z; exact h0 q e ha
    · exact h1 i q (by omega) e ha
theorem on_loop {u : Nat} (hl : fl.length = ps.length) : ∀ (r : List Pas) (k : Nat) (x3 x4 : Option PyData), (∀ j : Nat, r[j]? = ps[k + j]?) →
    OnRes ps fl u k (forG (gT 2 (gC (gN 3) (gC (gN 4) g0)))
      (gIf (tAnd2 (vB (v2 eqD (v2 ixDt (vN 4) (vC (.int 0))) (vN 1))) (vB (v2 gtD (v2 ixDt (vN 2) (vN 3)) (vC (.int 0))))) (gRetO 3) gNop)
      (enumD k ((r.map toPq).map pD)) [some (Tg.fr, .list ((ps.map toPq).map pD)), some (Tg.fr, .int (u : Int)), some (Tg.fr, .list (fl.map .int)), ob x3, ob x4])
  | [], k, x3, x4, h => .inr ⟨fun i q hi e => by
      have := h (i - k)
      rw [show k + (i - k) = i by omega, e] at this
      simp at this, x3, x4, rfl⟩
  | q :: r, k, x3, x4, h => by
    have hk : ps[k]? = some q := (h 0).symm
    have hkl : k < fl.length := by rw [hl]; exact (List.getElem?_eq_some_iff.mp hk).1
    have hr : ∀ j : Nat, r[j]? = ps[k + 1 + j]? := fun j => by
      have := h (j + 1)
      rw [List.getElem?_cons_succ] at this
      rw [this]; congr 1; omega
    have ih := on_loop (u := u) hl r (k + 1) (some (.int (k : Int))) (some (pD (toPq q))) hr
    have e0 : enumD k (((q :: r).map toPq).map pD) = .tuple [.int (k : Int), pD (toPq q)] :: enumD (k + 1) ((r.map toPq).map pD) := rfl
    have e1 : pD (toPq q) = .tuple [.int (q.a : Int), .int (q.b : Int), .int q.w, .int q.l] := rfl
    rw [e0]
    simp only [forG]
    rw [e1] at ih ⊢
    simp only [ob_some] at ih
    by_cases ha : q.a = u
    · have e2 : ((q.a : Int) = (u : Int)) := by rw [ha]
      by_cases hf : 0 < lf fl k
      · walk_at "ev"
        simp only [e2, decide_true]
        walk_at "ev"
        rw [at_lf hkl]
        walk_at "ev"
        simp only [hf, decide_true]
        walk_at "ev"
        exact .inl ⟨k, q, _, hk, ha, hf, rfl⟩
      · walk_at "ev"
        simp only [e2, decide_true]
        walk_at "ev"
        rw [at_lf hkl]
        walk_at "ev"
        simp only [hf, decide_false]
        walk_at "ev"
        simp only [e2] at ih
        exact ih.step fun _ _ _ => by omega
    · have e2 : ¬ ((q.a : Int) = (u : Int)) := by omega
      walk_at "ev"
      simp only [e2, decide_false]
      walk_at "ev"
      exact ih.step fun q' e' ha' => by rw [hk] at e'; cases e'; exact absurd ha' ha
theorem e_on {u : Nat} (hl : fl.length = ps.length) : (∃ (i : Nat) (q : Pas), ps[i]? = some q ∧ q.a = u ∧ 0 < lf fl i ∧ Pg.m_passage_on [hD ps, .int (u : Int), .list (fl.map .int)] = some (false, .int (i : Int))) ∨
    ((∀ (i : Nat) q, ps[i]? = some q → q.a = u → lf fl i ≤ 0) ∧ Pg.m_passage_on [hD ps, .int (u : Int), .list (fl.map .int)] = some (false, .none)) := by
  unfold Pg.m_passage_on Pg.g_passage_on hD psD
  walk_at "ev"
  rcases on_loop (u := u) hl ps 0 none none (fun j => by rw [Nat.zero_add]) with ⟨i, q, S', h1, h2, h3, h4⟩ | ⟨h1, x3, x4, h2⟩
  · simp only [ob_none] at h4
    refine .inl ⟨i, q, h1, h2, h3, ?_⟩
    rw [h4]
    walk_at "ev"
  · simp only [ob_none] at h2
    refine .inr ⟨fun i q => h1 i q (Nat.zero_le _), ?_⟩
    rw [h2]
    walk_at "ev"
noncomputable def bodyA : VS := (gSeq (gAs (vCall Pg.m_passage_on (aC (vF 0) (aC (vF 5) (aC (vF 3) a0)))) (gN 6))
 (gSeq (gIf (vB (v2 isD (vN 6) (vC .none)))
 (gRetN (vLst a0))
 gNop)
 (gSeq (gApp 4 (aC (vF 6) a0))
 (gAs (v2 ixDt (v2 ixDt (vN 0) (vN 6)) (vC (.int 1))) (gN 5)))))
noncomputable def SA (ps : List Pas) (st g : Nat) (fl : List Int) (w : List Nat) (v : Nat) (x6 : Option PyData) : GS := [some (Tg.fr, hD ps), some (Tg.fr, .int (st : Int)), some (Tg.fr, .int (g : Int)), some (Tg.fr, .list (fl.map .int)), some (Tg.ow, .list (w.map natD)), some (Tg.fr, .int (v : Int)), ob x6]
theorem bodyA_go {w : List Nat} {v i : Nat} {q : Pas} {x6 : Option PyData} (hq : ps[i]? = some q) (e : Pg.m_passage_on [hD ps, .int (v : Int), .list (fl.map .int)] = some (false, .int (i : Int))) (hw : w.length ≤ 1000000) : bodyA (SA ps st g fl w v x6) = .nxt (SA ps st g fl (w ++ [i]) q.b (some (.int (i : Int)))) := by
  unfold bodyA SA
  walk_at "ev"
  rw [e]
  walk_at "ev"
  rw [if_pos (by rw [List.length_map]; exact size_big (by omega))]
  unfold hD psD
  walk_at "ev"
  rw [atI_of pD (show (ps.map toPq)[i]? = some (toPq q) by rw [List.getElem?_map, hq]; rfl)]
  unfold pD toPq
  walk_at "ev"
  rw [List.map_append]
  rfl
theorem along_go {ρ : Nat → Int} (hl : fl.length = ps.length) (hp : ps.length ≤ 1000) (K : Cons ps st g fl M) (hM : 0 < M) (hne : st ≠ g) (U : Up ps fl ρ) : ∀ (k : Nat) (w : List Nat) (v : Nat) (x6 : Option PyData), (ρ g - ρ v).toNat < k → goes ps st w = some v →
    (∀ j ∈ w, j < ps.length ∧ 0 < lf fl j ∧ ∀ q : Pas, ps[j]? = some q → ρ q.a < ρ v) → w.Nodup → (v = st ∧ w = [] ∨ w ≠ [] ∧ ∃ (i : Nat) (q : Pas) (f : Int), ps[i]? = some q ∧ fl[i]? = some f ∧ 0 < f ∧ q.b = v) →
    ∃ w', goes ps st w' = some g ∧ w'.Nodup ∧ (∀ j ∈ w', j < ps.length ∧ 0 < lf fl j) ∧ w' ≠ [] ∧ ∃ fuel x6', whileN (vB (v2 neD (vN 5) (vN 2))) bodyA fuel (SA ps st g fl w v x6) = .nxt (SA ps st g fl w' g x6') := fun k => by
  induction k with
  | zero => intro w v x6 h; omega
  | succ k ih =>
    intro w v x6 hk hw hj nd hv
    have cond : vB (v2 neD (vN 5) (vN 2)) (SA ps st g fl w v x6) = some (!decide ((v : Int) = (g : Int))) := by
      unfold SA
      walk_at "ev"
    by_cases hg : v = g
    · subst hg
      refine ⟨w, hw, nd, fun j h => ⟨(hj j h).1, (hj j h).2.1⟩, ?_, 1, x6, ?_⟩
      · rcases hv with ⟨z, _⟩ | ⟨h, _⟩
        · exact absurd z.symm hne
        · exact h
      · rw [whileN, cond]
        simp
    · have nx : ∃ (i : Nat) (q : Pas) (f : Int), ps[i]? = some q ∧ fl[i]? = some f ∧ 0 < f ∧ q.a = v := by
        rcases hv with ⟨z, _⟩ | ⟨_, i, q, f, a, b, c, d⟩
        · rw [z]; exact K.start hne hM
        · rw [← d]
          exact K.on (Int.le_of_lt hM) a b c (.inl (by rw [d]; exact hg))
      rcases e_on (u := v) hl with ⟨i, q, h1, h2, h3, h4⟩ | ⟨h1, _⟩
      · have hil : i < ps.length := (List.getElem?_eq_some_iff.mp h1).1
        have hfi : fl[i]? = some (lf fl i) := get_of (by rw [hl]; exact hil)
        have up := U i q _ h1 hfi h3
        have hi := K.high (Int.le_of_lt hM) U i q _ h1 hfi h3
        have hwl : w.length ≤ ps.length := nodup_lt nd fun j h => (hj j h).1
        obtain ⟨w', a1, a2, a3, a4, fuel, x6', a5⟩ := ih (w ++ [i]) q.b (some (.int (i : Int))) (by rw [← h2] at hk; omega) (goes_snoc h1 (by rw [h2]; exact hw)) (fun j h => by
          rcases List.mem_append.mp h with h | h
          · obtain ⟨b1, b2, b3⟩ := hj j h
            exact ⟨b1, b2, fun q' e' => by have := b3 q' e'; rw [h2] at up; omega⟩
          · rw [List.mem_singleton.mp h]
            exact ⟨hil, h3, fun q' e' => by rw [h1] at e'; cases e'; exact up⟩) (by
          refine List.nodup_append.mpr ⟨nd, by simp, ?_⟩
          intro x hx y hy
          rw [List.mem_singleton.mp hy]
          intro z
          have := (hj x hx).2.2 q (by rw [z]; exact h1)
          rw [h2] at this; omega) (.inr ⟨by simp, i, q, _, h1, hfi, h3, rfl⟩)
        refine ⟨w', a1, a2, a3, a4, fuel + 1, x6', ?_⟩
        refine whileN_go ?_ (bodyA_go h1 h4 (by omega)) a5
        rw [cond]
        have : ¬ ((v : Int) = (g : Int)) := by omega
        simp only [this, decide_false]
        rfl
      · obtain ⟨i, q, f, a, b, c, d⟩ := nx
        have := h1 i q a d
        rw [lf_get b] at this
        omega
theorem e_along {ρ : Nat → Int} (hl : fl.length = ps.length) (hp : ps.length ≤ 1000) (K : Cons ps st g fl M) (hM : 0 < M) (hne : st ≠ g) (U : Up ps fl ρ) : ∃ w : List Nat, goes ps st w = some g ∧ w.Nodup ∧ (∀ j ∈ w, j < ps.length ∧ 0 < lf fl j) ∧ w ≠ [] ∧ Pg.m_walk_along [hD ps, .int (st : Int), .int (g : Int), .list (fl.map .int)] = some (true, .list (w.map natD)) := by
  obtain ⟨w, h1, h2, h3, h4, fuel, x6, h5⟩ := along_go hl hp K hM hne U _ [] st none (Nat.lt_succ_self _) rfl (by simp) .nil (.inl ⟨rfl, rfl⟩)
  refine ⟨w, h1, h2, h3, h4, ?_⟩
  have h6 := gWh_eq h5 (by intro z; cases z)
  unfold SA at h6
  unfold bodyA at h6
  unfold Pg.m_walk_along Pg.g_walk_along
  walk_at "ev"
  simp only [ob_none, List.map_nil] at h6
  rw [h6]
  walk_at "ev"
theorem e_along0 {ρ : Nat → Int} (hl : fl.length = ps.length) (K : Cons ps st g fl 0) (hne : st ≠ g) (U : Up ps fl ρ) : (∀ i : Nat, i < ps.length → lf fl i = 0) ∧ Pg.m_walk_along [hD ps, .int (st : Int), .int (g : Int), .list (fl.map .int)] = some (true, .list []) := by
  have z : ∀ i : Nat, i < ps.length → lf fl i = 0 := fun i hi => K.none U i _ _ (List.getElem?_eq_getElem hi) (get_of (by rw [hl]; exact hi))
  refine ⟨z, ?_⟩
  rcases e_on (u := st) hl with ⟨i, q, h1, h2, h3, h4⟩ | ⟨_, h1⟩
  · have := z i (List.getElem?_eq_some_iff.mp h1).1
    omega
  · unfold Pg.m_walk_along Pg.g_walk_along
    walk_at "ev"
    have hw : ∀ S x6, whileN (vB (v2 neD (vN 5) (vN 2))) bodyA 1 (SA ps st g fl [] st x6) = S → S = .ret ((SA ps st g fl [] st (some .none))) true (.list []) := fun S x6 h => by
      rw [← h, whileN]
      have cond : vB (v2 neD (vN 5) (vN 2)) (SA ps st g fl [] st x6) = some true := by
        unfold SA
        walk_at "ev"
        have : ¬ ((st : Int) = (g : Int)) := by omega
        simp only [this, decide_false]
        rfl
      rw [cond]
      simp only
      have eb : bodyA (SA ps st g fl [] st x6) = .ret (SA ps st g fl [] st (some .none)) true (.list []) := by
        unfold bodyA SA
        walk_at "ev"
        rw [h1]
        walk_at "ev"
      rw [eb]
    have h6 := gWh_eq (hw _ none rfl) (by intro z; cases z)
    unfold SA bodyA at h6
    simp only [ob_none, List.map_nil] at h6
    rw [h6]
    walk_at "ev"
noncomputable def wkD (x : List Nat × Int) : PyData := .tuple [.list (x.1.map natD), .int x.2]
theorem immL_nat : ∀ w : List Nat, immL (w.map natD) = true
  | [] => rfl
  | j :: w => by simp only [List.map_cons, natD, immL, imm, Bool.true_and]; exact immL_nat w
noncomputable def bodyK : VS := (gSeq (gAs (vCallW Pg.m_walk_along (aC (vN 0) (aC (vN 1) (aC (vN 2) (aC (vN 4) a0))))) (gN 6))
 (gSeq (gIf (tNot2 (vTru (vN 6)))
 (gRetO 5)
 gNop)
 (gSeq (gAs (vCB minD (aC (vLCW (vItems (vF 6)) [none, some 4] (gN 0) cTrue (v2 ixDt (vN 1) (vN 0))) a0)) (gN 7))
 (gSeq (gFor (vItems (vF 6)) (gN 8)
 (gAugI subD 4 (vN 8) (vF 7)))
 (gApp 5 (aC (vTup (aC (vF 6) (aC (vF 7) a0))) a0))))))
noncomputable def SK (ps : List Pas) (st g : Nat) (fl0 : List Int) (fl : List Int) (ws : List (List Nat × Int)) (x6 x7 x8 : Option PyData) : GS := [some (Tg.fr, hD ps), some (Tg.fr, .int (st : Int)), some (Tg.fr, .int (g : Int)), some (Tg.fr, .list (fl0.map .int)), some (Tg.ow, .list (fl.map .int)), some (Tg.ow, .list (ws.map wkD)), ob x6, ob x7, ob x8]
theorem bodyK_go {fl0 : List Int} {acc : List (List Nat × Int)} {x6 x7 x8 : Option PyData} {w : List Nat} (hl : fl.length = ps.length) (hp : ps.length ≤ 1000) (ha : acc.length ≤ 1000000) (nd : w.Nodup) (hw : ∀ j ∈ w, j < ps.length ∧ 0 < lf fl j) (wn : w ≠ []) (e : Pg.m_walk_along [hD ps, .int (st : Int), .int (g : Int), .list (fl.map .int)] = some (true, .list (w.map natD))) :
    ∃ m y6 y7 y8, 1 ≤ m ∧ (∀ j ∈ w, m ≤ lf fl j) ∧ (∃ j ∈ w, lf fl j = m) ∧ bodyK (SK ps st g fl0 fl acc x6 x7 x8) = .nxt (SK ps st g fl0 (takeW m fl w) (acc ++ [(w, m)]) y6 y7 y8) := by
  have hwl : w.length ≤ ps.length := nodup_lt nd fun j h => (hw j h).1
  obtain ⟨l1, l2⟩ := leastOf_spec (ns := w.map (lf fl)) (by simpa using wn)
  generalize hm : leastOf (w.map (lf fl)) = m at *
  obtain ⟨j0, hj0, ej0⟩ := List.mem_map.mp l1
  have key : ∀ (rs : List Nat) (L : List Int) (A B : PyData) (x : Option PyData), L.length = ps.length → (∀ j ∈ rs, j < ps.length) → ∃ x',
      forG (gN 8) (gAugI subD 4 (vN 8) (vF 7)) (rs.map natD) [some (Tg.fr, hD ps), some (Tg.fr, .int (st : Int)), some (Tg.fr, .int (g : Int)), some (Tg.fr, .list (fl0.map .int)), some (Tg.ow, .list (L.map .int)), some (Tg.ow, A), some (Tg.fr, B), some (Tg.fr, .int m), ob x]
        = .nxt [some (Tg.fr, hD ps), some (Tg.fr, .int (st : Int)), some (Tg.fr, .int (g : Int)), some (Tg.fr, .list (fl0.map .int)), some (Tg.ow, .list ((takeW m L rs).map .int)), some (Tg.ow, A), some (Tg.fr, B), some (Tg.fr, .int m), ob x'] := fun rs => by
    induction rs with
    | nil => intro L A B x _ _; exact ⟨x, rfl⟩
    | cons j rs ih =>
      intro L A B x hL hj
      have h1 := hj j List.mem_cons_self
      obtain ⟨x', hx⟩ := ih (takeJ m L j) A B (some (.int (j : Int))) (by rw [takeJ_len]; exact hL) fun i hi => hj i (List.mem_cons_of_mem _ hi)
      refine ⟨x', ?_⟩
      rw [List.map_cons, forG]
      unfold natD
      walk_at "ev"
      rw [List.length_map, ixN_of (by omega)]
      walk_at "ev"
      rw [get_lf (by omega)]
      walk_at "ev"
      rw [← List.map_set]
      simp only [ob_some] at hx
      exact hx
  obtain ⟨x', hx⟩ := key w fl (.list (acc.map wkD)) (.list (w.map natD)) x8 hl fun j h => (hw j h).1
  refine ⟨m, some (.list (w.map natD)), some (.int m), x', ?_, fun j h => l2 _ (List.mem_map.mpr ⟨j, h, rfl⟩), ⟨j0, hj0, ej0⟩, ?_⟩
  · have := (hw j0 hj0).2
    omega
  unfold bodyK SK
  walk_at "ev"
  rw [e]
  walk_at "ev"
  rw [immL_nat]
  walk_at "ev"
  have et : (w.map natD).isEmpty = false := by cases w with | nil => exact absurd rfl wn | cons a r => rfl
  simp only [et]
  walk_at "ev"
  rw [bLCW_s (by rw [List.length_map]; exact size_big (by omega))]
  rw [lcD_map (f := fun d => match d with | .int m => .int (lf fl m.toNat) | _ => .none) (by
    intro d hd
    obtain ⟨j, h, rfl⟩ := List.mem_map.mp hd
    refine ⟨[some (Tg.fr, .int (j : Int)), some (Tg.fr, .list (fl.map .int))], ?_, rfl, ?_⟩
    · unfold natD; walk_at "ev"
    · have := (hw j h).1
      walk_at "ev"
      rw [at_lf (by omega)]
      rfl)]
  rw [List.map_map]
  have em : w.map ((fun d => match d with | .int m => PyData.int (lf fl m.toNat) | _ => .none) ∘ natD) = (w.map (lf fl)).map PyData.int := by
    rw [List.map_map]
    exact List.map_congr_left fun m _ => by simp [natD]
  rw [em]
  walk_at "ev"
  have eM : minD [.list ((w.map (lf fl)).map PyData.int)] = some (.int m) := by
    simp only [minD, intsOf_map]
    cases w with
    | nil => exact absurd rfl wn
    | cons a r => simp only [List.map_cons] at hm ⊢; rw [hm]
  rw [eM]
  walk_at "ev"
  rw [hx]
  walk_at "ev"
  rw [if_pos (by rw [List.length_map]; exact size_big (by omega))]
  rw [List.map_append]
  rfl
theorem walks_go {ρ : Nat → Int} {fl0 : List Int} (hp : ps.length ≤ 1000) (hne : st ≠ g) : ∀ (k : Nat) (fl : List Int) (M : Int) (acc : List (List Nat × Int)) (x6 x7 x8 : Option PyData), cntP fl < k → fl.length = ps.length → Cons ps st g fl M → 0 ≤ M → Up ps fl ρ → acc.length + cntP fl ≤ 1000000 →
    ∃ ws fuel S', Parted ps st g fl ws ∧ whileN (vB (vC (.bool true))) bodyK fuel (SK ps st g fl0 fl acc x6 x7 x8) = .ret S' true (.list ((acc ++ ws).map wkD)) := fun k => by
  induction k with
  | zero => intro fl M acc x6 x7 x8 h; omega
  | succ k ih =>
    intro fl M acc x6 x7 x8 hk hl K hM U hacc
    by_cases hz : M = 0
    · subst hz
      obtain ⟨z, e⟩ := e_along0 hl K hne U
      refine ⟨[], 1, (SK ps st g fl0 fl acc (some (.list [])) x7 x8).set 5 none, Parted.nil z, ?_⟩
      refine whileN_ret rfl ?_
      unfold bodyK SK
      walk_at "ev"
      rw [e]
      walk_at "ev"
      simp only [List.isEmpty_nil]
      walk_at "ev"
    · obtain ⟨w, h1, h2, h3, h4, h5⟩ := e_along hl hp K (by omega) hne U
      obtain ⟨m, y6, y7, y8, m1, m2, m3, eb⟩ := bodyK_go (fl0 := fl0) (acc := acc) (x6 := x6) (x7 := x7) (x8 := x8) hl hp (by omega) h2 h3 h4 h5
      have hi' : ∀ j ∈ w, j < fl.length := fun j hj => by rw [hl]; exact (h3 j hj).1
      have K' := K.take hl h1 h2 (fun j hj => (h3 j hj).1) m2
      have U' : Up ps (takeW m fl w) ρ := U.take (by omega) h2 hi'
      obtain ⟨j0, hj0, ej0⟩ := m3
      have hlt : cntP (takeW m fl w) < cntP fl := cntP_lt (takeW_len ..) (fun i h => take_pos (by omega) h2 hi' h) ⟨j0, by rw [takeW_lf h2 hi' j0, if_pos hj0]; omega, by omega⟩
      have hM' : 0 ≤ M - m := by
        by_cases z : 0 ≤ M - m
        · exact z
        ·
          exact K.most hl hne U hM h1 (fun j hj => (h3 j hj).1) m2 h4
      obtain ⟨ws, fuel, S', P, e⟩ := ih (takeW m fl w) (M - m) (acc ++ [(w, m)]) y6 y7 y8 (by omega) (by rw [takeW_len]; exact hl) K' hM' U' (by rw [List.length_append]; simp only [List.length_cons, List.length_nil]; omega)
      refine ⟨(w, m) :: ws, fuel + 1, S', P.more hl ⟨h1, h2, fun j hj => (h3 j hj).1, h4, m1⟩ m2 ⟨j0, hj0, ej0⟩, ?_⟩
      refine whileN_go rfl eb ?_
      rw [e, List.append_assoc]
      rfl
theorem e_walks {ρ : Nat → Int} (hl : fl.length = ps.length) (hp : ps.length ≤ 1000) (hne : st ≠ g) (K : Cons ps st g fl M) (hM : 0 ≤ M) (U : Up ps fl ρ) : ∃ ws, Parted ps st g fl ws ∧ Pg.m_walks_of [hD ps, .int (st : Int), .int (g : Int), .list (fl.map .int)] = some (true, .list (ws.map wkD)) := by
  obtain ⟨ws, fuel, S', P, e⟩ := walks_go (fl0 := fl) hp hne _ fl M [] none none none (Nat.lt_succ_self _) hl K hM U (by have := cntP_len fl; simp; omega)
  refine ⟨ws, P, ?_⟩
  have e2 := gWh_eq e (by intro z; cases z)
  unfold SK bodyK at e2
  simp only [ob_none, List.map_nil, List.nil_append] at e2
  unfold Pg.m_walks_of Pg.g_walks_of
  walk_at "ev"
  rw [e2]
  walk_at "ev"
end LH
namespace LH
open PySem L2 VM Sp PM
local macro_rules | `(tactic| walk_at "ev") => `(tactic| (try simp only [fnM_eq, ob_some, ob_none, bFn_r, bFn_n, ini, gSeq_eq, bSeq_n, bSeq_r, bSeq_b, bSeq_c, gIf_eq, bIf_t, bIf_f, tAnd_eq, bAnd_t, bAnd_f, tOr_eq, bOr_t, bOr_f, tNot2, vAnd_eq, bAndE_t, bAndE_f, vOr_eq, bOrE_t, bOrE_f, vIf_eq, bIfE_t, bIfE_f, v2_eq, b2_s, b1_s, v1_eq, aC_eq, bC_s, bC1_s, a0, gAs_eq, bAs_s, bNx_s, gC_eq, bG_s, g0, vCall_eq, bCall_s, vCallN_eq, bCallN_s, vCallW_eq, bCallW_s, bResW_s, vCallWN_eq, bCallWN_s, bResWN_s, bIm_t, vImm_eq, bImm_s, bRes_s, bResN_s, vCh_eq, bCh_t, bCh_f, atI_0, atI_1, atI_2, atI_3, gFor_eq, bFor_s, gRet, gRetN, gRetO, gEx, gN, gT, gOw_eq, gOwF_eq, bOw_s, vLC_eq, vLCW_eq, bL_s, gFz, frz, gApp, gPut, gAug, gAugI, gNop, gFail, gClr, gPop, gRv, gIns, gPopAt, vSetLen, ownL, noIo_eq, nio_ob, nio_n, nio_fr, nio_ow, vN, vF, vC, vB, vTru, truD, vNot, imm, immL, ixDt, oN, oI, vSlL, vSlT, vRev, negD, vTup, vLst, vCB, lenD, absD, min2D, max2D, int1D, vIsi, isi_list, isi_int, isi_bool_i, isi_tuple, vListOf, immR, vItems, vItemsT, vRng1, vRng2, vEnum, vZip, capFr, capG, capOne, cTrue, addD_i, subD_i, ltD_i, leD_i, gtD_i, geD_i, xorD_i, eqD_i, neD_i, Int.reduceToNat, Int.reducePow, isD_n, isnD_n, isNoneD, List.length_cons, List.length_nil, List.map_cons, List.map_nil, List.replicate, List.cons_append, List.nil_append, List.append_nil, List.getElem?_cons_zero, List.getElem?_cons_succ, List.set_cons_zero, List.set_cons_succ, Nat.reduceAdd, Nat.reduceSub, Nat.reduceLeDiff, Nat.reduceEqDiff, Bool.and_true, Bool.true_and, Bool.not_true, Bool.not_false, Bool.false_eq_true, ↓reduceIte, if_true, if_false]))
variable {n : Nat} {ps : List Pas} {st g : Nat} {fl : List Int} {M T C : Int}
theorem e_lengthP {w : List Nat} (hw : ∀ j ∈ w, j < ps.length) (hl : w.length ≤ 1000) : Pg.m_length_of [hD ps, .list (w.map natD)] = some (false, .int (alongF Pas.l ps w)) := by
  unfold Pg.m_length_of Pg.g_length_of hD psD
  walk_at "ev"
  rw [bLC_s rfl (by rw [List.length_map]; exact size_big (by omega))]
  rw [lcD_map (f := fun d => match d with | .int j => .int (atF Pas.l ps j.toNat) | _ => .none) (by
    intro d hd
    obtain ⟨j, hj, rfl⟩ := List.mem_map.mp hd
    have e := List.getElem?_eq_getElem (hw j hj)
    refine ⟨[some (Tg.fr, .int (j : Int)), some (Tg.fr, .list ((ps.map toPq).map pD))], ?_, rfl, ?_⟩
    · unfold natD; walk_at "ev"
    · walk_at "ev"
      rw [atI_of pD (show (ps.map toPq)[j]? = some (toPq (ps[j]'(hw j hj))) by rw [List.getElem?_map, e]; rfl)]
      unfold pD toPq natD
      walk_at "ev"
      simp only [Int.toNat_natCast, atF_some e])]
  walk_at "ev"
  rw [List.map_map]
  have e : (w.map ((fun d => match d with | .int j => PyData.int (atF Pas.l ps j.toNat) | _ => .none) ∘ natD)) = (w.map (atF Pas.l ps)).map .int := by
    rw [List.map_map]
    exact List.map_congr_left fun j _ => by simp [natD]
  rw [e]
  simp only [sumD, intsOf_map]
  walk_at "ev"
  rfl
structure OutOk (n : Nat) (ps : List Pas) (st g : Nat) (T W : Int) (ws : List (List Nat × Int)) (μs : List Int) : Prop where
  flow : ∃ fl M C, FlowOk n ps st g T fl M C ∧ W = M * (T + 1) - C ∧ Parted ps st g fl ws
  short : ∀ x ∈ ws, alongF Pas.l ps x.1 ≤ T
  ppl : W = (ws.map fun x => x.2 * (T - alongF Pas.l ps x.1 + 1)).sum
  ml : μs.length = n
  m0 : lf μs st = 0
  m1 : lf μs g = T + 1
  mb : ∀ v, v < n → 0 ≤ lf μs v ∧ lf μs v ≤ T + 1
  dual : W = (ps.map (over (lf μs))).sum
theorem OutOk.weak {W : Int} {ws : List (List Nat × Int)} {μs : List Int} (Hh : Hall n ps) (hst : st < n) (hg : g < n) (O : OutOk n ps st g T W ws μs) {μ : Nat → Int} (m0 : μ st = 0) (m1 : μ g = T + 1) : W ≤ (ps.map (over μ)).sum := by
  obtain ⟨fl, M, C, F, e, _⟩ := O.flow
  have := weak_dual Hh hst hg F.lo F.net F.cost m0 m1
  rw [zs_const _ F.len] at this
  omega
end LH
namespace LH
open PySem L2 VM Sp PM
noncomputable def owB (v : Option PyData) : Option (Tg × PyData) := v.map fun d => (Tg.ow, d)
theorem owB_some (d : PyData) : owB (some d) = some (Tg.ow, d) := rfl
theorem owB_none : owB none = none := rfl
theorem nio_owB (o : Option PyData) : nio (some (owB o)) = true := by cases o <;> rfl
theorem depth_ints (xs : List Int) : PyData.depthAll (xs.map PyData.int) ≤ 1 := by
  induction xs with
  | nil => simp [PyData.depthAll]
  | cons a v ih => simp only [List.map_cons, PyData.depthAll, PyData.depth]; omega
theorem can_ints (xs : List Int) : PyData.canLayAll0 (xs.map PyData.int) = true := by
  induction xs with
  | nil => rfl
  | cons a v ih => simp only [List.map_cons, PyData.canLayAll0, PyData.canLay0, ih, Bool.and_true]
theorem lfSet {L : List Int} {i : Nat} {x : Int} (h : i < L.length) (j : Nat) : lf (L.set i x) j = if j = i then x else lf L j := by
  by_cases e : j = i
  · subst e
    rw [if_pos rfl]
    unfold lf
    rw [List.getD_eq_getElem?_getD, List.getElem?_set_self h]; rfl
  · rw [if_neg e]
    unfold lf
    rw [List.getD_eq_getElem?_getD, List.getD_eq_getElem?_getD, List.getElem?_set_ne (fun z => e z.symm)]
end LH
namespace LH
open PySem L2 VM Sp PM
variable {n : Nat} {ps ps' : List Pas} {st g : Nat} {T W W' : Int}
noncomputable def IsOut (n : Nat) (ps : List Pas) (st g : Nat) (T W : Int) : Prop := ∃ ws μs, OutOk n ps st g T W ws μs
theorem IsOut.nn (O : IsOut n ps st g T W) : 0 ≤ W := by
  obtain ⟨ws, μs, O⟩ := O
  obtain ⟨fl, M, C, F, e, _⟩ := O.flow
  have := F.W0
  omega
theorem IsOut.dual (O : IsOut n ps st g T W) : ∃ μ : Nat → Int, μ st = 0 ∧ μ g = T + 1 ∧ W = (ps.map (over μ)).sum := by
  obtain ⟨ws, μs, O⟩ := O
  exact ⟨lf μs, O.m0, O.m1, O.dual⟩
theorem IsOut.weak (Hh : Hall n ps) (hst : st < n) (hg : g < n) (O : IsOut n ps st g T W) {μ : Nat → Int} (m0 : μ st = 0) (m1 : μ g = T + 1) : W ≤ (ps.map (over μ)).sum := by
  obtain ⟨ws, μs, O⟩ := O
  exact O.weak Hh hst hg m0 m1
theorem IsOut.sub (Hh : Hall n ps) (hst : st < n) (hg : g < n) (O : IsOut n ps st g T W) (O' : IsOut n ps' st g T W') (h : ∀ μ : Nat → Int, (ps.map (over μ)).sum ≤ (ps'.map (over μ)).sum) : W ≤ W' := by
  obtain ⟨μ, m0, m1, d⟩ := O'.dual
  have := O.weak Hh hst hg m0 m1
  have := h μ
  omega
noncomputable def wideBy (y : Int) (q : Pas) : Pas := ⟨q.a, q.b, q.w * y, q.l⟩
theorem over_wideBy (y : Int) (q : Pas) (μ : Nat → Int) : over μ (wideBy y q) = over μ q * y := by
  unfold over wideBy
  simp only
  split
  · rw [Int.mul_assoc, Int.mul_comm y, ← Int.mul_assoc]
  · rw [Int.zero_mul]
theorem sum_by (F G : Pas → Int) (y : Int) (h : ∀ q, G q = F q * y) : ∀ ps : List Pas, (ps.map G).sum = (ps.map F).sum * y
  | [] => by simp
  | q :: r => by rw [List.map_cons, List.sum_cons, List.map_cons, List.sum_cons, sum_by F G y h r, h q, Int.add_mul]
theorem IsOut.wide {y : Int} (y1 : 1 ≤ y) (Hh : Hall n ps) (Hh' : Hall n (ps.map (wideBy y))) (hst : st < n) (hg : g < n) (O : IsOut n ps st g T W) (O' : IsOut n (ps.map (wideBy y)) st g T W') : W' = W * y := by
  have e : ∀ μ : Nat → Int, ((ps.map (wideBy y)).map (over μ)).sum = (ps.map (over μ)).sum * y := fun μ => by
    rw [List.map_map]
    exact sum_by _ _ y (fun q => over_wideBy y q μ) ps
  obtain ⟨μ, m0, m1, d⟩ := O.dual
  obtain ⟨μ', m0', m1', d'⟩ := O'.dual
  have h1 := O'.weak Hh' hst hg m0 m1
  have h2 := O.weak Hh hst hg m0' m1'
  rw [e, ← d] at h1
  rw [e] at d'
  have h3 := Int.mul_le_mul_of_nonneg_right h2 (show 0 ≤ y by omega)
  omega
noncomputable def ren (o : Nat → Nat) (q : Pas) : Pas := ⟨o q.a, o q.b, q.w, q.l⟩
theorem sum_reverse : ∀ xs : List Int, xs.reverse.sum = xs.sum
  | [] => rfl
  | x :: r => by rw [List.reverse_cons, List.sum_append, sum_reverse r, List.sum_cons]; simp; omega
theorem IsOut.turned {o : Nat → Nat} (inj : ∀ u v, u < n → v < n → o u = o v → u = v) (Hh : Hall n ps) (Hh' : Hall n ((ps.map (ren o)).reverse)) (hst : st < n) (hg : g < n) (hst' : o st < n) (hg' : o g < n) (O : IsOut n ps st g T W) (O' : IsOut n ((ps.map (ren o)).reverse) (o st) (o g) T W') : W' = W := by
  have e : ∀ μ' μ : Nat → Int, (∀ v, v < n → μ' (o v) = μ v) → ((ps.map (ren o)).reverse.map (over μ')).sum = (ps.map (over μ)).sum := fun μ' μ h => by
    rw [List.map_reverse, sum_reverse, List.map_map]
    congr 1
    refine List.map_congr_left fun q hq => ?_
    have h1 := h q.a (Hh.ra q hq)
    have h2 := h q.b (Hh.rb q hq)
    simp only [Function.comp, over, ren, h1, h2]
  obtain ⟨μ, m0, m1, d⟩ := O.dual
  obtain ⟨μ', m0', m1', d'⟩ := O'.dual
  have h1 := O.weak Hh hst hg (μ := fun v => μ' (o v)) m0' m1'
  rw [← e μ' _ (fun v _ => rfl), ← d'] at h1
  have inv : ∃ i : Nat → Nat, ∀ v, v < n → i (o v) = v := by
    refine ⟨fun x => (@dite _ (∃ v, v < n ∧ o v = x) (Classical.propDecidable _) (fun h => h.choose) (fun _ => 0)), fun v hv => ?_⟩
    have ex : ∃ u, u < n ∧ o u = o v := ⟨v, hv, rfl⟩
    simp only
    rw [dif_pos ex]
    exact inj _ _ ex.choose_spec.1 hv ex.choose_spec.2
  obtain ⟨i, hi⟩ := inv
  have h2 := O'.weak Hh' hst' hg' (μ := fun x => μ (i x)) (by simp only [hi st hst, m0]) (by simp only [hi g hg, m1])
  rw [e _ μ (fun v hv => by simp only [hi v hv]), ← d] at h2
  omega
end LH
namespace LH
open PySem L2 VM Sp PM
variable {n : Nat} {ps : List Pas} {st g : Nat} {T W : Int}
structure HallW (n : Nat) (ps : List Pas) : Prop where
  hall : Hall n ps
  few : ps.length ≤ 12
  w : ∀ q ∈ ps, q.w < 10000000000000000000000000000000000000000000000000000000000000000000000000000000000000000000000000000
theorem insAt_map {α β : Type} (f : α → β) (k : Nat) (x : α) (xs : List α) : (insAt k x xs).map f = insAt k (f x) (xs.map f) := by
  unfold insAt
  rw [List.map_append, List.map_cons, List.map_take, List.map_drop]
theorem mem_insAt {α : Type} {k : Nat} {x y : α} {xs : List α} (h : y ∈ insAt k x xs) : y = x ∨ y ∈ xs := by
  unfold insAt at h
  rcases List.mem_append.mp h with h | h
  · exact .inr (List.mem_of_mem_take h)
  · rcases List.mem_cons.mp h with h | h
    · exact .inl h
    · exact .inr (List.mem_of_mem_drop h)
theorem len_insAt {α : Type} (k : Nat) (x : α) (xs : List α) : (insAt k x xs).length = xs.length + 1 := by
  unfold insAt
  rw [List.length_append, List.length_cons, List.length_take, List.length_drop]
  omega
theorem nodup_insAt {k x : Nat} {xs : List Nat} (nd : xs.Nodup) (hx : x ∉ xs) : (insAt k x xs).Nodup := by
  unfold insAt
  have e : xs = xs.take k ++ xs.drop k := (List.take_append_drop k xs).symm
  rw [e] at nd hx
  obtain ⟨n1, n2, n3⟩ := List.nodup_append.mp nd
  refine List.nodup_append.mpr ⟨n1, List.nodup_cons.mpr ⟨fun z => hx (List.mem_append.mpr (.inr z)), n2⟩, ?_⟩
  intro a ha b hb
  rcases List.mem_cons.mp hb with rfl | hb
  · intro z; subst z; exact hx (List.mem_append.mpr (.inl ha))
  · exact n3 a ha b hb
theorem HallW.all {ps' : List Pas} (H : HallW n ps) (hl : ps'.length ≤ 12) (h : ∀ q ∈ ps', q ∈ ps ∨ (q.a < n ∧ q.b < n ∧ q.a ≠ q.b ∧ 1 ≤ q.w ∧ 1 ≤ q.l ∧ q.w < 10000000000000000000000000000000000000000000000000000000000000000000000000000000000000000000000000000)) : HallW n ps' := by
  refine ⟨⟨?_, ?_, ?_, ?_, ?_⟩, hl, ?_⟩ <;> (intro q hq; rcases h q hq with z | z)
  · exact H.hall.ra q z
  · exact z.1
  · exact H.hall.rb q z
  · exact z.2.1
  · exact H.hall.ne q z
  · exact z.2.2.1
  · exact H.hall.w1 q z
  · exact z.2.2.2.1
  · exact H.hall.l1 q z
  · exact z.2.2.2.2.1
  · exact H.w q z
  · exact z.2.2.2.2.2
end LH
namespace K21
open PySem L2 VM
seal L2.PE L2.PT L2.PW L2.PA L2.PS L2.PSs L2.PG L2.PGs L2.PI L2.PIfs L2.PO L2.OpR L2.UnR L2.CallR L2.IxR L2.MtR L2.PSet L2.PIp VM.OpD VM.CallD
set_option maxHeartbeats 4000000
noncomputable def top (i : Nat) : Stmt := PySem.Challenge.pw_leavehall_k21_flows_parted.main.body.getD i (.Pass ⟨0, 0, 0, 0⟩)
theorem sc_length_of : FnScope ["passages", "walk"] ["passages", "walk"] (defScope (top 1)) := ⟨rfl, rfl, rfl, by decide +kernel, rfl, by decide +kernel, by decide +kernel⟩
theorem ok_length_of {P : Program} {w : World} {K : PySem.W.Frag} {mg : Str → Option Value} {base : Heap} {f : Addr} {fd : FuncData} (F : Fun K "length_of" "length_of" (top 1) f fd) (B : Bl mg) (KT : Kits K)  : FnOk P w K mg base CX0 1 f fd ["passages", "walk"] (spV K Pg.m_length_of) := by
  have nd := sc_length_of.nd
  have vt := (show (["passages", "walk"] : List Str).all (fun x => visB (defScope (top 1)) x && plain x) = true by decide +kernel)
  refine fnV (k := 0) (n := 2) (nN := 2) (g := Pg.g_length_of) F sc_length_of rfl rfl fun cdv A outer s H E hr => ?_
  exact (sOne (sRet (dCB (pe_callB (cSum rfl) (gl (sc := (defScope (top 1))) (by decide +kernel)) B.sum PyProof.Rows.boot_sum (pwC (nw (dLC (pe_lc (te := tV K RS _) (tc := tVT K _) (g := tVG K _ _) (N' := ["number", "passages"]) (cap := [none, some 0]) ["passages", "walk"] (defScope (top 1)) rfl (by decide +kernel) rfl rfl (itL (dF (pV vt 1))) (fun _ _ _ _ _ => (tgN (pgC (i := 0) (show (["number", "passages"] : List Str).Nodup by decide +kernel) (by decide +kernel)))) (fun _ _ _ _ _ => ifN) (fun _ _ _ _ _ => (dIx (sm (dIx (dN (pVc (by decide +kernel) 1)) (mw (dN (pVc (by decide +kernel) 0))))) (sw dInt)))))) pw0)) hSum)))
theorem sc_passage_on : FnScope ["passages", "room", "left", "number", "passage"] ["passages", "room", "left"] (defScope (top 4)) := ⟨rfl, rfl, rfl, by decide +kernel, rfl, by decide +kernel, by decide +kernel⟩
theorem ok_passage_on {P : Program} {w : World} {K : PySem.W.Frag} {mg : Str → Option Value} {base : Heap} {f : Addr} {fd : FuncData} (F : Fun K "passage_on" "passage_on" (top 4) f fd) (B : Bl mg) (KT : Kits K)  : FnOk P w K mg base CX0 1 f fd ["passages", "room", "left"] (spV K Pg.m_passage_on) := by
  have nd := sc_passage_on.nd
  have vt := (show (["passages", "room", "left", "number", "passage"] : List Str).all (fun x => visB (defScope (top 4)) x && plain x) = true by decide +kernel)
  refine fnV (k := 0) (n := 3) (nN := 5) (g := Pg.g_passage_on) F sc_passage_on rfl rfl fun cdv A outer s H E hr => ?_
  exact (sSeq (sFor (ps_for PassesOwn.never rfl (itE (pi_enum (gl (sc := (defScope (top 4))) (by decide +kernel)) B.enumerate (paC (dF (pV vt 0)) pa0))) (tgT (n := 2) rfl (tgC (tgN (pg_name (i := 3) nd rfl (lo (sc := (defScope (top 4))) (by decide +kernel)))) (tgC (tgN (pg_name (i := 4) nd rfl (lo (sc := (defScope (top 4))) (by decide +kernel)))) tg0)))
 (sOne (sIf (PW.pt (wAnd (cCmp (op_eqD hr.units) hEq (sw (dIx (dN (pV vt 4)) (sw dInt))) (mw (dN (pV vt 1)))) (wAnd1 (cCmp oGt hGt (sw (dIx (dN (pV vt 2)) (mw (dN (pV vt 3))))) (sw dInt)))))
 (sOne (sRetO (pV vt 3)))
 sNil))))
 (sOne (sRet dNone)))
theorem sc_walk_along : FnScope ["passages", "start", "goal", "left", "walk", "room", "number"] ["passages", "start", "goal", "left"] (defScope (top 3)) := ⟨rfl, rfl, rfl, by decide +kernel, rfl, by decide +kernel, by decide +kernel⟩
theorem ok_walk_along {P : Program} {w : World} {K : PySem.W.Frag} {mg : Str → Option Value} {base : Heap} {f : Addr} {fd : FuncData} (F : Fun K "walk_along" "walk_along" (top 3) f fd) (B : Bl mg) (KT : Kits K) (Cpassage_on : Cal P w K mg base 1 "passage_on" ["passages", "room", "left"] (spV K Pg.m_passage_on)) : FnOk P w K mg base CX0 2 f fd ["passages", "start", "goal", "left"] (spV K Pg.m_walk_along) := by
  have nd := sc_walk_along.nd
  have vt := (show (["passages", "start", "goal", "left", "walk", "room", "number"] : List Str).all (fun x => visB (defScope (top 3)) x && plain x) = true by decide +kernel)
  refine fnV (k := 1) (n := 4) (nN := 7) (g := Pg.g_walk_along) F sc_walk_along rfl rfl fun cdv A outer s H E hr => ?_
  exact (sSeq (sOw (i := 4) (ps_set nd rfl (lo (sc := (defScope (top 3))) (by decide +kernel)) (dLst pa0)))
 (sSeq (sAs (ps_asg (dF (pV vt 1)) (tgN (pg_name (i := 5) nd rfl (lo (sc := (defScope (top 3))) (by decide +kernel))))))
 (sSeq (sWh (ps_while PassesOwn.never (cCmp (op_neD hr.units) hNe (mw (dN (pV vt 5))) (mw (dN (pV vt 2))))
 (sSeq (sAs (ps_asg (dCal (peCal Cpassage_on (hr.mono (by decide)) (gl (sc := (defScope (top 3))) (by decide +kernel)) (paC (dF (pV vt 0)) (paC (dF (pV vt 5)) (paC (dF (pV vt 3)) pa0))))) (tgN (pg_name (i := 6) nd rfl (lo (sc := (defScope (top 3))) (by decide +kernel))))))
 (sSeq (sIf (cCmp oIsN hIs (mw (dN (pV vt 6))) (sw dNone))
 (sOne (sRetN (dLst pa0)))
 sNil)
 (sSeq (sApp (i := 4) (ps_expr (peApp (pV vt 4) (paC (dF (pV vt 6)) pa0))))
 (sOne (sAs (ps_asg (dIx (sm (dIx (dN (pV vt 0)) (mw (dN (pV vt 6))))) (sw dInt)) (tgN (pg_name (i := 5) nd rfl (lo (sc := (defScope (top 3))) (by decide +kernel))))))))))))
 (sOne (sRetO (pV vt 4))))))
theorem sc_walks_of : FnScope ["passages", "start", "goal", "flow", "left", "walks", "walk", "many", "number"] ["passages", "start", "goal", "flow"] (defScope (top 2)) := ⟨rfl, rfl, rfl, by decide +kernel, rfl, by decide +kernel, by decide +kernel⟩
theorem ok_walks_of {P : Program} {w : World} {K : PySem.W.Frag} {mg : Str → Option Value} {base : Heap} {f : Addr} {fd : FuncData} (F : Fun K "walks_of" "walks_of" (top 2) f fd) (B : Bl mg) (KT : Kits K) (Cwalk_along : Cal P w K mg base 2 "walk_along" ["passages", "start", "goal", "left"] (spV K Pg.m_walk_along)) : FnOk P w K mg base CX0 3 f fd ["passages", "start", "goal", "flow"] (spV K Pg.m_walks_of) := by
  have nd := sc_walks_of.nd
  have vt := (show (["passages", "start", "goal", "flow", "left", "walks", "walk", "many", "number"] : List Str).all (fun x => visB (defScope (top 2)) x && plain x) = true by decide +kernel)
  refine fnV (k := 2) (n := 4) (nN := 9) (g := Pg.g_walks_of) F sc_walks_of rfl rfl fun cdv A outer s H E hr => ?_
  exact (sSeq (sOw (i := 4) (ps_set nd rfl (lo (sc := (defScope (top 2))) (by decide +kernel)) (dListOf (pe_callTy cList (gl (sc := (defScope (top 2))) (by decide +kernel)) B.list PyProof.Rows.boot_list (pa_cons (dN (pV vt 3)) pa_nil)))))
 (sSeq (sOw (i := 5) (ps_set nd rfl (lo (sc := (defScope (top 2))) (by decide +kernel)) (dLst pa0)))
 (sOne (sWh (ps_while PassesOwn.never (cVal dBool)
 (sSeq (sAs (ps_asg (dCalW (peCal Cwalk_along (hr.mono (by decide)) (gl (sc := (defScope (top 2))) (by decide +kernel)) (pwC (mw (dN (pV vt 0))) (pwC (mw (dN (pV vt 1))) (pwC (mw (dN (pV vt 2))) (pwC (mw (dN (pV vt 4))) pw0)))))) (tgN (pg_name (i := 6) nd rfl (lo (sc := (defScope (top 2))) (by decide +kernel))))))
 (sSeq (sIf (cNot (cTru (mw (dN (pV vt 6)))))
 (sOne (sRetO (pV vt 5)))
 sNil)
 (sSeq (sAs (ps_asg (dCB (pe_callB (cMin rfl) (gl (sc := (defScope (top 2))) (by decide +kernel)) B.min PyProof.Rows.boot_min (pwC (nw (dLCW (pe_lc (te := tV K RS _) (tc := tVT K _) (g := tVG K _ _) (N' := ["number", "left"]) (cap := [none, some 4]) ["passages", "start", "goal", "flow", "left", "walks", "walk", "many", "number"] (defScope (top 2)) rfl (by decide +kernel) rfl rfl (itL (dF (pV vt 6))) (fun _ _ _ _ _ => (tgN (pgC (i := 0) (show (["number", "left"] : List Str).Nodup by decide +kernel) (by decide +kernel)))) (fun _ _ _ _ _ => ifN) (fun _ _ _ _ _ => (dIx (dN (pVc (by decide +kernel) 1)) (mw (dN (pVc (by decide +kernel) 0)))))))) pw0)) hMin) (tgN (pg_name (i := 7) nd rfl (lo (sc := (defScope (top 2))) (by decide +kernel))))))
 (sSeq (sFor (ps_for PassesOwn.never rfl (itL (dF (pV vt 6))) (tgN (pg_name (i := 8) nd rfl (lo (sc := (defScope (top 2))) (by decide +kernel))))
 (sOne (sAugI hSub (i := 4) (ps_augS (pV vt 4) (mw (dN (pV vt 8))) getL (dF (pV vt 7)) iSub setL)))))
 (sOne (sApp (i := 5) (ps_expr (peApp (pV vt 5) (paC (dTup (paC (dF (pV vt 6)) (paC (dF (pV vt 7)) pa0))) pa0))))))))))))))
noncomputable def g__law_cell_at : VS :=
 (gSeq (gIf (vB (v2 ltD (vN 1) (vCB lenD (aC (vN 0) a0))))
 (gRet (v2 ixDt (vN 0) (vN 1)))
 gNop)
 (gRet (vC (.int 0))))
noncomputable def m__law_cell_at : FnM := fnM 2 2 g__law_cell_at
theorem sc__law_cell_at : FnScope ["_law_script", "_law_k"] ["_law_script", "_law_k"] (defScope (top 6)) := ⟨rfl, rfl, rfl, by decide +kernel, rfl, by decide +kernel, by decide +kernel⟩
theorem ok__law_cell_at {P : Program} {w : World} {K : PySem.W.Frag} {mg : Str → Option Value} {base : Heap} {f : Addr} {fd : FuncData} (F : Fun K "_law_cell_at" "_law_cell_at" (top 6) f fd) (B : Bl mg) (KT : Kits K)  : FnOk P w K mg base CX0 1 f fd ["_law_script", "_law_k"] (spV K m__law_cell_at) := by
  have nd := sc__law_cell_at.nd
  have vt := (show (["_law_script", "_law_k"] : List Str).all (fun x => visB (defScope (top 6)) x && plain x) = true by decide +kernel)
  refine fnV (k := 0) (n := 2) (nN := 2) (g := g__law_cell_at) F sc__law_cell_at rfl rfl fun cdv A outer s H E hr => ?_
  exact (sSeq (sIf (cCmp oLt hLt (mw (dN (pV vt 1))) (sw (dCB (pe_callB cLen (gl (sc := (defScope (top 6))) (by decide +kernel)) B.len PySem.boot_len (pwC (mw (dN (pV vt 0))) pw0)) hLen)))
 (sOne (sRet (dIx (dN (pV vt 0)) (mw (dN (pV vt 1))))))
 sNil)
 (sOne (sRet dInt)))
noncomputable def g__law_hall : VS :=
 (gSeq (gAs (v2 addD (vC (.int 2)) (v2 modD (vCall m__law_cell_at (aC (vF 0) (aC (vC (.int 0)) a0))) (vC (.int 6)))) (gN 1))
 (gSeq (gAs (v2 addD (vC (.int 1)) (v2 modD (v2 divD (vCall m__law_cell_at (aC (vF 0) (aC (vC (.int 0)) a0))) (vC (.int 6))) (vC (.int 6)))) (gN 2))
 (gSeq (gOw 3 (vLst a0))
 (gSeq (gFor (vRng1 (aC (vN 1) a0)) (gN 4)
 (gIns 3 (aC (v2 modD (v2 mulD (vN 2) (vN 4)) (v2 addD (vN 4) (vC (.int 1)))) (aC (vF 4) a0))))
 (gSeq (gOw 5 (vLst a0))
 (gSeq (gFor (vRng1 (aC (v2 modD (vCall m__law_cell_at (aC (vF 0) (aC (vC (.int 1)) a0))) (vC (.int 13))) a0)) (gN 4)
 (gSeq (gAs (vCall m__law_cell_at (aC (vF 0) (aC (v2 addD (vC (.int 2)) (vN 4)) a0))) (gN 6))
 (gSeq (gAs (v2 modD (vN 6) (v2 subD (vN 1) (vC (.int 1)))) (gN 7))
 (gSeq (gAs (v2 addD (v2 addD (vN 7) (vC (.int 1))) (v2 modD (v2 divD (vN 6) (vC (.int 6))) (v2 subD (v2 subD (vN 1) (vC (.int 1))) (vN 7)))) (gN 8))
 (gApp 5 (aC (vTup (aC (v2 ixDt (vN 3) (vN 7)) (aC (v2 ixDt (vN 3) (vN 8)) (aC (vC (.int 1)) (aC (v2 addD (vC (.int 1)) (v2 modD (v2 divD (vN 6) (vC (.int 36))) (v2 powD (vC (.int 10)) (vC (.int 30))))) a0))))) a0))))))
 (gFz 3 (gFz 5 (gRet (vTup (aC (vF 1) (aC (vF 3) (aC (vF 5) a0)))))))))))))
noncomputable def m__law_hall : FnM := fnM 1 9 g__law_hall
theorem sc__law_hall : FnScope ["_law_script", "_law_many", "_law_turn", "_law_order", "_law_k", "_law_passages", "_law_cell", "_law_a", "_law_b"] ["_law_script"] (defScope (top 7)) := ⟨rfl, rfl, rfl, by decide +kernel, rfl, by decide +kernel, by decide +kernel⟩
theorem ok__law_hall {P : Program} {w : World} {K : PySem.W.Frag} {mg : Str → Option Value} {base : Heap} {f : Addr} {fd : FuncData} (F : Fun K "_law_hall" "_law_hall" (top 7) f fd) (B : Bl mg) (KT : Kits K) (C_law_cell_at : Cal P w K mg base 1 "_law_cell_at" ["_law_script", "_law_k"] (spV K m__law_cell_at)) : FnOk P w K mg base CX0 2 f fd ["_law_script"] (spV K m__law_hall) := by
  have nd := sc__law_hall.nd
  have vt := (show (["_law_script", "_law_many", "_law_turn", "_law_order", "_law_k", "_law_passages", "_law_cell", "_law_a", "_law_b"] : List Str).all (fun x => visB (defScope (top 7)) x && plain x) = true by decide +kernel)
  refine fnV (k := 1) (n := 1) (nN := 9) (g := g__law_hall) F sc__law_hall rfl rfl fun cdv A outer s H E hr => ?_
  exact (sSeq (sAs (ps_asg (dOp oAdd hAdd (sw dInt) (sw (dOp oMod hMod (sw (dCal (peCal C_law_cell_at (hr.mono (by decide)) (gl (sc := (defScope (top 7))) (by decide +kernel)) (paC (dF (pV vt 0)) (paC dInt pa0))))) (sw dInt)))) (tgN (pg_name (i := 1) nd rfl (lo (sc := (defScope (top 7))) (by decide +kernel))))))
 (sSeq (sAs (ps_asg (dOp oAdd hAdd (sw dInt) (sw (dOp oMod hMod (sw (dOp oDiv hDiv (sw (dCal (peCal C_law_cell_at (hr.mono (by decide)) (gl (sc := (defScope (top 7))) (by decide +kernel)) (paC (dF (pV vt 0)) (paC dInt pa0))))) (sw dInt))) (sw dInt)))) (tgN (pg_name (i := 2) nd rfl (lo (sc := (defScope (top 7))) (by decide +kernel))))))
 (sSeq (sOw (i := 3) (ps_set nd rfl (lo (sc := (defScope (top 7))) (by decide +kernel)) (dLst pa0)))
 (sSeq (sFor (ps_for PassesOwn.never rfl (itR1 (pi_range1 (gl (sc := (defScope (top 7))) (by decide +kernel)) B.range (pwC (mw (dN (pV vt 1))) pw0))) (tgN (pg_name (i := 4) nd rfl (lo (sc := (defScope (top 7))) (by decide +kernel))))
 (sOne (sIns (i := 3) (ps_expr (peIn (pV vt 3) (paC (dOp oMod hMod (sw (dOp oMul hMul (mw (dN (pV vt 2))) (mw (dN (pV vt 4))))) (sw (dOp oAdd hAdd (mw (dN (pV vt 4))) (sw dInt)))) (paC (dF (pV vt 4)) pa0))))))))
 (sSeq (sOw (i := 5) (ps_set nd rfl (lo (sc := (defScope (top 7))) (by decide +kernel)) (dLst pa0)))
 (sSeq (sFor (ps_for PassesOwn.never rfl (itR1 (pi_range1 (gl (sc := (defScope (top 7))) (by decide +kernel)) B.range (pwC (sw (dOp oMod hMod (sw (dCal (peCal C_law_cell_at (hr.mono (by decide)) (gl (sc := (defScope (top 7))) (by decide +kernel)) (paC (dF (pV vt 0)) (paC dInt pa0))))) (sw dInt))) pw0))) (tgN (pg_name (i := 4) nd rfl (lo (sc := (defScope (top 7))) (by decide +kernel))))
 (sSeq (sAs (ps_asg (dCal (peCal C_law_cell_at (hr.mono (by decide)) (gl (sc := (defScope (top 7))) (by decide +kernel)) (paC (dF (pV vt 0)) (paC (dOp oAdd hAdd (sw dInt) (mw (dN (pV vt 4)))) pa0)))) (tgN (pg_name (i := 6) nd rfl (lo (sc := (defScope (top 7))) (by decide +kernel))))))
 (sSeq (sAs (ps_asg (dOp oMod hMod (mw (dN (pV vt 6))) (sw (dOp oSub hSub (mw (dN (pV vt 1))) (sw dInt)))) (tgN (pg_name (i := 7) nd rfl (lo (sc := (defScope (top 7))) (by decide +kernel))))))
 (sSeq (sAs (ps_asg (dOp oAdd hAdd (sw (dOp oAdd hAdd (mw (dN (pV vt 7))) (sw dInt))) (sw (dOp oMod hMod (sw (dOp oDiv hDiv (mw (dN (pV vt 6))) (sw dInt))) (sw (dOp oSub hSub (sw (dOp oSub hSub (mw (dN (pV vt 1))) (sw dInt))) (mw (dN (pV vt 7)))))))) (tgN (pg_name (i := 8) nd rfl (lo (sc := (defScope (top 7))) (by decide +kernel))))))
 (sOne (sApp (i := 5) (ps_expr (peApp (pV vt 5) (paC (dTup (paC (dIx (dN (pV vt 3)) (mw (dN (pV vt 7)))) (paC (dIx (dN (pV vt 3)) (mw (dN (pV vt 8)))) (paC dInt (paC (dOp oAdd hAdd (sw dInt) (sw (dOp oMod hMod (sw (dOp oDiv hDiv (mw (dN (pV vt 6))) (sw dInt))) (sw (dOp oPow hPow (sw dInt) (sw dInt)))))) pa0))))) pa0))))))))))
 (sOne (sFz (i := 3) (sFz (i := 5) (sRet (dTup (paC (dF (pV vt 1)) (paC (dF (pV vt 3)) (paC (dF (pV vt 5)) pa0))))))))))))))
noncomputable def g__law_walk : VS :=
 (gSeq (gOw 4 (vLst a0))
 (gSeq (gAs (vF 1) (gN 5))
 (gSeq (gWh (vB (v2 neD (vN 5) (vN 2)))
 (gSeq (gOwF 6 (vLC (vRng1 (aC (vCB lenD (aC (vN 0) a0)) a0)) [none, some 5, some 0] (gN 0) (vB (v2 eqD (v2 ixDt (v2 ixDt (vN 2) (vN 0)) (vC (.int 0))) (vN 1))) (vF 0)))
 (gSeq (gIf (vB (v2 eqD (vN 6) (vLst a0)))
 (gRet (vC .none))
 gNop)
 (gSeq (gApp 4 (aC (v2 ixDt (vN 6) (v2 modD (vN 3) (vCB lenD (aC (vN 6) a0)))) a0))
 (gSeq (gAs (v2 divD (vN 3) (vC (.int 3))) (gN 3))
 (gAs (v2 ixDt (v2 ixDt (vN 0) (v2 ixDt (vN 4) (v1 negD (vC (.int 1))))) (vC (.int 1))) (gN 5)))))))
 (gRetO 4))))
noncomputable def m__law_walk : FnM := fnM 4 7 g__law_walk
theorem sc__law_walk : FnScope ["_law_passages", "_law_start", "_law_goal", "_law_cell", "_law_walk_here", "_law_room", "_law_ways"] ["_law_passages", "_law_start", "_law_goal", "_law_cell"] (defScope (top 8)) := ⟨rfl, rfl, rfl, by decide +kernel, rfl, by decide +kernel, by decide +kernel⟩
theorem ok__law_walk {P : Program} {w : World} {K : PySem.W.Frag} {mg : Str → Option Value} {base : Heap} {f : Addr} {fd : FuncData} (F : Fun K "_law_walk" "_law_walk" (top 8) f fd) (B : Bl mg) (KT : Kits K)  : FnOk P w K mg base CX0 1 f fd ["_law_passages", "_law_start", "_law_goal", "_law_cell"] (spV K m__law_walk) := by
  have nd := sc__law_walk.nd
  have vt := (show (["_law_passages", "_law_start", "_law_goal", "_law_cell", "_law_walk_here", "_law_room", "_law_ways"] : List Str).all (fun x => visB (defScope (top 8)) x && plain x) = true by decide +kernel)
  refine fnV (k := 0) (n := 4) (nN := 7) (g := g__law_walk) F sc__law_walk rfl rfl fun cdv A outer s H E hr => ?_
  exact (sSeq (sOw (i := 4) (ps_set nd rfl (lo (sc := (defScope (top 8))) (by decide +kernel)) (dLst pa0)))
 (sSeq (sAs (ps_asg (dF (pV vt 1)) (tgN (pg_name (i := 5) nd rfl (lo (sc := (defScope (top 8))) (by decide +kernel))))))
 (sSeq (sWh (ps_while PassesOwn.never (cCmp (op_neD hr.units) hNe (mw (dN (pV vt 5))) (mw (dN (pV vt 2))))
 (sSeq (sOwF (tAsg_imp (ps_setLC (i := 6) nd rfl (lo (sc := (defScope (top 8))) (by decide +kernel)) (te := tV K RS _) (tc := tVT K _) (g := tVG K _ _) (N' := ["_law_k", "_law_room", "_law_passages"]) (cap := [none, some 5, some 0]) ["_law_passages", "_law_start", "_law_goal", "_law_cell", "_law_walk_here", "_law_room", "_law_ways"] (defScope (top 8)) rfl (by decide +kernel) rfl rfl (itR1 (pi_range1 (gl (sc := (defScope (top 8))) (by decide +kernel)) B.range (pwC (sw (dCB (pe_callB cLen (gl (sc := (defScope (top 8))) (by decide +kernel)) B.len PySem.boot_len (pwC (mw (dN (pV vt 0))) pw0)) hLen)) pw0))) (fun _ _ _ _ _ => (tgN (pgC (i := 0) (show (["_law_k", "_law_room", "_law_passages"] : List Str).Nodup by decide +kernel) (by decide +kernel)))) (fun _ _ _ _ _ => (pif_one (cCmp (op_eqD hr.units) hEq (sw (dIx (sm (dIx (dN (pVc (by decide +kernel) 2)) (mw (dN (pVc (by decide +kernel) 0))))) (sw dInt))) (mw (dN (pVc (by decide +kernel) 1)))))) (fun _ _ _ _ _ => (dF (pVc (by decide +kernel) 0)))) fun _ _ _ q => rdLC rfl q))
 (sSeq (sIf (cCmp (op_eqD hr.units) hEq (mw (dN (pV vt 6))) (nw (dLst pa0)))
 (sOne (sRet dNone))
 sNil)
 (sSeq (sApp (i := 4) (ps_expr (peApp (pV vt 4) (paC (dIx (dN (pV vt 6)) (sw (dOp oMod hMod (mw (dN (pV vt 3))) (sw (dCB (pe_callB cLen (gl (sc := (defScope (top 8))) (by decide +kernel)) B.len PySem.boot_len (pwC (mw (dN (pV vt 6))) pw0)) hLen))))) pa0))))
 (sSeq (sAs (ps_asg (dOp oDiv hDiv (mw (dN (pV vt 3))) (sw dInt)) (tgN (pg_name (i := 3) nd rfl (lo (sc := (defScope (top 8))) (by decide +kernel))))))
 (sOne (sAs (ps_asg (dIx (sm (dIx (dN (pV vt 0)) (sw (dIx (dN (pV vt 4)) (sw (dNeg (sw dInt))))))) (sw dInt)) (tgN (pg_name (i := 5) nd rfl (lo (sc := (defScope (top 8))) (by decide +kernel)))))))))))))
 (sOne (sRetO (pV vt 4))))))
noncomputable def g__law_flow : VS :=
 (gSeq (gOw 4 (v2 repD (vLst (aC (vC (.int 0)) a0)) (vCB lenD (aC (vN 1) a0))))
 (gSeq (gFor (vItems (vSlL (vN 0) (oI (vC (.int 14))) (oI (vC (.int 63))))) (gN 5)
 (gSeq (gAs (vCall m__law_walk (aC (vF 1) (aC (vF 2) (aC (vF 3) (aC (v2 divD (vN 5) (vC (.int 7))) a0))))) (gN 6))
 (gSeq (gAs (v2 addD (vC (.int 1)) (v2 modD (v2 divD (vN 5) (vC (.int 7))) (vC (.int 9)))) (gN 7))
 (gSeq (gIf (vB (v2 eqD (v2 modD (vN 5) (vC (.int 7))) (vC (.int 3))))
 (gAs (v2 addD (vC (.int 1)) (v2 modD (v2 divD (vN 5) (vC (.int 7))) (v2 powD (vC (.int 10)) (vC (.int 50))))) (gN 7))
 gNop)
 (gIf (vB (v2 isnD (vN 6) (vC .none)))
 (gFor (vItems (vF 6)) (gN 8)
 (gPut 4 (vN 8) (v2 addD (v2 ixDt (vN 4) (vN 8)) (vN 7))))
 gNop)))))
 (gRetO 4)))
noncomputable def m__law_flow : FnM := fnM 4 9 g__law_flow
theorem sc__law_flow : FnScope ["_law_script", "_law_passages", "_law_start", "_law_goal", "_law_flow_here", "_law_cell", "_law_walk_here", "_law_number", "_law_k"] ["_law_script", "_law_passages", "_law_start", "_law_goal"] (defScope (top 9)) := ⟨rfl, rfl, rfl, by decide +kernel, rfl, by decide +kernel, by decide +kernel⟩
theorem ok__law_flow {P : Program} {w : World} {K : PySem.W.Frag} {mg : Str → Option Value} {base : Heap} {f : Addr} {fd : FuncData} (F : Fun K "_law_flow" "_law_flow" (top 9) f fd) (B : Bl mg) (KT : Kits K) (C_law_walk : Cal P w K mg base 1 "_law_walk" ["_law_passages", "_law_start", "_law_goal", "_law_cell"] (spV K m__law_walk)) : FnOk P w K mg base CX0 2 f fd ["_law_script", "_law_passages", "_law_start", "_law_goal"] (spV K m__law_flow) := by
  have nd := sc__law_flow.nd
  have vt := (show (["_law_script", "_law_passages", "_law_start", "_law_goal", "_law_flow_here", "_law_cell", "_law_walk_here", "_law_number", "_law_k"] : List Str).all (fun x => visB (defScope (top 9)) x && plain x) = true by decide +kernel)
  refine fnV (k := 1) (n := 4) (nN := 9) (g := g__law_flow) F sc__law_flow rfl rfl fun cdv A outer s H E hr => ?_
  exact (sSeq (sOw (i := 4) (ps_set nd rfl (lo (sc := (defScope (top 9))) (by decide +kernel)) (dRep (dLst (paC dInt pa0)) (sw (dCB (pe_callB cLen (gl (sc := (defScope (top 9))) (by decide +kernel)) B.len PySem.boot_len (pwC (mw (dN (pV vt 1))) pw0)) hLen)))))
 (sSeq (sFor (ps_for PassesOwn.never rfl (itL (ns (dSlL (dN (pV vt 0)) (poI (sw dInt)) (poI (sw dInt))))) (tgN (pg_name (i := 5) nd rfl (lo (sc := (defScope (top 9))) (by decide +kernel))))
 (sSeq (sAs (ps_asg (dCal (peCal C_law_walk (hr.mono (by decide)) (gl (sc := (defScope (top 9))) (by decide +kernel)) (paC (dF (pV vt 1)) (paC (dF (pV vt 2)) (paC (dF (pV vt 3)) (paC (dOp oDiv hDiv (mw (dN (pV vt 5))) (sw dInt)) pa0)))))) (tgN (pg_name (i := 6) nd rfl (lo (sc := (defScope (top 9))) (by decide +kernel))))))
 (sSeq (sAs (ps_asg (dOp oAdd hAdd (sw dInt) (sw (dOp oMod hMod (sw (dOp oDiv hDiv (mw (dN (pV vt 5))) (sw dInt))) (sw dInt)))) (tgN (pg_name (i := 7) nd rfl (lo (sc := (defScope (top 9))) (by decide +kernel))))))
 (sSeq (sIf (cCmp (op_eqD hr.units) hEq (sw (dOp oMod hMod (mw (dN (pV vt 5))) (sw dInt))) (sw dInt))
 (sOne (sAs (ps_asg (dOp oAdd hAdd (sw dInt) (sw (dOp oMod hMod (sw (dOp oDiv hDiv (mw (dN (pV vt 5))) (sw dInt))) (sw (dOp oPow hPow (sw dInt) (sw dInt)))))) (tgN (pg_name (i := 7) nd rfl (lo (sc := (defScope (top 9))) (by decide +kernel)))))))
 sNil)
 (sOne (sIf (cCmp oNotN hIsn (mw (dN (pV vt 6))) (sw dNone))
 (sOne (sFor (ps_for PassesOwn.never rfl (itL (dF (pV vt 6))) (tgN (pg_name (i := 8) nd rfl (lo (sc := (defScope (top 9))) (by decide +kernel))))
 (sOne (sPut (i := 4) (ps_asg (dOp oAdd hAdd (sw (dIx (dN (pV vt 4)) (mw (dN (pV vt 8))))) (mw (dN (pV vt 7)))) (pg_sub (pV vt 4) (mw (dN (pV vt 8))) setL)))))))
 sNil)))))))
 (sOne (sRetO (pV vt 4)))))
noncomputable def g__law_right : VS :=
 (gSeq (gIf (tOr2 (tNot2 (vB (vIsi "list" (vN 0)))) (vB (v2 gtD (vCB lenD (aC (vN 0) a0)) (vCB lenD (aC (vN 1) a0)))))
 (gRet (vC (.bool false)))
 gNop)
 (gSeq (gOw 5 (v2 repD (vLst (aC (vC (.int 0)) a0)) (vCB lenD (aC (vN 1) a0))))
 (gSeq (gFor (vItems (vF 0)) (gN 6)
 (gSeq (gIf (tOr2 (tNot2 (vB (vIsi "tuple" (vN 6)))) (tOr2 (vB (v2 neD (vCB lenD (aC (vN 6) a0)) (vC (.int 2)))) (tOr2 (tNot2 (vB (vIsi "list" (v2 ixDt (vN 6) (vC (.int 0)))))) (vB (v2 eqD (v2 ixDt (vN 6) (vC (.int 0))) (vLst a0))))))
 (gRet (vC (.bool false)))
 gNop)
 (gSeq (gIf (tOr2 (tNot2 (vB (vIsi "int" (v2 ixDt (vN 6) (vC (.int 1)))))) (tOr2 (vB (vIsi "bool" (v2 ixDt (vN 6) (vC (.int 1))))) (tOr2 (vB (v2 ltD (v2 ixDt (vN 6) (vC (.int 1))) (vC (.int 1)))) (vB (v2 neD (vSetLen (v2 ixDt (vN 6) (vC (.int 0)))) (vCB lenD (aC (v2 ixDt (vN 6) (vC (.int 0))) a0)))))))
 (gRet (vC (.bool false)))
 gNop)
 (gSeq (gAs (vF 2) (gN 7))
 (gSeq (gFor (vItems (v2 ixDt (vN 6) (vC (.int 0)))) (gN 8)
 (gSeq (gIf (tOr2 (tNot2 (vB (vIsi "int" (vN 8)))) (tOr2 (vB (vIsi "bool" (vN 8))) (tOr2 (vB (v2 ltD (vN 8) (vC (.int 0)))) (tOr2 (vB (v2 geD (vN 8) (vCB lenD (aC (vN 1) a0)))) (vB (v2 neD (v2 ixDt (v2 ixDt (vN 1) (vN 8)) (vC (.int 0))) (vN 7)))))))
 (gRet (vC (.bool false)))
 gNop)
 (gSeq (gAs (v2 ixDt (v2 ixDt (vN 1) (vN 8)) (vC (.int 1))) (gN 7))
 (gPut 5 (vN 8) (v2 addD (v2 ixDt (vN 5) (vN 8)) (v2 ixDt (vN 6) (vC (.int 1))))))))
 (gSeq (gAs (vCall Pg.m_length_of (aC (vF 1) (aC (v2 ixDt (vN 6) (vC (.int 0))) a0))) (gN 9))
 (gIf (tOr2 (vB (v2 neD (vN 7) (vN 3))) (tOr2 (vB (vIsi "bool" (vN 9))) (vB (v2 neD (vN 9) (vCB sumD (aC (vLC (vItems (v2 ixDt (vN 6) (vC (.int 0)))) [none, some 1] (gN 0) cTrue (v2 ixDt (v2 ixDt (vN 1) (vN 0)) (vC (.int 3)))) a0))))))
 (gRet (vC (.bool false)))
 gNop)))))))
 (gRet (v2 eqD (vN 5) (vN 4))))))
noncomputable def m__law_right : FnM := fnM 5 10 g__law_right
theorem sc__law_right : FnScope ["_law_told", "_law_passages", "_law_start", "_law_goal", "_law_flow_here", "_law_sums", "_law_one", "_law_room", "_law_k", "_law_length"] ["_law_told", "_law_passages", "_law_start", "_law_goal", "_law_flow_here"] (defScope (top 10)) := ⟨rfl, rfl, rfl, by decide +kernel, rfl, by decide +kernel, by decide +kernel⟩
theorem ok__law_right {P : Program} {w : World} {K : PySem.W.Frag} {mg : Str → Option Value} {base : Heap} {f : Addr} {fd : FuncData} (F : Fun K "_law_right" "_law_right" (top 10) f fd) (B : Bl mg) (KT : Kits K) (Clength_of : Cal P w K mg base 1 "length_of" ["passages", "walk"] (spV K Pg.m_length_of)) : FnOk P w K mg base CX0 2 f fd ["_law_told", "_law_passages", "_law_start", "_law_goal", "_law_flow_here"] (spV K m__law_right) := by
  have nd := sc__law_right.nd
  have vt := (show (["_law_told", "_law_passages", "_law_start", "_law_goal", "_law_flow_here", "_law_sums", "_law_one", "_law_room", "_law_k", "_law_length"] : List Str).all (fun x => visB (defScope (top 10)) x && plain x) = true by decide +kernel)
  refine fnV (k := 1) (n := 5) (nN := 10) (g := g__law_right) F sc__law_right rfl rfl fun cdv A outer s H E hr => ?_
  exact (sSeq (sIf (PW.pt (wOr (cNot (cVal (dIsi KT.list (pe_callB cIsi (gl (sc := (defScope (top 10))) (by decide +kernel)) B.isinstance PyProof.Rows.boot_isinstance (pa_cons (mw (dN (pV vt 0))) (pa_cons (pe_bltn (v := .ty "list") (gl (sc := (defScope (top 10))) (by decide +kernel)) B.list PyProof.Rows.boot_list rfl) pa_nil)))))) (wOr1 (cCmp oGt hGt (sw (dCB (pe_callB cLen (gl (sc := (defScope (top 10))) (by decide +kernel)) B.len PySem.boot_len (pwC (mw (dN (pV vt 0))) pw0)) hLen)) (sw (dCB (pe_callB cLen (gl (sc := (defScope (top 10))) (by decide +kernel)) B.len PySem.boot_len (pwC (mw (dN (pV vt 1))) pw0)) hLen))))))
 (sOne (sRet dBool))
 sNil)
 (sSeq (sOw (i := 5) (ps_set nd rfl (lo (sc := (defScope (top 10))) (by decide +kernel)) (dRep (dLst (paC dInt pa0)) (sw (dCB (pe_callB cLen (gl (sc := (defScope (top 10))) (by decide +kernel)) B.len PySem.boot_len (pwC (mw (dN (pV vt 1))) pw0)) hLen)))))
 (sSeq (sFor (ps_for PassesOwn.never rfl (itL (dF (pV vt 0))) (tgN (pg_name (i := 6) nd rfl (lo (sc := (defScope (top 10))) (by decide +kernel))))
 (sSeq (sIf (PW.pt (wOr (cNot (cVal (dIsi KT.tuple (pe_callB cIsi (gl (sc := (defScope (top 10))) (by decide +kernel)) B.isinstance PyProof.Rows.boot_isinstance (pa_cons (mw (dN (pV vt 6))) (pa_cons (pe_bltn (v := .ty "tuple") (gl (sc := (defScope (top 10))) (by decide +kernel)) B.tuple PyProof.Rows.boot_tuple rfl) pa_nil)))))) (wOr (cCmp (op_neD hr.units) hNe (sw (dCB (pe_callB cLen (gl (sc := (defScope (top 10))) (by decide +kernel)) B.len PySem.boot_len (pwC (mw (dN (pV vt 6))) pw0)) hLen)) (sw dInt)) (wOr (cNot (cVal (dIsi KT.list (pe_callB cIsi (gl (sc := (defScope (top 10))) (by decide +kernel)) B.isinstance PyProof.Rows.boot_isinstance (pa_cons (sw (dIx (dN (pV vt 6)) (sw dInt))) (pa_cons (pe_bltn (v := .ty "list") (gl (sc := (defScope (top 10))) (by decide +kernel)) B.list PyProof.Rows.boot_list rfl) pa_nil)))))) (wOr1 (cCmp (op_eqD hr.units) hEq (sw (dIx (dN (pV vt 6)) (sw dInt))) (nw (dLst pa0))))))))
 (sOne (sRet dBool))
 sNil)
 (sSeq (sIf (PW.pt (wOr (cNot (cVal (dIsi KT.int (pe_callB cIsi (gl (sc := (defScope (top 10))) (by decide +kernel)) B.isinstance PyProof.Rows.boot_isinstance (pa_cons (sw (dIx (dN (pV vt 6)) (sw dInt))) (pa_cons (pe_bltn (v := .ty "int") (gl (sc := (defScope (top 10))) (by decide +kernel)) B.int PyProof.Rows.boot_int rfl) pa_nil)))))) (wOr (cVal (dIsi KT.bool (pe_callB cIsi (gl (sc := (defScope (top 10))) (by decide +kernel)) B.isinstance PyProof.Rows.boot_isinstance (pa_cons (sw (dIx (dN (pV vt 6)) (sw dInt))) (pa_cons (pe_bltn (v := .ty "bool") (gl (sc := (defScope (top 10))) (by decide +kernel)) B.bool PyProof.Rows.boot_bool rfl) pa_nil))))) (wOr (cCmp oLt hLt (sw (dIx (dN (pV vt 6)) (sw dInt))) (sw dInt)) (wOr1 (cCmp (op_neD hr.units) hNe (sw (dSetLen (pe_callB cLenSet (gl (sc := (defScope (top 10))) (by decide +kernel)) B.len PySem.boot_len (pa_cons (pe_callTy (cSetOf rfl) (gl (sc := (defScope (top 10))) (by decide +kernel)) B.set PyProof.Rows.boot_set (pa_cons (sm (dIx (dN (pV vt 6)) (sw dInt))) pa_nil)) pa_nil)))) (sw (dCB (pe_callB cLen (gl (sc := (defScope (top 10))) (by decide +kernel)) B.len PySem.boot_len (pwC (sw (dIx (dN (pV vt 6)) (sw dInt))) pw0)) hLen))))))))
 (sOne (sRet dBool))
 sNil)
 (sSeq (sAs (ps_asg (dF (pV vt 2)) (tgN (pg_name (i := 7) nd rfl (lo (sc := (defScope (top 10))) (by decide +kernel))))))
 (sSeq (sFor (ps_for PassesOwn.never rfl (itL (dIx (dN (pV vt 6)) (sw dInt))) (tgN (pg_name (i := 8) nd rfl (lo (sc := (defScope (top 10))) (by decide +kernel))))
 (sSeq (sIf (PW.pt (wOr (cNot (cVal (dIsi KT.int (pe_callB cIsi (gl (sc := (defScope (top 10))) (by decide +kernel)) B.isinstance PyProof.Rows.boot_isinstance (pa_cons (mw (dN (pV vt 8))) (pa_cons (pe_bltn (v := .ty "int") (gl (sc := (defScope (top 10))) (by decide +kernel)) B.int PyProof.Rows.boot_int rfl) pa_nil)))))) (wOr (cVal (dIsi KT.bool (pe_callB cIsi (gl (sc := (defScope (top 10))) (by decide +kernel)) B.isinstance PyProof.Rows.boot_isinstance (pa_cons (mw (dN (pV vt 8))) (pa_cons (pe_bltn (v := .ty "bool") (gl (sc := (defScope (top 10))) (by decide +kernel)) B.bool PyProof.Rows.boot_bool rfl) pa_nil))))) (wOr (cCmp oLt hLt (mw (dN (pV vt 8))) (sw dInt)) (wOr (cCmp oGe hGe (mw (dN (pV vt 8))) (sw (dCB (pe_callB cLen (gl (sc := (defScope (top 10))) (by decide +kernel)) B.len PySem.boot_len (pwC (mw (dN (pV vt 1))) pw0)) hLen))) (wOr1 (cCmp (op_neD hr.units) hNe (sw (dIx (sm (dIx (dN (pV vt 1)) (mw (dN (pV vt 8))))) (sw dInt))) (mw (dN (pV vt 7))))))))))
 (sOne (sRet dBool))
 sNil)
 (sSeq (sAs (ps_asg (dIx (sm (dIx (dN (pV vt 1)) (mw (dN (pV vt 8))))) (sw dInt)) (tgN (pg_name (i := 7) nd rfl (lo (sc := (defScope (top 10))) (by decide +kernel))))))
 (sOne (sPut (i := 5) (ps_asg (dOp oAdd hAdd (sw (dIx (dN (pV vt 5)) (mw (dN (pV vt 8))))) (sw (dIx (dN (pV vt 6)) (sw dInt)))) (pg_sub (pV vt 5) (mw (dN (pV vt 8))) setL))))))))
 (sSeq (sAs (ps_asg (dCal (peCal Clength_of (hr.mono (by decide)) (gl (sc := (defScope (top 10))) (by decide +kernel)) (paC (dF (pV vt 1)) (paC (dIx (dN (pV vt 6)) (sw dInt)) pa0)))) (tgN (pg_name (i := 9) nd rfl (lo (sc := (defScope (top 10))) (by decide +kernel))))))
 (sOne (sIf (PW.pt (wOr (cCmp (op_neD hr.units) hNe (mw (dN (pV vt 7))) (mw (dN (pV vt 3)))) (wOr (cVal (dIsi KT.bool (pe_callB cIsi (gl (sc := (defScope (top 10))) (by decide +kernel)) B.isinstance PyProof.Rows.boot_isinstance (pa_cons (mw (dN (pV vt 9))) (pa_cons (pe_bltn (v := .ty "bool") (gl (sc := (defScope (top 10))) (by decide +kernel)) B.bool PyProof.Rows.boot_bool rfl) pa_nil))))) (wOr1 (cCmp (op_neD hr.units) hNe (mw (dN (pV vt 9))) (sw (dCB (pe_callB (cSum rfl) (gl (sc := (defScope (top 10))) (by decide +kernel)) B.sum PyProof.Rows.boot_sum (pwC (nw (dLC (pe_lc (te := tV K RS _) (tc := tVT K _) (g := tVG K _ _) (N' := ["_law_k", "_law_passages"]) (cap := [none, some 1]) ["_law_told", "_law_passages", "_law_start", "_law_goal", "_law_flow_here", "_law_sums", "_law_one", "_law_room", "_law_k", "_law_length"] (defScope (top 10)) rfl (by decide +kernel) rfl rfl (itL (dIx (dN (pV vt 6)) (sw dInt))) (fun _ _ _ _ _ => (tgN (pgC (i := 0) (show (["_law_k", "_law_passages"] : List Str).Nodup by decide +kernel) (by decide +kernel)))) (fun _ _ _ _ _ => ifN) (fun _ _ _ _ _ => (dIx (sm (dIx (dN (pVc (by decide +kernel) 1)) (mw (dN (pVc (by decide +kernel) 0))))) (sw dInt)))))) pw0)) hSum)))))))
 (sOne (sRet dBool))
 sNil)))))))))
 (sOne (sRet (dCmp (op_eqD hr.units) hEq (mw (dN (pV vt 5))) (mw (dN (pV vt 4)))))))))
noncomputable def g_law : VS :=
 (gSeq (gAs (vCall m__law_hall (aC (vF 0) a0)) (gT 3 (gC (gN 1) (gC (gN 2) (gC (gN 3) g0)))))
 (gSeq (gAs (v2 ixDt (vN 2) (vC (.int 0))) (gN 4))
 (gSeq (gAs (v2 ixDt (vN 2) (v1 negD (vC (.int 1)))) (gN 5))
 (gSeq (gAs (vCall m__law_flow (aC (vF 0) (aC (vF 3) (aC (vF 4) (aC (vF 5) a0))))) (gN 6))
 (gSeq (gOwF 3 (vLC (vZip (aC (vF 3) (aC (vF 6) a0))) [none, none, none, none, none] (gT 2 (gC (gT 4 (gC (gN 1) (gC (gN 2) (gC (gN 3) (gC (gN 4) g0))))) (gC (gN 0) g0))) cTrue (vTup (aC (vF 1) (aC (vF 2) (aC (v2 addD (vC (.int 1)) (vN 0)) (aC (vF 4) a0)))))))
 (gSeq (gAs (vLst (aC (vListOf (vN 3)) (aC (vListOf (vN 6)) a0))) (gN 7))
 (gTrash [false, false, false, true, true, true, true, true, false, false, false, false]
 (gSeq (gOw 8 (vCallN Pg.m_walks_of (aC (v2 ixDt (vN 7) (vC (.int 0))) (aC (vF 4) (aC (vF 5) (aC (v2 ixDt (vN 7) (vC (.int 1))) a0))))))
 (gIf (tOr2 (tNot2 (vB (vCallW m__law_right (aC (vN 8) (aC (vN 3) (aC (vN 4) (aC (vN 5) (aC (vN 6) a0)))))))) (vB (v2 neD (vN 7) (vLst (aC (vF 3) (aC (vF 6) a0))))))
 (gRet (vC (.bool false)))
 gNop))
 (fun S => if 9 < S.length ∧ 10 < S.length then kill21 8 S else none) [false, false, false, true, true, true, true, true, false, false, false, false]
 (gSeq (gAs (vCall Pg.m_walks_of (aC (v2 ixDt (vN 7) (vC (.int 0))) (aC (vF 4) (aC (vF 5) (aC (v2 ixDt (vN 7) (vC (.int 1))) a0))))) (gN 11))
 (gRet (vAnd (vCall m__law_right (aC (vF 11) (aC (vF 3) (aC (vF 4) (aC (vF 5) (aC (vF 6) a0)))))) (v2 eqD (vCall Pg.m_walks_of (aC (vF 3) (aC (vF 4) (aC (vF 5) (aC (v2 repD (vLst (aC (vC (.int 0)) a0)) (vCB lenD (aC (vN 6) a0))) a0))))) (vLst a0))))))))))))
noncomputable def m_law : FnM := fnM 1 12 g_law
theorem sc_law : FnScope ["_law_script", "_law_many", "_law_order", "_law_passages", "_law_start", "_law_goal", "_law_flow_here", "_law_handed", "_law_told", "_law_walk_here", "_law_number", "_law_again"] ["_law_script"] (defScope (top 11)) := ⟨rfl, rfl, rfl, by decide +kernel, rfl, by decide +kernel, by decide +kernel⟩
theorem ok_law {P : Program} {w : World} {K : PySem.W.Frag} {mg : Str → Option Value} {base : Heap} {f : Addr} {fd : FuncData} (F : Fun K "law" "law" (top 11) f fd) (B : Bl mg) (KT : Kits K) (NL : noLists K) (C_law_hall : Cal P w K mg base 2 "_law_hall" ["_law_script"] (spV K m__law_hall)) (C_law_flow : Cal P w K mg base 2 "_law_flow" ["_law_script", "_law_passages", "_law_start", "_law_goal"] (spV K m__law_flow)) (Cwalks_of : Cal P w K mg base 3 "walks_of" ["passages", "start", "goal", "flow"] (spV K Pg.m_walks_of)) (C_law_right : Cal P w K mg base 2 "_law_right" ["_law_told", "_law_passages", "_law_start", "_law_goal", "_law_flow_here"] (spV K m__law_right)) : FnOk P w K mg base CX0 4 f fd ["_law_script"] (spV K m_law) := by
  have nd := sc_law.nd
  have vt := (show (["_law_script", "_law_many", "_law_order", "_law_passages", "_law_start", "_law_goal", "_law_flow_here", "_law_handed", "_law_told", "_law_walk_here", "_law_number", "_law_again"] : List Str).all (fun x => visB (defScope (top 11)) x && plain x) = true by decide +kernel)
  refine fnV (k := 3) (n := 1) (nN := 12) (g := g_law) F sc_law rfl rfl fun cdv A outer s H E hr => ?_
  exact (sSeq (sAs (ps_asg (dCal (peCal C_law_hall (hr.mono (by decide)) (gl (sc := (defScope (top 11))) (by decide +kernel)) (paC (dF (pV vt 0)) pa0))) (tgT (n := 3) rfl (tgC (tgN (pg_name (i := 1) nd rfl (lo (sc := (defScope (top 11))) (by decide +kernel)))) (tgC (tgN (pg_name (i := 2) nd rfl (lo (sc := (defScope (top 11))) (by decide +kernel)))) (tgC (tgN (pg_name (i := 3) nd rfl (lo (sc := (defScope (top 11))) (by decide +kernel)))) tg0))))))
 (sSeq (sAs (ps_asg (dIx (dN (pV vt 2)) (sw dInt)) (tgN (pg_name (i := 4) nd rfl (lo (sc := (defScope (top 11))) (by decide +kernel))))))
 (sSeq (sAs (ps_asg (dIx (dN (pV vt 2)) (sw (dNeg (sw dInt)))) (tgN (pg_name (i := 5) nd rfl (lo (sc := (defScope (top 11))) (by decide +kernel))))))
 (sSeq (sAs (ps_asg (dCal (peCal C_law_flow (hr.mono (by decide)) (gl (sc := (defScope (top 11))) (by decide +kernel)) (paC (dF (pV vt 0)) (paC (dF (pV vt 3)) (paC (dF (pV vt 4)) (paC (dF (pV vt 5)) pa0)))))) (tgN (pg_name (i := 6) nd rfl (lo (sc := (defScope (top 11))) (by decide +kernel))))))
 (sSeq (sOwF (tAsg_imp (ps_setLC (i := 3) nd rfl (lo (sc := (defScope (top 11))) (by decide +kernel)) (te := tV K RS _) (tc := tVT K _) (g := tVG K _ _) (N' := ["_law_number", "_law_a", "_law_b", "_law_width", "_law_length"]) (cap := [none, none, none, none, none]) ["_law_script", "_law_many", "_law_order", "_law_passages", "_law_start", "_law_goal", "_law_flow_here", "_law_handed", "_law_told", "_law_walk_here", "_law_number", "_law_again"] (defScope (top 11)) rfl (by decide +kernel) rfl rfl (itZ (pi_zip (gl (sc := (defScope (top 11))) (by decide +kernel)) B.zip (paC (dF (pV vt 3)) (paC (dF (pV vt 6)) pa0)))) (fun _ _ _ _ _ => (tgT (n := 2) rfl (tgC (tgT (n := 4) rfl (tgC (tgN (pgC (i := 1) (show (["_law_number", "_law_a", "_law_b", "_law_width", "_law_length"] : List Str).Nodup by decide +kernel) (by decide +kernel))) (tgC (tgN (pgC (i := 2) (show (["_law_number", "_law_a", "_law_b", "_law_width", "_law_length"] : List Str).Nodup by decide +kernel) (by decide +kernel))) (tgC (tgN (pgC (i := 3) (show (["_law_number", "_law_a", "_law_b", "_law_width", "_law_length"] : List Str).Nodup by decide +kernel) (by decide +kernel))) (tgC (tgN (pgC (i := 4) (show (["_law_number", "_law_a", "_law_b", "_law_width", "_law_length"] : List Str).Nodup by decide +kernel) (by decide +kernel))) tg0))))) (tgC (tgN (pgC (i := 0) (show (["_law_number", "_law_a", "_law_b", "_law_width", "_law_length"] : List Str).Nodup by decide +kernel) (by decide +kernel))) tg0)))) (fun _ _ _ _ _ => ifN) (fun _ _ _ _ _ => (dTup (paC (dF (pVc (by decide +kernel) 1)) (paC (dF (pVc (by decide +kernel) 2)) (paC (dOp oAdd hAdd (sw dInt) (mw (dN (pVc (by decide +kernel) 0)))) (paC (dF (pVc (by decide +kernel) 4)) pa0))))))) fun _ _ _ q => rdLC rfl q))
 (sSeq (sAs (ps_asg (ns (dLst (paC (ns (dListOf (pe_callTy cList (gl (sc := (defScope (top 11))) (by decide +kernel)) B.list PyProof.Rows.boot_list (pa_cons (dN (pV vt 3)) pa_nil)))) (paC (ns (dListOf (pe_callTy cList (gl (sc := (defScope (top 11))) (by decide +kernel)) B.list PyProof.Rows.boot_list (pa_cons (dN (pV vt 6)) pa_nil)))) pa0)))) (tgN (pg_name (i := 7) nd rfl (lo (sc := (defScope (top 11))) (by decide +kernel))))))
 (sTrash NL (mk := [false, false, false, true, true, true, true, true, false, false, false, false]) (sMid (sOw (i := 8) (ps_set nd rfl (lo (sc := (defScope (top 11))) (by decide +kernel)) (dCalN (peCal Cwalks_of (hr.mono (by decide)) (gl (sc := (defScope (top 11))) (by decide +kernel)) (paC (dIx (dN (pV vt 7)) (sw dInt)) (paC (dF (pV vt 4)) (paC (dF (pV vt 5)) (paC (dIx (dN (pV vt 7)) (sw dInt)) pa0))))))))
 (sMid1 (sIf (PW.pt (wOr (cNot (cVal (dCalW (peCal C_law_right (hr.mono (by decide)) (gl (sc := (defScope (top 11))) (by decide +kernel)) (pwC (mw (dN (pV vt 8))) (pwC (mw (dN (pV vt 3))) (pwC (mw (dN (pV vt 4))) (pwC (mw (dN (pV vt 5))) (pwC (mw (dN (pV vt 6))) pw0))))))))) (wOr1 (cCmp (op_neD hr.units) hNe (mw (dN (pV vt 7))) (nw (dLst (paC (dF (pV vt 3)) (paC (dF (pV vt 6)) pa0))))))))
 (sOne (sRet dBool))
 sNil)
 (seq3 (pss_cons (ps_for PassesOwn.never rfl (pi_list (pV vt 8)) (pgTup (n := 2) rfl (pgsCons (pg_name (i := 9) nd rfl (lo (sc := (defScope (top 11))) (by decide +kernel))) (pgsCons (pg_name (i := 10) nd rfl (lo (sc := (defScope (top 11))) (by decide +kernel))) pgsNil))) (pss_one (ps_expr (peClr (pV vt 9)))))
 (pss_cons (ps_expr (peApp (pV vt 8) (pa_cons (pe_tup (pa_cons (pe_lst pa_nil) (pa_cons pe_int pa_nil))) pa_nil)))
 (sSeq (sAs (ps_asg (dCal (peCal Cwalks_of (hr.mono (by decide)) (gl (sc := (defScope (top 11))) (by decide +kernel)) (paC (dIx (dN (pV vt 7)) (sw dInt)) (paC (dF (pV vt 4)) (paC (dF (pV vt 5)) (paC (dIx (dN (pV vt 7)) (sw dInt)) pa0)))))) (tgN (pg_name (i := 11) nd rfl (lo (sc := (defScope (top 11))) (by decide +kernel))))))
 (sOne (sRet (dAnd (dCal (peCal C_law_right (hr.mono (by decide)) (gl (sc := (defScope (top 11))) (by decide +kernel)) (paC (dF (pV vt 11)) (paC (dF (pV vt 3)) (paC (dF (pV vt 4)) (paC (dF (pV vt 5)) (paC (dF (pV vt 6)) pa0))))))) (dOne (dCmp (op_eqD hr.units) hEq (sw (dCal (peCal Cwalks_of (hr.mono (by decide)) (gl (sc := (defScope (top 11))) (by decide +kernel)) (paC (dF (pV vt 3)) (paC (dF (pV vt 4)) (paC (dF (pV vt 5)) (paC (ns (dRep (dLst (paC dInt pa0)) (sw (dCB (pe_callB cLen (gl (sc := (defScope (top 11))) (by decide +kernel)) B.len PySem.boot_len (pwC (mw (dN (pV vt 6))) pw0)) hLen)))) pa0))))))) (nw (dLst pa0)))))))))))))
 (kills21 (by decide) (by decide) (by decide) (by decide) (by decide)))))))))
end K21
namespace K21
open PySem L2 VM Sp PM LH
local macro_rules | `(tactic| walk_at "ev") => `(tactic| (try simp only [owB_some, owB_none, nio_owB, fnM_eq, ob_some, ob_none, bFn_r, bFn_n, ini, gSeq_eq, bSeq_n, bSeq_r, bSeq_b, bSeq_c, gIf_eq, bIf_t, bIf_f, tAnd_eq, bAnd_t, bAnd_f, tOr_eq, bOr_t, bOr_f, tNot2, vAnd_eq, bAndE_t, bAndE_f, vOr_eq, bOrE_t, bOrE_f, vIf_eq, bIfE_t, bIfE_f, v2_eq, b2_s, b1_s, v1_eq, aC_eq, bC_s, bC1_s, a0, gAs_eq, bAs_s, bNx_s, gC_eq, bG_s, g0, vCall_eq, bCall_s, vCallN_eq, bCallN_s, vCallW_eq, bCallW_s, bResW_s, vCallWN_eq, bCallWN_s, bResWN_s, bIm_t, vImm_eq, bImm_s, bRes_s, bResN_s, vCh_eq, bCh_t, bCh_f, atI_0, atI_1, atI_2, atI_3, gFor_eq, bFor_s, gRet, gRetN, gRetO, gEx, gN, gT, gOw_eq, gOwF_eq, bOw_s, vLC_eq, vLCW_eq, bL_s, gFz, frz, gApp, gPut, gAug, gAugI, gNop, gFail, gClr, gPop, gRv, gIns, gPopAt, vSetLen, ownL, noIo_eq, nio_ob, nio_n, nio_fr, nio_ow, vN, vF, vC, vB, vTru, truD, vNot, imm, immL, ixDt, oN, oI, vSlL, vSlT, vRev, negD, vTup, vLst, vCB, lenD, absD, min2D, max2D, int1D, vIsi, isi_list, isi_int, isi_bool_i, isi_tuple, vListOf, immR, vItems, vItemsT, vRng1, vRng2, vEnum, vZip, capFr, capG, capOne, cTrue, addD_i, subD_i, ltD_i, leD_i, gtD_i, geD_i, xorD_i, eqD_i, neD_i, Int.reduceToNat, Int.reducePow, isD_n, isnD_n, isNoneD, List.length_cons, List.length_nil, List.map_cons, List.map_nil, List.replicate, List.cons_append, List.nil_append, List.append_nil, List.getElem?_cons_zero, List.getElem?_cons_succ, List.set_cons_zero, List.set_cons_succ, Nat.reduceAdd, Nat.reduceSub, Nat.reduceLeDiff, Nat.reduceEqDiff, Bool.and_true, Bool.true_and, Bool.not_true, Bool.not_false, Bool.false_eq_true, ↓reduceIte, if_true, if_false]))
variable {n : Nat} {ps : List Pas} {st g : Nat}
theorem setLen_nat {w : List Nat} (nd : w.Nodup) (hl : w.length ≤ 1000) : setLenD (.list (w.map natD)) = some (.int (w.length : Int)) := by
  have e : w.map natD = (w.map fun j : Nat => (j : Int)).map .int := by rw [List.map_map]; rfl
  have nd' : (w.map fun j : Nat => (j : Int)).Nodup := by
    refine List.Pairwise.map _ (fun a b h => ?_) nd
    intro z; exact h (by omega)
  unfold setLenD
  rw [e]
  simp only [intsOf_map]
  rw [unlike_nodup nd', if_pos (by rw [List.length_map]; omega), List.length_map]
theorem depth_nat (w : List Nat) : PyData.depthAll (w.map natD) ≤ 1 := by
  induction w with
  | nil => simp [PyData.depthAll]
  | cons a v ih => simp only [List.map_cons, PyData.depthAll, natD, PyData.depth]; omega
noncomputable def addW (m : Int) (L : List Int) (w : List Nat) : List Int := w.foldl (fun L j => L.set j (lf L j + m)) L
theorem addW_eq (m : Int) : ∀ (w : List Nat) (L : List Int), addW m L w = takeW (-m) L w
  | [], _ => rfl
  | j :: w, L => by
    show addW m (L.set j (lf L j + m)) w = takeW (-m) (takeJ (-m) L j) w
    rw [addW_eq m w]
    have : takeJ (-m) L j = L.set j (lf L j + m) := by unfold takeJ; rw [Int.sub_neg]
    rw [this]
noncomputable def sumsW (L : List Int) (ws : List (List Nat × Int)) : List Int := ws.foldl (fun L x => addW x.2 L x.1) L
theorem sumsW_len : ∀ (ws : List (List Nat × Int)) (L : List Int), (sumsW L ws).length = L.length
  | [], _ => rfl
  | x :: ws, L => by
    show (sumsW (addW x.2 L x.1) ws).length = _
    rw [sumsW_len ws, addW_eq, takeW_len]
theorem sumsW_lf : ∀ (ws : List (List Nat × Int)) (L : List Int), (∀ x ∈ ws, x.1.Nodup ∧ ∀ j ∈ x.1, j < L.length) → ∀ i, lf (sumsW L ws) i = lf L i + share i ws
  | [], L, _, i => by simp [sumsW, share]
  | x :: ws, L, h, i => by
    have h0 := h x List.mem_cons_self
    show lf (sumsW (addW x.2 L x.1) ws) i = _
    rw [sumsW_lf ws _ (fun y hy => by rw [addW_eq, takeW_len]; exact h y (List.mem_cons_of_mem _ hy)), addW_eq, takeW_lf h0.1 h0.2, share]
    split <;> omega
noncomputable def inB : VS := (gSeq (gIf (tOr2 (tNot2 (vB (vIsi "int" (vN 8)))) (tOr2 (vB (vIsi "bool" (vN 8))) (tOr2 (vB (v2 ltD (vN 8) (vC (.int 0)))) (tOr2 (vB (v2 geD (vN 8) (vCB lenD (aC (vN 1) a0)))) (vB (v2 neD (v2 ixDt (v2 ixDt (vN 1) (vN 8)) (vC (.int 0))) (vN 7))))))) (gRet (vC (.bool false))) gNop) (gSeq (gAs (v2 ixDt (v2 ixDt (vN 1) (vN 8)) (vC (.int 1))) (gN 7)) (gPut 5 (vN 8) (v2 addD (v2 ixDt (vN 5) (vN 8)) (v2 ixDt (vN 6) (vC (.int 1)))))))
noncomputable def outB : VS := (gSeq (gIf (tOr2 (tNot2 (vB (vIsi "tuple" (vN 6)))) (tOr2 (vB (v2 neD (vCB lenD (aC (vN 6) a0)) (vC (.int 2)))) (tOr2 (tNot2 (vB (vIsi "list" (v2 ixDt (vN 6) (vC (.int 0)))))) (vB (v2 eqD (v2 ixDt (vN 6) (vC (.int 0))) (vLst a0)))))) (gRet (vC (.bool false))) gNop) (gSeq (gIf (tOr2 (tNot2 (vB (vIsi "int" (v2 ixDt (vN 6) (vC (.int 1)))))) (tOr2 (vB (vIsi "bool" (v2 ixDt (vN 6) (vC (.int 1))))) (tOr2 (vB (v2 ltD (v2 ixDt (vN 6) (vC (.int 1))) (vC (.int 1)))) (vB (v2 neD (vSetLen (v2 ixDt (vN 6) (vC (.int 0)))) (vCB lenD (aC (v2 ixDt (vN 6) (vC (.int 0))) a0))))))) (gRet (vC (.bool false))) gNop) (gSeq (gAs (vF 2) (gN 7)) (gSeq (gFor (vItems (v2 ixDt (vN 6) (vC (.int 0)))) (gN 8) inB) (gSeq (gAs (vCall Pg.m_length_of (aC (vF 1) (aC (v2 ixDt (vN 6) (vC (.int 0))) a0))) (gN 9)) (gIf (tOr2 (vB (v2 neD (vN 7) (vN 3))) (tOr2 (vB (vIsi "bool" (vN 9))) (vB (v2 neD (vN 9) (vCB sumD (aC (vLC (vItems (v2 ixDt (vN 6) (vC (.int 0)))) [none, some 1] (gN 0) cTrue (v2 ixDt (v2 ixDt (vN 1) (vN 0)) (vC (.int 3)))) a0)))))) (gRet (vC (.bool false))) gNop))))))
theorem e_in (hp : ps.length ≤ 900) (A C : PyData) (s0 : Tg) (B : PyData) (m : Int) : ∀ (w : List Nat) (u v : Nat) (L : List Int) (x8 x9 : Option PyData), L.length = ps.length → (∀ j ∈ w, j < ps.length) → goes ps u w = some v → ∃ x8', forG (gN 8) inB (w.map natD)
    [some (s0, A), some (Tg.fr, hD ps), some (Tg.fr, .int (st : Int)), some (Tg.fr, .int (g : Int)), some (Tg.fr, B), some (Tg.ow, .list (L.map .int)), some (Tg.fr, .tuple [C, .int m]), some (Tg.fr, .int (u : Int)), ob x8, ob x9]
    = .nxt [some (s0, A), some (Tg.fr, hD ps), some (Tg.fr, .int (st : Int)), some (Tg.fr, .int (g : Int)), some (Tg.fr, B), some (Tg.ow, .list ((addW m L w).map .int)), some (Tg.fr, .tuple [C, .int m]), some (Tg.fr, .int (v : Int)), ob x8', ob x9]
  | [], u, v, L, x8, x9, _, _, h => by
    simp only [goes, Option.some.injEq] at h
    subst h
    exact ⟨x8, rfl⟩
  | j :: w, u, v, L, x8, x9, hL, hi, h => by
    have hj := hi j List.mem_cons_self
    have e := List.getElem?_eq_getElem hj
    rw [goes, e] at h
    simp only at h
    split at h
    · rename_i ha
      generalize ps[j] = q at *
      obtain ⟨x8', hx⟩ := e_in hp A C s0 B m w q.b v (L.set j (lf L j + m)) (some (.int (j : Int))) x9 (by rw [List.length_set]; exact hL) (fun i hm => hi i (List.mem_cons_of_mem _ hm)) h
      refine ⟨x8', ?_⟩
      have eat : atI ((ps.map toPq).map pD) (j : Int) = some (.tuple [.int (q.a : Int), .int (q.b : Int), .int q.w, .int q.l]) := atI_of pD (show (ps.map toPq)[j]? = some (toPq q) by rw [List.getElem?_map, e]; rfl)
      have ej : natD j = .int (j : Int) := rfl
      have eh : hD ps = .list ((ps.map toPq).map pD) := rfl
      have ea : addW m L (j :: w) = addW m (L.set j (lf L j + m)) w := rfl
      rw [List.map_cons, forG, ej, ea, ← hx, eh]
      have c1 : ¬ (j : Int) < 0 := by omega
      have c2 : ¬ (ps.length : Int) ≤ (j : Int) := by omega
      have c3 : (q.a : Int) = (u : Int) := by rw [ha]
      unfold inB
      walk_at "ev"
      simp only [c1, decide_false]
      walk_at "ev"
      simp only [List.length_map, c2, decide_false]
      walk_at "ev"
      rw [eat]
      walk_at "ev"
      simp only [c3, decide_true]
      walk_at "ev"
      rw [eat]
      walk_at "ev"
      rw [at_lf (by omega)]
      walk_at "ev"
      rw [List.length_map, ixN_of (by omega)]
      walk_at "ev"
      rw [← List.map_set]
    · cases h
theorem e_outer (hp : ps.length ≤ 900) (A B : PyData) (s0 : Tg) : ∀ (vs : List (List Nat × Int)) (L : List Int) (x6 x7 x8 x9 : Option PyData), L.length = ps.length → (∀ x ∈ vs, WalkOk ps st g x) → ∃ x6' x7' x8' x9', forG (gN 6) outB (vs.map wkD)
    [some (s0, A), some (Tg.fr, hD ps), some (Tg.fr, .int (st : Int)), some (Tg.fr, .int (g : Int)), some (Tg.fr, B), some (Tg.ow, .list (L.map .int)), ob x6, ob x7, ob x8, ob x9]
    = .nxt [some (s0, A), some (Tg.fr, hD ps), some (Tg.fr, .int (st : Int)), some (Tg.fr, .int (g : Int)), some (Tg.fr, B), some (Tg.ow, .list ((sumsW L vs).map .int)), ob x6', ob x7', ob x8', ob x9']
  | [], L, x6, x7, x8, x9, _, _ => ⟨x6, x7, x8, x9, rfl⟩
  | x :: vs, L, x6, x7, x8, x9, hL, hv => by
    have Wk := hv x List.mem_cons_self
    have hxl : x.1.length ≤ ps.length := nodup_lt Wk.nd Wk.ix
    obtain ⟨y8, hin⟩ := e_in (st := st) (g := g) hp A (.list (x.1.map natD)) s0 B x.2 x.1 st g L x8 x9 hL Wk.ix Wk.go
    obtain ⟨z6, z7, z8, z9, hx⟩ := e_outer hp A B s0 vs (addW x.2 L x.1) (some (wkD x)) (some (.int (g : Int))) y8 (some (.int (alongF Pas.l ps x.1))) (by rw [addW_eq, takeW_len]; exact hL) fun y hy => hv y (List.mem_cons_of_mem _ hy)
    refine ⟨z6, z7, z8, z9, ?_⟩
    have es : sumsW L (x :: vs) = sumsW (addW x.2 L x.1) vs := rfl
    have ew : wkD x = .tuple [.list (x.1.map natD), .int x.2] := rfl
    rw [List.map_cons, forG, es, ← hx, ew]
    have e2 : decide (((2 : Nat) : Int) = 2) = true := rfl
    have m1 := Wk.m1
    have c1 : ¬ x.2 < 1 := by omega
    have dn := depth_nat x.1
    have en : eqD (.list (x.1.map natD)) (.list []) = some (.bool false) := by
      unfold eqD
      rw [if_pos (by simp only [PyData.depth]; omega)]
      cases e : x.1 with
      | nil => exact absurd e Wk.ne
      | cons a r => simp [PyData.eqv, PyData.eqvAll]
    have el := e_lengthP Wk.ix (by omega)
    have eh : hD ps = .list ((ps.map toPq).map pD) := rfl
    unfold outB
    walk_at "ev"
    rw [e2]
    walk_at "ev"
    rw [en]
    walk_at "ev"
    simp only [c1, decide_false]
    walk_at "ev"
    rw [setLen_nat Wk.nd (by omega)]
    walk_at "ev"
    simp only [List.length_map, decide_true]
    walk_at "ev"
    rw [hin]
    walk_at "ev"
    rw [el]
    walk_at "ev"
    simp only [decide_true]
    walk_at "ev"
    rw [eh]
    walk_at "ev"
    rw [bLC_s rfl (by rw [List.length_map]; exact size_big (by omega))]
    rw [lcD_map (f := fun d => match d with | .int j => .int (atF Pas.l ps j.toNat) | _ => .none) (by
      intro d hd
      obtain ⟨j, hj, rfl⟩ := List.mem_map.mp hd
      have e := List.getElem?_eq_getElem (Wk.ix j hj)
      refine ⟨[some (Tg.fr, .int (j : Int)), some (Tg.fr, .list ((ps.map toPq).map pD))], ?_, rfl, ?_⟩
      · unfold natD; walk_at "ev"
      · walk_at "ev"
        rw [atI_of pD (show (ps.map toPq)[j]? = some (toPq (ps[j]'(Wk.ix j hj))) by rw [List.getElem?_map, e]; rfl)]
        unfold pD toPq natD
        walk_at "ev"
        simp only [Int.toNat_natCast, atF_some e])]
    walk_at "ev"
    rw [List.map_map]
    have e : (x.1.map ((fun d => match d with | .int j => PyData.int (atF Pas.l ps j.toNat) | _ => .none) ∘ natD)) = (x.1.map (atF Pas.l ps)).map .int := by
      rw [List.map_map]
      exact List.map_congr_left fun j _ => by simp [natD]
    rw [e]
    simp only [sumD, intsOf_map]
    walk_at "ev"
    have ef : alongF Pas.l ps x.1 = (x.1.map (atF Pas.l ps)).sum := rfl
    simp only [ef, decide_true]
    walk_at "ev"
theorem e_right {fl : List Int} {ws : List (List Nat × Int)} (hp : ps.length ≤ 900) (hl : fl.length = ps.length) (P : Parted ps st g fl ws) :
    m__law_right [.list (ws.map wkD), hD ps, .int (st : Int), .int (g : Int), .list (fl.map .int)] = some (false, .bool true) := by
  have hwl : ws.length ≤ ps.length := by have := P.few; have := cntP_len fl; omega
  have eh : hD ps = .list ((ps.map toPq).map pD) := rfl
  have c1 : ¬ (ps.length : Int) < (ws.length : Int) := by omega
  have eL : sumsW (List.replicate ps.length 0) ws = fl := by
    refine List.ext_getElem (by rw [sumsW_len, List.length_replicate, hl]) fun i h1 h2 => ?_
    have hi : i < ps.length := by rw [hl] at h2; exact h2
    rw [← lf_get (List.getElem?_eq_getElem h1), ← lf_get (List.getElem?_eq_getElem h2), sumsW_lf ws _ (fun x hx => ⟨(P.walk x hx).nd, fun j hj => by rw [List.length_replicate]; exact (P.walk x hx).ix j hj⟩)]
    have z : lf (List.replicate ps.length (0 : Int)) i = 0 := lf_get (by rw [List.getElem?_replicate, if_pos hi])
    rw [z, P.sum i hi, Int.zero_add]
  obtain ⟨x6, x7, x8, x9, hx⟩ := e_outer (st := st) (g := g) hp (.list (ws.map wkD)) (.list (fl.map .int)) Tg.fr ws (List.replicate ps.length 0) none none none none (by rw [List.length_replicate]) P.walk
  simp only [ob_none, List.map_replicate, eL] at hx
  unfold m__law_right g__law_right
  change fnM 5 10 (gSeq _ (gSeq _ (gSeq (gFor _ _ outB) _))) _ = _
  rw [eh]
  walk_at "ev"
  simp only [List.length_map, c1, decide_false]
  walk_at "ev"
  simp only [List.length_map]
  rw [repD_one _ (by omega)]
  walk_at "ev"
  rw [← eh, hx]
  walk_at "ev"
  have ee : eqD (.list (fl.map .int)) (.list (fl.map .int)) = some (.bool true) := by
    unfold eqD
    have := depth_ints fl
    rw [if_pos (by simp only [PyData.depth]; omega), SeqAt.eqv_refl _ (by simp only [PyData.canLay0]; exact can_ints fl)]
  rw [ee]
  rfl
end K21
namespace K21
open PySem L2 VM Sp PM LH
local macro_rules | `(tactic| walk_at "ev") => `(tactic| (try simp only [owB_some, owB_none, nio_owB, fnM_eq, ob_some, ob_none, bFn_r, bFn_n, ini, gSeq_eq, bSeq_n, bSeq_r, bSeq_b, bSeq_c, gIf_eq, bIf_t, bIf_f, tAnd_eq, bAnd_t, bAnd_f, tOr_eq, bOr_t, bOr_f, tNot2, vAnd_eq, bAndE_t, bAndE_f, vOr_eq, bOrE_t, bOrE_f, vIf_eq, bIfE_t, bIfE_f, v2_eq, b2_s, b1_s, v1_eq, aC_eq, bC_s, bC1_s, a0, gAs_eq, bAs_s, bNx_s, gC_eq, bG_s, g0, vCall_eq, bCall_s, vCallN_eq, bCallN_s, vCallW_eq, bCallW_s, bResW_s, vCallWN_eq, bCallWN_s, bResWN_s, bIm_t, vImm_eq, bImm_s, bRes_s, bResN_s, vCh_eq, bCh_t, bCh_f, atI_0, atI_1, atI_2, atI_3, gFor_eq, bFor_s, gRet, gRetN, gRetO, gEx, gN, gT, gOw_eq, gOwF_eq, bOw_s, vLC_eq, vLCW_eq, bL_s, gFz, frz, gApp, gPut, gAug, gAugI, gNop, gFail, gClr, gPop, gRv, gIns, gPopAt, vSetLen, ownL, noIo_eq, nio_ob, nio_n, nio_fr, nio_ow, vN, vF, vC, vB, vTru, truD, vNot, imm, immL, ixDt, oN, oI, vSlL, vSlT, vRev, negD, vTup, vLst, vCB, lenD, absD, min2D, max2D, int1D, vIsi, isi_list, isi_int, isi_bool_i, isi_tuple, vListOf, immR, vItems, vItemsT, vRng1, vRng2, vEnum, vZip, capFr, capG, capOne, cTrue, addD_i, subD_i, ltD_i, leD_i, gtD_i, geD_i, xorD_i, eqD_i, neD_i, Int.reduceToNat, Int.reducePow, isD_n, isnD_n, isNoneD, List.length_cons, List.length_nil, List.map_cons, List.map_nil, List.replicate, List.cons_append, List.nil_append, List.append_nil, List.getElem?_cons_zero, List.getElem?_cons_succ, List.set_cons_zero, List.set_cons_succ, Nat.reduceAdd, Nat.reduceSub, Nat.reduceLeDiff, Nat.reduceEqDiff, Bool.and_true, Bool.true_and, Bool.not_true, Bool.not_false, Bool.false_eq_true, ↓reduceIte, if_true, if_false]))
variable {n : Nat} {ps : List Pas} {st g : Nat}
noncomputable def bodyW : VS := (gSeq (gOwF 6 (vLC (vRng1 (aC (vCB lenD (aC (vN 0) a0)) a0)) [none, some 5, some 0] (gN 0) (vB (v2 eqD (v2 ixDt (v2 ixDt (vN 2) (vN 0)) (vC (.int 0))) (vN 1))) (vF 0))) (gSeq (gIf (vB (v2 eqD (vN 6) (vLst a0))) (gRet (vC .none)) gNop) (gSeq (gApp 4 (aC (v2 ixDt (vN 6) (v2 modD (vN 3) (vCB lenD (aC (vN 6) a0)))) a0)) (gSeq (gAs (v2 divD (vN 3) (vC (.int 3))) (gN 3)) (gAs (v2 ixDt (v2 ixDt (vN 0) (v2 ixDt (vN 4) (v1 negD (vC (.int 1))))) (vC (.int 1))) (gN 5))))))
noncomputable def SW (ps : List Pas) (st g : Nat) (c : Int) (w : List Nat) (v : Nat) (x6 : Option PyData) : GS := [some (Tg.fr, hD ps), some (Tg.fr, .int (st : Int)), some (Tg.fr, .int (g : Int)), some (Tg.fr, .int c), some (Tg.ow, .list (w.map natD)), some (Tg.fr, .int (v : Int)), ob x6]
theorem bodyW_go (hp : ps.length ≤ 900) {c : Int} {w : List Nat} {v : Nat} {x6 : Option PyData} (hw : w.length ≤ 1000000) : (∃ S', bodyW (SW ps st g c w v x6) = .ret S' false .none) ∨
    ∃ (i : Nat) (q : Pas) (c' : Int) (y6 : Option PyData), ps[i]? = some q ∧ q.a = v ∧ bodyW (SW ps st g c w v x6) = .nxt (SW ps st g c' (w ++ [i]) q.b y6) := by
  have eh : hD ps = .list ((ps.map toPq).map pD) := rfl
  have lc : ∀ R, R = lcD (gN 0) (vB (v2 eqD (v2 ixDt (v2 ixDt (vN 2) (vN 0)) (vC (.int 0))) (vN 1))) (vF 0) [none, some (Tg.fr, .int (v : Int)), some (Tg.fr, hD ps)] (rangeD 0 (ps.length : Int).toNat) → ∃ more : List Nat, (∀ i ∈ more, ∃ q, ps[i]? = some q ∧ q.a = v) ∧ R = some (more.map natD) := fun R hR => by
    refine ⟨(List.range ps.length).filter fun i => decide (atF (fun q => (q.a : Int)) ps i = (v : Int)), fun i hi => ?_, ?_⟩
    · obtain ⟨h1, h2⟩ := List.mem_filter.mp hi
      have e := List.getElem?_eq_getElem (List.mem_range.mp h1)
      refine ⟨_, e, ?_⟩
      have := of_decide_eq_true h2
      rw [atF_some e] at this
      omega
    · rw [hR, lcD_filter (p := fun d => match d with | .int i => decide (atF (fun q => (q.a : Int)) ps i.toNat = (v : Int)) | _ => false) (f := fun d => d) (by
        intro d hd
        obtain ⟨i, hi⟩ := List.mem_iff_getElem?.mp hd
        obtain ⟨hi, rfl⟩ := rangeD_get hi
        have hil : i < ps.length := by omega
        have e := List.getElem?_eq_getElem hil
        refine ⟨[some (Tg.fr, .int (i : Int)), some (Tg.fr, .int (v : Int)), some (Tg.fr, hD ps)], by simp only [Int.zero_add]; walk_at "ev", ?_, fun _ => by simp only [Int.zero_add]; walk_at "ev"⟩
        rw [eh]
        walk_at "ev"
        rw [atI_of pD (show (ps.map toPq)[i]? = some (toPq (ps[i]'hil)) by rw [List.getElem?_map, e]; rfl)]
        unfold pD toPq
        walk_at "ev"
        simp only [Int.zero_add, Int.toNat_natCast, atF_some e])]
      rw [List.map_id'' (fun d => rfl)]
      unfold rangeD
      rw [List.filter_map, Int.toNat_natCast]
      refine congrArg some ?_
      have : ((fun d => match d with | PyData.int i => decide (atF (fun q => (q.a : Int)) ps i.toNat = (v : Int)) | _ => false) ∘ fun i : Nat => PyData.int (0 + (i : Int))) = fun i => decide (atF (fun q => (q.a : Int)) ps i = (v : Int)) := by funext i; simp
      rw [this]
      exact List.map_congr_left fun i _ => by simp [natD]
  obtain ⟨more, hm, em⟩ := lc _ rfl
  rw [eh] at em
  unfold bodyW SW
  rw [eh]
  walk_at "ev"
  simp only [List.length_map]
  rw [if_pos (by omega)]
  walk_at "ev"
  rw [bLC_s rfl (by rw [rangeD_length]; simp only [Int.toNat_natCast]; exact size_big (by omega))]
  walk_at "ev"
  rw [em]
  walk_at "ev"
  by_cases hz : more = []
  · subst hz
    walk_at "ev"
    have en : eqD (.list []) (.list []) = some (.bool true) := rfl
    rw [en]
    walk_at "ev"
    exact .inl ⟨_, rfl⟩
  · have en : eqD (.list (more.map natD)) (.list []) = some (.bool false) := by
      have dn := depth_nat more
      unfold eqD
      rw [if_pos (by simp only [PyData.depth]; omega)]
      cases e : more with
      | nil => exact absurd e hz
      | cons a r => simp [PyData.eqv, PyData.eqvAll]
    rw [en]
    walk_at "ev"
    have hml : 0 < more.length := by cases e : more with
      | nil => exact absurd e hz
      | cons a r => simp
    have hmi := mod_in c (show (0 : Int) < (more.length : Int) by omega)
    have hix : (c % (more.length : Int)).toNat < more.length := by omega
    have e1 := List.getElem?_eq_getElem hix
    obtain ⟨q, hq, ha⟩ := hm _ (List.getElem_mem hix)
    have eN : c % (more.length : Int) = (((c % (more.length : Int)).toNat : Nat) : Int) := by omega
    generalize more[(c % (more.length : Int)).toNat] = i at *
    refine .inr ⟨i, q, c / 3, some (.list (more.map natD)), hq, ha, ?_⟩
    simp only [List.length_map]
    rw [modD_i (by omega)]
    walk_at "ev"
    rw [eN, atI_of natD e1]
    walk_at "ev"
    rw [if_pos (by rw [List.length_map]; exact size_big (by omega))]
    walk_at "ev"
    simp only [divD_i (show (0 : Int) < 3 by decide) (by decide)]
    walk_at "ev"
    rw [atI_last (List.getLast?_concat)]
    walk_at "ev"
    unfold natD
    walk_at "ev"
    rw [atI_of pD (show (ps.map toPq)[i]? = some (toPq q) by rw [List.getElem?_map, hq]; rfl)]
    unfold pD toPq
    walk_at "ev"
    rw [List.map_append]
    rfl
theorem e_walk {ρ : Nat → Int} {R : Int} (hp : ps.length ≤ 900) (up : ∀ q ∈ ps, ρ q.a < ρ q.b ∧ ρ q.b ≤ R) (c : Int) (hR : ρ st ≤ R) (hR2 : R - ρ st ≤ 1000) : (∃ w, m__law_walk [hD ps, .int (st : Int), .int (g : Int), .int c] = some (true, .list (w.map natD)) ∧ goes ps st w = some g ∧ ∀ j ∈ w, j < ps.length) ∨ m__law_walk [hD ps, .int (st : Int), .int (g : Int), .int c] = some (false, .none) := by
  have key : ∀ (k : Nat) (c : Int) (w : List Nat) (v : Nat) (x6 : Option PyData), (R - ρ v).toNat < k → ρ v ≤ R → (w.length : Int) + (R - ρ v) ≤ 1000 → goes ps st w = some v → (∀ j ∈ w, j < ps.length) →
      ∃ fuel, (∃ S', whileN (vB (v2 neD (vN 5) (vN 2))) bodyW fuel (SW ps st g c w v x6) = .ret S' false .none) ∨ ∃ w' c' y6, goes ps st w' = some g ∧ (∀ j ∈ w', j < ps.length) ∧ whileN (vB (v2 neD (vN 5) (vN 2))) bodyW fuel (SW ps st g c w v x6) = .nxt (SW ps st g c' w' g y6) := fun k => by
    induction k with
    | zero => intro c w v x6 h; omega
    | succ k ih =>
      intro c w v x6 hk hv hwl hw hj
      have cond : vB (v2 neD (vN 5) (vN 2)) (SW ps st g c w v x6) = some (!decide ((v : Int) = (g : Int))) := by
        unfold SW
        walk_at "ev"
      by_cases hg : v = g
      · subst hg
        refine ⟨1, .inr ⟨w, c, x6, hw, hj, ?_⟩⟩
        rw [whileN, cond]
        simp
      · have hc : vB (v2 neD (vN 5) (vN 2)) (SW ps st g c w v x6) = some true := by
          rw [cond]
          have : ¬ ((v : Int) = (g : Int)) := by omega
          simp only [this, decide_false]
          rfl
        rcases bodyW_go (st := st) (g := g) (c := c) (w := w) (v := v) (x6 := x6) hp (by omega) with ⟨S', e⟩ | ⟨i, q, c', y6, hq, ha, e⟩
        · exact ⟨1, .inl ⟨S', whileN_ret hc e⟩⟩
        · have hu := up q (List.mem_of_getElem? hq)
          rw [ha] at hu
          have hil : i < ps.length := (List.getElem?_eq_some_iff.mp hq).1
          obtain ⟨fuel, h⟩ := ih c' (w ++ [i]) q.b y6 (by omega) hu.2 (by rw [List.length_append]; simp only [List.length_cons, List.length_nil]; omega) (goes_snoc hq (by rw [ha]; exact hw)) (fun j h => by
            rcases List.mem_append.mp h with h | h
            · exact hj j h
            · rw [List.mem_singleton.mp h]; exact hil)
          refine ⟨fuel + 1, ?_⟩
          rcases h with ⟨S', h⟩ | ⟨w', c2, y, h1, h2, h3⟩
          · exact .inl ⟨S', whileN_go hc e h⟩
          · exact .inr ⟨w', c2, y, h1, h2, whileN_go hc e h3⟩
  obtain ⟨fuel, h⟩ := key _ c [] st none (Nat.lt_succ_self _) hR (by simp; omega) rfl (by simp)
  unfold m__law_walk g__law_walk
  change (∃ w, fnM 4 7 (gSeq _ (gSeq _ (gSeq (gWh _ bodyW) _))) _ = _ ∧ _) ∨ fnM 4 7 (gSeq _ (gSeq _ (gSeq (gWh _ bodyW) _))) _ = _
  walk_at "ev"
  rcases h with ⟨S', h⟩ | ⟨w', c2, y, h1, h2, h3⟩
  · refine .inr ?_
    have h6 := gWh_eq h (by intro z; cases z)
    unfold SW at h6
    simp only [ob_none, List.map_nil] at h6
    rw [h6]
    walk_at "ev"
  · refine .inl ⟨w', ?_, h1, h2⟩
    have h6 := gWh_eq h3 (by intro z; cases z)
    unfold SW at h6
    simp only [ob_none, List.map_nil] at h6
    rw [h6]
    walk_at "ev"
end K21
namespace K21
open PySem L2 VM Sp PM LH
local macro_rules | `(tactic| walk_at "ev") => `(tactic| (try simp only [owB_some, owB_none, nio_owB, fnM_eq, ob_some, ob_none, bFn_r, bFn_n, ini, gSeq_eq, bSeq_n, bSeq_r, bSeq_b, bSeq_c, gIf_eq, bIf_t, bIf_f, tAnd_eq, bAnd_t, bAnd_f, tOr_eq, bOr_t, bOr_f, tNot2, vAnd_eq, bAndE_t, bAndE_f, vOr_eq, bOrE_t, bOrE_f, vIf_eq, bIfE_t, bIfE_f, v2_eq, b2_s, b1_s, v1_eq, aC_eq, bC_s, bC1_s, a0, gAs_eq, bAs_s, bNx_s, gC_eq, bG_s, g0, vCall_eq, bCall_s, vCallN_eq, bCallN_s, vCallW_eq, bCallW_s, bResW_s, vCallWN_eq, bCallWN_s, bResWN_s, bIm_t, vImm_eq, bImm_s, bRes_s, bResN_s, vCh_eq, bCh_t, bCh_f, atI_0, atI_1, atI_2, atI_3, gFor_eq, bFor_s, gRet, gRetN, gRetO, gEx, gN, gT, gOw_eq, gOwF_eq, bOw_s, vLC_eq, vLCW_eq, bL_s, gFz, frz, gApp, gPut, gAug, gAugI, gNop, gFail, gClr, gPop, gRv, gIns, gPopAt, vSetLen, ownL, noIo_eq, nio_ob, nio_n, nio_fr, nio_ow, vN, vF, vC, vB, vTru, truD, vNot, imm, immL, ixDt, oN, oI, vSlL, vSlT, vRev, negD, vTup, vLst, vCB, lenD, absD, min2D, max2D, int1D, vIsi, isi_list, isi_int, isi_bool_i, isi_tuple, vListOf, immR, vItems, vItemsT, vRng1, vRng2, vEnum, vZip, capFr, capG, capOne, cTrue, addD_i, subD_i, ltD_i, leD_i, gtD_i, geD_i, xorD_i, eqD_i, neD_i, Int.reduceToNat, Int.reducePow, isD_n, isnD_n, isNoneD, List.length_cons, List.length_nil, List.map_cons, List.map_nil, List.replicate, List.cons_append, List.nil_append, List.append_nil, List.getElem?_cons_zero, List.getElem?_cons_succ, List.set_cons_zero, List.set_cons_succ, Nat.reduceAdd, Nat.reduceSub, Nat.reduceLeDiff, Nat.reduceEqDiff, Bool.and_true, Bool.true_and, Bool.not_true, Bool.not_false, Bool.false_eq_true, ↓reduceIte, if_true, if_false]))
variable {n : Nat} {ps : List Pas} {st g : Nat}
noncomputable def putF : VS := (gPut 4 (vN 8) (v2 addD (v2 ixDt (vN 4) (vN 8)) (vN 7)))
noncomputable def bodyF : VS := (gSeq (gAs (vCall m__law_walk (aC (vF 1) (aC (vF 2) (aC (vF 3) (aC (v2 divD (vN 5) (vC (.int 7))) a0))))) (gN 6)) (gSeq (gAs (v2 addD (vC (.int 1)) (v2 modD (v2 divD (vN 5) (vC (.int 7))) (vC (.int 9)))) (gN 7)) (gSeq (gIf (vB (v2 eqD (v2 modD (vN 5) (vC (.int 7))) (vC (.int 3)))) (gAs (v2 addD (vC (.int 1)) (v2 modD (v2 divD (vN 5) (vC (.int 7))) (v2 powD (vC (.int 10)) (vC (.int 50))))) (gN 7)) gNop) (gIf (vB (v2 isnD (vN 6) (vC .none))) (gFor (vItems (vF 6)) (gN 8) putF) gNop))))
theorem addW_nn {m : Int} (hm : 0 ≤ m) : ∀ (w : List Nat) (L : List Int), (∀ i, 0 ≤ lf L i) → (∀ j ∈ w, j < L.length) → ∀ i, 0 ≤ lf (addW m L w) i
  | [], L, h, _, i => h i
  | j :: w, L, h, hj, i => by
    refine addW_nn hm w (L.set j (lf L j + m)) (fun k => ?_) (fun k hk => by rw [List.length_set]; exact hj k (List.mem_cons_of_mem _ hk)) i
    rw [lfSet (hj j List.mem_cons_self)]
    split
    · have := h j; omega
    · exact h k
structure FlowD (ps : List Pas) (st g : Nat) (fl : List Int) (M : Int) : Prop where
  len : fl.length = ps.length
  nn : ∀ i, 0 ≤ lf fl i
  M0 : 0 ≤ M
  net : ∀ z : Nat, zs (fun q f => f * (Sp.b2 (q.b = z) - Sp.b2 (q.a = z))) ps fl = M * (Sp.b2 (g = z) - Sp.b2 (st = z))
theorem FlowD.add {fl : List Int} {M m : Int} {w : List Nat} (F : FlowD ps st g fl M) (hm : 0 ≤ m) (hw : goes ps st w = some g) (hi : ∀ j ∈ w, j < ps.length) : FlowD ps st g (addW m fl w) (M + m) where
  len := by rw [addW_eq, takeW_len]; exact F.len
  nn := addW_nn hm w fl F.nn (fun j hj => by rw [F.len]; exact hi j hj)
  M0 := by have := F.M0; omega
  net := fun z => by
    rw [addW_eq, zs_take (ps := ps) (fun q => Sp.b2 (q.b = z) - Sp.b2 (q.a = z)) (-m) F.len (fun j hj => by rw [F.len]; exact hi j hj), F.net z, goes_pot (fun v => Sp.b2 (v = z)) hw, Int.add_mul, Int.neg_mul, Int.sub_neg]
theorem e_put (m : Int) (A0 A1 A2 A3 A5 A6 : Option (Tg × PyData)) : ∀ (w : List Nat) (L : List Int) (x8 : Option PyData), (∀ j ∈ w, j < L.length) → ∃ y8, forG (gN 8) putF (w.map natD) [A0, A1, A2, A3, some (Tg.ow, .list (L.map .int)), A5, A6, some (Tg.fr, .int m), ob x8] = .nxt [A0, A1, A2, A3, some (Tg.ow, .list ((addW m L w).map .int)), A5, A6, some (Tg.fr, .int m), ob y8]
  | [], L, x8, _ => ⟨x8, rfl⟩
  | j :: w, L, x8, hi => by
    have hj := hi j List.mem_cons_self
    obtain ⟨y8, hx⟩ := e_put m A0 A1 A2 A3 A5 A6 w (L.set j (lf L j + m)) (some (.int (j : Int))) (fun i hm => by rw [List.length_set]; exact hi i (List.mem_cons_of_mem _ hm))
    refine ⟨y8, ?_⟩
    have ej : natD j = .int (j : Int) := rfl
    have ea : addW m L (j :: w) = addW m (L.set j (lf L j + m)) w := rfl
    rw [List.map_cons, forG, ej, ea, ← hx]
    unfold putF
    walk_at "ev"
    rw [at_lf (by omega)]
    walk_at "ev"
    rw [List.length_map, ixN_of (by omega)]
    walk_at "ev"
    rw [← List.map_set]
theorem e_flowL {ρ : Nat → Int} {R : Int} (hp : ps.length ≤ 900) (up : ∀ q ∈ ps, ρ q.a < ρ q.b ∧ ρ q.b ≤ R) (hR : ρ st ≤ R) (hR2 : R - ρ st ≤ 1000) (A0 : Option (Tg × PyData)) : ∀ (cs : List Int) (fl : List Int) (M : Int) (x5 x6 x7 x8 : Option PyData), FlowD ps st g fl M → ∃ fl' M' y5 y6 y7 y8, FlowD ps st g fl' M' ∧ forG (gN 5) bodyF (cs.map .int)
    [A0, some (Tg.fr, hD ps), some (Tg.fr, .int (st : Int)), some (Tg.fr, .int (g : Int)), some (Tg.ow, .list (fl.map .int)), ob x5, ob x6, ob x7, ob x8] = .nxt [A0, some (Tg.fr, hD ps), some (Tg.fr, .int (st : Int)), some (Tg.fr, .int (g : Int)), some (Tg.ow, .list (fl'.map .int)), ob y5, ob y6, ob y7, ob y8]
  | [], fl, M, x5, x6, x7, x8, F => ⟨fl, M, x5, x6, x7, x8, F, rfl⟩
  | c :: cs, fl, M, x5, x6, x7, x8, F => by
    obtain ⟨m, m0, hm⟩ : ∃ m : Int, 0 ≤ m ∧ m = if c % 7 = 3 then 1 + c / 7 % 100000000000000000000000000000000000000000000000000 else 1 + c / 7 % 9 := by
      refine ⟨_, ?_, rfl⟩
      split
      · have := mod_in (c / 7) (show (0 : Int) < 100000000000000000000000000000000000000000000000000 by decide); omega
      · have := mod_in (c / 7) (show (0 : Int) < 9 by decide); omega
    have step : ∃ fl1 M1 y5 y6 y7 y8, FlowD ps st g fl1 M1 ∧ bodyF [A0, some (Tg.fr, hD ps), some (Tg.fr, .int (st : Int)), some (Tg.fr, .int (g : Int)), some (Tg.ow, .list (fl.map .int)), some (Tg.fr, .int c), ob x6, ob x7, ob x8] = .nxt [A0, some (Tg.fr, hD ps), some (Tg.fr, .int (st : Int)), some (Tg.fr, .int (g : Int)), some (Tg.ow, .list (fl1.map .int)), ob y5, ob y6, ob y7, ob y8] := by
      rcases e_walk (g := g) hp up (c / 7) hR hR2 with ⟨w, e, hw, hi⟩ | e
      · obtain ⟨y8, hx⟩ := e_put m A0 (some (Tg.fr, hD ps)) (some (Tg.fr, .int (st : Int))) (some (Tg.fr, .int (g : Int))) (some (Tg.fr, .int c)) (some (Tg.fr, .list (w.map natD))) w fl x8 (fun j hj => by rw [F.len]; exact hi j hj)
        refine ⟨_, _, some (.int c), some (.list (w.map natD)), some (.int m), y8, F.add m0 hw hi, ?_⟩
        unfold bodyF
        walk_at "ev"
        simp only [divD_i (show (0 : Int) < 7 by decide) (by decide)]
        walk_at "ev"
        rw [e]
        walk_at "ev"
        simp only [divD_i (show (0 : Int) < 7 by decide) (by decide)]
        walk_at "ev"
        rw [modD_i (show (0 : Int) < 9 by decide)]
        walk_at "ev"
        rw [modD_i (show (0 : Int) < 7 by decide)]
        walk_at "ev"
        by_cases h7 : c % 7 = 3
        · rw [if_pos h7] at hm
          simp only [h7, decide_true]
          walk_at "ev"
          simp only [divD_i (show (0 : Int) < 7 by decide) (by decide)]
          walk_at "ev"
          simp only [powD_i (show (0 : Int) ≤ 50 by decide) (by decide) (show (0 : Int) ≤ 10 by decide) (by decide)]
          walk_at "ev"
          rw [modD_i (by decide)]
          walk_at "ev"
          rw [← hm]
          exact hx
        · rw [if_neg h7] at hm
          simp only [h7, decide_false]
          walk_at "ev"
          rw [← hm]
          exact hx
      · refine ⟨fl, M, some (.int c), some .none, some (.int m), x8, F, ?_⟩
        unfold bodyF
        walk_at "ev"
        simp only [divD_i (show (0 : Int) < 7 by decide) (by decide)]
        walk_at "ev"
        rw [e]
        walk_at "ev"
        simp only [divD_i (show (0 : Int) < 7 by decide) (by decide)]
        walk_at "ev"
        rw [modD_i (show (0 : Int) < 9 by decide)]
        walk_at "ev"
        rw [modD_i (show (0 : Int) < 7 by decide)]
        walk_at "ev"
        by_cases h7 : c % 7 = 3
        · rw [if_pos h7] at hm
          simp only [h7, decide_true]
          walk_at "ev"
          simp only [divD_i (show (0 : Int) < 7 by decide) (by decide)]
          walk_at "ev"
          simp only [powD_i (show (0 : Int) ≤ 50 by decide) (by decide) (show (0 : Int) ≤ 10 by decide) (by decide)]
          walk_at "ev"
          rw [modD_i (by decide)]
          walk_at "ev"
          rw [← hm]
        · rw [if_neg h7] at hm
          simp only [h7, decide_false]
          walk_at "ev"
          rw [← hm]
    obtain ⟨fl1, M1, y5, y6, y7, y8, F1, e⟩ := step
    obtain ⟨fl', M', z5, z6, z7, z8, F', h⟩ := e_flowL hp up hR hR2 A0 cs fl1 M1 y5 y6 y7 y8 F1
    refine ⟨fl', M', z5, z6, z7, z8, F', ?_⟩
    rw [List.map_cons, forG]
    walk_at "ev"
    rw [e]
    exact h
theorem e_flow {ρ : Nat → Int} {R : Int} {ns : List Int} (hp : ps.length ≤ 900) (up : ∀ q ∈ ps, ρ q.a < ρ q.b ∧ ρ q.b ≤ R) (hR : ρ st ≤ R) (hR2 : R - ρ st ≤ 1000) (hns : ns.length ≤ 63) : ∃ fl M, FlowD ps st g fl M ∧ m__law_flow [.list (ns.map .int), hD ps, .int (st : Int), .int (g : Int)] = some (true, .list (fl.map .int)) := by
  have eh : hD ps = .list ((ps.map toPq).map pD) := rfl
  have F0 : FlowD ps st g (List.replicate ps.length 0) 0 := by
    have z : ∀ i, lf (List.replicate ps.length (0 : Int)) i = 0 := fun i => by
      by_cases hi : i < ps.length
      · exact lf_get (by rw [List.getElem?_replicate, if_pos hi])
      · unfold lf; simp [hi]
    exact ⟨List.length_replicate, fun i => by rw [z]; omega, by omega, fun v => by rw [zs_zero _ (fun i _ => z i)]; simp⟩
  unfold m__law_flow g__law_flow
  change ∃ fl M, FlowD ps st g fl M ∧ fnM 4 9 (gSeq _ (gSeq (gFor _ _ bodyF) _)) _ = _
  rw [eh]
  walk_at "ev"
  simp only [List.length_map]
  rw [repD_one _ (by omega)]
  walk_at "ev"
  obtain ⟨cs, ec⟩ : ∃ cs : List Int, cutD (ns.map PyData.int) (some 14) (some 63) = cs.map .int := by
    exact ⟨_, cutD_map _ _ _ _⟩
  obtain ⟨fl, M, y5, y6, y7, y8, F, h⟩ := e_flowL (g := g) hp up hR hR2 (some (Tg.fr, .list (ns.map .int))) cs _ _ none none none none F0
  simp only [ob_none, List.map_replicate] at h
  refine ⟨fl, M, F, ?_⟩
  rw [ec, ← eh, h]
  walk_at "ev"
end K21
namespace K21
open PySem L2 VM Sp PM LH
local macro_rules | `(tactic| walk_at "ev") => `(tactic| (try simp only [owB_some, owB_none, nio_owB, fnM_eq, ob_some, ob_none, bFn_r, bFn_n, ini, gSeq_eq, bSeq_n, bSeq_r, bSeq_b, bSeq_c, gIf_eq, bIf_t, bIf_f, tAnd_eq, bAnd_t, bAnd_f, tOr_eq, bOr_t, bOr_f, tNot2, vAnd_eq, bAndE_t, bAndE_f, vOr_eq, bOrE_t, bOrE_f, vIf_eq, bIfE_t, bIfE_f, v2_eq, b2_s, b1_s, v1_eq, aC_eq, bC_s, bC1_s, a0, gAs_eq, bAs_s, bNx_s, gC_eq, bG_s, g0, vCall_eq, bCall_s, vCallN_eq, bCallN_s, vCallW_eq, bCallW_s, bResW_s, vCallWN_eq, bCallWN_s, bResWN_s, bIm_t, vImm_eq, bImm_s, bRes_s, bResN_s, vCh_eq, bCh_t, bCh_f, atI_0, atI_1, atI_2, atI_3, gFor_eq, bFor_s, gRet, gRetN, gRetO, gEx, gN, gT, gOw_eq, gOwF_eq, bOw_s, vLC_eq, vLCW_eq, bL_s, gFz, frz, gApp, gPut, gAug, gAugI, gNop, gFail, gClr, gPop, gRv, gIns, gPopAt, vSetLen, ownL, noIo_eq, nio_ob, nio_n, nio_fr, nio_ow, vN, vF, vC, vB, vTru, truD, vNot, imm, immL, ixDt, oN, oI, vSlL, vSlT, vRev, negD, vTup, vLst, vCB, lenD, absD, min2D, max2D, int1D, vIsi, isi_list, isi_int, isi_bool_i, isi_tuple, vListOf, immR, vItems, vItemsT, vRng1, vRng2, vEnum, vZip, capFr, capG, capOne, cTrue, addD_i, subD_i, ltD_i, leD_i, gtD_i, geD_i, xorD_i, eqD_i, neD_i, Int.reduceToNat, Int.reducePow, isD_n, isnD_n, isNoneD, List.length_cons, List.length_nil, List.map_cons, List.map_nil, List.replicate, List.cons_append, List.nil_append, List.append_nil, List.getElem?_cons_zero, List.getElem?_cons_succ, List.set_cons_zero, List.set_cons_succ, Nat.reduceAdd, Nat.reduceSub, Nat.reduceLeDiff, Nat.reduceEqDiff, Bool.and_true, Bool.true_and, Bool.not_true, Bool.not_false, Bool.false_eq_true, ↓reduceIte, if_true, if_false]))
theorem e_cell {ns : List Int} {k : Int} (h0 : 0 ≤ k) : m__law_cell_at [.list (ns.map .int), .int k] = some (false, .int (cellI ns k)) := by
  unfold m__law_cell_at g__law_cell_at
  walk_at "ev"
  simp only [List.length_map]
  by_cases h : k < ns.length
  · simp only [h, decide_true]
    walk_at "ev"
    rw [atI_ints h0 h]
    walk_at "ev"
  · simp only [h, decide_false]
    walk_at "ev"
    rw [cellI_far h0 h]
structure HallD (n : Nat) (os : List Nat) (ps : List Pas) : Prop where
  nd : os.Nodup
  ol : os.length = n
  n2 : 2 ≤ n
  n7 : n ≤ 7
  pl : ps.length ≤ 12
  up : ∀ q ∈ ps, ∃ a b : Nat, os[a]? = some q.a ∧ os[b]? = some q.b ∧ a < b
theorem e_hall {ns : List Int} : ∃ n os ps, HallD n os ps ∧ m__law_hall [.list (ns.map .int)] = some (false, .tuple [.int (n : Int), .list (os.map natD), hD ps]) := by
  unfold m__law_hall g__law_hall
  walk_at "ev"
  rw [e_cell (by decide)]
  walk_at "ev"
  rw [modD_i (show (0 : Int) < 6 by decide)]
  walk_at "ev"
  rw [e_cell (by decide)]
  walk_at "ev"
  simp only [divD_i (show (0 : Int) < 6 by decide) (by decide)]
  walk_at "ev"
  rw [modD_i (show (0 : Int) < 6 by decide)]
  walk_at "ev"
  have b1 := mod_in (cellI ns 0) (show (0 : Int) < 6 by decide)
  have b2 := mod_in (cellI ns 0 / 6) (show (0 : Int) < 6 by decide)
  generalize hS : 1 + cellI ns 0 / 6 % 6 = tn at *
  obtain ⟨n, hn⟩ : ∃ n : Nat, 2 + cellI ns 0 % 6 = (n : Int) := ⟨(2 + cellI ns 0 % 6).toNat, by omega⟩
  rw [hn]
  rw [if_pos (by omega)]
  walk_at "ev"
  generalize hF : forG (gN 4) _ _ _ = o
  obtain ⟨S', rfl, os, y4, rfl, hol, hnd, hob⟩ : ∃ S', o = .nxt S' ∧ ∃ (os : List Nat) (y4 : Option PyData), S' = [some (Tg.fr, .list (ns.map .int)), some (Tg.fr, .int (n : Int)), some (Tg.fr, .int tn), some (Tg.ow, .list (os.map natD)), ob y4, none, none, none, none] ∧ os.length = 0 + (rangeD 0 (n : Int).toNat).length ∧ os.Nodup ∧ ∀ x ∈ os, x < os.length := by
    rw [← hF]
    refine forG_ok (t := gN 4) (fun i S => ∃ (os : List Nat) (y4 : Option PyData), S = [some (Tg.fr, .list (ns.map .int)), some (Tg.fr, .int (n : Int)), some (Tg.fr, .int tn), some (Tg.ow, .list (os.map natD)), ob y4, none, none, none, none] ∧ os.length = i ∧ os.Nodup ∧ ∀ x ∈ os, x < os.length) _ 0 _ ⟨[], none, rfl, rfl, .nil, by simp⟩ ?_
    rintro j d S hj ⟨os, y4, rfl, hol, hnd, hob⟩
    obtain ⟨hj, rfl⟩ := rangeD_get hj
    refine ⟨[some (Tg.fr, .list (ns.map .int)), some (Tg.fr, .int (n : Int)), some (Tg.fr, .int tn), some (Tg.ow, .list (os.map natD)), some (Tg.fr, .int (0 + (j : Int))), none, none, none, none], by walk_at "ev", ?_⟩
    simp only [Int.zero_add]
    walk_at "ev"
    rw [mulD_i (by omega) (by omega) (by omega) (by omega)]
    walk_at "ev"
    rw [modD_i (by omega)]
    walk_at "ev"
    have hm := mod_in (tn * (j : Int)) (show (0 : Int) < (j : Int) + 1 by omega)
    rw [if_pos ⟨by rw [List.length_map]; exact size_big (by omega), by omega, by omega⟩]
    refine ⟨_, .inl rfl, insAt (tn * (j : Int) % ((j : Int) + 1)).toNat j os, some (.int (j : Int)), ?_, by rw [len_insAt, hol], nodup_insAt hnd (fun h => by have := hob j h; omega), fun x hx => ?_⟩
    · rw [insAt_map]; rfl
    · rw [len_insAt]
      rcases mem_insAt hx with h | h
      · omega
      · have := hob x h; omega
  clear hF
  rw [rangeD_length, Int.toNat_natCast, Nat.zero_add] at hol
  walk_at "ev"
  rw [e_cell (by decide)]
  walk_at "ev"
  rw [modD_i (show (0 : Int) < 13 by decide)]
  walk_at "ev"
  have b3 := mod_in (cellI ns 1) (show (0 : Int) < 13 by decide)
  obtain ⟨m, hm⟩ : ∃ m : Nat, cellI ns 1 % 13 = (m : Int) := ⟨(cellI ns 1 % 13).toNat, by omega⟩
  rw [hm]
  rw [if_pos (by omega)]
  walk_at "ev"
  generalize hF : forG (gN 4) _ _ _ = o
  obtain ⟨S', rfl, ps, y4, y6, y7, y8, rfl, hpl, hup⟩ : ∃ S', o = .nxt S' ∧ ∃ (ps : List Pas) (y4 y6 y7 y8 : Option PyData), S' = [some (Tg.fr, .list (ns.map .int)), some (Tg.fr, .int (n : Int)), some (Tg.fr, .int tn), some (Tg.ow, .list (os.map natD)), ob y4, some (Tg.ow, .list ((ps.map toPq).map pD)), ob y6, ob y7, ob y8] ∧ ps.length = 0 + (rangeD 0 (m : Int).toNat).length ∧ ∀ q ∈ ps, ∃ a b : Nat, os[a]? = some q.a ∧ os[b]? = some q.b ∧ a < b := by
    rw [← hF]
    refine forG_ok (t := gN 4) (fun i S => ∃ (ps : List Pas) (y4 y6 y7 y8 : Option PyData), S = [some (Tg.fr, .list (ns.map .int)), some (Tg.fr, .int (n : Int)), some (Tg.fr, .int tn), some (Tg.ow, .list (os.map natD)), ob y4, some (Tg.ow, .list ((ps.map toPq).map pD)), ob y6, ob y7, ob y8] ∧ ps.length = i ∧ ∀ q ∈ ps, ∃ a b : Nat, os[a]? = some q.a ∧ os[b]? = some q.b ∧ a < b) _ 0 _ ⟨[], y4, none, none, none, rfl, rfl, by simp⟩ ?_
    rintro j d S hj ⟨ps, y4, y6, y7, y8, rfl, hpl, hup⟩
    obtain ⟨hj, rfl⟩ := rangeD_get hj
    refine ⟨[some (Tg.fr, .list (ns.map .int)), some (Tg.fr, .int (n : Int)), some (Tg.fr, .int tn), some (Tg.ow, .list (os.map natD)), some (Tg.fr, .int (0 + (j : Int))), some (Tg.ow, .list ((ps.map toPq).map pD)), ob y6, ob y7, ob y8], by walk_at "ev", ?_⟩
    simp only [Int.zero_add]
    walk_at "ev"
    rw [e_cell (by omega)]
    generalize cellI ns (2 + (j : Int)) = c
    walk_at "ev"
    rw [modD_i (by omega)]
    walk_at "ev"
    have ha := mod_in c (show (0 : Int) < (n : Int) - 1 by omega)
    generalize c % ((n : Int) - 1) = a at *
    simp only [divD_i (show (0 : Int) < 6 by decide) (by decide)]
    walk_at "ev"
    rw [modD_i (by omega)]
    walk_at "ev"
    have hb := mod_in (c / 6) (show (0 : Int) < (n : Int) - 1 - a by omega)
    obtain ⟨A, eA⟩ : ∃ A : Nat, a = (A : Int) := ⟨a.toNat, by omega⟩
    obtain ⟨B, eB⟩ : ∃ B : Nat, a + 1 + c / 6 % ((n : Int) - 1 - a) = (B : Int) := ⟨(a + 1 + c / 6 % ((n : Int) - 1 - a)).toNat, by omega⟩
    rw [eB]
    have hAB : A < B := by omega
    have hBn : B < n := by omega
    subst eA
    have gA : os[A]? = some (os[A]'(by omega)) := List.getElem?_eq_getElem (by omega)
    have gB : os[B]? = some (os[B]'(by omega)) := List.getElem?_eq_getElem (by omega)
    walk_at "ev"
    rw [atI_of natD gA]
    walk_at "ev"
    rw [atI_of natD gB]
    walk_at "ev"
    simp only [divD_i (show (0 : Int) < 36 by decide) (by decide)]
    walk_at "ev"
    simp only [powD_i (show (0 : Int) ≤ 30 by decide) (by decide) (show (0 : Int) ≤ 10 by decide) (by decide)]
    walk_at "ev"
    rw [modD_i (by decide)]
    walk_at "ev"
    rw [if_pos (by rw [List.length_map, List.length_map]; exact size_big (by omega))]
    refine ⟨_, .inl rfl, ps ++ [⟨os[A]'(by omega), os[B]'(by omega), 1, 1 + c / 36 % 1000000000000000000000000000000⟩], some (.int (j : Int)), some (.int c), some (.int (A : Int)), some (.int (B : Int)), ?_, by rw [List.length_append, hpl]; rfl, fun q hq => ?_⟩
    · rw [List.map_append, List.map_append]; rfl
    · rcases List.mem_append.mp hq with h | h
      · exact hup q h
      · rw [List.mem_singleton.mp h]
        exact ⟨A, B, gA, gB, hAB⟩
  clear hF
  rw [rangeD_length, Int.toNat_natCast, Nat.zero_add] at hpl
  refine ⟨n, os, ps, ⟨hnd, hol, by omega, by omega, by omega, hup⟩, ?_⟩
  walk_at "ev"
  rfl
end K21
namespace K21
open PySem L2 VM Sp PM LH
local macro_rules | `(tactic| walk_at "ev") => `(tactic| (try simp only [owB_some, owB_none, nio_owB, fnM_eq, ob_some, ob_none, bFn_r, bFn_n, ini, gSeq_eq, bSeq_n, bSeq_r, bSeq_b, bSeq_c, gIf_eq, bIf_t, bIf_f, tAnd_eq, bAnd_t, bAnd_f, tOr_eq, bOr_t, bOr_f, tNot2, vAnd_eq, bAndE_t, bAndE_f, vOr_eq, bOrE_t, bOrE_f, vIf_eq, bIfE_t, bIfE_f, v2_eq, b2_s, b1_s, v1_eq, aC_eq, bC_s, bC1_s, a0, gAs_eq, bAs_s, bNx_s, gC_eq, bG_s, g0, vCall_eq, bCall_s, vCallN_eq, bCallN_s, vCallW_eq, bCallW_s, bResW_s, vCallWN_eq, bCallWN_s, bResWN_s, bIm_t, vImm_eq, bImm_s, bRes_s, bResN_s, vCh_eq, bCh_t, bCh_f, atI_0, atI_1, atI_2, atI_3, gFor_eq, bFor_s, gRet, gRetN, gRetO, gEx, gN, gT, gOw_eq, gOwF_eq, bOw_s, vLC_eq, vLCW_eq, bL_s, gFz, frz, gApp, gPut, gAug, gAugI, gNop, gFail, gClr, gPop, gRv, gIns, gPopAt, vSetLen, ownL, noIo_eq, nio_ob, nio_n, nio_fr, nio_ow, vN, vF, vC, vB, vTru, truD, vNot, imm, immL, ixDt, oN, oI, vSlL, vSlT, vRev, negD, vTup, vLst, vCB, lenD, absD, min2D, max2D, int1D, vIsi, isi_list, isi_int, isi_bool_i, isi_tuple, vListOf, immR, vItems, vItemsT, vRng1, vRng2, vEnum, vZip, capFr, capG, capOne, cTrue, addD_i, subD_i, ltD_i, leD_i, gtD_i, geD_i, xorD_i, eqD_i, neD_i, Int.reduceToNat, Int.reducePow, isD_n, isnD_n, isNoneD, List.length_cons, List.length_nil, List.map_cons, List.map_nil, List.replicate, List.cons_append, List.nil_append, List.append_nil, List.getElem?_cons_zero, List.getElem?_cons_succ, List.set_cons_zero, List.set_cons_succ, Nat.reduceAdd, Nat.reduceSub, Nat.reduceLeDiff, Nat.reduceEqDiff, Bool.and_true, Bool.true_and, Bool.not_true, Bool.not_false, Bool.false_eq_true, ↓reduceIte, if_true, if_false]))
theorem subl_ps : ∀ qs : List Pq, sublL (qs.map pD) = []
  | [] => rfl
  | q :: r => by rw [List.map_cons, sublL, subl_ps r]; simp [pD, subl, sublL]
theorem subl_ints : ∀ z : List Int, sublL (z.map .int) = []
  | [] => rfl
  | k :: z => by rw [List.map_cons, sublL, subl_ints z]; simp [subl]
theorem ints_ne {z y : List Int} (h : z ≠ y) : z.map PyData.int ≠ y.map PyData.int := fun e => h (by
  have := congrArg intsOf e
  rw [intsOf_map, intsOf_map] at this
  exact Option.some.inj this)
theorem zsOf_wk : ∀ ws : List (List Nat × Int), zsOf (ws.map wkD) = some (ws.map fun x => x.1.map fun j : Nat => (j : Int))
  | [] => rfl
  | x :: ws => by
    have e : intsOf (x.1.map natD) = some (x.1.map fun j : Nat => (j : Int)) := by
      have : x.1.map natD = (x.1.map fun j : Nat => (j : Int)).map .int := by rw [List.map_map]; rfl
      rw [this, intsOf_map]
    rw [List.map_cons, zsOf, zsOf_wk ws]
    simp only [wkD, zOf, e, List.map_cons]
theorem not_ps {z : List Int} (hz : z ≠ []) (qs : List Pq) : z.map PyData.int ≠ qs.map pD := fun e => by
  cases z with
  | nil => exact hz rfl
  | cons k z =>
    cases qs with
    | nil => cases e
    | cons q r => cases e
variable {ps : List Pas} {st g : Nat}
noncomputable def wid (q : Pas) (f : Int) : Pas := ⟨q.a, q.b, 1 + f, q.l⟩
theorem zs_wid (F : Pas → Int → Int) (h : ∀ q f, F (wid q f) f = F q f) : ∀ (ps : List Pas) (fl : List Int), zs F (List.zipWith wid ps fl) fl = zs F ps fl
  | [], _ => by simp [zs]
  | _ :: _, [] => by simp [zs]
  | q :: r, f :: fs => by rw [List.zipWith_cons_cons, zs, zs, zs_wid F h r fs, h]
theorem zip_wid : ∀ (ps : List Pas) (fl : List Int), (zipD ((ps.map toPq).map pD) (fl.map .int)).map (fun d => match d with | .tuple [.tuple [a, b, _, l], .int f] => .tuple [a, b, .int (1 + f), l] | _ => .none) = ((List.zipWith wid ps fl).map toPq).map pD
  | [], _ => by simp [zipD]
  | _ :: _, [] => by simp [zipD]
  | q :: r, f :: fs => by
    have ih := zip_wid r fs
    have ez : zipD (((q :: r).map toPq).map pD) ((f :: fs).map .int) = .tuple [.tuple [.int (q.a : Int), .int (q.b : Int), .int q.w, .int q.l], .int f] :: zipD ((r.map toPq).map pD) (fs.map .int) := rfl
    rw [ez, List.map_cons, ih]
    rfl
theorem zip_shape : ∀ (ps : List Pas) (fl : List Int), ∀ d ∈ zipD ((ps.map toPq).map pD) (fl.map .int), ∃ (q : Pas) (f : Int), d = .tuple [.tuple [.int (q.a : Int), .int (q.b : Int), .int q.w, .int q.l], .int f]
  | [], _, d, h => by simp [zipD] at h
  | _ :: _, [], d, h => by simp [zipD] at h
  | q :: r, f :: fs, d, h => by
    have ez : zipD (((q :: r).map toPq).map pD) ((f :: fs).map .int) = .tuple [.tuple [.int (q.a : Int), .int (q.b : Int), .int q.w, .int q.l], .int f] :: zipD ((r.map toPq).map pD) (fs.map .int) := rfl
    rw [ez] at h
    rcases List.mem_cons.mp h with h | h
    · exact ⟨q, f, h⟩
    · exact zip_shape r fs d h
theorem zip_len (ps : List Pas) (fl : List Int) : (zipD ((ps.map toPq).map pD) (fl.map .int)).length ≤ ps.length := by
  have := congrArg List.length (zip_wid ps fl)
  rw [List.length_map, List.length_map, List.length_map, List.length_zipWith] at this
  omega
theorem walk_not_flow {fl : List Int} {ws : List (List Nat × Int)} (hl : fl.length = ps.length) (P : Parted ps st g fl ws) {x : List Nat × Int} (hx : x ∈ ws) : (x.1.map fun j : Nat => (j : Int)) ≠ fl := fun e => by
  have Wk := P.walk x hx
  have hlen : x.1.length = ps.length := by rw [← hl, ← e, List.length_map]
  have all : ∀ j, j < ps.length → j ∈ x.1 := fun j hj => by
    by_cases h : j ∈ x.1
    · exact h
    · have := nodup_lt (l := j :: x.1) (n := ps.length) (List.nodup_cons.mpr ⟨h, Wk.nd⟩) (fun y hy => by
        rcases List.mem_cons.mp hy with rfl | h
        · exact hj
        · exact Wk.ix y h)
      rw [List.length_cons] at this
      omega
  have h0 : 0 < ps.length := by
    cases e1 : x.1 with
    | nil => exact absurd e1 Wk.ne
    | cons a r => rw [e1] at hlen; simp at hlen; omega
  have hz : (0 : Int) ∈ fl := by
    rw [← e]
    exact List.mem_map.mpr ⟨0, all 0 h0, rfl⟩
  obtain ⟨j, hj⟩ := List.mem_iff_getElem?.mp hz
  have hjl : j < ps.length := by rw [← hl]; exact (List.getElem?_eq_some_iff.mp hj).1
  have := (P.has hx j (all j hjl)).2
  rw [lf_get hj] at this
  omega
theorem dep_ps (qs : List Pq) : PyData.depthAll (qs.map pD) ≤ 2 := by
  induction qs with
  | nil => simp [PyData.depthAll]
  | cons a v ih => simp only [List.map_cons, PyData.depthAll, pD, PyData.depth]; omega
theorem ne_both (qs : List Pq) (fl : List Int) : neD (.list [.list (qs.map pD), .list (fl.map .int)]) (.list [.list (qs.map pD), .list (fl.map .int)]) = some (.bool false) := by
  have h1 := dep_ps qs
  have h2 := depth_ints fl
  have h3 : (PyData.list (qs.map pD)).canLay0 = true := can_psD qs
  unfold neD
  rw [if_pos (by simp only [PyData.depth, PyData.depthAll]; omega), SeqAt.eqv_refl _ (by simp only [PyData.canLay0, PyData.canLayAll0, can_ints] at h3 ⊢; simp [h3])]
  rfl
open Classical in
theorem rank {os : List Nat} (nd : os.Nodup) : ∃ ρ : Nat → Int, ∀ (i v : Nat), os[i]? = some v → ρ v = i := by
  refine ⟨fun v => if h : ∃ i : Nat, os[i]? = some v then (h.choose : Int) else 0, fun i v h => ?_⟩
  have hx : ∃ i : Nat, os[i]? = some v := ⟨i, h⟩
  simp only [hx, dite_true]
  have h2 := hx.choose_spec
  have hil := (List.getElem?_eq_some_iff.mp h).1
  have := (List.getElem?_inj hil nd).mp (h.trans h2.symm)
  omega
theorem e_law {ns : List Int} (hl : ns.length ≤ 63) : m_law [.list (ns.map .int)] = some (false, .bool true) := by
  obtain ⟨n, os, ps, H, eh⟩ := e_hall (ns := ns)
  have hol := H.ol
  have hn2 := H.n2
  have hn7 := H.n7
  have hpl := H.pl
  obtain ⟨ρ, hρ⟩ := rank H.nd
  have g0 : os[0]? = some (os[0]'(by omega)) := List.getElem?_eq_getElem (by omega)
  have g1 : os[n - 1]? = some (os[n - 1]'(by omega)) := List.getElem?_eq_getElem (by omega)
  generalize os[0]'(by omega) = st at g0
  generalize os[n - 1]'(by omega) = g at g1
  have r0 := hρ _ _ g0
  have r1 := hρ _ _ g1
  have hne : st ≠ g := fun z => by rw [z, r1] at r0; omega
  have up : ∀ q ∈ ps, ρ q.a < ρ q.b ∧ ρ q.b ≤ (n : Int) := fun q hq => by
    obtain ⟨a, b, ha, hb, hab⟩ := H.up q hq
    rw [hρ _ _ ha, hρ _ _ hb]
    have := (List.getElem?_eq_some_iff.mp hb).1
    omega
  obtain ⟨fl, M, F, ef⟩ := e_flow (g := g) (ns := ns) (by omega) up (st := st) (by omega) (by omega) hl
  have hfl := F.len
  obtain ⟨qs, hqs⟩ : ∃ qs, qs = List.zipWith wid ps fl := ⟨_, rfl⟩
  have hql : qs.length = ps.length := by rw [hqs, List.length_zipWith, hfl]; omega
  have hqg : ∀ (i : Nat) q, qs[i]? = some q → ∃ p ∈ ps, q.a = p.a ∧ q.b = p.b := fun i q e => by
    rw [hqs, List.getElem?_zipWith] at e
    cases e1 : ps[i]? with
    | none => rw [e1] at e; simp at e
    | some p =>
      cases e2 : fl[i]? with
      | none => rw [e1, e2] at e; simp at e
      | some f =>
        rw [e1, e2] at e
        simp only [Option.some.injEq] at e
        exact ⟨p, List.mem_of_getElem? e1, by rw [← e]; rfl, by rw [← e]; rfl⟩
  have C : Cons qs st g fl M := ⟨fun i q f a b => by have := F.nn i; rw [lf_get b] at this; exact this, fun z => by rw [hqs, zs_wid _ (fun q f => rfl)]; exact F.net z⟩
  have U : ∀ fl', Up qs fl' ρ := fun fl' i q f e _ _ => by
    obtain ⟨p, hp, ea, eb⟩ := hqg i q e
    rw [ea, eb]
    exact (up p hp).1
  obtain ⟨ws, P, ew⟩ := e_walks (ρ := ρ) (by omega) (by omega) hne C F.M0 (U fl)
  have er := e_right (by omega) (by omega) P
  have z0 : ∀ i, lf (List.replicate qs.length (0 : Int)) i = 0 := fun i => by
    by_cases hi : i < qs.length
    · exact lf_get (by rw [List.getElem?_replicate, if_pos hi])
    · unfold lf; simp [hi]
  have C0 : Cons qs st g (List.replicate qs.length 0) 0 := ⟨fun i q f a b => by have := z0 i; rw [lf_get b] at this; omega, fun z => by rw [zs_zero _ (fun i _ => z0 i)]; simp⟩
  obtain ⟨ws0, P0, ew0⟩ := e_walks (ρ := ρ) List.length_replicate (by omega) hne C0 (Int.le_refl 0) (U _)
  have hws0 : ws0 = [] := by
    cases e : ws0 with
    | nil => rfl
    | cons x r =>
      have hx : x ∈ ws0 := by rw [e]; exact List.mem_cons_self
      obtain ⟨j0, hj0⟩ := List.exists_mem_of_ne_nil _ (P0.walk x hx).ne
      have := (P0.has hx j0 hj0).2
      rw [z0] at this
      omega
  subst hws0
  have hD0 : hD ps = .list ((ps.map toPq).map pD) := rfl
  have hD1 : hD qs = .list ((qs.map toPq).map pD) := rfl
  have a0' : atI (os.map natD) 0 = some (.int (st : Int)) := atI_of natD (i := 0) g0
  have a1' : atI (os.map natD) (-1) = some (.int (g : Int)) := atI_last (by rw [List.getLast?_eq_getElem?, List.length_map, List.getElem?_map, hol, g1]; rfl)
  have nb := ne_both (qs.map toPq) fl
  rw [hD1] at ew er ew0
  rw [hD0] at eh ef
  unfold m_law g_law
  walk_at "ev"
  rw [eh]
  walk_at "ev"
  rw [a0']
  walk_at "ev"
  rw [a1']
  walk_at "ev"
  rw [ef]
  walk_at "ev"
  rw [bLC_s rfl (by have := zip_len ps fl; exact size_big (by omega))]
  walk_at "ev"
  rw [lcD_map (f := fun d => match d with | .tuple [.tuple [a, b, _, l], .int f] => .tuple [a, b, .int (1 + f), l] | _ => .none) (by
    intro d hd
    obtain ⟨q, f, rfl⟩ := zip_shape ps fl d hd
    refine ⟨[some (Tg.fr, .int f), some (Tg.fr, .int (q.a : Int)), some (Tg.fr, .int (q.b : Int)), some (Tg.fr, .int q.w), some (Tg.fr, .int q.l)], ?_, rfl, ?_⟩
    · walk_at "ev"
    · walk_at "ev")]
  rw [zip_wid, ← hqs]
  walk_at "ev"
  unfold gTrash
  rw [if_pos (show allFr _ = true from rfl)]
  simp only [mask, ↓reduceIte, Bool.false_eq_true]
  walk_at "ev"
  rw [ew]
  walk_at "ev"
  rw [er]
  walk_at "ev"
  rw [nb]
  walk_at "ev"
  have hwl : ws.length ≤ qs.length := by have := P.few; have := cntP_len fl; omega
  rw [if_pos (by decide)]
  simp only [kill21, List.getElem?_cons_zero, List.getElem?_cons_succ, zsOf_wk]
  rw [if_pos (by rw [List.length_map]; omega)]
  refine (congrArg bFn (if_pos ?hc)).trans ?rest
  case hc =>
    refine ⟨rfl, fun z hz => ?_⟩
    obtain ⟨x, hx, rfl⟩ := List.mem_map.mp hz
    have hzn : (x.1.map fun j : Nat => (j : Int)) ≠ [] := by simpa using (P.walk x hx).ne
    have hzf := ints_ne (walk_not_flow (by omega) P hx)
    have hz2 : ∀ (A B : List PyData), (x.1.map fun j : Nat => (j : Int)).map PyData.int ≠ [.list A, .list B] := fun A B e => by
      cases e1 : x.1 with
      | nil => rw [e1] at e; cases e
      | cons a r => rw [e1] at e; cases e
    have hzp := not_ps hzn (qs.map toPq)
    generalize (x.1.map fun j : Nat => (j : Int)) = z at *
    simp only [mask, ↓reduceIte, Bool.false_eq_true, sublS, subl, sublL, subl_ps, subl_ints, List.append_nil, List.nil_append, List.cons_append, List.mem_cons, List.not_mem_nil, or_false, or_self]
    simp only [not_or]
    exact ⟨⟨hzp, hzf, hz2 _ _, hzp, hzf⟩, ⟨hzp, hzf, hz2 _ _, hzp, hzf⟩⟩
  case rest =>
    simp only [mask, ↓reduceIte, Bool.false_eq_true]
    walk_at "ev"
    rw [ew]
    walk_at "ev"
    rw [er]
    walk_at "ev"
    simp only [List.length_map]
    rw [repD_one _ (by omega)]
    walk_at "ev"
    have er0 : List.replicate fl.length (PyData.int 0) = (List.replicate qs.length (0 : Int)).map .int := by rw [List.map_replicate, hql, hfl]
    rw [er0, ew0]
    walk_at "ev"
    have en : eqD (.list []) (.list []) = some (.bool true) := rfl
    rw [en]
    rfl
end K21
namespace K21
open PySem L2 VM
set_option maxHeartbeats 4000000
theorem all_mk {l : PySem.W.OpenLaw} {w : World} {K : PySem.W.Frag} {h : Heap} {mg : Str → Option Value} {fa f0 f1 f2 f3 f4 f5 f6 f7 f8 f9 : Addr} (X : K.In h) (G : h.Ns mainGlobals mg) (hfa : mg "law" = some (.ref fa)) {od0 an0 od1 an1 od2 an2 od3 an3 od4 an4 od5 an5 od6 an6 od7 an7 od8 an8 od9 an9 : Option Addr} {sl0 sl1 sl2 sl3 sl4 sl5 sl6 sl7 sl8 sl9 : Array (Option Value)} {oc0 kV0 dc0 pm0 cd0 ct0 oc1 kV1 dc1 pm1 cd1 ct1 oc2 kV2 dc2 pm2 cd2 ct2 oc3 kV3 dc3 pm3 cd3 ct3 oc4 kV4 dc4 pm4 cd4 ct4 oc5 kV5 dc5 pm5 cd5 ct5 oc6 kV6 dc6 pm6 cd6 ct6 oc7 kV7 dc7 pm7 cd7 ct7 oc8 kV8 dc8 pm8 cd8 ct8 oc9 kV9 dc9 pm9 cd9 ct9 : Value}
    (a0 : PySem.W.nsIn K mainGlobals "length_of" = some (some (.ref f0))) (l0 : K.lookup f0 = some ⟨oc0, od0, .func (PySem.W.fnOf "length_of" "length_of" (defArgs (top 1)) (defBody (top 1)) (defScope (top 1)) .none kV0 dc0 pm0 an0 cd0 ct0), sl0⟩) (c0 : PySem.W.codeIn K cd0 "length_of" = true) (k0 : PySem.W.keepIn K (.ref f0) = true)
    (a1 : PySem.W.nsIn K mainGlobals "passage_on" = some (some (.ref f1))) (l1 : K.lookup f1 = some ⟨oc1, od1, .func (PySem.W.fnOf "passage_on" "passage_on" (defArgs (top 4)) (defBody (top 4)) (defScope (top 4)) .none kV1 dc1 pm1 an1 cd1 ct1), sl1⟩) (c1 : PySem.W.codeIn K cd1 "passage_on" = true) (k1 : PySem.W.keepIn K (.ref f1) = true)
    (a2 : PySem.W.nsIn K mainGlobals "walk_along" = some (some (.ref f2))) (l2 : K.lookup f2 = some ⟨oc2, od2, .func (PySem.W.fnOf "walk_along" "walk_along" (defArgs (top 3)) (defBody (top 3)) (defScope (top 3)) .none kV2 dc2 pm2 an2 cd2 ct2), sl2⟩) (c2 : PySem.W.codeIn K cd2 "walk_along" = true) (k2 : PySem.W.keepIn K (.ref f2) = true)
    (a3 : PySem.W.nsIn K mainGlobals "walks_of" = some (some (.ref f3))) (l3 : K.lookup f3 = some ⟨oc3, od3, .func (PySem.W.fnOf "walks_of" "walks_of" (defArgs (top 2)) (defBody (top 2)) (defScope (top 2)) .none kV3 dc3 pm3 an3 cd3 ct3), sl3⟩) (c3 : PySem.W.codeIn K cd3 "walks_of" = true) (k3 : PySem.W.keepIn K (.ref f3) = true)
    (a4 : PySem.W.nsIn K mainGlobals "_law_cell_at" = some (some (.ref f4))) (l4 : K.lookup f4 = some ⟨oc4, od4, .func (PySem.W.fnOf "_law_cell_at" "_law_cell_at" (defArgs (top 6)) (defBody (top 6)) (defScope (top 6)) .none kV4 dc4 pm4 an4 cd4 ct4), sl4⟩) (c4 : PySem.W.codeIn K cd4 "_law_cell_at" = true) (k4 : PySem.W.keepIn K (.ref f4) = true)
    (a5 : PySem.W.nsIn K mainGlobals "_law_hall" = some (some (.ref f5))) (l5 : K.lookup f5 = some ⟨oc5, od5, .func (PySem.W.fnOf "_law_hall" "_law_hall" (defArgs (top 7)) (defBody (top 7)) (defScope (top 7)) .none kV5 dc5 pm5 an5 cd5 ct5), sl5⟩) (c5 : PySem.W.codeIn K cd5 "_law_hall" = true) (k5 : PySem.W.keepIn K (.ref f5) = true)
    (a6 : PySem.W.nsIn K mainGlobals "_law_walk" = some (some (.ref f6))) (l6 : K.lookup f6 = some ⟨oc6, od6, .func (PySem.W.fnOf "_law_walk" "_law_walk" (defArgs (top 8)) (defBody (top 8)) (defScope (top 8)) .none kV6 dc6 pm6 an6 cd6 ct6), sl6⟩) (c6 : PySem.W.codeIn K cd6 "_law_walk" = true) (k6 : PySem.W.keepIn K (.ref f6) = true)
    (a7 : PySem.W.nsIn K mainGlobals "_law_flow" = some (some (.ref f7))) (l7 : K.lookup f7 = some ⟨oc7, od7, .func (PySem.W.fnOf "_law_flow" "_law_flow" (defArgs (top 9)) (defBody (top 9)) (defScope (top 9)) .none kV7 dc7 pm7 an7 cd7 ct7), sl7⟩) (c7 : PySem.W.codeIn K cd7 "_law_flow" = true) (k7 : PySem.W.keepIn K (.ref f7) = true)
    (a8 : PySem.W.nsIn K mainGlobals "_law_right" = some (some (.ref f8))) (l8 : K.lookup f8 = some ⟨oc8, od8, .func (PySem.W.fnOf "_law_right" "_law_right" (defArgs (top 10)) (defBody (top 10)) (defScope (top 10)) .none kV8 dc8 pm8 an8 cd8 ct8), sl8⟩) (c8 : PySem.W.codeIn K cd8 "_law_right" = true) (k8 : PySem.W.keepIn K (.ref f8) = true)
    (a9 : PySem.W.nsIn K mainGlobals "law" = some (some (.ref f9))) (l9 : K.lookup f9 = some ⟨oc9, od9, .func (PySem.W.fnOf "law" "law" (defArgs (top 11)) (defBody (top 11)) (defScope (top 11)) .none kV9 dc9 pm9 an9 cd9 ct9), sl9⟩) (c9 : PySem.W.codeIn K cd9 "law" = true) (k9 : PySem.W.keepIn K (.ref f9) = true)
    (z_len : PySem.W.nsIn K mainGlobals "len" = some none)
    (z_list : PySem.W.nsIn K mainGlobals "list" = some none)
    (z_range : PySem.W.nsIn K mainGlobals "range" = some none)
    (z_enumerate : PySem.W.nsIn K mainGlobals "enumerate" = some none)
    (z_zip : PySem.W.nsIn K mainGlobals "zip" = some none)
    (z_abs : PySem.W.nsIn K mainGlobals "abs" = some none)
    (z_sum : PySem.W.nsIn K mainGlobals "sum" = some none)
    (z_min : PySem.W.nsIn K mainGlobals "min" = some none)
    (z_max : PySem.W.nsIn K mainGlobals "max" = some none)
    (z_int : PySem.W.nsIn K mainGlobals "int" = some none)
    (z_bool : PySem.W.nsIn K mainGlobals "bool" = some none)
    (z_tuple : PySem.W.nsIn K mainGlobals "tuple" = some none)
    (z_str : PySem.W.nsIn K mainGlobals "str" = some none)
    (z_sorted : PySem.W.nsIn K mainGlobals "sorted" = some none)
    (z_set : PySem.W.nsIn K mainGlobals "set" = some none)
    (z_isinstance : PySem.W.nsIn K mainGlobals "isinstance" = some none)
    (nol : noListsB K = true) :
    ∃ fd : FuncData, (∀ (s : Shared) (v : Value), BindsTo s fd ⟨[v], []⟩ [("_law_script", v)]) ∧ ∀ base : Heap, K.In base → base.Ns mainGlobals mg → FnOk l.prog w K mg base CX0 4 fa fd ["_law_script"] (spLaw K) := by
  have e := hfa.symm.trans (PySem.W.mg_of X G a9)
  cases e
  have B : Bl mg := ⟨PySem.W.mg_none_of X G z_len, PySem.W.mg_none_of X G z_list, PySem.W.mg_none_of X G z_range, PySem.W.mg_none_of X G z_enumerate, PySem.W.mg_none_of X G z_zip, PySem.W.mg_none_of X G z_abs, PySem.W.mg_none_of X G z_sum, PySem.W.mg_none_of X G z_min, PySem.W.mg_none_of X G z_max, PySem.W.mg_none_of X G z_int, PySem.W.mg_none_of X G z_bool, PySem.W.mg_none_of X G z_tuple, PySem.W.mg_none_of X G z_str, PySem.W.mg_none_of X G z_sorted, PySem.W.mg_none_of X G z_set, PySem.W.mg_none_of X G z_isinstance⟩
  have F0 := fun_mk (st := top 1) l0 c0 k0
  have b0 := F0.binds (ps := ["passages", "walk"]) fun _ _ _ _ _ _ us hl => match us, hl with | [_, _], _ => rfl
  have F1 := fun_mk (st := top 4) l1 c1 k1
  have b1 := F1.binds (ps := ["passages", "room", "left"]) fun _ _ _ _ _ _ us hl => match us, hl with | [_, _, _], _ => rfl
  have F2 := fun_mk (st := top 3) l2 c2 k2
  have b2 := F2.binds (ps := ["passages", "start", "goal", "left"]) fun _ _ _ _ _ _ us hl => match us, hl with | [_, _, _, _], _ => rfl
  have F3 := fun_mk (st := top 2) l3 c3 k3
  have b3 := F3.binds (ps := ["passages", "start", "goal", "flow"]) fun _ _ _ _ _ _ us hl => match us, hl with | [_, _, _, _], _ => rfl
  have F4 := fun_mk (st := top 6) l4 c4 k4
  have b4 := F4.binds (ps := ["_law_script", "_law_k"]) fun _ _ _ _ _ _ us hl => match us, hl with | [_, _], _ => rfl
  have F5 := fun_mk (st := top 7) l5 c5 k5
  have b5 := F5.binds (ps := ["_law_script"]) fun _ _ _ _ _ _ us hl => match us, hl with | [_], _ => rfl
  have F6 := fun_mk (st := top 8) l6 c6 k6
  have b6 := F6.binds (ps := ["_law_passages", "_law_start", "_law_goal", "_law_cell"]) fun _ _ _ _ _ _ us hl => match us, hl with | [_, _, _, _], _ => rfl
  have F7 := fun_mk (st := top 9) l7 c7 k7
  have b7 := F7.binds (ps := ["_law_script", "_law_passages", "_law_start", "_law_goal"]) fun _ _ _ _ _ _ us hl => match us, hl with | [_, _, _, _], _ => rfl
  have F8 := fun_mk (st := top 10) l8 c8 k8
  have b8 := F8.binds (ps := ["_law_told", "_law_passages", "_law_start", "_law_goal", "_law_flow_here"]) fun _ _ _ _ _ _ us hl => match us, hl with | [_, _, _, _, _], _ => rfl
  have F9 := fun_mk (st := top 11) l9 c9 k9
  refine ⟨PySem.W.fnOf "law" "law" (defArgs (top 11)) (defBody (top 11)) (defScope (top 11)) .none kV9 dc9 pm9 an9 cd9 ct9, fun s v => .of_eq rfl, fun base _ _ => ?_⟩
  have Clength_of : Cal l.prog w K mg base 1 "length_of" ["passages", "walk"] (spV K Pg.m_length_of) := ⟨_, _, ok_length_of F0 B (kits K) , PySem.W.mg_of X G a0, k0, b0⟩
  have Cpassage_on : Cal l.prog w K mg base 1 "passage_on" ["passages", "room", "left"] (spV K Pg.m_passage_on) := ⟨_, _, ok_passage_on F1 B (kits K) , PySem.W.mg_of X G a1, k1, b1⟩
  have Cwalk_along : Cal l.prog w K mg base 2 "walk_along" ["passages", "start", "goal", "left"] (spV K Pg.m_walk_along) := ⟨_, _, ok_walk_along F2 B (kits K) Cpassage_on, PySem.W.mg_of X G a2, k2, b2⟩
  have Cwalks_of : Cal l.prog w K mg base 3 "walks_of" ["passages", "start", "goal", "flow"] (spV K Pg.m_walks_of) := ⟨_, _, ok_walks_of F3 B (kits K) Cwalk_along, PySem.W.mg_of X G a3, k3, b3⟩
  have C_law_cell_at : Cal l.prog w K mg base 1 "_law_cell_at" ["_law_script", "_law_k"] (spV K m__law_cell_at) := ⟨_, _, ok__law_cell_at F4 B (kits K) , PySem.W.mg_of X G a4, k4, b4⟩
  have C_law_hall : Cal l.prog w K mg base 2 "_law_hall" ["_law_script"] (spV K m__law_hall) := ⟨_, _, ok__law_hall F5 B (kits K) C_law_cell_at, PySem.W.mg_of X G a5, k5, b5⟩
  have C_law_walk : Cal l.prog w K mg base 1 "_law_walk" ["_law_passages", "_law_start", "_law_goal", "_law_cell"] (spV K m__law_walk) := ⟨_, _, ok__law_walk F6 B (kits K) , PySem.W.mg_of X G a6, k6, b6⟩
  have C_law_flow : Cal l.prog w K mg base 2 "_law_flow" ["_law_script", "_law_passages", "_law_start", "_law_goal"] (spV K m__law_flow) := ⟨_, _, ok__law_flow F7 B (kits K) C_law_walk, PySem.W.mg_of X G a7, k7, b7⟩
  have C_law_right : Cal l.prog w K mg base 2 "_law_right" ["_law_told", "_law_passages", "_law_start", "_law_goal", "_law_flow_here"] (spV K m__law_right) := ⟨_, _, ok__law_right F8 B (kits K) Clength_of, PySem.W.mg_of X G a8, k8, b8⟩
  exact (ok_law (P := l.prog) (w := w) (base := base) F9 B (kits K) (noLists_of nol) C_law_hall C_law_flow Cwalks_of C_law_right).imp (law_sp fun ns hl => e_law hl)
end K21
open PySem PySem.W PyProof.Rows
set_option maxRecDepth 100000 in
set_option maxHeartbeats 0 in
theorem PySem.Challenge.cw_leavehall_k21_flows_parted_holds : PySem.Challenge.rw_leavehall_k21_flows_parted.Holds := by
  w_on; o_law; k_head; (case hw => w_witness2)
  k_fill
  refine VM.walk (l := PySem.Challenge.rw_leavehall_k21_flows_parted) (k := 4) (x := "_law_script") rfl rfl ⟨rfl, by decide, by decide⟩ (fun w h Y => PySem.W.kIn_of Y) ?F
  case F =>
    intro w mg fa h KX G hmg
    refine' K21.all_mk KX G hmg ?a0 ?l0 ?c0 ?k0 ?a1 ?l1 ?c1 ?k1 ?a2 ?l2 ?c2 ?k2 ?a3 ?l3 ?c3 ?k3 ?a4 ?l4 ?c4 ?k4 ?a5 ?l5 ?c5 ?k5 ?a6 ?l6 ?c6 ?k6 ?a7 ?l7 ?c7 ?k7 ?a8 ?l8 ?c8 ?k8 ?a9 ?l9 ?c9 ?k9 ?z_len ?z_list ?z_range ?z_enumerate ?z_zip ?z_abs ?z_sum ?z_min ?z_max ?z_int ?z_bool ?z_tuple ?z_str ?z_sorted ?z_set ?z_isinstance ?nol
    (case a0 => k_is)
    (case l0 => k_is)
    (case c0 => k_is)
    (case k0 => k_is)
    (case a1 => k_is)
    (case l1 => k_is)
    (case c1 => k_is)
    (case k1 => k_is)
    (case a2 => k_is)
    (case l2 => k_is)
    (case c2 => k_is)
    (case k2 => k_is)
    (case a3 => k_is)
    (case l3 => k_is)
    (case c3 => k_is)
    (case k3 => k_is)
    (case a4 => k_is)
    (case l4 => k_is)
    (case c4 => k_is)
    (case k4 => k_is)
    (case a5 => k_is)
    (case l5 => k_is)
    (case c5 => k_is)
    (case k5 => k_is)
    (case a6 => k_is)
    (case l6 => k_is)
    (case c6 => k_is)
    (case k6 => k_is)
    (case a7 => k_is)
    (case l7 => k_is)
    (case c7 => k_is)
    (case k7 => k_is)
    (case a8 => k_is)
    (case l8 => k_is)
    (case c8 => k_is)
    (case k8 => k_is)
    (case a9 => k_is)
    (case l9 => k_is)
    (case c9 => k_is)
    (case k9 => k_is)
    (case z_len => k_is)
    (case z_list => k_is)
    (case z_range => k_is)
    (case z_enumerate => k_is)
    (case z_zip => k_is)
    (case z_abs => k_is)
    (case z_sum => k_is)
    (case z_min => k_is)
    (case z_max => k_is)
    (case z_int => k_is)
    (case z_bool => k_is)
    (case z_tuple => k_is)
    (case z_str => k_is)
    (case z_sorted => k_is)
    (case z_set => k_is)
    (case z_isinstance => k_is)
    (case nol => rfl)
