import PyProof.Rows.All
import Wide.All
import OpenK.AllK
import Wide.FinOn
import Lean
import PyProof.EqAt
import PyProof.EqKinds
import PyProof.TupleCall
import PySem.Challenge.RW_batchpipe_k52_the_lightest_tree
set_option Elab.async false
set_option linter.all false
set_option maxRecDepth 100000
namespace L2
open PySem PySem.Spec PyProof.Rows
noncomputable abbrev Key := Sum Int Str
noncomputable def keyIs : Key → Value → Bool
  | .inl k, v => Value.isInt k v
  | .inr x, v => Value.isStrOf x v
noncomputable def keyH (w : World) : Key → Int
  | .inl k => hashInt k
  | .inr x => hashStr w x
theorem keyIs_shape : ∀ {k : Key} {v : Value}, keyIs k v = true → (∃ i t, k = Sum.inl i ∧ v = Value.int i t) ∨ (∃ x t, k = Sum.inr x ∧ v = Value.str x t)
  | .inl i, v, h => by
    obtain ⟨t, e⟩ := Value.isInt_shape (k := i) (v := v) h
    exact .inl ⟨i, t, rfl, e⟩
  | .inr x, v, h => by
    obtain ⟨t, e⟩ := Value.isStrOf_shape (x := x) (v := v) h
    exact .inr ⟨x, t, rfl, e⟩
theorem keyIs_int (i : Int) (t : Tok) : keyIs (.inl i) (.int i t) = true := by simp [keyIs, Value.isInt]
theorem keyIs_str (x : Str) (t : Tok) : keyIs (.inr x) (.str x t) = true := by simp [keyIs, Value.isStrOf]
theorem key_ll (a b : Int) : decide ((Sum.inl a : Key) = Sum.inl b) = (a == b) := by
  by_cases e : a = b
  · subst e; simp
  · have h : ¬ (Sum.inl a : Key) = Sum.inl b := fun q => e (Sum.inl.inj q)
    rw [decide_eq_false h]
    exact (beq_eq_false_iff_ne.mpr e).symm
theorem key_rr (a b : Str) : decide ((Sum.inr a : Key) = Sum.inr b) = decide (a = b) := by
  by_cases e : a = b
  · subst e; simp
  · have h : ¬ (Sum.inr a : Key) = Sum.inr b := fun q => e (Sum.inr.inj q)
    rw [decide_eq_false h, decide_eq_false e]
theorem key_lr (a : Int) (b : Str) : decide ((Sum.inl a : Key) = Sum.inr b) = false := decide_eq_false (fun q => nomatch q)
theorem key_rl (a : Str) (b : Int) : decide ((Sum.inr a : Key) = Sum.inl b) = false := decide_eq_false (fun q => nomatch q)
noncomputable def mixKind (prog : Program) (w : World) : PySem.KeyKind prog w Key where
  is := keyIs
  hash := keyH w
  inj := fun v a b ha hb => by
    rcases keyIs_shape ha with ⟨i, t, rfl, rfl⟩ | ⟨x, t, rfl, rfl⟩
    · rcases keyIs_shape hb with ⟨j, u, rfl, e⟩ | ⟨y, u, rfl, e⟩
      · injection e with e1 _; rw [e1]
      · exact nomatch e
    · rcases keyIs_shape hb with ⟨j, u, rfl, e⟩ | ⟨y, u, rfl, e⟩
      · exact nomatch e
      · injection e with e1 _; rw [e1]
  byValue := fun k v h => by
    rcases keyIs_shape h with ⟨i, t, rfl, rfl⟩ | ⟨x, t, rfl, rfl⟩ <;> rfl
  pyHash := fun hv h => by
    rcases keyIs_shape hv with ⟨i, t, rfl, rfl⟩ | ⟨x, t, rfl, rfl⟩
    · exact wpAny_pyHash_int h
    · exact wpAny_pyHash_str h
  eqBool := fun hu hv h => by
    rcases keyIs_shape hu with ⟨i, t, rfl, rfl⟩ | ⟨x, t, rfl, rfl⟩
    · rcases keyIs_shape hv with ⟨j, u, rfl, rfl⟩ | ⟨y, u, rfl, rfl⟩
      · rw [key_ll] at h; exact wpAny_eqBool_int h
      · rw [key_lr] at h; exact SeqAt.EqAt.int_str i t y u _ _ _ _ h
    · rcases keyIs_shape hv with ⟨j, u, rfl, rfl⟩ | ⟨y, u, rfl, rfl⟩
      · rw [key_rl] at h; exact SeqAt.EqAt.str_int x t j u _ _ _ _ h
      · rw [key_rr] at h; exact wpAny_eqBool_str h
  «strs» := fun k x t v h => by
    rcases keyIs_shape h with ⟨i, u, rfl, e⟩ | ⟨y, u, rfl, e⟩
    · exact nomatch e
    · injection e with e1 _
      subst e1
      cases v <;> rfl
theorem mixKind_int (prog : Program) (w : World) (i : Int) (t : Tok) : (mixKind prog w).is (.inl i) (.int i t) = true := keyIs_int i t
theorem mixKind_str (prog : Program) (w : World) (x : Str) (t : Tok) : (mixKind prog w).is (.inr x) (.str x t) = true := keyIs_str x t
end L2
namespace L2
open PySem PySem.Spec PyProof.Rows
inductive V where
  | non | bl (b : Bool) | int (i : Int) | str (x : Str) | byt (b : Array UInt8) | flt (b : UInt64) | ref (a : Addr) | ty (n : String)
  deriving DecidableEq
noncomputable def RelV : V → Value → Prop
  | .non, u => u = Value.none
  | .bl b, u => u = Value.bool b
  | .int i, u => ∃ t, u = Value.int i t
  | .str x, u => ∃ t, u = Value.str x t
  | .byt b, u => ∃ t, u = Value.bytes b t
  | .flt b, u => ∃ t, u = Value.float b t
  | .ref a, u => u = Value.ref a
  | .ty n, u => u = Value.type n
noncomputable abbrev Vals : List V → List Value → Prop := Paired RelV
theorem Vals.length {xs : List V} {us : List Value} (r : Vals xs us) : xs.length = us.length := Paired.length r
theorem Vals.get {xs : List V} {us : List Value} {i : Nat} {x : V} (h : Vals xs us) (e : xs[i]? = some x) : ∃ u, us[i]? = some u ∧ RelV x u := by
  induction h generalizing i with
  | nil => simp at e
  | cons r t ih =>
    cases i with
    | zero =>
      rw [List.getElem?_cons_zero] at e
      cases e
      exact ⟨_, rfl, r⟩
    | succ i =>
      rw [List.getElem?_cons_succ] at e ⊢
      exact ih e
theorem Vals.set {x : V} {u : Value} (r : RelV x u) : ∀ {xs : List V} {us : List Value} (i : Nat), Vals xs us → Vals (xs.set i x) (us.set i u)
  | _, _, _, .nil => .nil
  | _, _, 0, .cons _ t => .cons r t
  | _, _, i + 1, .cons q t => .cons q (Vals.set r i t)
theorem Vals.append {xs ys : List V} {us ws : List Value} (h : Vals xs us) (s : Vals ys ws) : Vals (xs ++ ys) (us ++ ws) := by
  induction h with
  | nil => exact s
  | cons r t ih => exact .cons r ih
theorem Vals.take {xs : List V} {us : List Value} (n : Nat) (h : Vals xs us) : Vals (xs.take n) (us.take n) := by
  induction h generalizing n with
  | nil => rw [List.take_nil, List.take_nil]; exact .nil
  | cons r t ih =>
    cases n with
    | zero => exact .nil
    | succ n => exact .cons r (ih n)
theorem Vals.drop {xs : List V} {us : List Value} (n : Nat) (h : Vals xs us) : Vals (xs.drop n) (us.drop n) := by
  induction h generalizing n with
  | nil => rw [List.drop_nil, List.drop_nil]; exact .nil
  | cons r t ih =>
    cases n with
    | zero => exact .cons r t
    | succ n => exact ih n
noncomputable def RelO : Option V → Option Value → Prop
  | some v, some u => RelV v u
  | none, none => True
  | _, _ => False
noncomputable def KV {κ : Type} : List (κ × V) → List (κ × Value) → Prop := Paired fun (p : κ × V) (q : κ × Value) => p.1 = q.1 ∧ RelV p.2 q.2
noncomputable def kV : Key → V
  | .inl i => .int i
  | .inr x => .str x
inductive HO where
    | lst (xs : List V)
    | tup (xs : List V)
    | dK (kvs : List (Key × V)) | dT (kvs : List (List Key × V))
    | set (S : Int → Bool) (n : Nat)
    | ins (C dx : Addr) (fs : List (Str × V))
    | own (x : Addr)
    | xd (fs : List (Str × V))
    | met (f x : Addr)
    | rng (lo hi : Int)
    | frz (o : Obj) (u : HO)
    | tbl (ps : Array Value)
    | ext (φ : Heap → Prop)
noncomputable abbrev Hp := Addr → Option HO
noncomputable def upd (H : Hp) (a : Addr) (o : HO) : Hp := fun b => if b = a then some o else H b
theorem upd_same {H : Hp} {a : Addr} {o : HO} : upd H a o a = some o := by unfold upd; rw [if_pos rfl]
theorem upd_ne {H : Hp} {a b : Addr} {o : HO} (h : b ≠ a) : upd H a o b = H b := by unfold upd; rw [if_neg h]
theorem ne_of {H : Hp} {a b : Addr} {o u : HO} (h : H a = some o) (h' : H b = some u) (d : o ≠ u) : a ≠ b := by
  intro e; subst e; rw [h] at h'; exact d (Option.some.inj h')
theorem ne_of_none {H : Hp} {a b : Addr} {o : HO} (h : H a = some o) (h' : H b = none) : a ≠ b := by
  intro e; subst e; rw [h] at h'; cases h'
section
variable (P : Program) (w : World)
noncomputable def ObjOk (H : Hp) (h : Heap) (a : Addr) : HO → Prop
  | .lst xs => xs.length ≤ sizeLine ∧ ∃ (its : List Value) (n : Nat), Vals xs its ∧ h.get? a = some { cls := .type "list", data := .seq its.toArray n }
  | .tup xs => xs.length ≤ sizeLine ∧ ∃ its : List Value, Vals xs its ∧ IsTup h a its.toArray
  | .dK kvs => kvs.length ≤ sizeLine ∧ (a == sysModules) = false ∧ ∃ vs, KV kvs vs ∧ h.DictOf (mixKind P w) a vs
  | .dT kvs => kvs.length ≤ sizeLine ∧ (a == sysModules) = false ∧ ∃ xs : List (List Key × Addr × Value),
      Paired (fun (p : List Key × V) (q : List Key × Addr × Value) => p.1 = q.1 ∧ H q.2.1 = some (.tup (p.1.map kV)) ∧ RelV p.2 q.2.2) kvs xs ∧
      ∃ o es ep, h.get? a = some o ∧ o.ExactDict ∧ o.data = .dict es ep ∧ es.toList = xs.map (entryOfKey (tupleKind (mixKind P w))) ∧ (xs.map (·.1)).Nodup
  | .set S n => h.SetOf (intKind P w) a S n
  | .ins C dx fs => H dx = some (.own a) ∧ fs.length ≤ 1000 ∧ dx ≠ a ∧ h.get? a = some (PySem.W.instObj C dx) ∧
      ∃ mA, h.Ns1 dx mA ∧ (∀ f, RelO (fs.lookup f) (mA f)) ∧ PySem.Within mA (fs.map (·.1))
  | .own _ => ∃ o, h.get? a = some o
  | .xd fs => ∃ mA, h.Ns1 a mA ∧ ∀ f, RelO (fs.lookup f) (mA f)
  | .rng lo hi => ∃ t u v, h.get? a = some { cls := .type "range", data := .fields #[.int lo t, .int hi u, .int 1 v] }
  | .frz o u => h.get? a = some o ∧ ObjOk H h a u
  | .tbl ps => h.get? a = some { cls := .none, data := .fields ps }
  | .met f x => h.get? a = some (PySem.W.methodObj (.ref f) (.ref x))
  | .ext φ => φ h ∧ (∃ o, h.get? a = some o) ∧ ∀ h1 h2 : Heap, φ h1 → (∀ o, h1.get? a = some o → h2.get? a = some o) → φ h2
noncomputable def HOk (H : Hp) (h : Heap) : Prop := ∀ a o, H a = some o → ObjOk P w H h a o
end
section
variable {P : Program} {w : World} {H H' : Hp} {h h' : Heap} {a : Addr} {o : HO}
theorem ObjOk.lt (x : ObjOk P w H h a o) : a < h.objs.size := by
  cases o with
  | lst xs => obtain ⟨_, _, _, _, e⟩ := x; exact Heap.lt_size e
  | tup xs => obtain ⟨_, _, _, p⟩ := x; exact p.lt
  | dK kvs => obtain ⟨_, _, _, _, o, _, _, e, _⟩ := x; exact Heap.lt_size e
  | dT kvs => obtain ⟨_, _, _, _, o, _, _, e, _⟩ := x; exact Heap.lt_size e
  | set S n => obtain ⟨o, _, _, _, e, _⟩ := x; exact Heap.lt_size e
  | ins C dx fs => obtain ⟨_, _, _, e, _⟩ := x; exact Heap.lt_size e
  | own y => obtain ⟨_, e⟩ := x; exact Heap.lt_size e
  | xd fs => obtain ⟨_, ⟨_, _, _, e, _⟩, _⟩ := x; exact Heap.lt_size e
  | rng lo hi => obtain ⟨_, _, _, e⟩ := x; exact Heap.lt_size e
  | frz ob u => obtain ⟨e, _⟩ := x; exact Heap.lt_size e
  | tbl ps => exact Heap.lt_size (show h.get? a = some _ from x)
  | met f y => exact Heap.lt_size (show h.get? a = some _ from x)
  | ext φ => obtain ⟨_, ⟨_, e⟩, _⟩ := x; exact Heap.lt_size e
theorem Paired.mapP {α β : Type} {F G : α → β → Prop} {l₁ : List α} {l₂ : List β} (h : Paired F l₁ l₂) (f : ∀ a b, F a b → G a b) : Paired G l₁ l₂ := by
  induction h with
  | nil => exact .nil
  | cons r t ih => exact .cons (f _ _ r) ih
theorem ObjOk.stay (x : ObjOk P w H h a o) (k : ∀ b u, (b = a ∨ H b = some (.own a)) → h.get? b = some u → h'.get? b = some u)
    (ho : ∀ b, H b = some (.own a) → H' b = some (.own a)) (ht : ∀ b xs, H b = some (.tup xs) → H' b = some (.tup xs)) : ObjOk P w H' h' a o := by
  induction o with
  | lst xs => obtain ⟨z, its, n, r, e⟩ := x; exact ⟨z, its, n, r, k _ _ (.inl rfl) e⟩
  | tup xs => obtain ⟨z, its, r, ob, e, c⟩ := x; exact ⟨z, its, r, ob, k _ _ (.inl rfl) e, c⟩
  | dK kvs => obtain ⟨z, y, vs, r, ob, es, ep, e, c⟩ := x; exact ⟨z, y, vs, r, ob, es, ep, k _ _ (.inl rfl) e, c⟩
  | dT kvs =>
    obtain ⟨z, y, xs, r, ob, es, ep, e, c⟩ := x
    exact ⟨z, y, xs, Paired.mapP r fun p q z => ⟨z.1, ht _ _ z.2.1, z.2.2⟩, ob, es, ep, k _ _ (.inl rfl) e, c⟩
  | set S n => obtain ⟨ob, es, ep, t, e, c⟩ := x; exact ⟨ob, es, ep, t, k _ _ (.inl rfl) e, c⟩
  | ins C dx fs =>
    obtain ⟨d, z, ne, e, mA, ⟨od, es, ep, e2, c⟩, r⟩ := x
    exact ⟨ho _ d, z, ne, k _ _ (.inl rfl) e, mA, ⟨od, es, ep, k _ _ (.inr d) e2, c⟩, r⟩
  | own y => obtain ⟨ob, e⟩ := x; exact ⟨ob, k _ _ (.inl rfl) e⟩
  | xd fs => obtain ⟨mA, ⟨od, es, ep, e, c⟩, r⟩ := x; exact ⟨mA, ⟨od, es, ep, k _ _ (.inl rfl) e, c⟩, r⟩
  | rng lo hi => obtain ⟨t, u, v, e⟩ := x; exact ⟨t, u, v, k _ _ (.inl rfl) e⟩
  | frz ob u ih => obtain ⟨e, q⟩ := x; exact ⟨k _ _ (.inl rfl) e, ih q⟩
  | tbl ps =>
    have e : h.get? a = some { cls := .none, data := .fields ps } := x
    show h'.get? a = some { cls := .none, data := .fields ps }
    exact k a _ (.inl rfl) e
  | met f y =>
    have e : h.get? a = some (PySem.W.methodObj (.ref f) (.ref y)) := x
    show h'.get? a = some (PySem.W.methodObj (.ref f) (.ref y))
    exact k a _ (.inl rfl) e
  | ext φ => obtain ⟨p, ⟨o, e⟩, st⟩ := x; exact ⟨st _ _ p fun o q => k _ _ (.inl rfl) q, ⟨o, k _ _ (.inl rfl) e⟩, st⟩
theorem HOk.lt (x : HOk P w H h) (e : H a = some o) : a < h.objs.size := (x a o e).lt
theorem HOk.fresh (x : HOk P w H h) (e : h.objs.size ≤ a) : H a = none := by
  cases q : H a with
  | none => rfl
  | some u => exact absurd (Nat.lt_of_lt_of_le (x.lt q) e) (Nat.lt_irrefl _)
theorem HOk.kept (x : HOk P w H h) (k : ∀ b u, h.get? b = some u → h'.get? b = some u) : HOk P w H h' := fun a o e =>
  (x a o e).stay (fun b u _ q => k b u q) (fun _ q => q) fun _ _ q => q
theorem HOk.laid (x : HOk P w H h) (k : ∀ b u, h.get? b = some u → h'.get? b = some u) (hp : h.objs.size ≤ a) (new : ObjOk P w (upd H a o) h' a o) : HOk P w (upd H a o) h' := fun b u e => by
  have hn := x.fresh hp
  by_cases hb : b = a
  · subst hb; rw [upd_same] at e; cases e; exact new
  · rw [upd_ne hb] at e
    exact (x b u e).stay (fun c v _ q => k c v q) (fun c q => by rw [upd_ne (ne_of_none q hn)]; exact q) fun c xs q => by rw [upd_ne (ne_of_none q hn)]; exact q
end
noncomputable def Rd (H : Hp) (a : Addr) (u : HO) : Prop := H a = some u ∨ ∃ o, H a = some (.frz o u)
theorem Rd.ok {P : Program} {w : World} {H : Hp} {h : Heap} {a : Addr} {u : HO} (r : Rd H a u) (x : HOk P w H h) : ObjOk P w H h a u := by
  rcases r with r | ⟨o, r⟩
  · exact x a u r
  · obtain ⟨_, q⟩ := x a _ r
    exact q
noncomputable def Mut : Option HO → Prop
  | some (.lst _) => True
  | some (.dK _) => True
  | some (.dT _) => True
  | some (.set _ _) => True
  | some (.ins _ _ _) => True
  | some (.ext _) => True
  | _ => False
section
variable {P : Program} {w : World} {H : Hp} {h h' : Heap} {x e : Addr} {o' : HO}
theorem HOk.write (ok : HOk P w H h) (mu : Mut (H x)) (he : e = x ∨ H e = some (.own x)) (k : ∀ b u, b ≠ e → h.get? b = some u → h'.get? b = some u) (heo : ∃ u, h'.get? e = some u)
    (new : ObjOk P w (upd H x o') h' x o') : HOk P w (upd H x o') h' := fun b u q => by
  have nown : ∀ c y, H c = some (.own y) → c ≠ x := fun c y r z => by subst z; rw [r] at mu; exact mu
  have ntup : ∀ c xs, H c = some (.tup xs) → c ≠ x := fun c xs r z => by subst z; rw [r] at mu; exact mu
  by_cases hb : b = x
  · subst hb; rw [upd_same] at q; cases q; exact new
  · rw [upd_ne hb] at q
    by_cases hbe : b = e
    · have q' : H b = some (.own x) := by
        rcases he with z | z
        · exact absurd (hbe.trans z) hb
        · rw [hbe]; exact z
      rw [q] at q'; cases q'
      obtain ⟨v, hv⟩ := heo
      exact ⟨v, by rw [hbe]; exact hv⟩
    · refine (ok b u q).stay (fun c v hc r => k c v ?_ r) (fun c r => by rw [upd_ne (nown c b r)]; exact r) fun c xs r => by rw [upd_ne (ntup c xs r)]; exact r
      rcases hc with rfl | hc
      · exact hbe
      · rintro rfl
        rcases he with z | z
        · exact nown c b hc z
        · rw [hc] at z; cases z; exact hb rfl
end
structure Un (fs ex : List Addr) (H H' : Hp) (h h' : Heap) : Prop where
  keep : ∀ b o, h.get? b = some o → H b = none → b ∉ fs → b ∉ ex → h'.get? b = some o
  slot : ∀ b o, h.get? b = some o → H b = none → b ∈ fs → b ∉ ex → ∃ sl, h'.get? b = some { o with slots := sl }
  free : ∀ b o, h.get? b = some o → H b = none → b ∉ ex → H' b = none
  there : ∀ b o, h.get? b = some o → b ∉ ex → ∃ o', h'.get? b = some o'
  tups : ∀ b xs, H b = some (.tup xs) → H' b = some (.tup xs)
  frzs : ∀ b o u, H b = some (.frz o u) → H' b = some (.frz o u)
  tbls : ∀ b ps, H b = some (.tbl ps) → ∃ more, H' b = some (.tbl (ps ++ more))
section
variable {fs fs' ex ex' : List Addr} {H H1 H2 : Hp} {h h1 h2 h' : Heap} {a x e : Addr} {o : HO}
theorem Un.any (u : Un fs ex H H1 h h1) {b : Addr} {ob : Obj} (q : h.get? b = some ob) (n : H b = none) (hx : b ∉ ex) : ∃ sl, h1.get? b = some { ob with slots := sl } := by
  by_cases hb : b ∈ fs
  · exact u.slot b ob q n hb hx
  · exact ⟨ob.slots, u.keep b ob q n hb hx⟩
theorem Un.kept (k : ∀ b u, h.get? b = some u → h'.get? b = some u) : Un fs ex H H h h' :=
  ⟨fun b ob q _ _ _ => k b ob q, fun b ob q _ _ _ => ⟨ob.slots, k b ob q⟩, fun _ _ _ n _ => n, fun b ob q _ => ⟨ob, k b ob q⟩, fun _ _ q => q, fun _ _ _ q => q, fun _ ps q => ⟨#[], by rw [q]; simp⟩⟩
theorem Un.refl : Un fs ex H H h h := Un.kept fun _ _ q => q
theorem Un.laid (k : ∀ b u, h.get? b = some u → h'.get? b = some u) (hp : h.objs.size ≤ a) (hn : H a = none) : Un fs ex H (upd H a o) h h' where
  keep := fun b u q _ _ _ => k b u q
  slot := fun b u q _ _ _ => ⟨u.slots, k b u q⟩
  free := fun b u q n _ => by rw [upd_ne (Nat.ne_of_lt (Nat.lt_of_lt_of_le (Heap.lt_size q) hp))]; exact n
  there := fun b u q _ => ⟨u, k b u q⟩
  tups := fun b xs q => by rw [upd_ne (ne_of_none q hn)]; exact q
  frzs := fun b u xs q => by rw [upd_ne (ne_of_none q hn)]; exact q
  tbls := fun b ps q => ⟨#[], by rw [upd_ne (ne_of_none q hn), q]; simp⟩
theorem Un.write (mu : Mut (H x)) (he : e = x ∨ H e = some (.own x)) (k : ∀ b u, b ≠ e → h.get? b = some u → h'.get? b = some u) (heo : ∃ u, h'.get? e = some u) : Un fs ex H (upd H x o) h h' := by
  have hx : ∀ b, H b = none → b ≠ x := fun b n z => by subst z; rw [n] at mu; exact mu
  have hb : ∀ b, H b = none → b ≠ e := fun b n z => by
    subst z
    rcases he with r | r
    · exact hx b n r
    · rw [n] at r; cases r
  have hm : ∀ b u, H b = some u → ¬ Mut (some u) → b ≠ x := fun b u q nm z => by subst z; rw [q] at mu; exact nm mu
  refine ⟨fun b u q n _ _ => k b u (hb b n) q, fun b u q n _ _ => ⟨u.slots, k b u (hb b n) q⟩, fun b u q n _ => by rw [upd_ne (hx b n)]; exact n, fun b u q _ => ?_,
    fun b xs q => by rw [upd_ne (hm b _ q fun z => z)]; exact q, fun b u xs q => by rw [upd_ne (hm b _ q fun z => z)]; exact q, fun b ps q => ⟨#[], by rw [upd_ne (hm b _ q fun z => z), q]; simp⟩⟩
  by_cases hbe : b = e
  · subst hbe; exact heo
  · exact ⟨u, k b u hbe q⟩
end
noncomputable def trk (h : Heap) (H : Hp) : List Addr := (List.range h.objs.size).filter fun a => (H a).isSome
noncomputable def hidT (h : Heap) (H : Hp) : Heap := PySem.W.hideAll h (trk h H)
theorem hidT_size (h : Heap) (H : Hp) : (hidT h H).objs.size = h.objs.size := PySem.W.hideAll_size _ _
theorem hidT_get {h : Heap} {H : Hp} {b : Addr} {o : Obj} (e : h.get? b = some o) (n : H b = none) : (hidT h H).get? b = some o :=
  PySem.W.hideAll_get _ e fun hm => by
    have q : (H b).isSome = true := (List.mem_filter.mp hm).2
    rw [n] at q; simp at q
theorem of_hidT {h : Heap} {H : Hp} {b : Addr} {o : Obj} (e : (hidT h H).get? b = some o) : h.get? b = some o ∧ H b = none := by
  have e' : h.get? b = some o := PySem.W.of_hideAll (trk h H) e
  refine ⟨e', ?_⟩
  cases q : H b with
  | none => rfl
  | some x =>
    have hm : b ∈ trk h H := List.mem_filter.mpr ⟨List.mem_range.mpr (Heap.lt_size e'), by simp [q]⟩
    have z : (hidT h H).get? b = none := PySem.W.hideAll_none (trk h H) hm
    rw [z] at e; cases e
end L2
namespace L2
open PySem PySem.Spec PyProof.Rows
structure Mod (K : PySem.W.Frag) (mg : Str → Option Value) (base : Heap) : Prop where
  kin : K.In base
  glob : base.Ns mainGlobals mg
  blt : ∃ mb, base.Ns builtinsNs mb ∧ ∀ x : Str, x ≠ "__name__" → mb x = bootBuiltins x
  nolimit : base.NoLimit
structure Cx where
  prog : Program
  w : World
  K : PySem.W.Frag
  mg : Str → Option Value
  base : Heap
  A : Around
  N : List Str
  s₀ : Shared
  H₀ : Hp
  env : Env
  outer : List Env
  stack : List Env
  ex : List Addr
  fn : Str → Bool
  calm : Bool
  pn : List (Addr × Obj)
  xe : Value → Shared → Prop
noncomputable def frs (l : List Env) : List Addr := l.filterMap (·.frame)
noncomputable abbrev Cx.fs (X : Cx) : List Addr := frs X.outer
noncomputable def Vis (sc : Scope) (x : Str) : Prop := sc.names.lookup x = some .local ∨ sc.names.lookup x = some .cell ∨ sc.names.lookup x = some .free
noncomputable def Loc (sc : Scope) (x : Str) : Prop := sc.names.lookup x = some .local ∨ sc.names.lookup x = some .cell
noncomputable def Look (env : Env) (h : Heap) (m : Str → Option Value) (x : Str) (u : Value) : Prop :=
  (env.kindOf x = some .local ∧ m x = some u) ∨ ((env.kindOf x = some .cell ∨ env.kindOf x = some .free) ∧ ∃ c, env.cells.lookup x = some c ∧ h.IsCell c (some u))
structure Cx.Ok (X : Cx) : Prop where
  mod : Mod X.K X.mg X.base
  kind : X.env.scope.kind = .function
  glob : X.env.globals = mainGlobals
  blt : X.env.builtins = builtinsNs
  above : X.s₀.heap.objs.size ≤ X.env.locals
  inj : ∀ x y c, X.env.cells.lookup x = some c → X.env.cells.lookup y = some c → x = y
  has : ∀ x, (X.env.kindOf x = some .cell ∨ X.env.kindOf x = some .free) → ∃ c, X.env.cells.lookup x = some c
  cab : ∀ x c, X.fn x = true → X.env.cells.lookup x = some c → X.s₀.heap.objs.size ≤ c
  hd : X.calm = true → X.A.handled = none
  frames : X.A.frames = some X.stack
  stk : X.stack = X.outer ∨ (X.stack = X.env :: X.outer ∧ X.env.frame = some X.env.locals)
  exf : ∀ b ∈ X.ex, b ≠ X.env.locals ∧ ∀ x c, X.env.cells.lookup x = some c → c ≠ b
  bs : ∀ b o, X.base.get? b = some o → X.s₀.heap.get? b = some o ∧ X.H₀ b = none
  bsz : X.base.objs.size ≤ X.s₀.heap.objs.size
  noex : ∀ b o, X.base.get? b = some o → b ∉ X.ex
  exfs : ∀ b ∈ X.ex, b ∉ X.fs
  funs : X.s₀.heap.FunFrames X.base X.outer
  frf : ∀ b ∈ X.fs, X.H₀ b = none
structure Inv (X : Cx) (pins : List (Addr × Obj)) (σ : List (Option V)) (H : Hp) (s : Shared) : Prop where
  ok : X.Ok
  os : s.os = X.s₀.os
  bare : AllBare s.gens
  base : Un X.fs X.ex X.H₀ H X.s₀.heap s.heap
  loc : ∃ m, s.heap.Ns X.env.locals m ∧ ∀ (i : Nat) (x : Str) (v : V), X.N[i]? = some x → σ[i]? = some (some v) → Vis X.env.scope x → ∃ u, RelV v u ∧ Look X.env s.heap m x u
  cell : ∀ x c, X.env.cells.lookup x = some c → ∃ v, s.heap.IsCell c v
  free : H X.env.locals = none
  freeC : ∀ x c, X.env.cells.lookup x = some c → H c = none
  pin : ∀ p ∈ X.pn ++ pins, s.heap.get? p.1 = some p.2 ∧ H p.1 = none ∧ p.1 ≠ X.env.locals ∧ p.1 ∉ X.fs ∧ ∀ v, p.2.data ≠ .cell v
  hok : HOk X.prog X.w H s.heap
  len : σ.length = X.N.length
section
variable {X : Cx} {pins : List (Addr × Obj)} {σ : List (Option V)} {H H' : Hp} {s : Shared} {h' : Heap}
theorem Cx.Ok.nofr (ok : X.Ok) {b : Addr} {o : Obj} (e : X.base.get? b = some o) : b ∉ X.fs := fun hb => by
  have := (ok.funs.mem hb).1
  rw [e] at this; cases this
theorem Inv.bs (I : Inv X pins σ H s) : ∀ b o, X.base.get? b = some o → s.heap.get? b = some o ∧ H b = none := fun b o e =>
  ⟨I.base.keep b o (I.ok.bs b o e).1 (I.ok.bs b o e).2 (I.ok.nofr e) (I.ok.noex b o e), I.base.free b o (I.ok.bs b o e).1 (I.ok.bs b o e).2 (I.ok.noex b o e)⟩
theorem Inv.bk (I : Inv X pins σ H s) : ∀ b o, X.base.get? b = some o → s.heap.get? b = some o := fun b o e => (I.bs b o e).1
theorem Inv.mod (I : Inv X pins σ H s) : Mod X.K X.mg X.base := I.ok.mod
theorem Inv.kIn (I : Inv X pins σ H s) : X.K.In s.heap := I.ok.mod.kin.keeps I.bk
theorem Inv.lt (I : Inv X pins σ H s) : X.env.locals < s.heap.objs.size := by
  obtain ⟨_, hn, _⟩ := I.loc
  exact hn.lt
theorem Inv.sz (I : Inv X pins σ H s) : X.s₀.heap.objs.size ≤ s.heap.objs.size := Nat.le_trans I.ok.above (Nat.le_of_lt I.lt)
theorem Inv.nofs (I : Inv X pins σ H s) {a : Addr} (h : s.heap.objs.size ≤ a) : a ∉ X.fs := fun hb => by
  obtain ⟨_, o, ho, _⟩ := I.ok.funs.mem hb
  exact absurd (Nat.lt_of_lt_of_le (Heap.lt_size ho) (Nat.le_trans I.sz h)) (Nat.lt_irrefl _)
theorem Inv.cne (I : Inv X pins σ H s) : ∀ x c, X.env.cells.lookup x = some c → c ≠ X.env.locals := fun x c e z => by
  obtain ⟨v, o, ho, hd⟩ := I.cell x c e
  obtain ⟨m, ⟨o', es, ep, ho', hd', _⟩, _⟩ := I.loc
  rw [z, ho'] at ho; cases ho; rw [hd'] at hd; cases hd
theorem Inv.funs (I : Inv X pins σ H s) : s.heap.FunFrames X.base X.outer := by
  have all : ∀ (l : List Env), (∀ b ∈ frs l, b ∈ X.fs) → X.s₀.heap.FunFrames X.base l → s.heap.FunFrames X.base l := by
    intro l
    induction l with
    | nil => intro _ _; trivial
    | cons env r ih =>
      intro hs hl
      obtain ⟨hk, ⟨L, o, hf, hn, ho, hd⟩, hr⟩ := hl
      have hL : L ∈ X.fs := hs L (by unfold frs; rw [List.filterMap_cons, hf]; exact List.mem_cons_self)
      obtain ⟨sl, e⟩ := I.base.slot L o ho (I.ok.frf L hL) hL fun z => I.ok.exfs L z hL
      exact ⟨hk, ⟨L, _, hf, hn, e, hd⟩, ih (fun b hb => hs b (by unfold frs; rw [List.filterMap_cons, hf]; exact List.mem_cons_of_mem _ hb)) hr⟩
  exact all X.outer (fun _ hb => hb) I.ok.funs
theorem Inv.stack (I : Inv X pins σ H s) : s.heap.FunFrames X.base X.stack := by
  rcases I.ok.stk with e | ⟨e, hf⟩
  · rw [e]; exact I.funs
  · rw [e]
    obtain ⟨m, hn, _⟩ := I.loc
    refine .cons (by rw [I.ok.kind]; decide) hf hn ?_ I.funs
    exact Heap.get?_none_of_le (Nat.le_trans I.ok.bsz I.ok.above)
theorem Inv.stkSub (I : Inv X pins σ H s) : ∀ b ∈ frs X.stack, b ∈ X.env.locals :: X.fs := fun b hb => by
  rcases I.ok.stk with e | ⟨e, hf⟩
  · rw [e] at hb; exact List.mem_cons_of_mem _ hb
  · rw [e] at hb
    unfold frs at hb
    rw [List.filterMap_cons, hf] at hb
    exact hb
theorem Inv.stkFree (I : Inv X pins σ H s) : ∀ b ∈ frs X.stack, H b = none := fun b hb => by
  rcases List.mem_cons.mp (I.stkSub b hb) with e | hb
  · rw [e]; exact I.free
  · obtain ⟨_, o, ho, _⟩ := I.ok.funs.mem hb
    exact I.base.free b o ho (I.ok.frf b hb) fun z => I.ok.exfs b z hb
theorem Inv.step {g' : Array GenState} {t' : Nat} {d' : Drawn} {ch : List Addr} (I : Inv X pins σ H s)
    (hch : ∀ b ∈ ch, (b ∈ X.ex ∨ X.s₀.heap.objs.size ≤ b) ∧ b ≠ X.env.locals ∧ (∀ x c, X.env.cells.lookup x = some c → c ≠ b) ∧ ∀ p ∈ X.pn ++ pins, p.1 ≠ b)
    (keep : ∀ b o, b ≠ X.env.locals → b ∉ X.fs → b ∉ ch → s.heap.get? b = some o → H b = none → h'.get? b = some o)
    (slot : ∀ b o, b ≠ X.env.locals → b ∈ X.fs → b ∉ ch → s.heap.get? b = some o → H b = none → ∃ sl, h'.get? b = some { o with slots := sl }) (free : ∀ b o, b ∉ ch → s.heap.get? b = some o → H b = none → H' b = none)
    (there : ∀ b o, b ∉ ch → s.heap.get? b = some o → ∃ o', h'.get? b = some o')
    (tups : ∀ b xs, H b = some (.tup xs) → H' b = some (.tup xs)) (frzs : ∀ b o u, H b = some (.frz o u) → H' b = some (.frz o u)) (tbls : ∀ b ps, H b = some (.tbl ps) → ∃ more, H' b = some (.tbl (ps ++ more)))
    (ns : ∀ m, s.heap.Ns X.env.locals m → h'.Ns X.env.locals m) (hok : HOk X.prog X.w H' h') (hg : AllBare g') :
    Inv X pins σ H' { s with heap := h', gens := g', drawn := d', toks := t' } := by
  have neL : ∀ b o, X.s₀.heap.get? b = some o → b ≠ X.env.locals := fun b o e => Nat.ne_of_lt (Nat.lt_of_lt_of_le (Heap.lt_size e) I.ok.above)
  have neC : ∀ b o, X.s₀.heap.get? b = some o → b ∉ X.ex → b ∉ ch := fun b o e hx hb => by
    rcases (hch b hb).1 with z | z
    · exact hx z
    · exact absurd (Nat.lt_of_lt_of_le (Heap.lt_size e) z) (Nat.lt_irrefl _)
  have cellK : ∀ x c, X.env.cells.lookup x = some c → ∀ v, s.heap.IsCell c v → h'.IsCell c v := fun x c e v ⟨o, ho, hd⟩ => by
    have nch : c ∉ ch := fun z => (hch c z).2.2.1 x c e rfl
    by_cases hc : c ∈ X.fs
    · obtain ⟨sl, q⟩ := slot c o (I.cne x c e) hc nch ho (I.freeC x c e)
      exact ⟨_, q, hd⟩
    · exact ⟨o, keep c o (I.cne x c e) hc nch ho (I.freeC x c e), hd⟩
  refine ⟨I.ok, I.os, hg, ⟨fun b o e n hb hx => ?_, fun b o e n hb hx => ?_, fun b o e n hx => ?_, fun b o e hx => ?_, fun b xs e => tups b xs (I.base.tups b xs e), fun b o xs e => frzs b o xs (I.base.frzs b o xs e), fun b ps e => ?_⟩, ?_, fun x c e => ?_, ?_, fun x c e => ?_, fun p hp => ?_, hok, I.len⟩
  · exact keep b o (neL b o e) hb (neC b o e hx) (I.base.keep b o e n hb hx) (I.base.free b o e n hx)
  · obtain ⟨sl, e1⟩ := I.base.slot b o e n hb hx
    obtain ⟨sl', e2⟩ := slot b _ (neL b o e) hb (neC b o e hx) e1 (I.base.free b o e n hx)
    exact ⟨sl', e2⟩
  · obtain ⟨o', e1⟩ := I.base.there b o e hx
    exact free b o' (neC b o e hx) e1 (I.base.free b o e n hx)
  · obtain ⟨o', e1⟩ := I.base.there b o e hx
    exact there b o' (neC b o e hx) e1
  · obtain ⟨m1, e1⟩ := I.base.tbls b ps e
    obtain ⟨m2, e2⟩ := tbls b _ e1
    exact ⟨m1 ++ m2, by rw [e2, Array.append_assoc]⟩
  · obtain ⟨m, hn, hl⟩ := I.loc
    refine ⟨m, ns m hn, fun i x v e1 e2 e3 => ?_⟩
    obtain ⟨u, r, l⟩ := hl i x v e1 e2 e3
    refine ⟨u, r, ?_⟩
    rcases l with l | ⟨k, c, e, z⟩
    · exact .inl l
    · exact .inr ⟨k, c, e, cellK x c e _ z⟩
  · obtain ⟨v, z⟩ := I.cell x c e
    exact ⟨v, cellK x c e v z⟩
  · obtain ⟨m, ⟨o, _, _, ho, _⟩, _⟩ := I.loc
    exact free _ o (fun z => (hch _ z).2.1 rfl) ho I.free
  · obtain ⟨v, o, ho, hd⟩ := I.cell x c e
    exact free c o (fun z => (hch c z).2.2.1 x c e rfl) ho (I.freeC x c e)
  · obtain ⟨e, n, ne, nf, d⟩ := I.pin p hp
    have nch : p.1 ∉ ch := fun z => (hch p.1 z).2.2.2 p hp rfl
    exact ⟨keep p.1 p.2 ne nf nch e n, free p.1 p.2 nch e n, ne, nf, d⟩
theorem Inv.un {t' : Nat} (I : Inv X pins σ H s) (u : Un X.fs [] H H' s.heap h') (hok : HOk X.prog X.w H' h') : Inv X pins σ H' { s with heap := h', toks := t' } := by
  obtain ⟨m, ⟨o, es, ep, ho, r⟩, _⟩ := id I.loc
  obtain ⟨sl, hL⟩ := u.any ho I.free (by simp)
  exact I.step (g' := s.gens) (d' := s.drawn) (ch := []) (fun _ z => nomatch z) (fun b o _ hb _ e n => u.keep b o e n hb (by simp)) (fun b o _ hb _ e n => u.slot b o e n hb (by simp)) (fun b o _ e n => u.free b o e n (by simp)) (fun b o _ e => u.there b o e (by simp)) u.tups u.frzs u.tbls (fun m' hm => by
    obtain ⟨o', es', ep', ho', r'⟩ := hm
    rw [ho] at ho'; cases ho'
    exact ⟨_, es', ep', hL, r'⟩) hok I.bare
theorem Inv.call {g' : Array GenState} {t' : Nat} {d' : Drawn} {ch : List Addr} (I : Inv X pins σ H s) (u : Un (frs X.stack) ch H H' s.heap h') (hok : HOk X.prog X.w H' h') (hg : AllBare g')
    (hch : ∀ b ∈ ch, (b ∈ X.ex ∨ X.s₀.heap.objs.size ≤ b) ∧ b ≠ X.env.locals ∧ (∀ x c, X.env.cells.lookup x = some c → c ≠ b) ∧ ∀ p ∈ X.pn ++ pins, p.1 ≠ b) :
    Inv X pins σ H' { s with heap := h', gens := g', drawn := d', toks := t' } := by
  obtain ⟨m, ⟨o, es, ep, ho, r⟩, _⟩ := id I.loc
  obtain ⟨sl, hL⟩ := u.any ho I.free fun z => (hch _ z).2.1 rfl
  exact I.step (ch := ch) hch (fun b o hL hb hc e n => u.keep b o e n (fun z => (List.mem_cons.mp (I.stkSub b z)).elim hL hb) hc) (fun b o _ _ hc e n => u.any e n hc) (fun b o hc e n => u.free b o e n hc) (fun b o hc e => u.there b o e hc) u.tups u.frzs u.tbls (fun m' hm => by
    obtain ⟨o', es', ep', ho', r'⟩ := hm
    rw [ho] at ho'; cases ho'
    exact ⟨_, es', ep', hL, r'⟩) hok hg
theorem Inv.turned {t' : Nat} {it : Addr} (I : Inv X pins σ H s) (k : ∀ b o, b ≠ it → s.heap.get? b = some o → h'.get? b = some o) (hn : H it = none) (hL : it ≠ X.env.locals)
    (h1 : it ∈ X.ex ∨ X.s₀.heap.objs.size ≤ it) (h2 : ∀ x c, X.env.cells.lookup x = some c → c ≠ it) (h3 : ∀ p ∈ X.pn ++ pins, p.1 ≠ it) : Inv X pins σ H { s with heap := h', toks := t' } := by
  have nit : ∀ b u, H b = some u → b ≠ it := fun b u e z => by rw [z, hn] at e; cases e
  refine I.step (g' := s.gens) (d' := s.drawn) (ch := [it]) (fun b hb => ?_) (fun b o _ _ hc e _ => k b o (fun z => hc (by simp [z])) e) (fun b o _ _ hc e _ => ⟨o.slots, k b o (fun z => hc (by simp [z])) e⟩) (fun _ _ _ _ n => n)
    (fun b o hc e => ⟨o, k b o (fun z => hc (by simp [z])) e⟩) (fun _ _ e => e) (fun _ _ _ e => e) (fun b ps e => ⟨#[], by rw [e]; simp⟩) (fun m hm => ?_) (fun b u e => ?_) I.bare
  · have e : b = it := by simpa using hb
    subst e
    exact ⟨h1, hL, h2, h3⟩
  · obtain ⟨o, es, ep, ho, r⟩ := hm
    exact ⟨o, es, ep, k _ o (Ne.symm hL) ho, r⟩
  · refine (I.hok b u e).stay (fun c v hc q => k c v ?_ q) (fun _ q => q) fun _ _ q => q
    rcases hc with z | z
    · rw [z]; exact nit b u e
    · exact nit c _ z
theorem Inv.tok (I : Inv X pins σ H s) (t : Nat) : Inv X pins σ H { s with toks := t } := I.un (h' := s.heap) (t' := t) Un.refl I.hok
theorem Inv.kept {t' : Nat} (I : Inv X pins σ H s) (k : ∀ b u, s.heap.get? b = some u → h'.get? b = some u) : Inv X pins σ H { s with heap := h', toks := t' } := I.un (Un.kept k) (I.hok.kept k)
theorem Inv.laid {a : Addr} {o : HO} {t' : Nat} (I : Inv X pins σ H s) (k : ∀ b u, s.heap.get? b = some u → h'.get? b = some u) (hp : s.heap.objs.size ≤ a) (new : ObjOk X.prog X.w (upd H a o) h' a o) :
    Inv X pins σ (upd H a o) { s with heap := h', toks := t' } := I.un (Un.laid k hp (I.hok.fresh hp)) (I.hok.laid k hp new)
theorem Inv.write {x e : Addr} {o : HO} {t' : Nat} (I : Inv X pins σ H s) (mu : Mut (H x)) (he : e = x ∨ H e = some (.own x)) (k : ∀ b u, b ≠ e → s.heap.get? b = some u → h'.get? b = some u) (heo : ∃ u, h'.get? e = some u)
    (new : ObjOk X.prog X.w (upd H x o) h' x o) : Inv X pins σ (upd H x o) { s with heap := h', toks := t' } := I.un (Un.write mu he k heo) (I.hok.write mu he k heo new)
theorem Inv.pins_of {pins' : List (Addr × Obj)} (I : Inv X pins σ H s) (h : ∀ p ∈ pins', s.heap.get? p.1 = some p.2 ∧ H p.1 = none ∧ p.1 ≠ X.env.locals ∧ p.1 ∉ X.fs ∧ ∀ v, p.2.data ≠ .cell v) : Inv X pins' σ H s :=
  ⟨I.ok, I.os, I.bare, I.base, I.loc, I.cell, I.free, I.freeC, fun p hp => (List.mem_append.mp hp).elim (fun z => I.pin p (List.mem_append_left _ z)) (h p), I.hok, I.len⟩
theorem nodup_ix {N : List Str} (hN : N.Nodup) {i j : Nat} {x : Str} (a : N[i]? = some x) (b : N[j]? = some x) : i = j := by
  obtain ⟨h1, e1⟩ := List.getElem?_eq_some_iff.mp a
  obtain ⟨h2, e2⟩ := List.getElem?_eq_some_iff.mp b
  exact (List.getElem_inj hN).mp (e1.trans e2.symm)
theorem store_ok2 {M : Model} {A : Around} {E : Value → Shared → Prop} {i : Nat} {x : Str} {v : V} {u : Value} {Q : Unit → Shared → Prop} (I : Inv X pins σ H s) (hN : X.N.Nodup) (hi : X.N[i]? = some x) (hx : Loc X.env.scope x) (r : RelV v u)
    (h : ∀ s', Inv X pins (σ.set i (some v)) H s' → (∃ a, Heap.SameBut a s.heap s'.heap ∧ (a = X.env.locals ∨ X.env.cells.lookup x = some a)) → Q () s') (hf : X.fn x = true ∨ X.env.scope.names.lookup x = some .local := by first | exact .inl rfl | exact .inr rfl | assumption) : wpAny M A (storeName X.env x u) Q E s := by
  obtain ⟨m, hn, hl⟩ := id I.loc
  have hcls : (X.env.scope.kind == .class || (X.env.scope.kind == .module && X.env.locals != X.env.globals)) = false := by rw [I.ok.kind]; rfl
  have hiσ : i < σ.length := by rw [I.len]; exact (List.getElem?_eq_some_iff.mp hi).1
  have cne := I.cne
  have tracked : ∀ {a : Addr} {h' : Heap}, (∃ o, s.heap.get? a = some o ∧ H a = none) → Heap.SameBut a s.heap h' → HOk X.prog X.w H h' := fun {a h'} ha hs b ob e => by
    obtain ⟨_, _, hfree⟩ := ha
    refine (I.hok b ob e).stay (fun c w' hc q => (hs.2 c ?_).trans q) (fun _ q => q) fun _ _ q => q
    rintro rfl
    rcases hc with rfl | hc
    · rw [hfree] at e; cases e
    · rw [hfree] at hc; cases hc
  rcases hx with hk | hk
  · refine wpAny_storeName_local hk hn (fun h' hn' hs => ?_) hcls
    obtain ⟨oL, _, _, hoL, _⟩ := id hn
    refine h _ ⟨I.ok, I.os, I.bare, ⟨fun b o e n hb hx => ?_, fun b o e n hb hx => ?_, I.base.free, fun b o e hx => ?_, I.base.tups, I.base.frzs, I.base.tbls⟩, ⟨_, hn', fun j y v' e1 e2 e3 => ?_⟩, fun y c e => ?_, I.free, I.freeC, fun p hp => ?_, tracked ⟨oL, hoL, I.free⟩ hs, by simpa using I.len⟩ ⟨_, hs, .inl rfl⟩
    · exact (hs.2 b (Nat.ne_of_lt (Nat.lt_of_lt_of_le (Heap.lt_size e) I.ok.above))).trans (I.base.keep b o e n hb hx)
    · obtain ⟨sl, e1⟩ := I.base.slot b o e n hb hx
      exact ⟨sl, (hs.2 b (Nat.ne_of_lt (Nat.lt_of_lt_of_le (Heap.lt_size e) I.ok.above))).trans e1⟩
    · obtain ⟨o', e1⟩ := I.base.there b o e hx
      exact ⟨o', (hs.2 b (Nat.ne_of_lt (Nat.lt_of_lt_of_le (Heap.lt_size e) I.ok.above))).trans e1⟩
    · by_cases hj : j = i
      · subst hj
        rw [hi] at e1; cases e1
        rw [List.getElem?_set_self hiσ] at e2
        cases e2
        exact ⟨u, r, .inl ⟨hk, by simp⟩⟩
      · rw [List.getElem?_set_ne (Ne.symm hj)] at e2
        obtain ⟨u', r', q⟩ := hl j y v' e1 e2 e3
        refine ⟨u', r', ?_⟩
        rcases q with ⟨k, e⟩ | ⟨k, c, e, z⟩
        · refine .inl ⟨k, ?_⟩
          have : y ≠ x := fun e => hj (nodup_ix hN e1 (e ▸ hi))
          simp [this, e]
        · exact .inr ⟨k, c, e, z.sameBut hs (cne y c e)⟩
    · obtain ⟨w', z⟩ := I.cell y c e
      exact ⟨w', z.sameBut hs (cne y c e)⟩
    · obtain ⟨e, n, ne, nf, d⟩ := I.pin p hp
      exact ⟨(hs.2 p.1 ne).trans e, n, ne, nf, d⟩
  · have hfn : X.fn x = true := by
      rcases hf with z | z
      · exact z
      · rw [z] at hk; cases hk
    obtain ⟨c, hc⟩ := I.ok.has x (.inl hk)
    obtain ⟨w', z⟩ := I.cell x c hc
    refine wpAny_storeName_cell I.ok.kind hk hc z (fun h' hc' hs => ?_)
    obtain ⟨oc, hoc, hocd⟩ := id z
    refine h { s with heap := h' } ⟨I.ok, I.os, I.bare, ⟨fun b o e n hb hx => ?_, fun b o e n hb hx => ?_, I.base.free, fun b o e hx => ?_, I.base.tups, I.base.frzs, I.base.tbls⟩, ⟨m, hn.sameBut hs (Ne.symm (cne x c hc)), fun j y v' e1 e2 e3 => ?_⟩, fun y c' e => ?_, I.free, I.freeC, fun p hp => ?_, tracked ⟨oc, hoc, I.freeC x c hc⟩ hs, by simpa using I.len⟩ ⟨c, hs, .inr hc⟩
    · exact (hs.2 b (Nat.ne_of_lt (Nat.lt_of_lt_of_le (Heap.lt_size e) (I.ok.cab x c hfn hc)))).trans (I.base.keep b o e n hb hx)
    · obtain ⟨sl, e1⟩ := I.base.slot b o e n hb hx
      exact ⟨sl, (hs.2 b (Nat.ne_of_lt (Nat.lt_of_lt_of_le (Heap.lt_size e) (I.ok.cab x c hfn hc)))).trans e1⟩
    · obtain ⟨o', e1⟩ := I.base.there b o e hx
      exact ⟨o', (hs.2 b (Nat.ne_of_lt (Nat.lt_of_lt_of_le (Heap.lt_size e) (I.ok.cab x c hfn hc)))).trans e1⟩
    · by_cases hj : j = i
      · subst hj
        rw [hi] at e1; cases e1
        rw [List.getElem?_set_self hiσ] at e2
        cases e2
        exact ⟨u, r, .inr ⟨.inl hk, c, hc, hc'⟩⟩
      · rw [List.getElem?_set_ne (Ne.symm hj)] at e2
        obtain ⟨u', r', q⟩ := hl j y v' e1 e2 e3
        refine ⟨u', r', ?_⟩
        rcases q with q | ⟨k, c', e, z'⟩
        · exact .inl q
        · refine .inr ⟨k, c', e, z'.sameBut hs ?_⟩
          rintro rfl
          exact hj (nodup_ix hN e1 (I.ok.inj _ _ _ e hc ▸ hi))
    · by_cases hcc : c' = c
      · subst hcc; exact ⟨_, hc'⟩
      · obtain ⟨w2, z2⟩ := I.cell y c' e
        exact ⟨w2, z2.sameBut hs hcc⟩
    · obtain ⟨e, n, ne, nf, d⟩ := I.pin p hp
      refine ⟨(hs.2 p.1 ?_).trans e, n, ne, nf, d⟩
      intro q
      rw [q, hoc] at e
      have q' : oc = p.2 := Option.some.inj e
      exact d w' (by rw [← q']; exact hocd)
theorem store_ok {M : Model} {A : Around} {E : Value → Shared → Prop} {i : Nat} {x : Str} {v : V} {u : Value} {Q : Unit → Shared → Prop} (I : Inv X pins σ H s) (hN : X.N.Nodup) (hi : X.N[i]? = some x) (hx : Loc X.env.scope x) (r : RelV v u)
    (h : ∀ s', Inv X pins (σ.set i (some v)) H s' → Q () s') (hf : X.fn x = true ∨ X.env.scope.names.lookup x = some .local := by first | exact .inl rfl | exact .inr rfl | assumption) : wpAny M A (storeName X.env x u) Q E s :=
  store_ok2 I hN hi hx r (fun s' I' _ => h s' I') hf
theorem Inv.call' {s' : Shared} {ch : List Addr} (I : Inv X pins σ H s) (ho : s'.os = s.os) (u : Un (frs X.stack) ch H H' s.heap s'.heap) (hok : HOk X.prog X.w H' s'.heap) (hg : AllBare s'.gens)
    (hch : ∀ b ∈ ch, (b ∈ X.ex ∨ X.s₀.heap.objs.size ≤ b) ∧ b ≠ X.env.locals ∧ (∀ x c, X.env.cells.lookup x = some c → c ≠ b) ∧ ∀ p ∈ X.pn ++ pins, p.1 ≠ b) : Inv X pins σ H' s' := by
  obtain ⟨h', g', d', t', o'⟩ := s'
  have e : o' = s.os := ho
  subst e
  exact I.call (g' := g') (t' := t') (d' := d') u hok hg hch
end
noncomputable abbrev XK := Value → Option Addr → Hp → Prop
noncomputable abbrev St := List (Option V)
noncomputable abbrev VK := V → Hp → Prop
noncomputable abbrev TE := St → Hp → VK → Prop
noncomputable abbrev TT := St → Hp → (Bool → Hp → Prop) → Prop
noncomputable abbrev TA := St → Hp → (List V → Hp → Prop) → Prop
structure Ends where
  nx : St → Hp → Prop
  rt : VK
  bk : St → Hp → Prop := fun _ _ => False
  ct : St → Hp → Prop := fun _ _ => False
noncomputable abbrev TS := Ends → St → Hp → Prop
noncomputable def EP (X : Cx) (pins : List (Addr × Obj)) (σ : St) (Q : VK) (u : Value) (s' : Shared) : Prop := ∃ v H', Inv X pins σ H' s' ∧ RelV v u ∧ Q v H'
noncomputable def TP (X : Cx) (pins : List (Addr × Obj)) (σ : St) (Q : Bool → Hp → Prop) (b : Bool) (s' : Shared) : Prop := ∃ H', Inv X pins σ H' s' ∧ Q b H'
noncomputable def AP (X : Cx) (pins : List (Addr × Obj)) (σ : St) (Q : List V → Hp → Prop) (us : List Value) (s' : Shared) : Prop := ∃ vs H', Inv X pins σ H' s' ∧ Vals vs us ∧ Q vs H'
noncomputable def SP (X : Cx) (pins : List (Addr × Obj)) (D : Ends) (f : Flow) (s' : Shared) : Prop :=
  match f with
  | .next => ∃ σ' H', Inv X pins σ' H' s' ∧ D.nx σ' H'
  | .brk => ∃ σ' H', Inv X pins σ' H' s' ∧ D.bk σ' H'
  | .cont => ∃ σ' H', Inv X pins σ' H' s' ∧ D.ct σ' H'
  | .ret u => ∃ v σ' H', Inv X pins σ' H' s' ∧ RelV v u ∧ D.rt v H'
noncomputable def PE (X : Cx) (e : Expr) (t : TE) : Prop :=
  ∀ (pins : List (Addr × Obj)) (s : Shared) (σ : St) (H : Hp) (Q : VK), Inv X pins σ H s → t σ H Q → wpAny (model X.prog X.w) X.A (eval e X.env) (EP X pins σ Q) X.xe s
noncomputable def PT (X : Cx) (e : Expr) (t : TT) : Prop :=
  ∀ (pins : List (Addr × Obj)) (s : Shared) (σ : St) (H : Hp) (Q : Bool → Hp → Prop), Inv X pins σ H s → t σ H Q → wpAny (model X.prog X.w) X.A (isTrue e X.env (eval e X.env)) (TP X pins σ Q) X.xe s
noncomputable def PW (X : Cx) (e : Expr) (t : TT) : Prop :=
  ∀ (whole : Sem Value) (pins : List (Addr × Obj)) (s : Shared) (σ : St) (H : Hp) (Q : Bool → Hp → Prop), Inv X pins σ H s → t σ H Q → wpAny (model X.prog X.w) X.A (isTrue e X.env whole) (TP X pins σ Q) X.xe s
theorem PW.pt {X : Cx} {e : Expr} {t : TT} (h : PW X e t) : PT X e t := h _
noncomputable def PA (X : Cx) (es : List Expr) (t : TA) : Prop :=
  ∀ (pos : Pos) (pins : List (Addr × Obj)) (s : Shared) (σ : St) (H : Hp) (Q : List V → Hp → Prop), Inv X pins σ H s → t σ H Q → wpAny (model X.prog X.w) X.A (spliced (backTo pos (starEach es X.env))) (AP X pins σ Q) X.xe s
noncomputable def PS (X : Cx) (st : Stmt) (t : TS) : Prop :=
  ∀ (pins : List (Addr × Obj)) (s : Shared) (σ : St) (H : Hp) (D : Ends), Inv X pins σ H s → t D σ H → wpAny (model X.prog X.w) X.A (exec st X.env) (SP X pins D) X.xe s
noncomputable def PSs (X : Cx) (st : List Stmt) (t : TS) : Prop :=
  ∀ (pins : List (Addr × Obj)) (s : Shared) (σ : St) (H : Hp) (D : Ends), Inv X pins σ H s → t D σ H → wpAny (model X.prog X.w) X.A (execs st X.env) (SP X pins D) X.xe s
theorem thn {α : Type} {t : Sem α} {Q Q' : α → Shared → Prop} {M : Model} {A : Around} {E : Value → Shared → Prop} {s : Shared} (h : wpAny M A t Q E s) (hQ : ∀ a s, Q a s → Q' a s) : wpAny M A t Q' E s := wpAny_mono h hQ fun _ _ x => x
theorem EP.out {X : Cx} {pins : List (Addr × Obj)} {σ : St} {Q : VK} {u : Value} {s' : Shared} {C : Prop} (h : EP X pins σ Q u s') (k : ∀ v H', Inv X pins σ H' s' → RelV v u → Q v H' → C) : C := by
  obtain ⟨v, H', a, b, c⟩ := h
  exact k v H' a b c
theorem ex3 {α : Type} {p q : α → Prop} {C : Prop} (h : ∃ x, p x ∧ q x) (k : ∀ x, p x → q x → C) : C := by
  obtain ⟨x, a, c⟩ := h
  exact k x a c
theorem ex5 {α β : Type} {p q r : α → β → Prop} {C : Prop} (h : ∃ x y, p x y ∧ q x y ∧ r x y) (k : ∀ x y, p x y → q x y → r x y → C) : C := by
  obtain ⟨x, y, a, b, c⟩ := h
  exact k x y a b c
theorem AP.out {X : Cx} {pins : List (Addr × Obj)} {σ : St} {Q : List V → Hp → Prop} {us : List Value} {s' : Shared} {C : Prop} (h : AP X pins σ Q us s') (k : ∀ vs H', Inv X pins σ H' s' → Vals vs us → Q vs H' → C) : C := by
  obtain ⟨v, H', a, b, c⟩ := h
  exact k v H' a b c
theorem GP.out {X : Cx} {pins : List (Addr × Obj)} {Q : St → Hp → Prop} {s' : Shared} {C : Prop} (h : ∃ σ' H', Inv X pins σ' H' s' ∧ Q σ' H') (k : ∀ σ' H', Inv X pins σ' H' s' → Q σ' H' → C) : C := by
  obtain ⟨v, H', a, c⟩ := h
  exact k v H' a c
end L2
namespace L2
open PySem PySem.Spec PyProof.Rows
section
variable {X : Cx}
noncomputable def tVar (i : Nat) : TE := fun σ H Q => ∃ v, σ[i]? = some (some v) ∧ Q v H
noncomputable def tC (v : V) : TE := fun _ H Q => Q v H
theorem pe_var {i : Nat} {x : Str} {pos : Pos} (hN : X.N[i]? = some x) (hv : Vis X.env.scope x) (hd : (x == ("__debug__" : Str)) = false := by decide) (hcd : (x == ("__classdict__" : Str)) = false := by decide) : PE X (.Name x pos) (tVar i) := by
  intro pins s σ H Q I h
  obtain ⟨v, e, h⟩ := h
  obtain ⟨m, hn, hl⟩ := I.loc
  obtain ⟨u, r, l⟩ := hl i x v hN e hv
  have fin : EP X pins σ Q u s := ⟨v, H, I, r, h⟩
  rcases l with ⟨hk, hm⟩ | ⟨hk, c, hc, hcell⟩
  · exact wpAny_Name (wpAny_loadName_local I.ok.kind hk hn hm fin) hd
  · rcases hk with hk | hk
    · exact wpAny_Name (wpAny_loadName_cell I.ok.kind hk hc hcell fin) hd
    · exact wpAny_Name (wpAny_loadName_free I.ok.kind hk hc hcell fin hcd) hd
theorem pe_int {i j pos} : PE X (.Constant (.int i) j pos) (tC (.int i)) := fun _ _ _ H _ I h => wpAny_Constant_int ⟨.int i, H, I.tok _, ⟨_, rfl⟩, h⟩
theorem pe_bl {b j pos} : PE X (.Constant (.bool b) j pos) (tC (.bl b)) := fun _ _ _ H _ I h => Constant_bool ⟨.bl b, H, I, rfl, h⟩
theorem pe_non {j pos} : PE X (.Constant .none j pos) (tC .non) := fun _ _ _ H _ I h => Constant_none ⟨.non, H, I, rfl, h⟩
theorem pe_str {x j pos} : PE X (.Constant (.str x) j pos) (tC (.str x)) := fun _ _ _ H _ I h => Calls.Constant_str ⟨.str x, H, I.tok _, ⟨_, rfl⟩, h⟩
noncomputable def Gl (X : Cx) (x : Str) : Prop := X.env.kindOf x = some .globalImplicit
theorem ld_glob {E : Value → Shared → Prop} {pins : List (Addr × Obj)} {s : Shared} {σ : St} {H : Hp} {x : Str} {u : Value} {pos : Pos} {Q : Value → Shared → Prop} (I : Inv X pins σ H s) (hg : Gl X x) (hm : X.mg x = some u) (h : Q u s)
    (hd : (x == ("__debug__" : Str)) = false := by decide) : wpAny (model X.prog X.w) X.A (eval (.Name x pos) X.env) Q E s :=
  Calls.Name_function_global I.ok.kind hg (Calls.loadGlobal_global (by rw [I.ok.glob]; exact I.mod.glob.keeps I.bk) hm h) hd
theorem ld_blt {E : Value → Shared → Prop} {pins : List (Addr × Obj)} {s : Shared} {σ : St} {H : Hp} {x : Str} {u : Value} {pos : Pos} {Q : Value → Shared → Prop} (I : Inv X pins σ H s) (hg : Gl X x) (hm : X.mg x = none) (hv : bootBuiltins x = some u) (h : Q u s)
    (hn : x ≠ "__name__" := by decide) (hd : (x == ("__debug__" : Str)) = false := by decide) : wpAny (model X.prog X.w) X.A (eval (.Name x pos) X.env) Q E s := by
  obtain ⟨mb, h1, h2⟩ := I.mod.blt
  exact Calls.Name_function_global I.ok.kind hg (Calls.loadGlobal_builtin (by rw [I.ok.glob]; exact I.mod.glob.keeps I.bk) hm (by rw [I.ok.blt]; exact h1.keeps I.bk) ((h2 x hn).trans hv) h) hd
theorem pe_bltn {x : Str} {v : V} {u : Value} {pos : Pos} (hg : Gl X x) (hm : X.mg x = none) (hv : bootBuiltins x = some u) (r : RelV v u) (hn : x ≠ "__name__" := by decide) (hd : (x == ("__debug__" : Str)) = false := by decide) : PE X (.Name x pos) (tC v) :=
  fun _ _ _ H _ I h => ld_blt I hg hm hv ⟨v, H, I, r, h⟩ hn hd
variable {a b : Expr} {ta tb : TE} {pos : Pos}
noncomputable def PC (X : Cx) (op : CmpOp) (a b : Expr) (t : TE) : Prop :=
  ∀ (pins : List (Addr × Obj)) (s : Shared) (σ : St) (H : Hp) (Q : VK), Inv X pins σ H s → t σ H Q →
    wpAny (model X.prog X.w) X.A (eval a X.env) (fun v s₁ => wpAny (model X.prog X.w) X.A (eval b X.env) (fun u s₂ => wpAny (model X.prog X.w) X.A (compareOp op v u) (EP X pins σ Q) X.xe s₂) X.xe s₁) X.xe s
theorem nobehind (b : Expr) {op : CmpOp} (h : op ≠ .In) (h2 : op ≠ .NotIn) : behindInMarks op b = false := by
  have e1 : (op == CmpOp.In) = false := by cases op <;> first | rfl | exact absurd rfl h
  have e2 : (op == CmpOp.NotIn) = false := by cases op <;> first | rfl | exact absurd rfl h2
  cases b <;> simp [behindInMarks, e1, e2]
noncomputable def tIsN (ta : TE) : TE := fun σ H Q => ta σ H fun x H1 => Q (.bl (decide (x = .non))) H1
noncomputable def tNotN (ta : TE) : TE := fun σ H Q => ta σ H fun x H1 => Q (.bl (!decide (x = .non))) H1
theorem RelV.none_iff {x : V} {v : Value} (r : RelV x v) : (v == Value.none) = decide (x = .non) := by
  cases x with
  | non => cases r; rfl
  | bl _ => cases r; rfl
  | int _ => obtain ⟨t, rfl⟩ := r; rfl
  | str _ => obtain ⟨t, rfl⟩ := r; rfl
  | byt _ => obtain ⟨t, rfl⟩ := r; rfl
  | flt _ => obtain ⟨t, rfl⟩ := r; rfl
  | ref _ => cases r; rfl
  | ty _ => cases r; rfl
theorem pc_isN {j pos'} (ha : PE X a ta) : PC X .Is a (.Constant .none j pos') (tIsN ta) := by
  intro pins s σ H Q I h
  refine thn (ha pins s σ H _ I h) fun v s1 hq9 => EP.out hq9 fun x H1 I1 r1 q1 => ?_
  exact Constant_none (is_none_gen ⟨.bl _, H1, I1, by rw [r1.none_iff]; rfl, q1⟩)
theorem pc_notN {j pos'} (ha : PE X a ta) : PC X .IsNot a (.Constant .none j pos') (tNotN ta) := by
  intro pins s σ H Q I h
  refine thn (ha pins s σ H _ I h) fun v s1 hq9 => EP.out hq9 fun x H1 I1 r1 q1 => ?_
  exact Constant_none (isnot_none_gen ⟨.bl _, H1, I1, by rw [r1.none_iff]; rfl, q1⟩)
noncomputable def tB (t : TE) : TT := fun σ H Q => t σ H fun x H1 => ∃ c, x = .bl c ∧ Q c H1
theorem pe_cmp {op : CmpOp} {t : TE} (h : PC X op a b t) (h1 : behindInMarks op b = false := by first | exact nobehind _ (by decide) (by decide) | rfl) : PE X (.Compare a [op] [b] pos) t := fun pins s σ H Q I hw => wpAny_Compare1 (h pins s σ H Q I hw) h1
theorem pt_cmp {op : CmpOp} {t : TE} (h : PC X op a b t) (h1 : behindInMarks op b = false := by first | exact nobehind _ (by decide) (by decide) | rfl) : PT X (.Compare a [op] [b] pos) (tB t) := by
  intro pins s σ H Q I hw
  refine wpAny_isTrue_Compare1 (thn (h pins s σ H _ I hw) fun v s1 h1 => thn h1 fun u s2 h2 => thn h2 fun c s3 hq9 => EP.out hq9 fun x H1 I1 r1 q1 => ?_) h1
  obtain ⟨d, rfl, q⟩ := q1
  cases r1
  exact wpAny_truthy_bool ⟨H1, I1, q⟩
theorem pt_val {e : Expr} {t : TE} (h : PE X e t) (he : ∀ whole, isTrue e X.env whole = (do let v ← whole; standAt e.pos; holding [v] (truthy v)) := by intro _; rfl) : PT X e (tB t) := by
  intro pins s σ H Q I hw
  refine isTrue_plain (thn (h pins s σ H _ I hw) fun v s1 hq9 => EP.out hq9 fun x H1 I1 r1 q1 => ?_) (he _)
  obtain ⟨d, rfl, q⟩ := q1
  cases r1
  exact wpAny_truthy_bool ⟨H1, I1, q⟩
variable {tA tB' : TT} {rest : List Expr}
noncomputable def tAnd (t u : TT) : TT := fun σ H Q => t σ H fun c H1 => if c = true then u σ H1 Q else Q false H1
noncomputable def tOr (t u : TT) : TT := fun σ H Q => t σ H fun c H1 => if c = true then Q true H1 else u σ H1 Q
noncomputable def tNot (t : TT) : TT := fun σ H Q => t σ H fun c H1 => Q (!c) H1
theorem pw_and1 (ha : PT X a tA) : PW X (.BoolOp .And [a] pos) tA := by
  intro wh pins s σ H Q I h
  refine isTrue_and (thn (ha pins s σ H Q I h) fun c s1 e => ?_)
  cases c with
  | true => exact isTrue_and_nil e
  | false => exact e
theorem pw_or1 (ha : PT X a tA) : PW X (.BoolOp .Or [a] pos) tA := by
  intro wh pins s σ H Q I h
  refine isTrue_or (thn (ha pins s σ H Q I h) fun c s1 e => ?_)
  cases c with
  | false => exact isTrue_or_nil e
  | true => exact e
theorem pw_and (ha : PT X a tA) (hb : PW X (.BoolOp .And (b :: rest) pos) tB') : PW X (.BoolOp .And (a :: b :: rest) pos) (tAnd tA tB') := by
  intro wh pins s σ H Q I h
  refine isTrue_and (thn (ha pins s σ H _ I h) fun c s1 hq9 => ex3 hq9 fun H1 I1 q1 => ?_)
  cases c with
  | true => exact hb wh pins s1 σ H1 Q I1 q1
  | false => exact ⟨H1, I1, q1⟩
theorem pw_or (ha : PT X a tA) (hb : PW X (.BoolOp .Or (b :: rest) pos) tB') : PW X (.BoolOp .Or (a :: b :: rest) pos) (tOr tA tB') := by
  intro wh pins s σ H Q I h
  refine isTrue_or (thn (ha pins s σ H _ I h) fun c s1 hq9 => ex3 hq9 fun H1 I1 q1 => ?_)
  cases c with
  | true => exact ⟨H1, I1, q1⟩
  | false => exact hb wh pins s1 σ H1 Q I1 q1
theorem pt_not (ha : PT X a tA) : PT X (.UnaryOp .Not a pos) (tNot tA) := by
  intro pins s σ H Q I h
  exact isTrue_not (ha pins s σ H (fun c H1 => Q (!c) H1) I h)
noncomputable def tAndV (ta tb : TE) : TE := fun σ H Q => ta σ H fun x H1 => ∃ c, x = .bl c ∧ if c = true then tb σ H1 Q else Q (.bl false) H1
noncomputable def tOrV (ta tb : TE) : TE := fun σ H Q => ta σ H fun x H1 => ∃ c, x = .bl c ∧ if c = true then Q (.bl true) H1 else tb σ H1 Q
noncomputable def tNotV (ta : TE) : TE := fun σ H Q => ta σ H fun x H1 => ∃ c, x = .bl c ∧ Q (.bl (!c)) H1
theorem pe_one {op} {t : TE} (h : PE X a t) : PE X (.BoolOp op [a] pos) t := fun pins s σ H Q I hw => BoolOp_one (h pins s σ H Q I hw)
theorem pe_and (ha : PE X a ta) (hb : PE X (.BoolOp .And (b :: rest) pos) tb) : PE X (.BoolOp .And (a :: b :: rest) pos) (tAndV ta tb) := by
  intro pins s σ H Q I h
  refine BoolOp_and (thn (ha pins s σ H _ I h) fun v s1 hq9 => EP.out hq9 fun x H1 I1 r1 q1 => ?_)
  obtain ⟨c, rfl, q1⟩ := q1
  cases r1
  refine wpAny_truthy_bool ?_
  cases c with
  | true => exact hb pins s1 σ H1 Q I1 q1
  | false => exact ⟨.bl false, H1, I1, rfl, q1⟩
theorem pe_or (ha : PE X a ta) (hb : PE X (.BoolOp .Or (b :: rest) pos) tb) : PE X (.BoolOp .Or (a :: b :: rest) pos) (tOrV ta tb) := by
  intro pins s σ H Q I h
  refine BoolOp_or (thn (ha pins s σ H _ I h) fun v s1 hq9 => EP.out hq9 fun x H1 I1 r1 q1 => ?_)
  obtain ⟨c, rfl, q1⟩ := q1
  cases r1
  refine wpAny_truthy_bool ?_
  cases c with
  | false => exact hb pins s1 σ H1 Q I1 q1
  | true => exact ⟨.bl true, H1, I1, rfl, q1⟩
theorem pe_not (ha : PE X a ta) : PE X (.UnaryOp .Not a pos) (tNotV ta) := by
  intro pins s σ H Q I h
  refine UnaryOp_ (thn (ha pins s σ H _ I h) fun v s1 hq9 => EP.out hq9 fun x H1 I1 r1 q1 => ?_)
  obtain ⟨c, rfl, q1⟩ := q1
  cases r1
  exact not_of (wpAny_truthy_bool ⟨.bl (!c), H1, I1, rfl, q1⟩)
noncomputable def tIf (t : TT) (ta tb : TE) : TE := fun σ H Q => t σ H fun c H1 => if c = true then ta σ H1 Q else tb σ H1 Q
theorem pe_ifExp {c : Expr} (hc : PT X c tA) (ha : PE X a ta) (hb : PE X b tb) : PE X (.IfExp c a b pos) (tIf tA ta tb) := by
  intro pins s σ H Q I h
  refine wpAny_IfExp (thn (hc pins s σ H _ I h) fun d s1 hq9 => ex3 hq9 fun H1 I1 q1 => ?_)
  cases d with
  | true => exact ha pins s1 σ H1 Q I1 q1
  | false => exact hb pins s1 σ H1 Q I1 q1
end
end L2
namespace L2
open PySem PySem.Spec PyProof.Rows
noncomputable def SqL (K : PySem.W.Frag) (H : Hp) (a : Addr) (xs : List V) : Prop :=
  Rd H a (.lst xs) ∨
    ∃ (o : Obj) (its : Array Value) (n : Nat), K.lookup a = some o ∧ o.cls = .type "list" ∧ o.dict = none ∧ o.data = .seq its n ∧ its.size ≤ sizeLine ∧ Vals xs its.toList
noncomputable def SqT (K : PySem.W.Frag) (H : Hp) (a : Addr) (xs : List V) : Prop :=
  Rd H a (.tup xs) ∨
    ∃ (o : Obj) (its : Array Value) (n : Nat), K.lookup a = some o ∧ o.cls = .type "tuple" ∧ o.data = .seq its n ∧ its.size ≤ sizeLine ∧ Vals xs its.toList
noncomputable def absV : Value → Option V
  | .none => some .non
  | .bool b => some (.bl b)
  | .int i _ => some (.int i)
  | .str x _ => some (.str x)
  | .bytes b _ => some (.byt b)
  | .float b _ => some (.flt b)
  | .ref a => some (.ref a)
  | .type n => some (.ty n)
  | _ => none
theorem RelV.abs {x : V} {u : Value} (r : RelV x u) : absV u = some x := by
  cases x with
  | non => cases r; rfl
  | bl _ => cases r; rfl
  | int _ => obtain ⟨t, rfl⟩ := r; rfl
  | str _ => obtain ⟨t, rfl⟩ := r; rfl
  | byt _ => obtain ⟨t, rfl⟩ := r; rfl
  | flt _ => obtain ⟨t, rfl⟩ := r; rfl
  | ref _ => cases r; rfl
  | ty _ => cases r; rfl
theorem RelV.inj {x y : V} {u : Value} (r : RelV x u) (q : RelV y u) : x = y := Option.some.inj (r.abs.symm.trans q.abs)
theorem Vals.inj {xs ys : List V} {us : List Value} (h : Vals xs us) (g : Vals ys us) : xs = ys := by
  induction h generalizing ys with
  | nil => cases g; rfl
  | cons r t ih =>
    cases g with
    | cons r' t' => rw [r.inj r', ih t']
section
variable {X : Cx} {pins : List (Addr × Obj)} {σ : St} {H : Hp} {s : Shared} {a : Addr} {xs ys : List V}
theorem SqL.of {K : PySem.W.Frag} (h : H a = some (.lst xs)) : SqL K H a xs := .inl (.inl h)
theorem SqT.of {K : PySem.W.Frag} (h : H a = some (.tup xs)) : SqT K H a xs := .inl (.inl h)
theorem Inv.list (I : Inv X pins σ H s) (h : SqL X.K H a xs) : ∃ its : List Value, Vals xs its ∧ PlainL s.heap a its.toArray ∧ xs.length ≤ sizeLine := by
  rcases h with h | ⟨o, its, n, hk, hc, hd, hs, hz, r⟩
  · obtain ⟨z, its, n, r, e⟩ := h.ok I.hok
    exact ⟨its, r, ⟨_, n, e, rfl, rfl, rfl⟩, z⟩
  · refine ⟨its.toList, r, ⟨o, n, I.kIn a o hk, hc, hd, by simpa using hs⟩, ?_⟩
    have e := r.length
    simp only [Array.length_toList] at e
    omega
theorem Inv.tuple (I : Inv X pins σ H s) (h : SqT X.K H a xs) : ∃ its : List Value, Vals xs its ∧ IsTup s.heap a its.toArray ∧ xs.length ≤ sizeLine := by
  rcases h with h | ⟨o, its, n, hk, hc, hs, hz, r⟩
  · obtain ⟨z, its, r, p⟩ := h.ok I.hok
    exact ⟨its, r, p, z⟩
  · refine ⟨its.toList, r, ⟨o, I.kIn a o hk, hc, n, by simpa using hs⟩, ?_⟩
    have e := r.length
    simp only [Array.length_toList] at e
    omega
theorem Inv.list_inj (I : Inv X pins σ H s) (h : SqL X.K H a xs) (h' : SqL X.K H a ys) : xs = ys := by
  obtain ⟨its, r, ⟨o, n, e, _, _, d⟩, _⟩ := I.list h
  obtain ⟨its', r', ⟨o', n', e', _, _, d'⟩, _⟩ := I.list h'
  rw [e] at e'; cases e'
  rw [d] at d'
  injection d' with d1 _
  have : its = its' := by simpa using congrArg Array.toList d1
  subst this
  exact r.inj r'
theorem Inv.tuple_inj (I : Inv X pins σ H s) (h : SqT X.K H a xs) (h' : SqT X.K H a ys) : xs = ys := by
  obtain ⟨its, r, ⟨o, e, _, n, d⟩, _⟩ := I.tuple h
  obtain ⟨its', r', ⟨o', e', _, n', d'⟩, _⟩ := I.tuple h'
  rw [e] at e'; cases e'
  rw [d] at d'
  injection d' with d1 _
  have : its = its' := by simpa using congrArg Array.toList d1
  subst this
  exact r.inj r'
end
noncomputable abbrev Cx.wish (X : Cx) (E : Value → Shared → Prop) : Cx := { X with xe := E }
noncomputable abbrev Cx.nox (X : Cx) : Cx := X.wish fun _ _ => False
theorem Cx.Ok.wish {X : Cx} (ok : X.Ok) (E : Value → Shared → Prop) : (X.wish E).Ok :=
  ⟨ok.mod, ok.kind, ok.glob, ok.blt, ok.above, ok.inj, ok.has, ok.cab, ok.hd, ok.frames, ok.stk, ok.exf, ok.bs, ok.bsz, ok.noex, ok.exfs, ok.funs, ok.frf⟩
theorem Cx.Ok.unwish {X : Cx} {E : Value → Shared → Prop} (ok : (X.wish E).Ok) : X.Ok :=
  ⟨ok.mod, ok.kind, ok.glob, ok.blt, ok.above, ok.inj, ok.has, ok.cab, ok.hd, ok.frames, ok.stk, ok.exf, ok.bs, ok.bsz, ok.noex, ok.exfs, ok.funs, ok.frf⟩
section
variable {X : Cx} {pins : List (Addr × Obj)} {σ : St} {H : Hp} {s : Shared} {E : Value → Shared → Prop}
theorem Inv.wish (I : Inv X pins σ H s) (E : Value → Shared → Prop) : Inv (X.wish E) pins σ H s := ⟨I.ok.wish E, I.os, I.bare, I.base, I.loc, I.cell, I.free, I.freeC, I.pin, I.hok, I.len⟩
theorem Inv.unwish (I : Inv (X.wish E) pins σ H s) : Inv X pins σ H s := ⟨I.ok.unwish, I.os, I.bare, I.base, I.loc, I.cell, I.free, I.freeC, I.pin, I.hok, I.len⟩
theorem SP.unwish {D : Ends} {f : Flow} {s' : Shared} (h : SP (X.wish E) pins D f s') : SP X pins D f s' := by
  cases f with
  | next => obtain ⟨σ', H', I, q⟩ := h; exact ⟨σ', H', I.unwish, q⟩
  | brk => obtain ⟨σ', H', I, q⟩ := h; exact ⟨σ', H', I.unwish, q⟩
  | cont => obtain ⟨σ', H', I, q⟩ := h; exact ⟨σ', H', I.unwish, q⟩
  | ret u => obtain ⟨v, σ', H', I, r, q⟩ := h; exact ⟨v, σ', H', I.unwish, r, q⟩
theorem PSs.nox {st : List Stmt} {t : TS} (h : PSs X.nox st t) : PSs X st t := fun pins s σ H D I hw =>
  wpAny_mono (h pins s σ H D (I.wish _) hw) (fun _ _ q => q.unwish) fun _ _ z => False.elim z
end
section
variable {X : Cx} {st : Stmt} {rest : List Stmt} {t u : TS} {e : Expr} {te : TE} {pos : Pos}
noncomputable def tNext : TS := fun D σ H => D.nx σ H
noncomputable def tSeq (t u : TS) : TS := fun D σ H => t { D with nx := u D } σ H
theorem pss_nil : PSs X [] tNext := fun _ _ σ H _ I h => wpAny_execs_nil ⟨σ, H, I, h⟩
theorem pss_cons (h1 : PS X st t) (h2 : PSs X rest u) : PSs X (st :: rest) (tSeq t u) := by
  intro pins s σ H D I h
  refine wpAny_execs_cons (thn (h1 pins s σ H { D with nx := u D } I h) fun f s1 q => ?_)
  cases f with
  | next =>
    obtain ⟨σ', H', I', q⟩ := q
    exact h2 pins s1 σ' H' D I' q
  | ret v => exact q
  | brk => exact q
  | cont => exact q
theorem pss_one (h1 : PS X st t) : PSs X [st] t := by
  intro pins s σ H D I h
  refine wpAny_execs_cons (thn (h1 pins s σ H D I h) fun f s1 q => ?_)
  cases f with
  | next => exact wpAny_execs_nil q
  | ret v => exact q
  | brk => exact q
  | cont => exact q
theorem Inv.quiet {pins : List (Addr × Obj)} {σ : St} {H : Hp} {s : Shared} (I : Inv X pins σ H s) : interactive X.env = false := by simp [interactive, I.ok.kind]
noncomputable def tDrop (te : TE) : TS := fun D σ H => te σ H fun _ H1 => D.nx σ H1
theorem ps_expr (he : PE X e te) (hs : swapsWith e none pos.line X.env = pure false := by rfl) : PS X (.Expr e pos) (tDrop te) := by
  intro pins s σ H D I h
  exact wpAny_Expr_any (thn (he pins s σ H _ I h) fun v s1 hq9 => EP.out hq9 fun x H1 I1 r1 q1 => ⟨σ, H1, I1, q1⟩) I.quiet hs
noncomputable def tRet (te : TE) : TS := fun D σ H => te σ H D.rt
theorem ps_ret (he : PE X e te) : PS X (.Return (some e) pos) (tRet te) := by
  intro pins s σ H D I h
  exact wpAny_Return_some (thn (he pins s σ H _ I h) fun v s1 hq9 => EP.out hq9 fun x H1 I1 r1 q1 => ⟨x, σ, H1, I1, r1, q1⟩)
noncomputable def tIfS (c : TT) (t u : TS) : TS := fun D σ H => c σ H fun b H1 => if b = true then t D σ H1 else u D σ H1
theorem ps_if {c : Expr} {a b : List Stmt} {tc : TT} (hc : PT X c tc) (ha : PSs X a t) (hb : PSs X b u) : PS X (.If c a b pos) (tIfS tc t u) := by
  intro pins s σ H D I h
  refine wpAny_If (thn (hc pins s σ H _ I h) fun d s1 hq9 => ex3 hq9 fun H1 I1 q1 => ?_)
  cases d with
  | true => exact ha pins s1 σ H1 D I1 q1
  | false => exact hb pins s1 σ H1 D I1 q1
end
noncomputable abbrev TG := V → St → Hp → (St → Hp → Prop) → Prop
noncomputable abbrev TGs := List V → St → Hp → (St → Hp → Prop) → Prop
noncomputable def PG (X : Cx) (target : Expr) (t : TG) : Prop :=
  ∀ (pins : List (Addr × Obj)) (s : Shared) (σ : St) (H : Hp) (v : V) (u : Value) (Q : St → Hp → Prop), Inv X pins σ H s → RelV v u → t v σ H Q →
    wpAny (model X.prog X.w) X.A (assign target X.env u) (fun _ s' => ∃ σ' H', Inv X pins σ' H' s' ∧ Q σ' H') X.xe s
noncomputable def PGs (X : Cx) (ts : List Expr) (t : TGs) : Prop :=
  ∀ (pins : List (Addr × Obj)) (s : Shared) (σ : St) (H : Hp) (vs : List V) (us : List Value) (Q : St → Hp → Prop), Inv X pins σ H s → Vals vs us → t vs σ H Q →
    wpAny (model X.prog X.w) X.A (assignInOrder ((assignEach ts X.env).map (·.2)) us) (fun _ s' => ∃ σ' H', Inv X pins σ' H' s' ∧ Q σ' H') X.xe s
noncomputable abbrev TSet := V → V → V → Hp → (Hp → Prop) → Prop
noncomputable def PSet (X : Cx) (t : TSet) : Prop :=
  ∀ (pins : List (Addr × Obj)) (s : Shared) (σ : St) (H : Hp) (o i v : V) (ov iv u : Value) (Q : Hp → Prop), Inv X pins σ H s → RelV o ov → RelV i iv → RelV v u → t o i v H Q →
    wpAny (model X.prog X.w) X.A (setItem ov iv u) (fun _ s' => ∃ H', Inv X pins σ H' s' ∧ Q H') X.xe s
section
variable {X : Cx} {pos : Pos}
noncomputable def gName (i : Nat) : TG := fun v σ H Q => Q (σ.set i (some v)) H
theorem pg_name {i : Nat} {x : Str} (hN : X.N.Nodup) (hi : X.N[i]? = some x) (hx : Loc X.env.scope x) (hf : X.fn x = true ∨ X.env.scope.names.lookup x = some .local := by first | exact .inl rfl | exact .inr rfl | assumption) : PG X (.Name x pos) (gName i) := by
  intro pins s σ H v u Q I r h
  exact wpAny_assign_Name (store_ok I hN hi hx r (fun s' I' => ⟨_, H, I', h⟩) hf)
noncomputable def gNil : TGs := fun vs σ H Q => vs = [] ∧ Q σ H
noncomputable def gCons (t : TG) (u : TGs) : TGs := fun vs σ H Q => ∃ v r, vs = v :: r ∧ t v σ H fun σ' H' => u r σ' H' Q
theorem pgs_nil : PGs X [] gNil := by
  intro pins s σ H vs us Q I r h
  obtain ⟨e, h⟩ := h
  subst e
  cases r
  exact assignInOrder_nil ⟨σ, H, I, h⟩
theorem pgs_cons {e : Expr} {es : List Expr} {t : TG} {u : TGs} (h1 : PG X e t) (h2 : PGs X es u)
    (hs : (assignEach (e :: es) X.env).map (·.2) = assign e X.env :: (assignEach es X.env).map (·.2) := by rfl) : PGs X (e :: es) (gCons t u) := by
  intro pins s σ H vs us Q I r h
  obtain ⟨v, vr, e1, h⟩ := h
  subst e1
  cases r with
  | cons r rr =>
    rw [hs]
    refine assignInOrder_cons (thn (h1 pins s σ H _ _ _ I r h) fun _ s1 hq9 => GP.out hq9 fun σ1 H1 I1 q1 => ?_)
    exact h2 pins s1 σ1 H1 _ _ Q I1 rr q1
noncomputable def gTup (K : PySem.W.Frag) (n : Nat) (t : TGs) : TG := fun v σ H Q => ∃ a xs, v = .ref a ∧ SqT K H a xs ∧ xs.length = n ∧ t xs σ H Q
theorem pg_tup {es : List Expr} {k : Nat} {t : TGs} {n : Nat} (hc : X.calm = true) (h : PGs X es t)
    (hn : (assignEach es X.env).length = n := by rfl) (hst : (assignEach es X.env).findIdx? (·.1) = none := by rfl) : PG X (.Tuple es k pos) (gTup X.K n t) := by
  intro pins s σ H v u Q I r hw
  obtain ⟨a, xs, e1, hq, hl, hw⟩ := hw
  subst e1
  cases r
  obtain ⟨its, rv, ht, hz⟩ := I.tuple hq
  refine assign_Tuple_tuple (I.ok.hd hc) ht (by simp [hn, ← hl, rv.length]) hst fun h' hx => ?_
  have I1 : Inv X pins σ H { s with heap := h' } := I.kept (t' := s.toks) fun b o e => hx b o (Nat.ne_of_lt (Heap.lt_size e)) e
  exact h pins _ σ H xs _ Q I1 (by simpa using rv) hw
noncomputable def gSub (to ti : TE) (t : TSet) : TG := fun v σ H Q => to σ H fun o H1 => ti σ H1 fun i H2 => t o i v H2 fun H3 => Q σ H3
theorem pg_sub {o i : Expr} {to ti : TE} {t : TSet} (ho : PE X o to) (hi : PE X i ti) (hs : PSet X t)
    (ha : ∀ v, assign (.Subscript o i pos) X.env v = (do
      let ov ← holding [v] (eval o X.env)
      let iv ← holding [v, ov] (eval i X.env)
      standAt pos
      holding [v, ov, iv] (setItem ov iv v)
      release [v, ov, iv] []) := by intro _; rfl) : PG X (.Subscript o i pos) (gSub to ti t) := by
  intro pins s σ H v u Q I r h
  rw [ha]
  refine wpAny_bind (wpAny_holding (thn (ho pins s σ H _ I h) fun ov s1 hq9 => EP.out hq9 fun x H1 I1 r1 q1 => ?_))
  refine wpAny_bind (wpAny_holding (thn (hi pins s1 σ H1 _ I1 q1) fun iv s2 hq9 => EP.out hq9 fun y H2 I2 r2 q2 => ?_))
  refine wpAny_bind (wpAny_standAt (wpAny_bind (wpAny_holding (thn (hs pins s2 σ H2 x y v ov iv u _ I2 r1 r2 r q2) fun _ s3 hq9 => ex3 hq9 fun H3 I3 q3 => ?_))))
  exact wpAny_release ⟨σ, H3, I3, q3⟩
noncomputable def tAsg (te : TE) (g : TG) : TS := fun D σ H => te σ H fun x H1 => g x σ H1 D.nx
theorem ps_asg {tg e : Expr} {te : TE} {g : TG} (he : PE X e te) (hg : PG X tg g) (hs : swapsWithSole [tg] e pos.line X.env = pure false := by rfl) (hw : swappedStores [tg] e X.env = pure none := by rfl)
    (h1 : (assignEach [tg] X.env).map (·.2) = [assign tg X.env] := by rfl) : PS X (.Assign [tg] e pos) (tAsg te g) := by
  intro pins s σ H D I h
  refine wpAny_Assign_stores (thn (he pins s σ H _ I h) fun v s1 hq9 => EP.out hq9 fun x H1 I1 r1 q1 => ?_) hs hw
  rw [h1]
  exact thn (hg pins s1 σ H1 x v _ I1 r1 q1) fun _ s2 q => q
theorem ps_set {i : Nat} {x : Str} {e : Expr} {te : TE} {pos' : Pos} (hN : X.N.Nodup) (hi : X.N[i]? = some x) (hx : Loc X.env.scope x) (he : PE X e te) (hs : swapsWith e (some (.Name x pos')) pos.line X.env = pure false := by rfl) (hf : X.fn x = true ∨ X.env.scope.names.lookup x = some .local := by first | exact .inl rfl | exact .inr rfl | assumption) :
    PS X (.Assign [.Name x pos'] e pos) (tAsg te (gName i)) := by
  intro pins s σ H D I h
  refine wpAny_Assign_Name (thn (he pins s σ H _ I h) fun v s1 hq9 => EP.out hq9 fun y H1 I1 r1 q1 => ?_) hs
  exact store_ok I1 hN hi hx r1 (fun s2 I2 => ⟨_, H1, I2, q1⟩) hf
end
section
variable {X : Cx} {pos : Pos}
noncomputable def tWhile (c : TT) (tb : TS) : TS := fun D σ H => ∃ W : Nat → St → Hp → Prop, (∃ m, W m σ H) ∧ ∀ m σ H, W m σ H →
  c σ H fun b H1 => if b = true then ∃ N : St → Hp → Prop, (∀ σ' H', N σ' H' → ∃ m', m' < m ∧ W m' σ' H') ∧ tb { D with nx := N, ct := N, bk := D.nx } σ H1 else D.nx σ H1
theorem ps_while {c : Expr} {body : List Stmt} {tc : TT} {tb : TS} (hp : PassesOwn (model X.prog X.w) X.A X.env X.xe) (hc : PT X c tc) (hb : PSs X body tb) : PS X (.While c body [] pos) (tWhile tc tb) := by
  intro pins s σ H D I h
  obtain ⟨W, ⟨m0, w0⟩, turn⟩ := h
  refine wpAny_While (codeAny_whileLoop (fun n s' => ∃ σ' H', Inv X pins σ' H' s' ∧ W n σ' H') ?_ m0 ⟨σ, H, I, w0⟩)
  rintro n s1 ⟨σ1, H1, I1, w1⟩
  refine wpAny_passesOwn hp (thn (hc pins s1 σ1 H1 _ I1 (turn n σ1 H1 w1)) fun b s2 hq9 => ex3 hq9 fun H2 I2 q2 => ?_)
  cases b with
  | true =>
    obtain ⟨N, hN, q2⟩ := q2
    rw [if_pos rfl]
    refine wpAny_passesOwn hp (thn (hb pins s2 σ1 H2 _ I2 q2) fun f s3 q3 => ?_)
    cases f with
    | next =>
      obtain ⟨σ3, H3, I3, n3⟩ := q3
      obtain ⟨m', hm, w3⟩ := hN σ3 H3 n3
      exact ⟨m', hm, σ3, H3, I3, w3⟩
    | cont =>
      obtain ⟨σ3, H3, I3, n3⟩ := q3
      obtain ⟨m', hm, w3⟩ := hN σ3 H3 n3
      exact ⟨m', hm, σ3, H3, I3, w3⟩
    | brk => exact q3
    | ret v => exact q3
  | false =>
    rw [if_neg Bool.false_ne_true]
    exact wpAny_execs_nil ⟨σ1, H2, I2, q2⟩
end
structure It where
  go : Nat → Hp → Prop
  yld : Nat → Hp → V → Hp → Prop
  stop : Nat → Hp → Prop
noncomputable def FpOk (X : Cx) (pins : List (Addr × Obj)) (H : Hp) (b : Addr) : Prop :=
  H b = none ∧ b ≠ X.env.locals ∧ b ∉ X.fs ∧ (b ∈ X.ex ∨ X.s₀.heap.objs.size ≤ b) ∧ (∀ x c, X.env.cells.lookup x = some c → c ≠ b) ∧ ∀ p ∈ X.pn ++ pins, p.1 ≠ b
theorem Inv.fpOk {X : Cx} {pins : List (Addr × Obj)} {σ : St} {H H' : Hp} {s : Shared} {b : Addr} (I : Inv X pins σ H s) (hb : s.heap.objs.size ≤ b) (hn : H' b = none) : FpOk X pins H' b := by
  refine ⟨hn, Nat.ne_of_gt (Nat.lt_of_lt_of_le I.lt hb), I.nofs hb, .inr (Nat.le_trans I.sz hb), fun x c e z => ?_, fun p hp z => ?_⟩
  · obtain ⟨v, q⟩ := I.cell x c e
    exact absurd (Nat.lt_of_lt_of_le q.lt (by rw [z]; exact hb)) (Nat.lt_irrefl _)
  · exact absurd (Nat.lt_of_lt_of_le (Heap.lt_size (I.pin p hp).1) (by rw [z]; exact hb)) (Nat.lt_irrefl _)
structure Turn (P : Program) (w : World) (K : PySem.W.Frag) (tg : Expr) (J : It) (fp : List Addr) (it : Addr) (tn : Nat → Heap → Prop) : Prop where
  mem : it ∈ fp
  obj : ∀ i h, tn i h → ∀ b ∈ fp, ∃ o, h.get? b = some o ∧ ∀ v, o.data ≠ .cell v
  keep : ∀ i h h', tn i h → (∀ b ∈ fp, ∀ o, h.get? b = some o → h'.get? b = some o) → tn i h'
  item : ∀ (X : Cx), X.prog = P → X.w = w → X.K = K → X.calm = true → ∀ (i : Nat) (pins : List (Addr × Obj)) (s : Shared) (σ : St) (H : Hp) (E : Value → Shared → Prop), Inv X pins σ H s → (∀ b ∈ fp, FpOk X pins H b) → tn i s.heap → J.go i H →
    wpAny (model P w) X.A (pyNext (.ref it)) (fun r s1 => ∃ u, r = some u ∧
      wpAny (model P w) X.A (letOwnedTupleGo tg (.ref it) u) (fun _ s2 => ∃ x H', Inv X pins σ H' s2 ∧ RelV x u ∧ J.yld i H x H' ∧ tn (i + 1) s2.heap ∧ ∀ b ∈ fp, H' b = none) E s1) E s
  done : ∀ (X : Cx), X.prog = P → X.w = w → X.K = K → X.calm = true → ∀ (i : Nat) (pins : List (Addr × Obj)) (s : Shared) (σ : St) (H : Hp) (E : Value → Shared → Prop), Inv X pins σ H s → (∀ b ∈ fp, FpOk X pins H b) → tn i s.heap → J.stop i H →
    wpAny (model P w) X.A (pyNext (.ref it)) (fun r s1 => r = none ∧ Inv X pins σ H s1) E s
  self : ∀ (A : Around) (i : Nat) (s : Shared) (Q : Value → Shared → Prop) (E : Value → Shared → Prop), tn i s.heap → Q (.ref it) s → wpAny (model P w) A (pyIter (.ref it)) Q E s
noncomputable abbrev TI := St → Hp → (It → Hp → Prop) → Prop
noncomputable def PIE (X : Cx) (pins : List (Addr × Obj)) (σ : St) (tg : Expr) (R : It → Hp → Prop) (itv : Value) (s2 : Shared) : Prop :=
  ∃ (it : Addr) (fp : List Addr) (tn : Nat → Heap → Prop) (J : It) (H' : Hp), itv = .ref it ∧ Inv X pins σ H' s2 ∧ Turn X.prog X.w X.K tg J fp it tn ∧ tn 0 s2.heap ∧ (∀ b ∈ fp, FpOk X pins H' b) ∧ R J H'
noncomputable def PI (X : Cx) (tg iter : Expr) (wi : TI) : Prop :=
  ∀ (pins : List (Addr × Obj)) (s : Shared) (σ : St) (H : Hp) (R : It → Hp → Prop), Inv X pins σ H s → wi σ H R →
    wpAny (model X.prog X.w) X.A (eval iter X.env) (fun v s1 => wpAny (model X.prog X.w) X.A (pyIter v) (PIE X pins σ tg R) X.xe s1) X.xe s
theorem go_of {M : Model} {A : Around} {E : Value → Shared → Prop} {s : Shared} {tg : Expr} {it : Addr} {u : Value} {o : Obj} {n : String} {vs : Array Value} {Q : Unit → Shared → Prop} (ho : s.heap.get? it = some o) (hc : o.cls = .type n) (hd : o.data = .fields vs)
    (hn : ["enumerate", "zip", "dict_itemiterator", "dict_reverseitemiterator", "odict_iterator", "itertools.zip_longest", "itertools.pairwise"].contains n = false) (hQ : Q () s) : wpAny M A (letOwnedTupleGo tg (.ref it) u) Q E s := by
  unfold letOwnedTupleGo
  cases tg <;> first
    | exact wpAny_pure hQ
    | (cases u <;> first
        | exact wpAny_pure hQ
        | (refine wpAny_bind (wpAny_load ho ?_)
           rw [hc, hd]
           show wpAny M A (if (["enumerate", "zip", "dict_itemiterator", "dict_reverseitemiterator", "odict_iterator", "itertools.zip_longest", "itertools.pairwise"].contains n && vs[0]? == some (rawInt _)) = true then _ else _) Q E s
           rw [if_neg (by intro h; rw [hn, Bool.false_and] at h; cases h)]
           exact wpAny_pure hQ))
noncomputable def Itl (K : PySem.W.Frag) (a : Addr) : It :=
  ⟨fun i H => ∃ xs x, SqL K H a xs ∧ xs[i]? = some x, fun i H x H' => H' = H ∧ ∀ xs, SqL K H a xs → xs[i]? = some x, fun i H => ∃ xs, SqL K H a xs ∧ xs.length ≤ i⟩
noncomputable def Itr (lo : Int) (n : Nat) : It := ⟨fun i _ => i < n, fun i H x H' => H' = H ∧ x = .int (lo + i), fun i _ => n ≤ i⟩
theorem turn_list {P : Program} {w : World} {K : PySem.W.Frag} {tg : Expr} (a it : Addr) : Turn P w K tg (Itl K a) [it] it (fun i h => h.IsListIter it a i) where
  mem := by simp
  obj := fun i h st b hb => by
    have e : b = it := by simpa using hb
    subst e
    obtain ⟨o, e, c, d⟩ := st
    exact ⟨o, e, fun v z => by rw [d] at z; cases z⟩
  keep := fun i h h' st k => st.at fun o e => k it (by simp) o e
  item := by
    intro X hP hw hK hc i pins s σ H E I hf st hg
    subst hP hw hK
    obtain ⟨xs, x, hq, hx⟩ := hg
    obtain ⟨its, rv, p, hz⟩ := I.list hq
    obtain ⟨u, hu, ru⟩ := rv.get hx
    obtain ⟨f0, f1, f2, f3, f4, f5⟩ := hf it (by simp)
    refine wpAny_pyNext_list_item st p.isList (x := u) (by simpa using hu) fun h' st' sb => ?_
    have I1 : Inv X pins σ H { s with heap := h' } := I.turned (t' := s.toks) (fun b o hb e => (sb.2 b hb).trans e) f0 f1 f3 f4 f5
    obtain ⟨o, e, c, d⟩ := id st'
    exact ⟨u, rfl, go_of (s := { s with heap := h' }) e c d (by decide) ⟨x, H, I1, ru, ⟨rfl, fun ys hy => by rw [I.list_inj hy hq]; exact hx⟩, st', fun b hb => (hf b hb).1⟩⟩
  done := by
    intro X hP hw hK hc i pins s σ H E I hf st hg
    subst hP hw hK
    obtain ⟨xs, hq, hx⟩ := hg
    obtain ⟨its, rv, p, hz⟩ := I.list hq
    obtain ⟨f0, f1, f2, f3, f4, f5⟩ := hf it (by simp)
    have hl := rv.length
    exact wpAny_pyNext_list_end (I.ok.hd hc) st p.isList (by simp; omega) fun h' eb => ⟨rfl, I.turned (t' := s.toks) (fun b o hb e => eb b o hb e) f0 f1 f3 f4 f5⟩
  self := fun _ _ _ _ _ st h => wpAny_pyIter_listiter st h
theorem turn_range {P : Program} {w : World} {K : PySem.W.Frag} {tg : Expr} (it : Addr) (lo : Int) (n : Nat) : Turn P w K tg (Itr lo n) [it] it (fun i h => IsRangeIter h it (lo + (i : Nat) * 1) ((n : Int) - (i : Nat)) 1) where
  mem := by simp
  obj := fun i h st b hb => by
    have e : b = it := by simpa using hb
    subst e
    exact ⟨_, st, fun v z => by
      have z' : Data.fields _ = Data.cell v := z
      cases z'⟩
  keep := fun i h h' st k => k it (by simp) _ st
  item := by
    intro X hP hw hK hc i pins s σ H E I hf st hg
    subst hP hw hK
    obtain ⟨f0, f1, f2, f3, f4, f5⟩ := hf it (by simp)
    have W := Walks.range (prog := X.prog) (w := X.w) (I.ok.hd hc) it lo 1 n
    refine W.item i s _ _ hg st fun v h' tk hv st' kk => ?_
    obtain ⟨t, rfl⟩ := hv
    have I1 : Inv X pins σ H { s with heap := h', toks := tk } := I.turned (fun b o hb e => kk b o (by simpa using hb) e) f0 f1 f3 f4 f5
    refine ⟨_, rfl, go_of (s := { s with heap := h', toks := tk }) (n := "range_iterator") st' rfl rfl (by decide) ⟨.int (lo + i), H, I1, ⟨t, ?_⟩, ⟨rfl, rfl⟩, st', fun b hb => (hf b hb).1⟩⟩
    rw [Int.mul_one]
  done := by
    intro X hP hw hK hc i pins s σ H E I hf st hg
    subst hP hw hK
    obtain ⟨f0, f1, f2, f3, f4, f5⟩ := hf it (by simp)
    exact wpAny_pyNext_range_end (I.ok.hd hc) st (by have : n ≤ i := hg; omega) fun h' eb => ⟨rfl, I.turned (t' := s.toks) (fun b o hb e => eb b o hb e) f0 f1 f3 f4 f5⟩
  self := fun _ _ _ _ _ st h => wpAny_pyIter_rangeiter st h
end L2
namespace L2
open PySem PySem.Spec PyProof.Rows
section
variable {X : Cx} {tg : Expr}
noncomputable def iList (K : PySem.W.Frag) (tl : TE) : TI := fun σ H R => tl σ H fun x H1 => ∃ a, x = .ref a ∧ (∃ xs, SqL K H1 a xs) ∧ R (Itl K a) H1
theorem pi_list {l : Expr} {tl : TE} (hl : PE X l tl) : PI X tg l (iList X.K tl) := by
  intro pins s σ H R I h
  refine thn (hl pins s σ H _ I h) fun v s1 hq9 => EP.out hq9 fun x H1 I1 r1 q1 => ?_
  obtain ⟨a, e, ⟨xs, hq⟩, q⟩ := q1
  subst e
  cases r1
  obtain ⟨its, rv, p, hz⟩ := I1.list hq
  refine wpAny_pyIter_list p.isList ?_
  refine ⟨s1.heap.objs.size, [s1.heap.objs.size], _, _, H1, rfl, I1.kept (t' := s1.toks) fun b o e => Heap.get?_push_of_some _ e, turn_list a _, ⟨_, Heap.get?_push_size _ rfl, rfl, rfl⟩, fun b hb => ?_, q⟩
  have e : b = s1.heap.objs.size := by simpa using hb
  subst e
  exact I1.fpOk (Nat.le_refl _) (I1.hok.fresh (Nat.le_refl _))
theorem range_it {pins : List (Addr × Obj)} {σ : St} {H : Hp} {s : Shared} {R : It → Hp → Prop} {E : Value → Shared → Prop} {lo hi : Int} {t u v : Tok} {tk : Nat} (I : Inv X pins σ H s) (h1 : -(2 ^ 62) ≤ lo) (h2 : lo < 2 ^ 62) (h3 : -(2 ^ 62) ≤ hi) (h4 : hi < 2 ^ 62)
    (q : R (Itr lo (hi - lo).toNat) H) : wpAny (model X.prog X.w) X.A (pyIter (.ref s.heap.objs.size)) (PIE X pins σ tg R) E { s with heap := s.heap.push { cls := .type "range", data := .fields #[.int lo t, .int hi u, .int 1 v] }, toks := tk } := by
  refine wpAny_pyIter_range (IsRange.new ..) (small_one h1 h2 h3 h4) ?_
  have I1 : Inv X pins σ H { s with heap := s.heap.push { cls := .type "range", data := .fields #[.int lo t, .int hi u, .int 1 v] }, toks := tk } := I.kept fun b o e => Heap.get?_push_of_some _ e
  refine ⟨(s.heap.push { cls := .type "range", data := .fields #[.int lo t, .int hi u, .int 1 v] }).objs.size, [(s.heap.push { cls := .type "range", data := .fields #[.int lo t, .int hi u, .int 1 v] }).objs.size], _, _, H, rfl,
    I1.kept (t' := tk) fun b o e => Heap.get?_push_of_some _ e, turn_range _ lo (hi - lo).toNat, ?_, fun b hb => ?_, q⟩
  · have e1 : lo + ((0 : Nat) : Int) * 1 = lo := by simp
    have e2 : (((hi - lo).toNat : Nat) : Int) - ((0 : Nat) : Int) = Builtin.Range.rangeSize lo hi 1 := by rw [rangeSize_one]; split <;> omega
    show IsRangeIter _ _ (lo + ((0 : Nat) : Int) * 1) ((((hi - lo).toNat : Nat) : Int) - ((0 : Nat) : Int)) 1
    rw [e1, e2]
    exact Heap.get?_push_size _ rfl
  · have e : b = (s.heap.push { cls := .type "range", data := .fields #[.int lo t, .int hi u, .int 1 v] }).objs.size := by simpa using hb
    subst e
    exact I1.fpOk (Nat.le_refl _) (I1.hok.fresh (Nat.le_refl _))
noncomputable def iRng1 (ta : TA) : TI := fun σ H R => ta σ H fun vs H1 => ∃ j : Int, vs = [.int j] ∧ -(2 ^ 62) ≤ j ∧ j < 2 ^ 62 ∧ R (Itr 0 j.toNat) H1
theorem pi_range1 {a : Expr} {ta : TA} {p pos : Pos} (hg : Gl X "range") (hm : X.mg "range" = none) (ha : PA X [a] ta) (hs : starEach [a] X.env = [(false, eval a X.env)] := by rfl) : PI X tg (.Call (.Name "range" p) [a] [] pos) (iRng1 ta) := by
  intro pins s σ H R I h
  refine Call_ (ld_blt I hg hm boot_range (PyProof.Rows.callWith_type1 (thn (ha pos pins s σ H _ I h) fun us s1 hq9 => AP.out hq9 fun vs H1 I1 r1 q1 => ?_) hs rfl))
  obtain ⟨j, e, q1, q2, q⟩ := q1
  subst e
  cases r1 with
  | cons r rr =>
    cases rr
    obtain ⟨t, rfl⟩ := r
    exact call_range_1 (range_it I1 (by omega) (by omega) q1 q2 (by simpa using q))
noncomputable def tFor (wi : TI) (g : TG) (tb : TS) : TS := fun D σ H => wi σ H fun J H1 => ∃ W : Nat → Nat → St → Hp → Prop, (∃ m, W 0 m σ H1) ∧ ∀ i m σ H, W i m σ H →
  (J.stop i H ∧ D.nx σ H) ∨ (J.go i H ∧ ∃ N : St → Hp → Prop, (∀ σ' H', N σ' H' → ∃ m', m' < m ∧ W (i + 1) m' σ' H') ∧ ∀ x H', J.yld i H x H' → g x σ H' fun σ2 H2 => tb { D with nx := N, ct := N, bk := D.nx } σ2 H2)
noncomputable def pinsAt (fp : List Addr) (h : Heap) : List (Addr × Obj) := fp.filterMap fun b => (h.get? b).map fun o => (b, o)
theorem mem_pinsAt {fp : List Addr} {h : Heap} {b : Addr} {o : Obj} (hb : b ∈ fp) (e : h.get? b = some o) : (b, o) ∈ pinsAt fp h := List.mem_filterMap.mpr ⟨b, hb, by rw [e]; rfl⟩
theorem of_pinsAt {fp : List Addr} {h : Heap} {p : Addr × Obj} (hp : p ∈ pinsAt fp h) : p.1 ∈ fp ∧ h.get? p.1 = some p.2 := by
  obtain ⟨b, hb, e⟩ := List.mem_filterMap.mp hp
  cases q : h.get? b with
  | none => rw [q] at e; cases e
  | some o =>
    rw [q] at e
    have e' : (b, o) = p := Option.some.inj e
    subst e'
    exact ⟨hb, q⟩
theorem Inv.pinned {pins : List (Addr × Obj)} {σ : St} {H : Hp} {s : Shared} {fp : List Addr} (I : Inv X pins σ H s) (hf : ∀ b ∈ fp, FpOk X pins H b) (ho : ∀ b ∈ fp, ∃ o, s.heap.get? b = some o ∧ ∀ v, o.data ≠ .cell v) : Inv X (pins ++ pinsAt fp s.heap) σ H s :=
  I.pins_of fun p hp => (List.mem_append.mp hp).elim (fun z => I.pin p (List.mem_append_right _ z)) fun z => by
    obtain ⟨hb, e⟩ := of_pinsAt z
    obtain ⟨f0, f1, f2, _⟩ := hf p.1 hb
    obtain ⟨o, e', d⟩ := ho p.1 hb
    rw [e] at e'; cases e'
    exact ⟨e, f0, f1, f2, d⟩
theorem Inv.unpinned {pins pl : List (Addr × Obj)} {σ : St} {H : Hp} {s : Shared} (I : Inv X (pins ++ pl) σ H s) : Inv X pins σ H s := I.pins_of fun p hp => I.pin p (List.mem_append_right _ (List.mem_append_left _ hp))
theorem ps_for {iter : Expr} {body : List Stmt} {wi : TI} {g : TG} {tb : TS} {pos : Pos} (hp : PassesOwn (model X.prog X.w) X.A X.env X.xe) (hc : X.calm = true) (hi : PI X tg iter wi) (hg : PG X tg g) (hb : PSs X body tb)
    (hs : ∀ x, foldedSetIterable iter X.env x = pure x := by intro _; rfl) : PS X (.For tg iter body [] pos) (tFor wi g tb) := by
  intro pins s σ H D I h
  refine wpAny_For (thn (hi pins s σ H _ I h) fun v s1 h1 => thn h1 fun itv s2 h2 => ?_) hs
  obtain ⟨it, fp, tn, J, H2, e, I2, T, st2, f2, W, ⟨m0, w0⟩, turn⟩ := h2
  subst e
  -- what stays true of the iterator's objects through the loop
  have stat : ∀ {H' : Hp}, (∀ b ∈ fp, H' b = none) → ∀ b ∈ fp, FpOk X pins H' b := fun hn b hb => ⟨hn b hb, (f2 b hb).2⟩
  refine codeAny_forLoop_any (fun n s' => ∃ i σ' H', Inv X pins σ' H' s' ∧ tn i s'.heap ∧ (∀ b ∈ fp, H' b = none) ∧ W i n σ' H') ?_ m0 ⟨0, σ, H2, I2, st2, fun b hb => (f2 b hb).1, w0⟩
  rintro n s3 ⟨i, σ3, H3, I3, st3, fr3, w3⟩
  rcases turn i n σ3 H3 w3 with ⟨stop, qn⟩ | ⟨go, N, hN, step⟩
  · refine wpAny_passesOwn hp (thn (T.done X rfl rfl rfl hc i pins s3 σ3 H3 X.xe I3 (stat fr3) st3 stop) fun r s4 hq8 => ?_)
    obtain ⟨hr, I4⟩ := hq8
    subst hr
    exact wpAny_execs_nil ⟨σ3, H3, I4, qn⟩
  · refine wpAny_passesOwn hp (thn (T.item X rfl rfl rfl hc i pins s3 σ3 H3 X.xe I3 (stat fr3) st3 go) fun r s4 hq8 => ?_)
    obtain ⟨u, hr, h4⟩ := hq8
    subst hr
    refine wpAny_passesOwn hp (thn h4 fun _ s5 hq8 => ?_)
    obtain ⟨x, H5, I5, r5, y5, st5, fr5⟩ := hq8
    have I5' := I5.pinned (stat fr5) (T.obj _ _ st5)
    refine wpAny_passesOwn hp (thn (hg _ s5 σ3 H5 x u _ I5' r5 (step x H5 y5)) fun _ s6 hq9 => GP.out hq9 fun σ6 H6 I6 q6 => ?_)
    refine wpAny_passesOwn hp (thn (hb _ s6 σ6 H6 _ I6 q6) fun f s7 q7 => ?_)
    have again : ∀ {σ7 : St} {H7 : Hp}, Inv X (pins ++ pinsAt fp s5.heap) σ7 H7 s7 → N σ7 H7 → ∃ m, m < n ∧ ∃ i σ' H', Inv X pins σ' H' s7 ∧ tn i s7.heap ∧ (∀ b ∈ fp, H' b = none) ∧ W i m σ' H' := fun {σ7 H7} I7 n7 => by
      obtain ⟨m', hm, w7⟩ := hN σ7 H7 n7
      refine ⟨m', hm, i + 1, σ7, H7, I7.unpinned, T.keep _ _ _ st5 fun b hb o e => (I7.pin (b, o) (List.mem_append_right _ (List.mem_append_right _ (mem_pinsAt hb e)))).1, fun b hb => ?_, w7⟩
      obtain ⟨o, e, d⟩ := T.obj _ _ st5 b hb
      exact (I7.pin (b, o) (List.mem_append_right _ (List.mem_append_right _ (mem_pinsAt hb e)))).2.1
    cases f with
    | next => obtain ⟨σ7, H7, I7, n7⟩ := q7; exact again I7 n7
    | cont => obtain ⟨σ7, H7, I7, n7⟩ := q7; exact again I7 n7
    | brk => obtain ⟨σ7, H7, I7, q7⟩ := q7; exact ⟨σ7, H7, I7.unpinned, q7⟩
    | ret v => obtain ⟨x7, σ7, H7, I7, r7, q7⟩ := q7; exact ⟨x7, σ7, H7, I7.unpinned, r7, q7⟩
end
theorem for_list {K : PySem.W.Frag} {a : Addr} {xs : List V} {g : TG} {tb : TS} {D : Ends} {σ : St} {H : Hp} (Pv : Nat → St → Hp → Prop) (h0 : Pv 0 σ H) (hl : ∀ i σ H, i ≤ xs.length → Pv i σ H → SqL K H a xs)
    (hs : ∀ i x σ H, xs[i]? = some x → Pv i σ H → g x σ H fun σ2 H2 => tb { D with nx := Pv (i + 1), ct := Pv (i + 1), bk := D.nx } σ2 H2) (hd : ∀ σ H, Pv xs.length σ H → D.nx σ H) :
    ∃ W : Nat → Nat → St → Hp → Prop, (∃ m, W 0 m σ H) ∧ ∀ i m σ H, W i m σ H →
      ((Itl K a).stop i H ∧ D.nx σ H) ∨ ((Itl K a).go i H ∧ ∃ N : St → Hp → Prop, (∀ σ' H', N σ' H' → ∃ m', m' < m ∧ W (i + 1) m' σ' H') ∧ ∀ x H', (Itl K a).yld i H x H' → g x σ H' fun σ2 H2 => tb { D with nx := N, ct := N, bk := D.nx } σ2 H2) := by
  refine ⟨fun i m σ H => m = xs.length - i ∧ i ≤ xs.length ∧ Pv i σ H, ⟨xs.length, by simp, Nat.zero_le _, h0⟩, ?_⟩
  rintro i m σ H ⟨rfl, hi, p⟩
  have q := hl i σ H hi p
  by_cases hlt : i < xs.length
  · refine .inr ⟨⟨xs, xs[i], q, by simp [hlt]⟩, Pv (i + 1), fun σ' H' p' => ⟨xs.length - (i + 1), by omega, rfl, hlt, p'⟩, fun x H' y => ?_⟩
    obtain ⟨e, y⟩ := y
    subst e
    exact hs i x σ _ (y xs q) p
  · have e : i = xs.length := by omega
    subst e
    exact .inl ⟨⟨xs, q, Nat.le_refl _⟩, hd σ H p⟩
theorem for_range {lo : Int} {n : Nat} {g : TG} {tb : TS} {D : Ends} {σ : St} {H : Hp} (Pv : Nat → St → Hp → Prop) (h0 : Pv 0 σ H)
    (hs : ∀ i σ H, i < n → Pv i σ H → g (.int (lo + i)) σ H fun σ2 H2 => tb { D with nx := Pv (i + 1), ct := Pv (i + 1), bk := D.nx } σ2 H2) (hd : ∀ σ H, Pv n σ H → D.nx σ H) :
    ∃ W : Nat → Nat → St → Hp → Prop, (∃ m, W 0 m σ H) ∧ ∀ i m σ H, W i m σ H →
      ((Itr lo n).stop i H ∧ D.nx σ H) ∨ ((Itr lo n).go i H ∧ ∃ N : St → Hp → Prop, (∀ σ' H', N σ' H' → ∃ m', m' < m ∧ W (i + 1) m' σ' H') ∧ ∀ x H', (Itr lo n).yld i H x H' → g x σ H' fun σ2 H2 => tb { D with nx := N, ct := N, bk := D.nx } σ2 H2) := by
  refine ⟨fun i m σ H => m = n - i ∧ i ≤ n ∧ Pv i σ H, ⟨n, by simp, Nat.zero_le _, h0⟩, ?_⟩
  rintro i m σ H ⟨rfl, hi, p⟩
  by_cases hlt : i < n
  · refine .inr ⟨hlt, Pv (i + 1), fun σ' H' p' => ⟨n - (i + 1), by omega, rfl, hlt, p'⟩, fun x H' y => ?_⟩
    obtain ⟨e, y⟩ := y
    subst e y
    exact hs i σ _ hlt p
  · have e : i = n := by omega
    subst e
    exact .inl ⟨Nat.le_refl _, hd σ H p⟩
theorem while_by {c : TT} {tb : TS} {D : Ends} {σ : St} {H : Hp} (Pv : St → Hp → Prop) (μ : St → Hp → Nat) (h0 : Pv σ H)
    (hs : ∀ σ H, Pv σ H → c σ H fun b H1 => if b = true then tb { D with nx := fun σ' H' => Pv σ' H' ∧ μ σ' H' < μ σ H, ct := fun σ' H' => Pv σ' H' ∧ μ σ' H' < μ σ H, bk := D.nx } σ H1 else D.nx σ H1)
    (mono : ∀ σ H Q Q', (∀ b H1, Q b H1 → Q' b H1) → c σ H Q → c σ H Q') : tWhile c tb D σ H := by
  refine ⟨fun m σ H => m = μ σ H ∧ Pv σ H, ⟨_, rfl, h0⟩, ?_⟩
  rintro m σ H ⟨rfl, p⟩
  refine mono σ H _ _ (fun b H1 q => ?_) (hs σ H p)
  cases b with
  | true => exact ⟨_, fun σ' H' ⟨p', l⟩ => ⟨_, l, rfl, p'⟩, q⟩
  | false => exact q
end L2
namespace L2
open PySem PySem.Spec PyProof.Rows
noncomputable abbrev R2 := V → V → Hp → VK → Prop
noncomputable def OpR (X : Cx) (f : Value → Value → Sem Value) (r : R2) : Prop :=
  ∀ (pins : List (Addr × Obj)) (s : Shared) (σ : St) (H : Hp) (x y : V) (v u : Value) (Q : VK), Inv X pins σ H s → RelV x v → RelV y u → r x y H Q →
    wpAny (model X.prog X.w) X.A (f v u) (EP X pins σ Q) X.xe s
noncomputable def UnR (X : Cx) (f : Value → Sem Value) (r : V → Hp → VK → Prop) : Prop :=
  ∀ (pins : List (Addr × Obj)) (s : Shared) (σ : St) (H : Hp) (x : V) (v : Value) (Q : VK), Inv X pins σ H s → RelV x v → r x H Q →
    wpAny (model X.prog X.w) X.A (f v) (EP X pins σ Q) X.xe s
noncomputable def CallR (X : Cx) (f : Value) (r : List V → Hp → VK → Prop) : Prop :=
  ∀ (pins : List (Addr × Obj)) (s : Shared) (σ : St) (H : Hp) (xs : List V) (us : List Value) (Q : VK), Inv X pins σ H s → Vals xs us → r xs H Q →
    wpAny (model X.prog X.w) X.A (call f us) (EP X pins σ Q) X.xe s
noncomputable def TruR (X : Cx) (r : V → Hp → (Bool → Hp → Prop) → Prop) : Prop :=
  ∀ (pins : List (Addr × Obj)) (s : Shared) (σ : St) (H : Hp) (x : V) (v : Value) (Q : Bool → Hp → Prop), Inv X pins σ H s → RelV x v → r x H Q →
    wpAny (model X.prog X.w) X.A (truthy v) (TP X pins σ Q) X.xe s
noncomputable def tOp (r : R2) (ta tb : TE) : TE := fun σ H Q => ta σ H fun x H1 => tb σ H1 fun y H2 => r x y H2 Q
noncomputable def tUn (r : V → Hp → VK → Prop) (ta : TE) : TE := fun σ H Q => ta σ H fun x H1 => r x H1 Q
noncomputable def rI (C : Int → Int → Prop) (g : Int → Int → V) : R2 := fun x y H Q => ∃ i j, x = .int i ∧ y = .int j ∧ C i j ∧ Q (g i j) H
noncomputable def rI0 (g : Int → Int → V) : R2 := fun x y H Q => ∃ i j, x = .int i ∧ y = .int j ∧ Q (g i j) H
noncomputable def rU (g : Int → V) : V → Hp → VK → Prop := fun x H Q => ∃ i, x = .int i ∧ Q (g i) H
section
variable {X : Cx} {a b c : Expr} {ta tb tc : TE} {pos : Pos}
theorem binT (ha : PE X a ta) (hb : PE X b tb) {pins : List (Addr × Obj)} {s : Shared} {σ : St} {H : Hp} {R : V → V → Hp → Prop} (I : Inv X pins σ H s)
    (h : ta σ H fun x H1 => tb σ H1 fun y H2 => R x y H2) {Q : Value → Shared → Prop} {f : Value → Value → Sem Value}
    (hf : ∀ v u s2 x y H2, Inv X pins σ H2 s2 → RelV x v → RelV y u → R x y H2 → wpAny (model X.prog X.w) X.A (f v u) Q X.xe s2) :
    wpAny (model X.prog X.w) X.A (eval a X.env) (fun v s₁ => wpAny (model X.prog X.w) X.A (eval b X.env) (fun u s₂ => wpAny (model X.prog X.w) X.A (f v u) Q X.xe s₂) X.xe s₁) X.xe s := by
  refine thn (ha pins s σ H _ I h) fun v s1 hq9 => EP.out hq9 fun x H1 I1 r1 q1 => ?_
  refine thn (hb pins s1 σ H1 _ I1 q1) fun u s2 hq9 => EP.out hq9 fun y H2 I2 r2 q2 => ?_
  exact hf v u s2 x y H2 I2 r1 r2 q2
theorem pe_op {op : Operator} {r : R2} (ho : OpR X (binaryOp op) r) (ha : PE X a ta) (hb : PE X b tb) : PE X (.BinOp a op b pos) (tOp r ta tb) := by
  intro pins s σ H Q I h
  exact wpAny_BinOp (binT ha hb I h fun v u s2 x y H2 I2 rx ry q => ho pins s2 σ H2 x y v u Q I2 rx ry q)
theorem pe_un {op : UnaryOp} {r : V → Hp → VK → Prop} (ho : UnR X (unaryOp op) r) (ha : PE X a ta) : PE X (.UnaryOp op a pos) (tUn r ta) := by
  intro pins s σ H Q I h
  exact UnaryOp_ (thn (ha pins s σ H _ I h) fun v s1 hq9 => EP.out hq9 fun x H1 I1 r1 q1 => ho pins s1 σ H1 x v Q I1 r1 q1)
theorem opI {f : Value → Value → Sem Value} {C : Int → Int → Prop} {g : Int → Int → Int}
    (rule : ∀ (i j : Int) (t u : Tok) (s : Shared) (Q : Value → Shared → Prop) (E : Value → Shared → Prop), C i j → Q (.int (g i j) s.toks) { s with toks := s.toks + 1 } → wpAny (model X.prog X.w) X.A (f (.int i t) (.int j u)) Q E s) :
    OpR X f (rI C fun i j => .int (g i j)) := by
  intro pins s σ H x y v u Q I rx ry h
  obtain ⟨i, j, rfl, rfl, hc, q⟩ := h
  obtain ⟨t, rfl⟩ := rx
  obtain ⟨t', rfl⟩ := ry
  exact rule i j t t' s _ _ hc ⟨.int (g i j), H, I.tok _, ⟨_, rfl⟩, q⟩
theorem opI0 {f : Value → Value → Sem Value} {g : Int → Int → Int}
    (rule : ∀ (i j : Int) (t u : Tok) (s : Shared) (Q : Value → Shared → Prop) (E : Value → Shared → Prop), Q (.int (g i j) s.toks) { s with toks := s.toks + 1 } → wpAny (model X.prog X.w) X.A (f (.int i t) (.int j u)) Q E s) :
    OpR X f (rI0 fun i j => .int (g i j)) := by
  intro pins s σ H x y v u Q I rx ry h
  obtain ⟨i, j, rfl, rfl, q⟩ := h
  obtain ⟨t, rfl⟩ := rx
  obtain ⟨t', rfl⟩ := ry
  exact rule i j t t' s _ _ ⟨.int (g i j), H, I.tok _, ⟨_, rfl⟩, q⟩
theorem opB0 {f : Value → Value → Sem Value} {g : Int → Int → Bool}
    (rule : ∀ (i j : Int) (t u : Tok) (s : Shared) (Q : Value → Shared → Prop) (E : Value → Shared → Prop), Q (.bool (g i j)) s → wpAny (model X.prog X.w) X.A (f (.int i t) (.int j u)) Q E s) :
    OpR X f (rI0 fun i j => .bl (g i j)) := by
  intro pins s σ H x y v u Q I rx ry h
  obtain ⟨i, j, rfl, rfl, q⟩ := h
  obtain ⟨t, rfl⟩ := rx
  obtain ⟨t', rfl⟩ := ry
  exact rule i j t t' s _ _ ⟨.bl (g i j), H, I, rfl, q⟩
noncomputable def CDiv (i j : Int) : Prop := 0 < j ∧ j < 1073741824
noncomputable def CPow (i j : Int) : Prop := 0 ≤ j ∧ j ≤ 1000000 ∧ i.natAbs < 2 ^ 64
noncomputable def CMul (i j : Int) : Prop := (-(2 ^ 64) < i ∧ i < 2 ^ 64) ∨ (-(2 ^ 64) < j ∧ j < 2 ^ 64)
theorem CMul.ok {i j : Int} (h : CMul i j) : IntMulOk i j := by
  rcases h with ⟨h1, h2⟩ | ⟨h1, h2⟩
  · exact .of_left (intBits_le_64 h1 h2)
  · exact .of_right (intBits_le_64 h1 h2)
theorem op_add : OpR X (binaryOp .Add) (rI0 fun i j => .int (i + j)) := opI0 fun _ _ _ _ _ _ _ q => add_int q
theorem op_sub : OpR X (binaryOp .Sub) (rI0 fun i j => .int (i - j)) := opI0 fun _ _ _ _ _ _ _ q => sub_int q
theorem op_mul : OpR X (binaryOp .Mult) (rI CMul fun i j => .int (i * j)) := opI fun _ _ _ _ _ _ _ hc q => mul_int q hc.ok
theorem op_fdiv : OpR X (binaryOp .FloorDiv) (rI CDiv fun i j => .int (i / j)) := opI fun i j _ _ _ _ _ hc q => by
  have h1 : (0 : Int) < j := hc.1
  have h2 : j < 1073741824 := hc.2
  exact floordiv_int (by omega) (by rw [Int.fdiv_eq_ediv_of_nonneg i (by omega)]; exact q) (.inl (PyProof.noPylong_small (by omega)))
theorem op_mod : OpR X (binaryOp .Mod) (rI (fun _ j => 0 < j) fun i j => .int (i % j)) := opI fun i j _ _ _ _ _ hc q => by
  have h1 : (0 : Int) < j := hc
  exact mod_int' (by omega) (by rw [Int.fmod_eq_emod_of_nonneg i (by omega)]; exact q)
theorem op_pow : OpR X (binaryOp .Pow) (rI CPow fun i j => .int (i ^ j.toNat)) := opI fun _ _ _ _ _ _ _ hc q => pow_int_small hc.1 hc.2.1 hc.2.2 q
theorem unI {f : Value → Sem Value} {g : Int → Int}
    (rule : ∀ (i : Int) (t : Tok) (s : Shared) (Q : Value → Shared → Prop) (E : Value → Shared → Prop), Q (.int (g i) s.toks) { s with toks := s.toks + 1 } → wpAny (model X.prog X.w) X.A (f (.int i t)) Q E s) :
    UnR X f (rU fun i => .int (g i)) := by
  intro pins s σ H x v Q I rx h
  obtain ⟨i, rfl, q⟩ := h
  obtain ⟨t, rfl⟩ := rx
  exact rule i t s _ _ ⟨.int (g i), H, I.tok _, ⟨_, rfl⟩, q⟩
theorem un_neg : UnR X (unaryOp .USub) (rU fun i => .int (-i)) := unI fun _ _ _ _ _ q => neg_int q
end
noncomputable def scal : V → V → Bool
  | .non, .non => true | .non, .int _ => true | .int _, .non => true | .non, .bl _ => true | .bl _, .non => true | .non, .str _ => true | .str _, .non => true
  | .int _, .int _ => true | .bl _, .bl _ => true | .str _, .str _ => true | .byt _, .byt _ => true
  | .int _, .str _ => true | .str _, .int _ => true | .bl _, .str _ => true | .str _, .bl _ => true
  | _, _ => false
noncomputable def rEq : R2 := fun x y H Q => scal x y = true ∧ Q (.bl (decide (x = y))) H
noncomputable def rNe : R2 := fun x y H Q => scal x y = true ∧ Q (.bl (!decide (x = y))) H
theorem dec_int {i j : Int} : decide (V.int i = V.int j) = (i == j) := by
  rw [Bool.eq_iff_iff]
  simp
theorem dec_bl {i j : Bool} : decide (V.bl i = V.bl j) = (i == j) := by
  rw [Bool.eq_iff_iff]
  simp
theorem dec_str {i j : Str} : decide (V.str i = V.str j) = (i == j) := by
  rw [Bool.eq_iff_iff]
  simp
theorem dec_byt {i j : Array UInt8} : decide (V.byt i = V.byt j) = (i.toList == j.toList) := by
  rw [Bool.eq_iff_iff]
  cases i
  cases j
  simp
section
variable {X : Cx} {a b c : Expr} {ta tb tc : TE} {pos : Pos}
theorem fin_bl {pins : List (Addr × Obj)} {σ : St} {H : Hp} {s : Shared} {Q : VK} {k k' : Bool} (I : Inv X pins σ H s) (q : Q (.bl k) H) (e : k = k') : EP X pins σ Q (.bool k') s := by
  subst e
  exact ⟨.bl k, H, I, rfl, q⟩
theorem op_eq : OpR X (compareOp .Eq) rEq := by
  intro pins s σ H x y v u Q I rx ry h
  obtain ⟨hs, q⟩ := h
  cases x with
  | non =>
    cases rx
    cases y with
    | non => cases ry; exact PySem.EqNone.eq_none_none (fin_bl I q (by simp))
    | bl j => cases ry; exact PySem.EqNone.eq_none_bool (fin_bl I q (by simp))
    | int j => obtain ⟨t', rfl⟩ := ry; exact PySem.EqNone.eq_none_int (fin_bl I q (by simp))
    | str j => obtain ⟨t', rfl⟩ := ry; exact PySem.EqNone.eq_none_str (fin_bl I q (by simp))
    | _ => exact absurd (show false = true from hs) Bool.false_ne_true
  | bl i =>
    cases rx
    cases y with
    | non => cases ry; exact PySem.EqNone.eq_bool_none (fin_bl I q (by simp))
    | bl j => cases ry; exact eq_bool (fin_bl I q dec_bl)
    | str j => obtain ⟨t', rfl⟩ := ry; exact PySem.EqMixed.eq_bool_str (fin_bl I q (by simp))
    | _ => exact absurd (show false = true from hs) Bool.false_ne_true
  | int i =>
    obtain ⟨t, rfl⟩ := rx
    cases y with
    | non => cases ry; exact PySem.EqNone.eq_int_none (fin_bl I q (by simp))
    | int j => obtain ⟨t', rfl⟩ := ry; exact eq_int (fin_bl I q dec_int)
    | str j => obtain ⟨t', rfl⟩ := ry; exact PySem.EqMixed.eq_int_str (fin_bl I q (by simp))
    | _ => exact absurd (show false = true from hs) Bool.false_ne_true
  | str i =>
    obtain ⟨t, rfl⟩ := rx
    cases y with
    | non => cases ry; exact PySem.EqNone.eq_str_none (fin_bl I q (by simp))
    | bl j => cases ry; exact PySem.EqMixed.eq_str_bool (fin_bl I q (by simp))
    | int j => obtain ⟨t', rfl⟩ := ry; exact PySem.EqMixed.eq_str_int (fin_bl I q (by simp))
    | str j => obtain ⟨t', rfl⟩ := ry; exact eq_str (fin_bl I q dec_str)
    | _ => exact absurd (show false = true from hs) Bool.false_ne_true
  | byt i =>
    obtain ⟨t, rfl⟩ := rx
    cases y with
    | byt j => obtain ⟨t', rfl⟩ := ry; exact PySem.W.eq_bytes (fin_bl I q dec_byt)
    | _ => exact absurd (show false = true from hs) Bool.false_ne_true
  | _ => cases y <;> exact absurd (show false = true from hs) Bool.false_ne_true
theorem op_ne : OpR X (compareOp .NotEq) rNe := by
  intro pins s σ H x y v u Q I rx ry h
  obtain ⟨hs, q⟩ := h
  cases x with
  | non =>
    cases rx
    cases y with
    | non => cases ry; exact PySem.EqNone.ne_none_none (fin_bl I q (by simp))
    | bl j => cases ry; exact PySem.EqNone.ne_none_bool (fin_bl I q (by simp))
    | int j => obtain ⟨t', rfl⟩ := ry; exact PySem.EqNone.ne_none_int (fin_bl I q (by simp))
    | str j => obtain ⟨t', rfl⟩ := ry; exact PySem.EqNone.ne_none_str (fin_bl I q (by simp))
    | _ => exact absurd (show false = true from hs) Bool.false_ne_true
  | bl i =>
    cases rx
    cases y with
    | non => cases ry; exact PySem.EqNone.ne_bool_none (fin_bl I q (by simp))
    | bl j => cases ry; exact ne_bool (fin_bl I q (congrArg not dec_bl))
    | str j => obtain ⟨t', rfl⟩ := ry; exact PySem.EqMixed.ne_bool_str (fin_bl I q (by simp))
    | _ => exact absurd (show false = true from hs) Bool.false_ne_true
  | int i =>
    obtain ⟨t, rfl⟩ := rx
    cases y with
    | non => cases ry; exact PySem.EqNone.ne_int_none (fin_bl I q (by simp))
    | int j => obtain ⟨t', rfl⟩ := ry; exact ne_int (fin_bl I q (congrArg not dec_int))
    | str j => obtain ⟨t', rfl⟩ := ry; exact PySem.EqMixed.ne_int_str (fin_bl I q (by simp))
    | _ => exact absurd (show false = true from hs) Bool.false_ne_true
  | str i =>
    obtain ⟨t, rfl⟩ := rx
    cases y with
    | non => cases ry; exact PySem.EqNone.ne_str_none (fin_bl I q (by simp))
    | bl j => cases ry; exact PySem.EqMixed.ne_str_bool (fin_bl I q (by simp))
    | int j => obtain ⟨t', rfl⟩ := ry; exact PySem.EqMixed.ne_str_int (fin_bl I q (by simp))
    | str j => obtain ⟨t', rfl⟩ := ry; exact ne_str (fin_bl I q (congrArg not dec_str))
    | _ => exact absurd (show false = true from hs) Bool.false_ne_true
  | byt i =>
    obtain ⟨t, rfl⟩ := rx
    cases y with
    | byt j => obtain ⟨t', rfl⟩ := ry; exact PySem.W.ne_bytes (fin_bl I q (congrArg not dec_byt))
    | _ => exact absurd (show false = true from hs) Bool.false_ne_true
  | _ => cases y <;> exact absurd (show false = true from hs) Bool.false_ne_true
theorem op_lt : OpR X (compareOp .Lt) (rI0 fun i j => .bl (decide (i < j))) := opB0 fun _ _ _ _ _ _ _ q => lt_int q
theorem op_le : OpR X (compareOp .LtE) (rI0 fun i j => .bl (decide (i ≤ j))) := opB0 fun _ _ _ _ _ _ _ q => le_int q
theorem op_gt : OpR X (compareOp .Gt) (rI0 fun i j => .bl (decide (j < i))) := opB0 fun _ _ _ _ _ _ _ q => gt_int q
theorem nomark (b : Expr) {op : CmpOp} (h : op ≠ .In := by decide) (h2 : op ≠ .NotIn := by decide) : behindInMarks op b = false := by
  have e1 : (op == CmpOp.In) = false := by cases op <;> first | rfl | exact absurd rfl h
  have e2 : (op == CmpOp.NotIn) = false := by cases op <;> first | rfl | exact absurd rfl h2
  cases b <;> simp [behindInMarks, e1, e2]
theorem pe_cmpR {op : CmpOp} {r : R2} (ho : OpR X (compareOp op) r) (ha : PE X a ta) (hb : PE X b tb) (hm : behindInMarks op b = false) : PE X (.Compare a [op] [b] pos) (tOp r ta tb) := by
  intro pins s σ H Q I h
  exact wpAny_Compare1 (binT ha hb I h fun v u s2 x y H2 I2 rx ry q => ho pins s2 σ H2 x y v u Q I2 rx ry q) hm
noncomputable def tTest (t : TE) : TT := fun σ H Q => t σ H fun x H' => ∃ k, x = .bl k ∧ Q k H'
theorem pt_cmpR {op : CmpOp} {r : R2} (ho : OpR X (compareOp op) r) (ha : PE X a ta) (hb : PE X b tb) (hm : behindInMarks op b = false) : PT X (.Compare a [op] [b] pos) (tTest (tOp r ta tb)) := by
  intro pins s σ H Q I h
  refine wpAny_isTrue_Compare1 (thn (ha pins s σ H _ I h) fun v s1 hq9 => EP.out hq9 fun x H1 I1 r1 q1 => thn (hb pins s1 σ H1 _ I1 q1) fun u s2 hq9 => EP.out hq9 fun y H2 I2 r2 q2 =>
    thn (ho pins s2 σ H2 x y v u _ I2 r1 r2 q2) fun c s3 hq8 => ?_) hm
  obtain ⟨z, H3, I3, r3, k, e, q3⟩ := hq8
  subst e
  cases r3
  exact wpAny_truthy_bool ⟨H3, I3, q3⟩
noncomputable def TruV (K : PySem.W.Frag) (x : V) (H : Hp) (k : Bool) : Prop :=
  match x with
  | .non => k = false
  | .bl b => k = b
  | .int i => k = (i != 0)
  | .str y => y.length ≤ sizeLine ∧ k = ((y.length : Int) != 0)
  | .byt y => y.size ≤ sizeLine ∧ k = ((y.size : Int) != 0)
  | .ref p => (∃ xs, SqL K H p xs ∧ k = !xs.isEmpty) ∨ (∃ xs, SqT K H p xs ∧ k = !xs.isEmpty) ∨ ∃ kvs, H p = some (.dK kvs) ∧ k = !kvs.isEmpty
  | _ => False
theorem isEmpty_kv {κ : Type} {kvs : List (κ × V)} {vs : List (κ × Value)} (r : KV kvs vs) : (!vs.isEmpty) = !kvs.isEmpty := by
  cases r <;> rfl
theorem isEmpty_of {xs : List V} {its : List Value} (r : Vals xs its) : (!its.toArray.isEmpty) = !xs.isEmpty := by
  cases r <;> simp
theorem line63 : (sizeLine : Nat) < 2 ^ 63 := by rw [sizeLine_eq]; decide
theorem tru_ok : TruR X (fun x H Q => ∃ k, TruV X.K x H k ∧ Q k H) := by
  intro pins s σ H x v Q I rx h
  obtain ⟨k, e, q⟩ := h
  have hl := line63
  have hs : sizeLine = 16777216 := sizeLine_eq
  cases x with
  | non =>
    cases rx
    have e' : k = false := e
    subst e'
    exact truthy_none ⟨H, I, q⟩
  | bl b =>
    cases rx
    have e' : k = b := e
    subst e'
    exact wpAny_truthy_bool ⟨H, I, q⟩
  | int i =>
    obtain ⟨t, rfl⟩ := rx
    have e' : k = (i != 0) := e
    subst e'
    exact PySem.P.truthy_int ⟨H, I, q⟩
  | str y =>
    obtain ⟨t, rfl⟩ := rx
    obtain ⟨hy, e'⟩ : y.length ≤ sizeLine ∧ k = ((y.length : Int) != 0) := e
    subst e'
    exact PySem.P.truthy_str (by omega) ⟨H, I.tok _, q⟩
  | byt y =>
    obtain ⟨t, rfl⟩ := rx
    obtain ⟨hy, e'⟩ : y.size ≤ sizeLine ∧ k = ((y.size : Int) != 0) := e
    subst e'
    exact PySem.W.truthy_bytes (by omega) ⟨H, I.tok _, q⟩
  | ref p =>
    cases rx
    have e' : (∃ xs, SqL X.K H p xs ∧ k = !xs.isEmpty) ∨ (∃ xs, SqT X.K H p xs ∧ k = !xs.isEmpty) ∨ ∃ kvs, H p = some (.dK kvs) ∧ k = !kvs.isEmpty := e
    rcases e' with ⟨xs, hx, e'⟩ | ⟨xs, hx, e'⟩ | ⟨kvs, hx, e'⟩
    · subst e'
      obtain ⟨its, r, pl, hz⟩ := I.list hx
      have hlen := r.length
      exact wpAny_truthy_list pl.isList (by simp only [List.size_toArray]; omega) ⟨H, I.tok _, by rw [isEmpty_of r]; exact q⟩
    · subst e'
      obtain ⟨its, r, pl, hz⟩ := I.tuple hx
      have hlen := r.length
      exact truthy_tuple pl (by simp only [List.size_toArray]; omega) ⟨H, I.tok _, by rw [isEmpty_of r]; exact q⟩
    · subst e'
      obtain ⟨hz, hS, vs, r, m⟩ : kvs.length ≤ sizeLine ∧ (p == sysModules) = false ∧ ∃ vs, KV kvs vs ∧ s.heap.DictOf (mixKind X.prog X.w) p vs := I.hok p _ hx
      have hlen : kvs.length = vs.length := Paired.length r
      exact wpAny_truthy_dict hS m (by omega) ⟨H, I.tok _, by rw [isEmpty_kv r]; exact q⟩
  | _ => exact (show False from e).elim
theorem pt_truth (ha : PE X a ta) (he : ∀ whole, isTrue a X.env whole = (do let v ← whole; standAt a.pos; holding [v] (truthy v))) :
    PT X a (fun σ H Q => ta σ H fun x H' => ∃ k, TruV X.K x H' k ∧ Q k H') := by
  intro pins s σ H Q I h
  exact isTrue_plain (thn (ha pins s σ H _ I h) fun v s1 hq9 => EP.out hq9 fun x H1 I1 r1 q1 => tru_ok pins s1 σ H1 x v Q I1 r1 q1) (he _)
theorem op_add_str : OpR X (binaryOp .Add) (fun x y H Q => ∃ i j, x = .str i ∧ y = .str j ∧ i.length + j.length ≤ sizeLine ∧ Q (.str (i ++ j)) H) := by
  intro pins s σ H x y v u Q I rx ry h
  obtain ⟨i, j, rfl, rfl, hz, q⟩ := h
  obtain ⟨t, rfl⟩ := rx
  obtain ⟨t', rfl⟩ := ry
  exact add_str (fun t' tk => ⟨.str (i ++ j), H, I.tok _, ⟨_, rfl⟩, q⟩) hz
theorem vals1 {x : V} {us : List Value} (r : Vals [x] us) : ∃ u, us = [u] ∧ RelV x u := by
  cases r with
  | cons r1 r2 => cases r2; exact ⟨_, rfl, r1⟩
theorem vals2 {x y : V} {us : List Value} (r : Vals [x, y] us) : ∃ u w', us = [u, w'] ∧ RelV x u ∧ RelV y w' := by
  cases r with
  | cons r1 r2 =>
    cases r2 with
    | cons r3 r4 => cases r4; exact ⟨_, _, rfl, r1, r3⟩
theorem call_abs : CallR X (.builtin "abs") (fun xs H Q => ∃ i, xs = [.int i] ∧ Q (.int (if i < 0 then -i else i)) H) := by
  intro pins s σ H xs us Q I r h
  obtain ⟨i, rfl, q⟩ := h
  obtain ⟨u, rfl, t, rfl⟩ := vals1 r
  exact call_abs_int fun u tk => ⟨.int (if i < 0 then -i else i), H, I.tok _, ⟨_, rfl⟩, q⟩
theorem call_max2 (hc : X.calm = true) : CallR X (.builtin "max") (fun xs H Q => ∃ i j, xs = [.int i, .int j] ∧ Q (.int (if j > i then j else i)) H) := by
  intro pins s σ H xs us Q I r h
  obtain ⟨i, j, rfl, q⟩ := h
  obtain ⟨u, w', rfl, ⟨t, rfl⟩, ⟨t', rfl⟩⟩ := vals2 r
  refine max_two_ints (I.ok.hd hc) fun h' tk k => ⟨_, H, I.kept k, ?_, q⟩
  by_cases hj : j > i
  · rw [if_pos hj, if_pos hj]; exact ⟨_, rfl⟩
  · rw [if_neg hj, if_neg hj]; exact ⟨_, rfl⟩
theorem call_min2 (hc : X.calm = true) : CallR X (.builtin "min") (fun xs H Q => ∃ i j, xs = [.int i, .int j] ∧ Q (.int (if j < i then j else i)) H) := by
  intro pins s σ H xs us Q I r h
  obtain ⟨i, j, rfl, q⟩ := h
  obtain ⟨u, w', rfl, ⟨t, rfl⟩, ⟨t', rfl⟩⟩ := vals2 r
  refine min_two_ints (I.ok.hd hc) fun h' tk k => ⟨_, H, I.kept k, ?_, q⟩
  by_cases hj : j < i
  · rw [if_pos hj, if_pos hj]; exact ⟨_, rfl⟩
  · rw [if_neg hj, if_neg hj]; exact ⟨_, rfl⟩
end
end L2
namespace L2
open PySem PySem.Spec PyProof.Rows
structure ObjM (h : Heap) (x dx C : Addr) (mA : Str → Option Value) : Prop where
  obj : h.get? x = some (PySem.W.instObj C dx)
  ns : h.Ns1 dx mA
  ne : dx ≠ x
theorem lookIn_ns {h : Heap} {dx : Addr} {mA : Str → Option Value} (n : h.Ns1 dx mA) : ∃ od, h.get? dx = some od ∧ ∀ name, PySem.W.lookIn name od = some (mA name) := by
  obtain ⟨o, es, ep, ho, hd, hk, _, hm⟩ := n
  refine ⟨o, ho, fun name => ?_⟩
  have e := hm name
  unfold nsFind findBy at e
  rw [← Array.find?_toList] at e
  unfold PySem.W.lookIn
  rw [hd]
  dsimp only
  split
  · rename_i y q
    rw [q] at e
    exact congrArg some e
  · rename_i q
    rw [q] at e
    have a : es.toList.any (·.refKey) = false := by
      rw [List.any_eq_false]
      intro y hy
      obtain ⟨z, t, hkey⟩ := hk y (Array.mem_toList_iff.mp hy)
      simp [DictEntry.refKey, hkey]
    have a' : ¬ es.toList.any (·.refKey) = true := by rw [a]; exact Bool.false_ne_true
    rw [if_neg a']
    exact congrArg some e
theorem ObjM.look {h : Heap} {x dx C : Addr} {mA : Str → Option Value} (I : ObjM h x dx C mA) : ∃ od, PySem.W.InstAt h x (PySem.W.instObj C dx) C (some od) ∧ ∀ name, PySem.W.lookIn name od = some (mA name) :=
  let ⟨od, ho, hl⟩ := lookIn_ns I.ns
  ⟨od, ⟨I.obj, rfl, rfl, ho⟩, hl⟩
section
variable {prog : Program} {w : World} {A : Around} {E : Value → Shared → Prop} {s : Shared} {K : PySem.W.Frag} {x dx C f : Addr} {mA : Str → Option Value} {name : Str} {v : Value}
theorem get_map {expr : Bool} {Q : Value → Shared → Prop} (X : K.In s.heap) (I : ObjM s.heap x dx C mA) (hg : PySem.W.plainGet K C name = true) (hh : PySem.W.hasDictIn K C = true)
    (ha : PySem.W.findIn K (.ref C) name = some none) (hv : mA name = some v) (hv' : PySem.W.handedIn v = true) (h : Q v { s with toks := s.toks + 1 }) :
    wpAny (model prog w) A (getAttr (.ref x) name expr) Q E s := by
  obtain ⟨od, J, hl⟩ := I.look
  exact PySem.W.get_value X J (PySem.W.plainGet_of hg).1 (PySem.W.findObj_own hh ha rfl (by rw [hl, hv])) hv' h
theorem set_map {ns : List Str} {Q : Unit → Shared → Prop} (X : K.In s.heap) (I : ObjM s.heap x dx C mA)
    (hs : PySem.W.findIn K (.ref C) "__setattr__" = some (some (.builtin "object.__setattr__"))) (hp : PySem.W.plainOver K C = true) (ht : PySem.W.takerIn K C name = some none) (hh : PySem.W.hasDictIn K C = true)
    (hw : PySem.Within mA ns) (hsz : ns.length ≤ sizeLine)
    (h : ∀ h', ObjM h' x dx C (fun y => if y = name then some v else mA y) → Heap.SameBut dx s.heap h' → Q () { s with heap := h', toks := s.toks + 2 }) :
    wpAny (model prog w) A (setAttr (.ref x) name v) Q E s := by
  obtain ⟨od, J, hl⟩ := I.look
  refine PySem.W.set_plain X J hs (PySem.W.osa_open (s := { s with toks := s.toks + 1 }) (r := none) X J hp ht fun b => ?_)
  obtain ⟨cd, hc, hd'⟩ := PySem.W.any_some hh
  have hx : s.heap.get? x = some ⟨.ref C, some dx, .plain, #[]⟩ := I.obj
  refine wpAny_bind (wpAny_pure (wpAny_bind (wpAny_bind (wpAny_loadPart hx (wpAny_bind (PySem.W.Looks.here (s := { s with toks := s.toks + 1 }) (PySem.W.looks_clsIn X hc) ?_))))))
  rw [hd']
  refine wpAny_pure (a := some dx) (wpAny_bind (wpAny_pure (wpAny_bind ?_)))
  refine wpAny_nsSet1 (s := { s with toks := s.toks + 1 }) I.ns fun h' hn2 hs2 => ?_
  obtain ⟨oD, esD, epD, hoD, hdD, hcD⟩ := hn2.count (PySem.Within.cons name v hw)
  refine wpAny_bind (wpAny_lookBehind hoD (by rw [hdD]; exact pastItsLine_dict (Nat.le_trans hcD (by rw [List.length_cons]; omega))) ?_)
  exact wpAny_pure (h _ ⟨(hs2.2 _ (Ne.symm I.ne)).trans I.obj, hn2, I.ne⟩ hs2)
theorem make_map {R : Result → Shared → Prop} {vs : List Value} {kw : List (Str × Value)} (X : K.In s.heap) (hm : PySem.W.makesIn K C = true)
    (hi : PySem.W.findIn K (.ref C) "__init__" = some (some (.ref f))) (hf : PySem.W.typeIn K (.ref f) = some (.type "function"))
    (h : codeAny (model prog w) (A.under (.builtin "type.__call__" ⟨.ref C :: vs, kw⟩)) (.call (.ref f) ⟨.ref (s.heap.objs.size + 1) :: vs, kw⟩) (PySem.W.InitBack (s.heap.objs.size + 1) R)
      { s with heap := (s.heap.push PySem.W.emptyDict).push (PySem.W.instObj C s.heap.objs.size) }) :
    codeAny (model prog w) A (.call (.ref C) ⟨vs, kw⟩) R s := by
  obtain ⟨hh, g, d, t, os⟩ := s
  exact PySem.W.make_core (PySem.W.makes_of X hm) (PySem.W.looks_findIn X hi) (fun self => PySem.W.bind_fn X self hf) (.inl rfl) h
end
noncomputable def putF (f : Str) (v : V) : List (Str × V) → List (Str × V)
  | [] => [(f, v)]
  | (g, x) :: r => if g = f then (g, v) :: r else (g, x) :: putF f v r
theorem lookup_putF (f g : Str) (v : V) : ∀ fs : List (Str × V), (putF f v fs).lookup g = if g = f then some v else fs.lookup g
  | [] => by
    show List.lookup g [(f, v)] = _
    by_cases h : g = f
    · have hb : (g == f) = true := beq_iff_eq.mpr h
      simp only [List.lookup, hb, if_pos h]
    · have hb : (g == f) = false := beq_eq_false_iff_ne.mpr h
      simp only [List.lookup, hb, if_neg h]
  | (k, x) :: r => by
    have ih := lookup_putF f g v r
    rw [show putF f v ((k, x) :: r) = (if k = f then (k, v) :: r else (k, x) :: putF f v r) from rfl]
    by_cases hk : k = f
    · rw [if_pos hk]
      by_cases h : g = k
      · have hb : (g == k) = true := beq_iff_eq.mpr h
        simp only [List.lookup, hb, if_pos (h.trans hk)]
      · have hb : (g == k) = false := beq_eq_false_iff_ne.mpr h
        simp only [List.lookup, hb, if_neg (fun e : g = f => h (e.trans hk.symm))]
    · rw [if_neg hk]
      by_cases h : g = k
      · have hb : (g == k) = true := beq_iff_eq.mpr h
        simp only [List.lookup, hb, if_neg (fun e : g = f => hk (h.symm.trans e))]
      · have hb : (g == k) = false := beq_eq_false_iff_ne.mpr h
        simp only [List.lookup, hb]
        exact ih
theorem keys_putF (f : Str) (v : V) : ∀ fs : List (Str × V), f ∈ (putF f v fs).map (·.1) ∧ ∀ g, g ∈ fs.map (·.1) → g ∈ (putF f v fs).map (·.1)
  | [] => ⟨by simp [putF], fun g h => by simp at h⟩
  | (k, x) :: r => by
    obtain ⟨i1, i2⟩ := keys_putF f v r
    rw [show putF f v ((k, x) :: r) = (if k = f then (k, v) :: r else (k, x) :: putF f v r) from rfl]
    by_cases hk : k = f
    · rw [if_pos hk]
      subst hk
      exact ⟨by simp, fun g h => by simpa using h⟩
    · rw [if_neg hk]
      refine ⟨?_, fun g h => ?_⟩
      · rw [List.map_cons]
        exact List.mem_cons_of_mem _ i1
      · rw [List.map_cons] at h ⊢
        rcases List.mem_cons.mp h with e | e
        · exact List.mem_cons.mpr (.inl e)
        · exact List.mem_cons_of_mem _ (i2 g e)
theorem length_putF (f : Str) (v : V) : ∀ fs : List (Str × V), (putF f v fs).length ≤ fs.length + 1
  | [] => by simp [putF]
  | (k, x) :: r => by
    have ih := length_putF f v r
    rw [show putF f v ((k, x) :: r) = (if k = f then (k, v) :: r else (k, x) :: putF f v r) from rfl]
    by_cases hk : k = f
    · rw [if_pos hk, List.length_cons, List.length_cons]; omega
    · rw [if_neg hk, List.length_cons, List.length_cons]; omega
theorem RelO.some_of {v : V} {o : Option Value} (r : RelO (some v) o) : ∃ u, o = some u ∧ RelV v u := by
  cases o with
  | none => exact (show False from r).elim
  | some u => exact ⟨u, rfl, r⟩
theorem handed_of {v : V} {u : Value} (r : RelV v u) : PySem.W.handedIn u = true := by
  cases v with
  | non => cases (show u = Value.none from r); rfl
  | bl b => cases (show u = Value.bool b from r); rfl
  | int i => obtain ⟨t, e⟩ := (show ∃ t, u = Value.int i t from r); cases e; rfl
  | str x => obtain ⟨t, e⟩ := (show ∃ t, u = Value.str x t from r); cases e; rfl
  | byt b => obtain ⟨t, e⟩ := (show ∃ t, u = Value.bytes b t from r); cases e; rfl
  | flt b => obtain ⟨t, e⟩ := (show ∃ t, u = Value.float b t from r); cases e; rfl
  | ref a => cases (show u = Value.ref a from r); rfl
  | ty n => cases (show u = Value.type n from r); rfl
section
variable {P : Program} {w : World} {H H' : Hp} {h h' : Heap} {a C dx : Addr} {fs fs' : List (Str × V)}
theorem ins_get (hok : HOk P w H h) (e : H a = some (.ins C dx fs)) : ∃ mA, ObjM h a dx C mA ∧ (∀ f, RelO (fs.lookup f) (mA f)) ∧ PySem.Within mA (fs.map (·.1)) ∧ fs.length ≤ 1000 ∧ H dx = some (.own a) := by
  obtain ⟨d, z, ne, ob, mA, n, r, q⟩ := (show ObjOk P w H h a (.ins C dx fs) from hok a _ e)
  exact ⟨mA, ⟨ob, n, ne⟩, r, q, z, d⟩
end
structure Cls (K : PySem.W.Frag) (C : Addr) : Prop where
  pg : PySem.W.plainGet K C Str.empty = true
  hd : PySem.W.hasDictIn K C = true
  po : PySem.W.plainOver K C = true
  sa : PySem.W.findIn K (.ref C) "__setattr__" = some (some (.builtin "object.__setattr__"))
theorem Cls.get {K : PySem.W.Frag} {C : Addr} (c : Cls K C) (f : Str) : PySem.W.plainGet K C f = true := c.pg
noncomputable def NoAttr (K : PySem.W.Frag) (C : Addr) (f : Str) : Prop := PySem.W.findIn K (.ref C) f = some none
theorem NoAttr.taker {K : PySem.W.Frag} {C : Addr} {f : Str} (n : NoAttr K C f) : PySem.W.takerIn K C f = some none := by
  unfold PySem.W.takerIn
  rw [show PySem.W.findIn K (.ref C) f = some none from n]
  rfl
section
variable {X : Cx} {pins : List (Addr × Obj)} {σ : St} {H : Hp} {s : Shared} {a C dx : Addr} {fs : List (Str × V)} {f : Str} {v : V} {A : Around} {E : Value → Shared → Prop}
theorem getattr_ok {b : Bool} {Q : Value → Shared → Prop} (I : Inv X pins σ H s) (e : H a = some (.ins C dx fs)) (c : Cls X.K C) (n : NoAttr X.K C f) (l : fs.lookup f = some v)
    (h : ∀ u s', Inv X pins σ H s' → RelV v u → Q u s') : wpAny (model X.prog X.w) A (getAttr (.ref a) f b) Q E s := by
  obtain ⟨mA, O, r, _, _, _⟩ := ins_get I.hok e
  obtain ⟨u, hu, ru⟩ := RelO.some_of (v := v) (o := mA f) (by rw [← l]; exact r f)
  exact get_map I.kIn O (c.get f) c.hd n hu (handed_of ru) (h u _ (I.tok _) ru)
theorem setattr_ok {y : V} {u : Value} {Q : Unit → Shared → Prop} (I : Inv X pins σ H s) (e : H a = some (.ins C dx fs)) (c : Cls X.K C) (n : NoAttr X.K C f) (hl : fs.length < 1000) (ry : RelV y u)
    (h : ∀ s', Inv X pins σ (upd H a (.ins C dx (putF f y fs))) s' → Q () s') : wpAny (model X.prog X.w) A (setAttr (.ref a) f u) Q E s := by
  obtain ⟨mA, O, r, wi, _, ho⟩ := ins_get I.hok e
  have hz : (fs.map (·.1)).length ≤ sizeLine := by rw [List.length_map, sizeLine_eq]; omega
  refine set_map I.kIn O c.sa c.po n.taker c.hd wi hz fun h' O' sb => h _ ?_
  have hd : ∃ o, h'.get? dx = some o := by
    obtain ⟨o, _, _, e', _⟩ := O'.ns
    exact ⟨o, e'⟩
  refine I.write (x := a) (e := dx) (by rw [e]; exact True.intro) (.inr ho) (fun b q hb z => (sb.2 b hb).trans z) hd ?_
  refine ⟨by rw [upd_ne O.ne]; exact ho, ?_, O.ne, O'.obj, _, O'.ns, fun g => ?_, fun g hg => ?_⟩
  · have := length_putF f y fs; omega
  · show RelO ((putF f y fs).lookup g) (if g = f then some u else mA g)
    rw [lookup_putF]
    by_cases q : g = f
    · rw [if_pos q, if_pos q]; exact ry
    · rw [if_neg q, if_neg q]; exact r g
  · by_cases q : g = f
    · rw [q]; exact (keys_putF f y fs).1
    · refine (keys_putF f y fs).2 g (wi g fun z => hg ?_)
      show (if g = f then some u else mA g) = none
      rw [if_neg q]; exact z
theorem Inv.made (I : Inv X pins σ H s) : Inv X pins σ (upd (upd H s.heap.objs.size (.own (s.heap.objs.size + 1))) (s.heap.objs.size + 1) (.ins C s.heap.objs.size []))
    { s with heap := (s.heap.push PySem.W.emptyDict).push (PySem.W.instObj C s.heap.objs.size) } := by
  have e1 : (s.heap.push PySem.W.emptyDict).get? s.heap.objs.size = some PySem.W.emptyDict := Heap.get?_push_size s.heap rfl
  have e2 : ((s.heap.push PySem.W.emptyDict).push (PySem.W.instObj C s.heap.objs.size)).get? (s.heap.objs.size + 1) = some (PySem.W.instObj C s.heap.objs.size) := by
    have := Heap.get?_push_size (s.heap.push PySem.W.emptyDict) (o := PySem.W.instObj C s.heap.objs.size) rfl
    rwa [Heap.size_push] at this
  have e3 : (s.heap.push PySem.W.emptyDict).Ns s.heap.objs.size (fun _ => none) := ⟨PySem.W.emptyDict, #[], _, e1, rfl, (fun e he => absurd he (by simp)), fun _ => rfl⟩
  have I1 := I.laid (a := s.heap.objs.size) (o := .own (s.heap.objs.size + 1)) (h' := s.heap.push PySem.W.emptyDict) (t' := s.toks) (fun b u q => Heap.get?_push_of_some _ q) (Nat.le_refl _) ⟨_, e1⟩
  refine I1.laid (a := s.heap.objs.size + 1) (o := .ins C s.heap.objs.size []) (t' := s.toks) (fun b u q => Heap.get?_push_of_some _ q) (Nat.le_of_eq (Heap.size_push _ _)) ?_
  have ne : s.heap.objs.size ≠ s.heap.objs.size + 1 := Nat.ne_of_lt (Nat.lt_succ_self _)
  refine ⟨by rw [upd_ne ne, upd_same], Nat.zero_le _, ne, e2, fun _ => none, (Heap.Ns1.of_empty e3).at fun o q => Heap.get?_push_of_some _ q, fun _ => True.intro, fun y hy => absurd rfl hy⟩
theorem attr_of {prog : Program} {w : World} {env : Env} {e : Expr} {f : Str} {pos : Pos} {s : Shared} {Q : Value → Shared → Prop} (hb : attributeBase e f env (eval e env) = eval e env)
    (h : wpAny (model prog w) A (eval e env) (fun o s₁ => wpAny (model prog w) A (getAttr o f true) Q E s₁) E s) : wpAny (model prog w) A (eval (.Attribute e f pos) env) Q E s :=
  Attribute_any_ h (by rw [arm_eval_Attribute, hb])
end
noncomputable def tFld (K : PySem.W.Frag) (ta : TE) (f : Str) : TE := fun σ H Q => ta σ H fun x H1 => ∃ a C dx fs v, x = .ref a ∧ H1 a = some (.ins C dx fs) ∧ Cls K C ∧ NoAttr K C f ∧ fs.lookup f = some v ∧ Q v H1
noncomputable def sFld (K : PySem.W.Frag) (ta tv : TE) (f : Str) : TS := fun D σ H => tv σ H fun y H1 => ta σ H1 fun x H2 => ∃ a C dx fs, x = .ref a ∧ H2 a = some (.ins C dx fs) ∧ Cls K C ∧ NoAttr K C f ∧ fs.length < 1000 ∧
  D.nx σ (upd H2 a (.ins C dx (putF f y fs)))
section
variable {X : Cx} {o e value : Expr} {f : Str} {pos pos' tpos : Pos} {ta tv : TE}
theorem pe_fld (he : PE X e ta) (hb : attributeBase e f X.env (eval e X.env) = eval e X.env) : PE X (.Attribute e f pos) (tFld X.K ta f) := by
  intro pins s σ H Q I h
  refine attr_of hb (thn (he pins s σ H _ I h) fun u s1 hq8 => ?_)
  obtain ⟨x, H1, I1, rx, a, C, dx, fs, v, ex, ea, c, n, l, q⟩ := hq8
  subst ex
  obtain rfl : u = Value.ref a := rx
  exact getattr_ok I1 ea c n l fun u' s2 I2 ru => ⟨v, H1, I2, ru, q⟩
theorem ps_fld (ha : PE X o ta) (hv : PE X value tv) (hs : swapsWith value (some (.Attribute o f pos')) pos.line X.env = pure false) : PS X (.Assign [.Attribute o f pos'] value pos) (sFld X.K ta tv f) := by
  intro pins s σ H D I h
  refine plainObj_wpAny_Assign_Attribute (thn (hv pins s σ H _ I h) fun u s1 hq9 => EP.out hq9 fun y H1 I1 ry q => thn (ha pins s1 σ H1 _ I1 q) fun ov s2 hq8 => ?_) hs
  obtain ⟨x, H2, I2, rx, a, C, dx, fs, ex, ea, c, n, l, q2⟩ := hq8
  subst ex
  obtain rfl : ov = Value.ref a := rx
  exact setattr_ok I2 ea c n l ry fun s3 I3 => ⟨σ, _, I3, q2⟩
end
section
variable {X : Cx} {pins : List (Addr × Obj)} {σ : St} {H : Hp} {s : Shared} {A : Around} {E : Value → Shared → Prop} {Q : Value → Shared → Prop} {c : Value} {b : Bool}
end
end L2
namespace L2
open PySem PySem.Spec PyProof.Rows
structure Room (k : Nat) (A : Around) : Prop where
  hd : A.handled = none
  dp : A.depth + 3 * k + 5 < recursionLimit
  un : A.units + 16 * k + 200 < cLine
theorem Room.mono {j k : Nat} {A : Around} (r : Room k A) (h : j ≤ k) : Room j A := ⟨r.hd, by have := r.dp; omega, by have := r.un; omega⟩
theorem Room.deeper {k : Nat} {A : Around} (r : Room (k + 1) A) (env : Env) : Room k (A.deeper env) :=
  ⟨r.hd, by have := r.dp; show A.depth + 1 + 3 * k + 5 < _; omega, by have := r.un; show A.units + 3 + 16 * k + 200 < _; omega⟩
theorem make_depth {A : Around} {C : Addr} {us : List Value} {kw : List (Str × Value)} : (A.under (.builtin "type.__call__" ⟨.ref C :: us, kw⟩)).depth = A.depth + 1 := by
  first | rfl | simp [Around.under, Code.weight, Code.isCreation, Code.isGuard, Code.isCaller, Code.frames, Code.isFrame, guardIds]
theorem make_units {A : Around} {C : Addr} {us : List Value} {kw : List (Str × Value)} : (A.under (.builtin "type.__call__" ⟨.ref C :: us, kw⟩)).units = A.units + 1 := by
  first | rfl | simp [Around.under, Code.cUnits, Code.frames, Code.isFrame]
theorem Room.make {k : Nat} {A : Around} (r : Room (k + 1) A) (C : Addr) (us : List Value) (kw : List (Str × Value)) : Room k (A.under (.builtin "type.__call__" ⟨.ref C :: us, kw⟩)) :=
  ⟨r.hd, by have := r.dp; rw [make_depth]; omega, by have := r.un; rw [make_units]; omega⟩
theorem Room.depth {k : Nat} {A : Around} (r : Room k A) : A.depth < recursionLimit := by have := r.dp; omega
theorem Room.units {k : Nat} {A : Around} (r : Room k A) : A.units + 64 < cLine := by have := r.un; omega
noncomputable def tNil : TA := fun _ H Q => Q [] H
noncomputable def tCons (ta : TE) (tr : TA) : TA := fun σ H Q => ta σ H fun x H1 => tr σ H1 fun xs H2 => Q (x :: xs) H2
section
variable {X : Cx} {e : Expr} {es : List Expr} {te : TE} {t : TA} {pos : Pos}
theorem pa_nil : PA X [] tNil := fun _ _ _ _ H Q I h => Calls.spliced_nil ⟨[], H, I, .nil, h⟩
theorem pa_cons (ha : PE X e te) (hr : PA X es t) (hs : starEach (e :: es) X.env = (false, eval e X.env) :: starEach es X.env := by rfl) : PA X (e :: es) (tCons te t) := by
  intro pos pins s σ H Q I h
  rw [hs]
  show wpAny _ _ (spliced ((false, eval e X.env) :: backTo pos (starEach es X.env))) _ _ s
  refine Calls.spliced_cons (thn (ha pins s σ H _ I h) fun u s1 hq9 => EP.out hq9 fun x H1 I1 r1 q1 => ?_)
  exact thn (hr pos pins s1 σ H1 _ I1 q1) fun us s2 hq9 => AP.out hq9 fun xs H2 I2 r2 q2 => ⟨x :: xs, H2, I2, .cons r1 r2, q2⟩
noncomputable def tTup (t : TA) : TE := fun σ H Q => t σ H fun xs H1 => xs.length ≤ sizeLine ∧ ∀ p, H1 p = none → Q (.ref p) (upd H1 p (.tup xs))
noncomputable def tLst (t : TA) : TE := fun σ H Q => t σ H fun xs H1 => xs.length ≤ sizeLine ∧ ∀ p, H1 p = none → Q (.ref p) (upd H1 p (.lst xs))
theorem pe_tup {x1} (h : PA X es t) : PE X (.Tuple es x1 pos) (tTup t) := by
  intro pins s σ H Q I hq
  refine wpAny_Tuple_spliced (thn (h pos pins s σ H _ I hq) fun us s1 hq9 => AP.out hq9 fun xs H1 I1 r zq => ⟨by rw [← r.length]; exact zq.1, ?_⟩)
  obtain ⟨z, q⟩ := zq
  have hf : H1 s1.heap.objs.size = none := I1.hok.fresh (Nat.le_refl _)
  refine ⟨.ref s1.heap.objs.size, upd H1 s1.heap.objs.size (.tup xs), I1.laid (t' := s1.toks) (fun b u e => Heap.get?_push_of_some _ e) (Nat.le_refl _) ?_, rfl, q _ hf⟩
  exact ⟨z, us, r, ⟨_, Heap.get?_push_size _ rfl, rfl, _, rfl⟩⟩
theorem pe_lst (h : PA X es t) : PE X (.List es pos) (tLst t) := by
  intro pins s σ H Q I hq
  refine wpAny_List_spliced (thn (h pos pins s σ H _ I hq) fun us s1 hq9 => AP.out hq9 fun xs H1 I1 r zq => ⟨by rw [← r.length]; exact zq.1, ?_⟩)
  obtain ⟨z, q⟩ := zq
  have hf : H1 s1.heap.objs.size = none := I1.hok.fresh (Nat.le_refl _)
  refine ⟨.ref s1.heap.objs.size, upd H1 s1.heap.objs.size (.lst xs), I1.laid (t' := s1.toks) (fun b u e => Heap.get?_push_of_some _ e) (Nat.le_refl _) ?_, rfl, q _ hf⟩
  exact ⟨z, us, 0, r, Heap.get?_push_size _ rfl⟩
end
noncomputable abbrev Sp := List V → Hp → VK → XK → Prop
noncomputable abbrev CXT := List Env → Hp → Shared → XK → Value → Shared → Prop
structure Env0 (P : Program) (w : World) (K : PySem.W.Frag) (mg : Str → Option Value) (base : Heap) (A : Around) (outer : List Env) (s : Shared) (H : Hp) : Prop where
  frames : A.frames = some outer
  mod : Mod K mg base
  bs : ∀ b o, base.get? b = some o → s.heap.get? b = some o ∧ H b = none
  bsz : base.objs.size ≤ s.heap.objs.size
  funs : s.heap.FunFrames base outer
  frf : ∀ b ∈ frs outer, H b = none
  hok : HOk P w H s.heap
  bare : AllBare s.gens
noncomputable def CE (outer : List Env) (P : Program) (w : World) (H : Hp) (s : Shared) (Q : VK) (u : Value) (s' : Shared) : Prop :=
  ∃ v H', s'.os = s.os ∧ AllBare s'.gens ∧ Un (frs outer) [] H H' s.heap s'.heap ∧ HOk P w H' s'.heap ∧ RelV v u ∧ Q v H'
noncomputable def CR (CX : CXT) (outer : List Env) (P : Program) (w : World) (H : Hp) (s : Shared) (Q : VK) (E : XK) (r : Result) (s' : Shared) : Prop :=
  match r with
  | .ok (.ret u) => CE outer P w H s Q u s'
  | .ok _ => False
  | .error e => CX outer H s E e s'
structure FnOk (P : Program) (w : World) (K : PySem.W.Frag) (mg : Str → Option Value) (base : Heap) (CX : CXT) (k : Nat) (f : Addr) (fd : FuncData) (ps : List Str) (sp : Sp) : Prop where
  len : ∀ vs H Q E, sp vs H Q E → vs.length = ps.length
  run : ∀ (A : Around) (outer : List Env) (s : Shared) (H : Hp) (args : Args) (us : List Value) (vs : List V) (Q : VK) (E : XK), Room k A → Env0 P w K mg base A outer s H → BindsTo s fd args (ps.zip us) → Vals vs us → sp vs H Q E →
    codeAny (model P w) A (.call (.ref f) args) (CR CX outer P w H s Q E) s
theorem Env0.make {P : Program} {w : World} {K : PySem.W.Frag} {mg : Str → Option Value} {base : Heap} {A : Around} {outer : List Env} {s : Shared} {H : Hp} (e : Env0 P w K mg base A outer s H) (C : Addr) (us : List Value) (kw : List (Str × Value)) :
    Env0 P w K mg base (A.under (.builtin "type.__call__" ⟨.ref C :: us, kw⟩)) outer s H := ⟨by first | exact e.frames | (simpa [Around.under, Code.envs, Code.isFrame, pushEnvs] using e.frames), e.mod, e.bs, e.bsz, e.funs, e.frf, e.hok, e.bare⟩
section
variable {X : Cx} {pins : List (Addr × Obj)} {σ : St} {H : Hp} {s s' : Shared}
theorem Inv.env0 (I : Inv X pins σ H s) : Env0 X.prog X.w X.K X.mg X.base X.A X.stack s H :=
  ⟨I.ok.frames, I.ok.mod, I.bs, Nat.le_trans I.ok.bsz I.sz, I.stack, I.stkFree, I.hok, I.bare⟩
theorem Inv.after {Q : VK} {u : Value} (I : Inv X pins σ H s) (h : CE X.stack X.prog X.w H s Q u s') : EP X pins σ Q u s' := by
  obtain ⟨v, H', os, bare, un, hok, r, q⟩ := h
  obtain ⟨hh, g, d, t, os'⟩ := s'
  obtain rfl : os' = s.os := os
  exact ⟨v, H', I.call (h' := hh) (g' := g) (d' := d) (t' := t) (ch := []) un hok bare (fun b z => absurd z (by simp)), r, q⟩
end
noncomputable def tCall (sp : Sp) (dvs : List V) (E : XK) (t : TA) : TE := fun σ H Q => t σ H fun vs H1 => sp (vs ++ dvs) H1 Q E
noncomputable def tMake (C : Addr) (sp : Sp) (dvs : List V) (E : XK) (t : TA) : TE := fun σ H Q => t σ H fun vs H1 => ∀ x dx, H1 x = none → H1 dx = none → dx ≠ x →
  sp (.ref x :: (vs ++ dvs)) (upd (upd H1 dx (.own x)) x (.ins C dx [])) (fun v H2 => v = .non ∧ Q (.ref x) H2) E
noncomputable def Binds (K : PySem.W.Frag) (fd : FuncData) (ps : List Str) (ds : List Value) : Prop :=
  ∀ (s : Shared) (us : List Value), K.In s.heap → (us ++ ds).length = ps.length → BindsTo s fd ⟨us, []⟩ (ps.zip (us ++ ds))
theorem Binds.all {K : PySem.W.Frag} {fd : FuncData} {ps : List Str} (h : ∀ us : List Value, us.length = ps.length → bindArgs fd ⟨us, []⟩ = pure (ps.zip us)) : Binds K fd ps [] := fun s us _ hl => by
  rw [List.append_nil] at hl ⊢
  exact .of_eq (h us hl)
noncomputable def Passes (CX : CXT) (X : Cx) (E : XK) : Prop := ∀ (pins : List (Addr × Obj)) (σ : St) (H : Hp) (s : Shared) (e : Value) (s' : Shared), Inv X pins σ H s → CX X.stack H s E e s' → X.xe e s'
section
variable {X : Cx} {CX : CXT} {k : Nat} {f C : Addr} {fd : FuncData} {ps : List Str} {sp : Sp} {dvs : List V} {ds : List Value} {E : XK} {x m : Str} {p pos apos : Pos} {e o : Expr} {es : List Expr} {ta : TE} {t : TA}
theorem run_fn {pins : List (Addr × Obj)} {σ : St} {H : Hp} {s : Shared} {Q : VK} {us : List Value} {vs : List V} (F : FnOk X.prog X.w X.K X.mg X.base CX k f fd ps sp) (hr : Room k X.A) (hb : Binds X.K fd ps ds) (hd : Vals dvs ds) (hx : Passes CX X E)
    (I : Inv X pins σ H s) (r : Vals vs us) (h : sp (vs ++ dvs) H Q E) : wpAny (model X.prog X.w) X.A (call (.ref f) us) (EP X pins σ Q) X.xe s := by
  have r2 : Vals (vs ++ dvs) (us ++ ds) := r.append hd
  have hl : (us ++ ds).length = ps.length := by rw [← r2.length]; exact F.len _ _ _ _ h
  refine wpAny_call (codeAny_mono (F.run X.A X.stack s H ⟨us, []⟩ (us ++ ds) (vs ++ dvs) Q E hr I.env0 (hb s us I.kIn hl) r2 h) fun r s' hq => ?_)
  cases r with
  | error e => exact hx pins σ H s e s' I hq
  | ok fl =>
    cases fl with
    | ret u => exact I.after hq
    | next => exact False.elim hq
    | brk => exact False.elim hq
    | cont => exact False.elim hq
theorem pe_call (F : FnOk X.prog X.w X.K X.mg X.base CX k f fd ps sp) (hr : Room k X.A) (hg : Gl X x) (hm : X.mg x = some (.ref f)) (hk : PySem.W.keepIn X.K (.ref f) = true) (hb : Binds X.K fd ps ds) (hd : Vals dvs ds) (hx : Passes CX X E)
    (ha : PA X (e :: es) t) (hdb : (x == ("__debug__" : Str)) = false := by decide) (he : starEach (e :: es) X.env = (false, eval e X.env) :: starEach es X.env := by rfl) (hpl : (backTo pos (starEach es X.env)).any (·.1) = false := by rfl) :
    PE X (.Call (.Name x p) (e :: es) [] pos) (tCall sp dvs E t) := by
  intro pins s σ H Q I h
  refine wpAny_Call_Name_kw (ld_glob I hg hm ?_ hdb)
  refine PySem.W.callWith_K (h₀ := X.base) I.ok.mod.kin hk (thn (ha pos pins s σ H _ I h) fun us s1 hq9 => AP.out hq9 fun vs H1 I1 r q => ⟨I1.kIn, ?_⟩) he hpl
  exact run_fn F hr hb hd hx I1 r q
structure Mk (K : PySem.W.Frag) (C f : Addr) : Prop where
  makes : PySem.W.makesIn K C = true
  init : PySem.W.findIn K (.ref C) "__init__" = some (some (.ref f))
  fn : PySem.W.isFn K (.ref f) = true
  kp : PySem.W.keepIn K (.ref C) = true
theorem run_make {pins : List (Addr × Obj)} {σ : St} {H : Hp} {s : Shared} {Q : VK} {us : List Value} {vs : List V} (M : Mk X.K C f) (F : FnOk X.prog X.w X.K X.mg X.base CX k f fd ps sp) (hr : Room (k + 1) X.A) (hb : Binds X.K fd ps ds) (hd : Vals dvs ds)
    (hx : Passes CX X E) (I : Inv X pins σ H s) (r : Vals vs us)
    (h : ∀ x dx, H x = none → H dx = none → dx ≠ x → sp (.ref x :: (vs ++ dvs)) (upd (upd H dx (.own x)) x (.ins C dx [])) (fun v H2 => v = .non ∧ Q (.ref x) H2) E) :
    wpAny (model X.prog X.w) X.A (call (.ref C) us) (EP X pins σ Q) X.xe s := by
  have hq := h (s.heap.objs.size + 1) s.heap.objs.size (I.hok.fresh (Nat.le_succ _)) (I.hok.fresh (Nat.le_refl _)) (Nat.ne_of_lt (Nat.lt_succ_self _))
  have I2 := Inv.made (C := C) I
  have r2 : Vals (V.ref (s.heap.objs.size + 1) :: (vs ++ dvs)) (Value.ref (s.heap.objs.size + 1) :: (us ++ ds)) := .cons rfl (r.append hd)
  have hl : (Value.ref (s.heap.objs.size + 1) :: us ++ ds).length = ps.length := by
    have e := r2.length
    rw [F.len _ _ _ _ hq] at e
    exact e.symm
  refine wpAny_call (make_map (f := f) I.kIn M.makes M.init (beq_iff_eq.mp M.fn) (codeAny_mono (F.run _ X.stack _ _ ⟨Value.ref (s.heap.objs.size + 1) :: us, []⟩ (Value.ref (s.heap.objs.size + 1) :: (us ++ ds)) _ _ E (hr.make C us [])
    (I2.env0.make C us []) (hb _ (Value.ref (s.heap.objs.size + 1) :: us) I2.kIn hl) r2 hq) fun r s' hq' => ?_))
  cases r with
  | error e => exact hx pins σ _ _ e s' I2 hq'
  | ok fl =>
    cases fl with
    | ret u =>
      obtain ⟨v, H', I3, rv, ev, q3⟩ := I2.after hq'
      subst ev
      exact ⟨rv, ⟨V.ref (s.heap.objs.size + 1), H', I3, rfl, q3⟩⟩
    | next => exact False.elim hq'
    | brk => exact False.elim hq'
    | cont => exact False.elim hq'
theorem pe_make (M : Mk X.K C f) (F : FnOk X.prog X.w X.K X.mg X.base CX k f fd ps sp) (hr : Room (k + 1) X.A) (hg : Gl X x) (hm : X.mg x = some (.ref C)) (hb : Binds X.K fd ps ds) (hd : Vals dvs ds) (hx : Passes CX X E)
    (ha : PA X (e :: es) t) (hdb : (x == ("__debug__" : Str)) = false := by decide) (he : starEach (e :: es) X.env = (false, eval e X.env) :: starEach es X.env := by rfl) (hpl : (backTo pos (starEach es X.env)).any (·.1) = false := by rfl) :
    PE X (.Call (.Name x p) (e :: es) [] pos) (tMake C sp dvs E t) := by
  intro pins s σ H Q I h
  refine wpAny_Call_Name_kw (ld_glob I hg hm ?_ hdb)
  refine PySem.W.callWith_K (h₀ := X.base) I.ok.mod.kin M.kp (thn (ha pos pins s σ H _ I h) fun us s1 hq9 => AP.out hq9 fun vs H1 I1 r q => ⟨I1.kIn, ?_⟩) he hpl
  exact run_make M F hr hb hd hx I1 r q
end
section
variable {X : Cx} {CX : CXT} {k : Nat} {f C : Addr} {fd : FuncData} {ps ks : List Str} {sp : Sp} {E : XK} {x m : Str} {p pos apos kpos : Pos} {e o : Expr} {es : List Expr} {kws : List Keyword} {te ta : TE} {t tk : TA} {nm : Option Str}
variable {g : List Value → List Value → List Value} {gV : List V → List V → List V}
end
structure FnScope (N P : List Str) (sc : Scope) : Prop where
  kind : sc.kind = .function
  co : sc.isCoroutine = false
  gen : sc.isGenerator = false
  nd : N.Nodup
  pre : N.take P.length = P
  par : ∀ x ∈ P, sc.names.lookup x = some .local ∨ sc.names.lookup x = some .cell
  nofree : ∀ y ∈ sc.names, y.2 ≠ .free
theorem bindL_out {kindOf : Str → Option NameKind} {x : Str} : ∀ {binds : List (Str × Value)} {m : Str → Option Value}, (∀ v, (x, v) ∉ binds) → bindL kindOf binds m x = m x
  | [], _, _ => rfl
  | (n, v) :: r, m, h => by
    unfold bindL
    rw [bindL_out fun w hw => h w (List.mem_cons_of_mem _ hw)]
    split
    · have : x ≠ n := by rintro rfl; exact h v List.mem_cons_self
      simp [this]
    · rfl
theorem bindC_out {kindOf : Str → Option NameKind} {x : Str} : ∀ {binds : List (Str × Value)} {m : Str → Option Value}, (∀ v, (x, v) ∉ binds) → bindC kindOf binds m x = m x
  | [], _, _ => rfl
  | (n, v) :: r, m, h => by
    unfold bindC
    rw [bindC_out fun w hw => h w (List.mem_cons_of_mem _ hw)]
    split
    · rfl
    · have : x ≠ n := by rintro rfl; exact h v List.mem_cons_self
      simp [this]
theorem bindL_get {kindOf : Str → Option NameKind} {x : Str} {v : Value} : ∀ {P : List Str} {vs : List Value} {i : Nat} {m : Str → Option Value}, P.Nodup → P[i]? = some x → vs[i]? = some v → kindOf x = some .local →
    bindL kindOf (P.zip vs) m x = some v
  | [], _, _, _, _, h, _, _ => by simp at h
  | _ :: _, [], _, _, _, _, h, _ => by simp at h
  | p :: P, w :: vs, 0, m, nd, h1, h2, hk => by
    simp at h1 h2; subst h1; subst h2
    show bindL kindOf ((p, w) :: P.zip vs) m p = _
    unfold bindL
    rw [bindL_out fun v hv => (List.nodup_cons.mp nd).1 (List.of_mem_zip hv).1, if_pos hk]
    simp
  | p :: P, w :: vs, i + 1, m, nd, h1, h2, hk => by
    show bindL kindOf ((p, w) :: P.zip vs) m x = _
    unfold bindL
    exact bindL_get (i := i) (List.nodup_cons.mp nd).2 (by simpa using h1) (by simpa using h2) hk
theorem bindC_get {kindOf : Str → Option NameKind} {x : Str} {v : Value} : ∀ {P : List Str} {vs : List Value} {i : Nat} {m : Str → Option Value}, P.Nodup → P[i]? = some x → vs[i]? = some v → kindOf x ≠ some .local →
    bindC kindOf (P.zip vs) m x = some v
  | [], _, _, _, _, h, _, _ => by simp at h
  | _ :: _, [], _, _, _, _, h, _ => by simp at h
  | p :: P, w :: vs, 0, m, nd, h1, h2, hk => by
    simp at h1 h2; subst h1; subst h2
    show bindC kindOf ((p, w) :: P.zip vs) m p = _
    unfold bindC
    rw [bindC_out fun v hv => (List.nodup_cons.mp nd).1 (List.of_mem_zip hv).1, if_neg hk]
    simp
  | p :: P, w :: vs, i + 1, m, nd, h1, h2, hk => by
    show bindC kindOf ((p, w) :: P.zip vs) m x = _
    unfold bindC
    exact bindC_get (i := i) (List.nodup_cons.mp nd).2 (by simpa using h1) (by simpa using h2) hk
noncomputable def start (N : List Str) (vs : List V) : St := vs.map some ++ List.replicate (N.length - vs.length) none
noncomputable def cxOf (CX : CXT) (P : Program) (w : World) (K : PySem.W.Frag) (mg : Str → Option Value) (base : Heap) (N : List Str) (qual : Str) (scope : Scope) (f : Addr) (cd : Value) (A : Around) (outer : List Env) (s : Shared) (H : Hp) (E : XK) : Cx where
  prog := P
  w := w
  K := K
  mg := mg
  base := base
  A := A.deeper (envOfC qual scope s.heap.objs.size f cd)
  N := N
  s₀ := s
  H₀ := H
  env := envOfC qual scope s.heap.objs.size f cd
  outer := outer
  stack := envOfC qual scope s.heap.objs.size f cd :: outer
  ex := []
  calm := true
  fn := fun _ => true
  pn := []
  xe := fun e s' => wpAny (model P w) (A.deeper (envOfC qual scope s.heap.objs.size f cd)) (leaving (envOfC qual scope s.heap.objs.size f cd) e) (fun _ s'' => CX outer H s E e s'') (fun e' s'' => CX outer H s E e' s'') s'
theorem cell_has {sc : Scope} {n : Nat} {x : Str} (h : sc.names.lookup x = some .cell) : ∃ c, (cellsFrom n sc.names []).lookup x = some c := by
  have q := PySem.W.cellsFrom_some sc.names n [] (.inl h)
  exact Option.isSome_iff_exists.mp q
theorem inv_start {CX : CXT} {P : Program} {w : World} {K : PySem.W.Frag} {mg : Str → Option Value} {base : Heap} {N ps : List Str} {qual : Str} {scope : Scope} {f : Addr} {cd : Value} {A : Around} {outer : List Env} {s s1 : Shared} {H : Hp} {E : XK} {us : List Value} {vs : List V}
    (S : FnScope N ps scope) (hd : A.handled = none) (e0 : Env0 P w K mg base A outer s H) (hl : vs.length = ps.length) (r : Vals vs us)
    (x : InCallC s s.heap.objs.size (bindL (envOfC qual scope s.heap.objs.size f cd).kindOf (ps.zip us) fun _ => none) (cellsFrom (s.heap.objs.size + 1) scope.names []) (bindC (envOfC qual scope s.heap.objs.size f cd).kindOf (ps.zip us) fun _ => none) s1) :
    Inv (cxOf CX P w K mg base N qual scope f cd A outer s H E) [] (start N vs) H s1 := by
  have hpl : ps.length ≤ N.length := by have := congrArg List.length S.pre; rw [List.length_take] at this; omega
  obtain ⟨h1, tk, rfl, hk⟩ := x.done
  have noA : ∀ b : Addr, b ∉ (cxOf CX P w K mg base N qual scope f cd A outer s H E).ex := fun b z => absurd (show b ∈ ([] : List Addr) from z) (by simp)
  refine ⟨⟨e0.mod, S.kind, rfl, rfl, Nat.le_refl _, fun y z c h1 h2 => ?_, fun y hy => ?_, fun y c _ h => ?_, fun _ => hd, Around.frames_deeper e0.frames, .inr ⟨rfl, rfl⟩, fun b z => absurd z (noA b), e0.bs, e0.bsz, fun b _ _ => noA b, fun b z => absurd z (noA b), e0.funs, e0.frf⟩,
    rfl, e0.bare, Un.kept hk, ⟨_, x.toInCall.ns, fun i y v h1 h2 h3 => ?_⟩, fun y c h => ⟨_, x.cell y c h⟩, e0.hok.fresh (Nat.le_refl _), fun y c h => ?_, fun p hp => absurd (show p ∈ ([] : List (Addr × Obj)) from hp) (by simp), e0.hok.kept hk, ?_⟩
  · exact name_of_addr x.apart (PySem.mem_of_lookup h1) (PySem.mem_of_lookup h2)
  · have hy : scope.names.lookup y = some .cell ∨ scope.names.lookup y = some .free := hy
    rcases hy with hy | hy
    · exact cell_has hy
    · exact absurd rfl (S.nofree _ (PySem.mem_of_lookup hy))
  · exact Nat.le_of_lt (x.above y c (PySem.mem_of_lookup h))
  · have hi : i < vs.length := by
      unfold start at h2
      by_cases hi : i < vs.length
      · exact hi
      · rw [List.getElem?_append_right (by simpa using hi)] at h2
        rw [List.getElem?_replicate] at h2
        split at h2 <;> cases h2
    have ha : vs[i]? = some v := by
      unfold start at h2
      rw [List.getElem?_append_left (by simpa using hi), List.getElem?_map] at h2
      cases e : vs[i]? with
      | none => rw [e] at h2; cases h2
      | some a => rw [e] at h2; cases h2; rfl
    obtain ⟨u, hu, rv⟩ := r.get ha
    have hp : ps[i]? = some y := by
      rw [← S.pre, List.getElem?_take_of_lt (by omega)]; exact h1
    have ndP : ps.Nodup := by rw [← S.pre]; exact S.nd.sublist (List.take_sublist _ _)
    refine ⟨u, rv, ?_⟩
    rcases S.par y (List.mem_of_getElem? hp) with k | k
    · exact .inl ⟨k, bindL_get ndP hp hu k⟩
    · obtain ⟨c, e⟩ := cell_has (n := s.heap.objs.size + 1) k
      refine .inr ⟨.inl k, c, e, ?_⟩
      have q := x.cell y c e
      rw [bindC_get ndP hp hu (by show scope.names.lookup y ≠ _; rw [k]; decide)] at q
      exact q
  · exact e0.hok.fresh (Nat.le_of_lt (x.above y c (PySem.mem_of_lookup h)))
  · unfold start
    show _ = N.length
    rw [List.length_append, List.length_map, List.length_replicate]
    omega
theorem fn_of {CX : CXT} {P : Program} {w : World} {K : PySem.W.Frag} {mg : Str → Option Value} {base : Heap} {k : Nat} {f : Addr} {name qual : Str} {params : Arguments} {body : List Stmt} {scope : Scope} {dV kV doc pm cdv ct oc : Value} {an od : Option Addr}
    {osl : Array (Option Value)} {N ps : List Str} {sp : Sp} (lk : K.lookup f = some ⟨oc, od, .func (PySem.W.fnOf name qual params body scope dV kV doc pm an cdv ct), osl⟩) (hcd : PySem.W.codeIn K cdv qual = true) (S : FnScope N ps scope)
    (len : ∀ vs H Q E, sp vs H Q E → vs.length = ps.length)
    (hbody : ∀ (A : Around) (outer : List Env) (s : Shared) (H : Hp) (vs : List V) (Q : VK) (E : XK), Room k (A.deeper (envOfC qual scope s.heap.objs.size f cdv)) → sp vs H Q E →
      ∃ t, PSs (cxOf CX P w K mg base N qual scope f cdv A outer s H E) body t ∧ t { nx := fun _ H' => Q .non H', rt := Q } (start N vs) H) :
    FnOk P w K mg base CX (k + 1) f (PySem.W.fnOf name qual params body scope dV kV doc pm an cdv ct) ps sp := by
  refine ⟨len, fun A outer s H args us vs Q E hr e0 hb r hsp => ?_⟩
  have hl := len _ _ _ _ hsp
  have KX : K.In s.heap := e0.mod.kin.keeps fun b o e => (e0.bs b o e).1
  have lim : s.heap.NoLimit := e0.mod.nolimit.keeps fun b o e => (e0.bs b o e).1
  have hkind : ∀ y ∈ ps.zip us, scope.names.lookup y.1 = some .local ∨ (scope.names.lookup y.1 = some .cell ∧ ((cellsFrom (s.heap.objs.size + 1) scope.names []).lookup y.1).isSome = true) := fun ⟨n, v⟩ hy => by
    rcases S.par n (List.of_mem_zip hy).1 with q | q
    · exact .inl q
    · exact .inr ⟨q, PySem.W.cellsFrom_some _ _ _ (.inl q)⟩
  refine codeAny_call_function hr.depth (KX _ _ lk) rfl S.co S.gen rfl (PySem.W.codeRec_of KX hcd) (hb _ _ _ _ ?_)
  refine wpAny_newFunctionEnv_cells S.kind hkind fun env he s1 x => ?_
  subst he
  refine ⟨lim.keeps x.toInCall.keep, codeAny_func ?_⟩
  obtain ⟨t, ht, hq⟩ := hbody A outer s H vs Q E (hr.deeper _) hsp
  have I : Inv (cxOf CX P w K mg base N qual scope f cdv A outer s H E) [] (start N vs) H s1 := inv_start S hr.hd e0 hl r x
  refine wpAny_mono (ht [] s1 (start N vs) H _ I hq) (fun fl s' hs => ?_) fun e s' hs => hs
  have fin : ∀ {σ' : St} {H' : Hp} {v : V} {u : Value}, Inv (cxOf CX P w K mg base N qual scope f cdv A outer s H E) [] σ' H' s' → RelV v u → Q v H' → CE outer P w H s Q u s' :=
    fun {σ' H' v u} J rv q => ⟨v, H', J.os, J.bare, J.base, J.hok, rv, q⟩
  cases fl with
  | ret u =>
    obtain ⟨v, σ', H', J, rv, q⟩ := hs
    exact fin J rv q
  | next =>
    obtain ⟨σ', H', J, q⟩ := hs
    exact fin (v := V.non) (u := Value.none) J rfl q
  | brk =>
    obtain ⟨_, _, _, q⟩ := hs
    exact False.elim q
  | cont =>
    obtain ⟨_, _, _, q⟩ := hs
    exact False.elim q
end L2
namespace L2
open PySem PySem.Spec PyProof.Rows
section
variable {X : Cx} {x : Str} {p pos : Pos} {e : Expr} {es : List Expr} {t : TA} {id T : String} {r : List V → Hp → VK → Prop}
noncomputable def tCB (r : List V → Hp → VK → Prop) (t : TA) : TE := fun σ H Q => t σ H fun vs H1 => r vs H1 Q
theorem pe_callB (hc : CallR X (.builtin id) r) (hg : Gl X x) (hm : X.mg x = none) (hv : bootBuiltins x = some (.builtin id)) (ha : PA X (e :: es) t) (hn : x ≠ "__name__" := by decide) (hdb : (x == ("__debug__" : Str)) = false := by decide)
    (he : starEach (e :: es) X.env = (false, eval e X.env) :: starEach es X.env := by rfl) (hpl : (backTo pos (starEach es X.env)).any (·.1) = false := by rfl) : PE X (.Call (.Name x p) (e :: es) [] pos) (tCB r t) := by
  intro pins s σ H Q I h
  refine wpAny_Call_Name_kw (ld_blt I hg hm hv ?_ hn hdb)
  exact PyProof.Rows.callWith_builtin1 (thn (ha pos pins s σ H _ I h) fun us s1 hq9 => AP.out hq9 fun vs H1 I1 r1 q1 => hc pins s1 σ H1 vs us Q I1 r1 q1) he hpl
theorem pe_callTy (hc : CallR X (.type T) r) (hg : Gl X x) (hm : X.mg x = none) (hv : bootBuiltins x = some (.type T)) (ha : PA X (e :: es) t) (hn : x ≠ "__name__" := by decide) (hdb : (x == ("__debug__" : Str)) = false := by decide)
    (he : starEach (e :: es) X.env = (false, eval e X.env) :: starEach es X.env := by rfl) (hpl : (backTo pos (starEach es X.env)).any (·.1) = false := by rfl) : PE X (.Call (.Name x p) (e :: es) [] pos) (tCB r t) := by
  intro pins s σ H Q I h
  refine wpAny_Call_Name_kw (ld_blt I hg hm hv ?_ hn hdb)
  exact PyProof.Rows.callWith_type1 (thn (ha pos pins s σ H _ I h) fun us s1 hq9 => AP.out hq9 fun vs H1 I1 r1 q1 => hc pins s1 σ H1 vs us Q I1 r1 q1) he hpl
end
end L2
namespace HT
open PySem PyProof.Rows
section
open PySem.SeqAt
open PySem.AutoSeq1 (wpAny_loadPart')
open PySem.MeetsSeq PySem.MeetsSeq2 PySem.MeetsSeq3
end
section
variable {prog : Program} {w : World} {A : Around} {E : Value → Shared → Prop} {s : Shared}
theorem cat_tup {t b : Addr} {vs ws : List Value} {Q : Value → Shared → Prop} (ht : IsTup s.heap t vs.toArray) (hb : IsTup s.heap b ws.toArray) (hv : vs ≠ [])
    (h1 : ws = [] → Q (.ref t) s) (h2 : ws ≠ [] → Q (.ref s.heap.objs.size) { s with heap := s.heap.push { cls := .type "tuple", data := .seq (vs ++ ws).toArray } })
    (hsz : vs.length + ws.length ≤ sizeLine) : wpAny (model prog w) A (binaryOp .Add (.ref t) (.ref b)) Q E s := by
  obtain ⟨⟨cls, dd, data, sl⟩, ho, hc, n, hd⟩ := id ht
  obtain ⟨⟨cls2, dd2, data2, sl2⟩, ho2, hc2, n2, hd2⟩ := id hb
  simp only at hc hd hc2 hd2
  subst hc hd hc2 hd2
  have e : vs.toArray ++ ws.toArray = (vs ++ ws).toArray := by simp
  by_cases hw : ws = []
  · exact concat_meets ⟨_, ho, rfl⟩ ⟨_, ho2, rfl⟩ noFill_tuple_add seq_tuple_add PySem.F.slot_tuple_add PySem.F.entry_tuple_add (PySem.F.args_tuple_add_2 _ _)
      (tuple_addW1 t b vs.toArray ws.toArray n n2 dd dd2 sl sl2 (by simpa using hv) (by simp [hw])) ⟨ho, ho2, h1 hw⟩
  · refine concat_meets ⟨_, ho, rfl⟩ ⟨_, ho2, rfl⟩ noFill_tuple_add seq_tuple_add PySem.F.slot_tuple_add PySem.F.entry_tuple_add (PySem.F.args_tuple_add_2 _ _)
      (tuple_addW2 t b vs.toArray ws.toArray n n2 dd dd2 sl sl2 (by simpa using hv) (by simpa using hw) (by rw [List.size_toArray, List.size_toArray]; exact hsz)) ⟨ho, ho2, ?_⟩
    rw [e]
    exact h2 hw
noncomputable def sIx (n d : Nat) : Option Int → Nat
  | none => d
  | some v => if v < 0 then (v + (n : Int)).toNat else min v.toNat n
theorem sIx_none (n d : Nat) : sIx n d none = d := rfl
theorem sIx_nat (n d k : Nat) : sIx n d (some (k : Int)) = min k n := by
  show (if (k : Int) < 0 then ((k : Int) + (n : Int)).toNat else min (k : Int).toNat n) = min k n
  rw [if_neg (by omega), Int.toNat_natCast]
theorem sIx_le (n d : Nat) (hd : d ≤ n) (o : Option Int) : sIx n d o ≤ n := by
  cases o with
  | none => exact hd
  | some v =>
    show (if v < 0 then (v + (n : Int)).toNat else min v.toNat n) ≤ n
    by_cases hv : v < 0
    · rw [if_pos hv]; omega
    · rw [if_neg hv]; exact Nat.min_le_right _ _
end
end HT
namespace L2
open PySem PySem.Spec PyProof.Rows
noncomputable abbrev TO := St → Hp → (Option Int → Hp → Prop) → Prop
noncomputable def PO (X : Cx) (e : Option Expr) (t : TO) : Prop :=
  ∀ (pins : List (Addr × Obj)) (s : Shared) (σ : St) (H : Hp) (Q : Option Int → Hp → Prop), Inv X pins σ H s → t σ H Q →
    wpAny (model X.prog X.w) X.A (evalPart e X.env) (fun u s' => ∃ o H', Inv X pins σ H' s' ∧ IsPart u o ∧ Q o H') X.xe s
noncomputable def tNoPart : TO := fun _ H Q => Q none H
noncomputable def tPart (t : TE) : TO := fun σ H Q => t σ H fun x H1 => ∃ i, x = .int i ∧ Q (some i) H1
theorem intsAre_of {ns : List Int} : ∀ {us : List Value}, Vals (ns.map V.int) us → IntsAre us ns := by
  induction ns with
  | nil => intro us r; rw [List.map_nil] at r; cases r; exact .nil
  | cons n ns ih =>
    intro us r
    rw [List.map_cons] at r
    cases r with
    | cons r1 r2 =>
      obtain ⟨t, e⟩ := r1
      subst e
      exact .cons n t (ih r2)
section
variable {X : Cx} {e : Expr} {te : TE} {lo hi : Option Expr} {tl th : TO} {pos p2 : Pos}
theorem po_none : PO X none tNoPart := by
  intro pins s σ H Q I h
  rw [evalPart_none]
  exact wpAny_pure ⟨none, H, I, .none, h⟩
theorem po_some (h : PE X e te) : PO X (some e) (tPart te) := by
  intro pins s σ H Q I hw
  rw [evalPart_some]
  refine thn (h pins s σ H _ I hw) fun u s1 hq9 => EP.out hq9 fun x H1 I1 r1 q1 => ?_
  obtain ⟨i, rfl, q⟩ := q1
  obtain ⟨t, rfl⟩ := r1
  exact ⟨some i, H1, I1, .int i t, q⟩
noncomputable def SlR (X : Cx) (r : V → Option Int → Option Int → Hp → VK → Prop) : Prop :=
  ∀ (pins : List (Addr × Obj)) (s : Shared) (σ : St) (H : Hp) (x : V) (v vl vu : Value) (lo hi : Option Int) (sl : Addr) (Q : VK), Inv X pins σ H s → RelV x v → s.heap.IsSliceOf sl vl vu .none → IsPart vl lo → IsPart vu hi → r x lo hi H Q →
    ∃ T id, typeLookup (.type T) "__getitem__" = pure (some (.builtin id)) ∧ s.TypeIs v T ∧ wpAny (model X.prog X.w) X.A (getItem v (.ref sl)) (EP X pins σ Q) X.xe s
noncomputable def tSl (r : V → Option Int → Option Int → Hp → VK → Prop) (te : TE) (tl th : TO) : TE := fun σ H Q => te σ H fun x H1 => tl σ H1 fun l H2 => th σ H2 fun u H3 => r x l u H3 Q
theorem pe_slice {r : V → Option Int → Option Int → Hp → VK → Prop} (hr : SlR X r) (he : PE X e te) (hl : PO X lo tl) (hu : PO X hi th) : PE X (.Subscript e (.Slice lo hi none p2) pos) (tSl r te tl th) := by
  intro pins s σ H Q I h
  refine Subscript_ (thn (he pins s σ H _ I h) fun v s1 hq9 => EP.out hq9 fun x H1 I1 r1 q1 => ?_)
  refine wpAny_Slice (thn (hl pins s1 σ H1 _ I1 q1) fun vl s2 hq9 => ex5 hq9 fun l H2 I2 pl q2 => thn (hu pins s2 σ H2 _ I2 q2) fun vu s3 hq9 => ex5 hq9 fun u H3 I3 pu q3 => ?_)
  rw [evalPart_none]
  refine wpAny_pure ?_
  have I4 : Inv X pins σ H3 { s3 with heap := s3.heap.push { cls := .type "slice", data := .fields #[vl, vu, .none] } } := I3.kept (t' := s3.toks) fun b ob q => Heap.get?_push_of_some _ q
  obtain ⟨T, id, hT, ht, hg⟩ := hr pins { s3 with heap := s3.heap.push { cls := .type "slice", data := .fields #[vl, vu, .none] } } σ H3 x v vl vu l u s3.heap.objs.size Q I4 r1 (Heap.IsSliceOf.new ..) pl pu q3
  show wpAny (model X.prog X.w) X.A (subscriptTail e (.Slice lo hi none p2) v (.ref s3.heap.objs.size)) (EP X pins σ Q) X.xe { s3 with heap := s3.heap.push { cls := .type "slice", data := .fields #[vl, vu, .none] } }
  exact tail_any (ops := [.ref s3.heap.objs.size, v]) ht hT hg (by with_unfolding_all rfl)
noncomputable def cutV (xs : List V) (lo hi : Option Int) : List V := (xs.drop (HT.sIx xs.length 0 lo)).take (HT.sIx xs.length xs.length hi - HT.sIx xs.length 0 lo)
theorem cutV_length (xs : List V) (lo hi : Option Int) : (cutV xs lo hi).length ≤ xs.length := by
  unfold cutV
  rw [List.length_take, List.length_drop]
  omega
noncomputable def rCatT (K : PySem.W.Frag) : R2 := fun x y H Q => ∃ a b xs ys, x = .ref a ∧ y = .ref b ∧ SqT K H a xs ∧ SqT K H b ys ∧ xs ≠ [] ∧ xs.length + ys.length ≤ sizeLine ∧
  (ys = [] → Q (.ref a) H) ∧ (ys ≠ [] → ∀ p, H p = none → Q (.ref p) (upd H p (.tup (xs ++ ys))))
theorem Vals.nil_iff {xs : List V} {us : List Value} (r : Vals xs us) : us = [] ↔ xs = [] := by
  cases r with
  | nil => simp
  | cons _ _ => simp
theorem op_catT : OpR X (binaryOp .Add) (rCatT X.K) := by
  intro pins s σ H x y v u Q I rx ry h
  obtain ⟨a, b, xs, ys, rfl, rfl, ha, hb, hx, hz, q1, q2⟩ := h
  cases rx
  cases ry
  obtain ⟨its, r1, p1, _⟩ := I.tuple ha
  obtain ⟨its2, r2, p2, _⟩ := I.tuple hb
  refine HT.cat_tup p1 p2 (fun z => hx (r1.nil_iff.mp z)) (fun z => ⟨.ref a, H, I, rfl, q1 (r2.nil_iff.mp z)⟩) (fun z => ?_) (by rw [← r1.length, ← r2.length]; exact hz)
  refine ⟨.ref s.heap.objs.size, _, I.laid (t' := s.toks) (o := .tup (xs ++ ys)) (fun b ob q => Heap.get?_push_of_some _ q) (Nat.le_refl _) ?_, rfl, q2 (fun w => z (r2.nil_iff.mpr w)) _ (I.hok.fresh (Nat.le_refl _))⟩
  exact ⟨by rw [List.length_append]; exact hz, _, r1.append r2, IsTup.new _ _⟩
end
end L2
namespace L2
open PySem PySem.Spec PyProof.Rows
noncomputable def ixN (n : Nat) (i : Int) : Option Nat := if 0 ≤ i then (if i < n then some i.toNat else none) else if -(n : Int) ≤ i then some (i + n).toNat else none
noncomputable def atI {α : Type} (xs : List α) (i : Int) : Option α := (ixN xs.length i).bind fun j => xs[j]?
theorem ixN_seq {n : Nat} {i : Int} {j : Nat} (h : ixN n i = some j) : seqIndex? i n = some j ∧ j < n ∧ -(n : Int) ≤ i ∧ i < n := by
  unfold ixN at h
  by_cases h0 : 0 ≤ i
  · rw [if_pos h0] at h
    by_cases h1 : i < n
    · rw [if_pos h1] at h
      have e : i.toNat = j := Option.some.inj h
      exact ⟨by rw [seqIndex_of h0 h1, e], by omega, by omega, h1⟩
    · rw [if_neg h1] at h; cases h
  · rw [if_neg h0] at h
    by_cases h1 : -(n : Int) ≤ i
    · rw [if_pos h1] at h
      have e : (i + n).toNat = j := Option.some.inj h
      exact ⟨by rw [seqIndex_neg (by omega) h1, e], by omega, h1, by omega⟩
    · rw [if_neg h1] at h; cases h
theorem atI_get {α : Type} {xs : List α} {i : Int} {v : α} (h : atI xs i = some v) : ∃ j, seqIndex? i xs.length = some j ∧ xs[j]? = some v ∧ j < xs.length ∧ -(xs.length : Int) ≤ i ∧ i < xs.length := by
  unfold atI at h
  cases e : ixN xs.length i with
  | none => rw [e] at h; cases h
  | some j =>
    rw [e] at h
    obtain ⟨h1, h2, h3, h4⟩ := ixN_seq e
    exact ⟨j, h1, h, h2, h3, h4⟩
theorem atI_nat {α : Type} {xs : List α} {j : Nat} {v : α} (h : xs[j]? = some v) : atI xs (j : Int) = some v := by
  have hj : j < xs.length := (List.getElem?_eq_some_iff.mp h).1
  have e : ixN xs.length (j : Int) = some j := by
    unfold ixN
    rw [if_pos (by omega), if_pos (by omega)]; simp
  unfold atI; rw [e]; exact h
noncomputable def PlainIx (b : Expr) : Prop := ∀ o i, subscripted b false o i = operate [o, i] (getItem o i)
noncomputable def IxR (X : Cx) (r : R2) : Prop :=
  ∀ (value slice : Expr) (pins : List (Addr × Obj)) (s : Shared) (σ : St) (H : Hp) (x y : V) (v u : Value) (Q : VK), Inv X pins σ H s → RelV x v → RelV y u → r x y H Q →
    subscripted slice false v u = operate [v, u] (getItem v u) → wpAny (model X.prog X.w) X.A (subscriptTail value slice v u) (EP X pins σ Q) X.xe s
noncomputable def MtR (X : Cx) (id : String) (r : V → List V → Hp → VK → Prop) : Prop :=
  ∀ (pins : List (Addr × Obj)) (s : Shared) (σ : St) (H : Hp) (x : V) (xs : List V) (v : Value) (us : List Value) (Q : VK), Inv X pins σ H s → RelV x v → Vals xs us → r x xs H Q →
    wpAny (model X.prog X.w) X.A (call (.builtin id) (v :: us)) (EP X pins σ Q) X.xe s
section
variable {X : Cx} {a b : Expr} {ta tb : TE} {pos : Pos}
theorem pe_ix {r : R2} (hr : IxR X r) (ha : PE X a ta) (hb : PE X b tb) (hs : PlainIx b) : PE X (.Subscript a b pos) (tOp r ta tb) := by
  intro pins s σ H Q I h
  exact Subscript_ (binT ha hb I h fun v u s2 x y H2 I2 rx ry q => hr a b pins s2 σ H2 x y v u Q I2 rx ry q (hs _ _))
noncomputable def rIxL (K : PySem.W.Frag) : R2 := fun x y H Q => ∃ p xs i v, x = .ref p ∧ y = .int i ∧ SqL K H p xs ∧ atI xs i = some v ∧ Q v H
noncomputable def rIxT (K : PySem.W.Frag) : R2 := fun x y H Q => ∃ p xs i v, x = .ref p ∧ y = .int i ∧ SqT K H p xs ∧ atI xs i = some v ∧ Q v H
noncomputable def rIxS : R2 := fun x y H Q => ∃ z i c, x = .str z ∧ y = .int i ∧ z.length ≤ sizeLine ∧ atI z.cps.toList i = some c ∧ Q (.str ⟨#[c]⟩) H
theorem ix_list : IxR X (rIxL X.K) := by
  intro value slice pins s σ H x y v u Q I rx ry h hs
  obtain ⟨p, xs, i, z, rfl, rfl, hq, he, q⟩ := h
  cases rx
  obtain ⟨t, rfl⟩ := ry
  obtain ⟨its, r, pl, hz⟩ := I.list hq
  obtain ⟨j, h1, h2, h3, h4, h5⟩ := atI_get he
  obtain ⟨w, ew, rw'⟩ := r.get h2
  have hl := r.length
  have hn := line63
  have fin : EP X pins σ Q w s := ⟨z, H, I, rw', q⟩
  by_cases h0 : 0 ≤ i
  · have hj : i.toNat = j := by
      rw [seqIndex_of h0 h5] at h1
      exact Option.some.inj h1
    exact item_listR pl.isList h0 (by omega) (by rw [hj]; simpa using ew) fin hs
  · have hj : (i + (its.toArray.size : Int)).toNat = j := by
      rw [seqIndex_neg (by omega) h4] at h1
      rw [List.size_toArray, ← hl]
      exact Option.some.inj h1
    exact subscriptTail_builtinR (x := w) pl.isList.typeIs slot_list_getitem.lookup
      (wpAny_getItem_list_neg (Q := fun r s' => r = w ∧ EP X pins σ Q r s') pl.isList (by omega) (by rw [List.size_toArray] <;> omega) (by omega) (by rw [hj]; simpa using ew) ⟨rfl, fin⟩) hs
theorem ix_tup : IxR X (rIxT X.K) := by
  intro value slice pins s σ H x y v u Q I rx ry h hs
  obtain ⟨p, xs, i, z, rfl, rfl, hq, he, q⟩ := h
  cases rx
  obtain ⟨t, rfl⟩ := ry
  obtain ⟨its, r, pl, hz⟩ := I.tuple hq
  obtain ⟨j, h1, h2, h3, h4, h5⟩ := atI_get he
  obtain ⟨w, ew, rw'⟩ := r.get h2
  have hl := r.length
  have hn := line63
  have fin : EP X pins σ Q w s := ⟨z, H, I, rw', q⟩
  exact subscriptTail_builtinR (x := w) pl.typeIs slot_tuple_getitem.lookup
    (getItem_tuple (j := j) (Q := fun r s' => r = w ∧ EP X pins σ Q r s') pl (by omega) (by omega) (by rw [List.size_toArray, ← hl]; exact h1) (by simpa using ew) ⟨rfl, fin⟩) hs
theorem ix_str : IxR X rIxS := by
  intro value slice pins s σ H x y v u Q I rx ry h hs
  obtain ⟨z, i, c, rfl, rfl, hz, he, q⟩ := h
  obtain ⟨t, rfl⟩ := rx
  obtain ⟨t', rfl⟩ := ry
  obtain ⟨j, h1, h2, h3, h4, h5⟩ := atI_get he
  have hl : z.cps.toList.length = z.length := by simp [Str.length]
  rw [hl] at h1 h4 h5
  have hn := line63
  exact tail_any (typeIs_str s z t) slot_str_getitem.lookup (getItem_str (c := c) (by
    have e1 : decide (i < -(2 ^ 63 : Int)) = false := decide_eq_false (by omega)
    have e2 : decide (i ≥ 2 ^ 63) = false := decide_eq_false (by omega)
    rw [e1, e2, Bool.or_false]) (by rw [h1]; simpa using h2) ⟨.str ⟨#[c]⟩, H, I.tok _, ⟨_, rfl⟩, q⟩) hs
theorem mapSeq_set (its : List Value) (n j : Nat) (u : Value) : Obj.mapSeq (·.setIfInBounds j u) { cls := .type "list", data := .seq its.toArray n } = { cls := .type "list", data := .seq (its.set j u).toArray n } := by
  simp [Obj.mapSeq]
theorem Inv.lst {pins : List (Addr × Obj)} {σ : St} {H : Hp} {s : Shared} {p : Addr} {xs : List V} (I : Inv X pins σ H s) (h : H p = some (.lst xs)) :
    ∃ (its : List Value) (n : Nat), Vals xs its ∧ s.heap.get? p = some { cls := .type "list", data := .seq its.toArray n } ∧ xs.length ≤ sizeLine := by
  obtain ⟨z, its, n, r, e⟩ := I.hok p _ h
  exact ⟨its, n, r, e, z⟩
theorem Inv.lstUpd {pins : List (Addr × Obj)} {σ : St} {H : Hp} {s : Shared} {p : Addr} {xs ys : List V} {its its' : List Value} {n n' : Nat} {f : Obj → Obj} (I : Inv X pins σ H s) (h : H p = some (.lst xs))
    (ho : s.heap.get? p = some { cls := .type "list", data := .seq its.toArray n }) (hf : f { cls := .type "list", data := .seq its.toArray n } = { cls := .type "list", data := .seq its'.toArray n' }) (r : Vals ys its') (hz : ys.length ≤ sizeLine) (t : Nat) :
    Inv X pins σ (upd H p (.lst ys)) { s with heap := s.heap.update p f, toks := t } := by
  have e : (s.heap.update p f).get? p = some { cls := .type "list", data := .seq its'.toArray n' } := by
    rw [Heap.get?_update_self f ho (by rw [hf] <;> rfl), hf]
  refine I.write (x := p) (e := p) (by rw [h]; trivial) (.inl rfl) (fun b u hb q => (Heap.get?_update_other _ _ (Ne.symm hb)).trans q) ⟨_, e⟩ ?_
  exact ⟨hz, its', n', r, e⟩
noncomputable def rSetL : V → V → V → Hp → (Hp → Prop) → Prop := fun o i v H Q => ∃ p xs k j, o = .ref p ∧ i = .int k ∧ H p = some (.lst xs) ∧ ixN xs.length k = some j ∧ Q (upd H p (.lst (xs.set j v)))
theorem set_list : PSet X rSetL := by
  intro pins s σ H o i v ov iv u Q I ro ri rv h
  obtain ⟨p, xs, k, j, rfl, rfl, hp, hj, q⟩ := h
  cases ro
  obtain ⟨t, rfl⟩ := ri
  obtain ⟨its, n, r, ho, hz⟩ := I.lst hp
  obtain ⟨h1, h2, h3, h4⟩ := ixN_seq hj
  have hl := r.length
  have hn := line63
  have I' : Inv X pins σ (upd H p (.lst (xs.set j v))) { s with heap := s.heap.update p (Obj.mapSeq (·.setIfInBounds j u)) } :=
    I.lstUpd hp ho (mapSeq_set its n j u) (r.set rv j) (by rw [List.length_set]; exact hz) s.toks
  by_cases h0 : 0 ≤ k
  · have hk : k.toNat = j := by
      rw [seqIndex_of h0 h4] at h1
      exact Option.some.inj h1
    exact PySem.W.ki_setAt ho h0 (by omega) (by rw [List.size_toArray, ← hl]; exact h4) (by rw [hk]; exact ⟨_, I', q⟩)
  · have hk : (k + (its.toArray.size : Int)).toNat = j := by
      rw [seqIndex_neg (by omega) h3] at h1
      rw [List.size_toArray, ← hl]
      exact Option.some.inj h1
    exact PySem.W.ki_setBack ho (by omega) (by rw [List.size_toArray, ← hl]; exact h3) (by omega) (by rw [hk]; exact ⟨_, I', q⟩)
theorem slice_bounds (lo hi : Option Int) (n : Nat) : (sliceBounds lo hi none n).1 = ((HT.sIx n 0 lo : Nat) : Int) ∧ (sliceBounds lo hi none n).2.1 = ((HT.sIx n n hi : Nat) : Int) ∧ (sliceBounds lo hi none n).2.2 = 1 := by
  refine ⟨?_, ?_, rfl⟩
  · cases lo with
    | none => simp [sliceBounds, HT.sIx]
    | some i =>
      simp only [sliceBounds, HT.sIx, Option.getD_none, show (1 : Int) > 0 by decide, if_true]
      by_cases h : i < 0
      · simp only [h, if_true] <;> omega
      · simp only [h, if_false] <;> omega
  · cases hi with
    | none => simp [sliceBounds, HT.sIx]
    | some i =>
      simp only [sliceBounds, HT.sIx, Option.getD_none, show (1 : Int) > 0 by decide, if_true]
      by_cases h : i < 0
      · simp only [h, if_true] <;> omega
      · simp only [h, if_false] <;> omega
theorem slicePick_cut (its : List Value) (lo hi : Option Int) : slicePick its.toArray lo hi none = ((its.drop (HT.sIx its.length 0 lo)).take (HT.sIx its.length its.length hi - HT.sIx its.length 0 lo)).toArray := by
  obtain ⟨h1, h2, h3⟩ := slice_bounds lo hi its.toArray.size
  unfold slicePick
  rw [h1, h2, h3]
  simp only [sliceRange_one, pick_run, List.size_toArray] <;> rfl
noncomputable def rSlL (K : PySem.W.Frag) : V → Option Int → Option Int → Hp → VK → Prop := fun x lo hi H Q => ∃ a xs, x = .ref a ∧ SqL K H a xs ∧ ∀ p, H p = none → Q (.ref p) (upd H p (.lst (cutV xs lo hi)))
theorem sl_list : SlR X (rSlL X.K) := by
  intro pins s σ H x v vl vu lo hi sl Q I rx hs pl pu h
  obtain ⟨a, xs, rfl, hx, q⟩ := h
  cases rx
  obtain ⟨its, r, ht, hz⟩ := I.list hx
  have hlen := r.length
  refine ⟨"list", _, slot_list_getitem.lookup, ht.isList.typeIs, ?_⟩
  refine wpAny_getItem_list_slice ht.isList hs pl pu .none (by simp) ?_ (by rw [List.size_toArray] <;> omega)
  rw [slicePick_cut, ← hlen]
  refine ⟨.ref s.heap.objs.size, _, I.laid (t' := s.toks) (o := .lst (cutV xs lo hi)) (fun b ob q => Heap.get?_push_of_some _ q) (Nat.le_refl _) ?_, rfl, q _ (I.hok.fresh (Nat.le_refl _))⟩
  exact ⟨Nat.le_trans (cutV_length xs lo hi) hz, _, 0, (r.drop (HT.sIx xs.length 0 lo)).take (HT.sIx xs.length xs.length hi - HT.sIx xs.length 0 lo), Heap.get?_push_size _ rfl⟩
theorem call_len_seq : CallR X (.builtin "len") (fun xs H Q => ∃ p ys, xs = [.ref p] ∧ (SqL X.K H p ys ∨ SqT X.K H p ys) ∧ Q (.int ys.length) H) := by
  intro pins s σ H xs us Q I r h
  obtain ⟨p, ys, rfl, hq, q⟩ := h
  obtain ⟨u, rfl, rx⟩ := vals1 r
  cases rx
  have hn := line63
  rcases hq with hq | hq
  · obtain ⟨its, r', pl, hz⟩ := I.list hq
    have hlen := r'.length
    exact Calls.call_len_list pl.isList (by simp only [List.size_toArray] <;> omega) ⟨.int ys.length, H, I.tok _, ⟨s.toks + 1, by rw [List.size_toArray, hlen]⟩, q⟩
  · obtain ⟨its, r', pl, hz⟩ := I.tuple hq
    have hlen := r'.length
    exact len_tuple pl (by simp only [List.size_toArray] <;> omega) ⟨.int ys.length, H, I.tok _, ⟨s.toks + 1, by rw [List.size_toArray, hlen]⟩, q⟩
theorem call_list_of : CallR X (.type "list") (fun xs H Q => ∃ p ys, xs = [.ref p] ∧ (SqL X.K H p ys ∨ SqT X.K H p ys) ∧ ∀ l, H l = none → Q (.ref l) (upd H l (.lst ys))) := by
  intro pins s σ H xs us Q I r h
  obtain ⟨p, ys, rfl, hq, q⟩ := h
  obtain ⟨u, rfl, rx⟩ := vals1 r
  cases rx
  have fin : ∀ (its : List Value), Vals ys its → ys.length ≤ sizeLine → ∀ (h' : Heap) (c' : Nat), (∀ b o', s.heap.get? b = some o' → h'.get? b = some o') →
      h'.get? s.heap.objs.size = some { cls := .type "list", dict := none, data := .seq its.toArray c', slots := #[] } → EP X pins σ Q (.ref s.heap.objs.size) { s with heap := h' } := fun its r' hz h' c' kp e =>
    ⟨.ref s.heap.objs.size, _, I.laid (t' := s.toks) kp (Nat.le_refl _) (show ObjOk X.prog X.w _ h' _ (.lst ys) from ⟨hz, its, c', r', e⟩), rfl, q _ (I.hok.fresh (Nat.le_refl _))⟩
  rcases hq with hq | hq
  · obtain ⟨its, r', pl, hz⟩ := I.list hq
    have hlen := r'.length
    obtain ⟨o, ho, hc, n, hd⟩ := pl.isList
    exact call_list_seq p (.inl rfl) ho hc hd (fun h' c' kp e => fin its r' hz h' c' kp e) (by simp only [List.size_toArray] <;> omega)
  · obtain ⟨its, r', pl, hz⟩ := I.tuple hq
    have hlen := r'.length
    obtain ⟨o, ho, hc, n, hd⟩ := pl
    exact call_list_seq p (.inr rfl) ho hc hd (fun h' c' kp e => fin its r' hz h' c' kp e) (by simp only [List.size_toArray] <;> omega)
noncomputable def tyV (K : PySem.W.Frag) (T : String) (x : V) (H : Hp) : Prop := match x with
  | .str _ => T = "str"
  | .int _ => T = "int"
  | .ref p => (T = "list" ∧ ∃ xs, SqL K H p xs) ∨ (T = "tuple" ∧ ∃ o, K.lookup p = some o ∧ o.cls = .type "tuple" ∧ o.dict = none) ∨
      (T = "dict" ∧ ((∃ kvs, H p = some (.dK kvs)) ∨ ∃ kvs, H p = some (.dT kvs))) ∨ (T = "set" ∧ ∃ S n, H p = some (.set S n))
  | _ => False
theorem tyV_is {pins : List (Addr × Obj)} {σ : St} {H : Hp} {s : Shared} {T : String} {x : V} {v : Value} (I : Inv X pins σ H s) (r : RelV x v) (ty : tyV X.K T x H) :
    s.TypeIs v T ∧ ∀ a, v = .ref a → ∃ ob, s.heap.get? a = some ob ∧ ob.dict = none := by
  cases x with
  | str z =>
    obtain ⟨t, rfl⟩ := r
    cases (show T = "str" from ty)
    exact ⟨typeIs_str s z t, fun _ e => nomatch e⟩
  | int i =>
    obtain ⟨t, rfl⟩ := r
    cases (show T = "int" from ty)
    exact ⟨typeIs_int s i t, fun _ e => nomatch e⟩
  | ref p =>
    cases r
    rcases ty with ⟨rfl, xs, hq⟩ | ⟨rfl, o, hk, hc, hd⟩ | ⟨rfl, hk⟩ | ⟨rfl, S, n, hk⟩
    · obtain ⟨its, _, pl, _⟩ := I.list hq
      refine ⟨pl.isList.typeIs, fun a e => ?_⟩
      cases e
      obtain ⟨o, n, e, c, hd, _⟩ := pl
      exact ⟨o, e, hd⟩
    · refine ⟨⟨o, I.kIn p o hk, hc⟩, fun a e => ?_⟩
      cases e
      exact ⟨o, I.kIn _ o hk, hd⟩
    · have z : ∃ o, s.heap.get? p = some o ∧ o.ExactDict := by
        rcases hk with ⟨kvs, hk⟩ | ⟨kvs, hk⟩
        · obtain ⟨_, _, _, _, o, _, _, e, ex, _⟩ := I.hok p _ hk
          exact ⟨o, e, ex⟩
        · obtain ⟨_, _, _, _, o, _, _, e, ex, _⟩ := I.hok p _ hk
          exact ⟨o, e, ex⟩
      obtain ⟨o, e, ex⟩ := z
      refine ⟨⟨o, e, ex.1⟩, fun a e2 => ?_⟩
      cases e2
      exact ⟨o, e, ex.2.1⟩
    · obtain ⟨o, _, _, _, e, ex, _⟩ := I.hok p _ hk
      refine ⟨⟨o, e, ex.1⟩, fun a e2 => ?_⟩
      cases e2
      exact ⟨o, e, ex.2.1⟩
  | _ => exact False.elim ty
noncomputable def tBM0 (K : PySem.W.Frag) (T : String) (r : V → List V → Hp → VK → Prop) (to : TE) : TE := fun σ H Q => to σ H fun x H1 => tyV K T x H1 ∧ r x [] H1 Q
noncomputable def tBM (K : PySem.W.Frag) (T : String) (r : V → List V → Hp → VK → Prop) (to : TE) (t : TA) : TE := fun σ H Q => to σ H fun x H1 => tyV K T x H1 ∧ t σ H1 fun xs H2 => r x xs H2 Q
variable {o e : Expr} {es : List Expr} {to : TE} {t : TA} {name : Str} {apos cpos : Pos} {T id : String} {r : V → List V → Hp → VK → Prop}
theorem pe_bm0 (pa : PlainAttrs T) (slot : Slot T name id) (hty : typeOf (.builtin id) = pure (.type "method_descriptor")) (hm : MtR X id r) (ho : PE X o to)
    (hbase : attributeBase o name X.env (eval o X.env) = eval o X.env := by rfl) (hline : (apos.endLine == cpos.line) = true := by rfl) : PE X (.Call (.Attribute o name apos) [] [] cpos) (tBM0 X.K T r to) := by
  intro pins s σ H Q I h
  refine wpAny_Call_method0_late hbase hline (thn (ho pins s σ H _ I h) fun v s1 hq8 => ?_)
  obtain ⟨x, H1, I1, r1, ty, q1⟩ := hq8
  obtain ⟨h1, h2⟩ := tyV_is I1 r1 ty
  exact ⟨T, id, pa, slot, hty, h1, h2, Calls.callWith_builtin rfl (PySem.evalArgs_none (hm pins s1 σ H1 x [] v [] Q I1 r1 .nil q1))⟩
theorem pe_bm (pa : PlainAttrs T) (slot : Slot T name id) (hty : typeOf (.builtin id) = pure (.type "method_descriptor")) (hm : MtR X id r) (ho : PE X o to) (ha : PA X (e :: es) t)
    (hbase : attributeBase o name X.env (eval o X.env) = eval o X.env := by rfl)
    (hfew : ((backTo cpos (starEach (e :: es) X.env)).all (fun x => !x.1) && (backToKw cpos (keywordEach [] X.env)).all (fun x => x.1.isSome)
      && decide ((e :: es).length + ([] : List Keyword).length + (if ([] : List Keyword).isEmpty then 0 else 1) < 30)) = true := by rfl)
    (hline : (apos.endLine == cpos.line) = true := by rfl) (hs : starEach (e :: es) X.env = (false, eval e X.env) :: starEach es X.env := by rfl) (hplain : (backTo cpos (starEach es X.env)).any (·.1) = false := by rfl) :
    PE X (.Call (.Attribute o name apos) (e :: es) [] cpos) (tBM X.K T r to t) := by
  intro pins s σ H Q I h
  refine wpAny_Call_method_late hbase hfew hline rfl (thn (ho pins s σ H _ I h) fun v s1 hq8 => ?_)
  obtain ⟨x, H1, I1, r1, ty, q1⟩ := hq8
  obtain ⟨h1, h2⟩ := tyV_is I1 r1 ty
  refine ⟨T, id, pa, slot, hty, h1, h2, ?_⟩
  have hA := ha cpos pins s1 σ H1 _ I1 q1
  rw [hs] at hA ⊢
  refine Calls.callWith_builtin (by show (false || (backTo cpos (starEach es X.env)).any (·.1)) = false; rw [hplain] <;> rfl) (Calls.evalArgs_plain ?_)
  exact thn hA fun us s2 hq9 => AP.out hq9 fun vs H2 I2 r2 q2 => hm pins s2 σ H2 x vs v us Q I2 r1 r2 q2
end
end L2
namespace L2
open PySem PySem.Spec PyProof.Rows
noncomputable def MtM (X : Cx) (id : String) (r : V → List V → Hp → VK → Prop) : Prop :=
  ∀ (pins : List (Addr × Obj)) (s : Shared) (σ : St) (H : Hp) (x : V) (xs : List V) (v : Value) (us : List Value) (Q : VK), Inv X pins σ H s → RelV x v → Vals xs us → r x xs H Q →
    wpAny (model X.prog X.w) X.A (call (.builtin id) (v :: us)) (EP X pins σ Q) X.xe s
theorem Vals.one {x : V} {us : List Value} (h : Vals [x] us) : ∃ u, us = [u] ∧ RelV x u := by
  cases h with
  | cons r t =>
    cases t
    exact ⟨_, rfl, r⟩
theorem Vals.zero {us : List Value} (h : Vals [] us) : us = [] := by
  cases h
  rfl
theorem Vals.dropLast {xs : List V} {us : List Value} (h : Vals xs us) : Vals xs.dropLast us.dropLast := by
  induction h with
  | nil => exact .nil
  | cons r t ih =>
    cases t with
    | nil => exact .nil
    | cons q t' => exact .cons r ih
theorem Vals.eraseIdx : ∀ {xs : List V} {us : List Value} (i : Nat), Vals xs us → Vals (xs.eraseIdx i) (us.eraseIdx i)
  | _, _, _, .nil => .nil
  | _, _, 0, .cons _ t => t
  | _, _, i + 1, .cons r t => .cons r (Vals.eraseIdx i t)
theorem erase_last {α : Type} (l : List α) : l.eraseIdx (l.length - 1) = l.dropLast := by
  induction l with
  | nil => rfl
  | cons a r ih =>
    cases r with
    | nil => rfl
    | cons b r =>
      have e : (a :: b :: r).length - 1 = ((b :: r).length - 1) + 1 := by
        have h1 : (a :: b :: r).length = r.length + 2 := rfl
        have h2 : (b :: r).length = r.length + 1 := rfl
        omega
      rw [e, List.eraseIdx_cons_succ, ih]
      all_goals rfl
theorem len_erase {α : Type} : ∀ (l : List α) (i : Nat), (l.eraseIdx i).length ≤ l.length
  | [], _ => Nat.le_refl _
  | _ :: _, 0 => Nat.le_succ _
  | _ :: r, i + 1 => Nat.succ_le_succ (len_erase r i)
section
variable {X : Cx} {pins : List (Addr × Obj)} {σ : St} {H : Hp} {s : Shared} {l b : Addr} {xs ys zs : List V}
theorem Inv.lset {its its' : List Value} {n : Nat} {f : Array Value → Array Value} {t' : Nat} (I : Inv X pins σ H s) (hH : H l = some (.lst xs))
    (e : s.heap.get? l = some { cls := .type "list", data := .seq its.toArray n }) (hf : f its.toArray = its'.toArray) (hv : Vals ys its') (hz : ys.length ≤ sizeLine) :
    Inv X pins σ (upd H l (.lst ys)) { s with heap := s.heap.update l (Obj.mapSeq f), toks := t' } := by
  have q := PySem.IsL.update e f
  rw [hf] at q
  refine I.write (x := l) (e := l) (by rw [hH]; exact trivial) (.inl rfl) (fun b' u hb hu => (Heap.get?_update_other s.heap (Obj.mapSeq f) (Ne.symm hb)).trans hu) ⟨_, q⟩ ?_
  exact ⟨hz, its', _, hv, q⟩
theorem Inv.lnew {its : List Value} {t' : Nat} (I : Inv X pins σ H s) (hv : Vals ys its) (hz : ys.length ≤ sizeLine) :
    Inv X pins σ (upd H s.heap.objs.size (.lst ys)) { s with heap := s.heap.push { cls := .type "list", data := .seq its.toArray }, toks := t' } :=
  I.laid (fun _ _ q => Heap.get?_push_of_some _ q) (Nat.le_refl _) ⟨hz, its, 0, hv, Heap.get?_push_size _ rfl⟩
theorem Inv.fresh (I : Inv X pins σ H s) : H s.heap.objs.size = none := I.hok.fresh (Nat.le_refl _)
theorem Inv.lstM (I : Inv X pins σ H s) (hH : H l = some (.lst xs)) : xs.length ≤ sizeLine ∧ ∃ (its : List Value) (n : Nat), Vals xs its ∧ xs.length = its.length ∧ s.heap.get? l = some { cls := .type "list", data := .seq its.toArray n } := by
  obtain ⟨z, its, n, r, e⟩ := I.hok l _ hH
  exact ⟨z, its, n, r, r.length, e⟩
theorem notLongL {n : Nat} (h : n ≤ sizeLine) : Builtin.List.listTooLong n = false := by
  unfold Builtin.List.listTooLong
  exact decide_eq_false (by omega)
end
section
variable {X : Cx}
noncomputable def rAppend : V → List V → Hp → VK → Prop := fun x vs H Q => ∃ l xs y, x = .ref l ∧ vs = [y] ∧ H l = some (.lst xs) ∧ xs.length < sizeLine ∧ Q .non (upd H l (.lst (xs ++ [y])))
theorem mt_append : MtM X "list.append" rAppend := by
  intro pins s σ H x vs v us Q I rx rv h
  obtain ⟨l, xs, y, rfl, rfl, hH, hz, q⟩ := h
  cases rx
  obtain ⟨u, rfl, ru⟩ := rv.one
  obtain ⟨z, its, n, r, hl, e⟩ := I.lstM hH
  refine call_meets F.slot_list_append ⟨_, e, rfl⟩ F.entry_list_append (F.args_list_append_2 _ _) (PySem.list_append l its.toArray n u (by rw [List.size_toArray]; omega)) ⟨e, ?_⟩
  refine ⟨.non, _, I.lset (its' := its ++ [u]) hH e (by simp) (r.append (.cons ru .nil)) ?_, rfl, q⟩
  rw [List.length_append, List.length_singleton]
  omega
noncomputable def rExtend : V → List V → Hp → VK → Prop := fun x vs H Q => ∃ l b xs zs, x = .ref l ∧ vs = [.ref b] ∧ H l = some (.lst xs) ∧ H b = some (.lst zs) ∧ xs.length + zs.length ≤ sizeLine ∧ Q .non (upd H l (.lst (xs ++ zs)))
theorem mt_extend : MtM X "list.extend" rExtend := by
  intro pins s σ H x vs v us Q I rx rv h
  obtain ⟨l, b, xs, zs, rfl, rfl, hH, hB, hz, q⟩ := h
  cases rx
  obtain ⟨u, rfl, ru⟩ := rv.one
  cases ru
  obtain ⟨z, its, n, r, hl, e⟩ := I.lstM hH
  obtain ⟨z2, its2, n2, r2, hl2, e2⟩ := I.lstM hB
  have hsz : its.toArray.size + its2.toArray.size ≤ sizeLine := by rw [List.size_toArray, List.size_toArray]; omega
  have hlong : ¬ (!its.toArray.isEmpty && Builtin.List.listTooLong (its.toArray.size + its2.toArray.size)) = true := by
    rw [notLongL hsz, Bool.and_false]
    exact Bool.false_ne_true
  refine call_meets F.slot_list_extend ⟨_, e, rfl⟩ F.entry_list_extend (F.args_list_extend_2 _ _)
    (AutoSeq1.list_extend_list_list_0 l its.toArray n b its2.toArray n2 hlong (by rw [List.size_toArray]; omega) (by omega)) ⟨e, e2, ?_⟩
  refine ⟨.non, _, I.lset (its' := its ++ its2) hH e (by simp) (r.append r2) ?_, rfl, q⟩
  rw [List.length_append]
  omega
noncomputable def rPop : V → List V → Hp → VK → Prop := fun x vs H Q => ∃ l xs y, x = .ref l ∧ vs = [] ∧ H l = some (.lst xs) ∧ xs[xs.length - 1]? = some y ∧ Q y (upd H l (.lst xs.dropLast))
theorem mt_pop : MtM X "list.pop" rPop := by
  intro pins s σ H x vs v us Q I rx rv h
  obtain ⟨l, xs, y, rfl, rfl, hH, hy, q⟩ := h
  cases rx
  have hus := rv.zero
  subst hus
  obtain ⟨z, its, n, r, hl, e⟩ := I.lstM hH
  obtain ⟨u, hu, ru⟩ := r.get hy
  have hy' : its.toArray[its.toArray.size - 1]? = some u := by
    show its.toArray[its.length - 1]? = some u
    rw [← Array.getElem?_toList, ← hl]
    exact hu
  refine call_meets F.slot_list_pop ⟨_, e, rfl⟩ F.entry_list_pop (F.args_list_pop_1 _) (MeetsSeq.list_pop_last l its.toArray n u hy' (by rw [List.size_toArray]; omega)) ⟨e, ?_⟩
  refine ⟨y, _, I.lset (its' := its.dropLast) hH e ?_ r.dropLast ?_, ru, q⟩
  · show its.toArray.eraseIdxIfInBounds (its.toArray.size - 1) = its.dropLast.toArray
    rw [List.size_toArray, List.eraseIdxIfInBounds_toArray, erase_last]
  · rw [List.length_dropLast]
    omega
noncomputable def rCat : R2 := fun x y H Q => ∃ l b xs zs, x = .ref l ∧ y = .ref b ∧ H l = some (.lst xs) ∧ H b = some (.lst zs) ∧ xs.length + zs.length ≤ sizeLine ∧ ∀ p, H p = none → Q (.ref p) (upd H p (.lst (xs ++ zs)))
theorem op_cat : OpR X (binaryOp .Add) rCat := by
  intro pins s σ H x y v u Q I rx ry h
  obtain ⟨l, b, xs, zs, rfl, rfl, hH, hB, hz, q⟩ := h
  cases rx
  cases ry
  obtain ⟨z, its, n, r, hl, e⟩ := I.lstM hH
  obtain ⟨z2, its2, n2, r2, hl2, e2⟩ := I.lstM hB
  refine PySem.P.add_list e e2 ?_ (by rw [List.size_toArray, List.size_toArray]; omega)
  have ea : its.toArray ++ its2.toArray = (its ++ its2).toArray := by simp
  rw [ea]
  exact ⟨.ref _, _, I.lnew (t' := s.toks) (r.append r2) (by rw [List.length_append]; omega), rfl, q _ I.fresh⟩
end
section
variable {prog : Program} {w : World} {A : Around} {E : Value → Shared → Prop} {s : Shared}
end
section
variable {X : Cx}
end
end L2
namespace L2
open PySem PySem.Spec PyProof.Rows
section
variable {κ : Type} [DecidableEq κ]
noncomputable def valV (kvs : List (κ × V)) (k : κ) : Option V := (kvs.find? fun kv => decide (kv.1 = k)).map (·.2)
noncomputable def putK (kvs : List (κ × V)) (k : κ) (v : V) : List (κ × V) :=
  if (kvs.any fun kv => decide (kv.1 = k)) = true then kvs.map (fun kv => if kv.1 = k then (kv.1, v) else kv) else kvs ++ [(k, v)]
theorem valV_pos {p : κ × V} {r : List (κ × V)} {k : κ} (e : p.1 = k) : valV (p :: r) k = some p.2 := by simp [valV, List.find?_cons, e]
theorem valV_neg {p : κ × V} {r : List (κ × V)} {k : κ} (e : ¬ p.1 = k) : valV (p :: r) k = valV r k := by simp [valV, List.find?_cons, e]
theorem valV_any (k : κ) : ∀ kvs : List (κ × V), (kvs.any fun kv => decide (kv.1 = k)) = (valV kvs k).isSome
  | [] => rfl
  | p :: r => by
    rw [List.any_cons]
    by_cases e : p.1 = k
    · simp only [valV_pos e, decide_eq_true e, Bool.true_or, Option.isSome_some]
    · rw [valV_neg e, decide_eq_false e, Bool.false_or]; exact valV_any k r
theorem length_putK (kvs : List (κ × V)) (k : κ) (v : V) : (putK kvs k v).length ≤ kvs.length + 1 := by
  unfold putK
  split
  · rw [List.length_map]; omega
  · rw [List.length_append, List.length_cons, List.length_nil]; omega
theorem RelO.isSome_eq {o : Option V} {u : Option Value} (r : RelO o u) : o.isSome = u.isSome := by
  cases o with
  | none => cases u with
    | none => rfl
    | some _ => exact (show False from r).elim
  | some _ => cases u with
    | none => exact (show False from r).elim
    | some _ => rfl
theorem KV.val {kvs : List (κ × V)} {vs : List (κ × Value)} (r : KV kvs vs) (k : κ) : RelO (valV kvs k) (valueAt vs k) := by
  unfold KV at r
  induction r with
  | nil => exact True.intro
  | @cons p q ps qs h t ih =>
    obtain ⟨h1, h2⟩ := h
    by_cases e : p.1 = k
    · have e' : q.1 = k := h1.symm.trans e
      have b : valueAt (q :: qs) k = some q.2 := by simp [valueAt, List.find?_cons, e']
      rw [valV_pos e, b]; exact h2
    · have e' : ¬ q.1 = k := fun z => e (h1.trans z)
      have b : valueAt (q :: qs) k = valueAt qs k := by simp [valueAt, List.find?_cons, e']
      rw [valV_neg e, b]; exact ih
theorem KV.any {kvs : List (κ × V)} {vs : List (κ × Value)} (r : KV kvs vs) (k : κ) : (kvs.any fun kv => decide (kv.1 = k)) = vs.any fun kv => decide (kv.1 = k) := by
  unfold KV at r
  induction r with
  | nil => rfl
  | cons h t ih => rw [List.any_cons, List.any_cons, ih, h.1]
theorem KV.repl {kvs : List (κ × V)} {vs : List (κ × Value)} (r : KV kvs vs) (k : κ) {y : V} {u : Value} (ry : RelV y u) :
    KV (kvs.map fun kv => if kv.1 = k then (kv.1, y) else kv) (vs.map fun kv => if kv.1 = k then (kv.1, u) else kv) := by
  unfold KV at r ⊢
  induction r with
  | nil => exact .nil
  | @cons p q ps qs h t ih =>
    rw [List.map_cons, List.map_cons]
    refine .cons ?_ ih
    obtain ⟨h1, h2⟩ := h
    by_cases e : p.1 = k
    · rw [if_pos e, if_pos (h1.symm.trans e)]; exact ⟨h1, ry⟩
    · rw [if_neg e, if_neg (fun z => e (h1.trans z))]; exact ⟨h1, h2⟩
theorem KV.put {kvs : List (κ × V)} {vs : List (κ × Value)} (r : KV kvs vs) (k : κ) {y : V} {u : Value} (ry : RelV y u) : KV (putK kvs k y) (stored vs k u) := by
  unfold putK stored
  rw [r.any k]
  by_cases e : (vs.any fun kv => decide (kv.1 = k)) = true
  · rw [if_pos e, if_pos e]; exact r.repl k ry
  · rw [if_neg e, if_neg e]; exact Paired.snoc r ⟨rfl, ry⟩
theorem KV.length {kvs : List (κ × V)} {vs : List (κ × Value)} (r : KV kvs vs) : kvs.length = vs.length := Paired.length r
end
theorem kV_is {P : Program} {w : World} {k : Key} {u : Value} (r : RelV (kV k) u) : (mixKind P w).is k u = true := by
  cases k with
  | inl i => obtain ⟨t, e⟩ := (show ∃ t, u = Value.int i t from r); subst e; exact mixKind_int P w i t
  | inr x => obtain ⟨t, e⟩ := (show ∃ t, u = Value.str x t from r); subst e; exact mixKind_str P w x t
theorem items_are {P : Program} {w : World} : ∀ {ks : List Key} {us : List Value}, Vals (ks.map kV) us → ItemsAre (mixKind P w) ks us
  | [], _, r => by rw [List.map_nil] at r; cases r; exact .nil
  | k :: ks, _, r => by
    rw [List.map_cons] at r
    cases r with
    | cons h t => exact .cons (kV_is h) (items_are t)
noncomputable abbrev KT (H : Hp) : List (List Key × V) → List (List Key × Addr × Value) → Prop := Paired fun p q => p.1 = q.1 ∧ H q.2.1 = some (.tup (p.1.map kV)) ∧ RelV p.2 q.2.2
theorem KT.val {H : Hp} {kvs : List (List Key × V)} {xs : List (List Key × Addr × Value)} (r : KT H kvs xs) (k : List Key) : RelO (valV kvs k) ((atKey xs k).map (·.2)) := by
  induction r with
  | nil => exact True.intro
  | @cons p q ps qs h t ih =>
    obtain ⟨h1, _, h2⟩ := h
    by_cases e : p.1 = k
    · have e' : q.1 = k := h1.symm.trans e
      have b : atKey (q :: qs) k = some q.2 := by simp [atKey, List.find?_cons, e']
      rw [valV_pos e, b]; exact h2
    · have e' : ¬ q.1 = k := fun z => e (h1.trans z)
      have b : atKey (q :: qs) k = atKey qs k := by simp [atKey, List.find?_cons, e']
      rw [valV_neg e, b]; exact ih
theorem KT.repl {H : Hp} {kvs : List (List Key × V)} {xs : List (List Key × Addr × Value)} (r : KT H kvs xs) (k : List Key) {y : V} {u : Value} (ry : RelV y u) :
    KT H (kvs.map fun kv => if kv.1 = k then (kv.1, y) else kv) (xs.map (putAt k u)) := by
  induction r with
  | nil => exact .nil
  | @cons p q ps qs h t ih =>
    rw [List.map_cons, List.map_cons]
    refine .cons ?_ ih
    obtain ⟨h1, h2, h3⟩ := h
    unfold putAt
    by_cases e : p.1 = k
    · rw [if_pos e, if_pos (h1.symm.trans e)]; exact ⟨h1, h2, ry⟩
    · rw [if_neg e, if_neg (fun z => e (h1.trans z))]; exact ⟨h1, h2, h3⟩
theorem KT.put {H : Hp} {kvs : List (List Key × V)} {xs : List (List Key × Addr × Value)} (r : KT H kvs xs) (k : List Key) {b : Addr} {y : V} {u : Value} (hb : H b = some (.tup (k.map kV))) (ry : RelV y u) :
    KT H (putK kvs k y) (storedH xs k b u) := by
  have e : (kvs.any fun kv => decide (kv.1 = k)) = (atKey xs k).isSome := by
    rw [valV_any, (r.val k).isSome_eq, Option.isSome_map]
  unfold putK storedH
  rw [e]
  by_cases q : (atKey xs k).isSome = true
  · rw [if_pos q, if_pos q]; exact r.repl k ry
  · rw [if_neg q, if_neg q]; exact Paired.snoc r ⟨rfl, hb, ry⟩
theorem KT.keeps {H H' : Hp} {kvs : List (List Key × V)} {xs : List (List Key × Addr × Value)} (r : KT H kvs xs) (ht : ∀ b ys, H b = some (.tup ys) → H' b = some (.tup ys)) : KT H' kvs xs :=
  Paired.mapP r fun _ _ z => ⟨z.1, ht _ _ z.2.1, z.2.2⟩
section
variable {P : Program} {w : World} {H : Hp} {h : Heap} {a : Addr}
theorem rd_of {u : HO} (ok : HOk P w H h) (e : Rd H a u) : ObjOk P w H h a u := e.ok ok
theorem dk_rd {kvs : List (Key × V)} (ok : HOk P w H h) (e : Rd H a (.dK kvs)) : kvs.length ≤ sizeLine ∧ (a == sysModules) = false ∧ ∃ vs, KV kvs vs ∧ h.DictOf (mixKind P w) a vs :=
  show ObjOk P w H h a (.dK kvs) from rd_of ok e
theorem dk_of {kvs : List (Key × V)} (ok : HOk P w H h) (e : H a = some (.dK kvs)) : kvs.length ≤ sizeLine ∧ (a == sysModules) = false ∧ ∃ vs, KV kvs vs ∧ h.DictOf (mixKind P w) a vs := dk_rd ok (.inl e)
theorem key_of {ks : List Key} (ok : HOk P w H h) (e : H a = some (.tup (ks.map kV))) : (tupleKind (mixKind P w)).is h ks a := by
  obtain ⟨_, its, r, o, h1, h2, n, h3⟩ := (show ObjOk P w H h a (.tup (ks.map kV)) from ok a _ e)
  exact ⟨o, its.toArray, n, h1, h2, h3, by simpa using items_are r⟩
theorem dt_rd {kvs : List (List Key × V)} (ok : HOk P w H h) (e : Rd H a (.dT kvs)) : kvs.length ≤ sizeLine ∧ (a == sysModules) = false ∧
    ∃ xs, KT H kvs xs ∧ h.DictOfH (tupleKind (mixKind P w)) a xs := by
  obtain ⟨z, y, xs, r, o, es, ep, h1, h2, h3, h4, h5⟩ := (show ObjOk P w H h a (.dT kvs) from rd_of ok e)
  refine ⟨z, y, xs, r, o, es, ep, h1, h2, h3, h4, fun x hx => ?_, h5⟩
  have all : ∀ {l : List (List Key × V)} {m : List (List Key × Addr × Value)}, KT H l m → ∀ x ∈ m, (tupleKind (mixKind P w)).is h x.1 x.2.1 := by
    intro l m q
    induction q with
    | nil => intro x hx; exact nomatch hx
    | @cons p q ps qs hq t ih =>
      intro x hx
      rcases List.mem_cons.mp hx with e | hx
      · subst e
        exact key_of ok (by rw [← hq.1]; exact hq.2.1)
      · exact ih x hx
  exact all r x hx
theorem dt_of {kvs : List (List Key × V)} (ok : HOk P w H h) (e : H a = some (.dT kvs)) : kvs.length ≤ sizeLine ∧ (a == sysModules) = false ∧
    ∃ xs, KT H kvs xs ∧ h.DictOfH (tupleKind (mixKind P w)) a xs := dt_rd ok (.inl e)
end
noncomputable def DGet (H : Hp) (a : Addr) (y : V) (r : Option V) : Prop :=
  (∃ kvs k, Rd H a (.dK kvs) ∧ y = kV k ∧ r = valV kvs k) ∨ ∃ kvs k b, Rd H a (.dT kvs) ∧ y = .ref b ∧ H b = some (.tup (k.map kV)) ∧ r = valV kvs k
noncomputable def DPut (H : Hp) (a : Addr) (y v : V) (H' : Hp) : Prop :=
  (∃ kvs k, H a = some (.dK kvs) ∧ y = kV k ∧ kvs.length < sizeLine ∧ H' = upd H a (.dK (putK kvs k v))) ∨
  ∃ kvs k b, H a = some (.dT kvs) ∧ y = .ref b ∧ H b = some (.tup (k.map kV)) ∧ kvs.length < sizeLine ∧ H' = upd H a (.dT (putK kvs k v))
theorem DGet.k {H : Hp} {a : Addr} {kvs : List (Key × V)} {k : Key} (e : H a = some (.dK kvs)) : DGet H a (kV k) (valV kvs k) := .inl ⟨kvs, k, .inl e, rfl, rfl⟩
theorem DPut.k {H : Hp} {a : Addr} {kvs : List (Key × V)} {k : Key} {v : V} (e : H a = some (.dK kvs)) (hl : kvs.length < sizeLine) : DPut H a (kV k) v (upd H a (.dK (putK kvs k v))) := .inl ⟨kvs, k, e, rfl, hl, rfl⟩
section
variable {X : Cx} {pins : List (Addr × Obj)} {σ : St} {H : Hp} {s : Shared} {a : Addr} {y v : V} {u r : Value} {o : Option V} {A : Around} {E : Value → Shared → Prop}
theorem Inv.big (I : Inv X pins σ H s) : sysModules < s.heap.objs.size := by
  have h : mainGlobals < s.heap.objs.size := (I.mod.glob.keeps I.bk).lt
  exact Nat.lt_trans (by decide) h
theorem d_getItem {Q : Value → Shared → Prop} (hu : A.units + 1 < cLine) (I : Inv X pins σ H s) (g : DGet H a y (some v)) (ry : RelV y u) (h : ∀ w' s', Inv X pins σ H s' → RelV v w' → Q w' s') :
    wpAny (model X.prog X.w) A (getItem (.ref a) u) Q E s := by
  rcases g with ⟨kvs, k, e, ey, l⟩ | ⟨kvs, k, b, e, ey, eb, l⟩
  · subst ey
    obtain ⟨z, hd, vs, rel, dd⟩ := dk_rd I.hok e
    obtain ⟨w', hw, rw'⟩ := RelO.some_of (v := v) (o := valueAt vs k) (by rw [l]; exact rel.val k)
    exact wpAny_getItem_of (kV_is ry) dd.mapOf hw (h w' _ (I.tok _) rw')
  · subst ey
    cases (show u = Value.ref b from ry)
    obtain ⟨z, hd, xs, rel, dd⟩ := dt_rd I.hok e
    obtain ⟨w', hw, rw'⟩ := RelO.some_of (v := v) (o := (atKey xs k).map (·.2)) (by rw [l]; exact rel.val k)
    obtain ⟨p, hp, hp2⟩ := Option.map_eq_some_iff.mp hw
    refine wpAny_getItem_heap (tupleKind_room_in1 hu) (key_of I.hok eb) dd hp ?_
    rw [hp2]
    exact h w' _ (I.tok _) rw'
theorem d_notIn {Q : Value → Shared → Prop} (hu : A.units + 1 < cLine) (I : Inv X pins σ H s) (g : DGet H a y o) (ry : RelV y u) (h : ∀ s', Inv X pins σ H s' → Q (.bool (!o.isSome)) s') :
    wpAny (model X.prog X.w) A (compareOp .NotIn u (.ref a)) Q E s := by
  rcases g with ⟨kvs, k, e, ey, l⟩ | ⟨kvs, k, b, e, ey, eb, l⟩
  · subst ey
    obtain ⟨z, hd, vs, rel, dd⟩ := dk_rd I.hok e
    refine wpAny_notIn_of (kV_is ry) hd dd.mapOf ?_
    rw [← (rel.val k).isSome_eq, ← l]
    exact h _ (I.tok _)
  · subst ey
    cases (show u = Value.ref b from ry)
    obtain ⟨z, hd, xs, rel, dd⟩ := dt_rd I.hok e
    refine wpAny_notIn_heap (tupleKind_room_in1 hu) (key_of I.hok eb) hd dd ?_
    have q := (rel.val k).isSome_eq
    rw [Option.isSome_map] at q
    rw [← q, ← l]
    exact h _ (I.tok _)
theorem d_write {h' : Heap} {t' : Nat} {ob : HO} (I : Inv X pins σ H s) (mu : Mut (H a)) (hs : Heap.SameBut a s.heap h') (he : ∃ q, h'.get? a = some q) (new : ObjOk X.prog X.w (upd H a ob) h' a ob) :
    Inv X pins σ (upd H a ob) { s with heap := h', toks := t' } :=
  I.write (x := a) (e := a) mu (.inl rfl) (fun b q hb z => (hs.2 b hb).trans z) he new
theorem dk_new {P : Program} {w : World} {H' : Hp} {h' : Heap} {kvs : List (Key × V)} {vs : List (Key × Value)} (z : kvs.length ≤ sizeLine) (hd : (a == sysModules) = false) (rel : KV kvs vs) (dd : h'.DictOf (mixKind P w) a vs) :
    ObjOk P w H' h' a (.dK kvs) := ⟨z, hd, vs, rel, dd⟩
theorem d_setItem {H' : Hp} {Q : Unit → Shared → Prop} (hu : A.units + 1 < cLine) (I : Inv X pins σ H s) (g : DPut H a y v H') (ry : RelV y u) (rv : RelV v r) (h : ∀ s', Inv X pins σ H' s' → Q () s') :
    wpAny (model X.prog X.w) A (setItem (.ref a) u r) Q E s := by
  rcases g with ⟨kvs, k, e, ey, l, eH⟩ | ⟨kvs, k, b, e, ey, eb, l, eH⟩
  · subst ey eH
    obtain ⟨z, hd, vs, rel, dd⟩ := dk_of I.hok e
    have hz : vs.length ≤ sizeLine := by rw [← rel.length]; exact z
    have hl : (putK kvs k v).length ≤ sizeLine := by have := length_putK kvs k v; omega
    refine wpAny_setItem_pairs (hsz := hz) (kV_is ry) dd fun h' dd' hs => h _ ?_
    have he : ∃ q, h'.get? a = some q := let ⟨q, _, _, hq, _⟩ := dd'; ⟨q, hq⟩
    exact d_write I (by rw [e]; exact True.intro) hs he (dk_new hl hd (rel.put k rv) dd')
  · subst ey eH
    cases (show u = Value.ref b from ry)
    obtain ⟨z, hd, xs, rel, dd⟩ := dt_of I.hok e
    have hz : xs.length ≤ sizeLine := by rw [← Paired.length rel]; exact z
    have hl : (putK kvs k v).length ≤ sizeLine := by have := length_putK kvs k v; omega
    refine wpAny_setItem_heap (hsz := hz) (tupleKind_room_in1 hu) (key_of I.hok eb) dd fun h' dd' hs => h _ ?_
    obtain ⟨q, es, ep, hq, h2, h3, h4, _, h5⟩ := dd'
    refine d_write I (by rw [e]; exact True.intro) hs ⟨q, hq⟩ ⟨hl, hd, _, (rel.put k eb rv).keeps fun c ys ec => ?_, q, es, ep, hq, h2, h3, h4, h5⟩
    rw [upd_ne (ne_of ec e (fun z => nomatch z))]
    exact ec
end
section
variable {X : Cx} {pins : List (Addr × Obj)} {σ : St} {H : Hp} {s : Shared} {a : Addr} {kvs : List (Key × V)} {k : Key} {u : Value} {A : Around} {E : Value → Shared → Prop}
theorem d_len {Q : Value → Shared → Prop} (I : Inv X pins σ H s) (e : Rd H a (.dK kvs)) (h : ∀ t s', Inv X pins σ H s' → Q (.int kvs.length t) s') : wpAny (model X.prog X.w) A (call (.builtin "len") [.ref a]) Q E s := by
  obtain ⟨z, hd, vs, rel, dd⟩ := dk_rd I.hok e
  refine call_len_dict hd dd (by rw [← rel.length]; rw [sizeLine_eq] at z; omega) ?_
  rw [← rel.length]
  exact h _ _ (I.tok _)
end
noncomputable def NoSl (i : Expr) : Prop := ∀ ov iv, subscripted i false ov iv = operate [ov, iv] (getItem ov iv)
theorem subD_of {prog : Program} {w : World} {A : Around} {E : Value → Shared → Prop} {s : Shared} {env : Env} {value slice : Expr} {pos : Pos} {T id : String} {Q : Value → Shared → Prop}
    (hl : typeLookup (.type T) "__getitem__" = pure (some (.builtin id))) (hs : NoSl slice)
    (h : wpAny (model prog w) A (eval value env) (fun o s₁ => wpAny (model prog w) A (eval slice env) (fun i s₂ => s₂.TypeIs o T ∧ wpAny (model prog w) A (getItem o i) Q E s₂) E s₁) E s) :
    wpAny (model prog w) A (eval (.Subscript value slice pos) env) Q E s := by
  refine Subscript_ (wpAny_mono h (fun o s₁ h₁ => wpAny_mono h₁ (fun i s₂ h₂ => ?_) fun _ _ x => x) fun _ _ x => x)
  obtain ⟨hT, h₂⟩ := h₂
  unfold subscriptTail
  refine wpAny_bind ?_
  rw [getitemInPython_of_ne hT.not_modules]
  refine wpAny_bind (wpAny_specialOf hT hl ?_)
  have fin : wpAny (model prog w) A (subscripted slice false o i) (fun r s₃ => wpAny (model prog w) A (letTemporaryGo value o r >>= fun _ => pure r) Q E s₃) E s₂ := by
    rw [hs o i]
    exact wpAny_operating (wpAny_mono h₂ (fun r s₃ h₃ => wpAny_bind (wpAny_letTemporaryGo (wpAny_pure h₃))) fun _ _ x => x)
  first
    | exact wpAny_pure (wpAny_bind fin)
    | exact wpAny_bind (wpAny_pure (wpAny_bind fin))
    | exact wpAny_bind fin
theorem dict_typeIs {X : Cx} {pins : List (Addr × Obj)} {σ : St} {H : Hp} {s : Shared} {a : Addr} {y : V} {o : Option V} (I : Inv X pins σ H s) (g : DGet H a y o) : s.TypeIs (.ref a) "dict" := by
  rcases g with ⟨kvs, k, e, _, _⟩ | ⟨kvs, k, b, e, _, _, _⟩
  · obtain ⟨_, _, vs, _, dd⟩ := dk_rd I.hok e
    exact dd.typeIs
  · obtain ⟨_, _, xs, _, dd⟩ := dt_rd I.hok e
    exact dd.typeIs
noncomputable def tDGet (td ty : TE) : TE := fun σ H Q => td σ H fun x H1 => ty σ H1 fun y H2 => ∃ a v, x = .ref a ∧ DGet H2 a y (some v) ∧ Q v H2
noncomputable def tDNotIn (ty td : TE) : TE := fun σ H Q => ty σ H fun y H1 => td σ H1 fun x H2 => ∃ a o, x = .ref a ∧ DGet H2 a y o ∧ Q (.bl (!o.isSome)) H2
noncomputable def sDPut (td ty tv : TE) : TS := fun D σ H => tv σ H fun v H1 => td σ H1 fun x H2 => ty σ H2 fun y H3 => ∃ a H4, x = .ref a ∧ DPut H3 a y v H4 ∧ D.nx σ H4
section
variable {X : Cx} {o i e value : Expr} {pos pos' tpos : Pos} {td ty tv : TE}
theorem pe_dget (hu : X.A.units + 1 < cLine) (ho : PE X o td) (hi : PE X i ty) (hs : NoSl i) : PE X (.Subscript o i pos) (tDGet td ty) := by
  intro pins s σ H Q I h
  refine subD_of PySem.F.slot_dict_getitem.lookup hs (thn (ho pins s σ H _ I h) fun u s1 hq9 => EP.out hq9 fun x H1 I1 rx q1 => thn (hi pins s1 σ H1 _ I1 q1) fun iv s2 hq8 => ?_)
  obtain ⟨y, H2, I2, ry, a, v, ex, g, q2⟩ := hq8
  subst ex
  obtain rfl : u = Value.ref a := rx
  exact ⟨dict_typeIs I2 g, d_getItem hu I2 g ry fun w' s3 I3 rw' => ⟨v, H2, I3, rw', q2⟩⟩
theorem pc_dnotin (hu : X.A.units + 1 < cLine) (hi : PE X i ty) (ho : PE X o td) : PC X .NotIn i o (tDNotIn ty td) := by
  intro pins s σ H Q I h
  refine thn (hi pins s σ H _ I h) fun iv s1 hq9 => EP.out hq9 fun y H1 I1 ry q1 => thn (ho pins s1 σ H1 _ I1 q1) fun u s2 hq8 => ?_
  obtain ⟨x, H2, I2, rx, a, ov, ex, g, q2⟩ := hq8
  subst ex
  obtain rfl : u = Value.ref a := rx
  exact d_notIn hu I2 g ry fun s3 I3 => ⟨.bl (!ov.isSome), H2, I3, rfl, q2⟩
theorem ps_dput (hu : X.A.units + 1 < cLine) (ho : PE X o td) (hi : PE X i ty) (hv : PE X value tv) (hs : swapsWith value (some (.Subscript o i pos')) pos.line X.env = pure false) :
    PS X (.Assign [.Subscript o i pos'] value pos) (sDPut td ty tv) := by
  intro pins s σ H D I h
  refine wpAny_Assign_Subscript (thn (hv pins s σ H _ I h) fun r s1 hq9 => EP.out hq9 fun v H1 I1 rv q1 => thn (ho pins s1 σ H1 _ I1 q1) fun u s2 hq9 => EP.out hq9 fun x H2 I2 rx q2 => thn (hi pins s2 σ H2 _ I2 q2) fun iv s3 hq8 => ?_) hs
  obtain ⟨y, H3, I3, ry, a, H4, ex, g, q3⟩ := hq8
  subst ex
  obtain rfl : u = Value.ref a := rx
  exact d_setItem hu I3 g ry rv fun s4 I4 => ⟨σ, H4, I4, q3⟩
end
theorem dk_empty {P : Program} {w : World} {H : Hp} (h : Heap) (hb : sysModules < h.objs.size) : ObjOk P w H (h.push { cls := .type "dict", data := .dict #[] }) h.objs.size (.dK []) :=
  ⟨Nat.zero_le _, beq_eq_false_iff_ne.mpr (Ne.symm (Nat.ne_of_lt hb)), [], .nil, Heap.DictOf.new h⟩
section
variable {X : Cx} {pos : Pos}
end
noncomputable def tPairs : List (TE × TE) → St → Hp → (List (V × V) → Hp → Prop) → Prop
  | [], _, H, Q => Q [] H
  | (tk, tv) :: r, σ, H, Q => tk σ H fun x H1 => tv σ H1 fun y H2 => tPairs r σ H2 fun ps H3 => Q ((x, y) :: ps) H3
noncomputable abbrev VV : List (V × V) → List (Value × Value) → Prop := Paired fun p q => RelV p.1 q.1 ∧ RelV p.2 q.2
noncomputable def PPs (X : Cx) (pos : Pos) (keys : List (Option Expr)) (values : List Expr) (trs : List (TE × TE)) : Prop :=
  ∀ (pins : List (Addr × Obj)) (s : Shared) (σ : St) (H : Hp) (Q : List (V × V) → Hp → Prop), Inv X pins σ H s → tPairs trs σ H Q →
    wpAny (model X.prog X.w) X.A (evalPairs (pairTrees keys values X.env pos)) (fun vs s' => ∃ ps H', Inv X pins σ H' s' ∧ VV ps vs ∧ Q ps H') X.xe s
theorem pps_nil {X : Cx} {pos : Pos} : PPs X pos [] [] [] := fun pins s σ H Q I h => pairTrees_nil_walk ⟨[], H, I, .nil, h⟩
theorem pps_cons {X : Cx} {pos : Pos} {k v : Expr} {ks : List (Option Expr)} {vs : List Expr} {tk tv : TE} {trs : List (TE × TE)} (hk : PE X k tk) (hv : PE X v tv) (hr : PPs X pos ks vs trs) :
    PPs X pos (some k :: ks) (v :: vs) ((tk, tv) :: trs) := fun pins s σ H Q I h =>
  pairTrees_cons_walk (thn (hk pins s σ H _ I h) fun u s1 hq9 => EP.out hq9 fun x H1 I1 rx q1 => thn (hv pins s1 σ H1 _ I1 q1) fun w2 s2 hq9 => EP.out hq9 fun y H2 I2 ry q2 =>
    thn (hr pins s2 σ H2 _ I2 q2) fun ws s3 ⟨ps, H3, I3, rel, q3⟩ => ⟨(x, y) :: ps, H3, I3, .cons ⟨rx, ry⟩ rel, q3⟩)
noncomputable def mergeK (kvs more : List (Key × V)) : List (Key × V) := more.foldl (fun acc kv => putK acc kv.1 kv.2) kvs
theorem KV.merge : ∀ {more : List (Key × V)} {rs : List (Key × Value)} {kvs : List (Key × V)} {vs : List (Key × Value)}, KV more rs → KV kvs vs → KV (mergeK kvs more) (merged vs rs) := by
  intro more rs kvs vs r
  unfold KV at r
  induction r generalizing kvs vs with
  | nil => intro q; exact q
  | @cons p q ps qs h t ih =>
    intro r0
    have e : KV (putK kvs p.1 p.2) (stored vs q.1 q.2) := by
      have := r0.put p.1 h.2
      rw [← h.1]; exact this
    exact ih e
theorem length_mergeK : ∀ (more kvs : List (Key × V)), (mergeK kvs more).length ≤ kvs.length + more.length
  | [], kvs => by show kvs.length ≤ kvs.length + 0; omega
  | p :: r, kvs => by
    have h1 := length_mergeK r (putK kvs p.1 p.2)
    have h2 := length_putK kvs p.1 p.2
    show (mergeK (putK kvs p.1 p.2) r).length ≤ _
    rw [List.length_cons]; omega
theorem carries_of {P : Program} {w : World} : ∀ {kvs : List (Key × V)} {ws : List (Value × Value)}, VV (kvs.map fun kv => (kV kv.1, kv.2)) ws → ∃ rs, Carries (mixKind P w) ws rs ∧ KV kvs rs
  | [], _, r => by rw [List.map_nil] at r; cases r; exact ⟨[], True.intro, .nil⟩
  | p :: kvs, _, r => by
    rw [List.map_cons] at r
    cases r with
    | @cons a b as bs h t =>
      obtain ⟨rs, c, q⟩ := carries_of (P := P) (w := w) t
      obtain ⟨b1, b2⟩ := b
      exact ⟨(p.1, b2) :: rs, ⟨kV_is h.1, rfl, c⟩, .cons ⟨rfl, h.2⟩ q⟩
noncomputable def tDisp (trs : List (TE × TE)) : TE := fun σ H Q => ∀ p, H p = none → tPairs trs σ (upd H p (.dK [])) fun ps H2 => H2 p = some (.dK []) ∧ ∃ kvs : List (Key × V), ps = kvs.map (fun kv => (kV kv.1, kv.2)) ∧ kvs.length ≤ 15 ∧ Q (.ref p) (upd H2 p (.dK (mergeK [] kvs)))
theorem pe_disp {X : Cx} {pos : Pos} {keys : List (Option Expr)} {values : List Expr} {trs : List (TE × TE)} (h : PPs X pos keys values trs) (hall : keys.all (·.isSome) = true) (hl : keys.length = values.length) (h0 : keys ≠ [])
    (h15 : keys.length ≤ 15) : PE X (.Dict keys values pos) (tDisp trs) := by
  intro pins s σ H Q I q
  have hn := I.hok.fresh (Nat.le_refl s.heap.objs.size)
  have I1 := I.laid (a := s.heap.objs.size) (o := .dK []) (h' := s.heap.push { cls := .type "dict", data := .dict #[] }) (t' := s.toks) (fun _ _ q => Heap.get?_push_of_some _ q) (Nat.le_refl _) (dk_empty s.heap I.big)
  refine wpAny_Dict_walk (knd := mixKind X.prog X.w) hall hl h0 h15 (thn (h pins _ σ _ _ I1 (q _ hn)) fun ws s2 hq8 => ?_)
  obtain ⟨ps, H2, I2, rel, e, kvs, ep, lk, q2⟩ := hq8
  subst ep
  obtain ⟨rs, c, rk⟩ := carries_of (P := X.prog) (w := X.w) rel
  obtain ⟨z, hd, vs0, r0, dd⟩ := dk_of I2.hok e
  cases r0
  refine ⟨rs, c, dd, fun h' dd' hs => ⟨.ref s.heap.objs.size, _, ?_, rfl, q2⟩⟩
  have hz : (mergeK [] kvs).length ≤ sizeLine := by
    have h1 := length_mergeK kvs []
    rw [List.length_nil] at h1
    rw [sizeLine_eq]; omega
  have he : ∃ q, h'.get? s.heap.objs.size = some q := let ⟨q, _, _, hq, _⟩ := dd'; ⟨q, hq⟩
  exact d_write I2 (by rw [e]; exact True.intro) hs he (dk_new hz hd (rk.merge .nil) dd')
section
variable {X : Cx} {pins : List (Addr × Obj)} {σ : St} {H : Hp} {s : Shared} {a : Addr} {y d : V} {u r : Value} {o : Option V} {A : Around} {E : Value → Shared → Prop}
end
section
variable {X : Cx} {o e f : Expr} {apos cpos : Pos} {td ty tx : TE}
end
section
variable {X : Cx} {pins : List (Addr × Obj)} {σ : St} {H : Hp} {s : Shared} {a : Addr} {kvs : List (Key × V)} {A : Around} {E : Value → Shared → Prop}
end
section
variable {X : Cx} {pins : List (Addr × Obj)} {σ : St} {H : Hp} {s : Shared} {a : Addr} {y : V} {u : Value} {A : Around} {E : Value → Shared → Prop}
end
end L2
namespace Att
open PySem PySem.W PySem.Calls PyProof.Rows
theorem ints_of_wellAll {P : Params} {h : Heap} : ∀ (ns : List Int) (vs : List Value), WellAll P h vs (ns.map WData.int) → IntsAre vs ns := by
  intro ns
  induction ns with
  | nil =>
    intro vs w
    rw [List.map_nil] at w
    cases w
    exact .nil
  | cons n ns ih =>
    intro vs w
    rw [List.map_cons] at w
    cases w with
    | cons a b =>
      cases a
      exact .cons _ _ (ih _ b)
theorem script_of {l : OpenLaw} {n : Nat} (hn : l.most = some n) {P : Params} {h : Heap} {args : List WData} {vals : List Value}
    (hpre : l.row.toRowW.claim.pre args = true) (hwl : WellAll P h vals args) :
    ∃ a vs ns, vals = [Value.ref a] ∧ args = [WData.list (ns.map WData.int)] ∧ h.get? a = some { cls := .type "list", data := .seq vs.toArray } ∧ IntsAre vs ns ∧ ns.length ≤ n := by
  have hsh : WShape.hasAll [] args [.list .int] = true := (pre_splitW hpre).1
  have hc : l.pre.holds [] { args := args } = true := (pre_splitW hpre).2
  obtain ⟨d, r, rfl, h1, h2⟩ := hasAllW_cons hsh
  obtain rfl := hasAllW_nil h2
  obtain ⟨xs, rfl, h3⟩ := hasW_list h1
  obtain ⟨ns, rfl⟩ := items_int h3
  have hlen : ns.length ≤ n := by
    unfold OpenLaw.pre at hc
    have h4 : (WTm.not (.lt (.lit (.int (n : Int))) (.len (.arg 0)))).holds [] { args := [.list (ns.map .int)] } = true := by
      have h4 := (holds_andW hc).1
      rw [hn] at h4
      exact h4
    have h5 := condW_of h4 (w_not (w_lt w_lit (w_len_list (w_arg rfl))))
    rw [List.length_map] at h5
    refine Nat.le_of_not_lt fun q => ?_
    have q' : (n : Int) < ((ns.length : Nat) : Int) := by omega
    first
      | (rw [decide_eq_true q'] at h5; exact absurd h5 (by decide))
      | (simp at h5; omega)
  cases hwl with
  | cons w1 w2 =>
    cases w2
    cases w1 with
    | list ho hall => exact ⟨_, _, ns, rfl, rfl, ho, ints_of_wellAll ns _ hall, hlen⟩
theorem post_true (l : OpenLaw) (args : List WData) : l.row.toRowW.claim.post args (.bool true) args = true :=
  postW_of (r := l.row.toRowW) (X := (true == true))
    (show WShape.has [] (.bool true) .bool = true by first | rfl | decide | simp [WShape.has, WShape.arms, WShape.armsAll])
    (show (WTm.eq .res (.lit (.bool true))).value [] { args := args, res := some (.bool true), after := args } = some (.bool (true == true)) from w_eq_bool (w_res rfl) w_lit) rfl
theorem attach_call {l : OpenLaw} {n : Nat} {q : Program} {loose : List Str} {XP : (Str → Option Value) → Heap → Prop} {YP : World → Heap → Prop} {d : DefRec}
    (hn : l.most = some n) (hdf : d.params.defaults = [])
    (call : ∀ (w : World) (s₀ s₁ : Shared) (mg mb : Str → Option Value) (fa : Addr) (o : Obj) (pm cd doc : Value) (a : Addr) (vs : List Value) (ns : List Int),
      Ground q loose [] XP w s₀ mg mb s₁.heap → YP w s₁.heap →
      s₁.heap.get? fa = some o → o.data = .func (docDef d.name d.params d.body d.scope pm cd doc) → s₁.heap.CodeRec cd d.name → mg d.name = some (.ref fa) →
      s₁.heap.get? a = some { cls := .type "list", data := .seq vs.toArray } → IntsAre vs ns → ns.length ≤ n → s₁.gens = #[] →
      codeAny (model l.prog w) callerA (.call (.ref fa) ⟨[.ref a], []⟩) (fun r s' => r = .ok (.ret (.bool true)) ∧ OldK s₁.heap s'.heap ∧ s'.os = s₁.os ∧ AllBare s'.gens) s₁) :
    WalkO q loose XP YP l.row.toRowW d [] (fun f vs => PySem.call f vs) := by
  intro w s₀ s₁ mg mb G Y fa o pm cd doc dV kV ho hd hcd hD hmg hg args vals as hpre hlay hrd hwl hlo
  obtain rfl : dV = .none := Dflts.none hD hdf
  obtain rfl : kV = .none := Dflts.noKw hD
  obtain ⟨a, vs, ns, rfl, rfl, hobj, hints, hlen⟩ := script_of hn hpre hwl
  refine enter_call (codeAny_mono (call w s₀ s₁ mg mb fa o pm cd doc a vs ns G Y ho (fd_plain hd) hcd hmg hobj hints hlen hg) fun r s' hq => ?_)
  obtain ⟨rfl, h2, h3, h4⟩ := hq
  exact ⟨.inl ⟨.bool true, .bool true, [], rfl, fun _ => rfl, .bool true, post_true l _, fun _ => ⟨List.Pairwise.nil, fun _ hm => (nomatch hm)⟩⟩, h2, h3, h4⟩
section
variable {prog : Program} {w : World} {A : Around} {E : Value → Shared → Prop} {s : Shared} {K : Frag}
end
end Att
namespace L2
open PySem PySem.Spec PyProof.Rows
theorem vals_ints {vs : List Value} {ns : List Int} (h : IntsAre vs ns) : Vals (ns.map V.int) vs := by
  induction h with
  | nil => exact .nil
  | cons n t h ih => exact .cons ⟨t, rfl⟩ ih
noncomputable def Only (H : Hp) : Prop := ∀ b, H b = none ∨ ∃ o xs, H b = some (.frz o (.lst xs))
theorem law_call {P : Program} {w : World} {K : PySem.W.Frag} {mg mb : Str → Option Value} {CX : CXT} {k : Nat} {fa a : Addr} {fd : FuncData} {x : Str} {sp : Sp} {s₁ : Shared} {vs : List Value} {ns : List Int}
    (KX : K.In s₁.heap) (hns : s₁.heap.Ns mainGlobals mg) (hb : s₁.heap.Ns builtinsNs mb) (hbb : ∀ x : Str, x ≠ "__name__" → mb x = bootBuiltins x) (hlim : s₁.heap.NoLimit) (hg : s₁.gens = #[])
    (ha : s₁.heap.get? a = some { cls := .type "list", data := .seq vs.toArray }) (hi : IntsAre vs ns) (hl : ns.length ≤ sizeLine) (hr : Room k callerA)
    (F : ∀ base : Heap, K.In base → base.Ns mainGlobals mg → FnOk P w K mg base CX k fa fd [x] sp) (hbind : ∀ (s : Shared) (u : Value), BindsTo s fd ⟨[u], []⟩ [(x, u)])
    (hsp : ∀ H : Hp, Only H → SqL K H a (ns.map V.int) → sp [.ref a] H (fun v _ => v = .bl true) fun _ _ _ => False)
    (hCX : ∀ H e s', CX [] H s₁ (fun _ _ _ => False) e s' → False) :
    codeAny (model P w) callerA (.call (.ref fa) ⟨[.ref a], []⟩) (fun r s' => r = .ok (.ret (.bool true)) ∧ OldK s₁.heap s'.heap ∧ s'.os = s₁.os ∧ AllBare s'.gens) s₁ := by
  have rv := vals_ints hi
  have lenV := hi.length
  -- from an abstract heap in which nothing but the script may be tracked
  have core : ∀ H : Hp, Only H → SqL K H a (ns.map V.int) → HOk P w H s₁.heap → (∀ b, H b ≠ none → b = a) → (H a ≠ none → K.lookup a = none) →
      codeAny (model P w) callerA (.call (.ref fa) ⟨[.ref a], []⟩) (fun r s' => r = .ok (.ret (.bool true)) ∧ OldK s₁.heap s'.heap ∧ s'.os = s₁.os ∧ AllBare s'.gens) s₁ := by
    intro H hO hS hok hA hK
    have base_of : ∀ {b : Addr} {o : Obj}, s₁.heap.get? b = some o → H b = none → (hidT s₁.heap H).get? b = some o := fun e n => hidT_get e n
    have noA : ∀ {b : Addr} {o : Obj} {es : Array DictEntry} {ep : Nat}, s₁.heap.get? b = some o → o.data = .dict es ep → H b = none := fun {b o es ep} e d => by
      cases q : H b with
      | none => rfl
      | some u =>
        have e' : b = a := hA b (by rw [q]; simp)
        subst e'
        rw [ha] at e; cases e
        have d' : Data.seq vs.toArray _ = Data.dict es ep := d
        cases d'
    have nsK : ∀ {b : Addr} {m : Str → Option Value}, s₁.heap.Ns b m → (hidT s₁.heap H).Ns b m := fun {b m} ⟨o, es, ep, e, d, r⟩ => ⟨o, es, ep, base_of e (noA e d), d, r⟩
    have hKb : K.In (hidT s₁.heap H) := fun b o e => base_of (KX b o e) (by
      cases q : H b with
      | none => rfl
      | some u =>
        have e' : b = a := hA b (by rw [q]; simp)
        subst e'
        rw [hK (by rw [q]; simp)] at e; cases e)
    have hM : Mod K mg (hidT s₁.heap H) := ⟨hKb, nsK hns, ⟨mb, nsK hb, hbb⟩, let ⟨mc, h1, h2⟩ := hlim; ⟨mc, nsK h1, h2⟩⟩
    have e0 : Env0 P w K mg (hidT s₁.heap H) callerA [] s₁ H := ⟨rfl, hM, fun b o e => of_hidT e, Nat.le_of_eq (hidT_size _ _), trivial, fun b hb => absurd (show b ∈ ([] : List Addr) from hb) (by simp), hok, .of_eq hg⟩
    refine codeAny_mono ((F _ hKb (nsK hns)).run callerA [] s₁ H ⟨[.ref a], []⟩ [.ref a] [.ref a] _ _ hr e0 (hbind s₁ (.ref a)) (.cons rfl .nil) (hsp H hO hS)) fun r s' h => ?_
    cases r with
    | error e => exact (hCX H e s' h).elim
    | ok fl =>
      cases fl with
      | next => exact False.elim h
      | brk => exact False.elim h
      | cont => exact False.elim h
      | ret u =>
        obtain ⟨v, H', os, bare, un, hok', r', q⟩ := h
        have q' : v = .bl true := q
        subst q'
        obtain rfl : u = Value.bool true := r'
        refine ⟨rfl, OldK.of_keep fun b o e => ?_, os, bare⟩
        cases q : H b with
        | none => exact un.keep b o e q (by intro z; exact absurd (show b ∈ ([] : List Addr) from z) (by simp)) (by simp)
        | some u =>
          rcases hO b with z | ⟨ob, xs, z⟩
          · rw [q] at z; cases z
          · have z2 := un.frzs b ob _ z
            obtain ⟨e1, _⟩ := hok b _ z
            obtain ⟨e2, _⟩ := hok' b _ z2
            rw [e] at e1; cases e1
            exact e2
  cases hk : K.lookup a with
  | some o =>
    -- the script is one of the module's own objects
    have e := KX a o hk
    rw [ha] at e
    cases e
    refine core (fun _ => none) (fun _ => .inl rfl) (.inr ⟨_, vs.toArray, _, hk, rfl, rfl, rfl, by rw [List.size_toArray, lenV]; exact hl, by simpa using rv⟩) (fun b u z => by have z' : (none : Option HO) = some u := z; cases z') (fun b z => absurd rfl z) fun z => absurd rfl z
  | none =>
    refine core (fun b => if b = a then some (.frz { cls := .type "list", data := .seq vs.toArray } (.lst (ns.map V.int))) else none) (fun b => ?_) (.inl (.inr ⟨{ cls := .type "list", data := .seq vs.toArray }, if_pos rfl⟩)) (fun b u z => ?_) (fun b z => ?_) fun _ => hk
    · by_cases hb : b = a
      · exact .inr ⟨_, _, if_pos hb⟩
      · exact .inl (if_neg hb)
    · by_cases hb : b = a
      · have z' := (if_pos hb).symm.trans z
        cases z'
        subst hb
        exact ⟨ha, by rw [List.length_map]; exact hl, vs, _, rv, ha⟩
      · have z' := (if_neg hb).symm.trans z
        cases z'
    · by_cases hb : b = a
      · exact hb
      · exact absurd (if_neg hb) z
end L2
namespace L2
open PySem PySem.Spec PyProof.Rows
theorem walk_of {l : PySem.W.OpenLaw} {n k : Nat} {q : Program} {loose : List Str} {XP : (Str → Option Value) → Heap → Prop} {YP : World → Heap → Prop} {d : DefRec} {K : Params → PySem.W.Frag} {CX : World → CXT} {sp : World → Sp} {x : Str}
    (hn : l.most = some n) (hn2 : n ≤ sizeLine) (hdf : d.params.defaults = []) (hr : Room k callerA)
    (hY : ∀ (w : World) (h : Heap), YP w h → (K w.params).In h)
    (F : ∀ (w : World) (mg : Str → Option Value) (fa : Addr) (h : Heap), (K w.params).In h → h.Ns mainGlobals mg → mg d.name = some (.ref fa) →
      ∃ fd : FuncData, (∀ (s : Shared) (u : Value), BindsTo s fd ⟨[u], []⟩ [(x, u)]) ∧
        ∀ base : Heap, (K w.params).In base → base.Ns mainGlobals mg → FnOk l.prog w (K w.params) mg base (CX w) k fa fd [x] (sp w))
    (hsp : ∀ (w : World) (H : Hp) (a : Addr) (ns : List Int), ns.length ≤ n → Only H → SqL (K w.params) H a (ns.map V.int) → sp w [.ref a] H (fun v _ => v = .bl true) fun _ _ _ => False)
    (hCX : ∀ (w : World) (H : Hp) (s : Shared) (e : Value) (s' : Shared), CX w [] H s (fun _ _ _ => False) e s' → False) :
    PySem.W.WalkO q loose XP YP l.row.toRowW d [] (fun f vs => PySem.call f vs) := by
  refine Att.attach_call hn hdf fun w s₀ s₁ mg mb fa o pm cd doc a vs ns G Y ho hd hcd hmg hobj hints hlen hg => ?_
  have KX := hY w _ Y
  obtain ⟨fd, hb, hF⟩ := F w mg fa _ KX G.T.g hmg
  exact law_call KX G.T.g G.T.b G.T.builtins G.T.nolimit hg hobj hints (Nat.le_trans hlen hn2) hr hF hb (fun H hO hS => hsp w H a ns hlen hO hS) fun H e s' => hCX w H s₁ e s'
end L2
namespace L2
open PySem PySem.Spec PyProof.Rows
noncomputable def inClass (s : Stmt) (j : Nat) : Stmt := match s with
  | .ClassDef _ _ _ body _ _ _ _ _ _ _ => body.getD j (.Pass ⟨0, 0, 0, 0⟩)
  | _ => .Pass ⟨0, 0, 0, 0⟩
noncomputable def defArgs (s : Stmt) : Arguments := match s with
  | .FunctionDef _ a _ _ _ _ _ _ _ _ => a
  | _ => { posonlyargs := [], args := [], vararg := none, kwonlyargs := [], kw_defaults := [], kwarg := none, defaults := [] }
noncomputable def defBody (s : Stmt) : List Stmt := match s with
  | .FunctionDef _ _ b _ _ _ _ _ _ _ => b
  | _ => []
noncomputable def defScope (s : Stmt) : Scope := match s with
  | .FunctionDef _ _ _ _ _ _ sc _ _ _ => sc
  | _ => { kind := .function, names := [], isGenerator := false, isCoroutine := false }
noncomputable abbrev CX0 : CXT := fun _ _ _ _ _ _ => False
noncomputable abbrev E0 : XK := fun _ _ _ => False
theorem pass0 {X : Cx} : Passes CX0 X E0 := fun _ _ _ _ _ _ _ h => h.elim
structure Fun (K : PySem.W.Frag) (x qual : Str) (st : Stmt) (f : Addr) (fd : FuncData) : Prop where
  ex : ∃ (oc : Value) (od : Option Addr) (kV doc pm : Value) (an : Option Addr) (cdv ct : Value) (osl : Array (Option Value)),
    fd = PySem.W.fnOf x qual (defArgs st) (defBody st) (defScope st) .none kV doc pm an cdv ct ∧ K.lookup f = some ⟨oc, od, .func fd, osl⟩ ∧ PySem.W.codeIn K cdv qual = true
  kp : PySem.W.keepIn K (.ref f) = true
section
variable {P : Program} {w : World} {K : PySem.W.Frag} {mg : Str → Option Value} {base : Heap}
theorem Fun.ok {x qual : Str} {st : Stmt} {f : Addr} {fd : FuncData} {N ps : List Str} {k : Nat} {sp : Sp} (F : Fun K x qual st f fd) (S : FnScope N ps (defScope st)) (len : ∀ vs H Q E, sp vs H Q E → vs.length = ps.length)
    (hbody : ∀ (cdv : Value) (A : Around) (outer : List Env) (s : Shared) (H : Hp) (vs : List V) (Q : VK) (E : XK), Room k (A.deeper (envOfC qual (defScope st) s.heap.objs.size f cdv)) → sp vs H Q E →
      ∃ t, PSs (cxOf CX0 P w K mg base N qual (defScope st) f cdv A outer s H E).nox (defBody st) t ∧ t { nx := fun _ H' => Q .non H', rt := Q } (start N vs) H) : FnOk P w K mg base CX0 (k + 1) f fd ps sp := by
  obtain ⟨oc, od, kV, doc, pm, an, cdv, ct, osl, rfl, lk, hcd⟩ := F.ex
  refine fn_of lk hcd S len fun A outer s H vs Q E hr hsp => ?_
  obtain ⟨t, h, q⟩ := hbody cdv A outer s H vs Q E hr hsp
  exact ⟨t, h.nox, q⟩
theorem Fun.binds {x qual : Str} {st : Stmt} {f : Addr} {fd : FuncData} {ps : List Str} (F : Fun K x qual st f fd)
    (h : ∀ (kV doc pm : Value) (an : Option Addr) (cdv ct : Value) (us : List Value), us.length = ps.length → bindArgs (PySem.W.fnOf x qual (defArgs st) (defBody st) (defScope st) .none kV doc pm an cdv ct) ⟨us, []⟩ = pure (ps.zip us)) : Binds K fd ps [] := by
  obtain ⟨oc, od, kV, doc, pm, an, cdv, ct, osl, rfl, lk, hcd⟩ := F.ex
  exact .all (h kV doc pm an cdv ct)
theorem fun_mk {x qual : Str} {st : Stmt} {f : Addr} {oc : Value} {od an : Option Addr} {osl : Array (Option Value)} {kV doc pm cdv ct : Value} (l : K.lookup f = some ⟨oc, od, .func (PySem.W.fnOf x qual (defArgs st) (defBody st) (defScope st) .none kV doc pm an cdv ct), osl⟩)
    (c : PySem.W.codeIn K cdv qual = true) (k : PySem.W.keepIn K (.ref f) = true) : Fun K x qual st f (PySem.W.fnOf x qual (defArgs st) (defBody st) (defScope st) .none kV doc pm an cdv ct) := ⟨⟨oc, od, kV, doc, pm, an, cdv, ct, osl, rfl, l, c⟩, k⟩
end
theorem hu_of {A : Around} {k : Nat} (hr : Room k A) : A.units + 1 < cLine := Nat.lt_of_le_of_lt (Nat.add_le_add_left (by decide : 1 ≤ 64) _) hr.units
theorem small1000 {n : Nat} (h : n ≤ 1000) : n < sizeLine := Nat.lt_of_le_of_lt h (by decide)
section
variable {X : Cx}
theorem pv (i : Nat) {x : Str} {pos : Pos} (hN : X.N[i]? = some x := by rfl) (hv : Vis X.env.scope x := by first | exact Or.inl rfl | exact Or.inr (Or.inl rfl) | exact Or.inr (Or.inr rfl)) (hd : (x == ("__debug__" : Str)) = false := by decide)
    (hcd : (x == ("__classdict__" : Str)) = false := by decide) : PE X (.Name x pos) (tVar i) := pe_var hN hv hd hcd
theorem call_lenD : CallR X (.builtin "len") (fun xs H Q => ∃ a kvs, xs = [V.ref a] ∧ H a = some (.dK kvs) ∧ Q (.int kvs.length) H) := by
  intro pins s σ H xs us Q I r h
  obtain ⟨a, kvs, rfl, ha, q⟩ := h
  obtain ⟨u, rfl, ru⟩ := vals1 r
  cases ru
  exact d_len I (.inl ha) fun t s' I' => ⟨.int kvs.length, H, I', ⟨t, rfl⟩, q⟩
end
theorem iteF {A B : Prop} (h : B) : if false = true then A else B := by
  rw [if_neg Bool.false_ne_true]
  exact h
theorem iteT {A B : Prop} (h : A) : if true = true then A else B := by
  rw [if_pos rfl]
  exact h
theorem ite2 {c A B : Prop} [Decidable c] (h1 : c → A) (h2 : ¬ c → B) : if c then A else B := by
  by_cases h : c
  · rw [if_pos h]
    exact h1 h
  · rw [if_neg h]
    exact h2 h
theorem iteNS {c A B : Prop} [Decidable c] (hc : c) (h : B) : if (!decide c) = true then A else B := by
  rw [decide_eq_true hc]
  exact iteF h
noncomputable def Same (H H' : Hp) : Prop := ∀ b o, H b = some o → H' b = some o
theorem Same.refl (H : Hp) : Same H H := fun _ _ h => h
theorem Same.trans {H H1 H2 : Hp} (a : Same H H1) (b : Same H1 H2) : Same H H2 := fun c o h => b c o (a c o h)
theorem Same.free {H H' : Hp} (e : Same H H') {l : Addr} (h : H' l = Option.none) : H l = Option.none := by
  cases q : H l with
  | none => rfl
  | some o =>
    rw [e l o q] at h
    cases h
theorem Same.seq {K : PySem.W.Frag} {H H' : Hp} {a : Addr} {xs : List V} (e : Same H H') (h : SqL K H a xs) : SqL K H' a xs := by
  rcases h with (h | ⟨o, h⟩) | h
  · exact .inl (.inl (e _ _ h))
  · exact .inl (.inr ⟨o, e _ _ h⟩)
  · exact .inr h
section
variable {κ : Type} [DecidableEq κ]
end
end L2
namespace L2
open PySem PySem.Spec PyProof.Rows
section
variable {X : Cx} {pins : List (Addr × Obj)} {σ : St} {H : Hp} {s : Shared} {h' : Heap}
theorem Inv.turnedN {t' : Nat} {ch : List Addr} (I : Inv X pins σ H s) (k : ∀ b o, b ∉ ch → s.heap.get? b = some o → h'.get? b = some o) (hf : ∀ b ∈ ch, FpOk X pins H b) : Inv X pins σ H { s with heap := h', toks := t' } := by
  have nit : ∀ b u, H b = some u → b ∉ ch := fun b u e z => by rw [(hf b z).1] at e; cases e
  refine I.step (g' := s.gens) (d' := s.drawn) (ch := ch) (fun b hb => ?_) (fun b o _ _ hc e _ => k b o hc e) (fun b o _ _ hc e _ => ⟨o.slots, k b o hc e⟩) (fun _ _ _ _ n => n)
    (fun b o hc e => ⟨o, k b o hc e⟩) (fun _ _ e => e) (fun _ _ _ e => e) (fun b ps e => ⟨#[], by rw [e]; simp⟩) (fun m hm => ?_) (fun b u e => ?_) I.bare
  · obtain ⟨f0, f1, f2, f3, f4, f5⟩ := hf b hb
    exact ⟨f3, f1, f4, f5⟩
  · obtain ⟨o, es, ep, ho, r⟩ := hm
    exact ⟨o, es, ep, k _ o (fun z => (hf _ z).2.1 rfl) ho, r⟩
  · refine (I.hok b u e).stay (fun c v hc q => k c v ?_ q) (fun _ q => q) fun _ _ q => q
    rcases hc with z | z
    · rw [z]; exact nit b u e
    · exact nit c _ z
theorem Inv.turnLaid {t' : Nat} {ch : List Addr} {a : Addr} {o : HO} (I : Inv X pins σ H s) (k : ∀ b u, b ∉ ch → s.heap.get? b = some u → h'.get? b = some u) (hf : ∀ b ∈ ch, FpOk X pins H b) (hp : s.heap.objs.size ≤ a)
    (new : ObjOk X.prog X.w (upd H a o) h' a o) : Inv X pins σ (upd H a o) { s with heap := h', toks := t' } := by
  have hn : H a = none := I.hok.fresh hp
  have nit : ∀ b u, H b = some u → b ∉ ch := fun b u e z => by rw [(hf b z).1] at e; cases e
  refine I.step (g' := s.gens) (d' := s.drawn) (ch := ch) (fun b hb => ?_) (fun b o _ _ hc e _ => k b o hc e) (fun b o _ _ hc e _ => ⟨o.slots, k b o hc e⟩)
    (fun b u _ q n => by rw [upd_ne (Nat.ne_of_lt (Nat.lt_of_lt_of_le (Heap.lt_size q) hp))]; exact n)
    (fun b o hc e => ⟨o, k b o hc e⟩) (fun b xs q => by rw [upd_ne (ne_of_none q hn)]; exact q) (fun b u xs q => by rw [upd_ne (ne_of_none q hn)]; exact q) (fun b ps q => ⟨#[], by rw [upd_ne (ne_of_none q hn), q]; simp⟩) (fun m hm => ?_) (fun b u e => ?_) I.bare
  · obtain ⟨f0, f1, f2, f3, f4, f5⟩ := hf b hb
    exact ⟨f3, f1, f4, f5⟩
  · obtain ⟨o, es, ep, ho, r⟩ := hm
    exact ⟨o, es, ep, k _ o (fun z => (hf _ z).2.1 rfl) ho, r⟩
  · by_cases hb : b = a
    · subst hb; rw [upd_same] at e; cases e; exact new
    · rw [upd_ne hb] at e
      refine (I.hok b u e).stay (fun c v hc q => k c v ?_ q) (fun c q => by rw [upd_ne (ne_of_none q hn)]; exact q) fun c xs q => by rw [upd_ne (ne_of_none q hn)]; exact q
      rcases hc with z | z
      · rw [z]; exact nit b u e
      · exact nit c _ z
end
noncomputable def Ite (K : PySem.W.Frag) (a : Addr) : It :=
  ⟨fun i H => ∃ xs x, SqL K H a xs ∧ xs[i]? = some x,
   fun i H v H' => ∃ T y, v = .ref T ∧ H T = none ∧ H' = upd H T (.tup [.int ((i : Nat) : Int), y]) ∧ ∀ xs, SqL K H a xs → xs[i]? = some y,
   fun i H => ∃ xs, SqL K H a xs ∧ xs.length ≤ i⟩
theorem turn_enum {P : Program} {w : World} {K : PySem.W.Frag} {es : List Expr} {k : Nat} {pos : Pos} (a e it : Addr) (hei : e ≠ it) :
    Turn P w K (.Tuple es k pos) (Ite K a) [e, it] e (fun i h => (∃ old, IsEnum h e it ((i : Nat) : Int) old) ∧ h.IsListIter it a i) where
  mem := by simp
  obj := fun i h st b hb => by
    obtain ⟨⟨old, he⟩, hit⟩ := st
    rcases List.mem_cons.mp hb with rfl | hb
    · exact ⟨_, he, fun v z => by
        have z' : Data.fields _ = Data.cell v := z
        cases z'⟩
    · have e1 : b = it := by simpa using hb
      subst e1
      obtain ⟨o, e, c, d⟩ := hit
      exact ⟨o, e, fun v z => by rw [d] at z; cases z⟩
  keep := fun i h h' st k => by
    obtain ⟨⟨old, he⟩, hit⟩ := st
    exact ⟨⟨old, k e (by simp) _ he⟩, hit.at fun o q => k it (by simp) o q⟩
  item := by
    intro X hP hw hK hc i pins s σ H E I hf st hg
    subst hP hw hK
    obtain ⟨⟨old, he⟩, hit⟩ := st
    obtain ⟨xs, x, hq, hx⟩ := hg
    obtain ⟨its, rv, p, hz⟩ := I.list hq
    obtain ⟨u, hu, ru⟩ := rv.get hx
    refine wpAny_pyNext_enum_item he hit p.isList (x := u) (by simpa using hu) hei fun h1 ho hit' hT hsz hk => ?_
    refine ⟨_, rfl, wpAny_letOwnedTupleGo_enum ho fun h2 he2 hs2 => ?_⟩
    have elt : e < s.heap.objs.size := Heap.lt_size he
    have ilt : it < s.heap.objs.size := by obtain ⟨_, q, _⟩ := hit; exact Heap.lt_size q
    have hT2 : h2.get? s.heap.objs.size = some { cls := .type "tuple", data := .seq #[.int i s.toks, u] } := (hs2.2 _ (Nat.ne_of_gt elt)).trans hT
    have kk : ∀ b o, b ∉ [e, it] → s.heap.get? b = some o → h2.get? b = some o := fun b o hb q =>
      (hs2.2 b fun z => hb (by simp [z])).trans (hk b o (fun z => hb (by simp [z])) (fun z => hb (by simp [z])) q)
    have I2 : Inv X pins σ (upd H s.heap.objs.size (.tup [.int ((i : Nat) : Int), x])) { s with heap := h2, toks := s.toks + 1 } :=
      I.turnLaid (ch := [e, it]) kk hf (Nat.le_refl _) ⟨by simp only [List.length_cons, List.length_nil]; rw [sizeLine_eq]; decide, [.int i s.toks, u], .cons ⟨_, rfl⟩ (.cons ru .nil), ⟨_, hT2, rfl, 0, rfl⟩⟩
    refine ⟨.ref s.heap.objs.size, _, I2, rfl, ⟨_, x, rfl, I.hok.fresh (Nat.le_refl _), rfl, fun ys hy => by rw [I.list_inj hy hq]; exact hx⟩, ⟨⟨u, by simpa using he2⟩, hit'.at fun o q => (hs2.2 it hei.symm).trans q⟩, fun b hb => ?_⟩
    have hlt : b < s.heap.objs.size := by
      rcases List.mem_cons.mp hb with rfl | hb
      · exact elt
      · have e1 : b = it := by simpa using hb
        subst e1
        exact ilt
    rw [upd_ne (Nat.ne_of_lt hlt)]
    exact (hf b hb).1
  done := by
    intro X hP hw hK hc i pins s σ H E I hf st hg
    subst hP hw hK
    obtain ⟨⟨old, he⟩, hit⟩ := st
    obtain ⟨xs, hq, hx⟩ := hg
    obtain ⟨its, rv, p, hz⟩ := I.list hq
    have hl := rv.length
    refine wpAny_pyNext_enum_end (I.ok.hd hc) he hit p.isList (Array.getElem?_eq_none (by simp; omega)) fun h1 eb => ⟨rfl, ?_⟩
    exact I.turnedN (t' := s.toks) (ch := [e, it]) (fun b o hb q => eb b o (fun z => hb (by simp [z])) q) hf
  self := fun _ _ _ _ _ st h => by
    obtain ⟨⟨old, he⟩, _⟩ := st
    exact wpAny_pyIter_enum he h
section
variable {X : Cx}
noncomputable def iEnum (K : PySem.W.Frag) (ta : TA) : TI := fun σ H R => ta σ H fun vs H1 => ∃ a xs, vs = [.ref a] ∧ SqL K H1 a xs ∧ R (Ite K a) H1
theorem pi_enum {es : List Expr} {k : Nat} {a : Expr} {ta : TA} {p p2 pos : Pos} (hg : Gl X "enumerate") (hm : X.mg "enumerate" = none) (ha : PA X [a] ta) (hs : starEach [a] X.env = [(false, eval a X.env)] := by rfl) :
    PI X (.Tuple es k p2) (.Call (.Name "enumerate" p) [a] [] pos) (iEnum X.K ta) := by
  intro pins s σ H R I h
  refine Call_ (ld_blt I hg hm boot_enumerate (PyProof.Rows.callWith_type1 (thn (ha pos pins s σ H _ I h) fun us s1 hq9 => AP.out hq9 fun vs H1 I1 r1 q1 => ?_) hs rfl))
  obtain ⟨l, xs, e, hq, q⟩ := q1
  subst e
  obtain ⟨u, rfl, ru⟩ := vals1 r1
  cases (show u = Value.ref l from ru)
  obtain ⟨its, rv, pl, hz⟩ := I1.list hq
  refine call_enumerate_list pl.isList fun h1 he hit hsz hk => ?_
  refine wpAny_pyIter_enum he ?_
  refine ⟨s1.heap.objs.size + 1, [s1.heap.objs.size + 1, s1.heap.objs.size], _, _, H1, rfl, I1.kept (t' := s1.toks) hk, turn_enum l _ _ (Nat.ne_of_gt (Nat.lt_succ_self _)), ⟨⟨.none, by simpa using he⟩, hit⟩, fun b hb => ?_, q⟩
  have hle : s1.heap.objs.size ≤ b := by
    rcases List.mem_cons.mp hb with rfl | hb
    · exact Nat.le_succ _
    · have e1 : b = s1.heap.objs.size := by simpa using hb
      exact Nat.le_of_eq e1.symm
  exact I1.fpOk hle (I1.hok.fresh hle)
end
theorem for_enum {K : PySem.W.Frag} {a : Addr} {xs : List V} {g : TG} {tb : TS} {D : Ends} {σ : St} {H : Hp} (Pv : Nat → St → Hp → Prop) (h0 : Pv 0 σ H) (hl : ∀ i σ H, i ≤ xs.length → Pv i σ H → SqL K H a xs)
    (hs : ∀ i x σ H T, xs[i]? = some x → Pv i σ H → H T = none → g (.ref T) σ (upd H T (.tup [.int ((i : Nat) : Int), x])) fun σ2 H2 => tb { D with nx := Pv (i + 1), ct := Pv (i + 1), bk := D.nx } σ2 H2) (hd : ∀ σ H, Pv xs.length σ H → D.nx σ H) :
    ∃ W : Nat → Nat → St → Hp → Prop, (∃ m, W 0 m σ H) ∧ ∀ i m σ H, W i m σ H →
      ((Ite K a).stop i H ∧ D.nx σ H) ∨ ((Ite K a).go i H ∧ ∃ N : St → Hp → Prop, (∀ σ' H', N σ' H' → ∃ m', m' < m ∧ W (i + 1) m' σ' H') ∧ ∀ x H', (Ite K a).yld i H x H' → g x σ H' fun σ2 H2 => tb { D with nx := N, ct := N, bk := D.nx } σ2 H2) := by
  refine ⟨fun i m σ H => m = xs.length - i ∧ i ≤ xs.length ∧ Pv i σ H, ⟨xs.length, by simp, Nat.zero_le _, h0⟩, ?_⟩
  rintro i m σ H ⟨rfl, hi, p⟩
  have q := hl i σ H hi p
  by_cases hlt : i < xs.length
  · refine .inr ⟨⟨xs, xs[i], q, by simp [hlt]⟩, Pv (i + 1), fun σ' H' p' => ⟨xs.length - (i + 1), by omega, rfl, hlt, p'⟩, fun x H' y => ?_⟩
    obtain ⟨T, z, e1, e2, e3, y⟩ := y
    subst e1 e3
    exact hs i z σ _ T (y xs q) p e2
  · have e : i = xs.length := by omega
    subst e
    exact .inl ⟨⟨xs, q, Nat.le_refl _⟩, hd σ H p⟩
section
variable {X : Cx}
end
open Builtin.Int (intBits)
noncomputable def Bt (m : Nat) (x : Int) : Prop := intBits x ≤ m
theorem Bt.iff {m : Nat} {x : Int} : Bt m x ↔ x.natAbs < 2 ^ m := intBits_le_iff
theorem Bt.mono {m n : Nat} {x : Int} (h : Bt m x) (l : m ≤ n) : Bt n x := Nat.le_trans h l
theorem Bt.mul {m n : Nat} {x y : Int} (h : Bt m x) (g : Bt n y) : Bt (m + n) (x * y) := intBits_mul_le h g
theorem Bt.le {m : Nat} {x y : Int} (h : x.natAbs ≤ y.natAbs) (g : Bt m y) : Bt m x := intBits_le_of_natAbs h g
section
variable {X : Cx}
noncomputable def CMulB (i j : Int) : Prop := Bt 4000 i ∧ Bt 4000 j
theorem op_mulB : OpR X (binaryOp .Mult) (rI CMulB fun i j => .int (i * j)) := opI fun _ _ _ _ _ _ _ hc q => mul_int q (IntMulOk.of_le hc.1 hc.2 (by decide))
noncomputable def CDivB (_ j : Int) : Prop := j ≠ 0 ∧ Bt 9000 j
theorem CDivB.log {i j : Int} (h : CDivB i j) : j.natAbs.log2 < 9000 := by
  have h1 : intBits j ≤ 9000 := h.2
  have h2 : (j == 0) = false := by simpa using h.1
  unfold Builtin.Int.intBits at h1
  rw [h2] at h1
  simp only [Bool.false_eq_true, if_false] at h1
  omega
theorem op_fdivB : OpR X (binaryOp .FloorDiv) (rI CDivB fun i j => .int (i.fdiv j)) := opI fun _ _ _ _ _ _ _ hc q => floordiv_int hc.1 q (.inl (PyProof.noPylong_of_log2 hc.log))
end
theorem small {n : Nat} (h : n ≤ 1000) : n ≤ sizeLine := Nat.le_of_lt (small1000 h)
theorem same_new {H : Hp} {p : Addr} (h : H p = none) (o : HO) : Same H (upd H p o) := fun b u q => by rw [upd_ne (ne_of_none q h)]; exact q
theorem Same.tup {K : PySem.W.Frag} {H H' : Hp} {a : Addr} {xs : List V} (e : Same H H') (h : SqT K H a xs) : SqT K H' a xs := by
  rcases h with (h | ⟨o, h⟩) | h
  · exact .inl (.inl (e _ _ h))
  · exact .inl (.inr ⟨o, e _ _ h⟩)
  · exact .inr h
end L2
namespace L2
open PySem PySem.Spec PyProof.Rows
theorem bo_int : bootBuiltins "int" = some (.type "int") := by decide +kernel
theorem bo_bool : bootBuiltins "bool" = some (.type "bool") := by decide +kernel
theorem bo_tuple : bootBuiltins "tuple" = some (.type "tuple") := by decide +kernel
theorem bo_list : bootBuiltins "list" = some (.type "list") := by decide +kernel
theorem bo_str : bootBuiltins "str" = some (.type "str") := by decide +kernel
theorem bo_range : bootBuiltins "range" = some (.type "range") := by decide +kernel
theorem bo_abs : bootBuiltins "abs" = some (.builtin "abs") := by decide +kernel
theorem bo_len : bootBuiltins "len" = some (.builtin "len") := by decide +kernel
theorem bo_sum : bootBuiltins "sum" = some (.builtin "sum") := by decide +kernel
theorem bo_max : bootBuiltins "max" = some (.builtin "max") := by decide +kernel
theorem bo_min : bootBuiltins "min" = some (.builtin "min") := by decide +kernel
theorem bo_isinstance : bootBuiltins "isinstance" = some (.builtin "isinstance") := by decide +kernel
theorem iteNT {c A B : Prop} [Decidable c] (hc : ¬ c) (h : A) : if (!decide c) = true then A else B := by
  rw [decide_eq_false hc]
  exact iteT h
theorem cutV_take (xs : List V) (k : Nat) : cutV xs none (some (k : Int)) = xs.take k := by
  unfold cutV
  rw [HT.sIx_none, HT.sIx_nat, List.drop_zero, Nat.sub_zero]
  by_cases h : k ≤ xs.length
  · rw [Nat.min_eq_left h]
  · rw [Nat.min_eq_right (by omega), List.take_of_length_le (Nat.le_refl _), List.take_of_length_le (by omega)]
end L2
namespace L2
open PySem PySem.Spec PyProof.Rows
end L2
namespace My
noncomputable def dv (n p : Int) : Int := if p < 0 then -((Int.gcd n p : Nat) : Int) else ((Int.gcd n p : Nat) : Int)
noncomputable def fN (n p : Int) : Int := n.fdiv (dv n p)
noncomputable def fD (n p : Int) : Int := p.fdiv (dv n p)
theorem gcd_pos {n p : Int} (h : p ≠ 0) : 0 < Int.gcd n p := by
  refine Nat.pos_of_ne_zero fun z => h ?_
  exact (Int.gcd_eq_zero_iff.mp z).2
theorem dv_ne {n p : Int} (h : p ≠ 0) : dv n p ≠ 0 := by
  have g := gcd_pos (n := n) h
  unfold dv
  split <;> omega
theorem dv_dvd_left (n p : Int) : dv n p ∣ n := by
  unfold dv
  split
  · exact Int.neg_dvd.mpr (Int.gcd_dvd_left ..)
  · exact Int.gcd_dvd_left ..
theorem dv_dvd_right (n p : Int) : dv n p ∣ p := by
  unfold dv
  split
  · exact Int.neg_dvd.mpr (Int.gcd_dvd_right ..)
  · exact Int.gcd_dvd_right ..
theorem dv_abs (n p : Int) : (dv n p).natAbs = Int.gcd n p := by
  unfold dv
  split <;> omega
theorem fdiv_of_dvd {d a : Int} (h : d ∣ a) (hd : d ≠ 0) : a = d * a.fdiv d := by
  obtain ⟨c, rfl⟩ := h
  have e : (d * c).fdiv d = c := by rw [Int.mul_comm]; exact Int.mul_fdiv_cancel c hd
  rw [e]
theorem fN_eq {n p : Int} (h : p ≠ 0) : n = dv n p * fN n p := fdiv_of_dvd (dv_dvd_left n p) (dv_ne h)
theorem fD_eq {n p : Int} (h : p ≠ 0) : p = dv n p * fD n p := fdiv_of_dvd (dv_dvd_right n p) (dv_ne h)
theorem fD_pos {n p : Int} (h : p ≠ 0) : 0 < fD n p := by
  have e := fD_eq (n := n) h
  have g := gcd_pos (n := n) h
  have z : fD n p ≠ 0 := fun z => h (by rw [e, z, Int.mul_zero])
  refine Int.lt_of_not_ge fun l => ?_
  have l' : fD n p < 0 := by omega
  by_cases hp : p < 0
  · have hd : dv n p < 0 := by unfold dv; rw [if_pos hp]; omega
    have := Int.mul_pos_of_neg_of_neg hd l'
    omega
  · have hd : 0 < dv n p := by unfold dv; rw [if_neg hp]; omega
    have := Int.mul_neg_of_pos_of_neg hd l'
    omega
theorem f_worth {n p : Int} (h : p ≠ 0) : fN n p * p = n * fD n p := by
  have e1 := fN_eq (n := n) h
  have e2 := fD_eq (n := n) h
  generalize fN n p = a at *
  generalize fD n p = b at *
  generalize dv n p = d at *
  subst e1
  rw [e2, ← Int.mul_assoc, Int.mul_comm a d]
theorem f_cop {n p : Int} (h : p ≠ 0) : Int.gcd (fD n p) (fN n p) = 1 := by
  have e1 := fN_eq (n := n) h
  have e2 := fD_eq (n := n) h
  have g := gcd_pos (n := n) h
  have ga := dv_abs n p
  have k : Int.gcd n p = (dv n p).natAbs * Int.gcd (fN n p) (fD n p) := by
    have : Int.gcd (dv n p * fN n p) (dv n p * fD n p) = (dv n p).natAbs * Int.gcd (fN n p) (fD n p) := Int.gcd_mul_left ..
    rw [← e1, ← e2] at this
    exact this
  rw [ga] at k
  rw [Int.gcd_comm]
  generalize Int.gcd (fN n p) (fD n p) = c at *
  generalize Int.gcd n p = d at *
  have k2 : d * 1 = d * c := by omega
  exact (Nat.eq_of_mul_eq_mul_left g k2).symm
theorem gcd_step {x y : Int} (hx : 0 ≤ x) (hy : 0 < y) : Int.gcd y (x % y) = Int.gcd x y := by
  obtain ⟨a, rfl⟩ := Int.eq_ofNat_of_zero_le hx
  obtain ⟨b, rfl⟩ := Int.eq_ofNat_of_zero_le (Int.le_of_lt hy)
  show Nat.gcd (b : Int).natAbs ((a : Int) % (b : Int)).natAbs = Nat.gcd (a : Int).natAbs (b : Int).natAbs
  rw [← Int.natCast_emod]
  simp only [Int.natAbs_natCast]
  rw [Nat.gcd_comm b, ← Nat.gcd_rec, Nat.gcd_comm]
theorem gcd_end {x : Int} (hx : 0 ≤ x) : ((Int.gcd x 0 : Nat) : Int) = x := by
  rw [Int.gcd_zero_right]
  omega
noncomputable def ab (x : Int) : Int := if x < 0 then -x else x
theorem ab_nonneg (x : Int) : 0 ≤ ab x := by unfold ab; split <;> omega
theorem ab_natAbs (x : Int) : (ab x).natAbs = x.natAbs := by unfold ab; split <;> omega
theorem gcd_ab (x y : Int) : Int.gcd (ab x) (ab y) = Int.gcd x y := by
  show Nat.gcd (ab x).natAbs (ab y).natAbs = Nat.gcd x.natAbs y.natAbs
  rw [ab_natAbs, ab_natAbs]
theorem gcd_ab_right (x y : Int) : Int.gcd x (ab y) = Int.gcd x y := by
  show Nat.gcd x.natAbs (ab y).natAbs = Nat.gcd x.natAbs y.natAbs
  rw [ab_natAbs]
theorem gcd_le {x y : Int} (h : y ≠ 0) : Int.gcd x y ≤ y.natAbs := Nat.le_of_dvd (by omega) (Int.gcd_dvd_natAbs_right x y)
theorem dv_le {n p : Int} (h : p ≠ 0) : (dv n p).natAbs ≤ p.natAbs := by rw [dv_abs]; exact gcd_le h
end My
namespace L2
open PySem PySem.Spec PyProof.Rows
noncomputable def clOf (scope : Scope) (env : Env) : List (Str × Addr) := (scope.names.filterMap fun p => if p.2 == .free then (env.cells.lookup p.1).map fun c => (p.1, c) else none).reverse
theorem lookup_mem {α : Type} {x : Str} {c : α} : ∀ {l : List (Str × α)}, l.lookup x = some c → (x, c) ∈ l
  | [], h => by simp at h
  | (y, d) :: r, h => by
    rw [List.lookup_cons] at h
    cases e : x == y with
    | true =>
      rw [e] at h
      have e1 : x = y := by simpa using e
      have e2 : d = c := by simpa using h
      rw [e1, e2]
      exact List.mem_cons_self
    | false =>
      rw [e] at h
      exact List.mem_cons_of_mem _ (lookup_mem h)
theorem lookup_some_of_mem {α : Type} {x : Str} : ∀ {l : List (Str × α)} {c : α}, (x, c) ∈ l → ∃ d, l.lookup x = some d
  | [], c, h => by simp at h
  | (y, d) :: r, c, h => by
    rw [List.lookup_cons]
    cases e : x == y with
    | true => exact ⟨d, rfl⟩
    | false =>
      rcases List.mem_cons.mp h with z | z
      · cases z
        simp at e
      · exact lookup_some_of_mem z
theorem clOf_sub {scope : Scope} {env : Env} {x : Str} {c : Addr} (h : (clOf scope env).lookup x = some c) : env.cells.lookup x = some c := by
  have m := List.mem_reverse.mp (lookup_mem h)
  obtain ⟨p, _, e⟩ := List.mem_filterMap.mp m
  split at e
  · obtain ⟨d, e1, e2⟩ := Option.map_eq_some_iff.mp e
    cases e2
    exact e1
  · cases e
theorem clOf_has {scope : Scope} {env : Env} {x : Str} {c : Addr} (h : scope.names.lookup x = some .free) (hc : env.cells.lookup x = some c) : (clOf scope env).lookup x = some c := by
  have m : (x, c) ∈ clOf scope env := List.mem_reverse.mpr (List.mem_filterMap.mpr ⟨(x, .free), lookup_mem h, by simp [hc]⟩)
  obtain ⟨d, e⟩ := lookup_some_of_mem m
  have := clOf_sub e
  rw [hc] at this
  cases this
  exact e
theorem relabel_lookup {scope : Scope} {env : Env} {x : Str} {k : NameKind} : ∀ {names : List (Str × NameKind)},
    (names.map fun (n, k) => if (k == NameKind.free && env.scope.kind == .function && env.kindOf n == some .cell) then (n, NameKind.cell) else (n, k)).lookup x = some k →
      names.lookup x = some k ∨ (k = .cell ∧ names.lookup x = some .free)
  | [], h => by simp at h
  | (n, j) :: r, h => by
    rw [List.map_cons] at h
    have ih := @relabel_lookup scope env x k r
    cases e : x == n with
    | true =>
      by_cases hc : (j == NameKind.free && env.scope.kind == .function && env.kindOf n == some .cell) = true
      · simp only [hc, if_true, List.lookup_cons, e] at h
        have hj : j = .free := by
          rw [Bool.and_eq_true, Bool.and_eq_true] at hc
          simpa using hc.1.1
        rw [List.lookup_cons, e]
        cases h
        exact .inr ⟨rfl, by rw [hj]⟩
      · simp only [hc, Bool.false_eq_true, if_false, List.lookup_cons, e] at h
        rw [List.lookup_cons, e]
        exact .inl h
    | false =>
      have h' : (r.map fun (n, k) => if (k == NameKind.free && env.scope.kind == .function && env.kindOf n == some .cell) then (n, NameKind.cell) else (n, k)).lookup x = some k := by
        by_cases hc : (j == NameKind.free && env.scope.kind == .function && env.kindOf n == some .cell) = true
        · simp only [hc, if_true, List.lookup_cons, e] at h
          exact h
        · simp only [hc, Bool.false_eq_true, if_false, List.lookup_cons, e] at h
          exact h
      rw [List.lookup_cons, e]
      exact ih h'
noncomputable def cxC (X : Cx) (Nc : List Str) (scope : Scope) (s₂ : Shared) (H₂ : Hp) (C : Addr) (fp : List Addr) : Cx where
  prog := X.prog
  w := X.w
  K := X.K
  mg := X.mg
  base := X.base
  A := X.A
  N := Nc
  s₀ := s₂
  H₀ := H₂
  env := compEnvC scope (clOf scope X.env) C X.env
  outer := X.stack
  stack := X.stack
  ex := fp
  fn := fun _ => false
  calm := X.calm
  pn := []
  xe := fun _ _ => False
noncomputable def stC (ixs : List (Option Nat)) (σ : St) : St := ixs.map fun o => match o with | none => none | some j => (σ[j]?).join
noncomputable def ixOk (N Nc : List Str) (ixs : List (Option Nat)) (osc sc : List (Str × NameKind)) : Bool :=
  ixs.length == Nc.length && (List.range ixs.length).all fun i => match ixs[i]? with
    | some (some j) => (match Nc[i]?, N[j]? with | some x, some y => x == y && osc.lookup x == some .cell && sc.lookup x == some .free | _, _ => false)
    | _ => true
noncomputable def scOk (osc sc : List (Str × NameKind)) : Bool := sc.all fun p => p.2 != .cell && (p.2 != .local || sc.lookup p.1 == some .local) && (p.2 != .free || osc.lookup p.1 == some .cell)
theorem ixOk_at {N Nc : List Str} {ixs : List (Option Nat)} {osc sc : List (Str × NameKind)} (h : ixOk N Nc ixs osc sc = true) {i j : Nat} (e : ixs[i]? = some (some j)) :
    ∃ x, Nc[i]? = some x ∧ N[j]? = some x ∧ osc.lookup x = some .cell ∧ sc.lookup x = some .free := by
  unfold ixOk at h
  rw [Bool.and_eq_true] at h
  have hi : i < ixs.length := (List.getElem?_eq_some_iff.mp e).1
  have q := List.all_eq_true.mp h.2 i (List.mem_range.mpr hi)
  rw [e] at q
  dsimp only at q
  cases e1 : Nc[i]? with
  | none => rw [e1] at q; simp at q
  | some x =>
    rw [e1] at q
    cases e2 : N[j]? with
    | none => rw [e2] at q; simp at q
    | some y =>
      rw [e2] at q
      dsimp only at q
      simp only [Bool.and_eq_true, beq_iff_eq] at q
      obtain ⟨⟨q1, q2⟩, q3⟩ := q
      subst q1
      exact ⟨x, rfl, rfl, q2, q3⟩
theorem ixOk_len {N Nc : List Str} {ixs : List (Option Nat)} {osc sc : List (Str × NameKind)} (h : ixOk N Nc ixs osc sc = true) : ixs.length = Nc.length := by
  unfold ixOk at h
  rw [Bool.and_eq_true] at h
  simpa using h.1
noncomputable def PTs (X : Cx) (ifs : List Expr) (t : TT) : Prop :=
  ∀ (pins : List (Addr × Obj)) (s : Shared) (σ : St) (H : Hp) (Q : Bool → Hp → Prop), Inv X pins σ H s → t σ H Q →
    wpAny (model X.prog X.w) X.A (forIn ifs true fun c r => if r = true then do let ok ← isTrue c X.env (eval c X.env); pure (ForInStep.yield ok) else pure (ForInStep.yield r)) (TP X pins σ Q) X.xe s
theorem pts_nil {X : Cx} : PTs X [] (fun _ H Q => Q true H) := fun _ _ _ H _ I h => wpAny_tests_nil ⟨H, I, h⟩
theorem pts_one {X : Cx} {c : Expr} {t : TT} (h : PT X c t) : PTs X [c] t := fun pins s σ H Q I q => wpAny_tests_one (h pins s σ H Q I q)
section
variable {prog : Program} {w : World} {A : Around} {R : Result → Shared → Prop} {s : Shared}
theorem compLoop_any {elt target iter : Expr} {ifs : List Expr} {scope : Scope} {pos : Pos} {it acc : Value} {env : Env} (I : Nat → Shared → Prop)
    (turn : ∀ n s, I n s → wpAny (model prog w) A (pyNext it) (fun r s₁ => match r with
      | none => R (.ok .next) s₁
      | some v => wpAny (model prog w) A (letOwnedTupleGo target it v) (fun _ s₁' => wpAny (model prog w) A (assign target env v) (fun _ s₂ =>
          wpAny (model prog w) A (forIn ifs true fun c r => if r = true then do let ok ← isTrue c env (eval c env); pure (ForInStep.yield ok) else pure (ForInStep.yield r)) (fun ok s₃ =>
            if ok = true then wpAny (model prog w) A (eval elt env) (fun x s₄ =>
              wpAny (model prog w) A (call (.builtin "list.append") [acc, x]) (fun _ s₅ => ∃ m, m < n ∧ I m s₅) (notedBy (model prog w) A env fun e s' => R (.error e) s') s₄) (notedBy (model prog w) A env fun e s' => R (.error e) s') s₃
            else ∃ m, m < n ∧ I m s₃) (notedBy (model prog w) A env fun e s' => R (.error e) s') s₂)
          (notedBy (model prog w) A env fun e s' => R (.error e) s') s₁') (notedBy (model prog w) A env fun e s' => R (.error e) s') s₁) (notedBy (model prog w) A env fun e s' => R (.error e) s') s)
    (n : Nat) (h : I n s) : codeAny (model prog w) A (.compLoop (.ListComp elt [⟨target, iter, ifs, 0⟩] scope pos) 0 it acc env) R s := by
  refine codeAny_loop rfl I (fun n s hI => ?_) n h
  show wpAny _ A ((compTurn (.ListComp elt [⟨target, iter, ifs, 0⟩] scope pos) 0 it acc env).onRaise (fun x => do noteFrame x env; theTreesLotGoes x)) _ _ s
  refine wpAny_noted ?_
  rw [compTurn_list]
  refine wpAny_bind (wpAny_standAt (wpAny_bind (wpAny_mono (turn n s hI) (fun r s₁ h₁ => ?_) fun _ _ h' => h')))
  cases r with
  | none => exact wpAny_pure h₁
  | some v =>
    refine wpAny_bind (wpAny_mono h₁ (fun _ s₁' h₁' => ?_) fun _ _ h' => h')
    refine wpAny_bind (wpAny_mono h₁' (fun _ s₂ h₂ => wpAny_bind (wpAny_mono h₂ (fun ok s₃ h₃ => ?_) fun _ _ h' => h')) fun _ _ h' => h')
    cases ok with
    | false => exact wpAny_pure ⟨rfl, h₃⟩
    | true =>
      exact wpAny_bind (wpAny_bind (wpAny_mono h₃ (fun x s₄ h₄ => wpAny_bind (wpAny_mono h₄ (fun _ s₅ h₅ => wpAny_pure (wpAny_pure ⟨rfl, h₅⟩)) fun _ _ h' => h')) fun _ _ h' => h'))
end
noncomputable def CompW (J : It) (g : TG) (tt : TT) (te : TE) (σc : St) (D : Addr) (H1 : Hp) (Q : Hp → Prop) : Prop :=
  ∃ W : Nat → Nat → List V → St → Hp → Prop, (∃ m, W 0 m [] σc (upd H1 D (.lst []))) ∧ ∀ i m ys σ H, W i m ys σ H → ys.length < sizeLine ∧
    ((J.stop i H ∧ Q H) ∨ (J.go i H ∧ ∀ x H', J.yld i H x H' → g x σ H' fun σ2 H2 => tt σ2 H2 fun b H3 =>
      if b = true then te σ2 H3 fun v H4 => H4 D = some (.lst ys) ∧ ∃ m', m' < m ∧ W (i + 1) m' (ys ++ [v]) σ2 (upd H4 D (.lst (ys ++ [v])))
      else ∃ m', m' < m ∧ W (i + 1) m' ys σ2 H3))
section
variable {X : Cx} {pins : List (Addr × Obj)} {σ : St} {H₂ : Hp} {s₂ : Shared}
theorem comp_core {elt iter tg : Expr} {ifs : List Expr} {scope : Scope} {pos : Pos} {g : TG} {tt : TT} {te : TE} {J : It} {fp : List Addr} {it : Addr} {tn : Nat → Heap → Prop} {Nc : List Str} {ixs : List (Option Nat)} {E : Value → Shared → Prop}
    {RR : Value → Addr → Result → Shared → Prop} {QD : Addr → Hp → Prop} (hc : X.calm = true) (hkind : scope.kind = .function) (hix : ixOk X.N Nc ixs X.env.scope.names scope.names = true) (hsc : scOk X.env.scope.names scope.names = true)
    (hg : ∀ s₂ H₂ C fp, PG (cxC X Nc scope s₂ H₂ C fp) tg g) (ht : ∀ s₂ H₂ C fp, PTs (cxC X Nc scope s₂ H₂ C fp) ifs tt) (he : ∀ s₂ H₂ C fp, PE (cxC X Nc scope s₂ H₂ C fp) elt te)
    (I : Inv X pins σ H₂ s₂) (T : Turn X.prog X.w X.K tg J fp it tn) (st : tn 0 s₂.heap) (hf : ∀ b ∈ fp, FpOk X pins H₂ b) (hW : ∀ D, H₂ D = none → CompW J g tt te (stC ixs σ) D H₂ (QD D))
    (hRR : ∀ D C s' H' m, Inv X pins σ H' s' → s'.heap.Ns C m → FpOk X pins H' C → D ≠ C → QD D H' → RR (.ref D) C (.ok .next) s') :
    wpAny (model X.prog X.w) X.A (newList []) (fun acc s₃ => wpAny (model X.prog X.w) X.A (newFunctionEnv scope X.env.globals (clOf scope X.env) [] X.env.qual none .none (some X.env)) (fun cenv s₄ =>
      codeAny (model X.prog X.w) X.A (.compStart (.ListComp elt [⟨tg, iter, ifs, 0⟩] scope pos) 0 (.ref it) acc { cenv with scope := relabel scope X.env }) (RR acc cenv.locals) s₄) E s₃) E s₂ := by
  have scA : ∀ p ∈ scope.names, (p.2 ≠ .cell) ∧ (p.2 = .free → X.env.scope.names.lookup p.1 = some .cell) := fun p hp => by
    have q := List.all_eq_true.mp hsc p hp
    simp only [Bool.and_eq_true, Bool.or_eq_true, bne_iff_ne, beq_iff_eq, ne_eq] at q
    exact ⟨q.1.1, fun z => q.2.resolve_left fun w => w z⟩
  refine wpAny_newObj_type (wpAny_newFunctionEnv (fun p hp => (scA p hp).1) (by intro y hy; simp at hy) (fun h₁ hns₁ hsb₁ => ?_) hkind)
  dsimp only at hns₁ hsb₁ ⊢
  generalize hH2 : s₂.heap.push { cls := .type "list", dict := none, data := .seq ([] : List Value).toArray } = G2 at hns₁ hsb₁ ⊢
  have hC : G2.objs.size = s₂.heap.objs.size + 1 := by rw [← hH2, Heap.size_push]
  have hDC : s₂.heap.objs.size ≠ G2.objs.size := by rw [hC]; exact Nat.ne_of_lt (Nat.lt_succ_self _)
  have hCle : s₂.heap.objs.size ≤ G2.objs.size := by rw [hC]; exact Nat.le_succ _
  have old : ∀ b o, s₂.heap.get? b = some o → h₁.get? b = some o := fun b o e =>
    hsb₁.extBut b o (by rw [hC]; exact Nat.ne_of_lt (Nat.lt_succ_of_lt (Heap.lt_size e))) (Heap.get?_push_of_some _ (hH2 ▸ Heap.get?_push_of_some _ e))
  have hnew : h₁.get? s₂.heap.objs.size = some { cls := .type "list", data := .seq ([] : List Value).toArray } :=
    hsb₁.extBut _ _ hDC (Heap.get?_push_of_some _ (hH2 ▸ Heap.get?_push_size _ rfl))
  have fD : H₂ s₂.heap.objs.size = none := I.hok.fresh (Nat.le_refl _)
  have fC : H₂ G2.objs.size = none := I.hok.fresh hCle
  have clt : ∀ x c, X.env.cells.lookup x = some c → c < s₂.heap.objs.size := fun x c e => by
    obtain ⟨v, q⟩ := I.cell x c e
    exact q.lt
  have flt : ∀ b ∈ fp, b < s₂.heap.objs.size := fun b hb => by
    obtain ⟨o, q, _⟩ := T.obj 0 _ st b hb
    exact Heap.lt_size q
  -- the block's context
  have okY : (cxC X Nc scope s₂ H₂ G2.objs.size fp).Ok := by
    refine ⟨I.ok.mod, hkind, I.ok.glob, I.ok.blt, hCle, fun x y c e1 e2 => I.ok.inj x y c (clOf_sub e1) (clOf_sub e2), fun x h => ?_, fun x c h _ => (nomatch h), I.ok.hd, I.ok.frames, .inl rfl, fun b hb => ⟨?_, fun x c e => (hf b hb).2.2.2.2.1 x c (clOf_sub e)⟩,
      fun b o e => I.bs b o e, Nat.le_trans I.ok.bsz I.sz, fun b o e hb => ?_, fun b hb hm => ?_, I.stack, I.stkFree⟩
    · have h' : scope.names.lookup x = some .free := by
        rcases h with h | h
        · rcases relabel_lookup (scope := scope) (env := X.env) (x := x) h with z | z
          · exact absurd rfl ((scA (x, .cell) (lookup_mem z)).1)
          · exact z.2
        · rcases relabel_lookup (scope := scope) (env := X.env) (x := x) h with z | z
          · exact z
          · cases z.1
      obtain ⟨c, e⟩ := I.ok.has x (.inl ((scA (x, .free) (lookup_mem h')).2 rfl))
      exact ⟨c, clOf_has h' e⟩
    · exact Nat.ne_of_lt (Nat.lt_of_lt_of_le (flt b hb) hCle)
    · rcases (hf b hb).2.2.2.1 with z | z
      · exact I.ok.noex b o e z
      · exact absurd (Nat.lt_of_lt_of_le (Heap.lt_size e) (Nat.le_trans I.ok.bsz z)) (Nat.lt_irrefl _)
    · rcases List.mem_cons.mp (I.stkSub b hm) with z | z
      · exact (hf b hb).2.1 z
      · exact (hf b hb).2.2.1 z
  have IY : Inv (cxC X Nc scope s₂ H₂ G2.objs.size fp) [] (stC ixs σ) (upd H₂ s₂.heap.objs.size (.lst [])) { s₂ with heap := h₁, toks := s₂.toks + ([] : List (Str × Value)).length } := by
    refine ⟨okY, rfl, I.bare, Un.laid old (Nat.le_refl _) fD, ⟨_, hns₁, fun i x v e1 e2 _ => ?_⟩, fun x c e => ?_, ?_, fun x c e => ?_, fun p hp => (nomatch hp), I.hok.laid old (Nat.le_refl _) ⟨Nat.zero_le _, [], 0, .nil, hnew⟩, ?_⟩
    · -- a name of the block that has a value is one of the def around
      obtain ⟨j, ej, ev⟩ : ∃ j, ixs[i]? = some (some j) ∧ σ[j]? = some (some v) := by
        unfold stC at e2
        rw [List.getElem?_map] at e2
        cases q : ixs[i]? with
        | none => rw [q] at e2; cases e2
        | some o =>
          rw [q] at e2
          cases o with
          | none => cases e2
          | some j =>
            have e3 : (σ[j]?).join = some v := Option.some.inj e2
            refine ⟨j, rfl, ?_⟩
            cases q2 : σ[j]? with
            | none => rw [q2] at e3; cases e3
            | some z =>
              rw [q2] at e3
              have e4 : z = some v := e3
              rw [e4]
      obtain ⟨y, k1, k2, k3, k4⟩ := ixOk_at hix ej
      have ey : x = y := Option.some.inj (e1.symm.trans k1)
      subst ey
      obtain ⟨mX, hnX, hlX⟩ := I.loc
      obtain ⟨u, ru, lu⟩ := hlX j x v k2 ev (.inr (.inl k3))
      refine ⟨u, ru, ?_⟩
      rcases lu with ⟨z, _⟩ | ⟨_, c, ec, hcell⟩
      · have z' : X.env.scope.names.lookup x = some .local := z
        rw [k3] at z'
        cases z'
      · have kk : Env.kindOf (compEnvC scope (clOf scope X.env) G2.objs.size X.env) x = some .cell ∨ Env.kindOf (compEnvC scope (clOf scope X.env) G2.objs.size X.env) x = some .free := by
          have : ∀ names : List (Str × NameKind), names.lookup x = some .free →
              (names.map fun (n, k) => if (k == NameKind.free && X.env.scope.kind == .function && X.env.kindOf n == some .cell) then (n, NameKind.cell) else (n, k)).lookup x = some .cell ∨
              (names.map fun (n, k) => if (k == NameKind.free && X.env.scope.kind == .function && X.env.kindOf n == some .cell) then (n, NameKind.cell) else (n, k)).lookup x = some .free := by
            intro names
            induction names with
            | nil => intro h; simp at h
            | cons p r ih =>
              obtain ⟨n, k⟩ := p
              intro h
              rw [List.lookup_cons] at h
              rw [List.map_cons]
              cases e : x == n with
              | true =>
                rw [e] at h
                have hk : k = .free := by simpa using h
                by_cases hcc : (k == NameKind.free && X.env.scope.kind == .function && X.env.kindOf n == some .cell) = true
                · simp only [hcc, if_true, List.lookup_cons, e]; exact .inl trivial
                · simp only [hcc, Bool.false_eq_true, if_false, List.lookup_cons, e]; exact .inr (by rw [hk])
              | false =>
                rw [e] at h
                have q := ih h
                by_cases hcc : (k == NameKind.free && X.env.scope.kind == .function && X.env.kindOf n == some .cell) = true
                · simp only [hcc, if_true, List.lookup_cons, e]; exact q
                · simp only [hcc, Bool.false_eq_true, if_false, List.lookup_cons, e]; exact q
          exact this scope.names k4
        obtain ⟨oc, ho, hd⟩ := hcell
        exact .inr ⟨kk, c, clOf_has k4 ec, ⟨oc, old c oc ho, hd⟩⟩
    · obtain ⟨v, oc, ho, hd⟩ := I.cell x c (clOf_sub e)
      exact ⟨v, oc, old c oc ho, hd⟩
    · exact (upd_ne (Ne.symm hDC)).trans fC
    · exact (upd_ne (Nat.ne_of_lt (clt x c (clOf_sub e)))).trans (I.freeC x c (clOf_sub e))
    · show (stC ixs σ).length = Nc.length
      unfold stC
      rw [List.length_map]
      exact ixOk_len hix
  have st₁ : tn 0 h₁ := T.keep 0 _ _ st fun b _ o e => old b o e
  obtain ⟨W, ⟨m0, w0⟩, turn⟩ := hW _ fD
  have stat : ∀ {H' : Hp} {pn : List (Addr × Obj)}, (∀ b ∈ fp, H' b = none) → (∀ p ∈ pn, p.1 ∉ fp) → ∀ b ∈ fp, FpOk (cxC X Nc scope s₂ H₂ G2.objs.size fp) pn H' b := fun {H' pn} hn hp b hb =>
    ⟨hn b hb, (okY.exf b hb).1, okY.exfs b hb, .inl hb, fun x c e z => (okY.exf b hb).2 x c e z, fun p hp' z => hp p (by simpa [cxC] using hp') (by rw [z]; exact hb)⟩
  have loop : ∀ s₃ : Shared, s₃ = { s₂ with heap := h₁, toks := s₂.toks + ([] : List (Str × Value)).length } →
      codeAny (model X.prog X.w) X.A (.compLoop (.ListComp elt [⟨tg, iter, ifs, 0⟩] scope pos) 0 (.ref it) (.ref s₂.heap.objs.size) (compEnvC scope (clOf scope X.env) G2.objs.size X.env)) (RR (.ref s₂.heap.objs.size) G2.objs.size) s₃ := by
    rintro s₃ rfl
    refine compLoop_any (fun n s' => ∃ i ys σ' H', Inv (cxC X Nc scope s₂ H₂ G2.objs.size fp) [] σ' H' s' ∧ tn i s'.heap ∧ (∀ b ∈ fp, H' b = none) ∧ W i n ys σ' H') ?_ m0
      ⟨0, [], _, _, IY, st₁, fun b hb => (upd_ne (Nat.ne_of_lt (flt b hb))).trans (hf b hb).1, w0⟩
    rintro n s3 ⟨i, ys, σ3, H3, I3, st3, fr3, w3⟩
    obtain ⟨hz, alt⟩ := turn i n ys σ3 H3 w3
    rcases alt with ⟨stop, qn⟩ | ⟨go, step⟩
    · refine thn (T.done (cxC X Nc scope s₂ H₂ G2.objs.size fp) rfl rfl rfl hc i [] s3 σ3 H3 _ I3 (stat fr3 (fun _ z => nomatch z)) st3 stop) fun r s4 hq8 => ?_
      obtain ⟨hr, I4⟩ := hq8
      subst hr
      have IX : Inv X pins σ H3 s4 := I.call' (ch := fp) I4.os I4.base I4.hok I4.bare fun b hb => ⟨(hf b hb).2.2.2.1, (hf b hb).2.1, (hf b hb).2.2.2.2.1, (hf b hb).2.2.2.2.2⟩
      obtain ⟨m4, hn4, _⟩ := I4.loc
      exact hRR _ _ s4 H3 m4 IX hn4 (I.fpOk hCle I4.free) hDC qn
    · refine thn (T.item (cxC X Nc scope s₂ H₂ G2.objs.size fp) rfl rfl rfl hc i [] s3 σ3 H3 _ I3 (stat fr3 (fun _ z => nomatch z)) st3 go) fun r s4 hq8 => ?_
      obtain ⟨u, hr, h4⟩ := hq8
      subst hr
      refine thn h4 fun _ s5 hq8 => ?_
      obtain ⟨x, H5, I5, r5, y5, st5, fr5⟩ := hq8
      have I5' := I5.pinned (stat fr5 (fun _ z => nomatch z)) (T.obj _ _ st5)
      refine wpAny_mono (hg s₂ H₂ G2.objs.size fp _ s5 _ H5 x u _ I5' r5 (step x H5 y5)) (fun _ s6 hq9 => GP.out hq9 fun σ6 H6 I6 q6 => ?_) fun _ _ z => (show False from z).elim
      refine wpAny_mono (ht s₂ H₂ G2.objs.size fp _ s6 σ6 H6 _ I6 q6) (fun ok s7 hq9 => ex3 hq9 fun H7 I7 q7 => ?_) fun _ _ z => (show False from z).elim
      have tnAt : ∀ {σ8 : St} {H8 : Hp} {s8 : Shared}, Inv (cxC X Nc scope s₂ H₂ G2.objs.size fp) ([] ++ pinsAt fp s5.heap) σ8 H8 s8 → tn (i + 1) s8.heap ∧ ∀ b ∈ fp, H8 b = none := fun {σ8 H8 s8} I8 =>
        ⟨T.keep _ _ _ st5 fun b hb o e => (I8.pin (b, o) (List.mem_append_right _ (List.mem_append_right _ (mem_pinsAt hb e)))).1, fun b hb => by
          obtain ⟨o, e, d⟩ := T.obj _ _ st5 b hb
          exact (I8.pin (b, o) (List.mem_append_right _ (List.mem_append_right _ (mem_pinsAt hb e)))).2.1⟩
      cases ok with
      | false =>
        rw [if_neg Bool.false_ne_true] at q7 ⊢
        obtain ⟨m', hm, w7⟩ := q7
        exact ⟨m', hm, i + 1, ys, σ6, H7, I7.unpinned, (tnAt I7).1, (tnAt I7).2, w7⟩
      | true =>
        rw [if_pos rfl] at q7 ⊢
        refine wpAny_mono (he s₂ H₂ G2.objs.size fp _ s7 σ6 H7 _ I7 q7) (fun u8 s8 hq8 => ?_) fun _ _ z => (show False from z).elim
        obtain ⟨v8, H8, I8, r8, hD8, m', hm, w8⟩ := hq8
        refine wpAny_mono (mt_append (X := cxC X Nc scope s₂ H₂ G2.objs.size fp) _ s8 σ6 H8 (.ref s₂.heap.objs.size) [v8] (.ref s₂.heap.objs.size) [u8] (fun _ H' => H' = upd H8 s₂.heap.objs.size (.lst (ys ++ [v8]))) I8 rfl (.cons r8 .nil) ⟨_, ys, v8, rfl, rfl, hD8, hz, rfl⟩)
          (fun _ s9 ⟨_, H9, I9, _, e9⟩ => ?_) fun _ _ z => (show False from z).elim
        subst e9
        exact ⟨m', hm, i + 1, ys ++ [v8], σ6, _, I9.unpinned, (tnAt I9).1, (tnAt I9).2, w8⟩
  exact codeAny_compStart_list (loop _ rfl) (T.self X.A 0 _ _ _ st₁ (loop _ rfl))
noncomputable def tComp (ixs : List (Option Nat)) (wi : TI) (g : TG) (tt : TT) (te : TE) : TE := fun σ H Q => wi σ H fun J H1 => ∀ D, H1 D = none → CompW J g tt te (stC ixs σ) D H1 fun H' => Q (.ref D) H'
theorem scOk_names {osc sc : List (Str × NameKind)} (h : scOk osc sc = true) : ∀ x ∈ sc, x.2 = .local → sc.lookup x.1 = some .local := fun p hp z => by
  have q := List.all_eq_true.mp h p hp
  simp only [Bool.and_eq_true, Bool.or_eq_true, bne_iff_ne, beq_iff_eq, ne_eq] at q
  exact q.1.2.resolve_left fun w => w z
theorem pe_comp {elt iter tg : Expr} {ifs : List Expr} {scope : Scope} {pos : Pos} {wi : TI} {g : TG} {tt : TT} {te : TE} (Nc : List Str) (ixs : List (Option Nat)) (hc : X.calm = true) (hi : PI X tg iter wi)
    (hg : ∀ s₂ H₂ C fp, PG (cxC X Nc scope s₂ H₂ C fp) tg g) (ht : ∀ s₂ H₂ C fp, PTs (cxC X Nc scope s₂ H₂ C fp) ifs tt) (he : ∀ s₂ H₂ C fp, PE (cxC X Nc scope s₂ H₂ C fp) elt te)
    (hix : ixOk X.N Nc ixs X.env.scope.names scope.names = true) (hsc : scOk X.env.scope.names scope.names = true) (hkind : scope.kind = .function := by rfl) (hclos : closureFor scope X.env = pure (clOf scope X.env) := by rfl)
    (hs : ∀ x, foldedSetIterable iter X.env x = pure x := by intro _; rfl) : PE X (.ListComp elt [⟨tg, iter, ifs, 0⟩] scope pos) (tComp ixs wi g tt te) := by
  intro pins s σ H Q I h
  rw [eval_ListComp]
  refine wpAny_comprehension_free (use := none) rfl hs hclos hkind (scOk_names hsc) (thn (hi pins s σ H _ I h) fun xv s₁ h₁ => thn h₁ fun itv s₂ h₂ => ?_)
  obtain ⟨it, fp, tn, J, H2, rfl, I2, T, st2, f2, hW⟩ := h₂
  refine comp_core (QD := fun D H' => Q (.ref D) H') (RR := fun acc C => compPost (model X.prog X.w) X.A X.xe none (EP X pins σ Q) acc C) hc hkind hix hsc hg ht he I2 T st2 f2 hW ?_
  intro D C s' H' m I' hn fC hDC q
  exact ⟨m, hn, fun h' hs' => ⟨.ref D, H', I'.turned (t' := s'.toks) (fun b o hb e => hs'.extBut b o hb e) fC.1 fC.2.1 fC.2.2.2.1 fC.2.2.2.2.1 fC.2.2.2.2.2, rfl, q⟩⟩
theorem ps_setComp {elt iter tg : Expr} {ifs : List Expr} {scope : Scope} {pos spos py : Pos} {wi : TI} {g : TG} {tt : TT} {te : TE} {i : Nat} {y : Str} (Nc : List Str) (ixs : List (Option Nat)) (hc : X.calm = true) (hN : X.N.Nodup) (hi' : X.N[i]? = some y) (hy : Loc X.env.scope y) (hi : PI X tg iter wi)
    (hg : ∀ s₂ H₂ C fp, PG (cxC X Nc scope s₂ H₂ C fp) tg g) (ht : ∀ s₂ H₂ C fp, PTs (cxC X Nc scope s₂ H₂ C fp) ifs tt) (he : ∀ s₂ H₂ C fp, PE (cxC X Nc scope s₂ H₂ C fp) elt te)
    (hix : ixOk X.N Nc ixs X.env.scope.names scope.names = true) (hsc : scOk X.env.scope.names scope.names = true) (hkind : scope.kind = .function := by rfl) (hclos : closureFor scope X.env = pure (clOf scope X.env) := by rfl)
    (hs : ∀ x, foldedSetIterable iter X.env x = pure x := by intro _; rfl) (hsw : swapsWith (.ListComp elt [⟨tg, iter, ifs, 0⟩] scope pos) (some (.Name y py)) spos.line X.env = pure true := by rfl)
    (hfn : X.fn y = true ∨ X.env.scope.names.lookup y = some .local := by first | exact .inl rfl | exact .inr rfl | assumption) :
    PS X (.Assign [.Name y py] (.ListComp elt [⟨tg, iter, ifs, 0⟩] scope pos) spos) (tAsg (tComp ixs wi g tt te) (gName i)) := by
  intro pins s σ H D I h
  rw [exec_Assign_Name_used _ _ _ _ hsw]
  refine wpAny_bind (wpAny_standAt (wpAny_bind ?_))
  show wpAny _ _ (do let _ ← comprehension (.ListComp elt [⟨tg, iter, ifs, 0⟩] scope pos) scope X.env _ (newList []) false (eval iter X.env) (some (assign (.Name y py) X.env))) _ _ s
  refine wpAny_bind (wpAny_mono (wpAny_comprehension_free (use := some (assign (.Name y py) X.env)) (Q := fun _ s' => SP X pins D .next s') rfl hs hclos hkind (scOk_names hsc) (thn (hi pins s σ H _ I h) fun xv s₁ h₁ => thn h₁ fun itv s₂ h₂ => ?_))
    (fun _ s' hq => wpAny_pure (wpAny_pure hq)) fun _ _ e => e)
  obtain ⟨it, fp, tn, J, H2, rfl, I2, T, st2, f2, hW⟩ := h₂
  refine comp_core (QD := fun Dn H' => D.nx (σ.set i (some (.ref Dn))) H') (RR := fun acc C => compPost (model X.prog X.w) X.A X.xe (some (assign (.Name y py) X.env)) (fun _ s' => SP X pins D .next s') acc C) hc hkind hix hsc hg ht he I2 T st2 f2 hW ?_
  intro Dn C s' H' m I' hn fC hDC q
  show wpAny _ _ (assign (.Name y py) X.env (.ref Dn)) _ _ _
  refine wpAny_assign_Name (store_ok2 I' hN hi' hy (v := .ref Dn) rfl (fun s2 I2 hq8 => ?_) hfn)
  obtain ⟨a, sb, ha⟩ := hq8
  have hCa : C ≠ a := by
    rcases ha with z | z
    · rw [z]; exact fC.2.1
    · exact fun e => fC.2.2.2.2.1 y a z e.symm
  refine ⟨m, hn.sameBut sb hCa, fun h' hs' => ?_⟩
  exact ⟨_, H', I2.turned (t' := s2.toks) (fun b o hb e => hs'.extBut b o hb e) fC.1 fC.2.1 fC.2.2.2.1 fC.2.2.2.2.1 fC.2.2.2.2.2, q⟩
end
end L2
namespace L2
open PySem
theorem up4 {x : Int} (h : Bt 400 x) : Bt 4000 x := h.mono (by decide)
noncomputable def rAbs : List V → Hp → VK → Prop := fun xs H Q => ∃ i, xs = [.int i] ∧ Q (.int (if i < 0 then -i else i)) H
theorem call_absR {X : Cx} : CallR X (.builtin "abs") rAbs := call_abs
noncomputable def rMax2 : List V → Hp → VK → Prop := fun xs H Q => ∃ i j, xs = [.int i, .int j] ∧ Q (.int (if j > i then j else i)) H
theorem call_max2R {X : Cx} (hc : X.calm = true) : CallR X (.builtin "max") rMax2 := call_max2 hc
noncomputable def rMin2 : List V → Hp → VK → Prop := fun xs H Q => ∃ i j, xs = [.int i, .int j] ∧ Q (.int (if j < i then j else i)) H
theorem call_min2R {X : Cx} (hc : X.calm = true) : CallR X (.builtin "min") rMin2 := call_min2 hc
noncomputable def rLenSeq (K : PySem.W.Frag) : List V → Hp → VK → Prop := fun xs H Q => ∃ p ys, xs = [.ref p] ∧ (SqL K H p ys ∨ SqT K H p ys) ∧ Q (.int ys.length) H
theorem call_lenR {X : Cx} : CallR X (.builtin "len") (rLenSeq X.K) := call_len_seq
noncomputable def rListOf (K : PySem.W.Frag) : List V → Hp → VK → Prop := fun xs H Q => ∃ p ys, xs = [.ref p] ∧ (SqL K H p ys ∨ SqT K H p ys) ∧ ∀ l, H l = none → Q (.ref l) (upd H l (.lst ys))
theorem call_listR {X : Cx} : CallR X (.type "list") (rListOf X.K) := call_list_of
section
variable {t u : TS} {D : Ends} {σ : St} {H : Hp} {te ta tb : TE} {tt : TT} {x y : V} {Q : VK}
theorem tSeq.join (Φ : St → Hp → Prop) (h1 : ∀ R : St → Hp → Prop, (∀ σ' H', Φ σ' H' → R σ' H') → t { D with nx := R } σ H) (h2 : ∀ σ' H', Φ σ' H' → u D σ' H') : tSeq t u D σ H := h1 (u D) h2
theorem vc_seq (h : t { D with nx := u D } σ H) : tSeq t u D σ H := h
theorem vc_next (h : D.nx σ H) : tNext D σ H := h
theorem vc_asg {g : TG} (h : te σ H fun x H1 => g x σ H1 D.nx) : tAsg te g D σ H := h
theorem vc_name {i : Nat} {R : St → Hp → Prop} (h : R (σ.set i (some x)) H) : gName i x σ H R := h
theorem vc_var {i : Nat} (e : σ[i]? = some (some x)) (h : Q x H) : tVar i σ H Q := ⟨x, e, h⟩
theorem vc_c (h : Q x H) : tC x σ H Q := h
theorem vc_op {r : R2} (h : ta σ H fun x H1 => tb σ H1 fun y H2 => r x y H2 Q) : tOp r ta tb σ H Q := h
theorem vc_rI {C : Int → Int → Prop} {g : Int → Int → V} {i j : Int} (c : C i j) (h : Q (g i j) H) : rI C g (.int i) (.int j) H Q := ⟨i, j, rfl, rfl, c, h⟩
theorem vc_rI0 {g : Int → Int → V} {i j : Int} (h : Q (g i j) H) : rI0 g (.int i) (.int j) H Q := ⟨i, j, rfl, rfl, h⟩
theorem vc_eq (c : scal x y = true) (h : Q (.bl (decide (x = y))) H) : rEq x y H Q := ⟨c, h⟩
theorem vc_ne (c : scal x y = true) (h : Q (.bl (!decide (x = y))) H) : rNe x y H Q := ⟨c, h⟩
theorem vc_test {Q : Bool → Hp → Prop} (h : te σ H fun x H' => ∃ k, x = .bl k ∧ Q k H') : tTest te σ H Q := h
theorem vc_tB {Q : Bool → Hp → Prop} (h : te σ H fun x H' => ∃ k, x = .bl k ∧ Q k H') : tB te σ H Q := h
theorem vc_ex {b : Bool} {Q : Bool → Prop} (h : Q b) : ∃ k, V.bl b = .bl k ∧ Q k := ⟨b, rfl, h⟩
theorem vc_not {Q : Bool → Hp → Prop} (h : tt σ H fun c H1 => Q (!c) H1) : tNot tt σ H Q := h
theorem vc_and {t1 t2 : TT} {Q : Bool → Hp → Prop} (h : t1 σ H fun c H1 => if c = true then t2 σ H1 Q else Q false H1) : tAnd t1 t2 σ H Q := h
theorem vc_or {t1 t2 : TT} {Q : Bool → Hp → Prop} (h : t1 σ H fun c H1 => if c = true then Q true H1 else t2 σ H1 Q) : tOr t1 t2 σ H Q := h
theorem vc_notV (h : te σ H fun x H1 => ∃ c, x = .bl c ∧ Q (.bl (!c)) H1) : tNotV te σ H Q := h
theorem vc_andV (h : ta σ H fun x H1 => ∃ c, x = .bl c ∧ if c = true then tb σ H1 Q else Q (.bl false) H1) : tAndV ta tb σ H Q := h
theorem vc_orV (h : ta σ H fun x H1 => ∃ c, x = .bl c ∧ if c = true then Q (.bl true) H1 else tb σ H1 Q) : tOrV ta tb σ H Q := h
theorem vc_if {c : TT} (h : c σ H fun b H1 => if b = true then t D σ H1 else u D σ H1) : tIfS c t u D σ H := h
theorem vc_ret (h : te σ H D.rt) : tRet te D σ H := h
theorem vc_drop (h : te σ H fun _ H1 => D.nx σ H1) : tDrop te D σ H := h
theorem vc_nil {Q : List V → Hp → Prop} (h : Q [] H) : tNil σ H Q := h
theorem vc_cons {tr : TA} {Q : List V → Hp → Prop} (h : te σ H fun x H1 => tr σ H1 fun xs H2 => Q (x :: xs) H2) : tCons te tr σ H Q := h
theorem vc_tup {ta : TA} (h : ta σ H fun xs H1 => xs.length ≤ sizeLine ∧ ∀ p, H1 p = none → Q (.ref p) (upd H1 p (.tup xs))) : tTup ta σ H Q := h
theorem vc_lst {ta : TA} (h : ta σ H fun xs H1 => xs.length ≤ sizeLine ∧ ∀ p, H1 p = none → Q (.ref p) (upd H1 p (.lst xs))) : tLst ta σ H Q := h
theorem vc_call {sp : Sp} {dvs : List V} {E : XK} {ta : TA} (h : ta σ H fun vs H1 => sp (vs ++ dvs) H1 Q E) : tCall sp dvs E ta σ H Q := h
theorem vc_cb {r : List V → Hp → VK → Prop} {ta : TA} (h : ta σ H fun vs H1 => r vs H1 Q) : tCB r ta σ H Q := h
theorem vc_ifE {c : TT} (h : c σ H fun b H1 => if b = true then ta σ H1 Q else tb σ H1 Q) : tIf c ta tb σ H Q := h
theorem vc_ixT {K : PySem.W.Frag} {p : Addr} {xs : List V} {i : Int} (h : SqT K H p xs) (e : atI xs i = some x) (q : Q x H) : rIxT K (.ref p) (.int i) H Q := ⟨p, xs, i, x, rfl, rfl, h, e, q⟩
theorem vc_ixL {K : PySem.W.Frag} {p : Addr} {xs : List V} {i : Int} (h : SqL K H p xs) (e : atI xs i = some x) (q : Q x H) : rIxL K (.ref p) (.int i) H Q := ⟨p, xs, i, x, rfl, rfl, h, e, q⟩
theorem vc_abs {i : Int} (h : Q (.int (My.ab i)) H) : rAbs [.int i] H Q := ⟨i, rfl, h⟩
theorem vc_max {i j : Int} (h : Q (.int (max i j)) H) : rMax2 [.int i, .int j] H Q := ⟨i, j, rfl, by
  have e : (if j > i then j else i) = max i j := by rw [Int.max_def]; split <;> split <;> omega
  rw [e]; exact h⟩
theorem vc_min {i j : Int} (h : Q (.int (min i j)) H) : rMin2 [.int i, .int j] H Q := ⟨i, j, rfl, by
  have e : (if j < i then j else i) = min i j := by rw [Int.min_def]; split <;> split <;> omega
  rw [e]; exact h⟩
theorem upd_keep {p q : Addr} {o o' : HO} (hq : H q = none) (h : H p = some o) : upd H q o' p = some o := (upd_ne (ne_of_none h hq)).trans h
end
end L2
namespace L2
open PySem PySem.Spec PyProof.Rows
noncomputable def okName (x : Str) : Bool := !(x == ("__debug__" : Str)) && !(x == ("__classdict__" : Str)) && !(x == ("__name__" : Str))
noncomputable def VOk (N : List Str) (sc : Scope) : Bool := N.all fun x => okName x && (sc.names.lookup x == some .local || sc.names.lookup x == some .cell)
noncomputable def GOk (G : List Str) (sc : Scope) : Bool := G.all fun x => okName x && sc.names.lookup x == some .globalImplicit
section
variable {N G : List Str} {sc : Scope} {x : Str}
theorem okName.a (h : okName x = true) : (x == ("__debug__" : Str)) = false := by
  unfold okName at h
  simp only [Bool.and_eq_true, Bool.not_eq_true'] at h
  exact h.1.1
theorem okName.b (h : okName x = true) : (x == ("__classdict__" : Str)) = false := by
  unfold okName at h
  simp only [Bool.and_eq_true, Bool.not_eq_true'] at h
  exact h.1.2
theorem okName.c (h : okName x = true) : x ≠ "__name__" := by
  unfold okName at h
  simp only [Bool.and_eq_true, Bool.not_eq_true'] at h
  intro e
  rw [e] at h
  have := h.2
  rw [beq_self_eq_true] at this
  cases this
theorem VOk.at (V : VOk N sc = true) {i : Nat} (e : N[i]? = some x) : okName x = true ∧ Loc sc x := by
  have q := List.all_eq_true.mp V x (List.mem_of_getElem? e)
  simp only [Bool.and_eq_true, Bool.or_eq_true, beq_iff_eq] at q
  exact q
theorem GOk.at (V : GOk G sc = true) {i : Nat} (e : G[i]? = some x) : okName x = true ∧ sc.names.lookup x = some .globalImplicit := by
  have q := List.all_eq_true.mp V x (List.mem_of_getElem? e)
  simp only [Bool.and_eq_true, beq_iff_eq] at q
  exact q
end
section
variable {X : Cx} {N G : List Str} {sc : Scope} {x : Str} {pos p : Pos}
theorem qv (V : VOk N sc = true) (i : Nat) (hN : N[i]? = some x) (hX : X.N = N) (hs : X.env.scope = sc) : PE X (.Name x pos) (tVar i) := by
  obtain ⟨a, b⟩ := VOk.at V hN
  refine pe_var (by rw [hX]; exact hN) ?_ (okName.a a) (okName.b a)
  rw [hs]
  rcases b with b | b
  · exact .inl b
  · exact .inr (.inl b)
theorem qgl (V : GOk G sc = true) (j : Nat) (hj : G[j]? = some x) (hs : X.env.scope = sc) : Gl X x := by
  unfold Gl Env.kindOf
  rw [hs]
  exact (GOk.at V hj).2
theorem q_set {i : Nat} {e : Expr} {te : TE} {pos' : Pos} (V : VOk N sc = true) (hN : N.Nodup) (hi : N[i]? = some x) (hX : X.N = N) (hs : X.env.scope = sc) (he : PE X e te) (hsw : swapsWith e (some (.Name x pos')) pos.line X.env = pure false := by rfl)
    (hf : X.fn x = true ∨ X.env.scope.names.lookup x = some .local := by exact .inl rfl) : PS X (.Assign [.Name x pos'] e pos) (tAsg te (gName i)) :=
  ps_set (by rw [hX]; exact hN) (by rw [hX]; exact hi) (by rw [hs]; exact (VOk.at V hi).2) he hsw hf
theorem q_name {i : Nat} (V : VOk N sc = true) (hN : N.Nodup) (hi : N[i]? = some x) (hX : X.N = N) (hs : X.env.scope = sc)
    (hf : X.fn x = true ∨ X.env.scope.names.lookup x = some .local := by exact .inl rfl) : PG X (.Name x pos) (gName i) :=
  pg_name (by rw [hX]; exact hN) (by rw [hX]; exact hi) (by rw [hs]; exact (VOk.at V hi).2) hf
theorem q_call {CX : CXT} {k : Nat} {f : Addr} {fd : FuncData} {ps : List Str} {sp : Sp} {ds : List Value} {dvs : List V} {E : XK} {e : Expr} {es : List Expr} {t : TA} (F : FnOk X.prog X.w X.K X.mg X.base CX k f fd ps sp) (hr : Room k X.A)
    (V : GOk G sc = true) (j : Nat) (hj : G[j]? = some x) (hs : X.env.scope = sc) (hm : X.mg x = some (.ref f)) (hk : PySem.W.keepIn X.K (.ref f) = true) (hb : Binds X.K fd ps ds) (hd : Vals dvs ds) (hx : Passes CX X E)
    (ha : PA X (e :: es) t) (he : starEach (e :: es) X.env = (false, eval e X.env) :: starEach es X.env := by rfl) (hpl : (backTo pos (starEach es X.env)).any (·.1) = false := by rfl) :
    PE X (.Call (.Name x p) (e :: es) [] pos) (tCall sp dvs E t) := pe_call F hr (qgl V j hj hs) hm hk hb hd hx ha (okName.a (GOk.at V hj).1) he hpl
theorem q_make {CX : CXT} {k : Nat} {C f : Addr} {fd : FuncData} {ps : List Str} {sp : Sp} {ds : List Value} {dvs : List V} {E : XK} {e : Expr} {es : List Expr} {t : TA} (M : Mk X.K C f) (F : FnOk X.prog X.w X.K X.mg X.base CX k f fd ps sp) (hr : Room (k + 1) X.A)
    (V : GOk G sc = true) (j : Nat) (hj : G[j]? = some x) (hs : X.env.scope = sc) (hm : X.mg x = some (.ref C)) (hb : Binds X.K fd ps ds) (hd : Vals dvs ds) (hx : Passes CX X E)
    (ha : PA X (e :: es) t) (he : starEach (e :: es) X.env = (false, eval e X.env) :: starEach es X.env := by rfl) (hpl : (backTo pos (starEach es X.env)).any (·.1) = false := by rfl) :
    PE X (.Call (.Name x p) (e :: es) [] pos) (tMake C sp dvs E t) := pe_make M F hr (qgl V j hj hs) hm hb hd hx ha (okName.a (GOk.at V hj).1) he hpl
theorem q_callB {id : String} {r : List V → Hp → VK → Prop} {e : Expr} {es : List Expr} {t : TA} (hc : CallR X (.builtin id) r) (V : GOk G sc = true) (j : Nat) (hj : G[j]? = some x) (hs : X.env.scope = sc) (hm : X.mg x = none) (hv : bootBuiltins x = some (.builtin id)) (ha : PA X (e :: es) t)
    (he : starEach (e :: es) X.env = (false, eval e X.env) :: starEach es X.env := by rfl) (hpl : (backTo pos (starEach es X.env)).any (·.1) = false := by rfl) : PE X (.Call (.Name x p) (e :: es) [] pos) (tCB r t) :=
  pe_callB hc (qgl V j hj hs) hm hv ha (okName.c (GOk.at V hj).1) (okName.a (GOk.at V hj).1) he hpl
theorem q_callTy {T : String} {r : List V → Hp → VK → Prop} {e : Expr} {es : List Expr} {t : TA} (hc : CallR X (.type T) r) (V : GOk G sc = true) (j : Nat) (hj : G[j]? = some x) (hs : X.env.scope = sc) (hm : X.mg x = none) (hv : bootBuiltins x = some (.type T)) (ha : PA X (e :: es) t)
    (he : starEach (e :: es) X.env = (false, eval e X.env) :: starEach es X.env := by rfl) (hpl : (backTo pos (starEach es X.env)).any (·.1) = false := by rfl) : PE X (.Call (.Name x p) (e :: es) [] pos) (tCB r t) :=
  pe_callTy hc (qgl V j hj hs) hm hv ha (okName.c (GOk.at V hj).1) (okName.a (GOk.at V hj).1) he hpl
theorem q_bltn {v : V} {u : Value} (V : GOk G sc = true) (j : Nat) (hj : G[j]? = some x) (hs : X.env.scope = sc) (hm : X.mg x = none) (hv : bootBuiltins x = some u) (r : RelV v u) : PE X (.Name x pos) (tC v) := pe_bltn (qgl V j hj hs) hm hv r (okName.c (GOk.at V hj).1) (okName.a (GOk.at V hj).1)
end
end L2
namespace L2
open PySem PySem.Spec PyProof.Rows PySem.W
mutual
inductive Rep (K : PySem.W.Frag) (H : Hp) : V → Dat → Prop where
  | non : Rep K H .non .none
  | bl (b : Bool) : Rep K H (.bl b) (.bool b)
  | int (i : Int) : Rep K H (.int i) (.int i)
  | str (x : Str) : Rep K H (.str x) (.str x)
  | tup {a : Addr} {xs : List V} {ds : List Dat} : SqT K H a xs → Reps K H xs ds → Rep K H (.ref a) (.tuple ds)
  | lst {a : Addr} {xs : List V} {ds : List Dat} : SqL K H a xs → Reps K H xs ds → Rep K H (.ref a) (.list ds)
inductive Reps (K : PySem.W.Frag) (H : Hp) : List V → List Dat → Prop where
  | nil : Reps K H [] []
  | cons {x : V} {xs : List V} {d : Dat} {ds : List Dat} : Rep K H x d → Reps K H xs ds → Reps K H (x :: xs) (d :: ds)
end
section
variable {K : PySem.W.Frag} {H H' : Hp}
theorem Rep.same (e : Same H H') {v : V} {d : Dat} (h : Rep K H v d) : Rep K H' v d :=
  Rep.rec (motive_1 := fun v d _ => Rep K H' v d) (motive_2 := fun xs ds _ => Reps K H' xs ds) .non .bl .int .str (fun h _ r => .tup (e.tup h) r) (fun h _ r => .lst (e.seq h) r) .nil (fun _ _ a b => .cons a b) h
theorem Reps.same (e : Same H H') {xs : List V} {ds : List Dat} (h : Reps K H xs ds) : Reps K H' xs ds :=
  Reps.rec (motive_1 := fun v d _ => Rep K H' v d) (motive_2 := fun xs ds _ => Reps K H' xs ds) .non .bl .int .str (fun h _ r => .tup (e.tup h) r) (fun h _ r => .lst (e.seq h) r) .nil (fun _ _ a b => .cons a b) h
theorem Reps.byRows {M : List V → List Dat → Prop} (n : M [] []) (c : ∀ {x : V} {xs : List V} {d : Dat} {ds : List Dat}, Rep K H x d → Reps K H xs ds → M xs ds → M (x :: xs) (d :: ds)) {xs : List V} {ds : List Dat} (h : Reps K H xs ds) : M xs ds :=
  Reps.rec (motive_1 := fun _ _ _ => True) (motive_2 := fun xs ds _ => M xs ds) trivial (fun _ => trivial) (fun _ => trivial) (fun _ => trivial) (fun _ _ _ => trivial) (fun _ _ _ => trivial) n (fun a b _ m => c a b m) h
theorem Reps.length {xs : List V} {ds : List Dat} (h : Reps K H xs ds) : xs.length = ds.length :=
  h.byRows (M := fun xs ds => xs.length = ds.length) rfl fun _ _ r => congrArg (· + 1) r
theorem Reps.get {xs : List V} {ds : List Dat} {i : Nat} {x : V} (h : Reps K H xs ds) (e : xs[i]? = some x) : ∃ d, ds[i]? = some d ∧ Rep K H x d :=
  h.byRows (M := fun xs ds => ∀ i, xs[i]? = some x → ∃ d, ds[i]? = some d ∧ Rep K H x d) (fun i e => by simp at e) (fun a _ m i e => by
    cases i with
    | zero =>
      rw [List.getElem?_cons_zero] at e
      cases e
      exact ⟨_, rfl, a⟩
    | succ i =>
      rw [List.getElem?_cons_succ] at e ⊢
      exact m i e) i e
theorem Reps.get' {xs : List V} {ds : List Dat} {i : Nat} {d : Dat} (h : Reps K H xs ds) (e : ds[i]? = some d) : ∃ x, xs[i]? = some x ∧ Rep K H x d :=
  h.byRows (M := fun xs ds => ∀ i, ds[i]? = some d → ∃ x, xs[i]? = some x ∧ Rep K H x d) (fun i e => by simp at e) (fun a _ m i e => by
    cases i with
    | zero =>
      rw [List.getElem?_cons_zero] at e
      cases e
      exact ⟨_, rfl, a⟩
    | succ i =>
      rw [List.getElem?_cons_succ] at e ⊢
      exact m i e) i e
theorem Reps.append {xs ys : List V} {ds es : List Dat} (h : Reps K H xs ds) (r : Reps K H ys es) : Reps K H (xs ++ ys) (ds ++ es) :=
  h.byRows (M := fun xs ds => Reps K H (xs ++ ys) (ds ++ es)) r fun a _ m => .cons a m
theorem Reps.one {x : V} {d : Dat} (h : Rep K H x d) : Reps K H [x] [d] := .cons h .nil
theorem Reps.ints_of {xs : List V} {ns : List Int} (h : Reps K H xs (ns.map Dat.int)) : xs = ns.map V.int :=
  h.byRows (M := fun xs ds => ∀ ns : List Int, ds = ns.map Dat.int → xs = ns.map V.int) (fun ns e => by
    cases ns with
    | nil => rfl
    | cons => cases e) (fun a _ m ns e => by
    cases ns with
    | nil => cases e
    | cons n r =>
      cases e
      cases a
      rw [m r rfl]
      rfl) ns rfl
mutual
noncomputable def noL : Dat → Bool
  | .list _ => false
  | .tuple ds => noLs ds
  | _ => true
noncomputable def noLs : List Dat → Bool
  | [] => true
  | d :: ds => noL d && noLs ds
end
noncomputable def SameT (H H' : Hp) : Prop := ∀ b o, (∃ xs, Rd H b (.tup xs)) → H b = some o → H' b = some o
theorem SameT.tup (e : SameT H H') {a : Addr} {xs : List V} (h : SqT K H a xs) : SqT K H' a xs := by
  rcases h with h | h
  · rcases h with h | ⟨o, h⟩
    · exact .inl (.inl (e a _ ⟨xs, .inl h⟩ h))
    · exact .inl (.inr ⟨o, e a _ ⟨xs, .inr ⟨o, h⟩⟩ h⟩)
  · exact .inr h
theorem Rep.sameT (e : SameT H H') {v : V} {d : Dat} (n : noL d = true) (h : Rep K H v d) : Rep K H' v d :=
  Rep.rec (motive_1 := fun v d _ => noL d = true → Rep K H' v d) (motive_2 := fun xs ds _ => noLs ds = true → Reps K H' xs ds) (fun _ => .non) (fun b _ => .bl b) (fun i _ => .int i) (fun x _ => .str x) (fun h _ r n => .tup (e.tup h) (r n)) (fun _ _ _ n => absurd (show false = true from n) (by decide)) (fun _ => .nil)
    (fun _ _ a b n => by
      rw [noLs, Bool.and_eq_true] at n
      exact .cons (a n.1) (b n.2)) h n
theorem Reps.sameT (e : SameT H H') {xs : List V} {ds : List Dat} (n : noLs ds = true) (h : Reps K H xs ds) : Reps K H' xs ds :=
  h.byRows (M := fun xs ds => noLs ds = true → Reps K H' xs ds) (fun _ => .nil) (fun a _ m n => by
    rw [noLs, Bool.and_eq_true] at n
    exact .cons (a.sameT e n.1) (m n.2)) n
theorem noLs_map {α : Type} {f : α → Dat} (h : ∀ a, noL (f a) = true) : ∀ xs : List α, noLs (xs.map f) = true
  | [] => rfl
  | x :: r => by rw [List.map_cons, noLs, h x, noLs_map h r]; rfl
theorem Rd.lst_ne {a b : Addr} {xs ys : List V} (h : H a = some (.lst ys)) (r : Rd H b (.tup xs)) : b ≠ a := by
  rintro rfl
  rcases r with r | ⟨o, r⟩ <;> rw [h] at r <;> cases r
theorem Rd.up {b : Addr} {u : HO} (e : Same H H') (r : Rd H b u) : Rd H' b u := by
  rcases r with r | ⟨o, r⟩
  · exact .inl (e _ _ r)
  · exact .inr ⟨o, e _ _ r⟩
theorem Rep.int_of {v : V} {i : Int} (h : Rep K H v (.int i)) : v = .int i := by cases h; rfl
theorem Rep.str_of {v : V} {i : Str} (h : Rep K H v (.str i)) : v = .str i := by cases h; rfl
theorem Rep.tup_of {v : V} {ds : List Dat} (h : Rep K H v (.tuple ds)) : ∃ a xs, v = .ref a ∧ SqT K H a xs ∧ Reps K H xs ds := by
  cases h with
  | tup h r => exact ⟨_, _, rfl, h, r⟩
theorem Rep.lst_of {v : V} {ds : List Dat} (h : Rep K H v (.list ds)) : ∃ a xs, v = .ref a ∧ SqL K H a xs ∧ Reps K H xs ds := by
  cases h with
  | lst h r => exact ⟨_, _, rfl, h, r⟩
end
section
variable {X : Cx} {pins : List (Addr × Obj)} {σ : St} {H : Hp} {s : Shared}
noncomputable def RdsV (h : Heap) (v : V) (d : Dat) : Prop := ∀ (u : Value) (n : Nat), RelV v u → kqdOk n d = true → ∃ as, Reads h u (kqdP d) as
noncomputable def RdsL (h : Heap) (xs : List V) (ds : List Dat) : Prop := ∀ (us : List Value) (n : Nat), Vals xs us → (∀ d ∈ ds, kqdOk n d = true) → ∃ as, ReadsAll h us (kqdPs ds) as
theorem rds_tup (I : Inv X pins σ H s) {a : Addr} {xs : List V} {ds : List Dat} (hq : SqT X.K H a xs) (r : RdsL s.heap xs ds) : RdsV s.heap (.ref a) (.tuple ds) := fun u n ru hk => by
  cases (show u = Value.ref a from ru)
  cases n with
  | zero => exact absurd (show false = true from hk) (by decide)
  | succ n =>
    obtain ⟨its, rv, ⟨o, e1, e2, k, e3⟩, _⟩ := I.tuple hq
    obtain ⟨as, q⟩ := r its n rv (by simpa [kqdOk] using hk)
    rw [kqdP]
    exact ⟨as, reads_tuple_at e1 e2 e3 (by simpa using q)⟩
theorem rds_lst (I : Inv X pins σ H s) {a : Addr} {xs : List V} {ds : List Dat} (hq : SqL X.K H a xs) (r : RdsL s.heap xs ds) : RdsV s.heap (.ref a) (.list ds) := fun u n ru hk => by
  cases (show u = Value.ref a from ru)
  cases n with
  | zero => exact absurd (show false = true from hk) (by decide)
  | succ n =>
    obtain ⟨its, rv, ⟨o, k, e1, e2, _, e3⟩, _⟩ := I.list hq
    obtain ⟨as, q⟩ := r its n rv (by simpa [kqdOk] using hk)
    rw [kqdP]
    exact ⟨_, reads_list_at e1 e2 e3 (by simpa using q)⟩
theorem rds_cons {h : Heap} {x : V} {xs : List V} {d : Dat} {ds : List Dat} (a : RdsV h x d) (b : RdsL h xs ds) : RdsL h (x :: xs) (d :: ds) := fun us n r hk => by
  cases r with
  | cons r1 r2 =>
    obtain ⟨as, p⟩ := a _ n r1 (hk _ (.head _))
    obtain ⟨bs, p'⟩ := b _ n r2 fun d hm => hk d (.tail _ hm)
    rw [kqdPs]
    exact ⟨_, ReadsAll.cons p p'⟩
theorem rep_reads (I : Inv X pins σ H s) {v : V} {d : Dat} {u : Value} (n : Nat) (h : Rep X.K H v d) (r : RelV v u) (hk : kqdOk n d = true) : ∃ as, Reads s.heap u (kqdP d) as :=
  Rep.rec (motive_1 := fun v d _ => RdsV s.heap v d) (motive_2 := fun xs ds _ => RdsL s.heap xs ds) (fun u _ r _ => by
      cases (show u = Value.none from r)
      exact ⟨_, Reads.none⟩) (fun b u _ r _ => by
      cases (show u = Value.bool b from r)
      exact ⟨_, Reads.bool b⟩) (fun i u _ r _ => by
      obtain ⟨t, e⟩ := (show ∃ t, u = Value.int i t from r)
      subst e
      exact ⟨_, Reads.int i t⟩) (fun x u _ r _ => by
      obtain ⟨t, e⟩ := (show ∃ t, u = Value.str x t from r)
      subst e
      exact ⟨_, Reads.str x t⟩) (fun hq _ m => rds_tup I hq m) (fun hq _ m => rds_lst I hq m) (fun us _ r _ => by
      cases r
      exact ⟨_, ReadsAll.nil⟩) (fun _ _ a b => rds_cons a b) h u n r hk
theorem rep_shaped {n : Nat} {d : Dat} (h : kqdOk n d = true) (hn : n ≤ 64) : SeqAt.shaped (kqdP d) = true := by
  have l := kqd_lay n d h
  unfold SeqAt.shaped
  rw [l.1, Bool.true_and]
  exact decide_eq_true (Nat.le_trans l.2 hn)
open Classical in
theorem rep_eqv {d e : Dat} (hd : kqdOk 9 d = true) (he : kqdOk 9 e = true) : PyData.eqv (kqdP d) (kqdP e) = decide (d = e) := by
  have q := kqd_eqv 9 d e 9 hd he
  by_cases hq : d = e
  · rw [decide_eq_true hq]; exact q.mpr hq
  · rw [decide_eq_false hq]; exact Bool.eq_false_iff.mpr fun x => hq (q.mp x)
open Classical in
noncomputable def rEqD (K : PySem.W.Frag) : R2 := fun x y H Q => ∃ d e, Rep K H x d ∧ Rep K H y e ∧ kqdOk 9 d = true ∧ kqdOk 9 e = true ∧ Q (.bl (decide (d = e))) H
open Classical in
noncomputable def rNeD (K : PySem.W.Frag) : R2 := fun x y H Q => ∃ d e, Rep K H x d ∧ Rep K H y e ∧ kqdOk 9 d = true ∧ kqdOk 9 e = true ∧ Q (.bl (!decide (d = e))) H
theorem op_eqD (hu : X.A.units + 64 < cLine) : OpR X (compareOp .Eq) (rEqD X.K) := by
  intro pins s σ H x y v u Q I rx ry h
  obtain ⟨d, e, hx, hy, kd, ke, q⟩ := h
  obtain ⟨as, ra⟩ := rep_reads I 9 hx rx kd
  obtain ⟨bs, rb⟩ := rep_reads I 9 hy ry ke
  exact eq_dataH ra rb (rep_shaped kd (by decide)) (rep_shaped ke (by decide)) hu (by rw [rep_eqv kd ke]; exact ⟨.bl _, H, I, rfl, q⟩)
theorem op_neD (hu : X.A.units + 64 < cLine) : OpR X (compareOp .NotEq) (rNeD X.K) := by
  intro pins s σ H x y v u Q I rx ry h
  obtain ⟨d, e, hx, hy, kd, ke, q⟩ := h
  obtain ⟨as, ra⟩ := rep_reads I 9 hx rx kd
  obtain ⟨bs, rb⟩ := rep_reads I 9 hy ry ke
  exact ne_dataH ra rb (rep_shaped kd (by decide)) (rep_shaped ke (by decide)) hu (by rw [rep_eqv kd ke]; exact ⟨.bl _, H, I, rfl, q⟩)
open Classical in
noncomputable def rInD (K : PySem.W.Frag) (neg : Bool) : R2 := fun x y H Q => ∃ d ds, Rep K H x d ∧ Rep K H y (.list ds) ∧ kqdOk 8 d = true ∧ (∀ e ∈ ds, kqdOk 8 e = true) ∧ Q (.bl (if neg then !decide (d ∈ ds) else decide (d ∈ ds))) H
open Classical in
theorem rep_any {d : Dat} {ds : List Dat} (hd : kqdOk 8 d = true) (hs : ∀ e ∈ ds, kqdOk 8 e = true) : ((kqdPs ds).any fun y => PyData.eqv y (kqdP d)) = decide (d ∈ ds) := by
  by_cases hq : d ∈ ds
  · rw [decide_eq_true hq]; exact (kqd_any ds d hs hd).mpr hq
  · rw [decide_eq_false hq]; exact Bool.eq_false_iff.mpr fun z => hq ((kqd_any ds d hs hd).mp z)
theorem op_inD (hu : X.A.units + 64 < cLine) : OpR X (compareOp .In) (rInD X.K false) := by
  intro pins s σ H x y v u Q I rx ry h
  obtain ⟨d, ds, hx, hy, kd, ke, q⟩ := h
  obtain ⟨as, ra⟩ := rep_reads I 8 hx rx kd
  obtain ⟨bs, rb⟩ := rep_reads I 9 hy ry (by simpa [kqdOk] using ke)
  rw [kqdP] at rb
  have l := kqd_layL ke
  have ld := kqd_lay 8 d kd
  have l2 := ld.2
  refine SeqAt.in_list_reads rb ra l.1 ld.1 ?_ (by rw [rep_any kd ke]; exact ⟨.bl _, H, I, rfl, q⟩)
  have := Nat.min_le_right (PyData.depthAll (kqdPs ds)) (kqdP d).depth
  omega
end
end L2
namespace L2
open PySem PySem.Spec PyProof.Rows
section
variable {X : Cx}
noncomputable def rSum (K : PySem.W.Frag) : List V → Hp → VK → Prop := fun xs H Q => ∃ (p : Addr) (ns : List Int), xs = [.ref p] ∧ SqL K H p (ns.map V.int) ∧ Q (.int ns.sum) H
theorem call_sum (hc : X.calm = true) : CallR X (.builtin "sum") (rSum X.K) := by
  intro pins s σ H xs us Q I r h
  obtain ⟨p, ns, rfl, hq, q⟩ := h
  obtain ⟨u, rfl, ru⟩ := vals1 r
  cases (show u = Value.ref p from ru)
  obtain ⟨its, rv, pl, hz⟩ := I.list hq
  have hi := intsAre_of rv
  obtain ⟨ys, e⟩ := hi.allInts.items
  have hn : numsOf its = ns := hi.numsOf
  have hl : s.heap.IsList p (intItems ys) := by rw [← e]; exact pl.isList
  refine sum_intListG (I.ok.hd hc) hl fun h' tk t' hk => ?_
  have e2 : preSum (numAt ys) ys.size = ns.sum := by
    rw [preSum_eq, List.take_of_length_le (by simp), ← nums_intItems, ← e]
    show (numsOf its).sum = ns.sum
    rw [hn]
  rw [e2]
  exact ⟨.int ns.sum, H, I.kept (t' := tk) hk, ⟨t', rfl⟩, q⟩
noncomputable def rSlS : V → Option Int → Option Int → Hp → VK → Prop := fun x lo hi H Q => ∃ z, x = .str z ∧ z.length ≤ sizeLine ∧ Q (.str (Txt.slice z lo hi)) H
theorem part_of {v : Value} {lo : Option Int} (h : IsPart v lo) : ∃ l : Option (Int × Tok), v = partValue l ∧ l.map (·.1) = lo := by
  cases h with
  | none => exact ⟨none, rfl, rfl⟩
  | int i t => exact ⟨some (i, t), rfl, rfl⟩
theorem sl_str : SlR X rSlS := by
  intro pins s σ H x v vl vu lo hi sl Q I rx hs pl pu h
  obtain ⟨z, rfl, hz, q⟩ := h
  obtain ⟨t, rfl⟩ := (show ∃ t, v = Value.str z t from rx)
  obtain ⟨l, rfl, el⟩ := part_of pl
  obtain ⟨u, rfl, eu⟩ := part_of pu
  refine ⟨"str", _, F.slot_str_getitem.lookup, typeIs_str _ _ _, wpAny_getItem_str_slice (l := l) (u := u) (st := none) hs rfl ?_⟩
  have key : ∀ (t' : Tok) (k : Nat), EP X pins σ Q (.str (Txt.slice z lo hi) t') { s with toks := k } := fun t' k => ⟨.str _, H, I.tok k, ⟨t', rfl⟩, q⟩
  subst el eu
  exact post_val_or_str ⟨Nat.le_trans (Txt.slice_le z _ _) hz, fun t' k => key t' k⟩
end
noncomputable def Its (x : Str) : It := ⟨fun i _ => i < x.cps.size, fun i H v H' => H' = H ∧ ∃ c, x.cps[i]? = some c ∧ v = .str ⟨#[c]⟩, fun i _ => x.cps.size ≤ i⟩
theorem turn_str {P : Program} {w : World} {K : PySem.W.Frag} {tg : Expr} (it : Addr) (x : Str) (t : Tok) : Turn P w K tg (Its x) [it] it (fun i h => h.IsStrIter it "str_ascii_iterator" x t i) where
  mem := by simp
  obj := fun i h st b hb => by
    have e : b = it := by simpa using hb
    subst e
    obtain ⟨o, e, c, d⟩ := st
    exact ⟨o, e, fun v z => by rw [d] at z; cases z⟩
  keep := fun i h h' st k => by
    obtain ⟨o, e, c, d⟩ := st
    exact ⟨o, k it (by simp) o e, c, d⟩
  item := by
    intro X hP hw hK hc i pins s σ H E I hf st hg
    subst hP hw hK
    have hg' : i < x.cps.size := hg
    obtain ⟨f0, f1, f2, f3, f4, f5⟩ := hf it (by simp)
    refine wpAny_pyNext_ascii_item st (c := x.cps[i]) (by simp [hg']) fun h' st' sb => ?_
    have I1 : Inv X pins σ H { s with heap := h', toks := s.toks + 1 } := I.turned (fun b o hb e => (sb.2 b hb).trans e) f0 f1 f3 f4 f5
    obtain ⟨o, e, c, d⟩ := id st'
    exact ⟨_, rfl, go_of (s := { s with heap := h', toks := s.toks + 1 }) e c d (by decide) ⟨.str ⟨#[x.cps[i]]⟩, H, I1, ⟨_, rfl⟩, ⟨rfl, _, by simp [hg'], rfl⟩, st', fun b hb => (hf b hb).1⟩⟩
  done := by
    intro X hP hw hK hc i pins s σ H E I hf st hg
    subst hP hw hK
    have hg' : x.cps.size ≤ i := hg
    obtain ⟨f0, f1, f2, f3, f4, f5⟩ := hf it (by simp)
    exact wpAny_pyNext_ascii_end (I.ok.hd hc) st (by simp; omega) fun h' eb => ⟨rfl, I.turned (t' := s.toks) (fun b o hb e => eb b o hb e) f0 f1 f3 f4 f5⟩
  self := fun _ _ _ _ _ st h => wpAny_pyIter_striter_ascii st h
section
variable {X : Cx} {tg : Expr}
noncomputable def iStr (tl : TE) : TI := fun σ H R => tl σ H fun x H1 => ∃ z, x = .str z ∧ z.cps.all (· < 128) = true ∧ R (Its z) H1
theorem pi_str {l : Expr} {tl : TE} (hl : PE X l tl) : PI X tg l (iStr tl) := by
  intro pins s σ H R I h
  refine thn (hl pins s σ H _ I h) fun v s1 hq9 => EP.out hq9 fun x H1 I1 r1 q1 => ?_
  obtain ⟨z, rfl, ha, q⟩ := q1
  obtain ⟨t, rfl⟩ := (show ∃ t, v = Value.str z t from r1)
  refine wpAny_pyIter_ascii ha ?_
  refine ⟨s1.heap.objs.size, [s1.heap.objs.size], _, _, H1, rfl, I1.kept (t' := s1.toks) fun b o e => Heap.get?_push_of_some _ e, turn_str _ z t, ⟨_, Heap.get?_push_size _ rfl, rfl, rfl⟩, fun b hb => ?_, q⟩
  have e : b = s1.heap.objs.size := by simpa using hb
  subst e
  exact I1.fpOk (Nat.le_refl _) (I1.hok.fresh (Nat.le_refl _))
end
noncomputable def clipI (n : Nat) (d : Int) (o : Option Int) : Int := match o with | none => d | some i => max 0 (min (if i < 0 then i + (n : Int) else i) (n : Int))
theorem clip_sIx (n d : Nat) (o : Option Int) : clipI n d o = ((HT.sIx n d o : Nat) : Int) := by
  cases o with
  | none => rfl
  | some i =>
    show max 0 (min (if i < 0 then i + (n : Int) else i) (n : Int)) = (((if i < 0 then (i + (n : Int)).toNat else min i.toNat n) : Nat) : Int)
    split <;> omega
theorem slice_ix (lo hi : Option Int) (n : Nat) : Builtin.Str.strSliceIndices lo hi 1 n = (List.range (HT.sIx n n hi - HT.sIx n 0 lo)).map (HT.sIx n 0 lo + ·) := by
  have e : Builtin.Str.strSliceIndices lo hi 1 n = sliceRange (clipI n ((0 : Nat) : Int) lo) (clipI n (n : Int) hi) 1 := by
    unfold Builtin.Str.strSliceIndices clipI
    cases lo <;> cases hi <;> rfl
  rw [e, clip_sIx, clip_sIx, sliceRange_one]
theorem slice_cps (x : Str) (lo hi : Option Int) : (Txt.slice x lo hi).cps.toList = (x.cps.toList.drop (HT.sIx x.length 0 lo)).take (HT.sIx x.length x.length hi - HT.sIx x.length 0 lo) := by
  unfold Txt.slice
  have l2 := HT.sIx_le x.length x.length (Nat.le_refl _) hi
  rw [slice_ix]
  split
  · rename_i h
    simp only [List.length_map, List.length_range, Bool.and_eq_true, beq_iff_eq] at h
    have e0 : HT.sIx x.length 0 lo = 0 ∨ x.length = 0 := by omega
    have h2 := h.2
    rw [h2]
    rcases e0 with e0 | e0
    · rw [e0, List.drop_zero, List.take_of_length_le (by simp; exact Nat.le_refl _)]
    · have : x.cps.toList = [] := by
        apply List.length_eq_zero_iff.mp
        exact (show x.cps.toList.length = 0 by rw [Array.length_toList]; exact e0)
      rw [this]
      simp
  · show (((List.range _).map _).filterMap _).toArray.toList = _
    rw [pick_run]
end L2
namespace L2
open PySem PySem.Spec
noncomputable def hid (D : Addr) (H : Hp) : Hp := fun b => if b = D then none else H b
theorem hid_upd {D : Addr} {H : Hp} {o : HO} : hid D (upd H D o) = hid D H := by
  funext b
  unfold hid upd
  split
  · rfl
  · rfl
theorem hid_none {D : Addr} {H : Hp} (h : H D = none) : hid D H = H := by
  funext b
  unfold hid
  split
  · rename_i e; rw [e, h]
  · rfl
theorem hid_ne {D b : Addr} {H : Hp} (h : b ≠ D) : hid D H b = H b := by unfold hid; rw [if_neg h]
theorem hid_same (D : Addr) (H : Hp) : Same (hid D H) H := fun b o e => by
  unfold hid at e
  split at e
  · cases e
  · exact e
theorem Same.hid {D : Addr} {H H' : Hp} (e : Same H H') : Same (hid D H) (hid D H') := fun b o q => by
  unfold L2.hid at q ⊢
  split
  · rename_i z; rw [if_pos z] at q; cases q
  · rename_i z; rw [if_neg z] at q; exact e b o q
theorem Same.updD {D : Addr} {H H' : Hp} {o : HO} (hD : H D = none) (e : Same H H') : Same H (upd H' D o) := fun b u q => by
  rw [upd_ne (ne_of_none q hD)]
  exact e b u q
theorem comp_gen {J : It} {g : TG} {tt : TT} {te : TE} {σc : St} {D : Addr} {H1 : Hp} {Q : Hp → Prop} {n : Nat} (A : Nat → V → Prop) (hD : H1 D = none) (hn : n < sizeLine)
    (hJ : ∀ i H, Same H1 H → (i < n → J.go i H) ∧ (n ≤ i → J.stop i H) ∧ ∀ x H', i < n → J.yld i H x H' → H' = H ∧ A i x)
    (Φ : Nat → List V → Hp → Prop) (S : St → Prop) (h0 : Φ 0 [] H1) (s0 : S σc)
    (hs : ∀ i x ys σ H (R1 : V → St → Hp → Prop) (R0 : St → Hp → Prop), i < n → A i x → S σ → Same H1 H → H D = some (.lst ys) → Φ i ys (hid D H) →
      (∀ v σ2 H4, Same H H4 → S σ2 → Φ (i + 1) (ys ++ [v]) (hid D H4) → R1 v σ2 H4) → (∀ σ2 H3, Same H H3 → S σ2 → Φ (i + 1) ys (hid D H3) → R0 σ2 H3) →
      g x σ H fun σ2 H2 => tt σ2 H2 fun b H3 => if b = true then te σ2 H3 fun v H4 => R1 v σ2 H4 else R0 σ2 H3)
    (hq : ∀ ys H, Same H1 H → H D = some (.lst ys) → ys.length ≤ n → Φ n ys (hid D H) → Q H) : CompW J g tt te σc D H1 Q := by
  refine ⟨fun i m ys σ H => m = n - i ∧ i ≤ n ∧ ys.length ≤ i ∧ S σ ∧ Same H1 H ∧ H D = some (.lst ys) ∧ Φ i ys (hid D H), ⟨n, by simp, Nat.zero_le _, Nat.le_refl _, s0, (Same.refl H1).updD hD, upd_same, by rw [hid_upd, hid_none hD]; exact h0⟩, ?_⟩
  rintro i m ys σ H ⟨rfl, hi, hl, hS, sm, hDl, hΦ⟩
  refine ⟨by omega, ?_⟩
  obtain ⟨g1, g2, g3⟩ := hJ i H sm
  by_cases hlt : i < n
  · refine .inr ⟨g1 hlt, fun x H' y => ?_⟩
    obtain ⟨rfl, ax⟩ := g3 x H' hlt y
    refine hs i x ys σ H' (fun v σ2 H4 => H4 D = some (.lst ys) ∧ ∃ m', m' < n - i ∧ _) (fun σ2 H3 => ∃ m', m' < n - i ∧ _) hlt ax hS sm hDl hΦ (fun v σ2 H4 s4 hS2 p4 => ?_) (fun σ2 H3 s3 hS2 p3 => ?_)
    · exact ⟨s4 _ _ hDl, n - (i + 1), by omega, rfl, hlt, by rw [List.length_append, List.length_singleton]; omega, hS2, (sm.trans s4).updD hD, upd_same, by rw [hid_upd]; exact p4⟩
    · exact ⟨n - (i + 1), by omega, rfl, hlt, by omega, hS2, sm.trans s3, s3 _ _ hDl, p3⟩
  · have e : i = n := by omega
    subst e
    exact .inl ⟨g2 (Nat.le_refl _), hq ys H sm hDl hl hΦ⟩
theorem hJ_rng (H1 : Hp) (lo : Int) (n : Nat) : ∀ i H, Same H1 H → (i < n → (Itr lo n).go i H) ∧ (n ≤ i → (Itr lo n).stop i H) ∧ ∀ x H', i < n → (Itr lo n).yld i H x H' → H' = H ∧ x = .int (lo + i) :=
  fun _ _ _ => ⟨fun h => h, fun h => h, fun _ _ _ y => y⟩
theorem hJ_list {K : PySem.W.Frag} {H1 : Hp} {a : Addr} {xs : List V} (h : SqL K H1 a xs) : ∀ i H, Same H1 H → (i < xs.length → (Itl K a).go i H) ∧ (xs.length ≤ i → (Itl K a).stop i H) ∧ ∀ x H', i < xs.length → (Itl K a).yld i H x H' → H' = H ∧ xs[i]? = some x :=
  fun i _ sm => ⟨fun hi => ⟨xs, xs[i], sm.seq h, by simp [hi]⟩, fun hi => ⟨xs, sm.seq h, hi⟩, fun _ _ _ y => ⟨y.1, y.2 xs (sm.seq h)⟩⟩
theorem hJ_str (H1 : Hp) (z : Str) : ∀ i H, Same H1 H → (i < z.cps.size → (Its z).go i H) ∧ (z.cps.size ≤ i → (Its z).stop i H) ∧ ∀ x H', i < z.cps.size → (Its z).yld i H x H' → H' = H ∧ ∃ c, z.cps[i]? = some c ∧ x = .str ⟨#[c]⟩ :=
  fun _ _ _ => ⟨fun h => h, fun h => h, fun _ _ _ y => y⟩
noncomputable def rAddS : R2 := fun x y H Q => ∃ i j, x = V.str i ∧ y = V.str j ∧ i.length + j.length ≤ sizeLine ∧ Q (V.str (i ++ j)) H
theorem op_addS {X : Cx} : OpR X (binaryOp .Add) rAddS := op_add_str
section
variable {σ : St} {H : Hp} {te ta tb : TE} {Q : VK}
theorem vc_addS {x y : Str} (l : x.length + y.length ≤ sizeLine) (h : Q (.str (x ++ y)) H) : rAddS (.str x) (.str y) H Q := ⟨x, y, rfl, rfl, l, h⟩
theorem vc_sl {r : V → Option Int → Option Int → Hp → VK → Prop} {tl th : TO} (h : te σ H fun x H1 => tl σ H1 fun l H2 => th σ H2 fun u H3 => r x l u H3 Q) : tSl r te tl th σ H Q := h
theorem vc_nopart {Q : Option Int → Hp → Prop} (h : Q none H) : tNoPart σ H Q := h
theorem vc_part {Q : Option Int → Hp → Prop} (h : te σ H fun x H1 => ∃ i, x = .int i ∧ Q (some i) H1) : tPart te σ H Q := h
theorem vc_exI {i : Int} {Q : Int → Prop} (h : Q i) : ∃ k, V.int i = .int k ∧ Q k := ⟨i, rfl, h⟩
theorem vc_slS {z : Str} {lo hi : Option Int} (l : z.length ≤ sizeLine) (h : Q (.str (Txt.slice z lo hi)) H) : rSlS (.str z) lo hi H Q := ⟨z, rfl, l, h⟩
theorem vc_ixS {z : Str} {i : Int} {c : Nat} (l : z.length ≤ sizeLine) (e : atI z.cps.toList i = some c) (h : Q (.str ⟨#[c]⟩) H) : rIxS (.str z) (.int i) H Q := ⟨z, i, c, rfl, rfl, l, e, h⟩
theorem vc_sum {K : PySem.W.Frag} {p : Addr} {ns : List Int} (l : SqL K H p (ns.map V.int)) (h : Q (.int ns.sum) H) : rSum K [.ref p] H Q := ⟨p, ns, rfl, l, h⟩
theorem vc_lenL {K : PySem.W.Frag} {p : Addr} {xs : List V} (l : SqL K H p xs) (h : Q (.int xs.length) H) : rLenSeq K [.ref p] H Q := ⟨p, xs, rfl, .inl l, h⟩
theorem vc_lenT {K : PySem.W.Frag} {p : Addr} {xs : List V} (l : SqT K H p xs) (h : Q (.int xs.length) H) : rLenSeq K [.ref p] H Q := ⟨p, xs, rfl, .inr l, h⟩
theorem vc_listL {K : PySem.W.Frag} {p : Addr} {xs : List V} (l : SqL K H p xs) (h : ∀ q, H q = none → Q (.ref q) (upd H q (.lst xs))) : rListOf K [.ref p] H Q := ⟨p, xs, rfl, .inl l, h⟩
theorem vc_slL {K : PySem.W.Frag} {p : Addr} {xs : List V} {lo hi : Option Int} (l : SqL K H p xs) (h : ∀ q, H q = none → Q (.ref q) (upd H q (.lst (cutV xs lo hi)))) : rSlL K (.ref p) lo hi H Q := ⟨p, xs, rfl, l, h⟩
theorem vc_cat {p q : Addr} {xs ys : List V} (a : H p = some (.lst xs)) (b : H q = some (.lst ys)) (l : xs.length + ys.length ≤ sizeLine) (h : ∀ r, H r = none → Q (.ref r) (upd H r (.lst (xs ++ ys)))) : rCat (.ref p) (.ref q) H Q := ⟨p, q, xs, ys, rfl, rfl, a, b, l, h⟩
theorem vc_comp {ixs : List (Option Nat)} {wi : TI} {g : TG} {tt : TT} (h : wi σ H fun J H1 => ∀ D, H1 D = none → CompW J g tt te (stC ixs σ) D H1 fun H' => Q (.ref D) H') : tComp ixs wi g tt te σ H Q := h
theorem vc_rng1 {ta : TA} {R : It → Hp → Prop} (h : ta σ H fun vs H1 => ∃ j : Int, vs = [.int j] ∧ -(2 ^ 62) ≤ j ∧ j < 2 ^ 62 ∧ R (Itr 0 j.toNat) H1) : iRng1 ta σ H R := h
theorem vc_for {wi : TI} {g : TG} {tb : TS} {D : Ends} (h : wi σ H fun J H1 => ∃ W : Nat → Nat → St → Hp → Prop, (∃ m, W 0 m σ H1) ∧ ∀ i m σ H, W i m σ H →
    (J.stop i H ∧ D.nx σ H) ∨ (J.go i H ∧ ∃ N : St → Hp → Prop, (∀ σ' H', N σ' H' → ∃ m', m' < m ∧ W (i + 1) m' σ' H') ∧ ∀ x H', J.yld i H x H' → g x σ H' fun σ2 H2 => tb { D with nx := N, ct := N, bk := D.nx } σ2 H2)) : tFor wi g tb D σ H := h
theorem vc_bm {K : PySem.W.Frag} {T : String} {r : V → List V → Hp → VK → Prop} {to : TE} {ta : TA} (h : to σ H fun x H1 => tyV K T x H1 ∧ ta σ H1 fun xs H2 => r x xs H2 Q) : tBM K T r to ta σ H Q := h
theorem vc_append {K : PySem.W.Frag} {l : Addr} {xs : List V} {y : V} (h : H l = some (.lst xs)) (z : xs.length < sizeLine) (q : Q .non (upd H l (.lst (xs ++ [y])))) : rAppend (.ref l) [y] H Q := ⟨l, xs, y, rfl, rfl, h, z, q⟩
theorem tyV_list {K : PySem.W.Frag} {l : Addr} {xs : List V} (h : SqL K H l xs) : tyV K "list" (.ref l) H := .inl ⟨rfl, _, h⟩
end
theorem str_app (x y : Str) : (x ++ y).cps.toList = x.cps.toList ++ y.cps.toList := by
  show (x.cps ++ y.cps).toList = _
  simp
theorem str_len (x : Str) : x.length = x.cps.toList.length := by
  rw [Array.length_toList]; rfl
end L2
namespace L2
open PySem PySem.Spec
noncomputable def hids (S : List Addr) (H : Hp) : Hp := fun b => if b ∈ S then none else H b
theorem hids_upd {S : List Addr} {a : Addr} {H : Hp} {o : HO} (h : a ∈ S) : hids S (upd H a o) = hids S H := by
  funext b
  unfold hids upd
  by_cases hb : b ∈ S
  · rw [if_pos hb, if_pos hb]
  · rw [if_neg hb, if_neg hb, if_neg (show ¬ b = a from fun e => hb (by rw [e]; exact h))]
theorem hids_none {S : List Addr} {H : Hp} (h : ∀ a ∈ S, H a = none) : hids S H = H := by
  funext b
  unfold hids
  by_cases hb : b ∈ S
  · rw [if_pos hb, h b hb]
  · rw [if_neg hb]
theorem hids_at {S : List Addr} {b : Addr} {H : Hp} (h : b ∉ S) : hids S H b = H b := by unfold hids; rw [if_neg h]
theorem hids_same (S : List Addr) (H : Hp) : Same (hids S H) H := fun b o e => by
  unfold hids at e
  split at e
  · cases e
  · exact e
theorem Same.hids {S : List Addr} {H H' : Hp} (e : Same H H') : Same (hids S H) (hids S H') := fun b o q => by
  unfold L2.hids at q ⊢
  by_cases hb : b ∈ S
  · rw [if_pos hb] at q; cases q
  · rw [if_neg hb] at q ⊢; exact e b o q
theorem Same.out {S : List Addr} {H H' : Hp} (e : Same (L2.hids S H) (L2.hids S H')) (h : ∀ a ∈ S, H a = none) : Same H H' := by
  rw [hids_none h] at e
  exact e.trans (hids_same S H')
theorem vc_catT {K : PySem.W.Frag} {H : Hp} {Q : VK} {p q : Addr} {xs ys : List V} (a : SqT K H p xs) (b : SqT K H q ys) (hx : xs ≠ []) (hy : ys ≠ []) (l : xs.length + ys.length ≤ sizeLine) (h : ∀ r, H r = none → Q (.ref r) (upd H r (.tup (xs ++ ys)))) : rCatT K (.ref p) (.ref q) H Q :=
  ⟨p, q, xs, ys, rfl, rfl, a, b, hx, l, fun z => absurd z hy, fun _ => h⟩
end L2
namespace L2
theorem mt_appendR {X : Cx} : MtR X "list.append" rAppend := mt_append
end L2
namespace L2
open PySem
theorem vc_sfld {K : PySem.W.Frag} {ta tv : TE} {f : Str} {D : Ends} {σ : St} {H : Hp} (h : tv σ H fun y H1 => ta σ H1 fun x H2 => ∃ a C dx fs, x = .ref a ∧ H2 a = some (.ins C dx fs) ∧ Cls K C ∧ NoAttr K C f ∧ fs.length < 1000 ∧ D.nx σ (upd H2 a (.ins C dx (putF f y fs)))) : sFld K ta tv f D σ H := h
theorem vc_tfld {K : PySem.W.Frag} {ta : TE} {f : Str} {σ : St} {H : Hp} {Q : VK} (h : ta σ H fun x H1 => ∃ a C dx fs v, x = .ref a ∧ H1 a = some (.ins C dx fs) ∧ Cls K C ∧ NoAttr K C f ∧ fs.lookup f = some v ∧ Q v H1) : tFld K ta f σ H Q := h
theorem vc_make {C : Addr} {sp : Sp} {dvs : List V} {E : XK} {t : TA} {σ : St} {H : Hp} {Q : VK} (h : t σ H fun vs H1 => ∀ x dx, H1 x = none → H1 dx = none → dx ≠ x → sp (.ref x :: (vs ++ dvs)) (upd (upd H1 dx (.own x)) x (.ins C dx [])) (fun v H2 => v = .non ∧ Q (.ref x) H2) E) : tMake C sp dvs E t σ H Q := h
theorem vc_asgT {K : PySem.W.Frag} {n : Nat} {t : TGs} {a : Addr} {xs : List V} {σ : St} {H : Hp} {Q : St → Hp → Prop} (h : SqT K H a xs) (l : xs.length = n) (q : t xs σ H Q) : gTup K n t (.ref a) σ H Q := ⟨a, xs, rfl, h, l, q⟩
theorem vc_gcons {t : TG} {u : TGs} {v : V} {r : List V} {σ : St} {H : Hp} {Q : St → Hp → Prop} (h : t v σ H fun σ' H' => u r σ' H' Q) : gCons t u (v :: r) σ H Q := ⟨v, r, rfl, h⟩
theorem vc_gnil {σ : St} {H : Hp} {Q : St → Hp → Prop} (h : Q σ H) : gNil [] σ H Q := ⟨rfl, h⟩
end L2
namespace L2
theorem vc_ilist {K : PySem.W.Frag} {tl : TE} {σ : St} {H : Hp} {R : It → Hp → Prop} (h : tl σ H fun x H1 => ∃ a, x = .ref a ∧ (∃ xs, SqL K H1 a xs) ∧ R (Itl K a) H1) : iList K tl σ H R := h
theorem vc_ienum {K : PySem.W.Frag} {ta : TA} {σ : St} {H : Hp} {R : It → Hp → Prop} (h : ta σ H fun vs H1 => ∃ a xs, vs = [.ref a] ∧ SqL K H1 a xs ∧ R (Ite K a) H1) : iEnum K ta σ H R := h
theorem vc_istr {tl : TE} {σ : St} {H : Hp} {R : It → Hp → Prop} (h : tl σ H fun x H1 => ∃ z, x = .str z ∧ z.cps.all (· < 128) = true ∧ R (Its z) H1) : iStr tl σ H R := h
end L2
namespace L2
open PySem
section
variable {K : PySem.W.Frag} {H : Hp} {Q : VK}
end
end L2
namespace L2
open PySem
section
variable {X : Cx} {Nc : List Str} {sc : Scope} {s₂ : Shared} {H₂ : Hp} {C : Addr} {fp : List Addr}
theorem ix_listC : IxR (cxC X Nc sc s₂ H₂ C fp) (rIxL X.K) := ix_list
end
end L2
namespace L2
theorem vc_i1 {A B : Prop} (h : B) : if false = true then A else B := iteF h
theorem vc_i2 {A B : Prop} (h : A) : if true = true then A else B := iteT h
theorem vc_i3 {A B : Prop} (h : B) : if (!true) = true then A else B := iteF h
theorem vc_i4 {A B : Prop} (h : A) : if (!false) = true then A else B := iteT h
end L2
namespace L2
theorem dec_true {p : Prop} {i : Decidable p} (h : p) : @decide p i = true := @decide_eq_true p i h
theorem dec_false {p : Prop} {i : Decidable p} (h : ¬ p) : @decide p i = false := @decide_eq_false p i h
end L2
namespace L2
open PySem
theorem vc_gsub {to ti : TE} {t : TSet} {v : V} {σ : St} {H : Hp} {Q : St → Hp → Prop} (h : to σ H fun o H1 => ti σ H1 fun i H2 => t o i v H2 fun H3 => Q σ H3) : gSub to ti t v σ H Q := h
theorem vc_setL {p : Addr} {xs : List V} {k : Int} {j : Nat} {v : V} {H : Hp} {Q : Hp → Prop} (h : H p = some (.lst xs)) (e : ixN xs.length k = some j) (q : Q (upd H p (.lst (xs.set j v)))) : rSetL (.ref p) (.int k) v H Q := ⟨p, xs, k, j, rfl, rfl, h, e, q⟩
end L2
namespace My
noncomputable def halfGo : Int → Int → List (Int × Int) → Int → Int × Int
  | _, nh, [], _ => (nh, 1)
  | near, nh, (far, fh) :: rs, dist => if dist < far then (nh * (far - near) + (fh - nh) * (dist - near), far - near) else halfGo far fh rs dist
noncomputable abbrev Up (rs : List (Int × Int)) : Prop := rs.Pairwise fun x y => x.1 < y.1 ∧ x.2 ≤ y.2
theorem fN_one (n : Int) : fN n 1 = n ∧ fD n 1 = 1 := by
  have h1 : dv n 1 = 1 := by
    unfold dv
    rw [if_neg (by decide), Int.gcd_one_right]
    rfl
  unfold fN fD
  rw [h1]
  exact ⟨Int.fdiv_one n, by decide⟩
end My
namespace My
end My
namespace L2
open PySem PySem.Spec PyProof.Rows
section
variable {P : Program} {w : World} {A : Around} {E : Value → Shared → Prop} {s : Shared} {d it vw : Addr} {es : Array DictEntry} {ep i : Nat}
end
section
variable {X : Cx} {pins : List (Addr × Obj)} {σ : St} {H : Hp} {s : Shared}
end
section
variable {X : Cx}
end
theorem comp_gen2 {J : It} {g : TG} {tt : TT} {te : TE} {σc : St} {D : Addr} {H1 : Hp} {Q : Hp → Prop} {n : Nat} (A : Nat → V → Hp → Prop) (hD : H1 D = none) (hn : n < sizeLine)
    (hJ : ∀ i H, Same H1 H → (i < n → J.go i H) ∧ (n ≤ i → J.stop i H) ∧ ∀ x H', i < n → J.yld i H x H' → Same H H' ∧ A i x H')
    (Φ : Nat → List V → Hp → Prop) (S : St → Prop) (mono : ∀ i ys H H', Same H H' → Φ i ys H → Φ i ys H') (h0 : Φ 0 [] H1) (s0 : S σc)
    (hs : ∀ i x ys σ H (R1 : V → St → Hp → Prop) (R0 : St → Hp → Prop), i < n → A i x H → S σ → Same H1 H → H D = some (.lst ys) → Φ i ys (hid D H) →
      (∀ v σ2 H4, Same H H4 → S σ2 → Φ (i + 1) (ys ++ [v]) (hid D H4) → R1 v σ2 H4) → (∀ σ2 H3, Same H H3 → S σ2 → Φ (i + 1) ys (hid D H3) → R0 σ2 H3) →
      g x σ H fun σ2 H2 => tt σ2 H2 fun b H3 => if b = true then te σ2 H3 fun v H4 => R1 v σ2 H4 else R0 σ2 H3)
    (hq : ∀ ys H, Same H1 H → H D = some (.lst ys) → ys.length ≤ n → Φ n ys (hid D H) → Q H) : CompW J g tt te σc D H1 Q := by
  refine ⟨fun i m ys σ H => m = n - i ∧ i ≤ n ∧ ys.length ≤ i ∧ S σ ∧ Same H1 H ∧ H D = some (.lst ys) ∧ Φ i ys (hid D H), ⟨n, by simp, Nat.zero_le _, Nat.le_refl _, s0, (Same.refl H1).updD hD, upd_same, by rw [hid_upd, hid_none hD]; exact h0⟩, ?_⟩
  rintro i m ys σ H ⟨rfl, hi, hl, hS, sm, hDl, hΦ⟩
  refine ⟨by omega, ?_⟩
  obtain ⟨g1, g2, g3⟩ := hJ i H sm
  by_cases hlt : i < n
  · refine .inr ⟨g1 hlt, fun x H' y => ?_⟩
    obtain ⟨sy, ax⟩ := g3 x H' hlt y
    refine hs i x ys σ H' (fun v σ2 H4 => H4 D = some (.lst ys) ∧ ∃ m', m' < n - i ∧ _) (fun σ2 H3 => ∃ m', m' < n - i ∧ _) hlt ax hS (sm.trans sy) (sy _ _ hDl) (mono _ _ _ _ sy.hid hΦ) (fun v σ2 H4 s4 hS2 p4 => ?_) (fun σ2 H3 s3 hS2 p3 => ?_)
    · exact ⟨s4 _ _ (sy _ _ hDl), n - (i + 1), by omega, rfl, hlt, by rw [List.length_append, List.length_singleton]; omega, hS2, ((sm.trans sy).trans s4).updD hD, upd_same, by rw [hid_upd]; exact p4⟩
    · exact ⟨n - (i + 1), by omega, rfl, hlt, by omega, hS2, (sm.trans sy).trans s3, s3 _ _ (sy _ _ hDl), p3⟩
  · have e : i = n := by omega
    subst e
    exact .inl ⟨g2 (Nat.le_refl _), hq ys H sm hDl hl hΦ⟩
end L2
namespace L2
open PySem
theorem pg_tupC {X : Cx} {Nc : List Str} {sc : Scope} {s₂ : Shared} {H₂ : Hp} {C : Addr} {fp : List Addr} {ts : List Expr} {k : Nat} {p : Pos} {n : Nat} {t : TGs} (hc : (cxC X Nc sc s₂ H₂ C fp).calm = true) (h : PGs (cxC X Nc sc s₂ H₂ C fp) ts t)
    (hn : (assignEach ts (cxC X Nc sc s₂ H₂ C fp).env).length = n := by rfl) (hst : (assignEach ts (cxC X Nc sc s₂ H₂ C fp).env).findIdx? (·.1) = none := by rfl) : PG (cxC X Nc sc s₂ H₂ C fp) (.Tuple ts k p) (gTup X.K n t) := pg_tup hc h hn hst
theorem vc_dput {td ty tv : TE} {D : Ends} {σ : St} {H : Hp} (h : tv σ H fun v H1 => td σ H1 fun x H2 => ty σ H2 fun y H3 => ∃ a H4, x = .ref a ∧ DPut H3 a y v H4 ∧ D.nx σ H4) : sDPut td ty tv D σ H := h
theorem vc_dnotin {ty td : TE} {σ : St} {H : Hp} {Q : VK} (h : ty σ H fun y H1 => td σ H1 fun x H2 => ∃ a o, x = .ref a ∧ DGet H2 a y o ∧ Q (.bl (!o.isSome)) H2) : tDNotIn ty td σ H Q := h
end L2
namespace L2
open PySem PySem.Spec PyProof.Rows
section
variable {X : Cx}
noncomputable def rAll (K : PySem.W.Frag) : List V → Hp → VK → Prop := fun xs H Q => ∃ (p : Addr) (bs : List Bool), xs = [.ref p] ∧ SqL K H p (bs.map V.bl) ∧ Q (.bl (bs.all id)) H
theorem all_range (bs : List Bool) : (List.range bs.length).all (fun i => bs.getD i false) = bs.all id := by
  rw [Bool.eq_iff_iff, List.all_eq_true, List.all_eq_true]
  constructor
  · intro h b hb
    obtain ⟨i, hi, e⟩ := List.mem_iff_getElem.mp hb
    have := h i (List.mem_range.mpr hi)
    rw [List.getD_eq_getElem?_getD, List.getElem?_eq_getElem hi, e] at this
    exact this
  · intro h i hi
    have hi' := List.mem_range.mp hi
    rw [List.getD_eq_getElem?_getD, List.getElem?_eq_getElem hi']
    exact h _ (List.getElem_mem hi')
theorem call_all (hc : X.calm = true) : CallR X (.builtin "all") (rAll X.K) := by
  intro pins s σ H xs us Q I r h
  obtain ⟨p, bs, rfl, hq, q⟩ := h
  obtain ⟨u, rfl, ru⟩ := vals1 r
  cases (show u = Value.ref p from ru)
  obtain ⟨its, rv, pl, hz⟩ := I.list hq
  have hl := rv.length
  rw [List.length_map] at hl
  refine call_all_walk (wpAny_pyIter_list pl.isList ?_)
  have hlt : p < s.heap.objs.size := by obtain ⟨o, n, e, _⟩ := pl; exact Heap.lt_size e
  have hh : X.A.in1.handled = none := I.ok.hd hc
  refine ⟨s.heap.objs.size, _, _, _, _, _, fun i => bs.getD i false, rfl, Walks.list hh _ p (Nat.ne_of_lt hlt) its.toArray, ?_, ?_, ?_⟩
  · exact ⟨⟨_, Heap.get?_push_size _ rfl, rfl, rfl⟩, pl.isList.push _⟩
  · intro i v s' Q' E' hv hQ
    have hv' : its[i]? = some v := by simpa using hv
    have hi : i < bs.length := by
      have := (List.getElem?_eq_some_iff.mp hv').1
      omega
    obtain ⟨u, hu, ru⟩ := rv.get (show (bs.map V.bl)[i]? = some (V.bl bs[i]) by simp [hi])
    rw [hv'] at hu
    cases hu
    cases (show v = Value.bool bs[i] from ru)
    refine wpAny_truthy_bool ?_
    have e : bs.getD i false = bs[i] := by rw [List.getD_eq_getElem?_getD, List.getElem?_eq_getElem hi]; rfl
    replace hQ : Q' (bs.getD i false) s' := hQ
    rw [e] at hQ
    exact hQ
  · intro h' tk hk
    have e : its.toArray.size = bs.length := by simp [hl]
    rw [e, all_range]
    exact ⟨.bl _, H, I.kept (t' := tk) fun b o e => hk b o (by simp; exact Nat.ne_of_lt (Heap.lt_size e)) (Heap.get?_push_of_some _ e), rfl, q⟩
theorem vals_ty : ∀ {ns : List String} {its : List Value}, Vals (ns.map V.ty) its → its = ns.map Value.type
  | [], _, .nil => rfl
  | _ :: _, _, .cons r q => by
    rw [vals_ty q]
    exact congrArg (· :: _) (show _ = Value.type _ from r)
end
noncomputable def rowT : Bool → String
  | true => "tuple"
  | false => "list"
noncomputable def rowI : Bool → String
  | true => "tuple_iterator"
  | false => "list_iterator"
noncomputable def RAt (t : Bool) (h : Heap) (l : Addr) (its : Array Value) : Prop := ∃ o, h.get? l = some o ∧ o.cls = .type (rowT t) ∧ ∃ n, o.data = .seq its n
noncomputable def RIt (t : Bool) (h : Heap) (j l : Addr) (i : Nat) : Prop := ∃ o, h.get? j = some o ∧ o.cls = .type (rowI t) ∧ o.data = .fields #[.ref l, .int i 0]
section
variable {t : Bool} {h h' : Heap} {j l : Addr} {i : Nat} {its : Array Value}
theorem RAt.at (x : RAt t h l its) (k : ∀ o, h.get? l = some o → h'.get? l = some o) : RAt t h' l its := by
  obtain ⟨o, ho, r⟩ := x
  exact ⟨o, k o ho, r⟩
theorem RIt.at (x : RIt t h j l i) (k : ∀ o, h.get? j = some o → h'.get? j = some o) : RIt t h' j l i := by
  obtain ⟨o, ho, r⟩ := x
  exact ⟨o, k o ho, r⟩
theorem RIt.lt (x : RIt t h j l i) : j < h.objs.size := by
  obtain ⟨o, ho, _⟩ := x
  exact Heap.lt_size ho
theorem RAt.lt (x : RAt t h l its) : l < h.objs.size := by
  obtain ⟨o, ho, _⟩ := x
  exact Heap.lt_size ho
end
section
variable {P : Program} {w : World} {A : Around} {E : Value → Shared → Prop} {s : Shared} {t : Bool} {j l : Addr} {i : Nat} {its : Array Value}
theorem row_item {x : Value} {Q : Value → Shared → Prop} (gj : RIt t s.heap j l i) (g : RAt t s.heap l its) (e : its[i]? = some x)
    (q : ∀ h', RIt t h' j l (i + 1) → Heap.SameBut j s.heap h' → Q x { s with heap := h' }) : wpAny (model P w) A (Builtin.SmallTypes.nextOf (.ref j)) Q E s := by
  cases t with
  | false => exact wpAny_nextOf_list_item gj g e q
  | true =>
    have gi : s.heap.IsTupleIter j l i := gj
    obtain ⟨oj, hoj, hcj, hdj⟩ := gj
    obtain ⟨om, hom, _, nm, hdm⟩ := g
    unfold Builtin.SmallTypes.nextOf
    refine wpAny_bind (wpAny_callSpecial?_slot (name := Str.ofString "__next__") gi.typeIs F.slot_tuple_iterator_next (wpAny_call_entry F.slot_tuple_iterator_next gi.typeIs F.entry_tuple_iterator_next ?_ (F.args_tuple_iterator_next_1 _)))
    show wpAny _ _ (field (.ref j) 0 >>= _) _ _ s
    refine wpAny_bind (wpAny_field hoj hdj (x := .ref l) rfl ?_)
    show wpAny _ A.in1 (if (Value.ref l == Value.none) = true then _ else _) _ _ s
    rw [if_neg (by exact Bool.false_ne_true)]
    show wpAny _ _ (field (.ref j) 1 >>= _) _ _ s
    refine wpAny_bind (wpAny_field hoj hdj (x := .int i 0) rfl ?_)
    show wpAny _ A.in1 (seqItems? (.ref l) >>= _) _ _ s
    refine wpAny_bind (wpAny_seqItems hom hdm ?_)
    simp only [Int.toNat_natCast, e]
    refine wpAny_bind (wpAny_setField hoj hdj (by simp) (wpAny_pure ⟨x, rfl, wpAny_pure (q _ ?_ (Heap.SameBut.update ..))⟩))
    refine ⟨_, Heap.get?_update_self _ hoj (Obj.isFreed_of_fields (Obj.data_mapFields hdj _)), (Obj.cls_mapFields ..).trans hcj, ?_⟩
    rw [Obj.data_mapFields hdj]
    simp [rawInt]
theorem row_end {Q : Value → Shared → Prop} (hh : A.handled = none) (gj : RIt t s.heap j l i) (g : RAt t s.heap l its) (e : its[i]? = none)
    (q : ∀ h' x, Heap.ExtBut j s.heap h' → (∃ o, h'.get? x = some o ∧ o.cls = .type "StopIteration") → E (.ref x) { s with heap := h' }) : wpAny (model P w) A (Builtin.SmallTypes.nextOf (.ref j)) Q E s := by
  cases t with
  | false => exact wpAny_nextOf_list_end hh gj g e q
  | true =>
    have gi : s.heap.IsTupleIter j l i := gj
    obtain ⟨oj, hoj, hcj, hdj⟩ := gj
    obtain ⟨om, hom, _, nm, hdm⟩ := g
    unfold Builtin.SmallTypes.nextOf
    refine wpAny_bind (wpAny_callSpecial?_slot (name := Str.ofString "__next__") gi.typeIs F.slot_tuple_iterator_next (wpAny_call_entry F.slot_tuple_iterator_next gi.typeIs F.entry_tuple_iterator_next ?_ (F.args_tuple_iterator_next_1 _)))
    show wpAny _ _ (field (.ref j) 0 >>= _) _ _ s
    refine wpAny_bind (wpAny_field hoj hdj (x := .ref l) rfl ?_)
    show wpAny _ A.in1 (if (Value.ref l == Value.none) = true then _ else _) _ _ s
    rw [if_neg (by exact Bool.false_ne_true)]
    show wpAny _ _ (field (.ref j) 1 >>= _) _ _ s
    refine wpAny_bind (wpAny_field hoj hdj (x := .int i 0) rfl ?_)
    show wpAny _ A.in1 (seqItems? (.ref l) >>= _) _ _ s
    refine wpAny_bind (wpAny_seqItems hom hdm ?_)
    simp only [Int.toNat_natCast, e]
    refine wpAny_bind (wpAny_rule (wpAny_bind (wpAny_setField hoj hdj (by simp) ?_)))
    show wpAny _ A.in1 (newExc (.type "StopIteration") [] >>= _) _ _ _
    refine wpAny_bind ?_
    simp only [newExc, newTuple]
    refine wpAny_bind (wpAny_newObj_type ?_ (by size_fits))
    refine wpAny_bind (m := firstArgMember _ _) (wpAny_of_eq (a := Value.none) (by first | rfl | (simp only [firstArgMember]; rfl)) ?_)
    refine wpAny_newObj_type ?_ (by size_fits)
    refine wpAny_raiseNew_none (show A.in1.handled = none from hh) ?_
    exact q _ _ (((Heap.SameBut.update ..).extBut.push _).push _) ⟨_, Heap.get?_push_size _ rfl, rfl⟩
end
noncomputable def zc1 (t : Bool) (h : Heap) (l : Addr) : Heap := h.push { cls := .type (rowI t), data := .fields #[.ref l, .int 0 0] }
noncomputable def zc3 (t : Bool) (h : Heap) (l m : Addr) : Heap := (zc1 t (zc1 t h l) m).push { cls := .type "tuple", data := .seq #[.ref h.objs.size, .ref (zc1 t h l).objs.size] }
noncomputable def zc4 (t : Bool) (h : Heap) (l m : Addr) : Heap := (zc3 t h l m).push { cls := .type "tuple", data := .seq #[.none, .none] }
noncomputable def zc5 (t : Bool) (h : Heap) (l m : Addr) : Heap :=
  (zc4 t h l m).push { cls := .type "zip", data := .fields #[.none, .bool false, .bool false, .ref (zc1 t (zc1 t h l) m).objs.size, .ref (zc3 t h l m).objs.size] }
theorem zip_new (l m : Addr) (xs ys : Array Value) :
    Meets (Builtin.«zip.__new__» ⟨[.type "zip", .ref l, .ref m], []⟩) (fun _ R s => s.heap.IsTuple l xs ∧ s.heap.IsTuple m ys ∧ R (.ok (.ret (.ref (zc4 true s.heap l m).objs.size))) { s with heap := zc5 true s.heap l m }) :=
  .of_wp fun P w A R s hs => by
    obtain ⟨hp, g, d, tk, os⟩ := s
    obtain ⟨g1, g2, q⟩ := hs
    have sb := sub_zip
    have k1 : Heap.IsTuple (Shared.heap ⟨hp, g, d, tk, os⟩) l xs := g1
    have k2 : Heap.IsTuple (Shared.heap ⟨hp.push { cls := .type "tuple_iterator", data := .fields #[.ref l, .int 0 0] }, g, d, tk, os⟩) m ys := Heap.IsTuple.push g2 _
    wp_walk using wpAny_pyIter_tuple k1, wpAny_pyIter_tuple k2
    exact ⟨_, rfl, q⟩
end L2
namespace L2
open PySem PySem.Spec PyProof.Rows
section
variable {P : Program} {w : World} {A : Around} {E : Value → Shared → Prop} {s : Shared} {t : Bool} {l m : Addr} {xs ys : Array Value}
theorem zip_made {Q : Value → Shared → Prop} (g1 : RAt t s.heap l xs) (g2 : RAt t s.heap m ys)
    (q : ∀ h', IsZip h' (s.heap.objs.size + 4) (s.heap.objs.size + 2) (s.heap.objs.size + 3) .none → IsPair h' (s.heap.objs.size + 2) (.ref s.heap.objs.size) (.ref (s.heap.objs.size + 1)) → IsPair h' (s.heap.objs.size + 3) .none .none →
      RIt t h' s.heap.objs.size l 0 → RIt t h' (s.heap.objs.size + 1) m 0 → h'.objs.size = s.heap.objs.size + 5 → (∀ b o, s.heap.get? b = some o → h'.get? b = some o) → Q (.ref (s.heap.objs.size + 4)) { s with heap := h' }) :
    wpAny (model P w) A (call (.type "zip") [.ref l, .ref m]) Q E s := by
  cases t with
  | false => exact call_zip_2 g1 g2 q
  | true =>
    refine callType_new F.called_zip (by decide) (F.typeCall_zip_2 _ _) (F.newCall_zip_2 _ _) (fun z => F.args_object_init_3 z _ _) F.entry_zip_new (zip_new l m xs ys) ⟨g1, g2, ?_⟩
    have n1 : (zc1 true s.heap l).objs.size = s.heap.objs.size + 1 := Heap.size_push ..
    have n2 : (zc1 true (zc1 true s.heap l) m).objs.size = s.heap.objs.size + 2 := (Heap.size_push ..).trans (congrArg (· + 1) n1)
    have n3 : (zc3 true s.heap l m).objs.size = s.heap.objs.size + 3 := (Heap.size_push ..).trans (congrArg (· + 1) n2)
    have n4 : (zc4 true s.heap l m).objs.size = s.heap.objs.size + 4 := (Heap.size_push ..).trans (congrArg (· + 1) n3)
    have n5 : (zc5 true s.heap l m).objs.size = s.heap.objs.size + 5 := (Heap.size_push ..).trans (congrArg (· + 1) n4)
    have u45 : ∀ {b o}, (zc4 true s.heap l m).get? b = some o → (zc5 true s.heap l m).get? b = some o := fun z => Heap.get?_push_of_some _ z
    have u35 : ∀ {b o}, (zc3 true s.heap l m).get? b = some o → (zc5 true s.heap l m).get? b = some o := fun z => u45 (Heap.get?_push_of_some _ z)
    have u25 : ∀ {b o}, (zc1 true (zc1 true s.heap l) m).get? b = some o → (zc5 true s.heap l m).get? b = some o := fun z => u35 (Heap.get?_push_of_some _ z)
    have u15 : ∀ {b o}, (zc1 true s.heap l).get? b = some o → (zc5 true s.heap l m).get? b = some o := fun z => u25 (Heap.get?_push_of_some _ z)
    have e5 : (zc5 true s.heap l m).get? (zc4 true s.heap l m).objs.size = some _ := Heap.get?_push_size _ rfl
    have e4 : (zc5 true s.heap l m).get? (zc3 true s.heap l m).objs.size = some _ := u45 (Heap.get?_push_size _ rfl)
    have e3 : (zc5 true s.heap l m).get? (zc1 true (zc1 true s.heap l) m).objs.size = some _ := u35 (Heap.get?_push_size _ rfl)
    have e2 : (zc5 true s.heap l m).get? (zc1 true s.heap l).objs.size = some _ := u25 (Heap.get?_push_size _ rfl)
    have e1 : (zc5 true s.heap l m).get? s.heap.objs.size = some _ := u15 (Heap.get?_push_size _ rfl)
    show _ ∧ _
    rw [n2, n3, n4] at e5
    rw [n1, n2] at e3
    rw [n3] at e4
    rw [n1] at e2
    rw [n4]
    exact ⟨⟨_, e5, rfl⟩, q _ e5 e3 e4 ⟨_, e1, rfl, rfl⟩ ⟨_, e2, rfl, rfl⟩ n5 fun b o z => u15 (Heap.get?_push_of_some _ z)⟩
structure Zp (t : Bool) (h : Heap) (z c d j k l m : Addr) (f : Value) (i : Nat) : Prop where
  z : IsZip h z c d f
  c : IsPair h c (.ref j) (.ref k)
  d : ∃ a b, IsPair h d a b
  j : RIt t h j l i
  k : RIt t h k m i
theorem RIt.but {h h' : Heap} {j l b : Addr} {i : Nat} (x : RIt t h j l i) (e : Heap.ExtBut b h h') (n : j ≠ b) : RIt t h' j l i := x.at fun o q => e j o n q
theorem RAt.but {h h' : Heap} {b : Addr} (x : RAt t h l xs) (e : Heap.ExtBut b h h') (n : l ≠ b) : RAt t h' l xs := x.at fun o q => e l o n q
theorem zip_item {z c d j k : Addr} {i : Nat} {x y : Value} {Q : Value → Shared → Prop} (D : ZipApart z c d j k l m) (g : Zp t s.heap z c d j k l m .none i) (g1 : RAt t s.heap l xs) (g2 : RAt t s.heap m ys) (ex : xs[i]? = some x) (ey : ys[i]? = some y)
    (q : ∀ h', Zp t h' z c d j k l m (rawInt s.heap.objs.size) (i + 1) → IsPair h' s.heap.objs.size x y → h'.objs.size = s.heap.objs.size + 1 → (∀ b o, b ∉ [z, d, j, k] → s.heap.get? b = some o → h'.get? b = some o) → Q (.ref s.heap.objs.size) { s with heap := h' }) :
    wpAny (model P w) A (Builtin.«zip.__next__» ⟨[.ref z], []⟩) (fun fin s' => ∃ v, fin = .done (.ret v) ∧ Q v s') E s := by
  obtain ⟨gz, gc, ⟨p, r, gd⟩, gj, gk⟩ := g
  show wpAny _ A (field (.ref z) 2 >>= _) _ _ _
  refine wpAny_bind (wpAny_field gz rfl (x := .bool false) rfl ?_)
  show wpAny _ A (field (.ref z) 3 >>= _) _ _ _
  refine wpAny_bind (wpAny_field gz rfl (x := .ref c) rfl ?_)
  refine wpAny_bind (wpAny_seqItems gc rfl ?_)
  show wpAny _ A (Builtin.SmallTypes.ownedTupleIsFree (.ref z) >>= _) _ _ _
  refine wpAny_bind ?_
  unfold Builtin.SmallTypes.ownedTupleIsFree
  refine wpAny_bind (wpAny_field gz rfl (x := .none) rfl (wpAny_pure ?_))
  simp only [if_true]
  refine wpAny_bind (wpAny_rule ?_)
  refine wpAny_bind (wpAny_field gz rfl (x := .ref d) rfl ?_)
  refine wpAny_bind (wpAny_setField_rec gz (by simp) fun h1 z1 a1 => ?_)
  replace z1 : IsZip h1 z c d .ellipsis := z1
  refine wpAny_bind ?_
  simp only [List.zipIdx_cons, List.zipIdx_nil, List.forIn_cons, List.forIn_nil]
  refine wpAny_bind (wpAny_bind (wpAny_onRaise ?_))
  show wpAny _ A (Builtin.SmallTypes.nextOf (.ref j) >>= _) _ _ _
  refine wpAny_bind (row_item (gj.but a1.extBut D.i1z) (g1.but a1.extBut D.l1z) ex fun h2 j2 a2 => wpAny_pure ?_)
  have d2 : IsPair h2 d p r := a2.extBut _ _ D.TOi1 (a1.extBut _ _ D.TOz gd)
  refine wpAny_bind (wpAny_seqItems d2 rfl ?_)
  refine wpAny_bind (wpAny_updateSeq_pair d2 fun h3 d3 a3 => ?_)
  replace d3 : IsPair h3 d x r := d3
  refine wpAny_bind (wpAny_letGo (wpAny_pure ?_))
  refine wpAny_bind (wpAny_bind (wpAny_onRaise ?_))
  show wpAny _ A (Builtin.SmallTypes.nextOf (.ref k) >>= _) _ _ _
  refine wpAny_bind (row_item (((gk.but a1.extBut D.i2z).but a2.extBut D.i12.symm).but a3.extBut D.TOi2.symm) (((g2.but a1.extBut D.l2z).but a2.extBut D.l2i1).but a3.extBut D.l2TO) ey fun h4 k4 a4 => wpAny_pure ?_)
  have d4 : IsPair h4 d x r := a4.extBut _ _ D.TOi2 d3
  refine wpAny_bind (wpAny_seqItems d4 rfl ?_)
  refine wpAny_bind (wpAny_updateSeq_pair d4 fun h5 d5 a5 => ?_)
  replace d5 : IsPair h5 d x y := d5
  refine wpAny_bind (wpAny_letGo (wpAny_pure (wpAny_pure ?_)))
  refine wpAny_bind (wpAny_seqItems d5 rfl ?_)
  refine wpAny_bind (wpAny_newTuple ?_)
  have e5 : h5.objs.size = s.heap.objs.size := by rw [a5.1, a4.1, a3.1, a2.1, a1.1]
  have z5 : IsZip h5 z c d .ellipsis := a5.extBut _ _ D.TOz.symm (a4.extBut _ _ D.i2z.symm (a3.extBut _ _ D.TOz.symm (a2.extBut _ _ D.i1z.symm z1)))
  have k5 : ∀ b o, b ≠ z → b ≠ d → b ≠ j → b ≠ k → s.heap.get? b = some o → h5.get? b = some o := fun b o b1 b2 b3 b4 e =>
    a5.extBut _ _ b2 (a4.extBut _ _ b4 (a3.extBut _ _ b2 (a2.extBut _ _ b3 (a1.extBut _ _ b1 e))))
  have j5 : RIt t h5 j l (i + 1) := ((j2.but a3.extBut D.TOi1.symm).but a4.extBut D.i12).but a5.extBut D.TOi1.symm
  have m5 : RIt t h5 k m (i + 1) := k4.but a5.extBut D.TOi2.symm
  have zl : z < h5.objs.size := Heap.lt_size z5
  show wpAny _ A (Builtin.SmallTypes.ownedTupleHandOut (.ref z) (.ref h5.objs.size) >>= _) _ _ _
  refine wpAny_bind ?_
  unfold Builtin.SmallTypes.ownedTupleHandOut
  have z6 : IsZip (h5.push { cls := .type "tuple", data := .seq #[x, y] }) z c d .ellipsis := Heap.get?_push_of_some _ z5
  refine wpAny_bind (wpAny_setField_rec z6 (by simp) fun h7 z7 a7 => ?_)
  replace z7 : IsZip h7 z c d (rawInt h5.objs.size) := z7
  refine wpAny_setField_rec z7 (by simp) fun h8 z8 a8 => ?_
  replace z8 : IsZip h8 z c d (rawInt h5.objs.size) := z8
  have up : ∀ b o, b ≠ z → h5.get? b = some o → h8.get? b = some o := fun b o b1 e => a8.extBut _ _ b1 (a7.extBut _ _ b1 (Heap.get?_push_of_some _ e))
  have t8 : IsPair h8 h5.objs.size x y := a8.extBut _ _ (Nat.ne_of_gt zl) (a7.extBut _ _ (Nat.ne_of_gt zl) (Heap.get?_push_size _ rfl))
  have e8 : h8.objs.size = h5.objs.size + 1 := by rw [a8.1, a7.1, Heap.size_push]
  rw [e5] at z8 t8 e8
  refine wpAny_pure ⟨_, rfl, ?_⟩
  show Q (.ref h5.objs.size) _
  rw [e5]
  refine q h8 ⟨z8, up _ _ D.TIz (k5 _ _ D.TIz D.TITO D.TIi1 D.TIi2 gc), ⟨x, y, up _ _ D.TOz d5⟩, j5.at fun o e => up _ o D.i1z e, m5.at fun o e => up _ o D.i2z e⟩ t8 e8 fun b o hb e => ?_
  simp only [List.mem_cons, List.not_mem_nil, or_false, not_or] at hb
  exact up b o hb.1 (k5 b o hb.1 hb.2.1 hb.2.2.1 hb.2.2.2 e)
theorem zip_stop {z c d j k : Addr} {i : Nat} {Q : Fin → Shared → Prop} (hh : A.handled = none) (D : ZipApart z c d j k l m) (g : Zp t s.heap z c d j k l m .none i) (g1 : RAt t s.heap l xs) (ex : xs[i]? = none)
    (q : ∀ h' e, (∀ b o, b ∉ [z, d, j, k] → s.heap.get? b = some o → h'.get? b = some o) → (∃ o, h'.get? e = some o ∧ o.cls = .type "StopIteration") → E (.ref e) { s with heap := h' }) :
    wpAny (model P w) A (Builtin.«zip.__next__» ⟨[.ref z], []⟩) Q E s := by
  obtain ⟨gz, gc, ⟨p, r, gd⟩, gj, gk⟩ := g
  show wpAny _ A (field (.ref z) 2 >>= _) _ _ _
  refine wpAny_bind (wpAny_field gz rfl (x := .bool false) rfl ?_)
  show wpAny _ A (field (.ref z) 3 >>= _) _ _ _
  refine wpAny_bind (wpAny_field gz rfl (x := .ref c) rfl ?_)
  refine wpAny_bind (wpAny_seqItems gc rfl ?_)
  show wpAny _ A (Builtin.SmallTypes.ownedTupleIsFree (.ref z) >>= _) _ _ _
  refine wpAny_bind ?_
  unfold Builtin.SmallTypes.ownedTupleIsFree
  refine wpAny_bind (wpAny_field gz rfl (x := .none) rfl (wpAny_pure ?_))
  simp only [if_true]
  refine wpAny_bind (wpAny_rule ?_)
  refine wpAny_bind (wpAny_field gz rfl (x := .ref d) rfl ?_)
  refine wpAny_bind (wpAny_setField_rec gz (by simp) fun h1 z1 a1 => ?_)
  replace z1 : IsZip h1 z c d .ellipsis := z1
  refine wpAny_bind ?_
  simp only [List.zipIdx_cons, List.zipIdx_nil, List.forIn_cons, List.forIn_nil]
  refine wpAny_bind (wpAny_bind (wpAny_onRaise ?_))
  show wpAny _ A (Builtin.SmallTypes.nextOf (.ref j) >>= _) _ _ _
  refine wpAny_bind (row_end hh (gj.but a1.extBut D.i1z) (g1.but a1.extBut D.l1z) ex fun h2 e a2 he => ?_)
  obtain ⟨oe, hoe, hce⟩ := he
  have z2 : IsZip h2 z c d .ellipsis := a2 _ _ D.i1z.symm z1
  have ne : e ≠ z := fun x => by subst x; rw [z2] at hoe; cases hoe; simp at hce
  refine wpAny_setField_rec z2 (by simp) fun h3 _ a3 => q h3 e (fun b o hb x => ?_) ⟨oe, a3.extBut _ _ ne hoe, hce⟩
  simp only [List.mem_cons, List.not_mem_nil, or_false, not_or] at hb
  exact a3.extBut _ _ hb.1 (a2 _ _ hb.2.2.1 (a1.extBut _ _ hb.1 x))
theorem zip_stop2 {z c d j k : Addr} {i : Nat} {x : Value} {Q : Fin → Shared → Prop} (hh : A.handled = none) (D : ZipApart z c d j k l m) (g : Zp t s.heap z c d j k l m .none i) (g1 : RAt t s.heap l xs) (g2 : RAt t s.heap m ys) (ex : xs[i]? = some x) (ey : ys[i]? = none)
    (q : ∀ h' e, (∀ b o, b ∉ [z, d, j, k] → s.heap.get? b = some o → h'.get? b = some o) → (∃ o, h'.get? e = some o ∧ o.cls = .type "StopIteration") → E (.ref e) { s with heap := h' }) :
    wpAny (model P w) A (Builtin.«zip.__next__» ⟨[.ref z], []⟩) Q E s := by
  obtain ⟨gz, gc, ⟨p, r, gd⟩, gj, gk⟩ := g
  show wpAny _ A (field (.ref z) 2 >>= _) _ _ _
  refine wpAny_bind (wpAny_field gz rfl (x := .bool false) rfl ?_)
  show wpAny _ A (field (.ref z) 3 >>= _) _ _ _
  refine wpAny_bind (wpAny_field gz rfl (x := .ref c) rfl ?_)
  refine wpAny_bind (wpAny_seqItems gc rfl ?_)
  show wpAny _ A (Builtin.SmallTypes.ownedTupleIsFree (.ref z) >>= _) _ _ _
  refine wpAny_bind ?_
  unfold Builtin.SmallTypes.ownedTupleIsFree
  refine wpAny_bind (wpAny_field gz rfl (x := .none) rfl (wpAny_pure ?_))
  simp only [if_true]
  refine wpAny_bind (wpAny_rule ?_)
  refine wpAny_bind (wpAny_field gz rfl (x := .ref d) rfl ?_)
  refine wpAny_bind (wpAny_setField_rec gz (by simp) fun h1 z1 a1 => ?_)
  replace z1 : IsZip h1 z c d .ellipsis := z1
  refine wpAny_bind ?_
  simp only [List.zipIdx_cons, List.zipIdx_nil, List.forIn_cons, List.forIn_nil]
  refine wpAny_bind (wpAny_bind (wpAny_onRaise ?_))
  show wpAny _ A (Builtin.SmallTypes.nextOf (.ref j) >>= _) _ _ _
  refine wpAny_bind (row_item (gj.but a1.extBut D.i1z) (g1.but a1.extBut D.l1z) ex fun h2 j2 a2 => wpAny_pure ?_)
  have d2 : IsPair h2 d p r := a2.extBut _ _ D.TOi1 (a1.extBut _ _ D.TOz gd)
  refine wpAny_bind (wpAny_seqItems d2 rfl ?_)
  refine wpAny_bind (wpAny_updateSeq_pair d2 fun h3 d3 a3 => ?_)
  replace d3 : IsPair h3 d x r := d3
  refine wpAny_bind (wpAny_letGo (wpAny_pure ?_))
  refine wpAny_bind (wpAny_bind (wpAny_onRaise ?_))
  show wpAny _ A (Builtin.SmallTypes.nextOf (.ref k) >>= _) _ _ _
  refine wpAny_bind (row_end hh (((gk.but a1.extBut D.i2z).but a2.extBut D.i12.symm).but a3.extBut D.TOi2.symm) (((g2.but a1.extBut D.l2z).but a2.extBut D.l2i1).but a3.extBut D.l2TO) ey fun h4 e a4 he => ?_)
  obtain ⟨oe, hoe, hce⟩ := he
  have z4 : IsZip h4 z c d .ellipsis := a4 _ _ D.i2z.symm (a3.extBut _ _ D.TOz.symm (a2.extBut _ _ D.i1z.symm z1))
  have ne : e ≠ z := fun x => by subst x; rw [z4] at hoe; cases hoe; simp at hce
  refine wpAny_setField_rec z4 (by simp) fun h5 _ a5 => q h5 e (fun b o hb x => ?_) ⟨oe, a5.extBut _ _ ne hoe, hce⟩
  simp only [List.mem_cons, List.not_mem_nil, or_false, not_or] at hb
  exact a5.extBut _ _ hb.1 (a4 _ _ hb.2.2.2 (a3.extBut _ _ hb.2.1 (a2.extBut _ _ hb.2.2.1 (a1.extBut _ _ hb.1 x))))
theorem next_zip {z c d j k : Addr} {i : Nat} {x y : Value} {Q : Option Value → Shared → Prop} (D : ZipApart z c d j k l m) (g : Zp t s.heap z c d j k l m .none i) (g1 : RAt t s.heap l xs) (g2 : RAt t s.heap m ys) (ex : xs[i]? = some x) (ey : ys[i]? = some y)
    (q : ∀ h', Zp t h' z c d j k l m (rawInt s.heap.objs.size) (i + 1) → IsPair h' s.heap.objs.size x y → h'.objs.size = s.heap.objs.size + 1 → (∀ b o, b ∉ [z, d, j, k] → s.heap.get? b = some o → h'.get? b = some o) → Q (some (.ref s.heap.objs.size)) { s with heap := h' }) :
    wpAny (model P w) A (pyNext (.ref z)) Q E s := by
  have ty : s.TypeIs (.ref z) "zip" := ⟨_, g.z, rfl⟩
  unfold pyNext
  refine wpAny_bind (wpAny_attempt (wpAny_callSpecial?_slot (name := Str.ofString "__next__") ty F.slot_zip_next (wpAny_call_entry F.slot_zip_next ty F.entry_zip_next ?_ (F.args_zip_next_1 _))))
  exact zip_item D g g1 g2 ex ey fun h' b1 b2 b3 b4 => wpAny_pure (q h' b1 b2 b3 b4)
theorem next_stop {z c d j k : Addr} {i : Nat} {Q : Option Value → Shared → Prop} (hh : A.handled = none) (D : ZipApart z c d j k l m) (g : Zp t s.heap z c d j k l m .none i) (g1 : RAt t s.heap l xs) (ex : xs[i]? = none)
    (q : ∀ h', (∀ b o, b ∉ [z, d, j, k] → s.heap.get? b = some o → h'.get? b = some o) → Q none { s with heap := h' }) : wpAny (model P w) A (pyNext (.ref z)) Q E s := by
  have ty : s.TypeIs (.ref z) "zip" := ⟨_, g.z, rfl⟩
  unfold pyNext
  refine wpAny_bind (wpAny_attempt (wpAny_callSpecial?_slot (name := Str.ofString "__next__") ty F.slot_zip_next (wpAny_call_entry F.slot_zip_next ty F.entry_zip_next ?_ (F.args_zip_next_1 _))))
  refine zip_stop hh D g g1 ex fun h' e hk he => ?_
  obtain ⟨o, ho, hc⟩ := he
  refine wpAny_bind (wpAny_isInstance (T := "StopIteration") (b := true) ⟨o, ho, hc⟩ isSubtype_stop ?_)
  exact wpAny_pure (q _ hk)
theorem next_stop2 {z c d j k : Addr} {i : Nat} {x : Value} {Q : Option Value → Shared → Prop} (hh : A.handled = none) (D : ZipApart z c d j k l m) (g : Zp t s.heap z c d j k l m .none i) (g1 : RAt t s.heap l xs) (g2 : RAt t s.heap m ys) (ex : xs[i]? = some x) (ey : ys[i]? = none)
    (q : ∀ h', (∀ b o, b ∉ [z, d, j, k] → s.heap.get? b = some o → h'.get? b = some o) → Q none { s with heap := h' }) : wpAny (model P w) A (pyNext (.ref z)) Q E s := by
  have ty : s.TypeIs (.ref z) "zip" := ⟨_, g.z, rfl⟩
  unfold pyNext
  refine wpAny_bind (wpAny_attempt (wpAny_callSpecial?_slot (name := Str.ofString "__next__") ty F.slot_zip_next (wpAny_call_entry F.slot_zip_next ty F.entry_zip_next ?_ (F.args_zip_next_1 _))))
  refine zip_stop2 hh D g g1 g2 ex ey fun h' e hk he => ?_
  obtain ⟨o, ho, hc⟩ := he
  refine wpAny_bind (wpAny_isInstance (T := "StopIteration") (b := true) ⟨o, ho, hc⟩ isSubtype_stop ?_)
  exact wpAny_pure (q _ hk)
end
end L2
namespace L2
open PySem PySem.Spec PyProof.Rows
noncomputable def Sq (t : Bool) (K : PySem.W.Frag) (H : Hp) (a : Addr) (xs : List V) : Prop :=
  match t with
  | true => SqT K H a xs
  | false => SqL K H a xs
section
variable {X : Cx} {pins : List (Addr × Obj)} {σ : St} {H : Hp} {s : Shared} {t : Bool} {a : Addr} {xs ys : List V}
theorem Inv.row (I : Inv X pins σ H s) (h : Sq t X.K H a xs) : ∃ its : List Value, Vals xs its ∧ RAt t s.heap a its.toArray ∧ xs.length ≤ sizeLine := by
  cases t with
  | true => exact I.tuple h
  | false =>
    obtain ⟨its, r, p, z⟩ := I.list h
    exact ⟨its, r, p.isList, z⟩
theorem Inv.row_inj (I : Inv X pins σ H s) (h : Sq t X.K H a xs) (h' : Sq t X.K H a ys) : xs = ys := by
  cases t with
  | true => exact I.tuple_inj h h'
  | false => exact I.list_inj h h'
end
noncomputable def Itz (t : Bool) (K : PySem.W.Frag) (a b : Addr) : It :=
  ⟨fun i H => ∃ xs ys x y, Sq t K H a xs ∧ Sq t K H b ys ∧ xs[i]? = some x ∧ ys[i]? = some y,
   fun i H v H' => ∃ T x y, v = .ref T ∧ H T = none ∧ H' = upd H T (.tup [x, y]) ∧ (∀ xs, Sq t K H a xs → xs[i]? = some x) ∧ ∀ ys, Sq t K H b ys → ys[i]? = some y,
   fun i H => (∃ xs, Sq t K H a xs ∧ xs.length ≤ i) ∨ ∃ xs ys, Sq t K H a xs ∧ Sq t K H b ys ∧ i < xs.length ∧ ys.length ≤ i⟩
theorem turn_zip {P : Program} {w : World} {K : PySem.W.Frag} {es : List Expr} {n : Nat} {pos : Pos} {t : Bool} (a b z c d j k : Addr) (D : ZipApart z c d j k a b) :
    Turn P w K (.Tuple es n pos) (Itz t K a b) [z, c, d, j, k] z (fun i h => Zp t h z c d j k a b .none i) where
  mem := by simp
  obj := fun i h st b' hb => by
    obtain ⟨g1, g2, ⟨p, r, g3⟩, ⟨oj, ej, cj, dj⟩, ⟨ok, ek, ck, dk⟩⟩ := st
    simp only [List.mem_cons, List.not_mem_nil, or_false] at hb
    rcases hb with rfl | rfl | rfl | rfl | rfl
    · exact ⟨_, g1, fun v q => by cases (show Data.fields _ = Data.cell v from q)⟩
    · exact ⟨_, g2, fun v q => by cases (show Data.seq _ _ = Data.cell v from q)⟩
    · exact ⟨_, g3, fun v q => by cases (show Data.seq _ _ = Data.cell v from q)⟩
    · exact ⟨_, ej, fun v q => by rw [dj] at q; cases q⟩
    · exact ⟨_, ek, fun v q => by rw [dk] at q; cases q⟩
  keep := fun i h h' st kp => by
    obtain ⟨g1, g2, ⟨p, r, g3⟩, gj, gk⟩ := st
    exact ⟨kp z (by simp) _ g1, kp c (by simp) _ g2, ⟨p, r, kp d (by simp) _ g3⟩, gj.at fun o q => kp j (by simp) o q, gk.at fun o q => kp k (by simp) o q⟩
  item := by
    intro X hP hw hK hc i pins s σ H E I hf st hg
    subst hP hw hK
    obtain ⟨xs, ys, x, y, ha, hb, hx, hy⟩ := hg
    obtain ⟨is1, v1, r1, _⟩ := I.row ha
    obtain ⟨is2, v2, r2, _⟩ := I.row hb
    obtain ⟨u1, e1, q1⟩ := v1.get hx
    obtain ⟨u2, e2, q2⟩ := v2.get hy
    refine next_zip D st r1 r2 (x := u1) (y := u2) (by simpa using e1) (by simpa using e2) fun h1 zp hT hsz hk => ?_
    obtain ⟨g1, g2, ⟨p, r, g3⟩, gj, gk⟩ := zp
    refine ⟨_, rfl, wpAny_letOwnedTupleGo_zip g1 fun h2 z2 s2 => ?_⟩
    have zlt : z < s.heap.objs.size := Heap.lt_size st.z
    have hT2 : h2.get? s.heap.objs.size = some { cls := .type "tuple", data := .seq #[u1, u2] } := (s2.2 _ (Nat.ne_of_gt zlt)).trans hT
    have kk : ∀ b o, b ∉ [z, d, j, k] → s.heap.get? b = some o → h2.get? b = some o := fun b o hb q => (s2.2 b fun e => hb (by simp [e])).trans (hk b o hb q)
    have hf4 : ∀ b ∈ [z, d, j, k], FpOk X pins H b := fun b hb => hf b (by
      simp only [List.mem_cons, List.not_mem_nil, or_false] at hb ⊢
      rcases hb with h | h | h | h
      · exact .inl h
      · exact .inr (.inr (.inl h))
      · exact .inr (.inr (.inr (.inl h)))
      · exact .inr (.inr (.inr (.inr h))))
    have I2 : Inv X pins σ (upd H s.heap.objs.size (.tup [x, y])) { s with heap := h2, toks := s.toks } :=
      I.turnLaid (ch := [z, d, j, k]) kk hf4 (Nat.le_refl _) ⟨by simp only [List.length_cons, List.length_nil]; rw [sizeLine_eq]; decide, [u1, u2], .cons q1 (.cons q2 .nil), ⟨_, hT2, rfl, 0, rfl⟩⟩
    refine ⟨.ref s.heap.objs.size, _, I2, rfl, ⟨_, x, y, rfl, I.hok.fresh (Nat.le_refl _), rfl, fun xs' h' => by rw [I.row_inj h' ha]; exact hx, fun ys' h' => by rw [I.row_inj h' hb]; exact hy⟩, ?_, fun b' hb' => ?_⟩
    · have up : ∀ b, b ≠ z → ∀ o, h1.get? b = some o → h2.get? b = some o := fun b n o q => (s2.2 b n).trans q
      exact ⟨z2, up _ D.TIz _ g2, ⟨p, r, up _ D.TOz _ g3⟩, gj.at fun o q => up _ D.i1z o q, gk.at fun o q => up _ D.i2z o q⟩
    · have hlt : b' < s.heap.objs.size := by
        obtain ⟨s1, s2, ⟨_, _, s3⟩, s4, s5⟩ := st
        simp only [List.mem_cons, List.not_mem_nil, or_false] at hb'
        rcases hb' with rfl | rfl | rfl | rfl | rfl
        · exact zlt
        · exact Heap.lt_size s2
        · exact Heap.lt_size s3
        · exact s4.lt
        · exact s5.lt
      rw [upd_ne (Nat.ne_of_lt hlt)]
      exact (hf b' hb').1
  done := by
    intro X hP hw hK hc i pins s σ H E I hf st hg
    subst hP hw hK
    have fin : ∀ h1 : Heap, (∀ b o, b ∉ [z, d, j, k] → s.heap.get? b = some o → h1.get? b = some o) → Inv X pins σ H { s with heap := h1 } := fun h1 hk => by
      refine I.turnedN (t' := s.toks) (ch := [z, d, j, k]) hk fun b hb => hf b ?_
      simp only [List.mem_cons, List.not_mem_nil, or_false] at hb ⊢
      rcases hb with h | h | h | h
      · exact .inl h
      · exact .inr (.inr (.inl h))
      · exact .inr (.inr (.inr (.inl h)))
      · exact .inr (.inr (.inr (.inr h)))
    rcases hg with ⟨xs, ha, hl⟩ | ⟨xs, ys, ha, hb, hi, hl⟩
    · obtain ⟨is1, v1, r1, _⟩ := I.row ha
      have e := v1.length
      exact next_stop (I.ok.hd hc) D st r1 (by simp; omega) fun h1 hk => ⟨rfl, fin h1 hk⟩
    · obtain ⟨is1, v1, r1, _⟩ := I.row ha
      obtain ⟨is2, v2, r2, _⟩ := I.row hb
      have e := v1.length
      have e2 := v2.length
      obtain ⟨u, hu, _⟩ := v1.get (List.getElem?_eq_getElem hi)
      exact next_stop2 (I.ok.hd hc) D st r1 r2 (x := u) (by simpa using hu) (by simp; omega) fun h1 hk => ⟨rfl, fin h1 hk⟩
  self := fun _ _ _ _ _ st h => wpAny_pyIter_zip st.z h
section
variable {X : Cx}
noncomputable def iZip (K : PySem.W.Frag) (ta : TA) : TI := fun σ H R => ta σ H fun vs H1 => ∃ t a b xs ys, vs = [.ref a, .ref b] ∧ Sq t K H1 a xs ∧ Sq t K H1 b ys ∧ R (Itz t K a b) H1
theorem pi_zip {es : List Expr} {k : Nat} {e f : Expr} {ta : TA} {p p2 pos : Pos} (hg : Gl X "zip") (hm : X.mg "zip" = none) (ha : PA X [e, f] ta) (hs : starEach [e, f] X.env = (false, eval e X.env) :: starEach [f] X.env := by rfl) (hs2 : (backTo pos (starEach [f] X.env)).any (·.1) = false := by rfl) :
    PI X (.Tuple es k p2) (.Call (.Name "zip" p) [e, f] [] pos) (iZip X.K ta) := by
  intro pins s σ H R I h
  refine Call_ (ld_blt I hg hm boot_zip (PyProof.Rows.callWith_type1 (thn (ha pos pins s σ H _ I h) fun us s1 hq9 => AP.out hq9 fun vs H1 I1 r1 q1 => ?_) hs hs2))
  obtain ⟨t, a, b, xs, ys, e1, hA, hB, q⟩ := q1
  subst e1
  obtain ⟨u, v, rfl, ru, rv⟩ := vals2 r1
  cases (show u = Value.ref a from ru)
  cases (show v = Value.ref b from rv)
  obtain ⟨is1, v1, g1, _⟩ := I1.row hA
  obtain ⟨is2, v2, g2, _⟩ := I1.row hB
  refine zip_made g1 g2 fun h1 z1 z2 z3 z4 z5 hsz hk => ?_
  refine wpAny_pyIter_zip z1 ?_
  refine ⟨_, [s1.heap.objs.size + 4, s1.heap.objs.size + 2, s1.heap.objs.size + 3, s1.heap.objs.size, s1.heap.objs.size + 1], _, _, H1, rfl, I1.kept (t' := s1.toks) hk, turn_zip a b _ _ _ _ _ (zipApart_new g1.lt g2.lt), ⟨z1, z2, ⟨_, _, z3⟩, z4, z5⟩, fun b' hb' => ?_, q⟩
  have hle : s1.heap.objs.size ≤ b' := by
    simp only [List.mem_cons, List.not_mem_nil, or_false] at hb'
    rcases hb' with h | h | h | h | h
    · rw [h]; exact Nat.le_add_right _ _
    · rw [h]; exact Nat.le_add_right _ _
    · rw [h]; exact Nat.le_add_right _ _
    · rw [h]; exact Nat.le_refl _
    · rw [h]; exact Nat.le_add_right _ _
  exact I1.fpOk hle (I1.hok.fresh hle)
end
end L2
namespace L2
open PySem PySem.Spec PyProof.Rows
inductive KdOf (K : PySem.W.Frag) (H : Hp) : V → String → Prop where
  | non : KdOf K H .non "NoneType"
  | bl (x : Bool) : KdOf K H (.bl x) "bool"
  | int (i : Int) : KdOf K H (.int i) "int"
  | str (x : Str) : KdOf K H (.str x) "str"
  | lst {a : Addr} {xs : List V} (e : SqL K H a xs) : KdOf K H (.ref a) "list"
  | tup {a : Addr} {xs : List V} (e : SqT K H a xs) : KdOf K H (.ref a) "tuple"
section
variable {X : Cx} {pins : List (Addr × Obj)} {σ : St} {H : Hp} {s : Shared} {A : Around} {E : Value → Shared → Prop} {Q : Value → Shared → Prop} {b : Bool}
theorem Inv.kitL {a : Addr} {xs : List V} (I : Inv X pins σ H s) (h : SqL X.K H a xs) : PySem.W.KitAt a "list" s.heap := by
  obtain ⟨its, _, ⟨o, n, e, c, _⟩, _⟩ := I.list h
  exact ⟨o, e, c⟩
theorem Inv.kitT {a : Addr} {xs : List V} (I : Inv X pins σ H s) (h : SqT X.K H a xs) : PySem.W.KitAt a "tuple" s.heap := by
  obtain ⟨its, _, ⟨o, e, c, _⟩, _⟩ := I.tuple h
  exact ⟨o, e, c⟩
theorem isk_one {x : V} {u c : Value} {T : String} (I : Inv X pins σ H s) (rx : RelV x u) (ty : KdOf X.K H x T) (e : PySem.W.kitOne X.K (.type T) c = some b) (h : ∀ tk, Q (.bool b) { s with toks := tk }) :
    wpAny (model X.prog X.w) A (call (.builtin "isinstance") [u, c]) Q E s := by
  cases ty with
  | non => cases (show u = Value.none from rx); exact PySem.W.kia_one PySem.W.kitx_none I.kIn True.intro e (fun z => nomatch z) h
  | bl y => cases (show u = Value.bool y from rx); exact PySem.W.kia_one PySem.W.kitx_bool I.kIn True.intro e (fun z => nomatch z) h
  | int i => obtain ⟨t, q⟩ := (show ∃ t, u = Value.int i t from rx); cases q; exact PySem.W.kia_one PySem.W.kitx_int I.kIn True.intro e (fun z => nomatch z) h
  | str y => obtain ⟨t, q⟩ := (show ∃ t, u = Value.str y t from rx); cases q; exact PySem.W.kia_one PySem.W.kitx_str I.kIn True.intro e (fun z => nomatch z) h
  | @lst a xs ea => cases (show u = Value.ref a from rx); exact PySem.W.kia_one PySem.W.kitx_list I.kIn (I.kitL ea) e (fun z => nomatch z) h
  | @tup a xs ea => cases (show u = Value.ref a from rx); exact PySem.W.kia_one PySem.W.kitx_tuple I.kIn (I.kitT ea) e (fun z => nomatch z) h
theorem isk_any {x : V} {u : Value} {T : String} {tp : Addr} {ns : List String} (I : Inv X pins σ H s) (rx : RelV x u) (ty : KdOf X.K H x T) (htp : SqT X.K H tp (ns.map V.ty)) (e : PySem.W.kitAny X.K (.type T) (ns.map Value.type) = some b) (h : ∀ tk, Q (.bool b) { s with toks := tk }) :
    wpAny (model X.prog X.w) A (call (.builtin "isinstance") [u, .ref tp]) Q E s := by
  obtain ⟨its, rv, pt, _⟩ := I.tuple htp
  obtain ⟨ot, g1, g2, n, g3⟩ := pt
  obtain ⟨c0, d0, t0, l0⟩ := ot
  dsimp only at g2 g3
  subst g2 g3
  cases vals_ty rv
  cases ty with
  | non => cases (show u = Value.none from rx); exact PySem.W.kia_tup PySem.W.kitx_none I.kIn True.intro g1 e (fun z => nomatch z) h
  | bl y => cases (show u = Value.bool y from rx); exact PySem.W.kia_tup PySem.W.kitx_bool I.kIn True.intro g1 e (fun z => nomatch z) h
  | int i => obtain ⟨t, q⟩ := (show ∃ t, u = Value.int i t from rx); cases q; exact PySem.W.kia_tup PySem.W.kitx_int I.kIn True.intro g1 e (fun z => nomatch z) h
  | str y => obtain ⟨t, q⟩ := (show ∃ t, u = Value.str y t from rx); cases q; exact PySem.W.kia_tup PySem.W.kitx_str I.kIn True.intro g1 e (fun z => nomatch z) h
  | @lst a xs ea => cases (show u = Value.ref a from rx); exact PySem.W.kia_tup PySem.W.kitx_list I.kIn (I.kitL ea) g1 e (fun z => nomatch z) h
  | @tup a xs ea => cases (show u = Value.ref a from rx); exact PySem.W.kia_tup PySem.W.kitx_tuple I.kIn (I.kitT ea) g1 e (fun z => nomatch z) h
noncomputable def rIsK (K : PySem.W.Frag) : List V → Hp → VK → Prop := fun xs H Q => ∃ (x : V) (T n : String) (b : Bool), xs = [x, .ty n] ∧ KdOf K H x T ∧ PySem.W.kitOne K (.type T) (.type n) = some b ∧ Q (.bl b) H
theorem call_isK {X : Cx} : CallR X (.builtin "isinstance") (rIsK X.K) := by
  intro pins s σ H xs us Q I r h
  obtain ⟨x, T, n, b, rfl, ty, e, q⟩ := h
  obtain ⟨u, w', rfl, rx, rn⟩ := vals2 r
  cases (show w' = Value.type n from rn)
  exact isk_one I rx ty e fun tk => ⟨.bl b, H, I.tok tk, rfl, q⟩
noncomputable def rIsKs (K : PySem.W.Frag) : List V → Hp → VK → Prop := fun xs H Q => ∃ (x : V) (T : String) (tp : Addr) (ns : List String) (b : Bool), xs = [x, .ref tp] ∧ KdOf K H x T ∧ SqT K H tp (ns.map V.ty) ∧ PySem.W.kitAny K (.type T) (ns.map Value.type) = some b ∧ Q (.bl b) H
theorem call_isKs {X : Cx} : CallR X (.builtin "isinstance") (rIsKs X.K) := by
  intro pins s σ H xs us Q I r h
  obtain ⟨x, T, tp, ns, b, rfl, ty, htp, e, q⟩ := h
  obtain ⟨u, w', rfl, rx, rn⟩ := vals2 r
  cases (show w' = Value.ref tp from rn)
  exact isk_any I rx ty htp e fun tk => ⟨.bl b, H, I.tok tk, rfl, q⟩
theorem vc_isK {K : PySem.W.Frag} {H : Hp} {Q : VK} {x : V} {T n : String} {b : Bool} (ty : KdOf K H x T) (e : PySem.W.kitOne K (.type T) (.type n) = some b) (q : Q (.bl b) H) : rIsK K [x, .ty n] H Q := ⟨x, T, n, b, rfl, ty, e, q⟩
theorem vc_isKs {K : PySem.W.Frag} {H : Hp} {Q : VK} {x : V} {T : String} {tp : Addr} {ns : List String} {b : Bool} (ty : KdOf K H x T) (htp : SqT K H tp (ns.map V.ty)) (e : PySem.W.kitAny K (.type T) (ns.map Value.type) = some b) (q : Q (.bl b) H) :
    rIsKs K [x, .ref tp] H Q := ⟨x, T, tp, ns, b, rfl, ty, htp, e, q⟩
theorem vc_all {K : PySem.W.Frag} {H : Hp} {Q : VK} {p : Addr} {bs : List Bool} (l : SqL K H p (bs.map V.bl)) (q : Q (.bl (bs.all id)) H) : rAll K [.ref p] H Q := ⟨p, bs, rfl, l, q⟩
theorem vc_izip {K : PySem.W.Frag} {ta : TA} {σ : St} {H : Hp} {R : It → Hp → Prop} (h : ta σ H fun vs H1 => ∃ t a b xs ys, vs = [.ref a, .ref b] ∧ Sq t K H1 a xs ∧ Sq t K H1 b ys ∧ R (Itz t K a b) H1) : iZip K ta σ H R := h
end
section
variable {K : PySem.W.Frag} {H H' H1 : Hp} {t : Bool} {a b : Addr} {xs ys : List V}
theorem Same.sq (e : Same H H') (h : Sq t K H a xs) : Sq t K H' a xs := by
  cases t with
  | true => exact e.tup h
  | false => exact e.seq h
theorem hJ_zip (ha : Sq t K H1 a xs) (hb : Sq t K H1 b ys) (hl : xs.length = ys.length) : ∀ i H, Same H1 H → (i < xs.length → (Itz t K a b).go i H) ∧ (xs.length ≤ i → (Itz t K a b).stop i H) ∧
    ∀ x H', i < xs.length → (Itz t K a b).yld i H x H' → Same H H' ∧ ∃ T y z, x = .ref T ∧ xs[i]? = some y ∧ ys[i]? = some z ∧ H' T = some (.tup [y, z]) := by
  intro i H sm
  refine ⟨fun hi => ⟨xs, ys, xs[i], ys[i]'(hl ▸ hi), sm.sq ha, sm.sq hb, by simp [hi], by simp [hl ▸ hi]⟩, fun hi => .inl ⟨xs, sm.sq ha, hi⟩, ?_⟩
  rintro x H' hi ⟨T, y, z, rfl, hT, rfl, h1, h2⟩
  exact ⟨same_new hT _, T, y, z, rfl, h1 _ (sm.sq ha), h2 _ (sm.sq hb), upd_same⟩
open PySem.W in
noncomputable def kindD : Dat → String
  | .none => "NoneType"
  | .bool _ => "bool"
  | .int _ => "int"
  | .str _ => "str"
  | .tuple _ => "tuple"
  | .list _ => "list"
  | .bytes _ => "bytes"
theorem Rep.kind {v : V} {d : PySem.W.Dat} (r : Rep K H v d) : KdOf K H v (kindD d) := by
  cases r with
  | non => exact .non
  | bl b => exact .bl b
  | int i => exact .int i
  | str x => exact .str x
  | tup h _ => exact .tup h
  | lst h _ => exact .lst h
end
theorem bo_all : bootBuiltins "all" = some (.builtin "all") := by decide +kernel
end L2
namespace L2
open PySem PySem.Spec PyProof.Rows
section
variable {X : Cx} {a : Expr} {ta : TE}
noncomputable def tTru (K : PySem.W.Frag) (ta : TE) : TT := fun σ H Q => ta σ H fun x H' => ∃ k, TruV K x H' k ∧ Q k H'
theorem pt_tru (ha : PE X a ta) (he : ∀ whole, isTrue a X.env whole = (do let v ← whole; standAt a.pos; holding [v] (truthy v)) := by intro _; rfl) : PT X a (tTru X.K ta) := pt_truth ha he
theorem mt_extendR : MtR X "list.extend" rExtend := mt_extend
theorem mt_popR : MtR X "list.pop" rPop := mt_pop
end
section
variable {K : PySem.W.Frag} {σ : St} {H : Hp} {Q : VK} {te ta : TE} {D : Ends}
theorem vc_tru {QB : Bool → Hp → Prop} (h : ta σ H fun x H' => ∃ k, TruV K x H' k ∧ QB k H') : tTru K ta σ H QB := h
theorem vc_truL {p : Addr} {xs : List V} {R : Bool → Prop} (l : SqL K H p xs) (h : R (!xs.isEmpty)) : ∃ k, TruV K (.ref p) H k ∧ R k := ⟨_, .inl ⟨xs, l, rfl⟩, h⟩
theorem vc_isN (h : ta σ H fun x H1 => Q (.bl (decide (x = .non))) H1) : tIsN ta σ H Q := h
theorem vc_notN (h : ta σ H fun x H1 => Q (.bl (!decide (x = .non))) H1) : tNotN ta σ H Q := h
theorem vc_extend {l b : Addr} {xs zs : List V} (h : H l = some (.lst xs)) (g : H b = some (.lst zs)) (n : xs.length + zs.length ≤ sizeLine) (q : Q .non (upd H l (.lst (xs ++ zs)))) : rExtend (.ref l) [.ref b] H Q := ⟨l, b, xs, zs, rfl, rfl, h, g, n, q⟩
theorem vc_bm0 {T : String} {r : V → List V → Hp → VK → Prop} {to : TE} (h : to σ H fun x H1 => tyV K T x H1 ∧ r x [] H1 Q) : tBM0 K T r to σ H Q := h
end
end L2
namespace L2
open PySem PySem.Spec PyProof.Rows PySem.W
section
variable {X : Cx}
end
end L2
namespace L2
open PySem PySem.Spec PyProof.Rows
theorem bo_sorted : bootBuiltins "sorted" = some (.builtin "sorted") := by decide +kernel
noncomputable def rSortS (K : PySem.W.Frag) : List V → Hp → VK → Prop := fun xs H Q => ∃ p ss, xs = [.ref p] ∧ SqL K H p (ss.map V.str) ∧ ss.length < 64 ∧
  ∀ (l : Addr) (ss' : List Str), H l = none → ss'.Perm ss → sortedS ss' = true → Q (.ref l) (upd H l (.lst (ss'.map V.str)))
theorem strs_of : ∀ {ss : List Str} {its : List Value}, Vals (ss.map V.str) its → StrsAre its ss
  | [], _, h => by cases h; exact .nil
  | x :: r, _, h => by
    cases h with
    | cons h1 h2 =>
      obtain ⟨t, rfl⟩ := h1
      exact .cons x t (strs_of h2)
theorem vals_of : ∀ {its : List Value} {ss : List Str}, StrsAre its ss → Vals (ss.map V.str) its
  | _, _, .nil => .nil
  | _, _, .cons y t r => .cons ⟨t, rfl⟩ (vals_of r)
theorem call_sortS {X : Cx} : CallR X (.builtin "sorted") (rSortS X.K) := by
  intro pins s σ H xs us Q I r h
  obtain ⟨p, ss, rfl, hq, h64, q⟩ := h
  obtain ⟨u, rfl, rx⟩ := vals1 r
  cases rx
  obtain ⟨its, r', pl, hz⟩ := I.list hq
  have hlen := r'.length
  rw [List.length_map] at hlen
  refine sorted_strs pl.isList (strs_of r') (by omega) fun out ss' a1 a2 a3 => ?_
  obtain ⟨e, he⟩ := sortedAll_at s.heap its out
  have hp := a2.length_eq
  exact ⟨.ref (s.heap.objs.size + 1), _, I.laid (t' := s.toks) (fun b o z => sortedAll_old z) (Nat.le_succ _) (show ObjOk X.prog X.w _ _ _ (.lst (ss'.map V.str)) from ⟨(by rw [List.length_map] at hz ⊢; omega), out.toList, e, vals_of a1, he⟩), rfl, q _ ss' (I.hok.fresh (Nat.le_succ _)) a2 a3⟩
theorem vc_sortS {K : PySem.W.Frag} {H : Hp} {Q : VK} {p : Addr} {ss : List Str} (l : SqL K H p (ss.map V.str)) (n : ss.length < 64) (q : ∀ (l : Addr) (ss' : List Str), H l = none → ss'.Perm ss → sortedS ss' = true → Q (.ref l) (upd H l (.lst (ss'.map V.str)))) : rSortS K [.ref p] H Q := ⟨p, ss, rfl, l, n, q⟩
section
variable {X : Cx} {Nc : List Str} {sc : Scope} {s₂ : Shared} {H₂ : Hp} {C : Addr} {fp : List Addr}
end
theorem str_lt_or (x y : Str) (h1 : ltCps x.cps.toList y.cps.toList = false) (h2 : ltCps y.cps.toList x.cps.toList = false) : x = y := by
  rw [ltCps_eq] at h1 h2
  have a := of_decide_eq_false h1
  have b := of_decide_eq_false h2
  have e : x.cps.toList = y.cps.toList := List.le_antisymm (List.not_lt.mp b) (List.not_lt.mp a)
  cases x; cases y
  congr 1
  exact Array.toList_inj.mp e
theorem perm_two {α : Type} {a b : α} {l : List α} (h : l.Perm [a, b]) : l = [a, b] ∨ l = [b, a] := by
  have hl := h.length_eq
  match l, hl with
  | [x, y], _ =>
    have hx := h.mem_iff (a := x) |>.mp List.mem_cons_self
    simp only [List.mem_cons, List.not_mem_nil, or_false] at hx
    rcases hx with rfl | rfl
    · have := (List.perm_cons x).mp h
      rw [List.perm_singleton.mp this]
      exact .inl rfl
    · have h' : ([x, y] : List α).Perm [x, a] := h.trans (List.Perm.swap x a [])
      have := (List.perm_cons x).mp h'
      rw [List.perm_singleton.mp this]
      exact .inr rfl
theorem two_sorted {a b c d : Str} {l m : List Str} (hl : l.Perm [a, b]) (hm : m.Perm [c, d]) (sl : sortedS l = true) (sm : sortedS m = true) : l = m ↔ (a = c ∧ b = d) ∨ (a = d ∧ b = c) := by
  have key : ∀ {x y : Str}, sortedS [x, y] = true → sortedS [y, x] = true → x = y := fun {x y} h1 h2 => by
    simp only [sortedS, risingS, Bool.and_true, Bool.not_eq_true'] at h1 h2
    exact str_lt_or x y h2 h1
  constructor
  · rintro rfl
    rcases perm_two hl with e | e <;> rcases perm_two hm with f | f <;> rw [e] at f <;> simp only [List.cons.injEq, and_true] at f
    · exact .inl f
    · exact .inr f
    · exact .inr ⟨f.2, f.1⟩
    · exact .inl ⟨f.2, f.1⟩
  · rintro (⟨rfl, rfl⟩ | ⟨rfl, rfl⟩)
    · rcases perm_two hl with rfl | rfl <;> rcases perm_two hm with rfl | rfl <;> first | rfl | (rw [key sl sm])
    · rcases perm_two hl with rfl | rfl <;> rcases perm_two hm with rfl | rfl <;> first | rfl | (rw [key sl sm])
end L2
namespace L2
open PySem
section
variable {t u : TS} {D : Ends} {σ : St} {H : Hp} {R : St → Hp → Prop}
end
end L2
namespace L2
open PySem PySem.Spec PyProof.Rows PySem.W
noncomputable def TreeOk {α : Type} (n : Nat) (R : α → Prop) : KasT α → Prop
  | .ret a => R a
  | .ask i j k => i < n ∧ j < n ∧ ∀ b, TreeOk n R (k b)
theorem TreeOk.bind {α β : Type} {n : Nat} {R : α → Prop} {S : β → Prop} {f : α → KasT β} (hf : ∀ a, R a → TreeOk n S (f a)) : ∀ {t : KasT α}, TreeOk n R t → TreeOk n S (t.bind f) := by
  intro t
  induction t with
  | ret a => intro h; exact hf a h
  | ask i j k ih => intro h; exact ⟨h.1, h.2.1, fun b => ih b (h.2.2 b)⟩
noncomputable def PermN (n : Nat) (p : Array Nat) : Prop := 0 < n ∧ p.toList.Perm (List.range n)
theorem PermN.lt {n : Nat} {p : Array Nat} (h : PermN n p) (k : Nat) : p.getD k 0 < n := by
  by_cases hk : k < p.size
  · have e : p.getD k 0 = p[k] := by simp [Array.getD, hk]
    rw [e]
    exact List.mem_range.mp (h.2.mem_iff.mp (by simp))
  · have e : p.getD k 0 = 0 := by simp [Array.getD, hk]
    rw [e]
    exact h.1
theorem PermN.rev {n : Nat} {p : Array Nat} (h : PermN n p) (i j : Nat) : PermN n (kas_rev p i j) := ⟨h.1, (Array.perm_iff_toList_perm.mp (mirror_perm p i j _)).trans h.2⟩
theorem PermN.bub {n : Nat} {p : Array Nat} (h : PermN n p) (i j : Nat) : PermN n (bubble p i j) := ⟨h.1, (Array.perm_iff_toList_perm.mp (bubble_perm p i j)).trans h.2⟩
theorem ok_asc {n : Nat} {p : Array Nat} (h : PermN n p) : ∀ (f m : Nat), TreeOk n (fun _ => True) (kas_asc p f m) := by
  intro f
  induction f with
  | zero => intro m; exact trivial
  | succ f ih =>
    intro m
    refine ⟨h.lt _, h.lt _, fun b => ?_⟩
    cases b
    · exact ih (m + 1)
    · exact trivial
theorem ok_desc {n : Nat} : ∀ (f : Nat) (p : Array Nat) (m q : Nat), PermN n p → TreeOk n (fun r => PermN n r.1) (kas_desc f p m q) := by
  intro f
  induction f with
  | zero => intro p m q h; exact h
  | succ f ih =>
    intro p m q h
    refine ⟨h.lt _, h.lt _, fun b => ?_⟩
    cases b
    · refine ⟨h.lt _, h.lt _, fun d => ?_⟩
      cases d
      · exact ih p _ _ h
      · exact h
    · show TreeOk n _ (if q > 0 then _ else _)
      split
      · exact ih _ _ _ (h.rev _ _)
      · exact ih _ _ _ h
theorem ok_tail3 {n : Nat} {p : Array Nat} (h : PermN n p) (m r : Nat) : TreeOk n (fun x => PermN n x.2) (kas_tail3 m r p) := by
  refine TreeOk.bind (R := fun _ => True) (fun k _ => ?_) (ok_asc (h.rev 0 m) _ _)
  exact h.rev 0 m
theorem ok_descPart {n : Nat} {p : Array Nat} (h : PermN n p) (m r : Nat) : TreeOk n (fun x => PermN n x.2) (kas_descPart m r p) := by
  refine (ok_desc _ p _ _ h).bind fun a ha => ?_
  split
  · exact ok_tail3 (ha.rev _ _) _ _
  · exact ok_tail3 ha _ _
theorem ok_count {n : Nat} {p : Array Nat} (h : PermN n p) (r : Nat) : TreeOk n (fun x => PermN n x.2) (kas_count r p) := by
  refine (ok_asc h _ _).bind fun a _ => ?_
  split
  · exact h
  · split
    · refine ⟨h.lt _, h.lt _, fun b => ?_⟩
      cases b
      · exact ok_descPart (h.rev _ _) _ _
      · exact h
    · exact ok_descPart h _ _
theorem ok_place {n : Nat} {p : Array Nat} (h : PermN n p) (k : Nat) : ∀ (f l r : Nat), TreeOk n (fun _ => True) (kas_place p k f l r) := by
  intro f
  induction f with
  | zero => intro l r; exact trivial
  | succ f ih =>
    intro l r
    show TreeOk n _ (if l ≥ r then _ else _)
    split
    · exact trivial
    · refine ⟨h.lt _, h.lt _, fun b => ?_⟩
      cases b
      · exact ih _ _
      · exact ih _ _
theorem ok_bin {n : Nat} : ∀ (f : Nat) (p : Array Nat) (k : Nat), PermN n p → TreeOk n (PermN n) (kas_bin f p k) := by
  intro f
  induction f with
  | zero => intro p k h; exact h
  | succ f ih => intro p k h; exact (ok_place h k _ _ _).bind fun l _ => ih _ _ (h.bub _ _)
theorem ok_sort {n : Nat} (h : 0 < n) : TreeOk n (PermN n) (kas_sort n) := by
  have h0 : PermN n (List.toArray (List.range n)) := ⟨h, .refl _⟩
  refine (ok_count h0 n).bind fun a ha => ?_
  split
  · exact ok_bin _ _ _ ha
  · exact ha
section
variable {prog : Program} {w : World} {A : Around} {E : Value → Shared → Prop} {s : Shared}
theorem perm_map_range {α : Type} (d : α) : ∀ (vs : List α), (List.range vs.length).map (fun i => vs.getD i d) = vs := by
  intro vs
  apply List.ext_getElem
  · simp
  · intro i h1 h2
    simp only [List.getElem_map, List.getElem_range]
    simp [List.getD_eq_getElem?_getD, h2]
end
theorem sortedHeap_old {h : Heap} {vs : List Value} {out : Array Value} {b : Addr} {o : Obj} (hb : h.get? b = some o) : (sortedHeap (h.push (seqObj "list" vs.toArray 0)) h.objs.size vs out).get? b = some o := by
  have nb : b ≠ h.objs.size := Nat.ne_of_lt (Heap.lt_size hb)
  unfold sortedHeap
  rw [Heap.get?_update_ne _ _ _ _ nb]
  exact Heap.get?_push_of_some _ (Heap.get?_push_of_some _ ((Heap.get?_update_ne _ _ _ _ nb).trans (Heap.get?_push_of_some _ hb)))
theorem sortedHeap_at (h : Heap) (vs : List Value) (out : Array Value) : ∃ e, (sortedHeap (h.push (seqObj "list" vs.toArray 0)) h.objs.size vs out).get? h.objs.size = some (seqObj "list" out e) := by
  have h0 : (h.push (seqObj "list" vs.toArray 0)).get? h.objs.size = some (seqObj "list" vs.toArray 0) := Heap.get?_push_size _ rfl
  have h1 := get?_update_seq h0 fun _ => (#[] : Array Value)
  have h2 := Heap.get?_push_of_some (seqObj "list" #[] 0) (Heap.get?_push_of_some (seqObj "tuple" vs.toArray 0) h1)
  exact ⟨_, get?_update_seq h2 fun _ => out⟩
theorem vals_refs {as : List Addr} : ∀ {us : List Value}, Vals (as.map V.ref) us → us = as.map Value.ref := by
  induction as with
  | nil => intro us h; cases h; rfl
  | cons a as ih =>
    intro us h
    cases h with
    | cons h1 h2 =>
      cases (show _ = Value.ref a from h1)
      rw [List.map_cons, ih h2]
theorem refs_vals : ∀ (as : List Addr), Vals (as.map V.ref) (as.map Value.ref) := by
  intro as
  induction as with
  | nil => exact .nil
  | cons a as ih => exact .cons rfl ih
theorem getD_refs (as : List Addr) (i : Nat) (h : i < as.length) : (as.map Value.ref).getD i Value.none = Value.ref (as.getD i 0) := by
  rw [List.getD_eq_getElem?_getD, List.getD_eq_getElem?_getD, List.getElem?_map, List.getElem?_eq_getElem h]
  rfl
theorem perm_refs {as : List Addr} {p : List Nat} (hp : p.Perm (List.range as.length)) : (p.map fun i => (as.map Value.ref).getD i Value.none) = (p.map fun i => as.getD i 0).map Value.ref := by
  rw [List.map_map]
  refine List.map_congr_left fun i hi => getD_refs as i ?_
  exact List.mem_range.mp (hp.mem_iff.mp hi)
theorem perm_as {as : List Addr} {p : List Nat} (hp : p.Perm (List.range as.length)) : (p.map fun i => as.getD i 0).Perm as := by
  have q := hp.map fun i => as.getD i 0
  rw [perm_map_range] at q
  exact q
end L2
namespace L2
open PySem PySem.Spec PyProof.Rows PySem.W
section
variable {X : Cx} {pins : List (Addr × Obj)} {σ : St} {H : Hp} {s : Shared}
end
section
variable {X : Cx}
end
section
variable {X : Cx} {pins : List (Addr × Obj)} {σ : St} {H : Hp} {s : Shared}
end
theorem vals_at {xs : List V} : ∀ {us : List Value}, xs.length = us.length → (∀ (i : Nat) (x : V) (u : Value), xs[i]? = some x → us[i]? = some u → RelV x u) → Vals xs us := by
  induction xs with
  | nil =>
    intro us hl _
    cases us with
    | nil => exact .nil
    | cons => cases hl
  | cons x xs ih =>
    intro us hl h
    cases us with
    | nil => cases hl
    | cons u us => exact .cons (h 0 x u rfl rfl) (ih (Nat.succ.inj hl) fun i y w h1 h2 => h (i + 1) y w (by rw [List.getElem?_cons_succ]; exact h1) (by rw [List.getElem?_cons_succ]; exact h2))
end L2
namespace L2
open PySem
theorem vc_disp1 {tk tv : TE} {σ : St} {H : Hp} {Q : VK} (h : ∀ p, H p = none → tk σ (upd H p (.dK [])) fun x H1 => tv σ H1 fun y H2 => H2 p = some (.dK []) ∧ ∃ kvs : List (Key × V), [(x, y)] = kvs.map (fun kv => (kV kv.1, kv.2)) ∧ kvs.length ≤ 15 ∧ Q (.ref p) (upd H2 p (.dK (mergeK [] kvs)))) : tDisp [(tk, tv)] σ H Q := h
end L2
namespace L2
open PySem PyProof.Rows PySem.W
section
variable (c : Nat → Nat → Bool)
noncomputable def evalT {α : Type} : KasT α → α
  | .ret a => a
  | .ask i j k => evalT (k (c i j))
theorem evalT_bind {α β : Type} (f : α → KasT β) (t : KasT α) : evalT c (t.bind f) = evalT c (f (evalT c t)) := by
  induction t with
  | ret a => rfl
  | ask i j k ih => exact ih (c i j)
structure OrdN (n : Nat) : Prop where
  tr : ∀ i j k, c i j = true → c j k = true → c i k = true
  tot : ∀ i j, i < n → j < n → i ≠ j → c i j = true ∨ c j i = true
  as : ∀ i j, c i j = true → c j i = false
noncomputable def Up (p : Array Nat) (k : Nat) : Prop := ∀ a b, a < b → b < k → c (p.getD a 0) (p.getD b 0) = true
noncomputable def Dn (p : Array Nat) (k : Nat) : Prop := ∀ a b, a < b → b < k → c (p.getD b 0) (p.getD a 0) = true
end
section
variable {c : Nat → Nat → Bool} {n : Nat}
theorem PermN.size {p : Array Nat} (h : PermN n p) : p.size = n := by
  have := h.2.length_eq
  rw [Array.length_toList, List.length_range] at this
  exact this
theorem PermN.ne {p : Array Nat} (h : PermN n p) {a b : Nat} (ha : a < b) (hb : b < n) : p.getD a 0 ≠ p.getD b 0 := by
  have sz := h.size
  have nd : p.toList.Nodup := h.2.nodup_iff.mpr List.nodup_range
  have ea : p.getD a 0 = p.toList[a]'(by rw [Array.length_toList]; omega) := by simp [Array.getD, show a < p.size by omega]
  have eb : p.getD b 0 = p.toList[b]'(by rw [Array.length_toList]; omega) := by simp [Array.getD, show b < p.size by omega]
  rw [ea, eb]
  exact List.pairwise_iff_getElem.mp nd a b _ _ ha
theorem PermN.tot {p : Array Nat} (O : OrdN c n) (h : PermN n p) {a b : Nat} (ha : a < b) (hb : b < n) (e : c (p.getD b 0) (p.getD a 0) = false) : c (p.getD a 0) (p.getD b 0) = true := by
  rcases O.tot _ _ (h.lt a) (h.lt b) (h.ne ha hb) with z | z
  · exact z
  · rw [e] at z; cases z
theorem Up.succ {p : Array Nat} (O : OrdN c n) {m : Nat} (u : Up c p m) (h : 1 ≤ m → c (p.getD (m - 1) 0) (p.getD m 0) = true) : Up c p (m + 1) := fun a b ab hb => by
  by_cases e : b = m
  · subst e
    have l := h (by omega)
    by_cases ea : a = b - 1
    · rw [ea]; exact l
    · exact O.tr _ _ _ (u a (b - 1) (by omega) (by omega)) l
  · exact u a b ab (by omega)
theorem Dn.succ {p : Array Nat} (O : OrdN c n) {m : Nat} (u : Dn c p m) (h : 1 ≤ m → c (p.getD m 0) (p.getD (m - 1) 0) = true) : Dn c p (m + 1) := fun a b ab hb => by
  by_cases e : b = m
  · subst e
    have l := h (by omega)
    by_cases ea : a = b - 1
    · rw [ea]; exact l
    · exact O.tr _ _ _ l (u a (b - 1) (by omega) (by omega))
  · exact u a b ab (by omega)
theorem ev_asc {p : Array Nat} (O : OrdN c n) (h : PermN n p) : ∀ (f m : Nat), 1 ≤ m → m + f ≤ n → Up c p m → m ≤ evalT c (kas_asc p f m) ∧ evalT c (kas_asc p f m) ≤ m + f ∧ Up c p (evalT c (kas_asc p f m)) ∧ (evalT c (kas_asc p f m) < m + f → c (p.getD (evalT c (kas_asc p f m)) 0) (p.getD (evalT c (kas_asc p f m) - 1) 0) = true) := by
  intro f
  induction f with
  | zero => intro m _ _ u; exact ⟨Nat.le_refl _, Nat.le_refl _, u, fun z => absurd z (Nat.lt_irrefl _)⟩
  | succ f ih =>
    intro m m1 mf u
    show m ≤ evalT c (if c (p.getD m 0) (p.getD (m - 1) 0) = true then KasT.ret m else kas_asc p f (m + 1)) ∧ evalT c (if c (p.getD m 0) (p.getD (m - 1) 0) = true then KasT.ret m else kas_asc p f (m + 1)) ≤ m + (f + 1) ∧ Up c p (evalT c (if c (p.getD m 0) (p.getD (m - 1) 0) = true then KasT.ret m else kas_asc p f (m + 1))) ∧ _
    by_cases e : c (p.getD m 0) (p.getD (m - 1) 0) = true
    · rw [if_pos e]
      have r : evalT c (kas_asc p (f + 1) m) = m := by
        show evalT c (if c (p.getD m 0) (p.getD (m - 1) 0) = true then KasT.ret m else kas_asc p f (m + 1)) = m
        rw [if_pos e]
        rfl
      refine ⟨Nat.le_refl _, ?_, u, fun _ => ?_⟩
      · show m ≤ m + (f + 1); omega
      · rw [r]; exact e
    · rw [if_neg e]
      have r : evalT c (kas_asc p (f + 1) m) = evalT c (kas_asc p f (m + 1)) := by
        show evalT c (if c (p.getD m 0) (p.getD (m - 1) 0) = true then KasT.ret m else kas_asc p f (m + 1)) = _
        rw [if_neg e]
      have t := h.tot O (a := m - 1) (b := m) (by omega) (by omega) (Bool.eq_false_iff.mpr e)
      obtain ⟨x1, x2, x3, x4⟩ := ih (m + 1) (by omega) (by omega) (u.succ O fun _ => t)
      refine ⟨by omega, by omega, x3, fun z => ?_⟩
      rw [r] at z ⊢
      exact x4 (by omega)
theorem ev_desc {p : Array Nat} (O : OrdN c n) (h : PermN n p) : ∀ (f m : Nat), 1 ≤ m → m + f ≤ n → Dn c p m → ∃ r, evalT c (kas_desc f p m 0) = (p, r, 0) ∧ m ≤ r ∧ r ≤ m + f ∧ Dn c p r := by
  intro f
  induction f with
  | zero => intro m _ _ u; exact ⟨m, rfl, Nat.le_refl _, Nat.le_refl _, u⟩
  | succ f ih =>
    intro m m1 mf u
    by_cases e : c (p.getD m 0) (p.getD (m - 1) 0) = true
    · obtain ⟨r, x1, x2, x3, x4⟩ := ih (m + 1) (by omega) (by omega) (u.succ O fun _ => e)
      refine ⟨r, ?_, by omega, by omega, x4⟩
      rw [← x1]
      show evalT c (if c (p.getD m 0) (p.getD (m - 1) 0) = true then _ else _) = _
      rw [if_pos e, if_neg (Nat.lt_irrefl 0)]
    · have t := h.tot O (a := m - 1) (b := m) (by omega) (by omega) (Bool.eq_false_iff.mpr e)
      refine ⟨m, ?_, Nat.le_refl _, by omega, u⟩
      show evalT c (if c (p.getD m 0) (p.getD (m - 1) 0) = true then _ else KasT.ask (p.getD (m - 1) 0) (p.getD m 0) fun d => if d = true then KasT.ret (p, m, 0) else kas_desc f p (m + 1) (0 + 1)) = _
      rw [if_neg e]
      show evalT c (if c (p.getD (m - 1) 0) (p.getD m 0) = true then KasT.ret (p, m, 0) else _) = _
      rw [if_pos t]
      rfl
theorem rev_at {p : Array Nat} {m k : Nat} (hm : m ≤ p.size) (hk : k < m) : (kas_rev p 0 m).getD k 0 = p.getD (m - 1 - k) 0 := by
  have e := getElem?_mirror_all (xs := p) (i := 0) (j := m) hm k
  rw [if_pos ⟨Nat.zero_le _, hk⟩] at e
  unfold kas_rev
  rw [Array.getD_eq_getD_getElem?, Array.getD_eq_getD_getElem?, e, Nat.zero_add]
theorem Dn.rev {p : Array Nat} {m : Nat} (hm : m ≤ p.size) (d : Dn c p m) : Up c (kas_rev p 0 m) m := fun a b ab hb => by
  rw [rev_at hm (by omega), rev_at hm hb]
  exact d (m - 1 - b) (m - 1 - a) (by omega) (by omega)
theorem ev_count {p : Array Nat} (O : OrdN c n) (h : PermN n p) (n2 : 2 ≤ n) : ∃ m q, evalT c (kas_count n p) = (m, q) ∧ PermN n q ∧ 1 ≤ m ∧ m ≤ n ∧ Up c q m := by
  have u1 : Up c p 1 := fun a b ab hb => by omega
  obtain ⟨x1, x2, x3, x4⟩ := ev_asc O h (n - 1) 1 (Nat.le_refl _) (by omega) u1
  unfold kas_count
  rw [evalT_bind]
  generalize evalT c (kas_asc p (n - 1) 1) = m at *
  by_cases e1 : (m == n) = true
  · rw [if_pos e1]
    exact ⟨m, p, rfl, h, x1, by omega, x3⟩
  · rw [if_neg e1]
    have mn : m ≠ n := fun z => e1 (by rw [z]; exact beq_self_eq_true n)
    by_cases e2 : m > 1
    · rw [if_pos e2]
      have l := x3 0 (m - 1) (by omega) (by omega)
      refine ⟨m, p, ?_, h, x1, by omega, x3⟩
      show evalT c (if c (p.getD 0 0) (p.getD (m - 1) 0) = true then KasT.ret (m, p) else _) = _
      rw [if_pos l]
      rfl
    · rw [if_neg e2]
      have m1 : m = 1 := by omega
      subst m1
      have l := x4 (by omega)
      have d2 : Dn c p 2 := fun a b ab hb => by
        have : a = 0 := by omega
        have : b = 1 := by omega
        subst_vars
        exact l
      obtain ⟨r, y1, y2, y3, y4⟩ := ev_desc O h (n - (1 + 1)) (1 + 1) (by omega) (by omega) d2
      unfold kas_descPart
      rw [evalT_bind, y1]
      show ∃ m q, evalT c (if (0 : Nat) > 0 then _ else kas_tail3 r n p) = (m, q) ∧ _
      rw [if_neg (Nat.lt_irrefl 0)]
      unfold kas_tail3
      rw [evalT_bind]
      have sz := h.size
      obtain ⟨z1, z2, z3, _⟩ := ev_asc O (h.rev 0 r) (n - r) r (by omega) (by omega) (y4.rev (by omega))
      exact ⟨_, _, rfl, h.rev 0 r, by omega, by omega, z3⟩
theorem ev_place {p : Array Nat} (O : OrdN c n) (h : PermN n p) {k : Nat} (hk : k < n) : ∀ (f l r : Nat), l ≤ r → r ≤ k → r - l ≤ f → (∀ a, a < l → c (p.getD a 0) (p.getD k 0) = true) → (∀ a, r ≤ a → a < k → c (p.getD k 0) (p.getD a 0) = true) → Up c p k →
    evalT c (kas_place p k f l r) ≤ k ∧ (∀ a, a < evalT c (kas_place p k f l r) → c (p.getD a 0) (p.getD k 0) = true) ∧ ∀ a, evalT c (kas_place p k f l r) ≤ a → a < k → c (p.getD k 0) (p.getD a 0) = true := by
  intro f
  induction f with
  | zero =>
    intro l r lr rk rl h1 h2 _
    have : l = r := by omega
    subst this
    exact ⟨by show l ≤ k; omega, h1, h2⟩
  | succ f ih =>
    intro l r lr rk rl h1 h2 u
    by_cases e : l ≥ r
    · have er : evalT c (kas_place p k (f + 1) l r) = l := by
        show evalT c (if l ≥ r then KasT.ret l else _) = l
        rw [if_pos e]
        rfl
      rw [er]
      have : l = r := by omega
      subst this
      exact ⟨by omega, h1, h2⟩
    · by_cases g : c (p.getD k 0) (p.getD ((l + r) / 2) 0) = true
      · have er : evalT c (kas_place p k (f + 1) l r) = evalT c (kas_place p k f l ((l + r) / 2)) := by
          show evalT c (if l ≥ r then KasT.ret l else _) = _
          rw [if_neg e]
          show evalT c (if c (p.getD k 0) (p.getD ((l + r) / 2) 0) = true then _ else _) = _
          rw [if_pos g]
        rw [er]
        refine ih l ((l + r) / 2) (by omega) (by omega) (by omega) h1 (fun a h3 h4 => ?_) u
        by_cases ea : a = (l + r) / 2
        · rw [ea]; exact g
        · exact O.tr _ _ _ g (u _ _ (by omega) h4)
      · have er : evalT c (kas_place p k (f + 1) l r) = evalT c (kas_place p k f ((l + r) / 2 + 1) r) := by
          show evalT c (if l ≥ r then KasT.ret l else _) = _
          rw [if_neg e]
          show evalT c (if c (p.getD k 0) (p.getD ((l + r) / 2) 0) = true then _ else _) = _
          rw [if_neg g]
        rw [er]
        have t := h.tot O (a := (l + r) / 2) (b := k) (by omega) hk (Bool.eq_false_iff.mpr g)
        refine ih ((l + r) / 2 + 1) r (by omega) rk (by omega) (fun a h3 => ?_) h2 u
        by_cases ea : a = (l + r) / 2
        · rw [ea]; exact t
        · exact O.tr _ _ _ (u a ((l + r) / 2) (by omega) (by omega)) t
theorem bub_at {p : Array Nat} {k l j : Nat} (hk : k < p.size) (hl : l ≤ k) : (bubble p k (k - l)).getD j 0 = if j = l then p.getD k 0 else if l < j ∧ j ≤ k then p.getD (j - 1) 0 else p.getD j 0 := by
  have e := getElem?_bubble (xs := p) hk (k - l) (by omega) j
  rw [show k - (k - l) = l by omega] at e
  by_cases a1 : j = l
  · rw [if_pos a1] at e ⊢
    rw [Array.getD_eq_getD_getElem?, Array.getD_eq_getD_getElem?, e]
  · rw [if_neg a1] at e ⊢
    by_cases a2 : l < j ∧ j ≤ k
    · rw [if_pos a2] at e ⊢
      rw [Array.getD_eq_getD_getElem?, Array.getD_eq_getD_getElem?, e]
    · rw [if_neg a2] at e ⊢
      rw [Array.getD_eq_getD_getElem?, Array.getD_eq_getD_getElem?, e]
theorem ev_bin (O : OrdN c n) : ∀ (f : Nat) (p : Array Nat) (k : Nat), PermN n p → k + f = n → Up c p k → PermN n (evalT c (kas_bin f p k)) ∧ Up c (evalT c (kas_bin f p k)) n := by
  intro f
  induction f with
  | zero => intro p k h e u; exact ⟨h, by rw [← show k = n by omega]; exact u⟩
  | succ f ih =>
    intro p k h e u
    have sz := h.size
    have hk : k < n := by omega
    obtain ⟨q1, q2, q3⟩ := ev_place O h hk k 0 k (Nat.zero_le _) (Nat.le_refl _) (by omega) (fun a z => absurd z (Nat.not_lt_zero _)) (fun a h1 h2 => by omega) u
    have er : evalT c (kas_bin (f + 1) p k) = evalT c (kas_bin f (bubble p k (k - evalT c (kas_place p k k 0 k))) (k + 1)) := by
      show evalT c (KasT.bind _ _) = _
      rw [evalT_bind]
    rw [er]
    generalize evalT c (kas_place p k k 0 k) = l at *
    refine ih _ (k + 1) (h.bub _ _) (by omega) fun a b ab hb => ?_
    rw [bub_at (by omega) q1, bub_at (by omega) q1]
    by_cases a1 : a = l
    · rw [if_pos a1, if_neg (by omega), if_pos (by omega)]
      exact q3 (b - 1) (by omega) (by omega)
    · rw [if_neg a1]
      by_cases b1 : b = l
      · rw [if_neg (by omega), if_pos b1]
        exact q2 a (by omega)
      · rw [if_neg b1]
        by_cases a2 : l < a ∧ a ≤ k
        · rw [if_pos a2, if_pos (by omega)]
          exact u (a - 1) (b - 1) (by omega) (by omega)
        · rw [if_neg a2]
          by_cases b2 : l < b ∧ b ≤ k
          · rw [if_pos b2]
            exact u a (b - 1) (by omega) (by omega)
          · rw [if_neg b2]
            exact u a b ab (by omega)
theorem ev_sort (O : OrdN c n) (n2 : 2 ≤ n) : PermN n (evalT c (kas_sort n)) ∧ Up c (evalT c (kas_sort n)) n := by
  have h0 : PermN n (List.toArray (List.range n)) := ⟨by omega, .refl _⟩
  obtain ⟨m, q, e, hq, m1, mn, u⟩ := ev_count O h0 n2
  unfold kas_sort
  rw [evalT_bind, e]
  show PermN n (evalT c (if m < n then _ else _)) ∧ _
  by_cases z : m < n
  · have em : max m 1 = m := by omega
    rw [if_pos z]
    show PermN n (evalT c (kas_bin (n - max m 1) q (max m 1))) ∧ _
    rw [em]
    exact ev_bin O (n - m) q m hq (by omega) u
  · rw [if_neg z]
    have : m = n := by omega
    subst this
    exact ⟨hq, u⟩
end
end L2
namespace L2
open PySem PySem.Spec PyProof.Rows PySem.W
theorem TreeOk.at {α : Type} {c : Nat → Nat → Bool} {n : Nat} {R : α → Prop} {cmp : Nat → Nat → (Bool → Shared → Prop) → Shared → Prop} {Q : α → Shared → Prop} {s : Shared}
    (hc : ∀ i j C, i < n → j < n → C (c i j) s → cmp i j C s) : ∀ {t : KasT α}, TreeOk n R t → Q (evalT c t) s → t.kasWp cmp Q s := by
  intro t
  induction t with
  | ret a => intro _ q; exact q
  | ask i j k ih => intro h q; exact hc i j _ h.1 h.2.1 (ih _ (h.2.2 _) q)
section
variable {prog : Program} {w : World} {A : Around} {E : Value → Shared → Prop} {s : Shared}
end
end L2
namespace L2
open PySem PySem.Spec PyProof.Rows PySem.W
section
variable {prog : Program} {w : World} {A : Around} {E : Value → Shared → Prop} {s : Shared}
end
end L2
namespace L2
open PySem PySem.Spec PySem.W
section
variable {P : Program} {w : World} {A : Around} {E : Value → Shared → Prop} {s : Shared} {a : Addr} {B : Bool}
end
end L2
namespace L2
open PySem PySem.Spec PySem.W
section
variable {P : Program} {w : World} {A : Around} {B : Bool}
variable {E : Value → Shared → Prop} {s : Shared}
end
end L2
namespace L2
open PySem PySem.Spec PySem.W
section
variable {P : Program} {w : World} {A : Around} {E : Value → Shared → Prop} {s : Shared}
end
end L2
namespace L2
open PySem PySem.Spec PySem.W
section
end
section
variable {M : Model} {A : Around} {E : Value → Shared → Prop} {s : Shared}
end
end L2
namespace L2
open PySem PySem.Spec PySem.W
section
variable {P : Program} {w : World} {A : Around} {E : Value → Shared → Prop} {s : Shared} {I S T : Addr} {es : Array (Int × Value)} {ep : Nat} {t : SetTable} {Q : Option Value → Shared → Prop}
end
end L2
namespace L2
open PySem PySem.Spec PySem.W
section
end
section
variable {P : Program} {w : World} {A : Around} {S T I : Addr} {es : Array (Int × Value)} {ep : Nat} {t : SetTable}
end
end L2
namespace L2
open PySem PySem.Spec PySem.W
section
variable {P : Program} {w : World} {A A' : Around} {E : Value → Shared → Prop} {s : Shared} {S : Addr} {es : Array (Int × Value)} {ep : Nat} {t : SetTable}
end
end L2
namespace L2
open PySem PySem.Spec PyProof.Rows PySem.W
section
variable {P : Program} {w : World} {A : Around} {E : Value → Shared → Prop} {s : Shared} {S : Addr} {es : Array (Int × Value)} {ep : Nat} {t : SetTable}
end
end L2
namespace L2
open PySem PySem.Spec PyProof.Rows PySem.W
section
variable {X : Cx} {pins : List (Addr × Obj)} {σ : St} {H : Hp} {s : Shared}
end
end L2
namespace L2
open PySem PySem.Spec PyProof.Rows PySem.W
end L2
namespace L2
open PySem PySem.Spec PySem.W
section
variable {P : Program} {w : World} {A : Around} {E : Value → Shared → Prop} {s : Shared}
end
end L2
namespace L2
open PySem PySem.Spec PyProof.Rows PySem.W
section
variable {X : Cx} {pins : List (Addr × Obj)} {σ : St} {H : Hp} {s : Shared} {d a : Addr} {k : NKey} {xs : List (NKey × Addr × V)}
end
section
variable {X : Cx}
end
end L2
namespace L2
open PySem PySem.Spec PyProof.Rows PySem.W
section
variable {X : Cx}
end
end L2
namespace L2
open PySem PySem.Spec PyProof.Rows
end L2
namespace L2
open PySem PySem.Spec PyProof.Rows PySem.W
section
variable {P : Program} {w : World} {A : Around} {E : Value → Shared → Prop} {s : Shared}
end
section
variable {X : Cx}
noncomputable def rRange1 : List V → Hp → VK → Prop := fun xs H Q => ∃ n : Int, xs = [.int n] ∧ ∀ p, H p = none → Q (.ref p) (upd H p (.rng 0 n))
theorem call_rangeV : CallR X (.type "range") rRange1 := by
  intro pins s σ H xs us Q I r h
  obtain ⟨n, rfl, q⟩ := h
  obtain ⟨u, rfl, rx⟩ := vals1 r
  obtain ⟨t, rfl⟩ := (show ∃ t, u = Value.int n t from rx)
  refine call_range_1 ⟨.ref s.heap.objs.size, _, I.laid (o := .rng 0 n) (fun b o e => Heap.get?_push_of_some _ e) (Nat.le_refl _) ⟨_, _, _, Heap.get?_push_size _ rfl⟩, rfl, q _ (I.hok.fresh (Nat.le_refl _))⟩
theorem vc_rangeV {H : Hp} {Q : VK} {n : Int} (q : ∀ p, H p = none → Q (.ref p) (upd H p (.rng 0 n))) : rRange1 [.int n] H Q := ⟨n, rfl, q⟩
end
end L2
namespace L2
open PySem PySem.Spec PyProof.Rows PySem.W
section
variable {X : Cx}
noncomputable def rListR : List V → Hp → VK → Prop := fun xs H Q => ∃ (p : Addr) (n : Nat), xs = [.ref p] ∧ H p = some (.rng 0 n) ∧ n ≤ 1000 ∧ ∀ l, H l = none → Q (.ref l) (upd H l (.lst ((List.range n).map fun (i : Nat) => V.int i)))
theorem call_listRg (hcalm : X.calm = true) : CallR X (.type "list") rListR := by
  intro pins s σ H xs us Q I r h
  obtain ⟨p, n, rfl, hp, hn, q⟩ := h
  obtain ⟨u, rfl, rx⟩ := vals1 r
  cases (show u = Value.ref p from rx)
  obtain ⟨t, u, v, g⟩ := (show ObjOk X.prog X.w H s.heap p (.rng 0 n) from I.hok p _ hp)
  have sz : Builtin.Range.rangeSize 0 (n : Int) 1 = n := by rw [rangeSize_one]; split <;> omega
  refine call_list_range (I.ok.hd hcalm) (show IsRange s.heap p 0 n 1 t u v from g) (small_one (by decide) (by decide) (by omega) (by omega)) sz (Nat.le_trans hn (by decide)) fun h' tk acc c hk hS it => ?_
  refine ⟨.ref s.heap.objs.size, _, I.laid (t' := tk) hk (Nat.le_refl _) (show ObjOk X.prog X.w _ _ _ (.lst ((List.range n).map fun (i : Nat) => V.int i)) from ⟨by rw [List.length_map, List.length_range, sizeLine_eq]; omega, acc.toList, c, ?_, by rw [hS]⟩), rfl, q _ (I.hok.fresh (Nat.le_refl _))⟩
  refine vals_at (by rw [List.length_map, List.length_range, Array.length_toList, it.1]) fun i x u h1 h2 => ?_
  rw [Array.getElem?_toList] at h2
  obtain ⟨t, rfl⟩ := it.2 i u h2
  rw [List.getElem?_map] at h1
  obtain ⟨j, hj, rfl⟩ := Option.map_eq_some_iff.mp h1
  obtain ⟨lt, e⟩ := List.getElem?_eq_some_iff.mp hj
  rw [List.getElem_range] at e
  subst e
  exact ⟨t, by rw [Int.zero_add, Int.mul_one]⟩
theorem vc_listRg {H : Hp} {Q : VK} {p : Addr} {n : Nat} (h : H p = some (.rng 0 n)) (hn : n ≤ 1000) (q : ∀ l, H l = none → Q (.ref l) (upd H l (.lst ((List.range n).map fun (i : Nat) => V.int i)))) : rListR [.ref p] H Q := ⟨p, n, rfl, h, hn, q⟩
noncomputable def isN (k : Int) : Value → Bool
  | .int a _ => a == k
  | _ => false
theorem vals_isN {k : Int} {ns : List Int} : ∀ {its : List Value}, Vals (ns.map V.int) its → its.length = ns.length ∧ (∀ y ∈ its, ∃ a t, y = .int a t) ∧ ∀ (i : Nat) (u : Value), its[i]? = some u → isN k u = (ns[i]? == some k) := by
  induction ns with
  | nil => intro its h; cases h; exact ⟨rfl, fun _ z => (nomatch z), fun i u z => by simp at z⟩
  | cons n ns ih =>
    intro its h
    cases h with
    | cons h1 h2 =>
      obtain ⟨t, rfl⟩ := h1
      obtain ⟨a, b, c⟩ := ih h2
      refine ⟨by rw [List.length_cons, List.length_cons, a], fun y hy => ?_, fun i u hu => ?_⟩
      · rcases List.mem_cons.mp hy with rfl | z
        · exact ⟨n, t, rfl⟩
        · exact b y z
      · cases i with
        | zero => cases hu; show (n == k) = (some n == some k); rfl
        | succ i => exact c i u hu
theorem map_eraseI {α β : Type} (f : α → β) : ∀ (l : List α) (i : Nat), (l.eraseIdx i).map f = (l.map f).eraseIdx i
  | [], _ => rfl
  | _ :: _, 0 => rfl
  | a :: l, i + 1 => by
    show f a :: (l.eraseIdx i).map f = f a :: (l.map f).eraseIdx i
    rw [map_eraseI f l i]
noncomputable def rRemoveI : V → List V → Hp → VK → Prop := fun x vs H Q => ∃ (l : Addr) (ns : List Int) (k : Int), x = .ref l ∧ vs = [.int k] ∧ H l = some (.lst (ns.map V.int)) ∧ k ∈ ns ∧ Q .non (upd H l (.lst ((ns.erase k).map V.int)))
theorem mt_removeI : MtR X "list.remove" rRemoveI := by
  intro pins s σ H x vs v us Q I rx rv h
  obtain ⟨l, ns, k, rfl, rfl, hH, hk, q⟩ := h
  cases rx
  obtain ⟨u, rfl, ru⟩ := vals1 rv
  obtain ⟨t, rfl⟩ := ru
  obtain ⟨z, its, n, r, hl, e⟩ := I.lstM hH
  obtain ⟨il, ii, ia⟩ := vals_isN (k := k) r
  have hj : ns.idxOf k < ns.length := List.idxOf_lt_length_of_mem hk
  have hat : ns[ns.idxOf k]? = some k := by rw [List.getElem?_eq_getElem hj, List.getElem_idxOf]
  refine call_meets F.slot_list_remove ⟨_, e, rfl⟩ F.entry_list_remove (F.args_list_remove_2 _ _)
    (MeetsSeq.list_remove l its.toArray n (.int k t) (isN k) (fun y hy => ?_) (ns.idxOf k) (by rw [List.size_toArray, il]; exact hj) ?_ (fun m hm hmj => ?_) (by rw [List.size_toArray]; omega)) ⟨e, ?_⟩
  · obtain ⟨a, t', rfl⟩ := ii y (by simpa using hy)
    exact MeetsSeq.EqGives.int a k t' t
  · have hm : ns.idxOf k < its.length := by omega
    have := ia (ns.idxOf k) its[ns.idxOf k] (List.getElem?_eq_getElem hm)
    rw [hat] at this
    simpa using this
  · have hm' : m < its.length := by simpa using hm
    have := ia m its[m] (List.getElem?_eq_getElem hm')
    have ne : ¬ ns[m]? = some k := fun z => by
      obtain ⟨lt, ez⟩ := List.getElem?_eq_some_iff.mp z
      have nz := List.not_of_lt_findIdx (p := (· == k)) (xs := ns) hmj
      rw [show (ns[m] == k) = true by simpa using ez] at nz
      cases nz
    rw [show (ns[m]? == some k) = false by simpa using ne] at this
    simpa using this
  · have ee : (ns.erase k).map V.int = (ns.map V.int).eraseIdx (ns.idxOf k) := by
      rw [List.erase_eq_eraseIdx_of_idxOf rfl, map_eraseI]
    rw [ee] at q
    refine ⟨.non, _, I.lset (its' := its.eraseIdx (ns.idxOf k)) hH e ?_ (r.eraseIdx _) ?_, rfl, q⟩
    · show its.toArray.eraseIdxIfInBounds _ = (its.eraseIdx _).toArray
      rw [List.eraseIdxIfInBounds_toArray]
    · have := len_erase (ns.map V.int) (ns.idxOf k)
      omega
theorem vc_remove {H : Hp} {Q : VK} {l : Addr} {ns : List Int} {k : Int} (h : H l = some (.lst (ns.map V.int))) (hk : k ∈ ns) (q : Q .non (upd H l (.lst ((ns.erase k).map V.int)))) : rRemoveI (.ref l) [.int k] H Q := ⟨l, ns, k, rfl, rfl, h, hk, q⟩
theorem vc_pop {H : Hp} {Q : VK} {l : Addr} {xs : List V} {y : V} (h : H l = some (.lst (xs ++ [y]))) (q : Q y (upd H l (.lst xs))) : rPop (.ref l) [] H Q :=
  ⟨l, xs ++ [y], y, rfl, rfl, h, by simp, by rw [List.dropLast_concat]; exact q⟩
end
noncomputable def ltP (p q : Int × Int) : Prop := p.1 < q.1 ∨ (p.1 = q.1 ∧ p.2 < q.2)
instance (p q : Int × Int) : Decidable (ltP p q) := inferInstanceAs (Decidable (_ ∨ _))
theorem ltP_trans {p q r : Int × Int} (h : ltP p q) (h' : ltP q r) : ltP p r := by unfold ltP at *; omega
theorem ltP_asym {p q : Int × Int} (h : ltP p q) : ¬ ltP q p := by unfold ltP at *; omega
theorem ltP_tot {p q : Int × Int} (n : p ≠ q) : ltP p q ∨ ltP q p := by
  obtain ⟨a, b⟩ := p
  obtain ⟨c, d⟩ := q
  have : ¬ (a = c ∧ b = d) := fun ⟨x, y⟩ => n (by rw [x, y])
  unfold ltP
  dsimp only
  omega
section
variable {prog : Program} {w : World} {A : Around} {E : Value → Shared → Prop} {s : Shared}
theorem tuple_lt_pairs {a b : Addr} {oa ob : Obj} {p1 p2 q1 q2 : Int} {t1 t2 u1 u2 : Tok} {n m : Nat} {P : PySem.Fin → Shared → Prop} (ha : s.heap.get? a = some oa) (da : oa.data = .seq #[.int p1 t1, .int p2 t2] n) (hb : s.heap.get? b = some ob) (cb : ob.cls = .type "tuple") (db : ob.data = .seq #[.int q1 u1, .int q2 u2] m)
    (h : P (.done (.ret (.bool (decide (ltP (p1, p2) (q1, q2)))))) s) : wpAny (model prog w) A (Builtin.«tuple.__lt__» ⟨[.ref a, .ref b], []⟩) P E s := by
  show wpAny _ _ (isInstance (.ref b) (.type "tuple") >>= _) _ _ s
  refine wpAny_bind (wpAny_isInstance ⟨_, hb, cb⟩ isSubtype_tuple_tuple ?_)
  simp only [Bool.not_true, Bool.false_eq_true, if_false]
  refine wpAny_bind (wpAny_tupleItemsOf ha da ?_)
  refine wpAny_bind (wpAny_tupleItemsOf hb db ?_)
  refine wpAny_bind ?_
  show wpAny _ _ (forIn [(Value.int p1 t1, Value.int q1 u1), (Value.int p2 t2, Value.int q2 u2)] _ _) _ _ _
  rw [List.forIn_cons]
  refine wpAny_bind (wpAny_bind (wpAny_eqBool_int ?_))
  by_cases e1 : p1 = q1
  · rw [show (p1 == q1) = true by simpa using e1]
    simp only [Bool.not_true, Bool.false_eq_true, if_false]
    refine wpAny_pure ?_
    dsimp only
    rw [List.forIn_cons]
    refine wpAny_bind (wpAny_bind (wpAny_eqBool_int ?_))
    by_cases e2 : p2 = q2
    · rw [show (p2 == q2) = true by simpa using e2]
      simp only [Bool.not_true, Bool.false_eq_true, if_false]
      refine wpAny_pure ?_
      dsimp only
      rw [List.forIn_nil]
      refine wpAny_pure ?_
      rw [decide_eq_false (show ¬ ltP (p1, p2) (q1, q2) by unfold ltP; dsimp only; omega)] at h
      exact wpAny_pure h
    · rw [show (p2 == q2) = false by simpa using e2]
      simp only [Bool.not_false, if_true]
      rw [show decide (ltP (p1, p2) (q1, q2)) = decide (p2 < q2) from decide_eq_decide.mpr (by unfold ltP; dsimp only; omega)] at h
      exact wpAny_bind (wpAny_rule (wpAny_bind (show wpAny _ _ (compareOp .Lt (.int p2 t2) (.int q2 u2)) _ _ _ from lt_int (wpAny_bind (wpAny_pure (wpAny_pure (wpAny_pure (wpAny_pure h))))))))
  · rw [show (p1 == q1) = false by simpa using e1]
    simp only [Bool.not_false, if_true]
    rw [show decide (ltP (p1, p2) (q1, q2)) = decide (p1 < q1) from decide_eq_decide.mpr (by unfold ltP; dsimp only; omega)] at h
    exact wpAny_bind (wpAny_rule (wpAny_bind (show wpAny _ _ (compareOp .Lt (.int p1 t1) (.int q1 u1)) _ _ _ from lt_int (wpAny_bind (wpAny_pure (wpAny_pure (wpAny_pure (wpAny_pure h))))))))
end
section
variable {X : Cx}
noncomputable def rLtP (K : PySem.W.Frag) : R2 := fun x y H Q => ∃ (a b : Addr) (p q : Int × Int), x = .ref a ∧ y = .ref b ∧ SqT K H a [.int p.1, .int p.2] ∧ SqT K H b [.int q.1, .int q.2] ∧ Q (.bl (decide (ltP p q))) H
theorem op_ltP (hu : X.A.units + 64 < cLine) : OpR X (compareOp .Lt) (rLtP X.K) := by
  intro pins s σ H x y v u Q I rx ry h
  obtain ⟨a, b, p, q', rfl, rfl, ha, hb, q⟩ := h
  cases (show v = Value.ref a from rx)
  cases (show u = Value.ref b from ry)
  obtain ⟨i1, r1, ⟨o1, e1, c1, k1, d1⟩, _⟩ := I.tuple ha
  obtain ⟨i2, r2, ⟨o2, e2, c2, k2, d2⟩, _⟩ := I.tuple hb
  cases r1 with
  | cons x1 r1 =>
    cases r1 with
    | cons x2 r1 =>
      cases r1
      cases r2 with
      | cons y1 r2 =>
        cases r2 with
        | cons y2 r2 =>
          cases r2
          obtain ⟨t1, rfl⟩ := x1
          obtain ⟨t2, rfl⟩ := x2
          obtain ⟨u1, rfl⟩ := y1
          obtain ⟨u2, rfl⟩ := y2
          show wpAny _ _ (richCompare .Lt _ _) _ _ _
          exact wpAny_richCompare_same_room (op := .Lt) ⟨_, e1, c1⟩ ⟨_, e2, c2⟩ F.slot_tuple_lt (wpAny_call_entry F.slot_tuple_lt ⟨_, e1, c1⟩ F.entry_tuple_lt (tuple_lt_pairs (by simpa using e1) d1 (by simpa using e2) c2 d2 ⟨_, rfl, (fun e => nomatch e), fin_bl I q rfl⟩) (F.args_tuple_lt_2 _ _)) (by omega)
theorem vc_ltP {K : PySem.W.Frag} {H : Hp} {Q : VK} {a b : Addr} {p q : Int × Int} (ha : SqT K H a [.int p.1, .int p.2]) (hb : SqT K H b [.int q.1, .int q.2]) (h : Q (.bl (decide (ltP p q))) H) : rLtP K (.ref a) (.ref b) H Q := ⟨a, b, p, q, rfl, rfl, ha, hb, h⟩
noncomputable def tChain3 (r r' r'' : R2) (ta tb tc td : TE) : TE := fun σ H Q => ta σ H fun x H1 => tb σ H1 fun y H2 => r x y H2 fun z H3 => ∃ k, z = .bl k ∧
  (if k = true then tc σ H3 fun w' H4 => r' y w' H4 fun z2 H5 => ∃ k2, z2 = .bl k2 ∧ (if k2 = true then td σ H5 fun w2 H6 => r'' w' w2 H6 Q else Q (.bl false) H5) else Q (.bl false) H3)
theorem pt_chain3 {op op' op'' : CmpOp} {a b c d : Expr} {ta tb tc td : TE} {pos : Pos} {r r' r'' : R2} (ho : OpR X (compareOp op) r) (ho' : OpR X (compareOp op') r') (ho'' : OpR X (compareOp op'') r'') (ha : PE X a ta) (hb : PE X b tb) (hc : PE X c tc) (hd : PE X d td)
    (hm : lastMarks [op, op', op''] [b, c, d] = false := by with_unfolding_all rfl) : PT X (.Compare a [op, op', op''] [b, c, d] pos) (tTest (tChain3 r r' r'' ta tb tc td)) := by
  intro pins s σ H Q I h
  refine isTrue_chain (thn (ha pins s σ H _ I h) fun v s1 hq9 => EP.out hq9 fun x H1 I1 r1 q1 => test_link (thn (hb pins s1 σ H1 _ I1 q1) fun u s2 hq9 => EP.out hq9 fun y H2 I2 r2 q2 =>
    thn (ho pins s2 σ H2 x y v u _ I2 r1 r2 q2) fun d s3 hq8 => ?_)) hm
  obtain ⟨z, H3, I3, r3, k, e, q3⟩ := hq8
  subst e
  cases r3
  refine wpAny_truthy_bool ?_
  cases k with
  | false =>
    obtain ⟨k', e', q'⟩ := q3
    cases e'
    exact ite_ff ⟨H3, I3, q'⟩
  | true =>
    refine ite_tt (test_link (thn (hc pins s3 σ H3 _ I3 q3) fun w' s4 hq9 => EP.out hq9 fun z' H4 I4 r4 q4 => thn (ho' pins s4 σ H4 y z' u w' _ I4 r2 r4 q4) fun d' s5 hq8 => ?_))
    obtain ⟨z2, H5, I5, r5, k2, e2, q5⟩ := hq8
    subst e2
    cases r5
    refine wpAny_truthy_bool ?_
    cases k2 with
    | false =>
      obtain ⟨k', e', q'⟩ := q5
      cases e'
      exact ite_ff ⟨H5, I5, q'⟩
    | true =>
      refine ite_tt (test_last (thn (hd pins s5 σ H5 _ I5 q5) fun w2 s6 hq9 => EP.out hq9 fun z3 H6 I6 r6 q6 => thn (ho'' pins s6 σ H6 z' z3 w' w2 _ I6 r4 r6 q6) fun d'' s7 hq8 => ?_))
      obtain ⟨z4, H7, I7, r7, k3, e3, q7⟩ := hq8
      subst e3
      cases r7
      exact wpAny_truthy_bool ⟨H7, I7, q7⟩
theorem vc_chain3 {r r' r'' : R2} {ta tb tc td : TE} {σ : St} {H : Hp} {Q : VK} (h : ta σ H fun x H1 => tb σ H1 fun y H2 => r x y H2 fun z H3 => ∃ k, z = .bl k ∧
  (if k = true then tc σ H3 fun w' H4 => r' y w' H4 fun z2 H5 => ∃ k2, z2 = .bl k2 ∧ (if k2 = true then td σ H5 fun w2 H6 => r'' w' w2 H6 Q else Q (.bl false) H5) else Q (.bl false) H3)) : tChain3 r r' r'' ta tb tc td σ H Q := h
theorem vc_dget {td ty : TE} {σ : St} {H : Hp} {Q : VK} (h : td σ H fun x H1 => ty σ H1 fun y H2 => ∃ a v, x = .ref a ∧ DGet H2 a y (some v) ∧ Q v H2) : tDGet td ty σ H Q := h
end
end L2
namespace L2
open PySem PySem.Spec PyProof.Rows PySem.W
section
variable {prog : Program} {w : World} {A : Around} {E : Value → Shared → Prop} {s : Shared}
inductive TupsI (hp : Heap) : List Value → List (Int × Int) → Prop
  | nil : TupsI hp [] []
  | cons {a : Addr} {o : Obj} {p : Int × Int} {t u : Tok} {n : Nat} {vs : List Value} {ps : List (Int × Int)} (g : hp.get? a = some o) (c : o.cls = .type "tuple") (d : o.data = .seq #[.int p.1 t, .int p.2 u] n) (r : TupsI hp vs ps) : TupsI hp (.ref a :: vs) (p :: ps)
theorem TupsI.at {hp : Heap} {vs : List Value} {ps : List (Int × Int)} (r : TupsI hp vs ps) : ∀ {i : Nat} {y : Int × Int}, ps[i]? = some y → ∃ a o t u n, vs[i]? = some (.ref a) ∧ hp.get? a = some o ∧ o.cls = .type "tuple" ∧ o.data = .seq #[.int y.1 t, .int y.2 u] n := by
  induction r with
  | nil => intro i y h; simp at h
  | cons g c d r ih =>
    intro i y h
    cases i with
    | zero =>
      rw [List.getElem?_cons_zero] at h
      cases h
      exact ⟨_, _, _, _, _, rfl, g, c, d⟩
    | succ i =>
      rw [List.getElem?_cons_succ] at h
      obtain ⟨a', o', t', v', n', z⟩ := ih h
      exact ⟨a', o', t', v', n', by rw [List.getElem?_cons_succ]; exact z.1, z.2⟩
theorem TupsI.len {hp : Heap} {vs : List Value} {ps : List (Int × Int)} (r : TupsI hp vs ps) : vs.length = ps.length := by
  induction r with
  | nil => rfl
  | cons g c d r ih => rw [List.length_cons, List.length_cons, ih]
theorem TupsI.mono {hp hp' : Heap} {vs : List Value} {ps : List (Int × Int)} (r : TupsI hp vs ps) (k : ∀ b o, o.cls = .type "tuple" → hp.get? b = some o → hp'.get? b = some o) : TupsI hp' vs ps := by
  induction r with
  | nil => exact .nil
  | cons g c d r ih => exact .cons (k _ _ c g) c d ih
theorem TupsI.firsts {hp : Heap} {vs : List Value} {ps : List (Int × Int)} (r : TupsI hp vs ps) : ∃ fs, KatTups hp vs fs ∧ fs.length = ps.length ∧ ∀ v ∈ fs, ∃ i t, v = Value.int i t := by
  induction r with
  | nil => exact ⟨[], .nil, rfl, fun _ h => (nomatch h)⟩
  | @cons a o x t v n vs ss g c d r ih =>
    obtain ⟨fs, z, y, q⟩ := ih
    refine ⟨.int x.1 t :: fs, .cons g c d rfl z, by rw [List.length_cons, List.length_cons, y], fun v hv => ?_⟩
    rcases List.mem_cons.mp hv with rfl | h
    · exact ⟨_, _, rfl⟩
    · exact q v h
noncomputable def cP (ps : List (Int × Int)) (i j : Nat) : Bool := decide (ltP (ps.getD i (0, 0)) (ps.getD j (0, 0)))
theorem nd_atP {ps : List (Int × Int)} (nd : ps.Nodup) {i j : Nat} {hi : i < ps.length} {hj : j < ps.length} (e : ps[i] = ps[j]) : i = j := by
  rcases Nat.lt_trichotomy i j with h | h | h
  · exact absurd e (List.pairwise_iff_getElem.mp nd i j hi hj h)
  · exact h
  · exact absurd e.symm (List.pairwise_iff_getElem.mp nd j i hj hi h)
theorem getD_P {ps : List (Int × Int)} {i : Nat} (h : i < ps.length) : ps.getD i (0, 0) = ps[i] := by
  rw [List.getD_eq_getElem?_getD, List.getElem?_eq_getElem h]
  rfl
theorem ordP {ps : List (Int × Int)} (nd : ps.Nodup) : OrdN (cP ps) ps.length where
  tr := fun i j k a b => decide_eq_true (ltP_trans (of_decide_eq_true a) (of_decide_eq_true b))
  tot := fun i j hi hj ne => by
    unfold cP
    rw [getD_P hi, getD_P hj]
    rcases ltP_tot (p := ps[i]) (q := ps[j]) (fun z => ne (nd_atP nd z)) with h | h
    · exact .inl (decide_eq_true h)
    · exact .inr (decide_eq_true h)
  as := fun i j a => decide_eq_false (ltP_asym (of_decide_eq_true a))
theorem lt_tupsI {vs : List Value} {ps : List (Int × Int)} (r : TupsI s.heap vs ps) {i j : Nat} (hi : i < vs.length) (hj : j < vs.length) {C : Bool → Shared → Prop} (h : C (cP ps i j) s) :
    wpAny (model prog w) A (keyLt' (tuples' true) (vs.getD i Value.none) (vs.getD j Value.none)) C E s := by
  have hl := r.len
  obtain ⟨a, o, t, v, n, e1, g1, c1, d1⟩ := r.at (i := i) (y := ps[i]'(by omega)) (List.getElem?_eq_getElem (by omega))
  obtain ⟨b, p, u, y, m, e2, g2, c2, d2⟩ := r.at (i := j) (y := ps[j]'(by omega)) (List.getElem?_eq_getElem (by omega))
  unfold cP at h
  rw [getD_P (by omega), getD_P (by omega)] at h
  rw [List.getD_eq_getElem?_getD, List.getD_eq_getElem?_getD, e1, e2]
  generalize ps[i]'(by omega) = pi at *
  generalize ps[j]'(by omega) = pj at *
  refine kat_lt g1 d1 g2 d2 (kat_cons (wpAny_eqBool_int ?_))
  by_cases f1 : pi.1 = pj.1
  · rw [show (pi.1 == pj.1) = true by simpa using f1]
    refine kat_yes (kat_cons (wpAny_eqBool_int ?_))
    by_cases f2 : pi.2 = pj.2
    · rw [show (pi.2 == pj.2) = true by simpa using f2]
      refine kat_yes (kat_nil ?_)
      rw [decide_eq_false (show ¬ ltP pi pj by unfold ltP; omega)] at h
      exact h
    · rw [show (pi.2 == pj.2) = false by simpa using f2]
      rw [show decide (ltP pi pj) = decide (pi.2 < pj.2) from decide_eq_decide.mpr (by unfold ltP; omega)] at h
      exact kat_no (kat_one _ _ (lt_int h))
  · rw [show (pi.1 == pj.1) = false by simpa using f1]
    rw [show decide (ltP pi pj) = decide (pi.1 < pj.1) from decide_eq_decide.mpr (by unfold ltP; omega)] at h
    exact kat_no (oneLt_int h)
noncomputable def RiseP (ps : List (Int × Int)) : Prop := ps.Pairwise ltP
theorem rise_ofP {ps : List (Int × Int)} {p : Array Nat} (h : PermN ps.length p) (u : Up (cP ps) p ps.length) : RiseP (p.toList.map fun i => ps.getD i (0, 0)) := by
  unfold RiseP
  rw [List.pairwise_map, List.pairwise_iff_getElem]
  intro a b ha hb ab
  have sz := h.size
  rw [Array.length_toList] at ha hb
  have q := of_decide_eq_true (u a b ab (by omega))
  have ea : p.getD a 0 = p.toList[a]'(by rw [Array.length_toList]; exact ha) := by simp [Array.getD, ha]
  have eb : p.getD b 0 = p.toList[b]'(by rw [Array.length_toList]; exact hb) := by simp [Array.getD, hb]
  rw [ea, eb] at q
  exact q
theorem tups_lsortI {a : Addr} {vs : List Value} {ps : List (Int × Int)} {n : Nat} {P : PySem.Fin → Shared → Prop} (ho : s.heap.get? a = some (seqObj "list" vs.toArray n)) (r : TupsI s.heap vs ps) (nd : ps.Nodup) (z : vs.length < 64)
    (h : ∀ p : List Nat, p.Perm (List.range vs.length) → RiseP (p.map fun i => ps.getD i (0, 0)) → P (.done (.ret .none)) { s with heap := sortedHeap s.heap a vs (p.map fun i => vs.getD i Value.none).toArray }) : wpAny (model prog w) A (Builtin.«list.sort» ⟨[.ref a], []⟩) P E s := by
  have la := Heap.lt_size ho
  have o1 := get?_update_seq ho fun _ => (#[] : Array Value)
  have keep : ∀ b o, b ≠ a → s.heap.get? b = some o → (((s.heap.update a (Obj.mapSeq fun _ => #[])).push (seqObj "tuple" vs.toArray 0)).push (seqObj "list" #[] 0)).get? b = some o := fun b o nb e =>
    Heap.get?_push_of_some _ (Heap.get?_push_of_some _ ((Heap.get?_update_ne _ _ _ _ nb).trans e))
  have o2 := Heap.get?_push_of_some (seqObj "list" #[] 0) (Heap.get?_push_of_some (seqObj "tuple" vs.toArray 0) o1)
  have r2 := r.mono (hp' := ((s.heap.update a (Obj.mapSeq fun _ => #[])).push (seqObj "tuple" vs.toArray 0)).push (seqObj "list" #[] 0)) fun b o c e => keep b o (fun q => by
    rw [q, ho] at e
    cases e
    exact absurd (show Value.type "list" = Value.type "tuple" from c) (by decide)) e
  have vl : vs.toArray.size = vs.length := by simp
  rw [list_sort_plain]
  refine wpAny_bind (listItems_at ho rfl (wpAny_bind (listUpdate_at ho rfl ?_ (by rw [vl, sizeLine_eq]; omega) (Nat.zero_le _))))
  refine wpAny_bind (seqEpoch_at o1 rfl (wpAny_bind (wpAny_newTuple ?_ (by show vs.length ≤ _; rw [sizeLine_eq]; omega))))
  refine wpAny_bind (wpAny_newList (wpAny_holding ?_) (Nat.zero_le _))
  dsimp only
  by_cases h2 : vs.length < 2
  · rw [if_pos (by rw [vl]; exact h2), if_pos (by rw [vl]; exact h2)]
    refine wpAny_bind (wpAny_pure ?_)
    rw [StateT.run_pure]
    refine wpAny_bind (wpAny_pure (wpAny_bind (seqEpoch_at o2 rfl (wpAny_bind (listUpdate_at o2 rfl ?_ (Nat.zero_le _) (by
      show ((vs.toArray.zip vs.toArray).map (·.2)).size ≤ _
      rw [Array.size_map, Array.size_zip, vl, sizeLine_eq]
      omega))))))
    have e : (arrOf (SortSt.mk' general' (vs.toArray.zip vs.toArray) #[] 7 none)).map (·.2) = vs.toArray := by
      show (vs.toArray.zip vs.toArray).map Prod.snd = vs.toArray
      apply Array.toList_inj.mp
      rw [Array.toList_map, Array.toList_zip]
      exact List.map_snd_zip (Nat.le_refl _)
    rw [e]
    simp only [bne_self_eq_false, Bool.false_eq_true, if_false]
    have q := h (List.range vs.length) (.refl _) (by
      unfold RiseP
      rw [List.pairwise_map]
      refine List.pairwise_iff_getElem.mpr fun a b ha hb ab => ?_
      rw [List.length_range] at ha hb
      omega)
    rw [perm_map_range] at q
    exact wpAny_pure q
  · rw [if_neg (by rw [vl]; exact h2), if_neg (by rw [vl]; exact h2)]
    obtain ⟨fs, kt, fl, st⟩ := r2.firsts
    have hl := r.len
    refine wpAny_bind (kat_kind (T := .type "int") kt (by omega) (fun v hv => by
      obtain ⟨x, t, rfl⟩ := st v hv
      exact .now) (by decide) ?_)
    refine wpAny_bind (wpAny_mono (kat_run (A := A) (E := E) (ks := vs) (vs := vs) (κ := tuples' (Value.type "int" != Value.type "tuple")) (G := fun p s' => (PermN vs.length p ∧ Up (cP ps) p vs.length) ∧ s' = _) (Q := fun st' s' => (∃ p, (PermN vs.length p ∧ Up (cP ps) p vs.length) ∧ p.size = vs.length ∧ arrOf st' = p.map (kas_item (vs.toArray.zip vs.toArray)) ∧ failedOf st' = none) ∧ s' = _) rfl (by omega) z
      (fun p st' s' a1 a2 a3 a4 => ⟨⟨p, a4.1, a1, a2, a3⟩, a4.2⟩)
      ((ok_sort (by omega)).at (c := cP ps) (fun i j C hi hj hC => lt_tupsI r2 hi hj hC) ⟨by have := ev_sort (ordP nd) (by omega); rw [← hl] at this; exact this, rfl⟩)) ?_ fun _ _ e => e)
    rintro ⟨⟨⟩, st'⟩ s' ⟨⟨p, hp, hz, har, hf⟩, rfl⟩
    dsimp only
    have ho' := kat_snds rfl har
    rw [ho']
    refine wpAny_bind (seqEpoch_at o2 rfl (wpAny_bind (listUpdate_at o2 rfl ?_ (Nat.zero_le _) (by rw [List.size_toArray, List.length_map, Array.length_toList, hz, sizeLine_eq]; omega))))
    rw [hf]
    simp only [bne_self_eq_false, Bool.false_eq_true, if_false]
    exact wpAny_pure (h _ hp.1.2 (by have := rise_ofP (ps := ps) (p := p) (by rw [← hl]; exact hp.1) (by rw [← hl]; exact hp.2); exact this))
theorem tups_sortedI {x : Value} {vs : List Value} {ps : List (Int × Int)} {Q : Value → Shared → Prop} (nd : ps.Nodup) (z : vs.length < 64)
    (hc : ∀ R : List Value → Shared → Prop, (∀ (h' : Heap) (tk : Nat), (∀ b o, s.heap.get? b = some o → h'.get? b = some o) → TupsI h' vs ps → (∀ (p : List Nat), p.Perm (List.range vs.length) → RiseP (p.map fun i => ps.getD i (0, 0)) → Q (.ref h'.objs.size) { s with heap := sortedHeap (h'.push (seqObj "list" vs.toArray 0)) h'.objs.size vs (p.map fun i => vs.getD i Value.none).toArray, toks := tk }) → R vs { s with heap := h', toks := tk }) → wpAny (model prog w) A.in1 (collect x) R E s) :
    wpAny (model prog w) A (call (.builtin "sorted") [x]) Q E s := by
  refine Calls.call_function_entry kind_sorted plain_sorted entry_sorted (args_sorted1 _) ?_
  unfold Builtin.«sorted»
  refine wpAny_bind (m := checkCount "sorted" 1 1 _) (wpAny_pure (wpAny_bind (hc _ fun h' tk hk r q => ?_)))
  refine wpAny_bind (wpAny_newList ?_ (by rw [sizeLine_eq]; omega))
  have ho : (h'.push (seqObj "list" vs.toArray 0)).get? h'.objs.size = some (seqObj "list" vs.toArray 0) := Heap.get?_push_size _ rfl
  refine wpAny_bind (wpAny_holding (wpAny_call_entry slot_list_sort ⟨_, ho, rfl⟩ entry_list_sort (tups_lsortI (s := { s with heap := h'.push (seqObj "list" vs.toArray 0), toks := tk }) ho (r.mono fun b o _ e => Heap.get?_push_of_some _ e) nd z fun p hp hu => ⟨_, rfl, ?_⟩) (args_list_sort _)))
  exact wpAny_pure ⟨_, rfl, q p hp hu⟩
end
inductive TupP (K : PySem.W.Frag) (H : Hp) : List Addr → List (Int × Int) → Prop
  | nil : TupP K H [] []
  | cons {a : Addr} {p : Int × Int} {as : List Addr} {ps : List (Int × Int)} (g : SqT K H a [.int p.1, .int p.2]) (r : TupP K H as ps) : TupP K H (a :: as) (p :: ps)
theorem TupP.len {K : PySem.W.Frag} {H : Hp} {as : List Addr} {ps : List (Int × Int)} (r : TupP K H as ps) : as.length = ps.length := by
  induction r with
  | nil => rfl
  | cons g r ih => rw [List.length_cons, List.length_cons, ih]
theorem TupP.same {K : PySem.W.Frag} {H H' : Hp} (e : Same H H') {as : List Addr} {ps : List (Int × Int)} (r : TupP K H as ps) : TupP K H' as ps := by
  induction r with
  | nil => exact .nil
  | cons g r ih => exact .cons (e.tup g) ih
theorem TupP.snoc {K : PySem.W.Frag} {H : Hp} {as : List Addr} {ps : List (Int × Int)} {a : Addr} {p : Int × Int} (r : TupP K H as ps) (g : SqT K H a [.int p.1, .int p.2]) : TupP K H (as ++ [a]) (ps ++ [p]) := by
  induction r with
  | nil => exact .cons g .nil
  | cons h r ih => exact .cons h ih
theorem TupP.at {K : PySem.W.Frag} {H : Hp} {as : List Addr} {ps : List (Int × Int)} (r : TupP K H as ps) : ∀ {i : Nat} {a : Addr}, as[i]? = some a → ∃ p, ps[i]? = some p ∧ SqT K H a [.int p.1, .int p.2] := by
  induction r with
  | nil => intro i a h; simp at h
  | cons g r ih =>
    intro i a h
    cases i with
    | zero => cases h; exact ⟨_, rfl, g⟩
    | succ i => exact ih h
theorem TupP.perm {K : PySem.W.Frag} {H : Hp} {as : List Addr} {ps : List (Int × Int)} (r : TupP K H as ps) {p : List Nat} (hp : p.Perm (List.range as.length)) : TupP K H (p.map fun i => as.getD i 0) (p.map fun i => ps.getD i (0, 0)) := by
  have m : ∀ i ∈ p, i < as.length := fun i hi => List.mem_range.mp (hp.mem_iff.mp hi)
  clear hp
  induction p with
  | nil => exact .nil
  | cons i p ih =>
    have hi := m i List.mem_cons_self
    obtain ⟨q, hq, g⟩ := r.at (List.getElem?_eq_getElem hi)
    have e1 : as.getD i 0 = as[i] := by rw [List.getD_eq_getElem?_getD, List.getElem?_eq_getElem hi]; rfl
    have e2 : ps.getD i (0, 0) = q := by rw [List.getD_eq_getElem?_getD, hq]; rfl
    refine .cons (p := ps.getD i (0, 0)) ?_ (ih fun j hj => m j (List.mem_cons_of_mem _ hj))
    show SqT K H (as.getD i 0) [.int (ps.getD i (0, 0)).1, .int (ps.getD i (0, 0)).2]
    rw [e1, e2]
    exact g
theorem TupP.tups {X : Cx} {pins : List (Addr × Obj)} {σ : St} {H : Hp} {s : Shared} (I : Inv X pins σ H s) {as : List Addr} {ps : List (Int × Int)} (r : TupP X.K H as ps) : TupsI s.heap (as.map Value.ref) ps := by
  induction r with
  | nil => exact .nil
  | cons g r ih =>
    obtain ⟨its, rv, ⟨o, e1, e2, k, e3⟩, _⟩ := I.tuple g
    cases rv with
    | cons h1 h2 =>
      cases h2 with
      | cons h2 h3 =>
        cases h3
        obtain ⟨t, rfl⟩ := h1
        obtain ⟨u, rfl⟩ := h2
        exact .cons e1 e2 e3 ih
noncomputable def rSortII (K : PySem.W.Frag) : List V → Hp → VK → Prop := fun xs H Q => ∃ (l : Addr) (as : List Addr) (ps : List (Int × Int)), xs = [.ref l] ∧ SqL K H l (as.map V.ref) ∧ TupP K H as ps ∧ ps.Nodup ∧ ps.length < 64 ∧
  ∀ (l' : Addr) (as' : List Addr) (ps' : List (Int × Int)), H l' = none → ps'.Perm ps → TupP K H as' ps' → RiseP ps' → Q (.ref l') (upd H l' (.lst (as'.map V.ref)))
theorem call_sortII {X : Cx} : CallR X (.builtin "sorted") (rSortII X.K) := by
  intro pins s σ H xs us Q I r h
  obtain ⟨l, as, ps, rfl, hl, ta, nd, hz, q⟩ := h
  obtain ⟨u, rfl, rx⟩ := vals1 r
  cases (show u = Value.ref l from rx)
  obtain ⟨its, rv, pl, hz2⟩ := I.list hl
  cases vals_refs rv
  have tl := ta.len
  have n64 : (as.map Value.ref).length < 64 := by rw [List.length_map]; omega
  refine tups_sortedI nd n64 fun R hR => ?_
  have r2 := ta.tups I
  refine collect_list pl.isList ?_ (by rw [sizeLine_eq]; omega)
  refine hR _ s.toks (fun b o e => ?_) (r2.mono fun b o _ e => ?_) fun p hp hu => ?_
  · rw [Heap.get?_update_ne _ _ _ _ (Nat.ne_of_lt (Heap.lt_size e))]
    exact Heap.get?_push_of_some _ e
  · rw [Heap.get?_update_ne _ _ _ _ (Nat.ne_of_lt (Heap.lt_size e))]
    exact Heap.get?_push_of_some _ e
  rw [List.length_map] at hp
  rw [perm_refs hp]
  generalize hh : (s.heap.push (seqObj "list" #[] 0)).update s.heap.objs.size (Obj.mapSeq (· ++ (as.map Value.ref).toArray)) = h1
  have hs : h1.objs.size = s.heap.objs.size + 1 := by rw [← hh, Heap.size_update, size_push']
  have k1 : ∀ b o, s.heap.get? b = some o → h1.get? b = some o := fun b o e => by
    rw [← hh, Heap.get?_update_ne _ _ _ _ (Nat.ne_of_lt (Heap.lt_size e))]
    exact Heap.get?_push_of_some _ e
  obtain ⟨e, he⟩ := sortedHeap_at h1 (as.map Value.ref) ((p.map fun i => as.getD i 0).map Value.ref).toArray
  have pl2 := (perm_as hp).length_eq
  have le : s.heap.objs.size ≤ h1.objs.size := by omega
  have pp : (p.map fun i => ps.getD i (0, 0)).Perm ps := by
    have q := hp.map fun i => ps.getD i (0, 0)
    rw [tl, perm_map_range] at q
    exact q
  exact ⟨.ref h1.objs.size, _, I.laid (t' := s.toks) (fun b o z => sortedHeap_old (k1 b o z)) le (show ObjOk X.prog X.w _ _ _ (.lst ((p.map fun i => as.getD i 0).map V.ref)) from ⟨by rw [List.length_map, pl2, sizeLine_eq]; omega, _, e, refs_vals _, he⟩), rfl, q _ _ _ (I.hok.fresh le) pp (ta.perm hp) hu⟩
theorem vc_sortII {K : PySem.W.Frag} {H : Hp} {Q : VK} {l : Addr} {as : List Addr} {ps : List (Int × Int)} (a : SqL K H l (as.map V.ref)) (b : TupP K H as ps) (c : ps.Nodup) (d : ps.length < 64) (q : ∀ (l' : Addr) (as' : List Addr) (ps' : List (Int × Int)), H l' = none → ps'.Perm ps → TupP K H as' ps' → RiseP ps' → Q (.ref l') (upd H l' (.lst (as'.map V.ref)))) : rSortII K [.ref l] H Q := ⟨l, as, ps, rfl, a, b, c, d, q⟩
end L2
open L2 in
local macro_rules | `(tactic| walk_at "hl") => `(tactic| first
  | assumption
  | exact upd_same
  | (refine upd_keep (by assumption) ?_; walk_at "hl")
  | (refine (by assumption : Same _ _) _ _ ?_; walk_at "hl"))
local macro_rules | `(tactic| walk_at "side") => `(tactic| first
  | assumption | decide | omega | exact ⟨by decide, by decide⟩ | exact ⟨by decide, by decide, by decide⟩ | exact .inl ⟨by decide, by decide⟩ | exact .inr ⟨by decide, by decide⟩ | exact .inl ⟨by omega, by omega⟩ | exact .inr ⟨by omega, by omega⟩ | exact ⟨L2.up4 (by assumption), L2.up4 (by assumption)⟩)
local macro_rules | `(tactic| walk_at "vce") => `(tactic| first
  | ((with_reducible refine L2.vc_var (x := ?vcx) ?vce ?_); (case vce => rfl))
  | (with_reducible refine L2.vc_asg ?_)
  | (with_reducible refine L2.vc_name ?_)
  | (with_reducible refine L2.vc_c ?_)
  | (with_reducible refine L2.vc_op ?_)
  | (with_reducible refine L2.vc_rI0 ?_)
  | ((with_reducible refine L2.vc_rI ?vcside ?_); (case vcside => walk_at "side"))
  | (with_reducible refine L2.vc_cons ?_)
  | (with_reducible refine L2.vc_nil ?_)
  | (with_reducible refine L2.vc_tup ?_)
  | (with_reducible refine L2.vc_lst ?_)
  | (with_reducible refine L2.vc_call ?_)
  | (with_reducible refine L2.vc_cb ?_)
  | (with_reducible refine L2.vc_un ?_)
  | (with_reducible refine L2.vc_rU ?_)
  | ((with_reducible refine L2.vc_eq ?vce ?_); (case vce => rfl))
  | ((with_reducible refine L2.vc_ne ?vce ?_); (case vce => rfl))
  | (with_reducible refine L2.vc_if ?_)
  | (with_reducible refine L2.vc_test ?_)
  | (with_reducible refine L2.vc_tB ?_)
  | (with_reducible refine L2.vc_ex ?_)
  | (with_reducible refine L2.vc_abs ?_)
  | (with_reducible refine L2.vc_gsub ?_)
  | (with_reducible refine L2.vc_i1 ?_)
  | (with_reducible refine L2.vc_i2 ?_)
  | (with_reducible refine L2.vc_i3 ?_)
  | (with_reducible refine L2.vc_i4 ?_)
  | (with_reducible refine L2.vc_isII ?_)
  | (with_reducible refine L2.vc_isIB ?_)
  | (with_reducible refine L2.vc_isBB ?_)
  | (with_reducible refine L2.vc_ilist ?_)
  | (with_reducible refine L2.vc_ienum ?_)
  | (with_reducible refine L2.vc_istr ?_)
  | (with_reducible refine L2.vc_sfld ?_)
  | (with_reducible refine L2.vc_tfld ?_)
  | (with_reducible refine L2.vc_make ?_)
  | (with_reducible refine L2.vc_gcons ?_)
  | (with_reducible refine L2.vc_gnil ?_)
  | (with_reducible refine L2.vc_sl ?_)
  | (with_reducible refine L2.vc_nopart ?_)
  | (with_reducible refine L2.vc_part ?_)
  | (with_reducible refine L2.vc_exI ?_)
  | (with_reducible refine L2.vc_comp ?_)
  | (with_reducible refine L2.vc_rng1 ?_)
  | (with_reducible refine L2.vc_rng2 ?_)
  | (with_reducible refine L2.vc_for ?_)
  | (with_reducible refine L2.vc_bm ?_)
  | (with_reducible refine L2.vc_max ?_)
  | (with_reducible refine L2.vc_min ?_)
  | (with_reducible refine L2.vc_not ?_)
  | (with_reducible refine L2.vc_and ?_)
  | (with_reducible refine L2.vc_or ?_)
  | (with_reducible refine L2.vc_notV ?_)
  | (with_reducible refine L2.vc_andV ?_)
  | (with_reducible refine L2.vc_orV ?_)
  | (with_reducible refine L2.vc_ifE ?_)
  | (with_reducible refine L2.vc_ret ?_)
  | (with_reducible refine L2.vc_drop ?_)
  | (with_reducible refine L2.vc_next ?_)
  | ((with_reducible refine L2.vc_ixT (xs := ?vcs) (x := ?vcx) ?vch ?vce ?_); (case vch => first | assumption | exact L2.SqT.of (by walk_at "hl") | exact L2.Same.tup (by assumption) (by assumption)); (case vce => rfl))
  | ((with_reducible refine L2.vc_ixL (xs := ?vcs) (x := ?vcx) ?vch ?vce ?_); (case vch => first | assumption | exact L2.SqL.of (by walk_at "hl") | exact L2.Same.seq (by assumption) (by assumption)); (case vce => rfl)))
local macro_rules | `(tactic| walk_at "vcs") => `(tactic| repeat walk_at "vce")
local macro_rules | `(tactic| walk_at "vc") => `(tactic| repeat (first | walk_at "vce" | (with_reducible refine L2.vc_seq ?_)))
seal L2.PE L2.PT L2.PW L2.PA L2.PS L2.PSs L2.OpR L2.UnR L2.CallR L2.IxR L2.SlR L2.MtR L2.PG L2.PGs L2.PI L2.PO L2.PTs L2.Passes
local macro_rules | `(tactic| walk_at "vce") => `(tactic| first
  | (with_reducible refine L2.vc_iitems ?_)
  | (with_reducible refine L2.vc_dnew ?_)
  | (with_reducible refine L2.vc_dput ?_)
  | (with_reducible refine L2.vc_din ?_)
  | (with_reducible refine L2.vc_dnotin ?_)
  | (with_reducible refine L2.vc_dget2 ?_))
local macro_rules | `(tactic| walk_at "vce") => `(tactic| first
  | ((with_reducible refine L2.vc_aug (x := ?vcx) ?vce ?_); (case vce => rfl))
  | (with_reducible refine L2.vc_ipI ?_)
  | (with_reducible refine L2.vc_isN ?_)
  | (with_reducible refine L2.vc_notN ?_)
  | (with_reducible refine L2.vc_tru ?_)
  | (with_reducible refine L2.vc_irev ?_)
  | (with_reducible refine L2.vc_izip ?_)
  | (with_reducible refine L2.vc_bm0 ?_))
local macro_rules | `(tactic| walk_at "vce") => `(tactic| first
  | (with_reducible refine L2.vc_iitemsK ?_)
  | (with_reducible refine L2.vc_view ?_)
  | (with_reducible refine L2.vc_dnewK ?_)
  | (with_reducible refine L2.vc_par2 ?_)
  | (with_reducible refine L2.vc_chain2 ?_)
  | (with_reducible refine L2.vc_disp1 ?_))
local macro_rules | `(tactic| walk_at "vce") => `(tactic| first
  | (with_reducible refine L2.vc_itup ?_)
  | (with_reducible refine L2.vc_mget ?_)
  | (with_reducible refine L2.vc_dnewM ?_))
local macro_rules | `(tactic| walk_at "vce") => `(tactic| first
  | (with_reducible refine L2.vc_dget ?_)
  | (with_reducible refine L2.vc_chain3 ?_))
namespace My
open PySem L2
noncomputable def top (i : Nat) : Stmt := PySem.Challenge.pw_batchpipe_k52_the_lightest_tree.main.body.getD i (.Pass ⟨0, 0, 0, 0⟩)
noncomputable abbrev s_greatest_divisor : Stmt := (top 1)
noncomputable abbrev s_made : Stmt := (top 2)
noncomputable abbrev s_sum_of : Stmt := (top 3)
noncomputable abbrev s_times : Stmt := (top 4)
noncomputable abbrev s_below : Stmt := (top 5)
noncomputable abbrev s_Pipe___init__ : Stmt := (inClass (top 7) 0)
noncomputable abbrev s_place_of : Stmt := (top 8)
noncomputable abbrev s_end_of : Stmt := (top 9)
noncomputable abbrev s_half_at : Stmt := (top 10)
noncomputable abbrev s_thick_of : Stmt := (top 11)
noncomputable abbrev s_are_apart : Stmt := (top 12)
noncomputable abbrev s_half_between : Stmt := (top 13)
noncomputable abbrev s_waste_between : Stmt := (top 15)
noncomputable abbrev s_wastes_of : Stmt := (top 16)
noncomputable abbrev s_wastes_from : Stmt := (top 17)
noncomputable abbrev s_steps_from : Stmt := (top 18)
noncomputable abbrev s_least_of : Stmt := (top 19)
noncomputable abbrev s_tree_of : Stmt := (top 20)
noncomputable abbrev s_steps_between : Stmt := (top 21)
noncomputable abbrev s_l_mix : Stmt := (top 23)
noncomputable abbrev s_l_at : Stmt := (top 24)
noncomputable abbrev s_l_wares : Stmt := (top 25)
noncomputable abbrev s_l_five : Stmt := (top 26)
noncomputable abbrev s_l_apart : Stmt := (top 27)
noncomputable abbrev s_l_pipe : Stmt := (top 28)
noncomputable abbrev s_l_of : Stmt := (top 29)
noncomputable abbrev s_l_lowest : Stmt := (top 30)
noncomputable abbrev s_l_half : Stmt := (top 31)
noncomputable abbrev s_l_thick : Stmt := (top 32)
noncomputable abbrev s_l_waste : Stmt := (top 33)
noncomputable abbrev s_l_sum : Stmt := (top 34)
noncomputable abbrev s_l_less : Stmt := (top 35)
noncomputable abbrev s_l_some : Stmt := (top 36)
noncomputable abbrev s_l_alike : Stmt := (top 37)
noncomputable abbrev s_l_reached : Stmt := (top 38)
noncomputable abbrev s_l_is_tree : Stmt := (top 39)
noncomputable abbrev s_law : Stmt := (top 40)
set_option genInjectivity false in
set_option genSizeOf false in
structure Ad where
  c_Pipe : Addr
  f_greatest_divisor : Addr
  d_greatest_divisor : FuncData
  f_made : Addr
  d_made : FuncData
  f_sum_of : Addr
  d_sum_of : FuncData
  f_times : Addr
  d_times : FuncData
  f_below : Addr
  d_below : FuncData
  f_Pipe___init__ : Addr
  d_Pipe___init__ : FuncData
  f_place_of : Addr
  d_place_of : FuncData
  f_end_of : Addr
  d_end_of : FuncData
  f_half_at : Addr
  d_half_at : FuncData
  f_thick_of : Addr
  d_thick_of : FuncData
  f_are_apart : Addr
  d_are_apart : FuncData
  f_half_between : Addr
  d_half_between : FuncData
  f_waste_between : Addr
  d_waste_between : FuncData
  f_wastes_of : Addr
  d_wastes_of : FuncData
  f_wastes_from : Addr
  d_wastes_from : FuncData
  f_steps_from : Addr
  d_steps_from : FuncData
  f_least_of : Addr
  d_least_of : FuncData
  f_tree_of : Addr
  d_tree_of : FuncData
  f_steps_between : Addr
  d_steps_between : FuncData
  f_l_mix : Addr
  d_l_mix : FuncData
  f_l_at : Addr
  d_l_at : FuncData
  f_l_wares : Addr
  d_l_wares : FuncData
  f_l_five : Addr
  d_l_five : FuncData
  f_l_apart : Addr
  d_l_apart : FuncData
  f_l_pipe : Addr
  d_l_pipe : FuncData
  f_l_of : Addr
  d_l_of : FuncData
  f_l_lowest : Addr
  d_l_lowest : FuncData
  f_l_half : Addr
  d_l_half : FuncData
  f_l_thick : Addr
  d_l_thick : FuncData
  f_l_waste : Addr
  d_l_waste : FuncData
  f_l_sum : Addr
  d_l_sum : FuncData
  f_l_less : Addr
  d_l_less : FuncData
  f_l_some : Addr
  d_l_some : FuncData
  f_l_alike : Addr
  d_l_alike : FuncData
  f_l_reached : Addr
  d_l_reached : FuncData
  f_l_is_tree : Addr
  d_l_is_tree : FuncData
  f_law : Addr
  d_law : FuncData
structure Txt (K : PySem.W.Frag) (mg : Str → Option Value) (t : Ad) : Prop where
  F_greatest_divisor : Fun K "greatest_divisor" "greatest_divisor" s_greatest_divisor t.f_greatest_divisor t.d_greatest_divisor
  b_greatest_divisor : Binds K t.d_greatest_divisor ["one", "other"] []
  m_greatest_divisor : mg "greatest_divisor" = some (.ref t.f_greatest_divisor)
  F_made : Fun K "made" "made" s_made t.f_made t.d_made
  b_made : Binds K t.d_made ["number", "parts"] []
  m_made : mg "made" = some (.ref t.f_made)
  F_sum_of : Fun K "sum_of" "sum_of" s_sum_of t.f_sum_of t.d_sum_of
  b_sum_of : Binds K t.d_sum_of ["one", "other"] []
  m_sum_of : mg "sum_of" = some (.ref t.f_sum_of)
  F_times : Fun K "times" "times" s_times t.f_times t.d_times
  b_times : Binds K t.d_times ["one", "other"] []
  m_times : mg "times" = some (.ref t.f_times)
  F_below : Fun K "below" "below" s_below t.f_below t.d_below
  b_below : Binds K t.d_below ["one", "other"] []
  m_below : mg "below" = some (.ref t.f_below)
  F_Pipe___init__ : Fun K "__init__" "Pipe.__init__" s_Pipe___init__ t.f_Pipe___init__ t.d_Pipe___init__
  b_Pipe___init__ : Binds K t.d_Pipe___init__ ["self", "rooms", "table", "thick", "apart", "pig"] []
  F_place_of : Fun K "place_of" "place_of" s_place_of t.f_place_of t.d_place_of
  b_place_of : Binds K t.d_place_of ["pipe", "node"] []
  m_place_of : mg "place_of" = some (.ref t.f_place_of)
  F_end_of : Fun K "end_of" "end_of" s_end_of t.f_end_of t.d_end_of
  b_end_of : Binds K t.d_end_of ["pipe"] []
  m_end_of : mg "end_of" = some (.ref t.f_end_of)
  F_half_at : Fun K "half_at" "half_at" s_half_at t.f_half_at t.d_half_at
  b_half_at : Binds K t.d_half_at ["pipe", "distance"] []
  m_half_at : mg "half_at" = some (.ref t.f_half_at)
  F_thick_of : Fun K "thick_of" "thick_of" s_thick_of t.f_thick_of t.d_thick_of
  b_thick_of : Binds K t.d_thick_of ["pipe", "one", "other"] []
  m_thick_of : mg "thick_of" = some (.ref t.f_thick_of)
  F_are_apart : Fun K "are_apart" "are_apart" s_are_apart t.f_are_apart t.d_are_apart
  b_are_apart : Binds K t.d_are_apart ["pipe", "one", "other"] []
  m_are_apart : mg "are_apart" = some (.ref t.f_are_apart)
  F_half_between : Fun K "half_between" "half_between" s_half_between t.f_half_between t.d_half_between
  b_half_between : Binds K t.d_half_between ["pipe", "one", "other", "distance", "with_pig"] []
  m_half_between : mg "half_between" = some (.ref t.f_half_between)
  F_waste_between : Fun K "waste_between" "waste_between" s_waste_between t.f_waste_between t.d_waste_between
  b_waste_between : Binds K t.d_waste_between ["pipe", "one", "other"] []
  m_waste_between : mg "waste_between" = some (.ref t.f_waste_between)
  F_wastes_of : Fun K "wastes_of" "wastes_of" s_wastes_of t.f_wastes_of t.d_wastes_of
  b_wastes_of : Binds K t.d_wastes_of ["pipe", "wares"] []
  m_wastes_of : mg "wastes_of" = some (.ref t.f_wastes_of)
  F_wastes_from : Fun K "wastes_from" "wastes_from" s_wastes_from t.f_wastes_from t.d_wastes_from
  b_wastes_from : Binds K t.d_wastes_from ["pipe", "one", "wares"] []
  m_wastes_from : mg "wastes_from" = some (.ref t.f_wastes_from)
  F_steps_from : Fun K "steps_from" "steps_from" s_steps_from t.f_steps_from t.d_steps_from
  b_steps_from : Binds K t.d_steps_from ["wastes", "one", "rest"] []
  m_steps_from : mg "steps_from" = some (.ref t.f_steps_from)
  F_least_of : Fun K "least_of" "least_of" s_least_of t.f_least_of t.d_least_of
  b_least_of : Binds K t.d_least_of ["choices"] []
  m_least_of : mg "least_of" = some (.ref t.f_least_of)
  F_tree_of : Fun K "tree_of" "tree_of" s_tree_of t.f_tree_of t.d_tree_of
  b_tree_of : Binds K t.d_tree_of ["pipe", "wares"] []
  m_tree_of : mg "tree_of" = some (.ref t.f_tree_of)
  F_steps_between : Fun K "steps_between" "steps_between" s_steps_between t.f_steps_between t.d_steps_between
  b_steps_between : Binds K t.d_steps_between ["wastes", "reached", "rest"] []
  m_steps_between : mg "steps_between" = some (.ref t.f_steps_between)
  F_l_mix : Fun K "_law_mix" "_law_mix" s_l_mix t.f_l_mix t.d_l_mix
  b_l_mix : Binds K t.d_l_mix ["_law_cell", "_law_k"] []
  m_l_mix : mg "_law_mix" = some (.ref t.f_l_mix)
  F_l_at : Fun K "_law_at" "_law_at" s_l_at t.f_l_at t.d_l_at
  b_l_at : Binds K t.d_l_at ["_law_script", "_law_k"] []
  m_l_at : mg "_law_at" = some (.ref t.f_l_at)
  F_l_wares : Fun K "_law_wares" "_law_wares" s_l_wares t.f_l_wares t.d_l_wares
  b_l_wares : Binds K t.d_l_wares ["_law_cell"] []
  m_l_wares : mg "_law_wares" = some (.ref t.f_l_wares)
  F_l_five : Fun K "_law_five" "_law_five" s_l_five t.f_l_five t.d_l_five
  b_l_five : Binds K t.d_l_five ["_law_cell", "_law_wares_here", "_law_most"] []
  m_l_five : mg "_law_five" = some (.ref t.f_l_five)
  F_l_apart : Fun K "_law_apart" "_law_apart" s_l_apart t.f_l_apart t.d_l_apart
  b_l_apart : Binds K t.d_l_apart ["_law_five_here", "_law_one", "_law_other"] []
  m_l_apart : mg "_law_apart" = some (.ref t.f_l_apart)
  F_l_pipe : Fun K "_law_pipe" "_law_pipe" s_l_pipe t.f_l_pipe t.d_l_pipe
  b_l_pipe : Binds K t.d_l_pipe ["_law_cell", "_law_wares_here", "_law_most"] []
  m_l_pipe : mg "_law_pipe" = some (.ref t.f_l_pipe)
  F_l_of : Fun K "_law_of" "_law_of" s_l_of t.f_l_of t.d_l_of
  b_l_of : Binds K t.d_l_of ["_law_five_here"] []
  m_l_of : mg "_law_of" = some (.ref t.f_l_of)
  F_l_lowest : Fun K "_law_lowest" "_law_lowest" s_l_lowest t.f_l_lowest t.d_l_lowest
  b_l_lowest : Binds K t.d_l_lowest ["_law_number", "_law_parts"] []
  m_l_lowest : mg "_law_lowest" = some (.ref t.f_l_lowest)
  F_l_half : Fun K "_law_half" "_law_half" s_l_half t.f_l_half t.d_l_half
  b_l_half : Binds K t.d_l_half ["_law_five_here", "_law_distance"] []
  m_l_half : mg "_law_half" = some (.ref t.f_l_half)
  F_l_thick : Fun K "_law_thick" "_law_thick" s_l_thick t.f_l_thick t.d_l_thick
  b_l_thick : Binds K t.d_l_thick ["_law_five_here", "_law_one", "_law_other"] []
  m_l_thick : mg "_law_thick" = some (.ref t.f_l_thick)
  F_l_waste : Fun K "_law_waste" "_law_waste" s_l_waste t.f_l_waste t.d_l_waste
  b_l_waste : Binds K t.d_l_waste ["_law_five_here", "_law_one", "_law_other"] []
  m_l_waste : mg "_law_waste" = some (.ref t.f_l_waste)
  F_l_sum : Fun K "_law_sum" "_law_sum" s_l_sum t.f_l_sum t.d_l_sum
  b_l_sum : Binds K t.d_l_sum ["_law_one", "_law_other"] []
  m_l_sum : mg "_law_sum" = some (.ref t.f_l_sum)
  F_l_less : Fun K "_law_less" "_law_less" s_l_less t.f_l_less t.d_l_less
  b_l_less : Binds K t.d_l_less ["_law_one", "_law_other"] []
  m_l_less : mg "_law_less" = some (.ref t.f_l_less)
  F_l_some : Fun K "_law_some" "_law_some" s_l_some t.f_l_some t.d_l_some
  b_l_some : Binds K t.d_l_some ["_law_wares_here", "_law_cells"] []
  m_l_some : mg "_law_some" = some (.ref t.f_l_some)
  F_l_alike : Fun K "_law_alike" "_law_alike" s_l_alike t.f_l_alike t.d_l_alike
  b_l_alike : Binds K t.d_l_alike ["_law_found", "_law_due"] []
  m_l_alike : mg "_law_alike" = some (.ref t.f_l_alike)
  F_l_reached : Fun K "_law_reached" "_law_reached" s_l_reached t.f_l_reached t.d_l_reached
  b_l_reached : Binds K t.d_l_reached ["_law_five_here", "_law_some_here", "_law_pairs", "_law_begin"] []
  m_l_reached : mg "_law_reached" = some (.ref t.f_l_reached)
  F_l_is_tree : Fun K "_law_is_tree" "_law_is_tree" s_l_is_tree t.f_l_is_tree t.d_l_is_tree
  b_l_is_tree : Binds K t.d_l_is_tree ["_law_five_here", "_law_some_here", "_law_found"] []
  m_l_is_tree : mg "_law_is_tree" = some (.ref t.f_l_is_tree)
  F_law : Fun K "law" "law" s_law t.f_law t.d_law
  b_law : Binds K t.d_law ["_law_script"] []
  m_law : mg "law" = some (.ref t.f_law)
  c_Pipe : mg "Pipe" = some (.ref t.c_Pipe)
  C_Pipe : Cls K t.c_Pipe
  M_Pipe : Mk K t.c_Pipe t.f_Pipe___init__
  n_Pipe_rooms : NoAttr K t.c_Pipe "rooms"
  n_Pipe_table : NoAttr K t.c_Pipe "table"
  n_Pipe_thick : NoAttr K t.c_Pipe "thick"
  n_Pipe_apart : NoAttr K t.c_Pipe "apart"
  n_Pipe_pig : NoAttr K t.c_Pipe "pig"
  z_abs : mg "abs" = none
  z_all : mg "all" = none
  z_bool : mg "bool" = none
  z_enumerate : mg "enumerate" = none
  z_int : mg "int" = none
  z_isinstance : mg "isinstance" = none
  z_len : mg "len" = none
  z_list : mg "list" = none
  z_max : mg "max" = none
  z_min : mg "min" = none
  z_range : mg "range" = none
  z_sorted : mg "sorted" = none
  z_str : mg "str" = none
  z_sum : mg "sum" = none
  z_tuple : mg "tuple" = none
  z_zip : mg "zip" = none
theorem sc_greatest_divisor : FnScope ["one", "other", "rest"] ["one", "other"] (defScope s_greatest_divisor) := ⟨rfl, rfl, rfl, by decide +kernel, rfl, by decide +kernel, by decide +kernel⟩
theorem qv_greatest_divisor : VOk ["one", "other", "rest"] (defScope s_greatest_divisor) = true := by decide +kernel
theorem sc_made : FnScope ["number", "parts", "divisor"] ["number", "parts"] (defScope s_made) := ⟨rfl, rfl, rfl, by decide +kernel, rfl, by decide +kernel, by decide +kernel⟩
theorem qv_made : VOk ["number", "parts", "divisor"] (defScope s_made) = true := by decide +kernel
theorem qg_made : GOk ["greatest_divisor", "abs"] (defScope s_made) = true := by decide +kernel
theorem sc_sum_of : FnScope ["one", "other"] ["one", "other"] (defScope s_sum_of) := ⟨rfl, rfl, rfl, by decide +kernel, rfl, by decide +kernel, by decide +kernel⟩
theorem qv_sum_of : VOk ["one", "other"] (defScope s_sum_of) = true := by decide +kernel
theorem qg_sum_of : GOk ["made"] (defScope s_sum_of) = true := by decide +kernel
theorem sc_times : FnScope ["one", "other"] ["one", "other"] (defScope s_times) := ⟨rfl, rfl, rfl, by decide +kernel, rfl, by decide +kernel, by decide +kernel⟩
theorem qv_times : VOk ["one", "other"] (defScope s_times) = true := by decide +kernel
theorem qg_times : GOk ["made"] (defScope s_times) = true := by decide +kernel
theorem sc_below : FnScope ["one", "other"] ["one", "other"] (defScope s_below) := ⟨rfl, rfl, rfl, by decide +kernel, rfl, by decide +kernel, by decide +kernel⟩
theorem qv_below : VOk ["one", "other"] (defScope s_below) = true := by decide +kernel
theorem sc_Pipe___init__ : FnScope ["self", "rooms", "table", "thick", "apart", "pig"] ["self", "rooms", "table", "thick", "apart", "pig"] (defScope s_Pipe___init__) := ⟨rfl, rfl, rfl, by decide +kernel, rfl, by decide +kernel, by decide +kernel⟩
theorem qv_Pipe___init__ : VOk ["self", "rooms", "table", "thick", "apart", "pig"] (defScope s_Pipe___init__) = true := by decide +kernel
theorem qg_Pipe___init__ : GOk ["list"] (defScope s_Pipe___init__) = true := by decide +kernel
theorem sc_place_of : FnScope ["pipe", "node"] ["pipe", "node"] (defScope s_place_of) := ⟨rfl, rfl, rfl, by decide +kernel, rfl, by decide +kernel, by decide +kernel⟩
theorem qv_place_of : VOk ["pipe", "node"] (defScope s_place_of) = true := by decide +kernel
theorem qg_place_of : GOk ["sum"] (defScope s_place_of) = true := by decide +kernel
theorem sc_end_of : FnScope ["pipe"] ["pipe"] (defScope s_end_of) := ⟨rfl, rfl, rfl, by decide +kernel, rfl, by decide +kernel, by decide +kernel⟩
theorem qv_end_of : VOk ["pipe"] (defScope s_end_of) = true := by decide +kernel
theorem qg_end_of : GOk ["place_of", "len"] (defScope s_end_of) = true := by decide +kernel
theorem sc_half_at : FnScope ["pipe", "distance", "near", "near_half", "far", "far_half", "span"] ["pipe", "distance"] (defScope s_half_at) := ⟨rfl, rfl, rfl, by decide +kernel, rfl, by decide +kernel, by decide +kernel⟩
theorem qv_half_at : VOk ["pipe", "distance", "near", "near_half", "far", "far_half", "span"] (defScope s_half_at) = true := by decide +kernel
theorem qg_half_at : GOk ["made"] (defScope s_half_at) = true := by decide +kernel
theorem sc_thick_of : FnScope ["pipe", "one", "other", "first", "second", "k"] ["pipe", "one", "other"] (defScope s_thick_of) := ⟨rfl, rfl, rfl, by decide +kernel, rfl, by decide +kernel, by decide +kernel⟩
theorem qv_thick_of : VOk ["pipe", "one", "other", "first", "second", "k"] (defScope s_thick_of) = true := by decide +kernel
theorem sc_are_apart : FnScope ["pipe", "one", "other"] ["pipe", "one", "other"] (defScope s_are_apart) := ⟨rfl, rfl, rfl, by decide +kernel, rfl, by decide +kernel, by decide +kernel⟩
theorem qv_are_apart : VOk ["pipe", "one", "other"] (defScope s_are_apart) = true := by decide +kernel
theorem sc_half_between : FnScope ["pipe", "one", "other", "distance", "with_pig", "half"] ["pipe", "one", "other", "distance", "with_pig"] (defScope s_half_between) := ⟨rfl, rfl, rfl, by decide +kernel, rfl, by decide +kernel, by decide +kernel⟩
theorem qv_half_between : VOk ["pipe", "one", "other", "distance", "with_pig", "half"] (defScope s_half_between) = true := by decide +kernel
theorem qg_half_between : GOk ["times", "half_at", "thick_of"] (defScope s_half_between) = true := by decide +kernel
theorem sc_waste_between : FnScope ["pipe", "one", "other"] ["pipe", "one", "other"] (defScope s_waste_between) := ⟨rfl, rfl, rfl, by decide +kernel, rfl, by decide +kernel, by decide +kernel⟩
theorem qv_waste_between : VOk ["pipe", "one", "other"] (defScope s_waste_between) = true := by decide +kernel
theorem qg_waste_between : GOk ["are_apart", "times", "half_between", "end_of"] (defScope s_waste_between) = true := by decide +kernel
theorem sc_wastes_of : FnScope ["pipe", "wares"] ["pipe", "wares"] (defScope s_wastes_of) := ⟨rfl, rfl, rfl, by decide +kernel, rfl, by decide +kernel, by decide +kernel⟩
theorem qv_wastes_of : VOk ["pipe", "wares"] (defScope s_wastes_of) = true := by decide +kernel
theorem sc_wastes_from : FnScope ["pipe", "one", "wares"] ["pipe", "one", "wares"] (defScope s_wastes_from) := ⟨rfl, rfl, rfl, by decide +kernel, rfl, by decide +kernel, by decide +kernel⟩
theorem qv_wastes_from : VOk ["pipe", "one", "wares"] (defScope s_wastes_from) = true := by decide +kernel
theorem sc_steps_from : FnScope ["wastes", "one", "rest"] ["wastes", "one", "rest"] (defScope s_steps_from) := ⟨rfl, rfl, rfl, by decide +kernel, rfl, by decide +kernel, by decide +kernel⟩
theorem qv_steps_from : VOk ["wastes", "one", "rest"] (defScope s_steps_from) = true := by decide +kernel
theorem sc_least_of : FnScope ["choices", "best", "what", "waste"] ["choices"] (defScope s_least_of) := ⟨rfl, rfl, rfl, by decide +kernel, rfl, by decide +kernel, by decide +kernel⟩
theorem qv_least_of : VOk ["choices", "best", "what", "waste"] (defScope s_least_of) = true := by decide +kernel
theorem qg_least_of : GOk ["below"] (defScope s_least_of) = true := by decide +kernel
theorem sc_tree_of : FnScope ["pipe", "wares", "wastes", "numbers", "reached", "rest", "pairs", "weight", "step", "one", "other"] ["pipe", "wares"] (defScope s_tree_of) := ⟨rfl, rfl, rfl, by decide +kernel, rfl, by decide +kernel, by decide +kernel⟩
theorem qv_tree_of : VOk ["pipe", "wares", "wastes", "numbers", "reached", "rest", "pairs", "weight", "step", "one", "other"] (defScope s_tree_of) = true := by decide +kernel
theorem qg_tree_of : GOk ["wastes_of", "list", "range", "len", "least_of", "steps_between", "min", "max", "sum_of", "sorted"] (defScope s_tree_of) = true := by decide +kernel
theorem sc_steps_between : FnScope ["wastes", "reached", "rest", "steps", "one"] ["wastes", "reached", "rest"] (defScope s_steps_between) := ⟨rfl, rfl, rfl, by decide +kernel, rfl, by decide +kernel, by decide +kernel⟩
theorem qv_steps_between : VOk ["wastes", "reached", "rest", "steps", "one"] (defScope s_steps_between) = true := by decide +kernel
theorem qg_steps_between : GOk ["steps_from"] (defScope s_steps_between) = true := by decide +kernel
theorem sc_l_mix : FnScope ["_law_cell", "_law_k", "_law_once"] ["_law_cell", "_law_k"] (defScope s_l_mix) := ⟨rfl, rfl, rfl, by decide +kernel, rfl, by decide +kernel, by decide +kernel⟩
theorem qv_l_mix : VOk ["_law_cell", "_law_k", "_law_once"] (defScope s_l_mix) = true := by decide +kernel
theorem sc_l_at : FnScope ["_law_script", "_law_k"] ["_law_script", "_law_k"] (defScope s_l_at) := ⟨rfl, rfl, rfl, by decide +kernel, rfl, by decide +kernel, by decide +kernel⟩
theorem qv_l_at : VOk ["_law_script", "_law_k"] (defScope s_l_at) = true := by decide +kernel
theorem qg_l_at : GOk ["len"] (defScope s_l_at) = true := by decide +kernel
theorem sc_l_wares : FnScope ["_law_cell", "_law_letters", "_law_size", "_law_stem", "_law_k", "_law_place"] ["_law_cell"] (defScope s_l_wares) := ⟨rfl, rfl, rfl, by decide +kernel, rfl, by decide +kernel, by decide +kernel⟩
theorem qv_l_wares : VOk ["_law_cell", "_law_letters", "_law_size", "_law_stem", "_law_k", "_law_place"] (defScope s_l_wares) = true := by decide +kernel
theorem qg_l_wares : GOk ["_law_mix", "range"] (defScope s_l_wares) = true := by decide +kernel
theorem sc_l_five : FnScope ["_law_cell", "_law_wares_here", "_law_most", "_law_rooms", "_law_rows", "_law_distance", "_law_half_here", "_law_k", "_law_thick_here", "_law_apart_here", "_law_p", "_law_q", "_law_one", "_law_pair", "_law_pig"] ["_law_cell", "_law_wares_here", "_law_most"] (defScope s_l_five) := ⟨rfl, rfl, rfl, by decide +kernel, rfl, by decide +kernel, by decide +kernel⟩
theorem qv_l_five : VOk ["_law_cell", "_law_wares_here", "_law_most", "_law_rooms", "_law_rows", "_law_distance", "_law_half_here", "_law_k", "_law_thick_here", "_law_apart_here", "_law_p", "_law_q", "_law_one", "_law_pair", "_law_pig"] (defScope s_l_five) = true := by decide +kernel
theorem qg_l_five : GOk ["range", "_law_mix"] (defScope s_l_five) = true := by decide +kernel
theorem sc_l_apart : FnScope ["_law_five_here", "_law_one", "_law_other"] ["_law_five_here", "_law_one", "_law_other"] (defScope s_l_apart) := ⟨rfl, rfl, rfl, by decide +kernel, rfl, by decide +kernel, by decide +kernel⟩
theorem qv_l_apart : VOk ["_law_five_here", "_law_one", "_law_other"] (defScope s_l_apart) = true := by decide +kernel
theorem sc_l_pipe : FnScope ["_law_cell", "_law_wares_here", "_law_most", "_law_five_here", "_law_p", "_law_q", "_law_one"] ["_law_cell", "_law_wares_here", "_law_most"] (defScope s_l_pipe) := ⟨rfl, rfl, rfl, by decide +kernel, rfl, by decide +kernel, by decide +kernel⟩
theorem qv_l_pipe : VOk ["_law_cell", "_law_wares_here", "_law_most", "_law_five_here", "_law_p", "_law_q", "_law_one"] (defScope s_l_pipe) = true := by decide +kernel
theorem qg_l_pipe : GOk ["_law_five", "range", "_law_mix"] (defScope s_l_pipe) = true := by decide +kernel
theorem sc_l_of : FnScope ["_law_five_here"] ["_law_five_here"] (defScope s_l_of) := ⟨rfl, rfl, rfl, by decide +kernel, rfl, by decide +kernel, by decide +kernel⟩
theorem qv_l_of : VOk ["_law_five_here"] (defScope s_l_of) = true := by decide +kernel
theorem qg_l_of : GOk ["Pipe", "list"] (defScope s_l_of) = true := by decide +kernel
theorem sc_l_lowest : FnScope ["_law_number", "_law_parts", "_law_one", "_law_other", "_law_kept"] ["_law_number", "_law_parts"] (defScope s_l_lowest) := ⟨rfl, rfl, rfl, by decide +kernel, rfl, by decide +kernel, by decide +kernel⟩
theorem qv_l_lowest : VOk ["_law_number", "_law_parts", "_law_one", "_law_other", "_law_kept"] (defScope s_l_lowest) = true := by decide +kernel
theorem qg_l_lowest : GOk ["abs"] (defScope s_l_lowest) = true := by decide +kernel
theorem sc_l_half : FnScope ["_law_five_here", "_law_distance", "_law_near", "_law_half_here", "_law_far", "_law_more"] ["_law_five_here", "_law_distance"] (defScope s_l_half) := ⟨rfl, rfl, rfl, by decide +kernel, rfl, by decide +kernel, by decide +kernel⟩
theorem qv_l_half : VOk ["_law_five_here", "_law_distance", "_law_near", "_law_half_here", "_law_far", "_law_more"] (defScope s_l_half) = true := by decide +kernel
theorem qg_l_half : GOk ["_law_lowest"] (defScope s_l_half) = true := by decide +kernel
theorem sc_l_thick : FnScope ["_law_five_here", "_law_one", "_law_other", "_law_first", "_law_second", "_law_many"] ["_law_five_here", "_law_one", "_law_other"] (defScope s_l_thick) := ⟨rfl, rfl, rfl, by decide +kernel, rfl, by decide +kernel, by decide +kernel⟩
theorem qv_l_thick : VOk ["_law_five_here", "_law_one", "_law_other", "_law_first", "_law_second", "_law_many"] (defScope s_l_thick) = true := by decide +kernel
theorem qg_l_thick : GOk ["sorted"] (defScope s_l_thick) = true := by decide +kernel
theorem sc_l_waste : FnScope ["_law_five_here", "_law_one", "_law_other", "_law_half_here"] ["_law_five_here", "_law_one", "_law_other"] (defScope s_l_waste) := ⟨rfl, rfl, rfl, by decide +kernel, rfl, by decide +kernel, by decide +kernel⟩
theorem qv_l_waste : VOk ["_law_five_here", "_law_one", "_law_other", "_law_half_here"] (defScope s_l_waste) = true := by decide +kernel
theorem qg_l_waste : GOk ["_law_apart", "_law_half", "sum", "_law_lowest", "_law_thick"] (defScope s_l_waste) = true := by decide +kernel
theorem sc_l_sum : FnScope ["_law_one", "_law_other"] ["_law_one", "_law_other"] (defScope s_l_sum) := ⟨rfl, rfl, rfl, by decide +kernel, rfl, by decide +kernel, by decide +kernel⟩
theorem qv_l_sum : VOk ["_law_one", "_law_other"] (defScope s_l_sum) = true := by decide +kernel
theorem qg_l_sum : GOk ["_law_lowest"] (defScope s_l_sum) = true := by decide +kernel
theorem sc_l_less : FnScope ["_law_one", "_law_other"] ["_law_one", "_law_other"] (defScope s_l_less) := ⟨rfl, rfl, rfl, by decide +kernel, rfl, by decide +kernel, by decide +kernel⟩
theorem qv_l_less : VOk ["_law_one", "_law_other"] (defScope s_l_less) = true := by decide +kernel
theorem sc_l_some : FnScope ["_law_wares_here", "_law_cells"] ["_law_wares_here", "_law_cells"] (defScope s_l_some) := ⟨rfl, rfl, rfl, by decide +kernel, rfl, by decide +kernel, by decide +kernel⟩
theorem qv_l_some : VOk ["_law_wares_here", "_law_cells"] (defScope s_l_some) = true := by decide +kernel
theorem qg_l_some : GOk ["enumerate"] (defScope s_l_some) = true := by decide +kernel
theorem sc_l_alike : FnScope ["_law_found", "_law_due"] ["_law_found", "_law_due"] (defScope s_l_alike) := ⟨rfl, rfl, rfl, by decide +kernel, rfl, by decide +kernel, by decide +kernel⟩
theorem qv_l_alike : VOk ["_law_found", "_law_due"] (defScope s_l_alike) = true := by decide +kernel
theorem qg_l_alike : GOk ["isinstance", "list", "tuple", "len", "all", "zip", "str", "int", "bool"] (defScope s_l_alike) = true := by decide +kernel
theorem sc_l_reached : FnScope ["_law_five_here", "_law_some_here", "_law_pairs", "_law_begin", "_law_found", "_law_todo", "_law_here", "_law_p", "_law_q", "_law_step"] ["_law_five_here", "_law_some_here", "_law_pairs", "_law_begin"] (defScope s_l_reached) := ⟨rfl, rfl, rfl, by decide +kernel, rfl, by decide +kernel, by decide +kernel⟩
theorem qv_l_reached : VOk ["_law_five_here", "_law_some_here", "_law_pairs", "_law_begin", "_law_found", "_law_todo", "_law_here", "_law_p", "_law_q", "_law_step"] (defScope s_l_reached) = true := by decide +kernel
theorem qg_l_reached : GOk ["len", "_law_waste", "_law_less"] (defScope s_l_reached) = true := by decide +kernel
theorem sc_l_is_tree : FnScope ["_law_five_here", "_law_some_here", "_law_found", "_law_pairs", "_law_total", "_law_k", "_law_pair", "_law_step", "_law_p", "_law_most", "_law_q"] ["_law_five_here", "_law_some_here", "_law_found"] (defScope s_l_is_tree) := ⟨rfl, rfl, rfl, by decide +kernel, rfl, by decide +kernel, by decide +kernel⟩
theorem qv_l_is_tree : VOk ["_law_five_here", "_law_some_here", "_law_found", "_law_pairs", "_law_total", "_law_k", "_law_pair", "_law_step", "_law_p", "_law_most", "_law_q"] (defScope s_l_is_tree) = true := by decide +kernel
theorem qg_l_is_tree : GOk ["enumerate", "isinstance", "tuple", "len", "_law_alike", "list", "_law_waste", "_law_sum", "range", "_law_reached", "_law_less"] (defScope s_l_is_tree) = true := by decide +kernel
theorem sc_law : FnScope ["_law_script", "_law_wares_here", "_law_five_here", "_law_some_here", "_law_handed", "_law_found", "_law_allowed", "_law_q"] ["_law_script"] (defScope s_law) := ⟨rfl, rfl, rfl, by decide +kernel, rfl, by decide +kernel, by decide +kernel⟩
theorem qv_law : VOk ["_law_script", "_law_wares_here", "_law_five_here", "_law_some_here", "_law_handed", "_law_found", "_law_allowed", "_law_q"] (defScope s_law) = true := by decide +kernel
theorem qg_law : GOk ["_law_wares", "_law_at", "_law_pipe", "_law_some", "list", "tree_of", "_law_of", "range", "len", "_law_reached", "isinstance", "tuple", "_law_is_tree"] (defScope s_law) = true := by decide +kernel
noncomputable def mix (c k : Int) : Int := (((c % 10 ^ (30 : Int).toNat + 7919 * k + 11) * (k * k + 48271) % 2147483647) * ((c % 10 ^ (30 : Int).toNat + 7919 * k + 11) * (k * k + 48271) % 2147483647) % 2147483629) / 3
theorem mix_nonneg (c k : Int) : 0 ≤ mix c k := Int.ediv_nonneg (Int.emod_nonneg _ (by decide)) (by decide)
inductive spMix_ (vs : List V) (H : Hp) (Q : VK) : Prop where
  | mk (c k : Int) : (vs = [.int c, .int k]) → (0 ≤ k) → (k ≤ 100000) → (Q (.int (mix c k)) H) → spMix_  vs H Q
noncomputable def spMix : Sp := fun vs H Q _ => spMix_  vs H Q
theorem vc_mix {H : Hp} {Q : VK} {E : XK} {c k : Int} {vs : List V} (e : vs = [.int c, .int k]) (h : 0 ≤ k ∧ k ≤ 100000) (q : Q (.int (mix c k)) H) : spMix vs H Q E := ⟨c, k, e, h.1, h.2, q⟩
local macro_rules | `(tactic| walk_at "vce") => `(tactic| ((with_reducible refine My.vc_mix (c := ?vcx) (k := ?vcy) ?vce ?vcs ?_); (case vce => rfl); (case vcs => first | exact ⟨by decide, by decide⟩ | exact ⟨by omega, by omega⟩)))
section
variable {P : Program} {w : World} {K : PySem.W.Frag} {mg : Str → Option Value} {base : Heap} {t : Ad}
theorem sq_le' {k : Int} (h0 : 0 ≤ k) (h1 : k ≤ 100000) : 0 ≤ k * k ∧ k * k ≤ 10000000000 := by
  refine ⟨Int.mul_nonneg h0 h0, ?_⟩
  have := Int.mul_le_mul h1 h1 h0 (by omega : (0 : Int) ≤ 100000)
  omega
theorem ok_l_mix (T : Txt K mg t) : FnOk P w K mg base CX0 1 t.f_l_mix t.d_l_mix ["_law_cell", "_law_k"] spMix := by
  refine T.F_l_mix.ok sc_l_mix (fun vs H Q E h => ?_) (fun cdv A outer s H vs Q E hr h => ?_)
  · obtain ⟨c, k, rfl, _⟩ := h
    rfl
  obtain ⟨c, k, rfl, h0, h1, q⟩ := h
  refine ⟨_, (pss_cons (q_set (i := 2) qv_l_mix sc_l_mix.nd rfl rfl rfl (pe_op op_mod (pe_op op_mul (pe_op op_add (pe_op op_add (pe_op op_mod (qv qv_l_mix 0 rfl rfl rfl) (pe_op op_pow pe_int pe_int)) (pe_op op_mul pe_int (qv qv_l_mix 1 rfl rfl rfl))) pe_int) (pe_op op_add (pe_op op_mul (qv qv_l_mix 1 rfl rfl rfl) (qv qv_l_mix 1 rfl rfl rfl)) pe_int)) pe_int))
      (pss_one (ps_ret (pe_op op_fdiv (pe_op op_mod (pe_op op_mul (qv qv_l_mix 2 rfl rfl rfl) (qv qv_l_mix 2 rfl rfl rfl)) pe_int) pe_int)))), ?_⟩
  have hk := sq_le' h0 h1
  walk_at "vc"
  exact q
noncomputable def letters : List Nat := (Str.ofString "abcdefghijklmnopqrstuvwxyz").cps.toList
theorem letters_ok : letters.length = 26 ∧ ∀ c ∈ letters, 97 ≤ c ∧ c ≤ 122 := by decide +kernel
noncomputable def Let (x : Str) : Prop := ∀ c ∈ x.cps.toList, 97 ≤ c ∧ c ≤ 122
structure Wares (ws : List Str) : Prop where
  len : ws.length = 6
  nd : ws.Nodup
  ok : ∀ x ∈ ws, Let x ∧ 1 ≤ x.length ∧ x.length ≤ 8
theorem letter_at {i : Int} (h0 : 0 ≤ i) (h1 : i < 26) : ∃ c, atI letters i = some c ∧ 97 ≤ c ∧ c ≤ 122 := by
  have hk : i.toNat < letters.length := by rw [letters_ok.1]; omega
  have ek : i = ((i.toNat : Nat) : Int) := by omega
  refine ⟨letters[i.toNat], ?_, letters_ok.2 _ (List.getElem_mem hk)⟩
  have q : atI letters ((i.toNat : Nat) : Int) = some letters[i.toNat] := atI_nat (List.getElem?_eq_getElem hk)
  rw [← ek] at q
  exact q
theorem Let.app {x y : Str} (a : Let x) (b : Let y) : Let (x ++ y) := fun c h => by
  rw [str_app] at h
  rcases List.mem_append.mp h with h | h
  · exact a c h
  · exact b c h
theorem Let.slice {x : Str} (a : Let x) (lo hi : Option Int) : Let (Txt.slice x lo hi) := fun c h => by
  rw [slice_cps] at h
  exact a c (List.mem_of_mem_drop (List.mem_of_mem_take h))
theorem let_nil : Let (Str.ofString "") := fun c h => by
  have e : (Str.ofString "").cps.toList = [] := by decide +kernel
  rw [e] at h
  cases h
noncomputable def signs : List Nat := (Str.ofString "fbdace").cps.toList
theorem signs_ok : signs.length = 6 ∧ signs.Nodup ∧ (∀ c ∈ signs, 97 ≤ c ∧ c ≤ 122) ∧ (Str.ofString "fbdace").cps.all (· < 128) = true := by decide +kernel
theorem slice_mid {x : Str} {a b : Nat} (h : x.length = 8) (hb : b ≤ 8) : (Txt.slice x (some (a : Int)) (some (b : Int))).cps.toList = (x.cps.toList.drop a).take (b - a) := by
  rw [slice_cps, h, HT.sIx_nat, HT.sIx_nat, Nat.min_eq_left hb]
  by_cases ha : a ≤ 8
  · rw [Nat.min_eq_left ha]
  · rw [Nat.min_eq_right (by omega)]
    have e1 : b - 8 = 0 := by omega
    have e2 : b - a = 0 := by omega
    rw [e1, e2, List.take_zero, List.take_zero]
theorem slice_pre {x : Str} {a : Nat} (h : x.length = 8) (ha : a ≤ 8) : (Txt.slice x none (some (a : Int))).cps.toList = x.cps.toList.take a := by
  rw [slice_cps, h, HT.sIx_none, HT.sIx_nat, Nat.min_eq_left ha, List.drop_zero, Nat.sub_zero]
noncomputable def ware1 (x : Str) (a b c : Nat) : Str := Txt.slice x none (some (a : Int)) ++ ⟨#[c]⟩ ++ Txt.slice x (some (a : Int)) (some (b : Int))
theorem ware1_cps {x : Str} {a b c : Nat} (h : x.length = 8) (ha : a ≤ b) (hb : b ≤ 7) : (ware1 x a b c).cps.toList = x.cps.toList.take a ++ [c] ++ (x.cps.toList.drop a).take (b - a) := by
  unfold ware1
  rw [str_app, str_app, slice_pre h (by omega), slice_mid h (by omega)]
theorem ware1_len {x : Str} {a b c : Nat} (h : x.length = 8) (ha : a ≤ b) (hb : b ≤ 7) : (ware1 x a b c).length = b + 1 := by
  rw [str_len, ware1_cps h ha hb, List.length_append, List.length_append, List.length_take, List.length_take, List.length_drop, ← str_len, h, List.length_singleton]
  omega
theorem ware1_inj {x : Str} {a b c d : Nat} (h : x.length = 8) (ha : a ≤ b) (hb : b ≤ 7) (e : ware1 x a b c = ware1 x a b d) : c = d := by
  have e1 := congrArg (fun y : Str => y.cps.toList) e
  simp only [ware1_cps h ha hb, List.append_assoc] at e1
  have e2 := List.append_cancel_left e1
  exact (List.cons.inj e2).1
inductive spWares_ (vs : List V) (H : Hp) (Q : VK) : Prop where
  | mk (c : Int) : (vs = [.int c]) → (∀ (l : Addr) (ws : List Str) (H' : Hp), H l = none → Same H H' → H' l = some (.lst (ws.map V.str)) → Wares ws → Q (.ref l) H') → spWares_  vs H Q
noncomputable def spWares : Sp := fun vs H Q _ => spWares_  vs H Q
theorem nodup_of_inj {α : Type} {f : Nat → α} {n : Nat} (h : ∀ i j, i < n → j < n → f i = f j → i = j) : ((List.range n).map f).Nodup := by
  induction n with
  | zero => simp
  | succ n ih =>
    rw [List.range_succ, List.map_append, List.nodup_append]
    refine ⟨ih fun i j hi hj e => h i j (by omega) (by omega) e, by simp, ?_⟩
    intro x hx y hy e
    obtain ⟨i, hi, rfl⟩ := List.mem_map.mp hx
    have hi' := List.mem_range.mp hi
    rw [List.map_singleton, List.mem_singleton] at hy
    have := h i n (by omega) (by omega) (e.trans hy)
    omega
theorem map_range_succ {α : Type} (f : Nat → α) (i : Nat) : (List.range (i + 1)).map f = (List.range i).map f ++ [f i] := by
  rw [List.range_succ, List.map_append, List.map_singleton]
theorem slice_pre_len {x : Str} (h : x.length = 8) {k : Nat} (hk : k ≤ 8) : (Txt.slice x none (some (k : Int))).length = k := by
  rw [str_len, slice_cps, List.length_take, List.length_drop, ← str_len, h, HT.sIx_none, HT.sIx_nat]
  omega
theorem ok_l_wares (T : Txt K mg t) : FnOk P w K mg base CX0 2 t.f_l_wares t.d_l_wares ["_law_cell"] spWares := by
  have G_l_mix := ok_l_mix (P := P) (w := w) (base := base) T
  refine T.F_l_wares.ok sc_l_wares (fun vs H Q E h => ?_) (fun cdv A outer s H vs Q E hr h => ?_)
  · obtain ⟨c, rfl, _⟩ := h
    rfl
  obtain ⟨c, rfl, q⟩ := h
  refine ⟨_, (pss_cons (q_set (i := 1) qv_l_wares sc_l_wares.nd rfl rfl rfl pe_str)
      (pss_cons (q_set (i := 2) qv_l_wares sc_l_wares.nd rfl rfl rfl (pe_op op_mod (q_call G_l_mix (hr.mono (by first | decide | omega)) qg_l_wares 0 rfl rfl T.m_l_mix T.F_l_mix.kp T.b_l_mix .nil pass0 (pa_cons (qv qv_l_wares 0 rfl rfl rfl) (pa_cons pe_int pa_nil))) pe_int))
      (pss_cons (q_set (i := 3) qv_l_wares sc_l_wares.nd rfl rfl rfl pe_str)
      (pss_cons (ps_for PassesOwn.never rfl (pi_range1 (qgl qg_l_wares 1 rfl rfl) T.z_range (pa_cons pe_int pa_nil)) (q_name (i := 4) qv_l_wares sc_l_wares.nd rfl rfl rfl) (pss_one (q_set (i := 3) qv_l_wares sc_l_wares.nd rfl rfl rfl (pe_op op_addS (qv qv_l_wares 3 rfl rfl rfl) (pe_ix ix_str (qv qv_l_wares 1 rfl rfl rfl) (pe_op op_mod (q_call G_l_mix (hr.mono (by first | decide | omega)) qg_l_wares 0 rfl rfl T.m_l_mix T.F_l_mix.kp T.b_l_mix .nil pass0 (pa_cons (qv qv_l_wares 0 rfl rfl rfl) (pa_cons (pe_op op_add (qv qv_l_wares 4 rfl rfl rfl) pe_int) pa_nil))) pe_int) (fun _ _ => rfl))))))
      (pss_cons (q_set (i := 5) qv_l_wares sc_l_wares.nd rfl rfl rfl (pe_op op_mod (q_call G_l_mix (hr.mono (by first | decide | omega)) qg_l_wares 0 rfl rfl T.m_l_mix T.F_l_mix.kp T.b_l_mix .nil pass0 (pa_cons (qv qv_l_wares 0 rfl rfl rfl) (pa_cons pe_int pa_nil))) (pe_op op_add (qv qv_l_wares 2 rfl rfl rfl) pe_int)))
      (pss_cons (ps_if (pt_cmpR op_eq (pe_op op_mod (q_call G_l_mix (hr.mono (by first | decide | omega)) qg_l_wares 0 rfl rfl T.m_l_mix T.F_l_mix.kp T.b_l_mix .nil pass0 (pa_cons (qv qv_l_wares 0 rfl rfl rfl) (pa_cons pe_int pa_nil))) pe_int) pe_int (nomark _)) (pss_one (ps_ret (pe_comp ["_law_k", "_law_stem", "_law_cell"] [none, some 3, some 0] rfl  (pi_range1 (qgl qg_l_wares 1 rfl rfl) T.z_range (pa_cons pe_int pa_nil)) (fun _ _ _ _ => (pg_name (i := 0) (show (["_law_k", "_law_stem", "_law_cell"] : List Str).Nodup by decide +kernel) rfl (Or.inl rfl))) (fun _ _ _ _ => pts_nil) (fun _ _ _ _ => (pe_slice sl_str (pv 1) po_none (po_some (pe_op op_add (pe_op op_add (pv 0) pe_int) (pe_op op_mod (pe_call G_l_mix (hr.mono (by decide)) rfl T.m_l_mix T.F_l_mix.kp T.b_l_mix .nil pass0 (pa_cons (pv 2) (pa_cons pe_int pa_nil))) pe_int))))) rfl rfl))) pss_nil)
      (pss_one (ps_ret (pe_comp ["_law_sign", "_law_stem", "_law_place", "_law_size"] [none, some 3, some 5, some 2] rfl  (pi_str pe_str) (fun _ _ _ _ => (pg_name (i := 0) (show (["_law_sign", "_law_stem", "_law_place", "_law_size"] : List Str).Nodup by decide +kernel) rfl (Or.inl rfl))) (fun _ _ _ _ => pts_nil) (fun _ _ _ _ => (pe_op op_addS (pe_op op_addS (pe_slice sl_str (pv 1) po_none (po_some (pv 2))) (pv 0)) (pe_slice sl_str (pv 1) (po_some (pv 2)) (po_some (pv 3))))) rfl rfl))))))))), ?_⟩
  walk_at "vc"
  have sz0 := mix_nonneg c 1
  have m8a : 0 ≤ mix c 1 % 8 := Int.emod_nonneg _ (by decide)
  have m8b : mix c 1 % 8 < 8 := Int.emod_lt_of_pos _ (by decide)
  refine ⟨8, rfl, by decide, by decide, for_range (n := 8) (fun i σ H' => H' = H ∧ ∃ (st : Str) (u : Option V), σ = [some (.int c), some (.str (Str.ofString "abcdefghijklmnopqrstuvwxyz")), some (.int (mix c 1 % 8)), some (.str st), u, none] ∧ Let st ∧ st.length = i)
    ⟨rfl, _, none, rfl, let_nil, rfl⟩ ?_ ?_⟩
  · rintro i σ H' hi ⟨rfl, st, u, rfl, hst, hlen⟩
    obtain ⟨ch, hat, hch⟩ := letter_at (i := mix c (0 + (i : Int) + 2) % 26) (Int.emod_nonneg _ (by decide)) (Int.emod_lt_of_pos _ (by decide))
    walk_at "vc"
    refine vc_ixS (small (by rw [str_len, show (Str.ofString "abcdefghijklmnopqrstuvwxyz").cps.toList.length = 26 from letters_ok.1]; decide)) hat ?_
    refine vc_addS (small (by rw [hlen]; show i + 1 ≤ 1000; omega)) ?_
    walk_at "vc"
    refine ⟨rfl, _, _, rfl, hst.app fun x hx => ?_, ?_⟩
    · have e : x = ch := by simpa using hx
      rw [e]; exact hch
    · rw [str_len, str_app, List.length_append, ← str_len, hlen]; rfl
  rintro σ H' ⟨rfl, st, u, rfl, hst, hlen⟩
  walk_at "vc"
  generalize hsz : mix c 1 % 8 = sz at *
  have hpl0 : 0 ≤ mix c 11 % (sz + 1) := Int.emod_nonneg _ (by omega)
  have hpl1 : mix c 11 % (sz + 1) < sz + 1 := Int.emod_lt_of_pos _ (by omega)
  generalize mix c 11 % (sz + 1) = pl at *
  have hlS : st.length ≤ sizeLine := small (by omega)
  refine ite2 (fun z => ?_) (fun z => ?_)
  · walk_at "vc"
    have hm0 : 0 ≤ mix c 13 % 3 := Int.emod_nonneg _ (by decide)
    have hm1 : mix c 13 % 3 < 3 := Int.emod_lt_of_pos _ (by decide)
    let f : Nat → Str := fun i => Txt.slice st none (some (0 + (i : Int) + 1 + mix c 13 % 3))
    refine ⟨6, rfl, by decide, by decide, fun D hD => comp_gen (n := 6) (fun i x => x = .int (0 + (i : Int))) hD (small (by decide)) (hJ_rng _ _ _)
      (fun i ys _ => ys = ((List.range i).map f).map V.str) (fun σ => ∃ u, σ = [u, some (.str st), some (.int c)]) rfl ⟨_, rfl⟩ ?_ ?_⟩
    · rintro i x ys σ H2 R1 R0 hi rfl ⟨u, rfl⟩ sm hDl rfl k1 k0
      walk_at "vc"
      refine vc_slS hlS ?_
      refine k1 _ _ _ (Same.refl _) ⟨_, rfl⟩ ?_
      rw [map_range_succ, List.map_append]
      rfl
    · rintro ys H2 sm hDl hly rfl
      refine q D _ H2 hD sm hDl ⟨by simp, nodup_of_inj fun i j hi hj e => ?_, fun x hx => ?_⟩
      · have l1 : (f i).length = ((0 + (i : Int) + 1 + mix c 13 % 3).toNat) := by
          have e1 : (0 + (i : Int) + 1 + mix c 13 % 3) = (((0 + (i : Int) + 1 + mix c 13 % 3).toNat : Nat) : Int) := by omega
          show (Txt.slice st none (some (0 + (i : Int) + 1 + mix c 13 % 3))).length = _
          rw [e1]
          exact slice_pre_len hlen (by omega)
        have l2 : (f j).length = ((0 + (j : Int) + 1 + mix c 13 % 3).toNat) := by
          have e1 : (0 + (j : Int) + 1 + mix c 13 % 3) = (((0 + (j : Int) + 1 + mix c 13 % 3).toNat : Nat) : Int) := by omega
          show (Txt.slice st none (some (0 + (j : Int) + 1 + mix c 13 % 3))).length = _
          rw [e1]
          exact slice_pre_len hlen (by omega)
        rw [e] at l1
        omega
      · obtain ⟨i, hi, rfl⟩ := List.mem_map.mp hx
        have hi' := List.mem_range.mp hi
        have l1 : (f i).length = ((0 + (i : Int) + 1 + mix c 13 % 3).toNat) := by
          have e1 : (0 + (i : Int) + 1 + mix c 13 % 3) = (((0 + (i : Int) + 1 + mix c 13 % 3).toNat : Nat) : Int) := by omega
          show (Txt.slice st none (some (0 + (i : Int) + 1 + mix c 13 % 3))).length = _
          rw [e1]
          exact slice_pre_len hlen (by omega)
        exact ⟨hst.slice _ _, by omega, by omega⟩
  · walk_at "vc"
    refine ⟨_, rfl, signs_ok.2.2.2, fun D hD => comp_gen (n := 6) (fun i x => ∃ c, signs[i]? = some c ∧ x = .str ⟨#[c]⟩) hD (small (by decide)) ?_
      (fun i ys _ => ys = ((signs.take i).map (ware1 st pl.toNat sz.toNat)).map V.str) (fun σ => ∃ u, σ = [u, some (.str st), some (.int pl), some (.int sz)]) rfl ⟨_, rfl⟩ ?_ ?_⟩
    · intro i H2 sm
      obtain ⟨a1, a2, a3⟩ := hJ_str H' (Str.ofString "fbdace") i H2 sm
      exact ⟨a1, a2, fun x H3 hi y => by
        obtain ⟨e, ch, h1, h2⟩ := a3 x H3 hi y
        exact ⟨e, ch, by unfold signs; rw [Array.getElem?_toList]; exact h1, h2⟩⟩
    · rintro i x ys σ H2 R1 R0 hi ⟨ch, hch, rfl⟩ ⟨u, rfl⟩ sm hDl rfl k1 k0
      walk_at "vc"
      have epl : pl = ((pl.toNat : Nat) : Int) := by omega
      have esz : sz = ((sz.toNat : Nat) : Int) := by omega
      walk_at "vc"
      refine vc_slS hlS ?_
      have l1 : (Txt.slice st none (some pl)).length ≤ 8 := Nat.le_trans (Txt.slice_le _ _ _) (by omega)
      have l2 : (Txt.slice st (some pl) (some sz)).length ≤ 8 := Nat.le_trans (Txt.slice_le _ _ _) (by omega)
      walk_at "vc"
      refine vc_addS (small (by show _ + 1 ≤ 1000; omega)) ?_
      walk_at "vc"
      refine vc_slS hlS ?_
      have l3 : (Txt.slice st none (some pl) ++ (⟨#[ch]⟩ : Str)).length ≤ 9 := by
        rw [str_len, str_app, List.length_append, ← str_len]
        show _ + 1 ≤ 9
        omega
      refine vc_addS (small (by omega)) ?_
      refine k1 _ _ _ (Same.refl _) ⟨_, rfl⟩ ?_
      have e1 : signs.take (i + 1) = signs.take i ++ [ch] := by
        rw [List.take_add_one, hch]; rfl
      rw [e1, List.map_append, List.map_append]
      have e2 : ware1 st pl.toNat sz.toNat ch = Txt.slice st none (some pl) ++ ⟨#[ch]⟩ ++ Txt.slice st (some pl) (some sz) := by
        unfold ware1
        rw [← epl, ← esz]
      show _ = _ ++ [V.str (ware1 st pl.toNat sz.toNat ch)]
      rw [e2]
    · rintro ys H2 sm hDl hly rfl
      have e6 : signs.take 6 = signs := List.take_of_length_le (by rw [signs_ok.1]; exact Nat.le_refl _)
      rw [e6] at hDl
      have h1 : pl.toNat ≤ sz.toNat := by omega
      have h2 : sz.toNat ≤ 7 := by omega
      refine q D _ H2 hD sm hDl ⟨by rw [List.length_map]; exact signs_ok.1, ?_, fun x hx => ?_⟩
      · exact List.Pairwise.map _ (fun a b hab e => hab (ware1_inj hlen h1 h2 e)) signs_ok.2.1
      · obtain ⟨ch, hc, rfl⟩ := List.mem_map.mp hx
        have hl := ware1_len (c := ch) hlen h1 h2
        refine ⟨?_, by omega, by omega⟩
        have lc : Let (⟨#[ch]⟩ : Str) := fun y hy => by
          have e : y = ch := by simpa using hy
          rw [e]; exact signs_ok.2.2.1 ch hc
        exact ((hst.slice _ _).app lc).app (hst.slice _ _)
structure PairT where
  p : Nat
  q : Nat
  f : Bool
  k : Int
noncomputable def PairT.ix (e : PairT) : Nat := 6 * e.p + e.q
noncomputable def PairT.a (ws : List Str) (e : PairT) : Str := if e.f then ws.getD e.q (Str.ofString "") else ws.getD e.p (Str.ofString "")
noncomputable def PairT.b (ws : List Str) (e : PairT) : Str := if e.f then ws.getD e.p (Str.ofString "") else ws.getD e.q (Str.ofString "")
structure Pairs (es : List PairT) (m : Nat) : Prop where
  up : (es.map PairT.ix).Pairwise (· < ·)
  lt : ∀ e ∈ es, e.q < e.p ∧ e.p < 6 ∧ e.ix < m ∧ 0 ≤ e.k ∧ e.k ≤ 3
theorem Pairs.snoc {es : List PairT} {m : Nat} (h : Pairs es m) (e : PairT) (he : e.q < e.p) (hp : e.p < 6) (hm : e.ix = m) (h0 : 0 ≤ e.k) (h1 : e.k ≤ 3) : Pairs (es ++ [e]) (m + 1) := by
  refine ⟨?_, fun x hx => ?_⟩
  · rw [List.map_append, List.pairwise_append]
    refine ⟨h.up, by simp, fun x hx y hy => ?_⟩
    obtain ⟨z, hz, rfl⟩ := List.mem_map.mp hx
    rw [List.map_singleton, List.mem_singleton] at hy
    have := (h.lt z hz).2.2.1
    omega
  · rcases List.mem_append.mp hx with hx | hx
    · have := h.lt x hx
      exact ⟨this.1, this.2.1, by omega, this.2.2.2⟩
    · rw [List.mem_singleton] at hx
      subst hx
      exact ⟨he, hp, by omega, h0, h1⟩
theorem Pairs.mono {es : List PairT} {m n : Nat} (h : Pairs es m) (l : m ≤ n) : Pairs es n := ⟨h.up, fun e he => by
  have := h.lt e he
  exact ⟨this.1, this.2.1, by omega, this.2.2.2⟩⟩
open PySem.W in
noncomputable def thickD (ws : List Str) (e : PairT) : Dat := .tuple [.str (e.a ws), .str (e.b ws), .int e.k]
open PySem.W in
noncomputable def apartD (ws : List Str) (e : PairT) : Dat := .tuple [.str (e.a ws), .str (e.b ws)]
open PySem.W in
noncomputable def rowD (r : Int × Int) : Dat := .tuple [.int r.1, .int r.2]
structure Rows (d h : Int) (rs : List (Int × Int)) : Prop where
  up : ((0, 0) :: rs).Pairwise fun x y => x.1 < y.1 ∧ x.2 ≤ y.2
  all : ∀ r ∈ ((0, 0) :: rs : List (Int × Int)), r.1 ≤ d ∧ r.2 ≤ h
theorem Rows.snoc {d h d' h' : Int} {rs : List (Int × Int)} (R : Rows d h rs) (hd : d < d') (hh : h ≤ h') : Rows d' h' (rs ++ [(d', h')]) := by
  refine ⟨?_, fun r hr => ?_⟩
  · rw [← List.cons_append, List.pairwise_append]
    refine ⟨R.up, by simp, fun x hx y hy => ?_⟩
    have := R.all x hx
    rw [List.mem_singleton] at hy
    subst hy
    exact ⟨by show x.1 < d'; omega, by show x.2 ≤ h'; omega⟩
  · rw [← List.cons_append] at hr
    rcases List.mem_append.mp hr with hr | hr
    · have := R.all r hr
      omega
    · rw [List.mem_singleton] at hr
      subst hr
      exact ⟨Int.le_refl _, Int.le_refl _⟩
theorem step_le {d e M : Int} {i : Nat} (h : d ≤ (i : Int) * M) (h2 : e ≤ M) : d + e ≤ ((i + 1 : Nat) : Int) * M := by
  have : ((i + 1 : Nat) : Int) * M = (i : Int) * M + M := by rw [Int.natCast_add, Int.add_mul]; simp
  omega
structure FiveD where
  rooms : List Int
  rows : List (Int × Int)
  thick : List PairT
  apart : List PairT
  pig : Int × Int
structure FiveOk (most : Int) (d : FiveD) : Prop where
  r0 : 1 ≤ d.rooms.length
  r4 : d.rooms.length ≤ 4
  rr : ∀ r ∈ d.rooms, 1 ≤ r ∧ r ≤ most
  w3 : d.rows.length ≤ 3
  wu : ((0, 0) :: d.rows).Pairwise fun x y => x.1 < y.1 ∧ x.2 ≤ y.2
  wb : ∀ r ∈ d.rows, r.1 ≤ 3 * (most + 3) ∧ r.2 ≤ 6 * (most + 2)
  th : Pairs d.thick 36
  ap : Pairs d.apart 36
  pg : 0 ≤ d.pig.1 ∧ d.pig.1 ≤ 4 ∧ 4 ≤ d.pig.2 ∧ d.pig.2 ≤ 6
structure FiveAt (K : PySem.W.Frag) (H : Hp) (f a0 a1 a2 a3 a4 : Addr) (ws : List Str) (d : FiveD) : Prop where
  hf : H f = some (.lst [.ref a0, .ref a1, .ref a2, .ref a3, .ref a4])
  h0 : H a0 = some (.lst (d.rooms.map V.int))
  h1 : ∃ rs, H a1 = some (.lst rs) ∧ Reps K (hids [a0, a1, a2, a3] H) rs (d.rows.map rowD)
  h2 : ∃ rs, H a2 = some (.lst rs) ∧ Reps K (hids [a0, a1, a2, a3] H) rs (d.thick.map (thickD ws))
  h3 : ∃ rs, H a3 = some (.lst rs) ∧ Reps K (hids [a0, a1, a2, a3] H) rs (d.apart.map (apartD ws))
  h4 : H a4 = some (.tup [.int d.pig.1, .int d.pig.2])
  nd : [f, a0, a1, a2, a3].Nodup
inductive spFive_ (K : PySem.W.Frag) (vs : List V) (H : Hp) (Q : VK) : Prop where
  | mk (c most : Int) (lw : Addr) (ws : List Str) : (vs = [.int c, .ref lw, .int most]) → (SqL K H lw (ws.map V.str)) → (Wares ws) → (1 ≤ most) → (most ≤ 1000000) → (∀ (f a0 a1 a2 a3 a4 : Addr) (d : FiveD) (H' : Hp), (∀ a ∈ [f, a0, a1, a2, a3], H a = none) → Same H H' → FiveAt K H' f a0 a1 a2 a3 a4 ws d → FiveOk most d → (∀ rs, H' a3 = some (.lst rs) → ∀ (i : Nat) (e : PairT), d.apart[i]? = some e → ∃ b, rs[i]? = some (V.ref b) ∧ H' b = some (.tup [.str (e.a ws), .str (e.b ws)])) → Q (.ref f) H') → spFive_ K vs H Q
noncomputable def spFive (K : PySem.W.Frag) : Sp := fun vs H Q _ => spFive_ K vs H Q
theorem atW {ws : List Str} (h : ws.length = 6) {p : Nat} (hp : p < 6) : atI (ws.map V.str) (0 + (p : Int)) = some (.str (ws.getD p (Str.ofString ""))) := by
  have e : (0 + (p : Int)) = ((p : Nat) : Int) := by omega
  rw [e]
  refine atI_nat ?_
  rw [List.getElem?_map, List.getElem?_eq_getElem (by omega), List.getD_eq_getElem?_getD, List.getElem?_eq_getElem (by omega)]
  rfl
structure Two (K : PySem.W.Frag) (H H' : Hp) (a2 a3 : Addr) (ws : List Str) (ts as : List V) (th ap : List PairT) (m n : Nat) : Prop where
  h2 : H' a2 = some (.lst ts)
  h3 : H' a3 = some (.lst as)
  r2 : Reps K (hids [a2, a3] H') ts (th.map (thickD ws))
  r3 : Reps K (hids [a2, a3] H') as (ap.map (apartD ws))
  p2 : Pairs th m
  p3 : Pairs ap n
  l2 : th.length ≤ m
  l3 : ap.length ≤ n
  sm : Same (hids [a2, a3] H) (hids [a2, a3] H')
  t3 : ∀ (i : Nat) (e : PairT), ap[i]? = some e → ∃ b, as[i]? = some (V.ref b) ∧ hids [a2, a3] H' b = some (.tup [.str (e.a ws), .str (e.b ws)])
theorem Two.new {K : PySem.W.Frag} {H H' H'' : Hp} {a2 a3 : Addr} {ws : List Str} {ts as : List V} {th ap : List PairT} {m n : Nat} (W : Two K H H' a2 a3 ws ts as th ap m n) (e : Same H' H'') : Two K H H'' a2 a3 ws ts as th ap m n :=
  ⟨e _ _ W.h2, e _ _ W.h3, W.r2.same e.hids, W.r3.same e.hids, W.p2, W.p3, W.l2, W.l3, W.sm.trans e.hids, fun i f hf => by
    obtain ⟨b, e1, e2⟩ := W.t3 i f hf
    exact ⟨b, e1, e.hids _ _ e2⟩⟩
theorem Two.mono {K : PySem.W.Frag} {H H' : Hp} {a2 a3 : Addr} {ws : List Str} {ts as : List V} {th ap : List PairT} {m n m' n' : Nat} (W : Two K H H' a2 a3 ws ts as th ap m n) (e : m ≤ m') (e' : n ≤ n') : Two K H H' a2 a3 ws ts as th ap m' n' :=
  ⟨W.h2, W.h3, W.r2, W.r3, W.p2.mono e, W.p3.mono e', Nat.le_trans W.l2 e, Nat.le_trans W.l3 e', W.sm, W.t3⟩
theorem Two.add2 {K : PySem.W.Frag} {H H' : Hp} {a2 a3 p : Addr} {ws : List Str} {ts as : List V} {th ap : List PairT} {m n : Nat} (W : Two K H H' a2 a3 ws ts as th ap m n) (ne : a2 ≠ a3) (e : PairT) (hp : Rep K (hids [a2, a3] H') (.ref p) (thickD ws e))
    (he : e.q < e.p) (h6 : e.p < 6) (hm : e.ix = m) (k0 : 0 ≤ e.k) (k1 : e.k ≤ 3) : Two K H (upd H' a2 (.lst (ts ++ [.ref p]))) a2 a3 ws (ts ++ [.ref p]) as (th ++ [e]) ap (m + 1) n := by
  have m2 : a2 ∈ [a2, a3] := by simp
  refine ⟨upd_same, by rw [upd_ne ne.symm]; exact W.h3, ?_, by rw [hids_upd m2]; exact W.r3, W.p2.snoc e he h6 hm k0 k1, W.p3, ?_, W.l3, by rw [hids_upd m2]; exact W.sm, by rw [hids_upd m2]; exact W.t3⟩
  · rw [hids_upd m2, List.map_append]
    exact W.r2.append (.one hp)
  · have := W.l2
    rw [List.length_append, List.length_singleton]
    omega
theorem Two.add3 {K : PySem.W.Frag} {H H' : Hp} {a2 a3 p : Addr} {ws : List Str} {ts as : List V} {th ap : List PairT} {m n : Nat} (W : Two K H H' a2 a3 ws ts as th ap m n) (ne : a2 ≠ a3) (e : PairT) (hp : Rep K (hids [a2, a3] H') (.ref p) (apartD ws e)) (hpt : hids [a2, a3] H' p = some (.tup [.str (e.a ws), .str (e.b ws)]))
    (he : e.q < e.p) (h6 : e.p < 6) (hm : e.ix = n) (k0 : 0 ≤ e.k) (k1 : e.k ≤ 3) : Two K H (upd H' a3 (.lst (as ++ [.ref p]))) a2 a3 ws ts (as ++ [.ref p]) th (ap ++ [e]) m (n + 1) := by
  have m3 : a3 ∈ [a2, a3] := by simp
  refine ⟨by rw [upd_ne ne]; exact W.h2, upd_same, by rw [hids_upd m3]; exact W.r2, ?_, W.p2, W.p3.snoc e he h6 hm k0 k1, W.l2, ?_, by rw [hids_upd m3]; exact W.sm, ?_⟩
  · rw [hids_upd m3, List.map_append]
    exact W.r3.append (.one hp)
  · have := W.l3
    rw [List.length_append, List.length_singleton]
    omega
  · rw [hids_upd m3]
    intro i f hf
    have hla : as.length = ap.length := by rw [W.r3.length, List.length_map]
    by_cases hlt : i < ap.length
    · rw [List.getElem?_append_left hlt] at hf
      obtain ⟨b, e1, e2⟩ := W.t3 i f hf
      exact ⟨b, by rw [List.getElem?_append_left (by omega)]; exact e1, e2⟩
    · have hl := (List.getElem?_eq_some_iff.mp hf).1
      rw [List.length_append, List.length_singleton] at hl
      have ei : i = ap.length := by omega
      subst ei
      rw [List.getElem?_append_right (Nat.le_refl _), Nat.sub_self] at hf
      have ef : e = f := Option.some.inj hf
      subst ef
      exact ⟨p, by rw [← hla, List.getElem?_append_right (Nat.le_refl _), Nat.sub_self]; rfl, hpt⟩
theorem Two.outT {K : PySem.W.Frag} {H H' : Hp} {a2 a3 p : Addr} {ws : List Str} {ts as xs : List V} {th ap : List PairT} {m n : Nat} (W : Two K H H' a2 a3 ws ts as th ap m n) (h : H' p = some (.tup xs)) : p ∉ [a2, a3] := by
  simp only [List.mem_cons, List.not_mem_nil, or_false]
  rintro (rfl | rfl)
  · rw [W.h2] at h; cases h
  · rw [W.h3] at h; cases h
theorem noL_thick (ws : List Str) (e : PairT) : noL (thickD ws e) = true := rfl
theorem noL_apart (ws : List Str) (e : PairT) : noL (apartD ws e) = true := rfl
theorem noL_row (r : Int × Int) : noL (rowD r) = true := rfl
theorem ok_l_five (T : Txt K mg t) : FnOk P w K mg base CX0 2 t.f_l_five t.d_l_five ["_law_cell", "_law_wares_here", "_law_most"] (spFive K) := by
  have G_l_mix := ok_l_mix (P := P) (w := w) (base := base) T
  refine T.F_l_five.ok sc_l_five (fun vs H Q E h => ?_) (fun cdv A outer s H vs Q E hr h => ?_)
  · obtain ⟨c, most, lw, ws, rfl, _⟩ := h
    rfl
  obtain ⟨c, most, lw, ws, rfl, hlw, hws, hm1, hm2, q⟩ := h
  refine ⟨_, (pss_cons (ps_setComp (i := 3) ["_law_k", "_law_most", "_law_cell"] [none, some 2, some 0] rfl sc_l_five.nd rfl (VOk.at qv_l_five (i := 3) rfl).2 (pi_range1 (qgl qg_l_five 0 rfl rfl) T.z_range (pa_cons (pe_op op_add pe_int (pe_op op_mod (q_call G_l_mix (hr.mono (by first | decide | omega)) qg_l_five 1 rfl rfl T.m_l_mix T.F_l_mix.kp T.b_l_mix .nil pass0 (pa_cons (qv qv_l_five 0 rfl rfl rfl) (pa_cons pe_int pa_nil))) pe_int)) pa_nil)) (fun _ _ _ _ => (pg_name (i := 0) (show (["_law_k", "_law_most", "_law_cell"] : List Str).Nodup by decide +kernel) rfl (Or.inl rfl))) (fun _ _ _ _ => pts_nil) (fun _ _ _ _ => (pe_op op_add pe_int (pe_op op_mod (pe_call G_l_mix (hr.mono (by decide)) rfl T.m_l_mix T.F_l_mix.kp T.b_l_mix .nil pass0 (pa_cons (pv 2) (pa_cons (pe_op op_add pe_int (pv 0)) pa_nil))) (pv 1)))) rfl rfl)
      (pss_cons (q_set (i := 4) qv_l_five sc_l_five.nd rfl rfl rfl (pe_lst pa_nil))
      (pss_cons (q_set (i := 5) qv_l_five sc_l_five.nd rfl rfl rfl pe_int)
      (pss_cons (q_set (i := 6) qv_l_five sc_l_five.nd rfl rfl rfl pe_int)
      (pss_cons (ps_for PassesOwn.never rfl (pi_range1 (qgl qg_l_five 0 rfl rfl) T.z_range (pa_cons (pe_op op_mod (q_call G_l_mix (hr.mono (by first | decide | omega)) qg_l_five 1 rfl rfl T.m_l_mix T.F_l_mix.kp T.b_l_mix .nil pass0 (pa_cons (qv qv_l_five 0 rfl rfl rfl) (pa_cons pe_int pa_nil))) pe_int) pa_nil)) (q_name (i := 7) qv_l_five sc_l_five.nd rfl rfl rfl) (pss_cons (q_set (i := 5) qv_l_five sc_l_five.nd rfl rfl rfl (pe_op op_add (pe_op op_add (qv qv_l_five 5 rfl rfl rfl) pe_int) (pe_op op_mod (q_call G_l_mix (hr.mono (by first | decide | omega)) qg_l_five 1 rfl rfl T.m_l_mix T.F_l_mix.kp T.b_l_mix .nil pass0 (pa_cons (qv qv_l_five 0 rfl rfl rfl) (pa_cons (pe_op op_add pe_int (qv qv_l_five 7 rfl rfl rfl)) pa_nil))) (pe_op op_add (pe_op op_fdiv (qv qv_l_five 2 rfl rfl rfl) pe_int) pe_int))))
      (pss_cons (q_set (i := 6) qv_l_five sc_l_five.nd rfl rfl rfl (pe_op op_add (qv qv_l_five 6 rfl rfl rfl) (pe_op op_mul (pe_op op_mod (q_call G_l_mix (hr.mono (by first | decide | omega)) qg_l_five 1 rfl rfl T.m_l_mix T.F_l_mix.kp T.b_l_mix .nil pass0 (pa_cons (qv qv_l_five 0 rfl rfl rfl) (pa_cons (pe_op op_add pe_int (qv qv_l_five 7 rfl rfl rfl)) pa_nil))) pe_int) (pe_op op_mod (q_call G_l_mix (hr.mono (by first | decide | omega)) qg_l_five 1 rfl rfl T.m_l_mix T.F_l_mix.kp T.b_l_mix .nil pass0 (pa_cons (qv qv_l_five 0 rfl rfl rfl) (pa_cons (pe_op op_add pe_int (qv qv_l_five 7 rfl rfl rfl)) pa_nil))) (pe_op op_add (pe_op op_fdiv (qv qv_l_five 2 rfl rfl rfl) pe_int) pe_int)))))
      (pss_one (ps_expr (pe_bm PySem.F.plainAttrs_list PySem.F.slot_list_append PySem.F.type_list_append mt_appendR (qv qv_l_five 4 rfl rfl rfl) (pa_cons (pe_tup (pa_cons (qv qv_l_five 5 rfl rfl rfl) (pa_cons (qv qv_l_five 6 rfl rfl rfl) pa_nil))) pa_nil)))))))
      (pss_cons (q_set (i := 8) qv_l_five sc_l_five.nd rfl rfl rfl (pe_lst pa_nil))
      (pss_cons (q_set (i := 9) qv_l_five sc_l_five.nd rfl rfl rfl (pe_lst pa_nil))
      (pss_cons (ps_for PassesOwn.never rfl (pi_range1 (qgl qg_l_five 0 rfl rfl) T.z_range (pa_cons pe_int pa_nil)) (q_name (i := 10) qv_l_five sc_l_five.nd rfl rfl rfl) (pss_one (ps_for PassesOwn.never rfl (pi_range1 (qgl qg_l_five 0 rfl rfl) T.z_range (pa_cons (qv qv_l_five 10 rfl rfl rfl) pa_nil)) (q_name (i := 11) qv_l_five sc_l_five.nd rfl rfl rfl) (pss_cons (q_set (i := 12) qv_l_five sc_l_five.nd rfl rfl rfl (q_call G_l_mix (hr.mono (by first | decide | omega)) qg_l_five 1 rfl rfl T.m_l_mix T.F_l_mix.kp T.b_l_mix .nil pass0 (pa_cons (qv qv_l_five 0 rfl rfl rfl) (pa_cons (pe_op op_add (pe_op op_add pe_int (pe_op op_mul pe_int (qv qv_l_five 10 rfl rfl rfl))) (qv qv_l_five 11 rfl rfl rfl)) pa_nil))))
      (pss_cons (q_set (i := 13) qv_l_five sc_l_five.nd rfl rfl rfl (pe_ix ix_list (pe_lst (pa_cons (pe_tup (pa_cons (pe_ix ix_list (qv qv_l_five 1 rfl rfl rfl) (qv qv_l_five 10 rfl rfl rfl) (fun _ _ => rfl)) (pa_cons (pe_ix ix_list (qv qv_l_five 1 rfl rfl rfl) (qv qv_l_five 11 rfl rfl rfl) (fun _ _ => rfl)) pa_nil))) (pa_cons (pe_tup (pa_cons (pe_ix ix_list (qv qv_l_five 1 rfl rfl rfl) (qv qv_l_five 11 rfl rfl rfl) (fun _ _ => rfl)) (pa_cons (pe_ix ix_list (qv qv_l_five 1 rfl rfl rfl) (qv qv_l_five 10 rfl rfl rfl) (fun _ _ => rfl)) pa_nil))) pa_nil))) (pe_op op_mod (qv qv_l_five 12 rfl rfl rfl) pe_int) (fun _ _ => rfl)))
      (pss_cons (ps_if (pt_cmpR op_eq (pe_op op_mod (pe_op op_fdiv (qv qv_l_five 12 rfl rfl rfl) pe_int) pe_int) pe_int (nomark _)) (pss_one (ps_expr (pe_bm PySem.F.plainAttrs_list PySem.F.slot_list_append PySem.F.type_list_append mt_appendR (qv qv_l_five 8 rfl rfl rfl) (pa_cons (pe_op op_catT (qv qv_l_five 13 rfl rfl rfl) (pe_tup (pa_cons (pe_op op_mod (pe_op op_fdiv (qv qv_l_five 12 rfl rfl rfl) pe_int) pe_int) pa_nil))) pa_nil)))) pss_nil)
      (pss_one (ps_if (pt_cmpR op_eq (pe_op op_mod (pe_op op_fdiv (qv qv_l_five 12 rfl rfl rfl) pe_int) pe_int) pe_int (nomark _)) (pss_one (ps_expr (pe_bm PySem.F.plainAttrs_list PySem.F.slot_list_append PySem.F.type_list_append mt_appendR (qv qv_l_five 9 rfl rfl rfl) (pa_cons (qv qv_l_five 13 rfl rfl rfl) pa_nil)))) pss_nil))))))))
      (pss_cons (q_set (i := 14) qv_l_five sc_l_five.nd rfl rfl rfl (pe_tup (pa_cons (pe_op op_mod (q_call G_l_mix (hr.mono (by first | decide | omega)) qg_l_five 1 rfl rfl T.m_l_mix T.F_l_mix.kp T.b_l_mix .nil pass0 (pa_cons (qv qv_l_five 0 rfl rfl rfl) (pa_cons pe_int pa_nil))) pe_int) (pa_cons (pe_op op_add pe_int (pe_op op_mod (q_call G_l_mix (hr.mono (by first | decide | omega)) qg_l_five 1 rfl rfl T.m_l_mix T.F_l_mix.kp T.b_l_mix .nil pass0 (pa_cons (qv qv_l_five 0 rfl rfl rfl) (pa_cons pe_int pa_nil))) pe_int)) pa_nil))))
      (pss_one (ps_ret (pe_lst (pa_cons (qv qv_l_five 3 rfl rfl rfl) (pa_cons (qv qv_l_five 4 rfl rfl rfl) (pa_cons (qv qv_l_five 8 rfl rfl rfl) (pa_cons (qv qv_l_five 9 rfl rfl rfl) (pa_cons (qv qv_l_five 14 rfl rfl rfl) pa_nil))))))))))))))))), ?_⟩
  walk_at "vc"
  have m4a : 0 ≤ mix c 19 % 4 := Int.emod_nonneg _ (by decide)
  have m4b : mix c 19 % 4 < 4 := Int.emod_lt_of_pos _ (by decide)
  refine ⟨1 + mix c 19 % 4, rfl, by omega, by omega, fun a0 ha0 => comp_gen (n := (1 + mix c 19 % 4).toNat) (fun i x => x = .int (0 + (i : Int))) ha0 (small (by omega)) (hJ_rng _ _ _)
    (fun i ys _ => ∃ ns : List Int, ys = ns.map V.int ∧ ns.length = i ∧ ∀ r ∈ ns, 1 ≤ r ∧ r ≤ most) (fun σ => ∃ u, σ = [u, some (.int most), some (.int c)]) ⟨[], rfl, rfl, by simp⟩ ⟨_, rfl⟩ ?_ ?_⟩
  · rintro i x ys σ H2 R1 R0 hi rfl ⟨u, rfl⟩ sm hDl ⟨ns, rfl, hl, hns⟩ k1 k0
    walk_at "vc"
    refine k1 _ _ _ (Same.refl _) ⟨_, rfl⟩ ⟨ns ++ [1 + mix c (20 + (0 + (i : Int))) % most], by rw [List.map_append]; rfl, by simp [hl], fun r hr => ?_⟩
    rcases List.mem_append.mp hr with hr | hr
    · exact hns r hr
    · rw [List.mem_singleton] at hr
      have a := Int.emod_nonneg (mix c (20 + (0 + (i : Int)))) (show most ≠ 0 by omega)
      have b := Int.emod_lt_of_pos (mix c (20 + (0 + (i : Int)))) (show 0 < most by omega)
      omega
  rintro ys H1 sm1 hDl hly ⟨rooms, rfl, hrl, hrr⟩
  walk_at "vc"
  refine ⟨Nat.zero_le _, fun a1 ha1 => ?_⟩
  walk_at "vc"
  have k4a : 0 ≤ mix c 30 % 4 := Int.emod_nonneg _ (by decide)
  have k4b : mix c 30 % 4 < 4 := Int.emod_lt_of_pos _ (by decide)
  have n01 : a0 ≠ a1 := ne_of_none hDl ha1
  refine ⟨_, rfl, by omega, by omega, for_range (n := (mix c 30 % 4).toNat) (fun i σ H' => ∃ (rs : List V) (rows : List (Int × Int)) (d h : Int) (u : Option V),
      σ = [some (.int c), some (.ref lw), some (.int most), some (.ref a0), some (.ref a1), some (.int d), some (.int h), u, none, none, none, none, none, none, none] ∧
      H' a1 = some (.lst rs) ∧ Reps K (hids [a1] H') rs (rows.map rowD) ∧ Rows d h rows ∧ rows.length = i ∧ d ≤ (i : Int) * (most + 3) ∧ h ≤ (i : Int) * (2 * (most + 2)) ∧ Same (hids [a1] H1) (hids [a1] H'))
    ⟨[], [], 0, 0, _, rfl, upd_same, .nil, ⟨by simp, by simp⟩, rfl, by omega, by omega, by rw [hids_upd (List.mem_singleton.mpr rfl)]; exact Same.refl _⟩ ?_ ?_⟩
  · rintro i σ H' hi ⟨rs, rows, d, h, u, rfl, hl1, hR, hRows, hlen, hd, hh, hsm⟩
    have q2 : 0 < most / 2 + 2 := by omega
    have q4 : 0 < most / 4 + 2 := by omega
    walk_at "vc"
    refine ⟨tyV_list (SqL.of hl1), ?_⟩
    walk_at "vc"
    refine ⟨(by show 2 ≤ sizeLine; decide), fun p hp => ?_⟩
    walk_at "vc"
    have npa : p ∉ [a1] := by simpa using (ne_of_none hl1 hp).symm
    have hrl2 := hR.length
    rw [List.length_map] at hrl2
    refine vc_append (K := K) (upd_keep hp hl1) (small1000 (by omega)) ?_
    have x1 := Int.emod_nonneg (mix c (31 + (0 + (i : Int)))) (show most / 2 + 2 ≠ 0 by omega)
    have x2 := Int.emod_lt_of_pos (mix c (31 + (0 + (i : Int)))) q2
    have y1 := Int.emod_nonneg (mix c (51 + (0 + (i : Int)))) (show most / 4 + 2 ≠ 0 by omega)
    have y2 := Int.emod_lt_of_pos (mix c (51 + (0 + (i : Int)))) q4
    have z1 := Int.emod_nonneg (mix c (41 + (0 + (i : Int)))) (show (3 : Int) ≠ 0 by decide)
    have z2 := Int.emod_lt_of_pos (mix c (41 + (0 + (i : Int)))) (show (0 : Int) < 3 by decide)
    have hw : 0 ≤ mix c (41 + (0 + (i : Int))) % 3 * (mix c (51 + (0 + (i : Int))) % (most / 4 + 2)) ∧ mix c (41 + (0 + (i : Int))) % 3 * (mix c (51 + (0 + (i : Int))) % (most / 4 + 2)) ≤ 2 * (most + 2) := by
      refine ⟨Int.mul_nonneg z1 y1, ?_⟩
      have := Int.mul_le_mul (show mix c (41 + (0 + (i : Int))) % 3 ≤ 2 by omega) (show mix c (51 + (0 + (i : Int))) % (most / 4 + 2) ≤ most + 2 by omega) y1 (by decide : (0 : Int) ≤ 2)
      exact this
    generalize mix c (41 + (0 + (i : Int))) % 3 * (mix c (51 + (0 + (i : Int))) % (most / 4 + 2)) = dh at *
    generalize mix c (31 + (0 + (i : Int))) % (most / 2 + 2) = dd at *
    have hs2 : Same (hids [a1] H') (hids [a1] (upd H' p (.tup [.int (d + 1 + dd), .int (h + dh)]))) := (same_new hp _).hids
    refine ⟨rs ++ [.ref p], rows ++ [(d + 1 + dd, h + dh)], d + 1 + dd, h + dh, _, rfl, upd_same, ?_, hRows.snoc (by omega) (by omega), by simp [hlen], ?_, step_le hh hw.2, ?_⟩
    · rw [hids_upd (List.mem_singleton.mpr rfl), List.map_append]
      exact (hR.same hs2).append (.one (.tup (SqT.of (show hids [a1] _ p = _ by rw [hids_at npa]; exact upd_same)) (.cons (.int _) (.cons (.int _) .nil))))
    · have := step_le (e := 1 + dd) hd (by omega)
      omega
    · have e := @hids_upd [a1] a1 (upd H' p (.tup [.int (d + 1 + dd), .int (h + dh)])) (.lst (rs ++ [.ref p])) (List.mem_singleton.mpr rfl)
      rw [e]
      exact hsm.trans hs2
  rintro σ H2 ⟨rs, rows, d, h, u, rfl, hl1, hR, hRows, hlen, hd, hh, hsm⟩
  walk_at "vc"
  refine ⟨Nat.zero_le _, fun a2 ha2 => ?_⟩
  walk_at "vc"
  refine ⟨Nat.zero_le _, fun a3 ha3 => ?_⟩
  walk_at "vc"
  have n23 : a2 ≠ a3 := ne_of_none upd_same ha3
  have ha3' : H2 a3 = none := by rw [upd_ne n23.symm] at ha3; exact ha3
  have s12 : Same H1 H2 := hsm.out (by simpa using ha1)
  have s02 : Same H H2 := sm1.trans s12
  have hl0 : H2 a0 = some (.lst (rooms.map V.int)) := s12 _ _ hDl
  have m2 : a2 ∈ [a2, a3] := by simp
  have m3 : a3 ∈ [a2, a3] := by simp
  refine ⟨_, rfl, by decide, by decide, for_range (n := 6) (fun i σ H' => ∃ (ts as : List V) (th ap : List PairT) (u1 u2 u3 u4 u5 : Option V),
      σ = [some (.int c), some (.ref lw), some (.int most), some (.ref a0), some (.ref a1), some (.int d), some (.int h), u1, some (.ref a2), some (.ref a3), u2, u3, u4, u5, none] ∧ Two K H2 H' a2 a3 ws ts as th ap (6 * i) (6 * i))
    ⟨[], [], [], [], _, _, _, _, _, rfl, ⟨by rw [upd_ne n23]; exact upd_same, upd_same, .nil, .nil, ⟨by simp, by simp⟩, ⟨by simp, by simp⟩, by simp, by simp, by rw [hids_upd m3, hids_upd m2]; exact Same.refl _, by simp⟩⟩ ?_ ?_⟩
  · rintro i σ H' hi ⟨ts, as, th, ap, u1, u2, u3, u4, u5, rfl, W⟩
    walk_at "vc"
    refine ⟨_, rfl, by omega, by omega, for_range (n := (0 + (i : Int)).toNat) (fun j σ H' => ∃ (ts as : List V) (th ap : List PairT) (u1 u3 u4 u5 : Option V),
      σ = [some (.int c), some (.ref lw), some (.int most), some (.ref a0), some (.ref a1), some (.int d), some (.int h), u1, some (.ref a2), some (.ref a3), some (.int (0 + (i : Int))), u3, u4, u5, none] ∧ Two K H2 H' a2 a3 ws ts as th ap (6 * i + j) (6 * i + j))
      ⟨ts, as, th, ap, _, _, _, _, rfl, W⟩ ?_ ?_⟩
    rotate_left
    · rintro σ H' ⟨ts, as, th, ap, u1, u3, u4, u5, rfl, W⟩
      exact ⟨ts, as, th, ap, _, _, _, _, _, rfl, W.mono (by omega) (by omega)⟩
    rintro j σ H' hj ⟨ts, as, th, ap, u1, u3, u4, u5, rfl, W⟩
    have hj' : j < i := by omega
    have sH' : Same H H' := s02.trans (W.sm.out (by simp only [List.mem_cons, List.not_mem_nil, or_false]; rintro a (rfl | rfl) <;> assumption))
    have hlw1 := sH'.seq hlw
    walk_at "vc"
    refine vc_ixL hlw1 (atW hws.len hi) ?_
    walk_at "vc"
    refine vc_ixL hlw1 (atW hws.len (by omega)) ?_
    walk_at "vc"
    refine ⟨(by show 2 ≤ sizeLine; decide), fun t1 ht1 => ?_⟩
    walk_at "vc"
    refine vc_ixL ((same_new ht1 _).seq hlw1) (atW hws.len (by omega)) ?_
    walk_at "vc"
    refine vc_ixL ((same_new ht1 _).seq hlw1) (atW hws.len hi) ?_
    walk_at "vc"
    refine ⟨(by show 2 ≤ sizeLine; decide), fun t2 ht2 => ?_⟩
    walk_at "vc"
    refine ⟨(by show 2 ≤ sizeLine; decide), fun l3 hl3 => ?_⟩
    walk_at "vc"
    generalize ho : mix c (60 + 6 * (0 + (i : Int)) + (0 + (j : Int))) = o
    have o0 : 0 ≤ o := ho ▸ mix_nonneg _ _
    generalize hHe : upd (upd (upd H' t1 (.tup [.str (ws.getD i (Str.ofString "")), .str (ws.getD j (Str.ofString ""))])) t2 (.tup [.str (ws.getD j (Str.ofString "")), .str (ws.getD i (Str.ofString ""))])) l3 (.lst [.ref t1, .ref t2]) = He
    have sHe : Same H' He := hHe ▸ (same_new ht1 _).trans ((same_new ht2 _).trans (same_new hl3 _))
    have We := W.new sHe
    have hlist : He l3 = some (.lst [.ref t1, .ref t2]) := hHe ▸ upd_same
    have hpair : ∃ (f : Bool) (tp : Addr), atI [V.ref t1, V.ref t2] (o % 2) = some (.ref tp) ∧ He tp = some (.tup [.str (PairT.a ws ⟨i, j, f, 0⟩), .str (PairT.b ws ⟨i, j, f, 0⟩)]) := by
      rcases (by omega : o % 2 = 0 ∨ o % 2 = 1) with e | e
      · exact ⟨false, t1, by rw [e]; rfl, hHe ▸ upd_keep hl3 (upd_keep ht2 upd_same)⟩
      · exact ⟨true, t2, by rw [e]; rfl, hHe ▸ upd_keep hl3 upd_same⟩
    obtain ⟨f, tp, hat, htp⟩ := hpair
    refine vc_ixL (SqL.of hlist) hat ?_
    walk_at "vcs"
    with_reducible refine tSeq.join (fun σ H'' => ∃ (ts : List V) (th : List PairT), σ = [some (.int c), some (.ref lw), some (.int most), some (.ref a0), some (.ref a1), some (.int d), some (.int h), u1, some (.ref a2), some (.ref a3), some (.int (0 + (i : Int))), some (.int (0 + (j : Int))), some (.int o), some (.ref tp), none] ∧
      Two K H2 H'' a2 a3 ws ts as th ap (6 * i + j + 1) (6 * i + j) ∧ H'' tp = some (.tup [.str (PairT.a ws ⟨i, j, f, 0⟩), .str (PairT.b ws ⟨i, j, f, 0⟩)])) (fun R k => ?_) ?_
    · walk_at "vc"
      refine ite2 (fun z => ?_) (fun z => ?_)
      · walk_at "vc"
        refine ⟨tyV_list (SqL.of We.h2), ?_⟩
        walk_at "vc"
        refine ⟨(by show 1 ≤ sizeLine; decide), fun p1 hp1 => ?_⟩
        walk_at "vc"
        refine vc_catT (SqT.of (upd_keep hp1 htp)) (SqT.of upd_same) (by simp) (by simp) (by show 3 ≤ sizeLine; decide) fun p2 hp2 => ?_
        have sn := (same_new hp1 (.tup [.int (o / 6 % 4)])).trans (same_new hp2 (.tup [.str (PairT.a ws ⟨i, j, f, 0⟩), .str (PairT.b ws ⟨i, j, f, 0⟩), .int (o / 6 % 4)]))
        have Wn := We.new sn
        have hl := Wn.r2.length
        rw [List.length_map] at hl
        have hl2 := Wn.l2
        walk_at "vc"
        refine vc_append (K := K) Wn.h2 (small1000 (by omega)) ?_
        have np2 : p2 ∉ [a2, a3] := Wn.outT (xs := [.str (PairT.a ws ⟨i, j, f, 0⟩), .str (PairT.b ws ⟨i, j, f, 0⟩), .int (o / 6 % 4)]) upd_same
        refine k _ _ ⟨_, _, rfl, Wn.add2 n23 ⟨i, j, f, o / 6 % 4⟩ ?_ hj' hi rfl (by show 0 ≤ o / 6 % 4; omega) (by show o / 6 % 4 ≤ 3; omega), ?_⟩
        · exact .tup (SqT.of (by rw [hids_at np2]; exact upd_same)) (.cons (.str _) (.cons (.str _) (.cons (.int _) .nil)))
        · have n2 : tp ≠ a2 := fun e => We.outT htp (by simp [e])
          rw [upd_ne n2]
          exact sn _ _ htp
      · exact k _ _ ⟨_, _, rfl, We.mono (by omega) (by omega), htp⟩
    rintro σ H3 ⟨ts3, th3, rfl, W3, htp3⟩
    walk_at "vc"
    refine ite2 (fun z => ?_) (fun z => ?_)
    · walk_at "vc"
      refine ⟨tyV_list (SqL.of W3.h3), ?_⟩
      walk_at "vc"
      have hl := W3.r3.length
      rw [List.length_map] at hl
      have hl2 := W3.l3
      refine vc_append (K := K) W3.h3 (small1000 (by omega)) ?_
      refine ⟨_, _, _, _, _, _, _, _, rfl, W3.add3 n23 ⟨i, j, f, 0⟩ ?_ (by rw [hids_at (W3.outT htp3)]; exact htp3) hj' hi rfl (by show (0 : Int) ≤ 0; decide) (by show (0 : Int) ≤ 3; decide)⟩
      exact .tup (SqT.of (by rw [hids_at (W3.outT htp3)]; exact htp3)) (.cons (.str _) (.cons (.str _) .nil))
    · exact ⟨_, _, _, _, _, _, _, _, rfl, W3.mono (by omega) (by omega)⟩
  rintro σ H3 ⟨ts, as, th, ap, u1, u2, u3, u4, u5, rfl, W⟩
  have hl1' : H2 a1 = some (.lst rs) := hl1
  have b1 := Int.emod_nonneg (mix c 100) (show (5 : Int) ≠ 0 by decide)
  walk_at "vc"
  refine ⟨(by show 2 ≤ sizeLine; decide), fun a4 ha4 => ?_⟩
  walk_at "vc"
  refine ⟨(by show 5 ≤ sizeLine; decide), fun f hf => ?_⟩
  have hl0' : H3 a0 = some (.lst (rooms.map V.int)) := by
    have n2 : a0 ∉ [a2, a3] := by
      simp only [List.mem_cons, List.not_mem_nil, or_false]
      rintro (rfl | rfl)
      · rw [ha2] at hl0; cases hl0
      · rw [ha3'] at hl0; cases hl0
    have := W.sm a0 _ (by rw [hids_at n2]; exact hl0)
    rw [hids_at n2] at this
    exact this
  have hl1'' : H3 a1 = some (.lst rs) := by
    have n2 : a1 ∉ [a2, a3] := by
      simp only [List.mem_cons, List.not_mem_nil, or_false]
      rintro (rfl | rfl)
      · rw [ha2] at hl1; cases hl1
      · rw [ha3'] at hl1; cases hl1
    have := W.sm a1 _ (by rw [hids_at n2]; exact hl1)
    rw [hids_at n2] at this
    exact this
  have e02 : a0 ≠ a2 := ne_of_none hl0 ha2
  have e03 : a0 ≠ a3 := ne_of_none hl0 ha3'
  have e12 : a1 ≠ a2 := ne_of_none hl1 ha2
  have e13 : a1 ≠ a3 := ne_of_none hl1 ha3'
  have s23 : Same H2 H3 := W.sm.out (by simp only [List.mem_cons, List.not_mem_nil, or_false]; rintro a (rfl | rfl) <;> assumption)
  generalize hHf : upd (upd H3 a4 (.tup [.int (mix c 100 % 5), .int (4 + mix c 101 % 3)])) f (.lst [.ref a0, .ref a1, .ref a2, .ref a3, .ref a4]) = Hf
  have s3f : Same H3 Hf := hHf ▸ (same_new ha4 _).trans (same_new hf _)
  have hfree : H3 f = none := (same_new ha4 _).free hf
  have f0 : f ≠ a0 := (ne_of_none hl0' hfree).symm
  have f1 : f ≠ a1 := (ne_of_none hl1'' hfree).symm
  have f2 : f ≠ a2 := (ne_of_none W.h2 hfree).symm
  have f3 : f ≠ a3 := (ne_of_none W.h3 hfree).symm
  have out4 : ∀ {b : Addr}, b ≠ a0 → b ≠ a1 → b ≠ a2 → b ≠ a3 → b ∉ [a0, a1, a2, a3] := fun x0 x1 x2 x3 => by simp [x0, x1, x2, x3]
  have T3 : SameT (hids [a2, a3] H3) (hids [a0, a1, a2, a3] Hf) := fun b o ⟨xs, r⟩ ho => by
    have r3 : Rd H3 b (.tup xs) := r.up (hids_same _ _)
    rw [hids_at (out4 (Rd.lst_ne hl0' r3) (Rd.lst_ne hl1'' r3) (Rd.lst_ne W.h2 r3) (Rd.lst_ne W.h3 r3))]
    exact s3f _ _ (hids_same _ _ _ _ ho)
  have T2 : SameT (hids [a1] H2) (hids [a0, a1, a2, a3] Hf) := fun b o ⟨xs, r⟩ ho => by
    have r2 : Rd H2 b (.tup xs) := r.up (hids_same _ _)
    have r3 : Rd H3 b (.tup xs) := r2.up s23
    rw [hids_at (out4 (Rd.lst_ne hl0' r3) (Rd.lst_ne hl1'' r3) (Rd.lst_ne W.h2 r3) (Rd.lst_ne W.h3 r3))]
    exact s3f _ _ (s23 _ _ (hids_same _ _ _ _ ho))
  have hn4 : (mix c 30 % 4).toNat ≤ 3 := by omega
  have hM : 0 ≤ most + 3 := by omega
  refine q f a0 a1 a2 a3 a4 ⟨rooms, rows, th, ap, (mix c 100 % 5, 4 + mix c 101 % 3)⟩ Hf ?_ ((s02.trans s23).trans s3f) ⟨hHf ▸ upd_same, s3f _ _ hl0', ⟨rs, s3f _ _ hl1'', hR.sameT T2 (noLs_map noL_row _)⟩, ⟨ts, s3f _ _ W.h2, W.r2.sameT T3 (noLs_map (noL_thick ws) _)⟩,
    ⟨as, s3f _ _ W.h3, W.r3.sameT T3 (noLs_map (noL_apart ws) _)⟩, hHf ▸ upd_keep hf upd_same, ?_⟩ ?_ ?_
  · simp only [List.mem_cons, List.not_mem_nil, or_false]
    rintro a (rfl | rfl | rfl | rfl | rfl)
    · exact (s02.trans s23).free hfree
    · exact ha0
    · exact sm1.free ha1
    · exact s02.free ha2
    · exact s02.free ha3'
  · simp [f0, f1, f2, f3, n01, e02, e03, e12, e13, n23]
  · refine ⟨by rw [hrl]; omega, by rw [hrl]; omega, hrr, by rw [hlen]; omega, hRows.up, fun r hr => ?_, W.p2, W.p3, by show 0 ≤ mix c 100 % 5 ∧ mix c 100 % 5 ≤ 4 ∧ 4 ≤ 4 + mix c 101 % 3 ∧ 4 + mix c 101 % 3 ≤ 6; omega⟩
    have hb := hRows.all r (List.mem_cons_of_mem _ hr)
    have h1 := Int.mul_le_mul_of_nonneg_right (show (((mix c 30 % 4).toNat : Nat) : Int) ≤ 3 by omega) hM
    have h2 := Int.mul_le_mul_of_nonneg_right (show (((mix c 30 % 4).toNat : Nat) : Int) ≤ 3 by omega) (show 0 ≤ 2 * (most + 2) by omega)
    omega
  · intro rs' hrs i e he
    rw [s3f _ _ W.h3] at hrs
    cases hrs
    obtain ⟨b, e1, e2⟩ := W.t3 i e he
    exact ⟨b, e1, s3f _ _ (hids_same _ _ _ _ e2)⟩
noncomputable def pipeFs (l1 l2 l3 l4 : Addr) (pg : V) : List (Str × V) := [("rooms", .ref l1), ("table", .ref l2), ("thick", .ref l3), ("apart", .ref l4), ("pig", pg)]
theorem pipeFs_eq (l1 l2 l3 l4 : Addr) (pg : V) : putF "pig" pg (putF "apart" (.ref l4) (putF "thick" (.ref l3) (putF "table" (.ref l2) (putF "rooms" (.ref l1) [])))) = pipeFs l1 l2 l3 l4 pg := by rfl
theorem fs_rooms (l1 l2 l3 l4 : Addr) (pg : V) : (pipeFs l1 l2 l3 l4 pg).lookup (Str.ofString "rooms") = some (.ref l1) := by rfl
theorem fs_table (l1 l2 l3 l4 : Addr) (pg : V) : (pipeFs l1 l2 l3 l4 pg).lookup (Str.ofString "table") = some (.ref l2) := by rfl
theorem fs_thick (l1 l2 l3 l4 : Addr) (pg : V) : (pipeFs l1 l2 l3 l4 pg).lookup (Str.ofString "thick") = some (.ref l3) := by rfl
theorem fs_apart (l1 l2 l3 l4 : Addr) (pg : V) : (pipeFs l1 l2 l3 l4 pg).lookup (Str.ofString "apart") = some (.ref l4) := by rfl
inductive spPipe_ (K : PySem.W.Frag) (C : Addr) (vs : List V) (H : Hp) (Q : VK) : Prop where
  | mk (x dx r1 r2 r3 r4 : Addr) (pg : V) (s1 s2 s3 s4 : List V) : (vs = [.ref x, .ref r1, .ref r2, .ref r3, .ref r4, pg]) → (H x = some (.ins C dx [])) → (SqL K H r1 s1) → (SqL K H r2 s2) → (SqL K H r3 s3) → (SqL K H r4 s4) → ((∀ r ∈ [r1, r2, r3, r4], r ≠ x)) → (∀ (l1 l2 l3 l4 : Addr) (H' : Hp), (∀ l ∈ [l1, l2, l3, l4], H l = none) → [l1, l2, l3, l4].Nodup → Same (hids [x] H) (hids [x] H') → H' l1 = some (.lst s1) → H' l2 = some (.lst s2) → H' l3 = some (.lst s3) → H' l4 = some (.lst s4) → H' x = some (.ins C dx (pipeFs l1 l2 l3 l4 pg)) → Q .non H') → spPipe_ K C vs H Q
noncomputable def spPipe (K : PySem.W.Frag) (C : Addr) : Sp := fun vs H Q _ => spPipe_ K C vs H Q
theorem sql_upd {K : PySem.W.Frag} {H : Hp} {x a : Addr} {o : HO} {xs : List V} (h : SqL K H a xs) (ne : a ≠ x) : SqL K (upd H x o) a xs := by
  rcases h with h | h
  · rcases h with h | ⟨u, h⟩
    · exact .inl (.inl (by rw [upd_ne ne]; exact h))
    · exact .inl (.inr ⟨u, by rw [upd_ne ne]; exact h⟩)
  · exact .inr h
theorem few {n : Nat} {f : Str} {v : V} {fs : List (Str × V)} (h : fs.length < n) : (putF f v fs).length < n + 1 := by
  have := length_putF f v fs
  omega
theorem upd_none {H : Hp} {a b : Addr} {o : HO} (h : upd H a o b = none) : b ≠ a ∧ H b = none := by
  by_cases e : b = a
  · rw [e, upd_same] at h; cases h
  · rw [upd_ne e] at h; exact ⟨e, h⟩
theorem ok_Pipe___init__ (T : Txt K mg t) : FnOk P w K mg base CX0 1 t.f_Pipe___init__ t.d_Pipe___init__ ["self", "rooms", "table", "thick", "apart", "pig"] (spPipe K t.c_Pipe) := by
  refine T.F_Pipe___init__.ok sc_Pipe___init__ (fun vs H Q E h => ?_) (fun cdv A outer s H vs Q E hr h => ?_)
  · obtain ⟨x, dx, r1, r2, r3, r4, pg, s1, s2, s3, s4, rfl, _⟩ := h
    rfl
  obtain ⟨x, dx, r1, r2, r3, r4, pg, s1, s2, s3, s4, rfl, hx, q1, q2, q3, q4, hne, q⟩ := h
  refine ⟨_, (pss_cons (ps_fld (qv qv_Pipe___init__ 0 rfl rfl rfl) (q_callTy call_listR qg_Pipe___init__ 0 rfl rfl T.z_list bo_list (pa_cons (qv qv_Pipe___init__ 1 rfl rfl rfl) pa_nil)) rfl)
      (pss_cons (ps_fld (qv qv_Pipe___init__ 0 rfl rfl rfl) (q_callTy call_listR qg_Pipe___init__ 0 rfl rfl T.z_list bo_list (pa_cons (qv qv_Pipe___init__ 2 rfl rfl rfl) pa_nil)) rfl)
      (pss_cons (ps_fld (qv qv_Pipe___init__ 0 rfl rfl rfl) (q_callTy call_listR qg_Pipe___init__ 0 rfl rfl T.z_list bo_list (pa_cons (qv qv_Pipe___init__ 3 rfl rfl rfl) pa_nil)) rfl)
      (pss_cons (ps_fld (qv qv_Pipe___init__ 0 rfl rfl rfl) (q_callTy call_listR qg_Pipe___init__ 0 rfl rfl T.z_list bo_list (pa_cons (qv qv_Pipe___init__ 4 rfl rfl rfl) pa_nil)) rfl)
      (pss_one (ps_fld (qv qv_Pipe___init__ 0 rfl rfl rfl) (qv qv_Pipe___init__ 5 rfl rfl rfl) rfl)))))), ?_⟩
  have mx : x ∈ [x] := List.mem_singleton.mpr rfl
  have e1 := hne r1 (by simp)
  have e2 := hne r2 (by simp)
  have e3 := hne r3 (by simp)
  have e4 := hne r4 (by simp)
  walk_at "vc"
  refine vc_listL q1 fun l1 h1 => ?_
  walk_at "vc"
  refine ⟨x, t.c_Pipe, dx, _, rfl, upd_keep h1 hx, T.C_Pipe, T.n_Pipe_rooms, (show 0 < 1000 by decide), ?_⟩
  walk_at "vc"
  refine vc_listL (sql_upd ((same_new h1 _).seq q2) e2) fun l2 h2 => ?_
  walk_at "vc"
  refine ⟨x, t.c_Pipe, dx, _, rfl, upd_keep h2 upd_same, T.C_Pipe, T.n_Pipe_table, Nat.lt_of_lt_of_le (few (n := 1) (show 0 < 1 by decide)) (by decide), ?_⟩
  walk_at "vc"
  refine vc_listL (sql_upd ((same_new h2 _).seq (sql_upd ((same_new h1 _).seq q3) e3)) e3) fun l3 h3 => ?_
  walk_at "vc"
  refine ⟨x, t.c_Pipe, dx, _, rfl, upd_keep h3 upd_same, T.C_Pipe, T.n_Pipe_thick, Nat.lt_of_lt_of_le (few (few (n := 1) (show 0 < 1 by decide))) (by decide), ?_⟩
  walk_at "vc"
  refine vc_listL (sql_upd ((same_new h3 _).seq (sql_upd ((same_new h2 _).seq (sql_upd ((same_new h1 _).seq q4) e4)) e4)) e4) fun l4 h4 => ?_
  walk_at "vc"
  refine ⟨x, t.c_Pipe, dx, _, rfl, upd_keep h4 upd_same, T.C_Pipe, T.n_Pipe_apart, Nat.lt_of_lt_of_le (few (few (few (n := 1) (show 0 < 1 by decide)))) (by decide), ?_⟩
  walk_at "vc"
  refine ⟨x, t.c_Pipe, dx, _, rfl, upd_same, T.C_Pipe, T.n_Pipe_pig, Nat.lt_of_lt_of_le (few (few (few (few (n := 1) (show 0 < 1 by decide))))) (by decide), ?_⟩
  have n1 : l1 ≠ x := (ne_of_none hx h1).symm
  obtain ⟨n2, h2⟩ := upd_none h2
  obtain ⟨n21, h2⟩ := upd_none h2
  obtain ⟨n3, h3⟩ := upd_none h3
  obtain ⟨n32, h3⟩ := upd_none h3
  obtain ⟨_, h3⟩ := upd_none h3
  obtain ⟨n31, h3⟩ := upd_none h3
  obtain ⟨n4, h4⟩ := upd_none h4
  obtain ⟨n43, h4⟩ := upd_none h4
  obtain ⟨_, h4⟩ := upd_none h4
  obtain ⟨n42, h4⟩ := upd_none h4
  obtain ⟨_, h4⟩ := upd_none h4
  obtain ⟨n41, h4⟩ := upd_none h4
  refine q l1 l2 l3 l4 _ ?_ ?_ ?_ ?_ ?_ ?_ ?_ ?_
  · simp only [List.mem_cons, List.not_mem_nil, or_false]
    rintro a (rfl | rfl | rfl | rfl) <;> assumption
  · simp [n21.symm, n31.symm, n41.symm, n32.symm, n42.symm, n43.symm]
  · intro b o ho
    have hb : b ∉ [x] := fun e => by
      unfold hids at ho
      rw [if_pos e] at ho
      cases ho
    rw [hids_at hb] at ho ⊢
    have hbx : b ≠ x := by simpa using hb
    have b1 := ne_of_none ho h1
    have b2 := ne_of_none ho h2
    have b3 := ne_of_none ho h3
    have b4 := ne_of_none ho h4
    simp [upd, hbx, b1, b2, b3, b4, ho]
  · simp [upd, n1, n21.symm, n31.symm, n41.symm]
  · simp [upd, n2, n32.symm, n42.symm]
  · simp [upd, n3, n43.symm]
  · simp [upd, n4]
  · rw [upd_same, ← pipeFs_eq]
structure PipeAt (H : Hp) (C x l1 l2 l3 l4 : Addr) (pg : V) : Prop where
  at_ : ∃ dx, H x = some (.ins C dx (pipeFs l1 l2 l3 l4 pg))
theorem PipeAt.same {H H' : Hp} {C x l1 l2 l3 l4 : Addr} {pg : V} (h : PipeAt H C x l1 l2 l3 l4 pg) (e : Same H H') : PipeAt H' C x l1 l2 l3 l4 pg := by
  obtain ⟨dx, h⟩ := h.at_
  exact ⟨dx, e _ _ h⟩
theorem cut_ints (rooms : List Int) {n : Int} (h : 0 ≤ n) : cutV (rooms.map V.int) none (some n) = (rooms.take n.toNat).map V.int := by
  have e : n = ((n.toNat : Nat) : Int) := by omega
  rw [e, cutV_take, Int.toNat_natCast, List.map_take]
inductive spPlace_ (K : PySem.W.Frag) (C : Addr) (vs : List V) (H : Hp) (Q : VK) : Prop where
  | mk (x l1 l2 l3 l4 : Addr) (pg : V) (rooms : List Int) (n : Int) : (vs = [.ref x, .int n]) → (PipeAt H C x l1 l2 l3 l4 pg) → (SqL K H l1 (rooms.map V.int)) → (0 ≤ n) → (∀ H', Same H H' → Q (.int ((rooms.take n.toNat).sum)) H') → spPlace_ K C vs H Q
noncomputable def spPlace (K : PySem.W.Frag) (C : Addr) : Sp := fun vs H Q _ => spPlace_ K C vs H Q
theorem ok_place_of (T : Txt K mg t) : FnOk P w K mg base CX0 1 t.f_place_of t.d_place_of ["pipe", "node"] (spPlace K t.c_Pipe) := by
  refine T.F_place_of.ok sc_place_of (fun vs H Q E h => ?_) (fun cdv A outer s H vs Q E hr h => ?_)
  · obtain ⟨x, l1, l2, l3, l4, pg, rooms, n, rfl, _⟩ := h
    rfl
  obtain ⟨x, l1, l2, l3, l4, pg, rooms, n, rfl, ⟨dx, hx⟩, hl, hn, q⟩ := h
  refine ⟨_, (pss_one (ps_ret (q_callB (call_sum rfl) qg_place_of 0 rfl rfl T.z_sum bo_sum (pa_cons (pe_slice sl_list (pe_fld (qv qv_place_of 0 rfl rfl rfl) rfl) po_none (po_some (qv qv_place_of 1 rfl rfl rfl))) pa_nil)))), ?_⟩
  walk_at "vc"
  refine ⟨x, t.c_Pipe, dx, _, _, rfl, hx, T.C_Pipe, T.n_Pipe_rooms, fs_rooms .., ?_⟩
  walk_at "vc"
  refine vc_slL hl fun p hp => ?_
  walk_at "vc"
  refine vc_sum (ns := rooms.take n.toNat) (SqL.of (by rw [upd_same, cut_ints rooms hn])) ?_
  exact q _ (same_new hp _)
inductive spGcd_ (vs : List V) (H : Hp) (Q : VK) : Prop where
  | mk (a b : Int) : (vs = [.int a, .int b]) → (0 ≤ a) → (0 ≤ b) → (Q (.int ((Int.gcd a b : Nat) : Int)) H) → spGcd_  vs H Q
noncomputable def spGcd : Sp := fun vs H Q _ => spGcd_  vs H Q
inductive spMade_ (vs : List V) (H : Hp) (Q : VK) : Prop where
  | mk (n p : Int) : (vs = [.int n, .int p]) → (p ≠ 0) → (Bt 4000 p) → (∀ r, H r = none → Q (.ref r) (upd H r (.tup [.int (fN n p), .int (fD n p)]))) → spMade_  vs H Q
noncomputable def spMade : Sp := fun vs H Q _ => spMade_  vs H Q
theorem ok_greatest_divisor (T : Txt K mg t) : FnOk P w K mg base CX0 1 t.f_greatest_divisor t.d_greatest_divisor ["one", "other"] spGcd := by
  refine T.F_greatest_divisor.ok sc_greatest_divisor (fun vs H Q E h => ?_) (fun cdv A outer s H vs Q E hr h => ?_)
  · obtain ⟨a, b, rfl, _⟩ := h
    rfl
  obtain ⟨a, b, rfl, ha, hb, q⟩ := h
  refine ⟨_, (pss_cons (ps_while PassesOwn.never (pt_cmpR op_ne (qv qv_greatest_divisor 1 rfl rfl rfl) pe_int (nomark _)) (pss_cons (q_set (i := 2) qv_greatest_divisor sc_greatest_divisor.nd rfl rfl rfl (pe_op op_mod (qv qv_greatest_divisor 0 rfl rfl rfl) (qv qv_greatest_divisor 1 rfl rfl rfl)))
      (pss_cons (q_set (i := 0) qv_greatest_divisor sc_greatest_divisor.nd rfl rfl rfl (qv qv_greatest_divisor 1 rfl rfl rfl))
      (pss_one (q_set (i := 1) qv_greatest_divisor sc_greatest_divisor.nd rfl rfl rfl (qv qv_greatest_divisor 2 rfl rfl rfl))))))
      (pss_one (ps_ret (qv qv_greatest_divisor 0 rfl rfl rfl)))), ?_⟩
  refine while_by (fun σ H' => H' = H ∧ ∃ (x y : Int) (z : Option V), σ = [some (.int x), some (.int y), z] ∧ 0 ≤ x ∧ 0 ≤ y ∧ Int.gcd x y = Int.gcd a b)
    (fun σ _ => match σ with | [_, some (.int y), _] => y.toNat | _ => 0) ⟨rfl, a, b, none, rfl, ha, hb, rfl⟩ ?_ ?_
  · rintro σ H' ⟨rfl, x, y, z, rfl, hx, hy, hg⟩
    refine ⟨_, rfl, rfl, _, rfl, ?_⟩
    by_cases hy0 : y = 0
    · subst hy0
      refine iteNS rfl ?_
      refine ⟨_, rfl, ?_⟩
      have e : ((Int.gcd a b : Nat) : Int) = x := by rw [← hg]; exact gcd_end hx
      rw [e] at q
      exact q
    · refine iteNT (fun z => hy0 (V.int.inj z)) ?_
      have hy1 : 0 < y := by omega
      refine ⟨_, rfl, _, rfl, _, _, rfl, rfl, hy1, _, rfl, _, rfl, ?_⟩
      refine ⟨⟨rfl, y, x % y, _, rfl, hy, Int.emod_nonneg _ hy0, (gcd_step hx hy1).trans hg⟩, ?_⟩
      show (x % y).toNat < y.toNat
      have l1 := Int.emod_lt_of_pos x hy1
      have l2 := Int.emod_nonneg x hy0
      omega
  · rintro σ H' Q1 Q2 hQ ⟨v, e, hs, k, hk, q1⟩
    exact ⟨v, e, hs, k, hk, hQ _ _ q1⟩
theorem ok_made (T : Txt K mg t) : FnOk P w K mg base CX0 2 t.f_made t.d_made ["number", "parts"] spMade := by
  have G_greatest_divisor := ok_greatest_divisor (P := P) (w := w) (base := base) T
  refine T.F_made.ok sc_made (fun vs H Q E h => ?_) (fun cdv A outer s H vs Q E hr h => ?_)
  · obtain ⟨n, p, rfl, _⟩ := h
    rfl
  obtain ⟨n, p, rfl, hp, hB, q⟩ := h
  refine ⟨_, (pss_cons (q_set (i := 2) qv_made sc_made.nd rfl rfl rfl (q_call G_greatest_divisor (hr.mono (by first | decide | omega)) qg_made 0 rfl rfl T.m_greatest_divisor T.F_greatest_divisor.kp T.b_greatest_divisor .nil pass0 (pa_cons (q_callB call_absR qg_made 1 rfl rfl T.z_abs bo_abs (pa_cons (qv qv_made 0 rfl rfl rfl) pa_nil)) (pa_cons (q_callB call_absR qg_made 1 rfl rfl T.z_abs bo_abs (pa_cons (qv qv_made 1 rfl rfl rfl) pa_nil)) pa_nil))))
      (pss_cons (ps_if (pt_cmpR op_lt (qv qv_made 1 rfl rfl rfl) pe_int (nomark _)) (pss_one (q_set (i := 2) qv_made sc_made.nd rfl rfl rfl (pe_un un_neg (qv qv_made 2 rfl rfl rfl)))) pss_nil)
      (pss_one (ps_ret (pe_tup (pa_cons (pe_op op_fdivB (qv qv_made 0 rfl rfl rfl) (qv qv_made 2 rfl rfl rfl)) (pa_cons (pe_op op_fdivB (qv qv_made 1 rfl rfl rfl) (qv qv_made 2 rfl rfl rfl)) pa_nil))))))), ?_⟩
  refine ⟨_, rfl, _, rfl, _, rfl, _, rfl, _, _, rfl, ab_nonneg n, ab_nonneg p, ?_⟩
  have hb9 : Bt 9000 (dv n p) := (Bt.le (dv_le hp) hB).mono (by decide)
  have eg : Int.gcd (ab n) (ab p) = Int.gcd n p := gcd_ab n p
  refine ⟨_, rfl, _, _, rfl, rfl, _, rfl, ?_⟩
  refine ite2 (fun c => ?_) (fun c => ?_)
  · have c' : p < 0 := of_decide_eq_true c
    have e : -((Int.gcd (ab n) (ab p) : Nat) : Int) = dv n p := by unfold dv; rw [if_pos c', eg]
    refine ⟨_, rfl, _, rfl, ?_⟩
    refine ⟨_, rfl, _, rfl, _, _, rfl, rfl, (by show CDivB n (-((Int.gcd (ab n) (ab p) : Nat) : Int)); rw [e]; exact ⟨dv_ne hp, hb9⟩),
      _, rfl, _, rfl, _, _, rfl, rfl, (by show CDivB p (-((Int.gcd (ab n) (ab p) : Nat) : Int)); rw [e]; exact ⟨dv_ne hp, hb9⟩), (by show 2 ≤ sizeLine; decide), fun r hr1 => ?_⟩
    show Q (.ref r) (upd H r (.tup [.int (n.fdiv (-((Int.gcd (ab n) (ab p) : Nat) : Int))), .int (p.fdiv (-((Int.gcd (ab n) (ab p) : Nat) : Int)))]))
    rw [e]
    exact q r hr1
  · have c' : ¬ p < 0 := fun z => c (decide_eq_true z)
    have e : ((Int.gcd (ab n) (ab p) : Nat) : Int) = dv n p := by unfold dv; rw [if_neg c', eg]
    refine ⟨_, rfl, _, rfl, _, _, rfl, rfl, (by show CDivB n ((Int.gcd (ab n) (ab p) : Nat) : Int); rw [e]; exact ⟨dv_ne hp, hb9⟩),
      _, rfl, _, rfl, _, _, rfl, rfl, (by show CDivB p ((Int.gcd (ab n) (ab p) : Nat) : Int); rw [e]; exact ⟨dv_ne hp, hb9⟩), (by show 2 ≤ sizeLine; decide), fun r hr1 => ?_⟩
    show Q (.ref r) (upd H r (.tup [.int (n.fdiv ((Int.gcd (ab n) (ab p) : Nat) : Int)), .int (p.fdiv ((Int.gcd (ab n) (ab p) : Nat) : Int))]))
    rw [e]
    exact q r hr1
structure RowsOk (rs : List (Int × Int)) : Prop where
  up : ((0, 0) :: rs).Pairwise fun x y => x.1 < y.1 ∧ x.2 ≤ y.2
  le : ∀ r ∈ rs, r.1 ≤ 100000000 ∧ r.2 ≤ 100000000
inductive spHalf_ (K : PySem.W.Frag) (C : Addr) (vs : List V) (H : Hp) (Q : VK) : Prop where
  | mk (x l1 l2 l3 l4 : Addr) (pg : V) (rs : List V) (rows : List (Int × Int)) (n : Int) : (vs = [.ref x, .int n]) → (PipeAt H C x l1 l2 l3 l4 pg) → (SqL K H l2 rs) → (Reps K H rs (rows.map rowD)) → (RowsOk rows) → (0 ≤ n) → (n ≤ 200000000) → (∀ r, H r = none → Q (.ref r) (upd H r (.tup [.int (fN (halfGo 0 0 rows n).1 (halfGo 0 0 rows n).2), .int (fD (halfGo 0 0 rows n).1 (halfGo 0 0 rows n).2)]))) → spHalf_ K C vs H Q
noncomputable def spHalf (K : PySem.W.Frag) (C : Addr) : Sp := fun vs H Q _ => spHalf_ K C vs H Q
theorem row_of {K : PySem.W.Frag} {H : Hp} {rs : List V} {rows : List (Int × Int)} {i : Nat} {x : V} (h : Reps K H rs (rows.map rowD)) (e : rs[i]? = some x) : ∃ (r : Int × Int) (a : Addr), rows[i]? = some r ∧ x = .ref a ∧ SqT K H a [.int r.1, .int r.2] := by
  obtain ⟨d, hd, hr⟩ := h.get e
  rw [List.getElem?_map] at hd
  cases q : rows[i]? with
  | none => rw [q] at hd; cases hd
  | some r =>
    rw [q] at hd
    cases (Option.some.inj hd)
    obtain ⟨a, xs, rfl, hs, hr2⟩ := Rep.tup_of (show Rep K H x (.tuple [.int r.1, .int r.2]) from hr)
    cases hr2 with
    | cons h1 h2 => cases h2 with
      | cons h2 h3 =>
        cases h3
        rw [h1.int_of, h2.int_of] at hs
        exact ⟨r, a, rfl, rfl, hs⟩
theorem b4000 {x : Int} (h0 : -(2 ^ 64) ≤ x) (h1 : x ≤ 2 ^ 64) : Bt 4000 x := Bt.mono (m := 66) (Bt.iff.mpr (by omega)) (by decide)
theorem ok_half_at (T : Txt K mg t) : FnOk P w K mg base CX0 3 t.f_half_at t.d_half_at ["pipe", "distance"] (spHalf K t.c_Pipe) := by
  have G_made := ok_made (P := P) (w := w) (base := base) T
  refine T.F_half_at.ok sc_half_at (fun vs H Q E h => ?_) (fun cdv A outer s H vs Q E hr h => ?_)
  · obtain ⟨x, l1, l2, l3, l4, pg, rs, rows, n, rfl, _⟩ := h
    rfl
  obtain ⟨x, l1, l2, l3, l4, pg, rs, rows, n, rfl, ⟨dx, hx⟩, hl, hR, hok, hn0, hn1, q⟩ := h
  refine ⟨_, (pss_cons (q_set (i := 2) qv_half_at sc_half_at.nd rfl rfl rfl pe_int)
      (pss_cons (q_set (i := 3) qv_half_at sc_half_at.nd rfl rfl rfl pe_int)
      (pss_cons (ps_for PassesOwn.never rfl (pi_list (pe_fld (qv qv_half_at 0 rfl rfl rfl) rfl)) (pg_tup rfl (pgs_cons (q_name (i := 4) qv_half_at sc_half_at.nd rfl rfl rfl) (pgs_cons (q_name (i := 5) qv_half_at sc_half_at.nd rfl rfl rfl) pgs_nil))) (pss_cons (ps_if (pt_cmpR op_lt (qv qv_half_at 1 rfl rfl rfl) (qv qv_half_at 4 rfl rfl rfl) (nomark _)) (pss_cons (q_set (i := 6) qv_half_at sc_half_at.nd rfl rfl rfl (pe_op op_sub (qv qv_half_at 4 rfl rfl rfl) (qv qv_half_at 2 rfl rfl rfl)))
      (pss_one (ps_ret (q_call G_made (hr.mono (by first | decide | omega)) qg_half_at 0 rfl rfl T.m_made T.F_made.kp T.b_made .nil pass0 (pa_cons (pe_op op_add (pe_op op_mul (qv qv_half_at 3 rfl rfl rfl) (qv qv_half_at 6 rfl rfl rfl)) (pe_op op_mul (pe_op op_sub (qv qv_half_at 5 rfl rfl rfl) (qv qv_half_at 3 rfl rfl rfl)) (pe_op op_sub (qv qv_half_at 1 rfl rfl rfl) (qv qv_half_at 2 rfl rfl rfl)))) (pa_cons (qv qv_half_at 6 rfl rfl rfl) pa_nil)))))) pss_nil)
      (pss_cons (q_set (i := 2) qv_half_at sc_half_at.nd rfl rfl rfl (qv qv_half_at 4 rfl rfl rfl))
      (pss_one (q_set (i := 3) qv_half_at sc_half_at.nd rfl rfl rfl (qv qv_half_at 5 rfl rfl rfl))))))
      (pss_one (ps_ret (q_call G_made (hr.mono (by first | decide | omega)) qg_half_at 0 rfl rfl T.m_made T.F_made.kp T.b_made .nil pass0 (pa_cons (qv qv_half_at 3 rfl rfl rfl) (pa_cons pe_int pa_nil)))))))), ?_⟩
  walk_at "vc"
  refine ⟨x, t.c_Pipe, dx, _, _, rfl, hx, T.C_Pipe, T.n_Pipe_table, fs_table .., ?_⟩
  have hlen : rs.length = rows.length := by rw [hR.length, List.length_map]
  refine ⟨l2, rfl, ⟨rs, hl⟩, for_list (xs := rs) (fun i σ H' => H' = H ∧ ∃ (near nh : Int) (u1 u2 u3 : Option V), σ = [some (.ref x), some (.int n), some (.int near), some (.int nh), u1, u2, u3] ∧
    halfGo near nh (rows.drop i) n = halfGo 0 0 rows n ∧ ((near, nh) :: rows.drop i).Pairwise (fun x y => x.1 < y.1 ∧ x.2 ≤ y.2) ∧ 0 ≤ near ∧ near ≤ 100000000 ∧ 0 ≤ nh ∧ nh ≤ 100000000)
    ⟨rfl, 0, 0, none, none, none, rfl, rfl, hok.up, by omega, by omega, by omega, by omega⟩ (fun i σ H' _ ⟨e, _⟩ => e ▸ hl) ?_ ?_⟩
  · rintro i y σ H' hy ⟨rfl, near, nh, u1, u2, u3, rfl, hgo, hup, b1, b2, b3, b4⟩
    obtain ⟨r, a, hr', rfl, hs⟩ := row_of hR hy
    have hi : i < rows.length := (List.getElem?_eq_some_iff.mp hr').1
    have er : rows[i] = r := (List.getElem?_eq_some_iff.mp hr').2
    have ed : rows.drop i = r :: rows.drop (i + 1) := by rw [List.drop_eq_getElem_cons hi, er]
    have hle := hok.le r (er ▸ List.getElem_mem hi)
    rw [ed] at hgo hup
    obtain ⟨hup1, hup2⟩ := List.pairwise_cons.mp hup
    have h12 := hup1 r (List.mem_cons_self)
    refine vc_asgT hs rfl ?_
    walk_at "vc"
    obtain ⟨far, fh⟩ := r
    dsimp only at h12 hle
    refine ite2 (fun z => ?_) (fun z => ?_)
    · have z' : n < far := of_decide_eq_true z
      walk_at "vc"
      refine ⟨_, _, rfl, by omega, b4000 (by omega) (by omega), fun r hr2 => ?_⟩
      have e : halfGo 0 0 rows n = (nh * (far - near) + (fh - nh) * (n - near), far - near) := by
        rw [← hgo, halfGo, if_pos z']
      rw [e] at q
      exact q r hr2
    · have z' : ¬ n < far := fun w => z (decide_eq_true w)
      walk_at "vc"
      refine ⟨rfl, far, fh, _, _, _, rfl, ?_, hup2, by omega, by omega, by omega, by omega⟩
      rw [← hgo, halfGo, if_neg z']
  · rintro σ H' ⟨rfl, near, nh, u1, u2, u3, rfl, hgo, hup, b1, b2, b3, b4⟩
    walk_at "vc"
    refine ⟨_, _, rfl, by decide, b4000 (by decide) (by decide), fun r hr2 => ?_⟩
    have e : halfGo 0 0 rows n = (nh, 1) := by
      rw [← hgo, hlen, List.drop_length]
      rfl
    rw [e] at q
    exact q r hr2
open PySem.W in
noncomputable def thickDs (ps : List (Str × Str × Int)) : List Dat := ps.map fun p => .tuple [.str p.1, .str p.2.1, .int p.2.2]
open PySem.W in
noncomputable def apartDs (ps : List (Str × Str)) : List Dat := ps.map fun p => .tuple [.str p.1, .str p.2]
noncomputable def thickGo (one other : Str) : List (Str × Str × Int) → Int
  | [] => 1
  | p :: r => if (p.1 = one ∧ p.2.1 = other) ∨ (p.1 = other ∧ p.2.1 = one) then p.2.2 else thickGo one other r
noncomputable def thickBy (one other : Str) (ps : List (Str × Str × Int)) : Int := if one = other then 0 else thickGo one other ps
inductive spThick_ (K : PySem.W.Frag) (C : Addr) (vs : List V) (H : Hp) (Q : VK) : Prop where
  | mk (x l1 l2 l3 l4 : Addr) (pg : V) (rs : List V) (ps : List (Str × Str × Int)) (one other : Str) : (vs = [.ref x, .str one, .str other]) → (PipeAt H C x l1 l2 l3 l4 pg) → (SqL K H l3 rs) → (Reps K H rs (thickDs ps)) → ((∀ p ∈ ps, Let p.1 ∧ Let p.2.1)) → (Let one) → (Let other) → (∀ H', Same H H' → Q (.int (thickBy one other ps)) H') → spThick_ K C vs H Q
noncomputable def spThick (K : PySem.W.Frag) (C : Addr) : Sp := fun vs H Q _ => spThick_ K C vs H Q
open Classical in
inductive spApart_ (K : PySem.W.Frag) (C : Addr) (vs : List V) (H : Hp) (Q : VK) : Prop where
  | mk (x l1 l2 l3 l4 : Addr) (pg : V) (rs : List V) (ps : List (Str × Str)) (one other : Str) : (vs = [.ref x, .str one, .str other]) → (PipeAt H C x l1 l2 l3 l4 pg) → (SqL K H l4 rs) → (Reps K H rs (apartDs ps)) → ((∀ p ∈ ps, Let p.1 ∧ Let p.2)) → (Let one) → (Let other) → (∀ H', Same H H' → Q (.bl (decide ((one, other) ∈ ps ∨ (other, one) ∈ ps))) H') → spApart_ K C vs H Q
open Classical in
noncomputable def spApart (K : PySem.W.Frag) (C : Addr) : Sp := fun vs H Q _ => spApart_ K C vs H Q
open PySem.W in
theorem str_ok {x : Str} (h : Let x) (n : Nat) : kqdOk n (.str x) = true := by
  have e : PyData.strOk x = true := by
    unfold PyData.strOk
    rw [Array.all_eq_true_iff_forall_mem]
    intro c hc
    have := h c (by simpa using hc)
    simp only [decide_eq_true_eq]
    omega
  cases n <;> exact e
open PySem.W in
theorem two_ok {x y : Str} (hx : Let x) (hy : Let y) (n : Nat) : kqdOk (n + 1) (.tuple [.str x, .str y]) = true := by
  simp only [kqdOk, List.all_cons, List.all_nil, Bool.and_true, Bool.and_eq_true]
  exact ⟨str_ok hx 0, str_ok hy 0⟩
theorem triple_of {K : PySem.W.Frag} {H : Hp} {rs : List V} {ps : List (Str × Str × Int)} {i : Nat} {x : V} (h : Reps K H rs (thickDs ps)) (e : rs[i]? = some x) : ∃ (p : Str × Str × Int) (a : Addr), ps[i]? = some p ∧ x = .ref a ∧ SqT K H a [.str p.1, .str p.2.1, .int p.2.2] := by
  obtain ⟨d, hd, hr⟩ := h.get e
  unfold thickDs at hd
  rw [List.getElem?_map] at hd
  cases q : ps[i]? with
  | none => rw [q] at hd; cases hd
  | some p =>
    rw [q] at hd
    cases (Option.some.inj hd)
    obtain ⟨a, xs, rfl, hs, hr2⟩ := Rep.tup_of hr
    cases hr2 with
    | cons h1 h2 => cases h2 with
      | cons h2 h3 => cases h3 with
        | cons h3 h4 =>
          cases h4
          rw [h1.str_of, h2.str_of, h3.int_of] at hs
          exact ⟨p, a, rfl, rfl, hs⟩
open PySem.W in
theorem mem_apart {ps : List (Str × Str)} {x y : Str} : Dat.tuple [.str x, .str y] ∈ apartDs ps ↔ (x, y) ∈ ps := by
  unfold apartDs
  rw [List.mem_map]
  constructor
  · rintro ⟨p, hp, e⟩
    have e' := Dat.tuple.inj e
    simp only [List.cons.injEq, Dat.str.injEq, and_true] at e'
    obtain ⟨p1, p2⟩ := p
    dsimp only at e'
    rw [e'.1, e'.2] at hp
    exact hp
  · intro h
    exact ⟨(x, y), h, rfl⟩
theorem ok_thick_of (T : Txt K mg t) : FnOk P w K mg base CX0 1 t.f_thick_of t.d_thick_of ["pipe", "one", "other"] (spThick K t.c_Pipe) := by
  refine T.F_thick_of.ok sc_thick_of (fun vs H Q E h => ?_) (fun cdv A outer s H vs Q E hr h => ?_)
  · obtain ⟨x, l1, l2, l3, l4, pg, rs, ps, one, other, rfl, _⟩ := h
    rfl
  obtain ⟨x, l1, l2, l3, l4, pg, rs, ps, one, other, rfl, ⟨dx, hx⟩, hl, hR, hps, ho, ht, q⟩ := h
  refine ⟨_, (pss_cons (ps_if (pt_cmpR op_eq (qv qv_thick_of 1 rfl rfl rfl) (qv qv_thick_of 2 rfl rfl rfl) (nomark _)) (pss_one (ps_ret pe_int)) pss_nil)
      (pss_cons (ps_for PassesOwn.never rfl (pi_list (pe_fld (qv qv_thick_of 0 rfl rfl rfl) rfl)) (pg_tup rfl (pgs_cons (q_name (i := 3) qv_thick_of sc_thick_of.nd rfl rfl rfl) (pgs_cons (q_name (i := 4) qv_thick_of sc_thick_of.nd rfl rfl rfl) (pgs_cons (q_name (i := 5) qv_thick_of sc_thick_of.nd rfl rfl rfl) pgs_nil)))) (pss_one (ps_if (PW.pt (pw_or (pt_cmpR (op_eqD hr.units) (pe_tup (pa_cons (qv qv_thick_of 3 rfl rfl rfl) (pa_cons (qv qv_thick_of 4 rfl rfl rfl) pa_nil))) (pe_tup (pa_cons (qv qv_thick_of 1 rfl rfl rfl) (pa_cons (qv qv_thick_of 2 rfl rfl rfl) pa_nil))) (nomark _)) (pw_or1 (pt_cmpR (op_eqD hr.units) (pe_tup (pa_cons (qv qv_thick_of 3 rfl rfl rfl) (pa_cons (qv qv_thick_of 4 rfl rfl rfl) pa_nil))) (pe_tup (pa_cons (qv qv_thick_of 2 rfl rfl rfl) (pa_cons (qv qv_thick_of 1 rfl rfl rfl) pa_nil))) (nomark _))))) (pss_one (ps_ret (qv qv_thick_of 5 rfl rfl rfl))) pss_nil)))
      (pss_one (ps_ret pe_int)))), ?_⟩
  walk_at "vc"
  refine ite2 (fun z => ?_) (fun z => ?_)
  · have e : one = other := V.str.inj (of_decide_eq_true z)
    walk_at "vc"
    have := q H (Same.refl _)
    unfold thickBy at this
    rw [if_pos e] at this
    exact this
  have e : one ≠ other := fun e => z (decide_eq_true (congrArg V.str e))
  walk_at "vc"
  refine ⟨x, t.c_Pipe, dx, _, _, rfl, hx, T.C_Pipe, T.n_Pipe_thick, fs_thick .., ?_⟩
  refine ⟨l3, rfl, ⟨rs, hl⟩, for_list (xs := rs) (fun i σ H' => Same H H' ∧ ∃ u1 u2 u3, σ = [some (.ref x), some (.str one), some (.str other), u1, u2, u3] ∧ thickGo one other (ps.drop i) = thickGo one other ps)
    ⟨Same.refl _, none, none, none, rfl, rfl⟩ (fun i σ H' _ ⟨sm, _⟩ => sm.seq hl) ?_ ?_⟩
  · rintro i y σ H' hy ⟨sm, u1, u2, u3, rfl, hgo⟩
    obtain ⟨p, a, hp, rfl, hs⟩ := triple_of hR hy
    refine vc_asgT (sm.tup hs) rfl ?_
    have hi : i < ps.length := (List.getElem?_eq_some_iff.mp hp).1
    have ep : ps[i] = p := (List.getElem?_eq_some_iff.mp hp).2
    have ed : ps.drop i = p :: ps.drop (i + 1) := by rw [List.drop_eq_getElem_cons hi, ep]
    obtain ⟨hp1, hp2⟩ := hps p (ep ▸ List.getElem_mem hi)
    rw [ed] at hgo
    walk_at "vc"
    refine ⟨(by show 2 ≤ sizeLine; decide), fun t1 ht1 => ?_⟩
    walk_at "vc"
    refine ⟨(by show 2 ≤ sizeLine; decide), fun t2 ht2 => ?_⟩
    refine ⟨.tuple [.str p.1, .str p.2.1], .tuple [.str one, .str other], .tup (SqT.of (upd_keep ht2 upd_same)) (.cons (.str _) (.cons (.str _) .nil)), .tup (SqT.of upd_same) (.cons (.str _) (.cons (.str _) .nil)), two_ok hp1 hp2 8, two_ok ho ht 8, ?_⟩
    have s2 : Same H' (upd (upd H' t1 (.tup [.str p.1, .str p.2.1])) t2 (.tup [.str one, .str other])) := (same_new ht1 _).trans (same_new ht2 _)
    generalize upd (upd H' t1 (.tup [.str p.1, .str p.2.1])) t2 (.tup [.str one, .str other]) = H2 at *
    by_cases e1 : p.1 = one ∧ p.2.1 = other
    · rw [dec_true (by rw [e1.1, e1.2])]
      walk_at "vc"
      have := q H2 (sm.trans s2)
      unfold thickBy at this
      rw [if_neg e, ← hgo, thickGo, if_pos (.inl e1)] at this
      exact this
    · rw [dec_false (fun z => e1 (by
        have z' := PySem.W.Dat.tuple.inj z
        simp only [List.cons.injEq, PySem.W.Dat.str.injEq, and_true] at z'
        exact z'))]
      walk_at "vc"
      refine ⟨(by show 2 ≤ sizeLine; decide), fun t3 ht3 => ?_⟩
      walk_at "vc"
      refine ⟨(by show 2 ≤ sizeLine; decide), fun t4 ht4 => ?_⟩
      refine ⟨.tuple [.str p.1, .str p.2.1], .tuple [.str other, .str one], .tup (SqT.of (upd_keep ht4 upd_same)) (.cons (.str _) (.cons (.str _) .nil)), .tup (SqT.of upd_same) (.cons (.str _) (.cons (.str _) .nil)), two_ok hp1 hp2 8, two_ok ht ho 8, ?_⟩
      have s3 : Same H2 (upd (upd H2 t3 (.tup [.str p.1, .str p.2.1])) t4 (.tup [.str other, .str one])) := (same_new ht3 _).trans (same_new ht4 _)
      generalize upd (upd H2 t3 (.tup [.str p.1, .str p.2.1])) t4 (.tup [.str other, .str one]) = H3 at *
      by_cases e2 : p.1 = other ∧ p.2.1 = one
      · rw [dec_true (by rw [e2.1, e2.2])]
        walk_at "vc"
        have := q H3 (sm.trans (s2.trans s3))
        unfold thickBy at this
        rw [if_neg e, ← hgo, thickGo, if_pos (.inr e2)] at this
        exact this
      · rw [dec_false (fun z => e2 (by
          have z' := PySem.W.Dat.tuple.inj z
          simp only [List.cons.injEq, PySem.W.Dat.str.injEq, and_true] at z'
          exact z'))]
        walk_at "vc"
        refine ⟨sm.trans (s2.trans s3), _, _, _, rfl, ?_⟩
        rw [← hgo, thickGo, if_neg (fun z => z.elim e1 e2)]
  · rintro σ H' ⟨sm, u1, u2, u3, rfl, hgo⟩
    walk_at "vc"
    have hlen : rs.length = ps.length := by rw [hR.length]; unfold thickDs; rw [List.length_map]
    rw [hlen, List.drop_length] at hgo
    have := q H' sm
    unfold thickBy at this
    rw [if_neg e, ← hgo] at this
    exact this
open PySem.W in
noncomputable def Dp : Nat → Dat → Prop
  | 0, _ => False
  | _ + 1, .int _ => True
  | _ + 1, .str _ => True
  | n + 1, .tuple ds => ds.length < 1000 ∧ ∀ d ∈ ds, Dp n d
  | n + 1, .list ds => ds.length < 1000 ∧ ∀ d ∈ ds, Dp n d
  | _ + 1, .none => True
  | _ + 1, _ => False
inductive spAlike_ (K : PySem.W.Frag) (n : Nat) (vs : List V) (H : Hp) (Q : VK) : Prop where
  | mk (found due : V) (d : PySem.W.Dat) : (vs = [found, due]) → (Rep K H found d) → (Rep K H due d) → (Dp n d) → (∀ H', Same H H' → Q (.bl true) H') → spAlike_ K n vs H Q
noncomputable def spAlike (K : PySem.W.Frag) (n : Nat) : Sp := fun vs H Q _ => spAlike_ K n vs H Q
theorem alike_comp {n : Nat} {b : Bool} {x y D : Addr} {xs ys : List V} {ds : List PySem.W.Dat} {H : Hp} {Q : Hp → Prop} (hx : Sq b K H x xs) (hy : Sq b K H y ys) (rx : Reps K H xs ds) (ry : Reps K H ys ds) (hd : ∀ d ∈ ds, Dp n d) (hn : xs.length < sizeLine) (hD : H D = none)
    (q : ∀ H', Same H H' → H' D = some (.lst ((List.replicate xs.length true).map V.bl)) → Q H') :
    CompW (Itz b K x y) (gTup K 2 (gCons (gName 0) (gCons (gName 1) gNil))) (fun _ H Q => Q true H) (tCall (spAlike K n) [] E0 (tCons (tVar 0) (tCons (tVar 1) tNil))) [none, none] D H Q := by
  have hl : xs.length = ys.length := rx.length.trans ry.length.symm
  refine comp_gen2 (n := xs.length) (fun i v H' => ∃ T u z, v = .ref T ∧ xs[i]? = some u ∧ ys[i]? = some z ∧ H' T = some (.tup [u, z])) hD hn (hJ_zip hx hy hl) (fun i vs _ => vs = (List.replicate i true).map V.bl) (fun σ => ∃ u v, σ = [u, v]) (fun _ _ _ _ _ h => h) rfl ⟨none, none, rfl⟩ ?_ ?_
  · rintro i v vs σ H' R1 R0 hi ⟨T, u, z, rfl, hu, hz, hT⟩ ⟨u1, u2, rfl⟩ sm hDl hΦ k1 k0
    refine vc_asgT (SqT.of hT) rfl ?_
    walk_at "vc"
    obtain ⟨d, hd1, hr1⟩ := rx.get hu
    obtain ⟨d', hd2, hr2⟩ := ry.get hz
    rw [hd1] at hd2
    cases hd2
    refine ⟨u, z, d, rfl, hr1.same sm, hr2.same sm, hd d (List.mem_of_getElem? hd1), fun H4 s4 => ?_⟩
    refine k1 _ _ _ s4 ⟨_, _, rfl⟩ ?_
    rw [hΦ, List.replicate_succ', List.map_append]
    rfl
  · intro vs H' sm hDl _ hΦ
    rw [hΦ] at hDl
    exact q H' sm hDl
theorem all_rep (n : Nat) : (List.replicate n true).all id = true := by
  rw [List.all_eq_true]
  intro b hb
  rw [(List.mem_replicate.mp hb).2]
  rfl
theorem alike_step (T : Txt K mg t) (n : Nat) (G_l_alike : FnOk P w K mg base CX0 (n + 1) t.f_l_alike t.d_l_alike ["_law_found", "_law_due"] (spAlike K n)) : FnOk P w K mg base CX0 (n + 1 + 1) t.f_l_alike t.d_l_alike ["_law_found", "_law_due"] (spAlike K (n + 1)) := by
  refine T.F_l_alike.ok sc_l_alike (fun vs H Q E h => ?_) (fun cdv A outer s H vs Q E hr h => ?_)
  · obtain ⟨found, due, d, rfl, _⟩ := h
    rfl
  obtain ⟨found, due, d, rfl, h1, h2, hd, q⟩ := h
  refine ⟨_, (pss_cons (ps_if (pt_val (q_callB call_isKs qg_l_alike 0 rfl rfl T.z_isinstance bo_isinstance (pa_cons (qv qv_l_alike 1 rfl rfl rfl) (pa_cons (pe_tup (pa_cons (q_bltn (v := .ty "list") qg_l_alike 1 rfl rfl T.z_list bo_list rfl) (pa_cons (q_bltn (v := .ty "tuple") qg_l_alike 2 rfl rfl T.z_tuple bo_tuple rfl) pa_nil))) pa_nil)))) (pss_cons (ps_if (PW.pt (pw_or (pt_not (pt_val (q_callB call_isKs qg_l_alike 0 rfl rfl T.z_isinstance bo_isinstance (pa_cons (qv qv_l_alike 0 rfl rfl rfl) (pa_cons (pe_tup (pa_cons (q_bltn (v := .ty "list") qg_l_alike 1 rfl rfl T.z_list bo_list rfl) (pa_cons (q_bltn (v := .ty "tuple") qg_l_alike 2 rfl rfl T.z_tuple bo_tuple rfl) pa_nil))) pa_nil))))) (pw_or1 (pt_cmpR op_ne (q_callB call_isK qg_l_alike 0 rfl rfl T.z_isinstance bo_isinstance (pa_cons (qv qv_l_alike 0 rfl rfl rfl) (pa_cons (q_bltn (v := .ty "list") qg_l_alike 1 rfl rfl T.z_list bo_list rfl) pa_nil))) (q_callB call_isK qg_l_alike 0 rfl rfl T.z_isinstance bo_isinstance (pa_cons (qv qv_l_alike 1 rfl rfl rfl) (pa_cons (q_bltn (v := .ty "list") qg_l_alike 1 rfl rfl T.z_list bo_list rfl) pa_nil))) (nomark _))))) (pss_one (ps_ret pe_bl)) pss_nil)
      (pss_one (ps_ret (pe_and (pe_cmpR op_eq (q_callB call_lenR qg_l_alike 3 rfl rfl T.z_len bo_len (pa_cons (qv qv_l_alike 0 rfl rfl rfl) pa_nil)) (q_callB call_lenR qg_l_alike 3 rfl rfl T.z_len bo_len (pa_cons (qv qv_l_alike 1 rfl rfl rfl) pa_nil)) (nomark _)) (pe_one (q_callB (call_all rfl) qg_l_alike 4 rfl rfl T.z_all bo_all (pa_cons (pe_comp ["_law_one", "_law_other"] [none, none] rfl  (pi_zip (qgl qg_l_alike 5 rfl rfl) T.z_zip (pa_cons (qv qv_l_alike 0 rfl rfl rfl) (pa_cons (qv qv_l_alike 1 rfl rfl rfl) pa_nil))) (fun _ _ _ _ => (pg_tupC (n := 2) rfl (pgs_cons (pg_name (i := 0) (show (["_law_one", "_law_other"] : List Str).Nodup by decide +kernel) rfl (Or.inl rfl)) (pgs_cons (pg_name (i := 1) (show (["_law_one", "_law_other"] : List Str).Nodup by decide +kernel) rfl (Or.inl rfl)) pgs_nil)))) (fun _ _ _ _ => pts_nil) (fun _ _ _ _ => (pe_call G_l_alike (hr.mono (Nat.le_refl _)) rfl T.m_l_alike T.F_l_alike.kp T.b_l_alike .nil pass0 (pa_cons (pv 0) (pa_cons (pv 1) pa_nil)))) rfl rfl) pa_nil))))))) pss_nil)
      (pss_cons (ps_if (pt_val (q_callB call_isK qg_l_alike 0 rfl rfl T.z_isinstance bo_isinstance (pa_cons (qv qv_l_alike 1 rfl rfl rfl) (pa_cons (q_bltn (v := .ty "str") qg_l_alike 6 rfl rfl T.z_str bo_str rfl) pa_nil)))) (pss_one (ps_ret (pe_and (q_callB call_isK qg_l_alike 0 rfl rfl T.z_isinstance bo_isinstance (pa_cons (qv qv_l_alike 0 rfl rfl rfl) (pa_cons (q_bltn (v := .ty "str") qg_l_alike 6 rfl rfl T.z_str bo_str rfl) pa_nil))) (pe_one (pe_cmpR op_eq (qv qv_l_alike 0 rfl rfl rfl) (qv qv_l_alike 1 rfl rfl rfl) (nomark _)))))) pss_nil)
      (pss_cons (ps_if (pt_cmp (pc_isN (qv qv_l_alike 1 rfl rfl rfl))) (pss_one (ps_ret (pe_cmp (pc_isN (qv qv_l_alike 0 rfl rfl rfl))))) pss_nil)
      (pss_one (ps_ret (pe_and (q_callB call_isK qg_l_alike 0 rfl rfl T.z_isinstance bo_isinstance (pa_cons (qv qv_l_alike 0 rfl rfl rfl) (pa_cons (q_bltn (v := .ty "int") qg_l_alike 7 rfl rfl T.z_int bo_int rfl) pa_nil))) (pe_and (pe_not (q_callB call_isK qg_l_alike 0 rfl rfl T.z_isinstance bo_isinstance (pa_cons (qv qv_l_alike 0 rfl rfl rfl) (pa_cons (q_bltn (v := .ty "bool") qg_l_alike 8 rfl rfl T.z_bool bo_bool rfl) pa_nil)))) (pe_one (pe_cmpR op_eq (qv qv_l_alike 0 rfl rfl rfl) (qv qv_l_alike 1 rfl rfl rfl) (nomark _)))))))))), ?_⟩
  walk_at "vc"
  refine ⟨(by show 2 ≤ sizeLine; decide), fun p1 hp1 => ?_⟩
  walk_at "vc"
  have s1 := same_new hp1 (.tup [V.ty "list", V.ty "tuple"])
  have k1 := (h1.same s1).kind
  have k2 := (h2.same s1).kind
  have tp1 : SqT K (upd H p1 (.tup [V.ty "list", V.ty "tuple"])) p1 (["list", "tuple"].map V.ty) := SqT.of upd_same
  cases d with
  | none =>
    refine vc_isKs (ns := ["list", "tuple"]) (b := false) k2 tp1 rfl ?_
    walk_at "vc"
    refine vc_isK (b := false) k2 rfl ?_
    cases h1
    cases h2
    walk_at "vc"
    rw [dec_true rfl]
    walk_at "vc"
    have := q _ s1
    rw [dec_true rfl]
    exact this
  | bool b => exact hd.elim
  | bytes b => exact hd.elim
  | int i =>
    refine vc_isKs (ns := ["list", "tuple"]) (b := false) k2 tp1 rfl ?_
    walk_at "vc"
    refine vc_isK (b := false) k2 rfl ?_
    cases h2
    walk_at "vc"
    rw [dec_false (fun z => by cases z)]
    walk_at "vc"
    refine vc_isK (b := true) k1 rfl ?_
    walk_at "vc"
    refine vc_isK (b := false) k1 rfl ?_
    cases h1
    walk_at "vc"
    have := q _ s1
    rw [dec_true rfl]
    exact this
  | str x =>
    refine vc_isKs (ns := ["list", "tuple"]) (b := false) k2 tp1 rfl ?_
    walk_at "vc"
    refine vc_isK (b := true) k2 rfl ?_
    walk_at "vc"
    refine vc_isK (b := true) k1 rfl ?_
    cases h1
    cases h2
    walk_at "vc"
    have := q _ s1
    rw [dec_true rfl]
    exact this
  | tuple ds =>
    refine vc_isKs (ns := ["list", "tuple"]) (b := true) k2 tp1 rfl ?_
    walk_at "vc"
    refine ⟨(by show 2 ≤ sizeLine; decide), fun p2 hp2 => ?_⟩
    have s2 := s1.trans (same_new hp2 (.tup [V.ty "list", V.ty "tuple"]))
    have tp2 : SqT K (upd (upd H p1 (.tup [V.ty "list", V.ty "tuple"])) p2 (.tup [V.ty "list", V.ty "tuple"])) p2 (["list", "tuple"].map V.ty) := SqT.of upd_same
    generalize upd (upd H p1 (.tup [V.ty "list", V.ty "tuple"])) p2 (.tup [V.ty "list", V.ty "tuple"]) = H2 at *
    have r1 := h1.same s2
    have r2 := h2.same s2
    walk_at "vc"
    refine vc_isKs (ns := ["list", "tuple"]) (b := true) r1.kind tp2 rfl ?_
    walk_at "vc"
    refine vc_isK (b := false) r1.kind rfl ?_
    walk_at "vc"
    refine vc_isK (b := false) r2.kind rfl ?_
    walk_at "vc"
    refine iteNS rfl ?_
    cases r1 with
    | @tup a1 xs _ l1 e1 =>
    cases r2 with
    | @tup a2 ys _ l2 e2 =>
    walk_at "vc"
    refine vc_lenT l1 ?_
    walk_at "vc"
    refine vc_lenT l2 ?_
    walk_at "vc"
    have hl : xs.length = ys.length := e1.length.trans e2.length.symm
    rw [hl, dec_true rfl]
    refine iteT ?_
    walk_at "vc"
    refine ⟨true, a1, a2, xs, ys, rfl, l1, l2, fun D hD => alike_comp (b := true) l1 l2 e1 e2 hd.2 (small1000 (by rw [e1.length]; exact Nat.le_of_lt hd.1)) hD fun H3 s3 hD3 => ?_⟩
    walk_at "vc"
    refine vc_all (SqL.of hD3) ?_
    rw [all_rep]
    exact q _ (s2.trans s3)
  | list ds =>
    refine vc_isKs (ns := ["list", "tuple"]) (b := true) k2 tp1 rfl ?_
    walk_at "vc"
    refine ⟨(by show 2 ≤ sizeLine; decide), fun p2 hp2 => ?_⟩
    have s2 := s1.trans (same_new hp2 (.tup [V.ty "list", V.ty "tuple"]))
    have tp2 : SqT K (upd (upd H p1 (.tup [V.ty "list", V.ty "tuple"])) p2 (.tup [V.ty "list", V.ty "tuple"])) p2 (["list", "tuple"].map V.ty) := SqT.of upd_same
    generalize upd (upd H p1 (.tup [V.ty "list", V.ty "tuple"])) p2 (.tup [V.ty "list", V.ty "tuple"]) = H2 at *
    have r1 := h1.same s2
    have r2 := h2.same s2
    walk_at "vc"
    refine vc_isKs (ns := ["list", "tuple"]) (b := true) r1.kind tp2 rfl ?_
    walk_at "vc"
    refine vc_isK (b := true) r1.kind rfl ?_
    walk_at "vc"
    refine vc_isK (b := true) r2.kind rfl ?_
    walk_at "vc"
    refine iteNS rfl ?_
    cases r1 with
    | @lst a1 xs _ l1 e1 =>
    cases r2 with
    | @lst a2 ys _ l2 e2 =>
    walk_at "vc"
    refine vc_lenL l1 ?_
    walk_at "vc"
    refine vc_lenL l2 ?_
    walk_at "vc"
    have hl : xs.length = ys.length := e1.length.trans e2.length.symm
    rw [hl, dec_true rfl]
    refine iteT ?_
    walk_at "vc"
    refine ⟨false, a1, a2, xs, ys, rfl, l1, l2, fun D hD => alike_comp (b := false) l1 l2 e1 e2 hd.2 (small1000 (by rw [e1.length]; exact Nat.le_of_lt hd.1)) hD fun H3 s3 hD3 => ?_⟩
    walk_at "vc"
    refine vc_all (SqL.of hD3) ?_
    rw [all_rep]
    exact q _ (s2.trans s3)
theorem ok_l_alike (T : Txt K mg t) (n : Nat) : FnOk P w K mg base CX0 (n + 1) t.f_l_alike t.d_l_alike ["_law_found", "_law_due"] (spAlike K n) := by
  induction n with
  | zero => exact ⟨fun _ _ _ _ h => by obtain ⟨_, _, _, _, _, _, z, _⟩ := h; exact z.elim, fun _ _ _ _ _ _ _ _ _ _ _ _ _ h => by obtain ⟨_, _, _, _, _, _, z, _⟩ := h; exact z.elim⟩
  | succ n G_l_alike => exact alike_step T n G_l_alike
inductive spAt_ (K : PySem.W.Frag) (vs : List V) (H : Hp) (Q : VK) : Prop where
  | mk (a : Addr) (k : Int) (ns : List Int) : (vs = [.ref a, .int k]) → (SqL K H a (ns.map V.int)) → (0 ≤ k) → (ns.length ≤ 63) → (∀ c : Int, Q (.int c) H) → spAt_ K vs H Q
noncomputable def spAt (K : PySem.W.Frag) : Sp := fun vs H Q _ => spAt_ K vs H Q
theorem ok_l_at (T : Txt K mg t) : FnOk P w K mg base CX0 1 t.f_l_at t.d_l_at ["_law_script", "_law_k"] (spAt K) := by
  refine T.F_l_at.ok sc_l_at (fun vs H Q E h => ?_) (fun cdv A outer s H vs Q E hr h => ?_)
  · obtain ⟨a, k, ns, rfl, _⟩ := h
    rfl
  obtain ⟨a, k, ns, rfl, hq, h0, hl, q⟩ := h
  refine ⟨_, (pss_cons (ps_if (pt_cmpR op_lt (qv qv_l_at 1 rfl rfl rfl) (q_callB call_lenR qg_l_at 0 rfl rfl T.z_len bo_len (pa_cons (qv qv_l_at 0 rfl rfl rfl) pa_nil)) (nomark _)) (pss_one (ps_ret (pe_ix ix_list (qv qv_l_at 0 rfl rfl rfl) (qv qv_l_at 1 rfl rfl rfl) (fun _ _ => rfl)))) pss_nil)
      (pss_one (ps_ret (pe_op op_sub (q_callB call_lenR qg_l_at 0 rfl rfl T.z_len bo_len (pa_cons (qv qv_l_at 0 rfl rfl rfl) pa_nil)) (qv qv_l_at 1 rfl rfl rfl))))), ?_⟩
  walk_at "vc"
  refine vc_lenL hq ?_
  walk_at "vc"
  refine ite2 (fun z => ?_) (fun z => ?_)
  · have hk : k < ((ns.map V.int).length : Int) := of_decide_eq_true z
    rw [List.length_map] at hk
    walk_at "vc"
    obtain ⟨j, rfl⟩ : ∃ j : Nat, k = (j : Int) := ⟨k.toNat, by omega⟩
    have hj : j < ns.length := by omega
    refine vc_ixL hq (x := .int ns[j]) (atI_nat ?_) ?_
    · rw [List.getElem?_map, List.getElem?_eq_getElem hj]
      rfl
    exact q _
  · walk_at "vc"
    refine vc_lenL hq ?_
    walk_at "vc"
    exact q _
open Classical in
inductive spLApart_ (K : PySem.W.Frag) (vs : List V) (H : Hp) (Q : VK) : Prop where
  | mk (f a0 a1 a2 a3 a4 : Addr) (rs : List V) (ps : List (Str × Str)) (one other : Str) : (vs = [.ref f, .str one, .str other]) → (SqL K H f [.ref a0, .ref a1, .ref a2, .ref a3, .ref a4]) → (SqL K H a3 rs) → (Reps K H rs (apartDs ps)) → ((∀ p ∈ ps, Let p.1 ∧ Let p.2)) → (Let one) → (Let other) → (∀ H', Same H H' → Q (.bl (decide ((one, other) ∈ ps ∨ (other, one) ∈ ps))) H') → spLApart_ K vs H Q
open Classical in
noncomputable def spLApart (K : PySem.W.Frag) : Sp := fun vs H Q _ => spLApart_ K vs H Q
theorem ok_l_apart (T : Txt K mg t) : FnOk P w K mg base CX0 1 t.f_l_apart t.d_l_apart ["_law_five_here", "_law_one", "_law_other"] (spLApart K) := by
  refine T.F_l_apart.ok sc_l_apart (fun vs H Q E h => ?_) (fun cdv A outer s H vs Q E hr h => ?_)
  · obtain ⟨f, a0, a1, a2, a3, a4, rs, ps, one, other, rfl, _⟩ := h
    rfl
  obtain ⟨f, a0, a1, a2, a3, a4, rs, ps, one, other, rfl, hf, hl, hR, hps, ho, ht, q⟩ := h
  refine ⟨_, (pss_one (ps_ret (pe_or (pe_cmpR (op_inD hr.units) (pe_tup (pa_cons (qv qv_l_apart 1 rfl rfl rfl) (pa_cons (qv qv_l_apart 2 rfl rfl rfl) pa_nil))) (pe_ix ix_list (qv qv_l_apart 0 rfl rfl rfl) pe_int (fun _ _ => rfl)) (by with_unfolding_all rfl)) (pe_one (pe_cmpR (op_inD hr.units) (pe_tup (pa_cons (qv qv_l_apart 2 rfl rfl rfl) (pa_cons (qv qv_l_apart 1 rfl rfl rfl) pa_nil))) (pe_ix ix_list (qv qv_l_apart 0 rfl rfl rfl) pe_int (fun _ _ => rfl)) (by with_unfolding_all rfl)))))), ?_⟩
  have hk : ∀ d ∈ apartDs ps, PySem.W.kqdOk 8 d = true := fun d hd => by
    unfold apartDs at hd
    obtain ⟨p, hp, rfl⟩ := List.mem_map.mp hd
    exact two_ok (hps p hp).1 (hps p hp).2 7
  walk_at "vc"
  refine ⟨(by show 2 ≤ sizeLine; decide), fun t1 ht1 => ?_⟩
  walk_at "vc"
  have s1 := same_new ht1 (.tup [.str one, .str other])
  refine vc_ixL (s1.seq hf) (x := .ref a3) rfl ?_
  refine ⟨.tuple [.str one, .str other], apartDs ps, .tup (SqT.of upd_same) (.cons (.str _) (.cons (.str _) .nil)), .lst (s1.seq hl) (hR.same s1), two_ok ho ht 7, hk, ?_⟩
  by_cases e1 : (one, other) ∈ ps
  · rw [if_neg Bool.false_ne_true, dec_true (mem_apart.mpr e1)]
    walk_at "vc"
    have := q _ s1
    rw [dec_true (.inl e1)] at this
    exact this
  rw [if_neg Bool.false_ne_true, dec_false (fun z => e1 (mem_apart.mp z))]
  walk_at "vc"
  refine ⟨(by show 2 ≤ sizeLine; decide), fun t2 ht2 => ?_⟩
  walk_at "vc"
  have s2 := s1.trans (same_new ht2 (.tup [.str other, .str one]))
  refine vc_ixL (s2.seq hf) (x := .ref a3) rfl ?_
  refine ⟨.tuple [.str other, .str one], apartDs ps, .tup (SqT.of upd_same) (.cons (.str _) (.cons (.str _) .nil)), .lst (s2.seq hl) (hR.same s2), two_ok ht ho 7, hk, ?_⟩
  rw [if_neg Bool.false_ne_true]
  have := q _ s2
  by_cases e2 : (other, one) ∈ ps
  · rw [dec_true (.inr e2)] at this
    rw [dec_true (mem_apart.mpr e2)]
    exact this
  · rw [dec_false (fun z => z.elim e1 e2)] at this
    rw [dec_false (fun z => e2 (mem_apart.mp z))]
    exact this
theorem same_none {H H' : Hp} {a : Addr} (e : Same H H') (h : H' a = none) : H a = none := by
  cases q : H a with
  | none => rfl
  | some o => rw [e _ _ q] at h; cases h
theorem getD_mem {ws : List Str} {p : Nat} (h : p < ws.length) : ws.getD p (Str.ofString "") ∈ ws := by
  rw [List.getD_eq_getElem?_getD, List.getElem?_eq_getElem h]
  exact List.getElem_mem h
theorem getD_inj {ws : List Str} (nd : ws.Nodup) {p q : Nat} (hp : p < ws.length) (hq : q < ws.length) (e : ws.getD p (Str.ofString "") = ws.getD q (Str.ofString "")) : p = q := by
  rw [List.getD_eq_getElem?_getD, List.getElem?_eq_getElem hp, List.getD_eq_getElem?_getD, List.getElem?_eq_getElem hq] at e
  refine (List.getElem?_inj hp nd).mp ?_
  rw [List.getElem?_eq_getElem hp, List.getElem?_eq_getElem hq]
  exact congrArg some e
theorem sum_bounds {m : Int} : ∀ {xs : List Int}, (∀ x ∈ xs, 1 ≤ x ∧ x ≤ m) → (xs.length : Int) ≤ xs.sum ∧ xs.sum ≤ m * xs.length
  | [], _ => by simp
  | x :: xs, h => by
    have ih := sum_bounds fun y hy => h y (List.mem_cons_of_mem _ hy)
    have hx := h x List.mem_cons_self
    rw [List.sum_cons, List.length_cons]
    have e : m * ((xs.length + 1 : Nat) : Int) = m * (xs.length : Int) + m := by rw [Int.natCast_add, Int.mul_add]; simp
    omega
theorem ok_are_apart (T : Txt K mg t) : FnOk P w K mg base CX0 1 t.f_are_apart t.d_are_apart ["pipe", "one", "other"] (spApart K t.c_Pipe) := by
  refine T.F_are_apart.ok sc_are_apart (fun vs H Q E h => ?_) (fun cdv A outer s H vs Q E hr h => ?_)
  · obtain ⟨x, l1, l2, l3, l4, pg, rs, ps, one, other, rfl, _⟩ := h
    rfl
  obtain ⟨x, l1, l2, l3, l4, pg, rs, ps, one, other, rfl, ⟨dx, hx⟩, hl, hR, hps, ho, ht, q⟩ := h
  refine ⟨_, (pss_one (ps_ret (pe_or (pe_cmpR (op_inD hr.units) (pe_tup (pa_cons (qv qv_are_apart 1 rfl rfl rfl) (pa_cons (qv qv_are_apart 2 rfl rfl rfl) pa_nil))) (pe_fld (qv qv_are_apart 0 rfl rfl rfl) rfl) (by with_unfolding_all rfl)) (pe_one (pe_cmpR (op_inD hr.units) (pe_tup (pa_cons (qv qv_are_apart 2 rfl rfl rfl) (pa_cons (qv qv_are_apart 1 rfl rfl rfl) pa_nil))) (pe_fld (qv qv_are_apart 0 rfl rfl rfl) rfl) (by with_unfolding_all rfl)))))), ?_⟩
  have hk : ∀ d ∈ apartDs ps, PySem.W.kqdOk 8 d = true := fun d hd => by
    unfold apartDs at hd
    obtain ⟨p, hp, rfl⟩ := List.mem_map.mp hd
    exact two_ok (hps p hp).1 (hps p hp).2 7
  walk_at "vc"
  refine ⟨(by show 2 ≤ sizeLine; decide), fun t1 ht1 => ?_⟩
  walk_at "vc"
  have s1 := same_new ht1 (.tup [.str one, .str other])
  refine ⟨x, t.c_Pipe, dx, _, _, rfl, s1 _ _ hx, T.C_Pipe, T.n_Pipe_apart, fs_apart .., ?_⟩
  refine ⟨.tuple [.str one, .str other], apartDs ps, .tup (SqT.of upd_same) (.cons (.str _) (.cons (.str _) .nil)), .lst (s1.seq hl) (hR.same s1), two_ok ho ht 7, hk, ?_⟩
  by_cases e1 : (one, other) ∈ ps
  · rw [if_neg Bool.false_ne_true, dec_true (mem_apart.mpr e1)]
    walk_at "vc"
    have := q _ s1
    rw [dec_true (.inl e1)] at this
    exact this
  rw [if_neg Bool.false_ne_true, dec_false (fun z => e1 (mem_apart.mp z))]
  walk_at "vc"
  refine ⟨(by show 2 ≤ sizeLine; decide), fun t2 ht2 => ?_⟩
  walk_at "vc"
  have s2 := s1.trans (same_new ht2 (.tup [.str other, .str one]))
  refine ⟨x, t.c_Pipe, dx, _, _, rfl, s2 _ _ hx, T.C_Pipe, T.n_Pipe_apart, fs_apart .., ?_⟩
  refine ⟨.tuple [.str other, .str one], apartDs ps, .tup (SqT.of upd_same) (.cons (.str _) (.cons (.str _) .nil)), .lst (s2.seq hl) (hR.same s2), two_ok ht ho 7, hk, ?_⟩
  rw [if_neg Bool.false_ne_true]
  have := q _ s2
  by_cases e2 : (other, one) ∈ ps
  · rw [dec_true (.inr e2)] at this
    rw [dec_true (mem_apart.mpr e2)]
    exact this
  · rw [dec_false (fun z => z.elim e1 e2)] at this
    rw [dec_false (fun z => e2 (mem_apart.mp z))]
    exact this
inductive spEnd_ (K : PySem.W.Frag) (C : Addr) (vs : List V) (H : Hp) (Q : VK) : Prop where
  | mk (x l1 l2 l3 l4 : Addr) (pg : V) (rooms : List Int) : (vs = [.ref x]) → (PipeAt H C x l1 l2 l3 l4 pg) → (SqL K H l1 (rooms.map V.int)) → (∀ H', Same H H' → Q (.int rooms.sum) H') → spEnd_ K C vs H Q
noncomputable def spEnd (K : PySem.W.Frag) (C : Addr) : Sp := fun vs H Q _ => spEnd_ K C vs H Q
theorem ok_end_of (T : Txt K mg t) : FnOk P w K mg base CX0 2 t.f_end_of t.d_end_of ["pipe"] (spEnd K t.c_Pipe) := by
  have G_place_of := ok_place_of (P := P) (w := w) (base := base) T
  refine T.F_end_of.ok sc_end_of (fun vs H Q E h => ?_) (fun cdv A outer s H vs Q E hr h => ?_)
  · obtain ⟨x, l1, l2, l3, l4, pg, rooms, rfl, _⟩ := h
    rfl
  obtain ⟨x, l1, l2, l3, l4, pg, rooms, rfl, ⟨dx, hx⟩, hl, q⟩ := h
  refine ⟨_, (pss_one (ps_ret (q_call G_place_of (hr.mono (by first | decide | omega)) qg_end_of 0 rfl rfl T.m_place_of T.F_place_of.kp T.b_place_of .nil pass0 (pa_cons (qv qv_end_of 0 rfl rfl rfl) (pa_cons (q_callB call_lenR qg_end_of 1 rfl rfl T.z_len bo_len (pa_cons (pe_fld (qv qv_end_of 0 rfl rfl rfl) rfl) pa_nil)) pa_nil))))), ?_⟩
  walk_at "vc"
  refine ⟨x, t.c_Pipe, dx, _, _, rfl, hx, T.C_Pipe, T.n_Pipe_rooms, fs_rooms .., ?_⟩
  walk_at "vc"
  refine vc_lenL hl ?_
  walk_at "vc"
  refine ⟨x, l1, l2, l3, l4, pg, rooms, _, rfl, ⟨dx, hx⟩, hl, Int.natCast_nonneg _, fun H' sm => ?_⟩
  rw [List.length_map, Int.toNat_natCast, List.take_length]
  exact q H' sm
structure Fr2 (H : Hp) (r : Addr) (a b : Int) : Prop where
  at_ : H r = some (.tup [.int a, .int b])
  ba : Bt 400 a
  bb : Bt 400 b
  pos : 0 < b
inductive spTimes_ (vs : List V) (H : Hp) (Q : VK) : Prop where
  | mk (r1 r2 : Addr) (a b c d : Int) : (vs = [.ref r1, .ref r2]) → (Fr2 H r1 a b) → (Fr2 H r2 c d) → (∀ r, H r = none → Q (.ref r) (upd H r (.tup [.int (fN (a * c) (b * d)), .int (fD (a * c) (b * d))]))) → spTimes_  vs H Q
noncomputable def spTimes : Sp := fun vs H Q _ => spTimes_  vs H Q
theorem ok_times (T : Txt K mg t) : FnOk P w K mg base CX0 3 t.f_times t.d_times ["one", "other"] spTimes := by
  have G_made := ok_made (P := P) (w := w) (base := base) T
  refine T.F_times.ok sc_times (fun vs H Q E h => ?_) (fun cdv A outer s H vs Q E hr h => ?_)
  · obtain ⟨r1, r2, a, b, c, d, rfl, _⟩ := h
    rfl
  obtain ⟨r1, r2, a, b, c, d, rfl, ⟨h1, ba, bb, pb⟩, ⟨h2, bc, bd, pd⟩, q⟩ := h
  have g1 : SqT K H r1 [.int a, .int b] := SqT.of h1
  have g2 : SqT K H r2 [.int c, .int d] := SqT.of h2
  refine ⟨_, (pss_one (ps_ret (q_call G_made (hr.mono (by first | decide | omega)) qg_times 0 rfl rfl T.m_made T.F_made.kp T.b_made .nil pass0 (pa_cons (pe_op op_mulB (pe_ix ix_tup (qv qv_times 0 rfl rfl rfl) pe_int (fun _ _ => rfl)) (pe_ix ix_tup (qv qv_times 1 rfl rfl rfl) pe_int (fun _ _ => rfl))) (pa_cons (pe_op op_mulB (pe_ix ix_tup (qv qv_times 0 rfl rfl rfl) pe_int (fun _ _ => rfl)) (pe_ix ix_tup (qv qv_times 1 rfl rfl rfl) pe_int (fun _ _ => rfl))) pa_nil))))), ?_⟩
  walk_at "vc"
  exact ⟨_, _, rfl, Int.mul_ne_zero (by omega) (by omega), (Bt.mul bb bd).mono (by decide), q⟩
theorem cop_dvd {a b D D' : Int} (c : Int.gcd D a = 1) (x : a * D' = b * D) : D.natAbs ∣ D'.natAbs := by
  have h : D.natAbs ∣ a.natAbs * D'.natAbs := ⟨b.natAbs, by rw [← Int.natAbs_mul, x, Int.natAbs_mul, Nat.mul_comm]⟩
  exact Nat.Coprime.dvd_of_dvd_mul_left (show Nat.Coprime D.natAbs a.natAbs from c) h
theorem f_uniq {n p n' p' : Int} (hp : p ≠ 0) (hp' : p' ≠ 0) (h : n * p' = n' * p) : fN n p = fN n' p' ∧ fD n p = fD n' p' := by
  have w := f_worth (n := n) hp
  have w' := f_worth (n := n') hp'
  have c := f_cop (n := n) hp
  have c' := f_cop (n := n') hp'
  have d := fD_pos (n := n) hp
  have d' := fD_pos (n := n') hp'
  generalize fN n p = a at *
  generalize fD n p = D at *
  generalize fN n' p' = a' at *
  generalize fD n' p' = D' at *
  have x : a * D' = a' * D := by
    refine Int.eq_of_mul_eq_mul_right (Int.mul_ne_zero hp hp') ?_
    calc a * D' * (p * p') = (a * p) * (D' * p') := by ac_rfl
      _ = (n * D) * (D' * p') := by rw [w]
      _ = (n * p') * (D * D') := by ac_rfl
      _ = (n' * p) * (D * D') := by rw [h]
      _ = (n' * D') * (p * D) := by ac_rfl
      _ = (a' * p') * (p * D) := by rw [w']
      _ = a' * D * (p * p') := by ac_rfl
  have e := Nat.dvd_antisymm (cop_dvd c x) (cop_dvd c' x.symm)
  have eD : D = D' := by omega
  subst eD
  exact ⟨Int.eq_of_mul_eq_mul_right (by omega) x, rfl⟩
theorem f_times {h1 h2 k : Int} (hp : 0 < h2) : fN (2 * fN (h1 * k) (h2 * 1)) (1 * fD (h1 * k) (h2 * 1)) = fN (2 * k * h1) h2 ∧ fD (2 * fN (h1 * k) (h2 * 1)) (1 * fD (h1 * k) (h2 * 1)) = fD (2 * k * h1) h2 := by
  have hp1 : h2 * 1 ≠ 0 := by omega
  have w := f_worth (n := h1 * k) hp1
  have d := fD_pos (n := h1 * k) hp1
  generalize fN (h1 * k) (h2 * 1) = a at *
  generalize fD (h1 * k) (h2 * 1) = D at *
  refine f_uniq (by omega) (by omega) ?_
  calc 2 * a * h2 = 2 * (a * (h2 * 1)) := by rw [Int.mul_one, Int.mul_assoc]
    _ = 2 * (h1 * k * D) := by rw [w]
    _ = 2 * k * h1 * (1 * D) := by rw [Int.one_mul]; ac_rfl
structure ApOk (ws : List Str) (ap : List (Str × Str)) : Prop where
  mem : ∀ p ∈ ap, p.1 ∈ ws ∧ p.2 ∈ ws
  ne : ∀ x, (x, x) ∉ ap
theorem ApOk.snoc {ws : List Str} {ap : List (Str × Str)} (h : ApOk ws ap) {x y : Str} (hx : x ∈ ws) (hy : y ∈ ws) (n : x ≠ y) : ApOk ws (ap ++ [(x, y)]) := by
  refine ⟨fun p hp => ?_, fun z hz => ?_⟩
  · rcases List.mem_append.mp hp with hp | hp
    · exact h.mem p hp
    · rw [List.mem_singleton] at hp
      rw [hp]
      exact ⟨hx, hy⟩
  · rcases List.mem_append.mp hz with hz | hz
    · exact h.ne z hz
    · rw [List.mem_singleton] at hz
      exact n ((congrArg Prod.fst hz).symm.trans (congrArg Prod.snd hz))
structure DataOk (rooms : List Int) (rows : List (Int × Int)) (th : List (Str × Str × Int)) (ap : List (Str × Str)) : Prop where
  s0 : 0 ≤ rooms.sum
  s1 : rooms.sum ≤ 200000000
  rw : RowsOk rows
  thl : ∀ p ∈ th, Let p.1 ∧ Let p.2.1
  thk : ∀ p ∈ th, 0 ≤ p.2.2 ∧ p.2.2 ≤ 20
  apl : ∀ p ∈ ap, Let p.1 ∧ Let p.2
structure PipeD (K : PySem.W.Frag) (H : Hp) (C x : Addr) (rooms : List Int) (rows : List (Int × Int)) (th : List (Str × Str × Int)) (ap : List (Str × Str)) : Prop where
  at_ : ∃ (l1 l2 l3 l4 : Addr) (pg : V) (r2 r3 r4 : List V), PipeAt H C x l1 l2 l3 l4 pg ∧ SqL K H l1 (rooms.map V.int) ∧ SqL K H l2 r2 ∧ Reps K H r2 (rows.map rowD) ∧ SqL K H l3 r3 ∧ Reps K H r3 (thickDs th) ∧ SqL K H l4 r4 ∧ Reps K H r4 (apartDs ap)
theorem PipeD.same {H H' : Hp} {C x : Addr} {rooms : List Int} {rows : List (Int × Int)} {th : List (Str × Str × Int)} {ap : List (Str × Str)} (h : PipeD K H C x rooms rows th ap) (e : Same H H') : PipeD K H' C x rooms rows th ap := by
  obtain ⟨l1, l2, l3, l4, pg, r2, r3, r4, a, b, c, d, f, g, i, j⟩ := h.at_
  exact ⟨l1, l2, l3, l4, pg, r2, r3, r4, a.same e, e.seq b, e.seq c, d.same e, e.seq f, g.same e, e.seq i, j.same e⟩
noncomputable def hfN (rows : List (Int × Int)) (n : Int) : Int := fN (halfGo 0 0 rows n).1 (halfGo 0 0 rows n).2
noncomputable def hfD (rows : List (Int × Int)) (n : Int) : Int := fD (halfGo 0 0 rows n).1 (halfGo 0 0 rows n).2
theorem half_bounds (n : Int) (hn0 : 0 ≤ n) (hn1 : n ≤ 200000000) : ∀ (rows : List (Int × Int)) (near nh : Int), ((near, nh) :: rows).Pairwise (fun x y => x.1 < y.1 ∧ x.2 ≤ y.2) → (∀ r ∈ rows, r.1 ≤ 100000000 ∧ r.2 ≤ 100000000) → 0 ≤ near → near ≤ 100000000 → 0 ≤ nh → nh ≤ 100000000 →
    0 < (halfGo near nh rows n).2 ∧ (halfGo near nh rows n).2 ≤ 100000000 ∧ (halfGo near nh rows n).1.natAbs ≤ 100000000 * 400000000
  | [], near, nh, _, _, _, _, b0, b1 => by
    show 0 < (1 : Int) ∧ (1 : Int) ≤ 100000000 ∧ nh.natAbs ≤ _
    omega
  | r :: rs, near, nh, hup, hle, a0, a1, b0, b1 => by
    obtain ⟨h1, h2⟩ := List.pairwise_cons.mp hup
    have g := h1 r List.mem_cons_self
    have l := hle r List.mem_cons_self
    obtain ⟨far, fh⟩ := r
    dsimp only at g l
    rw [halfGo]
    split
    · show 0 < far - near ∧ far - near ≤ 100000000 ∧ (nh * (far - near) + (fh - nh) * (n - near)).natAbs ≤ _
      refine ⟨by omega, by omega, ?_⟩
      have m1 : (nh * (far - near)).natAbs ≤ 100000000 * 100000000 := by rw [Int.natAbs_mul]; exact Nat.mul_le_mul (by omega) (by omega)
      have m2 : ((fh - nh) * (n - near)).natAbs ≤ 100000000 * 200000000 := by rw [Int.natAbs_mul]; exact Nat.mul_le_mul (by omega) (by omega)
      generalize nh * (far - near) = u at *
      generalize (fh - nh) * (n - near) = v at *
      omega
    · exact half_bounds n hn0 hn1 rs far fh h2 (fun q hq => hle q (List.mem_cons_of_mem _ hq)) (by omega) (by omega) (by omega) (by omega)
theorem fN_le {n p : Int} (h : p ≠ 0) : (fN n p).natAbs ≤ n.natAbs ∧ (fD n p).natAbs ≤ p.natAbs := by
  have e1 := fN_eq (n := n) h
  have e2 := fD_eq (n := n) h
  have d := dv_ne (n := n) h
  have d1 : 1 ≤ (dv n p).natAbs := by omega
  constructor
  · conv => rhs; rw [e1, Int.natAbs_mul]
    exact Nat.le_mul_of_pos_left _ d1
  · conv => rhs; rw [e2, Int.natAbs_mul]
    exact Nat.le_mul_of_pos_left _ d1
theorem half_ok {rows : List (Int × Int)} {n : Int} (h : RowsOk rows) (hn0 : 0 ≤ n) (hn1 : n ≤ 200000000) : 0 < hfD rows n ∧ hfD rows n ≤ 100000000 ∧ (hfN rows n).natAbs ≤ 100000000 * 400000000 := by
  obtain ⟨a, b, c⟩ := half_bounds n hn0 hn1 rows 0 0 h.up h.le (by decide) (by decide) (by decide) (by decide)
  have l := fN_le (n := (halfGo 0 0 rows n).1) (p := (halfGo 0 0 rows n).2) (by omega)
  have p := fD_pos (n := (halfGo 0 0 rows n).1) (p := (halfGo 0 0 rows n).2) (by omega)
  unfold hfN hfD
  omega
theorem bt400 {x : Int} (h : x.natAbs < 2 ^ 100) : Bt 400 x := Bt.mono (m := 100) (Bt.iff.mpr h) (by decide)
theorem thick_b {one other : Str} : ∀ {th : List (Str × Str × Int)}, (∀ p ∈ th, 0 ≤ p.2.2 ∧ p.2.2 ≤ 20) → 0 ≤ thickGo one other th ∧ thickGo one other th ≤ 20
  | [], _ => by show 0 ≤ (1 : Int) ∧ (1 : Int) ≤ 20; omega
  | p :: r, h => by
    rw [thickGo]
    split
    · exact h p List.mem_cons_self
    · exact thick_b fun q hq => h q (List.mem_cons_of_mem _ hq)
theorem thickBy_b {one other : Str} {th : List (Str × Str × Int)} (h : ∀ p ∈ th, 0 ≤ p.2.2 ∧ p.2.2 ≤ 20) : 0 ≤ thickBy one other th ∧ thickBy one other th ≤ 20 := by
  unfold thickBy
  split
  · omega
  · exact thick_b h
theorem thickGo_comm (one other : Str) : ∀ th : List (Str × Str × Int), thickGo one other th = thickGo other one th
  | [] => rfl
  | p :: r => by
    rw [thickGo, thickGo, thickGo_comm one other r]
    by_cases h : (p.1 = one ∧ p.2.1 = other) ∨ (p.1 = other ∧ p.2.1 = one)
    · rw [if_pos h, if_pos h.symm]
    · rw [if_neg h, if_neg fun z => h z.symm]
theorem thickBy_comm (one other : Str) (th : List (Str × Str × Int)) : thickBy one other th = thickBy other one th := by
  unfold thickBy
  rw [thickGo_comm]
  by_cases h : one = other
  · rw [if_pos h, if_pos h.symm]
  · rw [if_neg h, if_neg fun z => h z.symm]
inductive spHB_ (K : PySem.W.Frag) (C : Addr) (vs : List V) (H : Hp) (Q : VK) : Prop where
  | mk (x : Addr) (rooms : List Int) (rows : List (Int × Int)) (th : List (Str × Str × Int)) (ap : List (Str × Str)) (one other : Str) (n : Int) : (vs = [.ref x, .str one, .str other, .int n, .bl false]) → (PipeD K H C x rooms rows th ap) → (DataOk rooms rows th ap) → (Let one) → (Let other) → (0 ≤ n) → (n ≤ 200000000) → (∀ (r : Addr) (H' : Hp), Same H H' → H' r = some (.tup [.int (fN (hfN rows n * thickBy one other th) (hfD rows n * 1)), .int (fD (hfN rows n * thickBy one other th) (hfD rows n * 1))]) → Q (.ref r) H') → spHB_ K C vs H Q
noncomputable def spHB (K : PySem.W.Frag) (C : Addr) : Sp := fun vs H Q _ => spHB_ K C vs H Q
theorem ok_half_between (T : Txt K mg t) : FnOk P w K mg base CX0 4 t.f_half_between t.d_half_between ["pipe", "one", "other", "distance", "with_pig"] (spHB K t.c_Pipe) := by
  have G_times := ok_times (P := P) (w := w) (base := base) T
  have G_half_at := ok_half_at (P := P) (w := w) (base := base) T
  have G_thick_of := ok_thick_of (P := P) (w := w) (base := base) T
  refine T.F_half_between.ok sc_half_between (fun vs H Q E h => ?_) (fun cdv A outer s H vs Q E hr h => ?_)
  · obtain ⟨x, rooms, rows, th, ap, one, other, n, rfl, _⟩ := h
    rfl
  obtain ⟨x, rooms, rows, th, ap, one, other, n, rfl, ⟨l1, l2, l3, l4, pg, r2, r3, r4, hP, _, h2, q2, h3, q3, _, _⟩, D, ho, ht, hn0, hn1, q⟩ := h
  obtain ⟨b1, b2, b3⟩ := half_ok D.rw hn0 hn1
  obtain ⟨k0, k1⟩ := thickBy_b (one := one) (other := other) D.thk
  refine ⟨_, (pss_cons (q_set (i := 5) qv_half_between sc_half_between.nd rfl rfl rfl (q_call G_times (hr.mono (by first | decide | omega)) qg_half_between 0 rfl rfl T.m_times T.F_times.kp T.b_times .nil pass0 (pa_cons (q_call G_half_at (hr.mono (by first | decide | omega)) qg_half_between 1 rfl rfl T.m_half_at T.F_half_at.kp T.b_half_at .nil pass0 (pa_cons (qv qv_half_between 0 rfl rfl rfl) (pa_cons (qv qv_half_between 3 rfl rfl rfl) pa_nil))) (pa_cons (pe_tup (pa_cons (q_call G_thick_of (hr.mono (by first | decide | omega)) qg_half_between 2 rfl rfl T.m_thick_of T.F_thick_of.kp T.b_thick_of .nil pass0 (pa_cons (qv qv_half_between 0 rfl rfl rfl) (pa_cons (qv qv_half_between 1 rfl rfl rfl) (pa_cons (qv qv_half_between 2 rfl rfl rfl) pa_nil)))) (pa_cons pe_int pa_nil))) pa_nil))))
      (pss_one (ps_ret (pe_ifExp (pt_val (qv qv_half_between 4 rfl rfl rfl)) (q_call G_times (hr.mono (by first | decide | omega)) qg_half_between 0 rfl rfl T.m_times T.F_times.kp T.b_times .nil pass0 (pa_cons (qv qv_half_between 5 rfl rfl rfl) (pa_cons (pe_fld (qv qv_half_between 0 rfl rfl rfl) rfl) pa_nil))) (qv qv_half_between 5 rfl rfl rfl))))), ?_⟩
  walk_at "vc"
  refine ⟨x, l1, l2, l3, l4, pg, r2, rows, n, rfl, hP, h2, q2, D.rw, hn0, hn1, fun r hr1 => ?_⟩
  have Y1 := same_new hr1 (.tup [.int (hfN rows n), .int (hfD rows n)])
  have g1 : upd H r (.tup [.int (hfN rows n), .int (hfD rows n)]) r = some (.tup [.int (hfN rows n), .int (hfD rows n)]) := upd_same
  show tCons _ _ _ (upd H r (.tup [.int (hfN rows n), .int (hfD rows n)])) _
  generalize upd H r (.tup [.int (hfN rows n), .int (hfD rows n)]) = H1 at *
  walk_at "vc"
  refine ⟨x, l1, l2, l3, l4, pg, r3, th, one, other, rfl, hP.same Y1, Y1.seq h3, q3.same Y1, D.thl, ho, ht, fun H2 S2 => ?_⟩
  walk_at "vc"
  refine ⟨(by show 2 ≤ sizeLine; decide), fun r' hr2 => ?_⟩
  have Y2 := same_new hr2 (.tup [.int (thickBy one other th), .int 1])
  refine ⟨r, r', _, _, _, _, rfl, ⟨Y2 _ _ (S2 _ _ g1), bt400 (by omega), bt400 (by omega), b1⟩, ⟨upd_same, bt400 (by omega), bt400 (by decide), by decide⟩, fun r3 hr3 => ?_⟩
  walk_at "vc"
  exact q r3 _ (Y1.trans (S2.trans (Y2.trans (same_new hr3 _)))) upd_same
open Classical in
inductive spWB_ (K : PySem.W.Frag) (C : Addr) (vs : List V) (H : Hp) (Q : VK) : Prop where
  | mk (x : Addr) (rooms : List Int) (rows : List (Int × Int)) (th : List (Str × Str × Int)) (ap : List (Str × Str)) (one other : Str) : (vs = [.ref x, .str one, .str other]) → (PipeD K H C x rooms rows th ap) → (DataOk rooms rows th ap) → (Let one) → (Let other) → ((((one, other) ∈ ap ∨ (other, one) ∈ ap) → ∀ H', Same H H' → Q .non H')) → ((¬ ((one, other) ∈ ap ∨ (other, one) ∈ ap) → ∀ (r : Addr) (H' : Hp), Same H H' → H' r = some (.tup [.int (fN (2 * thickBy one other th * hfN rows rooms.sum) (hfD rows rooms.sum)), .int (fD (2 * thickBy one other th * hfN rows rooms.sum) (hfD rows rooms.sum))]) → Q (.ref r) H')) → spWB_ K C vs H Q
open Classical in
noncomputable def spWB (K : PySem.W.Frag) (C : Addr) : Sp := fun vs H Q _ => spWB_ K C vs H Q
theorem ok_waste_between (T : Txt K mg t) : FnOk P w K mg base CX0 5 t.f_waste_between t.d_waste_between ["pipe", "one", "other"] (spWB K t.c_Pipe) := by
  have G_are_apart := ok_are_apart (P := P) (w := w) (base := base) T
  have G_times := ok_times (P := P) (w := w) (base := base) T
  have G_half_between := ok_half_between (P := P) (w := w) (base := base) T
  have G_end_of := ok_end_of (P := P) (w := w) (base := base) T
  refine T.F_waste_between.ok sc_waste_between (fun vs H Q E h => ?_) (fun cdv A outer s H vs Q E hr h => ?_)
  · obtain ⟨x, rooms, rows, th, ap, one, other, rfl, _⟩ := h
    rfl
  obtain ⟨x, rooms, rows, th, ap, one, other, rfl, hD, D, ho, ht, qA, qN⟩ := h
  obtain ⟨l1, l2, l3, l4, pg, r2, r3, r4, hP, h1, _, _, _, _, h4, q4⟩ := hD.at_
  obtain ⟨b1, b2, b3⟩ := half_ok D.rw D.s0 D.s1
  obtain ⟨k0, k1⟩ := thickBy_b (one := one) (other := other) D.thk
  refine ⟨_, (pss_cons (ps_if (pt_val (q_call G_are_apart (hr.mono (by first | decide | omega)) qg_waste_between 0 rfl rfl T.m_are_apart T.F_are_apart.kp T.b_are_apart .nil pass0 (pa_cons (qv qv_waste_between 0 rfl rfl rfl) (pa_cons (qv qv_waste_between 1 rfl rfl rfl) (pa_cons (qv qv_waste_between 2 rfl rfl rfl) pa_nil))))) (pss_one (ps_ret pe_non)) pss_nil)
      (pss_one (ps_ret (q_call G_times (hr.mono (by first | decide | omega)) qg_waste_between 1 rfl rfl T.m_times T.F_times.kp T.b_times .nil pass0 (pa_cons (pe_tup (pa_cons pe_int (pa_cons pe_int pa_nil))) (pa_cons (q_call G_half_between (hr.mono (by first | decide | omega)) qg_waste_between 2 rfl rfl T.m_half_between T.F_half_between.kp T.b_half_between .nil pass0 (pa_cons (qv qv_waste_between 0 rfl rfl rfl) (pa_cons (qv qv_waste_between 1 rfl rfl rfl) (pa_cons (qv qv_waste_between 2 rfl rfl rfl) (pa_cons (q_call G_end_of (hr.mono (by first | decide | omega)) qg_waste_between 3 rfl rfl T.m_end_of T.F_end_of.kp T.b_end_of .nil pass0 (pa_cons (qv qv_waste_between 0 rfl rfl rfl) pa_nil)) (pa_cons pe_bl pa_nil)))))) pa_nil)))))), ?_⟩
  walk_at "vc"
  refine ⟨x, l1, l2, l3, l4, pg, r4, ap, one, other, rfl, hP, h4, q4, D.apl, ho, ht, fun H1 S1 => ?_⟩
  walk_at "vc"
  by_cases e : (one, other) ∈ ap ∨ (other, one) ∈ ap
  · rw [dec_true e]
    walk_at "vc"
    exact qA e H1 S1
  rw [dec_false e]
  walk_at "vc"
  refine ⟨(by show 2 ≤ sizeLine; decide), fun r hr1 => ?_⟩
  have Y1 := same_new hr1 (.tup [.int 2, .int 1])
  have g1 : upd H1 r (.tup [.int 2, .int 1]) r = some (.tup [.int 2, .int 1]) := upd_same
  generalize upd H1 r (.tup [.int 2, .int 1]) = H2 at *
  walk_at "vc"
  refine ⟨x, l1, l2, l3, l4, pg, rooms, rfl, (hP.same S1).same Y1, Y1.seq (S1.seq h1), fun H3 S3 => ?_⟩
  have Z3 := S1.trans (Y1.trans S3)
  walk_at "vc"
  refine ⟨x, rooms, rows, th, ap, one, other, rooms.sum, rfl, hD.same Z3, D, ho, ht, D.s0, D.s1, fun r' H4 S4 g4 => ?_⟩
  have hp1 : hfD rows rooms.sum * 1 ≠ 0 := by omega
  have lm : (hfN rows rooms.sum * thickBy one other th).natAbs ≤ 100000000 * 400000000 * 20 := by rw [Int.natAbs_mul]; exact Nat.mul_le_mul b3 (by omega)
  have lf := fN_le (n := hfN rows rooms.sum * thickBy one other th) hp1
  have dp := fD_pos (n := hfN rows rooms.sum * thickBy one other th) hp1
  have ft := f_times (h1 := hfN rows rooms.sum) (k := thickBy one other th) b1
  generalize fN (hfN rows rooms.sum * thickBy one other th) (hfD rows rooms.sum * 1) = u at *
  generalize fD (hfN rows rooms.sum * thickBy one other th) (hfD rows rooms.sum * 1) = v at *
  walk_at "vc"
  refine ⟨r, r', _, _, _, _, rfl, ⟨S4 _ _ (S3 _ _ g1), bt400 (by decide), bt400 (by decide), by decide⟩, ⟨g4, bt400 (by omega), bt400 (by omega), dp⟩, fun r5 hr5 => ?_⟩
  rw [ft.1, ft.2]
  exact qN e r5 _ (Z3.trans (S4.trans (same_new hr5 _))) upd_same
structure FiveP (K : PySem.W.Frag) (H : Hp) (f a0 a1 a2 a3 a4 : Addr) (rooms : List Int) (rows : List (Int × Int)) (th : List (Str × Str × Int)) (ap : List (Str × Str)) (pg : Int × Int) : Prop where
  hf : H f = some (.lst [.ref a0, .ref a1, .ref a2, .ref a3, .ref a4])
  h0 : H a0 = some (.lst (rooms.map V.int))
  h1 : ∃ rs, H a1 = some (.lst rs) ∧ Reps K H rs (rows.map rowD)
  h2 : ∃ rs, H a2 = some (.lst rs) ∧ Reps K H rs (thickDs th)
  h3 : ∃ rs, H a3 = some (.lst rs) ∧ Reps K H rs (apartDs ap)
  h4 : H a4 = some (.tup [.int pg.1, .int pg.2])
  nd : f ∉ [a0, a1, a2, a3]
theorem FiveP.same {H H' : Hp} {f a0 a1 a2 a3 a4 : Addr} {rooms : List Int} {rows : List (Int × Int)} {th : List (Str × Str × Int)} {ap : List (Str × Str)} {pg : Int × Int} (h : FiveP K H f a0 a1 a2 a3 a4 rooms rows th ap pg) (e : Same H H') : FiveP K H' f a0 a1 a2 a3 a4 rooms rows th ap pg := by
  obtain ⟨hf, h0, ⟨r1, x1, y1⟩, ⟨r2, x2, y2⟩, ⟨r3, x3, y3⟩, h4, nd⟩ := h
  exact ⟨e _ _ hf, e _ _ h0, ⟨r1, e _ _ x1, y1.same e⟩, ⟨r2, e _ _ x2, y2.same e⟩, ⟨r3, e _ _ x3, y3.same e⟩, e _ _ h4, nd⟩
inductive spLow_ (vs : List V) (H : Hp) (Q : VK) : Prop where
  | mk (n p : Int) : (vs = [.int n, .int p]) → (0 < p) → (Bt 4000 p) → (∀ r, H r = none → Q (.ref r) (upd H r (.tup [.int (fN n p), .int (fD n p)]))) → spLow_  vs H Q
noncomputable def spLow : Sp := fun vs H Q _ => spLow_  vs H Q
theorem ok_l_lowest (T : Txt K mg t) : FnOk P w K mg base CX0 1 t.f_l_lowest t.d_l_lowest ["_law_number", "_law_parts"] spLow := by
  refine T.F_l_lowest.ok sc_l_lowest (fun vs H Q E h => ?_) (fun cdv A outer s H vs Q E hr h => ?_)
  · obtain ⟨n, p, rfl, _⟩ := h
    rfl
  obtain ⟨n, p, rfl, hp, hB, q⟩ := h
  have hb9 : Bt 9000 (dv n p) := (Bt.le (dv_le (by omega)) hB).mono (by decide)
  have dn := dv_ne (n := n) (p := p) (by omega)
  have ed : dv n p = ((Int.gcd (ab n) p : Nat) : Int) := by
    unfold dv
    rw [if_neg (by omega)]
    congr 1
    have := gcd_ab n p
    rw [gcd_ab_right] at this
    exact this.symm
  refine ⟨_, (pss_cons (q_set (i := 2) qv_l_lowest sc_l_lowest.nd rfl rfl rfl (q_callB call_absR qg_l_lowest 0 rfl rfl T.z_abs bo_abs (pa_cons (qv qv_l_lowest 0 rfl rfl rfl) pa_nil)))
      (pss_cons (q_set (i := 3) qv_l_lowest sc_l_lowest.nd rfl rfl rfl (qv qv_l_lowest 1 rfl rfl rfl))
      (pss_cons (ps_while PassesOwn.never (pt_cmpR op_gt (qv qv_l_lowest 3 rfl rfl rfl) pe_int (nomark _)) (pss_cons (q_set (i := 4) qv_l_lowest sc_l_lowest.nd rfl rfl rfl (pe_op op_mod (qv qv_l_lowest 2 rfl rfl rfl) (qv qv_l_lowest 3 rfl rfl rfl)))
      (pss_cons (q_set (i := 2) qv_l_lowest sc_l_lowest.nd rfl rfl rfl (qv qv_l_lowest 3 rfl rfl rfl))
      (pss_one (q_set (i := 3) qv_l_lowest sc_l_lowest.nd rfl rfl rfl (qv qv_l_lowest 4 rfl rfl rfl))))))
      (pss_one (ps_ret (pe_tup (pa_cons (pe_op op_fdivB (qv qv_l_lowest 0 rfl rfl rfl) (qv qv_l_lowest 2 rfl rfl rfl)) (pa_cons (pe_op op_fdivB (qv qv_l_lowest 1 rfl rfl rfl) (qv qv_l_lowest 2 rfl rfl rfl)) pa_nil)))))))), ?_⟩
  walk_at "vc"
  refine ⟨fun m σ H' => H' = H ∧ ∃ (x y : Int) (z : Option V), σ = [some (.int n), some (.int p), some (.int x), some (.int y), z] ∧ 0 ≤ x ∧ 0 ≤ y ∧ Int.gcd x y = Int.gcd (ab n) p ∧ m = y.toNat, ⟨_, rfl, _, _, _, rfl, ab_nonneg n, by omega, rfl, rfl⟩, ?_⟩
  rintro m σ H' ⟨rfl, x, y, z, rfl, hx, hy, hg, rfl⟩
  walk_at "vc"
  refine ite2 (fun c => ?_) (fun c => ?_)
  rotate_left
  · have y0 : y = 0 := by
      have := of_decide_eq_false (Bool.eq_false_iff.mpr c)
      omega
    subst y0
    have ex : x = dv n p := by rw [ed, ← hg]; exact (gcd_end hx).symm
    subst ex
    walk_at "vc"
    refine vc_rI (show CDivB n (dv n p) from ⟨dn, hb9⟩) ?_
    walk_at "vc"
    refine vc_rI (show CDivB p (dv n p) from ⟨dn, hb9⟩) ?_
    walk_at "vc"
    exact ⟨(by show 2 ≤ sizeLine; decide), q⟩
  have y1 : 0 < y := of_decide_eq_true c
  refine ⟨fun σ' H'' => ∃ m', m' < y.toNat ∧ _, fun _ _ h => h, ?_⟩
  walk_at "vc"
  refine ⟨_, ?_, rfl, y, x % y, _, rfl, hy, Int.emod_nonneg _ (by omega), (gcd_step hx y1).trans hg, rfl⟩
  have l1 := Int.emod_lt_of_pos x y1
  have l2 := Int.emod_nonneg x (show y ≠ 0 by omega)
  omega
inductive spLHalf_ (K : PySem.W.Frag) (vs : List V) (H : Hp) (Q : VK) : Prop where
  | mk (f a0 a1 a2 a3 a4 : Addr) (rs : List V) (rows : List (Int × Int)) (n : Int) : (vs = [.ref f, .int n]) → (SqL K H f [.ref a0, .ref a1, .ref a2, .ref a3, .ref a4]) → (SqL K H a1 rs) → (Reps K H rs (rows.map rowD)) → (RowsOk rows) → (0 ≤ n) → (n ≤ 200000000) → (∀ r, H r = none → Q (.ref r) (upd H r (.tup [.int (hfN rows n), .int (hfD rows n)]))) → spLHalf_ K vs H Q
noncomputable def spLHalf (K : PySem.W.Frag) : Sp := fun vs H Q _ => spLHalf_ K vs H Q
theorem ok_l_half (T : Txt K mg t) : FnOk P w K mg base CX0 2 t.f_l_half t.d_l_half ["_law_five_here", "_law_distance"] (spLHalf K) := by
  have G_l_lowest := ok_l_lowest (P := P) (w := w) (base := base) T
  refine T.F_l_half.ok sc_l_half (fun vs H Q E h => ?_) (fun cdv A outer s H vs Q E hr h => ?_)
  · obtain ⟨f, a0, a1, a2, a3, a4, rs, rows, n, rfl, _⟩ := h
    rfl
  obtain ⟨f, a0, a1, a2, a3, a4, rs, rows, n, rfl, hf, hl, hR, hok, hn0, hn1, q⟩ := h
  refine ⟨_, (pss_cons (q_set (i := 2) qv_l_half sc_l_half.nd rfl rfl rfl pe_int)
      (pss_cons (q_set (i := 3) qv_l_half sc_l_half.nd rfl rfl rfl pe_int)
      (pss_cons (ps_for PassesOwn.never rfl (pi_list (pe_ix ix_list (qv qv_l_half 0 rfl rfl rfl) pe_int (fun _ _ => rfl))) (pg_tup rfl (pgs_cons (q_name (i := 4) qv_l_half sc_l_half.nd rfl rfl rfl) (pgs_cons (q_name (i := 5) qv_l_half sc_l_half.nd rfl rfl rfl) pgs_nil))) (pss_cons (ps_if (pt_cmpR op_lt (qv qv_l_half 1 rfl rfl rfl) (qv qv_l_half 4 rfl rfl rfl) (nomark _)) (pss_one (ps_ret (q_call G_l_lowest (hr.mono (by first | decide | omega)) qg_l_half 0 rfl rfl T.m_l_lowest T.F_l_lowest.kp T.b_l_lowest .nil pass0 (pa_cons (pe_op op_add (pe_op op_mul (qv qv_l_half 3 rfl rfl rfl) (pe_op op_sub (qv qv_l_half 4 rfl rfl rfl) (qv qv_l_half 2 rfl rfl rfl))) (pe_op op_mul (pe_op op_sub (qv qv_l_half 5 rfl rfl rfl) (qv qv_l_half 3 rfl rfl rfl)) (pe_op op_sub (qv qv_l_half 1 rfl rfl rfl) (qv qv_l_half 2 rfl rfl rfl)))) (pa_cons (pe_op op_sub (qv qv_l_half 4 rfl rfl rfl) (qv qv_l_half 2 rfl rfl rfl)) pa_nil))))) pss_nil)
      (pss_cons (q_set (i := 2) qv_l_half sc_l_half.nd rfl rfl rfl (qv qv_l_half 4 rfl rfl rfl))
      (pss_one (q_set (i := 3) qv_l_half sc_l_half.nd rfl rfl rfl (qv qv_l_half 5 rfl rfl rfl))))))
      (pss_one (ps_ret (pe_tup (pa_cons (qv qv_l_half 3 rfl rfl rfl) (pa_cons pe_int pa_nil)))))))), ?_⟩
  walk_at "vc"
  have hlen : rs.length = rows.length := by rw [hR.length, List.length_map]
  refine ⟨a1, rfl, ⟨rs, hl⟩, for_list (xs := rs) (fun i σ H' => H' = H ∧ ∃ (near nh : Int) (u1 u2 : Option V), σ = [some (.ref f), some (.int n), some (.int near), some (.int nh), u1, u2] ∧
    halfGo near nh (rows.drop i) n = halfGo 0 0 rows n ∧ ((near, nh) :: rows.drop i).Pairwise (fun x y => x.1 < y.1 ∧ x.2 ≤ y.2) ∧ 0 ≤ near ∧ near ≤ 100000000 ∧ 0 ≤ nh ∧ nh ≤ 100000000)
    ⟨rfl, 0, 0, none, none, rfl, rfl, hok.up, by omega, by omega, by omega, by omega⟩ (fun i σ H' _ ⟨e, _⟩ => e ▸ hl) ?_ ?_⟩
  · rintro i y σ H' hy ⟨rfl, near, nh, u1, u2, rfl, hgo, hup, b1, b2, b3, b4⟩
    obtain ⟨r, a, hr', rfl, hs⟩ := row_of hR hy
    have hi : i < rows.length := (List.getElem?_eq_some_iff.mp hr').1
    have er : rows[i] = r := (List.getElem?_eq_some_iff.mp hr').2
    have ed : rows.drop i = r :: rows.drop (i + 1) := by rw [List.drop_eq_getElem_cons hi, er]
    have hle := hok.le r (er ▸ List.getElem_mem hi)
    rw [ed] at hgo hup
    obtain ⟨hup1, hup2⟩ := List.pairwise_cons.mp hup
    have h12 := hup1 r (List.mem_cons_self)
    refine vc_asgT hs rfl ?_
    walk_at "vc"
    obtain ⟨far, fh⟩ := r
    dsimp only at h12 hle
    refine ite2 (fun z => ?_) (fun z => ?_)
    · have z' : n < far := of_decide_eq_true z
      walk_at "vc"
      refine ⟨_, _, rfl, by omega, b4000 (by omega) (by omega), fun r hr2 => ?_⟩
      have e : halfGo 0 0 rows n = (nh * (far - near) + (fh - nh) * (n - near), far - near) := by
        rw [← hgo, halfGo, if_pos z']
      unfold hfN hfD at q
      rw [e] at q
      exact q r hr2
    · have z' : ¬ n < far := fun w => z (decide_eq_true w)
      walk_at "vc"
      refine ⟨rfl, far, fh, _, _, rfl, ?_, hup2, by omega, by omega, by omega, by omega⟩
      rw [← hgo, halfGo, if_neg z']
  · rintro σ H' ⟨rfl, near, nh, u1, u2, rfl, hgo, hup, b1, b2, b3, b4⟩
    walk_at "vc"
    refine ⟨(by show 2 ≤ sizeLine; decide), fun r hr2 => ?_⟩
    have e : halfGo 0 0 rows n = (nh, 1) := by
      rw [← hgo, hlen, List.drop_length]
      rfl
    unfold hfN hfD at q
    rw [e] at q
    have := q r hr2
    rw [(fN_one nh).1, (fN_one nh).2] at this
    exact this
open PySem.W in
theorem strs_kqd {x y : Str} (hx : Let x) (hy : Let y) : kqdOk 9 (.list ([x, y].map Dat.str)) = true := by
  simp only [List.map_cons, List.map_nil, kqdOk, List.all_cons, List.all_nil, Bool.and_true, Bool.and_eq_true]
  exact ⟨str_ok hx 8, str_ok hy 8⟩
inductive spLThick_ (K : PySem.W.Frag) (vs : List V) (H : Hp) (Q : VK) : Prop where
  | mk (f a0 a1 a2 a3 a4 : Addr) (rs : List V) (ps : List (Str × Str × Int)) (one other : Str) : (vs = [.ref f, .str one, .str other]) → (SqL K H f [.ref a0, .ref a1, .ref a2, .ref a3, .ref a4]) → (SqL K H a2 rs) → (Reps K H rs (thickDs ps)) → ((∀ p ∈ ps, Let p.1 ∧ Let p.2.1)) → (Let one) → (Let other) → (∀ H', Same H H' → Q (.int (thickBy one other ps)) H') → spLThick_ K vs H Q
noncomputable def spLThick (K : PySem.W.Frag) : Sp := fun vs H Q _ => spLThick_ K vs H Q
open PySem.W in
theorem reps_strs {H : Hp} : ∀ ss : List Str, Reps K H (ss.map V.str) (ss.map Dat.str)
  | [] => .nil
  | x :: r => .cons (.str x) (reps_strs r)
open PySem.W in
theorem strs_inj {l m : List Str} : Dat.list (l.map Dat.str) = .list (m.map Dat.str) ↔ l = m := by
  constructor
  · intro h
    have := Dat.list.inj h
    exact (List.map_inj_right (fun _ _ e => Dat.str.inj e)).mp this
  · rintro rfl
    rfl
open PySem.W in
theorem kqd_perm {l : List Str} {x y : Str} (h : l.Perm [x, y]) (hx : Let x) (hy : Let y) : kqdOk 9 (.list (l.map Dat.str)) = true := by
  rcases perm_two h with rfl | rfl
  · exact strs_kqd hx hy
  · exact strs_kqd hy hx
theorem ok_l_thick (T : Txt K mg t) : FnOk P w K mg base CX0 1 t.f_l_thick t.d_l_thick ["_law_five_here", "_law_one", "_law_other"] (spLThick K) := by
  refine T.F_l_thick.ok sc_l_thick (fun vs H Q E h => ?_) (fun cdv A outer s H vs Q E hr h => ?_)
  · obtain ⟨f, a0, a1, a2, a3, a4, rs, ps, one, other, rfl, _⟩ := h
    rfl
  obtain ⟨f, a0, a1, a2, a3, a4, rs, ps, one, other, rfl, hf, hl, hR, hps, ho, ht, q⟩ := h
  refine ⟨_, (pss_cons (ps_if (pt_cmpR op_eq (qv qv_l_thick 1 rfl rfl rfl) (qv qv_l_thick 2 rfl rfl rfl) (nomark _)) (pss_one (ps_ret pe_int)) pss_nil)
      (pss_cons (ps_for PassesOwn.never rfl (pi_list (pe_ix ix_list (qv qv_l_thick 0 rfl rfl rfl) pe_int (fun _ _ => rfl))) (pg_tup rfl (pgs_cons (q_name (i := 3) qv_l_thick sc_l_thick.nd rfl rfl rfl) (pgs_cons (q_name (i := 4) qv_l_thick sc_l_thick.nd rfl rfl rfl) (pgs_cons (q_name (i := 5) qv_l_thick sc_l_thick.nd rfl rfl rfl) pgs_nil)))) (pss_one (ps_if (pt_cmpR (op_eqD hr.units) (q_callB call_sortS qg_l_thick 0 rfl rfl T.z_sorted bo_sorted (pa_cons (pe_lst (pa_cons (qv qv_l_thick 3 rfl rfl rfl) (pa_cons (qv qv_l_thick 4 rfl rfl rfl) pa_nil))) pa_nil)) (q_callB call_sortS qg_l_thick 0 rfl rfl T.z_sorted bo_sorted (pa_cons (pe_lst (pa_cons (qv qv_l_thick 1 rfl rfl rfl) (pa_cons (qv qv_l_thick 2 rfl rfl rfl) pa_nil))) pa_nil)) (nomark _)) (pss_one (ps_ret (qv qv_l_thick 5 rfl rfl rfl))) pss_nil)))
      (pss_one (ps_ret pe_int)))), ?_⟩
  walk_at "vc"
  refine ite2 (fun z => ?_) (fun z => ?_)
  · have e : one = other := V.str.inj (of_decide_eq_true z)
    walk_at "vc"
    have := q H (Same.refl _)
    unfold thickBy at this
    rw [if_pos e] at this
    exact this
  have e : one ≠ other := fun e => z (decide_eq_true (congrArg V.str e))
  walk_at "vc"
  refine ⟨a2, rfl, ⟨rs, hl⟩, for_list (xs := rs) (fun i σ H' => Same H H' ∧ ∃ u1 u2 u3, σ = [some (.ref f), some (.str one), some (.str other), u1, u2, u3] ∧ thickGo one other (ps.drop i) = thickGo one other ps)
    ⟨Same.refl _, none, none, none, rfl, rfl⟩ (fun i σ H' _ ⟨sm, _⟩ => sm.seq hl) ?_ ?_⟩
  · rintro i y σ H' hy ⟨sm, u1, u2, u3, rfl, hgo⟩
    obtain ⟨p, a, hp, rfl, hs⟩ := triple_of hR hy
    refine vc_asgT (sm.tup hs) rfl ?_
    have hi : i < ps.length := (List.getElem?_eq_some_iff.mp hp).1
    have ep : ps[i] = p := (List.getElem?_eq_some_iff.mp hp).2
    have ed : ps.drop i = p :: ps.drop (i + 1) := by rw [List.drop_eq_getElem_cons hi, ep]
    obtain ⟨hp1, hp2⟩ := hps p (ep ▸ List.getElem_mem hi)
    rw [ed] at hgo
    walk_at "vc"
    refine ⟨(by show 2 ≤ sizeLine; decide), fun t1 ht1 => ?_⟩
    have s1 := same_new ht1 (.lst [.str p.1, .str p.2.1])
    walk_at "vc"
    refine vc_sortS (ss := [p.1, p.2.1]) (SqL.of upd_same) (by show 2 < 64; decide) fun l1 m1 hl1 pm1 sm1 => ?_
    have s2 := s1.trans (same_new hl1 (.lst (m1.map V.str)))
    have g1 : upd (upd H' t1 (.lst [.str p.1, .str p.2.1])) l1 (.lst (m1.map V.str)) l1 = some (.lst (m1.map V.str)) := upd_same
    generalize upd (upd H' t1 (.lst [.str p.1, .str p.2.1])) l1 (.lst (m1.map V.str)) = H2 at *
    walk_at "vc"
    refine ⟨(by show 2 ≤ sizeLine; decide), fun t2 ht2 => ?_⟩
    have s3 := same_new ht2 (.lst [.str one, .str other])
    walk_at "vc"
    refine vc_sortS (ss := [one, other]) (SqL.of upd_same) (by show 2 < 64; decide) fun l2 m2 hl2 pm2 sm2 => ?_
    have s4 := s3.trans (same_new hl2 (.lst (m2.map V.str)))
    have g2 : upd (upd H2 t2 (.lst [.str one, .str other])) l2 (.lst (m2.map V.str)) l2 = some (.lst (m2.map V.str)) := upd_same
    generalize upd (upd H2 t2 (.lst [.str one, .str other])) l2 (.lst (m2.map V.str)) = H3 at *
    refine ⟨.list (m1.map PySem.W.Dat.str), .list (m2.map PySem.W.Dat.str), .lst (SqL.of (s4 _ _ g1)) (reps_strs m1), .lst (SqL.of g2) (reps_strs m2), kqd_perm pm1 hp1 hp2, kqd_perm pm2 ho ht, ?_⟩
    have iff := two_sorted pm1 pm2 sm1 sm2
    by_cases c : (p.1 = one ∧ p.2.1 = other) ∨ (p.1 = other ∧ p.2.1 = one)
    · rw [dec_true (strs_inj.mpr (iff.mpr c))]
      walk_at "vc"
      have := q H3 (sm.trans (s2.trans s4))
      unfold thickBy at this
      rw [if_neg e, ← hgo, thickGo, if_pos c] at this
      exact this
    · rw [dec_false (fun z => c (iff.mp (strs_inj.mp z)))]
      walk_at "vc"
      refine ⟨sm.trans (s2.trans s4), _, _, _, rfl, ?_⟩
      rw [← hgo, thickGo, if_neg c]
  · rintro σ H' ⟨sm, u1, u2, u3, rfl, hgo⟩
    walk_at "vc"
    have := q H' sm
    unfold thickBy at this
    rw [if_neg e, ← hgo, List.drop_eq_nil_of_le (by rw [hR.length]; unfold thickDs; rw [List.length_map]; exact Nat.le_refl _)] at this
    exact this
open Classical in
inductive spLWaste_ (K : PySem.W.Frag) (vs : List V) (H : Hp) (Q : VK) : Prop where
  | mk (f a0 a1 a2 a3 a4 : Addr) (rooms : List Int) (rows : List (Int × Int)) (th : List (Str × Str × Int)) (ap : List (Str × Str)) (pg : Int × Int) (one other : Str) : (vs = [.ref f, .str one, .str other]) → (FiveP K H f a0 a1 a2 a3 a4 rooms rows th ap pg) → (DataOk rooms rows th ap) → (Let one) → (Let other) → ((((one, other) ∈ ap ∨ (other, one) ∈ ap) → ∀ H', Same H H' → Q .non H')) → ((¬ ((one, other) ∈ ap ∨ (other, one) ∈ ap) → ∀ (r : Addr) (H' : Hp), Same H H' → H' r = some (.tup [.int (fN (2 * thickBy one other th * hfN rows rooms.sum) (hfD rows rooms.sum)), .int (fD (2 * thickBy one other th * hfN rows rooms.sum) (hfD rows rooms.sum))]) → Q (.ref r) H')) → spLWaste_ K vs H Q
open Classical in
noncomputable def spLWaste (K : PySem.W.Frag) : Sp := fun vs H Q _ => spLWaste_ K vs H Q
theorem ok_l_waste (T : Txt K mg t) : FnOk P w K mg base CX0 3 t.f_l_waste t.d_l_waste ["_law_five_here", "_law_one", "_law_other"] (spLWaste K) := by
  have G_l_apart := ok_l_apart (P := P) (w := w) (base := base) T
  have G_l_half := ok_l_half (P := P) (w := w) (base := base) T
  have G_l_lowest := ok_l_lowest (P := P) (w := w) (base := base) T
  have G_l_thick := ok_l_thick (P := P) (w := w) (base := base) T
  refine T.F_l_waste.ok sc_l_waste (fun vs H Q E h => ?_) (fun cdv A outer s H vs Q E hr h => ?_)
  · obtain ⟨f, a0, a1, a2, a3, a4, rooms, rows, th, ap, pg, one, other, rfl, _⟩ := h
    rfl
  obtain ⟨f, a0, a1, a2, a3, a4, rooms, rows, th, ap, pg, one, other, rfl, F, D, ho, ht, qA, qN⟩ := h
  obtain ⟨r1, x1, y1⟩ := F.h1
  obtain ⟨r2, x2, y2⟩ := F.h2
  obtain ⟨r3, x3, y3⟩ := F.h3
  obtain ⟨b1, b2, b3⟩ := half_ok D.rw D.s0 D.s1
  obtain ⟨k0, k1⟩ := thickBy_b (one := one) (other := other) D.thk
  refine ⟨_, (pss_cons (ps_if (pt_val (q_call G_l_apart (hr.mono (by first | decide | omega)) qg_l_waste 0 rfl rfl T.m_l_apart T.F_l_apart.kp T.b_l_apart .nil pass0 (pa_cons (qv qv_l_waste 0 rfl rfl rfl) (pa_cons (qv qv_l_waste 1 rfl rfl rfl) (pa_cons (qv qv_l_waste 2 rfl rfl rfl) pa_nil))))) (pss_one (ps_ret pe_non)) pss_nil)
      (pss_cons (q_set (i := 3) qv_l_waste sc_l_waste.nd rfl rfl rfl (q_call G_l_half (hr.mono (by first | decide | omega)) qg_l_waste 1 rfl rfl T.m_l_half T.F_l_half.kp T.b_l_half .nil pass0 (pa_cons (qv qv_l_waste 0 rfl rfl rfl) (pa_cons (q_callB (call_sum rfl) qg_l_waste 2 rfl rfl T.z_sum bo_sum (pa_cons (pe_ix ix_list (qv qv_l_waste 0 rfl rfl rfl) pe_int (fun _ _ => rfl)) pa_nil)) pa_nil))))
      (pss_one (ps_ret (q_call G_l_lowest (hr.mono (by first | decide | omega)) qg_l_waste 3 rfl rfl T.m_l_lowest T.F_l_lowest.kp T.b_l_lowest .nil pass0 (pa_cons (pe_op op_mul (pe_op op_mul pe_int (q_call G_l_thick (hr.mono (by first | decide | omega)) qg_l_waste 4 rfl rfl T.m_l_thick T.F_l_thick.kp T.b_l_thick .nil pass0 (pa_cons (qv qv_l_waste 0 rfl rfl rfl) (pa_cons (qv qv_l_waste 1 rfl rfl rfl) (pa_cons (qv qv_l_waste 2 rfl rfl rfl) pa_nil))))) (pe_ix ix_tup (qv qv_l_waste 3 rfl rfl rfl) pe_int (fun _ _ => rfl))) (pa_cons (pe_ix ix_tup (qv qv_l_waste 3 rfl rfl rfl) pe_int (fun _ _ => rfl)) pa_nil))))))), ?_⟩
  walk_at "vc"
  refine ⟨f, a0, a1, a2, a3, a4, r3, ap, one, other, rfl, SqL.of F.hf, SqL.of x3, y3, D.apl, ho, ht, fun H1 S1 => ?_⟩
  walk_at "vc"
  by_cases e : (one, other) ∈ ap ∨ (other, one) ∈ ap
  · rw [dec_true e]
    walk_at "vc"
    exact qA e H1 S1
  rw [dec_false e]
  have hf1 := S1.seq (K := K) (SqL.of F.hf)
  walk_at "vc"
  refine vc_sum (S1.seq (SqL.of F.h0)) ?_
  walk_at "vc"
  refine ⟨f, a0, a1, a2, a3, a4, r1, rows, rooms.sum, rfl, hf1, SqL.of (S1 _ _ x1), y1.same S1, D.rw, D.s0, D.s1, fun r hr1 => ?_⟩
  have Y1 := same_new hr1 (.tup [.int (hfN rows rooms.sum), .int (hfD rows rooms.sum)])
  have g1 : SqT K (upd H1 r (.tup [.int (hfN rows rooms.sum), .int (hfD rows rooms.sum)])) r [.int (hfN rows rooms.sum), .int (hfD rows rooms.sum)] := SqT.of upd_same
  generalize upd H1 r (.tup [.int (hfN rows rooms.sum), .int (hfD rows rooms.sum)]) = H2 at *
  have Z2 := S1.trans Y1
  walk_at "vc"
  refine ⟨f, a0, a1, a2, a3, a4, r2, th, one, other, rfl, Z2.seq (SqL.of F.hf), SqL.of (Z2 _ _ x2), y2.same Z2, D.thl, ho, ht, fun H3 S3 => ?_⟩
  have g3 := S3.tup g1
  walk_at "vc"
  refine ⟨_, _, rfl, b1, b4000 (by omega) (by omega), fun r5 hr5 => ?_⟩
  walk_at "vc"
  exact qN e r5 _ (Z2.trans (S3.trans (same_new hr5 _))) upd_same
theorem ware_let {ws : List Str} (W : Wares ws) {i : Nat} (h : i < 6) : Let (ws.getD i (Str.ofString "")) := by
  have hi : i < ws.length := by rw [W.len]; exact h
  rw [List.getD_eq_getElem?_getD, List.getElem?_eq_getElem hi]
  exact (W.ok _ (List.getElem_mem hi)).1
theorem pair_let {ws : List Str} (W : Wares ws) {e : PairT} (h : e.q < e.p) (h6 : e.p < 6) : Let (e.a ws) ∧ Let (e.b ws) := by
  unfold PairT.a PairT.b
  split
  · exact ⟨ware_let W (by omega), ware_let W h6⟩
  · exact ⟨ware_let W h6, ware_let W (by omega)⟩
theorem sorted_len {m : Nat} : ∀ {l : List Nat} {k : Nat}, l.Pairwise (· < ·) → (∀ x ∈ l, k ≤ x ∧ x < m) → l.length ≤ m - k
  | [], _, _, _ => Nat.zero_le _
  | x :: r, k, h, hb => by
    obtain ⟨h1, h2⟩ := List.pairwise_cons.mp h
    have hx := hb x List.mem_cons_self
    have ih := sorted_len (l := r) (k := x + 1) h2 fun y hy => ⟨h1 y hy, (hb y (List.mem_cons_of_mem _ hy)).2⟩
    rw [List.length_cons]
    omega
theorem Pairs.len {es : List PairT} {m : Nat} (h : Pairs es m) : es.length ≤ m := by
  have := sorted_len (m := m) (k := 0) h.up fun x hx => by
    obtain ⟨e, he, rfl⟩ := List.mem_map.mp hx
    exact ⟨Nat.zero_le _, (h.lt e he).2.2.1⟩
  rw [List.length_map] at this
  omega
theorem reps_noL {H H' : Hp} {rs : List V} {ds : List PySem.W.Dat} (n : noLs ds = true) (h : Reps K H rs ds) (e : ∀ b o, (∀ ys, H b ≠ some (.lst ys)) → H b = some o → H' b = some o) : Reps K H' rs ds := by
  refine h.sameT (fun b o hb ho => ?_) n
  obtain ⟨xs, r⟩ := hb
  exact e b o (fun ys hy => Rd.lst_ne hy r rfl) ho
theorem reps_set {H : Hp} {f : Addr} {xs : List V} {o : HO} {rs : List V} {ds : List PySem.W.Dat} (n : noLs ds = true) (hf : H f = some (.lst xs)) (h : Reps K H rs ds) : Reps K (upd H f o) rs ds :=
  reps_noL n h fun b u hn hu => by
    have : b ≠ f := fun z => hn xs (z ▸ hf)
    rw [upd_ne this]
    exact hu
theorem rows_noL (rs : List (Int × Int)) : noLs (rs.map rowD) = true := noLs_map (fun _ => rfl) rs
theorem thickDs_noL (es : List (Str × Str × Int)) : noLs (thickDs es) = true := noLs_map (fun _ => rfl) es
structure D50 (most : Int) (ws : List Str) (rooms : List Int) (rows : List (Int × Int)) (th : List (Str × Str × Int)) (ap : List (Str × Str)) : Prop where
  r0 : 1 ≤ rooms.length
  r4 : rooms.length ≤ 4
  rr : ∀ r ∈ rooms, 1 ≤ r ∧ r ≤ most
  w3 : rows.length ≤ 3
  wu : ((0, 0) :: rows).Pairwise fun x y => x.1 < y.1 ∧ x.2 ≤ y.2
  wb : ∀ r ∈ rows, r.1 ≤ 3 * (most + 3) ∧ r.2 ≤ 6 * (most + 2)
  tl : th.length ≤ 36
  al : ap.length ≤ 36
  thd : ∀ p ∈ th, Let p.1 ∧ Let p.2.1 ∧ 0 ≤ p.2.2 ∧ p.2.2 ≤ 3
  apd : ApOk ws ap
inductive spPipe50_ (K : PySem.W.Frag) (vs : List V) (H : Hp) (Q : VK) : Prop where
  | mk (c most : Int) (lw : Addr) (ws : List Str) : (vs = [.int c, .ref lw, .int most]) → (SqL K H lw (ws.map V.str)) → (Wares ws) → (1 ≤ most) → (most ≤ 1000000) → (∀ (f a0 a1 a2 a3 a4 : Addr) (rooms : List Int) (rows : List (Int × Int)) (th : List (Str × Str × Int)) (ap : List (Str × Str)) (pg : Int × Int) (H' : Hp), Same H H' → H f = none → FiveP K H' f a0 a1 a2 a3 a4 rooms rows th ap pg → D50 most ws rooms rows th ap → Q (.ref f) H') → spPipe50_ K vs H Q
noncomputable def spPipe50 (K : PySem.W.Frag) : Sp := fun vs H Q _ => spPipe50_ K vs H Q
theorem ok_l_pipe (T : Txt K mg t) : FnOk P w K mg base CX0 3 t.f_l_pipe t.d_l_pipe ["_law_cell", "_law_wares_here", "_law_most"] (spPipe50 K) := by
  have G_l_five := ok_l_five (P := P) (w := w) (base := base) T
  have G_l_mix := ok_l_mix (P := P) (w := w) (base := base) T
  refine T.F_l_pipe.ok sc_l_pipe (fun vs H Q E h => ?_) (fun cdv A outer s H vs Q E hr h => ?_)
  · obtain ⟨c, most, lw, ws, rfl, _⟩ := h
    rfl
  obtain ⟨c, most, lw, ws, rfl, hlw, W, m1, m2, q⟩ := h
  refine ⟨_, (pss_cons (q_set (i := 3) qv_l_pipe sc_l_pipe.nd rfl rfl rfl (q_call G_l_five (hr.mono (by first | decide | omega)) qg_l_pipe 0 rfl rfl T.m_l_five T.F_l_five.kp T.b_l_five .nil pass0 (pa_cons (qv qv_l_pipe 0 rfl rfl rfl) (pa_cons (qv qv_l_pipe 1 rfl rfl rfl) (pa_cons (qv qv_l_pipe 2 rfl rfl rfl) pa_nil)))))
      (pss_cons (ps_asg (pe_lst pa_nil) (pg_sub (qv qv_l_pipe 3 rfl rfl rfl) pe_int set_list))
      (pss_cons (ps_for PassesOwn.never rfl (pi_range1 (qgl qg_l_pipe 1 rfl rfl) T.z_range (pa_cons pe_int pa_nil)) (q_name (i := 4) qv_l_pipe sc_l_pipe.nd rfl rfl rfl) (pss_one (ps_for PassesOwn.never rfl (pi_range1 (qgl qg_l_pipe 1 rfl rfl) T.z_range (pa_cons (qv qv_l_pipe 4 rfl rfl rfl) pa_nil)) (q_name (i := 5) qv_l_pipe sc_l_pipe.nd rfl rfl rfl) (pss_cons (q_set (i := 6) qv_l_pipe sc_l_pipe.nd rfl rfl rfl (q_call G_l_mix (hr.mono (by first | decide | omega)) qg_l_pipe 2 rfl rfl T.m_l_mix T.F_l_mix.kp T.b_l_mix .nil pass0 (pa_cons (qv qv_l_pipe 0 rfl rfl rfl) (pa_cons (pe_op op_add (pe_op op_add pe_int (pe_op op_mul pe_int (qv qv_l_pipe 4 rfl rfl rfl))) (qv qv_l_pipe 5 rfl rfl rfl)) pa_nil))))
      (pss_one (ps_if (pt_cmpR op_eq (pe_op op_mod (qv qv_l_pipe 6 rfl rfl rfl) pe_int) pe_int (nomark _)) (pss_one (ps_expr (pe_bm PySem.F.plainAttrs_list PySem.F.slot_list_append PySem.F.type_list_append mt_appendR (pe_ix ix_list (qv qv_l_pipe 3 rfl rfl rfl) pe_int (fun _ _ => rfl)) (pa_cons (pe_ix ix_list (pe_lst (pa_cons (pe_tup (pa_cons (pe_ix ix_list (qv qv_l_pipe 1 rfl rfl rfl) (qv qv_l_pipe 4 rfl rfl rfl) (fun _ _ => rfl)) (pa_cons (pe_ix ix_list (qv qv_l_pipe 1 rfl rfl rfl) (qv qv_l_pipe 5 rfl rfl rfl) (fun _ _ => rfl)) pa_nil))) (pa_cons (pe_tup (pa_cons (pe_ix ix_list (qv qv_l_pipe 1 rfl rfl rfl) (qv qv_l_pipe 5 rfl rfl rfl) (fun _ _ => rfl)) (pa_cons (pe_ix ix_list (qv qv_l_pipe 1 rfl rfl rfl) (qv qv_l_pipe 4 rfl rfl rfl) (fun _ _ => rfl)) pa_nil))) pa_nil))) (pe_op op_mod (pe_op op_fdiv (qv qv_l_pipe 6 rfl rfl rfl) pe_int) pe_int) (fun _ _ => rfl)) pa_nil)))) pss_nil))))))
      (pss_one (ps_ret (qv qv_l_pipe 3 rfl rfl rfl)))))), ?_⟩
  walk_at "vc"
  refine ⟨c, most, lw, ws, rfl, hlw, W, m1, m2, fun f a0 a1 a2 a3 a4 d H2 hnew S2 F O _ => ?_⟩
  obtain ⟨r1, h1', q1⟩ := F.h1
  obtain ⟨r2, h2', q2⟩ := F.h2
  have hf := F.hf
  have h0 := F.h0
  have nd := F.nd
  have hf0 : H f = none := hnew f (by simp)
  simp only [List.nodup_cons, List.mem_cons, List.not_mem_nil, or_false, not_or] at nd
  have e2 : d.thick.map (thickD ws) = thickDs (d.thick.map fun e => (e.a ws, e.b ws, e.k)) := by
    unfold thickDs
    rw [List.map_map]
    rfl
  rw [e2] at q2
  have hth : ∀ p ∈ d.thick.map (fun e => (e.a ws, e.b ws, e.k)), Let p.1 ∧ Let p.2.1 ∧ 0 ≤ p.2.2 ∧ p.2.2 ≤ 3 := fun p hp => by
    obtain ⟨e, he, rfl⟩ := List.mem_map.mp hp
    have l := O.th.lt e he
    have pl := pair_let W l.1 l.2.1
    exact ⟨pl.1, pl.2, l.2.2.2⟩
  have htl : (d.thick.map fun e => (e.a ws, e.b ws, e.k)).length ≤ 36 := by rw [List.length_map]; exact O.th.len
  generalize d.thick.map (fun e => (e.a ws, e.b ws, e.k)) = th at *
  have q1' := q1.same (hids_same _ _)
  have q2' := q2.same (hids_same _ _)
  walk_at "vc"
  refine ⟨Nat.zero_le _, fun b3 hb3 => ?_⟩
  walk_at "vc"
  have Y3 := same_new hb3 (.lst [])
  have g3 : upd H2 b3 (.lst []) b3 = some (.lst []) := upd_same
  have n3f : b3 ≠ f := (ne_of_none hf hb3).symm
  have hb30 : H b3 = none := same_none S2 hb3
  refine vc_setL (Y3 _ _ hf) (j := 3) rfl ?_
  have S4 : Same H (upd (upd H2 b3 (.lst [])) f (.lst ([V.ref a0, .ref a1, .ref a2, .ref a3, .ref a4].set 3 (.ref b3)))) := (S2.trans Y3).updD hf0
  have f4 : upd (upd H2 b3 (.lst [])) f (.lst ([V.ref a0, .ref a1, .ref a2, .ref a3, .ref a4].set 3 (.ref b3))) f = some (.lst [.ref a0, .ref a1, .ref a2, .ref b3, .ref a4]) := upd_same
  have g34 : upd (upd H2 b3 (.lst [])) f (.lst ([V.ref a0, .ref a1, .ref a2, .ref a3, .ref a4].set 3 (.ref b3))) b3 = some (.lst []) := by rw [upd_ne n3f]; exact g3
  have h04 : upd (upd H2 b3 (.lst [])) f (.lst ([V.ref a0, .ref a1, .ref a2, .ref a3, .ref a4].set 3 (.ref b3))) a0 = some (.lst (d.rooms.map V.int)) := by rw [upd_ne (Ne.symm nd.1.1)]; exact Y3 _ _ h0
  have h14 : upd (upd H2 b3 (.lst [])) f (.lst ([V.ref a0, .ref a1, .ref a2, .ref a3, .ref a4].set 3 (.ref b3))) a1 = some (.lst r1) := by rw [upd_ne (Ne.symm nd.1.2.1)]; exact Y3 _ _ h1'
  have h24 : upd (upd H2 b3 (.lst [])) f (.lst ([V.ref a0, .ref a1, .ref a2, .ref a3, .ref a4].set 3 (.ref b3))) a2 = some (.lst r2) := by rw [upd_ne (Ne.symm nd.1.2.2.1)]; exact Y3 _ _ h2'
  have n4f : a4 ≠ f := fun e => by have := F.h4; rw [e, hf] at this; cases this
  have h44 : upd (upd H2 b3 (.lst [])) f (.lst ([V.ref a0, .ref a1, .ref a2, .ref a3, .ref a4].set 3 (.ref b3))) a4 = some (.tup [.int d.pig.1, .int d.pig.2]) := by rw [upd_ne n4f]; exact Y3 _ _ F.h4
  have q14 := reps_set (o := .lst ([V.ref a0, .ref a1, .ref a2, .ref a3, .ref a4].set 3 (.ref b3))) (rows_noL _) (Y3 _ _ hf) (q1'.same Y3)
  have q24 := reps_set (o := .lst ([V.ref a0, .ref a1, .ref a2, .ref a3, .ref a4].set 3 (.ref b3))) (thickDs_noL _) (Y3 _ _ hf) (q2'.same Y3)
  have n03 : a0 ≠ b3 := ne_of_none h0 hb3
  have n13 : a1 ≠ b3 := ne_of_none h1' hb3
  have n23 : a2 ≠ b3 := ne_of_none h2' hb3
  have n43 : a4 ≠ b3 := ne_of_none F.h4 hb3
  generalize upd (upd H2 b3 (.lst [])) f (.lst ([V.ref a0, .ref a1, .ref a2, .ref a3, .ref a4].set 3 (.ref b3))) = H4 at *
  have keep : ∀ {H' : Hp} {b : Addr} {o : HO}, Same (hid b3 H4) (hid b3 H') → b ≠ b3 → H4 b = some o → H' b = some o := fun {H' b o} e n hb => by
    have := e b o (by rw [hid_ne n]; exact hb)
    rw [hid_ne n] at this
    exact this
  walk_at "vc"
  refine ⟨_, rfl, by decide, by decide, for_range (n := 6) (fun i σ H' => ∃ (as : List V) (ap : List (Str × Str)) (u4 u5 u6 : Option V), σ = [some (.int c), some (.ref lw), some (.int most), some (.ref f), u4, u5, u6] ∧ Same (hid b3 H4) (hid b3 H') ∧ H' b3 = some (.lst as) ∧ Reps K (hid b3 H') as (apartDs ap) ∧ ApOk ws ap ∧ ap.length ≤ 6 * i)
    ⟨[], [], _, _, _, rfl, Same.refl _, g34, .nil, ⟨by simp, by simp⟩, by simp⟩ ?_ ?_⟩
  rotate_left
  · rintro σ H' ⟨as, ap, u4, u5, u6, rfl, sm, hb, hR, hA, hal⟩
    walk_at "vc"
    have SH : Same H H' := fun b o ho => keep sm (ne_of_none ho hb30) (S4 _ _ ho)
    have mv : ∀ b o, (∀ ys, H4 b ≠ some (.lst ys)) → H4 b = some o → H' b = some o := fun b o hn ho => keep sm (fun z => hn [] (z ▸ g34)) ho
    refine q f a0 a1 a2 b3 a4 d.rooms d.rows th ap d.pig H' SH hf0 ⟨keep sm (Ne.symm n3f) f4, keep sm n03 h04, ⟨r1, keep sm n13 h14, reps_noL (rows_noL _) q14 mv⟩, ⟨r2, keep sm n23 h24, reps_noL (thickDs_noL _) q24 mv⟩, ⟨as, hb, hR.same (hid_same _ _)⟩, keep sm n43 h44, ?_⟩ ⟨O.r0, O.r4, O.rr, O.w3, O.wu, O.wb, htl, by omega, hth, hA⟩
    simp only [List.mem_cons, List.not_mem_nil, or_false, not_or]
    exact ⟨nd.1.1, nd.1.2.1, nd.1.2.2.1, Ne.symm n3f⟩
  rintro i σ H' hi ⟨as, ap, u4, u5, u6, rfl, sm, hb, hR, hA, hal⟩
  walk_at "vc"
  refine ⟨_, rfl, by omega, by omega, for_range (n := (0 + (i : Int)).toNat) (fun j σ H' => ∃ (as : List V) (ap : List (Str × Str)) (u5 u6 : Option V), σ = [some (.int c), some (.ref lw), some (.int most), some (.ref f), some (.int (0 + (i : Int))), u5, u6] ∧ Same (hid b3 H4) (hid b3 H') ∧ H' b3 = some (.lst as) ∧ Reps K (hid b3 H') as (apartDs ap) ∧ ApOk ws ap ∧ ap.length ≤ 6 * i + j)
    ⟨as, ap, _, _, rfl, sm, hb, hR, hA, hal⟩ ?_ ?_⟩
  rotate_left
  · rintro σ H' ⟨as, ap, u5, u6, rfl, sm, hb, hR, hA, hal⟩
    exact ⟨as, ap, _, _, _, rfl, sm, hb, hR, hA, by omega⟩
  clear hb hR hA hal sm
  rintro j σ H' hj ⟨as, ap, u5, u6, rfl, sm, hb, hR, hA, hal⟩
  have hj' : j < i := by omega
  have SH : Same H H' := fun b o ho => keep sm (ne_of_none ho hb30) (S4 _ _ ho)
  have hlw1 := SH.seq hlw
  have hf1 := keep sm (Ne.symm n3f) f4
  have las : as.length = ap.length := by rw [hR.length]; unfold apartDs; rw [List.length_map]
  walk_at "vc"
  refine ite2 (fun z => ?_) (fun z => ?_)
  rotate_left
  · exact ⟨as, ap, _, _, rfl, sm, hb, hR, hA, by omega⟩
  walk_at "vc"
  refine ⟨tyV_list (SqL.of hb), ?_⟩
  walk_at "vc"
  refine vc_ixL hlw1 (atW W.len hi) ?_
  walk_at "vc"
  refine vc_ixL hlw1 (atW W.len (by omega)) ?_
  walk_at "vc"
  refine ⟨(by show 2 ≤ sizeLine; decide), fun t1 ht1 => ?_⟩
  walk_at "vc"
  refine vc_ixL ((same_new ht1 _).seq hlw1) (atW W.len (by omega)) ?_
  walk_at "vc"
  refine vc_ixL ((same_new ht1 _).seq hlw1) (atW W.len hi) ?_
  walk_at "vc"
  refine ⟨(by show 2 ≤ sizeLine; decide), fun t2 ht2 => ?_⟩
  walk_at "vc"
  refine ⟨(by show 2 ≤ sizeLine; decide), fun l3 hl3 => ?_⟩
  walk_at "vc"
  generalize ho : mix c (160 + 6 * (0 + (i : Int)) + (0 + (j : Int))) = o
  have o0 : 0 ≤ o := ho ▸ mix_nonneg _ _
  have mi : ws.getD i (Str.ofString "") ∈ ws := getD_mem (by rw [W.len]; omega)
  have mj : ws.getD j (Str.ofString "") ∈ ws := getD_mem (by rw [W.len]; omega)
  have nij : ws.getD i (Str.ofString "") ≠ ws.getD j (Str.ofString "") := fun e => by
    have := getD_inj W.nd (by rw [W.len]; omega) (by rw [W.len]; omega) e
    omega
  generalize ws.getD i (Str.ofString "") = wi at *
  generalize ws.getD j (Str.ofString "") = wj at *
  generalize hHe : upd (upd (upd H' t1 (.tup [.str wi, .str wj])) t2 (.tup [.str wj, .str wi])) l3 (.lst [.ref t1, .ref t2]) = He
  have sHe : Same H' He := hHe ▸ (same_new ht1 _).trans ((same_new ht2 _).trans (same_new hl3 _))
  have hlist : He l3 = some (.lst [.ref t1, .ref t2]) := hHe ▸ upd_same
  have hpair : ∃ (tp : Addr) (x y : Str), atI [V.ref t1, V.ref t2] (o / 4 % 2) = some (.ref tp) ∧ He tp = some (.tup [.str x, .str y]) ∧ x ∈ ws ∧ y ∈ ws ∧ x ≠ y := by
    rcases (by omega : o / 4 % 2 = 0 ∨ o / 4 % 2 = 1) with e | e
    · exact ⟨t1, wi, wj, by rw [e]; rfl, hHe ▸ upd_keep hl3 (upd_keep ht2 upd_same), mi, mj, nij⟩
    · exact ⟨t2, wj, wi, by rw [e]; rfl, hHe ▸ upd_keep hl3 upd_same, mj, mi, Ne.symm nij⟩
  obtain ⟨tp, x, y, hat, htp, hx, hy, nxy⟩ := hpair
  refine vc_ixL (SqL.of hlist) hat ?_
  walk_at "vc"
  have hbe := sHe _ _ hb
  refine vc_append (K := K) hbe (small1000 (by omega)) ?_
  have ntp : tp ≠ b3 := fun e => by rw [e, hbe] at htp; cases htp
  refine ⟨_, ap ++ [(x, y)], _, _, rfl, by rw [hid_upd]; exact sm.trans sHe.hid, upd_same, ?_, hA.snoc hx hy nxy, by rw [List.length_append, List.length_singleton]; omega⟩
  rw [hid_upd]
  unfold apartDs
  rw [List.map_append]
  exact (hR.same sHe.hid).append (.one (.tup (SqT.of (by rw [hid_ne ntp]; exact htp)) (.cons (.str _) (.cons (.str _) .nil))))
inductive spLPipe_ (K : PySem.W.Frag) (C : Addr) (vs : List V) (H : Hp) (Q : VK) : Prop where
  | mk (f a0 a1 a2 a3 : Addr) (pg : V) (s1 s2 s3 s4 : List V) : (vs = [.ref f]) → (SqL K H f [.ref a0, .ref a1, .ref a2, .ref a3, pg]) → (SqL K H a0 s1) → (SqL K H a1 s2) → (SqL K H a2 s3) → (SqL K H a3 s4) → (∀ (x dx l1 l2 l3 l4 : Addr) (H' : Hp), H x = none → (∀ l ∈ [l1, l2, l3, l4], H l = none) → [l1, l2, l3, l4].Nodup → x ∉ [l1, l2, l3, l4] → Same H H' → H' l1 = some (.lst s1) → H' l2 = some (.lst s2) → H' l3 = some (.lst s3) → H' l4 = some (.lst s4) → H' x = some (.ins C dx (pipeFs l1 l2 l3 l4 pg)) → Q (.ref x) H') → spLPipe_ K C vs H Q
noncomputable def spLPipe (K : PySem.W.Frag) (C : Addr) : Sp := fun vs H Q _ => spLPipe_ K C vs H Q
theorem ok_l_of (T : Txt K mg t) : FnOk P w K mg base CX0 3 t.f_l_of t.d_l_of ["_law_five_here"] (spLPipe K t.c_Pipe) := by
  have G_Pipe___init__ := ok_Pipe___init__ (P := P) (w := w) (base := base) T
  refine T.F_l_of.ok sc_l_of (fun vs H Q E h => ?_) (fun cdv A outer s H vs Q E hr h => ?_)
  · obtain ⟨f, a0, a1, a2, a3, pg, s1, s2, s3, s4, rfl, _⟩ := h
    rfl
  obtain ⟨f, a0, a1, a2, a3, pg, s1, s2, s3, s4, rfl, hf, h0, h1, h2, h3, q⟩ := h
  refine ⟨_, (pss_one (ps_ret (q_make T.M_Pipe G_Pipe___init__ (hr.mono (by decide)) qg_l_of 0 rfl rfl T.c_Pipe T.b_Pipe___init__ .nil pass0 (pa_cons (q_callTy call_listR qg_l_of 1 rfl rfl T.z_list bo_list (pa_cons (pe_ix ix_list (qv qv_l_of 0 rfl rfl rfl) pe_int (fun _ _ => rfl)) pa_nil)) (pa_cons (q_callTy call_listR qg_l_of 1 rfl rfl T.z_list bo_list (pa_cons (pe_ix ix_list (qv qv_l_of 0 rfl rfl rfl) pe_int (fun _ _ => rfl)) pa_nil)) (pa_cons (q_callTy call_listR qg_l_of 1 rfl rfl T.z_list bo_list (pa_cons (pe_ix ix_list (qv qv_l_of 0 rfl rfl rfl) pe_int (fun _ _ => rfl)) pa_nil)) (pa_cons (q_callTy call_listR qg_l_of 1 rfl rfl T.z_list bo_list (pa_cons (pe_ix ix_list (qv qv_l_of 0 rfl rfl rfl) pe_int (fun _ _ => rfl)) pa_nil)) (pa_cons (pe_ix ix_list (qv qv_l_of 0 rfl rfl rfl) pe_int (fun _ _ => rfl)) pa_nil)))))))), ?_⟩
  walk_at "vc"
  refine vc_listL h0 fun r1 e1 => ?_
  have S1 := same_new e1 (.lst s1)
  have g1 : upd H r1 (.lst s1) r1 = some (.lst s1) := upd_same
  generalize upd H r1 (.lst s1) = H1 at *
  have f1 := S1.seq hf
  walk_at "vc"
  refine vc_listL (S1.seq h1) fun r2 e2 => ?_
  have Z2 := same_new e2 (.lst s2)
  have S2 := S1.trans Z2
  have g2 : upd H1 r2 (.lst s2) r2 = some (.lst s2) := upd_same
  generalize upd H1 r2 (.lst s2) = H2 at *
  have f2 := S2.seq hf
  walk_at "vc"
  refine vc_listL (S2.seq h2) fun r3 e3 => ?_
  have Z3 := same_new e3 (.lst s3)
  have S3 := S2.trans Z3
  have g3 : upd H2 r3 (.lst s3) r3 = some (.lst s3) := upd_same
  generalize upd H2 r3 (.lst s3) = H3 at *
  have f3 := S3.seq hf
  walk_at "vc"
  refine vc_listL (S3.seq h3) fun r4 e4 => ?_
  have Z4 := same_new e4 (.lst s4)
  have S4 := S3.trans Z4
  have g4 : upd H3 r4 (.lst s4) r4 = some (.lst s4) := upd_same
  generalize upd H3 r4 (.lst s4) = H4 at *
  have f4 := S4.seq hf
  walk_at "vc"
  intro x dx hx hdx ndx
  have hxd : upd H4 dx (.own x) x = none := by rw [upd_ne (Ne.symm ndx)]; exact hx
  have SX : Same H4 (upd (upd H4 dx (.own x)) x (.ins t.c_Pipe dx [])) := (same_new hdx _).trans (same_new hxd _)
  have k1 := Z4 _ _ (Z3 _ _ (Z2 _ _ g1))
  have k2 := Z4 _ _ (Z3 _ _ g2)
  have k3 := Z4 _ _ g3
  refine ⟨x, dx, r1, r2, r3, r4, pg, _, _, _, _, rfl, upd_same, SqL.of (SX _ _ k1), SqL.of (SX _ _ k2), SqL.of (SX _ _ k3), SqL.of (SX _ _ g4), ?_, fun l1 l2 l3 l4 H5 hlf hlnd hls y1 y2 y3 y4 hx5 => ⟨rfl, ?_⟩⟩
  · simp only [List.mem_cons, List.not_mem_nil, or_false]
    rintro r (rfl | rfl | rfl | rfl)
    · exact ne_of_none k1 hx
    · exact ne_of_none k2 hx
    · exact ne_of_none k3 hx
    · exact ne_of_none g4 hx
  have S5 : Same H4 H5 := fun b o ho => by
    have nb : b ∉ [x] := by simpa using ne_of_none ho hx
    have := hls b o (by rw [hids_at nb]; exact SX _ _ ho)
    rw [hids_at nb] at this
    exact this
  refine q x dx l1 l2 l3 l4 H5 (same_none S4 hx) (fun l hl => same_none S4 (same_none SX (hlf l hl))) hlnd (fun hm => ?_) (S4.trans S5) y1 y2 y3 y4 hx5
  have := hlf x hm
  rw [upd_same] at this
  cases this
theorem cutV_drop (xs : List V) (k : Nat) : cutV xs (some (k : Int)) none = xs.drop k := by
  unfold cutV
  rw [HT.sIx_none, HT.sIx_nat]
  by_cases h : k ≤ xs.length
  · rw [Nat.min_eq_left h, List.take_of_length_le (by rw [List.length_drop]; omega)]
  · rw [Nat.min_eq_right (by omega), Nat.sub_self, List.take_zero, List.drop_of_length_le (by omega)]
structure Den (D : Int) : Prop where
  pos : 0 < D
  bt : Bt 1000 D
noncomputable def frD (D m : Int) : PySem.W.Dat := .tuple [.int (fN m D), .int (fD m D)]
noncomputable def frO (D m : Int) : HO := .tup [.int (fN m D), .int (fD m D)]
theorem fd_worth {D : Int} (h : Den D) (m : Int) : fN m D * D = m * fD m D := f_worth (by have := h.pos; omega)
theorem fd_pos {D : Int} (h : Den D) (m : Int) : 0 < fD m D := fD_pos (by have := h.pos; omega)
theorem fd_le {D : Int} (h : Den D) (m : Int) : (fN m D).natAbs ≤ m.natAbs ∧ (fD m D).natAbs ≤ D.natAbs := by
  have hd : D ≠ 0 := by have := h.pos; omega
  have e1 := fN_eq (n := m) hd
  have e2 := fD_eq (n := m) hd
  have d := dv_ne (n := m) hd
  have d1 : 1 ≤ (dv m D).natAbs := by omega
  constructor
  · conv => rhs; rw [e1, Int.natAbs_mul]
    exact Nat.le_mul_of_pos_left _ d1
  · conv => rhs; rw [e2, Int.natAbs_mul]
    exact Nat.le_mul_of_pos_left _ d1
theorem fd_bt {D m : Int} (h : Den D) (l : Bt 1100 m) : Bt 1100 (fN m D) ∧ Bt 1000 (fD m D) := ⟨Bt.le (fd_le h m).1 l, Bt.le (fd_le h m).2 h.bt⟩
theorem fd_zero {D : Int} (h : Den D) : (HO.tup [.int 0, .int 1]) = frO D 0 := by
  have p := h.pos
  have e := f_uniq (n := 0) (p := D) (n' := 0) (p' := 1) (by omega) (by decide) (by omega)
  unfold frO
  rw [e.1, e.2]
  rfl
noncomputable def FrD (K : PySem.W.Frag) (H : Hp) (D : Int) (r : Addr) (m : Int) : Prop := SqT K H r [.int (fN m D), .int (fD m D)]
theorem FrD.of {H : Hp} {D : Int} {r : Addr} {m : Int} (h : H r = some (frO D m)) : FrD K H D r m := SqT.of h
theorem FrD.same {H H' : Hp} {D : Int} {r : Addr} {m : Int} (h : FrD K H D r m) (e : Same H H') : FrD K H' D r m := e.tup h
theorem sumD {D : Int} (h : Den D) (a b : Int) : fN (fN a D * fD b D + fN b D * fD a D) (fD a D * fD b D) = fN (a + b) D ∧ fD (fN a D * fD b D + fN b D * fD a D) (fD a D * fD b D) = fD (a + b) D := by
  have wa := fd_worth h a
  have wb := fd_worth h b
  have pa := fd_pos h a
  have pb := fd_pos h b
  have p := h.pos
  refine f_uniq (Int.mul_ne_zero (by omega) (by omega)) (by omega) ?_
  generalize fN a D = x at *
  generalize fD a D = y at *
  generalize fN b D = u at *
  generalize fD b D = v at *
  calc (x * v + u * y) * D = (x * D) * v + (u * D) * y := by rw [Int.add_mul]; ac_rfl
    _ = a * y * v + b * v * y := by rw [wa, wb]
    _ = (a + b) * (y * v) := by rw [Int.add_mul]; ac_rfl
inductive spSumD_ (K : PySem.W.Frag) (vs : List V) (H : Hp) (Q : VK) : Prop where
  | mk (D : Int) (r1 r2 : Addr) (a b : Int) : (vs = [.ref r1, .ref r2]) → (Den D) → (FrD K H D r1 a) → (FrD K H D r2 b) → (Bt 1100 a) → (Bt 1100 b) → (∀ r, H r = none → Q (.ref r) (upd H r (frO D (a + b)))) → spSumD_ K vs H Q
noncomputable def spSumD (K : PySem.W.Frag) : Sp := fun vs H Q _ => spSumD_ K vs H Q
theorem ok_sum_of (T : Txt K mg t) : FnOk P w K mg base CX0 3 t.f_sum_of t.d_sum_of ["one", "other"] (spSumD K) := by
  have G_made := ok_made (P := P) (w := w) (base := base) T
  refine T.F_sum_of.ok sc_sum_of (fun vs H Q E h => ?_) (fun cdv A outer s H vs Q E hr h => ?_)
  · obtain ⟨D, r1, r2, a, b, rfl, _⟩ := h
    rfl
  obtain ⟨D, r1, r2, a, b, rfl, hD, g1, g2, la, lb, q⟩ := h
  unfold FrD at g1 g2
  have e := sumD hD a b
  have pa := fd_pos hD a
  have pb := fd_pos hD b
  obtain ⟨ba, bb⟩ := fd_bt hD la
  obtain ⟨bc, bd⟩ := fd_bt hD lb
  replace ba : Bt 4000 _ := ba.mono (by decide)
  replace bc : Bt 4000 _ := bc.mono (by decide)
  have bb4 : Bt 4000 _ := bb.mono (show 1000 ≤ 4000 by decide)
  have bd4 : Bt 4000 _ := bd.mono (show 1000 ≤ 4000 by decide)
  have m1 : CMulB (fN a D) (fD b D) := ⟨ba, bd4⟩
  have m2 : CMulB (fN b D) (fD a D) := ⟨bc, bb4⟩
  have m3 : CMulB (fD a D) (fD b D) := ⟨bb4, bd4⟩
  unfold frO at q
  rw [← e.1, ← e.2] at q
  generalize fN a D = x at *
  generalize fD a D = y at *
  generalize fN b D = u at *
  generalize fD b D = v at *
  refine ⟨_, (pss_one (ps_ret (q_call G_made (hr.mono (by first | decide | omega)) qg_sum_of 0 rfl rfl T.m_made T.F_made.kp T.b_made .nil pass0 (pa_cons (pe_op op_add (pe_op op_mulB (pe_ix ix_tup (qv qv_sum_of 0 rfl rfl rfl) pe_int (fun _ _ => rfl)) (pe_ix ix_tup (qv qv_sum_of 1 rfl rfl rfl) pe_int (fun _ _ => rfl))) (pe_op op_mulB (pe_ix ix_tup (qv qv_sum_of 1 rfl rfl rfl) pe_int (fun _ _ => rfl)) (pe_ix ix_tup (qv qv_sum_of 0 rfl rfl rfl) pe_int (fun _ _ => rfl)))) (pa_cons (pe_op op_mulB (pe_ix ix_tup (qv qv_sum_of 0 rfl rfl rfl) pe_int (fun _ _ => rfl)) (pe_ix ix_tup (qv qv_sum_of 1 rfl rfl rfl) pe_int (fun _ _ => rfl))) pa_nil))))), ?_⟩
  walk_at "vc"
  exact ⟨_, _, rfl, Int.mul_ne_zero (by omega) (by omega), (Bt.mul bb bd).mono (by decide), q⟩
theorem below_D {D : Int} (h : Den D) (a b : Int) : fN a D * fD b D < fN b D * fD a D ↔ a < b := by
  have wa := fd_worth h a
  have wb := fd_worth h b
  have pa := fd_pos h a
  have pb := fd_pos h b
  have pD := h.pos
  have pp := Int.mul_pos pa pb
  have e1 : fN a D * fD b D * D = a * (fD a D * fD b D) := by
    calc fN a D * fD b D * D = (fN a D * D) * fD b D := by ac_rfl
      _ = a * (fD a D * fD b D) := by rw [wa]; ac_rfl
  have e2 : fN b D * fD a D * D = b * (fD a D * fD b D) := by
    calc fN b D * fD a D * D = (fN b D * D) * fD a D := by ac_rfl
      _ = b * (fD a D * fD b D) := by rw [wb]; ac_rfl
  constructor
  · intro q
    have := Int.mul_lt_mul_of_pos_right q pD
    rw [e1, e2] at this
    exact Int.lt_of_mul_lt_mul_right this (Int.le_of_lt pp)
  · intro q
    have := Int.mul_lt_mul_of_pos_right q pp
    rw [← e1, ← e2] at this
    exact Int.lt_of_mul_lt_mul_right this (Int.le_of_lt pD)
inductive spBelowD_ (K : PySem.W.Frag) (vs : List V) (H : Hp) (Q : VK) : Prop where
  | mk (D : Int) (r1 r2 : Addr) (a b : Int) : (vs = [.ref r1, .ref r2]) → (Den D) → (FrD K H D r1 a) → (FrD K H D r2 b) → (Bt 1100 a) → (Bt 1100 b) → (Q (.bl (decide (a < b))) H) → spBelowD_ K vs H Q
noncomputable def spBelowD (K : PySem.W.Frag) : Sp := fun vs H Q _ => spBelowD_ K vs H Q
theorem ok_below (T : Txt K mg t) : FnOk P w K mg base CX0 1 t.f_below t.d_below ["one", "other"] (spBelowD K) := by
  refine T.F_below.ok sc_below (fun vs H Q E h => ?_) (fun cdv A outer s H vs Q E hr h => ?_)
  · obtain ⟨D, r1, r2, a, b, rfl, _⟩ := h
    rfl
  obtain ⟨D, r1, r2, a, b, rfl, hD, g1, g2, la, lb, q⟩ := h
  unfold FrD at g1 g2
  have e := below_D hD a b
  obtain ⟨ba, bb⟩ := fd_bt hD la
  obtain ⟨bc, bd⟩ := fd_bt hD lb
  have m1 : CMulB (fN a D) (fD b D) := ⟨ba.mono (by decide), bd.mono (by decide)⟩
  have m2 : CMulB (fN b D) (fD a D) := ⟨bc.mono (by decide), bb.mono (by decide)⟩
  refine ⟨_, (pss_one (ps_ret (pe_cmpR op_lt (pe_op op_mulB (pe_ix ix_tup (qv qv_below 0 rfl rfl rfl) pe_int (fun _ _ => rfl)) (pe_ix ix_tup (qv qv_below 1 rfl rfl rfl) pe_int (fun _ _ => rfl))) (pe_op op_mulB (pe_ix ix_tup (qv qv_below 1 rfl rfl rfl) pe_int (fun _ _ => rfl)) (pe_ix ix_tup (qv qv_below 0 rfl rfl rfl) pe_int (fun _ _ => rfl))) (nomark _)))), ?_⟩
  walk_at "vc"
  rw [show decide (fN a D * fD b D < fN b D * fD a D) = decide (a < b) from decide_eq_decide.mpr e]
  exact q
noncomputable def betterG {α : Type} (b : Option (α × Int)) (c : α × Int) : Option (α × Int) := match b with
  | none => some c
  | some a => if c.2 < a.2 then some c else some a
noncomputable def firstG {α : Type} (cs : List (α × Int)) : Option (α × Int) := cs.foldl betterG none
theorem firstG_map {α β : Type} (f : α → β) (cs : List (α × Int)) : firstG (cs.map fun c => (f c.1, c.2)) = (firstG cs).map fun c => (f c.1, c.2) := by
  unfold firstG
  suffices h : ∀ b : Option (α × Int), (cs.map fun c => (f c.1, c.2)).foldl betterG (b.map fun c => (f c.1, c.2)) = (cs.foldl betterG b).map fun c => (f c.1, c.2) from h none
  induction cs with
  | nil => intro b; rfl
  | cons c cs ih =>
    intro b
    rw [List.map_cons, List.foldl_cons, List.foldl_cons, ← ih]
    congr 1
    cases b with
    | none => rfl
    | some b =>
      show (if c.2 < b.2 then some (f c.1, c.2) else some (f b.1, b.2)) = Option.map _ (if c.2 < b.2 then some c else some b)
      split <;> rfl
theorem firstG_mem {α : Type} {cs : List (α × Int)} {c : α × Int} (h : firstG cs = some c) : c ∈ cs := by
  unfold firstG at h
  suffices k : ∀ (b : Option (α × Int)), cs.foldl betterG b = some c → c ∈ cs ∨ b = some c from (k none h).elim id fun z => nomatch z
  clear h
  induction cs with
  | nil => intro b h; exact .inr h
  | cons d cs ih =>
    intro b h
    rw [List.foldl_cons] at h
    rcases ih _ h with q | q
    · exact .inl (List.mem_cons_of_mem _ q)
    · cases b with
      | none => cases q; exact .inl List.mem_cons_self
      | some b =>
        have q' : (if d.2 < b.2 then some d else some b) = some c := q
        by_cases e : d.2 < b.2
        · rw [if_pos e] at q'; cases q'; exact .inl List.mem_cons_self
        · rw [if_neg e] at q'; exact .inr q'
noncomputable def ChAt (K : PySem.W.Frag) (H : Hp) (D : Int) (r : V) (c : V × Int) : Prop := ∃ t f, r = .ref t ∧ SqT K H t [c.1, .ref f] ∧ FrD K H D f c.2 ∧ Bt 1100 c.2
inductive spLeast_ (K : PySem.W.Frag) (vs : List V) (H : Hp) (Q : VK) : Prop where
  | mk (D : Int) (l : Addr) (rs : List V) (cs : List (V × Int)) : (vs = [.ref l]) → (Den D) → (SqL K H l rs) → (rs.length = cs.length) → ((∀ (i : Nat) (r : V) (c : V × Int), rs[i]? = some r → cs[i]? = some c → ChAt K H D r c)) → ((firstG cs = none → ∀ H', Same H H' → Q .non H')) → ((∀ c, firstG cs = some c → ∀ (t f : Addr) (H' : Hp), Same H H' → H' t = some (.tup [c.1, .ref f]) → FrD K H' D f c.2 → Q (.ref t) H')) → spLeast_ K vs H Q
noncomputable def spLeast (K : PySem.W.Frag) : Sp := fun vs H Q _ => spLeast_ K vs H Q
theorem ok_least_of (T : Txt K mg t) : FnOk P w K mg base CX0 2 t.f_least_of t.d_least_of ["choices"] (spLeast K) := by
  have G_below := ok_below (P := P) (w := w) (base := base) T
  refine T.F_least_of.ok sc_least_of (fun vs H Q E h => ?_) (fun cdv A outer s H vs Q E hr h => ?_)
  · obtain ⟨D, l, rs, cs, rfl, _⟩ := h
    rfl
  obtain ⟨D, l, rs, cs, rfl, hD, hl, el, ch, qn, qs⟩ := h
  refine ⟨_, (pss_cons (q_set (i := 1) qv_least_of sc_least_of.nd rfl rfl rfl pe_non)
      (pss_cons (ps_for PassesOwn.never rfl (pi_list (qv qv_least_of 0 rfl rfl rfl)) (pg_tup rfl (pgs_cons (q_name (i := 2) qv_least_of sc_least_of.nd rfl rfl rfl) (pgs_cons (q_name (i := 3) qv_least_of sc_least_of.nd rfl rfl rfl) pgs_nil))) (pss_one (ps_if (PW.pt (pw_or (pt_cmp (pc_isN (qv qv_least_of 1 rfl rfl rfl))) (pw_or1 (pt_val (q_call G_below (hr.mono (by first | decide | omega)) qg_least_of 0 rfl rfl T.m_below T.F_below.kp T.b_below .nil pass0 (pa_cons (qv qv_least_of 3 rfl rfl rfl) (pa_cons (pe_ix ix_tup (qv qv_least_of 1 rfl rfl rfl) pe_int (fun _ _ => rfl)) pa_nil))))))) (pss_one (q_set (i := 1) qv_least_of sc_least_of.nd rfl rfl rfl (pe_tup (pa_cons (qv qv_least_of 2 rfl rfl rfl) (pa_cons (qv qv_least_of 3 rfl rfl rfl) pa_nil))))) pss_nil)))
      (pss_one (ps_ret (qv qv_least_of 1 rfl rfl rfl))))), ?_⟩
  walk_at "vc"
  refine ⟨l, rfl, ⟨rs, hl⟩, for_list (xs := rs) (fun i σ H' => Same H H' ∧ ∃ (b : V) (u1 u2 : Option V), σ = [some (.ref l), some b, u1, u2] ∧ match (cs.take i).foldl betterG none with
      | none => b = .non
      | some c => ∃ t f, b = .ref t ∧ H' t = some (.tup [c.1, .ref f]) ∧ FrD K H' D f c.2 ∧ Bt 1100 c.2)
    ⟨Same.refl _, .non, none, none, rfl, rfl⟩ (fun i σ H' _ hh => hh.1.seq hl) ?_ ?_⟩
  · rintro i y σ H' hy ⟨sm, b, u1, u2, rfl, hb⟩
    obtain ⟨c, hc⟩ : ∃ c, cs[i]? = some c := ⟨cs[i]'(by rw [← el]; exact (List.getElem?_eq_some_iff.mp hy).1), List.getElem?_eq_getElem _⟩
    obtain ⟨tt, ff, rfl, h1, h2, h3⟩ := ch i y c hy hc
    refine vc_asgT (sm.tup h1) rfl ?_
    have et : (cs.take (i + 1)).foldl betterG none = betterG ((cs.take i).foldl betterG none) c := by
      rw [List.take_add_one, hc, List.foldl_append]
      rfl
    cases hf : (cs.take i).foldl betterG none with
    | none =>
      rw [hf] at hb et
      cases (show b = .non from hb)
      walk_at "vc"
      rw [dec_true rfl]
      walk_at "vc"
      refine ⟨(by show 2 ≤ sizeLine; decide), fun r hr' => ?_⟩
      walk_at "vc"
      have Y := same_new hr' (.tup [c.1, .ref ff])
      refine ⟨sm.trans Y, _, _, _, rfl, ?_⟩
      rw [et]
      exact ⟨r, ff, rfl, upd_same, h2.same (sm.trans Y), h3⟩
    | some c0 =>
      rw [hf] at hb et
      obtain ⟨t0, f0, rfl, g1, g2, g3⟩ := hb
      walk_at "vc"
      rw [dec_false (fun z => by cases z)]
      walk_at "vc"
      refine ⟨D, ff, f0, c.2, c0.2, rfl, hD, h2.same sm, g2, h3, g3, ?_⟩
      walk_at "vc"
      have e' : betterG (some c0) c = if c.2 < c0.2 then some c else some c0 := rfl
      rw [e'] at et
      refine ite2 (fun z => ?_) (fun z => ?_)
      · rw [if_pos (of_decide_eq_true z)] at et
        walk_at "vc"
        refine ⟨(by show 2 ≤ sizeLine; decide), fun r hr' => ?_⟩
        walk_at "vc"
        have Y := same_new hr' (.tup [c.1, .ref ff])
        refine ⟨sm.trans Y, _, _, _, rfl, ?_⟩
        rw [et]
        exact ⟨r, ff, rfl, upd_same, h2.same (sm.trans Y), h3⟩
      · rw [if_neg (fun y => z (decide_eq_true y))] at et
        walk_at "vc"
        refine ⟨sm, _, _, _, rfl, ?_⟩
        rw [et]
        exact ⟨t0, f0, rfl, g1, g2, g3⟩
  · rintro σ H' ⟨sm, b, u1, u2, rfl, hb⟩
    rw [el, List.take_length] at hb
    walk_at "vc"
    cases hf : cs.foldl betterG none with
    | none =>
      rw [hf] at hb
      rw [show b = .non from hb]
      exact qn hf H' sm
    | some c =>
      rw [hf] at hb
      obtain ⟨t, f, rfl, g1, g2, _⟩ := hb
      exact qs c hf t f H' sm g1 g2
noncomputable def wasteO (D : Int) : Option Int → PySem.W.Dat
  | none => .none
  | some u => frD D u
noncomputable def wv (rooms : List Int) (rows : List (Int × Int)) (th : List (Str × Str × Int)) (ap : List (Str × Str)) (x y : Str) : Option Int := if (x, y) ∈ ap ∨ (y, x) ∈ ap then none else some (2 * thickBy x y th * hfN rows rooms.sum)
theorem row_noL (D : Int) (os : List (Option Int)) : noLs (os.map (wasteO D)) = true := noLs_map (fun o => by cases o <;> rfl) os
inductive spWF_ (K : PySem.W.Frag) (C : Addr) (vs : List V) (H : Hp) (Q : VK) : Prop where
  | mk (x lw : Addr) (rooms : List Int) (rows : List (Int × Int)) (th : List (Str × Str × Int)) (ap : List (Str × Str)) (one : Str) (ss : List Str) : (vs = [.ref x, .str one, .ref lw]) → (PipeD K H C x rooms rows th ap) → (DataOk rooms rows th ap) → (Let one) → (SqL K H lw (ss.map V.str)) → ((∀ s ∈ ss, Let s)) → (ss.length ≤ 100) → (∀ (l' : Addr) (rs : List V) (H' : Hp), Same H H' → H l' = none → H' l' = some (.lst rs) → Reps K H' rs ((ss.map (wv rooms rows th ap one)).map (wasteO (hfD rows rooms.sum))) → Q (.ref l') H') → spWF_ K C vs H Q
noncomputable def spWF (K : PySem.W.Frag) (C : Addr) : Sp := fun vs H Q _ => spWF_ K C vs H Q
theorem ok_wastes_from (T : Txt K mg t) : FnOk P w K mg base CX0 6 t.f_wastes_from t.d_wastes_from ["pipe", "one", "wares"] (spWF K t.c_Pipe) := by
  have G_waste_between := ok_waste_between (P := P) (w := w) (base := base) T
  refine T.F_wastes_from.ok sc_wastes_from (fun vs H Q E h => ?_) (fun cdv A outer s H vs Q E hr h => ?_)
  · obtain ⟨x, lw, rooms, rows, th, ap, one, ss, rfl, _⟩ := h
    rfl
  obtain ⟨x, lw, rooms, rows, th, ap, one, ss, rfl, hP, Dk, lo, hl, ls, sl, q⟩ := h
  refine ⟨_, (pss_one (ps_ret (pe_comp ["other", "pipe", "one"] [none, some 0, some 1] rfl  (pi_list (qv qv_wastes_from 2 rfl rfl rfl)) (fun _ _ _ _ => (pg_name (i := 0) (show (["other", "pipe", "one"] : List Str).Nodup by decide +kernel) rfl (Or.inl rfl))) (fun _ _ _ _ => pts_nil) (fun _ _ _ _ => (pe_call G_waste_between (hr.mono (by decide)) rfl T.m_waste_between T.F_waste_between.kp T.b_waste_between .nil pass0 (pa_cons (pv 1) (pa_cons (pv 2) (pa_cons (pv 0) pa_nil))))) rfl rfl))), ?_⟩
  walk_at "vc"
  refine ⟨lw, rfl, ⟨_, hl⟩, fun d hd => comp_gen (n := (ss.map V.str).length) (fun i y => (ss.map V.str)[i]? = some y) hd (small1000 (by rw [List.length_map]; omega)) (hJ_list hl) (fun i ys H => Reps K H ys (((ss.take i).map (wv rooms rows th ap one)).map (wasteO (hfD rows rooms.sum)))) (fun σ => ∃ u, σ = [u, some (.ref x), some (.str one)]) .nil ⟨_, rfl⟩ ?_ ?_⟩
  · rintro i y ys σ H' R1 R0 hi hy ⟨u, rfl⟩ sm hDl hΦ k1 k0
    rw [List.getElem?_map] at hy
    obtain ⟨z, hz, rfl⟩ := Option.map_eq_some_iff.mp hy
    have et : ss.take (i + 1) = ss.take i ++ [z] := by rw [List.take_add_one, hz]; rfl
    walk_at "vc"
    refine ⟨x, rooms, rows, th, ap, one, z, rfl, hP.same sm, Dk, lo, ls z (List.mem_of_getElem? hz), fun e H2 S2 => ?_, fun e r H2 S2 g2 => ?_⟩
    · walk_at "vc"
      refine k1 _ _ _ S2 ⟨_, rfl⟩ ?_
      rw [et, List.map_append, List.map_append]
      refine (hΦ.same S2.hid).append (.one ?_)
      show Rep K _ .non (wasteO _ (wv rooms rows th ap one z))
      unfold wv
      rw [if_pos e]
      exact .non
    · walk_at "vc"
      have hD2 := S2 _ _ hDl
      have nr : r ≠ d := fun e => by rw [e, hD2] at g2; cases g2
      refine k1 _ _ _ S2 ⟨_, rfl⟩ ?_
      rw [et, List.map_append, List.map_append]
      refine (hΦ.same S2.hid).append (.one ?_)
      show Rep K _ (.ref r) (wasteO _ (wv rooms rows th ap one z))
      unfold wv
      rw [if_neg e]
      exact .tup (SqT.of (by rw [hid_ne nr]; exact g2)) (.cons (.int _) (.cons (.int _) .nil))
  · rintro ys H2 sm hDl hly hΦ
    rw [List.length_map, List.take_length] at hΦ
    exact q d ys H2 sm hd hDl (hΦ.same (hid_same _ _))
inductive spWO_ (K : PySem.W.Frag) (C : Addr) (vs : List V) (H : Hp) (Q : VK) : Prop where
  | mk (x lw : Addr) (rooms : List Int) (rows : List (Int × Int)) (th : List (Str × Str × Int)) (ap : List (Str × Str)) (ss : List Str) : (vs = [.ref x, .ref lw]) → (PipeD K H C x rooms rows th ap) → (DataOk rooms rows th ap) → (SqL K H lw (ss.map V.str)) → ((∀ s ∈ ss, Let s)) → (ss.length ≤ 100) → (∀ (l' : Addr) (rs : List V) (H' : Hp), Same H H' → H l' = none → H' l' = some (.lst rs) → Reps K H' rs (ss.map fun one => .list ((ss.map (wv rooms rows th ap one)).map (wasteO (hfD rows rooms.sum)))) → (∀ y ∈ rs, ∃ b, y = .ref b ∧ H b = none) → Q (.ref l') H') → spWO_ K C vs H Q
noncomputable def spWO (K : PySem.W.Frag) (C : Addr) : Sp := fun vs H Q _ => spWO_ K C vs H Q
theorem ok_wastes_of (T : Txt K mg t) : FnOk P w K mg base CX0 7 t.f_wastes_of t.d_wastes_of ["pipe", "wares"] (spWO K t.c_Pipe) := by
  have G_wastes_from := ok_wastes_from (P := P) (w := w) (base := base) T
  refine T.F_wastes_of.ok sc_wastes_of (fun vs H Q E h => ?_) (fun cdv A outer s H vs Q E hr h => ?_)
  · obtain ⟨x, lw, rooms, rows, th, ap, ss, rfl, _⟩ := h
    rfl
  obtain ⟨x, lw, rooms, rows, th, ap, ss, rfl, hP, Dk, hl, ls, sl, q⟩ := h
  refine ⟨_, (pss_one (ps_ret (pe_comp ["one", "pipe", "wares"] [none, some 0, some 1] rfl  (pi_list (qv qv_wastes_of 1 rfl rfl rfl)) (fun _ _ _ _ => (pg_name (i := 0) (show (["one", "pipe", "wares"] : List Str).Nodup by decide +kernel) rfl (Or.inl rfl))) (fun _ _ _ _ => pts_nil) (fun _ _ _ _ => (pe_call G_wastes_from (hr.mono (by decide)) rfl T.m_wastes_from T.F_wastes_from.kp T.b_wastes_from .nil pass0 (pa_cons (pv 1) (pa_cons (pv 0) (pa_cons (pv 2) pa_nil))))) rfl rfl))), ?_⟩
  walk_at "vc"
  refine ⟨lw, rfl, ⟨_, hl⟩, fun d hd => comp_gen (n := (ss.map V.str).length) (fun i y => (ss.map V.str)[i]? = some y) hd (small1000 (by rw [List.length_map]; omega)) (hJ_list hl) (fun i ys H1 => Reps K H1 ys ((ss.take i).map fun one => .list ((ss.map (wv rooms rows th ap one)).map (wasteO (hfD rows rooms.sum)))) ∧ ∀ y ∈ ys, ∃ b, y = .ref b ∧ H b = none) (fun σ => ∃ u, σ = [u, some (.ref x), some (.ref lw)]) ⟨.nil, fun _ h => nomatch h⟩ ⟨_, rfl⟩ ?_ ?_⟩
  · rintro i y ys σ H' R1 R0 hi hy ⟨u, rfl⟩ sm hDl ⟨hΦ, hN⟩ k1 k0
    rw [List.getElem?_map] at hy
    obtain ⟨z, hz, rfl⟩ := Option.map_eq_some_iff.mp hy
    have et : ss.take (i + 1) = ss.take i ++ [z] := by rw [List.take_add_one, hz]; rfl
    walk_at "vc"
    refine ⟨x, lw, rooms, rows, th, ap, z, ss, rfl, hP.same sm, Dk, ls z (List.mem_of_getElem? hz), sm.seq hl, ls, sl, fun l' rs H2 S2 n2 g2 R2 => ?_⟩
    walk_at "vc"
    have hD2 := S2 _ _ hDl
    have nl : l' ≠ d := fun e => by rw [e, hDl] at n2; cases n2
    refine k1 _ _ _ S2 ⟨_, rfl⟩ ?_
    refine ⟨?_, fun y hy => ?_⟩
    rotate_left
    · rcases List.mem_append.mp hy with h | h
      · exact hN y h
      · rw [List.mem_singleton.mp h]
        exact ⟨l', rfl, sm.free n2⟩
    rw [et, List.map_append]
    refine (hΦ.same S2.hid).append (.one (.lst (SqL.of (by rw [hid_ne nl]; exact g2)) ?_))
    exact reps_noL (row_noL _ _) R2 fun b u hn hu => by
      rw [hid_ne (fun z => hn _ (z ▸ hD2))]
      exact hu
  · rintro ys H2 sm hDl hly ⟨hΦ, hN⟩
    rw [List.length_map, List.take_length] at hΦ
    exact q d ys H2 sm hd hDl (hΦ.same (hid_same _ _)) hN
structure RowAt (K : PySem.W.Frag) (H : Hp) (D : Int) (wa : Addr) (one : Int) (row : List (Option Int)) : Prop where
  at_ : ∃ (ws rs : List V) (l : Addr), SqL K H wa ws ∧ atI ws one = some (.ref l) ∧ SqL K H l rs ∧ Reps K H rs (row.map (wasteO D))
noncomputable def stepsR (row : List (Option Int)) (rest : List Int) : List (Int × Int) := rest.filterMap fun x => ((row[x.toNat]?).getD none).map fun u => (x, u)
inductive spSteps_ (K : PySem.W.Frag) (vs : List V) (H : Hp) (Q : VK) : Prop where
  | mk (D one : Int) (wa tr : Addr) (row : List (Option Int)) (rest : List Int) : (vs = [.ref wa, .int one, .ref tr]) → (Den D) → (RowAt K H D wa one row) → (SqL K H tr (rest.map V.int)) → ((∀ x ∈ rest, 0 ≤ x ∧ x < row.length)) → (rest.length ≤ 100) → ((∀ u, some u ∈ row → Bt 1100 u)) → (∀ (l' : Addr) (rs : List V) (H' : Hp), Same H H' → H l' = none → H' l' = some (.lst rs) → rs.length = (stepsR row rest).length → (∀ (i : Nat) (r : V) (c : Int × Int), rs[i]? = some r → (stepsR row rest)[i]? = some c → ChAt K H' D r (.int c.1, c.2)) → Q (.ref l') H') → spSteps_ K vs H Q
noncomputable def spSteps (K : PySem.W.Frag) : Sp := fun vs H Q _ => spSteps_ K vs H Q
theorem ChAt.same {H H' : Hp} {D : Int} {r : V} {c : V × Int} (h : ChAt K H D r c) (e : Same H H') : ChAt K H' D r c := by
  obtain ⟨t, f, q, a, b, z⟩ := h
  exact ⟨t, f, q, e.tup a, b.same e, z⟩
theorem ok_steps_from (T : Txt K mg t) : FnOk P w K mg base CX0 1 t.f_steps_from t.d_steps_from ["wastes", "one", "rest"] (spSteps K) := by
  refine T.F_steps_from.ok sc_steps_from (fun vs H Q E h => ?_) (fun cdv A outer s H vs Q E hr h => ?_)
  · obtain ⟨D, one, wa, tr, row, rest, rfl, _⟩ := h
    rfl
  obtain ⟨D, one, wa, tr, row, rest, rfl, hD, hR, ht, hb, sl, bt, q⟩ := h
  obtain ⟨ws, rs, l, w1, w2, w3, w4⟩ := hR.at_
  have rl : rs.length = row.length := by rw [w4.length, List.length_map]
  refine ⟨_, (pss_one (ps_ret (pe_comp ["number", "wastes", "one"] [none, some 0, some 1] rfl  (pi_list (qv qv_steps_from 2 rfl rfl rfl)) (fun _ _ _ _ => (pg_name (i := 0) (show (["number", "wastes", "one"] : List Str).Nodup by decide +kernel) rfl (Or.inl rfl))) (fun _ _ _ _ => (pts_one (pt_cmp (pc_notN (pe_ix ix_listC (pe_ix ix_listC (pv 1) (pv 2) (fun _ _ => rfl)) (pv 0) (fun _ _ => rfl)))))) (fun _ _ _ _ => (pe_tup (pa_cons (pv 0) (pa_cons (pe_ix ix_listC (pe_ix ix_listC (pv 1) (pv 2) (fun _ _ => rfl)) (pv 0) (fun _ _ => rfl)) pa_nil)))) rfl rfl))), ?_⟩
  walk_at "vc"
  refine ⟨tr, rfl, ⟨_, ht⟩, fun d hd => comp_gen (n := (rest.map V.int).length) (fun i y => (rest.map V.int)[i]? = some y) hd (small1000 (by rw [List.length_map]; omega)) (hJ_list ht) (fun i ys H => ys.length = (stepsR row (rest.take i)).length ∧ ∀ (j : Nat) (r : V) (c : Int × Int), ys[j]? = some r → (stepsR row (rest.take i))[j]? = some c → ChAt K H D r (.int c.1, c.2)) (fun σ => ∃ u, σ = [u, some (.ref wa), some (.int one)]) ⟨rfl, fun j r c h => by simp at h⟩ ⟨_, rfl⟩ ?_ ?_⟩
  · rintro i y ys σ H' R1 R0 hi hy ⟨u, rfl⟩ sm hDl hΦ k1 k0
    rw [List.getElem?_map] at hy
    obtain ⟨z, hz, rfl⟩ := Option.map_eq_some_iff.mp hy
    have hzb := hb z (List.mem_of_getElem? hz)
    have et : rest.take (i + 1) = rest.take i ++ [z] := by rw [List.take_add_one, hz]; rfl
    have ez : z = ((z.toNat : Nat) : Int) := by omega
    have lt : z.toNat < row.length := by omega
    obtain ⟨v, hv, rv⟩ := w4.get' (i := z.toNat) (d := wasteO D row[z.toNat]) (by rw [List.getElem?_map, List.getElem?_eq_getElem lt]; rfl)
    have hat : atI rs z = some v := by rw [ez]; exact atI_nat hv
    have er : (row[z.toNat]?).getD none = row[z.toNat] := by rw [List.getElem?_eq_getElem lt]; rfl
    have es : stepsR row (rest.take (i + 1)) = stepsR row (rest.take i) ++ (match row[z.toNat] with | none => [] | some u => [(z, u)]) := by
      unfold stepsR
      rw [et, List.filterMap_append, List.filterMap_cons, er]
      cases row[z.toNat] <;> rfl
    walk_at "vc"
    refine vc_ixL (sm.seq w1) w2 ?_
    walk_at "vc"
    refine vc_ixL (sm.seq w3) hat ?_
    cases ho : row[z.toNat] with
    | none =>
      rw [ho] at rv es
      cases rv
      refine ⟨false, by rw [dec_true rfl]; rfl, ?_⟩
      walk_at "vc"
      refine k0 _ _ (Same.refl _) ⟨_, rfl⟩ ?_
      rw [es, List.append_nil]
      exact hΦ
    | some uu =>
      rw [ho] at rv es
      obtain ⟨f, xs, rfl, hf, rx⟩ := rv.tup_of
      cases (show xs = [V.int (fN uu D), V.int (fD uu D)] from Reps.ints_of (ns := [fN uu D, fD uu D]) rx)
      refine ⟨true, by rw [dec_false (fun z => by cases z)]; rfl, ?_⟩
      walk_at "vc"
      refine vc_ixL (sm.seq w1) w2 ?_
      walk_at "vc"
      refine vc_ixL (sm.seq w3) hat ?_
      walk_at "vc"
      refine ⟨(by show 2 ≤ sizeLine; decide), fun e he => ?_⟩
      have Y := same_new he (.tup [.int z, .ref f])
      have ge : upd H' e (.tup [.int z, .ref f]) e = some (.tup [.int z, .ref f]) := upd_same
      have ne : e ≠ d := (ne_of_none hDl he).symm
      generalize upd H' e (.tup [.int z, .ref f]) = H2 at *
      have hD2 := Y _ _ hDl
      have SH : Same H (hid d H2) := fun b u q => by
        rw [hid_ne (ne_of_none q hd)]
        exact Y _ _ (sm _ _ q)
      refine k1 _ _ _ Y ⟨_, rfl⟩ ?_
      rw [es]
      refine ⟨by rw [List.length_append, List.length_append, hΦ.1]; rfl, fun j r c h1 h2 => ?_⟩
      rcases Nat.lt_or_ge j ys.length with lj | lj
      · rw [List.getElem?_append_left lj] at h1
        rw [List.getElem?_append_left (by rw [← hΦ.1]; exact lj)] at h2
        exact (hΦ.2 j r c h1 h2).same Y.hid
      · rw [List.getElem?_append_right lj] at h1
        rw [List.getElem?_append_right (by rw [← hΦ.1]; exact lj), ← hΦ.1] at h2
        obtain ⟨l1, q1⟩ := List.getElem?_eq_some_iff.mp h1
        have j0 : j - ys.length = 0 := by simpa using l1
        rw [j0] at h1 h2
        cases h1
        cases h2
        exact ⟨e, f, rfl, SqT.of (by rw [hid_ne ne]; exact ge), SH.tup hf, bt uu (by rw [← ho]; exact List.getElem_mem _)⟩
  · rintro ys H2 sm hDl hly hΦ
    rw [List.length_map, List.take_length] at hΦ
    refine q d ys H2 sm hd hDl hΦ.1 fun i r c h1 h2 => ?_
    obtain ⟨t, f, e, a, b, c⟩ := hΦ.2 i r c h1 h2
    exact ⟨t, f, e, (hid_same _ _).tup a, b.same (hid_same _ _), c⟩
noncomputable def nums (m : Nat) : List Int := (List.range m).map fun (i : Nat) => (i : Int)
theorem nums_at {m i : Nat} (h : i < m) : (nums m)[i]? = some (i : Int) := by
  unfold nums
  rw [List.getElem?_map, List.getElem?_range h]
  rfl
theorem nums_mem {m : Nat} {x : Int} (h : x ∈ nums m) : ∃ a : Nat, x = (a : Int) ∧ a < m := by
  obtain ⟨a, ha, rfl⟩ := List.mem_map.mp h
  exact ⟨a, rfl, List.mem_range.mp ha⟩
theorem mem_nums {m : Nat} {x : Int} (h0 : 0 ≤ x) (h1 : x < m) : x ∈ nums m := List.mem_map.mpr ⟨x.toNat, List.mem_range.mpr (by omega), by omega⟩
theorem getD_at {ss : List Str} {a : Nat} (h : a < ss.length) : ss.getD a (Str.ofString "") = ss[a] := by
  rw [List.getD_eq_getElem?_getD, List.getElem?_eq_getElem h]
  rfl
theorem nums_nd (m : Nat) : (nums m).Nodup := List.Pairwise.map _ (fun a b h e => h (by omega)) List.nodup_range
theorem nums_len (m : Nat) : (nums m).length = m := by unfold nums; rw [List.length_map, List.length_range]
noncomputable def Wn (rooms : List Int) (rows : List (Int × Int)) (th : List (Str × Str × Int)) (ap : List (Str × Str)) (ss : List Str) (i j : Int) : Option Int := wv rooms rows th ap (ss.getD i.toNat (Str.ofString "")) (ss.getD j.toNat (Str.ofString ""))
theorem wv_sym {rooms : List Int} {rows : List (Int × Int)} {th : List (Str × Str × Int)} {ap : List (Str × Str)} (x y : Str) : wv rooms rows th ap x y = wv rooms rows th ap y x := by
  unfold wv
  rw [thickBy_comm]
  by_cases h : (x, y) ∈ ap ∨ (y, x) ∈ ap
  · rw [if_pos h, if_pos h.symm]
  · rw [if_neg h, if_neg fun z => h z.symm]
theorem Wn_sym {rooms : List Int} {rows : List (Int × Int)} {th : List (Str × Str × Int)} {ap : List (Str × Str)} {ss : List Str} (i j : Int) : Wn rooms rows th ap ss i j = Wn rooms rows th ap ss j i := wv_sym _ _
theorem half_nn (n : Int) : ∀ (rows : List (Int × Int)) (near nh : Int), ((near, nh) :: rows).Pairwise (fun x y => x.1 < y.1 ∧ x.2 ≤ y.2) → near ≤ n → 0 ≤ nh → 0 ≤ (halfGo near nh rows n).1
  | [], near, nh, _, _, h => h
  | r :: rs, near, nh, hup, hn, h0 => by
    obtain ⟨h1, h2⟩ := List.pairwise_cons.mp hup
    have g := h1 r List.mem_cons_self
    obtain ⟨far, fh⟩ := r
    dsimp only at g
    rw [halfGo]
    split
    · show 0 ≤ nh * (far - near) + (fh - nh) * (n - near)
      have a := Int.mul_nonneg h0 (show 0 ≤ far - near by omega)
      have b := Int.mul_nonneg (show 0 ≤ fh - nh by omega) (show 0 ≤ n - near by omega)
      omega
    · exact half_nn n rs far fh h2 (by omega) (by omega)
theorem hfN_nn {rows : List (Int × Int)} {n : Int} (h : RowsOk rows) (hn0 : 0 ≤ n) (hn1 : n ≤ 200000000) : 0 ≤ hfN rows n := by
  obtain ⟨a, b, c⟩ := half_bounds n hn0 hn1 rows 0 0 h.up h.le (by decide) (by decide) (by decide) (by decide)
  have g := half_nn n rows 0 0 h.up hn0 (by decide)
  have w := f_worth (n := (halfGo 0 0 rows n).1) (p := (halfGo 0 0 rows n).2) (by omega)
  have p := fD_pos (n := (halfGo 0 0 rows n).1) (p := (halfGo 0 0 rows n).2) (by omega)
  unfold hfN
  refine Classical.byContradiction fun z => ?_
  have : fN (halfGo 0 0 rows n).1 (halfGo 0 0 rows n).2 * (halfGo 0 0 rows n).2 < 0 := Int.mul_neg_of_neg_of_pos (by omega) a
  have q := Int.mul_nonneg g (show 0 ≤ fD (halfGo 0 0 rows n).1 (halfGo 0 0 rows n).2 by omega)
  omega
theorem wv_b0 {rooms : List Int} {rows : List (Int × Int)} {th : List (Str × Str × Int)} {ap : List (Str × Str)} (D : DataOk rooms rows th ap) {x y : Str} {u : Int} (h : wv rooms rows th ap x y = some u) : 0 ≤ u ∧ u ≤ 1600000000000000000 := by
  unfold wv at h
  split at h
  · cases h
  · cases h
    obtain ⟨_, _, b3⟩ := half_ok D.rw D.s0 D.s1
    have n0 := hfN_nn D.rw D.s0 D.s1
    obtain ⟨k0, k1⟩ := thickBy_b (one := x) (other := y) D.thk
    generalize thickBy x y th = t at *
    generalize hfN rows rooms.sum = n at *
    have a0 : 0 ≤ 2 * t * n := Int.mul_nonneg (by omega) n0
    have a1 : (2 * t * n).natAbs ≤ 40 * (100000000 * 400000000) := by
      rw [Int.natAbs_mul]
      exact Nat.mul_le_mul (by omega) b3
    omega
theorem hJ_enum {H1 : Hp} {a : Addr} {xs : List V} (h : SqL K H1 a xs) : ∀ i H, Same H1 H → (i < xs.length → (Ite K a).go i H) ∧ (xs.length ≤ i → (Ite K a).stop i H) ∧
    ∀ x H', i < xs.length → (Ite K a).yld i H x H' → Same H H' ∧ ∃ TT y, x = .ref TT ∧ xs[i]? = some y ∧ H' TT = some (.tup [.int ((i : Nat) : Int), y]) :=
  fun i H sm => ⟨fun hi => ⟨xs, xs[i], sm.seq h, by simp [hi]⟩, fun hi => ⟨xs, sm.seq h, hi⟩, fun x H' _ y => by
    obtain ⟨TT, v, rfl, hT, rfl, e⟩ := y
    exact ⟨same_new hT _, TT, v, rfl, e xs (sm.seq h), upd_same⟩⟩
inductive spSome_ (K : PySem.W.Frag) (vs : List V) (H : Hp) (Q : VK) : Prop where
  | mk (lw lc : Addr) (ws : List Str) (ns : List Int) : (vs = [.ref lw, .ref lc]) → (SqL K H lw (ws.map V.str)) → (Wares ws) → (SqL K H lc (ns.map V.int)) → (ns.length ≤ 63) → (∀ (l : Addr) (ss : List Str) (H' : Hp), Same H H' → H l = none → H' l = some (.lst (ss.map V.str)) → ss.length = ns.length → (∀ s ∈ ss, s ∈ ws) → Q (.ref l) H') → spSome_ K vs H Q
noncomputable def spSome (K : PySem.W.Frag) : Sp := fun vs H Q _ => spSome_ K vs H Q
theorem ok_l_some (T : Txt K mg t) : FnOk P w K mg base CX0 2 t.f_l_some t.d_l_some ["_law_wares_here", "_law_cells"] (spSome K) := by
  have G_l_mix := ok_l_mix (P := P) (w := w) (base := base) T
  refine T.F_l_some.ok sc_l_some (fun vs H Q E h => ?_) (fun cdv A outer s H vs Q E hr h => ?_)
  · obtain ⟨lw, lc, ws, ns, rfl, _⟩ := h
    rfl
  obtain ⟨lw, lc, ws, ns, rfl, hw, W, hc, nl, q⟩ := h
  refine ⟨_, (pss_one (ps_ret (pe_comp ["_law_k", "_law_cell", "_law_wares_here"] [none, none, some 0] rfl  (pi_enum (qgl qg_l_some 0 rfl rfl) T.z_enumerate (pa_cons (qv qv_l_some 1 rfl rfl rfl) pa_nil)) (fun _ _ _ _ => (pg_tupC (n := 2) rfl (pgs_cons (pg_name (i := 0) (show (["_law_k", "_law_cell", "_law_wares_here"] : List Str).Nodup by decide +kernel) rfl (Or.inl rfl)) (pgs_cons (pg_name (i := 1) (show (["_law_k", "_law_cell", "_law_wares_here"] : List Str).Nodup by decide +kernel) rfl (Or.inl rfl)) pgs_nil)))) (fun _ _ _ _ => pts_nil) (fun _ _ _ _ => (pe_ix ix_listC (pv 2) (pe_op op_mod (pe_ix ix_listC (pe_lst (pa_cons (pe_op op_fdiv (pe_callB call_absR rfl T.z_abs bo_abs (pa_cons (pv 1) pa_nil)) pe_int) (pa_cons (pe_call G_l_mix (hr.mono (by decide)) rfl T.m_l_mix T.F_l_mix.kp T.b_l_mix .nil pass0 (pa_cons (pv 1) (pa_cons (pe_op op_add pe_int (pv 0)) pa_nil))) pa_nil))) (pe_op op_mod (pv 1) pe_int) (fun _ _ => rfl)) pe_int) (fun _ _ => rfl))) rfl rfl))), ?_⟩
  walk_at "vc"
  refine ⟨lc, _, rfl, hc, fun D1 hD1 => comp_gen2 (n := ns.length) (fun i v H' => ∃ TT y, v = .ref TT ∧ (ns.map V.int)[i]? = some y ∧ H' TT = some (.tup [.int ((i : Nat) : Int), y])) hD1 (small1000 (by omega)) (by have := hJ_enum hc; rw [List.length_map] at this; exact this) (fun i ys H => ∃ ss : List Str, ys = ss.map V.str ∧ ss.length = i ∧ ∀ s ∈ ss, s ∈ ws) (fun σ => ∃ u v, σ = [u, v, some (.ref lw)]) (fun _ _ _ _ _ h => h) ⟨[], rfl, rfl, fun _ h => nomatch h⟩ ⟨_, _, rfl⟩ ?_ ?_⟩
  · rintro i v ys σ H' R1 R0 hi ⟨TT, y, rfl, hy, hT⟩ ⟨u1, u2, rfl⟩ sm hDl ⟨ss, rfl, sl, sw⟩ k1 k0
    rw [List.getElem?_map] at hy
    obtain ⟨c, hc', rfl⟩ := Option.map_eq_some_iff.mp hy
    refine vc_asgT (SqT.of hT) rfl ?_
    have hw' := sm.seq hw
    walk_at "vc"
    refine ⟨(by show 2 ≤ sizeLine; decide), fun t0 ht0 => ?_⟩
    have Y0 := same_new ht0 (.lst [V.int (ab c / 2), .int (mix c (721 + (i : Int)))])
    have g0 : upd H' t0 (.lst [V.int (ab c / 2), .int (mix c (721 + (i : Int)))]) t0 = some (.lst [V.int (ab c / 2), .int (mix c (721 + (i : Int)))]) := upd_same
    generalize upd H' t0 (.lst [V.int (ab c / 2), .int (mix c (721 + (i : Int)))]) = H2 at *
    walk_at "vc"
    obtain ⟨v, hat⟩ : ∃ v : Int, atI [V.int (ab c / 2), .int (mix c (721 + (i : Int)))] (c % 2) = some (.int v) := by
      rcases (by omega : c % 2 = 0 ∨ c % 2 = 1) with e | e
      · exact ⟨_, by rw [e]; rfl⟩
      · exact ⟨_, by rw [e]; rfl⟩
    refine vc_ixL (SqL.of g0) hat ?_
    walk_at "vc"
    have i0 := Int.emod_nonneg v (show (6 : Int) ≠ 0 by decide)
    have i1 := Int.emod_lt_of_pos v (show (0 : Int) < 6 by decide)
    obtain ⟨ni, ei⟩ : ∃ ni : Nat, v % 6 = 0 + (ni : Int) := ⟨(v % 6).toNat, by omega⟩
    obtain ⟨wi, hwi, mi⟩ : ∃ wi, atI (ws.map V.str) (v % 6) = some (.str wi) ∧ wi ∈ ws := ⟨ws.getD ni (Str.ofString ""), by rw [ei]; exact atW W.len (by omega), getD_mem (by rw [W.len]; omega)⟩
    refine vc_ixL (Y0.seq hw') hwi ?_
    refine k1 _ _ _ Y0 ⟨_, _, rfl⟩ ⟨ss ++ [wi], by rw [List.map_append]; rfl, by rw [List.length_append, sl]; rfl, fun s hs => ?_⟩
    rcases List.mem_append.mp hs with h | h
    · exact sw s h
    · rw [List.mem_singleton.mp h]; exact mi
  · rintro ys H2 sm hDl hly ⟨ss, rfl, sl, sw⟩
    exact q D1 ss H2 sm hD1 hDl sl sw
noncomputable def wsum (W : Int → Int → Option Int) (T : List (Int × Int)) : Int := (T.map fun e => (W e.1 e.2).getD 0).sum
theorem wsum_snoc (W : Int → Int → Option Int) (T : List (Int × Int)) (e : Int × Int) : wsum W (T ++ [e]) = wsum W T + (W e.1 e.2).getD 0 := by
  unfold wsum
  rw [List.map_append, List.sum_append]
  simp
theorem sum_permI {l l' : List Int} (p : l.Perm l') : l.sum = l'.sum := by
  induction p with
  | nil => rfl
  | cons x _ ih => rw [List.sum_cons, List.sum_cons, ih]
  | swap x y l => rw [List.sum_cons, List.sum_cons, List.sum_cons, List.sum_cons]; omega
  | trans _ _ a b => exact a.trans b
theorem wsum_perm {W : Int → Int → Option Int} {T T' : List (Int × Int)} (p : T'.Perm T) : wsum W T' = wsum W T := by
  unfold wsum
  exact sum_permI (p.map _)
theorem wsum_b {W : Int → Int → Option Int} (h : ∀ i j u, W i j = some u → 0 ≤ u ∧ u ≤ 1600000000000000000) : ∀ T : List (Int × Int), 0 ≤ wsum W T ∧ wsum W T ≤ 1600000000000000000 * T.length
  | [] => by show 0 ≤ (0 : Int) ∧ (0 : Int) ≤ _; simp
  | e :: T => by
    have ih := wsum_b h T
    have e1 : wsum W (e :: T) = (W e.1 e.2).getD 0 + wsum W T := by unfold wsum; rw [List.map_cons, List.sum_cons]
    have b : 0 ≤ (W e.1 e.2).getD 0 ∧ (W e.1 e.2).getD 0 ≤ 1600000000000000000 := by
      cases q : W e.1 e.2 with
      | none => show 0 ≤ (0 : Int) ∧ (0 : Int) ≤ _; omega
      | some u => exact h _ _ _ q
    rw [e1, List.length_cons]
    omega
noncomputable def nrm (r o : Int) : Int × Int := (min r o, max r o)
theorem nrm_or (r o : Int) : nrm r o = (r, o) ∨ nrm r o = (o, r) := by
  unfold nrm
  rcases Int.le_total r o with h | h
  · exact .inl (by rw [Int.min_eq_left h, Int.max_eq_right h])
  · exact .inr (by rw [Int.min_eq_right h, Int.max_eq_left h])
structure Prim (W : Int → Int → Option Int) (V R : List Int) (T : List (Int × Int)) : Prop where
  mem : ∀ e ∈ T, e.1 ∈ R ∧ e.2 ∈ R ∧ e.1 < e.2 ∧ ∃ u, W e.1 e.2 = some u
  con : ∀ S : Int → Prop, (∀ e ∈ T, S e.1 ↔ S e.2) → ∀ p ∈ R, ∀ q ∈ R, S p → S q
  cut : ∀ e ∈ T, ∃ side : Int → Prop, ¬ (side e.1 ↔ side e.2) ∧ ∀ e' ∈ T, e' ≠ e → (side e'.1 ↔ side e'.2)
  low : ∀ c : Int, ∀ p ∈ R, ∀ q ∈ R, (∀ S : Int → Prop, (∀ x ∈ V, ∀ y ∈ V, ∀ u, W x y = some u → u ≤ c → (S x ↔ S y)) → (S p ↔ S q)) → ∀ S : Int → Prop, (∀ e ∈ T, ∀ u, W e.1 e.2 = some u → u ≤ c → (S e.1 ↔ S e.2)) → (S p ↔ S q)
  nd : T.Nodup
  len : T.length + 1 = R.length
theorem Prim.one (W : Int → Int → Option Int) (V : List Int) (b : Int) : Prim W V [b] [] where
  mem := fun _ h => nomatch h
  con := fun S _ p hp q hq h => by rw [List.mem_singleton.mp hq, ← List.mem_singleton.mp hp]; exact h
  cut := fun _ h => nomatch h
  low := fun c p hp q hq _ S _ => by rw [List.mem_singleton.mp hq, ← List.mem_singleton.mp hp]
  nd := List.nodup_nil
  len := rfl
theorem Prim.step {W : Int → Int → Option Int} {V R : List Int} {T : List (Int × Int)} (h : Prim W V R T) (sym : ∀ x y, W x y = W y x) {r o w : Int} (hr : r ∈ R) (ho : o ∉ R) (rV : ∀ x ∈ R, x ∈ V) (oV : o ∈ V) (hw : W r o = some w)
    (least : ∀ x ∈ R, ∀ y ∈ V, y ∉ R → ∀ u, W x y = some u → w ≤ u) : Prim W V (R ++ [o]) (T ++ [nrm r o]) := by
  have rno : r ≠ o := fun z => ho (z ▸ hr)
  have nro : (nrm r o).1 < (nrm r o).2 := by
    show min r o < max r o
    omega
  have wn : W (nrm r o).1 (nrm r o).2 = some w := by
    rcases nrm_or r o with e | e <;> rw [e]
    · exact hw
    · show W o r = _
      rw [sym]; exact hw
  have clo : ∀ {S : Int → Prop}, (S (nrm r o).1 ↔ S (nrm r o).2) → (S r ↔ S o) := fun {S} z => by
    rcases nrm_or r o with e | e <;> rw [e] at z
    · exact z
    · exact z.symm
  have clo' : ∀ {S : Int → Prop}, (S r ↔ S o) → (S (nrm r o).1 ↔ S (nrm r o).2) := fun {S} z => by
    rcases nrm_or r o with e | e <;> rw [e]
    · exact z
    · exact z.symm
  have inR : ∀ {x}, x ∈ R ++ [o] → x ∈ R ∨ x = o := fun {x} hx => (List.mem_append.mp hx).imp id List.mem_singleton.mp
  have ne_o : ∀ {x}, x ∈ R → x ≠ o := fun {x} hx z => ho (z ▸ hx)
  refine ⟨fun e he => ?_, fun S hS p hp q hq sp => ?_, fun e he => ?_, fun c p hp q hq hG S hS => ?_, ?_, ?_⟩
  · rcases List.mem_append.mp he with he | he
    · obtain ⟨a, b, c, d⟩ := h.mem e he
      exact ⟨List.mem_append_left _ a, List.mem_append_left _ b, c, d⟩
    · rw [List.mem_singleton.mp he]
      refine ⟨?_, ?_, nro, w, wn⟩ <;> rcases nrm_or r o with e | e <;> rw [e] <;> simp [hr]
  · have hT : ∀ e ∈ T, S e.1 ↔ S e.2 := fun e he => hS e (List.mem_append_left _ he)
    have ro : S r ↔ S o := clo (hS _ (by simp))
    have one : ∀ {x}, x ∈ R ++ [o] → (S x ↔ S r) := fun {x} hx => by
      rcases inR hx with hx | rfl
      · exact ⟨h.con S hT x hx r hr, h.con S hT r hr x hx⟩
      · exact ro.symm
    exact (one hq).mpr ((one hp).mp sp)
  · rcases List.mem_append.mp he with he | he
    · obtain ⟨side, s1, s2⟩ := h.cut e he
      have old : ∀ {x}, x ∈ R → (((x = o ∧ side r) ∨ (x ≠ o ∧ side x)) ↔ side x) := fun {x} hx => by simp [ne_o hx]
      refine ⟨fun v => (v = o ∧ side r) ∨ (v ≠ o ∧ side v), ?_, fun e' he' ne => ?_⟩
      · exact fun z => s1 ((old (h.mem e he).1).symm.trans (z.trans (old (h.mem e he).2.1)))
      · rcases List.mem_append.mp he' with he' | he'
        · exact (old (h.mem e' he').1).trans ((s2 e' he' ne).trans (old (h.mem e' he').2.1).symm)
        · rw [List.mem_singleton.mp he']
          exact clo' (S := fun v => (v = o ∧ side r) ∨ (v ≠ o ∧ side v)) (by simp [rno])
    · rw [List.mem_singleton.mp he]
      refine ⟨fun v => v = o, fun z => ?_, fun e' he' ne => ?_⟩
      · exact rno ((clo (S := fun v => v = o) z).mpr rfl)
      · rcases List.mem_append.mp he' with he' | he'
        · exact ⟨fun z => absurd z (ne_o (h.mem e' he').1), fun z => absurd z (ne_o (h.mem e' he').2.1)⟩
        · exact absurd (List.mem_singleton.mp he') ne
  · have hT : ∀ e ∈ T, ∀ u, W e.1 e.2 = some u → u ≤ c → (S e.1 ↔ S e.2) := fun e he => hS e (List.mem_append_left _ he)
    -- from R to o: the new edge is within c
    have key : ∀ {x}, x ∈ R → (∀ S : Int → Prop, (∀ x ∈ V, ∀ y ∈ V, ∀ u, W x y = some u → u ≤ c → (S x ↔ S y)) → (S x ↔ S o)) → (S x ↔ S o) := fun {x} hx hG => by
      have wc : w ≤ c := Classical.byContradiction fun nw => by
        have q := hG (fun v => v ∈ R) fun y hy z hz u hu uc => by
          constructor
          · intro a
            exact Classical.byContradiction fun b => nw (Int.le_trans (least y a z hz b u hu) uc)
          · intro a
            exact Classical.byContradiction fun b => nw (Int.le_trans (least z a y hy b u (by rw [sym]; exact hu)) uc)
        exact ho (q.mp hx)
      have ro : S r ↔ S o := clo (hS _ (by simp) w wn wc)
      have gr : S x ↔ S r := h.low c x hx r hr (fun S' hS' => (hG S' hS').trans (hS' r (rV r hr) o oV w hw wc).symm) S hT
      exact gr.trans ro
    rcases inR hp with hp' | ep
    · rcases inR hq with hq' | eq
      · exact h.low c p hp' q hq' hG S hT
      · rw [eq] at hG ⊢
        exact key hp' hG
    · rw [ep] at hG ⊢
      rcases inR hq with hq' | eq
      · exact (key hq' fun S' hS' => (hG S' hS').symm).symm
      · rw [eq]
  · rw [List.nodup_append]
    refine ⟨h.nd, by simp, fun a ha b hb e => ?_⟩
    rw [List.mem_singleton.mp hb] at e
    rw [e] at ha
    obtain ⟨x, y, _⟩ := h.mem _ ha
    rcases nrm_or r o with e | e <;> rw [e] at x y
    · exact ho y
    · exact ho x
  · rw [List.length_append, List.length_append, List.length_singleton, List.length_singleton, h.len]
theorem Prim.best {W : Int → Int → Option Int} {V R : List Int} {T : List (Int × Int)} (h : Prim W V R T) (rV : ∀ x ∈ R, x ∈ V) {e : Int × Int} (he : e ∈ T) {side : Int → Prop} (s2 : ∀ e' ∈ T, e' ≠ e → (side e'.1 ↔ side e'.2)) {p q : Int} (hp : p ∈ R) (hq : q ∈ R) (ns : ¬ (side p ↔ side q)) {c u : Int} (hc : W p q = some c) (hu : W e.1 e.2 = some u) : u ≤ c :=
  Classical.byContradiction fun nu => ns <| h.low c p hp q hq (fun S hS => hS p (rV p hp) q (rV q hq) c hc (Int.le_refl _)) side fun e' he' u' hu' uc => s2 e' he' fun z => by
    rw [z, hu] at hu'
    cases hu'
    exact nu uc
theorem Prim.perm {W : Int → Int → Option Int} {V R : List Int} {T T' : List (Int × Int)} (h : Prim W V R T) (p : T'.Perm T) : Prim W V R T' where
  mem := fun e he => h.mem e (p.mem_iff.mp he)
  con := fun S hS => h.con S fun e he => hS e (p.mem_iff.mpr he)
  cut := fun e he => by
    obtain ⟨s, a, b⟩ := h.cut e (p.mem_iff.mp he)
    exact ⟨s, a, fun e' he' => b e' (p.mem_iff.mp he')⟩
  low := fun c x hx y hy hG S hS => h.low c x hx y hy hG S fun e he => hS e (p.mem_iff.mpr he)
  nd := p.nodup_iff.mpr h.nd
  len := by rw [p.length_eq]; exact h.len
noncomputable abbrev ks (es : List (Int × Int)) : List Int := es.map (·.1)
structure Dfs (W : Int → Int → Option Int) (T : List (Int × Int)) (side : Int × Int → Int → Prop) (b : Int) (es : List (Int × Int)) : Prop where
  seen : ∀ h ∈ ks es, ∀ e ∈ T, ¬ (side e b ↔ side e h) → e.1 ∈ ks es ∧ e.2 ∈ ks es
  most : ∀ x ∈ es, ∀ c, 0 ≤ c → (∀ e ∈ T, ¬ (side e b ↔ side e x.1) → ∀ u, W e.1 e.2 = some u → u ≤ c) → x.2 ≤ c
theorem Dfs.one (W : Int → Int → Option Int) (T : List (Int × Int)) (side : Int × Int → Int → Prop) (b : Int) : Dfs W T side b [(b, 0)] where
  seen := fun h hh e _ n => by
    have : h = b := List.mem_singleton.mp hh
    rw [this] at n
    exact absurd Iff.rfl n
  most := fun x hx c hc _ => by rw [List.mem_singleton.mp hx]; exact hc
theorem Dfs.step {W : Int → Int → Option Int} {T : List (Int × Int)} {side : Int × Int → Int → Prop} {b : Int} {es : List (Int × Int)} (d : Dfs W T side b es) (sym : ∀ x y, W x y = W y x)
    (sd : ∀ e ∈ T, ¬ (side e e.1 ↔ side e e.2) ∧ ∀ e' ∈ T, e' ≠ e → (side e e'.1 ↔ side e e'.2))
    {h v q w : Int} (hh : (h, v) ∈ es) (hq : q ∉ ks es) (he : (h, q) ∈ T ∨ (q, h) ∈ T) (hw : W h q = some w) : Dfs W T side b (es ++ [(q, if v < w then w else v)]) := by
  obtain ⟨e0, he0, ee⟩ : ∃ e0 ∈ T, e0 = (h, q) ∨ e0 = (q, h) := by
    rcases he with he | he
    · exact ⟨_, he, .inl rfl⟩
    · exact ⟨_, he, .inr rfl⟩
  have w0 : W e0.1 e0.2 = some w := by
    rcases ee with ee | ee <;> rw [ee]
    · exact hw
    · show W q h = _
      rw [sym]; exact hw
  have hk : h ∈ ks es := List.mem_map.mpr ⟨_, hh, rfl⟩
  have fl : ¬ (side e0 h ↔ side e0 q) := fun z => (sd e0 he0).1 (by
    rcases ee with ee | ee
    · rw [show e0.1 = h by rw [ee], show e0.2 = q by rw [ee]]; exact z
    · rw [show e0.1 = q by rw [ee], show e0.2 = h by rw [ee]]; exact z.symm)
  have oth : ∀ e ∈ T, e ≠ e0 → (side e h ↔ side e q) := fun e he ne => by
    have z := (sd e he).2 e0 he0 (Ne.symm ne)
    rcases ee with ee | ee <;> rw [ee] at z
    · exact z
    · exact z.symm
  have bh : side e0 b ↔ side e0 h := Classical.byContradiction fun n => by
    obtain ⟨x, y⟩ := d.seen h hk e0 he0 n
    rcases ee with ee | ee <;> rw [ee] at x y
    · exact hq y
    · exact hq x
  have kk : ks (es ++ [(q, if v < w then w else v)]) = ks es ++ [q] := by unfold ks; rw [List.map_append]; rfl
  refine ⟨fun x hx e he n => ?_, fun x hx c hc hall => ?_⟩
  · rw [kk] at hx ⊢
    rcases List.mem_append.mp hx with hx | hx
    · obtain ⟨a, b⟩ := d.seen x hx e he n
      exact ⟨List.mem_append_left _ a, List.mem_append_left _ b⟩
    · rw [List.mem_singleton.mp hx] at n
      by_cases z : e = e0
      · rw [z]
        rcases ee with ee | ee <;> rw [ee] <;> simp [hk]
      · obtain ⟨a, b⟩ := d.seen h hk e he fun y => n (y.trans (oth e he z))
        exact ⟨List.mem_append_left _ a, List.mem_append_left _ b⟩
  · rcases List.mem_append.mp hx with hx | hx
    · exact d.most x hx c hc hall
    · rw [List.mem_singleton.mp hx] at hall ⊢
      have hw0 : w ≤ c := hall e0 he0 (fun z => fl (bh.symm.trans z)) w w0
      have hv : v ≤ c := d.most (h, v) hh c hc fun e he n u hu => by
        by_cases z : e = e0
        · rw [z] at n
          exact absurd bh n
        · exact hall e he (fun y => n (y.trans (oth e he z).symm)) u hu
      show (if v < w then w else v) ≤ c
      split <;> assumption
theorem firstG_le {α : Type} {cs : List (α × Int)} {c : α × Int} (h : firstG cs = some c) : ∀ d ∈ cs, c.2 ≤ d.2 := by
  unfold firstG at h
  suffices k : ∀ (cs : List (α × Int)) (b : Option (α × Int)), cs.foldl betterG b = some c → (∀ d ∈ cs, c.2 ≤ d.2) ∧ ∀ a, b = some a → c.2 ≤ a.2 from (k cs none h).1
  clear h
  intro cs
  induction cs with
  | nil => exact fun b h => ⟨fun _ z => (nomatch z), fun a z => by rw [show b = some c from h] at z; cases z; exact Int.le_refl _⟩
  | cons d cs ih =>
    intro b h
    rw [List.foldl_cons] at h
    obtain ⟨h1, h2⟩ := ih _ h
    cases b with
    | none =>
      have := h2 d rfl
      exact ⟨fun x hx => (List.mem_cons.mp hx).elim (fun z => z ▸ this) (h1 x), fun a z => (nomatch z)⟩
    | some a =>
      by_cases e : d.2 < a.2
      · have := h2 d (by show (if d.2 < a.2 then some d else some a) = _; rw [if_pos e])
        exact ⟨fun x hx => (List.mem_cons.mp hx).elim (fun z => z ▸ this) (h1 x), fun x z => by cases z; omega⟩
      · have := h2 a (by show (if d.2 < a.2 then some d else some a) = _; rw [if_neg e])
        exact ⟨fun x hx => (List.mem_cons.mp hx).elim (fun z => by rw [z]; omega) (h1 x), fun x z => by cases z; exact this⟩
theorem firstG_none {α : Type} {cs : List (α × Int)} (h : firstG cs = none) : cs = [] := by
  cases cs with
  | nil => rfl
  | cons c cs =>
    exfalso
    unfold firstG at h
    rw [List.foldl_cons] at h
    suffices k : ∀ (cs : List (α × Int)) (a : α × Int), cs.foldl betterG (some a) ≠ none from k cs c h
    clear h
    intro cs
    induction cs with
    | nil => exact fun a z => nomatch z
    | cons d cs ih =>
      intro a
      rw [List.foldl_cons]
      show cs.foldl betterG (if d.2 < a.2 then some d else some a) ≠ none
      split
      · exact ih _
      · exact ih _
theorem sqT_lists {S : List Addr} {H : Hp} {b : Addr} {xs : List V} (h : SqT K H b xs) (hs : ∀ c ∈ S, ∃ ys, H c = some (.lst ys)) : SqT K (hids S H) b xs := by
  rcases h with h | h
  · have n : b ∉ S := fun z => by
      obtain ⟨ys, e⟩ := hs b z
      rcases h with h | ⟨o, h⟩ <;> rw [e] at h <;> cases h
    rcases h with h | ⟨o, h⟩
    · exact .inl (.inl (by rw [hids_at n]; exact h))
    · exact .inl (.inr ⟨o, by rw [hids_at n]; exact h⟩)
  · exact .inr h
noncomputable abbrev Chc := (V × (Int × Int)) × Int
structure ChsAt (K : PySem.W.Frag) (H : Hp) (D : Int) (rs : List V) (vs : List Chc) : Prop where
  len : rs.length = vs.length
  at_ : ∀ (j : Nat) (r : V) (c : Chc), rs[j]? = some r → vs[j]? = some c → ChAt K H D r (c.1.1, c.2) ∧ ∃ a, c.1.1 = .ref a ∧ SqT K H a [.int c.1.2.1, .int c.1.2.2]
theorem ChsAt.same {H H' : Hp} {D : Int} {rs : List V} {vs : List Chc} (h : ChsAt K H D rs vs) (e : Same H H') : ChsAt K H' D rs vs := ⟨h.len, fun j r c a b => by
  obtain ⟨x, l, y, z⟩ := h.at_ j r c a b
  exact ⟨x.same e, l, y, e.tup z⟩⟩
theorem ChsAt.nil {H : Hp} {D : Int} : ChsAt K H D [] [] := ⟨rfl, fun j r c a => by simp at a⟩
theorem ChsAt.append {H : Hp} {D : Int} {rs rs' : List V} {vs vs' : List Chc} (h : ChsAt K H D rs vs) (h' : ChsAt K H D rs' vs') : ChsAt K H D (rs ++ rs') (vs ++ vs') := ⟨by rw [List.length_append, List.length_append, h.len, h'.len], fun j r c a b => by
  rcases Nat.lt_or_ge j rs.length with lt | ge
  · rw [List.getElem?_append_left lt] at a
    rw [List.getElem?_append_left (by rw [← h.len]; exact lt)] at b
    exact h.at_ j r c a b
  · rw [List.getElem?_append_right ge] at a
    rw [List.getElem?_append_right (by rw [← h.len]; exact ge), ← h.len] at b
    exact h'.at_ _ r c a b⟩
theorem ChsAt.one {H : Hp} {D : Int} {r : V} {c : Chc} (h : ChAt K H D r (c.1.1, c.2)) (h' : ∃ a, c.1.1 = .ref a ∧ SqT K H a [.int c.1.2.1, .int c.1.2.2]) : ChsAt K H D [r] [c] := ⟨rfl, fun j r' c' a b => by
  cases j with
  | zero => cases a; cases b; exact ⟨h, h'⟩
  | succ j => simp at a⟩
structure TabN (K : PySem.W.Frag) (H : Hp) (D : Int) (wa : Addr) (M : Int → Int → Option Int) (n : Nat) : Prop where
  den : Den D
  row : ∀ l : Int, 0 ≤ l → l < n → ∃ r : List (Option Int), RowAt K H D wa l r ∧ r.length = n ∧ ∀ x : Int, 0 ≤ x → x < n → M l x = ((r[x.toNat]?).getD none)
  bd : ∀ i j u, M i j = some u → 0 ≤ u ∧ u ≤ 1600000000000000000
theorem TabN.same {H H' : Hp} {D : Int} {wa : Addr} {M : Int → Int → Option Int} {n : Nat} (h : TabN K H D wa M n) (e : Same H H') : TabN K H' D wa M n := ⟨h.den, fun l a b => by
  obtain ⟨r, q, z⟩ := h.row l a b
  obtain ⟨ws, rs, l', w1, w2, w3, w4⟩ := q.at_
  exact ⟨r, ⟨ws, rs, l', e.seq w1, w2, e.seq w3, w4.same e⟩, z⟩, h.bd⟩
noncomputable def outs (M : Int → Int → Option Int) (R rest : List Int) : List ((Int × Int) × Int) := R.flatMap fun one => rest.filterMap fun x => (M one x).map fun u => ((one, x), u)
theorem outs_append (M : Int → Int → Option Int) (R R' rest : List Int) : outs M (R ++ R') rest = outs M R rest ++ outs M R' rest := by
  unfold outs
  rw [List.flatMap_append]
theorem outs_len (M : Int → Int → Option Int) (R rest : List Int) : (outs M R rest).length ≤ R.length * rest.length := by
  unfold outs
  induction R with
  | nil => simp
  | cons o os ih =>
    rw [List.flatMap_cons, List.length_append, List.length_cons, Nat.succ_mul]
    have := List.length_filterMap_le (fun x => (M o x).map fun u => ((o, x), u)) rest
    omega
theorem outs_mem {M : Int → Int → Option Int} {R rest : List Int} {c : (Int × Int) × Int} (h : c ∈ outs M R rest) : c.1.1 ∈ R ∧ c.1.2 ∈ rest ∧ M c.1.1 c.1.2 = some c.2 := by
  unfold outs at h
  obtain ⟨o, ho, h⟩ := List.mem_flatMap.mp h
  obtain ⟨x, hx, h⟩ := List.mem_filterMap.mp h
  obtain ⟨u, hu, rfl⟩ := Option.map_eq_some_iff.mp h
  exact ⟨ho, hx, hu⟩
theorem mem_outs {M : Int → Int → Option Int} {R rest : List Int} {o x u : Int} (ho : o ∈ R) (hx : x ∈ rest) (hu : M o x = some u) : ((o, x), u) ∈ outs M R rest := by
  unfold outs
  exact List.mem_flatMap.mpr ⟨o, ho, List.mem_filterMap.mpr ⟨x, hx, by rw [hu]; rfl⟩⟩
noncomputable def pvC (c : Chc) : (Int × Int) × Int := (c.1.2, c.2)
inductive spSB_ (K : PySem.W.Frag) (vs : List V) (H : Hp) (Q : VK) : Prop where
  | mk (D : Int) (wa lr lt : Addr) (M : Int → Int → Option Int) (n : Nat) (R rest : List Int) : (vs = [.ref wa, .ref lr, .ref lt]) → (TabN K H D wa M n) → (SqL K H lr (R.map V.int)) → (SqL K H lt (rest.map V.int)) → ((∀ x ∈ R, 0 ≤ x ∧ x < n)) → ((∀ x ∈ rest, 0 ≤ x ∧ x < n)) → (R.length ≤ 30) → (rest.length ≤ 30) → (∀ (l' : Addr) (rs : List V) (vs : List Chc) (H' : Hp), Same H H' → H l' = none → H' l' = some (.lst rs) → ChsAt K H' D rs vs → vs.map pvC = outs M R rest → Q (.ref l') H') → spSB_ K vs H Q
noncomputable def spSB (K : PySem.W.Frag) : Sp := fun vs H Q _ => spSB_ K vs H Q
theorem ok_steps_between (T : Txt K mg t) : FnOk P w K mg base CX0 2 t.f_steps_between t.d_steps_between ["wastes", "reached", "rest"] (spSB K) := by
  have G_steps_from := ok_steps_from (P := P) (w := w) (base := base) T
  refine T.F_steps_between.ok sc_steps_between (fun vs H Q E h => ?_) (fun cdv A outer s H vs Q E hr h => ?_)
  · obtain ⟨D, wa, lr, lt, M, n, R, rest, rfl, _⟩ := h
    rfl
  obtain ⟨D, wa, lr, lt, M, n, R, rest, rfl, Ta, hR, ht, bR, bt, nR, nt, q⟩ := h
  refine ⟨_, (pss_cons (q_set (i := 3) qv_steps_between sc_steps_between.nd rfl rfl rfl (pe_lst pa_nil))
      (pss_cons (ps_for PassesOwn.never rfl (pi_list (qv qv_steps_between 1 rfl rfl rfl)) (q_name (i := 4) qv_steps_between sc_steps_between.nd rfl rfl rfl) (pss_one (ps_expr (pe_bm PySem.F.plainAttrs_list PySem.F.slot_list_extend PySem.F.type_list_extend mt_extendR (qv qv_steps_between 3 rfl rfl rfl) (pa_cons (pe_comp ["other", "waste", "one"] [none, none, some 4] rfl  (pi_list (q_call G_steps_from (hr.mono (by first | decide | omega)) qg_steps_between 0 rfl rfl T.m_steps_from T.F_steps_from.kp T.b_steps_from .nil pass0 (pa_cons (qv qv_steps_between 0 rfl rfl rfl) (pa_cons (qv qv_steps_between 4 rfl rfl rfl) (pa_cons (qv qv_steps_between 2 rfl rfl rfl) pa_nil))))) (fun _ _ _ _ => (pg_tupC (n := 2) rfl (pgs_cons (pg_name (i := 0) (show (["other", "waste", "one"] : List Str).Nodup by decide +kernel) rfl (Or.inl rfl)) (pgs_cons (pg_name (i := 1) (show (["other", "waste", "one"] : List Str).Nodup by decide +kernel) rfl (Or.inl rfl)) pgs_nil)))) (fun _ _ _ _ => pts_nil) (fun _ _ _ _ => (pe_tup (pa_cons (pe_tup (pa_cons (pv 2) (pa_cons (pv 0) pa_nil))) (pa_cons (pv 1) pa_nil)))) rfl rfl) pa_nil)))))
      (pss_one (ps_ret (qv qv_steps_between 3 rfl rfl rfl))))), ?_⟩
  walk_at "vc"
  refine ⟨(by show 0 ≤ sizeLine; decide), fun f hf => ?_⟩
  walk_at "vc"
  have Yf := same_new hf (.lst [])
  have gf : upd H f (.lst []) f = some (.lst []) := upd_same
  have e2 : Same H (hid f (upd H f (.lst []))) := fun b o z => by
    rw [hid_ne (ne_of_none z hf)]
    exact Yf _ _ z
  generalize upd H f (.lst []) = H2 at *
  have keep : ∀ {G : Hp}, Same (hid f H2) (hid f G) → Same H G := fun {G} e => (e2.trans e).trans (hid_same _ _)
  refine ⟨lr, rfl, ⟨_, Yf.seq hR⟩, for_list (xs := R.map V.int) (fun j σ G => ∃ (u4 : Option V) (ro : List V) (vs : List Chc), σ = [some (.ref wa), some (.ref lr), some (.ref lt), some (.ref f), u4] ∧ Same (hid f H2) (hid f G) ∧ G f = some (.lst ro) ∧ ChsAt K (hid f G) D ro vs ∧ vs.map pvC = outs M (R.take j) rest)
    ⟨_, [], [], rfl, Same.refl _, gf, .nil, rfl⟩ (fun j σ G _ hh => by obtain ⟨u4, ro, vs, _, e, _⟩ := hh; exact (keep e).seq hR) ?_ ?_⟩
  rotate_left
  · rintro σ G ⟨u4, ro, vs, rfl, sG, hfG, hC, hm⟩
    rw [List.length_map, List.take_length] at hm
    walk_at "vc"
    exact q f ro vs G (keep sG) hf hfG (hC.same (hid_same _ _)) hm
  rintro j y σ G hy ⟨u4, ro, vs, rfl, sG, hfG, hC, hm⟩
  rw [List.getElem?_map] at hy
  obtain ⟨one, ho, rfl⟩ := Option.map_eq_some_iff.mp hy
  have b1 := bR one (List.mem_of_getElem? ho)
  have SG := keep sG
  obtain ⟨row, hrow, rlen, hMx⟩ := (Ta.same SG).row one b1.1 b1.2
  have st : stepsR row rest = rest.filterMap fun x => (M one x).map fun u => (x, u) := by
    unfold stepsR
    have key : ∀ l : List Int, (∀ x ∈ l, 0 ≤ x ∧ x < n) → (l.filterMap fun x => ((row[x.toNat]?).getD none).map fun u => (x, u)) = l.filterMap fun x => (M one x).map fun u => (x, u) := by
      intro l
      induction l with
      | nil => intro _; rfl
      | cons a l ih =>
        intro hb
        have ha := hb a List.mem_cons_self
        rw [List.filterMap_cons, List.filterMap_cons, ih fun x hx => hb x (List.mem_cons_of_mem _ hx), hMx a ha.1 ha.2]
    exact key rest bt
  have bt1 : ∀ u, some u ∈ row → Bt 1100 u := fun u hu => by
    obtain ⟨i, hi⟩ := List.mem_iff_getElem?.mp hu
    have li := (List.getElem?_eq_some_iff.mp hi).1
    have e : M one (i : Int) = some u := by rw [hMx i (by omega) (by omega)]; show (row[i]?).getD none = _; rw [hi]; rfl
    have b := Ta.bd _ _ _ e
    exact Bt.mono (m := 100) (Bt.iff.mpr (Nat.lt_of_le_of_lt (show u.natAbs ≤ 1600000000000000000 by omega) (by decide))) (by decide)
  walk_at "vc"
  refine ⟨tyV_list (SqL.of hfG), ?_⟩
  walk_at "vc"
  refine ⟨D, one, wa, lt, row, rest, rfl, Ta.den, hrow, SG.seq ht, fun x hx => ⟨(bt x hx).1, by have := (bt x hx).2; omega⟩, by omega, bt1, fun ls rs G1 S1 nls gls lrs ch => ?_⟩
  rw [st] at lrs ch
  have nfl : ls ≠ f := (ne_of_none hfG nls).symm
  refine ⟨ls, rfl, ⟨rs, SqL.of gls⟩, fun d hd => comp_gen (n := rs.length) (fun i y => rs[i]? = some y) hd (small1000 (by rw [lrs]; have := List.length_filterMap_le (fun x => (M one x).map fun u => (x, u)) rest; omega)) (hJ_list (SqL.of gls)) (fun i ys G' => ∃ vs' : List Chc, ChsAt K (hid f G') D ys vs' ∧ vs'.map pvC = ((rest.filterMap fun x => (M one x).map fun u => (x, u)).take i).map fun p => ((one, p.1), p.2)) (fun σ => ∃ u v, σ = [u, v, some (.int one)]) ⟨[], .nil, rfl⟩ ⟨_, _, rfl⟩ ?_ ?_⟩
  · rintro i y ys σ G2 R1 R0 hi hy ⟨v1, v2, rfl⟩ s2 hDl ⟨vs', hC', hm'⟩ k1 k0
    obtain ⟨⟨x, u⟩, hp⟩ : ∃ p, (rest.filterMap fun x => (M one x).map fun u => (x, u))[i]? = some p := ⟨(rest.filterMap fun x => (M one x).map fun u => (x, u))[i]'(by rw [← lrs]; exact hi), List.getElem?_eq_getElem _⟩
    obtain ⟨tt, fr, rfl, c1, c2, c3⟩ := ch i y (x, u) hy hp
    change SqT K G1 tt [.int x, .ref fr] at c1
    change FrD K G1 D fr u at c2
    change Bt 1100 u at c3
    refine vc_asgT (s2.tup c1) rfl ?_
    walk_at "vc"
    refine ⟨(by show 2 ≤ sizeLine; decide), fun a1 h1 => ?_⟩
    have Z1 := same_new h1 (.tup [.int one, .int x])
    have z1 : upd G2 a1 (.tup [.int one, .int x]) a1 = some (.tup [.int one, .int x]) := upd_same
    have hfG2 := s2 _ _ (S1 _ _ hfG)
    have n1d : a1 ≠ d := (ne_of_none hDl h1).symm
    have n1f : a1 ≠ f := (ne_of_none hfG2 h1).symm
    generalize upd G2 a1 (.tup [.int one, .int x]) = G3 at *
    walk_at "vc"
    refine ⟨(by show 2 ≤ sizeLine; decide), fun a2 h2 => ?_⟩
    have Z2 := same_new h2 (.tup [.ref a1, .ref fr])
    have z2 : upd G3 a2 (.tup [.ref a1, .ref fr]) a2 = some (.tup [.ref a1, .ref fr]) := upd_same
    have n2d : a2 ≠ d := (ne_of_none (Z1 _ _ hDl) h2).symm
    have n2f : a2 ≠ f := (ne_of_none (Z1 _ _ hfG2) h2).symm
    generalize upd G3 a2 (.tup [.ref a1, .ref fr]) = G4 at *
    have hd4 := Z2 _ _ (Z1 _ _ hDl)
    have hf4 := Z2 _ _ (Z1 _ _ hfG2)
    refine k1 _ _ _ (Z1.trans Z2) ⟨_, _, rfl⟩ ⟨vs' ++ [((.ref a1, (one, x)), u)], (hC'.same (Z1.trans Z2).hid.hid).append (.one ?_ ⟨a1, rfl, SqT.of (by rw [hid_ne n1f, hid_ne n1d]; exact Z2 _ _ z1)⟩), ?_⟩
    · refine ⟨a2, fr, rfl, SqT.of (by rw [hid_ne n2f, hid_ne n2d]; exact z2), ?_, c3⟩
      have R : Reps K G4 [.ref fr] [frD D u] := .one (.tup (Z2.tup (Z1.tup (s2.tup c2))) (.cons (.int _) (.cons (.int _) .nil)))
      have R2 := reps_noL (H' := hid f (hid d G4)) (ds := [frD D u]) rfl R fun b o hn ho => by
        rw [hid_ne (fun z => hn _ (z ▸ hf4)), hid_ne (fun z => hn _ (z ▸ hd4))]
        exact ho
      obtain ⟨a', ys', e', ha', ry'⟩ := (show Rep K _ (.ref fr) _ from by cases R2 with | cons q _ => exact q).tup_of
      cases e'
      cases (show ys' = [V.int (fN u D), V.int (fD u D)] from Reps.ints_of (ns := [fN u D, fD u D]) ry')
      exact ha'
    · rw [List.map_append, hm', List.take_add_one, hp, List.map_append]
      rfl
  rintro ys G2 s2 hDl hly ⟨vs', hC', hm'⟩
  rw [lrs, List.take_length] at hm'
  walk_at "vc"
  have hf2 := s2 _ _ (S1 _ _ hfG)
  have nfd : d ≠ f := (ne_of_none (S1 _ _ hfG) hd).symm
  have et : outs M (R.take (j + 1)) rest = outs M (R.take j) rest ++ ((rest.filterMap fun x => (M one x).map fun u => (x, u)).map fun p => ((one, p.1), p.2)) := by
    rw [List.take_add_one, ho, outs_append]
    congr 1
    show outs M [one] rest = _
    unfold outs
    rw [List.flatMap_cons, List.flatMap_nil, List.append_nil, List.map_filterMap]
    congr 1
    funext x
    cases M one x <;> rfl
  have sz : ro.length + ys.length ≤ 900 := by
    have a1 := hC.len
    have a2 := hC'.len
    have a3 := congrArg List.length hm
    have a4 := congrArg List.length hm'
    rw [List.length_map] at a3 a4
    have a5 := outs_len M (R.take (j + 1)) rest
    rw [et, List.length_append, ← a3, ← a4] at a5
    have a6 : (R.take (j + 1)).length * rest.length ≤ 30 * 30 := Nat.mul_le_mul (by rw [List.length_take]; omega) nt
    omega
  refine vc_extend hf2 hDl (by rw [sizeLine_eq]; omega) ?_
  refine ⟨_, _, vs ++ vs', rfl, ?_, upd_same, ?_, ?_⟩
  · rw [hid_upd]
    exact sG.trans (S1.hid.trans s2.hid)
  · rw [hid_upd]
    refine (hC.same (S1.hid.trans s2.hid)).append (hC'.same fun b o z => ?_)
    have nbf : b ≠ f := fun e => by unfold hid at z; rw [if_pos e] at z; cases z
    rw [hid_ne nbf] at z ⊢
    exact hid_same _ _ _ _ z
  · rw [List.map_append, hm, hm', et]
theorem bt1100 {x : Int} (h0 : 0 ≤ x) (h1 : x ≤ 160000000000000000000) : Bt 1100 x := Bt.mono (m := 100) (Bt.iff.mpr (Nat.lt_of_le_of_lt (show x.natAbs ≤ 160000000000000000000 by omega) (by decide))) (by decide)
structure TreeAt (K : PySem.W.Frag) (H : Hp) (D : Int) (W : Int → Int → Option Int) (n : Nat) (l f : Addr) (as : List Addr) (R : List Int) (T : List (Int × Int)) : Prop where
  at_ : H l = some (.lst (as.map V.ref))
  tup : TupP K H as T
  rise : RiseP T
  prim : Prim W (nums n) R T
  all : R.Perm (nums n)
  wt : FrD K H D f (wsum W T)
structure Stuck (W : Int → Int → Option Int) (n : Nat) (R rest : List Int) : Prop where
  all : (R ++ rest).Perm (nums n)
  zero : 0 ∈ R
  ne : rest ≠ []
  no : ∀ x ∈ R, ∀ y ∈ rest, W x y = none
inductive spTree_ (K : PySem.W.Frag) (C : Addr) (vs : List V) (H : Hp) (Q : VK) : Prop where
  | mk (x lw : Addr) (rooms : List Int) (rows : List (Int × Int)) (th : List (Str × Str × Int)) (ap : List (Str × Str)) (ss : List Str) : (vs = [.ref x, .ref lw]) → (PipeD K H C x rooms rows th ap) → (DataOk rooms rows th ap) → (SqL K H lw (ss.map V.str)) → ((∀ s ∈ ss, Let s)) → (1 ≤ ss.length) → (ss.length ≤ 30) → ((∀ (R rest : List Int) (H' : Hp), Same H H' → Stuck (Wn rooms rows th ap ss) ss.length R rest → Q .non H')) → (∀ (r l f : Addr) (as : List Addr) (R : List Int) (T : List (Int × Int)) (H' : Hp), Same H H' → H' r = some (.tup [.ref l, .ref f]) → TreeAt K H' (hfD rows rooms.sum) (Wn rooms rows th ap ss) ss.length l f as R T → Q (.ref r) H') → spTree_ K C vs H Q
noncomputable def spTree (K : PySem.W.Frag) (C : Addr) : Sp := fun vs H Q _ => spTree_ K C vs H Q
theorem ok_tree_of (T : Txt K mg t) : FnOk P w K mg base CX0 8 t.f_tree_of t.d_tree_of ["pipe", "wares"] (spTree K t.c_Pipe) := by
  have G_wastes_of := ok_wastes_of (P := P) (w := w) (base := base) T
  have G_least_of := ok_least_of (P := P) (w := w) (base := base) T
  have G_steps_between := ok_steps_between (P := P) (w := w) (base := base) T
  have G_sum_of := ok_sum_of (P := P) (w := w) (base := base) T
  refine T.F_tree_of.ok sc_tree_of (fun vs H Q E h => ?_) (fun cdv A outer s H vs Q E hr h => ?_)
  · obtain ⟨x, lw, rooms, rows, th, ap, ss, rfl, _⟩ := h
    rfl
  obtain ⟨x, lw, rooms, rows, th, ap, ss, rfl, hP, Dk, hl, ls, s1, s30, qN, qT⟩ := h
  obtain ⟨b1, b2, b3⟩ := half_ok Dk.rw Dk.s0 Dk.s1
  have De : Den (hfD rows rooms.sum) := ⟨b1, Bt.mono (m := 100) (Bt.iff.mpr (Nat.lt_of_le_of_lt (show (hfD rows rooms.sum).natAbs ≤ 100000000 by omega) (by decide))) (by decide)⟩
  have Wb : ∀ i j u, Wn rooms rows th ap ss i j = some u → 0 ≤ u ∧ u ≤ 1600000000000000000 := fun i j u h => wv_b0 Dk h
  generalize hD : hfD rows rooms.sum = D at *
  refine ⟨_, (pss_cons (q_set (i := 2) qv_tree_of sc_tree_of.nd rfl rfl rfl (q_call G_wastes_of (hr.mono (by first | decide | omega)) qg_tree_of 0 rfl rfl T.m_wastes_of T.F_wastes_of.kp T.b_wastes_of .nil pass0 (pa_cons (qv qv_tree_of 0 rfl rfl rfl) (pa_cons (qv qv_tree_of 1 rfl rfl rfl) pa_nil))))
      (pss_cons (q_set (i := 3) qv_tree_of sc_tree_of.nd rfl rfl rfl (q_callTy (call_listRg rfl) qg_tree_of 1 rfl rfl T.z_list bo_list (pa_cons (q_callTy call_rangeV qg_tree_of 2 rfl rfl T.z_range bo_range (pa_cons (q_callB call_lenR qg_tree_of 3 rfl rfl T.z_len bo_len (pa_cons (qv qv_tree_of 1 rfl rfl rfl) pa_nil)) pa_nil)) pa_nil)))
      (pss_cons (q_set (i := 4) qv_tree_of sc_tree_of.nd rfl rfl rfl (pe_slice sl_list (qv qv_tree_of 3 rfl rfl rfl) po_none (po_some pe_int)))
      (pss_cons (q_set (i := 5) qv_tree_of sc_tree_of.nd rfl rfl rfl (pe_slice sl_list (qv qv_tree_of 3 rfl rfl rfl) (po_some pe_int) po_none))
      (pss_cons (q_set (i := 6) qv_tree_of sc_tree_of.nd rfl rfl rfl (pe_lst pa_nil))
      (pss_cons (q_set (i := 7) qv_tree_of sc_tree_of.nd rfl rfl rfl (pe_tup (pa_cons pe_int (pa_cons pe_int pa_nil))))
      (pss_cons (ps_while PassesOwn.never (pt_tru (qv qv_tree_of 5 rfl rfl rfl)) (pss_cons (q_set (i := 8) qv_tree_of sc_tree_of.nd rfl rfl rfl (q_call G_least_of (hr.mono (by first | decide | omega)) qg_tree_of 4 rfl rfl T.m_least_of T.F_least_of.kp T.b_least_of .nil pass0 (pa_cons (q_call G_steps_between (hr.mono (by first | decide | omega)) qg_tree_of 5 rfl rfl T.m_steps_between T.F_steps_between.kp T.b_steps_between .nil pass0 (pa_cons (qv qv_tree_of 2 rfl rfl rfl) (pa_cons (qv qv_tree_of 4 rfl rfl rfl) (pa_cons (qv qv_tree_of 5 rfl rfl rfl) pa_nil)))) pa_nil)))
      (pss_cons (ps_if (pt_cmp (pc_isN (qv qv_tree_of 8 rfl rfl rfl))) (pss_one (ps_ret pe_non)) pss_nil)
      (pss_cons (ps_asg (pe_ix ix_tup (qv qv_tree_of 8 rfl rfl rfl) pe_int (fun _ _ => rfl)) (pg_tup rfl (pgs_cons (q_name (i := 9) qv_tree_of sc_tree_of.nd rfl rfl rfl) (pgs_cons (q_name (i := 10) qv_tree_of sc_tree_of.nd rfl rfl rfl) pgs_nil))))
      (pss_cons (ps_expr (pe_bm PySem.F.plainAttrs_list PySem.F.slot_list_append PySem.F.type_list_append mt_appendR (qv qv_tree_of 6 rfl rfl rfl) (pa_cons (pe_tup (pa_cons (q_callB (call_min2R rfl) qg_tree_of 6 rfl rfl T.z_min bo_min (pa_cons (qv qv_tree_of 9 rfl rfl rfl) (pa_cons (qv qv_tree_of 10 rfl rfl rfl) pa_nil))) (pa_cons (q_callB (call_max2R rfl) qg_tree_of 7 rfl rfl T.z_max bo_max (pa_cons (qv qv_tree_of 9 rfl rfl rfl) (pa_cons (qv qv_tree_of 10 rfl rfl rfl) pa_nil))) pa_nil))) pa_nil)))
      (pss_cons (q_set (i := 7) qv_tree_of sc_tree_of.nd rfl rfl rfl (q_call G_sum_of (hr.mono (by first | decide | omega)) qg_tree_of 8 rfl rfl T.m_sum_of T.F_sum_of.kp T.b_sum_of .nil pass0 (pa_cons (qv qv_tree_of 7 rfl rfl rfl) (pa_cons (pe_ix ix_tup (qv qv_tree_of 8 rfl rfl rfl) pe_int (fun _ _ => rfl)) pa_nil))))
      (pss_cons (ps_expr (pe_bm PySem.F.plainAttrs_list PySem.F.slot_list_append PySem.F.type_list_append mt_appendR (qv qv_tree_of 4 rfl rfl rfl) (pa_cons (qv qv_tree_of 10 rfl rfl rfl) pa_nil)))
      (pss_one (ps_expr (pe_bm PySem.F.plainAttrs_list PySem.F.slot_list_remove PySem.F.type_list_remove mt_removeI (qv qv_tree_of 5 rfl rfl rfl) (pa_cons (qv qv_tree_of 10 rfl rfl rfl) pa_nil)))))))))))
      (pss_one (ps_ret (pe_tup (pa_cons (q_callB call_sortII qg_tree_of 9 rfl rfl T.z_sorted bo_sorted (pa_cons (qv qv_tree_of 6 rfl rfl rfl) pa_nil)) (pa_cons (qv qv_tree_of 7 rfl rfl rfl) pa_nil)))))))))))), ?_⟩
  walk_at "vc"
  refine ⟨x, lw, rooms, rows, th, ap, ss, rfl, hP, Dk, hl, ls, by omega, fun wa rs1 H1 S1 n1 g1 R1 N1 => ?_⟩
  rw [hD] at R1
  have lr1 : rs1.length = ss.length := by rw [R1.length, List.length_map]
  have Ta1 : TabN K H1 D wa (Wn rooms rows th ap ss) ss.length := by
    refine ⟨De, fun l h0 h1 => ?_, Wb⟩
    have el : l = ((l.toNat : Nat) : Int) := by omega
    have lt : l.toNat < ss.length := by omega
    obtain ⟨v, hv, rv⟩ := R1.get' (i := l.toNat) (d := .list ((ss.map (wv rooms rows th ap ss[l.toNat])).map (wasteO D))) (by rw [List.getElem?_map, List.getElem?_eq_getElem lt]; rfl)
    obtain ⟨l', rs, rfl, hl', rr⟩ := rv.lst_of
    refine ⟨ss.map (wv rooms rows th ap ss[l.toNat]), ⟨_, rs, l', SqL.of g1, ?_, hl', rr⟩, by rw [List.length_map], fun y y0 y1 => ?_⟩
    · rw [el]
      exact atI_nat hv
    · have ly : y.toNat < ss.length := by omega
      rw [List.getElem?_map, List.getElem?_eq_getElem ly]
      unfold Wn
      rw [getD_at lt, getD_at ly]
      rfl
  walk_at "vc"
  refine vc_lenL (S1.seq hl) ?_
  walk_at "vc"
  rw [List.length_map]
  refine vc_rangeV fun p hp => ?_
  walk_at "vc"
  have Y2 := same_new hp (.rng 0 ss.length)
  have g2 : upd H1 p (.rng 0 ss.length) p = some (.rng 0 ss.length) := upd_same
  generalize upd H1 p (.rng 0 ss.length) = H2 at *
  refine vc_listRg g2 (by omega) fun ln hln => ?_
  have enm : (List.range ss.length).map (fun (i : Nat) => V.int i) = (nums ss.length).map V.int := by unfold nums; rw [List.map_map]; rfl
  rw [enm]
  have Y3 := same_new hln (.lst ((nums ss.length).map V.int))
  have g3 : upd H2 ln (.lst ((nums ss.length).map V.int)) ln = some (.lst ((nums ss.length).map V.int)) := upd_same
  generalize upd H2 ln (.lst ((nums ss.length).map V.int)) = H3 at *
  obtain ⟨tl, enum⟩ : ∃ tl, nums ss.length = 0 :: tl := by
    obtain ⟨k, hk⟩ : ∃ k, ss.length = k + 1 := ⟨ss.length - 1, by omega⟩
    refine ⟨(nums ss.length).drop 1, ?_⟩
    have := nums_at (m := ss.length) (i := 0) (by omega)
    cases hh : nums ss.length with
    | nil => rw [hh] at this; simp at this
    | cons a r => rw [hh] at this; cases this; rfl
  walk_at "vc"
  refine vc_slL (SqL.of g3) fun lr hlr => ?_
  rw [show cutV ((nums ss.length).map V.int) none (some 1) = [0].map V.int from by rw [show (some (1 : Int)) = some ((1 : Nat) : Int) from rfl, cutV_take, enum]; rfl]
  have Y4 := same_new hlr (.lst ([0].map V.int))
  have g4 : upd H3 lr (.lst ([0].map V.int)) lr = some (.lst (([0] : List Int).map V.int)) := upd_same
  generalize upd H3 lr (.lst ([0].map V.int)) = H4 at *
  walk_at "vc"
  refine vc_slL (SqL.of (Y4 _ _ g3)) fun lt hlt => ?_
  rw [show cutV ((nums ss.length).map V.int) (some 1) none = tl.map V.int from by rw [show (some (1 : Int)) = some ((1 : Nat) : Int) from rfl, cutV_drop, enum]; rfl]
  have Y5 := same_new hlt (.lst (tl.map V.int))
  have g5 : upd H4 lt (.lst (tl.map V.int)) lt = some (.lst (tl.map V.int)) := upd_same
  generalize upd H4 lt (.lst (tl.map V.int)) = H5 at *
  walk_at "vc"
  refine ⟨(by show 0 ≤ sizeLine; decide), fun lp hlp => ?_⟩
  walk_at "vc"
  have Y6 := same_new hlp (.lst [])
  have g6 : upd H5 lp (.lst []) lp = some (.lst []) := upd_same
  generalize upd H5 lp (.lst []) = H6 at *
  refine ⟨(by show 2 ≤ sizeLine; decide), fun lf hlf => ?_⟩
  walk_at "vc"
  have Y7 := same_new hlf (.tup [.int 0, .int 1])
  have g7 : upd H6 lf (.tup [.int 0, .int 1]) lf = some (frO D 0) := by rw [upd_same, fd_zero De]
  generalize upd H6 lf (.tup [.int 0, .int 1]) = H7 at *
  have S3 := S1.trans (Y2.trans Y3)
  have S7 := S3.trans (Y4.trans (Y5.trans (Y6.trans Y7)))
  have g47 := Y7 _ _ (Y6 _ _ (Y5 _ _ g4))
  have g57 := Y7 _ _ (Y6 _ _ g5)
  have g67 := Y7 _ _ g6
  have nrt : lr ≠ lt := ne_of_none g4 hlt
  have nrp : lr ≠ lp := ne_of_none (Y5 _ _ g4) hlp
  have ntp : lt ≠ lp := ne_of_none g5 hlp
  have nfr : lf ≠ lr := (ne_of_none (Y6 _ _ (Y5 _ _ g4)) hlf).symm
  have nft : lf ≠ lt := (ne_of_none (Y6 _ _ g5) hlf).symm
  have nfp : lf ≠ lp := (ne_of_none g6 hlf).symm
  have e3 : Same H3 (hids [lr, lt, lp] H7) := fun b o z => by
    have m1 : b ≠ lr := ne_of_none z hlr
    have m2 : b ≠ lt := ne_of_none (Y4 _ _ z) hlt
    have m3 : b ≠ lp := ne_of_none (Y5 _ _ (Y4 _ _ z)) hlp
    rw [hids_at (by simp [m1, m2, m3])]
    exact Y7 _ _ (Y6 _ _ (Y5 _ _ (Y4 _ _ z)))
  have Ta7 : TabN K (hids [lr, lt, lp] H7) D wa (Wn rooms rows th ap ss) ss.length := (Ta1.same (Y2.trans Y3)).same e3
  have keep : ∀ {G : Hp}, Same (hids [lr, lt, lp] H7) (hids [lr, lt, lp] G) → Same H G := fun {G} e => (S3.trans (e3.trans e)).trans (hids_same _ _)
  refine ⟨fun m σ G => ∃ (u8 u9 u10 : Option V) (wf : Addr) (as : List Addr) (R rest : List Int) (Tr : List (Int × Int)), σ = [some (.ref x), some (.ref lw), some (.ref wa), some (.ref ln), some (.ref lr), some (.ref lt), some (.ref lp), some (.ref wf), u8, u9, u10] ∧ Same (hids [lr, lt, lp] H7) (hids [lr, lt, lp] G) ∧ G lr = some (.lst (R.map V.int)) ∧ G lt = some (.lst (rest.map V.int)) ∧ G lp = some (.lst (as.map V.ref)) ∧ TupP K (hids [lr, lt, lp] G) as Tr ∧ FrD K (hids [lr, lt, lp] G) D wf (wsum (Wn rooms rows th ap ss) Tr) ∧ Prim (Wn rooms rows th ap ss) (nums ss.length) R Tr ∧ (R ++ rest).Perm (nums ss.length) ∧ 0 ∈ R ∧ m = rest.length,
    ⟨_, _, _, _, lf, [], [0], tl, [], rfl, Same.refl _, g47, g57, g67, .nil, FrD.of (by rw [hids_at (by simp [nfr, nft, nfp])]; exact g7), Prim.one _ _ _, by rw [enum]; exact .refl _, by simp, rfl⟩, ?_⟩
  rintro m σ G ⟨u8, u9, u10, wf, as, R, rest, Tr, rfl, sG, gR, gt, gp, tup, fw, pr, pm, z0, rfl⟩
  have SG := keep sG
  have pl : R.length + rest.length = ss.length := by
    have := pm.length_eq
    rw [List.length_append, nums_len] at this
    exact this
  have nd : (R ++ rest).Nodup := pm.nodup_iff.mpr (nums_nd _)
  have inV : ∀ {y}, y ∈ R ++ rest → 0 ≤ y ∧ y < ss.length := fun {y} hy => by
    obtain ⟨a, rfl, ha⟩ := nums_mem (pm.mem_iff.mp hy)
    omega
  have tb := wsum_b Wb Tr
  have tlen := pr.len
  walk_at "vc"
  refine vc_truL (SqL.of gt) ?_
  refine ite2 (fun c => ?_) (fun c => ?_)
  rotate_left
  · have er : rest = [] := by
      cases rest with
      | nil => rfl
      | cons a r => exact absurd rfl c
    subst er
    rw [List.append_nil] at pm
    walk_at "vc"
    refine vc_sortII (SqL.of gp) (tup.same (hids_same _ _)) pr.nd (by omega) fun l' as' T' hl' pT tup' rT => ?_
    have Z1 := same_new hl' (.lst (as'.map V.ref))
    have z1 : upd G l' (.lst (as'.map V.ref)) l' = some (.lst (as'.map V.ref)) := upd_same
    generalize upd G l' (.lst (as'.map V.ref)) = G1 at *
    walk_at "vc"
    refine ⟨(by show 2 ≤ sizeLine; decide), fun r hr' => ?_⟩
    have Z2 := same_new hr' (.tup [.ref l', .ref wf])
    refine qT r l' wf as' R T' _ (SG.trans (Z1.trans Z2)) upd_same ⟨Z2 _ _ z1, tup'.same (Z1.trans Z2), rT, pr.perm pT, pm, ?_⟩
    rw [wsum_perm pT]
    exact (fw.same (hids_same _ _)).same (Z1.trans Z2)
  refine ⟨fun σ' H'' => ∃ m', m' < rest.length ∧ _, fun _ _ h => h, ?_⟩
  walk_at "vc"
  refine ⟨D, wa, lr, lt, Wn rooms rows th ap ss, ss.length, R, rest, rfl, (Ta7.same sG).same (hids_same _ _), SqL.of gR, SqL.of gt, fun y hy => inV (List.mem_append_left _ hy), fun y hy => inV (List.mem_append_right _ hy), by omega, by omega, fun lc rs vs G1 Z1 nlc glc hC hm => ?_⟩
  walk_at "vc"
  have eN : firstG (vs.map fun c => (c.1.1, c.2)) = (firstG vs).map fun c => (c.1.1, c.2) := firstG_map (fun p : V × (Int × Int) => p.1) vs
  have eO : firstG (outs (Wn rooms rows th ap ss) R rest) = (firstG vs).map pvC := by
    rw [← hm]
    exact firstG_map (fun p : V × (Int × Int) => p.2) vs
  refine ⟨D, lc, rs, vs.map (fun c => (c.1.1, c.2)), rfl, De, SqL.of glc, by rw [List.length_map]; exact hC.len, fun i r c h1 h2 => ?_, fun e G2 Z2 => ?_, fun c e st fr G2 Z2 gst gfr => ?_⟩
  · rw [List.getElem?_map] at h2
    obtain ⟨c0, h0, rfl⟩ := Option.map_eq_some_iff.mp h2
    exact (hC.at_ i r c0 h1 h0).1
  · have e0 : firstG vs = none := by
      cases q : firstG vs with
      | none => rfl
      | some z => rw [eN, q] at e; cases e
    rw [e0] at eO
    have none_ := firstG_none eO
    walk_at "vc"
    rw [dec_true rfl]
    walk_at "vc"
    refine qN R rest G2 (SG.trans (Z1.trans Z2)) ⟨pm, z0, (fun z => by rw [z] at c; cases c), fun y hy v hv => ?_⟩
    cases q : Wn rooms rows th ap ss y v with
    | none => rfl
    | some u =>
      have := mem_outs (M := Wn rooms rows th ap ss) hy hv q
      rw [none_] at this
      cases this
  rw [eN] at e
  obtain ⟨c0, q0, rfl⟩ := Option.map_eq_some_iff.mp e
  rw [q0] at eO
  obtain ⟨j, hj⟩ := List.mem_iff_getElem?.mp (firstG_mem q0)
  obtain ⟨rj, hrj⟩ : ∃ r, rs[j]? = some r := ⟨rs[j]'(by rw [hC.len]; exact (List.getElem?_eq_some_iff.mp hj).1), List.getElem?_eq_getElem _⟩
  obtain ⟨_, ap', eap, hap⟩ := hC.at_ j rj c0 hrj hj
  obtain ⟨hr1, hr2, hr3⟩ := outs_mem (firstG_mem eO)
  have least := firstG_le eO
  obtain ⟨⟨cv, ⟨one, oth⟩⟩, u⟩ := c0
  dsimp only at eap hap gst gfr
  change one ∈ R at hr1
  change oth ∈ rest at hr2
  change Wn rooms rows th ap ss one oth = some u at hr3
  change ∀ d ∈ outs (Wn rooms rows th ap ss) R rest, u ≤ d.2 at least
  subst eap
  have ub := Wb _ _ _ hr3
  walk_at "vc"
  rw [dec_false (fun z => by cases z)]
  have gst' : SqT K G2 st [.ref ap', .ref fr] := SqT.of gst
  walk_at "vc"
  refine vc_asgT (Z2.tup hap) rfl ?_
  walk_at "vc"
  have SS2 := Z1.trans Z2
  have gp2 := SS2 _ _ gp
  refine ⟨tyV_list (SqL.of gp2), ?_⟩
  walk_at "vc"
  refine ⟨(by show 2 ≤ sizeLine; decide), fun a1 h1 => ?_⟩
  have X1 := same_new h1 (.tup [.int (min one oth), .int (max one oth)])
  have x1 : upd G2 a1 (.tup [.int (min one oth), .int (max one oth)]) a1 = some (.tup [.int (min one oth), .int (max one oth)]) := upd_same
  have n1r : a1 ≠ lr := (ne_of_none (SS2 _ _ gR) h1).symm
  have n1t : a1 ≠ lt := (ne_of_none (SS2 _ _ gt) h1).symm
  have n1p : a1 ≠ lp := (ne_of_none gp2 h1).symm
  generalize upd G2 a1 (.tup [.int (min one oth), .int (max one oth)]) = G3 at *
  have SS3 := SS2.trans X1
  have al : as.length = Tr.length := tup.len
  walk_at "vc"
  refine vc_append (K := K) (SS3 _ _ gp) (small1000 (by rw [List.length_map, al]; omega)) ?_
  have hid4 : hids [lr, lt, lp] (upd G3 lp (.lst (as.map V.ref ++ [.ref a1]))) = hids [lr, lt, lp] G3 := hids_upd (by simp)
  have gp4 : upd G3 lp (.lst (as.map V.ref ++ [.ref a1])) lp = some (.lst ((as ++ [a1]).map V.ref)) := by rw [upd_same, List.map_append]; rfl
  have gR4 : upd G3 lp (.lst (as.map V.ref ++ [.ref a1])) lr = some (.lst (R.map V.int)) := by rw [upd_ne nrp]; exact SS3 _ _ gR
  have gt4 : upd G3 lp (.lst (as.map V.ref ++ [.ref a1])) lt = some (.lst (rest.map V.int)) := by rw [upd_ne ntp]; exact SS3 _ _ gt
  have up4 : ∀ {b : Addr} {xs : List V}, SqT K G3 b xs → SqT K (upd G3 lp (.lst (as.map V.ref ++ [.ref a1]))) b xs := fun {b xs} h => by
    have R0 : SqT K (hids [lr, lt, lp] G3) b xs := sqT_lists h fun c hc => by
      simp only [List.mem_cons, List.not_mem_nil, or_false] at hc
      rcases hc with rfl | rfl | rfl
      · exact ⟨_, SS3 _ _ gR⟩
      · exact ⟨_, SS3 _ _ gt⟩
      · exact ⟨_, SS3 _ _ gp⟩
    rw [← hid4] at R0
    exact (hids_same _ _).tup R0
  generalize upd G3 lp (.lst (as.map V.ref ++ [.ref a1])) = G4 at *
  have gst4 : SqT K G4 st [.ref ap', .ref fr] := up4 (X1.tup gst')
  walk_at "vc"
  refine ⟨D, wf, fr, wsum (Wn rooms rows th ap ss) Tr, u, rfl, De, up4 (SS3.tup (fw.same (hids_same _ _))), up4 (X1.tup gfr), bt1100 tb.1 (by omega), bt1100 ub.1 (by omega), fun wf2 hw2 => ?_⟩
  have X5 := same_new hw2 (frO D (wsum (Wn rooms rows th ap ss) Tr + u))
  have x5 : upd G4 wf2 (frO D (wsum (Wn rooms rows th ap ss) Tr + u)) wf2 = some (frO D (wsum (Wn rooms rows th ap ss) Tr + u)) := upd_same
  have n5r : wf2 ≠ lr := (ne_of_none gR4 hw2).symm
  have n5t : wf2 ≠ lt := (ne_of_none gt4 hw2).symm
  have n5p : wf2 ≠ lp := (ne_of_none gp4 hw2).symm
  generalize upd G4 wf2 (frO D (wsum (Wn rooms rows th ap ss) Tr + u)) = G5 at *
  walk_at "vc"
  refine ⟨tyV_list (SqL.of (X5 _ _ gR4)), ?_⟩
  walk_at "vc"
  refine vc_append (K := K) (X5 _ _ gR4) (small1000 (by rw [List.length_map]; omega)) ?_
  have hid6 : hids [lr, lt, lp] (upd G5 lr (.lst (R.map V.int ++ [.int oth]))) = hids [lr, lt, lp] G5 := hids_upd (by simp)
  have gR6 : upd G5 lr (.lst (R.map V.int ++ [.int oth])) lr = some (.lst ((R ++ [oth]).map V.int)) := by rw [upd_same, List.map_append]; rfl
  have gt6 : upd G5 lr (.lst (R.map V.int ++ [.int oth])) lt = some (.lst (rest.map V.int)) := by rw [upd_ne nrt.symm]; exact X5 _ _ gt4
  have gp6 : upd G5 lr (.lst (R.map V.int ++ [.int oth])) lp = some (.lst ((as ++ [a1]).map V.ref)) := by rw [upd_ne nrp.symm]; exact X5 _ _ gp4
  generalize upd G5 lr (.lst (R.map V.int ++ [.int oth])) = G6 at *
  walk_at "vc"
  refine ⟨tyV_list (SqL.of gt6), ?_⟩
  walk_at "vc"
  refine vc_remove gt6 hr2 ?_
  have hid7 : hids [lr, lt, lp] (upd G6 lt (.lst ((rest.erase oth).map V.int))) = hids [lr, lt, lp] G6 := hids_upd (by simp)
  have big : Same (hids [lr, lt, lp] G) (hids [lr, lt, lp] (upd G6 lt (.lst ((rest.erase oth).map V.int)))) := by
    rw [hid7, hid6]
    refine (SS3.hids (S := [lr, lt, lp])).trans ?_
    rw [← hid4]
    exact X5.hids
  have x17 : hids [lr, lt, lp] (upd G6 lt (.lst ((rest.erase oth).map V.int))) a1 = some (.tup [.int (min one oth), .int (max one oth)]) := by
    rw [hid7, hid6]
    refine X5.hids _ _ ?_
    rw [hid4, hids_at (by simp [n1r, n1t, n1p])]
    exact x1
  have x57 : hids [lr, lt, lp] (upd G6 lt (.lst ((rest.erase oth).map V.int))) wf2 = some (frO D (wsum (Wn rooms rows th ap ss) Tr + u)) := by
    rw [hid7, hid6, hids_at (by simp [n5r, n5t, n5p])]
    exact x5
  have honR : oth ∉ R := fun z => (List.nodup_append.mp nd).2.2 oth z oth hr2 rfl
  have sym : ∀ a b, Wn rooms rows th ap ss a b = Wn rooms rows th ap ss b a := fun a b => Wn_sym a b
  refine ⟨(rest.erase oth).length, ?_, _, _, _, wf2, as ++ [a1], R ++ [oth], rest.erase oth, Tr ++ [nrm one oth], rfl, sG.trans big, by rw [upd_ne nrt]; exact gR6, upd_same, by rw [upd_ne ntp.symm]; exact gp6, (tup.same big).snoc (p := nrm one oth) (SqT.of x17), ?_, ?_, ?_, List.mem_append_left _ z0, rfl⟩
  · rw [List.length_erase_of_mem hr2]
    have := List.length_pos_of_mem hr2
    omega
  · rw [wsum_snoc]
    have e : (Wn rooms rows th ap ss (nrm one oth).1 (nrm one oth).2).getD 0 = u := by
      rcases nrm_or one oth with e | e <;> rw [e]
      · show (Wn rooms rows th ap ss one oth).getD 0 = u
        rw [hr3]; rfl
      · show (Wn rooms rows th ap ss oth one).getD 0 = u
        rw [sym, hr3]; rfl
    rw [e]
    exact FrD.of x57
  · refine pr.step sym hr1 honR (fun y hy => ?_) ?_ hr3 fun y hy v hv nv u' hu' => ?_
    · exact mem_nums (inV (List.mem_append_left _ hy)).1 (inV (List.mem_append_left _ hy)).2
    · exact mem_nums (inV (List.mem_append_right _ hr2)).1 (inV (List.mem_append_right _ hr2)).2
    · have hv' : v ∈ rest := (List.mem_append.mp (pm.mem_iff.mpr hv)).elim (fun z => absurd z nv) id
      exact least _ (mem_outs (M := Wn rooms rows th ap ss) hy hv' hu')
  · refine List.Perm.trans ?_ pm
    rw [List.append_assoc]
    exact List.Perm.append_left R (List.perm_cons_erase hr2).symm
inductive spLessD_ (K : PySem.W.Frag) (vs : List V) (H : Hp) (Q : VK) : Prop where
  | mk (D : Int) (r1 r2 : Addr) (a b : Int) : (vs = [.ref r1, .ref r2]) → (Den D) → (FrD K H D r1 a) → (FrD K H D r2 b) → (Bt 1100 a) → (Bt 1100 b) → (Q (.bl (decide (a < b))) H) → spLessD_ K vs H Q
noncomputable def spLessD (K : PySem.W.Frag) : Sp := fun vs H Q _ => spLessD_ K vs H Q
theorem ok_l_less (T : Txt K mg t) : FnOk P w K mg base CX0 1 t.f_l_less t.d_l_less ["_law_one", "_law_other"] (spLessD K) := by
  refine T.F_l_less.ok sc_l_less (fun vs H Q E h => ?_) (fun cdv A outer s H vs Q E hr h => ?_)
  · obtain ⟨D, r1, r2, a, b, rfl, _⟩ := h
    rfl
  obtain ⟨D, r1, r2, a, b, rfl, hD, g1, g2, la, lb, q⟩ := h
  unfold FrD at g1 g2
  have e := below_D hD a b
  obtain ⟨ba, bb⟩ := fd_bt hD la
  obtain ⟨bc, bd⟩ := fd_bt hD lb
  have m1 : CMulB (fN a D) (fD b D) := ⟨ba.mono (by decide), bd.mono (by decide)⟩
  have m2 : CMulB (fN b D) (fD a D) := ⟨bc.mono (by decide), bb.mono (by decide)⟩
  refine ⟨_, (pss_one (ps_ret (pe_cmpR op_lt (pe_op op_mulB (pe_ix ix_tup (qv qv_l_less 0 rfl rfl rfl) pe_int (fun _ _ => rfl)) (pe_ix ix_tup (qv qv_l_less 1 rfl rfl rfl) pe_int (fun _ _ => rfl))) (pe_op op_mulB (pe_ix ix_tup (qv qv_l_less 1 rfl rfl rfl) pe_int (fun _ _ => rfl)) (pe_ix ix_tup (qv qv_l_less 0 rfl rfl rfl) pe_int (fun _ _ => rfl))) (nomark _)))), ?_⟩
  walk_at "vc"
  rw [show decide (fN a D * fD b D < fN b D * fD a D) = decide (a < b) from decide_eq_decide.mpr e]
  exact q
inductive spLSumD_ (K : PySem.W.Frag) (vs : List V) (H : Hp) (Q : VK) : Prop where
  | mk (D : Int) (r1 r2 : Addr) (a b : Int) : (vs = [.ref r1, .ref r2]) → (Den D) → (FrD K H D r1 a) → (FrD K H D r2 b) → (Bt 1100 a) → (Bt 1100 b) → (∀ r, H r = none → Q (.ref r) (upd H r (frO D (a + b)))) → spLSumD_ K vs H Q
noncomputable def spLSumD (K : PySem.W.Frag) : Sp := fun vs H Q _ => spLSumD_ K vs H Q
theorem ok_l_sum (T : Txt K mg t) : FnOk P w K mg base CX0 2 t.f_l_sum t.d_l_sum ["_law_one", "_law_other"] (spLSumD K) := by
  have G_l_lowest := ok_l_lowest (P := P) (w := w) (base := base) T
  refine T.F_l_sum.ok sc_l_sum (fun vs H Q E h => ?_) (fun cdv A outer s H vs Q E hr h => ?_)
  · obtain ⟨D, r1, r2, a, b, rfl, _⟩ := h
    rfl
  obtain ⟨D, r1, r2, a, b, rfl, hD, g1, g2, la, lb, q⟩ := h
  unfold FrD at g1 g2
  have e := sumD hD a b
  have pa := fd_pos hD a
  have pb := fd_pos hD b
  obtain ⟨ba, bb⟩ := fd_bt hD la
  obtain ⟨bc, bd⟩ := fd_bt hD lb
  replace ba : Bt 4000 _ := ba.mono (by decide)
  replace bc : Bt 4000 _ := bc.mono (by decide)
  have bb4 : Bt 4000 _ := bb.mono (show 1000 ≤ 4000 by decide)
  have bd4 : Bt 4000 _ := bd.mono (show 1000 ≤ 4000 by decide)
  have m1 : CMulB (fN a D) (fD b D) := ⟨ba, bd4⟩
  have m2 : CMulB (fN b D) (fD a D) := ⟨bc, bb4⟩
  have m3 : CMulB (fD a D) (fD b D) := ⟨bb4, bd4⟩
  unfold frO at q
  rw [← e.1, ← e.2] at q
  generalize fN a D = x at *
  generalize fD a D = y at *
  generalize fN b D = u at *
  generalize fD b D = v at *
  refine ⟨_, (pss_one (ps_ret (q_call G_l_lowest (hr.mono (by first | decide | omega)) qg_l_sum 0 rfl rfl T.m_l_lowest T.F_l_lowest.kp T.b_l_lowest .nil pass0 (pa_cons (pe_op op_add (pe_op op_mulB (pe_ix ix_tup (qv qv_l_sum 0 rfl rfl rfl) pe_int (fun _ _ => rfl)) (pe_ix ix_tup (qv qv_l_sum 1 rfl rfl rfl) pe_int (fun _ _ => rfl))) (pe_op op_mulB (pe_ix ix_tup (qv qv_l_sum 1 rfl rfl rfl) pe_int (fun _ _ => rfl)) (pe_ix ix_tup (qv qv_l_sum 0 rfl rfl rfl) pe_int (fun _ _ => rfl)))) (pa_cons (pe_op op_mulB (pe_ix ix_tup (qv qv_l_sum 0 rfl rfl rfl) pe_int (fun _ _ => rfl)) (pe_ix ix_tup (qv qv_l_sum 1 rfl rfl rfl) pe_int (fun _ _ => rfl))) pa_nil))))), ?_⟩
  walk_at "vc"
  exact ⟨_, _, rfl, Int.mul_pos pa pb, (Bt.mul bb bd).mono (by decide), q⟩
inductive EntAt (K : PySem.W.Frag) (H : Hp) (D : Int) : List (Key × V) → List (Int × Int) → Prop
  | nil : EntAt K H D [] []
  | cons {x v : Int} {f : Addr} {kvs : List (Key × V)} {es : List (Int × Int)} (g : FrD K H D f v) (r : EntAt K H D kvs es) : EntAt K H D ((.inl x, .ref f) :: kvs) ((x, v) :: es)
theorem EntAt.same {H H' : Hp} {D : Int} (e : Same H H') {kvs : List (Key × V)} {es : List (Int × Int)} (r : EntAt K H D kvs es) : EntAt K H' D kvs es := by
  induction r with
  | nil => exact .nil
  | cons g r ih => exact .cons (g.same e) ih
theorem EntAt.len {H : Hp} {D : Int} {kvs : List (Key × V)} {es : List (Int × Int)} (r : EntAt K H D kvs es) : kvs.length = es.length := by
  induction r with
  | nil => rfl
  | cons g r ih => rw [List.length_cons, List.length_cons, ih]
theorem EntAt.snoc {H : Hp} {D : Int} {kvs : List (Key × V)} {es : List (Int × Int)} {x v : Int} {f : Addr} (r : EntAt K H D kvs es) (g : FrD K H D f v) : EntAt K H D (kvs ++ [(.inl x, .ref f)]) (es ++ [(x, v)]) := by
  induction r with
  | nil => exact .cons g .nil
  | cons h r ih => exact .cons h ih
theorem EntAt.none_ {H : Hp} {D : Int} {kvs : List (Key × V)} {es : List (Int × Int)} (r : EntAt K H D kvs es) {x : Int} (n : x ∉ ks es) : valV kvs (.inl x) = none ∧ ∀ v, putK kvs (.inl x) v = kvs ++ [(.inl x, v)] := by
  have key : ∀ kv ∈ kvs, kv.1 ≠ Sum.inl x := by
    induction r with
    | nil => exact fun _ h => nomatch h
    | cons g r ih =>
      intro kv hk
      rcases List.mem_cons.mp hk with rfl | hk
      · intro z
        cases z
        exact n List.mem_cons_self
      · exact ih (fun z => n (List.mem_cons_of_mem _ z)) kv hk
  constructor
  · unfold valV
    rw [List.find?_eq_none.mpr fun kv hk => by simpa using key kv hk]
    rfl
  · intro v
    unfold putK
    rw [if_neg]
    intro z
    obtain ⟨kv, hk, e⟩ := List.any_eq_true.mp z
    exact key kv hk (of_decide_eq_true e)
theorem EntAt.some_ {H : Hp} {D : Int} {kvs : List (Key × V)} {es : List (Int × Int)} (r : EntAt K H D kvs es) (nd : (ks es).Nodup) {x v : Int} (h : (x, v) ∈ es) : ∃ f, valV kvs (.inl x) = some (.ref f) ∧ FrD K H D f v := by
  induction r with
  | nil => cases h
  | @cons y u f kvs es g r ih =>
    have nd' := List.nodup_cons.mp nd
    rcases List.mem_cons.mp h with e | h
    · cases e
      refine ⟨f, ?_, g⟩
      unfold valV
      rw [List.find?_cons_of_pos (by simp)]
      rfl
    · obtain ⟨f', e1, e2⟩ := ih nd'.2 h
      refine ⟨f', ?_, e2⟩
      have ne : y ≠ x := fun z => nd'.1 (z ▸ List.mem_map.mpr ⟨_, h, rfl⟩)
      unfold valV at e1 ⊢
      rw [List.find?_cons_of_neg (by simpa using ne)]
      exact e1
theorem nd_len : ∀ {l m : List Int}, l.Nodup → (∀ x ∈ l, x ∈ m) → l.length ≤ m.length
  | [], _, _, _ => Nat.zero_le _
  | a :: l, m, nd, h => by
    have n := List.nodup_cons.mp nd
    have ha := h a List.mem_cons_self
    have := nd_len (m := m.erase a) n.2 fun x hx => (List.mem_erase_of_ne (fun (z : x = a) => n.1 (z ▸ hx))).mpr (h x (List.mem_cons_of_mem _ hx))
    rw [List.length_erase_of_mem ha] at this
    have := List.length_pos_of_mem ha
    rw [List.length_cons]
    omega
theorem sqT_out {S : List Addr} {H : Hp} {b : Addr} {xs : List V} (h : SqT K H b xs) (hs : ∀ c ∈ S, (∃ ys, H c = some (.lst ys)) ∨ ∃ kvs, H c = some (.dK kvs)) : SqT K (hids S H) b xs := by
  rcases h with h | h
  · have n : b ∉ S := fun z => by
      rcases hs b z with ⟨ys, e⟩ | ⟨ys, e⟩ <;> rcases h with h | ⟨o, h⟩ <;> rw [e] at h <;> cases h
    rcases h with h | ⟨o, h⟩
    · exact .inl (.inl (by rw [hids_at n]; exact h))
    · exact .inl (.inr ⟨o, by rw [hids_at n]; exact h⟩)
  · exact .inr h
theorem tupP_out {S : List Addr} {H : Hp} (hs : ∀ c ∈ S, (∃ ys, H c = some (.lst ys)) ∨ ∃ kvs, H c = some (.dK kvs)) {as : List Addr} {ps : List (Int × Int)} (r : TupP K H as ps) : TupP K (hids S H) as ps := by
  induction r with
  | nil => exact .nil
  | cons g r ih => exact .cons (sqT_out g hs) ih
theorem tupP_append {H : Hp} {as as' : List Addr} {ps ps' : List (Int × Int)} (r : TupP K H as ps) (r' : TupP K H as' ps') : TupP K H (as ++ as') (ps ++ ps') := by
  induction r with
  | nil => exact r'
  | cons g r ih => exact .cons g ih
noncomputable def Cl (ps : List (Int × Int)) (es : List (Int × Int)) (x : Int) : Prop := ∀ p ∈ ps, (p.1 = x → p.2 ∈ ks es) ∧ (p.2 = x → p.1 ∈ ks es)
theorem ks_snoc (es : List (Int × Int)) (q v : Int) : ks (es ++ [(q, v)]) = ks es ++ [q] := by unfold ks; rw [List.map_append]; rfl
theorem Cl.snoc {ps es : List (Int × Int)} {x q v : Int} (h : Cl ps es x) : Cl ps (es ++ [(q, v)]) x := fun p hp => by
  rw [ks_snoc]
  exact ⟨fun z => List.mem_append_left _ ((h p hp).1 z), fun z => List.mem_append_left _ ((h p hp).2 z)⟩
noncomputable def swp (p : Int × Int) : Int × Int := (p.2, p.1)
structure PairsOk (W : Int → Int → Option Int) (n : Nat) (ps : List (Int × Int)) : Prop where
  ok : ∀ p ∈ ps, (0 ≤ p.1 ∧ p.1 < n) ∧ (0 ≤ p.2 ∧ p.2 < n) ∧ ∃ u, W p.1 p.2 = some u
structure Found (ps : List (Int × Int)) (n : Nat) (b : Int) (es : List (Int × Int)) : Prop where
  nd : (ks es).Nodup
  has : b ∈ ks es
  inn : ∀ x ∈ ks es, 0 ≤ x ∧ x < n
  val : ∀ e ∈ es, 0 ≤ e.2 ∧ e.2 ≤ 1600000000000000000
inductive spReached_ (K : PySem.W.Frag) (vs : List V) (H : Hp) (Q : VK) : Prop where
  | mk (f lz lp a0 a1 a2 a3 a4 : Addr) (b : Int) (rooms : List Int) (rows : List (Int × Int)) (th : List (Str × Str × Int)) (ap : List (Str × Str)) (pg : Int × Int) (ss : List Str) (as : List Addr) (ps : List (Int × Int)) (Φ : List (Int × Int) → Prop) : (vs = [.ref f, .ref lz, .ref lp, .int b]) → (FiveP K H f a0 a1 a2 a3 a4 rooms rows th ap pg) → (DataOk rooms rows th ap) → (SqL K H lz (ss.map V.str)) → ((∀ s ∈ ss, Let s)) → (ss.length ≤ 30) → (H lp = some (.lst (as.map V.ref))) → (TupP K H as ps) → (ps.length ≤ 450) → (PairsOk (Wn rooms rows th ap ss) ss.length ps) → (0 ≤ b) → (b < ss.length) → (Φ [(b, 0)]) → ((∀ (es : List (Int × Int)) (h v q w : Int), Φ es → (h, v) ∈ es → q ∉ ks es → ((h, q) ∈ ps ∨ (q, h) ∈ ps) → Wn rooms rows th ap ss h q = some w → Φ (es ++ [(q, if v < w then w else v)]))) → (∀ (d : Addr) (kvs : List (Key × V)) (es : List (Int × Int)) (H' : Hp), Same H H' → H' d = some (.dK kvs) → EntAt K H' (hfD rows rooms.sum) kvs es → Found ps ss.length b es → Φ es → (∀ x ∈ ks es, Cl ps es x) → Q (.ref d) H') → spReached_ K vs H Q
noncomputable def spReached (K : PySem.W.Frag) : Sp := fun vs H Q _ => spReached_ K vs H Q
theorem ok_l_reached (T : Txt K mg t) : FnOk P w K mg base CX0 4 t.f_l_reached t.d_l_reached ["_law_five_here", "_law_some_here", "_law_pairs", "_law_begin"] (spReached K) := by
  have G_l_waste := ok_l_waste (P := P) (w := w) (base := base) T
  have G_l_less := ok_l_less (P := P) (w := w) (base := base) T
  refine T.F_l_reached.ok sc_l_reached (fun vs H Q E h => ?_) (fun cdv A outer s H vs Q E hr h => ?_)
  · obtain ⟨f, lz, lp, a0, a1, a2, a3, a4, b, rooms, rows, th, ap, pg, ss, as, ps, Φ, rfl, _⟩ := h
    rfl
  obtain ⟨f, lz, lp, a0, a1, a2, a3, a4, b, rooms, rows, th, ap, pg, ss, as, ps, Φ, rfl, F, Dk, hz, ls, s30, hp, tup, plen, pok, b0, b1, Φ0, Φs, q⟩ := h
  obtain ⟨c1, c2, c3⟩ := half_ok Dk.rw Dk.s0 Dk.s1
  have De : Den (hfD rows rooms.sum) := ⟨c1, Bt.mono (m := 100) (Bt.iff.mpr (Nat.lt_of_le_of_lt (show (hfD rows rooms.sum).natAbs ≤ 100000000 by omega) (by decide))) (by decide)⟩
  have Wb : ∀ i j u, Wn rooms rows th ap ss i j = some u → 0 ≤ u ∧ u ≤ 1600000000000000000 := fun i j u h => wv_b0 Dk h
  have al : as.length = ps.length := tup.len
  refine ⟨_, (pss_cons (q_set (i := 4) qv_l_reached sc_l_reached.nd rfl rfl rfl (pe_disp (pps_cons (qv qv_l_reached 3 rfl rfl rfl) (pe_tup (pa_cons pe_int (pa_cons pe_int pa_nil))) pps_nil) rfl rfl (fun z => nomatch z) (by decide)))
      (pss_cons (q_set (i := 5) qv_l_reached sc_l_reached.nd rfl rfl rfl (pe_lst (pa_cons (qv qv_l_reached 3 rfl rfl rfl) pa_nil)))
      (pss_cons (ps_while PassesOwn.never (pt_cmpR op_gt (q_callB call_lenR qg_l_reached 0 rfl rfl T.z_len bo_len (pa_cons (qv qv_l_reached 5 rfl rfl rfl) pa_nil)) pe_int (nomark _)) (pss_cons (q_set (i := 6) qv_l_reached sc_l_reached.nd rfl rfl rfl (pe_bm0 PySem.F.plainAttrs_list PySem.F.slot_list_pop PySem.F.type_list_pop mt_popR (qv qv_l_reached 5 rfl rfl rfl)))
      (pss_one (ps_for PassesOwn.never rfl (pi_list (pe_op op_cat (qv qv_l_reached 2 rfl rfl rfl) (pe_comp ["_law_p", "_law_q"] [none, none] rfl  (pi_list (qv qv_l_reached 2 rfl rfl rfl)) (fun _ _ _ _ => (pg_tupC (n := 2) rfl (pgs_cons (pg_name (i := 0) (show (["_law_p", "_law_q"] : List Str).Nodup by decide +kernel) rfl (Or.inl rfl)) (pgs_cons (pg_name (i := 1) (show (["_law_p", "_law_q"] : List Str).Nodup by decide +kernel) rfl (Or.inl rfl)) pgs_nil)))) (fun _ _ _ _ => pts_nil) (fun _ _ _ _ => (pe_tup (pa_cons (pv 1) (pa_cons (pv 0) pa_nil)))) rfl rfl))) (pg_tup rfl (pgs_cons (q_name (i := 7) qv_l_reached sc_l_reached.nd rfl rfl rfl) (pgs_cons (q_name (i := 8) qv_l_reached sc_l_reached.nd rfl rfl rfl) pgs_nil))) (pss_one (ps_if (PW.pt (pw_and (pt_cmpR op_eq (qv qv_l_reached 7 rfl rfl rfl) (qv qv_l_reached 6 rfl rfl rfl) (nomark _)) (pw_and1 (pt_cmp (pc_dnotin (hu_of hr) (qv qv_l_reached 8 rfl rfl rfl) (qv qv_l_reached 4 rfl rfl rfl)))))) (pss_cons (q_set (i := 9) qv_l_reached sc_l_reached.nd rfl rfl rfl (q_call G_l_waste (hr.mono (by first | decide | omega)) qg_l_reached 1 rfl rfl T.m_l_waste T.F_l_waste.kp T.b_l_waste .nil pass0 (pa_cons (qv qv_l_reached 0 rfl rfl rfl) (pa_cons (pe_ix ix_list (qv qv_l_reached 1 rfl rfl rfl) (qv qv_l_reached 7 rfl rfl rfl) (fun _ _ => rfl)) (pa_cons (pe_ix ix_list (qv qv_l_reached 1 rfl rfl rfl) (qv qv_l_reached 8 rfl rfl rfl) (fun _ _ => rfl)) pa_nil)))))
      (pss_cons (ps_dput (hu_of hr) (qv qv_l_reached 4 rfl rfl rfl) (qv qv_l_reached 8 rfl rfl rfl) (pe_ifExp (pt_val (q_call G_l_less (hr.mono (by first | decide | omega)) qg_l_reached 2 rfl rfl T.m_l_less T.F_l_less.kp T.b_l_less .nil pass0 (pa_cons (pe_dget (hu_of hr) (qv qv_l_reached 4 rfl rfl rfl) (qv qv_l_reached 6 rfl rfl rfl) (fun _ _ => rfl)) (pa_cons (qv qv_l_reached 9 rfl rfl rfl) pa_nil)))) (qv qv_l_reached 9 rfl rfl rfl) (pe_dget (hu_of hr) (qv qv_l_reached 4 rfl rfl rfl) (qv qv_l_reached 6 rfl rfl rfl) (fun _ _ => rfl))) rfl)
      (pss_one (ps_expr (pe_bm PySem.F.plainAttrs_list PySem.F.slot_list_append PySem.F.type_list_append mt_appendR (qv qv_l_reached 5 rfl rfl rfl) (pa_cons (qv qv_l_reached 8 rfl rfl rfl) pa_nil)))))) pss_nil))))))
      (pss_one (ps_ret (qv qv_l_reached 4 rfl rfl rfl)))))), ?_⟩
  walk_at "vc"
  intro d hd
  walk_at "vc"
  refine ⟨(by show 2 ≤ sizeLine; decide), fun tp htp => ?_⟩
  have Y1 := same_new hd (.dK [])
  have g1 : upd H d (.dK []) d = some (.dK []) := upd_same
  generalize upd H d (.dK []) = H1 at *
  have Y2 := same_new htp (.tup [.int 0, .int 1])
  have g2 : upd H1 tp (.tup [.int 0, .int 1]) tp = some (frO (hfD rows rooms.sum) 0) := by rw [upd_same, fd_zero De]
  have ntd : tp ≠ d := (ne_of_none g1 htp).symm
  generalize upd H1 tp (.tup [.int 0, .int 1]) = H2 at *
  refine ⟨Y2 _ _ g1, [(.inl b, .ref tp)], rfl, (by show 1 ≤ 15; decide), ?_⟩
  rw [show mergeK [] [((.inl b : Key), V.ref tp)] = [(.inl b, .ref tp)] from rfl]
  walk_at "vc"
  refine ⟨(by show 1 ≤ sizeLine; decide), fun l hl => ?_⟩
  have S3 : Same H (upd H2 d (.dK [(.inl b, .ref tp)])) := (Y1.trans Y2).updD hd
  have g3 : upd H2 d (.dK [(.inl b, .ref tp)]) d = some (.dK [(.inl b, .ref tp)]) := upd_same
  have t3 : upd H2 d (.dK [(.inl b, .ref tp)]) tp = some (frO (hfD rows rooms.sum) 0) := by rw [upd_ne ntd]; exact g2
  generalize upd H2 d (.dK [(.inl b, .ref tp)]) = H3 at *
  have Y4 := same_new hl (.lst [.int b])
  have g4 : upd H3 l (.lst [.int b]) l = some (.lst (([b] : List Int).map V.int)) := upd_same
  have ndl : d ≠ l := ne_of_none g3 hl
  have ntl : tp ≠ l := ne_of_none t3 hl
  generalize upd H3 l (.lst [.int b]) = H4 at *
  have g34 := Y4 _ _ g3
  have t34 := Y4 _ _ t3
  have hlH : H l = none := S3.free hl
  have e4 : Same H (hids [d, l] H4) := fun x o z => by
    have m1 : x ≠ d := ne_of_none z hd
    have m2 : x ≠ l := ne_of_none z hlH
    rw [hids_at (by simp [m1, m2])]
    exact Y4 _ _ (S3 _ _ z)
  have keep : ∀ {G : Hp}, Same (hids [d, l] H4) (hids [d, l] G) → Same H (hids [d, l] G) := fun {G} e => e4.trans e
  walk_at "vc"
  refine ⟨fun m σ G => ∃ (u6 u7 u8 u9 : Option V) (kvs : List (Key × V)) (es : List (Int × Int)) (todo : List Int), σ = [some (.ref f), some (.ref lz), some (.ref lp), some (.int b), some (.ref d), some (.ref l), u6, u7, u8, u9] ∧ Same (hids [d, l] H4) (hids [d, l] G) ∧ G d = some (.dK kvs) ∧ G l = some (.lst (todo.map V.int)) ∧ EntAt K (hids [d, l] G) (hfD rows rooms.sum) kvs es ∧ Φ es ∧ Found ps ss.length b es ∧ (∀ x ∈ todo, x ∈ ks es) ∧ (∀ x ∈ ks es, x ∈ todo ∨ Cl ps es x) ∧ todo.length ≤ es.length ∧ m = 2 * (ss.length - es.length) + todo.length,
    ⟨_, _, _, _, _, _, [(b, 0)], [b], rfl, Same.refl _, g34, g4, .cons (FrD.of (by rw [hids_at (by simp [ntd, ntl])]; exact t34)) .nil, Φ0, ⟨by simp, by simp, fun x hx => by rw [List.mem_singleton.mp hx]; exact ⟨b0, b1⟩, fun e he => by rw [List.mem_singleton.mp he]; show (0 : Int) ≤ 0 ∧ (0 : Int) ≤ 1600000000000000000; decide⟩, fun x hx => hx, fun x hx => .inl hx, Nat.le_refl _, rfl⟩, ?_⟩
  rintro m σ G ⟨u6, u7, u8, u9, kvs, es, todo, rfl, sG, gd, gl, hE, hΦ, hF, ht, hcl, hlen, rfl⟩
  have SG := (keep sG).trans (hids_same _ _)
  have en := nd_len hF.nd fun x hx => mem_nums (hF.inn x hx).1 (hF.inn x hx).2
  rw [nums_len, List.length_map] at en
  walk_at "vc"
  refine vc_lenL (SqL.of gl) ?_
  walk_at "vc"
  refine ite2 (fun c => ?_) (fun c => ?_)
  rotate_left
  · have t0 : todo = [] := by
      cases todo with
      | nil => rfl
      | cons a r => exact absurd (decide_eq_true (by rw [List.length_map, List.length_cons]; omega)) c
    subst t0
    walk_at "vc"
    refine q d kvs es G SG gd (hE.same (hids_same _ _)) hF hΦ fun x hx => ?_
    exact (hcl x hx).elim (fun z => nomatch z) id
  have tne : todo ≠ [] := fun z => by
    have := of_decide_eq_true c
    rw [z] at this
    exact absurd this (by decide)
  obtain ⟨ini, here, et⟩ : ∃ ini here, todo = ini ++ [here] := by
    rcases List.eq_nil_or_concat todo with z | ⟨i, h, z⟩
    · exact absurd z tne
    · exact ⟨i, h, by rw [z, List.concat_eq_append]⟩
  subst et
  have hhere := ht here (by simp)
  refine ⟨fun σ' H'' => ∃ m', m' < 2 * (ss.length - es.length) + (ini ++ [here]).length ∧ _, fun _ _ h => h, ?_⟩
  walk_at "vc"
  refine ⟨tyV_list (SqL.of gl), ?_⟩
  refine vc_pop (xs := ini.map V.int) (y := .int here) (by rw [gl, List.map_append]; rfl) ?_
  have hid5 : hids [d, l] (upd G l (.lst (ini.map V.int))) = hids [d, l] G := hids_upd (by simp)
  have gd5 : upd G l (.lst (ini.map V.int)) d = some (.dK kvs) := by rw [upd_ne ndl]; exact gd
  have gl5 : upd G l (.lst (ini.map V.int)) l = some (.lst (ini.map V.int)) := upd_same
  have sG5 : Same (hids [d, l] H4) (hids [d, l] (upd G l (.lst (ini.map V.int)))) := by rw [hid5]; exact sG
  have hE5 : EntAt K (hids [d, l] (upd G l (.lst (ini.map V.int)))) (hfD rows rooms.sum) kvs es := by rw [hid5]; exact hE
  generalize upd G l (.lst (ini.map V.int)) = G5 at *
  clear gd gl hE sG hid5
  have SG5 := (keep sG5).trans (hids_same _ _)
  walk_at "vc"
  have hp5 := SG5 _ _ hp
  have tup5 := tup.same SG5
  refine ⟨lp, rfl, ⟨_, SqL.of hp5⟩, fun D1 hD1 => comp_gen (n := (as.map V.ref).length) (fun i y => (as.map V.ref)[i]? = some y) hD1 (small1000 (by rw [List.length_map]; omega)) (hJ_list (SqL.of hp5)) (fun i ys G' => ∃ as', ys = as'.map V.ref ∧ TupP K G' as' ((ps.take i).map swp)) (fun σ => ∃ u v, σ = [u, v]) ⟨[], rfl, .nil⟩ ⟨_, _, rfl⟩ ?_ ?_⟩
  · rintro i y ys σ G6 R1 R0 hi hy ⟨v1, v2, rfl⟩ s6 hDl ⟨as', rfl, tup'⟩ k1 k0
    rw [List.getElem?_map] at hy
    obtain ⟨ad, had, rfl⟩ := Option.map_eq_some_iff.mp hy
    obtain ⟨p, hpp, hs⟩ := tup5.at had
    refine vc_asgT (s6.tup hs) rfl ?_
    walk_at "vc"
    refine ⟨(by show 2 ≤ sizeLine; decide), fun a1 h1 => ?_⟩
    have X1 := same_new h1 (.tup [.int p.2, .int p.1])
    have n1 : a1 ≠ D1 := (ne_of_none hDl h1).symm
    refine k1 _ _ _ X1 ⟨_, _, rfl⟩ ⟨as' ++ [a1], by rw [List.map_append]; rfl, ?_⟩
    rw [List.take_add_one, hpp, List.map_append]
    exact (tup'.same X1.hid).snoc (p := swp p) (SqT.of (by rw [hid_ne n1]; exact upd_same))
  rintro ys G6 S6 gD1 ly ⟨as', rfl, tup'⟩
  rw [List.length_map, al, List.take_length] at tup'
  replace tup' := tup'.same (hid_same _ _)
  have al' := tup'.len
  rw [List.length_map] at al'
  walk_at "vc"
  refine vc_cat (S6 _ _ hp5) gD1 (by rw [List.length_map, List.length_map, sizeLine_eq]; omega) fun lb hlb => ?_
  rw [← List.map_append]
  have Y7 := same_new hlb (.lst ((as ++ as').map V.ref))
  have g7 : upd G6 lb (.lst ((as ++ as').map V.ref)) lb = some (.lst ((as ++ as').map V.ref)) := upd_same
  have nbd : lb ≠ d := (ne_of_none (S6 _ _ gd5) hlb).symm
  have nbl : lb ≠ l := (ne_of_none (S6 _ _ gl5) hlb).symm
  generalize upd G6 lb (.lst ((as ++ as').map V.ref)) = G7 at *
  have S57 := S6.trans Y7
  have gd7 := S57 _ _ gd5
  have gl7 := S57 _ _ gl5
  have hall : ∀ c ∈ [d, l], (∃ ys, G7 c = some (.lst ys)) ∨ ∃ kvs, G7 c = some (.dK kvs) := fun c hc => by
    simp only [List.mem_cons, List.not_mem_nil, or_false] at hc
    rcases hc with rfl | rfl
    · exact .inr ⟨_, gd7⟩
    · exact .inl ⟨_, gl7⟩
  have TT : TupP K (hids [d, l] G7) (as ++ as') (ps ++ ps.map swp) := tupP_out hall (tupP_append (tup5.same S57) (tup'.same Y7))
  have sG7 : Same (hids [d, l] H4) (hids [d, l] G7) := sG5.trans S57.hids
  have hE7 := hE5.same S57.hids
  have g7' : hids [d, l] G7 lb = some (.lst ((as ++ as').map V.ref)) := by rw [hids_at (by simp [nbd, nbl])]; exact g7
  refine ⟨lb, rfl, ⟨_, SqL.of g7⟩, for_list (xs := (as ++ as').map V.ref) (fun j σ G => ∃ (u7 u8 u9 : Option V) (kvs : List (Key × V)) (es' : List (Int × Int)) (todo : List Int), σ = [some (.ref f), some (.ref lz), some (.ref lp), some (.int b), some (.ref d), some (.ref l), some (.int here), u7, u8, u9] ∧ Same (hids [d, l] G7) (hids [d, l] G) ∧ G d = some (.dK kvs) ∧ G l = some (.lst (todo.map V.int)) ∧ EntAt K (hids [d, l] G) (hfD rows rooms.sum) kvs es' ∧ Φ es' ∧ Found ps ss.length b es' ∧ (∀ x ∈ todo, x ∈ ks es') ∧ (∀ x ∈ ks es', x ∈ todo ∨ x = here ∨ Cl ps es' x) ∧ todo.length ≤ es'.length ∧ here ∈ ks es' ∧ (∀ p ∈ (ps ++ ps.map swp).take j, p.1 = here → p.2 ∈ ks es') ∧ 2 * (ss.length - es'.length) + todo.length ≤ 2 * (ss.length - es.length) + ini.length)
    ⟨_, _, _, kvs, es, ini, rfl, Same.refl _, gd7, gl7, hE7, hΦ, hF, fun x hx => ht x (List.mem_append_left _ hx), fun x hx => ?_, by rw [List.length_append, List.length_singleton] at hlen; omega, hhere, fun p hp => by simp at hp, Nat.le_refl _⟩ (fun j σ G _ hh => by obtain ⟨_, _, _, _, _, _, _, e, _⟩ := hh; exact SqL.of (hids_same _ _ _ _ (e _ _ g7'))) ?_ ?_⟩
  · rcases hcl x hx with z | z
    · rcases List.mem_append.mp z with z | z
      · exact .inl z
      · exact .inr (.inl (List.mem_singleton.mp z))
    · exact .inr (.inr z)
  rotate_left
  · rintro σ G ⟨u7, u8, u9, kvs, es', todo, rfl, sG, gd, gl, hE, hΦ, hF, ht, hcl, hlen, hhere, hall', hm⟩
    have tl : ((as ++ as').map V.ref).length = (ps ++ ps.map swp).length := by rw [List.length_map, TT.len]
    rw [tl, List.take_length] at hall'
    refine ⟨_, ?_, _, _, _, _, kvs, es', todo, rfl, sG7.trans sG, gd, gl, hE, hΦ, hF, ht, fun x hx => ?_, hlen, rfl⟩
    · rw [List.length_append, List.length_singleton]
      omega
    · rcases hcl x hx with z | rfl | z
      · exact .inl z
      · refine .inr fun p hp => ⟨fun e => hall' p (List.mem_append_left _ hp) e, fun e => hall' (swp p) (List.mem_append_right _ (List.mem_map.mpr ⟨p, hp, rfl⟩)) e⟩
      · exact .inr z
  clear hcl ht hlen hF hΦ hE7 hE5 gd5 gl5 gd7 gl7 hhere en
  rintro j y σ G hy ⟨u7, u8, u9, kvs, es', todo, rfl, sG, gd, gl, hE, hΦ, hF, ht, hcl, hlen, hhere, hall', hm⟩
  rw [List.getElem?_map] at hy
  obtain ⟨ad, had, rfl⟩ := Option.map_eq_some_iff.mp hy
  obtain ⟨⟨p, r⟩, hpp, hs⟩ := TT.at had
  have hsG : SqT K G ad [.int p, .int r] := (hids_same _ _).tup (sG.tup hs)
  have mp := List.mem_of_getElem? hpp
  have inps : (p, r) ∈ ps ∨ (r, p) ∈ ps := by
    rcases List.mem_append.mp mp with z | z
    · exact .inl z
    · obtain ⟨⟨x, y⟩, hxy, e⟩ := List.mem_map.mp z
      cases e
      exact .inr hxy
  obtain ⟨bp, br, w, hw⟩ : (0 ≤ p ∧ p < ss.length) ∧ (0 ≤ r ∧ r < ss.length) ∧ ∃ u, Wn rooms rows th ap ss p r = some u := by
    rcases inps with z | z
    · exact pok.ok _ z
    · obtain ⟨a, b, u, hu⟩ := pok.ok _ z
      exact ⟨b, a, u, by rw [Wn_sym]; exact hu⟩
  have et : (ps ++ ps.map swp).take (j + 1) = (ps ++ ps.map swp).take j ++ [(p, r)] := by rw [List.take_add_one, hpp]; rfl
  have SGG := (keep (sG7.trans sG)).trans (hids_same _ _)
  refine vc_asgT hsG rfl ?_
  walk_at "vc"
  have stay : (p = here → r ∈ ks es') → ∃ (v7 v8 v9 : Option V) (kvs' : List (Key × V)) (es'' : List (Int × Int)) (todo' : List Int), [some (.ref f), some (.ref lz), some (.ref lp), some (.int b), some (.ref d), some (.ref l), some (.int here), some (.int p), some (.int r), u9] = [some (.ref f), some (.ref lz), some (.ref lp), some (.int b), some (.ref d), some (.ref l), some (.int here), v7, v8, v9] ∧ Same (hids [d, l] G7) (hids [d, l] G) ∧ G d = some (.dK kvs') ∧ G l = some (.lst (todo'.map V.int)) ∧ EntAt K (hids [d, l] G) (hfD rows rooms.sum) kvs' es'' ∧ Φ es'' ∧ Found ps ss.length b es'' ∧ (∀ x ∈ todo', x ∈ ks es'') ∧ (∀ x ∈ ks es'', x ∈ todo' ∨ x = here ∨ Cl ps es'' x) ∧ todo'.length ≤ es''.length ∧ here ∈ ks es'' ∧ (∀ p ∈ (ps ++ ps.map swp).take (j + 1), p.1 = here → p.2 ∈ ks es'') ∧ 2 * (ss.length - es''.length) + todo'.length ≤ 2 * (ss.length - es.length) + ini.length := fun st => by
    refine ⟨_, _, _, kvs, es', todo, rfl, sG, gd, gl, hE, hΦ, hF, ht, hcl, hlen, hhere, fun x hx e => ?_, hm⟩
    rw [et] at hx
    rcases List.mem_append.mp hx with z | z
    · exact hall' x z e
    · rw [List.mem_singleton.mp z] at e ⊢
      exact st e
  refine ite2 (fun c => ?_) (fun c => ?_)
  rotate_left
  · have ne : ¬ p = here := fun z => c (decide_eq_true (congrArg V.int z))
    walk_at "vc"
    exact stay fun z => absurd z ne
  have ep : p = here := V.int.inj (of_decide_eq_true c)
  subst ep
  walk_at "vc"
  by_cases hq : r ∈ ks es'
  · obtain ⟨⟨x, v⟩, hxv, ex⟩ := List.mem_map.mp hq
    cases ex
    obtain ⟨fr, ev, _⟩ := hE.some_ hF.nd hxv
    refine ⟨d, _, rfl, DGet.k (k := .inl x) gd, ?_⟩
    rw [ev]
    refine ⟨false, rfl, ?_⟩
    walk_at "vc"
    exact stay fun _ => hq
  obtain ⟨ev, epk⟩ := hE.none_ hq
  refine ⟨d, _, rfl, DGet.k (k := .inl r) gd, ?_⟩
  rw [ev]
  refine ⟨true, rfl, ?_⟩
  walk_at "vc"
  have hzG := SGG.seq hz
  have lp' : p.toNat < ss.length := by omega
  have lr' : r.toNat < ss.length := by omega
  have atp : ∀ {y : Int}, 0 ≤ y → (h : y.toNat < ss.length) → atI (ss.map V.str) y = some (.str ss[y.toNat]) := fun {y} y0 h => by
    obtain ⟨k, rfl⟩ : ∃ k : Nat, y = (k : Int) := ⟨y.toNat, by omega⟩
    exact atI_nat (by rw [List.getElem?_map, List.getElem?_eq_getElem (show k < ss.length from h)]; rfl)
  refine vc_ixL hzG (atp bp.1 lp') ?_
  walk_at "vc"
  refine vc_ixL hzG (atp br.1 lr') ?_
  walk_at "vc"
  have hw' : wv rooms rows th ap ss[p.toNat] ss[r.toNat] = some w := by
    unfold Wn at hw
    rw [getD_at lp', getD_at lr'] at hw
    exact hw
  have nap : ¬ ((ss[p.toNat], ss[r.toNat]) ∈ ap ∨ (ss[r.toNat], ss[p.toNat]) ∈ ap) := fun z => by
    unfold wv at hw'
    rw [if_pos z] at hw'
    cases hw'
  have ew : w = 2 * thickBy ss[p.toNat] ss[r.toNat] th * hfN rows rooms.sum := by
    unfold wv at hw'
    rw [if_neg nap] at hw'
    cases hw'
    rfl
  refine ⟨f, a0, a1, a2, a3, a4, rooms, rows, th, ap, pg, ss[p.toNat], ss[r.toNat], rfl, F.same SGG, Dk, ls _ (List.getElem_mem _), ls _ (List.getElem_mem _), fun z => absurd z nap, fun _ st G2 S2 gst => ?_⟩
  rw [← ew] at gst
  have gst' : FrD K G2 (hfD rows rooms.sum) st w := SqT.of gst
  have gd2 := S2 _ _ gd
  have gl2 := S2 _ _ gl
  have hE2 := hE.same (S2.hids (S := [d, l]))
  obtain ⟨⟨hx, v⟩, hxv, exv⟩ := List.mem_map.mp hhere
  have exv' : hx = p := exv
  subst exv'
  obtain ⟨fh, efh, gfh⟩ := hE2.some_ hF.nd hxv
  have vb := hF.val _ hxv
  have wb := Wb _ _ _ hw
  have hall2 : ∀ c ∈ [d, l], (∃ ys, G2 c = some (.lst ys)) ∨ ∃ kvs, G2 c = some (.dK kvs) := fun c hc => by
    simp only [List.mem_cons, List.not_mem_nil, or_false] at hc
    rcases hc with rfl | rfl
    · exact .inr ⟨_, gd2⟩
    · exact .inl ⟨_, gl2⟩
  walk_at "vc"
  refine ⟨d, _, rfl, efh ▸ DGet.k (k := .inl hx) gd2, ?_⟩
  walk_at "vc"
  refine ⟨hfD rows rooms.sum, fh, st, v, w, rfl, De, gfh.same (hids_same _ _), gst', bt1100 vb.1 (by omega), bt1100 wb.1 (by omega), ?_⟩
  walk_at "vc"
  clear stay
  have fin : ∀ {fx : Addr}, FrD K (hids [d, l] G2) (hfD rows rooms.sum) fx (if v < w then w else v) → ∀ {G3 : Hp}, G3 = upd G2 d (.dK (putK kvs (.inl r) (.ref fx))) → ∃ (u7 u8 u9 : Option V) (kvs' : List (Key × V)) (es'' : List (Int × Int)) (todo' : List Int), [some (.ref f), some (.ref lz), some (.ref lp), some (.int b), some (.ref d), some (.ref l), some (.int hx), some (.int hx), some (.int r), some (.ref st)] = [some (.ref f), some (.ref lz), some (.ref lp), some (.int b), some (.ref d), some (.ref l), some (.int hx), u7, u8, u9] ∧ Same (hids [d, l] G7) (hids [d, l] (upd G3 l (.lst (todo.map V.int ++ [.int r])))) ∧ upd G3 l (.lst (todo.map V.int ++ [.int r])) d = some (.dK kvs') ∧ upd G3 l (.lst (todo.map V.int ++ [.int r])) l = some (.lst (todo'.map V.int)) ∧ EntAt K (hids [d, l] (upd G3 l (.lst (todo.map V.int ++ [.int r])))) (hfD rows rooms.sum) kvs' es'' ∧ Φ es'' ∧ Found ps ss.length b es'' ∧ (∀ x ∈ todo', x ∈ ks es'') ∧ (∀ x ∈ ks es'', x ∈ todo' ∨ x = hx ∨ Cl ps es'' x) ∧ todo'.length ≤ es''.length ∧ hx ∈ ks es'' ∧ (∀ p ∈ (ps ++ ps.map swp).take (j + 1), p.1 = hx → p.2 ∈ ks es'') ∧ 2 * (ss.length - es''.length) + todo'.length ≤ 2 * (ss.length - es.length) + ini.length := by
    intro fx gfx G3 eG3
    have h1 : hids [d, l] (upd G3 l (.lst (todo.map V.int ++ [.int r]))) = hids [d, l] G2 := by
      rw [hids_upd (by simp), eG3, hids_upd (by simp)]
    have kn : (ks es' ++ [r]).Nodup := by
      rw [List.nodup_append]
      exact ⟨hF.nd, by simp, fun a ha b hb e => hq (by rw [List.mem_singleton.mp hb] at e; exact e ▸ ha)⟩
    have hF' : Found ps ss.length b (es' ++ [(r, if v < w then w else v)]) := by
      refine ⟨by rw [ks_snoc]; exact kn, by rw [ks_snoc]; exact List.mem_append_left _ hF.has, fun x hx => ?_, fun e he => ?_⟩
      · rw [ks_snoc] at hx
        rcases List.mem_append.mp hx with z | z
        · exact hF.inn x z
        · rw [List.mem_singleton.mp z]; exact br
      · rcases List.mem_append.mp he with z | z
        · exact hF.val e z
        · rw [List.mem_singleton.mp z]
          show 0 ≤ (if v < w then w else v) ∧ (if v < w then w else v) ≤ _
          split
          · exact wb
          · exact vb
    have en := nd_len hF'.nd fun x hx => mem_nums (hF'.inn x hx).1 (hF'.inn x hx).2
    rw [nums_len, List.length_map, List.length_append, List.length_singleton] at en
    refine ⟨_, _, _, putK kvs (.inl r) (.ref fx), es' ++ [(r, if v < w then w else v)], todo ++ [r], rfl, by rw [h1]; exact sG.trans S2.hids, by rw [upd_ne ndl, eG3, upd_same], by rw [upd_same, List.map_append]; rfl, ?_, Φs es' hx v r w hΦ hxv hq inps hw, hF', fun x hx => ?_, fun x hx => ?_, by rw [List.length_append, List.length_append, List.length_singleton, List.length_singleton]; omega, by rw [ks_snoc]; exact List.mem_append_left _ hhere, fun x hx e => ?_, by rw [List.length_append, List.length_append, List.length_singleton, List.length_singleton]; omega⟩
    · rw [h1, epk]
      exact hE2.snoc gfx
    · rw [ks_snoc]
      rcases List.mem_append.mp hx with z | z
      · exact List.mem_append_left _ (ht x z)
      · exact List.mem_append_right _ z
    · rw [ks_snoc] at hx
      rcases List.mem_append.mp hx with z | z
      · rcases hcl x z with y | y | y
        · exact .inl (List.mem_append_left _ y)
        · exact .inr (.inl y)
        · exact .inr (.inr y.snoc)
      · exact .inl (List.mem_append_right _ z)
    · rw [ks_snoc]
      rw [et] at hx
      rcases List.mem_append.mp hx with z | z
      · exact List.mem_append_left _ (hall' x z e)
      · rw [List.mem_singleton.mp z]
        exact List.mem_append_right _ (by simp)
  have kl : kvs.length < sizeLine := small1000 (by rw [hE.len]; have := nd_len hF.nd fun x hx => mem_nums (hF.inn x hx).1 (hF.inn x hx).2; rw [nums_len, List.length_map] at this; omega)
  have tl : (todo.map V.int).length < sizeLine := small1000 (by rw [List.length_map]; have := nd_len hF.nd fun x hx => mem_nums (hF.inn x hx).1 (hF.inn x hx).2; rw [nums_len, List.length_map] at this; omega)
  refine ite2 (fun c => ?_) (fun c => ?_)
  · have lt : v < w := of_decide_eq_true c
    walk_at "vc"
    refine ⟨d, _, rfl, DPut.k (k := .inl r) gd2 kl, ?_⟩
    have gl3 : upd G2 d (.dK (putK kvs (.inl r) (.ref st))) l = some (.lst (todo.map V.int)) := by rw [upd_ne ndl.symm]; exact gl2
    walk_at "vc"
    refine ⟨tyV_list (SqL.of gl3), ?_⟩
    walk_at "vc"
    refine vc_append (K := K) gl3 tl ?_
    exact fin (fx := st) (by rw [if_pos lt]; exact sqT_out gst' hall2) rfl
  · have nlt : ¬ v < w := fun z => c (decide_eq_true z)
    walk_at "vc"
    refine ⟨d, _, rfl, efh ▸ DGet.k (k := .inl hx) gd2, ?_⟩
    walk_at "vc"
    refine ⟨d, _, rfl, DPut.k (k := .inl r) gd2 kl, ?_⟩
    have gl3 : upd G2 d (.dK (putK kvs (.inl r) (.ref fh))) l = some (.lst (todo.map V.int)) := by rw [upd_ne ndl.symm]; exact gl2
    walk_at "vc"
    refine ⟨tyV_list (SqL.of gl3), ?_⟩
    walk_at "vc"
    refine vc_append (K := K) gl3 tl ?_
    exact fin (fx := fh) (by rw [if_neg nlt]; exact gfh) rfl
theorem ints2_dp {n : Nat} (x y : Int) : Dp (n + 2) (.list [.int x, .int y]) := by
  refine ⟨(by decide : 2 < 1000), fun d hd => ?_⟩
  simp only [List.mem_cons, List.not_mem_nil, or_false] at hd
  rcases hd with rfl | rfl <;> trivial
theorem frD_dp {n : Nat} (D x : Int) : Dp (n + 2) (frD D x) := by
  refine ⟨(by decide : 2 < 1000), fun d hd => ?_⟩
  simp only [List.mem_cons, List.not_mem_nil, or_false] at hd
  rcases hd with rfl | rfl <;> trivial
theorem FrD.rep {H : Hp} {D x : Int} {r : Addr} (h : FrD K H D r x) : Rep K H (.ref r) (frD D x) := .tup h (.cons (.int _) (.cons (.int _) .nil))
theorem wn_waste {rooms : List Int} {rows : List (Int × Int)} {th : List (Str × Str × Int)} {ap : List (Str × Str)} {ss : List Str} {p r : Int} (hp : p.toNat < ss.length) (hr : r.toNat < ss.length) :
    (((ss[p.toNat], ss[r.toNat]) ∈ ap ∨ (ss[r.toNat], ss[p.toNat]) ∈ ap) → Wn rooms rows th ap ss p r = none) ∧
    (¬ ((ss[p.toNat], ss[r.toNat]) ∈ ap ∨ (ss[r.toNat], ss[p.toNat]) ∈ ap) → Wn rooms rows th ap ss p r = some (2 * thickBy ss[p.toNat] ss[r.toNat] th * hfN rows rooms.sum)) := by
  unfold Wn
  rw [getD_at hp, getD_at hr]
  unfold wv
  exact ⟨fun h => by rw [if_pos h], fun h => by rw [if_neg h]⟩
theorem at_str {ss : List Str} {y : Int} (y0 : 0 ≤ y) (h : y.toNat < ss.length) : atI (ss.map V.str) y = some (.str ss[y.toNat]) := by
  obtain ⟨k, rfl⟩ : ∃ k : Nat, y = (k : Int) := ⟨y.toNat, by omega⟩
  exact atI_nat (by rw [List.getElem?_map, List.getElem?_eq_getElem (show k < ss.length from h)]; rfl)
inductive spIsTree_ (K : PySem.W.Frag) (vs : List V) (H : Hp) (Q : VK) : Prop where
  | mk (f lz r l fw a0 a1 a2 a3 a4 : Addr) (rooms : List Int) (rows : List (Int × Int)) (th : List (Str × Str × Int)) (ap : List (Str × Str)) (pg : Int × Int) (ss : List Str) (as : List Addr) (R : List Int) (Tr : List (Int × Int)) : (vs = [.ref f, .ref lz, .ref r]) → (FiveP K H f a0 a1 a2 a3 a4 rooms rows th ap pg) → (DataOk rooms rows th ap) → (SqL K H lz (ss.map V.str)) → ((∀ s ∈ ss, Let s)) → (ss.length ≤ 30) → (H r = some (.tup [.ref l, .ref fw])) → (TreeAt K H (hfD rows rooms.sum) (Wn rooms rows th ap ss) ss.length l fw as R Tr) → (∀ H', Same H H' → Q (.bl true) H') → spIsTree_ K vs H Q
noncomputable def spIsTree (K : PySem.W.Frag) : Sp := fun vs H Q _ => spIsTree_ K vs H Q
theorem ok_l_is_tree (T : Txt K mg t) : FnOk P w K mg base CX0 10 t.f_l_is_tree t.d_l_is_tree ["_law_five_here", "_law_some_here", "_law_found"] (spIsTree K) := by
  have G_l_alike := ok_l_alike (P := P) (w := w) (base := base) T 8
  have G_l_waste := ok_l_waste (P := P) (w := w) (base := base) T
  have G_l_sum := ok_l_sum (P := P) (w := w) (base := base) T
  have G_l_reached := ok_l_reached (P := P) (w := w) (base := base) T
  have G_l_less := ok_l_less (P := P) (w := w) (base := base) T
  refine T.F_l_is_tree.ok sc_l_is_tree (fun vs H Q E h => ?_) (fun cdv A outer s H vs Q E hr h => ?_)
  · obtain ⟨f, lz, r, l, fw, a0, a1, a2, a3, a4, rooms, rows, th, ap, pg, ss, as, R, Tr, rfl, _⟩ := h
    rfl
  obtain ⟨f, lz, r, l, fw, a0, a1, a2, a3, a4, rooms, rows, th, ap, pg, ss, as, R, Tr, rfl, F, Dk, hz, ls, s30, hr0, TA, q⟩ := h
  obtain ⟨c1, c2, c3⟩ := half_ok Dk.rw Dk.s0 Dk.s1
  have De : Den (hfD rows rooms.sum) := ⟨c1, Bt.mono (m := 100) (Bt.iff.mpr (Nat.lt_of_le_of_lt (show (hfD rows rooms.sum).natAbs ≤ 100000000 by omega) (by decide))) (by decide)⟩
  have Wb : ∀ i j u, Wn rooms rows th ap ss i j = some u → 0 ≤ u ∧ u ≤ 1600000000000000000 := fun i j u h => wv_b0 Dk h
  have sym : ∀ a b, Wn rooms rows th ap ss a b = Wn rooms rows th ap ss b a := fun a b => Wn_sym a b
  have hrT : SqT K H r [.ref l, .ref fw] := SqT.of hr0
  have hl := TA.at_
  have tup := TA.tup
  have pr := TA.prim
  have pm := TA.all
  have al := tup.len
  have inR : ∀ {x}, x ∈ R → 0 ≤ x ∧ x < ss.length := fun {x} hx => by
    obtain ⟨a, rfl, ha⟩ := nums_mem (pm.mem_iff.mp hx)
    omega
  have rl : R.length = ss.length := by rw [pm.length_eq, nums_len]
  have tl := pr.len
  have edge : ∀ {p : Int × Int}, p ∈ Tr → (0 ≤ p.1 ∧ p.1 < p.2 ∧ p.2 < ss.length) ∧ ∃ u, Wn rooms rows th ap ss p.1 p.2 = some u := fun {p} hp => by
    obtain ⟨x, y, z, u⟩ := pr.mem p hp
    exact ⟨⟨(inR x).1, z, (inR y).2⟩, u⟩
  refine ⟨_, (pss_cons (q_set (i := 3) qv_l_is_tree sc_l_is_tree.nd rfl rfl rfl (pe_ix ix_tup (qv qv_l_is_tree 2 rfl rfl rfl) pe_int (fun _ _ => rfl)))
      (pss_cons (q_set (i := 4) qv_l_is_tree sc_l_is_tree.nd rfl rfl rfl (pe_tup (pa_cons pe_int (pa_cons pe_int pa_nil))))
      (pss_cons (ps_for PassesOwn.never rfl (pi_enum (qgl qg_l_is_tree 0 rfl rfl) T.z_enumerate (pa_cons (qv qv_l_is_tree 3 rfl rfl rfl) pa_nil)) (pg_tup rfl (pgs_cons (q_name (i := 5) qv_l_is_tree sc_l_is_tree.nd rfl rfl rfl) (pgs_cons (q_name (i := 6) qv_l_is_tree sc_l_is_tree.nd rfl rfl rfl) pgs_nil))) (pss_cons (ps_if (PW.pt (pw_or (pt_not (pt_val (q_callB call_isK qg_l_is_tree 1 rfl rfl T.z_isinstance bo_isinstance (pa_cons (qv qv_l_is_tree 6 rfl rfl rfl) (pa_cons (q_bltn (v := .ty "tuple") qg_l_is_tree 2 rfl rfl T.z_tuple bo_tuple rfl) pa_nil))))) (pw_or (pt_cmpR op_ne (q_callB call_lenR qg_l_is_tree 3 rfl rfl T.z_len bo_len (pa_cons (qv qv_l_is_tree 6 rfl rfl rfl) pa_nil)) pe_int (nomark _)) (pw_or1 (pt_not (pt_val (q_call G_l_alike (hr.mono (by first | decide | omega)) qg_l_is_tree 4 rfl rfl T.m_l_alike T.F_l_alike.kp T.b_l_alike .nil pass0 (pa_cons (q_callTy call_listR qg_l_is_tree 5 rfl rfl T.z_list bo_list (pa_cons (qv qv_l_is_tree 6 rfl rfl rfl) pa_nil)) (pa_cons (pe_lst (pa_cons (pe_op op_add (pe_ix ix_tup (qv qv_l_is_tree 6 rfl rfl rfl) pe_int (fun _ _ => rfl)) pe_int) (pa_cons (pe_op op_add (pe_ix ix_tup (qv qv_l_is_tree 6 rfl rfl rfl) pe_int (fun _ _ => rfl)) pe_int) pa_nil))) pa_nil))))))))) (pss_one (ps_ret pe_bl)) pss_nil)
      (pss_cons (ps_if (PW.pt (pw_or (pt_not (pt_chain3 op_le op_lt op_lt pe_int (pe_ix ix_tup (qv qv_l_is_tree 6 rfl rfl rfl) pe_int (fun _ _ => rfl)) (pe_ix ix_tup (qv qv_l_is_tree 6 rfl rfl rfl) pe_int (fun _ _ => rfl)) (q_callB call_lenR qg_l_is_tree 3 rfl rfl T.z_len bo_len (pa_cons (qv qv_l_is_tree 1 rfl rfl rfl) pa_nil)))) (pw_or1 (PW.pt (pw_and (pt_cmpR op_gt (qv qv_l_is_tree 5 rfl rfl rfl) pe_int (nomark _)) (pw_and1 (pt_not (pt_cmpR (op_ltP hr.units) (pe_ix ix_list (qv qv_l_is_tree 3 rfl rfl rfl) (pe_op op_sub (qv qv_l_is_tree 5 rfl rfl rfl) pe_int) (fun _ _ => rfl)) (qv qv_l_is_tree 6 rfl rfl rfl) (nomark _))))))))) (pss_one (ps_ret pe_bl)) pss_nil)
      (pss_cons (q_set (i := 7) qv_l_is_tree sc_l_is_tree.nd rfl rfl rfl (q_call G_l_waste (hr.mono (by first | decide | omega)) qg_l_is_tree 6 rfl rfl T.m_l_waste T.F_l_waste.kp T.b_l_waste .nil pass0 (pa_cons (qv qv_l_is_tree 0 rfl rfl rfl) (pa_cons (pe_ix ix_list (qv qv_l_is_tree 1 rfl rfl rfl) (pe_ix ix_tup (qv qv_l_is_tree 6 rfl rfl rfl) pe_int (fun _ _ => rfl)) (fun _ _ => rfl)) (pa_cons (pe_ix ix_list (qv qv_l_is_tree 1 rfl rfl rfl) (pe_ix ix_tup (qv qv_l_is_tree 6 rfl rfl rfl) pe_int (fun _ _ => rfl)) (fun _ _ => rfl)) pa_nil)))))
      (pss_cons (ps_if (pt_cmp (pc_isN (qv qv_l_is_tree 7 rfl rfl rfl))) (pss_one (ps_ret pe_bl)) pss_nil)
      (pss_one (q_set (i := 4) qv_l_is_tree sc_l_is_tree.nd rfl rfl rfl (q_call G_l_sum (hr.mono (by first | decide | omega)) qg_l_is_tree 7 rfl rfl T.m_l_sum T.F_l_sum.kp T.b_l_sum .nil pass0 (pa_cons (qv qv_l_is_tree 4 rfl rfl rfl) (pa_cons (qv qv_l_is_tree 7 rfl rfl rfl) pa_nil))))))))))
      (pss_cons (ps_if (PW.pt (pw_or (pt_cmpR op_ne (q_callB call_lenR qg_l_is_tree 3 rfl rfl T.z_len bo_len (pa_cons (qv qv_l_is_tree 3 rfl rfl rfl) pa_nil)) (pe_op op_sub (q_callB call_lenR qg_l_is_tree 3 rfl rfl T.z_len bo_len (pa_cons (qv qv_l_is_tree 1 rfl rfl rfl) pa_nil)) pe_int) (nomark _)) (pw_or1 (pt_not (pt_val (q_call G_l_alike (hr.mono (by first | decide | omega)) qg_l_is_tree 4 rfl rfl T.m_l_alike T.F_l_alike.kp T.b_l_alike .nil pass0 (pa_cons (pe_ix ix_tup (qv qv_l_is_tree 2 rfl rfl rfl) pe_int (fun _ _ => rfl)) (pa_cons (qv qv_l_is_tree 4 rfl rfl rfl) pa_nil)))))))) (pss_one (ps_ret pe_bl)) pss_nil)
      (pss_cons (ps_for PassesOwn.never rfl (pi_range1 (qgl qg_l_is_tree 8 rfl rfl) T.z_range (pa_cons (q_callB call_lenR qg_l_is_tree 3 rfl rfl T.z_len bo_len (pa_cons (qv qv_l_is_tree 1 rfl rfl rfl) pa_nil)) pa_nil)) (q_name (i := 8) qv_l_is_tree sc_l_is_tree.nd rfl rfl rfl) (pss_cons (q_set (i := 9) qv_l_is_tree sc_l_is_tree.nd rfl rfl rfl (q_call G_l_reached (hr.mono (by first | decide | omega)) qg_l_is_tree 9 rfl rfl T.m_l_reached T.F_l_reached.kp T.b_l_reached .nil pass0 (pa_cons (qv qv_l_is_tree 0 rfl rfl rfl) (pa_cons (qv qv_l_is_tree 1 rfl rfl rfl) (pa_cons (qv qv_l_is_tree 3 rfl rfl rfl) (pa_cons (qv qv_l_is_tree 8 rfl rfl rfl) pa_nil))))))
      (pss_cons (ps_if (pt_cmpR op_ne (q_callB call_lenD qg_l_is_tree 3 rfl rfl T.z_len bo_len (pa_cons (qv qv_l_is_tree 9 rfl rfl rfl) pa_nil)) (q_callB call_lenR qg_l_is_tree 3 rfl rfl T.z_len bo_len (pa_cons (qv qv_l_is_tree 1 rfl rfl rfl) pa_nil)) (nomark _)) (pss_one (ps_ret pe_bl)) pss_nil)
      (pss_one (ps_for PassesOwn.never rfl (pi_range1 (qgl qg_l_is_tree 8 rfl rfl) T.z_range (pa_cons (qv qv_l_is_tree 8 rfl rfl rfl) pa_nil)) (q_name (i := 10) qv_l_is_tree sc_l_is_tree.nd rfl rfl rfl) (pss_cons (q_set (i := 7) qv_l_is_tree sc_l_is_tree.nd rfl rfl rfl (q_call G_l_waste (hr.mono (by first | decide | omega)) qg_l_is_tree 6 rfl rfl T.m_l_waste T.F_l_waste.kp T.b_l_waste .nil pass0 (pa_cons (qv qv_l_is_tree 0 rfl rfl rfl) (pa_cons (pe_ix ix_list (qv qv_l_is_tree 1 rfl rfl rfl) (qv qv_l_is_tree 10 rfl rfl rfl) (fun _ _ => rfl)) (pa_cons (pe_ix ix_list (qv qv_l_is_tree 1 rfl rfl rfl) (qv qv_l_is_tree 8 rfl rfl rfl) (fun _ _ => rfl)) pa_nil)))))
      (pss_one (ps_if (PW.pt (pw_and (pt_cmp (pc_notN (qv qv_l_is_tree 7 rfl rfl rfl))) (pw_and1 (pt_val (q_call G_l_less (hr.mono (by first | decide | omega)) qg_l_is_tree 10 rfl rfl T.m_l_less T.F_l_less.kp T.b_l_less .nil pass0 (pa_cons (qv qv_l_is_tree 7 rfl rfl rfl) (pa_cons (pe_dget (hu_of hr) (qv qv_l_is_tree 9 rfl rfl rfl) (qv qv_l_is_tree 10 rfl rfl rfl) (fun _ _ => rfl)) pa_nil))))))) (pss_one (ps_ret pe_bl)) pss_nil))))))))
      (pss_one (ps_ret pe_bl))))))), ?_⟩
  walk_at "vc"
  refine ⟨(by show 2 ≤ sizeLine; decide), fun t0 ht0 => ?_⟩
  walk_at "vc"
  have Y1 := same_new ht0 (.tup [.int 0, .int 1])
  have g1 : upd H t0 (.tup [.int 0, .int 1]) t0 = some (frO (hfD rows rooms.sum) 0) := by rw [upd_same, fd_zero De]
  generalize upd H t0 (.tup [.int 0, .int 1]) = H1 at *
  refine ⟨l, as.map V.ref, rfl, SqL.of (Y1 _ _ hl), for_enum (xs := as.map V.ref) (fun i σ G => ∃ (u5 u6 u7 : Option V) (tt : Addr), σ = [some (.ref f), some (.ref lz), some (.ref r), some (.ref l), some (.ref tt), u5, u6, u7, none, none, none] ∧ Same H1 G ∧ FrD K G (hfD rows rooms.sum) tt (wsum (Wn rooms rows th ap ss) (Tr.take i)))
    ⟨_, _, _, t0, rfl, Same.refl _, FrD.of g1⟩ (fun i σ G _ hh => by obtain ⟨_, _, _, _, _, e, _⟩ := hh; exact SqL.of (e _ _ (Y1 _ _ hl))) ?_ ?_⟩
  · rintro i y σ G TT hy ⟨u5, u6, u7, tt, rfl, sG, ft⟩ hT
    rw [List.getElem?_map] at hy
    obtain ⟨ad, had, rfl⟩ := Option.map_eq_some_iff.mp hy
    obtain ⟨p, hpp, hs⟩ := tup.at had
    obtain ⟨⟨e1, e2, e3⟩, u, hu⟩ := edge (List.mem_of_getElem? hpp)
    have ub := Wb _ _ _ hu
    have tb := wsum_b Wb (Tr.take i)
    have tk : (Tr.take i).length ≤ 30 := by rw [List.length_take]; omega
    have YT := same_new hT (.tup [.int ((i : Nat) : Int), .ref ad])
    refine vc_asgT (SqT.of upd_same) rfl ?_
    generalize upd G TT (.tup [.int ((i : Nat) : Int), .ref ad]) = G1 at *
    have S1 := sG.trans YT
    have SH1 := Y1.trans S1
    have hs1 := SH1.tup hs
    walk_at "vc"
    refine vc_isK (b := true) (.tup hs1) rfl ?_
    walk_at "vc"
    refine vc_lenT hs1 ?_
    walk_at "vc"
    refine iteNS rfl ?_
    walk_at "vc"
    refine ⟨ad, _, rfl, .inr hs1, fun k1 hk1 => ?_⟩
    have X1 := same_new hk1 (.lst [V.int p.1, .int p.2])
    have x1 : upd G1 k1 (.lst [V.int p.1, .int p.2]) k1 = some (.lst [V.int p.1, .int p.2]) := upd_same
    generalize upd G1 k1 (.lst [V.int p.1, .int p.2]) = G2 at *
    have hs2 := X1.tup hs1
    walk_at "vc"
    rw [Int.add_zero, Int.add_zero]
    refine ⟨(by show 2 ≤ sizeLine; decide), fun k2 hk2 => ?_⟩
    have X2 := same_new hk2 (.lst [V.int p.1, .int p.2])
    have x2 : upd G2 k2 (.lst [V.int p.1, .int p.2]) k2 = some (.lst [V.int p.1, .int p.2]) := upd_same
    generalize upd G2 k2 (.lst [V.int p.1, .int p.2]) = G3 at *
    walk_at "vc"
    refine ⟨_, _, .list [.int p.1, .int p.2], rfl, .lst (SqL.of (X2 _ _ x1)) (.cons (.int _) (.cons (.int _) .nil)), .lst (SqL.of x2) (.cons (.int _) (.cons (.int _) .nil)), ints2_dp _ _, fun G4 S4 => ?_⟩
    have S14 := X1.trans (X2.trans S4)
    have SH4 := SH1.trans S14
    have hs4 := SH4.tup hs
    walk_at "vcs"
    with_reducible refine tSeq.join (fun σ H' => σ = [some (.ref f), some (.ref lz), some (.ref r), some (.ref l), some (.ref tt), some (.int (i : Int)), some (.ref ad), u7, none, none, none] ∧ H' = G4) (fun R' k => ?_) ?_
    · walk_at "vc"
      rw [dec_true e1]
      walk_at "vc"
      rw [dec_true e2]
      walk_at "vc"
      refine vc_lenL (SH4.seq hz) ?_
      walk_at "vc"
      rw [List.length_map, dec_true e3]
      walk_at "vc"
      by_cases i0 : i = 0
      · subst i0
        rw [dec_false (by omega)]
        walk_at "vc"
        exact k _ _ ⟨rfl, rfl⟩
      rw [dec_true (by omega)]
      walk_at "vc"
      obtain ⟨ad', had'⟩ : ∃ a, as[i - 1]? = some a := ⟨as[i - 1]'(by have := (List.getElem?_eq_some_iff.mp had).1; omega), List.getElem?_eq_getElem _⟩
      obtain ⟨p', hpp', hs'⟩ := tup.at had'
      refine vc_ixL (SqL.of (SH4 _ _ hl)) (x := .ref ad') ?_ ?_
      · rw [show (i : Int) - 1 = ((i - 1 : Nat) : Int) by omega]
        exact atI_nat (by rw [List.getElem?_map, had']; rfl)
      walk_at "vc"
      refine vc_ltP (p := p') (q := p) (SH4.tup hs') hs4 ?_
      have lt : ltP p' p := by
        obtain ⟨x1, y1⟩ := List.getElem?_eq_some_iff.mp hpp'
        obtain ⟨x2, y2⟩ := List.getElem?_eq_some_iff.mp hpp
        have := List.pairwise_iff_getElem.mp TA.rise (i - 1) i x1 x2 (by omega)
        rw [y1, y2] at this
        exact this
      rw [dec_true lt]
      walk_at "vc"
      exact k _ _ ⟨rfl, rfl⟩
    rintro σ G' ⟨rfl, rfl⟩
    have l1 : p.1.toNat < ss.length := by omega
    have l2 : p.2.toNat < ss.length := by omega
    obtain ⟨wa, wb⟩ := wn_waste (rooms := rooms) (rows := rows) (th := th) (ap := ap) l1 l2
    walk_at "vc"
    refine vc_ixL (SH4.seq hz) (at_str (by omega) l1) ?_
    walk_at "vc"
    refine vc_ixL (SH4.seq hz) (at_str (by omega) l2) ?_
    walk_at "vc"
    refine ⟨f, a0, a1, a2, a3, a4, rooms, rows, th, ap, pg, ss[p.1.toNat], ss[p.2.toNat], rfl, F.same SH4, Dk, ls _ (List.getElem_mem _), ls _ (List.getElem_mem _), fun z => (by rw [wa z] at hu; cases hu), fun nz st G5 S5 gst => ?_⟩
    have eu : u = 2 * thickBy ss[p.1.toNat] ss[p.2.toNat] th * hfN rows rooms.sum := by
      rw [wb nz] at hu
      cases hu
      rfl
    rw [← eu] at gst
    walk_at "vc"
    rw [dec_false (fun z => by cases z)]
    walk_at "vc"
    refine ⟨hfD rows rooms.sum, tt, st, wsum (Wn rooms rows th ap ss) (Tr.take i), u, rfl, De, ft.same (YT.trans (S14.trans S5)), SqT.of gst, bt1100 tb.1 (by omega), bt1100 ub.1 (by omega), fun t5 ht5 => ?_⟩
    walk_at "vc"
    refine ⟨_, _, _, t5, rfl, S1.trans (S14.trans (S5.trans (same_new ht5 _))), ?_⟩
    rw [List.take_add_one, hpp]
    rw [show Tr.take i ++ (some p).toList = Tr.take i ++ [p] from rfl, wsum_snoc, hu]
    exact FrD.of upd_same
  rintro σ G ⟨u5, u6, u7, tt, rfl, sG, ft⟩
  rw [List.length_map, al, List.take_length] at ft
  have SG := Y1.trans sG
  have hrG := SG.tup hrT
  obtain ⟨side, hside⟩ := Classical.axiomOfChoice (r := fun (e : Int × Int) (sd : Int → Prop) => e ∈ Tr → ¬ (sd e.1 ↔ sd e.2) ∧ ∀ e' ∈ Tr, e' ≠ e → (sd e'.1 ↔ sd e'.2)) fun e => by
    by_cases he : e ∈ Tr
    · obtain ⟨sd, x, y⟩ := pr.cut e he
      exact ⟨sd, fun _ => ⟨x, y⟩⟩
    · exact ⟨fun _ => True, fun z => absurd z he⟩
  walk_at "vc"
  refine vc_lenL (SqL.of (SG _ _ hl)) ?_
  walk_at "vc"
  refine vc_lenL (SG.seq hz) ?_
  walk_at "vc"
  refine iteNS (by rw [List.length_map, List.length_map, al]; congr 1; omega) ?_
  walk_at "vc"
  refine ⟨_, _, frD (hfD rows rooms.sum) (wsum (Wn rooms rows th ap ss) Tr), rfl, (TA.wt.same SG).rep, ft.rep, frD_dp _ _, fun G1 S1 => ?_⟩
  have SH1 := SG.trans S1
  walk_at "vc"
  refine vc_lenL (SH1.seq hz) ?_
  walk_at "vc"
  rw [List.length_map]
  refine ⟨_, rfl, by omega, by omega, for_range (n := ((ss.length : Int)).toNat) (fun i σ G => ∃ (u7 u8 u9 u10 : Option V), σ = [some (.ref f), some (.ref lz), some (.ref r), some (.ref l), some (.ref tt), u5, u6, u7, u8, u9, u10] ∧ Same G1 G)
    ⟨_, _, _, _, rfl, Same.refl _⟩ ?_ ?_⟩
  rotate_left
  · rintro σ G2 ⟨u7, u8, u9, u10, rfl, s2⟩
    walk_at "vc"
    exact q _ (SH1.trans s2)
  rintro i σ G2 hi ⟨u7, u8, u9, u10, rfl, s2⟩
  have SH2 := SH1.trans s2
  have hi' : i < ss.length := by omega
  walk_at "vc"
  refine ⟨f, lz, l, a0, a1, a2, a3, a4, 0 + (i : Int), rooms, rows, th, ap, pg, ss, as, Tr, Dfs (Wn rooms rows th ap ss) Tr side (0 + (i : Int)), rfl, F.same SH2, Dk, SH2.seq hz, ls, s30, SH2 _ _ hl, tup.same SH2, by omega, ⟨fun p hp => ⟨by have := (edge hp).1; omega, by have := (edge hp).1; omega, (edge hp).2⟩⟩, by omega, by omega, Dfs.one _ _ _ _, fun es h v q' w' D hh hq he hw => D.step sym (fun e he => hside e he) hh hq he hw, fun d kvs es G3 S3 gd hE hF hD hC => ?_⟩
  have all : ∀ x ∈ R, x ∈ ks es := fun x hx => pr.con (fun v => v ∈ ks es) (fun e he => ⟨fun z => (hC _ z e he).1 rfl, fun z => (hC _ z e he).2 rfl⟩) (0 + (i : Int)) (pm.mem_iff.mpr (mem_nums (by omega) (by omega))) x hx hF.has
  have el : es.length = ss.length := by
    have x1 := nd_len hF.nd fun x hx => mem_nums (hF.inn x hx).1 (hF.inn x hx).2
    have x2 := nd_len (nums_nd ss.length) fun x hx => all x (pm.mem_iff.mpr hx)
    rw [nums_len, List.length_map] at x1 x2
    omega
  have SH3 := SH2.trans S3
  walk_at "vc"
  refine ⟨d, kvs, rfl, gd, ?_⟩
  walk_at "vc"
  refine vc_lenL (SH3.seq hz) ?_
  walk_at "vc"
  refine iteNS (by rw [List.length_map, hE.len, el]) ?_
  walk_at "vc"
  refine ⟨_, rfl, by omega, by omega, for_range (n := (0 + (i : Int)).toNat) (fun j σ G => ∃ (u7 u10 : Option V), σ = [some (.ref f), some (.ref lz), some (.ref r), some (.ref l), some (.ref tt), u5, u6, u7, some (.int (0 + (i : Int))), some (.ref d), u10] ∧ Same G3 G)
    ⟨_, _, rfl, Same.refl _⟩ ?_ ?_⟩
  rotate_left
  · rintro σ G4 ⟨u7, u10, rfl, s4⟩
    exact ⟨_, _, _, _, rfl, s2.trans (S3.trans s4)⟩
  rintro j σ G4 hj ⟨u7, u10, rfl, s4⟩
  have SH4 := SH3.trans s4
  have hj' : j < i := by omega
  have l1 : (0 + (j : Int)).toNat < ss.length := by omega
  have l2 : (0 + (i : Int)).toNat < ss.length := by omega
  obtain ⟨wa, wb⟩ := wn_waste (rooms := rooms) (rows := rows) (th := th) (ap := ap) l1 l2
  walk_at "vc"
  refine vc_ixL (SH4.seq hz) (at_str (by omega) l1) ?_
  walk_at "vc"
  refine vc_ixL (SH4.seq hz) (at_str (by omega) l2) ?_
  walk_at "vc"
  refine ⟨f, a0, a1, a2, a3, a4, rooms, rows, th, ap, pg, ss[(0 + (j : Int)).toNat], ss[(0 + (i : Int)).toNat], rfl, F.same SH4, Dk, ls _ (List.getElem_mem _), ls _ (List.getElem_mem _), fun _ G5 S5 => ?_, fun nz st G5 S5 gst => ?_⟩
  · walk_at "vc"
    rw [dec_true rfl]
    walk_at "vc"
    exact ⟨_, _, rfl, s4.trans S5⟩
  · have hu := wb nz
    generalize 2 * thickBy ss[(0 + (j : Int)).toNat] ss[(0 + (i : Int)).toNat] th * hfN rows rooms.sum = u at *
    have ub := Wb _ _ _ hu
    have hjR : 0 + (j : Int) ∈ R := pm.mem_iff.mpr (mem_nums (by omega) (by omega))
    have hiR : 0 + (i : Int) ∈ R := pm.mem_iff.mpr (mem_nums (by omega) (by omega))
    obtain ⟨⟨jx, v⟩, hjv, ejx⟩ := List.mem_map.mp (all _ hjR)
    have ejx' : jx = 0 + (j : Int) := ejx
    subst ejx'
    have vb := hF.val _ hjv
    have le : v ≤ u := hD.most _ hjv u ub.1 fun e he n u' hu' => pr.best (fun x hx => pm.mem_iff.mp hx) he (hside e he).2 hiR hjR n (by rw [sym]; exact hu) hu'
    obtain ⟨fv, efv, gfv⟩ := (hE.same (s4.trans S5)).some_ hF.nd hjv
    walk_at "vc"
    rw [dec_false (fun z => by cases z)]
    walk_at "vc"
    refine ⟨d, _, rfl, efv ▸ DGet.k (k := .inl (0 + (j : Int))) (S5 _ _ (s4 _ _ gd)), ?_⟩
    walk_at "vc"
    refine ⟨hfD rows rooms.sum, st, fv, u, v, rfl, De, SqT.of gst, gfv, bt1100 ub.1 (by omega), bt1100 vb.1 (by omega), ?_⟩
    rw [dec_false (show ¬ u < v by omega)]
    walk_at "vc"
    exact ⟨_, _, rfl, s4.trans S5⟩
open PySem.W in
theorem kqd_strs {ss : List Str} (h : ∀ s ∈ ss, Let s) : kqdOk 9 (.list (ss.map Dat.str)) = true := by
  simp only [kqdOk, List.all_eq_true, List.mem_map]
  rintro d ⟨s, hs, rfl⟩
  exact str_ok (h s hs) 8
theorem D50.ok {most : Int} {ws : List Str} {rooms : List Int} {rows : List (Int × Int)} {th : List (Str × Str × Int)} {ap : List (Str × Str)} (W : Wares ws) (m : most ≤ 1000000) (m0 : 1 ≤ most) (d : D50 most ws rooms rows th ap) : DataOk rooms rows th ap := by
  have sb := sum_bounds d.rr
  have r4 := d.r4
  have sb2 : most * (rooms.length : Int) ≤ 1000000 * 4 := Int.mul_le_mul m (by omega) (by omega) (by decide)
  refine ⟨by omega, by omega, ⟨d.wu, fun r hr => ?_⟩, fun p hp => ⟨(d.thd p hp).1, (d.thd p hp).2.1⟩, fun p hp => ?_, fun p hp => ?_⟩
  · have := d.wb r hr
    omega
  · have := (d.thd p hp).2.2
    omega
  · have := d.apd.mem p hp
    exact ⟨(W.ok _ this.1).1, (W.ok _ this.2).1⟩
theorem cut_to (ns : List Int) : ∃ ms : List Int, cutV (ns.map V.int) (some 2) (some 22) = ms.map V.int ∧ ms.length ≤ 20 := by
  unfold cutV
  refine ⟨_, by rw [List.map_take, List.map_drop], ?_⟩
  rw [show (some (22 : Int)) = some ((22 : Nat) : Int) from rfl, HT.sIx_nat, show (some (2 : Int)) = some ((2 : Nat) : Int) from rfl, HT.sIx_nat, List.length_take, List.length_map]
  omega
inductive spLaw_ (K : PySem.W.Frag) (vs : List V) (H : Hp) (Q : VK) : Prop where
  | mk (a : Addr) (ns : List Int) : (vs = [.ref a]) → (SqL K H a (ns.map V.int)) → (ns.length ≤ 63) → (∀ H', Q (.bl true) H') → spLaw_ K vs H Q
noncomputable def spLaw (K : PySem.W.Frag) : Sp := fun vs H Q _ => spLaw_ K vs H Q
theorem ok_law (T : Txt K mg t) : FnOk P w K mg base CX0 11 t.f_law t.d_law ["_law_script"] (spLaw K) := by
  have G_l_wares := ok_l_wares (P := P) (w := w) (base := base) T
  have G_l_at := ok_l_at (P := P) (w := w) (base := base) T
  have G_l_pipe := ok_l_pipe (P := P) (w := w) (base := base) T
  have G_l_some := ok_l_some (P := P) (w := w) (base := base) T
  have G_tree_of := ok_tree_of (P := P) (w := w) (base := base) T
  have G_l_of := ok_l_of (P := P) (w := w) (base := base) T
  have G_l_apart := ok_l_apart (P := P) (w := w) (base := base) T
  have G_l_reached := ok_l_reached (P := P) (w := w) (base := base) T
  have G_l_is_tree := ok_l_is_tree (P := P) (w := w) (base := base) T
  refine T.F_law.ok sc_law (fun vs H Q E h => ?_) (fun cdv A outer s H vs Q E hr h => ?_)
  · obtain ⟨a, ns, rfl, _⟩ := h
    rfl
  obtain ⟨a, ns, rfl, hS, hlen, q⟩ := h
  refine ⟨_, (pss_cons (q_set (i := 1) qv_law sc_law.nd rfl rfl rfl (q_call G_l_wares (hr.mono (by first | decide | omega)) qg_law 0 rfl rfl T.m_l_wares T.F_l_wares.kp T.b_l_wares .nil pass0 (pa_cons (q_call G_l_at (hr.mono (by first | decide | omega)) qg_law 1 rfl rfl T.m_l_at T.F_l_at.kp T.b_l_at .nil pass0 (pa_cons (qv qv_law 0 rfl rfl rfl) (pa_cons pe_int pa_nil))) pa_nil)))
      (pss_cons (q_set (i := 2) qv_law sc_law.nd rfl rfl rfl (q_call G_l_pipe (hr.mono (by first | decide | omega)) qg_law 2 rfl rfl T.m_l_pipe T.F_l_pipe.kp T.b_l_pipe .nil pass0 (pa_cons (q_call G_l_at (hr.mono (by first | decide | omega)) qg_law 1 rfl rfl T.m_l_at T.F_l_at.kp T.b_l_at .nil pass0 (pa_cons (qv qv_law 0 rfl rfl rfl) (pa_cons pe_int pa_nil))) (pa_cons (qv qv_law 1 rfl rfl rfl) (pa_cons pe_int pa_nil)))))
      (pss_cons (q_set (i := 3) qv_law sc_law.nd rfl rfl rfl (q_call G_l_some (hr.mono (by first | decide | omega)) qg_law 3 rfl rfl T.m_l_some T.F_l_some.kp T.b_l_some .nil pass0 (pa_cons (qv qv_law 1 rfl rfl rfl) (pa_cons (pe_slice sl_list (pe_op op_cat (pe_slice sl_list (qv qv_law 0 rfl rfl rfl) (po_some pe_int) (po_some pe_int)) (pe_lst (pa_cons pe_int pa_nil))) po_none (po_some pe_int)) pa_nil))))
      (pss_cons (q_set (i := 4) qv_law sc_law.nd rfl rfl rfl (q_callTy call_listR qg_law 4 rfl rfl T.z_list bo_list (pa_cons (qv qv_law 3 rfl rfl rfl) pa_nil)))
      (pss_cons (q_set (i := 5) qv_law sc_law.nd rfl rfl rfl (q_call G_tree_of (hr.mono (by first | decide | omega)) qg_law 5 rfl rfl T.m_tree_of T.F_tree_of.kp T.b_tree_of .nil pass0 (pa_cons (q_call G_l_of (hr.mono (by first | decide | omega)) qg_law 6 rfl rfl T.m_l_of T.F_l_of.kp T.b_l_of .nil pass0 (pa_cons (qv qv_law 2 rfl rfl rfl) pa_nil)) (pa_cons (qv qv_law 4 rfl rfl rfl) pa_nil))))
      (pss_cons (ps_if (pt_cmpR (op_neD hr.units) (qv qv_law 4 rfl rfl rfl) (qv qv_law 3 rfl rfl rfl) (nomark _)) (pss_one (ps_ret pe_bl)) pss_nil)
      (pss_cons (ps_if (pt_cmp (pc_isN (qv qv_law 5 rfl rfl rfl))) (pss_cons (q_set (i := 6) qv_law sc_law.nd rfl rfl rfl (pe_lst pa_nil))
      (pss_cons (ps_for PassesOwn.never rfl (pi_range1 (qgl qg_law 7 rfl rfl) T.z_range (pa_cons (q_callB call_lenR qg_law 8 rfl rfl T.z_len bo_len (pa_cons (qv qv_law 3 rfl rfl rfl) pa_nil)) pa_nil)) (q_name (i := 7) qv_law sc_law.nd rfl rfl rfl) (pss_one (q_set (i := 6) qv_law sc_law.nd rfl rfl rfl (pe_op op_cat (qv qv_law 6 rfl rfl rfl) (pe_comp ["_law_p", "_law_q", "_law_five_here", "_law_some_here"] [none, some 7, some 2, some 3] rfl  (pi_range1 (qgl qg_law 7 rfl rfl) T.z_range (pa_cons (qv qv_law 7 rfl rfl rfl) pa_nil)) (fun _ _ _ _ => (pg_name (i := 0) (show (["_law_p", "_law_q", "_law_five_here", "_law_some_here"] : List Str).Nodup by decide +kernel) rfl (Or.inl rfl))) (fun _ _ _ _ => (pts_one (pt_not (pt_val (pe_call G_l_apart (hr.mono (by decide)) rfl T.m_l_apart T.F_l_apart.kp T.b_l_apart .nil pass0 (pa_cons (pv 2) (pa_cons (pe_ix ix_listC (pv 3) (pv 0) (fun _ _ => rfl)) (pa_cons (pe_ix ix_listC (pv 3) (pv 1) (fun _ _ => rfl)) pa_nil)))))))) (fun _ _ _ _ => (pe_tup (pa_cons (pv 0) (pa_cons (pv 1) pa_nil)))) rfl rfl)))))
      (pss_one (ps_ret (pe_cmpR op_lt (q_callB call_lenD qg_law 8 rfl rfl T.z_len bo_len (pa_cons (q_call G_l_reached (hr.mono (by first | decide | omega)) qg_law 9 rfl rfl T.m_l_reached T.F_l_reached.kp T.b_l_reached .nil pass0 (pa_cons (qv qv_law 2 rfl rfl rfl) (pa_cons (qv qv_law 3 rfl rfl rfl) (pa_cons (qv qv_law 6 rfl rfl rfl) (pa_cons pe_int pa_nil))))) pa_nil)) (q_callB call_lenR qg_law 8 rfl rfl T.z_len bo_len (pa_cons (qv qv_law 3 rfl rfl rfl) pa_nil)) (nomark _)))))) pss_nil)
      (pss_cons (ps_if (PW.pt (pw_or (pt_not (pt_val (q_callB call_isK qg_law 10 rfl rfl T.z_isinstance bo_isinstance (pa_cons (qv qv_law 5 rfl rfl rfl) (pa_cons (q_bltn (v := .ty "tuple") qg_law 11 rfl rfl T.z_tuple bo_tuple rfl) pa_nil))))) (pw_or (pt_cmpR op_ne (q_callB call_lenR qg_law 8 rfl rfl T.z_len bo_len (pa_cons (qv qv_law 5 rfl rfl rfl) pa_nil)) pe_int (nomark _)) (pw_or1 (pt_not (pt_val (q_callB call_isK qg_law 10 rfl rfl T.z_isinstance bo_isinstance (pa_cons (pe_ix ix_tup (qv qv_law 5 rfl rfl rfl) pe_int (fun _ _ => rfl)) (pa_cons (q_bltn (v := .ty "list") qg_law 4 rfl rfl T.z_list bo_list rfl) pa_nil))))))))) (pss_one (ps_ret pe_bl)) pss_nil)
      (pss_one (ps_ret (q_call G_l_is_tree (hr.mono (by first | decide | omega)) qg_law 12 rfl rfl T.m_l_is_tree T.F_l_is_tree.kp T.b_l_is_tree .nil pass0 (pa_cons (qv qv_law 2 rfl rfl rfl) (pa_cons (qv qv_law 3 rfl rfl rfl) (pa_cons (qv qv_law 5 rfl rfl rfl) pa_nil)))))))))))))), ?_⟩
  walk_at "vc"
  refine ⟨a, 0, ns, rfl, hS, by decide, hlen, fun c0 => ?_⟩
  walk_at "vc"
  refine ⟨c0, rfl, fun lw ws H1 hlw0 S1 hlw W => ?_⟩
  walk_at "vc"
  have hS1 := S1.seq hS
  refine ⟨a, 1, ns, rfl, hS1, by decide, hlen, fun c1 => ?_⟩
  walk_at "vc"
  refine ⟨c1, 30, lw, ws, rfl, SqL.of hlw, W, by decide, by decide, fun f a0 a1 a2 a3 a4 rooms rows th ap pg H3 S3 hf0 F D => ?_⟩
  have Z3 : Same H H3 := S1.trans S3
  have hw3 := S3 _ _ hlw
  have D3 := D.ok W (by decide) (by decide)
  walk_at "vc"
  refine vc_slL (Z3.seq hS) fun b0 hb0 => ?_
  obtain ⟨ms, ems, ml⟩ := cut_to ns
  rw [ems]
  have Y4 := same_new hb0 (.lst (ms.map V.int))
  have g4 : upd H3 b0 (.lst (ms.map V.int)) b0 = some (.lst (ms.map V.int)) := upd_same
  generalize upd H3 b0 (.lst (ms.map V.int)) = H4 at *
  walk_at "vc"
  refine ⟨(by show 1 ≤ sizeLine; decide), fun b1 hb1 => ?_⟩
  have Y5 := same_new hb1 (.lst [V.int 0])
  have g5 : upd H4 b1 (.lst [V.int 0]) b1 = some (.lst [V.int 0]) := upd_same
  generalize upd H4 b1 (.lst [V.int 0]) = H5 at *
  refine vc_cat (Y5 _ _ g4) g5 (by rw [List.length_map, sizeLine_eq]; show ms.length + 1 ≤ _; omega) fun b2 hb2 => ?_
  rw [show ms.map V.int ++ [V.int 0] = (ms ++ [0]).map V.int by rw [List.map_append]; rfl]
  have Y6 := same_new hb2 (.lst ((ms ++ [0]).map V.int))
  have g6 : upd H5 b2 (.lst ((ms ++ [0]).map V.int)) b2 = some (.lst ((ms ++ [0]).map V.int)) := upd_same
  generalize upd H5 b2 (.lst ((ms ++ [0]).map V.int)) = H6 at *
  walk_at "vc"
  refine vc_slL (SqL.of g6) fun sl hsl => ?_
  have e20 : cutV ((ms ++ [0]).map V.int) none (some 20) = ((ms ++ [0]).take 20).map V.int := by
    rw [List.map_take]
    exact cutV_take _ 20
  rw [e20]
  have Y8 := same_new hsl (.lst (((ms ++ [0]).take 20).map V.int))
  have g8 : upd H6 sl (.lst (((ms ++ [0]).take 20).map V.int)) sl = some (.lst (((ms ++ [0]).take 20).map V.int)) := upd_same
  generalize upd H6 sl (.lst (((ms ++ [0]).take 20).map V.int)) = H8 at *
  have Z38 := Y4.trans (Y5.trans (Y6.trans Y8))
  have tlen : 1 ≤ ((ms ++ [0]).take 20).length ∧ ((ms ++ [0]).take 20).length ≤ 20 := by
    rw [List.length_take, List.length_append, List.length_singleton]
    omega
  walk_at "vc"
  refine ⟨lw, sl, ws, (ms ++ [0]).take 20, rfl, SqL.of (Z38 _ _ hw3), W, SqL.of g8, by omega, fun lz ss H9 S9 nlz glz sl9 sw => ?_⟩
  have ls : ∀ s ∈ ss, Let s := fun s hs => (W.ok _ (sw s hs)).1
  have s1 : 1 ≤ ss.length := by omega
  have s20 : ss.length ≤ 20 := by omega
  have F9 := F.same (Z38.trans S9)
  walk_at "vc"
  refine vc_listL (SqL.of glz) fun lh hlh => ?_
  have Y10 := same_new hlh (.lst (ss.map V.str))
  have gh : upd H9 lh (.lst (ss.map V.str)) lh = some (.lst (ss.map V.str)) := upd_same
  generalize upd H9 lh (.lst (ss.map V.str)) = H10 at *
  have gz10 := Y10 _ _ glz
  have F10 := F9.same Y10
  obtain ⟨r1, x1, y1⟩ := F10.h1
  obtain ⟨r2, x2, y2⟩ := F10.h2
  obtain ⟨r3, x3, y3⟩ := F10.h3
  walk_at "vc"
  refine ⟨f, a0, a1, a2, a3, .ref a4, _, _, _, _, rfl, SqL.of F10.hf, SqL.of F10.h0, SqL.of x1, SqL.of x2, SqL.of x3, fun xp dp l1 l2 l3 l4 H11 nxp nl hlnd hxl S11 p1 p2 p3 p4 gp => ?_⟩
  have PD : PipeD K H11 t.c_Pipe xp rooms rows th ap := ⟨l1, l2, l3, l4, .ref a4, r1, r2, r3, ⟨dp, gp⟩, SqL.of p1, SqL.of p2, y1.same S11, SqL.of p3, y2.same S11, SqL.of p4, y3.same S11⟩
  walk_at "vc"
  have chk : ∀ {G : Hp}, Same H10 G → Rep K G (.ref lh) (.list (ss.map PySem.W.Dat.str)) ∧ Rep K G (.ref lz) (.list (ss.map PySem.W.Dat.str)) := fun {G} e => ⟨.lst (SqL.of (e _ _ gh)) (reps_strs ss), .lst (SqL.of (e _ _ gz10)) (reps_strs ss)⟩
  refine ⟨xp, lh, rooms, rows, th, ap, ss, rfl, PD, D3, SqL.of (S11 _ _ gh), ls, s1, by omega, fun R rest H12 S12 stk => ?_, fun r l fw as R Tr H12 S12 gr TA => ?_⟩
  · have S12' := S11.trans S12
    have F12 := F10.same S12'
    obtain ⟨r3', x3', y3'⟩ := F12.h3
    have hz12 : SqL K H12 lz (ss.map V.str) := SqL.of (S12' _ _ gz10)
    walk_at "vc"
    refine ⟨.list (ss.map PySem.W.Dat.str), .list (ss.map PySem.W.Dat.str), (chk S12').1, (chk S12').2, kqd_strs ls, kqd_strs ls, ?_⟩
    rw [dec_true rfl]
    walk_at "vc"
    rw [dec_true rfl]
    walk_at "vc"
    refine ⟨(by show 0 ≤ sizeLine; decide), fun la hla => ?_⟩
    have Y13 := same_new hla (.lst [])
    have g13 : upd H12 la (.lst []) la = some (.lst []) := upd_same
    generalize upd H12 la (.lst []) = H13 at *
    walk_at "vc"
    refine vc_lenL (Y13.seq hz12) ?_
    walk_at "vc"
    rw [List.length_map]
    refine ⟨_, rfl, by omega, by omega, for_range (n := ((ss.length : Int)).toNat) (fun j σ G => ∃ (la : Addr) (as : List Addr) (ps : List (Int × Int)) (u7 : Option V), σ = [some (.ref a), some (.ref lw), some (.ref f), some (.ref lz), some (.ref lh), some .non, some (.ref la), u7] ∧ Same H13 G ∧ G la = some (.lst (as.map V.ref)) ∧ TupP K G as ps ∧ PairsOk (Wn rooms rows th ap ss) ss.length ps ∧ ps.length ≤ j * 20)
      ⟨la, [], [], _, rfl, Same.refl _, g13, .nil, ⟨fun _ h => nomatch h⟩, by simp⟩ ?_ ?_⟩
    · rintro j σ G hj ⟨la, as, ps, u7, rfl, sG, gla, tup, pok, pl⟩
      have hj' : j < ss.length := by omega
      have al := tup.len
      have SG := Y13.trans sG
      have lj : (0 + (j : Int)).toNat < ss.length := by omega
      walk_at "vc"
      refine ⟨_, rfl, by omega, by omega, fun d hd => comp_gen (n := (0 + (j : Int)).toNat) (fun i x => x = .int (0 + (i : Int))) hd (small1000 (by omega)) (hJ_rng _ _ _) (fun i ys G' => ∃ (as' : List Addr) (ps' : List (Int × Int)), ys = as'.map V.ref ∧ TupP K G' as' ps' ∧ PairsOk (Wn rooms rows th ap ss) ss.length ps' ∧ ps'.length ≤ i) (fun σ => ∃ u, σ = [u, some (.int (0 + (j : Int))), some (.ref f), some (.ref lz)]) ⟨[], [], rfl, .nil, ⟨fun _ h => nomatch h⟩, Nat.le_refl _⟩ ⟨_, rfl⟩ ?_ ?_⟩
      · rintro i y ys σ G2 R1 R0 hi rfl ⟨u, rfl⟩ s2 hDl ⟨as', ps', rfl, tup', pok', pl'⟩ k1 k0
        have SG2 := SG.trans s2
        have li : (0 + (i : Int)).toNat < ss.length := by omega
        walk_at "vc"
        refine vc_ixL (SG2.seq hz12) (at_str (by omega) li) ?_
        walk_at "vc"
        refine vc_ixL (SG2.seq hz12) (at_str (by omega) lj) ?_
        walk_at "vc"
        refine ⟨f, a0, a1, a2, a3, a4, r3', ap, ss[(0 + (i : Int)).toNat], ss[(0 + (j : Int)).toNat], rfl, SqL.of (SG2 _ _ F12.hf), SqL.of (SG2 _ _ x3'), y3'.same SG2, D3.apl, ls _ (List.getElem_mem _), ls _ (List.getElem_mem _), fun G3 S3' => ?_⟩
        walk_at "vc"
        by_cases e : (ss[(0 + (i : Int)).toNat], ss[(0 + (j : Int)).toNat]) ∈ ap ∨ (ss[(0 + (j : Int)).toNat], ss[(0 + (i : Int)).toNat]) ∈ ap
        · rw [dec_true e]
          walk_at "vc"
          exact k0 _ _ S3' ⟨_, rfl⟩ ⟨as', ps', rfl, tup'.same S3'.hid, pok', by omega⟩
        · rw [dec_false e]
          walk_at "vc"
          refine ⟨(by show 2 ≤ sizeLine; decide), fun e1 he1 => ?_⟩
          have X1 := same_new he1 (.tup [.int (0 + (i : Int)), .int (0 + (j : Int))])
          have n1 : e1 ≠ d := (ne_of_none (S3' _ _ hDl) he1).symm
          refine k1 _ _ _ (S3'.trans X1) ⟨_, rfl⟩ ⟨as' ++ [e1], ps' ++ [(0 + (i : Int), 0 + (j : Int))], by rw [List.map_append]; rfl, (tup'.same (S3'.trans X1).hid).snoc (p := (0 + (i : Int), 0 + (j : Int))) (SqT.of (by rw [hid_ne n1]; exact upd_same)), ⟨fun p hp => ?_⟩, by rw [List.length_append, List.length_singleton]; omega⟩
          rcases List.mem_append.mp hp with z | z
          · exact pok'.ok p z
          · rw [List.mem_singleton.mp z]
            exact ⟨⟨by show 0 ≤ 0 + (i : Int); omega, by show 0 + (i : Int) < _; omega⟩, ⟨by show 0 ≤ 0 + (j : Int); omega, by show 0 + (j : Int) < _; omega⟩, _, (wn_waste li lj).2 e⟩
      rintro ys G2 s2 hDl hly ⟨as', ps', rfl, tup', pok', pl'⟩
      replace tup' := tup'.same (hid_same _ _)
      have al' := tup'.len
      walk_at "vc"
      refine vc_cat (s2 _ _ gla) hDl (by rw [List.length_map, List.length_map, sizeLine_eq]; have : j * 20 ≤ 20 * 20 := Nat.mul_le_mul_right _ (by omega); omega) fun ln hln => ?_
      rw [← List.map_append]
      have X2 := same_new hln (.lst ((as ++ as').map V.ref))
      walk_at "vc"
      refine ⟨ln, as ++ as', ps ++ ps', _, rfl, sG.trans (s2.trans X2), upd_same, tupP_append (tup.same (s2.trans X2)) (tup'.same X2), ⟨fun p hp => ?_⟩, ?_⟩
      · rcases List.mem_append.mp hp with z | z
        · exact pok.ok p z
        · exact pok'.ok p z
      · rw [List.length_append, Nat.succ_mul]
        omega
    · rintro σ G ⟨la, as, ps, u7, rfl, sG, gla, tup, pok, pl⟩
      have SG := Y13.trans sG
      have inR : ∀ {x}, 0 ≤ x → x < (ss.length : Int) → x ∈ R ∨ x ∈ rest := fun {x} h0 h1 => List.mem_append.mp (stk.all.mem_iff.mpr (mem_nums h0 h1))
      have pl2 : ps.length ≤ 400 := Nat.le_trans pl (Nat.le_trans (Nat.mul_le_mul_right 20 (show ((ss.length : Int)).toNat ≤ 20 by omega)) (by decide))
      walk_at "vc"
      refine ⟨f, lz, la, a0, a1, a2, a3, a4, 0, rooms, rows, th, ap, pg, ss, as, ps, fun es => ∀ x ∈ ks es, x ∈ R, rfl, F12.same SG, D3, SG.seq hz12, ls, by omega, gla, tup, by omega, pok, by decide, by omega, fun x hx => by rw [List.mem_singleton.mp hx]; exact stk.zero, fun es h v q' w' hR hh hq he hw => fun x hx => ?_, fun d kvs es G3 S3' gd hE hF hR hC => ?_⟩
      · rw [ks_snoc] at hx
        rcases List.mem_append.mp hx with z | z
        · exact hR x z
        · rw [List.mem_singleton.mp z]
          have bq : 0 ≤ q' ∧ q' < (ss.length : Int) := by
            rcases he with z | z
            · exact (pok.ok _ z).2.1
            · exact (pok.ok _ z).1
          rcases inR bq.1 bq.2 with z | z
          · exact z
          · have := stk.no h (hR h (List.mem_map.mpr ⟨_, hh, rfl⟩)) q' z
            rw [hw] at this
            cases this
      walk_at "vc"
      refine ⟨d, kvs, rfl, gd, ?_⟩
      walk_at "vc"
      refine vc_lenL ((SG.trans S3').seq hz12) ?_
      walk_at "vc"
      have x1 := nd_len hF.nd hR
      have x2 := stk.all.length_eq
      rw [List.length_append, nums_len] at x2
      have x3 : rest.length ≠ 0 := fun z => stk.ne (List.length_eq_zero_iff.mp z)
      rw [List.length_map] at x1
      rw [dec_true (by rw [List.length_map, hE.len]; omega)]
      exact q _
  · have S12' := S11.trans S12
    have F12 := F10.same S12'
    have hz12 : SqL K H12 lz (ss.map V.str) := SqL.of (S12' _ _ gz10)
    have grT : SqT K H12 r [.ref l, .ref fw] := SqT.of gr
    walk_at "vc"
    refine ⟨.list (ss.map PySem.W.Dat.str), .list (ss.map PySem.W.Dat.str), (chk S12').1, (chk S12').2, kqd_strs ls, kqd_strs ls, ?_⟩
    rw [dec_true rfl]
    walk_at "vc"
    rw [dec_false (fun z => by cases z)]
    walk_at "vc"
    refine vc_isK (b := true) (.tup grT) rfl ?_
    walk_at "vc"
    refine vc_lenT grT ?_
    walk_at "vc"
    refine iteNS rfl ?_
    walk_at "vc"
    refine vc_isK (b := true) (.lst (SqL.of TA.at_)) rfl ?_
    walk_at "vc"
    refine ⟨f, lz, r, l, fw, a0, a1, a2, a3, a4, rooms, rows, th, ap, pg, ss, as, R, Tr, rfl, F12, D3, hz12, ls, by omega, gr, TA, fun G S => ?_⟩
    exact q _
end
theorem len_s {n : Nat} : ∀ {us : List Value}, us.length = n + 1 → ∃ x xs, us = x :: xs ∧ xs.length = n
  | x :: xs, h => ⟨x, xs, rfl, Nat.succ.inj h⟩
theorem of_len1 {f : FuncData} {ps : List Str} (h : ∀ x0, bindArgs f ⟨[x0], []⟩ = pure (ps.zip [x0])) (us : List Value) (hl : us.length = 1) : bindArgs f ⟨us, []⟩ = pure (ps.zip us) := by
  obtain ⟨x0, u0, rfl, l0⟩ := len_s hl
  cases List.eq_nil_of_length_eq_zero l0
  exact h x0
theorem of_len2 {f : FuncData} {ps : List Str} (h : ∀ x0 x1, bindArgs f ⟨[x0, x1], []⟩ = pure (ps.zip [x0, x1])) (us : List Value) (hl : us.length = 2) : bindArgs f ⟨us, []⟩ = pure (ps.zip us) := by
  obtain ⟨x0, u0, rfl, l0⟩ := len_s hl
  obtain ⟨x1, u1, rfl, l1⟩ := len_s l0
  cases List.eq_nil_of_length_eq_zero l1
  exact h x0 x1
theorem of_len3 {f : FuncData} {ps : List Str} (h : ∀ x0 x1 x2, bindArgs f ⟨[x0, x1, x2], []⟩ = pure (ps.zip [x0, x1, x2])) (us : List Value) (hl : us.length = 3) : bindArgs f ⟨us, []⟩ = pure (ps.zip us) := by
  obtain ⟨x0, u0, rfl, l0⟩ := len_s hl
  obtain ⟨x1, u1, rfl, l1⟩ := len_s l0
  obtain ⟨x2, u2, rfl, l2⟩ := len_s l1
  cases List.eq_nil_of_length_eq_zero l2
  exact h x0 x1 x2
theorem of_len4 {f : FuncData} {ps : List Str} (h : ∀ x0 x1 x2 x3, bindArgs f ⟨[x0, x1, x2, x3], []⟩ = pure (ps.zip [x0, x1, x2, x3])) (us : List Value) (hl : us.length = 4) : bindArgs f ⟨us, []⟩ = pure (ps.zip us) := by
  obtain ⟨x0, u0, rfl, l0⟩ := len_s hl
  obtain ⟨x1, u1, rfl, l1⟩ := len_s l0
  obtain ⟨x2, u2, rfl, l2⟩ := len_s l1
  obtain ⟨x3, u3, rfl, l3⟩ := len_s l2
  cases List.eq_nil_of_length_eq_zero l3
  exact h x0 x1 x2 x3
theorem of_len5 {f : FuncData} {ps : List Str} (h : ∀ x0 x1 x2 x3 x4, bindArgs f ⟨[x0, x1, x2, x3, x4], []⟩ = pure (ps.zip [x0, x1, x2, x3, x4])) (us : List Value) (hl : us.length = 5) : bindArgs f ⟨us, []⟩ = pure (ps.zip us) := by
  obtain ⟨x0, u0, rfl, l0⟩ := len_s hl
  obtain ⟨x1, u1, rfl, l1⟩ := len_s l0
  obtain ⟨x2, u2, rfl, l2⟩ := len_s l1
  obtain ⟨x3, u3, rfl, l3⟩ := len_s l2
  obtain ⟨x4, u4, rfl, l4⟩ := len_s l3
  cases List.eq_nil_of_length_eq_zero l4
  exact h x0 x1 x2 x3 x4
theorem of_len6 {f : FuncData} {ps : List Str} (h : ∀ x0 x1 x2 x3 x4 x5, bindArgs f ⟨[x0, x1, x2, x3, x4, x5], []⟩ = pure (ps.zip [x0, x1, x2, x3, x4, x5])) (us : List Value) (hl : us.length = 6) : bindArgs f ⟨us, []⟩ = pure (ps.zip us) := by
  obtain ⟨x0, u0, rfl, l0⟩ := len_s hl
  obtain ⟨x1, u1, rfl, l1⟩ := len_s l0
  obtain ⟨x2, u2, rfl, l2⟩ := len_s l1
  obtain ⟨x3, u3, rfl, l3⟩ := len_s l2
  obtain ⟨x4, u4, rfl, l4⟩ := len_s l3
  obtain ⟨x5, u5, rfl, l5⟩ := len_s l4
  cases List.eq_nil_of_length_eq_zero l5
  exact h x0 x1 x2 x3 x4 x5
set_option maxHeartbeats 0 in
theorem all_mk {K : PySem.W.Frag} {h : Heap} {mg : Str → Option Value} {fa : Addr} (X : K.In h) (G : h.Ns mainGlobals mg) (hfa : mg "law" = some (.ref fa))
    {c_Pipe f0 f1 f2 f3 f4 f5 f6 f7 f8 f9 f10 f11 f12 f13 f14 f15 f16 f17 f18 f19 f20 f21 f22 f23 f24 f25 f26 f27 f28 f29 f30 f31 f32 f33 f34 f35 f36 : Addr}
    {od0 an0 : Option Addr} {sl0 : Array (Option Value)} {oc0 kV0 dc0 pm0 cd0 ct0 : Value}
    {od1 an1 : Option Addr} {sl1 : Array (Option Value)} {oc1 kV1 dc1 pm1 cd1 ct1 : Value}
    {od2 an2 : Option Addr} {sl2 : Array (Option Value)} {oc2 kV2 dc2 pm2 cd2 ct2 : Value}
    {od3 an3 : Option Addr} {sl3 : Array (Option Value)} {oc3 kV3 dc3 pm3 cd3 ct3 : Value}
    {od4 an4 : Option Addr} {sl4 : Array (Option Value)} {oc4 kV4 dc4 pm4 cd4 ct4 : Value}
    {od5 an5 : Option Addr} {sl5 : Array (Option Value)} {oc5 kV5 dc5 pm5 cd5 ct5 : Value}
    {od6 an6 : Option Addr} {sl6 : Array (Option Value)} {oc6 kV6 dc6 pm6 cd6 ct6 : Value}
    {od7 an7 : Option Addr} {sl7 : Array (Option Value)} {oc7 kV7 dc7 pm7 cd7 ct7 : Value}
    {od8 an8 : Option Addr} {sl8 : Array (Option Value)} {oc8 kV8 dc8 pm8 cd8 ct8 : Value}
    {od9 an9 : Option Addr} {sl9 : Array (Option Value)} {oc9 kV9 dc9 pm9 cd9 ct9 : Value}
    {od10 an10 : Option Addr} {sl10 : Array (Option Value)} {oc10 kV10 dc10 pm10 cd10 ct10 : Value}
    {od11 an11 : Option Addr} {sl11 : Array (Option Value)} {oc11 kV11 dc11 pm11 cd11 ct11 : Value}
    {od12 an12 : Option Addr} {sl12 : Array (Option Value)} {oc12 kV12 dc12 pm12 cd12 ct12 : Value}
    {od13 an13 : Option Addr} {sl13 : Array (Option Value)} {oc13 kV13 dc13 pm13 cd13 ct13 : Value}
    {od14 an14 : Option Addr} {sl14 : Array (Option Value)} {oc14 kV14 dc14 pm14 cd14 ct14 : Value}
    {od15 an15 : Option Addr} {sl15 : Array (Option Value)} {oc15 kV15 dc15 pm15 cd15 ct15 : Value}
    {od16 an16 : Option Addr} {sl16 : Array (Option Value)} {oc16 kV16 dc16 pm16 cd16 ct16 : Value}
    {od17 an17 : Option Addr} {sl17 : Array (Option Value)} {oc17 kV17 dc17 pm17 cd17 ct17 : Value}
    {od18 an18 : Option Addr} {sl18 : Array (Option Value)} {oc18 kV18 dc18 pm18 cd18 ct18 : Value}
    {od19 an19 : Option Addr} {sl19 : Array (Option Value)} {oc19 kV19 dc19 pm19 cd19 ct19 : Value}
    {od20 an20 : Option Addr} {sl20 : Array (Option Value)} {oc20 kV20 dc20 pm20 cd20 ct20 : Value}
    {od21 an21 : Option Addr} {sl21 : Array (Option Value)} {oc21 kV21 dc21 pm21 cd21 ct21 : Value}
    {od22 an22 : Option Addr} {sl22 : Array (Option Value)} {oc22 kV22 dc22 pm22 cd22 ct22 : Value}
    {od23 an23 : Option Addr} {sl23 : Array (Option Value)} {oc23 kV23 dc23 pm23 cd23 ct23 : Value}
    {od24 an24 : Option Addr} {sl24 : Array (Option Value)} {oc24 kV24 dc24 pm24 cd24 ct24 : Value}
    {od25 an25 : Option Addr} {sl25 : Array (Option Value)} {oc25 kV25 dc25 pm25 cd25 ct25 : Value}
    {od26 an26 : Option Addr} {sl26 : Array (Option Value)} {oc26 kV26 dc26 pm26 cd26 ct26 : Value}
    {od27 an27 : Option Addr} {sl27 : Array (Option Value)} {oc27 kV27 dc27 pm27 cd27 ct27 : Value}
    {od28 an28 : Option Addr} {sl28 : Array (Option Value)} {oc28 kV28 dc28 pm28 cd28 ct28 : Value}
    {od29 an29 : Option Addr} {sl29 : Array (Option Value)} {oc29 kV29 dc29 pm29 cd29 ct29 : Value}
    {od30 an30 : Option Addr} {sl30 : Array (Option Value)} {oc30 kV30 dc30 pm30 cd30 ct30 : Value}
    {od31 an31 : Option Addr} {sl31 : Array (Option Value)} {oc31 kV31 dc31 pm31 cd31 ct31 : Value}
    {od32 an32 : Option Addr} {sl32 : Array (Option Value)} {oc32 kV32 dc32 pm32 cd32 ct32 : Value}
    {od33 an33 : Option Addr} {sl33 : Array (Option Value)} {oc33 kV33 dc33 pm33 cd33 ct33 : Value}
    {od34 an34 : Option Addr} {sl34 : Array (Option Value)} {oc34 kV34 dc34 pm34 cd34 ct34 : Value}
    {od35 an35 : Option Addr} {sl35 : Array (Option Value)} {oc35 kV35 dc35 pm35 cd35 ct35 : Value}
    {od36 an36 : Option Addr} {sl36 : Array (Option Value)} {oc36 kV36 dc36 pm36 cd36 ct36 : Value}
    (ac_Pipe : PySem.W.nsIn K mainGlobals "Pipe" = some (some (.ref c_Pipe)))
    (a0 : PySem.W.nsIn K mainGlobals "greatest_divisor" = some (some (.ref f0)))
    (l0 : K.lookup f0 = some ⟨oc0, od0, .func (PySem.W.fnOf "greatest_divisor" "greatest_divisor" (defArgs s_greatest_divisor) (defBody s_greatest_divisor) (defScope s_greatest_divisor) .none kV0 dc0 pm0 an0 cd0 ct0), sl0⟩) (e0 : PySem.W.codeIn K cd0 "greatest_divisor" = true) (k0 : PySem.W.keepIn K (.ref f0) = true)
    (a1 : PySem.W.nsIn K mainGlobals "made" = some (some (.ref f1)))
    (l1 : K.lookup f1 = some ⟨oc1, od1, .func (PySem.W.fnOf "made" "made" (defArgs s_made) (defBody s_made) (defScope s_made) .none kV1 dc1 pm1 an1 cd1 ct1), sl1⟩) (e1 : PySem.W.codeIn K cd1 "made" = true) (k1 : PySem.W.keepIn K (.ref f1) = true)
    (a2 : PySem.W.nsIn K mainGlobals "sum_of" = some (some (.ref f2)))
    (l2 : K.lookup f2 = some ⟨oc2, od2, .func (PySem.W.fnOf "sum_of" "sum_of" (defArgs s_sum_of) (defBody s_sum_of) (defScope s_sum_of) .none kV2 dc2 pm2 an2 cd2 ct2), sl2⟩) (e2 : PySem.W.codeIn K cd2 "sum_of" = true) (k2 : PySem.W.keepIn K (.ref f2) = true)
    (a3 : PySem.W.nsIn K mainGlobals "times" = some (some (.ref f3)))
    (l3 : K.lookup f3 = some ⟨oc3, od3, .func (PySem.W.fnOf "times" "times" (defArgs s_times) (defBody s_times) (defScope s_times) .none kV3 dc3 pm3 an3 cd3 ct3), sl3⟩) (e3 : PySem.W.codeIn K cd3 "times" = true) (k3 : PySem.W.keepIn K (.ref f3) = true)
    (a4 : PySem.W.nsIn K mainGlobals "below" = some (some (.ref f4)))
    (l4 : K.lookup f4 = some ⟨oc4, od4, .func (PySem.W.fnOf "below" "below" (defArgs s_below) (defBody s_below) (defScope s_below) .none kV4 dc4 pm4 an4 cd4 ct4), sl4⟩) (e4 : PySem.W.codeIn K cd4 "below" = true) (k4 : PySem.W.keepIn K (.ref f4) = true)
    (a5 : PySem.W.findIn K (.ref c_Pipe) "__init__" = some (some (.ref f5))) (i5 : PySem.W.isFn K (.ref f5) = true)
    (l5 : K.lookup f5 = some ⟨oc5, od5, .func (PySem.W.fnOf "__init__" "Pipe.__init__" (defArgs s_Pipe___init__) (defBody s_Pipe___init__) (defScope s_Pipe___init__) .none kV5 dc5 pm5 an5 cd5 ct5), sl5⟩) (e5 : PySem.W.codeIn K cd5 "Pipe.__init__" = true) (k5 : PySem.W.keepIn K (.ref f5) = true)
    (a6 : PySem.W.nsIn K mainGlobals "place_of" = some (some (.ref f6)))
    (l6 : K.lookup f6 = some ⟨oc6, od6, .func (PySem.W.fnOf "place_of" "place_of" (defArgs s_place_of) (defBody s_place_of) (defScope s_place_of) .none kV6 dc6 pm6 an6 cd6 ct6), sl6⟩) (e6 : PySem.W.codeIn K cd6 "place_of" = true) (k6 : PySem.W.keepIn K (.ref f6) = true)
    (a7 : PySem.W.nsIn K mainGlobals "end_of" = some (some (.ref f7)))
    (l7 : K.lookup f7 = some ⟨oc7, od7, .func (PySem.W.fnOf "end_of" "end_of" (defArgs s_end_of) (defBody s_end_of) (defScope s_end_of) .none kV7 dc7 pm7 an7 cd7 ct7), sl7⟩) (e7 : PySem.W.codeIn K cd7 "end_of" = true) (k7 : PySem.W.keepIn K (.ref f7) = true)
    (a8 : PySem.W.nsIn K mainGlobals "half_at" = some (some (.ref f8)))
    (l8 : K.lookup f8 = some ⟨oc8, od8, .func (PySem.W.fnOf "half_at" "half_at" (defArgs s_half_at) (defBody s_half_at) (defScope s_half_at) .none kV8 dc8 pm8 an8 cd8 ct8), sl8⟩) (e8 : PySem.W.codeIn K cd8 "half_at" = true) (k8 : PySem.W.keepIn K (.ref f8) = true)
    (a9 : PySem.W.nsIn K mainGlobals "thick_of" = some (some (.ref f9)))
    (l9 : K.lookup f9 = some ⟨oc9, od9, .func (PySem.W.fnOf "thick_of" "thick_of" (defArgs s_thick_of) (defBody s_thick_of) (defScope s_thick_of) .none kV9 dc9 pm9 an9 cd9 ct9), sl9⟩) (e9 : PySem.W.codeIn K cd9 "thick_of" = true) (k9 : PySem.W.keepIn K (.ref f9) = true)
    (a10 : PySem.W.nsIn K mainGlobals "are_apart" = some (some (.ref f10)))
    (l10 : K.lookup f10 = some ⟨oc10, od10, .func (PySem.W.fnOf "are_apart" "are_apart" (defArgs s_are_apart) (defBody s_are_apart) (defScope s_are_apart) .none kV10 dc10 pm10 an10 cd10 ct10), sl10⟩) (e10 : PySem.W.codeIn K cd10 "are_apart" = true) (k10 : PySem.W.keepIn K (.ref f10) = true)
    (a11 : PySem.W.nsIn K mainGlobals "half_between" = some (some (.ref f11)))
    (l11 : K.lookup f11 = some ⟨oc11, od11, .func (PySem.W.fnOf "half_between" "half_between" (defArgs s_half_between) (defBody s_half_between) (defScope s_half_between) .none kV11 dc11 pm11 an11 cd11 ct11), sl11⟩) (e11 : PySem.W.codeIn K cd11 "half_between" = true) (k11 : PySem.W.keepIn K (.ref f11) = true)
    (a12 : PySem.W.nsIn K mainGlobals "waste_between" = some (some (.ref f12)))
    (l12 : K.lookup f12 = some ⟨oc12, od12, .func (PySem.W.fnOf "waste_between" "waste_between" (defArgs s_waste_between) (defBody s_waste_between) (defScope s_waste_between) .none kV12 dc12 pm12 an12 cd12 ct12), sl12⟩) (e12 : PySem.W.codeIn K cd12 "waste_between" = true) (k12 : PySem.W.keepIn K (.ref f12) = true)
    (a13 : PySem.W.nsIn K mainGlobals "wastes_of" = some (some (.ref f13)))
    (l13 : K.lookup f13 = some ⟨oc13, od13, .func (PySem.W.fnOf "wastes_of" "wastes_of" (defArgs s_wastes_of) (defBody s_wastes_of) (defScope s_wastes_of) .none kV13 dc13 pm13 an13 cd13 ct13), sl13⟩) (e13 : PySem.W.codeIn K cd13 "wastes_of" = true) (k13 : PySem.W.keepIn K (.ref f13) = true)
    (a14 : PySem.W.nsIn K mainGlobals "wastes_from" = some (some (.ref f14)))
    (l14 : K.lookup f14 = some ⟨oc14, od14, .func (PySem.W.fnOf "wastes_from" "wastes_from" (defArgs s_wastes_from) (defBody s_wastes_from) (defScope s_wastes_from) .none kV14 dc14 pm14 an14 cd14 ct14), sl14⟩) (e14 : PySem.W.codeIn K cd14 "wastes_from" = true) (k14 : PySem.W.keepIn K (.ref f14) = true)
    (a15 : PySem.W.nsIn K mainGlobals "steps_from" = some (some (.ref f15)))
    (l15 : K.lookup f15 = some ⟨oc15, od15, .func (PySem.W.fnOf "steps_from" "steps_from" (defArgs s_steps_from) (defBody s_steps_from) (defScope s_steps_from) .none kV15 dc15 pm15 an15 cd15 ct15), sl15⟩) (e15 : PySem.W.codeIn K cd15 "steps_from" = true) (k15 : PySem.W.keepIn K (.ref f15) = true)
    (a16 : PySem.W.nsIn K mainGlobals "least_of" = some (some (.ref f16)))
    (l16 : K.lookup f16 = some ⟨oc16, od16, .func (PySem.W.fnOf "least_of" "least_of" (defArgs s_least_of) (defBody s_least_of) (defScope s_least_of) .none kV16 dc16 pm16 an16 cd16 ct16), sl16⟩) (e16 : PySem.W.codeIn K cd16 "least_of" = true) (k16 : PySem.W.keepIn K (.ref f16) = true)
    (a17 : PySem.W.nsIn K mainGlobals "tree_of" = some (some (.ref f17)))
    (l17 : K.lookup f17 = some ⟨oc17, od17, .func (PySem.W.fnOf "tree_of" "tree_of" (defArgs s_tree_of) (defBody s_tree_of) (defScope s_tree_of) .none kV17 dc17 pm17 an17 cd17 ct17), sl17⟩) (e17 : PySem.W.codeIn K cd17 "tree_of" = true) (k17 : PySem.W.keepIn K (.ref f17) = true)
    (a18 : PySem.W.nsIn K mainGlobals "steps_between" = some (some (.ref f18)))
    (l18 : K.lookup f18 = some ⟨oc18, od18, .func (PySem.W.fnOf "steps_between" "steps_between" (defArgs s_steps_between) (defBody s_steps_between) (defScope s_steps_between) .none kV18 dc18 pm18 an18 cd18 ct18), sl18⟩) (e18 : PySem.W.codeIn K cd18 "steps_between" = true) (k18 : PySem.W.keepIn K (.ref f18) = true)
    (a19 : PySem.W.nsIn K mainGlobals "_law_mix" = some (some (.ref f19)))
    (l19 : K.lookup f19 = some ⟨oc19, od19, .func (PySem.W.fnOf "_law_mix" "_law_mix" (defArgs s_l_mix) (defBody s_l_mix) (defScope s_l_mix) .none kV19 dc19 pm19 an19 cd19 ct19), sl19⟩) (e19 : PySem.W.codeIn K cd19 "_law_mix" = true) (k19 : PySem.W.keepIn K (.ref f19) = true)
    (a20 : PySem.W.nsIn K mainGlobals "_law_at" = some (some (.ref f20)))
    (l20 : K.lookup f20 = some ⟨oc20, od20, .func (PySem.W.fnOf "_law_at" "_law_at" (defArgs s_l_at) (defBody s_l_at) (defScope s_l_at) .none kV20 dc20 pm20 an20 cd20 ct20), sl20⟩) (e20 : PySem.W.codeIn K cd20 "_law_at" = true) (k20 : PySem.W.keepIn K (.ref f20) = true)
    (a21 : PySem.W.nsIn K mainGlobals "_law_wares" = some (some (.ref f21)))
    (l21 : K.lookup f21 = some ⟨oc21, od21, .func (PySem.W.fnOf "_law_wares" "_law_wares" (defArgs s_l_wares) (defBody s_l_wares) (defScope s_l_wares) .none kV21 dc21 pm21 an21 cd21 ct21), sl21⟩) (e21 : PySem.W.codeIn K cd21 "_law_wares" = true) (k21 : PySem.W.keepIn K (.ref f21) = true)
    (a22 : PySem.W.nsIn K mainGlobals "_law_five" = some (some (.ref f22)))
    (l22 : K.lookup f22 = some ⟨oc22, od22, .func (PySem.W.fnOf "_law_five" "_law_five" (defArgs s_l_five) (defBody s_l_five) (defScope s_l_five) .none kV22 dc22 pm22 an22 cd22 ct22), sl22⟩) (e22 : PySem.W.codeIn K cd22 "_law_five" = true) (k22 : PySem.W.keepIn K (.ref f22) = true)
    (a23 : PySem.W.nsIn K mainGlobals "_law_apart" = some (some (.ref f23)))
    (l23 : K.lookup f23 = some ⟨oc23, od23, .func (PySem.W.fnOf "_law_apart" "_law_apart" (defArgs s_l_apart) (defBody s_l_apart) (defScope s_l_apart) .none kV23 dc23 pm23 an23 cd23 ct23), sl23⟩) (e23 : PySem.W.codeIn K cd23 "_law_apart" = true) (k23 : PySem.W.keepIn K (.ref f23) = true)
    (a24 : PySem.W.nsIn K mainGlobals "_law_pipe" = some (some (.ref f24)))
    (l24 : K.lookup f24 = some ⟨oc24, od24, .func (PySem.W.fnOf "_law_pipe" "_law_pipe" (defArgs s_l_pipe) (defBody s_l_pipe) (defScope s_l_pipe) .none kV24 dc24 pm24 an24 cd24 ct24), sl24⟩) (e24 : PySem.W.codeIn K cd24 "_law_pipe" = true) (k24 : PySem.W.keepIn K (.ref f24) = true)
    (a25 : PySem.W.nsIn K mainGlobals "_law_of" = some (some (.ref f25)))
    (l25 : K.lookup f25 = some ⟨oc25, od25, .func (PySem.W.fnOf "_law_of" "_law_of" (defArgs s_l_of) (defBody s_l_of) (defScope s_l_of) .none kV25 dc25 pm25 an25 cd25 ct25), sl25⟩) (e25 : PySem.W.codeIn K cd25 "_law_of" = true) (k25 : PySem.W.keepIn K (.ref f25) = true)
    (a26 : PySem.W.nsIn K mainGlobals "_law_lowest" = some (some (.ref f26)))
    (l26 : K.lookup f26 = some ⟨oc26, od26, .func (PySem.W.fnOf "_law_lowest" "_law_lowest" (defArgs s_l_lowest) (defBody s_l_lowest) (defScope s_l_lowest) .none kV26 dc26 pm26 an26 cd26 ct26), sl26⟩) (e26 : PySem.W.codeIn K cd26 "_law_lowest" = true) (k26 : PySem.W.keepIn K (.ref f26) = true)
    (a27 : PySem.W.nsIn K mainGlobals "_law_half" = some (some (.ref f27)))
    (l27 : K.lookup f27 = some ⟨oc27, od27, .func (PySem.W.fnOf "_law_half" "_law_half" (defArgs s_l_half) (defBody s_l_half) (defScope s_l_half) .none kV27 dc27 pm27 an27 cd27 ct27), sl27⟩) (e27 : PySem.W.codeIn K cd27 "_law_half" = true) (k27 : PySem.W.keepIn K (.ref f27) = true)
    (a28 : PySem.W.nsIn K mainGlobals "_law_thick" = some (some (.ref f28)))
    (l28 : K.lookup f28 = some ⟨oc28, od28, .func (PySem.W.fnOf "_law_thick" "_law_thick" (defArgs s_l_thick) (defBody s_l_thick) (defScope s_l_thick) .none kV28 dc28 pm28 an28 cd28 ct28), sl28⟩) (e28 : PySem.W.codeIn K cd28 "_law_thick" = true) (k28 : PySem.W.keepIn K (.ref f28) = true)
    (a29 : PySem.W.nsIn K mainGlobals "_law_waste" = some (some (.ref f29)))
    (l29 : K.lookup f29 = some ⟨oc29, od29, .func (PySem.W.fnOf "_law_waste" "_law_waste" (defArgs s_l_waste) (defBody s_l_waste) (defScope s_l_waste) .none kV29 dc29 pm29 an29 cd29 ct29), sl29⟩) (e29 : PySem.W.codeIn K cd29 "_law_waste" = true) (k29 : PySem.W.keepIn K (.ref f29) = true)
    (a30 : PySem.W.nsIn K mainGlobals "_law_sum" = some (some (.ref f30)))
    (l30 : K.lookup f30 = some ⟨oc30, od30, .func (PySem.W.fnOf "_law_sum" "_law_sum" (defArgs s_l_sum) (defBody s_l_sum) (defScope s_l_sum) .none kV30 dc30 pm30 an30 cd30 ct30), sl30⟩) (e30 : PySem.W.codeIn K cd30 "_law_sum" = true) (k30 : PySem.W.keepIn K (.ref f30) = true)
    (a31 : PySem.W.nsIn K mainGlobals "_law_less" = some (some (.ref f31)))
    (l31 : K.lookup f31 = some ⟨oc31, od31, .func (PySem.W.fnOf "_law_less" "_law_less" (defArgs s_l_less) (defBody s_l_less) (defScope s_l_less) .none kV31 dc31 pm31 an31 cd31 ct31), sl31⟩) (e31 : PySem.W.codeIn K cd31 "_law_less" = true) (k31 : PySem.W.keepIn K (.ref f31) = true)
    (a32 : PySem.W.nsIn K mainGlobals "_law_some" = some (some (.ref f32)))
    (l32 : K.lookup f32 = some ⟨oc32, od32, .func (PySem.W.fnOf "_law_some" "_law_some" (defArgs s_l_some) (defBody s_l_some) (defScope s_l_some) .none kV32 dc32 pm32 an32 cd32 ct32), sl32⟩) (e32 : PySem.W.codeIn K cd32 "_law_some" = true) (k32 : PySem.W.keepIn K (.ref f32) = true)
    (a33 : PySem.W.nsIn K mainGlobals "_law_alike" = some (some (.ref f33)))
    (l33 : K.lookup f33 = some ⟨oc33, od33, .func (PySem.W.fnOf "_law_alike" "_law_alike" (defArgs s_l_alike) (defBody s_l_alike) (defScope s_l_alike) .none kV33 dc33 pm33 an33 cd33 ct33), sl33⟩) (e33 : PySem.W.codeIn K cd33 "_law_alike" = true) (k33 : PySem.W.keepIn K (.ref f33) = true)
    (a34 : PySem.W.nsIn K mainGlobals "_law_reached" = some (some (.ref f34)))
    (l34 : K.lookup f34 = some ⟨oc34, od34, .func (PySem.W.fnOf "_law_reached" "_law_reached" (defArgs s_l_reached) (defBody s_l_reached) (defScope s_l_reached) .none kV34 dc34 pm34 an34 cd34 ct34), sl34⟩) (e34 : PySem.W.codeIn K cd34 "_law_reached" = true) (k34 : PySem.W.keepIn K (.ref f34) = true)
    (a35 : PySem.W.nsIn K mainGlobals "_law_is_tree" = some (some (.ref f35)))
    (l35 : K.lookup f35 = some ⟨oc35, od35, .func (PySem.W.fnOf "_law_is_tree" "_law_is_tree" (defArgs s_l_is_tree) (defBody s_l_is_tree) (defScope s_l_is_tree) .none kV35 dc35 pm35 an35 cd35 ct35), sl35⟩) (e35 : PySem.W.codeIn K cd35 "_law_is_tree" = true) (k35 : PySem.W.keepIn K (.ref f35) = true)
    (a36 : PySem.W.nsIn K mainGlobals "law" = some (some (.ref f36)))
    (l36 : K.lookup f36 = some ⟨oc36, od36, .func (PySem.W.fnOf "law" "law" (defArgs s_law) (defBody s_law) (defScope s_law) .none kV36 dc36 pm36 an36 cd36 ct36), sl36⟩) (e36 : PySem.W.codeIn K cd36 "law" = true) (k36 : PySem.W.keepIn K (.ref f36) = true)
    (pg_Pipe : PySem.W.plainGet K c_Pipe Str.empty = true) (hd_Pipe : PySem.W.hasDictIn K c_Pipe = true) (po_Pipe : PySem.W.plainOver K c_Pipe = true) (sa_Pipe : PySem.W.findIn K (.ref c_Pipe) "__setattr__" = some (some (.builtin "object.__setattr__"))) (mk_Pipe : PySem.W.makesIn K c_Pipe = true) (kc_Pipe : PySem.W.keepIn K (.ref c_Pipe) = true)
    (n_Pipe_rooms : PySem.W.findIn K (.ref c_Pipe) "rooms" = some none)
    (n_Pipe_table : PySem.W.findIn K (.ref c_Pipe) "table" = some none)
    (n_Pipe_thick : PySem.W.findIn K (.ref c_Pipe) "thick" = some none)
    (n_Pipe_apart : PySem.W.findIn K (.ref c_Pipe) "apart" = some none)
    (n_Pipe_pig : PySem.W.findIn K (.ref c_Pipe) "pig" = some none)
    (z_abs : PySem.W.nsIn K mainGlobals "abs" = some none)
    (z_all : PySem.W.nsIn K mainGlobals "all" = some none)
    (z_bool : PySem.W.nsIn K mainGlobals "bool" = some none)
    (z_enumerate : PySem.W.nsIn K mainGlobals "enumerate" = some none)
    (z_int : PySem.W.nsIn K mainGlobals "int" = some none)
    (z_isinstance : PySem.W.nsIn K mainGlobals "isinstance" = some none)
    (z_len : PySem.W.nsIn K mainGlobals "len" = some none)
    (z_list : PySem.W.nsIn K mainGlobals "list" = some none)
    (z_max : PySem.W.nsIn K mainGlobals "max" = some none)
    (z_min : PySem.W.nsIn K mainGlobals "min" = some none)
    (z_range : PySem.W.nsIn K mainGlobals "range" = some none)
    (z_sorted : PySem.W.nsIn K mainGlobals "sorted" = some none)
    (z_str : PySem.W.nsIn K mainGlobals "str" = some none)
    (z_sum : PySem.W.nsIn K mainGlobals "sum" = some none)
    (z_tuple : PySem.W.nsIn K mainGlobals "tuple" = some none)
    (z_zip : PySem.W.nsIn K mainGlobals "zip" = some none)
    : ∃ t : Ad, Txt K mg t ∧ fa = t.f_law ∧ (∀ (s : Shared) (v : Value), BindsTo s t.d_law ⟨[v], []⟩ [("_law_script", v)]) := by
  have e : f36 = fa := Value.ref.inj (Option.some.inj ((PySem.W.mg_of X G a36).symm.trans hfa))
  subst e
  have F0 := fun_mk (st := s_greatest_divisor) l0 e0 k0
  have b0 := F0.binds (ps := ["one", "other"]) fun _ _ _ _ _ _ us hl => of_len2 (fun _ _ => rfl) us hl
  have F1 := fun_mk (st := s_made) l1 e1 k1
  have b1 := F1.binds (ps := ["number", "parts"]) fun _ _ _ _ _ _ us hl => of_len2 (fun _ _ => rfl) us hl
  have F2 := fun_mk (st := s_sum_of) l2 e2 k2
  have b2 := F2.binds (ps := ["one", "other"]) fun _ _ _ _ _ _ us hl => of_len2 (fun _ _ => rfl) us hl
  have F3 := fun_mk (st := s_times) l3 e3 k3
  have b3 := F3.binds (ps := ["one", "other"]) fun _ _ _ _ _ _ us hl => of_len2 (fun _ _ => rfl) us hl
  have F4 := fun_mk (st := s_below) l4 e4 k4
  have b4 := F4.binds (ps := ["one", "other"]) fun _ _ _ _ _ _ us hl => of_len2 (fun _ _ => rfl) us hl
  have F5 := fun_mk (st := s_Pipe___init__) l5 e5 k5
  have b5 := F5.binds (ps := ["self", "rooms", "table", "thick", "apart", "pig"]) fun _ _ _ _ _ _ us hl => of_len6 (fun _ _ _ _ _ _ => rfl) us hl
  have F6 := fun_mk (st := s_place_of) l6 e6 k6
  have b6 := F6.binds (ps := ["pipe", "node"]) fun _ _ _ _ _ _ us hl => of_len2 (fun _ _ => rfl) us hl
  have F7 := fun_mk (st := s_end_of) l7 e7 k7
  have b7 := F7.binds (ps := ["pipe"]) fun _ _ _ _ _ _ us hl => of_len1 (fun _ => rfl) us hl
  have F8 := fun_mk (st := s_half_at) l8 e8 k8
  have b8 := F8.binds (ps := ["pipe", "distance"]) fun _ _ _ _ _ _ us hl => of_len2 (fun _ _ => rfl) us hl
  have F9 := fun_mk (st := s_thick_of) l9 e9 k9
  have b9 := F9.binds (ps := ["pipe", "one", "other"]) fun _ _ _ _ _ _ us hl => of_len3 (fun _ _ _ => rfl) us hl
  have F10 := fun_mk (st := s_are_apart) l10 e10 k10
  have b10 := F10.binds (ps := ["pipe", "one", "other"]) fun _ _ _ _ _ _ us hl => of_len3 (fun _ _ _ => rfl) us hl
  have F11 := fun_mk (st := s_half_between) l11 e11 k11
  have b11 := F11.binds (ps := ["pipe", "one", "other", "distance", "with_pig"]) fun _ _ _ _ _ _ us hl => of_len5 (fun _ _ _ _ _ => rfl) us hl
  have F12 := fun_mk (st := s_waste_between) l12 e12 k12
  have b12 := F12.binds (ps := ["pipe", "one", "other"]) fun _ _ _ _ _ _ us hl => of_len3 (fun _ _ _ => rfl) us hl
  have F13 := fun_mk (st := s_wastes_of) l13 e13 k13
  have b13 := F13.binds (ps := ["pipe", "wares"]) fun _ _ _ _ _ _ us hl => of_len2 (fun _ _ => rfl) us hl
  have F14 := fun_mk (st := s_wastes_from) l14 e14 k14
  have b14 := F14.binds (ps := ["pipe", "one", "wares"]) fun _ _ _ _ _ _ us hl => of_len3 (fun _ _ _ => rfl) us hl
  have F15 := fun_mk (st := s_steps_from) l15 e15 k15
  have b15 := F15.binds (ps := ["wastes", "one", "rest"]) fun _ _ _ _ _ _ us hl => of_len3 (fun _ _ _ => rfl) us hl
  have F16 := fun_mk (st := s_least_of) l16 e16 k16
  have b16 := F16.binds (ps := ["choices"]) fun _ _ _ _ _ _ us hl => of_len1 (fun _ => rfl) us hl
  have F17 := fun_mk (st := s_tree_of) l17 e17 k17
  have b17 := F17.binds (ps := ["pipe", "wares"]) fun _ _ _ _ _ _ us hl => of_len2 (fun _ _ => rfl) us hl
  have F18 := fun_mk (st := s_steps_between) l18 e18 k18
  have b18 := F18.binds (ps := ["wastes", "reached", "rest"]) fun _ _ _ _ _ _ us hl => of_len3 (fun _ _ _ => rfl) us hl
  have F19 := fun_mk (st := s_l_mix) l19 e19 k19
  have b19 := F19.binds (ps := ["_law_cell", "_law_k"]) fun _ _ _ _ _ _ us hl => of_len2 (fun _ _ => rfl) us hl
  have F20 := fun_mk (st := s_l_at) l20 e20 k20
  have b20 := F20.binds (ps := ["_law_script", "_law_k"]) fun _ _ _ _ _ _ us hl => of_len2 (fun _ _ => rfl) us hl
  have F21 := fun_mk (st := s_l_wares) l21 e21 k21
  have b21 := F21.binds (ps := ["_law_cell"]) fun _ _ _ _ _ _ us hl => of_len1 (fun _ => rfl) us hl
  have F22 := fun_mk (st := s_l_five) l22 e22 k22
  have b22 := F22.binds (ps := ["_law_cell", "_law_wares_here", "_law_most"]) fun _ _ _ _ _ _ us hl => of_len3 (fun _ _ _ => rfl) us hl
  have F23 := fun_mk (st := s_l_apart) l23 e23 k23
  have b23 := F23.binds (ps := ["_law_five_here", "_law_one", "_law_other"]) fun _ _ _ _ _ _ us hl => of_len3 (fun _ _ _ => rfl) us hl
  have F24 := fun_mk (st := s_l_pipe) l24 e24 k24
  have b24 := F24.binds (ps := ["_law_cell", "_law_wares_here", "_law_most"]) fun _ _ _ _ _ _ us hl => of_len3 (fun _ _ _ => rfl) us hl
  have F25 := fun_mk (st := s_l_of) l25 e25 k25
  have b25 := F25.binds (ps := ["_law_five_here"]) fun _ _ _ _ _ _ us hl => of_len1 (fun _ => rfl) us hl
  have F26 := fun_mk (st := s_l_lowest) l26 e26 k26
  have b26 := F26.binds (ps := ["_law_number", "_law_parts"]) fun _ _ _ _ _ _ us hl => of_len2 (fun _ _ => rfl) us hl
  have F27 := fun_mk (st := s_l_half) l27 e27 k27
  have b27 := F27.binds (ps := ["_law_five_here", "_law_distance"]) fun _ _ _ _ _ _ us hl => of_len2 (fun _ _ => rfl) us hl
  have F28 := fun_mk (st := s_l_thick) l28 e28 k28
  have b28 := F28.binds (ps := ["_law_five_here", "_law_one", "_law_other"]) fun _ _ _ _ _ _ us hl => of_len3 (fun _ _ _ => rfl) us hl
  have F29 := fun_mk (st := s_l_waste) l29 e29 k29
  have b29 := F29.binds (ps := ["_law_five_here", "_law_one", "_law_other"]) fun _ _ _ _ _ _ us hl => of_len3 (fun _ _ _ => rfl) us hl
  have F30 := fun_mk (st := s_l_sum) l30 e30 k30
  have b30 := F30.binds (ps := ["_law_one", "_law_other"]) fun _ _ _ _ _ _ us hl => of_len2 (fun _ _ => rfl) us hl
  have F31 := fun_mk (st := s_l_less) l31 e31 k31
  have b31 := F31.binds (ps := ["_law_one", "_law_other"]) fun _ _ _ _ _ _ us hl => of_len2 (fun _ _ => rfl) us hl
  have F32 := fun_mk (st := s_l_some) l32 e32 k32
  have b32 := F32.binds (ps := ["_law_wares_here", "_law_cells"]) fun _ _ _ _ _ _ us hl => of_len2 (fun _ _ => rfl) us hl
  have F33 := fun_mk (st := s_l_alike) l33 e33 k33
  have b33 := F33.binds (ps := ["_law_found", "_law_due"]) fun _ _ _ _ _ _ us hl => of_len2 (fun _ _ => rfl) us hl
  have F34 := fun_mk (st := s_l_reached) l34 e34 k34
  have b34 := F34.binds (ps := ["_law_five_here", "_law_some_here", "_law_pairs", "_law_begin"]) fun _ _ _ _ _ _ us hl => of_len4 (fun _ _ _ _ => rfl) us hl
  have F35 := fun_mk (st := s_l_is_tree) l35 e35 k35
  have b35 := F35.binds (ps := ["_law_five_here", "_law_some_here", "_law_found"]) fun _ _ _ _ _ _ us hl => of_len3 (fun _ _ _ => rfl) us hl
  have F36 := fun_mk (st := s_law) l36 e36 k36
  have b36 := F36.binds (ps := ["_law_script"]) fun _ _ _ _ _ _ us hl => of_len1 (fun _ => rfl) us hl
  exact ⟨⟨c_Pipe, f0, _, f1, _, f2, _, f3, _, f4, _, f5, _, f6, _, f7, _, f8, _, f9, _, f10, _, f11, _, f12, _, f13, _, f14, _, f15, _, f16, _, f17, _, f18, _, f19, _, f20, _, f21, _, f22, _, f23, _, f24, _, f25, _, f26, _, f27, _, f28, _, f29, _, f30, _, f31, _, f32, _, f33, _, f34, _, f35, _, f36, _⟩, ⟨F0, b0, PySem.W.mg_of X G a0, F1, b1, PySem.W.mg_of X G a1, F2, b2, PySem.W.mg_of X G a2, F3, b3, PySem.W.mg_of X G a3, F4, b4, PySem.W.mg_of X G a4, F5, b5, F6, b6, PySem.W.mg_of X G a6, F7, b7, PySem.W.mg_of X G a7, F8, b8, PySem.W.mg_of X G a8, F9, b9, PySem.W.mg_of X G a9, F10, b10, PySem.W.mg_of X G a10, F11, b11, PySem.W.mg_of X G a11, F12, b12, PySem.W.mg_of X G a12, F13, b13, PySem.W.mg_of X G a13, F14, b14, PySem.W.mg_of X G a14, F15, b15, PySem.W.mg_of X G a15, F16, b16, PySem.W.mg_of X G a16, F17, b17, PySem.W.mg_of X G a17, F18, b18, PySem.W.mg_of X G a18, F19, b19, PySem.W.mg_of X G a19, F20, b20, PySem.W.mg_of X G a20, F21, b21, PySem.W.mg_of X G a21, F22, b22, PySem.W.mg_of X G a22, F23, b23, PySem.W.mg_of X G a23, F24, b24, PySem.W.mg_of X G a24, F25, b25, PySem.W.mg_of X G a25, F26, b26, PySem.W.mg_of X G a26, F27, b27, PySem.W.mg_of X G a27, F28, b28, PySem.W.mg_of X G a28, F29, b29, PySem.W.mg_of X G a29, F30, b30, PySem.W.mg_of X G a30, F31, b31, PySem.W.mg_of X G a31, F32, b32, PySem.W.mg_of X G a32, F33, b33, PySem.W.mg_of X G a33, F34, b34, PySem.W.mg_of X G a34, F35, b35, PySem.W.mg_of X G a35, F36, b36, PySem.W.mg_of X G a36, PySem.W.mg_of X G ac_Pipe, ⟨pg_Pipe, hd_Pipe, po_Pipe, sa_Pipe⟩, ⟨mk_Pipe, a5, i5, kc_Pipe⟩, n_Pipe_rooms, n_Pipe_table, n_Pipe_thick, n_Pipe_apart, n_Pipe_pig, PySem.W.mg_none_of X G z_abs, PySem.W.mg_none_of X G z_all, PySem.W.mg_none_of X G z_bool, PySem.W.mg_none_of X G z_enumerate, PySem.W.mg_none_of X G z_int, PySem.W.mg_none_of X G z_isinstance, PySem.W.mg_none_of X G z_len, PySem.W.mg_none_of X G z_list, PySem.W.mg_none_of X G z_max, PySem.W.mg_none_of X G z_min, PySem.W.mg_none_of X G z_range, PySem.W.mg_none_of X G z_sorted, PySem.W.mg_none_of X G z_str, PySem.W.mg_none_of X G z_sum, PySem.W.mg_none_of X G z_tuple, PySem.W.mg_none_of X G z_zip⟩, rfl, fun s v => .of_eq rfl⟩
theorem walk {l : PySem.W.OpenLaw} {q : Program} {loose : List Str} {XP : (Str → Option Value) → Heap → Prop} {YP : World → Heap → Prop} {d : DefRec} {K : Params → PySem.W.Frag} (hn : l.most = some 63) (hdf : d.params.defaults = []) (hdn : d.name = "law")
    (hY : ∀ (w : World) (h : Heap), YP w h → (K w.params).In h)
    (F : ∀ (w : World) (mg : Str → Option Value) (fa : Addr) (h : Heap), (K w.params).In h → h.Ns mainGlobals mg → mg "law" = some (.ref fa) →
      ∃ t : Ad, Txt (K w.params) mg t ∧ fa = t.f_law ∧ (∀ (s : Shared) (v : Value), BindsTo s t.d_law ⟨[v], []⟩ [("_law_script", v)])) :
    PySem.W.WalkO q loose XP YP l.row.toRowW d [] (fun f vs => PySem.call f vs) :=
  L2.walk_of (n := 63) (k := 11) (x := "_law_script") (CX := fun _ => CX0) (sp := fun w => spLaw (K w.params)) hn (by decide) hdf ⟨rfl, by decide, by decide⟩ hY
    (fun w mg fa h KX G hmg => by
      rw [hdn] at hmg
      obtain ⟨t, T, e, hb⟩ := F w mg fa h KX G hmg
      subst e
      exact ⟨t.d_law, hb, fun base _ _ => ok_law T⟩)
    (fun _ _ a ns hl _ hS => ⟨a, ns, rfl, hS, hl, fun _ => rfl⟩) fun _ _ _ _ _ z => z
end My
open PySem PySem.W PyProof.Rows
set_option maxRecDepth 100000 in
set_option maxHeartbeats 0 in
theorem PySem.Challenge.cw_batchpipe_k52_the_lightest_tree_holds : PySem.Challenge.rw_batchpipe_k52_the_lightest_tree.Holds := by
  w_on; o_law; k_head; (case hw => w_witness2)
  k_fill
  refine My.walk (l := PySem.Challenge.rw_batchpipe_k52_the_lightest_tree) rfl rfl rfl (fun w h Y => PySem.W.kIn_of Y) ?F
  case F =>
    intro w mg fa h KX G hmg
    refine' My.all_mk KX G hmg ?ac_Pipe ?a0 ?l0 ?e0 ?k0 ?a1 ?l1 ?e1 ?k1 ?a2 ?l2 ?e2 ?k2 ?a3 ?l3 ?e3 ?k3 ?a4 ?l4 ?e4 ?k4 ?a5 ?i5 ?l5 ?e5 ?k5 ?a6 ?l6 ?e6 ?k6 ?a7 ?l7 ?e7 ?k7 ?a8 ?l8 ?e8 ?k8 ?a9 ?l9 ?e9 ?k9 ?a10 ?l10 ?e10 ?k10 ?a11 ?l11 ?e11 ?k11 ?a12 ?l12 ?e12 ?k12 ?a13 ?l13 ?e13 ?k13 ?a14 ?l14 ?e14 ?k14 ?a15 ?l15 ?e15 ?k15 ?a16 ?l16 ?e16 ?k16 ?a17 ?l17 ?e17 ?k17 ?a18 ?l18 ?e18 ?k18 ?a19 ?l19 ?e19 ?k19 ?a20 ?l20 ?e20 ?k20 ?a21 ?l21 ?e21 ?k21 ?a22 ?l22 ?e22 ?k22 ?a23 ?l23 ?e23 ?k23 ?a24 ?l24 ?e24 ?k24 ?a25 ?l25 ?e25 ?k25 ?a26 ?l26 ?e26 ?k26 ?a27 ?l27 ?e27 ?k27 ?a28 ?l28 ?e28 ?k28 ?a29 ?l29 ?e29 ?k29 ?a30 ?l30 ?e30 ?k30 ?a31 ?l31 ?e31 ?k31 ?a32 ?l32 ?e32 ?k32 ?a33 ?l33 ?e33 ?k33 ?a34 ?l34 ?e34 ?k34 ?a35 ?l35 ?e35 ?k35 ?a36 ?l36 ?e36 ?k36 ?pg_Pipe ?hd_Pipe ?po_Pipe ?sa_Pipe ?mk_Pipe ?kc_Pipe ?n_Pipe_rooms ?n_Pipe_table ?n_Pipe_thick ?n_Pipe_apart ?n_Pipe_pig ?z_abs ?z_all ?z_bool ?z_enumerate ?z_int ?z_isinstance ?z_len ?z_list ?z_max ?z_min ?z_range ?z_sorted ?z_str ?z_sum ?z_tuple ?z_zip
    (case ac_Pipe => k_is)
    (case a0 => k_is)
    (case l0 => k_is)
    (case e0 => k_is)
    (case k0 => k_is)
    (case a1 => k_is)
    (case l1 => k_is)
    (case e1 => k_is)
    (case k1 => k_is)
    (case a2 => k_is)
    (case l2 => k_is)
    (case e2 => k_is)
    (case k2 => k_is)
    (case a3 => k_is)
    (case l3 => k_is)
    (case e3 => k_is)
    (case k3 => k_is)
    (case a4 => k_is)
    (case l4 => k_is)
    (case e4 => k_is)
    (case k4 => k_is)
    (case a5 => k_is)
    (case i5 => k_is)
    (case l5 => k_is)
    (case e5 => k_is)
    (case k5 => k_is)
    (case a6 => k_is)
    (case l6 => k_is)
    (case e6 => k_is)
    (case k6 => k_is)
    (case a7 => k_is)
    (case l7 => k_is)
    (case e7 => k_is)
    (case k7 => k_is)
    (case a8 => k_is)
    (case l8 => k_is)
    (case e8 => k_is)
    (case k8 => k_is)
    (case a9 => k_is)
    (case l9 => k_is)
    (case e9 => k_is)
    (case k9 => k_is)
    (case a10 => k_is)
    (case l10 => k_is)
    (case e10 => k_is)
    (case k10 => k_is)
    (case a11 => k_is)
    (case l11 => k_is)
    (case e11 => k_is)
    (case k11 => k_is)
    (case a12 => k_is)
    (case l12 => k_is)
    (case e12 => k_is)
    (case k12 => k_is)
    (case a13 => k_is)
    (case l13 => k_is)
    (case e13 => k_is)
    (case k13 => k_is)
    (case a14 => k_is)
    (case l14 => k_is)
    (case e14 => k_is)
    (case k14 => k_is)
    (case a15 => k_is)
    (case l15 => k_is)
    (case e15 => k_is)
    (case k15 => k_is)
    (case a16 => k_is)
    (case l16 => k_is)
    (case e16 => k_is)
    (case k16 => k_is)
    (case a17 => k_is)
    (case l17 => k_is)
    (case e17 => k_is)
    (case k17 => k_is)
    (case a18 => k_is)
    (case l18 => k_is)
    (case e18 => k_is)
    (case k18 => k_is)
    (case a19 => k_is)
    (case l19 => k_is)
    (case e19 => k_is)
    (case k19 => k_is)
    (case a20 => k_is)
    (case l20 => k_is)
    (case e20 => k_is)
    (case k20 => k_is)
    (case a21 => k_is)
    (case l21 => k_is)
    (case e21 => k_is)
    (case k21 => k_is)
    (case a22 => k_is)
    (case l22 => k_is)
    (case e22 => k_is)
    (case k22 => k_is)
    (case a23 => k_is)
    (case l23 => k_is)
    (case e23 => k_is)
    (case k23 => k_is)
    (case a24 => k_is)
    (case l24 => k_is)
    (case e24 => k_is)
    (case k24 => k_is)
    (case a25 => k_is)
    (case l25 => k_is)
    (case e25 => k_is)
    (case k25 => k_is)
    (case a26 => k_is)
    (case l26 => k_is)
    (case e26 => k_is)
    (case k26 => k_is)
    (case a27 => k_is)
    (case l27 => k_is)
    (case e27 => k_is)
    (case k27 => k_is)
    (case a28 => k_is)
    (case l28 => k_is)
    (case e28 => k_is)
    (case k28 => k_is)
    (case a29 => k_is)
    (case l29 => k_is)
    (case e29 => k_is)
    (case k29 => k_is)
    (case a30 => k_is)
    (case l30 => k_is)
    (case e30 => k_is)
    (case k30 => k_is)
    (case a31 => k_is)
    (case l31 => k_is)
    (case e31 => k_is)
    (case k31 => k_is)
    (case a32 => k_is)
    (case l32 => k_is)
    (case e32 => k_is)
    (case k32 => k_is)
    (case a33 => k_is)
    (case l33 => k_is)
    (case e33 => k_is)
    (case k33 => k_is)
    (case a34 => k_is)
    (case l34 => k_is)
    (case e34 => k_is)
    (case k34 => k_is)
    (case a35 => k_is)
    (case l35 => k_is)
    (case e35 => k_is)
    (case k35 => k_is)
    (case a36 => k_is)
    (case l36 => k_is)
    (case e36 => k_is)
    (case k36 => k_is)
    (case pg_Pipe => k_is)
    (case hd_Pipe => k_is)
    (case po_Pipe => k_is)
    (case sa_Pipe => k_is)
    (case mk_Pipe => k_is)
    (case kc_Pipe => k_is)
    (case n_Pipe_rooms => k_is)
    (case n_Pipe_table => k_is)
    (case n_Pipe_thick => k_is)
    (case n_Pipe_apart => k_is)
    (case n_Pipe_pig => k_is)
    (case z_abs => k_is)
    (case z_all => k_is)
    (case z_bool => k_is)
    (case z_enumerate => k_is)
    (case z_int => k_is)
    (case z_isinstance => k_is)
    (case z_len => k_is)
    (case z_list => k_is)
    (case z_max => k_is)
    (case z_min => k_is)
    (case z_range => k_is)
    (case z_sorted => k_is)
    (case z_str => k_is)
    (case z_sum => k_is)
    (case z_tuple => k_is)
    (case z_zip => k_is)
