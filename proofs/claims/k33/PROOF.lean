import PyProof.Rows.All
import Wide.All
import OpenK.AllK
import Wide.FinOn
import Lean
import PyProof.EqAt
import PyProof.EqKinds
import PyProof.TupleCall
import PySem.Challenge.RW_batchpipe_k33_the_spacer_that_fits
set_option Elab.async false
set_option linter.all false
set_option maxRecDepth 100000
local macro_rules | `(tactic| omega) => `(tactic| lia)
namespace L2
open PySem PySem.Spec PyProof.Rows
noncomputable abbrev Key := Sum Int Str
noncomputable def keyIs : Key → Value → Bool
  | .inl k, v => Value.isInt k v
  | .inr x, v => Value.isStrOf x v
noncomputable def keyH (w : World) : Key → Int
  | .inl k => hashInt k
  | .inr x => hashStr w x
theorem keyIs_shape : ∀ {k : Key} {v : Value}, keyIs k v = true → (∃ i t, k = Sum.inl i ∧ v = Value.int i t) ∨ (∃ x t, k = Sum.inr x ∧ v = Value.str x t)
  | .inl i, v, h => by
    obtain ⟨t, e⟩ := Value.isInt_shape (k := i) (v := v) h
    exact .inl ⟨i, t, rfl, e⟩
  | .inr x, v, h => by
    obtain ⟨t, e⟩ := Value.isStrOf_shape (x := x) (v := v) h
    exact .inr ⟨x, t, rfl, e⟩
theorem key_ll (a b : Int) : decide ((Sum.inl a : Key) = Sum.inl b) = (a == b) := by
  by_cases e : a = b
  · subst e; simp
  · have h : ¬ (Sum.inl a : Key) = Sum.inl b := fun q => e (Sum.inl.inj q)
    rw [decide_eq_false h]
    exact (beq_eq_false_iff_ne.mpr e).symm
theorem key_rr (a b : Str) : decide ((Sum.inr a : Key) = Sum.inr b) = decide (a = b) := by
  by_cases e : a = b
  · subst e; simp
  · have h : ¬ (Sum.inr a : Key) = Sum.inr b := fun q => e (Sum.inr.inj q)
    rw [decide_eq_false h, decide_eq_false e]
theorem key_lr (a : Int) (b : Str) : decide ((Sum.inl a : Key) = Sum.inr b) = false := decide_eq_false (fun q => nomatch q)
theorem key_rl (a : Str) (b : Int) : decide ((Sum.inr a : Key) = Sum.inl b) = false := decide_eq_false (fun q => nomatch q)
noncomputable def mixKind (prog : Program) (w : World) : PySem.KeyKind prog w Key where
  is := keyIs
  hash := keyH w
  inj := fun v a b ha hb => by
    rcases keyIs_shape ha with ⟨i, t, rfl, rfl⟩ | ⟨x, t, rfl, rfl⟩
    · rcases keyIs_shape hb with ⟨j, u, rfl, e⟩ | ⟨y, u, rfl, e⟩
      · injection e with e1 _; rw [e1]
      · exact nomatch e
    · rcases keyIs_shape hb with ⟨j, u, rfl, e⟩ | ⟨y, u, rfl, e⟩
      · exact nomatch e
      · injection e with e1 _; rw [e1]
  byValue := fun k v h => by
    rcases keyIs_shape h with ⟨i, t, rfl, rfl⟩ | ⟨x, t, rfl, rfl⟩ <;> rfl
  pyHash := fun hv h => by
    rcases keyIs_shape hv with ⟨i, t, rfl, rfl⟩ | ⟨x, t, rfl, rfl⟩
    · exact wpAny_pyHash_int h
    · exact wpAny_pyHash_str h
  eqBool := fun hu hv h => by
    rcases keyIs_shape hu with ⟨i, t, rfl, rfl⟩ | ⟨x, t, rfl, rfl⟩
    · rcases keyIs_shape hv with ⟨j, u, rfl, rfl⟩ | ⟨y, u, rfl, rfl⟩
      · rw [key_ll] at h; exact wpAny_eqBool_int h
      · rw [key_lr] at h; exact SeqAt.EqAt.int_str i t y u _ _ _ _ h
    · rcases keyIs_shape hv with ⟨j, u, rfl, rfl⟩ | ⟨y, u, rfl, rfl⟩
      · rw [key_rl] at h; exact SeqAt.EqAt.str_int x t j u _ _ _ _ h
      · rw [key_rr] at h; exact wpAny_eqBool_str h
  «strs» := fun k x t v h => by
    rcases keyIs_shape h with ⟨i, u, rfl, e⟩ | ⟨y, u, rfl, e⟩
    · exact nomatch e
    · injection e with e1 _
      subst e1
      cases v <;> rfl
end L2
namespace L2
open PySem PySem.Spec PyProof.Rows
inductive V where
  | non | bl (b : Bool) | int (i : Int) | str (x : Str) | byt (b : Array UInt8) | flt (b : UInt64) | ref (a : Addr) | ty (n : String)
  deriving DecidableEq
noncomputable def RelV : V → Value → Prop
  | .non, u => u = Value.none
  | .bl b, u => u = Value.bool b
  | .int i, u => ∃ t, u = Value.int i t
  | .str x, u => ∃ t, u = Value.str x t
  | .byt b, u => ∃ t, u = Value.bytes b t
  | .flt b, u => ∃ t, u = Value.float b t
  | .ref a, u => u = Value.ref a
  | .ty n, u => u = Value.type n
noncomputable abbrev Vals : List V → List Value → Prop := Paired RelV
theorem Vals.length {xs : List V} {us : List Value} (r : Vals xs us) : xs.length = us.length := Paired.length r
theorem Vals.get {xs : List V} {us : List Value} {i : Nat} {x : V} (h : Vals xs us) (e : xs[i]? = some x) : ∃ u, us[i]? = some u ∧ RelV x u := by
  induction h generalizing i with
  | nil => simp at e
  | cons r t ih =>
    cases i with
    | zero =>
      rw [List.getElem?_cons_zero] at e
      cases e
      exact ⟨_, rfl, r⟩
    | succ i =>
      rw [List.getElem?_cons_succ] at e ⊢
      exact ih e
theorem Vals.set {x : V} {u : Value} (r : RelV x u) : ∀ {xs : List V} {us : List Value} (i : Nat), Vals xs us → Vals (xs.set i x) (us.set i u)
  | _, _, _, .nil => .nil
  | _, _, 0, .cons _ t => .cons r t
  | _, _, i + 1, .cons q t => .cons q (Vals.set r i t)
theorem Vals.append {xs ys : List V} {us ws : List Value} (h : Vals xs us) (s : Vals ys ws) : Vals (xs ++ ys) (us ++ ws) := by
  induction h with
  | nil => exact s
  | cons r t ih => exact .cons r ih
theorem Vals.take {xs : List V} {us : List Value} (n : Nat) (h : Vals xs us) : Vals (xs.take n) (us.take n) := by
  induction h generalizing n with
  | nil => rw [List.take_nil, List.take_nil]; exact .nil
  | cons r t ih =>
    cases n with
    | zero => exact .nil
    | succ n => exact .cons r (ih n)
theorem Vals.drop {xs : List V} {us : List Value} (n : Nat) (h : Vals xs us) : Vals (xs.drop n) (us.drop n) := by
  induction h generalizing n with
  | nil => rw [List.drop_nil, List.drop_nil]; exact .nil
  | cons r t ih =>
    cases n with
    | zero => exact .cons r t
    | succ n => exact ih n
noncomputable def RelO : Option V → Option Value → Prop
  | some v, some u => RelV v u
  | none, none => True
  | _, _ => False
noncomputable def KV {κ : Type} : List (κ × V) → List (κ × Value) → Prop := Paired fun (p : κ × V) (q : κ × Value) => p.1 = q.1 ∧ RelV p.2 q.2
noncomputable def kV : Key → V
  | .inl i => .int i
  | .inr x => .str x
inductive HO where
    | lst (xs : List V)
    | tup (xs : List V)
    | dK (kvs : List (Key × V)) | dT (kvs : List (List Key × V))
    | set (S : Int → Bool) (n : Nat)
    | ins (C dx : Addr) (fs : List (Str × V))
    | own (x : Addr)
    | xd (fs : List (Str × V))
    | met (f x : Addr)
    | rng (lo hi : Int)
    | frz (o : Obj) (u : HO)
    | tbl (ps : Array Value)
    | ext (φ : Heap → Prop)
noncomputable abbrev Hp := Addr → Option HO
noncomputable def upd (H : Hp) (a : Addr) (o : HO) : Hp := fun b => if b = a then some o else H b
theorem upd_same {H : Hp} {a : Addr} {o : HO} : upd H a o a = some o := by unfold upd; rw [if_pos rfl]
theorem upd_ne {H : Hp} {a b : Addr} {o : HO} (h : b ≠ a) : upd H a o b = H b := by unfold upd; rw [if_neg h]
theorem ne_of_none {H : Hp} {a b : Addr} {o : HO} (h : H a = some o) (h' : H b = none) : a ≠ b := by
  intro e; subst e; rw [h] at h'; cases h'
section
variable (P : Program) (w : World)
noncomputable def ObjOk (H : Hp) (h : Heap) (a : Addr) : HO → Prop
  | .lst xs => xs.length ≤ sizeLine ∧ ∃ (its : List Value) (n : Nat), Vals xs its ∧ h.get? a = some { cls := .type "list", data := .seq its.toArray n }
  | .tup xs => xs.length ≤ sizeLine ∧ ∃ its : List Value, Vals xs its ∧ IsTup h a its.toArray
  | .dK kvs => kvs.length ≤ sizeLine ∧ (a == sysModules) = false ∧ ∃ vs, KV kvs vs ∧ h.DictOf (mixKind P w) a vs
  | .dT kvs => kvs.length ≤ sizeLine ∧ (a == sysModules) = false ∧ ∃ xs : List (List Key × Addr × Value),
      Paired (fun (p : List Key × V) (q : List Key × Addr × Value) => p.1 = q.1 ∧ H q.2.1 = some (.tup (p.1.map kV)) ∧ RelV p.2 q.2.2) kvs xs ∧
      ∃ o es ep, h.get? a = some o ∧ o.ExactDict ∧ o.data = .dict es ep ∧ es.toList = xs.map (entryOfKey (tupleKind (mixKind P w))) ∧ (xs.map (·.1)).Nodup
  | .set S n => h.SetOf (intKind P w) a S n
  | .ins C dx fs => H dx = some (.own a) ∧ fs.length ≤ 1000 ∧ dx ≠ a ∧ h.get? a = some (PySem.W.instObj C dx) ∧
      ∃ mA, h.Ns1 dx mA ∧ (∀ f, RelO (fs.lookup f) (mA f)) ∧ PySem.Within mA (fs.map (·.1))
  | .own _ => ∃ o, h.get? a = some o
  | .xd fs => ∃ mA, h.Ns1 a mA ∧ ∀ f, RelO (fs.lookup f) (mA f)
  | .rng lo hi => ∃ t u v, h.get? a = some { cls := .type "range", data := .fields #[.int lo t, .int hi u, .int 1 v] }
  | .frz o u => h.get? a = some o ∧ ObjOk H h a u
  | .tbl ps => h.get? a = some { cls := .none, data := .fields ps }
  | .met f x => h.get? a = some (PySem.W.methodObj (.ref f) (.ref x))
  | .ext φ => φ h ∧ (∃ o, h.get? a = some o) ∧ ∀ h1 h2 : Heap, φ h1 → (∀ o, h1.get? a = some o → h2.get? a = some o) → φ h2
noncomputable def HOk (H : Hp) (h : Heap) : Prop := ∀ a o, H a = some o → ObjOk P w H h a o
end
section
variable {P : Program} {w : World} {H H' : Hp} {h h' : Heap} {a : Addr} {o : HO}
theorem ObjOk.lt (x : ObjOk P w H h a o) : a < h.objs.size := by
  cases o with
  | lst xs => obtain ⟨_, _, _, _, e⟩ := x; exact Heap.lt_size e
  | tup xs => obtain ⟨_, _, _, p⟩ := x; exact p.lt
  | dK kvs => obtain ⟨_, _, _, _, o, _, _, e, _⟩ := x; exact Heap.lt_size e
  | dT kvs => obtain ⟨_, _, _, _, o, _, _, e, _⟩ := x; exact Heap.lt_size e
  | set S n => obtain ⟨o, _, _, _, e, _⟩ := x; exact Heap.lt_size e
  | ins C dx fs => obtain ⟨_, _, _, e, _⟩ := x; exact Heap.lt_size e
  | own y => obtain ⟨_, e⟩ := x; exact Heap.lt_size e
  | xd fs => obtain ⟨_, ⟨_, _, _, e, _⟩, _⟩ := x; exact Heap.lt_size e
  | rng lo hi => obtain ⟨_, _, _, e⟩ := x; exact Heap.lt_size e
  | frz ob u => obtain ⟨e, _⟩ := x; exact Heap.lt_size e
  | tbl ps => exact Heap.lt_size (show h.get? a = some _ from x)
  | met f y => exact Heap.lt_size (show h.get? a = some _ from x)
  | ext φ => obtain ⟨_, ⟨_, e⟩, _⟩ := x; exact Heap.lt_size e
theorem Paired.mapP {α β : Type} {F G : α → β → Prop} {l₁ : List α} {l₂ : List β} (h : Paired F l₁ l₂) (f : ∀ a b, F a b → G a b) : Paired G l₁ l₂ := by
  induction h with
  | nil => exact .nil
  | cons r t ih => exact .cons (f _ _ r) ih
theorem ObjOk.stay (x : ObjOk P w H h a o) (k : ∀ b u, (b = a ∨ H b = some (.own a)) → h.get? b = some u → h'.get? b = some u)
    (ho : ∀ b, H b = some (.own a) → H' b = some (.own a)) (ht : ∀ b xs, H b = some (.tup xs) → H' b = some (.tup xs)) : ObjOk P w H' h' a o := by
  induction o with
  | lst xs => obtain ⟨z, its, n, r, e⟩ := x; exact ⟨z, its, n, r, k _ _ (.inl rfl) e⟩
  | tup xs => obtain ⟨z, its, r, ob, e, c⟩ := x; exact ⟨z, its, r, ob, k _ _ (.inl rfl) e, c⟩
  | dK kvs => obtain ⟨z, y, vs, r, ob, es, ep, e, c⟩ := x; exact ⟨z, y, vs, r, ob, es, ep, k _ _ (.inl rfl) e, c⟩
  | dT kvs =>
    obtain ⟨z, y, xs, r, ob, es, ep, e, c⟩ := x
    exact ⟨z, y, xs, Paired.mapP r fun p q z => ⟨z.1, ht _ _ z.2.1, z.2.2⟩, ob, es, ep, k _ _ (.inl rfl) e, c⟩
  | set S n => obtain ⟨ob, es, ep, t, e, c⟩ := x; exact ⟨ob, es, ep, t, k _ _ (.inl rfl) e, c⟩
  | ins C dx fs =>
    obtain ⟨d, z, ne, e, mA, ⟨od, es, ep, e2, c⟩, r⟩ := x
    exact ⟨ho _ d, z, ne, k _ _ (.inl rfl) e, mA, ⟨od, es, ep, k _ _ (.inr d) e2, c⟩, r⟩
  | own y => obtain ⟨ob, e⟩ := x; exact ⟨ob, k _ _ (.inl rfl) e⟩
  | xd fs => obtain ⟨mA, ⟨od, es, ep, e, c⟩, r⟩ := x; exact ⟨mA, ⟨od, es, ep, k _ _ (.inl rfl) e, c⟩, r⟩
  | rng lo hi => obtain ⟨t, u, v, e⟩ := x; exact ⟨t, u, v, k _ _ (.inl rfl) e⟩
  | frz ob u ih => obtain ⟨e, q⟩ := x; exact ⟨k _ _ (.inl rfl) e, ih q⟩
  | tbl ps =>
    have e : h.get? a = some { cls := .none, data := .fields ps } := x
    show h'.get? a = some { cls := .none, data := .fields ps }
    exact k a _ (.inl rfl) e
  | met f y =>
    have e : h.get? a = some (PySem.W.methodObj (.ref f) (.ref y)) := x
    show h'.get? a = some (PySem.W.methodObj (.ref f) (.ref y))
    exact k a _ (.inl rfl) e
  | ext φ => obtain ⟨p, ⟨o, e⟩, st⟩ := x; exact ⟨st _ _ p fun o q => k _ _ (.inl rfl) q, ⟨o, k _ _ (.inl rfl) e⟩, st⟩
theorem HOk.lt (x : HOk P w H h) (e : H a = some o) : a < h.objs.size := (x a o e).lt
theorem HOk.fresh (x : HOk P w H h) (e : h.objs.size ≤ a) : H a = none := by
  cases q : H a with
  | none => rfl
  | some u => exact absurd (Nat.lt_of_lt_of_le (x.lt q) e) (Nat.lt_irrefl _)
theorem HOk.kept (x : HOk P w H h) (k : ∀ b u, h.get? b = some u → h'.get? b = some u) : HOk P w H h' := fun a o e =>
  (x a o e).stay (fun b u _ q => k b u q) (fun _ q => q) fun _ _ q => q
theorem HOk.laid (x : HOk P w H h) (k : ∀ b u, h.get? b = some u → h'.get? b = some u) (hp : h.objs.size ≤ a) (new : ObjOk P w (upd H a o) h' a o) : HOk P w (upd H a o) h' := fun b u e => by
  have hn := x.fresh hp
  by_cases hb : b = a
  · subst hb; rw [upd_same] at e; cases e; exact new
  · rw [upd_ne hb] at e
    exact (x b u e).stay (fun c v _ q => k c v q) (fun c q => by rw [upd_ne (ne_of_none q hn)]; exact q) fun c xs q => by rw [upd_ne (ne_of_none q hn)]; exact q
end
noncomputable def Rd (H : Hp) (a : Addr) (u : HO) : Prop := H a = some u ∨ ∃ o, H a = some (.frz o u)
theorem Rd.ok {P : Program} {w : World} {H : Hp} {h : Heap} {a : Addr} {u : HO} (r : Rd H a u) (x : HOk P w H h) : ObjOk P w H h a u := by
  rcases r with r | ⟨o, r⟩
  · exact x a u r
  · obtain ⟨_, q⟩ := x a _ r
    exact q
noncomputable def Mut : Option HO → Prop
  | some (.lst _) => True
  | some (.dK _) => True
  | some (.dT _) => True
  | some (.set _ _) => True
  | some (.ins _ _ _) => True
  | some (.ext _) => True
  | _ => False
section
variable {P : Program} {w : World} {H : Hp} {h h' : Heap} {x e : Addr} {o' : HO}
theorem HOk.write (ok : HOk P w H h) (mu : Mut (H x)) (he : e = x ∨ H e = some (.own x)) (k : ∀ b u, b ≠ e → h.get? b = some u → h'.get? b = some u) (heo : ∃ u, h'.get? e = some u)
    (new : ObjOk P w (upd H x o') h' x o') : HOk P w (upd H x o') h' := fun b u q => by
  have nown : ∀ c y, H c = some (.own y) → c ≠ x := fun c y r z => by subst z; rw [r] at mu; exact mu
  have ntup : ∀ c xs, H c = some (.tup xs) → c ≠ x := fun c xs r z => by subst z; rw [r] at mu; exact mu
  by_cases hb : b = x
  · subst hb; rw [upd_same] at q; cases q; exact new
  · rw [upd_ne hb] at q
    by_cases hbe : b = e
    · have q' : H b = some (.own x) := by
        rcases he with z | z
        · exact absurd (hbe.trans z) hb
        · rw [hbe]; exact z
      rw [q] at q'; cases q'
      obtain ⟨v, hv⟩ := heo
      exact ⟨v, by rw [hbe]; exact hv⟩
    · refine (ok b u q).stay (fun c v hc r => k c v ?_ r) (fun c r => by rw [upd_ne (nown c b r)]; exact r) fun c xs r => by rw [upd_ne (ntup c xs r)]; exact r
      rcases hc with rfl | hc
      · exact hbe
      · rintro rfl
        rcases he with z | z
        · exact nown c b hc z
        · rw [hc] at z; cases z; exact hb rfl
end
structure Un (fs ex : List Addr) (H H' : Hp) (h h' : Heap) : Prop where
  keep : ∀ b o, h.get? b = some o → H b = none → b ∉ fs → b ∉ ex → h'.get? b = some o
  slot : ∀ b o, h.get? b = some o → H b = none → b ∈ fs → b ∉ ex → ∃ sl, h'.get? b = some { o with slots := sl }
  free : ∀ b o, h.get? b = some o → H b = none → b ∉ ex → H' b = none
  there : ∀ b o, h.get? b = some o → b ∉ ex → ∃ o', h'.get? b = some o'
  tups : ∀ b xs, H b = some (.tup xs) → H' b = some (.tup xs)
  frzs : ∀ b o u, H b = some (.frz o u) → H' b = some (.frz o u)
  tbls : ∀ b ps, H b = some (.tbl ps) → ∃ more, H' b = some (.tbl (ps ++ more))
section
variable {fs fs' ex ex' : List Addr} {H H1 H2 : Hp} {h h1 h2 h' : Heap} {a x e : Addr} {o : HO}
theorem Un.any (u : Un fs ex H H1 h h1) {b : Addr} {ob : Obj} (q : h.get? b = some ob) (n : H b = none) (hx : b ∉ ex) : ∃ sl, h1.get? b = some { ob with slots := sl } := by
  by_cases hb : b ∈ fs
  · exact u.slot b ob q n hb hx
  · exact ⟨ob.slots, u.keep b ob q n hb hx⟩
theorem Un.kept (k : ∀ b u, h.get? b = some u → h'.get? b = some u) : Un fs ex H H h h' :=
  ⟨fun b ob q _ _ _ => k b ob q, fun b ob q _ _ _ => ⟨ob.slots, k b ob q⟩, fun _ _ _ n _ => n, fun b ob q _ => ⟨ob, k b ob q⟩, fun _ _ q => q, fun _ _ _ q => q, fun _ ps q => ⟨#[], by rw [q]; simp⟩⟩
theorem Un.refl : Un fs ex H H h h := Un.kept fun _ _ q => q
theorem Un.laid (k : ∀ b u, h.get? b = some u → h'.get? b = some u) (hp : h.objs.size ≤ a) (hn : H a = none) : Un fs ex H (upd H a o) h h' where
  keep := fun b u q _ _ _ => k b u q
  slot := fun b u q _ _ _ => ⟨u.slots, k b u q⟩
  free := fun b u q n _ => by rw [upd_ne (Nat.ne_of_lt (Nat.lt_of_lt_of_le (Heap.lt_size q) hp))]; exact n
  there := fun b u q _ => ⟨u, k b u q⟩
  tups := fun b xs q => by rw [upd_ne (ne_of_none q hn)]; exact q
  frzs := fun b u xs q => by rw [upd_ne (ne_of_none q hn)]; exact q
  tbls := fun b ps q => ⟨#[], by rw [upd_ne (ne_of_none q hn), q]; simp⟩
theorem Un.write (mu : Mut (H x)) (he : e = x ∨ H e = some (.own x)) (k : ∀ b u, b ≠ e → h.get? b = some u → h'.get? b = some u) (heo : ∃ u, h'.get? e = some u) : Un fs ex H (upd H x o) h h' := by
  have hx : ∀ b, H b = none → b ≠ x := fun b n z => by subst z; rw [n] at mu; exact mu
  have hb : ∀ b, H b = none → b ≠ e := fun b n z => by
    subst z
    rcases he with r | r
    · exact hx b n r
    · rw [n] at r; cases r
  have hm : ∀ b u, H b = some u → ¬ Mut (some u) → b ≠ x := fun b u q nm z => by subst z; rw [q] at mu; exact nm mu
  refine ⟨fun b u q n _ _ => k b u (hb b n) q, fun b u q n _ _ => ⟨u.slots, k b u (hb b n) q⟩, fun b u q n _ => by rw [upd_ne (hx b n)]; exact n, fun b u q _ => ?_,
    fun b xs q => by rw [upd_ne (hm b _ q fun z => z)]; exact q, fun b u xs q => by rw [upd_ne (hm b _ q fun z => z)]; exact q, fun b ps q => ⟨#[], by rw [upd_ne (hm b _ q fun z => z), q]; simp⟩⟩
  by_cases hbe : b = e
  · subst hbe; exact heo
  · exact ⟨u, k b u hbe q⟩
end
noncomputable def trk (h : Heap) (H : Hp) : List Addr := (List.range h.objs.size).filter fun a => (H a).isSome
noncomputable def hidT (h : Heap) (H : Hp) : Heap := PySem.W.hideAll h (trk h H)
theorem hidT_size (h : Heap) (H : Hp) : (hidT h H).objs.size = h.objs.size := PySem.W.hideAll_size _ _
theorem hidT_get {h : Heap} {H : Hp} {b : Addr} {o : Obj} (e : h.get? b = some o) (n : H b = none) : (hidT h H).get? b = some o :=
  PySem.W.hideAll_get _ e fun hm => by
    have q : (H b).isSome = true := (List.mem_filter.mp hm).2
    rw [n] at q; simp at q
theorem of_hidT {h : Heap} {H : Hp} {b : Addr} {o : Obj} (e : (hidT h H).get? b = some o) : h.get? b = some o ∧ H b = none := by
  have e' : h.get? b = some o := PySem.W.of_hideAll (trk h H) e
  refine ⟨e', ?_⟩
  cases q : H b with
  | none => rfl
  | some x =>
    have hm : b ∈ trk h H := List.mem_filter.mpr ⟨List.mem_range.mpr (Heap.lt_size e'), by simp [q]⟩
    have z : (hidT h H).get? b = none := PySem.W.hideAll_none (trk h H) hm
    rw [z] at e; cases e
end L2
namespace L2
open PySem PySem.Spec PyProof.Rows
structure Mod (K : PySem.W.Frag) (mg : Str → Option Value) (base : Heap) : Prop where
  kin : K.In base
  glob : base.Ns mainGlobals mg
  blt : ∃ mb, base.Ns builtinsNs mb ∧ ∀ x : Str, x ≠ "__name__" → mb x = bootBuiltins x
  nolimit : base.NoLimit
structure Cx where
  prog : Program
  w : World
  K : PySem.W.Frag
  mg : Str → Option Value
  base : Heap
  A : Around
  N : List Str
  s₀ : Shared
  H₀ : Hp
  env : Env
  outer : List Env
  stack : List Env
  ex : List Addr
  fn : Str → Bool
  calm : Bool
  pn : List (Addr × Obj)
  xe : Value → Shared → Prop
noncomputable def frs (l : List Env) : List Addr := l.filterMap (·.frame)
noncomputable abbrev Cx.fs (X : Cx) : List Addr := frs X.outer
noncomputable def Vis (sc : Scope) (x : Str) : Prop := sc.names.lookup x = some .local ∨ sc.names.lookup x = some .cell ∨ sc.names.lookup x = some .free
noncomputable def Loc (sc : Scope) (x : Str) : Prop := sc.names.lookup x = some .local ∨ sc.names.lookup x = some .cell
noncomputable def Look (env : Env) (h : Heap) (m : Str → Option Value) (x : Str) (u : Value) : Prop :=
  (env.kindOf x = some .local ∧ m x = some u) ∨ ((env.kindOf x = some .cell ∨ env.kindOf x = some .free) ∧ ∃ c, env.cells.lookup x = some c ∧ h.IsCell c (some u))
structure Cx.Ok (X : Cx) : Prop where
  mod : Mod X.K X.mg X.base
  kind : X.env.scope.kind = .function
  glob : X.env.globals = mainGlobals
  blt : X.env.builtins = builtinsNs
  above : X.s₀.heap.objs.size ≤ X.env.locals
  inj : ∀ x y c, X.env.cells.lookup x = some c → X.env.cells.lookup y = some c → x = y
  has : ∀ x, (X.env.kindOf x = some .cell ∨ X.env.kindOf x = some .free) → ∃ c, X.env.cells.lookup x = some c
  cab : ∀ x c, X.fn x = true → X.env.cells.lookup x = some c → X.s₀.heap.objs.size ≤ c
  hd : X.calm = true → X.A.handled = none
  frames : X.A.frames = some X.stack
  stk : X.stack = X.outer ∨ (X.stack = X.env :: X.outer ∧ X.env.frame = some X.env.locals)
  exf : ∀ b ∈ X.ex, b ≠ X.env.locals ∧ ∀ x c, X.env.cells.lookup x = some c → c ≠ b
  bs : ∀ b o, X.base.get? b = some o → X.s₀.heap.get? b = some o ∧ X.H₀ b = none
  bsz : X.base.objs.size ≤ X.s₀.heap.objs.size
  noex : ∀ b o, X.base.get? b = some o → b ∉ X.ex
  exfs : ∀ b ∈ X.ex, b ∉ X.fs
  funs : X.s₀.heap.FunFrames X.base X.outer
  frf : ∀ b ∈ X.fs, X.H₀ b = none
structure Inv (X : Cx) (pins : List (Addr × Obj)) (σ : List (Option V)) (H : Hp) (s : Shared) : Prop where
  ok : X.Ok
  os : s.os = X.s₀.os
  bare : AllBare s.gens
  base : Un X.fs X.ex X.H₀ H X.s₀.heap s.heap
  loc : ∃ m, s.heap.Ns X.env.locals m ∧ ∀ (i : Nat) (x : Str) (v : V), X.N[i]? = some x → σ[i]? = some (some v) → Vis X.env.scope x → ∃ u, RelV v u ∧ Look X.env s.heap m x u
  cell : ∀ x c, X.env.cells.lookup x = some c → ∃ v, s.heap.IsCell c v
  free : H X.env.locals = none
  freeC : ∀ x c, X.env.cells.lookup x = some c → H c = none
  pin : ∀ p ∈ X.pn ++ pins, s.heap.get? p.1 = some p.2 ∧ H p.1 = none ∧ p.1 ≠ X.env.locals ∧ p.1 ∉ X.fs ∧ ∀ v, p.2.data ≠ .cell v
  hok : HOk X.prog X.w H s.heap
  len : σ.length = X.N.length
section
variable {X : Cx} {pins : List (Addr × Obj)} {σ : List (Option V)} {H H' : Hp} {s : Shared} {h' : Heap}
theorem Cx.Ok.nofr (ok : X.Ok) {b : Addr} {o : Obj} (e : X.base.get? b = some o) : b ∉ X.fs := fun hb => by
  have := (ok.funs.mem hb).1
  rw [e] at this; cases this
theorem Inv.bs (I : Inv X pins σ H s) : ∀ b o, X.base.get? b = some o → s.heap.get? b = some o ∧ H b = none := fun b o e =>
  ⟨I.base.keep b o (I.ok.bs b o e).1 (I.ok.bs b o e).2 (I.ok.nofr e) (I.ok.noex b o e), I.base.free b o (I.ok.bs b o e).1 (I.ok.bs b o e).2 (I.ok.noex b o e)⟩
theorem Inv.bk (I : Inv X pins σ H s) : ∀ b o, X.base.get? b = some o → s.heap.get? b = some o := fun b o e => (I.bs b o e).1
theorem Inv.mod (I : Inv X pins σ H s) : Mod X.K X.mg X.base := I.ok.mod
theorem Inv.kIn (I : Inv X pins σ H s) : X.K.In s.heap := I.ok.mod.kin.keeps I.bk
theorem Inv.lt (I : Inv X pins σ H s) : X.env.locals < s.heap.objs.size := by
  obtain ⟨_, hn, _⟩ := I.loc
  exact hn.lt
theorem Inv.sz (I : Inv X pins σ H s) : X.s₀.heap.objs.size ≤ s.heap.objs.size := Nat.le_trans I.ok.above (Nat.le_of_lt I.lt)
theorem Inv.nofs (I : Inv X pins σ H s) {a : Addr} (h : s.heap.objs.size ≤ a) : a ∉ X.fs := fun hb => by
  obtain ⟨_, o, ho, _⟩ := I.ok.funs.mem hb
  exact absurd (Nat.lt_of_lt_of_le (Heap.lt_size ho) (Nat.le_trans I.sz h)) (Nat.lt_irrefl _)
theorem Inv.cne (I : Inv X pins σ H s) : ∀ x c, X.env.cells.lookup x = some c → c ≠ X.env.locals := fun x c e z => by
  obtain ⟨v, o, ho, hd⟩ := I.cell x c e
  obtain ⟨m, ⟨o', es, ep, ho', hd', _⟩, _⟩ := I.loc
  rw [z, ho'] at ho; cases ho; rw [hd'] at hd; cases hd
theorem Inv.funs (I : Inv X pins σ H s) : s.heap.FunFrames X.base X.outer := by
  have all : ∀ (l : List Env), (∀ b ∈ frs l, b ∈ X.fs) → X.s₀.heap.FunFrames X.base l → s.heap.FunFrames X.base l := by
    intro l
    induction l with
    | nil => intro _ _; trivial
    | cons env r ih =>
      intro hs hl
      obtain ⟨hk, ⟨L, o, hf, hn, ho, hd⟩, hr⟩ := hl
      have hL : L ∈ X.fs := hs L (by unfold frs; rw [List.filterMap_cons, hf]; exact List.mem_cons_self)
      obtain ⟨sl, e⟩ := I.base.slot L o ho (I.ok.frf L hL) hL fun z => I.ok.exfs L z hL
      exact ⟨hk, ⟨L, _, hf, hn, e, hd⟩, ih (fun b hb => hs b (by unfold frs; rw [List.filterMap_cons, hf]; exact List.mem_cons_of_mem _ hb)) hr⟩
  exact all X.outer (fun _ hb => hb) I.ok.funs
theorem Inv.stack (I : Inv X pins σ H s) : s.heap.FunFrames X.base X.stack := by
  rcases I.ok.stk with e | ⟨e, hf⟩
  · rw [e]; exact I.funs
  · rw [e]
    obtain ⟨m, hn, _⟩ := I.loc
    refine .cons (by rw [I.ok.kind]; decide) hf hn ?_ I.funs
    exact Heap.get?_none_of_le (Nat.le_trans I.ok.bsz I.ok.above)
theorem Inv.stkSub (I : Inv X pins σ H s) : ∀ b ∈ frs X.stack, b ∈ X.env.locals :: X.fs := fun b hb => by
  rcases I.ok.stk with e | ⟨e, hf⟩
  · rw [e] at hb; exact List.mem_cons_of_mem _ hb
  · rw [e] at hb
    unfold frs at hb
    rw [List.filterMap_cons, hf] at hb
    exact hb
theorem Inv.stkFree (I : Inv X pins σ H s) : ∀ b ∈ frs X.stack, H b = none := fun b hb => by
  rcases List.mem_cons.mp (I.stkSub b hb) with e | hb
  · rw [e]; exact I.free
  · obtain ⟨_, o, ho, _⟩ := I.ok.funs.mem hb
    exact I.base.free b o ho (I.ok.frf b hb) fun z => I.ok.exfs b z hb
theorem Inv.step {g' : Array GenState} {t' : Nat} {d' : Drawn} {ch : List Addr} (I : Inv X pins σ H s)
    (hch : ∀ b ∈ ch, (b ∈ X.ex ∨ X.s₀.heap.objs.size ≤ b) ∧ b ≠ X.env.locals ∧ (∀ x c, X.env.cells.lookup x = some c → c ≠ b) ∧ ∀ p ∈ X.pn ++ pins, p.1 ≠ b)
    (keep : ∀ b o, b ≠ X.env.locals → b ∉ X.fs → b ∉ ch → s.heap.get? b = some o → H b = none → h'.get? b = some o)
    (slot : ∀ b o, b ≠ X.env.locals → b ∈ X.fs → b ∉ ch → s.heap.get? b = some o → H b = none → ∃ sl, h'.get? b = some { o with slots := sl }) (free : ∀ b o, b ∉ ch → s.heap.get? b = some o → H b = none → H' b = none)
    (there : ∀ b o, b ∉ ch → s.heap.get? b = some o → ∃ o', h'.get? b = some o')
    (tups : ∀ b xs, H b = some (.tup xs) → H' b = some (.tup xs)) (frzs : ∀ b o u, H b = some (.frz o u) → H' b = some (.frz o u)) (tbls : ∀ b ps, H b = some (.tbl ps) → ∃ more, H' b = some (.tbl (ps ++ more)))
    (ns : ∀ m, s.heap.Ns X.env.locals m → h'.Ns X.env.locals m) (hok : HOk X.prog X.w H' h') (hg : AllBare g') :
    Inv X pins σ H' { s with heap := h', gens := g', drawn := d', toks := t' } := by
  have neL : ∀ b o, X.s₀.heap.get? b = some o → b ≠ X.env.locals := fun b o e => Nat.ne_of_lt (Nat.lt_of_lt_of_le (Heap.lt_size e) I.ok.above)
  have neC : ∀ b o, X.s₀.heap.get? b = some o → b ∉ X.ex → b ∉ ch := fun b o e hx hb => by
    rcases (hch b hb).1 with z | z
    · exact hx z
    · exact absurd (Nat.lt_of_lt_of_le (Heap.lt_size e) z) (Nat.lt_irrefl _)
  have cellK : ∀ x c, X.env.cells.lookup x = some c → ∀ v, s.heap.IsCell c v → h'.IsCell c v := fun x c e v ⟨o, ho, hd⟩ => by
    have nch : c ∉ ch := fun z => (hch c z).2.2.1 x c e rfl
    by_cases hc : c ∈ X.fs
    · obtain ⟨sl, q⟩ := slot c o (I.cne x c e) hc nch ho (I.freeC x c e)
      exact ⟨_, q, hd⟩
    · exact ⟨o, keep c o (I.cne x c e) hc nch ho (I.freeC x c e), hd⟩
  refine ⟨I.ok, I.os, hg, ⟨fun b o e n hb hx => ?_, fun b o e n hb hx => ?_, fun b o e n hx => ?_, fun b o e hx => ?_, fun b xs e => tups b xs (I.base.tups b xs e), fun b o xs e => frzs b o xs (I.base.frzs b o xs e), fun b ps e => ?_⟩, ?_, fun x c e => ?_, ?_, fun x c e => ?_, fun p hp => ?_, hok, I.len⟩
  · exact keep b o (neL b o e) hb (neC b o e hx) (I.base.keep b o e n hb hx) (I.base.free b o e n hx)
  · obtain ⟨sl, e1⟩ := I.base.slot b o e n hb hx
    obtain ⟨sl', e2⟩ := slot b _ (neL b o e) hb (neC b o e hx) e1 (I.base.free b o e n hx)
    exact ⟨sl', e2⟩
  · obtain ⟨o', e1⟩ := I.base.there b o e hx
    exact free b o' (neC b o e hx) e1 (I.base.free b o e n hx)
  · obtain ⟨o', e1⟩ := I.base.there b o e hx
    exact there b o' (neC b o e hx) e1
  · obtain ⟨m1, e1⟩ := I.base.tbls b ps e
    obtain ⟨m2, e2⟩ := tbls b _ e1
    exact ⟨m1 ++ m2, by rw [e2, Array.append_assoc]⟩
  · obtain ⟨m, hn, hl⟩ := I.loc
    refine ⟨m, ns m hn, fun i x v e1 e2 e3 => ?_⟩
    obtain ⟨u, r, l⟩ := hl i x v e1 e2 e3
    refine ⟨u, r, ?_⟩
    rcases l with l | ⟨k, c, e, z⟩
    · exact .inl l
    · exact .inr ⟨k, c, e, cellK x c e _ z⟩
  · obtain ⟨v, z⟩ := I.cell x c e
    exact ⟨v, cellK x c e v z⟩
  · obtain ⟨m, ⟨o, _, _, ho, _⟩, _⟩ := I.loc
    exact free _ o (fun z => (hch _ z).2.1 rfl) ho I.free
  · obtain ⟨v, o, ho, hd⟩ := I.cell x c e
    exact free c o (fun z => (hch c z).2.2.1 x c e rfl) ho (I.freeC x c e)
  · obtain ⟨e, n, ne, nf, d⟩ := I.pin p hp
    have nch : p.1 ∉ ch := fun z => (hch p.1 z).2.2.2 p hp rfl
    exact ⟨keep p.1 p.2 ne nf nch e n, free p.1 p.2 nch e n, ne, nf, d⟩
theorem Inv.un {t' : Nat} (I : Inv X pins σ H s) (u : Un X.fs [] H H' s.heap h') (hok : HOk X.prog X.w H' h') : Inv X pins σ H' { s with heap := h', toks := t' } := by
  obtain ⟨m, ⟨o, es, ep, ho, r⟩, _⟩ := id I.loc
  obtain ⟨sl, hL⟩ := u.any ho I.free (by simp)
  exact I.step (g' := s.gens) (d' := s.drawn) (ch := []) (fun _ z => nomatch z) (fun b o _ hb _ e n => u.keep b o e n hb (by simp)) (fun b o _ hb _ e n => u.slot b o e n hb (by simp)) (fun b o _ e n => u.free b o e n (by simp)) (fun b o _ e => u.there b o e (by simp)) u.tups u.frzs u.tbls (fun m' hm => by
    obtain ⟨o', es', ep', ho', r'⟩ := hm
    rw [ho] at ho'; cases ho'
    exact ⟨_, es', ep', hL, r'⟩) hok I.bare
theorem Inv.call {g' : Array GenState} {t' : Nat} {d' : Drawn} {ch : List Addr} (I : Inv X pins σ H s) (u : Un (frs X.stack) ch H H' s.heap h') (hok : HOk X.prog X.w H' h') (hg : AllBare g')
    (hch : ∀ b ∈ ch, (b ∈ X.ex ∨ X.s₀.heap.objs.size ≤ b) ∧ b ≠ X.env.locals ∧ (∀ x c, X.env.cells.lookup x = some c → c ≠ b) ∧ ∀ p ∈ X.pn ++ pins, p.1 ≠ b) :
    Inv X pins σ H' { s with heap := h', gens := g', drawn := d', toks := t' } := by
  obtain ⟨m, ⟨o, es, ep, ho, r⟩, _⟩ := id I.loc
  obtain ⟨sl, hL⟩ := u.any ho I.free fun z => (hch _ z).2.1 rfl
  exact I.step (ch := ch) hch (fun b o hL hb hc e n => u.keep b o e n (fun z => (List.mem_cons.mp (I.stkSub b z)).elim hL hb) hc) (fun b o _ _ hc e n => u.any e n hc) (fun b o hc e n => u.free b o e n hc) (fun b o hc e => u.there b o e hc) u.tups u.frzs u.tbls (fun m' hm => by
    obtain ⟨o', es', ep', ho', r'⟩ := hm
    rw [ho] at ho'; cases ho'
    exact ⟨_, es', ep', hL, r'⟩) hok hg
theorem Inv.turned {t' : Nat} {it : Addr} (I : Inv X pins σ H s) (k : ∀ b o, b ≠ it → s.heap.get? b = some o → h'.get? b = some o) (hn : H it = none) (hL : it ≠ X.env.locals)
    (h1 : it ∈ X.ex ∨ X.s₀.heap.objs.size ≤ it) (h2 : ∀ x c, X.env.cells.lookup x = some c → c ≠ it) (h3 : ∀ p ∈ X.pn ++ pins, p.1 ≠ it) : Inv X pins σ H { s with heap := h', toks := t' } := by
  have nit : ∀ b u, H b = some u → b ≠ it := fun b u e z => by rw [z, hn] at e; cases e
  refine I.step (g' := s.gens) (d' := s.drawn) (ch := [it]) (fun b hb => ?_) (fun b o _ _ hc e _ => k b o (fun z => hc (by simp [z])) e) (fun b o _ _ hc e _ => ⟨o.slots, k b o (fun z => hc (by simp [z])) e⟩) (fun _ _ _ _ n => n)
    (fun b o hc e => ⟨o, k b o (fun z => hc (by simp [z])) e⟩) (fun _ _ e => e) (fun _ _ _ e => e) (fun b ps e => ⟨#[], by rw [e]; simp⟩) (fun m hm => ?_) (fun b u e => ?_) I.bare
  · have e : b = it := by simpa using hb
    subst e
    exact ⟨h1, hL, h2, h3⟩
  · obtain ⟨o, es, ep, ho, r⟩ := hm
    exact ⟨o, es, ep, k _ o (Ne.symm hL) ho, r⟩
  · refine (I.hok b u e).stay (fun c v hc q => k c v ?_ q) (fun _ q => q) fun _ _ q => q
    rcases hc with z | z
    · rw [z]; exact nit b u e
    · exact nit c _ z
theorem Inv.tok (I : Inv X pins σ H s) (t : Nat) : Inv X pins σ H { s with toks := t } := I.un (h' := s.heap) (t' := t) Un.refl I.hok
theorem Inv.kept {t' : Nat} (I : Inv X pins σ H s) (k : ∀ b u, s.heap.get? b = some u → h'.get? b = some u) : Inv X pins σ H { s with heap := h', toks := t' } := I.un (Un.kept k) (I.hok.kept k)
theorem Inv.laid {a : Addr} {o : HO} {t' : Nat} (I : Inv X pins σ H s) (k : ∀ b u, s.heap.get? b = some u → h'.get? b = some u) (hp : s.heap.objs.size ≤ a) (new : ObjOk X.prog X.w (upd H a o) h' a o) :
    Inv X pins σ (upd H a o) { s with heap := h', toks := t' } := I.un (Un.laid k hp (I.hok.fresh hp)) (I.hok.laid k hp new)
theorem Inv.write {x e : Addr} {o : HO} {t' : Nat} (I : Inv X pins σ H s) (mu : Mut (H x)) (he : e = x ∨ H e = some (.own x)) (k : ∀ b u, b ≠ e → s.heap.get? b = some u → h'.get? b = some u) (heo : ∃ u, h'.get? e = some u)
    (new : ObjOk X.prog X.w (upd H x o) h' x o) : Inv X pins σ (upd H x o) { s with heap := h', toks := t' } := I.un (Un.write mu he k heo) (I.hok.write mu he k heo new)
theorem Inv.pins_of {pins' : List (Addr × Obj)} (I : Inv X pins σ H s) (h : ∀ p ∈ pins', s.heap.get? p.1 = some p.2 ∧ H p.1 = none ∧ p.1 ≠ X.env.locals ∧ p.1 ∉ X.fs ∧ ∀ v, p.2.data ≠ .cell v) : Inv X pins' σ H s :=
  ⟨I.ok, I.os, I.bare, I.base, I.loc, I.cell, I.free, I.freeC, fun p hp => (List.mem_append.mp hp).elim (fun z => I.pin p (List.mem_append_left _ z)) (h p), I.hok, I.len⟩
theorem nodup_ix {N : List Str} (hN : N.Nodup) {i j : Nat} {x : Str} (a : N[i]? = some x) (b : N[j]? = some x) : i = j := by
  obtain ⟨h1, e1⟩ := List.getElem?_eq_some_iff.mp a
  obtain ⟨h2, e2⟩ := List.getElem?_eq_some_iff.mp b
  exact (List.getElem_inj hN).mp (e1.trans e2.symm)
theorem store_ok2 {M : Model} {A : Around} {E : Value → Shared → Prop} {i : Nat} {x : Str} {v : V} {u : Value} {Q : Unit → Shared → Prop} (I : Inv X pins σ H s) (hN : X.N.Nodup) (hi : X.N[i]? = some x) (hx : Loc X.env.scope x) (r : RelV v u)
    (h : ∀ s', Inv X pins (σ.set i (some v)) H s' → (∃ a, Heap.SameBut a s.heap s'.heap ∧ (a = X.env.locals ∨ X.env.cells.lookup x = some a)) → Q () s') (hf : X.fn x = true ∨ X.env.scope.names.lookup x = some .local := by first | exact .inl rfl | exact .inr rfl | assumption) : wpAny M A (storeName X.env x u) Q E s := by
  obtain ⟨m, hn, hl⟩ := id I.loc
  have hcls : (X.env.scope.kind == .class || (X.env.scope.kind == .module && X.env.locals != X.env.globals)) = false := by rw [I.ok.kind]; rfl
  have hiσ : i < σ.length := by rw [I.len]; exact (List.getElem?_eq_some_iff.mp hi).1
  have cne := I.cne
  have tracked : ∀ {a : Addr} {h' : Heap}, (∃ o, s.heap.get? a = some o ∧ H a = none) → Heap.SameBut a s.heap h' → HOk X.prog X.w H h' := fun {a h'} ha hs b ob e => by
    obtain ⟨_, _, hfree⟩ := ha
    refine (I.hok b ob e).stay (fun c w' hc q => (hs.2 c ?_).trans q) (fun _ q => q) fun _ _ q => q
    rintro rfl
    rcases hc with rfl | hc
    · rw [hfree] at e; cases e
    · rw [hfree] at hc; cases hc
  rcases hx with hk | hk
  · refine wpAny_storeName_local hk hn (fun h' hn' hs => ?_) hcls
    obtain ⟨oL, _, _, hoL, _⟩ := id hn
    refine h _ ⟨I.ok, I.os, I.bare, ⟨fun b o e n hb hx => ?_, fun b o e n hb hx => ?_, I.base.free, fun b o e hx => ?_, I.base.tups, I.base.frzs, I.base.tbls⟩, ⟨_, hn', fun j y v' e1 e2 e3 => ?_⟩, fun y c e => ?_, I.free, I.freeC, fun p hp => ?_, tracked ⟨oL, hoL, I.free⟩ hs, by simpa using I.len⟩ ⟨_, hs, .inl rfl⟩
    · exact (hs.2 b (Nat.ne_of_lt (Nat.lt_of_lt_of_le (Heap.lt_size e) I.ok.above))).trans (I.base.keep b o e n hb hx)
    · obtain ⟨sl, e1⟩ := I.base.slot b o e n hb hx
      exact ⟨sl, (hs.2 b (Nat.ne_of_lt (Nat.lt_of_lt_of_le (Heap.lt_size e) I.ok.above))).trans e1⟩
    · obtain ⟨o', e1⟩ := I.base.there b o e hx
      exact ⟨o', (hs.2 b (Nat.ne_of_lt (Nat.lt_of_lt_of_le (Heap.lt_size e) I.ok.above))).trans e1⟩
    · by_cases hj : j = i
      · subst hj
        rw [hi] at e1; cases e1
        rw [List.getElem?_set_self hiσ] at e2
        cases e2
        exact ⟨u, r, .inl ⟨hk, by simp⟩⟩
      · rw [List.getElem?_set_ne (Ne.symm hj)] at e2
        obtain ⟨u', r', q⟩ := hl j y v' e1 e2 e3
        refine ⟨u', r', ?_⟩
        rcases q with ⟨k, e⟩ | ⟨k, c, e, z⟩
        · refine .inl ⟨k, ?_⟩
          have : y ≠ x := fun e => hj (nodup_ix hN e1 (e ▸ hi))
          simp [this, e]
        · exact .inr ⟨k, c, e, z.sameBut hs (cne y c e)⟩
    · obtain ⟨w', z⟩ := I.cell y c e
      exact ⟨w', z.sameBut hs (cne y c e)⟩
    · obtain ⟨e, n, ne, nf, d⟩ := I.pin p hp
      exact ⟨(hs.2 p.1 ne).trans e, n, ne, nf, d⟩
  · have hfn : X.fn x = true := by
      rcases hf with z | z
      · exact z
      · rw [z] at hk; cases hk
    obtain ⟨c, hc⟩ := I.ok.has x (.inl hk)
    obtain ⟨w', z⟩ := I.cell x c hc
    refine wpAny_storeName_cell I.ok.kind hk hc z (fun h' hc' hs => ?_)
    obtain ⟨oc, hoc, hocd⟩ := id z
    refine h { s with heap := h' } ⟨I.ok, I.os, I.bare, ⟨fun b o e n hb hx => ?_, fun b o e n hb hx => ?_, I.base.free, fun b o e hx => ?_, I.base.tups, I.base.frzs, I.base.tbls⟩, ⟨m, hn.sameBut hs (Ne.symm (cne x c hc)), fun j y v' e1 e2 e3 => ?_⟩, fun y c' e => ?_, I.free, I.freeC, fun p hp => ?_, tracked ⟨oc, hoc, I.freeC x c hc⟩ hs, by simpa using I.len⟩ ⟨c, hs, .inr hc⟩
    · exact (hs.2 b (Nat.ne_of_lt (Nat.lt_of_lt_of_le (Heap.lt_size e) (I.ok.cab x c hfn hc)))).trans (I.base.keep b o e n hb hx)
    · obtain ⟨sl, e1⟩ := I.base.slot b o e n hb hx
      exact ⟨sl, (hs.2 b (Nat.ne_of_lt (Nat.lt_of_lt_of_le (Heap.lt_size e) (I.ok.cab x c hfn hc)))).trans e1⟩
    · obtain ⟨o', e1⟩ := I.base.there b o e hx
      exact ⟨o', (hs.2 b (Nat.ne_of_lt (Nat.lt_of_lt_of_le (Heap.lt_size e) (I.ok.cab x c hfn hc)))).trans e1⟩
    · by_cases hj : j = i
      · subst hj
        rw [hi] at e1; cases e1
        rw [List.getElem?_set_self hiσ] at e2
        cases e2
        exact ⟨u, r, .inr ⟨.inl hk, c, hc, hc'⟩⟩
      · rw [List.getElem?_set_ne (Ne.symm hj)] at e2
        obtain ⟨u', r', q⟩ := hl j y v' e1 e2 e3
        refine ⟨u', r', ?_⟩
        rcases q with q | ⟨k, c', e, z'⟩
        · exact .inl q
        · refine .inr ⟨k, c', e, z'.sameBut hs ?_⟩
          rintro rfl
          exact hj (nodup_ix hN e1 (I.ok.inj _ _ _ e hc ▸ hi))
    · by_cases hcc : c' = c
      · subst hcc; exact ⟨_, hc'⟩
      · obtain ⟨w2, z2⟩ := I.cell y c' e
        exact ⟨w2, z2.sameBut hs hcc⟩
    · obtain ⟨e, n, ne, nf, d⟩ := I.pin p hp
      refine ⟨(hs.2 p.1 ?_).trans e, n, ne, nf, d⟩
      intro q
      rw [q, hoc] at e
      have q' : oc = p.2 := Option.some.inj e
      exact d w' (by rw [← q']; exact hocd)
theorem store_ok {M : Model} {A : Around} {E : Value → Shared → Prop} {i : Nat} {x : Str} {v : V} {u : Value} {Q : Unit → Shared → Prop} (I : Inv X pins σ H s) (hN : X.N.Nodup) (hi : X.N[i]? = some x) (hx : Loc X.env.scope x) (r : RelV v u)
    (h : ∀ s', Inv X pins (σ.set i (some v)) H s' → Q () s') (hf : X.fn x = true ∨ X.env.scope.names.lookup x = some .local := by first | exact .inl rfl | exact .inr rfl | assumption) : wpAny M A (storeName X.env x u) Q E s :=
  store_ok2 I hN hi hx r (fun s' I' _ => h s' I') hf
theorem Inv.call' {s' : Shared} {ch : List Addr} (I : Inv X pins σ H s) (ho : s'.os = s.os) (u : Un (frs X.stack) ch H H' s.heap s'.heap) (hok : HOk X.prog X.w H' s'.heap) (hg : AllBare s'.gens)
    (hch : ∀ b ∈ ch, (b ∈ X.ex ∨ X.s₀.heap.objs.size ≤ b) ∧ b ≠ X.env.locals ∧ (∀ x c, X.env.cells.lookup x = some c → c ≠ b) ∧ ∀ p ∈ X.pn ++ pins, p.1 ≠ b) : Inv X pins σ H' s' := by
  obtain ⟨h', g', d', t', o'⟩ := s'
  have e : o' = s.os := ho
  subst e
  exact I.call (g' := g') (t' := t') (d' := d') u hok hg hch
end
noncomputable abbrev XK := Value → Option Addr → Hp → Prop
noncomputable abbrev St := List (Option V)
noncomputable abbrev VK := V → Hp → Prop
noncomputable abbrev TE := St → Hp → VK → Prop
noncomputable abbrev TT := St → Hp → (Bool → Hp → Prop) → Prop
noncomputable abbrev TA := St → Hp → (List V → Hp → Prop) → Prop
structure Ends where
  nx : St → Hp → Prop
  rt : VK
  bk : St → Hp → Prop := fun _ _ => False
  ct : St → Hp → Prop := fun _ _ => False
noncomputable abbrev TS := Ends → St → Hp → Prop
noncomputable def EP (X : Cx) (pins : List (Addr × Obj)) (σ : St) (Q : VK) (u : Value) (s' : Shared) : Prop := ∃ v H', Inv X pins σ H' s' ∧ RelV v u ∧ Q v H'
noncomputable def TP (X : Cx) (pins : List (Addr × Obj)) (σ : St) (Q : Bool → Hp → Prop) (b : Bool) (s' : Shared) : Prop := ∃ H', Inv X pins σ H' s' ∧ Q b H'
noncomputable def AP (X : Cx) (pins : List (Addr × Obj)) (σ : St) (Q : List V → Hp → Prop) (us : List Value) (s' : Shared) : Prop := ∃ vs H', Inv X pins σ H' s' ∧ Vals vs us ∧ Q vs H'
noncomputable def SP (X : Cx) (pins : List (Addr × Obj)) (D : Ends) (f : Flow) (s' : Shared) : Prop :=
  match f with
  | .next => ∃ σ' H', Inv X pins σ' H' s' ∧ D.nx σ' H'
  | .brk => ∃ σ' H', Inv X pins σ' H' s' ∧ D.bk σ' H'
  | .cont => ∃ σ' H', Inv X pins σ' H' s' ∧ D.ct σ' H'
  | .ret u => ∃ v σ' H', Inv X pins σ' H' s' ∧ RelV v u ∧ D.rt v H'
noncomputable def PE (X : Cx) (e : Expr) (t : TE) : Prop :=
  ∀ (pins : List (Addr × Obj)) (s : Shared) (σ : St) (H : Hp) (Q : VK), Inv X pins σ H s → t σ H Q → wpAny (model X.prog X.w) X.A (eval e X.env) (EP X pins σ Q) X.xe s
noncomputable def PT (X : Cx) (e : Expr) (t : TT) : Prop :=
  ∀ (pins : List (Addr × Obj)) (s : Shared) (σ : St) (H : Hp) (Q : Bool → Hp → Prop), Inv X pins σ H s → t σ H Q → wpAny (model X.prog X.w) X.A (isTrue e X.env (eval e X.env)) (TP X pins σ Q) X.xe s
noncomputable def PW (X : Cx) (e : Expr) (t : TT) : Prop :=
  ∀ (whole : Sem Value) (pins : List (Addr × Obj)) (s : Shared) (σ : St) (H : Hp) (Q : Bool → Hp → Prop), Inv X pins σ H s → t σ H Q → wpAny (model X.prog X.w) X.A (isTrue e X.env whole) (TP X pins σ Q) X.xe s
theorem PW.pt {X : Cx} {e : Expr} {t : TT} (h : PW X e t) : PT X e t := h _
noncomputable def PA (X : Cx) (es : List Expr) (t : TA) : Prop :=
  ∀ (pos : Pos) (pins : List (Addr × Obj)) (s : Shared) (σ : St) (H : Hp) (Q : List V → Hp → Prop), Inv X pins σ H s → t σ H Q → wpAny (model X.prog X.w) X.A (spliced (backTo pos (starEach es X.env))) (AP X pins σ Q) X.xe s
noncomputable def PS (X : Cx) (st : Stmt) (t : TS) : Prop :=
  ∀ (pins : List (Addr × Obj)) (s : Shared) (σ : St) (H : Hp) (D : Ends), Inv X pins σ H s → t D σ H → wpAny (model X.prog X.w) X.A (exec st X.env) (SP X pins D) X.xe s
noncomputable def PSs (X : Cx) (st : List Stmt) (t : TS) : Prop :=
  ∀ (pins : List (Addr × Obj)) (s : Shared) (σ : St) (H : Hp) (D : Ends), Inv X pins σ H s → t D σ H → wpAny (model X.prog X.w) X.A (execs st X.env) (SP X pins D) X.xe s
theorem thn {α : Type} {t : Sem α} {Q Q' : α → Shared → Prop} {M : Model} {A : Around} {E : Value → Shared → Prop} {s : Shared} (h : wpAny M A t Q E s) (hQ : ∀ a s, Q a s → Q' a s) : wpAny M A t Q' E s := wpAny_mono h hQ fun _ _ x => x
theorem EP.out {X : Cx} {pins : List (Addr × Obj)} {σ : St} {Q : VK} {u : Value} {s' : Shared} {C : Prop} (h : EP X pins σ Q u s') (k : ∀ v H', Inv X pins σ H' s' → RelV v u → Q v H' → C) : C := by
  obtain ⟨v, H', a, b, c⟩ := h
  exact k v H' a b c
theorem ex3 {α : Type} {p q : α → Prop} {C : Prop} (h : ∃ x, p x ∧ q x) (k : ∀ x, p x → q x → C) : C := by
  obtain ⟨x, a, c⟩ := h
  exact k x a c
theorem ex5 {α β : Type} {p q r : α → β → Prop} {C : Prop} (h : ∃ x y, p x y ∧ q x y ∧ r x y) (k : ∀ x y, p x y → q x y → r x y → C) : C := by
  obtain ⟨x, y, a, b, c⟩ := h
  exact k x y a b c
theorem AP.out {X : Cx} {pins : List (Addr × Obj)} {σ : St} {Q : List V → Hp → Prop} {us : List Value} {s' : Shared} {C : Prop} (h : AP X pins σ Q us s') (k : ∀ vs H', Inv X pins σ H' s' → Vals vs us → Q vs H' → C) : C := by
  obtain ⟨v, H', a, b, c⟩ := h
  exact k v H' a b c
theorem GP.out {X : Cx} {pins : List (Addr × Obj)} {Q : St → Hp → Prop} {s' : Shared} {C : Prop} (h : ∃ σ' H', Inv X pins σ' H' s' ∧ Q σ' H') (k : ∀ σ' H', Inv X pins σ' H' s' → Q σ' H' → C) : C := by
  obtain ⟨v, H', a, c⟩ := h
  exact k v H' a c
end L2
namespace L2
open PySem PySem.Spec PyProof.Rows
section
variable {X : Cx}
noncomputable def tVar (i : Nat) : TE := fun σ H Q => ∃ v, σ[i]? = some (some v) ∧ Q v H
noncomputable def tC (v : V) : TE := fun _ H Q => Q v H
theorem pe_var {i : Nat} {x : Str} {pos : Pos} (hN : X.N[i]? = some x) (hv : Vis X.env.scope x) (hd : (x == ("__debug__" : Str)) = false := by decide) (hcd : (x == ("__classdict__" : Str)) = false := by decide) : PE X (.Name x pos) (tVar i) := by
  intro pins s σ H Q I h
  obtain ⟨v, e, h⟩ := h
  obtain ⟨m, hn, hl⟩ := I.loc
  obtain ⟨u, r, l⟩ := hl i x v hN e hv
  have fin : EP X pins σ Q u s := ⟨v, H, I, r, h⟩
  rcases l with ⟨hk, hm⟩ | ⟨hk, c, hc, hcell⟩
  · exact wpAny_Name (wpAny_loadName_local I.ok.kind hk hn hm fin) hd
  · rcases hk with hk | hk
    · exact wpAny_Name (wpAny_loadName_cell I.ok.kind hk hc hcell fin) hd
    · exact wpAny_Name (wpAny_loadName_free I.ok.kind hk hc hcell fin hcd) hd
theorem pe_int {i j pos} : PE X (.Constant (.int i) j pos) (tC (.int i)) := fun _ _ _ H _ I h => wpAny_Constant_int ⟨.int i, H, I.tok _, ⟨_, rfl⟩, h⟩
theorem pe_bl {b j pos} : PE X (.Constant (.bool b) j pos) (tC (.bl b)) := fun _ _ _ H _ I h => Constant_bool ⟨.bl b, H, I, rfl, h⟩
theorem pe_non {j pos} : PE X (.Constant .none j pos) (tC .non) := fun _ _ _ H _ I h => Constant_none ⟨.non, H, I, rfl, h⟩
theorem pe_str {x j pos} : PE X (.Constant (.str x) j pos) (tC (.str x)) := fun _ _ _ H _ I h => Calls.Constant_str ⟨.str x, H, I.tok _, ⟨_, rfl⟩, h⟩
noncomputable def Gl (X : Cx) (x : Str) : Prop := X.env.kindOf x = some .globalImplicit
theorem ld_glob {E : Value → Shared → Prop} {pins : List (Addr × Obj)} {s : Shared} {σ : St} {H : Hp} {x : Str} {u : Value} {pos : Pos} {Q : Value → Shared → Prop} (I : Inv X pins σ H s) (hg : Gl X x) (hm : X.mg x = some u) (h : Q u s)
    (hd : (x == ("__debug__" : Str)) = false := by decide) : wpAny (model X.prog X.w) X.A (eval (.Name x pos) X.env) Q E s :=
  Calls.Name_function_global I.ok.kind hg (Calls.loadGlobal_global (by rw [I.ok.glob]; exact I.mod.glob.keeps I.bk) hm h) hd
theorem ld_blt {E : Value → Shared → Prop} {pins : List (Addr × Obj)} {s : Shared} {σ : St} {H : Hp} {x : Str} {u : Value} {pos : Pos} {Q : Value → Shared → Prop} (I : Inv X pins σ H s) (hg : Gl X x) (hm : X.mg x = none) (hv : bootBuiltins x = some u) (h : Q u s)
    (hn : x ≠ "__name__" := by decide) (hd : (x == ("__debug__" : Str)) = false := by decide) : wpAny (model X.prog X.w) X.A (eval (.Name x pos) X.env) Q E s := by
  obtain ⟨mb, h1, h2⟩ := I.mod.blt
  exact Calls.Name_function_global I.ok.kind hg (Calls.loadGlobal_builtin (by rw [I.ok.glob]; exact I.mod.glob.keeps I.bk) hm (by rw [I.ok.blt]; exact h1.keeps I.bk) ((h2 x hn).trans hv) h) hd
theorem pe_glob {x : Str} {v : V} {u : Value} {pos : Pos} (hg : Gl X x) (hm : X.mg x = some u) (r : RelV v u) (hd : (x == ("__debug__" : Str)) = false := by decide) : PE X (.Name x pos) (tC v) :=
  fun _ _ _ H _ I h => ld_glob I hg hm ⟨v, H, I, r, h⟩ hd
theorem pe_bltn {x : Str} {v : V} {u : Value} {pos : Pos} (hg : Gl X x) (hm : X.mg x = none) (hv : bootBuiltins x = some u) (r : RelV v u) (hn : x ≠ "__name__" := by decide) (hd : (x == ("__debug__" : Str)) = false := by decide) : PE X (.Name x pos) (tC v) :=
  fun _ _ _ H _ I h => ld_blt I hg hm hv ⟨v, H, I, r, h⟩ hn hd
variable {a b : Expr} {ta tb : TE} {pos : Pos}
noncomputable def PC (X : Cx) (op : CmpOp) (a b : Expr) (t : TE) : Prop :=
  ∀ (pins : List (Addr × Obj)) (s : Shared) (σ : St) (H : Hp) (Q : VK), Inv X pins σ H s → t σ H Q →
    wpAny (model X.prog X.w) X.A (eval a X.env) (fun v s₁ => wpAny (model X.prog X.w) X.A (eval b X.env) (fun u s₂ => wpAny (model X.prog X.w) X.A (compareOp op v u) (EP X pins σ Q) X.xe s₂) X.xe s₁) X.xe s
theorem nobehind (b : Expr) {op : CmpOp} (h : op ≠ .In) (h2 : op ≠ .NotIn) : behindInMarks op b = false := by
  have e1 : (op == CmpOp.In) = false := by cases op <;> first | rfl | exact absurd rfl h
  have e2 : (op == CmpOp.NotIn) = false := by cases op <;> first | rfl | exact absurd rfl h2
  cases b <;> simp [behindInMarks, e1, e2]
noncomputable def tIsN (ta : TE) : TE := fun σ H Q => ta σ H fun x H1 => Q (.bl (decide (x = .non))) H1
noncomputable def tNotN (ta : TE) : TE := fun σ H Q => ta σ H fun x H1 => Q (.bl (!decide (x = .non))) H1
theorem RelV.none_iff {x : V} {v : Value} (r : RelV x v) : (v == Value.none) = decide (x = .non) := by
  cases x with
  | non => cases r; rfl
  | bl _ => cases r; rfl
  | int _ => obtain ⟨t, rfl⟩ := r; rfl
  | str _ => obtain ⟨t, rfl⟩ := r; rfl
  | byt _ => obtain ⟨t, rfl⟩ := r; rfl
  | flt _ => obtain ⟨t, rfl⟩ := r; rfl
  | ref _ => cases r; rfl
  | ty _ => cases r; rfl
theorem pc_isN {j pos'} (ha : PE X a ta) : PC X .Is a (.Constant .none j pos') (tIsN ta) := by
  intro pins s σ H Q I h
  refine thn (ha pins s σ H _ I h) fun v s1 hq9 => EP.out hq9 fun x H1 I1 r1 q1 => ?_
  exact Constant_none (is_none_gen ⟨.bl _, H1, I1, by rw [r1.none_iff]; rfl, q1⟩)
theorem pc_notN {j pos'} (ha : PE X a ta) : PC X .IsNot a (.Constant .none j pos') (tNotN ta) := by
  intro pins s σ H Q I h
  refine thn (ha pins s σ H _ I h) fun v s1 hq9 => EP.out hq9 fun x H1 I1 r1 q1 => ?_
  exact Constant_none (isnot_none_gen ⟨.bl _, H1, I1, by rw [r1.none_iff]; rfl, q1⟩)
noncomputable def tB (t : TE) : TT := fun σ H Q => t σ H fun x H1 => ∃ c, x = .bl c ∧ Q c H1
theorem pt_cmp {op : CmpOp} {t : TE} (h : PC X op a b t) (h1 : behindInMarks op b = false := by first | exact nobehind _ (by decide) (by decide) | rfl) : PT X (.Compare a [op] [b] pos) (tB t) := by
  intro pins s σ H Q I hw
  refine wpAny_isTrue_Compare1 (thn (h pins s σ H _ I hw) fun v s1 h1 => thn h1 fun u s2 h2 => thn h2 fun c s3 hq9 => EP.out hq9 fun x H1 I1 r1 q1 => ?_) h1
  obtain ⟨d, rfl, q⟩ := q1
  cases r1
  exact wpAny_truthy_bool ⟨H1, I1, q⟩
theorem pt_val {e : Expr} {t : TE} (h : PE X e t) (he : ∀ whole, isTrue e X.env whole = (do let v ← whole; standAt e.pos; holding [v] (truthy v)) := by intro _; rfl) : PT X e (tB t) := by
  intro pins s σ H Q I hw
  refine isTrue_plain (thn (h pins s σ H _ I hw) fun v s1 hq9 => EP.out hq9 fun x H1 I1 r1 q1 => ?_) (he _)
  obtain ⟨d, rfl, q⟩ := q1
  cases r1
  exact wpAny_truthy_bool ⟨H1, I1, q⟩
variable {tA tB' : TT} {rest : List Expr}
noncomputable def tAnd (t u : TT) : TT := fun σ H Q => t σ H fun c H1 => if c = true then u σ H1 Q else Q false H1
noncomputable def tOr (t u : TT) : TT := fun σ H Q => t σ H fun c H1 => if c = true then Q true H1 else u σ H1 Q
noncomputable def tNot (t : TT) : TT := fun σ H Q => t σ H fun c H1 => Q (!c) H1
theorem pw_and1 (ha : PT X a tA) : PW X (.BoolOp .And [a] pos) tA := by
  intro wh pins s σ H Q I h
  refine isTrue_and (thn (ha pins s σ H Q I h) fun c s1 e => ?_)
  cases c with
  | true => exact isTrue_and_nil e
  | false => exact e
theorem pw_or1 (ha : PT X a tA) : PW X (.BoolOp .Or [a] pos) tA := by
  intro wh pins s σ H Q I h
  refine isTrue_or (thn (ha pins s σ H Q I h) fun c s1 e => ?_)
  cases c with
  | false => exact isTrue_or_nil e
  | true => exact e
theorem pw_and (ha : PT X a tA) (hb : PW X (.BoolOp .And (b :: rest) pos) tB') : PW X (.BoolOp .And (a :: b :: rest) pos) (tAnd tA tB') := by
  intro wh pins s σ H Q I h
  refine isTrue_and (thn (ha pins s σ H _ I h) fun c s1 hq9 => ex3 hq9 fun H1 I1 q1 => ?_)
  cases c with
  | true => exact hb wh pins s1 σ H1 Q I1 q1
  | false => exact ⟨H1, I1, q1⟩
theorem pw_or (ha : PT X a tA) (hb : PW X (.BoolOp .Or (b :: rest) pos) tB') : PW X (.BoolOp .Or (a :: b :: rest) pos) (tOr tA tB') := by
  intro wh pins s σ H Q I h
  refine isTrue_or (thn (ha pins s σ H _ I h) fun c s1 hq9 => ex3 hq9 fun H1 I1 q1 => ?_)
  cases c with
  | true => exact ⟨H1, I1, q1⟩
  | false => exact hb wh pins s1 σ H1 Q I1 q1
theorem pt_not (ha : PT X a tA) : PT X (.UnaryOp .Not a pos) (tNot tA) := by
  intro pins s σ H Q I h
  exact isTrue_not (ha pins s σ H (fun c H1 => Q (!c) H1) I h)
noncomputable def tOrV (ta tb : TE) : TE := fun σ H Q => ta σ H fun x H1 => ∃ c, x = .bl c ∧ if c = true then Q (.bl true) H1 else tb σ H1 Q
theorem pe_one {op} {t : TE} (h : PE X a t) : PE X (.BoolOp op [a] pos) t := fun pins s σ H Q I hw => BoolOp_one (h pins s σ H Q I hw)
theorem pe_or (ha : PE X a ta) (hb : PE X (.BoolOp .Or (b :: rest) pos) tb) : PE X (.BoolOp .Or (a :: b :: rest) pos) (tOrV ta tb) := by
  intro pins s σ H Q I h
  refine BoolOp_or (thn (ha pins s σ H _ I h) fun v s1 hq9 => EP.out hq9 fun x H1 I1 r1 q1 => ?_)
  obtain ⟨c, rfl, q1⟩ := q1
  cases r1
  refine wpAny_truthy_bool ?_
  cases c with
  | false => exact hb pins s1 σ H1 Q I1 q1
  | true => exact ⟨.bl true, H1, I1, rfl, q1⟩
noncomputable def tIf (t : TT) (ta tb : TE) : TE := fun σ H Q => t σ H fun c H1 => if c = true then ta σ H1 Q else tb σ H1 Q
theorem pe_ifExp {c : Expr} (hc : PT X c tA) (ha : PE X a ta) (hb : PE X b tb) : PE X (.IfExp c a b pos) (tIf tA ta tb) := by
  intro pins s σ H Q I h
  refine wpAny_IfExp (thn (hc pins s σ H _ I h) fun d s1 hq9 => ex3 hq9 fun H1 I1 q1 => ?_)
  cases d with
  | true => exact ha pins s1 σ H1 Q I1 q1
  | false => exact hb pins s1 σ H1 Q I1 q1
end
end L2
namespace L2
open PySem PySem.Spec PyProof.Rows
noncomputable def SqL (K : PySem.W.Frag) (H : Hp) (a : Addr) (xs : List V) : Prop :=
  Rd H a (.lst xs) ∨
    ∃ (o : Obj) (its : Array Value) (n : Nat), K.lookup a = some o ∧ o.cls = .type "list" ∧ o.dict = none ∧ o.data = .seq its n ∧ its.size ≤ sizeLine ∧ Vals xs its.toList
noncomputable def SqT (K : PySem.W.Frag) (H : Hp) (a : Addr) (xs : List V) : Prop :=
  Rd H a (.tup xs) ∨
    ∃ (o : Obj) (its : Array Value) (n : Nat), K.lookup a = some o ∧ o.cls = .type "tuple" ∧ o.data = .seq its n ∧ its.size ≤ sizeLine ∧ Vals xs its.toList
noncomputable def absV : Value → Option V
  | .none => some .non
  | .bool b => some (.bl b)
  | .int i _ => some (.int i)
  | .str x _ => some (.str x)
  | .bytes b _ => some (.byt b)
  | .float b _ => some (.flt b)
  | .ref a => some (.ref a)
  | .type n => some (.ty n)
  | _ => none
theorem RelV.abs {x : V} {u : Value} (r : RelV x u) : absV u = some x := by
  cases x with
  | non => cases r; rfl
  | bl _ => cases r; rfl
  | int _ => obtain ⟨t, rfl⟩ := r; rfl
  | str _ => obtain ⟨t, rfl⟩ := r; rfl
  | byt _ => obtain ⟨t, rfl⟩ := r; rfl
  | flt _ => obtain ⟨t, rfl⟩ := r; rfl
  | ref _ => cases r; rfl
  | ty _ => cases r; rfl
theorem RelV.inj {x y : V} {u : Value} (r : RelV x u) (q : RelV y u) : x = y := Option.some.inj (r.abs.symm.trans q.abs)
theorem Vals.inj {xs ys : List V} {us : List Value} (h : Vals xs us) (g : Vals ys us) : xs = ys := by
  induction h generalizing ys with
  | nil => cases g; rfl
  | cons r t ih =>
    cases g with
    | cons r' t' => rw [r.inj r', ih t']
section
variable {X : Cx} {pins : List (Addr × Obj)} {σ : St} {H : Hp} {s : Shared} {a : Addr} {xs ys : List V}
theorem SqL.of {K : PySem.W.Frag} (h : H a = some (.lst xs)) : SqL K H a xs := .inl (.inl h)
theorem SqT.of {K : PySem.W.Frag} (h : H a = some (.tup xs)) : SqT K H a xs := .inl (.inl h)
theorem Inv.list (I : Inv X pins σ H s) (h : SqL X.K H a xs) : ∃ its : List Value, Vals xs its ∧ PlainL s.heap a its.toArray ∧ xs.length ≤ sizeLine := by
  rcases h with h | ⟨o, its, n, hk, hc, hd, hs, hz, r⟩
  · obtain ⟨z, its, n, r, e⟩ := h.ok I.hok
    exact ⟨its, r, ⟨_, n, e, rfl, rfl, rfl⟩, z⟩
  · refine ⟨its.toList, r, ⟨o, n, I.kIn a o hk, hc, hd, by simpa using hs⟩, ?_⟩
    have e := r.length
    simp only [Array.length_toList] at e
    omega
theorem Inv.tuple (I : Inv X pins σ H s) (h : SqT X.K H a xs) : ∃ its : List Value, Vals xs its ∧ IsTup s.heap a its.toArray ∧ xs.length ≤ sizeLine := by
  rcases h with h | ⟨o, its, n, hk, hc, hs, hz, r⟩
  · obtain ⟨z, its, r, p⟩ := h.ok I.hok
    exact ⟨its, r, p, z⟩
  · refine ⟨its.toList, r, ⟨o, I.kIn a o hk, hc, n, by simpa using hs⟩, ?_⟩
    have e := r.length
    simp only [Array.length_toList] at e
    omega
theorem Inv.list_inj (I : Inv X pins σ H s) (h : SqL X.K H a xs) (h' : SqL X.K H a ys) : xs = ys := by
  obtain ⟨its, r, ⟨o, n, e, _, _, d⟩, _⟩ := I.list h
  obtain ⟨its', r', ⟨o', n', e', _, _, d'⟩, _⟩ := I.list h'
  rw [e] at e'; cases e'
  rw [d] at d'
  injection d' with d1 _
  have : its = its' := by simpa using congrArg Array.toList d1
  subst this
  exact r.inj r'
theorem Inv.tuple_inj (I : Inv X pins σ H s) (h : SqT X.K H a xs) (h' : SqT X.K H a ys) : xs = ys := by
  obtain ⟨its, r, ⟨o, e, _, n, d⟩, _⟩ := I.tuple h
  obtain ⟨its', r', ⟨o', e', _, n', d'⟩, _⟩ := I.tuple h'
  rw [e] at e'; cases e'
  rw [d] at d'
  injection d' with d1 _
  have : its = its' := by simpa using congrArg Array.toList d1
  subst this
  exact r.inj r'
end
noncomputable abbrev Cx.wish (X : Cx) (E : Value → Shared → Prop) : Cx := { X with xe := E }
noncomputable abbrev Cx.nox (X : Cx) : Cx := X.wish fun _ _ => False
theorem Cx.Ok.wish {X : Cx} (ok : X.Ok) (E : Value → Shared → Prop) : (X.wish E).Ok :=
  ⟨ok.mod, ok.kind, ok.glob, ok.blt, ok.above, ok.inj, ok.has, ok.cab, ok.hd, ok.frames, ok.stk, ok.exf, ok.bs, ok.bsz, ok.noex, ok.exfs, ok.funs, ok.frf⟩
theorem Cx.Ok.unwish {X : Cx} {E : Value → Shared → Prop} (ok : (X.wish E).Ok) : X.Ok :=
  ⟨ok.mod, ok.kind, ok.glob, ok.blt, ok.above, ok.inj, ok.has, ok.cab, ok.hd, ok.frames, ok.stk, ok.exf, ok.bs, ok.bsz, ok.noex, ok.exfs, ok.funs, ok.frf⟩
section
variable {X : Cx} {pins : List (Addr × Obj)} {σ : St} {H : Hp} {s : Shared} {E : Value → Shared → Prop}
theorem Inv.wish (I : Inv X pins σ H s) (E : Value → Shared → Prop) : Inv (X.wish E) pins σ H s := ⟨I.ok.wish E, I.os, I.bare, I.base, I.loc, I.cell, I.free, I.freeC, I.pin, I.hok, I.len⟩
theorem Inv.unwish (I : Inv (X.wish E) pins σ H s) : Inv X pins σ H s := ⟨I.ok.unwish, I.os, I.bare, I.base, I.loc, I.cell, I.free, I.freeC, I.pin, I.hok, I.len⟩
theorem SP.unwish {D : Ends} {f : Flow} {s' : Shared} (h : SP (X.wish E) pins D f s') : SP X pins D f s' := by
  cases f with
  | next => obtain ⟨σ', H', I, q⟩ := h; exact ⟨σ', H', I.unwish, q⟩
  | brk => obtain ⟨σ', H', I, q⟩ := h; exact ⟨σ', H', I.unwish, q⟩
  | cont => obtain ⟨σ', H', I, q⟩ := h; exact ⟨σ', H', I.unwish, q⟩
  | ret u => obtain ⟨v, σ', H', I, r, q⟩ := h; exact ⟨v, σ', H', I.unwish, r, q⟩
theorem PSs.nox {st : List Stmt} {t : TS} (h : PSs X.nox st t) : PSs X st t := fun pins s σ H D I hw =>
  wpAny_mono (h pins s σ H D (I.wish _) hw) (fun _ _ q => q.unwish) fun _ _ z => False.elim z
end
section
variable {X : Cx} {st : Stmt} {rest : List Stmt} {t u : TS} {e : Expr} {te : TE} {pos : Pos}
noncomputable def tNext : TS := fun D σ H => D.nx σ H
noncomputable def tSeq (t u : TS) : TS := fun D σ H => t { D with nx := u D } σ H
theorem pss_nil : PSs X [] tNext := fun _ _ σ H _ I h => wpAny_execs_nil ⟨σ, H, I, h⟩
theorem pss_cons (h1 : PS X st t) (h2 : PSs X rest u) : PSs X (st :: rest) (tSeq t u) := by
  intro pins s σ H D I h
  refine wpAny_execs_cons (thn (h1 pins s σ H { D with nx := u D } I h) fun f s1 q => ?_)
  cases f with
  | next =>
    obtain ⟨σ', H', I', q⟩ := q
    exact h2 pins s1 σ' H' D I' q
  | ret v => exact q
  | brk => exact q
  | cont => exact q
theorem pss_one (h1 : PS X st t) : PSs X [st] t := by
  intro pins s σ H D I h
  refine wpAny_execs_cons (thn (h1 pins s σ H D I h) fun f s1 q => ?_)
  cases f with
  | next => exact wpAny_execs_nil q
  | ret v => exact q
  | brk => exact q
  | cont => exact q
theorem Inv.quiet {pins : List (Addr × Obj)} {σ : St} {H : Hp} {s : Shared} (I : Inv X pins σ H s) : interactive X.env = false := by simp [interactive, I.ok.kind]
noncomputable def tDrop (te : TE) : TS := fun D σ H => te σ H fun _ H1 => D.nx σ H1
theorem ps_expr (he : PE X e te) (hs : swapsWith e none pos.line X.env = pure false := by rfl) : PS X (.Expr e pos) (tDrop te) := by
  intro pins s σ H D I h
  exact wpAny_Expr_any (thn (he pins s σ H _ I h) fun v s1 hq9 => EP.out hq9 fun x H1 I1 r1 q1 => ⟨σ, H1, I1, q1⟩) I.quiet hs
noncomputable def tRet (te : TE) : TS := fun D σ H => te σ H D.rt
theorem ps_ret (he : PE X e te) : PS X (.Return (some e) pos) (tRet te) := by
  intro pins s σ H D I h
  exact wpAny_Return_some (thn (he pins s σ H _ I h) fun v s1 hq9 => EP.out hq9 fun x H1 I1 r1 q1 => ⟨x, σ, H1, I1, r1, q1⟩)
noncomputable def tIfS (c : TT) (t u : TS) : TS := fun D σ H => c σ H fun b H1 => if b = true then t D σ H1 else u D σ H1
theorem ps_if {c : Expr} {a b : List Stmt} {tc : TT} (hc : PT X c tc) (ha : PSs X a t) (hb : PSs X b u) : PS X (.If c a b pos) (tIfS tc t u) := by
  intro pins s σ H D I h
  refine wpAny_If (thn (hc pins s σ H _ I h) fun d s1 hq9 => ex3 hq9 fun H1 I1 q1 => ?_)
  cases d with
  | true => exact ha pins s1 σ H1 D I1 q1
  | false => exact hb pins s1 σ H1 D I1 q1
noncomputable def tNever : TS := fun _ _ _ => False
theorem ps_never : PS X st tNever := fun _ _ _ _ _ _ h => h.elim
end
noncomputable abbrev TG := V → St → Hp → (St → Hp → Prop) → Prop
noncomputable abbrev TGs := List V → St → Hp → (St → Hp → Prop) → Prop
noncomputable def PG (X : Cx) (target : Expr) (t : TG) : Prop :=
  ∀ (pins : List (Addr × Obj)) (s : Shared) (σ : St) (H : Hp) (v : V) (u : Value) (Q : St → Hp → Prop), Inv X pins σ H s → RelV v u → t v σ H Q →
    wpAny (model X.prog X.w) X.A (assign target X.env u) (fun _ s' => ∃ σ' H', Inv X pins σ' H' s' ∧ Q σ' H') X.xe s
noncomputable def PGs (X : Cx) (ts : List Expr) (t : TGs) : Prop :=
  ∀ (pins : List (Addr × Obj)) (s : Shared) (σ : St) (H : Hp) (vs : List V) (us : List Value) (Q : St → Hp → Prop), Inv X pins σ H s → Vals vs us → t vs σ H Q →
    wpAny (model X.prog X.w) X.A (assignInOrder ((assignEach ts X.env).map (·.2)) us) (fun _ s' => ∃ σ' H', Inv X pins σ' H' s' ∧ Q σ' H') X.xe s
noncomputable abbrev TSet := V → V → V → Hp → (Hp → Prop) → Prop
noncomputable def PSet (X : Cx) (t : TSet) : Prop :=
  ∀ (pins : List (Addr × Obj)) (s : Shared) (σ : St) (H : Hp) (o i v : V) (ov iv u : Value) (Q : Hp → Prop), Inv X pins σ H s → RelV o ov → RelV i iv → RelV v u → t o i v H Q →
    wpAny (model X.prog X.w) X.A (setItem ov iv u) (fun _ s' => ∃ H', Inv X pins σ H' s' ∧ Q H') X.xe s
noncomputable abbrev TIp := V → V → Hp → VK → Prop
noncomputable def PIp (X : Cx) (op : Operator) (t : TIp) : Prop :=
  ∀ (pins : List (Addr × Obj)) (s : Shared) (σ : St) (H : Hp) (x y : V) (v u : Value) (Q : VK), Inv X pins σ H s → RelV x v → RelV y u → t x y H Q →
    wpAny (model X.prog X.w) X.A (inplaceOp op v u) (EP X pins σ Q) X.xe s
section
variable {X : Cx} {pos : Pos}
noncomputable def gName (i : Nat) : TG := fun v σ H Q => Q (σ.set i (some v)) H
theorem pg_name {i : Nat} {x : Str} (hN : X.N.Nodup) (hi : X.N[i]? = some x) (hx : Loc X.env.scope x) (hf : X.fn x = true ∨ X.env.scope.names.lookup x = some .local := by first | exact .inl rfl | exact .inr rfl | assumption) : PG X (.Name x pos) (gName i) := by
  intro pins s σ H v u Q I r h
  exact wpAny_assign_Name (store_ok I hN hi hx r (fun s' I' => ⟨_, H, I', h⟩) hf)
noncomputable def gNil : TGs := fun vs σ H Q => vs = [] ∧ Q σ H
noncomputable def gCons (t : TG) (u : TGs) : TGs := fun vs σ H Q => ∃ v r, vs = v :: r ∧ t v σ H fun σ' H' => u r σ' H' Q
theorem pgs_nil : PGs X [] gNil := by
  intro pins s σ H vs us Q I r h
  obtain ⟨e, h⟩ := h
  subst e
  cases r
  exact assignInOrder_nil ⟨σ, H, I, h⟩
theorem pgs_cons {e : Expr} {es : List Expr} {t : TG} {u : TGs} (h1 : PG X e t) (h2 : PGs X es u)
    (hs : (assignEach (e :: es) X.env).map (·.2) = assign e X.env :: (assignEach es X.env).map (·.2) := by rfl) : PGs X (e :: es) (gCons t u) := by
  intro pins s σ H vs us Q I r h
  obtain ⟨v, vr, e1, h⟩ := h
  subst e1
  cases r with
  | cons r rr =>
    rw [hs]
    refine assignInOrder_cons (thn (h1 pins s σ H _ _ _ I r h) fun _ s1 hq9 => GP.out hq9 fun σ1 H1 I1 q1 => ?_)
    exact h2 pins s1 σ1 H1 _ _ Q I1 rr q1
noncomputable def gTup (K : PySem.W.Frag) (n : Nat) (t : TGs) : TG := fun v σ H Q => ∃ a xs, v = .ref a ∧ SqT K H a xs ∧ xs.length = n ∧ t xs σ H Q
theorem pg_tup {es : List Expr} {k : Nat} {t : TGs} {n : Nat} (hc : X.calm = true) (h : PGs X es t)
    (hn : (assignEach es X.env).length = n := by rfl) (hst : (assignEach es X.env).findIdx? (·.1) = none := by rfl) : PG X (.Tuple es k pos) (gTup X.K n t) := by
  intro pins s σ H v u Q I r hw
  obtain ⟨a, xs, e1, hq, hl, hw⟩ := hw
  subst e1
  cases r
  obtain ⟨its, rv, ht, hz⟩ := I.tuple hq
  refine assign_Tuple_tuple (I.ok.hd hc) ht (by simp [hn, ← hl, rv.length]) hst fun h' hx => ?_
  have I1 : Inv X pins σ H { s with heap := h' } := I.kept (t' := s.toks) fun b o e => hx b o (Nat.ne_of_lt (Heap.lt_size e)) e
  exact h pins _ σ H xs _ Q I1 (by simpa using rv) hw
noncomputable def gSub (to ti : TE) (t : TSet) : TG := fun v σ H Q => to σ H fun o H1 => ti σ H1 fun i H2 => t o i v H2 fun H3 => Q σ H3
theorem pg_sub {o i : Expr} {to ti : TE} {t : TSet} (ho : PE X o to) (hi : PE X i ti) (hs : PSet X t)
    (ha : ∀ v, assign (.Subscript o i pos) X.env v = (do
      let ov ← holding [v] (eval o X.env)
      let iv ← holding [v, ov] (eval i X.env)
      standAt pos
      holding [v, ov, iv] (setItem ov iv v)
      release [v, ov, iv] []) := by intro _; rfl) : PG X (.Subscript o i pos) (gSub to ti t) := by
  intro pins s σ H v u Q I r h
  rw [ha]
  refine wpAny_bind (wpAny_holding (thn (ho pins s σ H _ I h) fun ov s1 hq9 => EP.out hq9 fun x H1 I1 r1 q1 => ?_))
  refine wpAny_bind (wpAny_holding (thn (hi pins s1 σ H1 _ I1 q1) fun iv s2 hq9 => EP.out hq9 fun y H2 I2 r2 q2 => ?_))
  refine wpAny_bind (wpAny_standAt (wpAny_bind (wpAny_holding (thn (hs pins s2 σ H2 x y v ov iv u _ I2 r1 r2 r q2) fun _ s3 hq9 => ex3 hq9 fun H3 I3 q3 => ?_))))
  exact wpAny_release ⟨σ, H3, I3, q3⟩
noncomputable def tAsg (te : TE) (g : TG) : TS := fun D σ H => te σ H fun x H1 => g x σ H1 D.nx
theorem ps_asg {tg e : Expr} {te : TE} {g : TG} (he : PE X e te) (hg : PG X tg g) (hs : swapsWithSole [tg] e pos.line X.env = pure false := by rfl) (hw : swappedStores [tg] e X.env = pure none := by rfl)
    (h1 : (assignEach [tg] X.env).map (·.2) = [assign tg X.env] := by rfl) : PS X (.Assign [tg] e pos) (tAsg te g) := by
  intro pins s σ H D I h
  refine wpAny_Assign_stores (thn (he pins s σ H _ I h) fun v s1 hq9 => EP.out hq9 fun x H1 I1 r1 q1 => ?_) hs hw
  rw [h1]
  exact thn (hg pins s1 σ H1 x v _ I1 r1 q1) fun _ s2 q => q
theorem ps_set {i : Nat} {x : Str} {e : Expr} {te : TE} {pos' : Pos} (hN : X.N.Nodup) (hi : X.N[i]? = some x) (hx : Loc X.env.scope x) (he : PE X e te) (hs : swapsWith e (some (.Name x pos')) pos.line X.env = pure false := by rfl) (hf : X.fn x = true ∨ X.env.scope.names.lookup x = some .local := by first | exact .inl rfl | exact .inr rfl | assumption) :
    PS X (.Assign [.Name x pos'] e pos) (tAsg te (gName i)) := by
  intro pins s σ H D I h
  refine wpAny_Assign_Name (thn (he pins s σ H _ I h) fun v s1 hq9 => EP.out hq9 fun y H1 I1 r1 q1 => ?_) hs
  exact store_ok I1 hN hi hx r1 (fun s2 I2 => ⟨_, H1, I2, q1⟩) hf
noncomputable def tAug (i : Nat) (te : TE) (ti : TIp) : TS := fun D σ H => ∃ x, σ[i]? = some (some x) ∧ te σ H fun y H1 => ti x y H1 fun z H2 => D.nx (σ.set i (some z)) H2
theorem ps_aug {i : Nat} {x : Str} {e : Expr} {te : TE} {op : Operator} {ti : TIp} {pos' : Pos} (hN : X.N.Nodup) (hi : X.N[i]? = some x) (hx : Loc X.env.scope x) (he : PE X e te) (ho : PIp X op ti) (hf : X.fn x = true ∨ X.env.scope.names.lookup x = some .local := by first | exact .inl rfl | exact .inr rfl | assumption) :
    PS X (.AugAssign (.Name x pos') op e pos) (tAug i te ti) := by
  intro pins s σ H D I h
  obtain ⟨v, e1, h⟩ := h
  obtain ⟨m, hn, hl⟩ := I.loc
  have vis : Vis X.env.scope x := by rcases hx with k | k; exact .inl k; exact .inr (.inl k)
  obtain ⟨u, r, l⟩ := hl i x v hi e1 vis
  refine wpAny_AugAssign_Name ?_
  have go : wpAny (model X.prog X.w) X.A (eval e X.env) (fun w s₂ => wpAny (model X.prog X.w) X.A (inplaceOp op u w) (fun r s₃ => wpAny (model X.prog X.w) X.A (storeName X.env x r) (fun _ => SP X pins D .next) X.xe s₃) X.xe s₂) X.xe s := by
    refine thn (he pins s σ H _ I h) fun w s1 hq9 => EP.out hq9 fun y H1 I1 r1 q1 => ?_
    refine thn (ho pins s1 σ H1 v y u w _ I1 r r1 q1) fun z s2 hq9 => EP.out hq9 fun zv H2 I2 r2 q2 => ?_
    exact store_ok I2 hN hi hx r2 (fun s3 I3 => ⟨_, H2, I3, q2⟩) hf
  rcases l with ⟨hk, hm⟩ | ⟨hk, c, hc, hcell⟩
  · exact wpAny_loadName_local I.ok.kind hk hn hm go
  · rcases hk with hk | hk
    · exact wpAny_loadName_cell I.ok.kind hk hc hcell go
    · rcases hx with k | k
      · have : X.env.scope.names.lookup x = some .free := hk
        rw [k] at this; cases this
      · have : X.env.scope.names.lookup x = some .free := hk
        rw [k] at this; cases this
noncomputable def ipI (f : Int → Int → Int) : TIp := fun x y H Q => ∃ i j, x = .int i ∧ y = .int j ∧ Q (.int (f i j)) H
theorem ip_add : PIp X .Add (ipI fun i j => i + j) := by
  intro pins s σ H x y v u Q I r1 r2 h
  obtain ⟨i, j, e1, e2, q⟩ := h
  subst e1; subst e2
  obtain ⟨t, rfl⟩ := r1
  obtain ⟨t', rfl⟩ := r2
  exact iadd_int ⟨.int _, H, I.tok _, ⟨_, rfl⟩, q⟩
end
section
variable {X : Cx} {pos : Pos}
noncomputable def tWhile (c : TT) (tb : TS) : TS := fun D σ H => ∃ W : Nat → St → Hp → Prop, (∃ m, W m σ H) ∧ ∀ m σ H, W m σ H →
  c σ H fun b H1 => if b = true then ∃ N : St → Hp → Prop, (∀ σ' H', N σ' H' → ∃ m', m' < m ∧ W m' σ' H') ∧ tb { D with nx := N, ct := N, bk := D.nx } σ H1 else D.nx σ H1
theorem ps_while {c : Expr} {body : List Stmt} {tc : TT} {tb : TS} (hp : PassesOwn (model X.prog X.w) X.A X.env X.xe) (hc : PT X c tc) (hb : PSs X body tb) : PS X (.While c body [] pos) (tWhile tc tb) := by
  intro pins s σ H D I h
  obtain ⟨W, ⟨m0, w0⟩, turn⟩ := h
  refine wpAny_While (codeAny_whileLoop (fun n s' => ∃ σ' H', Inv X pins σ' H' s' ∧ W n σ' H') ?_ m0 ⟨σ, H, I, w0⟩)
  rintro n s1 ⟨σ1, H1, I1, w1⟩
  refine wpAny_passesOwn hp (thn (hc pins s1 σ1 H1 _ I1 (turn n σ1 H1 w1)) fun b s2 hq9 => ex3 hq9 fun H2 I2 q2 => ?_)
  cases b with
  | true =>
    obtain ⟨N, hN, q2⟩ := q2
    rw [if_pos rfl]
    refine wpAny_passesOwn hp (thn (hb pins s2 σ1 H2 _ I2 q2) fun f s3 q3 => ?_)
    cases f with
    | next =>
      obtain ⟨σ3, H3, I3, n3⟩ := q3
      obtain ⟨m', hm, w3⟩ := hN σ3 H3 n3
      exact ⟨m', hm, σ3, H3, I3, w3⟩
    | cont =>
      obtain ⟨σ3, H3, I3, n3⟩ := q3
      obtain ⟨m', hm, w3⟩ := hN σ3 H3 n3
      exact ⟨m', hm, σ3, H3, I3, w3⟩
    | brk => exact q3
    | ret v => exact q3
  | false =>
    rw [if_neg Bool.false_ne_true]
    exact wpAny_execs_nil ⟨σ1, H2, I2, q2⟩
end
structure It where
  go : Nat → Hp → Prop
  yld : Nat → Hp → V → Hp → Prop
  stop : Nat → Hp → Prop
noncomputable def FpOk (X : Cx) (pins : List (Addr × Obj)) (H : Hp) (b : Addr) : Prop :=
  H b = none ∧ b ≠ X.env.locals ∧ b ∉ X.fs ∧ (b ∈ X.ex ∨ X.s₀.heap.objs.size ≤ b) ∧ (∀ x c, X.env.cells.lookup x = some c → c ≠ b) ∧ ∀ p ∈ X.pn ++ pins, p.1 ≠ b
theorem Inv.fpOk {X : Cx} {pins : List (Addr × Obj)} {σ : St} {H H' : Hp} {s : Shared} {b : Addr} (I : Inv X pins σ H s) (hb : s.heap.objs.size ≤ b) (hn : H' b = none) : FpOk X pins H' b := by
  refine ⟨hn, Nat.ne_of_gt (Nat.lt_of_lt_of_le I.lt hb), I.nofs hb, .inr (Nat.le_trans I.sz hb), fun x c e z => ?_, fun p hp z => ?_⟩
  · obtain ⟨v, q⟩ := I.cell x c e
    exact absurd (Nat.lt_of_lt_of_le q.lt (by rw [z]; exact hb)) (Nat.lt_irrefl _)
  · exact absurd (Nat.lt_of_lt_of_le (Heap.lt_size (I.pin p hp).1) (by rw [z]; exact hb)) (Nat.lt_irrefl _)
structure Turn (P : Program) (w : World) (K : PySem.W.Frag) (tg : Expr) (J : It) (fp : List Addr) (it : Addr) (tn : Nat → Heap → Prop) : Prop where
  mem : it ∈ fp
  obj : ∀ i h, tn i h → ∀ b ∈ fp, ∃ o, h.get? b = some o ∧ ∀ v, o.data ≠ .cell v
  keep : ∀ i h h', tn i h → (∀ b ∈ fp, ∀ o, h.get? b = some o → h'.get? b = some o) → tn i h'
  item : ∀ (X : Cx), X.prog = P → X.w = w → X.K = K → X.calm = true → ∀ (i : Nat) (pins : List (Addr × Obj)) (s : Shared) (σ : St) (H : Hp) (E : Value → Shared → Prop), Inv X pins σ H s → (∀ b ∈ fp, FpOk X pins H b) → tn i s.heap → J.go i H →
    wpAny (model P w) X.A (pyNext (.ref it)) (fun r s1 => ∃ u, r = some u ∧
      wpAny (model P w) X.A (letOwnedTupleGo tg (.ref it) u) (fun _ s2 => ∃ x H', Inv X pins σ H' s2 ∧ RelV x u ∧ J.yld i H x H' ∧ tn (i + 1) s2.heap ∧ ∀ b ∈ fp, H' b = none) E s1) E s
  done : ∀ (X : Cx), X.prog = P → X.w = w → X.K = K → X.calm = true → ∀ (i : Nat) (pins : List (Addr × Obj)) (s : Shared) (σ : St) (H : Hp) (E : Value → Shared → Prop), Inv X pins σ H s → (∀ b ∈ fp, FpOk X pins H b) → tn i s.heap → J.stop i H →
    wpAny (model P w) X.A (pyNext (.ref it)) (fun r s1 => r = none ∧ Inv X pins σ H s1) E s
  self : ∀ (A : Around) (i : Nat) (s : Shared) (Q : Value → Shared → Prop) (E : Value → Shared → Prop), tn i s.heap → Q (.ref it) s → wpAny (model P w) A (pyIter (.ref it)) Q E s
noncomputable abbrev TI := St → Hp → (It → Hp → Prop) → Prop
noncomputable def PIE (X : Cx) (pins : List (Addr × Obj)) (σ : St) (tg : Expr) (R : It → Hp → Prop) (itv : Value) (s2 : Shared) : Prop :=
  ∃ (it : Addr) (fp : List Addr) (tn : Nat → Heap → Prop) (J : It) (H' : Hp), itv = .ref it ∧ Inv X pins σ H' s2 ∧ Turn X.prog X.w X.K tg J fp it tn ∧ tn 0 s2.heap ∧ (∀ b ∈ fp, FpOk X pins H' b) ∧ R J H'
noncomputable def PI (X : Cx) (tg iter : Expr) (wi : TI) : Prop :=
  ∀ (pins : List (Addr × Obj)) (s : Shared) (σ : St) (H : Hp) (R : It → Hp → Prop), Inv X pins σ H s → wi σ H R →
    wpAny (model X.prog X.w) X.A (eval iter X.env) (fun v s1 => wpAny (model X.prog X.w) X.A (pyIter v) (PIE X pins σ tg R) X.xe s1) X.xe s
theorem go_of {M : Model} {A : Around} {E : Value → Shared → Prop} {s : Shared} {tg : Expr} {it : Addr} {u : Value} {o : Obj} {n : String} {vs : Array Value} {Q : Unit → Shared → Prop} (ho : s.heap.get? it = some o) (hc : o.cls = .type n) (hd : o.data = .fields vs)
    (hn : ["enumerate", "zip", "dict_itemiterator", "dict_reverseitemiterator", "odict_iterator", "itertools.zip_longest", "itertools.pairwise"].contains n = false) (hQ : Q () s) : wpAny M A (letOwnedTupleGo tg (.ref it) u) Q E s := by
  unfold letOwnedTupleGo
  cases tg <;> first
    | exact wpAny_pure hQ
    | (cases u <;> first
        | exact wpAny_pure hQ
        | (refine wpAny_bind (wpAny_load ho ?_)
           rw [hc, hd]
           show wpAny M A (if (["enumerate", "zip", "dict_itemiterator", "dict_reverseitemiterator", "odict_iterator", "itertools.zip_longest", "itertools.pairwise"].contains n && vs[0]? == some (rawInt _)) = true then _ else _) Q E s
           rw [if_neg (by intro h; rw [hn, Bool.false_and] at h; cases h)]
           exact wpAny_pure hQ))
noncomputable def Itl (K : PySem.W.Frag) (a : Addr) : It :=
  ⟨fun i H => ∃ xs x, SqL K H a xs ∧ xs[i]? = some x, fun i H x H' => H' = H ∧ ∀ xs, SqL K H a xs → xs[i]? = some x, fun i H => ∃ xs, SqL K H a xs ∧ xs.length ≤ i⟩
noncomputable def Itr (lo : Int) (n : Nat) : It := ⟨fun i _ => i < n, fun i H x H' => H' = H ∧ x = .int (lo + i), fun i _ => n ≤ i⟩
theorem turn_list {P : Program} {w : World} {K : PySem.W.Frag} {tg : Expr} (a it : Addr) : Turn P w K tg (Itl K a) [it] it (fun i h => h.IsListIter it a i) where
  mem := by simp
  obj := fun i h st b hb => by
    have e : b = it := by simpa using hb
    subst e
    obtain ⟨o, e, c, d⟩ := st
    exact ⟨o, e, fun v z => by rw [d] at z; cases z⟩
  keep := fun i h h' st k => st.at fun o e => k it (by simp) o e
  item := by
    intro X hP hw hK hc i pins s σ H E I hf st hg
    subst hP hw hK
    obtain ⟨xs, x, hq, hx⟩ := hg
    obtain ⟨its, rv, p, hz⟩ := I.list hq
    obtain ⟨u, hu, ru⟩ := rv.get hx
    obtain ⟨f0, f1, f2, f3, f4, f5⟩ := hf it (by simp)
    refine wpAny_pyNext_list_item st p.isList (x := u) (by simpa using hu) fun h' st' sb => ?_
    have I1 : Inv X pins σ H { s with heap := h' } := I.turned (t' := s.toks) (fun b o hb e => (sb.2 b hb).trans e) f0 f1 f3 f4 f5
    obtain ⟨o, e, c, d⟩ := id st'
    exact ⟨u, rfl, go_of (s := { s with heap := h' }) e c d (by decide) ⟨x, H, I1, ru, ⟨rfl, fun ys hy => by rw [I.list_inj hy hq]; exact hx⟩, st', fun b hb => (hf b hb).1⟩⟩
  done := by
    intro X hP hw hK hc i pins s σ H E I hf st hg
    subst hP hw hK
    obtain ⟨xs, hq, hx⟩ := hg
    obtain ⟨its, rv, p, hz⟩ := I.list hq
    obtain ⟨f0, f1, f2, f3, f4, f5⟩ := hf it (by simp)
    have hl := rv.length
    exact wpAny_pyNext_list_end (I.ok.hd hc) st p.isList (by simp; omega) fun h' eb => ⟨rfl, I.turned (t' := s.toks) (fun b o hb e => eb b o hb e) f0 f1 f3 f4 f5⟩
  self := fun _ _ _ _ _ st h => wpAny_pyIter_listiter st h
theorem turn_range {P : Program} {w : World} {K : PySem.W.Frag} {tg : Expr} (it : Addr) (lo : Int) (n : Nat) : Turn P w K tg (Itr lo n) [it] it (fun i h => IsRangeIter h it (lo + (i : Nat) * 1) ((n : Int) - (i : Nat)) 1) where
  mem := by simp
  obj := fun i h st b hb => by
    have e : b = it := by simpa using hb
    subst e
    exact ⟨_, st, fun v z => by
      have z' : Data.fields _ = Data.cell v := z
      cases z'⟩
  keep := fun i h h' st k => k it (by simp) _ st
  item := by
    intro X hP hw hK hc i pins s σ H E I hf st hg
    subst hP hw hK
    obtain ⟨f0, f1, f2, f3, f4, f5⟩ := hf it (by simp)
    have W := Walks.range (prog := X.prog) (w := X.w) (I.ok.hd hc) it lo 1 n
    refine W.item i s _ _ hg st fun v h' tk hv st' kk => ?_
    obtain ⟨t, rfl⟩ := hv
    have I1 : Inv X pins σ H { s with heap := h', toks := tk } := I.turned (fun b o hb e => kk b o (by simpa using hb) e) f0 f1 f3 f4 f5
    refine ⟨_, rfl, go_of (s := { s with heap := h', toks := tk }) (n := "range_iterator") st' rfl rfl (by decide) ⟨.int (lo + i), H, I1, ⟨t, ?_⟩, ⟨rfl, rfl⟩, st', fun b hb => (hf b hb).1⟩⟩
    rw [Int.mul_one]
  done := by
    intro X hP hw hK hc i pins s σ H E I hf st hg
    subst hP hw hK
    obtain ⟨f0, f1, f2, f3, f4, f5⟩ := hf it (by simp)
    exact wpAny_pyNext_range_end (I.ok.hd hc) st (by have : n ≤ i := hg; omega) fun h' eb => ⟨rfl, I.turned (t' := s.toks) (fun b o hb e => eb b o hb e) f0 f1 f3 f4 f5⟩
  self := fun _ _ _ _ _ st h => wpAny_pyIter_rangeiter st h
end L2
namespace L2
open PySem PySem.Spec PyProof.Rows
section
variable {X : Cx} {tg : Expr}
noncomputable def iList (K : PySem.W.Frag) (tl : TE) : TI := fun σ H R => tl σ H fun x H1 => ∃ a, x = .ref a ∧ (∃ xs, SqL K H1 a xs) ∧ R (Itl K a) H1
theorem pi_list {l : Expr} {tl : TE} (hl : PE X l tl) : PI X tg l (iList X.K tl) := by
  intro pins s σ H R I h
  refine thn (hl pins s σ H _ I h) fun v s1 hq9 => EP.out hq9 fun x H1 I1 r1 q1 => ?_
  obtain ⟨a, e, ⟨xs, hq⟩, q⟩ := q1
  subst e
  cases r1
  obtain ⟨its, rv, p, hz⟩ := I1.list hq
  refine wpAny_pyIter_list p.isList ?_
  refine ⟨s1.heap.objs.size, [s1.heap.objs.size], _, _, H1, rfl, I1.kept (t' := s1.toks) fun b o e => Heap.get?_push_of_some _ e, turn_list a _, ⟨_, Heap.get?_push_size _ rfl, rfl, rfl⟩, fun b hb => ?_, q⟩
  have e : b = s1.heap.objs.size := by simpa using hb
  subst e
  exact I1.fpOk (Nat.le_refl _) (I1.hok.fresh (Nat.le_refl _))
theorem range_it {pins : List (Addr × Obj)} {σ : St} {H : Hp} {s : Shared} {R : It → Hp → Prop} {E : Value → Shared → Prop} {lo hi : Int} {t u v : Tok} {tk : Nat} (I : Inv X pins σ H s) (h1 : -(2 ^ 62) ≤ lo) (h2 : lo < 2 ^ 62) (h3 : -(2 ^ 62) ≤ hi) (h4 : hi < 2 ^ 62)
    (q : R (Itr lo (hi - lo).toNat) H) : wpAny (model X.prog X.w) X.A (pyIter (.ref s.heap.objs.size)) (PIE X pins σ tg R) E { s with heap := s.heap.push { cls := .type "range", data := .fields #[.int lo t, .int hi u, .int 1 v] }, toks := tk } := by
  refine wpAny_pyIter_range (IsRange.new ..) (small_one h1 h2 h3 h4) ?_
  have I1 : Inv X pins σ H { s with heap := s.heap.push { cls := .type "range", data := .fields #[.int lo t, .int hi u, .int 1 v] }, toks := tk } := I.kept fun b o e => Heap.get?_push_of_some _ e
  refine ⟨(s.heap.push { cls := .type "range", data := .fields #[.int lo t, .int hi u, .int 1 v] }).objs.size, [(s.heap.push { cls := .type "range", data := .fields #[.int lo t, .int hi u, .int 1 v] }).objs.size], _, _, H, rfl,
    I1.kept (t' := tk) fun b o e => Heap.get?_push_of_some _ e, turn_range _ lo (hi - lo).toNat, ?_, fun b hb => ?_, q⟩
  · have e1 : lo + ((0 : Nat) : Int) * 1 = lo := by simp
    have e2 : (((hi - lo).toNat : Nat) : Int) - ((0 : Nat) : Int) = Builtin.Range.rangeSize lo hi 1 := by rw [rangeSize_one]; split <;> omega
    show IsRangeIter _ _ (lo + ((0 : Nat) : Int) * 1) ((((hi - lo).toNat : Nat) : Int) - ((0 : Nat) : Int)) 1
    rw [e1, e2]
    exact Heap.get?_push_size _ rfl
  · have e : b = (s.heap.push { cls := .type "range", data := .fields #[.int lo t, .int hi u, .int 1 v] }).objs.size := by simpa using hb
    subst e
    exact I1.fpOk (Nat.le_refl _) (I1.hok.fresh (Nat.le_refl _))
noncomputable def iRng1 (ta : TA) : TI := fun σ H R => ta σ H fun vs H1 => ∃ j : Int, vs = [.int j] ∧ -(2 ^ 62) ≤ j ∧ j < 2 ^ 62 ∧ R (Itr 0 j.toNat) H1
theorem pi_range1 {a : Expr} {ta : TA} {p pos : Pos} (hg : Gl X "range") (hm : X.mg "range" = none) (ha : PA X [a] ta) (hs : starEach [a] X.env = [(false, eval a X.env)] := by rfl) : PI X tg (.Call (.Name "range" p) [a] [] pos) (iRng1 ta) := by
  intro pins s σ H R I h
  refine Call_ (ld_blt I hg hm boot_range (PyProof.Rows.callWith_type1 (thn (ha pos pins s σ H _ I h) fun us s1 hq9 => AP.out hq9 fun vs H1 I1 r1 q1 => ?_) hs rfl))
  obtain ⟨j, e, q1, q2, q⟩ := q1
  subst e
  cases r1 with
  | cons r rr =>
    cases rr
    obtain ⟨t, rfl⟩ := r
    exact call_range_1 (range_it I1 (by omega) (by omega) q1 q2 (by simpa using q))
noncomputable def tFor (wi : TI) (g : TG) (tb : TS) : TS := fun D σ H => wi σ H fun J H1 => ∃ W : Nat → Nat → St → Hp → Prop, (∃ m, W 0 m σ H1) ∧ ∀ i m σ H, W i m σ H →
  (J.stop i H ∧ D.nx σ H) ∨ (J.go i H ∧ ∃ N : St → Hp → Prop, (∀ σ' H', N σ' H' → ∃ m', m' < m ∧ W (i + 1) m' σ' H') ∧ ∀ x H', J.yld i H x H' → g x σ H' fun σ2 H2 => tb { D with nx := N, ct := N, bk := D.nx } σ2 H2)
noncomputable def pinsAt (fp : List Addr) (h : Heap) : List (Addr × Obj) := fp.filterMap fun b => (h.get? b).map fun o => (b, o)
theorem mem_pinsAt {fp : List Addr} {h : Heap} {b : Addr} {o : Obj} (hb : b ∈ fp) (e : h.get? b = some o) : (b, o) ∈ pinsAt fp h := List.mem_filterMap.mpr ⟨b, hb, by rw [e]; rfl⟩
theorem of_pinsAt {fp : List Addr} {h : Heap} {p : Addr × Obj} (hp : p ∈ pinsAt fp h) : p.1 ∈ fp ∧ h.get? p.1 = some p.2 := by
  obtain ⟨b, hb, e⟩ := List.mem_filterMap.mp hp
  cases q : h.get? b with
  | none => rw [q] at e; cases e
  | some o =>
    rw [q] at e
    have e' : (b, o) = p := Option.some.inj e
    subst e'
    exact ⟨hb, q⟩
theorem Inv.pinned {pins : List (Addr × Obj)} {σ : St} {H : Hp} {s : Shared} {fp : List Addr} (I : Inv X pins σ H s) (hf : ∀ b ∈ fp, FpOk X pins H b) (ho : ∀ b ∈ fp, ∃ o, s.heap.get? b = some o ∧ ∀ v, o.data ≠ .cell v) : Inv X (pins ++ pinsAt fp s.heap) σ H s :=
  I.pins_of fun p hp => (List.mem_append.mp hp).elim (fun z => I.pin p (List.mem_append_right _ z)) fun z => by
    obtain ⟨hb, e⟩ := of_pinsAt z
    obtain ⟨f0, f1, f2, _⟩ := hf p.1 hb
    obtain ⟨o, e', d⟩ := ho p.1 hb
    rw [e] at e'; cases e'
    exact ⟨e, f0, f1, f2, d⟩
theorem Inv.unpinned {pins pl : List (Addr × Obj)} {σ : St} {H : Hp} {s : Shared} (I : Inv X (pins ++ pl) σ H s) : Inv X pins σ H s := I.pins_of fun p hp => I.pin p (List.mem_append_right _ (List.mem_append_left _ hp))
theorem ps_for {iter : Expr} {body : List Stmt} {wi : TI} {g : TG} {tb : TS} {pos : Pos} (hp : PassesOwn (model X.prog X.w) X.A X.env X.xe) (hc : X.calm = true) (hi : PI X tg iter wi) (hg : PG X tg g) (hb : PSs X body tb)
    (hs : ∀ x, foldedSetIterable iter X.env x = pure x := by intro _; rfl) : PS X (.For tg iter body [] pos) (tFor wi g tb) := by
  intro pins s σ H D I h
  refine wpAny_For (thn (hi pins s σ H _ I h) fun v s1 h1 => thn h1 fun itv s2 h2 => ?_) hs
  obtain ⟨it, fp, tn, J, H2, e, I2, T, st2, f2, W, ⟨m0, w0⟩, turn⟩ := h2
  subst e
  -- what stays true of the iterator's objects through the loop
  have stat : ∀ {H' : Hp}, (∀ b ∈ fp, H' b = none) → ∀ b ∈ fp, FpOk X pins H' b := fun hn b hb => ⟨hn b hb, (f2 b hb).2⟩
  refine codeAny_forLoop_any (fun n s' => ∃ i σ' H', Inv X pins σ' H' s' ∧ tn i s'.heap ∧ (∀ b ∈ fp, H' b = none) ∧ W i n σ' H') ?_ m0 ⟨0, σ, H2, I2, st2, fun b hb => (f2 b hb).1, w0⟩
  rintro n s3 ⟨i, σ3, H3, I3, st3, fr3, w3⟩
  rcases turn i n σ3 H3 w3 with ⟨stop, qn⟩ | ⟨go, N, hN, step⟩
  · refine wpAny_passesOwn hp (thn (T.done X rfl rfl rfl hc i pins s3 σ3 H3 X.xe I3 (stat fr3) st3 stop) fun r s4 hq8 => ?_)
    obtain ⟨hr, I4⟩ := hq8
    subst hr
    exact wpAny_execs_nil ⟨σ3, H3, I4, qn⟩
  · refine wpAny_passesOwn hp (thn (T.item X rfl rfl rfl hc i pins s3 σ3 H3 X.xe I3 (stat fr3) st3 go) fun r s4 hq8 => ?_)
    obtain ⟨u, hr, h4⟩ := hq8
    subst hr
    refine wpAny_passesOwn hp (thn h4 fun _ s5 hq8 => ?_)
    obtain ⟨x, H5, I5, r5, y5, st5, fr5⟩ := hq8
    have I5' := I5.pinned (stat fr5) (T.obj _ _ st5)
    refine wpAny_passesOwn hp (thn (hg _ s5 σ3 H5 x u _ I5' r5 (step x H5 y5)) fun _ s6 hq9 => GP.out hq9 fun σ6 H6 I6 q6 => ?_)
    refine wpAny_passesOwn hp (thn (hb _ s6 σ6 H6 _ I6 q6) fun f s7 q7 => ?_)
    have again : ∀ {σ7 : St} {H7 : Hp}, Inv X (pins ++ pinsAt fp s5.heap) σ7 H7 s7 → N σ7 H7 → ∃ m, m < n ∧ ∃ i σ' H', Inv X pins σ' H' s7 ∧ tn i s7.heap ∧ (∀ b ∈ fp, H' b = none) ∧ W i m σ' H' := fun {σ7 H7} I7 n7 => by
      obtain ⟨m', hm, w7⟩ := hN σ7 H7 n7
      refine ⟨m', hm, i + 1, σ7, H7, I7.unpinned, T.keep _ _ _ st5 fun b hb o e => (I7.pin (b, o) (List.mem_append_right _ (List.mem_append_right _ (mem_pinsAt hb e)))).1, fun b hb => ?_, w7⟩
      obtain ⟨o, e, d⟩ := T.obj _ _ st5 b hb
      exact (I7.pin (b, o) (List.mem_append_right _ (List.mem_append_right _ (mem_pinsAt hb e)))).2.1
    cases f with
    | next => obtain ⟨σ7, H7, I7, n7⟩ := q7; exact again I7 n7
    | cont => obtain ⟨σ7, H7, I7, n7⟩ := q7; exact again I7 n7
    | brk => obtain ⟨σ7, H7, I7, q7⟩ := q7; exact ⟨σ7, H7, I7.unpinned, q7⟩
    | ret v => obtain ⟨x7, σ7, H7, I7, r7, q7⟩ := q7; exact ⟨x7, σ7, H7, I7.unpinned, r7, q7⟩
end
theorem for_list {K : PySem.W.Frag} {a : Addr} {xs : List V} {g : TG} {tb : TS} {D : Ends} {σ : St} {H : Hp} (Pv : Nat → St → Hp → Prop) (h0 : Pv 0 σ H) (hl : ∀ i σ H, i ≤ xs.length → Pv i σ H → SqL K H a xs)
    (hs : ∀ i x σ H, xs[i]? = some x → Pv i σ H → g x σ H fun σ2 H2 => tb { D with nx := Pv (i + 1), ct := Pv (i + 1), bk := D.nx } σ2 H2) (hd : ∀ σ H, Pv xs.length σ H → D.nx σ H) :
    ∃ W : Nat → Nat → St → Hp → Prop, (∃ m, W 0 m σ H) ∧ ∀ i m σ H, W i m σ H →
      ((Itl K a).stop i H ∧ D.nx σ H) ∨ ((Itl K a).go i H ∧ ∃ N : St → Hp → Prop, (∀ σ' H', N σ' H' → ∃ m', m' < m ∧ W (i + 1) m' σ' H') ∧ ∀ x H', (Itl K a).yld i H x H' → g x σ H' fun σ2 H2 => tb { D with nx := N, ct := N, bk := D.nx } σ2 H2) := by
  refine ⟨fun i m σ H => m = xs.length - i ∧ i ≤ xs.length ∧ Pv i σ H, ⟨xs.length, by simp, Nat.zero_le _, h0⟩, ?_⟩
  rintro i m σ H ⟨rfl, hi, p⟩
  have q := hl i σ H hi p
  by_cases hlt : i < xs.length
  · refine .inr ⟨⟨xs, xs[i], q, by simp [hlt]⟩, Pv (i + 1), fun σ' H' p' => ⟨xs.length - (i + 1), by omega, rfl, hlt, p'⟩, fun x H' y => ?_⟩
    obtain ⟨e, y⟩ := y
    subst e
    exact hs i x σ _ (y xs q) p
  · have e : i = xs.length := by omega
    subst e
    exact .inl ⟨⟨xs, q, Nat.le_refl _⟩, hd σ H p⟩
theorem for_range {lo : Int} {n : Nat} {g : TG} {tb : TS} {D : Ends} {σ : St} {H : Hp} (Pv : Nat → St → Hp → Prop) (h0 : Pv 0 σ H)
    (hs : ∀ i σ H, i < n → Pv i σ H → g (.int (lo + i)) σ H fun σ2 H2 => tb { D with nx := Pv (i + 1), ct := Pv (i + 1), bk := D.nx } σ2 H2) (hd : ∀ σ H, Pv n σ H → D.nx σ H) :
    ∃ W : Nat → Nat → St → Hp → Prop, (∃ m, W 0 m σ H) ∧ ∀ i m σ H, W i m σ H →
      ((Itr lo n).stop i H ∧ D.nx σ H) ∨ ((Itr lo n).go i H ∧ ∃ N : St → Hp → Prop, (∀ σ' H', N σ' H' → ∃ m', m' < m ∧ W (i + 1) m' σ' H') ∧ ∀ x H', (Itr lo n).yld i H x H' → g x σ H' fun σ2 H2 => tb { D with nx := N, ct := N, bk := D.nx } σ2 H2) := by
  refine ⟨fun i m σ H => m = n - i ∧ i ≤ n ∧ Pv i σ H, ⟨n, by simp, Nat.zero_le _, h0⟩, ?_⟩
  rintro i m σ H ⟨rfl, hi, p⟩
  by_cases hlt : i < n
  · refine .inr ⟨hlt, Pv (i + 1), fun σ' H' p' => ⟨n - (i + 1), by omega, rfl, hlt, p'⟩, fun x H' y => ?_⟩
    obtain ⟨e, y⟩ := y
    subst e y
    exact hs i σ _ hlt p
  · have e : i = n := by omega
    subst e
    exact .inl ⟨Nat.le_refl _, hd σ H p⟩
end L2
namespace L2
open PySem PySem.Spec PyProof.Rows
noncomputable abbrev R2 := V → V → Hp → VK → Prop
noncomputable def OpR (X : Cx) (f : Value → Value → Sem Value) (r : R2) : Prop :=
  ∀ (pins : List (Addr × Obj)) (s : Shared) (σ : St) (H : Hp) (x y : V) (v u : Value) (Q : VK), Inv X pins σ H s → RelV x v → RelV y u → r x y H Q →
    wpAny (model X.prog X.w) X.A (f v u) (EP X pins σ Q) X.xe s
noncomputable def UnR (X : Cx) (f : Value → Sem Value) (r : V → Hp → VK → Prop) : Prop :=
  ∀ (pins : List (Addr × Obj)) (s : Shared) (σ : St) (H : Hp) (x : V) (v : Value) (Q : VK), Inv X pins σ H s → RelV x v → r x H Q →
    wpAny (model X.prog X.w) X.A (f v) (EP X pins σ Q) X.xe s
noncomputable def CallR (X : Cx) (f : Value) (r : List V → Hp → VK → Prop) : Prop :=
  ∀ (pins : List (Addr × Obj)) (s : Shared) (σ : St) (H : Hp) (xs : List V) (us : List Value) (Q : VK), Inv X pins σ H s → Vals xs us → r xs H Q →
    wpAny (model X.prog X.w) X.A (call f us) (EP X pins σ Q) X.xe s
noncomputable def TruR (X : Cx) (r : V → Hp → (Bool → Hp → Prop) → Prop) : Prop :=
  ∀ (pins : List (Addr × Obj)) (s : Shared) (σ : St) (H : Hp) (x : V) (v : Value) (Q : Bool → Hp → Prop), Inv X pins σ H s → RelV x v → r x H Q →
    wpAny (model X.prog X.w) X.A (truthy v) (TP X pins σ Q) X.xe s
noncomputable def tOp (r : R2) (ta tb : TE) : TE := fun σ H Q => ta σ H fun x H1 => tb σ H1 fun y H2 => r x y H2 Q
noncomputable def tUn (r : V → Hp → VK → Prop) (ta : TE) : TE := fun σ H Q => ta σ H fun x H1 => r x H1 Q
noncomputable def rI (C : Int → Int → Prop) (g : Int → Int → V) : R2 := fun x y H Q => ∃ i j, x = .int i ∧ y = .int j ∧ C i j ∧ Q (g i j) H
noncomputable def rI0 (g : Int → Int → V) : R2 := fun x y H Q => ∃ i j, x = .int i ∧ y = .int j ∧ Q (g i j) H
noncomputable def rU (g : Int → V) : V → Hp → VK → Prop := fun x H Q => ∃ i, x = .int i ∧ Q (g i) H
section
variable {X : Cx} {a b c : Expr} {ta tb tc : TE} {pos : Pos}
theorem binT (ha : PE X a ta) (hb : PE X b tb) {pins : List (Addr × Obj)} {s : Shared} {σ : St} {H : Hp} {R : V → V → Hp → Prop} (I : Inv X pins σ H s)
    (h : ta σ H fun x H1 => tb σ H1 fun y H2 => R x y H2) {Q : Value → Shared → Prop} {f : Value → Value → Sem Value}
    (hf : ∀ v u s2 x y H2, Inv X pins σ H2 s2 → RelV x v → RelV y u → R x y H2 → wpAny (model X.prog X.w) X.A (f v u) Q X.xe s2) :
    wpAny (model X.prog X.w) X.A (eval a X.env) (fun v s₁ => wpAny (model X.prog X.w) X.A (eval b X.env) (fun u s₂ => wpAny (model X.prog X.w) X.A (f v u) Q X.xe s₂) X.xe s₁) X.xe s := by
  refine thn (ha pins s σ H _ I h) fun v s1 hq9 => EP.out hq9 fun x H1 I1 r1 q1 => ?_
  refine thn (hb pins s1 σ H1 _ I1 q1) fun u s2 hq9 => EP.out hq9 fun y H2 I2 r2 q2 => ?_
  exact hf v u s2 x y H2 I2 r1 r2 q2
theorem pe_op {op : Operator} {r : R2} (ho : OpR X (binaryOp op) r) (ha : PE X a ta) (hb : PE X b tb) : PE X (.BinOp a op b pos) (tOp r ta tb) := by
  intro pins s σ H Q I h
  exact wpAny_BinOp (binT ha hb I h fun v u s2 x y H2 I2 rx ry q => ho pins s2 σ H2 x y v u Q I2 rx ry q)
theorem pe_un {op : UnaryOp} {r : V → Hp → VK → Prop} (ho : UnR X (unaryOp op) r) (ha : PE X a ta) : PE X (.UnaryOp op a pos) (tUn r ta) := by
  intro pins s σ H Q I h
  exact UnaryOp_ (thn (ha pins s σ H _ I h) fun v s1 hq9 => EP.out hq9 fun x H1 I1 r1 q1 => ho pins s1 σ H1 x v Q I1 r1 q1)
theorem opI {f : Value → Value → Sem Value} {C : Int → Int → Prop} {g : Int → Int → Int}
    (rule : ∀ (i j : Int) (t u : Tok) (s : Shared) (Q : Value → Shared → Prop) (E : Value → Shared → Prop), C i j → Q (.int (g i j) s.toks) { s with toks := s.toks + 1 } → wpAny (model X.prog X.w) X.A (f (.int i t) (.int j u)) Q E s) :
    OpR X f (rI C fun i j => .int (g i j)) := by
  intro pins s σ H x y v u Q I rx ry h
  obtain ⟨i, j, rfl, rfl, hc, q⟩ := h
  obtain ⟨t, rfl⟩ := rx
  obtain ⟨t', rfl⟩ := ry
  exact rule i j t t' s _ _ hc ⟨.int (g i j), H, I.tok _, ⟨_, rfl⟩, q⟩
theorem opI0 {f : Value → Value → Sem Value} {g : Int → Int → Int}
    (rule : ∀ (i j : Int) (t u : Tok) (s : Shared) (Q : Value → Shared → Prop) (E : Value → Shared → Prop), Q (.int (g i j) s.toks) { s with toks := s.toks + 1 } → wpAny (model X.prog X.w) X.A (f (.int i t) (.int j u)) Q E s) :
    OpR X f (rI0 fun i j => .int (g i j)) := by
  intro pins s σ H x y v u Q I rx ry h
  obtain ⟨i, j, rfl, rfl, q⟩ := h
  obtain ⟨t, rfl⟩ := rx
  obtain ⟨t', rfl⟩ := ry
  exact rule i j t t' s _ _ ⟨.int (g i j), H, I.tok _, ⟨_, rfl⟩, q⟩
theorem opB0 {f : Value → Value → Sem Value} {g : Int → Int → Bool}
    (rule : ∀ (i j : Int) (t u : Tok) (s : Shared) (Q : Value → Shared → Prop) (E : Value → Shared → Prop), Q (.bool (g i j)) s → wpAny (model X.prog X.w) X.A (f (.int i t) (.int j u)) Q E s) :
    OpR X f (rI0 fun i j => .bl (g i j)) := by
  intro pins s σ H x y v u Q I rx ry h
  obtain ⟨i, j, rfl, rfl, q⟩ := h
  obtain ⟨t, rfl⟩ := rx
  obtain ⟨t', rfl⟩ := ry
  exact rule i j t t' s _ _ ⟨.bl (g i j), H, I, rfl, q⟩
noncomputable def CDiv (i j : Int) : Prop := 0 < j ∧ j < 1073741824
noncomputable def CPow (i j : Int) : Prop := 0 ≤ j ∧ j ≤ 1000000 ∧ i.natAbs < 2 ^ 64
noncomputable def CMul (i j : Int) : Prop := (-(2 ^ 64) < i ∧ i < 2 ^ 64) ∨ (-(2 ^ 64) < j ∧ j < 2 ^ 64)
theorem CMul.ok {i j : Int} (h : CMul i j) : IntMulOk i j := by
  rcases h with ⟨h1, h2⟩ | ⟨h1, h2⟩
  · exact .of_left (intBits_le_64 h1 h2)
  · exact .of_right (intBits_le_64 h1 h2)
theorem op_add : OpR X (binaryOp .Add) (rI0 fun i j => .int (i + j)) := opI0 fun _ _ _ _ _ _ _ q => add_int q
theorem op_sub : OpR X (binaryOp .Sub) (rI0 fun i j => .int (i - j)) := opI0 fun _ _ _ _ _ _ _ q => sub_int q
theorem op_mul : OpR X (binaryOp .Mult) (rI CMul fun i j => .int (i * j)) := opI fun _ _ _ _ _ _ _ hc q => mul_int q hc.ok
theorem op_fdiv : OpR X (binaryOp .FloorDiv) (rI CDiv fun i j => .int (i / j)) := opI fun i j _ _ _ _ _ hc q => by
  have h1 : (0 : Int) < j := hc.1
  have h2 : j < 1073741824 := hc.2
  exact floordiv_int (by omega) (by rw [Int.fdiv_eq_ediv_of_nonneg i (by omega)]; exact q) (.inl (PyProof.noPylong_small (by omega)))
theorem op_mod : OpR X (binaryOp .Mod) (rI (fun _ j => 0 < j) fun i j => .int (i % j)) := opI fun i j _ _ _ _ _ hc q => by
  have h1 : (0 : Int) < j := hc
  exact mod_int' (by omega) (by rw [Int.fmod_eq_emod_of_nonneg i (by omega)]; exact q)
theorem op_pow : OpR X (binaryOp .Pow) (rI CPow fun i j => .int (i ^ j.toNat)) := opI fun _ _ _ _ _ _ _ hc q => pow_int_small hc.1 hc.2.1 hc.2.2 q
theorem unI {f : Value → Sem Value} {g : Int → Int}
    (rule : ∀ (i : Int) (t : Tok) (s : Shared) (Q : Value → Shared → Prop) (E : Value → Shared → Prop), Q (.int (g i) s.toks) { s with toks := s.toks + 1 } → wpAny (model X.prog X.w) X.A (f (.int i t)) Q E s) :
    UnR X f (rU fun i => .int (g i)) := by
  intro pins s σ H x v Q I rx h
  obtain ⟨i, rfl, q⟩ := h
  obtain ⟨t, rfl⟩ := rx
  exact rule i t s _ _ ⟨.int (g i), H, I.tok _, ⟨_, rfl⟩, q⟩
theorem un_neg : UnR X (unaryOp .USub) (rU fun i => .int (-i)) := unI fun _ _ _ _ _ q => neg_int q
end
noncomputable def scal : V → V → Bool
  | .non, .non => true | .non, .int _ => true | .int _, .non => true | .non, .bl _ => true | .bl _, .non => true | .non, .str _ => true | .str _, .non => true
  | .int _, .int _ => true | .bl _, .bl _ => true | .str _, .str _ => true | .byt _, .byt _ => true
  | .int _, .str _ => true | .str _, .int _ => true | .bl _, .str _ => true | .str _, .bl _ => true
  | _, _ => false
noncomputable def rEq : R2 := fun x y H Q => scal x y = true ∧ Q (.bl (decide (x = y))) H
noncomputable def rNe : R2 := fun x y H Q => scal x y = true ∧ Q (.bl (!decide (x = y))) H
theorem dec_int {i j : Int} : decide (V.int i = V.int j) = (i == j) := by
  rw [Bool.eq_iff_iff]
  simp
theorem dec_bl {i j : Bool} : decide (V.bl i = V.bl j) = (i == j) := by
  rw [Bool.eq_iff_iff]
  simp
theorem dec_str {i j : Str} : decide (V.str i = V.str j) = (i == j) := by
  rw [Bool.eq_iff_iff]
  simp
theorem dec_byt {i j : Array UInt8} : decide (V.byt i = V.byt j) = (i.toList == j.toList) := by
  rw [Bool.eq_iff_iff]
  cases i
  cases j
  simp
section
variable {X : Cx} {a b c : Expr} {ta tb tc : TE} {pos : Pos}
theorem fin_bl {pins : List (Addr × Obj)} {σ : St} {H : Hp} {s : Shared} {Q : VK} {k k' : Bool} (I : Inv X pins σ H s) (q : Q (.bl k) H) (e : k = k') : EP X pins σ Q (.bool k') s := by
  subst e
  exact ⟨.bl k, H, I, rfl, q⟩
theorem op_eq : OpR X (compareOp .Eq) rEq := by
  intro pins s σ H x y v u Q I rx ry h
  obtain ⟨hs, q⟩ := h
  cases x with
  | non =>
    cases rx
    cases y with
    | non => cases ry; exact PySem.EqNone.eq_none_none (fin_bl I q (by simp))
    | bl j => cases ry; exact PySem.EqNone.eq_none_bool (fin_bl I q (by simp))
    | int j => obtain ⟨t', rfl⟩ := ry; exact PySem.EqNone.eq_none_int (fin_bl I q (by simp))
    | str j => obtain ⟨t', rfl⟩ := ry; exact PySem.EqNone.eq_none_str (fin_bl I q (by simp))
    | _ => exact absurd (show false = true from hs) Bool.false_ne_true
  | bl i =>
    cases rx
    cases y with
    | non => cases ry; exact PySem.EqNone.eq_bool_none (fin_bl I q (by simp))
    | bl j => cases ry; exact eq_bool (fin_bl I q dec_bl)
    | str j => obtain ⟨t', rfl⟩ := ry; exact PySem.EqMixed.eq_bool_str (fin_bl I q (by simp))
    | _ => exact absurd (show false = true from hs) Bool.false_ne_true
  | int i =>
    obtain ⟨t, rfl⟩ := rx
    cases y with
    | non => cases ry; exact PySem.EqNone.eq_int_none (fin_bl I q (by simp))
    | int j => obtain ⟨t', rfl⟩ := ry; exact eq_int (fin_bl I q dec_int)
    | str j => obtain ⟨t', rfl⟩ := ry; exact PySem.EqMixed.eq_int_str (fin_bl I q (by simp))
    | _ => exact absurd (show false = true from hs) Bool.false_ne_true
  | str i =>
    obtain ⟨t, rfl⟩ := rx
    cases y with
    | non => cases ry; exact PySem.EqNone.eq_str_none (fin_bl I q (by simp))
    | bl j => cases ry; exact PySem.EqMixed.eq_str_bool (fin_bl I q (by simp))
    | int j => obtain ⟨t', rfl⟩ := ry; exact PySem.EqMixed.eq_str_int (fin_bl I q (by simp))
    | str j => obtain ⟨t', rfl⟩ := ry; exact eq_str (fin_bl I q dec_str)
    | _ => exact absurd (show false = true from hs) Bool.false_ne_true
  | byt i =>
    obtain ⟨t, rfl⟩ := rx
    cases y with
    | byt j => obtain ⟨t', rfl⟩ := ry; exact PySem.W.eq_bytes (fin_bl I q dec_byt)
    | _ => exact absurd (show false = true from hs) Bool.false_ne_true
  | _ => cases y <;> exact absurd (show false = true from hs) Bool.false_ne_true
theorem op_ne : OpR X (compareOp .NotEq) rNe := by
  intro pins s σ H x y v u Q I rx ry h
  obtain ⟨hs, q⟩ := h
  cases x with
  | non =>
    cases rx
    cases y with
    | non => cases ry; exact PySem.EqNone.ne_none_none (fin_bl I q (by simp))
    | bl j => cases ry; exact PySem.EqNone.ne_none_bool (fin_bl I q (by simp))
    | int j => obtain ⟨t', rfl⟩ := ry; exact PySem.EqNone.ne_none_int (fin_bl I q (by simp))
    | str j => obtain ⟨t', rfl⟩ := ry; exact PySem.EqNone.ne_none_str (fin_bl I q (by simp))
    | _ => exact absurd (show false = true from hs) Bool.false_ne_true
  | bl i =>
    cases rx
    cases y with
    | non => cases ry; exact PySem.EqNone.ne_bool_none (fin_bl I q (by simp))
    | bl j => cases ry; exact ne_bool (fin_bl I q (congrArg not dec_bl))
    | str j => obtain ⟨t', rfl⟩ := ry; exact PySem.EqMixed.ne_bool_str (fin_bl I q (by simp))
    | _ => exact absurd (show false = true from hs) Bool.false_ne_true
  | int i =>
    obtain ⟨t, rfl⟩ := rx
    cases y with
    | non => cases ry; exact PySem.EqNone.ne_int_none (fin_bl I q (by simp))
    | int j => obtain ⟨t', rfl⟩ := ry; exact ne_int (fin_bl I q (congrArg not dec_int))
    | str j => obtain ⟨t', rfl⟩ := ry; exact PySem.EqMixed.ne_int_str (fin_bl I q (by simp))
    | _ => exact absurd (show false = true from hs) Bool.false_ne_true
  | str i =>
    obtain ⟨t, rfl⟩ := rx
    cases y with
    | non => cases ry; exact PySem.EqNone.ne_str_none (fin_bl I q (by simp))
    | bl j => cases ry; exact PySem.EqMixed.ne_str_bool (fin_bl I q (by simp))
    | int j => obtain ⟨t', rfl⟩ := ry; exact PySem.EqMixed.ne_str_int (fin_bl I q (by simp))
    | str j => obtain ⟨t', rfl⟩ := ry; exact ne_str (fin_bl I q (congrArg not dec_str))
    | _ => exact absurd (show false = true from hs) Bool.false_ne_true
  | byt i =>
    obtain ⟨t, rfl⟩ := rx
    cases y with
    | byt j => obtain ⟨t', rfl⟩ := ry; exact PySem.W.ne_bytes (fin_bl I q (congrArg not dec_byt))
    | _ => exact absurd (show false = true from hs) Bool.false_ne_true
  | _ => cases y <;> exact absurd (show false = true from hs) Bool.false_ne_true
theorem op_lt : OpR X (compareOp .Lt) (rI0 fun i j => .bl (decide (i < j))) := opB0 fun _ _ _ _ _ _ _ q => lt_int q
theorem op_le : OpR X (compareOp .LtE) (rI0 fun i j => .bl (decide (i ≤ j))) := opB0 fun _ _ _ _ _ _ _ q => le_int q
theorem op_gt : OpR X (compareOp .Gt) (rI0 fun i j => .bl (decide (j < i))) := opB0 fun _ _ _ _ _ _ _ q => gt_int q
theorem nomark (b : Expr) {op : CmpOp} (h : op ≠ .In := by decide) (h2 : op ≠ .NotIn := by decide) : behindInMarks op b = false := by
  have e1 : (op == CmpOp.In) = false := by cases op <;> first | rfl | exact absurd rfl h
  have e2 : (op == CmpOp.NotIn) = false := by cases op <;> first | rfl | exact absurd rfl h2
  cases b <;> simp [behindInMarks, e1, e2]
theorem pe_cmpR {op : CmpOp} {r : R2} (ho : OpR X (compareOp op) r) (ha : PE X a ta) (hb : PE X b tb) (hm : behindInMarks op b = false) : PE X (.Compare a [op] [b] pos) (tOp r ta tb) := by
  intro pins s σ H Q I h
  exact wpAny_Compare1 (binT ha hb I h fun v u s2 x y H2 I2 rx ry q => ho pins s2 σ H2 x y v u Q I2 rx ry q) hm
noncomputable def tTest (t : TE) : TT := fun σ H Q => t σ H fun x H' => ∃ k, x = .bl k ∧ Q k H'
theorem pt_cmpR {op : CmpOp} {r : R2} (ho : OpR X (compareOp op) r) (ha : PE X a ta) (hb : PE X b tb) (hm : behindInMarks op b = false) : PT X (.Compare a [op] [b] pos) (tTest (tOp r ta tb)) := by
  intro pins s σ H Q I h
  refine wpAny_isTrue_Compare1 (thn (ha pins s σ H _ I h) fun v s1 hq9 => EP.out hq9 fun x H1 I1 r1 q1 => thn (hb pins s1 σ H1 _ I1 q1) fun u s2 hq9 => EP.out hq9 fun y H2 I2 r2 q2 =>
    thn (ho pins s2 σ H2 x y v u _ I2 r1 r2 q2) fun c s3 hq8 => ?_) hm
  obtain ⟨z, H3, I3, r3, k, e, q3⟩ := hq8
  subst e
  cases r3
  exact wpAny_truthy_bool ⟨H3, I3, q3⟩
noncomputable def TruV (K : PySem.W.Frag) (x : V) (H : Hp) (k : Bool) : Prop :=
  match x with
  | .non => k = false
  | .bl b => k = b
  | .int i => k = (i != 0)
  | .str y => y.length ≤ sizeLine ∧ k = ((y.length : Int) != 0)
  | .byt y => y.size ≤ sizeLine ∧ k = ((y.size : Int) != 0)
  | .ref p => (∃ xs, SqL K H p xs ∧ k = !xs.isEmpty) ∨ (∃ xs, SqT K H p xs ∧ k = !xs.isEmpty) ∨ ∃ kvs, H p = some (.dK kvs) ∧ k = !kvs.isEmpty
  | _ => False
theorem isEmpty_kv {κ : Type} {kvs : List (κ × V)} {vs : List (κ × Value)} (r : KV kvs vs) : (!vs.isEmpty) = !kvs.isEmpty := by
  cases r <;> rfl
theorem isEmpty_of {xs : List V} {its : List Value} (r : Vals xs its) : (!its.toArray.isEmpty) = !xs.isEmpty := by
  cases r <;> simp
theorem line63 : (sizeLine : Nat) < 2 ^ 63 := by rw [sizeLine_eq]; decide
theorem tru_ok : TruR X (fun x H Q => ∃ k, TruV X.K x H k ∧ Q k H) := by
  intro pins s σ H x v Q I rx h
  obtain ⟨k, e, q⟩ := h
  have hl := line63
  have hs : sizeLine = 16777216 := sizeLine_eq
  cases x with
  | non =>
    cases rx
    have e' : k = false := e
    subst e'
    exact truthy_none ⟨H, I, q⟩
  | bl b =>
    cases rx
    have e' : k = b := e
    subst e'
    exact wpAny_truthy_bool ⟨H, I, q⟩
  | int i =>
    obtain ⟨t, rfl⟩ := rx
    have e' : k = (i != 0) := e
    subst e'
    exact PySem.P.truthy_int ⟨H, I, q⟩
  | str y =>
    obtain ⟨t, rfl⟩ := rx
    obtain ⟨hy, e'⟩ : y.length ≤ sizeLine ∧ k = ((y.length : Int) != 0) := e
    subst e'
    exact PySem.P.truthy_str (by omega) ⟨H, I.tok _, q⟩
  | byt y =>
    obtain ⟨t, rfl⟩ := rx
    obtain ⟨hy, e'⟩ : y.size ≤ sizeLine ∧ k = ((y.size : Int) != 0) := e
    subst e'
    exact PySem.W.truthy_bytes (by omega) ⟨H, I.tok _, q⟩
  | ref p =>
    cases rx
    have e' : (∃ xs, SqL X.K H p xs ∧ k = !xs.isEmpty) ∨ (∃ xs, SqT X.K H p xs ∧ k = !xs.isEmpty) ∨ ∃ kvs, H p = some (.dK kvs) ∧ k = !kvs.isEmpty := e
    rcases e' with ⟨xs, hx, e'⟩ | ⟨xs, hx, e'⟩ | ⟨kvs, hx, e'⟩
    · subst e'
      obtain ⟨its, r, pl, hz⟩ := I.list hx
      have hlen := r.length
      exact wpAny_truthy_list pl.isList (by simp only [List.size_toArray]; omega) ⟨H, I.tok _, by rw [isEmpty_of r]; exact q⟩
    · subst e'
      obtain ⟨its, r, pl, hz⟩ := I.tuple hx
      have hlen := r.length
      exact truthy_tuple pl (by simp only [List.size_toArray]; omega) ⟨H, I.tok _, by rw [isEmpty_of r]; exact q⟩
    · subst e'
      obtain ⟨hz, hS, vs, r, m⟩ : kvs.length ≤ sizeLine ∧ (p == sysModules) = false ∧ ∃ vs, KV kvs vs ∧ s.heap.DictOf (mixKind X.prog X.w) p vs := I.hok p _ hx
      have hlen : kvs.length = vs.length := Paired.length r
      exact wpAny_truthy_dict hS m (by omega) ⟨H, I.tok _, by rw [isEmpty_kv r]; exact q⟩
  | _ => exact (show False from e).elim
theorem pt_truth (ha : PE X a ta) (he : ∀ whole, isTrue a X.env whole = (do let v ← whole; standAt a.pos; holding [v] (truthy v))) :
    PT X a (fun σ H Q => ta σ H fun x H' => ∃ k, TruV X.K x H' k ∧ Q k H') := by
  intro pins s σ H Q I h
  exact isTrue_plain (thn (ha pins s σ H _ I h) fun v s1 hq9 => EP.out hq9 fun x H1 I1 r1 q1 => tru_ok pins s1 σ H1 x v Q I1 r1 q1) (he _)
theorem op_add_str : OpR X (binaryOp .Add) (fun x y H Q => ∃ i j, x = .str i ∧ y = .str j ∧ i.length + j.length ≤ sizeLine ∧ Q (.str (i ++ j)) H) := by
  intro pins s σ H x y v u Q I rx ry h
  obtain ⟨i, j, rfl, rfl, hz, q⟩ := h
  obtain ⟨t, rfl⟩ := rx
  obtain ⟨t', rfl⟩ := ry
  exact add_str (fun t' tk => ⟨.str (i ++ j), H, I.tok _, ⟨_, rfl⟩, q⟩) hz
theorem vals1 {x : V} {us : List Value} (r : Vals [x] us) : ∃ u, us = [u] ∧ RelV x u := by
  cases r with
  | cons r1 r2 => cases r2; exact ⟨_, rfl, r1⟩
theorem vals2 {x y : V} {us : List Value} (r : Vals [x, y] us) : ∃ u w', us = [u, w'] ∧ RelV x u ∧ RelV y w' := by
  cases r with
  | cons r1 r2 =>
    cases r2 with
    | cons r3 r4 => cases r4; exact ⟨_, _, rfl, r1, r3⟩
theorem call_abs : CallR X (.builtin "abs") (fun xs H Q => ∃ i, xs = [.int i] ∧ Q (.int (if i < 0 then -i else i)) H) := by
  intro pins s σ H xs us Q I r h
  obtain ⟨i, rfl, q⟩ := h
  obtain ⟨u, rfl, t, rfl⟩ := vals1 r
  exact call_abs_int fun u tk => ⟨.int (if i < 0 then -i else i), H, I.tok _, ⟨_, rfl⟩, q⟩
theorem call_max2 (hc : X.calm = true) : CallR X (.builtin "max") (fun xs H Q => ∃ i j, xs = [.int i, .int j] ∧ Q (.int (if j > i then j else i)) H) := by
  intro pins s σ H xs us Q I r h
  obtain ⟨i, j, rfl, q⟩ := h
  obtain ⟨u, w', rfl, ⟨t, rfl⟩, ⟨t', rfl⟩⟩ := vals2 r
  refine max_two_ints (I.ok.hd hc) fun h' tk k => ⟨_, H, I.kept k, ?_, q⟩
  by_cases hj : j > i
  · rw [if_pos hj, if_pos hj]; exact ⟨_, rfl⟩
  · rw [if_neg hj, if_neg hj]; exact ⟨_, rfl⟩
theorem call_min2 (hc : X.calm = true) : CallR X (.builtin "min") (fun xs H Q => ∃ i j, xs = [.int i, .int j] ∧ Q (.int (if j < i then j else i)) H) := by
  intro pins s σ H xs us Q I r h
  obtain ⟨i, j, rfl, q⟩ := h
  obtain ⟨u, w', rfl, ⟨t, rfl⟩, ⟨t', rfl⟩⟩ := vals2 r
  refine min_two_ints (I.ok.hd hc) fun h' tk k => ⟨_, H, I.kept k, ?_, q⟩
  by_cases hj : j < i
  · rw [if_pos hj, if_pos hj]; exact ⟨_, rfl⟩
  · rw [if_neg hj, if_neg hj]; exact ⟨_, rfl⟩
theorem call_int1 : CallR X (.type "int") (fun xs H Q => (∃ i, xs = [.int i] ∧ Q (.int i) H) ∨ ∃ k, xs = [.bl k] ∧ Q (.int (if k then 1 else 0)) H) := by
  intro pins s σ H xs us Q I r h
  rcases h with ⟨i, rfl, q⟩ | ⟨k, rfl, q⟩
  · obtain ⟨u, rfl, t, rfl⟩ := vals1 r
    exact call_int_int ⟨.int i, H, I, ⟨_, rfl⟩, q⟩
  · obtain ⟨u, rfl, r1⟩ := vals1 r
    cases r1
    exact call_int_bool ⟨.int (if k then 1 else 0), H, I.tok _, ⟨_, rfl⟩, q⟩
end
end L2
namespace L2
open PySem PySem.Spec PyProof.Rows
structure ObjM (h : Heap) (x dx C : Addr) (mA : Str → Option Value) : Prop where
  obj : h.get? x = some (PySem.W.instObj C dx)
  ns : h.Ns1 dx mA
  ne : dx ≠ x
theorem lookIn_ns {h : Heap} {dx : Addr} {mA : Str → Option Value} (n : h.Ns1 dx mA) : ∃ od, h.get? dx = some od ∧ ∀ name, PySem.W.lookIn name od = some (mA name) := by
  obtain ⟨o, es, ep, ho, hd, hk, _, hm⟩ := n
  refine ⟨o, ho, fun name => ?_⟩
  have e := hm name
  unfold nsFind findBy at e
  rw [← Array.find?_toList] at e
  unfold PySem.W.lookIn
  rw [hd]
  dsimp only
  split
  · rename_i y q
    rw [q] at e
    exact congrArg some e
  · rename_i q
    rw [q] at e
    have a : es.toList.any (·.refKey) = false := by
      rw [List.any_eq_false]
      intro y hy
      obtain ⟨z, t, hkey⟩ := hk y (Array.mem_toList_iff.mp hy)
      simp [DictEntry.refKey, hkey]
    have a' : ¬ es.toList.any (·.refKey) = true := by rw [a]; exact Bool.false_ne_true
    rw [if_neg a']
    exact congrArg some e
theorem ObjM.look {h : Heap} {x dx C : Addr} {mA : Str → Option Value} (I : ObjM h x dx C mA) : ∃ od, PySem.W.InstAt h x (PySem.W.instObj C dx) C (some od) ∧ ∀ name, PySem.W.lookIn name od = some (mA name) :=
  let ⟨od, ho, hl⟩ := lookIn_ns I.ns
  ⟨od, ⟨I.obj, rfl, rfl, ho⟩, hl⟩
section
variable {prog : Program} {w : World} {A : Around} {E : Value → Shared → Prop} {s : Shared} {K : PySem.W.Frag} {x dx C f : Addr} {mA : Str → Option Value} {name : Str} {v : Value}
theorem get_map {expr : Bool} {Q : Value → Shared → Prop} (X : K.In s.heap) (I : ObjM s.heap x dx C mA) (hg : PySem.W.plainGet K C name = true) (hh : PySem.W.hasDictIn K C = true)
    (ha : PySem.W.findIn K (.ref C) name = some none) (hv : mA name = some v) (hv' : PySem.W.handedIn v = true) (h : Q v { s with toks := s.toks + 1 }) :
    wpAny (model prog w) A (getAttr (.ref x) name expr) Q E s := by
  obtain ⟨od, J, hl⟩ := I.look
  exact PySem.W.get_value X J (PySem.W.plainGet_of hg).1 (PySem.W.findObj_own hh ha rfl (by rw [hl, hv])) hv' h
theorem set_map {ns : List Str} {Q : Unit → Shared → Prop} (X : K.In s.heap) (I : ObjM s.heap x dx C mA)
    (hs : PySem.W.findIn K (.ref C) "__setattr__" = some (some (.builtin "object.__setattr__"))) (hp : PySem.W.plainOver K C = true) (ht : PySem.W.takerIn K C name = some none) (hh : PySem.W.hasDictIn K C = true)
    (hw : PySem.Within mA ns) (hsz : ns.length ≤ sizeLine)
    (h : ∀ h', ObjM h' x dx C (fun y => if y = name then some v else mA y) → Heap.SameBut dx s.heap h' → Q () { s with heap := h', toks := s.toks + 2 }) :
    wpAny (model prog w) A (setAttr (.ref x) name v) Q E s := by
  obtain ⟨od, J, hl⟩ := I.look
  refine PySem.W.set_plain X J hs (PySem.W.osa_open (s := { s with toks := s.toks + 1 }) (r := none) X J hp ht fun b => ?_)
  obtain ⟨cd, hc, hd'⟩ := PySem.W.any_some hh
  have hx : s.heap.get? x = some ⟨.ref C, some dx, .plain, #[]⟩ := I.obj
  refine wpAny_bind (wpAny_pure (wpAny_bind (wpAny_bind (wpAny_loadPart hx (wpAny_bind (PySem.W.Looks.here (s := { s with toks := s.toks + 1 }) (PySem.W.looks_clsIn X hc) ?_))))))
  rw [hd']
  refine wpAny_pure (a := some dx) (wpAny_bind (wpAny_pure (wpAny_bind ?_)))
  refine wpAny_nsSet1 (s := { s with toks := s.toks + 1 }) I.ns fun h' hn2 hs2 => ?_
  obtain ⟨oD, esD, epD, hoD, hdD, hcD⟩ := hn2.count (PySem.Within.cons name v hw)
  refine wpAny_bind (wpAny_lookBehind hoD (by rw [hdD]; exact pastItsLine_dict (Nat.le_trans hcD (by rw [List.length_cons]; omega))) ?_)
  exact wpAny_pure (h _ ⟨(hs2.2 _ (Ne.symm I.ne)).trans I.obj, hn2, I.ne⟩ hs2)
theorem make_map {R : Result → Shared → Prop} {vs : List Value} {kw : List (Str × Value)} (X : K.In s.heap) (hm : PySem.W.makesIn K C = true)
    (hi : PySem.W.findIn K (.ref C) "__init__" = some (some (.ref f))) (hf : PySem.W.typeIn K (.ref f) = some (.type "function"))
    (h : codeAny (model prog w) (A.under (.builtin "type.__call__" ⟨.ref C :: vs, kw⟩)) (.call (.ref f) ⟨.ref (s.heap.objs.size + 1) :: vs, kw⟩) (PySem.W.InitBack (s.heap.objs.size + 1) R)
      { s with heap := (s.heap.push PySem.W.emptyDict).push (PySem.W.instObj C s.heap.objs.size) }) :
    codeAny (model prog w) A (.call (.ref C) ⟨vs, kw⟩) R s := by
  obtain ⟨hh, g, d, t, os⟩ := s
  exact PySem.W.make_core (PySem.W.makes_of X hm) (PySem.W.looks_findIn X hi) (fun self => PySem.W.bind_fn X self hf) (.inl rfl) h
end
noncomputable def putF (f : Str) (v : V) : List (Str × V) → List (Str × V)
  | [] => [(f, v)]
  | (g, x) :: r => if g = f then (g, v) :: r else (g, x) :: putF f v r
theorem lookup_putF (f g : Str) (v : V) : ∀ fs : List (Str × V), (putF f v fs).lookup g = if g = f then some v else fs.lookup g
  | [] => by
    show List.lookup g [(f, v)] = _
    by_cases h : g = f
    · have hb : (g == f) = true := beq_iff_eq.mpr h
      simp only [List.lookup, hb, if_pos h]
    · have hb : (g == f) = false := beq_eq_false_iff_ne.mpr h
      simp only [List.lookup, hb, if_neg h]
  | (k, x) :: r => by
    have ih := lookup_putF f g v r
    rw [show putF f v ((k, x) :: r) = (if k = f then (k, v) :: r else (k, x) :: putF f v r) from rfl]
    by_cases hk : k = f
    · rw [if_pos hk]
      by_cases h : g = k
      · have hb : (g == k) = true := beq_iff_eq.mpr h
        simp only [List.lookup, hb, if_pos (h.trans hk)]
      · have hb : (g == k) = false := beq_eq_false_iff_ne.mpr h
        simp only [List.lookup, hb, if_neg (fun e : g = f => h (e.trans hk.symm))]
    · rw [if_neg hk]
      by_cases h : g = k
      · have hb : (g == k) = true := beq_iff_eq.mpr h
        simp only [List.lookup, hb, if_neg (fun e : g = f => hk (h.symm.trans e))]
      · have hb : (g == k) = false := beq_eq_false_iff_ne.mpr h
        simp only [List.lookup, hb]
        exact ih
theorem keys_putF (f : Str) (v : V) : ∀ fs : List (Str × V), f ∈ (putF f v fs).map (·.1) ∧ ∀ g, g ∈ fs.map (·.1) → g ∈ (putF f v fs).map (·.1)
  | [] => ⟨by simp [putF], fun g h => by simp at h⟩
  | (k, x) :: r => by
    obtain ⟨i1, i2⟩ := keys_putF f v r
    rw [show putF f v ((k, x) :: r) = (if k = f then (k, v) :: r else (k, x) :: putF f v r) from rfl]
    by_cases hk : k = f
    · rw [if_pos hk]
      subst hk
      exact ⟨by simp, fun g h => by simpa using h⟩
    · rw [if_neg hk]
      refine ⟨?_, fun g h => ?_⟩
      · rw [List.map_cons]
        exact List.mem_cons_of_mem _ i1
      · rw [List.map_cons] at h ⊢
        rcases List.mem_cons.mp h with e | e
        · exact List.mem_cons.mpr (.inl e)
        · exact List.mem_cons_of_mem _ (i2 g e)
theorem length_putF (f : Str) (v : V) : ∀ fs : List (Str × V), (putF f v fs).length ≤ fs.length + 1
  | [] => by simp [putF]
  | (k, x) :: r => by
    have ih := length_putF f v r
    rw [show putF f v ((k, x) :: r) = (if k = f then (k, v) :: r else (k, x) :: putF f v r) from rfl]
    by_cases hk : k = f
    · rw [if_pos hk, List.length_cons, List.length_cons]; omega
    · rw [if_neg hk, List.length_cons, List.length_cons]; omega
theorem RelO.some_of {v : V} {o : Option Value} (r : RelO (some v) o) : ∃ u, o = some u ∧ RelV v u := by
  cases o with
  | none => exact (show False from r).elim
  | some u => exact ⟨u, rfl, r⟩
theorem handed_of {v : V} {u : Value} (r : RelV v u) : PySem.W.handedIn u = true := by
  cases v with
  | non => cases (show u = Value.none from r); rfl
  | bl b => cases (show u = Value.bool b from r); rfl
  | int i => obtain ⟨t, e⟩ := (show ∃ t, u = Value.int i t from r); cases e; rfl
  | str x => obtain ⟨t, e⟩ := (show ∃ t, u = Value.str x t from r); cases e; rfl
  | byt b => obtain ⟨t, e⟩ := (show ∃ t, u = Value.bytes b t from r); cases e; rfl
  | flt b => obtain ⟨t, e⟩ := (show ∃ t, u = Value.float b t from r); cases e; rfl
  | ref a => cases (show u = Value.ref a from r); rfl
  | ty n => cases (show u = Value.type n from r); rfl
section
variable {P : Program} {w : World} {H H' : Hp} {h h' : Heap} {a C dx : Addr} {fs fs' : List (Str × V)}
theorem ins_get (hok : HOk P w H h) (e : H a = some (.ins C dx fs)) : ∃ mA, ObjM h a dx C mA ∧ (∀ f, RelO (fs.lookup f) (mA f)) ∧ PySem.Within mA (fs.map (·.1)) ∧ fs.length ≤ 1000 ∧ H dx = some (.own a) := by
  obtain ⟨d, z, ne, ob, mA, n, r, q⟩ := (show ObjOk P w H h a (.ins C dx fs) from hok a _ e)
  exact ⟨mA, ⟨ob, n, ne⟩, r, q, z, d⟩
end
structure Cls (K : PySem.W.Frag) (C : Addr) : Prop where
  pg : PySem.W.plainGet K C Str.empty = true
  hd : PySem.W.hasDictIn K C = true
  po : PySem.W.plainOver K C = true
  sa : PySem.W.findIn K (.ref C) "__setattr__" = some (some (.builtin "object.__setattr__"))
theorem Cls.get {K : PySem.W.Frag} {C : Addr} (c : Cls K C) (f : Str) : PySem.W.plainGet K C f = true := c.pg
noncomputable def NoAttr (K : PySem.W.Frag) (C : Addr) (f : Str) : Prop := PySem.W.findIn K (.ref C) f = some none
theorem NoAttr.taker {K : PySem.W.Frag} {C : Addr} {f : Str} (n : NoAttr K C f) : PySem.W.takerIn K C f = some none := by
  unfold PySem.W.takerIn
  rw [show PySem.W.findIn K (.ref C) f = some none from n]
  rfl
section
variable {X : Cx} {pins : List (Addr × Obj)} {σ : St} {H : Hp} {s : Shared} {a C dx : Addr} {fs : List (Str × V)} {f : Str} {v : V} {A : Around} {E : Value → Shared → Prop}
theorem getattr_ok {b : Bool} {Q : Value → Shared → Prop} (I : Inv X pins σ H s) (e : H a = some (.ins C dx fs)) (c : Cls X.K C) (n : NoAttr X.K C f) (l : fs.lookup f = some v)
    (h : ∀ u s', Inv X pins σ H s' → RelV v u → Q u s') : wpAny (model X.prog X.w) A (getAttr (.ref a) f b) Q E s := by
  obtain ⟨mA, O, r, _, _, _⟩ := ins_get I.hok e
  obtain ⟨u, hu, ru⟩ := RelO.some_of (v := v) (o := mA f) (by rw [← l]; exact r f)
  exact get_map I.kIn O (c.get f) c.hd n hu (handed_of ru) (h u _ (I.tok _) ru)
theorem setattr_ok {y : V} {u : Value} {Q : Unit → Shared → Prop} (I : Inv X pins σ H s) (e : H a = some (.ins C dx fs)) (c : Cls X.K C) (n : NoAttr X.K C f) (hl : fs.length < 1000) (ry : RelV y u)
    (h : ∀ s', Inv X pins σ (upd H a (.ins C dx (putF f y fs))) s' → Q () s') : wpAny (model X.prog X.w) A (setAttr (.ref a) f u) Q E s := by
  obtain ⟨mA, O, r, wi, _, ho⟩ := ins_get I.hok e
  have hz : (fs.map (·.1)).length ≤ sizeLine := by rw [List.length_map, sizeLine_eq]; omega
  refine set_map I.kIn O c.sa c.po n.taker c.hd wi hz fun h' O' sb => h _ ?_
  have hd : ∃ o, h'.get? dx = some o := by
    obtain ⟨o, _, _, e', _⟩ := O'.ns
    exact ⟨o, e'⟩
  refine I.write (x := a) (e := dx) (by rw [e]; exact True.intro) (.inr ho) (fun b q hb z => (sb.2 b hb).trans z) hd ?_
  refine ⟨by rw [upd_ne O.ne]; exact ho, ?_, O.ne, O'.obj, _, O'.ns, fun g => ?_, fun g hg => ?_⟩
  · have := length_putF f y fs; omega
  · show RelO ((putF f y fs).lookup g) (if g = f then some u else mA g)
    rw [lookup_putF]
    by_cases q : g = f
    · rw [if_pos q, if_pos q]; exact ry
    · rw [if_neg q, if_neg q]; exact r g
  · by_cases q : g = f
    · rw [q]; exact (keys_putF f y fs).1
    · refine (keys_putF f y fs).2 g (wi g fun z => hg ?_)
      show (if g = f then some u else mA g) = none
      rw [if_neg q]; exact z
theorem Inv.made (I : Inv X pins σ H s) : Inv X pins σ (upd (upd H s.heap.objs.size (.own (s.heap.objs.size + 1))) (s.heap.objs.size + 1) (.ins C s.heap.objs.size []))
    { s with heap := (s.heap.push PySem.W.emptyDict).push (PySem.W.instObj C s.heap.objs.size) } := by
  have e1 : (s.heap.push PySem.W.emptyDict).get? s.heap.objs.size = some PySem.W.emptyDict := Heap.get?_push_size s.heap rfl
  have e2 : ((s.heap.push PySem.W.emptyDict).push (PySem.W.instObj C s.heap.objs.size)).get? (s.heap.objs.size + 1) = some (PySem.W.instObj C s.heap.objs.size) := by
    have := Heap.get?_push_size (s.heap.push PySem.W.emptyDict) (o := PySem.W.instObj C s.heap.objs.size) rfl
    rwa [Heap.size_push] at this
  have e3 : (s.heap.push PySem.W.emptyDict).Ns s.heap.objs.size (fun _ => none) := ⟨PySem.W.emptyDict, #[], _, e1, rfl, (fun e he => absurd he (by simp)), fun _ => rfl⟩
  have I1 := I.laid (a := s.heap.objs.size) (o := .own (s.heap.objs.size + 1)) (h' := s.heap.push PySem.W.emptyDict) (t' := s.toks) (fun b u q => Heap.get?_push_of_some _ q) (Nat.le_refl _) ⟨_, e1⟩
  refine I1.laid (a := s.heap.objs.size + 1) (o := .ins C s.heap.objs.size []) (t' := s.toks) (fun b u q => Heap.get?_push_of_some _ q) (Nat.le_of_eq (Heap.size_push _ _)) ?_
  have ne : s.heap.objs.size ≠ s.heap.objs.size + 1 := Nat.ne_of_lt (Nat.lt_succ_self _)
  refine ⟨by rw [upd_ne ne, upd_same], Nat.zero_le _, ne, e2, fun _ => none, (Heap.Ns1.of_empty e3).at fun o q => Heap.get?_push_of_some _ q, fun _ => True.intro, fun y hy => absurd rfl hy⟩
theorem attr_of {prog : Program} {w : World} {env : Env} {e : Expr} {f : Str} {pos : Pos} {s : Shared} {Q : Value → Shared → Prop} (hb : attributeBase e f env (eval e env) = eval e env)
    (h : wpAny (model prog w) A (eval e env) (fun o s₁ => wpAny (model prog w) A (getAttr o f true) Q E s₁) E s) : wpAny (model prog w) A (eval (.Attribute e f pos) env) Q E s :=
  Attribute_any_ h (by rw [arm_eval_Attribute, hb])
end
noncomputable def tFld (K : PySem.W.Frag) (ta : TE) (f : Str) : TE := fun σ H Q => ta σ H fun x H1 => ∃ a C dx fs v, x = .ref a ∧ H1 a = some (.ins C dx fs) ∧ Cls K C ∧ NoAttr K C f ∧ fs.lookup f = some v ∧ Q v H1
noncomputable def sFld (K : PySem.W.Frag) (ta tv : TE) (f : Str) : TS := fun D σ H => tv σ H fun y H1 => ta σ H1 fun x H2 => ∃ a C dx fs, x = .ref a ∧ H2 a = some (.ins C dx fs) ∧ Cls K C ∧ NoAttr K C f ∧ fs.length < 1000 ∧
  D.nx σ (upd H2 a (.ins C dx (putF f y fs)))
section
variable {X : Cx} {o e value : Expr} {f : Str} {pos pos' tpos : Pos} {ta tv : TE}
theorem pe_fld (he : PE X e ta) (hb : attributeBase e f X.env (eval e X.env) = eval e X.env) : PE X (.Attribute e f pos) (tFld X.K ta f) := by
  intro pins s σ H Q I h
  refine attr_of hb (thn (he pins s σ H _ I h) fun u s1 hq8 => ?_)
  obtain ⟨x, H1, I1, rx, a, C, dx, fs, v, ex, ea, c, n, l, q⟩ := hq8
  subst ex
  obtain rfl : u = Value.ref a := rx
  exact getattr_ok I1 ea c n l fun u' s2 I2 ru => ⟨v, H1, I2, ru, q⟩
theorem ps_fld (ha : PE X o ta) (hv : PE X value tv) (hs : swapsWith value (some (.Attribute o f pos')) pos.line X.env = pure false) : PS X (.Assign [.Attribute o f pos'] value pos) (sFld X.K ta tv f) := by
  intro pins s σ H D I h
  refine plainObj_wpAny_Assign_Attribute (thn (hv pins s σ H _ I h) fun u s1 hq9 => EP.out hq9 fun y H1 I1 ry q => thn (ha pins s1 σ H1 _ I1 q) fun ov s2 hq8 => ?_) hs
  obtain ⟨x, H2, I2, rx, a, C, dx, fs, ex, ea, c, n, l, q2⟩ := hq8
  subst ex
  obtain rfl : ov = Value.ref a := rx
  exact setattr_ok I2 ea c n l ry fun s3 I3 => ⟨σ, _, I3, q2⟩
end
section
variable {X : Cx} {pins : List (Addr × Obj)} {σ : St} {H : Hp} {s : Shared} {A : Around} {E : Value → Shared → Prop} {Q : Value → Shared → Prop} {c : Value} {b : Bool}
end
end L2
namespace L2
open PySem PySem.Spec PyProof.Rows
structure Room (k : Nat) (A : Around) : Prop where
  hd : A.handled = none
  dp : A.depth + 3 * k + 5 < recursionLimit
  un : A.units + 16 * k + 200 < cLine
theorem Room.mono {j k : Nat} {A : Around} (r : Room k A) (h : j ≤ k) : Room j A := ⟨r.hd, by have := r.dp; omega, by have := r.un; omega⟩
theorem Room.deeper {k : Nat} {A : Around} (r : Room (k + 1) A) (env : Env) : Room k (A.deeper env) :=
  ⟨r.hd, by have := r.dp; show A.depth + 1 + 3 * k + 5 < _; omega, by have := r.un; show A.units + 3 + 16 * k + 200 < _; omega⟩
theorem make_depth {A : Around} {C : Addr} {us : List Value} {kw : List (Str × Value)} : (A.under (.builtin "type.__call__" ⟨.ref C :: us, kw⟩)).depth = A.depth + 1 := by
  first | rfl | simp [Around.under, Code.weight, Code.isCreation, Code.isGuard, Code.isCaller, Code.frames, Code.isFrame, guardIds]
theorem make_units {A : Around} {C : Addr} {us : List Value} {kw : List (Str × Value)} : (A.under (.builtin "type.__call__" ⟨.ref C :: us, kw⟩)).units = A.units + 1 := by
  first | rfl | simp [Around.under, Code.cUnits, Code.frames, Code.isFrame]
theorem Room.make {k : Nat} {A : Around} (r : Room (k + 1) A) (C : Addr) (us : List Value) (kw : List (Str × Value)) : Room k (A.under (.builtin "type.__call__" ⟨.ref C :: us, kw⟩)) :=
  ⟨r.hd, by have := r.dp; rw [make_depth]; omega, by have := r.un; rw [make_units]; omega⟩
theorem Room.depth {k : Nat} {A : Around} (r : Room k A) : A.depth < recursionLimit := by have := r.dp; omega
theorem Room.units {k : Nat} {A : Around} (r : Room k A) : A.units + 64 < cLine := by have := r.un; omega
noncomputable def tNil : TA := fun _ H Q => Q [] H
noncomputable def tCons (ta : TE) (tr : TA) : TA := fun σ H Q => ta σ H fun x H1 => tr σ H1 fun xs H2 => Q (x :: xs) H2
section
variable {X : Cx} {e : Expr} {es : List Expr} {te : TE} {t : TA} {pos : Pos}
theorem pa_nil : PA X [] tNil := fun _ _ _ _ H Q I h => Calls.spliced_nil ⟨[], H, I, .nil, h⟩
theorem pa_cons (ha : PE X e te) (hr : PA X es t) (hs : starEach (e :: es) X.env = (false, eval e X.env) :: starEach es X.env := by rfl) : PA X (e :: es) (tCons te t) := by
  intro pos pins s σ H Q I h
  rw [hs]
  show wpAny _ _ (spliced ((false, eval e X.env) :: backTo pos (starEach es X.env))) _ _ s
  refine Calls.spliced_cons (thn (ha pins s σ H _ I h) fun u s1 hq9 => EP.out hq9 fun x H1 I1 r1 q1 => ?_)
  exact thn (hr pos pins s1 σ H1 _ I1 q1) fun us s2 hq9 => AP.out hq9 fun xs H2 I2 r2 q2 => ⟨x :: xs, H2, I2, .cons r1 r2, q2⟩
noncomputable def tTup (t : TA) : TE := fun σ H Q => t σ H fun xs H1 => xs.length ≤ sizeLine ∧ ∀ p, H1 p = none → Q (.ref p) (upd H1 p (.tup xs))
noncomputable def tLst (t : TA) : TE := fun σ H Q => t σ H fun xs H1 => xs.length ≤ sizeLine ∧ ∀ p, H1 p = none → Q (.ref p) (upd H1 p (.lst xs))
theorem pe_tup {x1} (h : PA X es t) : PE X (.Tuple es x1 pos) (tTup t) := by
  intro pins s σ H Q I hq
  refine wpAny_Tuple_spliced (thn (h pos pins s σ H _ I hq) fun us s1 hq9 => AP.out hq9 fun xs H1 I1 r zq => ⟨by rw [← r.length]; exact zq.1, ?_⟩)
  obtain ⟨z, q⟩ := zq
  have hf : H1 s1.heap.objs.size = none := I1.hok.fresh (Nat.le_refl _)
  refine ⟨.ref s1.heap.objs.size, upd H1 s1.heap.objs.size (.tup xs), I1.laid (t' := s1.toks) (fun b u e => Heap.get?_push_of_some _ e) (Nat.le_refl _) ?_, rfl, q _ hf⟩
  exact ⟨z, us, r, ⟨_, Heap.get?_push_size _ rfl, rfl, _, rfl⟩⟩
theorem pe_lst (h : PA X es t) : PE X (.List es pos) (tLst t) := by
  intro pins s σ H Q I hq
  refine wpAny_List_spliced (thn (h pos pins s σ H _ I hq) fun us s1 hq9 => AP.out hq9 fun xs H1 I1 r zq => ⟨by rw [← r.length]; exact zq.1, ?_⟩)
  obtain ⟨z, q⟩ := zq
  have hf : H1 s1.heap.objs.size = none := I1.hok.fresh (Nat.le_refl _)
  refine ⟨.ref s1.heap.objs.size, upd H1 s1.heap.objs.size (.lst xs), I1.laid (t' := s1.toks) (fun b u e => Heap.get?_push_of_some _ e) (Nat.le_refl _) ?_, rfl, q _ hf⟩
  exact ⟨z, us, 0, r, Heap.get?_push_size _ rfl⟩
end
noncomputable abbrev Sp := List V → Hp → VK → XK → Prop
noncomputable abbrev CXT := List Env → Hp → Shared → XK → Value → Shared → Prop
structure Env0 (P : Program) (w : World) (K : PySem.W.Frag) (mg : Str → Option Value) (base : Heap) (A : Around) (outer : List Env) (s : Shared) (H : Hp) : Prop where
  frames : A.frames = some outer
  mod : Mod K mg base
  bs : ∀ b o, base.get? b = some o → s.heap.get? b = some o ∧ H b = none
  bsz : base.objs.size ≤ s.heap.objs.size
  funs : s.heap.FunFrames base outer
  frf : ∀ b ∈ frs outer, H b = none
  hok : HOk P w H s.heap
  bare : AllBare s.gens
noncomputable def CE (outer : List Env) (P : Program) (w : World) (H : Hp) (s : Shared) (Q : VK) (u : Value) (s' : Shared) : Prop :=
  ∃ v H', s'.os = s.os ∧ AllBare s'.gens ∧ Un (frs outer) [] H H' s.heap s'.heap ∧ HOk P w H' s'.heap ∧ RelV v u ∧ Q v H'
noncomputable def CR (CX : CXT) (outer : List Env) (P : Program) (w : World) (H : Hp) (s : Shared) (Q : VK) (E : XK) (r : Result) (s' : Shared) : Prop :=
  match r with
  | .ok (.ret u) => CE outer P w H s Q u s'
  | .ok _ => False
  | .error e => CX outer H s E e s'
structure FnOk (P : Program) (w : World) (K : PySem.W.Frag) (mg : Str → Option Value) (base : Heap) (CX : CXT) (k : Nat) (f : Addr) (fd : FuncData) (ps : List Str) (sp : Sp) : Prop where
  len : ∀ vs H Q E, sp vs H Q E → vs.length = ps.length
  run : ∀ (A : Around) (outer : List Env) (s : Shared) (H : Hp) (args : Args) (us : List Value) (vs : List V) (Q : VK) (E : XK), Room k A → Env0 P w K mg base A outer s H → BindsTo s fd args (ps.zip us) → Vals vs us → sp vs H Q E →
    codeAny (model P w) A (.call (.ref f) args) (CR CX outer P w H s Q E) s
theorem Env0.make {P : Program} {w : World} {K : PySem.W.Frag} {mg : Str → Option Value} {base : Heap} {A : Around} {outer : List Env} {s : Shared} {H : Hp} (e : Env0 P w K mg base A outer s H) (C : Addr) (us : List Value) (kw : List (Str × Value)) :
    Env0 P w K mg base (A.under (.builtin "type.__call__" ⟨.ref C :: us, kw⟩)) outer s H := ⟨by first | exact e.frames | (simpa [Around.under, Code.envs, Code.isFrame, pushEnvs] using e.frames), e.mod, e.bs, e.bsz, e.funs, e.frf, e.hok, e.bare⟩
section
variable {X : Cx} {pins : List (Addr × Obj)} {σ : St} {H : Hp} {s s' : Shared}
theorem Inv.env0 (I : Inv X pins σ H s) : Env0 X.prog X.w X.K X.mg X.base X.A X.stack s H :=
  ⟨I.ok.frames, I.ok.mod, I.bs, Nat.le_trans I.ok.bsz I.sz, I.stack, I.stkFree, I.hok, I.bare⟩
theorem Inv.after {Q : VK} {u : Value} (I : Inv X pins σ H s) (h : CE X.stack X.prog X.w H s Q u s') : EP X pins σ Q u s' := by
  obtain ⟨v, H', os, bare, un, hok, r, q⟩ := h
  obtain ⟨hh, g, d, t, os'⟩ := s'
  obtain rfl : os' = s.os := os
  exact ⟨v, H', I.call (h' := hh) (g' := g) (d' := d) (t' := t) (ch := []) un hok bare (fun b z => absurd z (by simp)), r, q⟩
end
noncomputable def tCall (sp : Sp) (dvs : List V) (E : XK) (t : TA) : TE := fun σ H Q => t σ H fun vs H1 => sp (vs ++ dvs) H1 Q E
noncomputable def tMake (C : Addr) (sp : Sp) (dvs : List V) (E : XK) (t : TA) : TE := fun σ H Q => t σ H fun vs H1 => ∀ x dx, H1 x = none → H1 dx = none → dx ≠ x →
  sp (.ref x :: (vs ++ dvs)) (upd (upd H1 dx (.own x)) x (.ins C dx [])) (fun v H2 => v = .non ∧ Q (.ref x) H2) E
noncomputable def Binds (K : PySem.W.Frag) (fd : FuncData) (ps : List Str) (ds : List Value) : Prop :=
  ∀ (s : Shared) (us : List Value), K.In s.heap → (us ++ ds).length = ps.length → BindsTo s fd ⟨us, []⟩ (ps.zip (us ++ ds))
theorem Binds.all {K : PySem.W.Frag} {fd : FuncData} {ps : List Str} (h : ∀ us : List Value, us.length = ps.length → bindArgs fd ⟨us, []⟩ = pure (ps.zip us)) : Binds K fd ps [] := fun s us _ hl => by
  rw [List.append_nil] at hl ⊢
  exact .of_eq (h us hl)
noncomputable def Passes (CX : CXT) (X : Cx) (E : XK) : Prop := ∀ (pins : List (Addr × Obj)) (σ : St) (H : Hp) (s : Shared) (e : Value) (s' : Shared), Inv X pins σ H s → CX X.stack H s E e s' → X.xe e s'
section
variable {X : Cx} {CX : CXT} {k : Nat} {f C : Addr} {fd : FuncData} {ps : List Str} {sp : Sp} {dvs : List V} {ds : List Value} {E : XK} {x m : Str} {p pos apos : Pos} {e o : Expr} {es : List Expr} {ta : TE} {t : TA}
theorem run_fn {pins : List (Addr × Obj)} {σ : St} {H : Hp} {s : Shared} {Q : VK} {us : List Value} {vs : List V} (F : FnOk X.prog X.w X.K X.mg X.base CX k f fd ps sp) (hr : Room k X.A) (hb : Binds X.K fd ps ds) (hd : Vals dvs ds) (hx : Passes CX X E)
    (I : Inv X pins σ H s) (r : Vals vs us) (h : sp (vs ++ dvs) H Q E) : wpAny (model X.prog X.w) X.A (call (.ref f) us) (EP X pins σ Q) X.xe s := by
  have r2 : Vals (vs ++ dvs) (us ++ ds) := r.append hd
  have hl : (us ++ ds).length = ps.length := by rw [← r2.length]; exact F.len _ _ _ _ h
  refine wpAny_call (codeAny_mono (F.run X.A X.stack s H ⟨us, []⟩ (us ++ ds) (vs ++ dvs) Q E hr I.env0 (hb s us I.kIn hl) r2 h) fun r s' hq => ?_)
  cases r with
  | error e => exact hx pins σ H s e s' I hq
  | ok fl =>
    cases fl with
    | ret u => exact I.after hq
    | next => exact False.elim hq
    | brk => exact False.elim hq
    | cont => exact False.elim hq
theorem pe_call (F : FnOk X.prog X.w X.K X.mg X.base CX k f fd ps sp) (hr : Room k X.A) (hg : Gl X x) (hm : X.mg x = some (.ref f)) (hk : PySem.W.keepIn X.K (.ref f) = true) (hb : Binds X.K fd ps ds) (hd : Vals dvs ds) (hx : Passes CX X E)
    (ha : PA X (e :: es) t) (hdb : (x == ("__debug__" : Str)) = false := by decide) (he : starEach (e :: es) X.env = (false, eval e X.env) :: starEach es X.env := by rfl) (hpl : (backTo pos (starEach es X.env)).any (·.1) = false := by rfl) :
    PE X (.Call (.Name x p) (e :: es) [] pos) (tCall sp dvs E t) := by
  intro pins s σ H Q I h
  refine wpAny_Call_Name_kw (ld_glob I hg hm ?_ hdb)
  refine PySem.W.callWith_K (h₀ := X.base) I.ok.mod.kin hk (thn (ha pos pins s σ H _ I h) fun us s1 hq9 => AP.out hq9 fun vs H1 I1 r q => ⟨I1.kIn, ?_⟩) he hpl
  exact run_fn F hr hb hd hx I1 r q
structure Mk (K : PySem.W.Frag) (C f : Addr) : Prop where
  makes : PySem.W.makesIn K C = true
  init : PySem.W.findIn K (.ref C) "__init__" = some (some (.ref f))
  fn : PySem.W.isFn K (.ref f) = true
  kp : PySem.W.keepIn K (.ref C) = true
theorem run_make {pins : List (Addr × Obj)} {σ : St} {H : Hp} {s : Shared} {Q : VK} {us : List Value} {vs : List V} (M : Mk X.K C f) (F : FnOk X.prog X.w X.K X.mg X.base CX k f fd ps sp) (hr : Room (k + 1) X.A) (hb : Binds X.K fd ps ds) (hd : Vals dvs ds)
    (hx : Passes CX X E) (I : Inv X pins σ H s) (r : Vals vs us)
    (h : ∀ x dx, H x = none → H dx = none → dx ≠ x → sp (.ref x :: (vs ++ dvs)) (upd (upd H dx (.own x)) x (.ins C dx [])) (fun v H2 => v = .non ∧ Q (.ref x) H2) E) :
    wpAny (model X.prog X.w) X.A (call (.ref C) us) (EP X pins σ Q) X.xe s := by
  have hq := h (s.heap.objs.size + 1) s.heap.objs.size (I.hok.fresh (Nat.le_succ _)) (I.hok.fresh (Nat.le_refl _)) (Nat.ne_of_lt (Nat.lt_succ_self _))
  have I2 := Inv.made (C := C) I
  have r2 : Vals (V.ref (s.heap.objs.size + 1) :: (vs ++ dvs)) (Value.ref (s.heap.objs.size + 1) :: (us ++ ds)) := .cons rfl (r.append hd)
  have hl : (Value.ref (s.heap.objs.size + 1) :: us ++ ds).length = ps.length := by
    have e := r2.length
    rw [F.len _ _ _ _ hq] at e
    exact e.symm
  refine wpAny_call (make_map (f := f) I.kIn M.makes M.init (beq_iff_eq.mp M.fn) (codeAny_mono (F.run _ X.stack _ _ ⟨Value.ref (s.heap.objs.size + 1) :: us, []⟩ (Value.ref (s.heap.objs.size + 1) :: (us ++ ds)) _ _ E (hr.make C us [])
    (I2.env0.make C us []) (hb _ (Value.ref (s.heap.objs.size + 1) :: us) I2.kIn hl) r2 hq) fun r s' hq' => ?_))
  cases r with
  | error e => exact hx pins σ _ _ e s' I2 hq'
  | ok fl =>
    cases fl with
    | ret u =>
      obtain ⟨v, H', I3, rv, ev, q3⟩ := I2.after hq'
      subst ev
      exact ⟨rv, ⟨V.ref (s.heap.objs.size + 1), H', I3, rfl, q3⟩⟩
    | next => exact False.elim hq'
    | brk => exact False.elim hq'
    | cont => exact False.elim hq'
theorem pe_make (M : Mk X.K C f) (F : FnOk X.prog X.w X.K X.mg X.base CX k f fd ps sp) (hr : Room (k + 1) X.A) (hg : Gl X x) (hm : X.mg x = some (.ref C)) (hb : Binds X.K fd ps ds) (hd : Vals dvs ds) (hx : Passes CX X E)
    (ha : PA X (e :: es) t) (hdb : (x == ("__debug__" : Str)) = false := by decide) (he : starEach (e :: es) X.env = (false, eval e X.env) :: starEach es X.env := by rfl) (hpl : (backTo pos (starEach es X.env)).any (·.1) = false := by rfl) :
    PE X (.Call (.Name x p) (e :: es) [] pos) (tMake C sp dvs E t) := by
  intro pins s σ H Q I h
  refine wpAny_Call_Name_kw (ld_glob I hg hm ?_ hdb)
  refine PySem.W.callWith_K (h₀ := X.base) I.ok.mod.kin M.kp (thn (ha pos pins s σ H _ I h) fun us s1 hq9 => AP.out hq9 fun vs H1 I1 r q => ⟨I1.kIn, ?_⟩) he hpl
  exact run_make M F hr hb hd hx I1 r q
end
section
variable {X : Cx} {CX : CXT} {k : Nat} {f C : Addr} {fd : FuncData} {ps ks : List Str} {sp : Sp} {E : XK} {x m : Str} {p pos apos kpos : Pos} {e o : Expr} {es : List Expr} {kws : List Keyword} {te ta : TE} {t tk : TA} {nm : Option Str}
variable {g : List Value → List Value → List Value} {gV : List V → List V → List V}
end
structure FnScope (N P : List Str) (sc : Scope) : Prop where
  kind : sc.kind = .function
  co : sc.isCoroutine = false
  gen : sc.isGenerator = false
  nd : N.Nodup
  pre : N.take P.length = P
  par : ∀ x ∈ P, sc.names.lookup x = some .local ∨ sc.names.lookup x = some .cell
  nofree : ∀ y ∈ sc.names, y.2 ≠ .free
theorem bindL_out {kindOf : Str → Option NameKind} {x : Str} : ∀ {binds : List (Str × Value)} {m : Str → Option Value}, (∀ v, (x, v) ∉ binds) → bindL kindOf binds m x = m x
  | [], _, _ => rfl
  | (n, v) :: r, m, h => by
    unfold bindL
    rw [bindL_out fun w hw => h w (List.mem_cons_of_mem _ hw)]
    split
    · have : x ≠ n := by rintro rfl; exact h v List.mem_cons_self
      simp [this]
    · rfl
theorem bindC_out {kindOf : Str → Option NameKind} {x : Str} : ∀ {binds : List (Str × Value)} {m : Str → Option Value}, (∀ v, (x, v) ∉ binds) → bindC kindOf binds m x = m x
  | [], _, _ => rfl
  | (n, v) :: r, m, h => by
    unfold bindC
    rw [bindC_out fun w hw => h w (List.mem_cons_of_mem _ hw)]
    split
    · rfl
    · have : x ≠ n := by rintro rfl; exact h v List.mem_cons_self
      simp [this]
theorem bindL_get {kindOf : Str → Option NameKind} {x : Str} {v : Value} : ∀ {P : List Str} {vs : List Value} {i : Nat} {m : Str → Option Value}, P.Nodup → P[i]? = some x → vs[i]? = some v → kindOf x = some .local →
    bindL kindOf (P.zip vs) m x = some v
  | [], _, _, _, _, h, _, _ => by simp at h
  | _ :: _, [], _, _, _, _, h, _ => by simp at h
  | p :: P, w :: vs, 0, m, nd, h1, h2, hk => by
    simp at h1 h2; subst h1; subst h2
    show bindL kindOf ((p, w) :: P.zip vs) m p = _
    unfold bindL
    rw [bindL_out fun v hv => (List.nodup_cons.mp nd).1 (List.of_mem_zip hv).1, if_pos hk]
    simp
  | p :: P, w :: vs, i + 1, m, nd, h1, h2, hk => by
    show bindL kindOf ((p, w) :: P.zip vs) m x = _
    unfold bindL
    exact bindL_get (i := i) (List.nodup_cons.mp nd).2 (by simpa using h1) (by simpa using h2) hk
theorem bindC_get {kindOf : Str → Option NameKind} {x : Str} {v : Value} : ∀ {P : List Str} {vs : List Value} {i : Nat} {m : Str → Option Value}, P.Nodup → P[i]? = some x → vs[i]? = some v → kindOf x ≠ some .local →
    bindC kindOf (P.zip vs) m x = some v
  | [], _, _, _, _, h, _, _ => by simp at h
  | _ :: _, [], _, _, _, _, h, _ => by simp at h
  | p :: P, w :: vs, 0, m, nd, h1, h2, hk => by
    simp at h1 h2; subst h1; subst h2
    show bindC kindOf ((p, w) :: P.zip vs) m p = _
    unfold bindC
    rw [bindC_out fun v hv => (List.nodup_cons.mp nd).1 (List.of_mem_zip hv).1, if_neg hk]
    simp
  | p :: P, w :: vs, i + 1, m, nd, h1, h2, hk => by
    show bindC kindOf ((p, w) :: P.zip vs) m x = _
    unfold bindC
    exact bindC_get (i := i) (List.nodup_cons.mp nd).2 (by simpa using h1) (by simpa using h2) hk
noncomputable def start (N : List Str) (vs : List V) : St := vs.map some ++ List.replicate (N.length - vs.length) none
noncomputable def cxOf (CX : CXT) (P : Program) (w : World) (K : PySem.W.Frag) (mg : Str → Option Value) (base : Heap) (N : List Str) (qual : Str) (scope : Scope) (f : Addr) (cd : Value) (A : Around) (outer : List Env) (s : Shared) (H : Hp) (E : XK) : Cx where
  prog := P
  w := w
  K := K
  mg := mg
  base := base
  A := A.deeper (envOfC qual scope s.heap.objs.size f cd)
  N := N
  s₀ := s
  H₀ := H
  env := envOfC qual scope s.heap.objs.size f cd
  outer := outer
  stack := envOfC qual scope s.heap.objs.size f cd :: outer
  ex := []
  calm := true
  fn := fun _ => true
  pn := []
  xe := fun e s' => wpAny (model P w) (A.deeper (envOfC qual scope s.heap.objs.size f cd)) (leaving (envOfC qual scope s.heap.objs.size f cd) e) (fun _ s'' => CX outer H s E e s'') (fun e' s'' => CX outer H s E e' s'') s'
theorem cell_has {sc : Scope} {n : Nat} {x : Str} (h : sc.names.lookup x = some .cell) : ∃ c, (cellsFrom n sc.names []).lookup x = some c := by
  have q := PySem.W.cellsFrom_some sc.names n [] (.inl h)
  exact Option.isSome_iff_exists.mp q
theorem inv_start {CX : CXT} {P : Program} {w : World} {K : PySem.W.Frag} {mg : Str → Option Value} {base : Heap} {N ps : List Str} {qual : Str} {scope : Scope} {f : Addr} {cd : Value} {A : Around} {outer : List Env} {s s1 : Shared} {H : Hp} {E : XK} {us : List Value} {vs : List V}
    (S : FnScope N ps scope) (hd : A.handled = none) (e0 : Env0 P w K mg base A outer s H) (hl : vs.length = ps.length) (r : Vals vs us)
    (x : InCallC s s.heap.objs.size (bindL (envOfC qual scope s.heap.objs.size f cd).kindOf (ps.zip us) fun _ => none) (cellsFrom (s.heap.objs.size + 1) scope.names []) (bindC (envOfC qual scope s.heap.objs.size f cd).kindOf (ps.zip us) fun _ => none) s1) :
    Inv (cxOf CX P w K mg base N qual scope f cd A outer s H E) [] (start N vs) H s1 := by
  have hpl : ps.length ≤ N.length := by have := congrArg List.length S.pre; rw [List.length_take] at this; omega
  obtain ⟨h1, tk, rfl, hk⟩ := x.done
  have noA : ∀ b : Addr, b ∉ (cxOf CX P w K mg base N qual scope f cd A outer s H E).ex := fun b z => absurd (show b ∈ ([] : List Addr) from z) (by simp)
  refine ⟨⟨e0.mod, S.kind, rfl, rfl, Nat.le_refl _, fun y z c h1 h2 => ?_, fun y hy => ?_, fun y c _ h => ?_, fun _ => hd, Around.frames_deeper e0.frames, .inr ⟨rfl, rfl⟩, fun b z => absurd z (noA b), e0.bs, e0.bsz, fun b _ _ => noA b, fun b z => absurd z (noA b), e0.funs, e0.frf⟩,
    rfl, e0.bare, Un.kept hk, ⟨_, x.toInCall.ns, fun i y v h1 h2 h3 => ?_⟩, fun y c h => ⟨_, x.cell y c h⟩, e0.hok.fresh (Nat.le_refl _), fun y c h => ?_, fun p hp => absurd (show p ∈ ([] : List (Addr × Obj)) from hp) (by simp), e0.hok.kept hk, ?_⟩
  · exact name_of_addr x.apart (PySem.mem_of_lookup h1) (PySem.mem_of_lookup h2)
  · have hy : scope.names.lookup y = some .cell ∨ scope.names.lookup y = some .free := hy
    rcases hy with hy | hy
    · exact cell_has hy
    · exact absurd rfl (S.nofree _ (PySem.mem_of_lookup hy))
  · exact Nat.le_of_lt (x.above y c (PySem.mem_of_lookup h))
  · have hi : i < vs.length := by
      unfold start at h2
      by_cases hi : i < vs.length
      · exact hi
      · rw [List.getElem?_append_right (by simpa using hi)] at h2
        rw [List.getElem?_replicate] at h2
        split at h2 <;> cases h2
    have ha : vs[i]? = some v := by
      unfold start at h2
      rw [List.getElem?_append_left (by simpa using hi), List.getElem?_map] at h2
      cases e : vs[i]? with
      | none => rw [e] at h2; cases h2
      | some a => rw [e] at h2; cases h2; rfl
    obtain ⟨u, hu, rv⟩ := r.get ha
    have hp : ps[i]? = some y := by
      rw [← S.pre, List.getElem?_take_of_lt (by omega)]; exact h1
    have ndP : ps.Nodup := by rw [← S.pre]; exact S.nd.sublist (List.take_sublist _ _)
    refine ⟨u, rv, ?_⟩
    rcases S.par y (List.mem_of_getElem? hp) with k | k
    · exact .inl ⟨k, bindL_get ndP hp hu k⟩
    · obtain ⟨c, e⟩ := cell_has (n := s.heap.objs.size + 1) k
      refine .inr ⟨.inl k, c, e, ?_⟩
      have q := x.cell y c e
      rw [bindC_get ndP hp hu (by show scope.names.lookup y ≠ _; rw [k]; decide)] at q
      exact q
  · exact e0.hok.fresh (Nat.le_of_lt (x.above y c (PySem.mem_of_lookup h)))
  · unfold start
    show _ = N.length
    rw [List.length_append, List.length_map, List.length_replicate]
    omega
theorem fn_of {CX : CXT} {P : Program} {w : World} {K : PySem.W.Frag} {mg : Str → Option Value} {base : Heap} {k : Nat} {f : Addr} {name qual : Str} {params : Arguments} {body : List Stmt} {scope : Scope} {dV kV doc pm cdv ct oc : Value} {an od : Option Addr}
    {osl : Array (Option Value)} {N ps : List Str} {sp : Sp} (lk : K.lookup f = some ⟨oc, od, .func (PySem.W.fnOf name qual params body scope dV kV doc pm an cdv ct), osl⟩) (hcd : PySem.W.codeIn K cdv qual = true) (S : FnScope N ps scope)
    (len : ∀ vs H Q E, sp vs H Q E → vs.length = ps.length)
    (hbody : ∀ (A : Around) (outer : List Env) (s : Shared) (H : Hp) (vs : List V) (Q : VK) (E : XK), Room k (A.deeper (envOfC qual scope s.heap.objs.size f cdv)) → sp vs H Q E →
      ∃ t, PSs (cxOf CX P w K mg base N qual scope f cdv A outer s H E) body t ∧ t { nx := fun _ H' => Q .non H', rt := Q } (start N vs) H) :
    FnOk P w K mg base CX (k + 1) f (PySem.W.fnOf name qual params body scope dV kV doc pm an cdv ct) ps sp := by
  refine ⟨len, fun A outer s H args us vs Q E hr e0 hb r hsp => ?_⟩
  have hl := len _ _ _ _ hsp
  have KX : K.In s.heap := e0.mod.kin.keeps fun b o e => (e0.bs b o e).1
  have lim : s.heap.NoLimit := e0.mod.nolimit.keeps fun b o e => (e0.bs b o e).1
  have hkind : ∀ y ∈ ps.zip us, scope.names.lookup y.1 = some .local ∨ (scope.names.lookup y.1 = some .cell ∧ ((cellsFrom (s.heap.objs.size + 1) scope.names []).lookup y.1).isSome = true) := fun ⟨n, v⟩ hy => by
    rcases S.par n (List.of_mem_zip hy).1 with q | q
    · exact .inl q
    · exact .inr ⟨q, PySem.W.cellsFrom_some _ _ _ (.inl q)⟩
  refine codeAny_call_function hr.depth (KX _ _ lk) rfl S.co S.gen rfl (PySem.W.codeRec_of KX hcd) (hb _ _ _ _ ?_)
  refine wpAny_newFunctionEnv_cells S.kind hkind fun env he s1 x => ?_
  subst he
  refine ⟨lim.keeps x.toInCall.keep, codeAny_func ?_⟩
  obtain ⟨t, ht, hq⟩ := hbody A outer s H vs Q E (hr.deeper _) hsp
  have I : Inv (cxOf CX P w K mg base N qual scope f cdv A outer s H E) [] (start N vs) H s1 := inv_start S hr.hd e0 hl r x
  refine wpAny_mono (ht [] s1 (start N vs) H _ I hq) (fun fl s' hs => ?_) fun e s' hs => hs
  have fin : ∀ {σ' : St} {H' : Hp} {v : V} {u : Value}, Inv (cxOf CX P w K mg base N qual scope f cdv A outer s H E) [] σ' H' s' → RelV v u → Q v H' → CE outer P w H s Q u s' :=
    fun {σ' H' v u} J rv q => ⟨v, H', J.os, J.bare, J.base, J.hok, rv, q⟩
  cases fl with
  | ret u =>
    obtain ⟨v, σ', H', J, rv, q⟩ := hs
    exact fin J rv q
  | next =>
    obtain ⟨σ', H', J, q⟩ := hs
    exact fin (v := V.non) (u := Value.none) J rfl q
  | brk =>
    obtain ⟨_, _, _, q⟩ := hs
    exact False.elim q
  | cont =>
    obtain ⟨_, _, _, q⟩ := hs
    exact False.elim q
end L2
namespace L2
open PySem PySem.Spec PyProof.Rows
section
variable {X : Cx} {x : Str} {p pos : Pos} {e : Expr} {es : List Expr} {t : TA} {id T : String} {r : List V → Hp → VK → Prop}
noncomputable def tCB (r : List V → Hp → VK → Prop) (t : TA) : TE := fun σ H Q => t σ H fun vs H1 => r vs H1 Q
theorem pe_callB (hc : CallR X (.builtin id) r) (hg : Gl X x) (hm : X.mg x = none) (hv : bootBuiltins x = some (.builtin id)) (ha : PA X (e :: es) t) (hn : x ≠ "__name__" := by decide) (hdb : (x == ("__debug__" : Str)) = false := by decide)
    (he : starEach (e :: es) X.env = (false, eval e X.env) :: starEach es X.env := by rfl) (hpl : (backTo pos (starEach es X.env)).any (·.1) = false := by rfl) : PE X (.Call (.Name x p) (e :: es) [] pos) (tCB r t) := by
  intro pins s σ H Q I h
  refine wpAny_Call_Name_kw (ld_blt I hg hm hv ?_ hn hdb)
  exact PyProof.Rows.callWith_builtin1 (thn (ha pos pins s σ H _ I h) fun us s1 hq9 => AP.out hq9 fun vs H1 I1 r1 q1 => hc pins s1 σ H1 vs us Q I1 r1 q1) he hpl
theorem pe_callTy (hc : CallR X (.type T) r) (hg : Gl X x) (hm : X.mg x = none) (hv : bootBuiltins x = some (.type T)) (ha : PA X (e :: es) t) (hn : x ≠ "__name__" := by decide) (hdb : (x == ("__debug__" : Str)) = false := by decide)
    (he : starEach (e :: es) X.env = (false, eval e X.env) :: starEach es X.env := by rfl) (hpl : (backTo pos (starEach es X.env)).any (·.1) = false := by rfl) : PE X (.Call (.Name x p) (e :: es) [] pos) (tCB r t) := by
  intro pins s σ H Q I h
  refine wpAny_Call_Name_kw (ld_blt I hg hm hv ?_ hn hdb)
  exact PyProof.Rows.callWith_type1 (thn (ha pos pins s σ H _ I h) fun us s1 hq9 => AP.out hq9 fun vs H1 I1 r1 q1 => hc pins s1 σ H1 vs us Q I1 r1 q1) he hpl
end
end L2
namespace HT
open PySem PyProof.Rows
section
open PySem.SeqAt
open PySem.AutoSeq1 (wpAny_loadPart')
open PySem.MeetsSeq PySem.MeetsSeq2 PySem.MeetsSeq3
end
section
variable {prog : Program} {w : World} {A : Around} {E : Value → Shared → Prop} {s : Shared}
theorem cat_tup {t b : Addr} {vs ws : List Value} {Q : Value → Shared → Prop} (ht : IsTup s.heap t vs.toArray) (hb : IsTup s.heap b ws.toArray) (hv : vs ≠ [])
    (h1 : ws = [] → Q (.ref t) s) (h2 : ws ≠ [] → Q (.ref s.heap.objs.size) { s with heap := s.heap.push { cls := .type "tuple", data := .seq (vs ++ ws).toArray } })
    (hsz : vs.length + ws.length ≤ sizeLine) : wpAny (model prog w) A (binaryOp .Add (.ref t) (.ref b)) Q E s := by
  obtain ⟨⟨cls, dd, data, sl⟩, ho, hc, n, hd⟩ := id ht
  obtain ⟨⟨cls2, dd2, data2, sl2⟩, ho2, hc2, n2, hd2⟩ := id hb
  simp only at hc hd hc2 hd2
  subst hc hd hc2 hd2
  have e : vs.toArray ++ ws.toArray = (vs ++ ws).toArray := by simp
  by_cases hw : ws = []
  · exact concat_meets ⟨_, ho, rfl⟩ ⟨_, ho2, rfl⟩ noFill_tuple_add seq_tuple_add PySem.F.slot_tuple_add PySem.F.entry_tuple_add (PySem.F.args_tuple_add_2 _ _)
      (tuple_addW1 t b vs.toArray ws.toArray n n2 dd dd2 sl sl2 (by simpa using hv) (by simp [hw])) ⟨ho, ho2, h1 hw⟩
  · refine concat_meets ⟨_, ho, rfl⟩ ⟨_, ho2, rfl⟩ noFill_tuple_add seq_tuple_add PySem.F.slot_tuple_add PySem.F.entry_tuple_add (PySem.F.args_tuple_add_2 _ _)
      (tuple_addW2 t b vs.toArray ws.toArray n n2 dd dd2 sl sl2 (by simpa using hv) (by simpa using hw) (by rw [List.size_toArray, List.size_toArray]; exact hsz)) ⟨ho, ho2, ?_⟩
    rw [e]
    exact h2 hw
noncomputable def sIx (n d : Nat) : Option Int → Nat
  | none => d
  | some v => if v < 0 then (v + (n : Int)).toNat else min v.toNat n
theorem sIx_none (n d : Nat) : sIx n d none = d := rfl
theorem sIx_nat (n d k : Nat) : sIx n d (some (k : Int)) = min k n := by
  show (if (k : Int) < 0 then ((k : Int) + (n : Int)).toNat else min (k : Int).toNat n) = min k n
  rw [if_neg (by omega), Int.toNat_natCast]
theorem sIx_le (n d : Nat) (hd : d ≤ n) (o : Option Int) : sIx n d o ≤ n := by
  cases o with
  | none => exact hd
  | some v =>
    show (if v < 0 then (v + (n : Int)).toNat else min v.toNat n) ≤ n
    by_cases hv : v < 0
    · rw [if_pos hv]; omega
    · rw [if_neg hv]; exact Nat.min_le_right _ _
theorem clip_eq (v : Int) (n d : Nat) : (if v < 0 then max (v + (n : Int)) 0 else min v (n : Int)) = ((sIx n d (some v) : Nat) : Int) := by
  show (if v < 0 then max (v + (n : Int)) 0 else min v (n : Int)) = (((if v < 0 then (v + (n : Int)).toNat else min v.toNat n) : Nat) : Int)
  by_cases hv : v < 0
  · simp only [if_pos hv]; omega
  · simp only [if_neg hv]; omega
theorem adjust_gen (lo hi : Option Int) (n : Nat) : Builtin.Slice.sliceAdjust lo hi 1 (n : Int) = (((sIx n 0 lo : Nat) : Int), ((sIx n n hi : Nat) : Int)) := by
  have h1 : ¬ ((1 : Int) < 0) := by omega
  unfold Builtin.Slice.sliceAdjust
  simp only [h1, if_false]
  refine Prod.ext ?_ ?_
  · cases lo with
    | none => rfl
    | some v => exact clip_eq v n 0
  · cases hi with
    | none => rfl
    | some v => exact clip_eq v n n
theorem places_gen (i j : Nat) : Builtin.Slice.slicePlaces (i : Int) (j : Int) 1 = j - i := by
  unfold Builtin.Slice.slicePlaces
  have h1 : (1 : Int) > 0 := by omega
  simp only [h1, if_true, Int.ediv_one]
  split <;> omega
theorem slicePart_ {v : Value} {o : Option Int} {Q : Option Int → Shared → Prop} (p : IsPart v o) (h : Q o s) : wpAny (model prog w) A (Builtin.Slice.slicePartIndex v) Q E s := by
  cases p with
  | none => exact slicePart_none h
  | int i t => exact slicePart_int h
theorem sliceApplied_gen {sl : Addr} {vl vu : Value} {lo hi : Option Int} {n : Nat} {Q : Int × Int × Nat → Shared → Prop} (hs : s.heap.IsSliceOf sl vl vu .none) (pl : IsPart vl lo) (pu : IsPart vu hi)
    (h : Q (((sIx n 0 lo : Nat) : Int), 1, sIx n n hi - sIx n 0 lo) s) : wpAny (model prog w) A (Builtin.Slice.sliceApplied (.ref sl) (pure (n : Int))) Q E s := by
  obtain ⟨os, hos, hcs, hds⟩ := id hs
  unfold Builtin.Slice.sliceApplied Builtin.Slice.sliceFields
  refine wpAny_bind (wpAny_bind (wpAny_field hos hds (x := vl) rfl (wpAny_bind (wpAny_field hos hds (x := vu) rfl (wpAny_bind (wpAny_field hos hds (x := .none) rfl (wpAny_pure ?_)))))))
  refine wpAny_bind (slicePart_none ?_)
  show wpAny _ _ (if ((1 : Int) == 0) = true then _ else _) _ _ s
  rw [if_neg (by decide)]
  refine wpAny_bind (slicePart_ pl (wpAny_bind (slicePart_ pu (wpAny_bind (wpAny_pure ?_)))))
  show wpAny _ _ (match Builtin.Slice.sliceAdjust lo hi 1 (n : Int) with | (lo, hi) => pure (lo, (1 : Int), Builtin.Slice.slicePlaces lo hi 1)) _ _ s
  rw [adjust_gen lo hi n]
  show wpAny _ _ (pure (((sIx n 0 lo : Nat) : Int), (1 : Int), Builtin.Slice.slicePlaces ((sIx n 0 lo : Nat) : Int) ((sIx n n hi : Nat) : Int) 1)) _ _ s
  rw [places_gen]
  exact wpAny_pure h
theorem pick_gen (xs : Array Value) (i k : Nat) : ((List.range k).filterMap fun (m : Nat) => xs[((i : Int) + (m : Int) * 1).toNat]?).toArray = ((xs.toList.drop i).take k).toArray := by
  have e : (fun (m : Nat) => xs[((i : Int) + (m : Int) * 1).toNat]?) = fun m => xs[i + m]? := by
    funext m
    have : ((i : Int) + (m : Int) * 1).toNat = i + m := by omega
    rw [this]
  rw [e]
  have := pick_run xs i k
  rw [List.filterMap_map] at this
  have e2 : ((fun x => xs[x]?) ∘ fun x => i + x) = fun m => xs[i + m]? := rfl
  rw [e2] at this
  rw [this]
theorem getItem_tuple_cut {t sl : Addr} {items : Array Value} {vl vu : Value} {lo hi : Option Int} {Q : Value → Shared → Prop} (ht : IsTup s.heap t items) (hs : s.heap.IsSliceOf sl vl vu .none) (pl : IsPart vl lo) (pu : IsPart vu hi)
    (hw : ¬ (sIx items.size 0 lo = 0 ∧ sIx items.size items.size hi = items.size))
    (h : Q (.ref s.heap.objs.size) { s with heap := s.heap.push { cls := .type "tuple", data := .seq ((items.toList.drop (sIx items.size 0 lo)).take (sIx items.size items.size hi - sIx items.size 0 lo)).toArray } })
    (hsz : items.size ≤ sizeLine) : wpAny (model prog w) A (getItem (.ref t) (.ref sl)) Q E s := by
  have htake : sizeOk (.seq ((items.toList.drop (sIx items.size 0 lo)).take (sIx items.size items.size hi - sIx items.size 0 lo)).toArray) := by
    show ((items.toList.drop (sIx items.size 0 lo)).take (sIx items.size items.size hi - sIx items.size 0 lo)).toArray.size ≤ sizeLine
    rw [List.size_toArray, List.length_take, List.length_drop, Array.length_toList]
    omega
  have hj : sIx items.size items.size hi ≤ items.size := sIx_le _ _ (Nat.le_refl _) hi
  obtain ⟨os, hos, hcs, hds⟩ := id hs
  have hTs : s.TypeIs (.ref sl) "slice" := ⟨os, hos, hcs⟩
  unfold getItem
  try with_reducible refine wpAny_holding ?_
  first | refine wpAny_bind (wpAny_pure ?_) | skip
  refine wpAny_bind (wpAny_sequenceKey ht.typeIs (by decide) ?_)
  refine wpAny_bind (wpAny_callSpecial?_slot (name := Str.ofString "__getitem__") ht.typeIs PyProof.Rows.slot_tuple_getitem
    (wpAny_call_entry PyProof.Rows.slot_tuple_getitem ht.typeIs entry_tuple_getitem ?_ (args_tuple_getitem _ _)))
  show wpAny _ _ (Builtin.Tuple.tupleItemsOf (.ref t) >>= _) _ _ s
  refine wpAny_bind (tupleItemsOf_ ht ?_)
  refine wpAny_bind (wpAny_typeOf hTs ?_)
  rw [if_pos (by decide)]
  refine wpAny_bind (sliceApplied_gen hs pl pu ?_)
  have hno : ¬ ((((sIx items.size 0 lo : Nat) : Int) == 0 && (1 : Int) == 1 && (sIx items.size items.size hi - sIx items.size 0 lo) == items.size) = true) := by
    intro q
    rw [Bool.and_eq_true, Bool.and_eq_true] at q
    have q1 : ((sIx items.size 0 lo : Nat) : Int) = 0 := eq_of_beq q.1.1
    have q2 : sIx items.size items.size hi - sIx items.size 0 lo = items.size := eq_of_beq q.2
    exact hw ⟨by omega, by omega⟩
  show wpAny _ _ (if (((sIx items.size 0 lo : Nat) : Int) == 0 && (1 : Int) == 1 && (sIx items.size items.size hi - sIx items.size 0 lo) == items.size) = true then _ else _) _ _ s
  rw [if_neg hno, pick_gen]
  first
    | exact wpAny_bind (m := Builtin.Tuple.tupleExact _) (wpAny_newObj_type (wpAny_pure ⟨_, rfl, wpAny_pure h⟩) htake)
    | exact wpAny_bind (m := Builtin.Tuple.tupleExact _) (wpAny_newObj_type (wpAny_bind (wpAny_pure (wpAny_pure ⟨_, rfl, wpAny_pure h⟩))) htake)
    | exact wpAny_bind (wpAny_bind (m := Builtin.Tuple.tupleExact _) (wpAny_newObj_type (wpAny_pure (wpAny_pure ⟨_, rfl, wpAny_pure h⟩)) htake))
    | exact wpAny_bind (wpAny_bind (m := Builtin.Tuple.tupleExact _) (wpAny_newObj_type (wpAny_pure ⟨_, rfl, wpAny_pure h⟩) htake))
end
end HT
namespace L2
open PySem PySem.Spec PyProof.Rows
noncomputable abbrev TO := St → Hp → (Option Int → Hp → Prop) → Prop
noncomputable def PO (X : Cx) (e : Option Expr) (t : TO) : Prop :=
  ∀ (pins : List (Addr × Obj)) (s : Shared) (σ : St) (H : Hp) (Q : Option Int → Hp → Prop), Inv X pins σ H s → t σ H Q →
    wpAny (model X.prog X.w) X.A (evalPart e X.env) (fun u s' => ∃ o H', Inv X pins σ H' s' ∧ IsPart u o ∧ Q o H') X.xe s
noncomputable def tNoPart : TO := fun _ H Q => Q none H
noncomputable def tPart (t : TE) : TO := fun σ H Q => t σ H fun x H1 => ∃ i, x = .int i ∧ Q (some i) H1
theorem intsAre_of {ns : List Int} : ∀ {us : List Value}, Vals (ns.map V.int) us → IntsAre us ns := by
  induction ns with
  | nil => intro us r; rw [List.map_nil] at r; cases r; exact .nil
  | cons n ns ih =>
    intro us r
    rw [List.map_cons] at r
    cases r with
    | cons r1 r2 =>
      obtain ⟨t, e⟩ := r1
      subst e
      exact .cons n t (ih r2)
section
variable {X : Cx} {e : Expr} {te : TE} {lo hi : Option Expr} {tl th : TO} {pos p2 : Pos}
theorem po_none : PO X none tNoPart := by
  intro pins s σ H Q I h
  rw [evalPart_none]
  exact wpAny_pure ⟨none, H, I, .none, h⟩
theorem po_some (h : PE X e te) : PO X (some e) (tPart te) := by
  intro pins s σ H Q I hw
  rw [evalPart_some]
  refine thn (h pins s σ H _ I hw) fun u s1 hq9 => EP.out hq9 fun x H1 I1 r1 q1 => ?_
  obtain ⟨i, rfl, q⟩ := q1
  obtain ⟨t, rfl⟩ := r1
  exact ⟨some i, H1, I1, .int i t, q⟩
noncomputable def SlR (X : Cx) (r : V → Option Int → Option Int → Hp → VK → Prop) : Prop :=
  ∀ (pins : List (Addr × Obj)) (s : Shared) (σ : St) (H : Hp) (x : V) (v vl vu : Value) (lo hi : Option Int) (sl : Addr) (Q : VK), Inv X pins σ H s → RelV x v → s.heap.IsSliceOf sl vl vu .none → IsPart vl lo → IsPart vu hi → r x lo hi H Q →
    ∃ T id, typeLookup (.type T) "__getitem__" = pure (some (.builtin id)) ∧ s.TypeIs v T ∧ wpAny (model X.prog X.w) X.A (getItem v (.ref sl)) (EP X pins σ Q) X.xe s
noncomputable def tSl (r : V → Option Int → Option Int → Hp → VK → Prop) (te : TE) (tl th : TO) : TE := fun σ H Q => te σ H fun x H1 => tl σ H1 fun l H2 => th σ H2 fun u H3 => r x l u H3 Q
theorem pe_slice {r : V → Option Int → Option Int → Hp → VK → Prop} (hr : SlR X r) (he : PE X e te) (hl : PO X lo tl) (hu : PO X hi th) : PE X (.Subscript e (.Slice lo hi none p2) pos) (tSl r te tl th) := by
  intro pins s σ H Q I h
  refine Subscript_ (thn (he pins s σ H _ I h) fun v s1 hq9 => EP.out hq9 fun x H1 I1 r1 q1 => ?_)
  refine wpAny_Slice (thn (hl pins s1 σ H1 _ I1 q1) fun vl s2 hq9 => ex5 hq9 fun l H2 I2 pl q2 => thn (hu pins s2 σ H2 _ I2 q2) fun vu s3 hq9 => ex5 hq9 fun u H3 I3 pu q3 => ?_)
  rw [evalPart_none]
  refine wpAny_pure ?_
  have I4 : Inv X pins σ H3 { s3 with heap := s3.heap.push { cls := .type "slice", data := .fields #[vl, vu, .none] } } := I3.kept (t' := s3.toks) fun b ob q => Heap.get?_push_of_some _ q
  obtain ⟨T, id, hT, ht, hg⟩ := hr pins { s3 with heap := s3.heap.push { cls := .type "slice", data := .fields #[vl, vu, .none] } } σ H3 x v vl vu l u s3.heap.objs.size Q I4 r1 (Heap.IsSliceOf.new ..) pl pu q3
  show wpAny (model X.prog X.w) X.A (subscriptTail e (.Slice lo hi none p2) v (.ref s3.heap.objs.size)) (EP X pins σ Q) X.xe { s3 with heap := s3.heap.push { cls := .type "slice", data := .fields #[vl, vu, .none] } }
  exact tail_any (ops := [.ref s3.heap.objs.size, v]) ht hT hg (by with_unfolding_all rfl)
noncomputable def cutV (xs : List V) (lo hi : Option Int) : List V := (xs.drop (HT.sIx xs.length 0 lo)).take (HT.sIx xs.length xs.length hi - HT.sIx xs.length 0 lo)
theorem cutV_length (xs : List V) (lo hi : Option Int) : (cutV xs lo hi).length ≤ xs.length := by
  unfold cutV
  rw [List.length_take, List.length_drop]
  omega
noncomputable def rSlT (K : PySem.W.Frag) : V → Option Int → Option Int → Hp → VK → Prop := fun x lo hi H Q => ∃ a xs, x = .ref a ∧ SqT K H a xs ∧
  ¬ (HT.sIx xs.length 0 lo = 0 ∧ HT.sIx xs.length xs.length hi = xs.length) ∧ ∀ p, H p = none → Q (.ref p) (upd H p (.tup (cutV xs lo hi)))
theorem sl_tup : SlR X (rSlT X.K) := by
  intro pins s σ H x v vl vu lo hi sl Q I rx hs pl pu h
  obtain ⟨a, xs, rfl, hx, hw, q⟩ := h
  cases rx
  obtain ⟨its, r, ht, hz⟩ := I.tuple hx
  have hlen : its.toArray.size = xs.length := by rw [List.size_toArray]; exact r.length.symm
  refine ⟨"tuple", _, PyProof.Rows.slot_tuple_getitem.lookup, ht.typeIs, ?_⟩
  refine HT.getItem_tuple_cut ht hs pl pu (by rw [hlen]; exact hw) ?_ (by rw [hlen]; exact hz)
  rw [hlen]
  refine ⟨.ref s.heap.objs.size, _, I.laid (t' := s.toks) (o := .tup (cutV xs lo hi)) (fun b ob q => Heap.get?_push_of_some _ q) (Nat.le_refl _) ?_, rfl, q _ (I.hok.fresh (Nat.le_refl _))⟩
  exact ⟨Nat.le_trans (cutV_length xs lo hi) hz, _, (r.drop (HT.sIx xs.length 0 lo)).take (HT.sIx xs.length xs.length hi - HT.sIx xs.length 0 lo), IsTup.new _ _⟩
noncomputable def rCatT (K : PySem.W.Frag) : R2 := fun x y H Q => ∃ a b xs ys, x = .ref a ∧ y = .ref b ∧ SqT K H a xs ∧ SqT K H b ys ∧ xs ≠ [] ∧ xs.length + ys.length ≤ sizeLine ∧
  (ys = [] → Q (.ref a) H) ∧ (ys ≠ [] → ∀ p, H p = none → Q (.ref p) (upd H p (.tup (xs ++ ys))))
theorem Vals.nil_iff {xs : List V} {us : List Value} (r : Vals xs us) : us = [] ↔ xs = [] := by
  cases r with
  | nil => simp
  | cons _ _ => simp
theorem op_catT : OpR X (binaryOp .Add) (rCatT X.K) := by
  intro pins s σ H x y v u Q I rx ry h
  obtain ⟨a, b, xs, ys, rfl, rfl, ha, hb, hx, hz, q1, q2⟩ := h
  cases rx
  cases ry
  obtain ⟨its, r1, p1, _⟩ := I.tuple ha
  obtain ⟨its2, r2, p2, _⟩ := I.tuple hb
  refine HT.cat_tup p1 p2 (fun z => hx (r1.nil_iff.mp z)) (fun z => ⟨.ref a, H, I, rfl, q1 (r2.nil_iff.mp z)⟩) (fun z => ?_) (by rw [← r1.length, ← r2.length]; exact hz)
  refine ⟨.ref s.heap.objs.size, _, I.laid (t' := s.toks) (o := .tup (xs ++ ys)) (fun b ob q => Heap.get?_push_of_some _ q) (Nat.le_refl _) ?_, rfl, q2 (fun w => z (r2.nil_iff.mpr w)) _ (I.hok.fresh (Nat.le_refl _))⟩
  exact ⟨by rw [List.length_append]; exact hz, _, r1.append r2, IsTup.new _ _⟩
end
end L2
namespace L2
open PySem PySem.Spec PyProof.Rows
noncomputable def ixN (n : Nat) (i : Int) : Option Nat := if 0 ≤ i then (if i < n then some i.toNat else none) else if -(n : Int) ≤ i then some (i + n).toNat else none
noncomputable def atI {α : Type} (xs : List α) (i : Int) : Option α := (ixN xs.length i).bind fun j => xs[j]?
theorem ixN_seq {n : Nat} {i : Int} {j : Nat} (h : ixN n i = some j) : seqIndex? i n = some j ∧ j < n ∧ -(n : Int) ≤ i ∧ i < n := by
  unfold ixN at h
  by_cases h0 : 0 ≤ i
  · rw [if_pos h0] at h
    by_cases h1 : i < n
    · rw [if_pos h1] at h
      have e : i.toNat = j := Option.some.inj h
      exact ⟨by rw [seqIndex_of h0 h1, e], by omega, by omega, h1⟩
    · rw [if_neg h1] at h; cases h
  · rw [if_neg h0] at h
    by_cases h1 : -(n : Int) ≤ i
    · rw [if_pos h1] at h
      have e : (i + n).toNat = j := Option.some.inj h
      exact ⟨by rw [seqIndex_neg (by omega) h1, e], by omega, h1, by omega⟩
    · rw [if_neg h1] at h; cases h
theorem atI_get {α : Type} {xs : List α} {i : Int} {v : α} (h : atI xs i = some v) : ∃ j, seqIndex? i xs.length = some j ∧ xs[j]? = some v ∧ j < xs.length ∧ -(xs.length : Int) ≤ i ∧ i < xs.length := by
  unfold atI at h
  cases e : ixN xs.length i with
  | none => rw [e] at h; cases h
  | some j =>
    rw [e] at h
    obtain ⟨h1, h2, h3, h4⟩ := ixN_seq e
    exact ⟨j, h1, h, h2, h3, h4⟩
theorem atI_nat {α : Type} {xs : List α} {j : Nat} {v : α} (h : xs[j]? = some v) : atI xs (j : Int) = some v := by
  have hj : j < xs.length := (List.getElem?_eq_some_iff.mp h).1
  have e : ixN xs.length (j : Int) = some j := by
    unfold ixN
    rw [if_pos (by omega), if_pos (by omega)]; simp
  unfold atI; rw [e]; exact h
theorem atI_last {α : Type} (xs : List α) (v : α) : atI (xs ++ [v]) (-1) = some v := by
  have hl : (xs ++ [v]).length = xs.length + 1 := by simp
  have e : ixN (xs ++ [v]).length (-1) = some xs.length := by
    unfold ixN
    rw [hl, if_neg (by decide), if_pos (by omega)]
    congr 1
    omega
  unfold atI
  rw [e]
  show (xs ++ [v])[xs.length]? = some v
  simp
noncomputable def PlainIx (b : Expr) : Prop := ∀ o i, subscripted b false o i = operate [o, i] (getItem o i)
noncomputable def IxR (X : Cx) (r : R2) : Prop :=
  ∀ (value slice : Expr) (pins : List (Addr × Obj)) (s : Shared) (σ : St) (H : Hp) (x y : V) (v u : Value) (Q : VK), Inv X pins σ H s → RelV x v → RelV y u → r x y H Q →
    subscripted slice false v u = operate [v, u] (getItem v u) → wpAny (model X.prog X.w) X.A (subscriptTail value slice v u) (EP X pins σ Q) X.xe s
noncomputable def MtR (X : Cx) (id : String) (r : V → List V → Hp → VK → Prop) : Prop :=
  ∀ (pins : List (Addr × Obj)) (s : Shared) (σ : St) (H : Hp) (x : V) (xs : List V) (v : Value) (us : List Value) (Q : VK), Inv X pins σ H s → RelV x v → Vals xs us → r x xs H Q →
    wpAny (model X.prog X.w) X.A (call (.builtin id) (v :: us)) (EP X pins σ Q) X.xe s
section
variable {X : Cx} {a b : Expr} {ta tb : TE} {pos : Pos}
theorem pe_ix {r : R2} (hr : IxR X r) (ha : PE X a ta) (hb : PE X b tb) (hs : PlainIx b) : PE X (.Subscript a b pos) (tOp r ta tb) := by
  intro pins s σ H Q I h
  exact Subscript_ (binT ha hb I h fun v u s2 x y H2 I2 rx ry q => hr a b pins s2 σ H2 x y v u Q I2 rx ry q (hs _ _))
noncomputable def rIxL (K : PySem.W.Frag) : R2 := fun x y H Q => ∃ p xs i v, x = .ref p ∧ y = .int i ∧ SqL K H p xs ∧ atI xs i = some v ∧ Q v H
noncomputable def rIxT (K : PySem.W.Frag) : R2 := fun x y H Q => ∃ p xs i v, x = .ref p ∧ y = .int i ∧ SqT K H p xs ∧ atI xs i = some v ∧ Q v H
noncomputable def rIxS : R2 := fun x y H Q => ∃ z i c, x = .str z ∧ y = .int i ∧ z.length ≤ sizeLine ∧ atI z.cps.toList i = some c ∧ Q (.str ⟨#[c]⟩) H
theorem ix_list : IxR X (rIxL X.K) := by
  intro value slice pins s σ H x y v u Q I rx ry h hs
  obtain ⟨p, xs, i, z, rfl, rfl, hq, he, q⟩ := h
  cases rx
  obtain ⟨t, rfl⟩ := ry
  obtain ⟨its, r, pl, hz⟩ := I.list hq
  obtain ⟨j, h1, h2, h3, h4, h5⟩ := atI_get he
  obtain ⟨w, ew, rw'⟩ := r.get h2
  have hl := r.length
  have hn := line63
  have fin : EP X pins σ Q w s := ⟨z, H, I, rw', q⟩
  by_cases h0 : 0 ≤ i
  · have hj : i.toNat = j := by
      rw [seqIndex_of h0 h5] at h1
      exact Option.some.inj h1
    exact item_listR pl.isList h0 (by omega) (by rw [hj]; simpa using ew) fin hs
  · have hj : (i + (its.toArray.size : Int)).toNat = j := by
      rw [seqIndex_neg (by omega) h4] at h1
      rw [List.size_toArray, ← hl]
      exact Option.some.inj h1
    exact subscriptTail_builtinR (x := w) pl.isList.typeIs slot_list_getitem.lookup
      (wpAny_getItem_list_neg (Q := fun r s' => r = w ∧ EP X pins σ Q r s') pl.isList (by omega) (by rw [List.size_toArray] <;> omega) (by omega) (by rw [hj]; simpa using ew) ⟨rfl, fin⟩) hs
theorem ix_tup : IxR X (rIxT X.K) := by
  intro value slice pins s σ H x y v u Q I rx ry h hs
  obtain ⟨p, xs, i, z, rfl, rfl, hq, he, q⟩ := h
  cases rx
  obtain ⟨t, rfl⟩ := ry
  obtain ⟨its, r, pl, hz⟩ := I.tuple hq
  obtain ⟨j, h1, h2, h3, h4, h5⟩ := atI_get he
  obtain ⟨w, ew, rw'⟩ := r.get h2
  have hl := r.length
  have hn := line63
  have fin : EP X pins σ Q w s := ⟨z, H, I, rw', q⟩
  exact subscriptTail_builtinR (x := w) pl.typeIs slot_tuple_getitem.lookup
    (getItem_tuple (j := j) (Q := fun r s' => r = w ∧ EP X pins σ Q r s') pl (by omega) (by omega) (by rw [List.size_toArray, ← hl]; exact h1) (by simpa using ew) ⟨rfl, fin⟩) hs
theorem ix_str : IxR X rIxS := by
  intro value slice pins s σ H x y v u Q I rx ry h hs
  obtain ⟨z, i, c, rfl, rfl, hz, he, q⟩ := h
  obtain ⟨t, rfl⟩ := rx
  obtain ⟨t', rfl⟩ := ry
  obtain ⟨j, h1, h2, h3, h4, h5⟩ := atI_get he
  have hl : z.cps.toList.length = z.length := by simp [Str.length]
  rw [hl] at h1 h4 h5
  have hn := line63
  exact tail_any (typeIs_str s z t) slot_str_getitem.lookup (getItem_str (c := c) (by
    have e1 : decide (i < -(2 ^ 63 : Int)) = false := decide_eq_false (by omega)
    have e2 : decide (i ≥ 2 ^ 63) = false := decide_eq_false (by omega)
    rw [e1, e2, Bool.or_false]) (by rw [h1]; simpa using h2) ⟨.str ⟨#[c]⟩, H, I.tok _, ⟨_, rfl⟩, q⟩) hs
theorem mapSeq_set (its : List Value) (n j : Nat) (u : Value) : Obj.mapSeq (·.setIfInBounds j u) { cls := .type "list", data := .seq its.toArray n } = { cls := .type "list", data := .seq (its.set j u).toArray n } := by
  simp [Obj.mapSeq]
theorem Inv.lst {pins : List (Addr × Obj)} {σ : St} {H : Hp} {s : Shared} {p : Addr} {xs : List V} (I : Inv X pins σ H s) (h : H p = some (.lst xs)) :
    ∃ (its : List Value) (n : Nat), Vals xs its ∧ s.heap.get? p = some { cls := .type "list", data := .seq its.toArray n } ∧ xs.length ≤ sizeLine := by
  obtain ⟨z, its, n, r, e⟩ := I.hok p _ h
  exact ⟨its, n, r, e, z⟩
theorem Inv.lstUpd {pins : List (Addr × Obj)} {σ : St} {H : Hp} {s : Shared} {p : Addr} {xs ys : List V} {its its' : List Value} {n n' : Nat} {f : Obj → Obj} (I : Inv X pins σ H s) (h : H p = some (.lst xs))
    (ho : s.heap.get? p = some { cls := .type "list", data := .seq its.toArray n }) (hf : f { cls := .type "list", data := .seq its.toArray n } = { cls := .type "list", data := .seq its'.toArray n' }) (r : Vals ys its') (hz : ys.length ≤ sizeLine) (t : Nat) :
    Inv X pins σ (upd H p (.lst ys)) { s with heap := s.heap.update p f, toks := t } := by
  have e : (s.heap.update p f).get? p = some { cls := .type "list", data := .seq its'.toArray n' } := by
    rw [Heap.get?_update_self f ho (by rw [hf] <;> rfl), hf]
  refine I.write (x := p) (e := p) (by rw [h]; trivial) (.inl rfl) (fun b u hb q => (Heap.get?_update_other _ _ (Ne.symm hb)).trans q) ⟨_, e⟩ ?_
  exact ⟨hz, its', n', r, e⟩
noncomputable def rSetL : V → V → V → Hp → (Hp → Prop) → Prop := fun o i v H Q => ∃ p xs k j, o = .ref p ∧ i = .int k ∧ H p = some (.lst xs) ∧ ixN xs.length k = some j ∧ Q (upd H p (.lst (xs.set j v)))
theorem set_list : PSet X rSetL := by
  intro pins s σ H o i v ov iv u Q I ro ri rv h
  obtain ⟨p, xs, k, j, rfl, rfl, hp, hj, q⟩ := h
  cases ro
  obtain ⟨t, rfl⟩ := ri
  obtain ⟨its, n, r, ho, hz⟩ := I.lst hp
  obtain ⟨h1, h2, h3, h4⟩ := ixN_seq hj
  have hl := r.length
  have hn := line63
  have I' : Inv X pins σ (upd H p (.lst (xs.set j v))) { s with heap := s.heap.update p (Obj.mapSeq (·.setIfInBounds j u)) } :=
    I.lstUpd hp ho (mapSeq_set its n j u) (r.set rv j) (by rw [List.length_set]; exact hz) s.toks
  by_cases h0 : 0 ≤ k
  · have hk : k.toNat = j := by
      rw [seqIndex_of h0 h4] at h1
      exact Option.some.inj h1
    exact PySem.W.ki_setAt ho h0 (by omega) (by rw [List.size_toArray, ← hl]; exact h4) (by rw [hk]; exact ⟨_, I', q⟩)
  · have hk : (k + (its.toArray.size : Int)).toNat = j := by
      rw [seqIndex_neg (by omega) h3] at h1
      rw [List.size_toArray, ← hl]
      exact Option.some.inj h1
    exact PySem.W.ki_setBack ho (by omega) (by rw [List.size_toArray, ← hl]; exact h3) (by omega) (by rw [hk]; exact ⟨_, I', q⟩)
theorem slice_bounds (lo hi : Option Int) (n : Nat) : (sliceBounds lo hi none n).1 = ((HT.sIx n 0 lo : Nat) : Int) ∧ (sliceBounds lo hi none n).2.1 = ((HT.sIx n n hi : Nat) : Int) ∧ (sliceBounds lo hi none n).2.2 = 1 := by
  refine ⟨?_, ?_, rfl⟩
  · cases lo with
    | none => simp [sliceBounds, HT.sIx]
    | some i =>
      simp only [sliceBounds, HT.sIx, Option.getD_none, show (1 : Int) > 0 by decide, if_true]
      by_cases h : i < 0
      · simp only [h, if_true] <;> omega
      · simp only [h, if_false] <;> omega
  · cases hi with
    | none => simp [sliceBounds, HT.sIx]
    | some i =>
      simp only [sliceBounds, HT.sIx, Option.getD_none, show (1 : Int) > 0 by decide, if_true]
      by_cases h : i < 0
      · simp only [h, if_true] <;> omega
      · simp only [h, if_false] <;> omega
theorem slicePick_cut (its : List Value) (lo hi : Option Int) : slicePick its.toArray lo hi none = ((its.drop (HT.sIx its.length 0 lo)).take (HT.sIx its.length its.length hi - HT.sIx its.length 0 lo)).toArray := by
  obtain ⟨h1, h2, h3⟩ := slice_bounds lo hi its.toArray.size
  unfold slicePick
  rw [h1, h2, h3]
  simp only [sliceRange_one, pick_run, List.size_toArray] <;> rfl
noncomputable def rSlL (K : PySem.W.Frag) : V → Option Int → Option Int → Hp → VK → Prop := fun x lo hi H Q => ∃ a xs, x = .ref a ∧ SqL K H a xs ∧ ∀ p, H p = none → Q (.ref p) (upd H p (.lst (cutV xs lo hi)))
theorem sl_list : SlR X (rSlL X.K) := by
  intro pins s σ H x v vl vu lo hi sl Q I rx hs pl pu h
  obtain ⟨a, xs, rfl, hx, q⟩ := h
  cases rx
  obtain ⟨its, r, ht, hz⟩ := I.list hx
  have hlen := r.length
  refine ⟨"list", _, slot_list_getitem.lookup, ht.isList.typeIs, ?_⟩
  refine wpAny_getItem_list_slice ht.isList hs pl pu .none (by simp) ?_ (by rw [List.size_toArray] <;> omega)
  rw [slicePick_cut, ← hlen]
  refine ⟨.ref s.heap.objs.size, _, I.laid (t' := s.toks) (o := .lst (cutV xs lo hi)) (fun b ob q => Heap.get?_push_of_some _ q) (Nat.le_refl _) ?_, rfl, q _ (I.hok.fresh (Nat.le_refl _))⟩
  exact ⟨Nat.le_trans (cutV_length xs lo hi) hz, _, 0, (r.drop (HT.sIx xs.length 0 lo)).take (HT.sIx xs.length xs.length hi - HT.sIx xs.length 0 lo), Heap.get?_push_size _ rfl⟩
theorem call_len_seq : CallR X (.builtin "len") (fun xs H Q => ∃ p ys, xs = [.ref p] ∧ (SqL X.K H p ys ∨ SqT X.K H p ys) ∧ Q (.int ys.length) H) := by
  intro pins s σ H xs us Q I r h
  obtain ⟨p, ys, rfl, hq, q⟩ := h
  obtain ⟨u, rfl, rx⟩ := vals1 r
  cases rx
  have hn := line63
  rcases hq with hq | hq
  · obtain ⟨its, r', pl, hz⟩ := I.list hq
    have hlen := r'.length
    exact Calls.call_len_list pl.isList (by simp only [List.size_toArray] <;> omega) ⟨.int ys.length, H, I.tok _, ⟨s.toks + 1, by rw [List.size_toArray, hlen]⟩, q⟩
  · obtain ⟨its, r', pl, hz⟩ := I.tuple hq
    have hlen := r'.length
    exact len_tuple pl (by simp only [List.size_toArray] <;> omega) ⟨.int ys.length, H, I.tok _, ⟨s.toks + 1, by rw [List.size_toArray, hlen]⟩, q⟩
theorem call_list_of : CallR X (.type "list") (fun xs H Q => ∃ p ys, xs = [.ref p] ∧ (SqL X.K H p ys ∨ SqT X.K H p ys) ∧ ∀ l, H l = none → Q (.ref l) (upd H l (.lst ys))) := by
  intro pins s σ H xs us Q I r h
  obtain ⟨p, ys, rfl, hq, q⟩ := h
  obtain ⟨u, rfl, rx⟩ := vals1 r
  cases rx
  have fin : ∀ (its : List Value), Vals ys its → ys.length ≤ sizeLine → ∀ (h' : Heap) (c' : Nat), (∀ b o', s.heap.get? b = some o' → h'.get? b = some o') →
      h'.get? s.heap.objs.size = some { cls := .type "list", dict := none, data := .seq its.toArray c', slots := #[] } → EP X pins σ Q (.ref s.heap.objs.size) { s with heap := h' } := fun its r' hz h' c' kp e =>
    ⟨.ref s.heap.objs.size, _, I.laid (t' := s.toks) kp (Nat.le_refl _) (show ObjOk X.prog X.w _ h' _ (.lst ys) from ⟨hz, its, c', r', e⟩), rfl, q _ (I.hok.fresh (Nat.le_refl _))⟩
  rcases hq with hq | hq
  · obtain ⟨its, r', pl, hz⟩ := I.list hq
    have hlen := r'.length
    obtain ⟨o, ho, hc, n, hd⟩ := pl.isList
    exact call_list_seq p (.inl rfl) ho hc hd (fun h' c' kp e => fin its r' hz h' c' kp e) (by simp only [List.size_toArray] <;> omega)
  · obtain ⟨its, r', pl, hz⟩ := I.tuple hq
    have hlen := r'.length
    obtain ⟨o, ho, hc, n, hd⟩ := pl
    exact call_list_seq p (.inr rfl) ho hc hd (fun h' c' kp e => fin its r' hz h' c' kp e) (by simp only [List.size_toArray] <;> omega)
noncomputable def tyV (K : PySem.W.Frag) (T : String) (x : V) (H : Hp) : Prop := match x with
  | .str _ => T = "str"
  | .int _ => T = "int"
  | .ref p => (T = "list" ∧ ∃ xs, SqL K H p xs) ∨ (T = "tuple" ∧ ∃ o, K.lookup p = some o ∧ o.cls = .type "tuple" ∧ o.dict = none) ∨
      (T = "dict" ∧ ((∃ kvs, H p = some (.dK kvs)) ∨ ∃ kvs, H p = some (.dT kvs))) ∨ (T = "set" ∧ ∃ S n, H p = some (.set S n))
  | _ => False
theorem tyV_is {pins : List (Addr × Obj)} {σ : St} {H : Hp} {s : Shared} {T : String} {x : V} {v : Value} (I : Inv X pins σ H s) (r : RelV x v) (ty : tyV X.K T x H) :
    s.TypeIs v T ∧ ∀ a, v = .ref a → ∃ ob, s.heap.get? a = some ob ∧ ob.dict = none := by
  cases x with
  | str z =>
    obtain ⟨t, rfl⟩ := r
    cases (show T = "str" from ty)
    exact ⟨typeIs_str s z t, fun _ e => nomatch e⟩
  | int i =>
    obtain ⟨t, rfl⟩ := r
    cases (show T = "int" from ty)
    exact ⟨typeIs_int s i t, fun _ e => nomatch e⟩
  | ref p =>
    cases r
    rcases ty with ⟨rfl, xs, hq⟩ | ⟨rfl, o, hk, hc, hd⟩ | ⟨rfl, hk⟩ | ⟨rfl, S, n, hk⟩
    · obtain ⟨its, _, pl, _⟩ := I.list hq
      refine ⟨pl.isList.typeIs, fun a e => ?_⟩
      cases e
      obtain ⟨o, n, e, c, hd, _⟩ := pl
      exact ⟨o, e, hd⟩
    · refine ⟨⟨o, I.kIn p o hk, hc⟩, fun a e => ?_⟩
      cases e
      exact ⟨o, I.kIn _ o hk, hd⟩
    · have z : ∃ o, s.heap.get? p = some o ∧ o.ExactDict := by
        rcases hk with ⟨kvs, hk⟩ | ⟨kvs, hk⟩
        · obtain ⟨_, _, _, _, o, _, _, e, ex, _⟩ := I.hok p _ hk
          exact ⟨o, e, ex⟩
        · obtain ⟨_, _, _, _, o, _, _, e, ex, _⟩ := I.hok p _ hk
          exact ⟨o, e, ex⟩
      obtain ⟨o, e, ex⟩ := z
      refine ⟨⟨o, e, ex.1⟩, fun a e2 => ?_⟩
      cases e2
      exact ⟨o, e, ex.2.1⟩
    · obtain ⟨o, _, _, _, e, ex, _⟩ := I.hok p _ hk
      refine ⟨⟨o, e, ex.1⟩, fun a e2 => ?_⟩
      cases e2
      exact ⟨o, e, ex.2.1⟩
  | _ => exact False.elim ty
noncomputable def tBM (K : PySem.W.Frag) (T : String) (r : V → List V → Hp → VK → Prop) (to : TE) (t : TA) : TE := fun σ H Q => to σ H fun x H1 => tyV K T x H1 ∧ t σ H1 fun xs H2 => r x xs H2 Q
variable {o e : Expr} {es : List Expr} {to : TE} {t : TA} {name : Str} {apos cpos : Pos} {T id : String} {r : V → List V → Hp → VK → Prop}
theorem pe_bm (pa : PlainAttrs T) (slot : Slot T name id) (hty : typeOf (.builtin id) = pure (.type "method_descriptor")) (hm : MtR X id r) (ho : PE X o to) (ha : PA X (e :: es) t)
    (hbase : attributeBase o name X.env (eval o X.env) = eval o X.env := by rfl)
    (hfew : ((backTo cpos (starEach (e :: es) X.env)).all (fun x => !x.1) && (backToKw cpos (keywordEach [] X.env)).all (fun x => x.1.isSome)
      && decide ((e :: es).length + ([] : List Keyword).length + (if ([] : List Keyword).isEmpty then 0 else 1) < 30)) = true := by rfl)
    (hline : (apos.endLine == cpos.line) = true := by rfl) (hs : starEach (e :: es) X.env = (false, eval e X.env) :: starEach es X.env := by rfl) (hplain : (backTo cpos (starEach es X.env)).any (·.1) = false := by rfl) :
    PE X (.Call (.Attribute o name apos) (e :: es) [] cpos) (tBM X.K T r to t) := by
  intro pins s σ H Q I h
  refine wpAny_Call_method_late hbase hfew hline rfl (thn (ho pins s σ H _ I h) fun v s1 hq8 => ?_)
  obtain ⟨x, H1, I1, r1, ty, q1⟩ := hq8
  obtain ⟨h1, h2⟩ := tyV_is I1 r1 ty
  refine ⟨T, id, pa, slot, hty, h1, h2, ?_⟩
  have hA := ha cpos pins s1 σ H1 _ I1 q1
  rw [hs] at hA ⊢
  refine Calls.callWith_builtin (by show (false || (backTo cpos (starEach es X.env)).any (·.1)) = false; rw [hplain] <;> rfl) (Calls.evalArgs_plain ?_)
  exact thn hA fun us s2 hq9 => AP.out hq9 fun vs H2 I2 r2 q2 => hm pins s2 σ H2 x vs v us Q I2 r1 r2 q2
end
end L2
namespace L2
open PySem PySem.Spec PyProof.Rows
noncomputable def MtM (X : Cx) (id : String) (r : V → List V → Hp → VK → Prop) : Prop :=
  ∀ (pins : List (Addr × Obj)) (s : Shared) (σ : St) (H : Hp) (x : V) (xs : List V) (v : Value) (us : List Value) (Q : VK), Inv X pins σ H s → RelV x v → Vals xs us → r x xs H Q →
    wpAny (model X.prog X.w) X.A (call (.builtin id) (v :: us)) (EP X pins σ Q) X.xe s
theorem Vals.one {x : V} {us : List Value} (h : Vals [x] us) : ∃ u, us = [u] ∧ RelV x u := by
  cases h with
  | cons r t =>
    cases t
    exact ⟨_, rfl, r⟩
theorem Vals.rep {xs : List V} {us : List Value} (h : Vals xs us) : ∀ k : Nat, Vals (List.replicate k xs).flatten (List.replicate k us).flatten
  | 0 => .nil
  | k + 1 => by
    rw [List.replicate_succ, List.replicate_succ, List.flatten_cons, List.flatten_cons]
    exact Vals.append h (Vals.rep h k)
theorem foldl_rep (its : List Value) : ∀ (k : Nat) (acc : List Value),
    List.foldl (fun x1 x2 => x1 ++ x2) acc.toArray (List.replicate k its.toArray) = (acc ++ (List.replicate k its).flatten).toArray
  | 0, acc => by simp
  | k + 1, acc => by
    have e : acc.toArray ++ its.toArray = (acc ++ its).toArray := by simp
    have e2 : (acc ++ its) ++ (List.replicate k its).flatten = acc ++ (List.replicate (k + 1) its).flatten := by
      rw [List.replicate_succ, List.flatten_cons, List.append_assoc]
    rw [← e2, ← foldl_rep its k (acc ++ its), ← e, List.replicate_succ, List.foldl_cons]
section
variable {X : Cx} {pins : List (Addr × Obj)} {σ : St} {H : Hp} {s : Shared} {l b : Addr} {xs ys zs : List V}
theorem Inv.lset {its its' : List Value} {n : Nat} {f : Array Value → Array Value} {t' : Nat} (I : Inv X pins σ H s) (hH : H l = some (.lst xs))
    (e : s.heap.get? l = some { cls := .type "list", data := .seq its.toArray n }) (hf : f its.toArray = its'.toArray) (hv : Vals ys its') (hz : ys.length ≤ sizeLine) :
    Inv X pins σ (upd H l (.lst ys)) { s with heap := s.heap.update l (Obj.mapSeq f), toks := t' } := by
  have q := PySem.IsL.update e f
  rw [hf] at q
  refine I.write (x := l) (e := l) (by rw [hH]; exact trivial) (.inl rfl) (fun b' u hb hu => (Heap.get?_update_other s.heap (Obj.mapSeq f) (Ne.symm hb)).trans hu) ⟨_, q⟩ ?_
  exact ⟨hz, its', _, hv, q⟩
theorem Inv.lnew {its : List Value} {t' : Nat} (I : Inv X pins σ H s) (hv : Vals ys its) (hz : ys.length ≤ sizeLine) :
    Inv X pins σ (upd H s.heap.objs.size (.lst ys)) { s with heap := s.heap.push { cls := .type "list", data := .seq its.toArray }, toks := t' } :=
  I.laid (fun _ _ q => Heap.get?_push_of_some _ q) (Nat.le_refl _) ⟨hz, its, 0, hv, Heap.get?_push_size _ rfl⟩
theorem Inv.fresh (I : Inv X pins σ H s) : H s.heap.objs.size = none := I.hok.fresh (Nat.le_refl _)
theorem Inv.lstM (I : Inv X pins σ H s) (hH : H l = some (.lst xs)) : xs.length ≤ sizeLine ∧ ∃ (its : List Value) (n : Nat), Vals xs its ∧ xs.length = its.length ∧ s.heap.get? l = some { cls := .type "list", data := .seq its.toArray n } := by
  obtain ⟨z, its, n, r, e⟩ := I.hok l _ hH
  exact ⟨z, its, n, r, r.length, e⟩
theorem notLongL {n : Nat} (h : n ≤ sizeLine) : Builtin.List.listTooLong n = false := by
  unfold Builtin.List.listTooLong
  exact decide_eq_false (by omega)
end
section
variable {X : Cx}
noncomputable def rAppend : V → List V → Hp → VK → Prop := fun x vs H Q => ∃ l xs y, x = .ref l ∧ vs = [y] ∧ H l = some (.lst xs) ∧ xs.length < sizeLine ∧ Q .non (upd H l (.lst (xs ++ [y])))
theorem mt_append : MtM X "list.append" rAppend := by
  intro pins s σ H x vs v us Q I rx rv h
  obtain ⟨l, xs, y, rfl, rfl, hH, hz, q⟩ := h
  cases rx
  obtain ⟨u, rfl, ru⟩ := rv.one
  obtain ⟨z, its, n, r, hl, e⟩ := I.lstM hH
  refine call_meets F.slot_list_append ⟨_, e, rfl⟩ F.entry_list_append (F.args_list_append_2 _ _) (PySem.list_append l its.toArray n u (by rw [List.size_toArray]; omega)) ⟨e, ?_⟩
  refine ⟨.non, _, I.lset (its' := its ++ [u]) hH e (by simp) (r.append (.cons ru .nil)) ?_, rfl, q⟩
  rw [List.length_append, List.length_singleton]
  omega
noncomputable def rCat : R2 := fun x y H Q => ∃ l b xs zs, x = .ref l ∧ y = .ref b ∧ H l = some (.lst xs) ∧ H b = some (.lst zs) ∧ xs.length + zs.length ≤ sizeLine ∧ ∀ p, H p = none → Q (.ref p) (upd H p (.lst (xs ++ zs)))
theorem op_cat : OpR X (binaryOp .Add) rCat := by
  intro pins s σ H x y v u Q I rx ry h
  obtain ⟨l, b, xs, zs, rfl, rfl, hH, hB, hz, q⟩ := h
  cases rx
  cases ry
  obtain ⟨z, its, n, r, hl, e⟩ := I.lstM hH
  obtain ⟨z2, its2, n2, r2, hl2, e2⟩ := I.lstM hB
  refine PySem.P.add_list e e2 ?_ (by rw [List.size_toArray, List.size_toArray]; omega)
  have ea : its.toArray ++ its2.toArray = (its ++ its2).toArray := by simp
  rw [ea]
  exact ⟨.ref _, _, I.lnew (t' := s.toks) (r.append r2) (by rw [List.length_append]; omega), rfl, q _ I.fresh⟩
noncomputable def rRep : R2 := fun x y H Q => ∃ l k xs, x = .ref l ∧ y = .int k ∧ H l = some (.lst xs) ∧ -(2 ^ 63) ≤ k ∧ k < 2 ^ 63 ∧ xs.length * k.toNat ≤ sizeLine ∧
  ∀ p, H p = none → Q (.ref p) (upd H p (.lst (List.replicate k.toNat xs).flatten))
theorem len_rep {α : Type} (xs : List α) (k : Nat) : (List.replicate k xs).flatten.length = k * xs.length := by
  induction k with
  | zero => simp
  | succ k ih => rw [List.replicate_succ, List.flatten_cons, List.length_append, ih, Nat.succ_mul, Nat.add_comm]
theorem op_rep : OpR X (binaryOp .Mult) rRep := by
  intro pins s σ H x y v u Q I rx ry h
  obtain ⟨l, k, xs, rfl, rfl, hH, h1, h2, hz, q⟩ := h
  cases rx
  obtain ⟨t, rfl⟩ := ry
  obtain ⟨z, its, n, r, hl, e⟩ := I.lstM hH
  have hlen : its.toArray.size * k.toNat ≤ sizeLine := by rw [List.size_toArray, ← hl]; exact hz
  have hcap : ¬ its.toArray.size * k.toNat > (2 ^ 63 - 1) / 8 := by
    have : (sizeLine : Nat) ≤ (2 ^ 63 - 1) / 8 := by decide
    omega
  have hfit : ¬ (!Builtin.List.listFitsIndex k) = true := by
    rw [fitsIndex_both h1 h2]
    exact Bool.false_ne_true
  have hlong : ¬ Builtin.List.listTooLong (its.toArray.size * k.toNat) = true := by
    rw [notLongL hlen]
    exact Bool.false_ne_true
  have hnew : List.foldl (fun x1 x2 => x1 ++ x2) #[] (List.replicate (if its.toArray.isEmpty = true then 0 else k.toNat) its.toArray) = (List.replicate k.toNat its).flatten.toArray := by
    have f0 : ∀ m : Nat, List.foldl (fun x1 x2 => x1 ++ x2) #[] (List.replicate m its.toArray) = (List.replicate m its).flatten.toArray := fun m => by
      have := foldl_rep its m []
      rw [List.nil_append] at this
      exact this
    rw [f0]
    cases its with
    | nil => simp
    | cons a r' => rw [if_neg (by simp)]
  refine wpAny_binaryOp_repeat_ref (T := "list") (U := "int") (by decide) ⟨_, e, rfl⟩ (fun s' => typeIs_int s' k t) noFill_list_mul F.fills_int_mul F.slot_int_rmul repeat_list F.slot_int_index.lookup
    (call_meets F.slot_int_rmul (typeIs_int s k t) F.entry_int_rmul (F.args_int_rmul_2 _ _) (int___rmul___int_list k t l its.toArray n)
      ⟨e, rfl, ⟨_, e, rfl⟩, call_meets F.slot_list_mul ⟨_, e, rfl⟩ F.entry_list_mul (F.args_list_mul_2 _ _) (AutoListH.list___mul___list_int_3 l its.toArray n k t hfit hcap hlong) ⟨e, ?_⟩⟩)
  rw [hnew]
  exact ⟨.ref _, _, I.lnew (t' := s.toks) (r.rep k.toNat) (by rw [len_rep, Nat.mul_comm]; exact hz), rfl, q _ I.fresh⟩
end
section
variable {prog : Program} {w : World} {A : Around} {E : Value → Shared → Prop} {s : Shared}
end
section
variable {X : Cx}
end
end L2
namespace L2
open PySem PySem.Spec PyProof.Rows
section
variable {κ : Type} [DecidableEq κ]
end
section
variable {P : Program} {w : World} {H : Hp} {h : Heap} {a : Addr}
end
section
variable {X : Cx} {pins : List (Addr × Obj)} {σ : St} {H : Hp} {s : Shared} {a : Addr} {y v : V} {u r : Value} {o : Option V} {A : Around} {E : Value → Shared → Prop}
end
section
variable {X : Cx} {pins : List (Addr × Obj)} {σ : St} {H : Hp} {s : Shared} {a : Addr} {kvs : List (Key × V)} {k : Key} {u : Value} {A : Around} {E : Value → Shared → Prop}
end
section
variable {X : Cx} {o i e value : Expr} {pos pos' tpos : Pos} {td ty tv : TE}
end
section
variable {X : Cx} {pos : Pos}
end
section
variable {X : Cx} {pins : List (Addr × Obj)} {σ : St} {H : Hp} {s : Shared} {a : Addr} {y d : V} {u r : Value} {o : Option V} {A : Around} {E : Value → Shared → Prop}
end
section
variable {X : Cx} {o e f : Expr} {apos cpos : Pos} {td ty tx : TE}
end
section
variable {X : Cx} {pins : List (Addr × Obj)} {σ : St} {H : Hp} {s : Shared} {a : Addr} {kvs : List (Key × V)} {A : Around} {E : Value → Shared → Prop}
end
section
variable {X : Cx} {pins : List (Addr × Obj)} {σ : St} {H : Hp} {s : Shared} {a : Addr} {y : V} {u : Value} {A : Around} {E : Value → Shared → Prop}
end
end L2
namespace Att
open PySem PySem.W PySem.Calls PyProof.Rows
theorem ints_of_wellAll {P : Params} {h : Heap} : ∀ (ns : List Int) (vs : List Value), WellAll P h vs (ns.map WData.int) → IntsAre vs ns := by
  intro ns
  induction ns with
  | nil =>
    intro vs w
    rw [List.map_nil] at w
    cases w
    exact .nil
  | cons n ns ih =>
    intro vs w
    rw [List.map_cons] at w
    cases w with
    | cons a b =>
      cases a
      exact .cons _ _ (ih _ b)
theorem script_of {l : OpenLaw} {n : Nat} (hn : l.most = some n) {P : Params} {h : Heap} {args : List WData} {vals : List Value}
    (hpre : l.row.toRowW.claim.pre args = true) (hwl : WellAll P h vals args) :
    ∃ a vs ns, vals = [Value.ref a] ∧ args = [WData.list (ns.map WData.int)] ∧ h.get? a = some { cls := .type "list", data := .seq vs.toArray } ∧ IntsAre vs ns ∧ ns.length ≤ n := by
  have hsh : WShape.hasAll [] args [.list .int] = true := (pre_splitW hpre).1
  have hc : l.pre.holds [] { args := args } = true := (pre_splitW hpre).2
  obtain ⟨d, r, rfl, h1, h2⟩ := hasAllW_cons hsh
  obtain rfl := hasAllW_nil h2
  obtain ⟨xs, rfl, h3⟩ := hasW_list h1
  obtain ⟨ns, rfl⟩ := items_int h3
  have hlen : ns.length ≤ n := by
    unfold OpenLaw.pre at hc
    have h4 : (WTm.not (.lt (.lit (.int (n : Int))) (.len (.arg 0)))).holds [] { args := [.list (ns.map .int)] } = true := by
      have h4 := (holds_andW hc).1
      rw [hn] at h4
      exact h4
    have h5 := condW_of h4 (w_not (w_lt w_lit (w_len_list (w_arg rfl))))
    rw [List.length_map] at h5
    refine Nat.le_of_not_lt fun q => ?_
    have q' : (n : Int) < ((ns.length : Nat) : Int) := by omega
    first
      | (rw [decide_eq_true q'] at h5; exact absurd h5 (by decide))
      | (simp at h5; omega)
  cases hwl with
  | cons w1 w2 =>
    cases w2
    cases w1 with
    | list ho hall => exact ⟨_, _, ns, rfl, rfl, ho, ints_of_wellAll ns _ hall, hlen⟩
theorem post_true (l : OpenLaw) (args : List WData) : l.row.toRowW.claim.post args (.bool true) args = true :=
  postW_of (r := l.row.toRowW) (X := (true == true))
    (show WShape.has [] (.bool true) .bool = true by first | rfl | decide | simp [WShape.has, WShape.arms, WShape.armsAll])
    (show (WTm.eq .res (.lit (.bool true))).value [] { args := args, res := some (.bool true), after := args } = some (.bool (true == true)) from w_eq_bool (w_res rfl) w_lit) rfl
theorem attach_call {l : OpenLaw} {n : Nat} {q : Program} {loose : List Str} {XP : (Str → Option Value) → Heap → Prop} {YP : World → Heap → Prop} {d : DefRec}
    (hn : l.most = some n) (hdf : d.params.defaults = [])
    (call : ∀ (w : World) (s₀ s₁ : Shared) (mg mb : Str → Option Value) (fa : Addr) (o : Obj) (pm cd doc : Value) (a : Addr) (vs : List Value) (ns : List Int),
      Ground q loose [] XP w s₀ mg mb s₁.heap → YP w s₁.heap →
      s₁.heap.get? fa = some o → o.data = .func (docDef d.name d.params d.body d.scope pm cd doc) → s₁.heap.CodeRec cd d.name → mg d.name = some (.ref fa) →
      s₁.heap.get? a = some { cls := .type "list", data := .seq vs.toArray } → IntsAre vs ns → ns.length ≤ n → s₁.gens = #[] →
      codeAny (model l.prog w) callerA (.call (.ref fa) ⟨[.ref a], []⟩) (fun r s' => r = .ok (.ret (.bool true)) ∧ OldK s₁.heap s'.heap ∧ s'.os = s₁.os ∧ AllBare s'.gens) s₁) :
    WalkO q loose XP YP l.row.toRowW d [] (fun f vs => PySem.call f vs) := by
  intro w s₀ s₁ mg mb G Y fa o pm cd doc dV kV ho hd hcd hD hmg hg args vals as hpre hlay hrd hwl hlo
  obtain rfl : dV = .none := Dflts.none hD hdf
  obtain rfl : kV = .none := Dflts.noKw hD
  obtain ⟨a, vs, ns, rfl, rfl, hobj, hints, hlen⟩ := script_of hn hpre hwl
  refine enter_call (codeAny_mono (call w s₀ s₁ mg mb fa o pm cd doc a vs ns G Y ho (fd_plain hd) hcd hmg hobj hints hlen hg) fun r s' hq => ?_)
  obtain ⟨rfl, h2, h3, h4⟩ := hq
  exact ⟨.inl ⟨.bool true, .bool true, [], rfl, fun _ => rfl, .bool true, post_true l _, fun _ => ⟨List.Pairwise.nil, fun _ hm => (nomatch hm)⟩⟩, h2, h3, h4⟩
section
variable {prog : Program} {w : World} {A : Around} {E : Value → Shared → Prop} {s : Shared} {K : Frag}
end
end Att
namespace L2
open PySem PySem.Spec PyProof.Rows
theorem vals_ints {vs : List Value} {ns : List Int} (h : IntsAre vs ns) : Vals (ns.map V.int) vs := by
  induction h with
  | nil => exact .nil
  | cons n t h ih => exact .cons ⟨t, rfl⟩ ih
noncomputable def Only (H : Hp) : Prop := ∀ b, H b = none ∨ ∃ o xs, H b = some (.frz o (.lst xs))
theorem law_call {P : Program} {w : World} {K : PySem.W.Frag} {mg mb : Str → Option Value} {CX : CXT} {k : Nat} {fa a : Addr} {fd : FuncData} {x : Str} {sp : Sp} {s₁ : Shared} {vs : List Value} {ns : List Int}
    (KX : K.In s₁.heap) (hns : s₁.heap.Ns mainGlobals mg) (hb : s₁.heap.Ns builtinsNs mb) (hbb : ∀ x : Str, x ≠ "__name__" → mb x = bootBuiltins x) (hlim : s₁.heap.NoLimit) (hg : s₁.gens = #[])
    (ha : s₁.heap.get? a = some { cls := .type "list", data := .seq vs.toArray }) (hi : IntsAre vs ns) (hl : ns.length ≤ sizeLine) (hr : Room k callerA)
    (F : ∀ base : Heap, K.In base → base.Ns mainGlobals mg → FnOk P w K mg base CX k fa fd [x] sp) (hbind : ∀ (s : Shared) (u : Value), BindsTo s fd ⟨[u], []⟩ [(x, u)])
    (hsp : ∀ H : Hp, Only H → SqL K H a (ns.map V.int) → sp [.ref a] H (fun v _ => v = .bl true) fun _ _ _ => False)
    (hCX : ∀ H e s', CX [] H s₁ (fun _ _ _ => False) e s' → False) :
    codeAny (model P w) callerA (.call (.ref fa) ⟨[.ref a], []⟩) (fun r s' => r = .ok (.ret (.bool true)) ∧ OldK s₁.heap s'.heap ∧ s'.os = s₁.os ∧ AllBare s'.gens) s₁ := by
  have rv := vals_ints hi
  have lenV := hi.length
  -- from an abstract heap in which nothing but the script may be tracked
  have core : ∀ H : Hp, Only H → SqL K H a (ns.map V.int) → HOk P w H s₁.heap → (∀ b, H b ≠ none → b = a) → (H a ≠ none → K.lookup a = none) →
      codeAny (model P w) callerA (.call (.ref fa) ⟨[.ref a], []⟩) (fun r s' => r = .ok (.ret (.bool true)) ∧ OldK s₁.heap s'.heap ∧ s'.os = s₁.os ∧ AllBare s'.gens) s₁ := by
    intro H hO hS hok hA hK
    have base_of : ∀ {b : Addr} {o : Obj}, s₁.heap.get? b = some o → H b = none → (hidT s₁.heap H).get? b = some o := fun e n => hidT_get e n
    have noA : ∀ {b : Addr} {o : Obj} {es : Array DictEntry} {ep : Nat}, s₁.heap.get? b = some o → o.data = .dict es ep → H b = none := fun {b o es ep} e d => by
      cases q : H b with
      | none => rfl
      | some u =>
        have e' : b = a := hA b (by rw [q]; simp)
        subst e'
        rw [ha] at e; cases e
        have d' : Data.seq vs.toArray _ = Data.dict es ep := d
        cases d'
    have nsK : ∀ {b : Addr} {m : Str → Option Value}, s₁.heap.Ns b m → (hidT s₁.heap H).Ns b m := fun {b m} ⟨o, es, ep, e, d, r⟩ => ⟨o, es, ep, base_of e (noA e d), d, r⟩
    have hKb : K.In (hidT s₁.heap H) := fun b o e => base_of (KX b o e) (by
      cases q : H b with
      | none => rfl
      | some u =>
        have e' : b = a := hA b (by rw [q]; simp)
        subst e'
        rw [hK (by rw [q]; simp)] at e; cases e)
    have hM : Mod K mg (hidT s₁.heap H) := ⟨hKb, nsK hns, ⟨mb, nsK hb, hbb⟩, let ⟨mc, h1, h2⟩ := hlim; ⟨mc, nsK h1, h2⟩⟩
    have e0 : Env0 P w K mg (hidT s₁.heap H) callerA [] s₁ H := ⟨rfl, hM, fun b o e => of_hidT e, Nat.le_of_eq (hidT_size _ _), trivial, fun b hb => absurd (show b ∈ ([] : List Addr) from hb) (by simp), hok, .of_eq hg⟩
    refine codeAny_mono ((F _ hKb (nsK hns)).run callerA [] s₁ H ⟨[.ref a], []⟩ [.ref a] [.ref a] _ _ hr e0 (hbind s₁ (.ref a)) (.cons rfl .nil) (hsp H hO hS)) fun r s' h => ?_
    cases r with
    | error e => exact (hCX H e s' h).elim
    | ok fl =>
      cases fl with
      | next => exact False.elim h
      | brk => exact False.elim h
      | cont => exact False.elim h
      | ret u =>
        obtain ⟨v, H', os, bare, un, hok', r', q⟩ := h
        have q' : v = .bl true := q
        subst q'
        obtain rfl : u = Value.bool true := r'
        refine ⟨rfl, OldK.of_keep fun b o e => ?_, os, bare⟩
        cases q : H b with
        | none => exact un.keep b o e q (by intro z; exact absurd (show b ∈ ([] : List Addr) from z) (by simp)) (by simp)
        | some u =>
          rcases hO b with z | ⟨ob, xs, z⟩
          · rw [q] at z; cases z
          · have z2 := un.frzs b ob _ z
            obtain ⟨e1, _⟩ := hok b _ z
            obtain ⟨e2, _⟩ := hok' b _ z2
            rw [e] at e1; cases e1
            exact e2
  cases hk : K.lookup a with
  | some o =>
    -- the script is one of the module's own objects
    have e := KX a o hk
    rw [ha] at e
    cases e
    refine core (fun _ => none) (fun _ => .inl rfl) (.inr ⟨_, vs.toArray, _, hk, rfl, rfl, rfl, by rw [List.size_toArray, lenV]; exact hl, by simpa using rv⟩) (fun b u z => by have z' : (none : Option HO) = some u := z; cases z') (fun b z => absurd rfl z) fun z => absurd rfl z
  | none =>
    refine core (fun b => if b = a then some (.frz { cls := .type "list", data := .seq vs.toArray } (.lst (ns.map V.int))) else none) (fun b => ?_) (.inl (.inr ⟨{ cls := .type "list", data := .seq vs.toArray }, if_pos rfl⟩)) (fun b u z => ?_) (fun b z => ?_) fun _ => hk
    · by_cases hb : b = a
      · exact .inr ⟨_, _, if_pos hb⟩
      · exact .inl (if_neg hb)
    · by_cases hb : b = a
      · have z' := (if_pos hb).symm.trans z
        cases z'
        subst hb
        exact ⟨ha, by rw [List.length_map]; exact hl, vs, _, rv, ha⟩
      · have z' := (if_neg hb).symm.trans z
        cases z'
    · by_cases hb : b = a
      · exact hb
      · exact absurd (if_neg hb) z
end L2
namespace L2
open PySem PySem.Spec PyProof.Rows
theorem walk_of {l : PySem.W.OpenLaw} {n k : Nat} {q : Program} {loose : List Str} {XP : (Str → Option Value) → Heap → Prop} {YP : World → Heap → Prop} {d : DefRec} {K : Params → PySem.W.Frag} {CX : World → CXT} {sp : World → Sp} {x : Str}
    (hn : l.most = some n) (hn2 : n ≤ sizeLine) (hdf : d.params.defaults = []) (hr : Room k callerA)
    (hY : ∀ (w : World) (h : Heap), YP w h → (K w.params).In h)
    (F : ∀ (w : World) (mg : Str → Option Value) (fa : Addr) (h : Heap), (K w.params).In h → h.Ns mainGlobals mg → mg d.name = some (.ref fa) →
      ∃ fd : FuncData, (∀ (s : Shared) (u : Value), BindsTo s fd ⟨[u], []⟩ [(x, u)]) ∧
        ∀ base : Heap, (K w.params).In base → base.Ns mainGlobals mg → FnOk l.prog w (K w.params) mg base (CX w) k fa fd [x] (sp w))
    (hsp : ∀ (w : World) (H : Hp) (a : Addr) (ns : List Int), ns.length ≤ n → Only H → SqL (K w.params) H a (ns.map V.int) → sp w [.ref a] H (fun v _ => v = .bl true) fun _ _ _ => False)
    (hCX : ∀ (w : World) (H : Hp) (s : Shared) (e : Value) (s' : Shared), CX w [] H s (fun _ _ _ => False) e s' → False) :
    PySem.W.WalkO q loose XP YP l.row.toRowW d [] (fun f vs => PySem.call f vs) := by
  refine Att.attach_call hn hdf fun w s₀ s₁ mg mb fa o pm cd doc a vs ns G Y ho hd hcd hmg hobj hints hlen hg => ?_
  have KX := hY w _ Y
  obtain ⟨fd, hb, hF⟩ := F w mg fa _ KX G.T.g hmg
  exact law_call KX G.T.g G.T.b G.T.builtins G.T.nolimit hg hobj hints (Nat.le_trans hlen hn2) hr hF hb (fun H hO hS => hsp w H a ns hlen hO hS) fun H e s' => hCX w H s₁ e s'
end L2
namespace L2
open PySem PySem.Spec PyProof.Rows
noncomputable def inClass (s : Stmt) (j : Nat) : Stmt := match s with
  | .ClassDef _ _ _ body _ _ _ _ _ _ _ => body.getD j (.Pass ⟨0, 0, 0, 0⟩)
  | _ => .Pass ⟨0, 0, 0, 0⟩
noncomputable def defArgs (s : Stmt) : Arguments := match s with
  | .FunctionDef _ a _ _ _ _ _ _ _ _ => a
  | _ => { posonlyargs := [], args := [], vararg := none, kwonlyargs := [], kw_defaults := [], kwarg := none, defaults := [] }
noncomputable def defBody (s : Stmt) : List Stmt := match s with
  | .FunctionDef _ _ b _ _ _ _ _ _ _ => b
  | _ => []
noncomputable def defScope (s : Stmt) : Scope := match s with
  | .FunctionDef _ _ _ _ _ _ sc _ _ _ => sc
  | _ => { kind := .function, names := [], isGenerator := false, isCoroutine := false }
noncomputable abbrev CX0 : CXT := fun _ _ _ _ _ _ => False
noncomputable abbrev E0 : XK := fun _ _ _ => False
theorem pass0 {X : Cx} : Passes CX0 X E0 := fun _ _ _ _ _ _ _ h => h.elim
structure Fun (K : PySem.W.Frag) (x qual : Str) (st : Stmt) (f : Addr) (fd : FuncData) : Prop where
  ex : ∃ (oc : Value) (od : Option Addr) (kV doc pm : Value) (an : Option Addr) (cdv ct : Value) (osl : Array (Option Value)),
    fd = PySem.W.fnOf x qual (defArgs st) (defBody st) (defScope st) .none kV doc pm an cdv ct ∧ K.lookup f = some ⟨oc, od, .func fd, osl⟩ ∧ PySem.W.codeIn K cdv qual = true
  kp : PySem.W.keepIn K (.ref f) = true
section
variable {P : Program} {w : World} {K : PySem.W.Frag} {mg : Str → Option Value} {base : Heap}
theorem Fun.ok {x qual : Str} {st : Stmt} {f : Addr} {fd : FuncData} {N ps : List Str} {k : Nat} {sp : Sp} (F : Fun K x qual st f fd) (S : FnScope N ps (defScope st)) (len : ∀ vs H Q E, sp vs H Q E → vs.length = ps.length)
    (hbody : ∀ (cdv : Value) (A : Around) (outer : List Env) (s : Shared) (H : Hp) (vs : List V) (Q : VK) (E : XK), Room k (A.deeper (envOfC qual (defScope st) s.heap.objs.size f cdv)) → sp vs H Q E →
      ∃ t, PSs (cxOf CX0 P w K mg base N qual (defScope st) f cdv A outer s H E).nox (defBody st) t ∧ t { nx := fun _ H' => Q .non H', rt := Q } (start N vs) H) : FnOk P w K mg base CX0 (k + 1) f fd ps sp := by
  obtain ⟨oc, od, kV, doc, pm, an, cdv, ct, osl, rfl, lk, hcd⟩ := F.ex
  refine fn_of lk hcd S len fun A outer s H vs Q E hr hsp => ?_
  obtain ⟨t, h, q⟩ := hbody cdv A outer s H vs Q E hr hsp
  exact ⟨t, h.nox, q⟩
theorem Fun.binds {x qual : Str} {st : Stmt} {f : Addr} {fd : FuncData} {ps : List Str} (F : Fun K x qual st f fd)
    (h : ∀ (kV doc pm : Value) (an : Option Addr) (cdv ct : Value) (us : List Value), us.length = ps.length → bindArgs (PySem.W.fnOf x qual (defArgs st) (defBody st) (defScope st) .none kV doc pm an cdv ct) ⟨us, []⟩ = pure (ps.zip us)) : Binds K fd ps [] := by
  obtain ⟨oc, od, kV, doc, pm, an, cdv, ct, osl, rfl, lk, hcd⟩ := F.ex
  exact .all (h kV doc pm an cdv ct)
theorem fun_mk {x qual : Str} {st : Stmt} {f : Addr} {oc : Value} {od an : Option Addr} {osl : Array (Option Value)} {kV doc pm cdv ct : Value} (l : K.lookup f = some ⟨oc, od, .func (PySem.W.fnOf x qual (defArgs st) (defBody st) (defScope st) .none kV doc pm an cdv ct), osl⟩)
    (c : PySem.W.codeIn K cdv qual = true) (k : PySem.W.keepIn K (.ref f) = true) : Fun K x qual st f (PySem.W.fnOf x qual (defArgs st) (defBody st) (defScope st) .none kV doc pm an cdv ct) := ⟨⟨oc, od, kV, doc, pm, an, cdv, ct, osl, rfl, l, c⟩, k⟩
end
theorem small1000 {n : Nat} (h : n ≤ 1000) : n < sizeLine := Nat.lt_of_le_of_lt h (by decide)
section
variable {X : Cx}
theorem pv (i : Nat) {x : Str} {pos : Pos} (hN : X.N[i]? = some x := by rfl) (hv : Vis X.env.scope x := by first | exact Or.inl rfl | exact Or.inr (Or.inl rfl) | exact Or.inr (Or.inr rfl)) (hd : (x == ("__debug__" : Str)) = false := by decide)
    (hcd : (x == ("__classdict__" : Str)) = false := by decide) : PE X (.Name x pos) (tVar i) := pe_var hN hv hd hcd
end
theorem iteF {A B : Prop} (h : B) : if false = true then A else B := by
  rw [if_neg Bool.false_ne_true]
  exact h
theorem iteT {A B : Prop} (h : A) : if true = true then A else B := by
  rw [if_pos rfl]
  exact h
theorem ite2 {c A B : Prop} [Decidable c] (h1 : c → A) (h2 : ¬ c → B) : if c then A else B := by
  by_cases h : c
  · rw [if_pos h]
    exact h1 h
  · rw [if_neg h]
    exact h2 h
theorem iteNS {c A B : Prop} [Decidable c] (hc : c) (h : B) : if (!decide c) = true then A else B := by
  rw [decide_eq_true hc]
  exact iteF h
noncomputable def Same (H H' : Hp) : Prop := ∀ b o, H b = some o → H' b = some o
theorem Same.refl (H : Hp) : Same H H := fun _ _ h => h
theorem Same.trans {H H1 H2 : Hp} (a : Same H H1) (b : Same H1 H2) : Same H H2 := fun c o h => b c o (a c o h)
theorem Same.seq {K : PySem.W.Frag} {H H' : Hp} {a : Addr} {xs : List V} (e : Same H H') (h : SqL K H a xs) : SqL K H' a xs := by
  rcases h with (h | ⟨o, h⟩) | h
  · exact .inl (.inl (e _ _ h))
  · exact .inl (.inr ⟨o, e _ _ h⟩)
  · exact .inr h
section
variable {κ : Type} [DecidableEq κ]
end
end L2
namespace L2
open PySem PySem.Spec PyProof.Rows
section
variable {X : Cx} {pins : List (Addr × Obj)} {σ : St} {H : Hp} {s : Shared} {h' : Heap}
theorem Inv.turnedN {t' : Nat} {ch : List Addr} (I : Inv X pins σ H s) (k : ∀ b o, b ∉ ch → s.heap.get? b = some o → h'.get? b = some o) (hf : ∀ b ∈ ch, FpOk X pins H b) : Inv X pins σ H { s with heap := h', toks := t' } := by
  have nit : ∀ b u, H b = some u → b ∉ ch := fun b u e z => by rw [(hf b z).1] at e; cases e
  refine I.step (g' := s.gens) (d' := s.drawn) (ch := ch) (fun b hb => ?_) (fun b o _ _ hc e _ => k b o hc e) (fun b o _ _ hc e _ => ⟨o.slots, k b o hc e⟩) (fun _ _ _ _ n => n)
    (fun b o hc e => ⟨o, k b o hc e⟩) (fun _ _ e => e) (fun _ _ _ e => e) (fun b ps e => ⟨#[], by rw [e]; simp⟩) (fun m hm => ?_) (fun b u e => ?_) I.bare
  · obtain ⟨f0, f1, f2, f3, f4, f5⟩ := hf b hb
    exact ⟨f3, f1, f4, f5⟩
  · obtain ⟨o, es, ep, ho, r⟩ := hm
    exact ⟨o, es, ep, k _ o (fun z => (hf _ z).2.1 rfl) ho, r⟩
  · refine (I.hok b u e).stay (fun c v hc q => k c v ?_ q) (fun _ q => q) fun _ _ q => q
    rcases hc with z | z
    · rw [z]; exact nit b u e
    · exact nit c _ z
theorem Inv.turnLaid {t' : Nat} {ch : List Addr} {a : Addr} {o : HO} (I : Inv X pins σ H s) (k : ∀ b u, b ∉ ch → s.heap.get? b = some u → h'.get? b = some u) (hf : ∀ b ∈ ch, FpOk X pins H b) (hp : s.heap.objs.size ≤ a)
    (new : ObjOk X.prog X.w (upd H a o) h' a o) : Inv X pins σ (upd H a o) { s with heap := h', toks := t' } := by
  have hn : H a = none := I.hok.fresh hp
  have nit : ∀ b u, H b = some u → b ∉ ch := fun b u e z => by rw [(hf b z).1] at e; cases e
  refine I.step (g' := s.gens) (d' := s.drawn) (ch := ch) (fun b hb => ?_) (fun b o _ _ hc e _ => k b o hc e) (fun b o _ _ hc e _ => ⟨o.slots, k b o hc e⟩)
    (fun b u _ q n => by rw [upd_ne (Nat.ne_of_lt (Nat.lt_of_lt_of_le (Heap.lt_size q) hp))]; exact n)
    (fun b o hc e => ⟨o, k b o hc e⟩) (fun b xs q => by rw [upd_ne (ne_of_none q hn)]; exact q) (fun b u xs q => by rw [upd_ne (ne_of_none q hn)]; exact q) (fun b ps q => ⟨#[], by rw [upd_ne (ne_of_none q hn), q]; simp⟩) (fun m hm => ?_) (fun b u e => ?_) I.bare
  · obtain ⟨f0, f1, f2, f3, f4, f5⟩ := hf b hb
    exact ⟨f3, f1, f4, f5⟩
  · obtain ⟨o, es, ep, ho, r⟩ := hm
    exact ⟨o, es, ep, k _ o (fun z => (hf _ z).2.1 rfl) ho, r⟩
  · by_cases hb : b = a
    · subst hb; rw [upd_same] at e; cases e; exact new
    · rw [upd_ne hb] at e
      refine (I.hok b u e).stay (fun c v hc q => k c v ?_ q) (fun c q => by rw [upd_ne (ne_of_none q hn)]; exact q) fun c xs q => by rw [upd_ne (ne_of_none q hn)]; exact q
      rcases hc with z | z
      · rw [z]; exact nit b u e
      · exact nit c _ z
end
noncomputable def Ite (K : PySem.W.Frag) (a : Addr) : It :=
  ⟨fun i H => ∃ xs x, SqL K H a xs ∧ xs[i]? = some x,
   fun i H v H' => ∃ T y, v = .ref T ∧ H T = none ∧ H' = upd H T (.tup [.int ((i : Nat) : Int), y]) ∧ ∀ xs, SqL K H a xs → xs[i]? = some y,
   fun i H => ∃ xs, SqL K H a xs ∧ xs.length ≤ i⟩
theorem turn_enum {P : Program} {w : World} {K : PySem.W.Frag} {es : List Expr} {k : Nat} {pos : Pos} (a e it : Addr) (hei : e ≠ it) :
    Turn P w K (.Tuple es k pos) (Ite K a) [e, it] e (fun i h => (∃ old, IsEnum h e it ((i : Nat) : Int) old) ∧ h.IsListIter it a i) where
  mem := by simp
  obj := fun i h st b hb => by
    obtain ⟨⟨old, he⟩, hit⟩ := st
    rcases List.mem_cons.mp hb with rfl | hb
    · exact ⟨_, he, fun v z => by
        have z' : Data.fields _ = Data.cell v := z
        cases z'⟩
    · have e1 : b = it := by simpa using hb
      subst e1
      obtain ⟨o, e, c, d⟩ := hit
      exact ⟨o, e, fun v z => by rw [d] at z; cases z⟩
  keep := fun i h h' st k => by
    obtain ⟨⟨old, he⟩, hit⟩ := st
    exact ⟨⟨old, k e (by simp) _ he⟩, hit.at fun o q => k it (by simp) o q⟩
  item := by
    intro X hP hw hK hc i pins s σ H E I hf st hg
    subst hP hw hK
    obtain ⟨⟨old, he⟩, hit⟩ := st
    obtain ⟨xs, x, hq, hx⟩ := hg
    obtain ⟨its, rv, p, hz⟩ := I.list hq
    obtain ⟨u, hu, ru⟩ := rv.get hx
    refine wpAny_pyNext_enum_item he hit p.isList (x := u) (by simpa using hu) hei fun h1 ho hit' hT hsz hk => ?_
    refine ⟨_, rfl, wpAny_letOwnedTupleGo_enum ho fun h2 he2 hs2 => ?_⟩
    have elt : e < s.heap.objs.size := Heap.lt_size he
    have ilt : it < s.heap.objs.size := by obtain ⟨_, q, _⟩ := hit; exact Heap.lt_size q
    have hT2 : h2.get? s.heap.objs.size = some { cls := .type "tuple", data := .seq #[.int i s.toks, u] } := (hs2.2 _ (Nat.ne_of_gt elt)).trans hT
    have kk : ∀ b o, b ∉ [e, it] → s.heap.get? b = some o → h2.get? b = some o := fun b o hb q =>
      (hs2.2 b fun z => hb (by simp [z])).trans (hk b o (fun z => hb (by simp [z])) (fun z => hb (by simp [z])) q)
    have I2 : Inv X pins σ (upd H s.heap.objs.size (.tup [.int ((i : Nat) : Int), x])) { s with heap := h2, toks := s.toks + 1 } :=
      I.turnLaid (ch := [e, it]) kk hf (Nat.le_refl _) ⟨by simp only [List.length_cons, List.length_nil]; rw [sizeLine_eq]; decide, [.int i s.toks, u], .cons ⟨_, rfl⟩ (.cons ru .nil), ⟨_, hT2, rfl, 0, rfl⟩⟩
    refine ⟨.ref s.heap.objs.size, _, I2, rfl, ⟨_, x, rfl, I.hok.fresh (Nat.le_refl _), rfl, fun ys hy => by rw [I.list_inj hy hq]; exact hx⟩, ⟨⟨u, by simpa using he2⟩, hit'.at fun o q => (hs2.2 it hei.symm).trans q⟩, fun b hb => ?_⟩
    have hlt : b < s.heap.objs.size := by
      rcases List.mem_cons.mp hb with rfl | hb
      · exact elt
      · have e1 : b = it := by simpa using hb
        subst e1
        exact ilt
    rw [upd_ne (Nat.ne_of_lt hlt)]
    exact (hf b hb).1
  done := by
    intro X hP hw hK hc i pins s σ H E I hf st hg
    subst hP hw hK
    obtain ⟨⟨old, he⟩, hit⟩ := st
    obtain ⟨xs, hq, hx⟩ := hg
    obtain ⟨its, rv, p, hz⟩ := I.list hq
    have hl := rv.length
    refine wpAny_pyNext_enum_end (I.ok.hd hc) he hit p.isList (Array.getElem?_eq_none (by simp; omega)) fun h1 eb => ⟨rfl, ?_⟩
    exact I.turnedN (t' := s.toks) (ch := [e, it]) (fun b o hb q => eb b o (fun z => hb (by simp [z])) q) hf
  self := fun _ _ _ _ _ st h => by
    obtain ⟨⟨old, he⟩, _⟩ := st
    exact wpAny_pyIter_enum he h
section
variable {X : Cx}
noncomputable def iEnum (K : PySem.W.Frag) (ta : TA) : TI := fun σ H R => ta σ H fun vs H1 => ∃ a xs, vs = [.ref a] ∧ SqL K H1 a xs ∧ R (Ite K a) H1
theorem pi_enum {es : List Expr} {k : Nat} {a : Expr} {ta : TA} {p p2 pos : Pos} (hg : Gl X "enumerate") (hm : X.mg "enumerate" = none) (ha : PA X [a] ta) (hs : starEach [a] X.env = [(false, eval a X.env)] := by rfl) :
    PI X (.Tuple es k p2) (.Call (.Name "enumerate" p) [a] [] pos) (iEnum X.K ta) := by
  intro pins s σ H R I h
  refine Call_ (ld_blt I hg hm boot_enumerate (PyProof.Rows.callWith_type1 (thn (ha pos pins s σ H _ I h) fun us s1 hq9 => AP.out hq9 fun vs H1 I1 r1 q1 => ?_) hs rfl))
  obtain ⟨l, xs, e, hq, q⟩ := q1
  subst e
  obtain ⟨u, rfl, ru⟩ := vals1 r1
  cases (show u = Value.ref l from ru)
  obtain ⟨its, rv, pl, hz⟩ := I1.list hq
  refine call_enumerate_list pl.isList fun h1 he hit hsz hk => ?_
  refine wpAny_pyIter_enum he ?_
  refine ⟨s1.heap.objs.size + 1, [s1.heap.objs.size + 1, s1.heap.objs.size], _, _, H1, rfl, I1.kept (t' := s1.toks) hk, turn_enum l _ _ (Nat.ne_of_gt (Nat.lt_succ_self _)), ⟨⟨.none, by simpa using he⟩, hit⟩, fun b hb => ?_, q⟩
  have hle : s1.heap.objs.size ≤ b := by
    rcases List.mem_cons.mp hb with rfl | hb
    · exact Nat.le_succ _
    · have e1 : b = s1.heap.objs.size := by simpa using hb
      exact Nat.le_of_eq e1.symm
  exact I1.fpOk hle (I1.hok.fresh hle)
end
theorem for_enum {K : PySem.W.Frag} {a : Addr} {xs : List V} {g : TG} {tb : TS} {D : Ends} {σ : St} {H : Hp} (Pv : Nat → St → Hp → Prop) (h0 : Pv 0 σ H) (hl : ∀ i σ H, i ≤ xs.length → Pv i σ H → SqL K H a xs)
    (hs : ∀ i x σ H T, xs[i]? = some x → Pv i σ H → H T = none → g (.ref T) σ (upd H T (.tup [.int ((i : Nat) : Int), x])) fun σ2 H2 => tb { D with nx := Pv (i + 1), ct := Pv (i + 1), bk := D.nx } σ2 H2) (hd : ∀ σ H, Pv xs.length σ H → D.nx σ H) :
    ∃ W : Nat → Nat → St → Hp → Prop, (∃ m, W 0 m σ H) ∧ ∀ i m σ H, W i m σ H →
      ((Ite K a).stop i H ∧ D.nx σ H) ∨ ((Ite K a).go i H ∧ ∃ N : St → Hp → Prop, (∀ σ' H', N σ' H' → ∃ m', m' < m ∧ W (i + 1) m' σ' H') ∧ ∀ x H', (Ite K a).yld i H x H' → g x σ H' fun σ2 H2 => tb { D with nx := N, ct := N, bk := D.nx } σ2 H2) := by
  refine ⟨fun i m σ H => m = xs.length - i ∧ i ≤ xs.length ∧ Pv i σ H, ⟨xs.length, by simp, Nat.zero_le _, h0⟩, ?_⟩
  rintro i m σ H ⟨rfl, hi, p⟩
  have q := hl i σ H hi p
  by_cases hlt : i < xs.length
  · refine .inr ⟨⟨xs, xs[i], q, by simp [hlt]⟩, Pv (i + 1), fun σ' H' p' => ⟨xs.length - (i + 1), by omega, rfl, hlt, p'⟩, fun x H' y => ?_⟩
    obtain ⟨T, z, e1, e2, e3, y⟩ := y
    subst e1 e3
    exact hs i z σ _ T (y xs q) p e2
  · have e : i = xs.length := by omega
    subst e
    exact .inl ⟨⟨xs, q, Nat.le_refl _⟩, hd σ H p⟩
section
variable {X : Cx}
end
open Builtin.Int (intBits)
section
variable {X : Cx}
end
theorem small {n : Nat} (h : n ≤ 1000) : n ≤ sizeLine := Nat.le_of_lt (small1000 h)
theorem same_new {H : Hp} {p : Addr} (h : H p = none) (o : HO) : Same H (upd H p o) := fun b u q => by rw [upd_ne (ne_of_none q h)]; exact q
theorem Same.tup {K : PySem.W.Frag} {H H' : Hp} {a : Addr} {xs : List V} (e : Same H H') (h : SqT K H a xs) : SqT K H' a xs := by
  rcases h with (h | ⟨o, h⟩) | h
  · exact .inl (.inl (e _ _ h))
  · exact .inl (.inr ⟨o, e _ _ h⟩)
  · exact .inr h
end L2
namespace L2
open PySem PySem.Spec PyProof.Rows
theorem bo_int : bootBuiltins "int" = some (.type "int") := by decide +kernel
theorem bo_list : bootBuiltins "list" = some (.type "list") := by decide +kernel
theorem bo_abs : bootBuiltins "abs" = some (.builtin "abs") := by decide +kernel
theorem bo_len : bootBuiltins "len" = some (.builtin "len") := by decide +kernel
theorem bo_sum : bootBuiltins "sum" = some (.builtin "sum") := by decide +kernel
theorem bo_max : bootBuiltins "max" = some (.builtin "max") := by decide +kernel
theorem bo_min : bootBuiltins "min" = some (.builtin "min") := by decide +kernel
theorem bo_isinstance : bootBuiltins "isinstance" = some (.builtin "isinstance") := by decide +kernel
theorem cutV_take (xs : List V) (k : Nat) : cutV xs none (some (k : Int)) = xs.take k := by
  unfold cutV
  rw [HT.sIx_none, HT.sIx_nat, List.drop_zero, Nat.sub_zero]
  by_cases h : k ≤ xs.length
  · rw [Nat.min_eq_left h]
  · rw [Nat.min_eq_right (by omega), List.take_of_length_le (Nat.le_refl _), List.take_of_length_le (by omega)]
theorem get_int {ns : List Int} {i : Nat} {y : V} (h : (ns.map V.int)[i]? = some y) : ∃ z, y = .int z ∧ i < ns.length := by
  rw [List.getElem?_map] at h
  cases e : ns[i]? with
  | none => rw [e] at h; cases h
  | some z =>
    rw [e] at h
    exact ⟨z, (Option.some.inj h).symm, (List.getElem?_eq_some_iff.mp e).1⟩
end L2
namespace L2
open PySem PySem.Spec PyProof.Rows
end L2
namespace My
noncomputable def ab (x : Int) : Int := if x < 0 then -x else x
theorem ab_nonneg (x : Int) : 0 ≤ ab x := by unfold ab; split <;> omega
end My
namespace L2
open PySem PySem.Spec PyProof.Rows
noncomputable def clOf (scope : Scope) (env : Env) : List (Str × Addr) := (scope.names.filterMap fun p => if p.2 == .free then (env.cells.lookup p.1).map fun c => (p.1, c) else none).reverse
theorem lookup_mem {α : Type} {x : Str} {c : α} : ∀ {l : List (Str × α)}, l.lookup x = some c → (x, c) ∈ l
  | [], h => by simp at h
  | (y, d) :: r, h => by
    rw [List.lookup_cons] at h
    cases e : x == y with
    | true =>
      rw [e] at h
      have e1 : x = y := by simpa using e
      have e2 : d = c := by simpa using h
      rw [e1, e2]
      exact List.mem_cons_self
    | false =>
      rw [e] at h
      exact List.mem_cons_of_mem _ (lookup_mem h)
theorem lookup_some_of_mem {α : Type} {x : Str} : ∀ {l : List (Str × α)} {c : α}, (x, c) ∈ l → ∃ d, l.lookup x = some d
  | [], c, h => by simp at h
  | (y, d) :: r, c, h => by
    rw [List.lookup_cons]
    cases e : x == y with
    | true => exact ⟨d, rfl⟩
    | false =>
      rcases List.mem_cons.mp h with z | z
      · cases z
        simp at e
      · exact lookup_some_of_mem z
theorem clOf_sub {scope : Scope} {env : Env} {x : Str} {c : Addr} (h : (clOf scope env).lookup x = some c) : env.cells.lookup x = some c := by
  have m := List.mem_reverse.mp (lookup_mem h)
  obtain ⟨p, _, e⟩ := List.mem_filterMap.mp m
  split at e
  · obtain ⟨d, e1, e2⟩ := Option.map_eq_some_iff.mp e
    cases e2
    exact e1
  · cases e
theorem clOf_has {scope : Scope} {env : Env} {x : Str} {c : Addr} (h : scope.names.lookup x = some .free) (hc : env.cells.lookup x = some c) : (clOf scope env).lookup x = some c := by
  have m : (x, c) ∈ clOf scope env := List.mem_reverse.mpr (List.mem_filterMap.mpr ⟨(x, .free), lookup_mem h, by simp [hc]⟩)
  obtain ⟨d, e⟩ := lookup_some_of_mem m
  have := clOf_sub e
  rw [hc] at this
  cases this
  exact e
theorem relabel_lookup {scope : Scope} {env : Env} {x : Str} {k : NameKind} : ∀ {names : List (Str × NameKind)},
    (names.map fun (n, k) => if (k == NameKind.free && env.scope.kind == .function && env.kindOf n == some .cell) then (n, NameKind.cell) else (n, k)).lookup x = some k →
      names.lookup x = some k ∨ (k = .cell ∧ names.lookup x = some .free)
  | [], h => by simp at h
  | (n, j) :: r, h => by
    rw [List.map_cons] at h
    have ih := @relabel_lookup scope env x k r
    cases e : x == n with
    | true =>
      by_cases hc : (j == NameKind.free && env.scope.kind == .function && env.kindOf n == some .cell) = true
      · simp only [hc, if_true, List.lookup_cons, e] at h
        have hj : j = .free := by
          rw [Bool.and_eq_true, Bool.and_eq_true] at hc
          simpa using hc.1.1
        rw [List.lookup_cons, e]
        cases h
        exact .inr ⟨rfl, by rw [hj]⟩
      · simp only [hc, Bool.false_eq_true, if_false, List.lookup_cons, e] at h
        rw [List.lookup_cons, e]
        exact .inl h
    | false =>
      have h' : (r.map fun (n, k) => if (k == NameKind.free && env.scope.kind == .function && env.kindOf n == some .cell) then (n, NameKind.cell) else (n, k)).lookup x = some k := by
        by_cases hc : (j == NameKind.free && env.scope.kind == .function && env.kindOf n == some .cell) = true
        · simp only [hc, if_true, List.lookup_cons, e] at h
          exact h
        · simp only [hc, Bool.false_eq_true, if_false, List.lookup_cons, e] at h
          exact h
      rw [List.lookup_cons, e]
      exact ih h'
noncomputable def cxC (X : Cx) (Nc : List Str) (scope : Scope) (s₂ : Shared) (H₂ : Hp) (C : Addr) (fp : List Addr) : Cx where
  prog := X.prog
  w := X.w
  K := X.K
  mg := X.mg
  base := X.base
  A := X.A
  N := Nc
  s₀ := s₂
  H₀ := H₂
  env := compEnvC scope (clOf scope X.env) C X.env
  outer := X.stack
  stack := X.stack
  ex := fp
  fn := fun _ => false
  calm := X.calm
  pn := []
  xe := fun _ _ => False
noncomputable def stC (ixs : List (Option Nat)) (σ : St) : St := ixs.map fun o => match o with | none => none | some j => (σ[j]?).join
noncomputable def ixOk (N Nc : List Str) (ixs : List (Option Nat)) (osc sc : List (Str × NameKind)) : Bool :=
  ixs.length == Nc.length && (List.range ixs.length).all fun i => match ixs[i]? with
    | some (some j) => (match Nc[i]?, N[j]? with | some x, some y => x == y && osc.lookup x == some .cell && sc.lookup x == some .free | _, _ => false)
    | _ => true
noncomputable def scOk (osc sc : List (Str × NameKind)) : Bool := sc.all fun p => p.2 != .cell && (p.2 != .local || sc.lookup p.1 == some .local) && (p.2 != .free || osc.lookup p.1 == some .cell)
theorem ixOk_at {N Nc : List Str} {ixs : List (Option Nat)} {osc sc : List (Str × NameKind)} (h : ixOk N Nc ixs osc sc = true) {i j : Nat} (e : ixs[i]? = some (some j)) :
    ∃ x, Nc[i]? = some x ∧ N[j]? = some x ∧ osc.lookup x = some .cell ∧ sc.lookup x = some .free := by
  unfold ixOk at h
  rw [Bool.and_eq_true] at h
  have hi : i < ixs.length := (List.getElem?_eq_some_iff.mp e).1
  have q := List.all_eq_true.mp h.2 i (List.mem_range.mpr hi)
  rw [e] at q
  dsimp only at q
  cases e1 : Nc[i]? with
  | none => rw [e1] at q; simp at q
  | some x =>
    rw [e1] at q
    cases e2 : N[j]? with
    | none => rw [e2] at q; simp at q
    | some y =>
      rw [e2] at q
      dsimp only at q
      simp only [Bool.and_eq_true, beq_iff_eq] at q
      obtain ⟨⟨q1, q2⟩, q3⟩ := q
      subst q1
      exact ⟨x, rfl, rfl, q2, q3⟩
theorem ixOk_len {N Nc : List Str} {ixs : List (Option Nat)} {osc sc : List (Str × NameKind)} (h : ixOk N Nc ixs osc sc = true) : ixs.length = Nc.length := by
  unfold ixOk at h
  rw [Bool.and_eq_true] at h
  simpa using h.1
noncomputable def PTs (X : Cx) (ifs : List Expr) (t : TT) : Prop :=
  ∀ (pins : List (Addr × Obj)) (s : Shared) (σ : St) (H : Hp) (Q : Bool → Hp → Prop), Inv X pins σ H s → t σ H Q →
    wpAny (model X.prog X.w) X.A (forIn ifs true fun c r => if r = true then do let ok ← isTrue c X.env (eval c X.env); pure (ForInStep.yield ok) else pure (ForInStep.yield r)) (TP X pins σ Q) X.xe s
theorem pts_nil {X : Cx} : PTs X [] (fun _ H Q => Q true H) := fun _ _ _ H _ I h => wpAny_tests_nil ⟨H, I, h⟩
section
variable {prog : Program} {w : World} {A : Around} {R : Result → Shared → Prop} {s : Shared}
theorem compLoop_any {elt target iter : Expr} {ifs : List Expr} {scope : Scope} {pos : Pos} {it acc : Value} {env : Env} (I : Nat → Shared → Prop)
    (turn : ∀ n s, I n s → wpAny (model prog w) A (pyNext it) (fun r s₁ => match r with
      | none => R (.ok .next) s₁
      | some v => wpAny (model prog w) A (letOwnedTupleGo target it v) (fun _ s₁' => wpAny (model prog w) A (assign target env v) (fun _ s₂ =>
          wpAny (model prog w) A (forIn ifs true fun c r => if r = true then do let ok ← isTrue c env (eval c env); pure (ForInStep.yield ok) else pure (ForInStep.yield r)) (fun ok s₃ =>
            if ok = true then wpAny (model prog w) A (eval elt env) (fun x s₄ =>
              wpAny (model prog w) A (call (.builtin "list.append") [acc, x]) (fun _ s₅ => ∃ m, m < n ∧ I m s₅) (notedBy (model prog w) A env fun e s' => R (.error e) s') s₄) (notedBy (model prog w) A env fun e s' => R (.error e) s') s₃
            else ∃ m, m < n ∧ I m s₃) (notedBy (model prog w) A env fun e s' => R (.error e) s') s₂)
          (notedBy (model prog w) A env fun e s' => R (.error e) s') s₁') (notedBy (model prog w) A env fun e s' => R (.error e) s') s₁) (notedBy (model prog w) A env fun e s' => R (.error e) s') s)
    (n : Nat) (h : I n s) : codeAny (model prog w) A (.compLoop (.ListComp elt [⟨target, iter, ifs, 0⟩] scope pos) 0 it acc env) R s := by
  refine codeAny_loop rfl I (fun n s hI => ?_) n h
  show wpAny _ A ((compTurn (.ListComp elt [⟨target, iter, ifs, 0⟩] scope pos) 0 it acc env).onRaise (fun x => do noteFrame x env; theTreesLotGoes x)) _ _ s
  refine wpAny_noted ?_
  rw [compTurn_list]
  refine wpAny_bind (wpAny_standAt (wpAny_bind (wpAny_mono (turn n s hI) (fun r s₁ h₁ => ?_) fun _ _ h' => h')))
  cases r with
  | none => exact wpAny_pure h₁
  | some v =>
    refine wpAny_bind (wpAny_mono h₁ (fun _ s₁' h₁' => ?_) fun _ _ h' => h')
    refine wpAny_bind (wpAny_mono h₁' (fun _ s₂ h₂ => wpAny_bind (wpAny_mono h₂ (fun ok s₃ h₃ => ?_) fun _ _ h' => h')) fun _ _ h' => h')
    cases ok with
    | false => exact wpAny_pure ⟨rfl, h₃⟩
    | true =>
      exact wpAny_bind (wpAny_bind (wpAny_mono h₃ (fun x s₄ h₄ => wpAny_bind (wpAny_mono h₄ (fun _ s₅ h₅ => wpAny_pure (wpAny_pure ⟨rfl, h₅⟩)) fun _ _ h' => h')) fun _ _ h' => h'))
end
noncomputable def CompW (J : It) (g : TG) (tt : TT) (te : TE) (σc : St) (D : Addr) (H1 : Hp) (Q : Hp → Prop) : Prop :=
  ∃ W : Nat → Nat → List V → St → Hp → Prop, (∃ m, W 0 m [] σc (upd H1 D (.lst []))) ∧ ∀ i m ys σ H, W i m ys σ H → ys.length < sizeLine ∧
    ((J.stop i H ∧ Q H) ∨ (J.go i H ∧ ∀ x H', J.yld i H x H' → g x σ H' fun σ2 H2 => tt σ2 H2 fun b H3 =>
      if b = true then te σ2 H3 fun v H4 => H4 D = some (.lst ys) ∧ ∃ m', m' < m ∧ W (i + 1) m' (ys ++ [v]) σ2 (upd H4 D (.lst (ys ++ [v])))
      else ∃ m', m' < m ∧ W (i + 1) m' ys σ2 H3))
section
variable {X : Cx} {pins : List (Addr × Obj)} {σ : St} {H₂ : Hp} {s₂ : Shared}
theorem comp_core {elt iter tg : Expr} {ifs : List Expr} {scope : Scope} {pos : Pos} {g : TG} {tt : TT} {te : TE} {J : It} {fp : List Addr} {it : Addr} {tn : Nat → Heap → Prop} {Nc : List Str} {ixs : List (Option Nat)} {E : Value → Shared → Prop}
    {RR : Value → Addr → Result → Shared → Prop} {QD : Addr → Hp → Prop} (hc : X.calm = true) (hkind : scope.kind = .function) (hix : ixOk X.N Nc ixs X.env.scope.names scope.names = true) (hsc : scOk X.env.scope.names scope.names = true)
    (hg : ∀ s₂ H₂ C fp, PG (cxC X Nc scope s₂ H₂ C fp) tg g) (ht : ∀ s₂ H₂ C fp, PTs (cxC X Nc scope s₂ H₂ C fp) ifs tt) (he : ∀ s₂ H₂ C fp, PE (cxC X Nc scope s₂ H₂ C fp) elt te)
    (I : Inv X pins σ H₂ s₂) (T : Turn X.prog X.w X.K tg J fp it tn) (st : tn 0 s₂.heap) (hf : ∀ b ∈ fp, FpOk X pins H₂ b) (hW : ∀ D, H₂ D = none → CompW J g tt te (stC ixs σ) D H₂ (QD D))
    (hRR : ∀ D C s' H' m, Inv X pins σ H' s' → s'.heap.Ns C m → FpOk X pins H' C → D ≠ C → QD D H' → RR (.ref D) C (.ok .next) s') :
    wpAny (model X.prog X.w) X.A (newList []) (fun acc s₃ => wpAny (model X.prog X.w) X.A (newFunctionEnv scope X.env.globals (clOf scope X.env) [] X.env.qual none .none (some X.env)) (fun cenv s₄ =>
      codeAny (model X.prog X.w) X.A (.compStart (.ListComp elt [⟨tg, iter, ifs, 0⟩] scope pos) 0 (.ref it) acc { cenv with scope := relabel scope X.env }) (RR acc cenv.locals) s₄) E s₃) E s₂ := by
  have scA : ∀ p ∈ scope.names, (p.2 ≠ .cell) ∧ (p.2 = .free → X.env.scope.names.lookup p.1 = some .cell) := fun p hp => by
    have q := List.all_eq_true.mp hsc p hp
    simp only [Bool.and_eq_true, Bool.or_eq_true, bne_iff_ne, beq_iff_eq, ne_eq] at q
    exact ⟨q.1.1, fun z => q.2.resolve_left fun w => w z⟩
  refine wpAny_newObj_type (wpAny_newFunctionEnv (fun p hp => (scA p hp).1) (by intro y hy; simp at hy) (fun h₁ hns₁ hsb₁ => ?_) hkind)
  dsimp only at hns₁ hsb₁ ⊢
  generalize hH2 : s₂.heap.push { cls := .type "list", dict := none, data := .seq ([] : List Value).toArray } = G2 at hns₁ hsb₁ ⊢
  have hC : G2.objs.size = s₂.heap.objs.size + 1 := by rw [← hH2, Heap.size_push]
  have hDC : s₂.heap.objs.size ≠ G2.objs.size := by rw [hC]; exact Nat.ne_of_lt (Nat.lt_succ_self _)
  have hCle : s₂.heap.objs.size ≤ G2.objs.size := by rw [hC]; exact Nat.le_succ _
  have old : ∀ b o, s₂.heap.get? b = some o → h₁.get? b = some o := fun b o e =>
    hsb₁.extBut b o (by rw [hC]; exact Nat.ne_of_lt (Nat.lt_succ_of_lt (Heap.lt_size e))) (Heap.get?_push_of_some _ (hH2 ▸ Heap.get?_push_of_some _ e))
  have hnew : h₁.get? s₂.heap.objs.size = some { cls := .type "list", data := .seq ([] : List Value).toArray } :=
    hsb₁.extBut _ _ hDC (Heap.get?_push_of_some _ (hH2 ▸ Heap.get?_push_size _ rfl))
  have fD : H₂ s₂.heap.objs.size = none := I.hok.fresh (Nat.le_refl _)
  have fC : H₂ G2.objs.size = none := I.hok.fresh hCle
  have clt : ∀ x c, X.env.cells.lookup x = some c → c < s₂.heap.objs.size := fun x c e => by
    obtain ⟨v, q⟩ := I.cell x c e
    exact q.lt
  have flt : ∀ b ∈ fp, b < s₂.heap.objs.size := fun b hb => by
    obtain ⟨o, q, _⟩ := T.obj 0 _ st b hb
    exact Heap.lt_size q
  -- the block's context
  have okY : (cxC X Nc scope s₂ H₂ G2.objs.size fp).Ok := by
    refine ⟨I.ok.mod, hkind, I.ok.glob, I.ok.blt, hCle, fun x y c e1 e2 => I.ok.inj x y c (clOf_sub e1) (clOf_sub e2), fun x h => ?_, fun x c h _ => (nomatch h), I.ok.hd, I.ok.frames, .inl rfl, fun b hb => ⟨?_, fun x c e => (hf b hb).2.2.2.2.1 x c (clOf_sub e)⟩,
      fun b o e => I.bs b o e, Nat.le_trans I.ok.bsz I.sz, fun b o e hb => ?_, fun b hb hm => ?_, I.stack, I.stkFree⟩
    · have h' : scope.names.lookup x = some .free := by
        rcases h with h | h
        · rcases relabel_lookup (scope := scope) (env := X.env) (x := x) h with z | z
          · exact absurd rfl ((scA (x, .cell) (lookup_mem z)).1)
          · exact z.2
        · rcases relabel_lookup (scope := scope) (env := X.env) (x := x) h with z | z
          · exact z
          · cases z.1
      obtain ⟨c, e⟩ := I.ok.has x (.inl ((scA (x, .free) (lookup_mem h')).2 rfl))
      exact ⟨c, clOf_has h' e⟩
    · exact Nat.ne_of_lt (Nat.lt_of_lt_of_le (flt b hb) hCle)
    · rcases (hf b hb).2.2.2.1 with z | z
      · exact I.ok.noex b o e z
      · exact absurd (Nat.lt_of_lt_of_le (Heap.lt_size e) (Nat.le_trans I.ok.bsz z)) (Nat.lt_irrefl _)
    · rcases List.mem_cons.mp (I.stkSub b hm) with z | z
      · exact (hf b hb).2.1 z
      · exact (hf b hb).2.2.1 z
  have IY : Inv (cxC X Nc scope s₂ H₂ G2.objs.size fp) [] (stC ixs σ) (upd H₂ s₂.heap.objs.size (.lst [])) { s₂ with heap := h₁, toks := s₂.toks + ([] : List (Str × Value)).length } := by
    refine ⟨okY, rfl, I.bare, Un.laid old (Nat.le_refl _) fD, ⟨_, hns₁, fun i x v e1 e2 _ => ?_⟩, fun x c e => ?_, ?_, fun x c e => ?_, fun p hp => (nomatch hp), I.hok.laid old (Nat.le_refl _) ⟨Nat.zero_le _, [], 0, .nil, hnew⟩, ?_⟩
    · -- a name of the block that has a value is one of the def around
      obtain ⟨j, ej, ev⟩ : ∃ j, ixs[i]? = some (some j) ∧ σ[j]? = some (some v) := by
        unfold stC at e2
        rw [List.getElem?_map] at e2
        cases q : ixs[i]? with
        | none => rw [q] at e2; cases e2
        | some o =>
          rw [q] at e2
          cases o with
          | none => cases e2
          | some j =>
            have e3 : (σ[j]?).join = some v := Option.some.inj e2
            refine ⟨j, rfl, ?_⟩
            cases q2 : σ[j]? with
            | none => rw [q2] at e3; cases e3
            | some z =>
              rw [q2] at e3
              have e4 : z = some v := e3
              rw [e4]
      obtain ⟨y, k1, k2, k3, k4⟩ := ixOk_at hix ej
      have ey : x = y := Option.some.inj (e1.symm.trans k1)
      subst ey
      obtain ⟨mX, hnX, hlX⟩ := I.loc
      obtain ⟨u, ru, lu⟩ := hlX j x v k2 ev (.inr (.inl k3))
      refine ⟨u, ru, ?_⟩
      rcases lu with ⟨z, _⟩ | ⟨_, c, ec, hcell⟩
      · have z' : X.env.scope.names.lookup x = some .local := z
        rw [k3] at z'
        cases z'
      · have kk : Env.kindOf (compEnvC scope (clOf scope X.env) G2.objs.size X.env) x = some .cell ∨ Env.kindOf (compEnvC scope (clOf scope X.env) G2.objs.size X.env) x = some .free := by
          have : ∀ names : List (Str × NameKind), names.lookup x = some .free →
              (names.map fun (n, k) => if (k == NameKind.free && X.env.scope.kind == .function && X.env.kindOf n == some .cell) then (n, NameKind.cell) else (n, k)).lookup x = some .cell ∨
              (names.map fun (n, k) => if (k == NameKind.free && X.env.scope.kind == .function && X.env.kindOf n == some .cell) then (n, NameKind.cell) else (n, k)).lookup x = some .free := by
            intro names
            induction names with
            | nil => intro h; simp at h
            | cons p r ih =>
              obtain ⟨n, k⟩ := p
              intro h
              rw [List.lookup_cons] at h
              rw [List.map_cons]
              cases e : x == n with
              | true =>
                rw [e] at h
                have hk : k = .free := by simpa using h
                by_cases hcc : (k == NameKind.free && X.env.scope.kind == .function && X.env.kindOf n == some .cell) = true
                · simp only [hcc, if_true, List.lookup_cons, e]; exact .inl trivial
                · simp only [hcc, Bool.false_eq_true, if_false, List.lookup_cons, e]; exact .inr (by rw [hk])
              | false =>
                rw [e] at h
                have q := ih h
                by_cases hcc : (k == NameKind.free && X.env.scope.kind == .function && X.env.kindOf n == some .cell) = true
                · simp only [hcc, if_true, List.lookup_cons, e]; exact q
                · simp only [hcc, Bool.false_eq_true, if_false, List.lookup_cons, e]; exact q
          exact this scope.names k4
        obtain ⟨oc, ho, hd⟩ := hcell
        exact .inr ⟨kk, c, clOf_has k4 ec, ⟨oc, old c oc ho, hd⟩⟩
    · obtain ⟨v, oc, ho, hd⟩ := I.cell x c (clOf_sub e)
      exact ⟨v, oc, old c oc ho, hd⟩
    · exact (upd_ne (Ne.symm hDC)).trans fC
    · exact (upd_ne (Nat.ne_of_lt (clt x c (clOf_sub e)))).trans (I.freeC x c (clOf_sub e))
    · show (stC ixs σ).length = Nc.length
      unfold stC
      rw [List.length_map]
      exact ixOk_len hix
  have st₁ : tn 0 h₁ := T.keep 0 _ _ st fun b _ o e => old b o e
  obtain ⟨W, ⟨m0, w0⟩, turn⟩ := hW _ fD
  have stat : ∀ {H' : Hp} {pn : List (Addr × Obj)}, (∀ b ∈ fp, H' b = none) → (∀ p ∈ pn, p.1 ∉ fp) → ∀ b ∈ fp, FpOk (cxC X Nc scope s₂ H₂ G2.objs.size fp) pn H' b := fun {H' pn} hn hp b hb =>
    ⟨hn b hb, (okY.exf b hb).1, okY.exfs b hb, .inl hb, fun x c e z => (okY.exf b hb).2 x c e z, fun p hp' z => hp p (by simpa [cxC] using hp') (by rw [z]; exact hb)⟩
  have loop : ∀ s₃ : Shared, s₃ = { s₂ with heap := h₁, toks := s₂.toks + ([] : List (Str × Value)).length } →
      codeAny (model X.prog X.w) X.A (.compLoop (.ListComp elt [⟨tg, iter, ifs, 0⟩] scope pos) 0 (.ref it) (.ref s₂.heap.objs.size) (compEnvC scope (clOf scope X.env) G2.objs.size X.env)) (RR (.ref s₂.heap.objs.size) G2.objs.size) s₃ := by
    rintro s₃ rfl
    refine compLoop_any (fun n s' => ∃ i ys σ' H', Inv (cxC X Nc scope s₂ H₂ G2.objs.size fp) [] σ' H' s' ∧ tn i s'.heap ∧ (∀ b ∈ fp, H' b = none) ∧ W i n ys σ' H') ?_ m0
      ⟨0, [], _, _, IY, st₁, fun b hb => (upd_ne (Nat.ne_of_lt (flt b hb))).trans (hf b hb).1, w0⟩
    rintro n s3 ⟨i, ys, σ3, H3, I3, st3, fr3, w3⟩
    obtain ⟨hz, alt⟩ := turn i n ys σ3 H3 w3
    rcases alt with ⟨stop, qn⟩ | ⟨go, step⟩
    · refine thn (T.done (cxC X Nc scope s₂ H₂ G2.objs.size fp) rfl rfl rfl hc i [] s3 σ3 H3 _ I3 (stat fr3 (fun _ z => nomatch z)) st3 stop) fun r s4 hq8 => ?_
      obtain ⟨hr, I4⟩ := hq8
      subst hr
      have IX : Inv X pins σ H3 s4 := I.call' (ch := fp) I4.os I4.base I4.hok I4.bare fun b hb => ⟨(hf b hb).2.2.2.1, (hf b hb).2.1, (hf b hb).2.2.2.2.1, (hf b hb).2.2.2.2.2⟩
      obtain ⟨m4, hn4, _⟩ := I4.loc
      exact hRR _ _ s4 H3 m4 IX hn4 (I.fpOk hCle I4.free) hDC qn
    · refine thn (T.item (cxC X Nc scope s₂ H₂ G2.objs.size fp) rfl rfl rfl hc i [] s3 σ3 H3 _ I3 (stat fr3 (fun _ z => nomatch z)) st3 go) fun r s4 hq8 => ?_
      obtain ⟨u, hr, h4⟩ := hq8
      subst hr
      refine thn h4 fun _ s5 hq8 => ?_
      obtain ⟨x, H5, I5, r5, y5, st5, fr5⟩ := hq8
      have I5' := I5.pinned (stat fr5 (fun _ z => nomatch z)) (T.obj _ _ st5)
      refine wpAny_mono (hg s₂ H₂ G2.objs.size fp _ s5 _ H5 x u _ I5' r5 (step x H5 y5)) (fun _ s6 hq9 => GP.out hq9 fun σ6 H6 I6 q6 => ?_) fun _ _ z => (show False from z).elim
      refine wpAny_mono (ht s₂ H₂ G2.objs.size fp _ s6 σ6 H6 _ I6 q6) (fun ok s7 hq9 => ex3 hq9 fun H7 I7 q7 => ?_) fun _ _ z => (show False from z).elim
      have tnAt : ∀ {σ8 : St} {H8 : Hp} {s8 : Shared}, Inv (cxC X Nc scope s₂ H₂ G2.objs.size fp) ([] ++ pinsAt fp s5.heap) σ8 H8 s8 → tn (i + 1) s8.heap ∧ ∀ b ∈ fp, H8 b = none := fun {σ8 H8 s8} I8 =>
        ⟨T.keep _ _ _ st5 fun b hb o e => (I8.pin (b, o) (List.mem_append_right _ (List.mem_append_right _ (mem_pinsAt hb e)))).1, fun b hb => by
          obtain ⟨o, e, d⟩ := T.obj _ _ st5 b hb
          exact (I8.pin (b, o) (List.mem_append_right _ (List.mem_append_right _ (mem_pinsAt hb e)))).2.1⟩
      cases ok with
      | false =>
        rw [if_neg Bool.false_ne_true] at q7 ⊢
        obtain ⟨m', hm, w7⟩ := q7
        exact ⟨m', hm, i + 1, ys, σ6, H7, I7.unpinned, (tnAt I7).1, (tnAt I7).2, w7⟩
      | true =>
        rw [if_pos rfl] at q7 ⊢
        refine wpAny_mono (he s₂ H₂ G2.objs.size fp _ s7 σ6 H7 _ I7 q7) (fun u8 s8 hq8 => ?_) fun _ _ z => (show False from z).elim
        obtain ⟨v8, H8, I8, r8, hD8, m', hm, w8⟩ := hq8
        refine wpAny_mono (mt_append (X := cxC X Nc scope s₂ H₂ G2.objs.size fp) _ s8 σ6 H8 (.ref s₂.heap.objs.size) [v8] (.ref s₂.heap.objs.size) [u8] (fun _ H' => H' = upd H8 s₂.heap.objs.size (.lst (ys ++ [v8]))) I8 rfl (.cons r8 .nil) ⟨_, ys, v8, rfl, rfl, hD8, hz, rfl⟩)
          (fun _ s9 ⟨_, H9, I9, _, e9⟩ => ?_) fun _ _ z => (show False from z).elim
        subst e9
        exact ⟨m', hm, i + 1, ys ++ [v8], σ6, _, I9.unpinned, (tnAt I9).1, (tnAt I9).2, w8⟩
  exact codeAny_compStart_list (loop _ rfl) (T.self X.A 0 _ _ _ st₁ (loop _ rfl))
noncomputable def tComp (ixs : List (Option Nat)) (wi : TI) (g : TG) (tt : TT) (te : TE) : TE := fun σ H Q => wi σ H fun J H1 => ∀ D, H1 D = none → CompW J g tt te (stC ixs σ) D H1 fun H' => Q (.ref D) H'
theorem scOk_names {osc sc : List (Str × NameKind)} (h : scOk osc sc = true) : ∀ x ∈ sc, x.2 = .local → sc.lookup x.1 = some .local := fun p hp z => by
  have q := List.all_eq_true.mp h p hp
  simp only [Bool.and_eq_true, Bool.or_eq_true, bne_iff_ne, beq_iff_eq, ne_eq] at q
  exact q.1.2.resolve_left fun w => w z
theorem pe_comp {elt iter tg : Expr} {ifs : List Expr} {scope : Scope} {pos : Pos} {wi : TI} {g : TG} {tt : TT} {te : TE} (Nc : List Str) (ixs : List (Option Nat)) (hc : X.calm = true) (hi : PI X tg iter wi)
    (hg : ∀ s₂ H₂ C fp, PG (cxC X Nc scope s₂ H₂ C fp) tg g) (ht : ∀ s₂ H₂ C fp, PTs (cxC X Nc scope s₂ H₂ C fp) ifs tt) (he : ∀ s₂ H₂ C fp, PE (cxC X Nc scope s₂ H₂ C fp) elt te)
    (hix : ixOk X.N Nc ixs X.env.scope.names scope.names = true) (hsc : scOk X.env.scope.names scope.names = true) (hkind : scope.kind = .function := by rfl) (hclos : closureFor scope X.env = pure (clOf scope X.env) := by rfl)
    (hs : ∀ x, foldedSetIterable iter X.env x = pure x := by intro _; rfl) : PE X (.ListComp elt [⟨tg, iter, ifs, 0⟩] scope pos) (tComp ixs wi g tt te) := by
  intro pins s σ H Q I h
  rw [eval_ListComp]
  refine wpAny_comprehension_free (use := none) rfl hs hclos hkind (scOk_names hsc) (thn (hi pins s σ H _ I h) fun xv s₁ h₁ => thn h₁ fun itv s₂ h₂ => ?_)
  obtain ⟨it, fp, tn, J, H2, rfl, I2, T, st2, f2, hW⟩ := h₂
  refine comp_core (QD := fun D H' => Q (.ref D) H') (RR := fun acc C => compPost (model X.prog X.w) X.A X.xe none (EP X pins σ Q) acc C) hc hkind hix hsc hg ht he I2 T st2 f2 hW ?_
  intro D C s' H' m I' hn fC hDC q
  exact ⟨m, hn, fun h' hs' => ⟨.ref D, H', I'.turned (t' := s'.toks) (fun b o hb e => hs'.extBut b o hb e) fC.1 fC.2.1 fC.2.2.2.1 fC.2.2.2.2.1 fC.2.2.2.2.2, rfl, q⟩⟩
theorem ps_setComp {elt iter tg : Expr} {ifs : List Expr} {scope : Scope} {pos spos py : Pos} {wi : TI} {g : TG} {tt : TT} {te : TE} {i : Nat} {y : Str} (Nc : List Str) (ixs : List (Option Nat)) (hc : X.calm = true) (hN : X.N.Nodup) (hi' : X.N[i]? = some y) (hy : Loc X.env.scope y) (hi : PI X tg iter wi)
    (hg : ∀ s₂ H₂ C fp, PG (cxC X Nc scope s₂ H₂ C fp) tg g) (ht : ∀ s₂ H₂ C fp, PTs (cxC X Nc scope s₂ H₂ C fp) ifs tt) (he : ∀ s₂ H₂ C fp, PE (cxC X Nc scope s₂ H₂ C fp) elt te)
    (hix : ixOk X.N Nc ixs X.env.scope.names scope.names = true) (hsc : scOk X.env.scope.names scope.names = true) (hkind : scope.kind = .function := by rfl) (hclos : closureFor scope X.env = pure (clOf scope X.env) := by rfl)
    (hs : ∀ x, foldedSetIterable iter X.env x = pure x := by intro _; rfl) (hsw : swapsWith (.ListComp elt [⟨tg, iter, ifs, 0⟩] scope pos) (some (.Name y py)) spos.line X.env = pure true := by rfl)
    (hfn : X.fn y = true ∨ X.env.scope.names.lookup y = some .local := by first | exact .inl rfl | exact .inr rfl | assumption) :
    PS X (.Assign [.Name y py] (.ListComp elt [⟨tg, iter, ifs, 0⟩] scope pos) spos) (tAsg (tComp ixs wi g tt te) (gName i)) := by
  intro pins s σ H D I h
  rw [exec_Assign_Name_used _ _ _ _ hsw]
  refine wpAny_bind (wpAny_standAt (wpAny_bind ?_))
  show wpAny _ _ (do let _ ← comprehension (.ListComp elt [⟨tg, iter, ifs, 0⟩] scope pos) scope X.env _ (newList []) false (eval iter X.env) (some (assign (.Name y py) X.env))) _ _ s
  refine wpAny_bind (wpAny_mono (wpAny_comprehension_free (use := some (assign (.Name y py) X.env)) (Q := fun _ s' => SP X pins D .next s') rfl hs hclos hkind (scOk_names hsc) (thn (hi pins s σ H _ I h) fun xv s₁ h₁ => thn h₁ fun itv s₂ h₂ => ?_))
    (fun _ s' hq => wpAny_pure (wpAny_pure hq)) fun _ _ e => e)
  obtain ⟨it, fp, tn, J, H2, rfl, I2, T, st2, f2, hW⟩ := h₂
  refine comp_core (QD := fun Dn H' => D.nx (σ.set i (some (.ref Dn))) H') (RR := fun acc C => compPost (model X.prog X.w) X.A X.xe (some (assign (.Name y py) X.env)) (fun _ s' => SP X pins D .next s') acc C) hc hkind hix hsc hg ht he I2 T st2 f2 hW ?_
  intro Dn C s' H' m I' hn fC hDC q
  show wpAny _ _ (assign (.Name y py) X.env (.ref Dn)) _ _ _
  refine wpAny_assign_Name (store_ok2 I' hN hi' hy (v := .ref Dn) rfl (fun s2 I2 hq8 => ?_) hfn)
  obtain ⟨a, sb, ha⟩ := hq8
  have hCa : C ≠ a := by
    rcases ha with z | z
    · rw [z]; exact fC.2.1
    · exact fun e => fC.2.2.2.2.1 y a z e.symm
  refine ⟨m, hn.sameBut sb hCa, fun h' hs' => ?_⟩
  exact ⟨_, H', I2.turned (t' := s2.toks) (fun b o hb e => hs'.extBut b o hb e) fC.1 fC.2.1 fC.2.2.2.1 fC.2.2.2.2.1 fC.2.2.2.2.2, q⟩
end
end L2
namespace L2
open PySem
noncomputable def rAbs : List V → Hp → VK → Prop := fun xs H Q => ∃ i, xs = [.int i] ∧ Q (.int (if i < 0 then -i else i)) H
theorem call_absR {X : Cx} : CallR X (.builtin "abs") rAbs := call_abs
noncomputable def rMax2 : List V → Hp → VK → Prop := fun xs H Q => ∃ i j, xs = [.int i, .int j] ∧ Q (.int (if j > i then j else i)) H
theorem call_max2R {X : Cx} (hc : X.calm = true) : CallR X (.builtin "max") rMax2 := call_max2 hc
noncomputable def rMin2 : List V → Hp → VK → Prop := fun xs H Q => ∃ i j, xs = [.int i, .int j] ∧ Q (.int (if j < i then j else i)) H
theorem call_min2R {X : Cx} (hc : X.calm = true) : CallR X (.builtin "min") rMin2 := call_min2 hc
noncomputable def rLenSeq (K : PySem.W.Frag) : List V → Hp → VK → Prop := fun xs H Q => ∃ p ys, xs = [.ref p] ∧ (SqL K H p ys ∨ SqT K H p ys) ∧ Q (.int ys.length) H
theorem call_lenR {X : Cx} : CallR X (.builtin "len") (rLenSeq X.K) := call_len_seq
noncomputable def rListOf (K : PySem.W.Frag) : List V → Hp → VK → Prop := fun xs H Q => ∃ p ys, xs = [.ref p] ∧ (SqL K H p ys ∨ SqT K H p ys) ∧ ∀ l, H l = none → Q (.ref l) (upd H l (.lst ys))
theorem call_listR {X : Cx} : CallR X (.type "list") (rListOf X.K) := call_list_of
section
variable {t u : TS} {D : Ends} {σ : St} {H : Hp} {te ta tb : TE} {tt : TT} {x y : V} {Q : VK}
theorem tSeq.join (Φ : St → Hp → Prop) (h1 : ∀ R : St → Hp → Prop, (∀ σ' H', Φ σ' H' → R σ' H') → t { D with nx := R } σ H) (h2 : ∀ σ' H', Φ σ' H' → u D σ' H') : tSeq t u D σ H := h1 (u D) h2
theorem vc_seq (h : t { D with nx := u D } σ H) : tSeq t u D σ H := h
theorem vc_next (h : D.nx σ H) : tNext D σ H := h
theorem vc_asg {g : TG} (h : te σ H fun x H1 => g x σ H1 D.nx) : tAsg te g D σ H := h
theorem vc_name {i : Nat} {R : St → Hp → Prop} (h : R (σ.set i (some x)) H) : gName i x σ H R := h
theorem vc_var {i : Nat} (e : σ[i]? = some (some x)) (h : Q x H) : tVar i σ H Q := ⟨x, e, h⟩
theorem vc_c (h : Q x H) : tC x σ H Q := h
theorem vc_op {r : R2} (h : ta σ H fun x H1 => tb σ H1 fun y H2 => r x y H2 Q) : tOp r ta tb σ H Q := h
theorem vc_un {r : V → Hp → VK → Prop} (h : ta σ H fun x H1 => r x H1 Q) : tUn r ta σ H Q := h
theorem vc_rI {C : Int → Int → Prop} {g : Int → Int → V} {i j : Int} (c : C i j) (h : Q (g i j) H) : rI C g (.int i) (.int j) H Q := ⟨i, j, rfl, rfl, c, h⟩
theorem vc_rI0 {g : Int → Int → V} {i j : Int} (h : Q (g i j) H) : rI0 g (.int i) (.int j) H Q := ⟨i, j, rfl, rfl, h⟩
theorem vc_rU {g : Int → V} {i : Int} (h : Q (g i) H) : rU g (.int i) H Q := ⟨i, rfl, h⟩
theorem vc_eq (c : scal x y = true) (h : Q (.bl (decide (x = y))) H) : rEq x y H Q := ⟨c, h⟩
theorem vc_ne (c : scal x y = true) (h : Q (.bl (!decide (x = y))) H) : rNe x y H Q := ⟨c, h⟩
theorem vc_test {Q : Bool → Hp → Prop} (h : te σ H fun x H' => ∃ k, x = .bl k ∧ Q k H') : tTest te σ H Q := h
theorem vc_tB {Q : Bool → Hp → Prop} (h : te σ H fun x H' => ∃ k, x = .bl k ∧ Q k H') : tB te σ H Q := h
theorem vc_ex {b : Bool} {Q : Bool → Prop} (h : Q b) : ∃ k, V.bl b = .bl k ∧ Q k := ⟨b, rfl, h⟩
theorem vc_not {Q : Bool → Hp → Prop} (h : tt σ H fun c H1 => Q (!c) H1) : tNot tt σ H Q := h
theorem vc_and {t1 t2 : TT} {Q : Bool → Hp → Prop} (h : t1 σ H fun c H1 => if c = true then t2 σ H1 Q else Q false H1) : tAnd t1 t2 σ H Q := h
theorem vc_or {t1 t2 : TT} {Q : Bool → Hp → Prop} (h : t1 σ H fun c H1 => if c = true then Q true H1 else t2 σ H1 Q) : tOr t1 t2 σ H Q := h
theorem vc_orV (h : ta σ H fun x H1 => ∃ c, x = .bl c ∧ if c = true then Q (.bl true) H1 else tb σ H1 Q) : tOrV ta tb σ H Q := h
theorem vc_if {c : TT} (h : c σ H fun b H1 => if b = true then t D σ H1 else u D σ H1) : tIfS c t u D σ H := h
theorem vc_ret (h : te σ H D.rt) : tRet te D σ H := h
theorem vc_drop (h : te σ H fun _ H1 => D.nx σ H1) : tDrop te D σ H := h
theorem vc_nil {Q : List V → Hp → Prop} (h : Q [] H) : tNil σ H Q := h
theorem vc_cons {tr : TA} {Q : List V → Hp → Prop} (h : te σ H fun x H1 => tr σ H1 fun xs H2 => Q (x :: xs) H2) : tCons te tr σ H Q := h
theorem vc_tup {ta : TA} (h : ta σ H fun xs H1 => xs.length ≤ sizeLine ∧ ∀ p, H1 p = none → Q (.ref p) (upd H1 p (.tup xs))) : tTup ta σ H Q := h
theorem vc_lst {ta : TA} (h : ta σ H fun xs H1 => xs.length ≤ sizeLine ∧ ∀ p, H1 p = none → Q (.ref p) (upd H1 p (.lst xs))) : tLst ta σ H Q := h
theorem vc_call {sp : Sp} {dvs : List V} {E : XK} {ta : TA} (h : ta σ H fun vs H1 => sp (vs ++ dvs) H1 Q E) : tCall sp dvs E ta σ H Q := h
theorem vc_cb {r : List V → Hp → VK → Prop} {ta : TA} (h : ta σ H fun vs H1 => r vs H1 Q) : tCB r ta σ H Q := h
theorem vc_ifE {c : TT} (h : c σ H fun b H1 => if b = true then ta σ H1 Q else tb σ H1 Q) : tIf c ta tb σ H Q := h
theorem vc_ixT {K : PySem.W.Frag} {p : Addr} {xs : List V} {i : Int} (h : SqT K H p xs) (e : atI xs i = some x) (q : Q x H) : rIxT K (.ref p) (.int i) H Q := ⟨p, xs, i, x, rfl, rfl, h, e, q⟩
theorem vc_ixL {K : PySem.W.Frag} {p : Addr} {xs : List V} {i : Int} (h : SqL K H p xs) (e : atI xs i = some x) (q : Q x H) : rIxL K (.ref p) (.int i) H Q := ⟨p, xs, i, x, rfl, rfl, h, e, q⟩
theorem vc_abs {i : Int} (h : Q (.int (My.ab i)) H) : rAbs [.int i] H Q := ⟨i, rfl, h⟩
theorem vc_max {i j : Int} (h : Q (.int (max i j)) H) : rMax2 [.int i, .int j] H Q := ⟨i, j, rfl, by
  have e : (if j > i then j else i) = max i j := by rw [Int.max_def]; split <;> split <;> omega
  rw [e]; exact h⟩
theorem vc_min {i j : Int} (h : Q (.int (min i j)) H) : rMin2 [.int i, .int j] H Q := ⟨i, j, rfl, by
  have e : (if j < i then j else i) = min i j := by rw [Int.min_def]; split <;> split <;> omega
  rw [e]; exact h⟩
theorem upd_keep {p q : Addr} {o o' : HO} (hq : H q = none) (h : H p = some o) : upd H q o' p = some o := (upd_ne (ne_of_none h hq)).trans h
end
end L2
namespace L2
open PySem PySem.Spec PyProof.Rows
noncomputable def okName (x : Str) : Bool := !(x == ("__debug__" : Str)) && !(x == ("__classdict__" : Str)) && !(x == ("__name__" : Str))
noncomputable def VOk (N : List Str) (sc : Scope) : Bool := N.all fun x => okName x && (sc.names.lookup x == some .local || sc.names.lookup x == some .cell)
noncomputable def GOk (G : List Str) (sc : Scope) : Bool := G.all fun x => okName x && sc.names.lookup x == some .globalImplicit
section
variable {N G : List Str} {sc : Scope} {x : Str}
theorem okName.a (h : okName x = true) : (x == ("__debug__" : Str)) = false := by
  unfold okName at h
  simp only [Bool.and_eq_true, Bool.not_eq_true'] at h
  exact h.1.1
theorem okName.b (h : okName x = true) : (x == ("__classdict__" : Str)) = false := by
  unfold okName at h
  simp only [Bool.and_eq_true, Bool.not_eq_true'] at h
  exact h.1.2
theorem okName.c (h : okName x = true) : x ≠ "__name__" := by
  unfold okName at h
  simp only [Bool.and_eq_true, Bool.not_eq_true'] at h
  intro e
  rw [e] at h
  have := h.2
  rw [beq_self_eq_true] at this
  cases this
theorem VOk.at (V : VOk N sc = true) {i : Nat} (e : N[i]? = some x) : okName x = true ∧ Loc sc x := by
  have q := List.all_eq_true.mp V x (List.mem_of_getElem? e)
  simp only [Bool.and_eq_true, Bool.or_eq_true, beq_iff_eq] at q
  exact q
theorem GOk.at (V : GOk G sc = true) {i : Nat} (e : G[i]? = some x) : okName x = true ∧ sc.names.lookup x = some .globalImplicit := by
  have q := List.all_eq_true.mp V x (List.mem_of_getElem? e)
  simp only [Bool.and_eq_true, beq_iff_eq] at q
  exact q
end
section
variable {X : Cx} {N G : List Str} {sc : Scope} {x : Str} {pos p : Pos}
theorem qv (V : VOk N sc = true) (i : Nat) (hN : N[i]? = some x) (hX : X.N = N) (hs : X.env.scope = sc) : PE X (.Name x pos) (tVar i) := by
  obtain ⟨a, b⟩ := VOk.at V hN
  refine pe_var (by rw [hX]; exact hN) ?_ (okName.a a) (okName.b a)
  rw [hs]
  rcases b with b | b
  · exact .inl b
  · exact .inr (.inl b)
theorem qgl (V : GOk G sc = true) (j : Nat) (hj : G[j]? = some x) (hs : X.env.scope = sc) : Gl X x := by
  unfold Gl Env.kindOf
  rw [hs]
  exact (GOk.at V hj).2
theorem q_set {i : Nat} {e : Expr} {te : TE} {pos' : Pos} (V : VOk N sc = true) (hN : N.Nodup) (hi : N[i]? = some x) (hX : X.N = N) (hs : X.env.scope = sc) (he : PE X e te) (hsw : swapsWith e (some (.Name x pos')) pos.line X.env = pure false := by rfl)
    (hf : X.fn x = true ∨ X.env.scope.names.lookup x = some .local := by exact .inl rfl) : PS X (.Assign [.Name x pos'] e pos) (tAsg te (gName i)) :=
  ps_set (by rw [hX]; exact hN) (by rw [hX]; exact hi) (by rw [hs]; exact (VOk.at V hi).2) he hsw hf
theorem q_name {i : Nat} (V : VOk N sc = true) (hN : N.Nodup) (hi : N[i]? = some x) (hX : X.N = N) (hs : X.env.scope = sc)
    (hf : X.fn x = true ∨ X.env.scope.names.lookup x = some .local := by exact .inl rfl) : PG X (.Name x pos) (gName i) :=
  pg_name (by rw [hX]; exact hN) (by rw [hX]; exact hi) (by rw [hs]; exact (VOk.at V hi).2) hf
theorem q_call {CX : CXT} {k : Nat} {f : Addr} {fd : FuncData} {ps : List Str} {sp : Sp} {ds : List Value} {dvs : List V} {E : XK} {e : Expr} {es : List Expr} {t : TA} (F : FnOk X.prog X.w X.K X.mg X.base CX k f fd ps sp) (hr : Room k X.A)
    (V : GOk G sc = true) (j : Nat) (hj : G[j]? = some x) (hs : X.env.scope = sc) (hm : X.mg x = some (.ref f)) (hk : PySem.W.keepIn X.K (.ref f) = true) (hb : Binds X.K fd ps ds) (hd : Vals dvs ds) (hx : Passes CX X E)
    (ha : PA X (e :: es) t) (he : starEach (e :: es) X.env = (false, eval e X.env) :: starEach es X.env := by rfl) (hpl : (backTo pos (starEach es X.env)).any (·.1) = false := by rfl) :
    PE X (.Call (.Name x p) (e :: es) [] pos) (tCall sp dvs E t) := pe_call F hr (qgl V j hj hs) hm hk hb hd hx ha (okName.a (GOk.at V hj).1) he hpl
theorem q_make {CX : CXT} {k : Nat} {C f : Addr} {fd : FuncData} {ps : List Str} {sp : Sp} {ds : List Value} {dvs : List V} {E : XK} {e : Expr} {es : List Expr} {t : TA} (M : Mk X.K C f) (F : FnOk X.prog X.w X.K X.mg X.base CX k f fd ps sp) (hr : Room (k + 1) X.A)
    (V : GOk G sc = true) (j : Nat) (hj : G[j]? = some x) (hs : X.env.scope = sc) (hm : X.mg x = some (.ref C)) (hb : Binds X.K fd ps ds) (hd : Vals dvs ds) (hx : Passes CX X E)
    (ha : PA X (e :: es) t) (he : starEach (e :: es) X.env = (false, eval e X.env) :: starEach es X.env := by rfl) (hpl : (backTo pos (starEach es X.env)).any (·.1) = false := by rfl) :
    PE X (.Call (.Name x p) (e :: es) [] pos) (tMake C sp dvs E t) := pe_make M F hr (qgl V j hj hs) hm hb hd hx ha (okName.a (GOk.at V hj).1) he hpl
theorem q_callB {id : String} {r : List V → Hp → VK → Prop} {e : Expr} {es : List Expr} {t : TA} (hc : CallR X (.builtin id) r) (V : GOk G sc = true) (j : Nat) (hj : G[j]? = some x) (hs : X.env.scope = sc) (hm : X.mg x = none) (hv : bootBuiltins x = some (.builtin id)) (ha : PA X (e :: es) t)
    (he : starEach (e :: es) X.env = (false, eval e X.env) :: starEach es X.env := by rfl) (hpl : (backTo pos (starEach es X.env)).any (·.1) = false := by rfl) : PE X (.Call (.Name x p) (e :: es) [] pos) (tCB r t) :=
  pe_callB hc (qgl V j hj hs) hm hv ha (okName.c (GOk.at V hj).1) (okName.a (GOk.at V hj).1) he hpl
theorem q_callTy {T : String} {r : List V → Hp → VK → Prop} {e : Expr} {es : List Expr} {t : TA} (hc : CallR X (.type T) r) (V : GOk G sc = true) (j : Nat) (hj : G[j]? = some x) (hs : X.env.scope = sc) (hm : X.mg x = none) (hv : bootBuiltins x = some (.type T)) (ha : PA X (e :: es) t)
    (he : starEach (e :: es) X.env = (false, eval e X.env) :: starEach es X.env := by rfl) (hpl : (backTo pos (starEach es X.env)).any (·.1) = false := by rfl) : PE X (.Call (.Name x p) (e :: es) [] pos) (tCB r t) :=
  pe_callTy hc (qgl V j hj hs) hm hv ha (okName.c (GOk.at V hj).1) (okName.a (GOk.at V hj).1) he hpl
theorem q_glob {v : V} {u : Value} (V : GOk G sc = true) (j : Nat) (hj : G[j]? = some x) (hs : X.env.scope = sc) (hm : X.mg x = some u) (r : RelV v u) : PE X (.Name x pos) (tC v) := pe_glob (qgl V j hj hs) hm r (okName.a (GOk.at V hj).1)
theorem q_bltn {v : V} {u : Value} (V : GOk G sc = true) (j : Nat) (hj : G[j]? = some x) (hs : X.env.scope = sc) (hm : X.mg x = none) (hv : bootBuiltins x = some u) (r : RelV v u) : PE X (.Name x pos) (tC v) := pe_bltn (qgl V j hj hs) hm hv r (okName.c (GOk.at V hj).1) (okName.a (GOk.at V hj).1)
end
end L2
namespace L2
open PySem PySem.Spec PyProof.Rows PySem.W
mutual
inductive Rep (K : PySem.W.Frag) (H : Hp) : V → Dat → Prop where
  | non : Rep K H .non .none
  | bl (b : Bool) : Rep K H (.bl b) (.bool b)
  | int (i : Int) : Rep K H (.int i) (.int i)
  | str (x : Str) : Rep K H (.str x) (.str x)
  | tup {a : Addr} {xs : List V} {ds : List Dat} : SqT K H a xs → Reps K H xs ds → Rep K H (.ref a) (.tuple ds)
  | lst {a : Addr} {xs : List V} {ds : List Dat} : SqL K H a xs → Reps K H xs ds → Rep K H (.ref a) (.list ds)
inductive Reps (K : PySem.W.Frag) (H : Hp) : List V → List Dat → Prop where
  | nil : Reps K H [] []
  | cons {x : V} {xs : List V} {d : Dat} {ds : List Dat} : Rep K H x d → Reps K H xs ds → Reps K H (x :: xs) (d :: ds)
end
section
variable {K : PySem.W.Frag} {H H' : Hp}
theorem Rep.same (e : Same H H') {v : V} {d : Dat} (h : Rep K H v d) : Rep K H' v d :=
  Rep.rec (motive_1 := fun v d _ => Rep K H' v d) (motive_2 := fun xs ds _ => Reps K H' xs ds) .non .bl .int .str (fun h _ r => .tup (e.tup h) r) (fun h _ r => .lst (e.seq h) r) .nil (fun _ _ a b => .cons a b) h
theorem Reps.same (e : Same H H') {xs : List V} {ds : List Dat} (h : Reps K H xs ds) : Reps K H' xs ds :=
  Reps.rec (motive_1 := fun v d _ => Rep K H' v d) (motive_2 := fun xs ds _ => Reps K H' xs ds) .non .bl .int .str (fun h _ r => .tup (e.tup h) r) (fun h _ r => .lst (e.seq h) r) .nil (fun _ _ a b => .cons a b) h
theorem Reps.byRows {M : List V → List Dat → Prop} (n : M [] []) (c : ∀ {x : V} {xs : List V} {d : Dat} {ds : List Dat}, Rep K H x d → Reps K H xs ds → M xs ds → M (x :: xs) (d :: ds)) {xs : List V} {ds : List Dat} (h : Reps K H xs ds) : M xs ds :=
  Reps.rec (motive_1 := fun _ _ _ => True) (motive_2 := fun xs ds _ => M xs ds) trivial (fun _ => trivial) (fun _ => trivial) (fun _ => trivial) (fun _ _ _ => trivial) (fun _ _ _ => trivial) n (fun a b _ m => c a b m) h
theorem Reps.length {xs : List V} {ds : List Dat} (h : Reps K H xs ds) : xs.length = ds.length :=
  h.byRows (M := fun xs ds => xs.length = ds.length) rfl fun _ _ r => congrArg (· + 1) r
theorem Reps.get {xs : List V} {ds : List Dat} {i : Nat} {x : V} (h : Reps K H xs ds) (e : xs[i]? = some x) : ∃ d, ds[i]? = some d ∧ Rep K H x d :=
  h.byRows (M := fun xs ds => ∀ i, xs[i]? = some x → ∃ d, ds[i]? = some d ∧ Rep K H x d) (fun i e => by simp at e) (fun a _ m i e => by
    cases i with
    | zero =>
      rw [List.getElem?_cons_zero] at e
      cases e
      exact ⟨_, rfl, a⟩
    | succ i =>
      rw [List.getElem?_cons_succ] at e ⊢
      exact m i e) i e
theorem Reps.append {xs ys : List V} {ds es : List Dat} (h : Reps K H xs ds) (r : Reps K H ys es) : Reps K H (xs ++ ys) (ds ++ es) :=
  h.byRows (M := fun xs ds => Reps K H (xs ++ ys) (ds ++ es)) r fun a _ m => .cons a m
theorem Reps.take {xs : List V} {ds : List Dat} (n : Nat) (h : Reps K H xs ds) : Reps K H (xs.take n) (ds.take n) :=
  h.byRows (M := fun xs ds => ∀ n, Reps K H (xs.take n) (ds.take n)) (fun n => by rw [List.take_nil, List.take_nil]; exact .nil) (fun a _ m n => by
    cases n with
    | zero => exact .nil
    | succ n => exact .cons a (m n)) n
theorem Reps.one {x : V} {d : Dat} (h : Rep K H x d) : Reps K H [x] [d] := .cons h .nil
mutual
noncomputable def noL : Dat → Bool
  | .list _ => false
  | .tuple ds => noLs ds
  | _ => true
noncomputable def noLs : List Dat → Bool
  | [] => true
  | d :: ds => noL d && noLs ds
end
noncomputable def SameT (H H' : Hp) : Prop := ∀ b o, (∃ xs, Rd H b (.tup xs)) → H b = some o → H' b = some o
theorem SameT.tup (e : SameT H H') {a : Addr} {xs : List V} (h : SqT K H a xs) : SqT K H' a xs := by
  rcases h with h | h
  · rcases h with h | ⟨o, h⟩
    · exact .inl (.inl (e a _ ⟨xs, .inl h⟩ h))
    · exact .inl (.inr ⟨o, e a _ ⟨xs, .inr ⟨o, h⟩⟩ h⟩)
  · exact .inr h
theorem Rep.sameT (e : SameT H H') {v : V} {d : Dat} (n : noL d = true) (h : Rep K H v d) : Rep K H' v d :=
  Rep.rec (motive_1 := fun v d _ => noL d = true → Rep K H' v d) (motive_2 := fun xs ds _ => noLs ds = true → Reps K H' xs ds) (fun _ => .non) (fun b _ => .bl b) (fun i _ => .int i) (fun x _ => .str x) (fun h _ r n => .tup (e.tup h) (r n)) (fun _ _ _ n => absurd (show false = true from n) (by decide)) (fun _ => .nil)
    (fun _ _ a b n => by
      rw [noLs, Bool.and_eq_true] at n
      exact .cons (a n.1) (b n.2)) h n
theorem Reps.sameT (e : SameT H H') {xs : List V} {ds : List Dat} (n : noLs ds = true) (h : Reps K H xs ds) : Reps K H' xs ds :=
  h.byRows (M := fun xs ds => noLs ds = true → Reps K H' xs ds) (fun _ => .nil) (fun a _ m n => by
    rw [noLs, Bool.and_eq_true] at n
    exact .cons (a.sameT e n.1) (m n.2)) n
theorem noLs_map {α : Type} {f : α → Dat} (h : ∀ a, noL (f a) = true) : ∀ xs : List α, noLs (xs.map f) = true
  | [] => rfl
  | x :: r => by rw [List.map_cons, noLs, h x, noLs_map h r]; rfl
theorem Rd.up {b : Addr} {u : HO} (e : Same H H') (r : Rd H b u) : Rd H' b u := by
  rcases r with r | ⟨o, r⟩
  · exact .inl (e _ _ r)
  · exact .inr ⟨o, e _ _ r⟩
theorem Rep.int_of {v : V} {i : Int} (h : Rep K H v (.int i)) : v = .int i := by cases h; rfl
theorem Rep.str_of {v : V} {i : Str} (h : Rep K H v (.str i)) : v = .str i := by cases h; rfl
theorem Rep.tup_of {v : V} {ds : List Dat} (h : Rep K H v (.tuple ds)) : ∃ a xs, v = .ref a ∧ SqT K H a xs ∧ Reps K H xs ds := by
  cases h with
  | tup h r => exact ⟨_, _, rfl, h, r⟩
end
section
variable {X : Cx} {pins : List (Addr × Obj)} {σ : St} {H : Hp} {s : Shared}
noncomputable def RdsV (h : Heap) (v : V) (d : Dat) : Prop := ∀ (u : Value) (n : Nat), RelV v u → kqdOk n d = true → ∃ as, Reads h u (kqdP d) as
noncomputable def RdsL (h : Heap) (xs : List V) (ds : List Dat) : Prop := ∀ (us : List Value) (n : Nat), Vals xs us → (∀ d ∈ ds, kqdOk n d = true) → ∃ as, ReadsAll h us (kqdPs ds) as
theorem rds_tup (I : Inv X pins σ H s) {a : Addr} {xs : List V} {ds : List Dat} (hq : SqT X.K H a xs) (r : RdsL s.heap xs ds) : RdsV s.heap (.ref a) (.tuple ds) := fun u n ru hk => by
  cases (show u = Value.ref a from ru)
  cases n with
  | zero => exact absurd (show false = true from hk) (by decide)
  | succ n =>
    obtain ⟨its, rv, ⟨o, e1, e2, k, e3⟩, _⟩ := I.tuple hq
    obtain ⟨as, q⟩ := r its n rv (by simpa [kqdOk] using hk)
    rw [kqdP]
    exact ⟨as, reads_tuple_at e1 e2 e3 (by simpa using q)⟩
theorem rds_lst (I : Inv X pins σ H s) {a : Addr} {xs : List V} {ds : List Dat} (hq : SqL X.K H a xs) (r : RdsL s.heap xs ds) : RdsV s.heap (.ref a) (.list ds) := fun u n ru hk => by
  cases (show u = Value.ref a from ru)
  cases n with
  | zero => exact absurd (show false = true from hk) (by decide)
  | succ n =>
    obtain ⟨its, rv, ⟨o, k, e1, e2, _, e3⟩, _⟩ := I.list hq
    obtain ⟨as, q⟩ := r its n rv (by simpa [kqdOk] using hk)
    rw [kqdP]
    exact ⟨_, reads_list_at e1 e2 e3 (by simpa using q)⟩
theorem rds_cons {h : Heap} {x : V} {xs : List V} {d : Dat} {ds : List Dat} (a : RdsV h x d) (b : RdsL h xs ds) : RdsL h (x :: xs) (d :: ds) := fun us n r hk => by
  cases r with
  | cons r1 r2 =>
    obtain ⟨as, p⟩ := a _ n r1 (hk _ (.head _))
    obtain ⟨bs, p'⟩ := b _ n r2 fun d hm => hk d (.tail _ hm)
    rw [kqdPs]
    exact ⟨_, ReadsAll.cons p p'⟩
theorem rep_reads (I : Inv X pins σ H s) {v : V} {d : Dat} {u : Value} (n : Nat) (h : Rep X.K H v d) (r : RelV v u) (hk : kqdOk n d = true) : ∃ as, Reads s.heap u (kqdP d) as :=
  Rep.rec (motive_1 := fun v d _ => RdsV s.heap v d) (motive_2 := fun xs ds _ => RdsL s.heap xs ds) (fun u _ r _ => by
      cases (show u = Value.none from r)
      exact ⟨_, Reads.none⟩) (fun b u _ r _ => by
      cases (show u = Value.bool b from r)
      exact ⟨_, Reads.bool b⟩) (fun i u _ r _ => by
      obtain ⟨t, e⟩ := (show ∃ t, u = Value.int i t from r)
      subst e
      exact ⟨_, Reads.int i t⟩) (fun x u _ r _ => by
      obtain ⟨t, e⟩ := (show ∃ t, u = Value.str x t from r)
      subst e
      exact ⟨_, Reads.str x t⟩) (fun hq _ m => rds_tup I hq m) (fun hq _ m => rds_lst I hq m) (fun us _ r _ => by
      cases r
      exact ⟨_, ReadsAll.nil⟩) (fun _ _ a b => rds_cons a b) h u n r hk
theorem rep_shaped {n : Nat} {d : Dat} (h : kqdOk n d = true) (hn : n ≤ 64) : SeqAt.shaped (kqdP d) = true := by
  have l := kqd_lay n d h
  unfold SeqAt.shaped
  rw [l.1, Bool.true_and]
  exact decide_eq_true (Nat.le_trans l.2 hn)
open Classical in
theorem rep_eqv {d e : Dat} (hd : kqdOk 9 d = true) (he : kqdOk 9 e = true) : PyData.eqv (kqdP d) (kqdP e) = decide (d = e) := by
  have q := kqd_eqv 9 d e 9 hd he
  by_cases hq : d = e
  · rw [decide_eq_true hq]; exact q.mpr hq
  · rw [decide_eq_false hq]; exact Bool.eq_false_iff.mpr fun x => hq (q.mp x)
open Classical in
noncomputable def rNeD (K : PySem.W.Frag) : R2 := fun x y H Q => ∃ d e, Rep K H x d ∧ Rep K H y e ∧ kqdOk 9 d = true ∧ kqdOk 9 e = true ∧ Q (.bl (!decide (d = e))) H
theorem op_neD (hu : X.A.units + 64 < cLine) : OpR X (compareOp .NotEq) (rNeD X.K) := by
  intro pins s σ H x y v u Q I rx ry h
  obtain ⟨d, e, hx, hy, kd, ke, q⟩ := h
  obtain ⟨as, ra⟩ := rep_reads I 9 hx rx kd
  obtain ⟨bs, rb⟩ := rep_reads I 9 hy ry ke
  exact ne_dataH ra rb (rep_shaped kd (by decide)) (rep_shaped ke (by decide)) hu (by rw [rep_eqv kd ke]; exact ⟨.bl _, H, I, rfl, q⟩)
open Classical in
noncomputable def rInD (K : PySem.W.Frag) (neg : Bool) : R2 := fun x y H Q => ∃ d ds, Rep K H x d ∧ Rep K H y (.list ds) ∧ kqdOk 8 d = true ∧ (∀ e ∈ ds, kqdOk 8 e = true) ∧ Q (.bl (if neg then !decide (d ∈ ds) else decide (d ∈ ds))) H
open Classical in
theorem rep_any {d : Dat} {ds : List Dat} (hd : kqdOk 8 d = true) (hs : ∀ e ∈ ds, kqdOk 8 e = true) : ((kqdPs ds).any fun y => PyData.eqv y (kqdP d)) = decide (d ∈ ds) := by
  by_cases hq : d ∈ ds
  · rw [decide_eq_true hq]; exact (kqd_any ds d hs hd).mpr hq
  · rw [decide_eq_false hq]; exact Bool.eq_false_iff.mpr fun z => hq ((kqd_any ds d hs hd).mp z)
theorem op_inD (hu : X.A.units + 64 < cLine) : OpR X (compareOp .In) (rInD X.K false) := by
  intro pins s σ H x y v u Q I rx ry h
  obtain ⟨d, ds, hx, hy, kd, ke, q⟩ := h
  obtain ⟨as, ra⟩ := rep_reads I 8 hx rx kd
  obtain ⟨bs, rb⟩ := rep_reads I 9 hy ry (by simpa [kqdOk] using ke)
  rw [kqdP] at rb
  have l := kqd_layL ke
  have ld := kqd_lay 8 d kd
  have l2 := ld.2
  refine SeqAt.in_list_reads rb ra l.1 ld.1 ?_ (by rw [rep_any kd ke]; exact ⟨.bl _, H, I, rfl, q⟩)
  have := Nat.min_le_right (PyData.depthAll (kqdPs ds)) (kqdP d).depth
  omega
end
end L2
namespace L2
open PySem PySem.Spec PyProof.Rows
section
variable {X : Cx}
noncomputable def rSum (K : PySem.W.Frag) : List V → Hp → VK → Prop := fun xs H Q => ∃ (p : Addr) (ns : List Int), xs = [.ref p] ∧ SqL K H p (ns.map V.int) ∧ Q (.int ns.sum) H
theorem call_sum (hc : X.calm = true) : CallR X (.builtin "sum") (rSum X.K) := by
  intro pins s σ H xs us Q I r h
  obtain ⟨p, ns, rfl, hq, q⟩ := h
  obtain ⟨u, rfl, ru⟩ := vals1 r
  cases (show u = Value.ref p from ru)
  obtain ⟨its, rv, pl, hz⟩ := I.list hq
  have hi := intsAre_of rv
  obtain ⟨ys, e⟩ := hi.allInts.items
  have hn : numsOf its = ns := hi.numsOf
  have hl : s.heap.IsList p (intItems ys) := by rw [← e]; exact pl.isList
  refine sum_intListG (I.ok.hd hc) hl fun h' tk t' hk => ?_
  have e2 : preSum (numAt ys) ys.size = ns.sum := by
    rw [preSum_eq, List.take_of_length_le (by simp), ← nums_intItems, ← e]
    show (numsOf its).sum = ns.sum
    rw [hn]
  rw [e2]
  exact ⟨.int ns.sum, H, I.kept (t' := tk) hk, ⟨t', rfl⟩, q⟩
noncomputable def rSlS : V → Option Int → Option Int → Hp → VK → Prop := fun x lo hi H Q => ∃ z, x = .str z ∧ z.length ≤ sizeLine ∧ Q (.str (Txt.slice z lo hi)) H
theorem part_of {v : Value} {lo : Option Int} (h : IsPart v lo) : ∃ l : Option (Int × Tok), v = partValue l ∧ l.map (·.1) = lo := by
  cases h with
  | none => exact ⟨none, rfl, rfl⟩
  | int i t => exact ⟨some (i, t), rfl, rfl⟩
theorem sl_str : SlR X rSlS := by
  intro pins s σ H x v vl vu lo hi sl Q I rx hs pl pu h
  obtain ⟨z, rfl, hz, q⟩ := h
  obtain ⟨t, rfl⟩ := (show ∃ t, v = Value.str z t from rx)
  obtain ⟨l, rfl, el⟩ := part_of pl
  obtain ⟨u, rfl, eu⟩ := part_of pu
  refine ⟨"str", _, F.slot_str_getitem.lookup, typeIs_str _ _ _, wpAny_getItem_str_slice (l := l) (u := u) (st := none) hs rfl ?_⟩
  have key : ∀ (t' : Tok) (k : Nat), EP X pins σ Q (.str (Txt.slice z lo hi) t') { s with toks := k } := fun t' k => ⟨.str _, H, I.tok k, ⟨t', rfl⟩, q⟩
  subst el eu
  exact post_val_or_str ⟨Nat.le_trans (Txt.slice_le z _ _) hz, fun t' k => key t' k⟩
end
noncomputable def Its (x : Str) : It := ⟨fun i _ => i < x.cps.size, fun i H v H' => H' = H ∧ ∃ c, x.cps[i]? = some c ∧ v = .str ⟨#[c]⟩, fun i _ => x.cps.size ≤ i⟩
theorem turn_str {P : Program} {w : World} {K : PySem.W.Frag} {tg : Expr} (it : Addr) (x : Str) (t : Tok) : Turn P w K tg (Its x) [it] it (fun i h => h.IsStrIter it "str_ascii_iterator" x t i) where
  mem := by simp
  obj := fun i h st b hb => by
    have e : b = it := by simpa using hb
    subst e
    obtain ⟨o, e, c, d⟩ := st
    exact ⟨o, e, fun v z => by rw [d] at z; cases z⟩
  keep := fun i h h' st k => by
    obtain ⟨o, e, c, d⟩ := st
    exact ⟨o, k it (by simp) o e, c, d⟩
  item := by
    intro X hP hw hK hc i pins s σ H E I hf st hg
    subst hP hw hK
    have hg' : i < x.cps.size := hg
    obtain ⟨f0, f1, f2, f3, f4, f5⟩ := hf it (by simp)
    refine wpAny_pyNext_ascii_item st (c := x.cps[i]) (by simp [hg']) fun h' st' sb => ?_
    have I1 : Inv X pins σ H { s with heap := h', toks := s.toks + 1 } := I.turned (fun b o hb e => (sb.2 b hb).trans e) f0 f1 f3 f4 f5
    obtain ⟨o, e, c, d⟩ := id st'
    exact ⟨_, rfl, go_of (s := { s with heap := h', toks := s.toks + 1 }) e c d (by decide) ⟨.str ⟨#[x.cps[i]]⟩, H, I1, ⟨_, rfl⟩, ⟨rfl, _, by simp [hg'], rfl⟩, st', fun b hb => (hf b hb).1⟩⟩
  done := by
    intro X hP hw hK hc i pins s σ H E I hf st hg
    subst hP hw hK
    have hg' : x.cps.size ≤ i := hg
    obtain ⟨f0, f1, f2, f3, f4, f5⟩ := hf it (by simp)
    exact wpAny_pyNext_ascii_end (I.ok.hd hc) st (by simp; omega) fun h' eb => ⟨rfl, I.turned (t' := s.toks) (fun b o hb e => eb b o hb e) f0 f1 f3 f4 f5⟩
  self := fun _ _ _ _ _ st h => wpAny_pyIter_striter_ascii st h
section
variable {X : Cx} {tg : Expr}
noncomputable def iStr (tl : TE) : TI := fun σ H R => tl σ H fun x H1 => ∃ z, x = .str z ∧ z.cps.all (· < 128) = true ∧ R (Its z) H1
theorem pi_str {l : Expr} {tl : TE} (hl : PE X l tl) : PI X tg l (iStr tl) := by
  intro pins s σ H R I h
  refine thn (hl pins s σ H _ I h) fun v s1 hq9 => EP.out hq9 fun x H1 I1 r1 q1 => ?_
  obtain ⟨z, rfl, ha, q⟩ := q1
  obtain ⟨t, rfl⟩ := (show ∃ t, v = Value.str z t from r1)
  refine wpAny_pyIter_ascii ha ?_
  refine ⟨s1.heap.objs.size, [s1.heap.objs.size], _, _, H1, rfl, I1.kept (t' := s1.toks) fun b o e => Heap.get?_push_of_some _ e, turn_str _ z t, ⟨_, Heap.get?_push_size _ rfl, rfl, rfl⟩, fun b hb => ?_, q⟩
  have e : b = s1.heap.objs.size := by simpa using hb
  subst e
  exact I1.fpOk (Nat.le_refl _) (I1.hok.fresh (Nat.le_refl _))
end
noncomputable def clipI (n : Nat) (d : Int) (o : Option Int) : Int := match o with | none => d | some i => max 0 (min (if i < 0 then i + (n : Int) else i) (n : Int))
theorem clip_sIx (n d : Nat) (o : Option Int) : clipI n d o = ((HT.sIx n d o : Nat) : Int) := by
  cases o with
  | none => rfl
  | some i =>
    show max 0 (min (if i < 0 then i + (n : Int) else i) (n : Int)) = (((if i < 0 then (i + (n : Int)).toNat else min i.toNat n) : Nat) : Int)
    split <;> omega
theorem slice_ix (lo hi : Option Int) (n : Nat) : Builtin.Str.strSliceIndices lo hi 1 n = (List.range (HT.sIx n n hi - HT.sIx n 0 lo)).map (HT.sIx n 0 lo + ·) := by
  have e : Builtin.Str.strSliceIndices lo hi 1 n = sliceRange (clipI n ((0 : Nat) : Int) lo) (clipI n (n : Int) hi) 1 := by
    unfold Builtin.Str.strSliceIndices clipI
    cases lo <;> cases hi <;> rfl
  rw [e, clip_sIx, clip_sIx, sliceRange_one]
theorem slice_cps (x : Str) (lo hi : Option Int) : (Txt.slice x lo hi).cps.toList = (x.cps.toList.drop (HT.sIx x.length 0 lo)).take (HT.sIx x.length x.length hi - HT.sIx x.length 0 lo) := by
  unfold Txt.slice
  have l2 := HT.sIx_le x.length x.length (Nat.le_refl _) hi
  rw [slice_ix]
  split
  · rename_i h
    simp only [List.length_map, List.length_range, Bool.and_eq_true, beq_iff_eq] at h
    have e0 : HT.sIx x.length 0 lo = 0 ∨ x.length = 0 := by omega
    have h2 := h.2
    rw [h2]
    rcases e0 with e0 | e0
    · rw [e0, List.drop_zero, List.take_of_length_le (by simp; exact Nat.le_refl _)]
    · have : x.cps.toList = [] := by
        apply List.length_eq_zero_iff.mp
        exact (show x.cps.toList.length = 0 by rw [Array.length_toList]; exact e0)
      rw [this]
      simp
  · show (((List.range _).map _).filterMap _).toArray.toList = _
    rw [pick_run]
end L2
namespace L2
open PySem PySem.Spec
noncomputable def hid (D : Addr) (H : Hp) : Hp := fun b => if b = D then none else H b
theorem hid_upd {D : Addr} {H : Hp} {o : HO} : hid D (upd H D o) = hid D H := by
  funext b
  unfold hid upd
  split
  · rfl
  · rfl
theorem hid_none {D : Addr} {H : Hp} (h : H D = none) : hid D H = H := by
  funext b
  unfold hid
  split
  · rename_i e; rw [e, h]
  · rfl
theorem hid_ne {D b : Addr} {H : Hp} (h : b ≠ D) : hid D H b = H b := by unfold hid; rw [if_neg h]
theorem hid_same (D : Addr) (H : Hp) : Same (hid D H) H := fun b o e => by
  unfold hid at e
  split at e
  · cases e
  · exact e
theorem Same.hid {D : Addr} {H H' : Hp} (e : Same H H') : Same (hid D H) (hid D H') := fun b o q => by
  unfold L2.hid at q ⊢
  split
  · rename_i z; rw [if_pos z] at q; cases q
  · rename_i z; rw [if_neg z] at q; exact e b o q
theorem Same.updD {D : Addr} {H H' : Hp} {o : HO} (hD : H D = none) (e : Same H H') : Same H (upd H' D o) := fun b u q => by
  rw [upd_ne (ne_of_none q hD)]
  exact e b u q
theorem comp_gen {J : It} {g : TG} {tt : TT} {te : TE} {σc : St} {D : Addr} {H1 : Hp} {Q : Hp → Prop} {n : Nat} (A : Nat → V → Prop) (hD : H1 D = none) (hn : n < sizeLine)
    (hJ : ∀ i H, Same H1 H → (i < n → J.go i H) ∧ (n ≤ i → J.stop i H) ∧ ∀ x H', i < n → J.yld i H x H' → H' = H ∧ A i x)
    (Φ : Nat → List V → Hp → Prop) (S : St → Prop) (h0 : Φ 0 [] H1) (s0 : S σc)
    (hs : ∀ i x ys σ H (R1 : V → St → Hp → Prop) (R0 : St → Hp → Prop), i < n → A i x → S σ → Same H1 H → H D = some (.lst ys) → Φ i ys (hid D H) →
      (∀ v σ2 H4, Same H H4 → S σ2 → Φ (i + 1) (ys ++ [v]) (hid D H4) → R1 v σ2 H4) → (∀ σ2 H3, Same H H3 → S σ2 → Φ (i + 1) ys (hid D H3) → R0 σ2 H3) →
      g x σ H fun σ2 H2 => tt σ2 H2 fun b H3 => if b = true then te σ2 H3 fun v H4 => R1 v σ2 H4 else R0 σ2 H3)
    (hq : ∀ ys H, Same H1 H → H D = some (.lst ys) → ys.length ≤ n → Φ n ys (hid D H) → Q H) : CompW J g tt te σc D H1 Q := by
  refine ⟨fun i m ys σ H => m = n - i ∧ i ≤ n ∧ ys.length ≤ i ∧ S σ ∧ Same H1 H ∧ H D = some (.lst ys) ∧ Φ i ys (hid D H), ⟨n, by simp, Nat.zero_le _, Nat.le_refl _, s0, (Same.refl H1).updD hD, upd_same, by rw [hid_upd, hid_none hD]; exact h0⟩, ?_⟩
  rintro i m ys σ H ⟨rfl, hi, hl, hS, sm, hDl, hΦ⟩
  refine ⟨by omega, ?_⟩
  obtain ⟨g1, g2, g3⟩ := hJ i H sm
  by_cases hlt : i < n
  · refine .inr ⟨g1 hlt, fun x H' y => ?_⟩
    obtain ⟨rfl, ax⟩ := g3 x H' hlt y
    refine hs i x ys σ H' (fun v σ2 H4 => H4 D = some (.lst ys) ∧ ∃ m', m' < n - i ∧ _) (fun σ2 H3 => ∃ m', m' < n - i ∧ _) hlt ax hS sm hDl hΦ (fun v σ2 H4 s4 hS2 p4 => ?_) (fun σ2 H3 s3 hS2 p3 => ?_)
    · exact ⟨s4 _ _ hDl, n - (i + 1), by omega, rfl, hlt, by rw [List.length_append, List.length_singleton]; omega, hS2, (sm.trans s4).updD hD, upd_same, by rw [hid_upd]; exact p4⟩
    · exact ⟨n - (i + 1), by omega, rfl, hlt, by omega, hS2, sm.trans s3, s3 _ _ hDl, p3⟩
  · have e : i = n := by omega
    subst e
    exact .inl ⟨g2 (Nat.le_refl _), hq ys H sm hDl hl hΦ⟩
theorem hJ_rng (H1 : Hp) (lo : Int) (n : Nat) : ∀ i H, Same H1 H → (i < n → (Itr lo n).go i H) ∧ (n ≤ i → (Itr lo n).stop i H) ∧ ∀ x H', i < n → (Itr lo n).yld i H x H' → H' = H ∧ x = .int (lo + i) :=
  fun _ _ _ => ⟨fun h => h, fun h => h, fun _ _ _ y => y⟩
theorem hJ_list {K : PySem.W.Frag} {H1 : Hp} {a : Addr} {xs : List V} (h : SqL K H1 a xs) : ∀ i H, Same H1 H → (i < xs.length → (Itl K a).go i H) ∧ (xs.length ≤ i → (Itl K a).stop i H) ∧ ∀ x H', i < xs.length → (Itl K a).yld i H x H' → H' = H ∧ xs[i]? = some x :=
  fun i _ sm => ⟨fun hi => ⟨xs, xs[i], sm.seq h, by simp [hi]⟩, fun hi => ⟨xs, sm.seq h, hi⟩, fun _ _ _ y => ⟨y.1, y.2 xs (sm.seq h)⟩⟩
theorem hJ_str (H1 : Hp) (z : Str) : ∀ i H, Same H1 H → (i < z.cps.size → (Its z).go i H) ∧ (z.cps.size ≤ i → (Its z).stop i H) ∧ ∀ x H', i < z.cps.size → (Its z).yld i H x H' → H' = H ∧ ∃ c, z.cps[i]? = some c ∧ x = .str ⟨#[c]⟩ :=
  fun _ _ _ => ⟨fun h => h, fun h => h, fun _ _ _ y => y⟩
noncomputable def rAddS : R2 := fun x y H Q => ∃ i j, x = V.str i ∧ y = V.str j ∧ i.length + j.length ≤ sizeLine ∧ Q (V.str (i ++ j)) H
theorem op_addS {X : Cx} : OpR X (binaryOp .Add) rAddS := op_add_str
section
variable {σ : St} {H : Hp} {te ta tb : TE} {Q : VK}
theorem vc_addS {x y : Str} (l : x.length + y.length ≤ sizeLine) (h : Q (.str (x ++ y)) H) : rAddS (.str x) (.str y) H Q := ⟨x, y, rfl, rfl, l, h⟩
theorem vc_sl {r : V → Option Int → Option Int → Hp → VK → Prop} {tl th : TO} (h : te σ H fun x H1 => tl σ H1 fun l H2 => th σ H2 fun u H3 => r x l u H3 Q) : tSl r te tl th σ H Q := h
theorem vc_nopart {Q : Option Int → Hp → Prop} (h : Q none H) : tNoPart σ H Q := h
theorem vc_part {Q : Option Int → Hp → Prop} (h : te σ H fun x H1 => ∃ i, x = .int i ∧ Q (some i) H1) : tPart te σ H Q := h
theorem vc_exI {i : Int} {Q : Int → Prop} (h : Q i) : ∃ k, V.int i = .int k ∧ Q k := ⟨i, rfl, h⟩
theorem vc_slS {z : Str} {lo hi : Option Int} (l : z.length ≤ sizeLine) (h : Q (.str (Txt.slice z lo hi)) H) : rSlS (.str z) lo hi H Q := ⟨z, rfl, l, h⟩
theorem vc_ixS {z : Str} {i : Int} {c : Nat} (l : z.length ≤ sizeLine) (e : atI z.cps.toList i = some c) (h : Q (.str ⟨#[c]⟩) H) : rIxS (.str z) (.int i) H Q := ⟨z, i, c, rfl, rfl, l, e, h⟩
theorem vc_sum {K : PySem.W.Frag} {p : Addr} {ns : List Int} (l : SqL K H p (ns.map V.int)) (h : Q (.int ns.sum) H) : rSum K [.ref p] H Q := ⟨p, ns, rfl, l, h⟩
theorem vc_lenL {K : PySem.W.Frag} {p : Addr} {xs : List V} (l : SqL K H p xs) (h : Q (.int xs.length) H) : rLenSeq K [.ref p] H Q := ⟨p, xs, rfl, .inl l, h⟩
theorem vc_listL {K : PySem.W.Frag} {p : Addr} {xs : List V} (l : SqL K H p xs) (h : ∀ q, H q = none → Q (.ref q) (upd H q (.lst xs))) : rListOf K [.ref p] H Q := ⟨p, xs, rfl, .inl l, h⟩
theorem vc_slL {K : PySem.W.Frag} {p : Addr} {xs : List V} {lo hi : Option Int} (l : SqL K H p xs) (h : ∀ q, H q = none → Q (.ref q) (upd H q (.lst (cutV xs lo hi)))) : rSlL K (.ref p) lo hi H Q := ⟨p, xs, rfl, l, h⟩
theorem vc_cat {p q : Addr} {xs ys : List V} (a : H p = some (.lst xs)) (b : H q = some (.lst ys)) (l : xs.length + ys.length ≤ sizeLine) (h : ∀ r, H r = none → Q (.ref r) (upd H r (.lst (xs ++ ys)))) : rCat (.ref p) (.ref q) H Q := ⟨p, q, xs, ys, rfl, rfl, a, b, l, h⟩
theorem vc_comp {ixs : List (Option Nat)} {wi : TI} {g : TG} {tt : TT} (h : wi σ H fun J H1 => ∀ D, H1 D = none → CompW J g tt te (stC ixs σ) D H1 fun H' => Q (.ref D) H') : tComp ixs wi g tt te σ H Q := h
theorem vc_rng1 {ta : TA} {R : It → Hp → Prop} (h : ta σ H fun vs H1 => ∃ j : Int, vs = [.int j] ∧ -(2 ^ 62) ≤ j ∧ j < 2 ^ 62 ∧ R (Itr 0 j.toNat) H1) : iRng1 ta σ H R := h
theorem vc_for {wi : TI} {g : TG} {tb : TS} {D : Ends} (h : wi σ H fun J H1 => ∃ W : Nat → Nat → St → Hp → Prop, (∃ m, W 0 m σ H1) ∧ ∀ i m σ H, W i m σ H →
    (J.stop i H ∧ D.nx σ H) ∨ (J.go i H ∧ ∃ N : St → Hp → Prop, (∀ σ' H', N σ' H' → ∃ m', m' < m ∧ W (i + 1) m' σ' H') ∧ ∀ x H', J.yld i H x H' → g x σ H' fun σ2 H2 => tb { D with nx := N, ct := N, bk := D.nx } σ2 H2)) : tFor wi g tb D σ H := h
theorem vc_bm {K : PySem.W.Frag} {T : String} {r : V → List V → Hp → VK → Prop} {to : TE} {ta : TA} (h : to σ H fun x H1 => tyV K T x H1 ∧ ta σ H1 fun xs H2 => r x xs H2 Q) : tBM K T r to ta σ H Q := h
theorem vc_append {K : PySem.W.Frag} {l : Addr} {xs : List V} {y : V} (h : H l = some (.lst xs)) (z : xs.length < sizeLine) (q : Q .non (upd H l (.lst (xs ++ [y])))) : rAppend (.ref l) [y] H Q := ⟨l, xs, y, rfl, rfl, h, z, q⟩
theorem tyV_list {K : PySem.W.Frag} {l : Addr} {xs : List V} (h : SqL K H l xs) : tyV K "list" (.ref l) H := .inl ⟨rfl, _, h⟩
end
theorem str_app (x y : Str) : (x ++ y).cps.toList = x.cps.toList ++ y.cps.toList := by
  show (x.cps ++ y.cps).toList = _
  simp
theorem str_len (x : Str) : x.length = x.cps.toList.length := by
  rw [Array.length_toList]; rfl
end L2
namespace L2
open PySem PySem.Spec
noncomputable def hids (S : List Addr) (H : Hp) : Hp := fun b => if b ∈ S then none else H b
theorem hids_upd {S : List Addr} {a : Addr} {H : Hp} {o : HO} (h : a ∈ S) : hids S (upd H a o) = hids S H := by
  funext b
  unfold hids upd
  by_cases hb : b ∈ S
  · rw [if_pos hb, if_pos hb]
  · rw [if_neg hb, if_neg hb, if_neg (show ¬ b = a from fun e => hb (by rw [e]; exact h))]
theorem hids_at {S : List Addr} {b : Addr} {H : Hp} (h : b ∉ S) : hids S H b = H b := by unfold hids; rw [if_neg h]
theorem Same.hids {S : List Addr} {H H' : Hp} (e : Same H H') : Same (hids S H) (hids S H') := fun b o q => by
  unfold L2.hids at q ⊢
  by_cases hb : b ∈ S
  · rw [if_pos hb] at q; cases q
  · rw [if_neg hb] at q ⊢; exact e b o q
theorem vc_catT {K : PySem.W.Frag} {H : Hp} {Q : VK} {p q : Addr} {xs ys : List V} (a : SqT K H p xs) (b : SqT K H q ys) (hx : xs ≠ []) (hy : ys ≠ []) (l : xs.length + ys.length ≤ sizeLine) (h : ∀ r, H r = none → Q (.ref r) (upd H r (.tup (xs ++ ys)))) : rCatT K (.ref p) (.ref q) H Q :=
  ⟨p, q, xs, ys, rfl, rfl, a, b, hx, l, fun z => absurd z hy, fun _ => h⟩
end L2
namespace L2
theorem mt_appendR {X : Cx} : MtR X "list.append" rAppend := mt_append
end L2
namespace L2
open PySem
theorem vc_sfld {K : PySem.W.Frag} {ta tv : TE} {f : Str} {D : Ends} {σ : St} {H : Hp} (h : tv σ H fun y H1 => ta σ H1 fun x H2 => ∃ a C dx fs, x = .ref a ∧ H2 a = some (.ins C dx fs) ∧ Cls K C ∧ NoAttr K C f ∧ fs.length < 1000 ∧ D.nx σ (upd H2 a (.ins C dx (putF f y fs)))) : sFld K ta tv f D σ H := h
theorem vc_tfld {K : PySem.W.Frag} {ta : TE} {f : Str} {σ : St} {H : Hp} {Q : VK} (h : ta σ H fun x H1 => ∃ a C dx fs v, x = .ref a ∧ H1 a = some (.ins C dx fs) ∧ Cls K C ∧ NoAttr K C f ∧ fs.lookup f = some v ∧ Q v H1) : tFld K ta f σ H Q := h
theorem vc_make {C : Addr} {sp : Sp} {dvs : List V} {E : XK} {t : TA} {σ : St} {H : Hp} {Q : VK} (h : t σ H fun vs H1 => ∀ x dx, H1 x = none → H1 dx = none → dx ≠ x → sp (.ref x :: (vs ++ dvs)) (upd (upd H1 dx (.own x)) x (.ins C dx [])) (fun v H2 => v = .non ∧ Q (.ref x) H2) E) : tMake C sp dvs E t σ H Q := h
theorem vc_asgT {K : PySem.W.Frag} {n : Nat} {t : TGs} {a : Addr} {xs : List V} {σ : St} {H : Hp} {Q : St → Hp → Prop} (h : SqT K H a xs) (l : xs.length = n) (q : t xs σ H Q) : gTup K n t (.ref a) σ H Q := ⟨a, xs, rfl, h, l, q⟩
theorem vc_gcons {t : TG} {u : TGs} {v : V} {r : List V} {σ : St} {H : Hp} {Q : St → Hp → Prop} (h : t v σ H fun σ' H' => u r σ' H' Q) : gCons t u (v :: r) σ H Q := ⟨v, r, rfl, h⟩
theorem vc_gnil {σ : St} {H : Hp} {Q : St → Hp → Prop} (h : Q σ H) : gNil [] σ H Q := ⟨rfl, h⟩
end L2
namespace L2
theorem vc_ilist {K : PySem.W.Frag} {tl : TE} {σ : St} {H : Hp} {R : It → Hp → Prop} (h : tl σ H fun x H1 => ∃ a, x = .ref a ∧ (∃ xs, SqL K H1 a xs) ∧ R (Itl K a) H1) : iList K tl σ H R := h
theorem vc_ienum {K : PySem.W.Frag} {ta : TA} {σ : St} {H : Hp} {R : It → Hp → Prop} (h : ta σ H fun vs H1 => ∃ a xs, vs = [.ref a] ∧ SqL K H1 a xs ∧ R (Ite K a) H1) : iEnum K ta σ H R := h
theorem vc_istr {tl : TE} {σ : St} {H : Hp} {R : It → Hp → Prop} (h : tl σ H fun x H1 => ∃ z, x = .str z ∧ z.cps.all (· < 128) = true ∧ R (Its z) H1) : iStr tl σ H R := h
end L2
namespace L2
open PySem
section
variable {K : PySem.W.Frag} {H : Hp} {Q : VK}
end
end L2
namespace L2
open PySem
section
variable {X : Cx} {Nc : List Str} {sc : Scope} {s₂ : Shared} {H₂ : Hp} {C : Addr} {fp : List Addr}
theorem ix_tupC : IxR (cxC X Nc sc s₂ H₂ C fp) (rIxT X.K) := ix_tup
end
end L2
namespace L2
theorem vc_i1 {A B : Prop} (h : B) : if false = true then A else B := iteF h
theorem vc_i2 {A B : Prop} (h : A) : if true = true then A else B := iteT h
theorem vc_i3 {A B : Prop} (h : B) : if (!true) = true then A else B := iteF h
theorem vc_i4 {A B : Prop} (h : A) : if (!false) = true then A else B := iteT h
end L2
namespace L2
theorem dec_true {p : Prop} {i : Decidable p} (h : p) : @decide p i = true := @decide_eq_true p i h
theorem dec_false {p : Prop} {i : Decidable p} (h : ¬ p) : @decide p i = false := @decide_eq_false p i h
end L2
namespace L2
open PySem
theorem vc_gsub {to ti : TE} {t : TSet} {v : V} {σ : St} {H : Hp} {Q : St → Hp → Prop} (h : to σ H fun o H1 => ti σ H1 fun i H2 => t o i v H2 fun H3 => Q σ H3) : gSub to ti t v σ H Q := h
theorem vc_setL {p : Addr} {xs : List V} {k : Int} {j : Nat} {v : V} {H : Hp} {Q : Hp → Prop} (h : H p = some (.lst xs)) (e : ixN xs.length k = some j) (q : Q (upd H p (.lst (xs.set j v)))) : rSetL (.ref p) (.int k) v H Q := ⟨p, xs, k, j, rfl, rfl, h, e, q⟩
end L2
namespace My
end My
namespace My
end My
namespace L2
open PySem PySem.Spec PyProof.Rows
section
variable {P : Program} {w : World} {A : Around} {E : Value → Shared → Prop} {s : Shared} {d it vw : Addr} {es : Array DictEntry} {ep i : Nat}
end
section
variable {X : Cx} {pins : List (Addr × Obj)} {σ : St} {H : Hp} {s : Shared}
end
section
variable {X : Cx}
end
theorem comp_gen2 {J : It} {g : TG} {tt : TT} {te : TE} {σc : St} {D : Addr} {H1 : Hp} {Q : Hp → Prop} {n : Nat} (A : Nat → V → Hp → Prop) (hD : H1 D = none) (hn : n < sizeLine)
    (hJ : ∀ i H, Same H1 H → (i < n → J.go i H) ∧ (n ≤ i → J.stop i H) ∧ ∀ x H', i < n → J.yld i H x H' → Same H H' ∧ A i x H')
    (Φ : Nat → List V → Hp → Prop) (S : St → Prop) (mono : ∀ i ys H H', Same H H' → Φ i ys H → Φ i ys H') (h0 : Φ 0 [] H1) (s0 : S σc)
    (hs : ∀ i x ys σ H (R1 : V → St → Hp → Prop) (R0 : St → Hp → Prop), i < n → A i x H → S σ → Same H1 H → H D = some (.lst ys) → Φ i ys (hid D H) →
      (∀ v σ2 H4, Same H H4 → S σ2 → Φ (i + 1) (ys ++ [v]) (hid D H4) → R1 v σ2 H4) → (∀ σ2 H3, Same H H3 → S σ2 → Φ (i + 1) ys (hid D H3) → R0 σ2 H3) →
      g x σ H fun σ2 H2 => tt σ2 H2 fun b H3 => if b = true then te σ2 H3 fun v H4 => R1 v σ2 H4 else R0 σ2 H3)
    (hq : ∀ ys H, Same H1 H → H D = some (.lst ys) → ys.length ≤ n → Φ n ys (hid D H) → Q H) : CompW J g tt te σc D H1 Q := by
  refine ⟨fun i m ys σ H => m = n - i ∧ i ≤ n ∧ ys.length ≤ i ∧ S σ ∧ Same H1 H ∧ H D = some (.lst ys) ∧ Φ i ys (hid D H), ⟨n, by simp, Nat.zero_le _, Nat.le_refl _, s0, (Same.refl H1).updD hD, upd_same, by rw [hid_upd, hid_none hD]; exact h0⟩, ?_⟩
  rintro i m ys σ H ⟨rfl, hi, hl, hS, sm, hDl, hΦ⟩
  refine ⟨by omega, ?_⟩
  obtain ⟨g1, g2, g3⟩ := hJ i H sm
  by_cases hlt : i < n
  · refine .inr ⟨g1 hlt, fun x H' y => ?_⟩
    obtain ⟨sy, ax⟩ := g3 x H' hlt y
    refine hs i x ys σ H' (fun v σ2 H4 => H4 D = some (.lst ys) ∧ ∃ m', m' < n - i ∧ _) (fun σ2 H3 => ∃ m', m' < n - i ∧ _) hlt ax hS (sm.trans sy) (sy _ _ hDl) (mono _ _ _ _ sy.hid hΦ) (fun v σ2 H4 s4 hS2 p4 => ?_) (fun σ2 H3 s3 hS2 p3 => ?_)
    · exact ⟨s4 _ _ (sy _ _ hDl), n - (i + 1), by omega, rfl, hlt, by rw [List.length_append, List.length_singleton]; omega, hS2, ((sm.trans sy).trans s4).updD hD, upd_same, by rw [hid_upd]; exact p4⟩
    · exact ⟨n - (i + 1), by omega, rfl, hlt, by omega, hS2, (sm.trans sy).trans s3, s3 _ _ (sy _ _ hDl), p3⟩
  · have e : i = n := by omega
    subst e
    exact .inl ⟨g2 (Nat.le_refl _), hq ys H sm hDl hl hΦ⟩
end L2
namespace L2
open PySem
theorem pg_tupC {X : Cx} {Nc : List Str} {sc : Scope} {s₂ : Shared} {H₂ : Hp} {C : Addr} {fp : List Addr} {ts : List Expr} {k : Nat} {p : Pos} {n : Nat} {t : TGs} (hc : (cxC X Nc sc s₂ H₂ C fp).calm = true) (h : PGs (cxC X Nc sc s₂ H₂ C fp) ts t)
    (hn : (assignEach ts (cxC X Nc sc s₂ H₂ C fp).env).length = n := by rfl) (hst : (assignEach ts (cxC X Nc sc s₂ H₂ C fp).env).findIdx? (·.1) = none := by rfl) : PG (cxC X Nc sc s₂ H₂ C fp) (.Tuple ts k p) (gTup X.K n t) := pg_tup hc h hn hst
end L2
namespace L2
open PySem PySem.Spec PyProof.Rows
section
variable {X : Cx}
end
noncomputable def rowT : Bool → String
  | true => "tuple"
  | false => "list"
noncomputable def rowI : Bool → String
  | true => "tuple_iterator"
  | false => "list_iterator"
noncomputable def RAt (t : Bool) (h : Heap) (l : Addr) (its : Array Value) : Prop := ∃ o, h.get? l = some o ∧ o.cls = .type (rowT t) ∧ ∃ n, o.data = .seq its n
noncomputable def RIt (t : Bool) (h : Heap) (j l : Addr) (i : Nat) : Prop := ∃ o, h.get? j = some o ∧ o.cls = .type (rowI t) ∧ o.data = .fields #[.ref l, .int i 0]
section
variable {t : Bool} {h h' : Heap} {j l : Addr} {i : Nat} {its : Array Value}
theorem RAt.at (x : RAt t h l its) (k : ∀ o, h.get? l = some o → h'.get? l = some o) : RAt t h' l its := by
  obtain ⟨o, ho, r⟩ := x
  exact ⟨o, k o ho, r⟩
theorem RIt.at (x : RIt t h j l i) (k : ∀ o, h.get? j = some o → h'.get? j = some o) : RIt t h' j l i := by
  obtain ⟨o, ho, r⟩ := x
  exact ⟨o, k o ho, r⟩
theorem RIt.lt (x : RIt t h j l i) : j < h.objs.size := by
  obtain ⟨o, ho, _⟩ := x
  exact Heap.lt_size ho
theorem RAt.lt (x : RAt t h l its) : l < h.objs.size := by
  obtain ⟨o, ho, _⟩ := x
  exact Heap.lt_size ho
end
section
variable {P : Program} {w : World} {A : Around} {E : Value → Shared → Prop} {s : Shared} {t : Bool} {j l : Addr} {i : Nat} {its : Array Value}
theorem row_item {x : Value} {Q : Value → Shared → Prop} (gj : RIt t s.heap j l i) (g : RAt t s.heap l its) (e : its[i]? = some x)
    (q : ∀ h', RIt t h' j l (i + 1) → Heap.SameBut j s.heap h' → Q x { s with heap := h' }) : wpAny (model P w) A (Builtin.SmallTypes.nextOf (.ref j)) Q E s := by
  cases t with
  | false => exact wpAny_nextOf_list_item gj g e q
  | true =>
    have gi : s.heap.IsTupleIter j l i := gj
    obtain ⟨oj, hoj, hcj, hdj⟩ := gj
    obtain ⟨om, hom, _, nm, hdm⟩ := g
    unfold Builtin.SmallTypes.nextOf
    refine wpAny_bind (wpAny_callSpecial?_slot (name := Str.ofString "__next__") gi.typeIs F.slot_tuple_iterator_next (wpAny_call_entry F.slot_tuple_iterator_next gi.typeIs F.entry_tuple_iterator_next ?_ (F.args_tuple_iterator_next_1 _)))
    show wpAny _ _ (field (.ref j) 0 >>= _) _ _ s
    refine wpAny_bind (wpAny_field hoj hdj (x := .ref l) rfl ?_)
    show wpAny _ A.in1 (if (Value.ref l == Value.none) = true then _ else _) _ _ s
    rw [if_neg (by exact Bool.false_ne_true)]
    show wpAny _ _ (field (.ref j) 1 >>= _) _ _ s
    refine wpAny_bind (wpAny_field hoj hdj (x := .int i 0) rfl ?_)
    show wpAny _ A.in1 (seqItems? (.ref l) >>= _) _ _ s
    refine wpAny_bind (wpAny_seqItems hom hdm ?_)
    simp only [Int.toNat_natCast, e]
    refine wpAny_bind (wpAny_setField hoj hdj (by simp) (wpAny_pure ⟨x, rfl, wpAny_pure (q _ ?_ (Heap.SameBut.update ..))⟩))
    refine ⟨_, Heap.get?_update_self _ hoj (Obj.isFreed_of_fields (Obj.data_mapFields hdj _)), (Obj.cls_mapFields ..).trans hcj, ?_⟩
    rw [Obj.data_mapFields hdj]
    simp [rawInt]
theorem row_end {Q : Value → Shared → Prop} (hh : A.handled = none) (gj : RIt t s.heap j l i) (g : RAt t s.heap l its) (e : its[i]? = none)
    (q : ∀ h' x, Heap.ExtBut j s.heap h' → (∃ o, h'.get? x = some o ∧ o.cls = .type "StopIteration") → E (.ref x) { s with heap := h' }) : wpAny (model P w) A (Builtin.SmallTypes.nextOf (.ref j)) Q E s := by
  cases t with
  | false => exact wpAny_nextOf_list_end hh gj g e q
  | true =>
    have gi : s.heap.IsTupleIter j l i := gj
    obtain ⟨oj, hoj, hcj, hdj⟩ := gj
    obtain ⟨om, hom, _, nm, hdm⟩ := g
    unfold Builtin.SmallTypes.nextOf
    refine wpAny_bind (wpAny_callSpecial?_slot (name := Str.ofString "__next__") gi.typeIs F.slot_tuple_iterator_next (wpAny_call_entry F.slot_tuple_iterator_next gi.typeIs F.entry_tuple_iterator_next ?_ (F.args_tuple_iterator_next_1 _)))
    show wpAny _ _ (field (.ref j) 0 >>= _) _ _ s
    refine wpAny_bind (wpAny_field hoj hdj (x := .ref l) rfl ?_)
    show wpAny _ A.in1 (if (Value.ref l == Value.none) = true then _ else _) _ _ s
    rw [if_neg (by exact Bool.false_ne_true)]
    show wpAny _ _ (field (.ref j) 1 >>= _) _ _ s
    refine wpAny_bind (wpAny_field hoj hdj (x := .int i 0) rfl ?_)
    show wpAny _ A.in1 (seqItems? (.ref l) >>= _) _ _ s
    refine wpAny_bind (wpAny_seqItems hom hdm ?_)
    simp only [Int.toNat_natCast, e]
    refine wpAny_bind (wpAny_rule (wpAny_bind (wpAny_setField hoj hdj (by simp) ?_)))
    show wpAny _ A.in1 (newExc (.type "StopIteration") [] >>= _) _ _ _
    refine wpAny_bind ?_
    simp only [newExc, newTuple]
    refine wpAny_bind (wpAny_newObj_type ?_ (by size_fits))
    refine wpAny_bind (m := firstArgMember _ _) (wpAny_of_eq (a := Value.none) (by first | rfl | (simp only [firstArgMember]; rfl)) ?_)
    refine wpAny_newObj_type ?_ (by size_fits)
    refine wpAny_raiseNew_none (show A.in1.handled = none from hh) ?_
    exact q _ _ (((Heap.SameBut.update ..).extBut.push _).push _) ⟨_, Heap.get?_push_size _ rfl, rfl⟩
end
noncomputable def zc1 (t : Bool) (h : Heap) (l : Addr) : Heap := h.push { cls := .type (rowI t), data := .fields #[.ref l, .int 0 0] }
noncomputable def zc3 (t : Bool) (h : Heap) (l m : Addr) : Heap := (zc1 t (zc1 t h l) m).push { cls := .type "tuple", data := .seq #[.ref h.objs.size, .ref (zc1 t h l).objs.size] }
noncomputable def zc4 (t : Bool) (h : Heap) (l m : Addr) : Heap := (zc3 t h l m).push { cls := .type "tuple", data := .seq #[.none, .none] }
noncomputable def zc5 (t : Bool) (h : Heap) (l m : Addr) : Heap :=
  (zc4 t h l m).push { cls := .type "zip", data := .fields #[.none, .bool false, .bool false, .ref (zc1 t (zc1 t h l) m).objs.size, .ref (zc3 t h l m).objs.size] }
theorem zip_new (l m : Addr) (xs ys : Array Value) :
    Meets (Builtin.«zip.__new__» ⟨[.type "zip", .ref l, .ref m], []⟩) (fun _ R s => s.heap.IsTuple l xs ∧ s.heap.IsTuple m ys ∧ R (.ok (.ret (.ref (zc4 true s.heap l m).objs.size))) { s with heap := zc5 true s.heap l m }) :=
  .of_wp fun P w A R s hs => by
    obtain ⟨hp, g, d, tk, os⟩ := s
    obtain ⟨g1, g2, q⟩ := hs
    have sb := sub_zip
    have k1 : Heap.IsTuple (Shared.heap ⟨hp, g, d, tk, os⟩) l xs := g1
    have k2 : Heap.IsTuple (Shared.heap ⟨hp.push { cls := .type "tuple_iterator", data := .fields #[.ref l, .int 0 0] }, g, d, tk, os⟩) m ys := Heap.IsTuple.push g2 _
    wp_walk using wpAny_pyIter_tuple k1, wpAny_pyIter_tuple k2
    exact ⟨_, rfl, q⟩
end L2
namespace L2
open PySem PySem.Spec PyProof.Rows
section
variable {P : Program} {w : World} {A : Around} {E : Value → Shared → Prop} {s : Shared} {t : Bool} {l m : Addr} {xs ys : Array Value}
theorem zip_made {Q : Value → Shared → Prop} (g1 : RAt t s.heap l xs) (g2 : RAt t s.heap m ys)
    (q : ∀ h', IsZip h' (s.heap.objs.size + 4) (s.heap.objs.size + 2) (s.heap.objs.size + 3) .none → IsPair h' (s.heap.objs.size + 2) (.ref s.heap.objs.size) (.ref (s.heap.objs.size + 1)) → IsPair h' (s.heap.objs.size + 3) .none .none →
      RIt t h' s.heap.objs.size l 0 → RIt t h' (s.heap.objs.size + 1) m 0 → h'.objs.size = s.heap.objs.size + 5 → (∀ b o, s.heap.get? b = some o → h'.get? b = some o) → Q (.ref (s.heap.objs.size + 4)) { s with heap := h' }) :
    wpAny (model P w) A (call (.type "zip") [.ref l, .ref m]) Q E s := by
  cases t with
  | false => exact call_zip_2 g1 g2 q
  | true =>
    refine callType_new F.called_zip (by decide) (F.typeCall_zip_2 _ _) (F.newCall_zip_2 _ _) (fun z => F.args_object_init_3 z _ _) F.entry_zip_new (zip_new l m xs ys) ⟨g1, g2, ?_⟩
    have n1 : (zc1 true s.heap l).objs.size = s.heap.objs.size + 1 := Heap.size_push ..
    have n2 : (zc1 true (zc1 true s.heap l) m).objs.size = s.heap.objs.size + 2 := (Heap.size_push ..).trans (congrArg (· + 1) n1)
    have n3 : (zc3 true s.heap l m).objs.size = s.heap.objs.size + 3 := (Heap.size_push ..).trans (congrArg (· + 1) n2)
    have n4 : (zc4 true s.heap l m).objs.size = s.heap.objs.size + 4 := (Heap.size_push ..).trans (congrArg (· + 1) n3)
    have n5 : (zc5 true s.heap l m).objs.size = s.heap.objs.size + 5 := (Heap.size_push ..).trans (congrArg (· + 1) n4)
    have u45 : ∀ {b o}, (zc4 true s.heap l m).get? b = some o → (zc5 true s.heap l m).get? b = some o := fun z => Heap.get?_push_of_some _ z
    have u35 : ∀ {b o}, (zc3 true s.heap l m).get? b = some o → (zc5 true s.heap l m).get? b = some o := fun z => u45 (Heap.get?_push_of_some _ z)
    have u25 : ∀ {b o}, (zc1 true (zc1 true s.heap l) m).get? b = some o → (zc5 true s.heap l m).get? b = some o := fun z => u35 (Heap.get?_push_of_some _ z)
    have u15 : ∀ {b o}, (zc1 true s.heap l).get? b = some o → (zc5 true s.heap l m).get? b = some o := fun z => u25 (Heap.get?_push_of_some _ z)
    have e5 : (zc5 true s.heap l m).get? (zc4 true s.heap l m).objs.size = some _ := Heap.get?_push_size _ rfl
    have e4 : (zc5 true s.heap l m).get? (zc3 true s.heap l m).objs.size = some _ := u45 (Heap.get?_push_size _ rfl)
    have e3 : (zc5 true s.heap l m).get? (zc1 true (zc1 true s.heap l) m).objs.size = some _ := u35 (Heap.get?_push_size _ rfl)
    have e2 : (zc5 true s.heap l m).get? (zc1 true s.heap l).objs.size = some _ := u25 (Heap.get?_push_size _ rfl)
    have e1 : (zc5 true s.heap l m).get? s.heap.objs.size = some _ := u15 (Heap.get?_push_size _ rfl)
    show _ ∧ _
    rw [n2, n3, n4] at e5
    rw [n1, n2] at e3
    rw [n3] at e4
    rw [n1] at e2
    rw [n4]
    exact ⟨⟨_, e5, rfl⟩, q _ e5 e3 e4 ⟨_, e1, rfl, rfl⟩ ⟨_, e2, rfl, rfl⟩ n5 fun b o z => u15 (Heap.get?_push_of_some _ z)⟩
structure Zp (t : Bool) (h : Heap) (z c d j k l m : Addr) (f : Value) (i : Nat) : Prop where
  z : IsZip h z c d f
  c : IsPair h c (.ref j) (.ref k)
  d : ∃ a b, IsPair h d a b
  j : RIt t h j l i
  k : RIt t h k m i
theorem RIt.but {h h' : Heap} {j l b : Addr} {i : Nat} (x : RIt t h j l i) (e : Heap.ExtBut b h h') (n : j ≠ b) : RIt t h' j l i := x.at fun o q => e j o n q
theorem RAt.but {h h' : Heap} {b : Addr} (x : RAt t h l xs) (e : Heap.ExtBut b h h') (n : l ≠ b) : RAt t h' l xs := x.at fun o q => e l o n q
theorem zip_item {z c d j k : Addr} {i : Nat} {x y : Value} {Q : Value → Shared → Prop} (D : ZipApart z c d j k l m) (g : Zp t s.heap z c d j k l m .none i) (g1 : RAt t s.heap l xs) (g2 : RAt t s.heap m ys) (ex : xs[i]? = some x) (ey : ys[i]? = some y)
    (q : ∀ h', Zp t h' z c d j k l m (rawInt s.heap.objs.size) (i + 1) → IsPair h' s.heap.objs.size x y → h'.objs.size = s.heap.objs.size + 1 → (∀ b o, b ∉ [z, d, j, k] → s.heap.get? b = some o → h'.get? b = some o) → Q (.ref s.heap.objs.size) { s with heap := h' }) :
    wpAny (model P w) A (Builtin.«zip.__next__» ⟨[.ref z], []⟩) (fun fin s' => ∃ v, fin = .done (.ret v) ∧ Q v s') E s := by
  obtain ⟨gz, gc, ⟨p, r, gd⟩, gj, gk⟩ := g
  show wpAny _ A (field (.ref z) 2 >>= _) _ _ _
  refine wpAny_bind (wpAny_field gz rfl (x := .bool false) rfl ?_)
  show wpAny _ A (field (.ref z) 3 >>= _) _ _ _
  refine wpAny_bind (wpAny_field gz rfl (x := .ref c) rfl ?_)
  refine wpAny_bind (wpAny_seqItems gc rfl ?_)
  show wpAny _ A (Builtin.SmallTypes.ownedTupleIsFree (.ref z) >>= _) _ _ _
  refine wpAny_bind ?_
  unfold Builtin.SmallTypes.ownedTupleIsFree
  refine wpAny_bind (wpAny_field gz rfl (x := .none) rfl (wpAny_pure ?_))
  simp only [if_true]
  refine wpAny_bind (wpAny_rule ?_)
  refine wpAny_bind (wpAny_field gz rfl (x := .ref d) rfl ?_)
  refine wpAny_bind (wpAny_setField_rec gz (by simp) fun h1 z1 a1 => ?_)
  replace z1 : IsZip h1 z c d .ellipsis := z1
  refine wpAny_bind ?_
  simp only [List.zipIdx_cons, List.zipIdx_nil, List.forIn_cons, List.forIn_nil]
  refine wpAny_bind (wpAny_bind (wpAny_onRaise ?_))
  show wpAny _ A (Builtin.SmallTypes.nextOf (.ref j) >>= _) _ _ _
  refine wpAny_bind (row_item (gj.but a1.extBut D.i1z) (g1.but a1.extBut D.l1z) ex fun h2 j2 a2 => wpAny_pure ?_)
  have d2 : IsPair h2 d p r := a2.extBut _ _ D.TOi1 (a1.extBut _ _ D.TOz gd)
  refine wpAny_bind (wpAny_seqItems d2 rfl ?_)
  refine wpAny_bind (wpAny_updateSeq_pair d2 fun h3 d3 a3 => ?_)
  replace d3 : IsPair h3 d x r := d3
  refine wpAny_bind (wpAny_letGo (wpAny_pure ?_))
  refine wpAny_bind (wpAny_bind (wpAny_onRaise ?_))
  show wpAny _ A (Builtin.SmallTypes.nextOf (.ref k) >>= _) _ _ _
  refine wpAny_bind (row_item (((gk.but a1.extBut D.i2z).but a2.extBut D.i12.symm).but a3.extBut D.TOi2.symm) (((g2.but a1.extBut D.l2z).but a2.extBut D.l2i1).but a3.extBut D.l2TO) ey fun h4 k4 a4 => wpAny_pure ?_)
  have d4 : IsPair h4 d x r := a4.extBut _ _ D.TOi2 d3
  refine wpAny_bind (wpAny_seqItems d4 rfl ?_)
  refine wpAny_bind (wpAny_updateSeq_pair d4 fun h5 d5 a5 => ?_)
  replace d5 : IsPair h5 d x y := d5
  refine wpAny_bind (wpAny_letGo (wpAny_pure (wpAny_pure ?_)))
  refine wpAny_bind (wpAny_seqItems d5 rfl ?_)
  refine wpAny_bind (wpAny_newTuple ?_)
  have e5 : h5.objs.size = s.heap.objs.size := by rw [a5.1, a4.1, a3.1, a2.1, a1.1]
  have z5 : IsZip h5 z c d .ellipsis := a5.extBut _ _ D.TOz.symm (a4.extBut _ _ D.i2z.symm (a3.extBut _ _ D.TOz.symm (a2.extBut _ _ D.i1z.symm z1)))
  have k5 : ∀ b o, b ≠ z → b ≠ d → b ≠ j → b ≠ k → s.heap.get? b = some o → h5.get? b = some o := fun b o b1 b2 b3 b4 e =>
    a5.extBut _ _ b2 (a4.extBut _ _ b4 (a3.extBut _ _ b2 (a2.extBut _ _ b3 (a1.extBut _ _ b1 e))))
  have j5 : RIt t h5 j l (i + 1) := ((j2.but a3.extBut D.TOi1.symm).but a4.extBut D.i12).but a5.extBut D.TOi1.symm
  have m5 : RIt t h5 k m (i + 1) := k4.but a5.extBut D.TOi2.symm
  have zl : z < h5.objs.size := Heap.lt_size z5
  show wpAny _ A (Builtin.SmallTypes.ownedTupleHandOut (.ref z) (.ref h5.objs.size) >>= _) _ _ _
  refine wpAny_bind ?_
  unfold Builtin.SmallTypes.ownedTupleHandOut
  have z6 : IsZip (h5.push { cls := .type "tuple", data := .seq #[x, y] }) z c d .ellipsis := Heap.get?_push_of_some _ z5
  refine wpAny_bind (wpAny_setField_rec z6 (by simp) fun h7 z7 a7 => ?_)
  replace z7 : IsZip h7 z c d (rawInt h5.objs.size) := z7
  refine wpAny_setField_rec z7 (by simp) fun h8 z8 a8 => ?_
  replace z8 : IsZip h8 z c d (rawInt h5.objs.size) := z8
  have up : ∀ b o, b ≠ z → h5.get? b = some o → h8.get? b = some o := fun b o b1 e => a8.extBut _ _ b1 (a7.extBut _ _ b1 (Heap.get?_push_of_some _ e))
  have t8 : IsPair h8 h5.objs.size x y := a8.extBut _ _ (Nat.ne_of_gt zl) (a7.extBut _ _ (Nat.ne_of_gt zl) (Heap.get?_push_size _ rfl))
  have e8 : h8.objs.size = h5.objs.size + 1 := by rw [a8.1, a7.1, Heap.size_push]
  rw [e5] at z8 t8 e8
  refine wpAny_pure ⟨_, rfl, ?_⟩
  show Q (.ref h5.objs.size) _
  rw [e5]
  refine q h8 ⟨z8, up _ _ D.TIz (k5 _ _ D.TIz D.TITO D.TIi1 D.TIi2 gc), ⟨x, y, up _ _ D.TOz d5⟩, j5.at fun o e => up _ o D.i1z e, m5.at fun o e => up _ o D.i2z e⟩ t8 e8 fun b o hb e => ?_
  simp only [List.mem_cons, List.not_mem_nil, or_false, not_or] at hb
  exact up b o hb.1 (k5 b o hb.1 hb.2.1 hb.2.2.1 hb.2.2.2 e)
theorem zip_stop {z c d j k : Addr} {i : Nat} {Q : Fin → Shared → Prop} (hh : A.handled = none) (D : ZipApart z c d j k l m) (g : Zp t s.heap z c d j k l m .none i) (g1 : RAt t s.heap l xs) (ex : xs[i]? = none)
    (q : ∀ h' e, (∀ b o, b ∉ [z, d, j, k] → s.heap.get? b = some o → h'.get? b = some o) → (∃ o, h'.get? e = some o ∧ o.cls = .type "StopIteration") → E (.ref e) { s with heap := h' }) :
    wpAny (model P w) A (Builtin.«zip.__next__» ⟨[.ref z], []⟩) Q E s := by
  obtain ⟨gz, gc, ⟨p, r, gd⟩, gj, gk⟩ := g
  show wpAny _ A (field (.ref z) 2 >>= _) _ _ _
  refine wpAny_bind (wpAny_field gz rfl (x := .bool false) rfl ?_)
  show wpAny _ A (field (.ref z) 3 >>= _) _ _ _
  refine wpAny_bind (wpAny_field gz rfl (x := .ref c) rfl ?_)
  refine wpAny_bind (wpAny_seqItems gc rfl ?_)
  show wpAny _ A (Builtin.SmallTypes.ownedTupleIsFree (.ref z) >>= _) _ _ _
  refine wpAny_bind ?_
  unfold Builtin.SmallTypes.ownedTupleIsFree
  refine wpAny_bind (wpAny_field gz rfl (x := .none) rfl (wpAny_pure ?_))
  simp only [if_true]
  refine wpAny_bind (wpAny_rule ?_)
  refine wpAny_bind (wpAny_field gz rfl (x := .ref d) rfl ?_)
  refine wpAny_bind (wpAny_setField_rec gz (by simp) fun h1 z1 a1 => ?_)
  replace z1 : IsZip h1 z c d .ellipsis := z1
  refine wpAny_bind ?_
  simp only [List.zipIdx_cons, List.zipIdx_nil, List.forIn_cons, List.forIn_nil]
  refine wpAny_bind (wpAny_bind (wpAny_onRaise ?_))
  show wpAny _ A (Builtin.SmallTypes.nextOf (.ref j) >>= _) _ _ _
  refine wpAny_bind (row_end hh (gj.but a1.extBut D.i1z) (g1.but a1.extBut D.l1z) ex fun h2 e a2 he => ?_)
  obtain ⟨oe, hoe, hce⟩ := he
  have z2 : IsZip h2 z c d .ellipsis := a2 _ _ D.i1z.symm z1
  have ne : e ≠ z := fun x => by subst x; rw [z2] at hoe; cases hoe; simp at hce
  refine wpAny_setField_rec z2 (by simp) fun h3 _ a3 => q h3 e (fun b o hb x => ?_) ⟨oe, a3.extBut _ _ ne hoe, hce⟩
  simp only [List.mem_cons, List.not_mem_nil, or_false, not_or] at hb
  exact a3.extBut _ _ hb.1 (a2 _ _ hb.2.2.1 (a1.extBut _ _ hb.1 x))
theorem zip_stop2 {z c d j k : Addr} {i : Nat} {x : Value} {Q : Fin → Shared → Prop} (hh : A.handled = none) (D : ZipApart z c d j k l m) (g : Zp t s.heap z c d j k l m .none i) (g1 : RAt t s.heap l xs) (g2 : RAt t s.heap m ys) (ex : xs[i]? = some x) (ey : ys[i]? = none)
    (q : ∀ h' e, (∀ b o, b ∉ [z, d, j, k] → s.heap.get? b = some o → h'.get? b = some o) → (∃ o, h'.get? e = some o ∧ o.cls = .type "StopIteration") → E (.ref e) { s with heap := h' }) :
    wpAny (model P w) A (Builtin.«zip.__next__» ⟨[.ref z], []⟩) Q E s := by
  obtain ⟨gz, gc, ⟨p, r, gd⟩, gj, gk⟩ := g
  show wpAny _ A (field (.ref z) 2 >>= _) _ _ _
  refine wpAny_bind (wpAny_field gz rfl (x := .bool false) rfl ?_)
  show wpAny _ A (field (.ref z) 3 >>= _) _ _ _
  refine wpAny_bind (wpAny_field gz rfl (x := .ref c) rfl ?_)
  refine wpAny_bind (wpAny_seqItems gc rfl ?_)
  show wpAny _ A (Builtin.SmallTypes.ownedTupleIsFree (.ref z) >>= _) _ _ _
  refine wpAny_bind ?_
  unfold Builtin.SmallTypes.ownedTupleIsFree
  refine wpAny_bind (wpAny_field gz rfl (x := .none) rfl (wpAny_pure ?_))
  simp only [if_true]
  refine wpAny_bind (wpAny_rule ?_)
  refine wpAny_bind (wpAny_field gz rfl (x := .ref d) rfl ?_)
  refine wpAny_bind (wpAny_setField_rec gz (by simp) fun h1 z1 a1 => ?_)
  replace z1 : IsZip h1 z c d .ellipsis := z1
  refine wpAny_bind ?_
  simp only [List.zipIdx_cons, List.zipIdx_nil, List.forIn_cons, List.forIn_nil]
  refine wpAny_bind (wpAny_bind (wpAny_onRaise ?_))
  show wpAny _ A (Builtin.SmallTypes.nextOf (.ref j) >>= _) _ _ _
  refine wpAny_bind (row_item (gj.but a1.extBut D.i1z) (g1.but a1.extBut D.l1z) ex fun h2 j2 a2 => wpAny_pure ?_)
  have d2 : IsPair h2 d p r := a2.extBut _ _ D.TOi1 (a1.extBut _ _ D.TOz gd)
  refine wpAny_bind (wpAny_seqItems d2 rfl ?_)
  refine wpAny_bind (wpAny_updateSeq_pair d2 fun h3 d3 a3 => ?_)
  replace d3 : IsPair h3 d x r := d3
  refine wpAny_bind (wpAny_letGo (wpAny_pure ?_))
  refine wpAny_bind (wpAny_bind (wpAny_onRaise ?_))
  show wpAny _ A (Builtin.SmallTypes.nextOf (.ref k) >>= _) _ _ _
  refine wpAny_bind (row_end hh (((gk.but a1.extBut D.i2z).but a2.extBut D.i12.symm).but a3.extBut D.TOi2.symm) (((g2.but a1.extBut D.l2z).but a2.extBut D.l2i1).but a3.extBut D.l2TO) ey fun h4 e a4 he => ?_)
  obtain ⟨oe, hoe, hce⟩ := he
  have z4 : IsZip h4 z c d .ellipsis := a4 _ _ D.i2z.symm (a3.extBut _ _ D.TOz.symm (a2.extBut _ _ D.i1z.symm z1))
  have ne : e ≠ z := fun x => by subst x; rw [z4] at hoe; cases hoe; simp at hce
  refine wpAny_setField_rec z4 (by simp) fun h5 _ a5 => q h5 e (fun b o hb x => ?_) ⟨oe, a5.extBut _ _ ne hoe, hce⟩
  simp only [List.mem_cons, List.not_mem_nil, or_false, not_or] at hb
  exact a5.extBut _ _ hb.1 (a4 _ _ hb.2.2.2 (a3.extBut _ _ hb.2.1 (a2.extBut _ _ hb.2.2.1 (a1.extBut _ _ hb.1 x))))
theorem next_zip {z c d j k : Addr} {i : Nat} {x y : Value} {Q : Option Value → Shared → Prop} (D : ZipApart z c d j k l m) (g : Zp t s.heap z c d j k l m .none i) (g1 : RAt t s.heap l xs) (g2 : RAt t s.heap m ys) (ex : xs[i]? = some x) (ey : ys[i]? = some y)
    (q : ∀ h', Zp t h' z c d j k l m (rawInt s.heap.objs.size) (i + 1) → IsPair h' s.heap.objs.size x y → h'.objs.size = s.heap.objs.size + 1 → (∀ b o, b ∉ [z, d, j, k] → s.heap.get? b = some o → h'.get? b = some o) → Q (some (.ref s.heap.objs.size)) { s with heap := h' }) :
    wpAny (model P w) A (pyNext (.ref z)) Q E s := by
  have ty : s.TypeIs (.ref z) "zip" := ⟨_, g.z, rfl⟩
  unfold pyNext
  refine wpAny_bind (wpAny_attempt (wpAny_callSpecial?_slot (name := Str.ofString "__next__") ty F.slot_zip_next (wpAny_call_entry F.slot_zip_next ty F.entry_zip_next ?_ (F.args_zip_next_1 _))))
  exact zip_item D g g1 g2 ex ey fun h' b1 b2 b3 b4 => wpAny_pure (q h' b1 b2 b3 b4)
theorem next_stop {z c d j k : Addr} {i : Nat} {Q : Option Value → Shared → Prop} (hh : A.handled = none) (D : ZipApart z c d j k l m) (g : Zp t s.heap z c d j k l m .none i) (g1 : RAt t s.heap l xs) (ex : xs[i]? = none)
    (q : ∀ h', (∀ b o, b ∉ [z, d, j, k] → s.heap.get? b = some o → h'.get? b = some o) → Q none { s with heap := h' }) : wpAny (model P w) A (pyNext (.ref z)) Q E s := by
  have ty : s.TypeIs (.ref z) "zip" := ⟨_, g.z, rfl⟩
  unfold pyNext
  refine wpAny_bind (wpAny_attempt (wpAny_callSpecial?_slot (name := Str.ofString "__next__") ty F.slot_zip_next (wpAny_call_entry F.slot_zip_next ty F.entry_zip_next ?_ (F.args_zip_next_1 _))))
  refine zip_stop hh D g g1 ex fun h' e hk he => ?_
  obtain ⟨o, ho, hc⟩ := he
  refine wpAny_bind (wpAny_isInstance (T := "StopIteration") (b := true) ⟨o, ho, hc⟩ isSubtype_stop ?_)
  exact wpAny_pure (q _ hk)
theorem next_stop2 {z c d j k : Addr} {i : Nat} {x : Value} {Q : Option Value → Shared → Prop} (hh : A.handled = none) (D : ZipApart z c d j k l m) (g : Zp t s.heap z c d j k l m .none i) (g1 : RAt t s.heap l xs) (g2 : RAt t s.heap m ys) (ex : xs[i]? = some x) (ey : ys[i]? = none)
    (q : ∀ h', (∀ b o, b ∉ [z, d, j, k] → s.heap.get? b = some o → h'.get? b = some o) → Q none { s with heap := h' }) : wpAny (model P w) A (pyNext (.ref z)) Q E s := by
  have ty : s.TypeIs (.ref z) "zip" := ⟨_, g.z, rfl⟩
  unfold pyNext
  refine wpAny_bind (wpAny_attempt (wpAny_callSpecial?_slot (name := Str.ofString "__next__") ty F.slot_zip_next (wpAny_call_entry F.slot_zip_next ty F.entry_zip_next ?_ (F.args_zip_next_1 _))))
  refine zip_stop2 hh D g g1 g2 ex ey fun h' e hk he => ?_
  obtain ⟨o, ho, hc⟩ := he
  refine wpAny_bind (wpAny_isInstance (T := "StopIteration") (b := true) ⟨o, ho, hc⟩ isSubtype_stop ?_)
  exact wpAny_pure (q _ hk)
end
end L2
namespace L2
open PySem PySem.Spec PyProof.Rows
noncomputable def Sq (t : Bool) (K : PySem.W.Frag) (H : Hp) (a : Addr) (xs : List V) : Prop :=
  match t with
  | true => SqT K H a xs
  | false => SqL K H a xs
section
variable {X : Cx} {pins : List (Addr × Obj)} {σ : St} {H : Hp} {s : Shared} {t : Bool} {a : Addr} {xs ys : List V}
theorem Inv.row (I : Inv X pins σ H s) (h : Sq t X.K H a xs) : ∃ its : List Value, Vals xs its ∧ RAt t s.heap a its.toArray ∧ xs.length ≤ sizeLine := by
  cases t with
  | true => exact I.tuple h
  | false =>
    obtain ⟨its, r, p, z⟩ := I.list h
    exact ⟨its, r, p.isList, z⟩
theorem Inv.row_inj (I : Inv X pins σ H s) (h : Sq t X.K H a xs) (h' : Sq t X.K H a ys) : xs = ys := by
  cases t with
  | true => exact I.tuple_inj h h'
  | false => exact I.list_inj h h'
end
noncomputable def Itz (t : Bool) (K : PySem.W.Frag) (a b : Addr) : It :=
  ⟨fun i H => ∃ xs ys x y, Sq t K H a xs ∧ Sq t K H b ys ∧ xs[i]? = some x ∧ ys[i]? = some y,
   fun i H v H' => ∃ T x y, v = .ref T ∧ H T = none ∧ H' = upd H T (.tup [x, y]) ∧ (∀ xs, Sq t K H a xs → xs[i]? = some x) ∧ ∀ ys, Sq t K H b ys → ys[i]? = some y,
   fun i H => (∃ xs, Sq t K H a xs ∧ xs.length ≤ i) ∨ ∃ xs ys, Sq t K H a xs ∧ Sq t K H b ys ∧ i < xs.length ∧ ys.length ≤ i⟩
theorem turn_zip {P : Program} {w : World} {K : PySem.W.Frag} {es : List Expr} {n : Nat} {pos : Pos} {t : Bool} (a b z c d j k : Addr) (D : ZipApart z c d j k a b) :
    Turn P w K (.Tuple es n pos) (Itz t K a b) [z, c, d, j, k] z (fun i h => Zp t h z c d j k a b .none i) where
  mem := by simp
  obj := fun i h st b' hb => by
    obtain ⟨g1, g2, ⟨p, r, g3⟩, ⟨oj, ej, cj, dj⟩, ⟨ok, ek, ck, dk⟩⟩ := st
    simp only [List.mem_cons, List.not_mem_nil, or_false] at hb
    rcases hb with rfl | rfl | rfl | rfl | rfl
    · exact ⟨_, g1, fun v q => by cases (show Data.fields _ = Data.cell v from q)⟩
    · exact ⟨_, g2, fun v q => by cases (show Data.seq _ _ = Data.cell v from q)⟩
    · exact ⟨_, g3, fun v q => by cases (show Data.seq _ _ = Data.cell v from q)⟩
    · exact ⟨_, ej, fun v q => by rw [dj] at q; cases q⟩
    · exact ⟨_, ek, fun v q => by rw [dk] at q; cases q⟩
  keep := fun i h h' st kp => by
    obtain ⟨g1, g2, ⟨p, r, g3⟩, gj, gk⟩ := st
    exact ⟨kp z (by simp) _ g1, kp c (by simp) _ g2, ⟨p, r, kp d (by simp) _ g3⟩, gj.at fun o q => kp j (by simp) o q, gk.at fun o q => kp k (by simp) o q⟩
  item := by
    intro X hP hw hK hc i pins s σ H E I hf st hg
    subst hP hw hK
    obtain ⟨xs, ys, x, y, ha, hb, hx, hy⟩ := hg
    obtain ⟨is1, v1, r1, _⟩ := I.row ha
    obtain ⟨is2, v2, r2, _⟩ := I.row hb
    obtain ⟨u1, e1, q1⟩ := v1.get hx
    obtain ⟨u2, e2, q2⟩ := v2.get hy
    refine next_zip D st r1 r2 (x := u1) (y := u2) (by simpa using e1) (by simpa using e2) fun h1 zp hT hsz hk => ?_
    obtain ⟨g1, g2, ⟨p, r, g3⟩, gj, gk⟩ := zp
    refine ⟨_, rfl, wpAny_letOwnedTupleGo_zip g1 fun h2 z2 s2 => ?_⟩
    have zlt : z < s.heap.objs.size := Heap.lt_size st.z
    have hT2 : h2.get? s.heap.objs.size = some { cls := .type "tuple", data := .seq #[u1, u2] } := (s2.2 _ (Nat.ne_of_gt zlt)).trans hT
    have kk : ∀ b o, b ∉ [z, d, j, k] → s.heap.get? b = some o → h2.get? b = some o := fun b o hb q => (s2.2 b fun e => hb (by simp [e])).trans (hk b o hb q)
    have hf4 : ∀ b ∈ [z, d, j, k], FpOk X pins H b := fun b hb => hf b (by
      simp only [List.mem_cons, List.not_mem_nil, or_false] at hb ⊢
      rcases hb with h | h | h | h
      · exact .inl h
      · exact .inr (.inr (.inl h))
      · exact .inr (.inr (.inr (.inl h)))
      · exact .inr (.inr (.inr (.inr h))))
    have I2 : Inv X pins σ (upd H s.heap.objs.size (.tup [x, y])) { s with heap := h2, toks := s.toks } :=
      I.turnLaid (ch := [z, d, j, k]) kk hf4 (Nat.le_refl _) ⟨by simp only [List.length_cons, List.length_nil]; rw [sizeLine_eq]; decide, [u1, u2], .cons q1 (.cons q2 .nil), ⟨_, hT2, rfl, 0, rfl⟩⟩
    refine ⟨.ref s.heap.objs.size, _, I2, rfl, ⟨_, x, y, rfl, I.hok.fresh (Nat.le_refl _), rfl, fun xs' h' => by rw [I.row_inj h' ha]; exact hx, fun ys' h' => by rw [I.row_inj h' hb]; exact hy⟩, ?_, fun b' hb' => ?_⟩
    · have up : ∀ b, b ≠ z → ∀ o, h1.get? b = some o → h2.get? b = some o := fun b n o q => (s2.2 b n).trans q
      exact ⟨z2, up _ D.TIz _ g2, ⟨p, r, up _ D.TOz _ g3⟩, gj.at fun o q => up _ D.i1z o q, gk.at fun o q => up _ D.i2z o q⟩
    · have hlt : b' < s.heap.objs.size := by
        obtain ⟨s1, s2, ⟨_, _, s3⟩, s4, s5⟩ := st
        simp only [List.mem_cons, List.not_mem_nil, or_false] at hb'
        rcases hb' with rfl | rfl | rfl | rfl | rfl
        · exact zlt
        · exact Heap.lt_size s2
        · exact Heap.lt_size s3
        · exact s4.lt
        · exact s5.lt
      rw [upd_ne (Nat.ne_of_lt hlt)]
      exact (hf b' hb').1
  done := by
    intro X hP hw hK hc i pins s σ H E I hf st hg
    subst hP hw hK
    have fin : ∀ h1 : Heap, (∀ b o, b ∉ [z, d, j, k] → s.heap.get? b = some o → h1.get? b = some o) → Inv X pins σ H { s with heap := h1 } := fun h1 hk => by
      refine I.turnedN (t' := s.toks) (ch := [z, d, j, k]) hk fun b hb => hf b ?_
      simp only [List.mem_cons, List.not_mem_nil, or_false] at hb ⊢
      rcases hb with h | h | h | h
      · exact .inl h
      · exact .inr (.inr (.inl h))
      · exact .inr (.inr (.inr (.inl h)))
      · exact .inr (.inr (.inr (.inr h)))
    rcases hg with ⟨xs, ha, hl⟩ | ⟨xs, ys, ha, hb, hi, hl⟩
    · obtain ⟨is1, v1, r1, _⟩ := I.row ha
      have e := v1.length
      exact next_stop (I.ok.hd hc) D st r1 (by simp; omega) fun h1 hk => ⟨rfl, fin h1 hk⟩
    · obtain ⟨is1, v1, r1, _⟩ := I.row ha
      obtain ⟨is2, v2, r2, _⟩ := I.row hb
      have e := v1.length
      have e2 := v2.length
      obtain ⟨u, hu, _⟩ := v1.get (List.getElem?_eq_getElem hi)
      exact next_stop2 (I.ok.hd hc) D st r1 r2 (x := u) (by simpa using hu) (by simp; omega) fun h1 hk => ⟨rfl, fin h1 hk⟩
  self := fun _ _ _ _ _ st h => wpAny_pyIter_zip st.z h
section
variable {X : Cx}
noncomputable def iZip (K : PySem.W.Frag) (ta : TA) : TI := fun σ H R => ta σ H fun vs H1 => ∃ t a b xs ys, vs = [.ref a, .ref b] ∧ Sq t K H1 a xs ∧ Sq t K H1 b ys ∧ R (Itz t K a b) H1
theorem pi_zip {es : List Expr} {k : Nat} {e f : Expr} {ta : TA} {p p2 pos : Pos} (hg : Gl X "zip") (hm : X.mg "zip" = none) (ha : PA X [e, f] ta) (hs : starEach [e, f] X.env = (false, eval e X.env) :: starEach [f] X.env := by rfl) (hs2 : (backTo pos (starEach [f] X.env)).any (·.1) = false := by rfl) :
    PI X (.Tuple es k p2) (.Call (.Name "zip" p) [e, f] [] pos) (iZip X.K ta) := by
  intro pins s σ H R I h
  refine Call_ (ld_blt I hg hm boot_zip (PyProof.Rows.callWith_type1 (thn (ha pos pins s σ H _ I h) fun us s1 hq9 => AP.out hq9 fun vs H1 I1 r1 q1 => ?_) hs hs2))
  obtain ⟨t, a, b, xs, ys, e1, hA, hB, q⟩ := q1
  subst e1
  obtain ⟨u, v, rfl, ru, rv⟩ := vals2 r1
  cases (show u = Value.ref a from ru)
  cases (show v = Value.ref b from rv)
  obtain ⟨is1, v1, g1, _⟩ := I1.row hA
  obtain ⟨is2, v2, g2, _⟩ := I1.row hB
  refine zip_made g1 g2 fun h1 z1 z2 z3 z4 z5 hsz hk => ?_
  refine wpAny_pyIter_zip z1 ?_
  refine ⟨_, [s1.heap.objs.size + 4, s1.heap.objs.size + 2, s1.heap.objs.size + 3, s1.heap.objs.size, s1.heap.objs.size + 1], _, _, H1, rfl, I1.kept (t' := s1.toks) hk, turn_zip a b _ _ _ _ _ (zipApart_new g1.lt g2.lt), ⟨z1, z2, ⟨_, _, z3⟩, z4, z5⟩, fun b' hb' => ?_, q⟩
  have hle : s1.heap.objs.size ≤ b' := by
    simp only [List.mem_cons, List.not_mem_nil, or_false] at hb'
    rcases hb' with h | h | h | h | h
    · rw [h]; exact Nat.le_add_right _ _
    · rw [h]; exact Nat.le_add_right _ _
    · rw [h]; exact Nat.le_add_right _ _
    · rw [h]; exact Nat.le_refl _
    · rw [h]; exact Nat.le_add_right _ _
  exact I1.fpOk hle (I1.hok.fresh hle)
end
end L2
namespace L2
open PySem PySem.Spec PyProof.Rows
inductive KdOf (K : PySem.W.Frag) (H : Hp) : V → String → Prop where
  | non : KdOf K H .non "NoneType"
  | bl (x : Bool) : KdOf K H (.bl x) "bool"
  | int (i : Int) : KdOf K H (.int i) "int"
  | str (x : Str) : KdOf K H (.str x) "str"
  | lst {a : Addr} {xs : List V} (e : SqL K H a xs) : KdOf K H (.ref a) "list"
  | tup {a : Addr} {xs : List V} (e : SqT K H a xs) : KdOf K H (.ref a) "tuple"
section
variable {X : Cx} {pins : List (Addr × Obj)} {σ : St} {H : Hp} {s : Shared} {A : Around} {E : Value → Shared → Prop} {Q : Value → Shared → Prop} {b : Bool}
theorem Inv.kitL {a : Addr} {xs : List V} (I : Inv X pins σ H s) (h : SqL X.K H a xs) : PySem.W.KitAt a "list" s.heap := by
  obtain ⟨its, _, ⟨o, n, e, c, _⟩, _⟩ := I.list h
  exact ⟨o, e, c⟩
theorem Inv.kitT {a : Addr} {xs : List V} (I : Inv X pins σ H s) (h : SqT X.K H a xs) : PySem.W.KitAt a "tuple" s.heap := by
  obtain ⟨its, _, ⟨o, e, c, _⟩, _⟩ := I.tuple h
  exact ⟨o, e, c⟩
theorem isk_one {x : V} {u c : Value} {T : String} (I : Inv X pins σ H s) (rx : RelV x u) (ty : KdOf X.K H x T) (e : PySem.W.kitOne X.K (.type T) c = some b) (h : ∀ tk, Q (.bool b) { s with toks := tk }) :
    wpAny (model X.prog X.w) A (call (.builtin "isinstance") [u, c]) Q E s := by
  cases ty with
  | non => cases (show u = Value.none from rx); exact PySem.W.kia_one PySem.W.kitx_none I.kIn True.intro e (fun z => nomatch z) h
  | bl y => cases (show u = Value.bool y from rx); exact PySem.W.kia_one PySem.W.kitx_bool I.kIn True.intro e (fun z => nomatch z) h
  | int i => obtain ⟨t, q⟩ := (show ∃ t, u = Value.int i t from rx); cases q; exact PySem.W.kia_one PySem.W.kitx_int I.kIn True.intro e (fun z => nomatch z) h
  | str y => obtain ⟨t, q⟩ := (show ∃ t, u = Value.str y t from rx); cases q; exact PySem.W.kia_one PySem.W.kitx_str I.kIn True.intro e (fun z => nomatch z) h
  | @lst a xs ea => cases (show u = Value.ref a from rx); exact PySem.W.kia_one PySem.W.kitx_list I.kIn (I.kitL ea) e (fun z => nomatch z) h
  | @tup a xs ea => cases (show u = Value.ref a from rx); exact PySem.W.kia_one PySem.W.kitx_tuple I.kIn (I.kitT ea) e (fun z => nomatch z) h
theorem vc_izip {K : PySem.W.Frag} {ta : TA} {σ : St} {H : Hp} {R : It → Hp → Prop} (h : ta σ H fun vs H1 => ∃ t a b xs ys, vs = [.ref a, .ref b] ∧ Sq t K H1 a xs ∧ Sq t K H1 b ys ∧ R (Itz t K a b) H1) : iZip K ta σ H R := h
end
section
variable {K : PySem.W.Frag} {H H' H1 : Hp} {t : Bool} {a b : Addr} {xs ys : List V}
theorem Same.sq (e : Same H H') (h : Sq t K H a xs) : Sq t K H' a xs := by
  cases t with
  | true => exact e.tup h
  | false => exact e.seq h
theorem hJ_zipS (ha : Sq t K H1 a xs) (hb : Sq t K H1 b ys) (hl : ys.length ≤ xs.length) : ∀ i H, Same H1 H → (i < ys.length → (Itz t K a b).go i H) ∧ (ys.length ≤ i → (Itz t K a b).stop i H) ∧
    ∀ x H', i < ys.length → (Itz t K a b).yld i H x H' → Same H H' ∧ ∃ T y z, x = .ref T ∧ xs[i]? = some y ∧ ys[i]? = some z ∧ H' T = some (.tup [y, z]) := by
  intro i H sm
  refine ⟨fun hi => ⟨xs, ys, xs[i]'(by omega), ys[i], sm.sq ha, sm.sq hb, by simp, by simp [hi]⟩, fun hi => ?_, ?_⟩
  · by_cases h : xs.length ≤ i
    · exact .inl ⟨xs, sm.sq ha, h⟩
    · exact .inr ⟨xs, ys, sm.sq ha, sm.sq hb, by omega, hi⟩
  rintro x H' hi ⟨T, y, z, rfl, hT, rfl, h1, h2⟩
  exact ⟨same_new hT _, T, y, z, rfl, h1 _ (sm.sq ha), h2 _ (sm.sq hb), upd_same⟩
theorem for_zip {g : TG} {tb : TS} {D : Ends} {σ : St} {H : Hp} (hn : ys.length ≤ xs.length) (Pv : Nat → St → Hp → Prop) (h0 : Pv 0 σ H) (hl : ∀ i σ H, i ≤ ys.length → Pv i σ H → Sq t K H a xs ∧ Sq t K H b ys)
    (hs : ∀ i x y σ H T, xs[i]? = some x → ys[i]? = some y → Pv i σ H → H T = none → g (.ref T) σ (upd H T (.tup [x, y])) fun σ2 H2 => tb { D with nx := Pv (i + 1), ct := Pv (i + 1), bk := D.nx } σ2 H2) (hd : ∀ σ H, Pv ys.length σ H → D.nx σ H) :
    ∃ W : Nat → Nat → St → Hp → Prop, (∃ m, W 0 m σ H) ∧ ∀ i m σ H, W i m σ H →
      ((Itz t K a b).stop i H ∧ D.nx σ H) ∨ ((Itz t K a b).go i H ∧ ∃ N : St → Hp → Prop, (∀ σ' H', N σ' H' → ∃ m', m' < m ∧ W (i + 1) m' σ' H') ∧ ∀ x H', (Itz t K a b).yld i H x H' → g x σ H' fun σ2 H2 => tb { D with nx := N, ct := N, bk := D.nx } σ2 H2) := by
  refine ⟨fun i m σ H => m = ys.length - i ∧ i ≤ ys.length ∧ Pv i σ H, ⟨ys.length, by simp, Nat.zero_le _, h0⟩, ?_⟩
  rintro i m σ H ⟨rfl, hi, p⟩
  obtain ⟨q1, q2⟩ := hl i σ H hi p
  obtain ⟨g1, g2, _⟩ := hJ_zipS q1 q2 hn i H (Same.refl H)
  by_cases hlt : i < ys.length
  · refine .inr ⟨g1 hlt, Pv (i + 1), fun σ' H' p' => ⟨ys.length - (i + 1), by omega, rfl, hlt, p'⟩, fun x H' y => ?_⟩
    obtain ⟨T, u, z, e1, e2, e3, y1, y2⟩ := y
    subst e1 e3
    exact hs i u z σ _ T (y1 _ q1) (y2 _ q2) p e2
  · have e : i = ys.length := by omega
    subst e
    exact .inl ⟨g2 (Nat.le_refl _), hd σ H p⟩
end
end L2
namespace L2
open PySem PySem.Spec PyProof.Rows
section
variable {X : Cx} {a : Expr} {ta : TE}
noncomputable def tTru (K : PySem.W.Frag) (ta : TE) : TT := fun σ H Q => ta σ H fun x H' => ∃ k, TruV K x H' k ∧ Q k H'
theorem pt_tru (ha : PE X a ta) (he : ∀ whole, isTrue a X.env whole = (do let v ← whole; standAt a.pos; holding [v] (truthy v)) := by intro _; rfl) : PT X a (tTru X.K ta) := pt_truth ha he
end
section
variable {K : PySem.W.Frag} {σ : St} {H : Hp} {Q : VK} {te ta : TE} {D : Ends}
theorem vc_tru {QB : Bool → Hp → Prop} (h : ta σ H fun x H' => ∃ k, TruV K x H' k ∧ QB k H') : tTru K ta σ H QB := h
theorem vc_truL {p : Addr} {xs : List V} {R : Bool → Prop} (l : SqL K H p xs) (h : R (!xs.isEmpty)) : ∃ k, TruV K (.ref p) H k ∧ R k := ⟨_, .inl ⟨xs, l, rfl⟩, h⟩
theorem vc_aug {i : Nat} {ti : TIp} {x : V} (e : σ[i]? = some (some x)) (h : te σ H fun y H1 => ti x y H1 fun z H2 => D.nx (σ.set i (some z)) H2) : tAug i te ti D σ H := ⟨x, e, h⟩
theorem vc_ipI {f : Int → Int → Int} {i j : Int} (h : Q (.int (f i j)) H) : ipI f (.int i) (.int j) H Q := ⟨i, j, rfl, rfl, h⟩
theorem vc_isN (h : ta σ H fun x H1 => Q (.bl (decide (x = .non))) H1) : tIsN ta σ H Q := h
theorem vc_notN (h : ta σ H fun x H1 => Q (.bl (!decide (x = .non))) H1) : tNotN ta σ H Q := h
theorem vc_rep {l : Addr} {k : Int} {xs : List V} (h : H l = some (.lst xs)) (h1 : -(2 ^ 63) ≤ k) (h2 : k < 2 ^ 63) (n : xs.length * k.toNat ≤ sizeLine) (q : ∀ p, H p = none → Q (.ref p) (upd H p (.lst (List.replicate k.toNat xs).flatten))) : rRep (.ref l) (.int k) H Q := ⟨l, k, xs, rfl, rfl, h, h1, h2, n, q⟩
theorem ite_bl {b : Bool} {A B : Prop} (hT : b = true → A) (hF : b = false → B) : if b = true then A else B := by
  cases b
  · exact hF rfl
  · exact hT rfl
end
end L2
namespace L2
open PySem PySem.Spec PyProof.Rows PySem.W
section
variable {X : Cx}
end
end L2
namespace L2
open PySem PySem.Spec PyProof.Rows
section
variable {X : Cx} {Nc : List Str} {sc : Scope} {s₂ : Shared} {H₂ : Hp} {C : Addr} {fp : List Addr}
end
theorem vc_slT {K : PySem.W.Frag} {H : Hp} {Q : VK} {p : Addr} {xs : List V} {lo hi : Option Int} (l : SqT K H p xs) (n : ¬ (HT.sIx xs.length 0 lo = 0 ∧ HT.sIx xs.length xs.length hi = xs.length)) (h : ∀ q, H q = none → Q (.ref q) (upd H q (.tup (cutV xs lo hi)))) : rSlT K (.ref p) lo hi H Q := ⟨p, xs, rfl, l, n, h⟩
end L2
namespace L2
open PySem
noncomputable def Kont (u : TS) (D : Ends) (R : St → Hp → Prop) : Prop := ∀ σ H, u D σ H → R σ H
section
variable {t u : TS} {D : Ends} {σ : St} {H : Hp} {R : St → Hp → Prop}
theorem vc_seqA (h : ∀ R : St → Hp → Prop, Kont u D R → t { D with nx := R } σ H) : tSeq t u D σ H := h (u D) fun _ _ x => x
theorem vc_kont (k : Kont u D R) (h : u D σ H) : R σ H := k σ H h
end
end L2
namespace L2
open PySem PySem.Spec PyProof.Rows PySem.W
noncomputable def XNew (h : Heap) (e C : Addr) (d : Option Addr) : Prop := ∃ oe vs, h.get? e = some oe ∧ oe.cls = .ref C ∧ oe.dict = d ∧ oe.data = .fields vs ∧ 1 < vs.size ∧ vs[1]? = some .none
noncomputable def XTb (h : Heap) (e C : Addr) (d : Option Addr) (T : Addr) (fl : Value) : Prop := ∃ oe vs oT ts, h.get? e = some oe ∧ oe.cls = .ref C ∧ oe.dict = d ∧ oe.data = .fields vs ∧ 1 < vs.size ∧ vs[1]? = some (.ref T) ∧ T ≠ e ∧ h.get? T = some oT ∧ oT.data = .fields ts ∧ ts[3]? = some fl
theorem obj_dict (o : Obj) (f : Array Value → Array Value) : (o.mapFields f).dict = o.dict := by
  obtain ⟨c, d, dt, sl⟩ := o
  cases dt <;> rfl
section
variable {X : Cx} {pins : List (Addr × Obj)} {σ : St} {H : Hp} {s : Shared} {e C T : Addr} {d : Option Addr}
theorem Inv.noted {h' : Heap} {ch : List Addr} (I : Inv X pins σ H s) (hc : ∀ b ∈ ch, FpOk X pins H b) (k : ∀ b o, b ∉ ch → b ∉ X.env.locals :: X.fs → s.heap.get? b = some o → h'.get? b = some o)
    (sl : ∀ b o, b ∉ ch → s.heap.get? b = some o → ∃ z, h'.get? b = some { o with slots := z }) : Inv X pins σ H { s with heap := h' } := by
  have nt : ∀ b u, H b = some u → b ∉ ch ∧ b ∉ X.env.locals :: X.fs := fun b u hb => by
    refine ⟨fun z => ?_, fun z => ?_⟩
    · rw [(hc b z).1] at hb; cases hb
    · rcases List.mem_cons.mp z with rfl | z
      · rw [I.free] at hb; cases hb
      · obtain ⟨_, o, ho, _⟩ := I.ok.funs.mem z
        rw [I.base.free b o ho (I.ok.frf b z) fun y => I.ok.exfs b y z] at hb; cases hb
  refine I.step (g' := s.gens) (d' := s.drawn) (t' := s.toks) (ch := ch) (fun b hb => ?_) (fun b o n1 n2 n3 ho _ => k b o n3 (fun z => (List.mem_cons.mp z).elim n1 n2) ho) (fun b o _ _ n3 ho _ => sl b o n3 ho) (fun _ _ _ _ n => n)
    (fun b o n3 ho => let ⟨z, q⟩ := sl b o n3 ho; ⟨_, q⟩) (fun _ _ q => q) (fun _ _ _ q => q) (fun b ps q => ⟨#[], by rw [q]; simp⟩) (fun m hm => ?_) (fun b u q => ?_) I.bare
  · obtain ⟨_, f1, _, f3, f4, f5⟩ := hc b hb
    exact ⟨f3, f1, f4, f5⟩
  · obtain ⟨o, es, ep, ho, hd, r⟩ := hm
    obtain ⟨z, q⟩ := sl _ o (fun y => (hc _ y).2.1 rfl) ho
    exact ⟨_, es, ep, q, hd, r⟩
  · refine (I.hok b u q).stay (fun c v y ho => ?_) (fun _ q => q) fun _ _ q => q
    rcases y with rfl | y
    · exact k c v (nt c u q).1 (nt c u q).2 ho
    · exact k c v (nt c _ y).1 (nt c _ y).2 ho
theorem new_entry {M : Model} {E : Value → Shared → Prop} {Q : Unit → Shared → Prop} {oe : Obj} {vs : Array Value} {head : Value} {had : Bool} (I : Inv X pins σ H s) (st : X.stack = X.env :: X.outer) (fr : X.env.frame = some X.env.locals) (fe : FpOk X pins H e)
    (he : s.heap.get? e = some oe) (hc : oe.cls = .ref C) (hd : oe.dict = d) (hv : oe.data = .fields vs) (hn : 1 < vs.size)
    (q : ∀ h' T, Inv X pins σ H { s with heap := h' } → FpOk X pins H T → XTb h' e C d T (rawInt X.env.locals) → Q () { s with heap := h' }) :
    wpAny M X.A (do let a ← frameOf X.env; let pl ← entryPlaceOf X.env.locals had; let b ← EntryCells.newEntry head a .none (rawInt X.env.locals) .none pl; setField (.ref e) 1 b) Q E s := by
  have hl := I.stack
  have hfr := I.ok.frames
  rw [st] at hl hfr
  refine wpAny_bind (wpAny_frameOf_fun hfr hl fr fun g1 so => ?_)
  refine wpAny_bind (wpAny_entryPlaceOf fun pl hpl => ?_)
  unfold EntryCells.newEntry newFields
  refine wpAny_bind (wpAny_newObj_type ?_ (hpl.sizeOk5 _ _ _ _ _))
  have sub : ∀ b ∈ (X.env :: X.outer).filterMap (·.frame), b ∈ X.env.locals :: X.fs := fun b hb => I.stkSub b (by rw [st]; exact hb)
  have nfe : e ∉ (X.env :: X.outer).filterMap (·.frame) := fun z => (List.mem_cons.mp (sub e z)).elim fe.2.1 fe.2.2.1
  have e1 : g1.get? e = some oe := (so.2.1 e nfe).trans he
  generalize hT : ({ cls := .type "traceback", dict := none, data := .fields ([head, .ref X.env.locals, .none, rawInt X.env.locals, .none] ++ (if pl.isEmpty then List.replicate 6 Value.none else pl)).toArray } : Obj) = oT
  have e2 := Heap.get?_push_of_some (h := g1) oT e1
  have nTe : g1.objs.size ≠ e := Nat.ne_of_gt (Heap.lt_size e1)
  refine wpAny_setField e2 hv hn ?_
  have hd3 := Obj.data_mapFields hv (·.setIfInBounds 1 (Value.ref g1.objs.size))
  have e3 := Heap.get?_update_self (h := g1.push oT) (Obj.mapFields (·.setIfInBounds 1 (Value.ref g1.objs.size))) e2 (Obj.isFreed_of_fields hd3)
  have t3 : ((g1.push oT).update e (Obj.mapFields (·.setIfInBounds 1 (Value.ref g1.objs.size)))).get? g1.objs.size = some oT :=
    (Heap.get?_update_other (g1.push oT) _ (Ne.symm nTe)).trans (Heap.get?_push_size g1 (by rw [← hT]; rfl))
  have other : ∀ b o, b ≠ e → g1.get? b = some o → ((g1.push oT).update e (Obj.mapFields (·.setIfInBounds 1 (Value.ref g1.objs.size)))).get? b = some o := fun b o nb ho =>
    (Heap.get?_update_other (g1.push oT) _ (Ne.symm nb)).trans (Heap.get?_push_of_some _ ho)
  have sz : s.heap.objs.size ≤ g1.objs.size := Nat.le_of_eq so.1.symm
  refine q _ g1.objs.size (I.noted (ch := [e]) (fun b hb => by rw [List.mem_singleton] at hb; rw [hb]; exact fe) (fun b o n1 n2 ho => ?_) (fun b o n1 ho => ?_)) (I.fpOk sz (I.hok.fresh sz)) ?_
  · exact other b o (by simpa using n1) ((so.2.1 b fun z => n2 (sub b z)).trans ho)
  · obtain ⟨z, qz⟩ := so.2.2 b o ho
    exact ⟨z, other b _ (by simpa using n1) qz⟩
  · refine ⟨_, _, oT, _, e3, (Obj.cls_mapFields _ _).trans hc, (obj_dict _ _).trans hd, hd3, by simpa using hn, by simp [hn], nTe, t3, by rw [← hT], ?_⟩
    first | (simp; done) | (rcases hpl with rfl | ⟨_, _, _, _, _, _, _, rfl⟩ <;> simp)
theorem note_new {M : Model} {E : Value → Shared → Prop} {Q : Unit → Shared → Prop} (I : Inv X pins σ H s) (st : X.stack = X.env :: X.outer) (fr : X.env.frame = some X.env.locals) (fe : FpOk X pins H e) (x : XNew s.heap e C d)
    (q : ∀ h' T, Inv X pins σ H { s with heap := h' } → FpOk X pins H T → XTb h' e C d T (rawInt X.env.locals) → Q () { s with heap := h' }) : wpAny M X.A (noteFrame (.ref e) X.env) Q E s := by
  obtain ⟨oe, vs, he, hc, hd, hv, hn, h1⟩ := x
  unfold noteFrame
  simp only [fr]
  refine wpAny_bind (wpAny_field he hv h1 ?_)
  rw [if_neg (by decide)]
  exact new_entry I st fr fe he hc hd hv hn q
theorem note_on {M : Model} {E : Value → Shared → Prop} {Q : Unit → Shared → Prop} (I : Inv X pins σ H s) (st : X.stack = X.env :: X.outer) (fr : X.env.frame = some X.env.locals) (fe : FpOk X pins H e) (fT : FpOk X pins H T) (x : XTb s.heap e C d T .none)
    (q : ∀ h' T, Inv X pins σ H { s with heap := h' } → FpOk X pins H T → XTb h' e C d T (rawInt X.env.locals) → Q () { s with heap := h' }) : wpAny M X.A (noteFrame (.ref e) X.env) Q E s := by
  obtain ⟨oe, vs, oT, ts, he, hc, hd, hv, hn, h1, nTe, hT, hw, h3⟩ := x
  unfold noteFrame
  simp only [fr]
  refine wpAny_bind (wpAny_field he hv h1 ?_)
  rw [if_pos (show (Value.ref T != Value.none) = true from by simp)]
  refine wpAny_bind (wpAny_field hT hw h3 ?_)
  rw [if_neg (show ¬ ((Value.none == rawInt X.env.locals) = true) from by simp [rawInt])]
  refine wpAny_bind (wpAny_setField hT hw (Array.getElem?_eq_some_iff.mp h3).1 ?_)
  have other : ∀ b, b ≠ T → (s.heap.update T (Obj.mapFields (·.setIfInBounds 3 Value.none))).get? b = s.heap.get? b := fun b hb => Heap.get?_update_other _ _ (Ne.symm hb)
  have I1 : Inv X pins σ H { s with heap := s.heap.update T (Obj.mapFields (·.setIfInBounds 3 Value.none)) } :=
    I.noted (ch := [T]) (fun b hb => by rw [List.mem_singleton] at hb; rw [hb]; exact fT) (fun b o n1 _ ho => (other b (by simpa using n1)).trans ho) (fun b o n1 ho => ⟨o.slots, (other b (by simpa using n1)).trans ho⟩)
  exact new_entry I1 st fr fe ((other e (Ne.symm nTe)).trans he) hc hd hv hn q
theorem flight_off {M : Model} {E : Value → Shared → Prop} {Q : Unit → Shared → Prop} {A : Around} {fl : Value} (I : Inv X pins σ H s) (fT : FpOk X pins H T) (x : XTb s.heap e C d T fl)
    (q : ∀ h', Inv X pins σ H { s with heap := h' } → XTb h' e C d T .none → Q () { s with heap := h' }) : wpAny M A (setFlight (.ref e) none) Q E s := by
  obtain ⟨oe, vs, oT, ts, he, hc, hd, hv, hn, h1, nTe, hT, hw, h3⟩ := x
  have n3 : 3 < ts.size := (Array.getElem?_eq_some_iff.mp h3).1
  unfold setFlight
  refine wpAny_bind (wpAny_field he hv h1 ?_)
  rw [if_pos (show (Value.ref T != Value.none) = true from by simp)]
  refine wpAny_setField hT hw n3 ?_
  have other : ∀ b, b ≠ T → (s.heap.update T (Obj.mapFields (·.setIfInBounds 3 ((none : Option Addr).elim Value.none fun f => rawInt f)))).get? b = s.heap.get? b := fun b hb => Heap.get?_update_other _ _ (Ne.symm hb)
  have hw' := Obj.data_mapFields hw (·.setIfInBounds 3 ((none : Option Addr).elim Value.none fun f => rawInt f))
  refine q _ (I.noted (ch := [T]) (fun b hb => by rw [List.mem_singleton] at hb; rw [hb]; exact fT) (fun b o n1 _ ho => (other b (by simpa using n1)).trans ho) (fun b o n1 ho => ⟨o.slots, (other b (by simpa using n1)).trans ho⟩)) ?_
  exact ⟨oe, vs, _, _, (other e (Ne.symm nTe)).trans he, hc, hd, hv, hn, h1, nTe, Heap.get?_update_self _ hT (Obj.isFreed_of_fields hw'), hw', by simp [n3]⟩
theorem leave_new {M : Model} {E : Value → Shared → Prop} {Q : Unit → Shared → Prop} (I : Inv X pins σ H s) (st : X.stack = X.env :: X.outer) (fr : X.env.frame = some X.env.locals) (fe : FpOk X pins H e) (x : XNew s.heap e C d)
    (q : ∀ h' T, Inv X pins σ H { s with heap := h' } → FpOk X pins H T → XTb h' e C d T .none → Q () { s with heap := h' }) : wpAny M X.A (leaving X.env (.ref e)) Q E s := by
  unfold leaving
  refine wpAny_bind (note_new I st fr fe x fun h1 T I1 fT x1 => ?_)
  exact flight_off I1 fT x1 fun h2 I2 x2 => q h2 T I2 fT x2
theorem leave_on {M : Model} {E : Value → Shared → Prop} {Q : Unit → Shared → Prop} (I : Inv X pins σ H s) (st : X.stack = X.env :: X.outer) (fr : X.env.frame = some X.env.locals) (fe : FpOk X pins H e) (fT : FpOk X pins H T) (x : XTb s.heap e C d T .none)
    (q : ∀ h' T, Inv X pins σ H { s with heap := h' } → FpOk X pins H T → XTb h' e C d T .none → Q () { s with heap := h' }) : wpAny M X.A (leaving X.env (.ref e)) Q E s := by
  unfold leaving
  refine wpAny_bind (note_on I st fr fe fT x fun h1 T I1 fT x1 => ?_)
  exact flight_off I1 fT x1 fun h2 I2 x2 => q h2 T I2 fT x2
end
end L2
namespace L2
open PySem PySem.Spec PyProof.Rows PySem.W
noncomputable def CX1 (P : Program) (w : World) : CXT := fun outer H s E e s' => ∃ (a C : Addr) (d : Option Addr) (T : Addr) (H' : Hp), e = .ref a ∧ s'.os = s.os ∧ AllBare s'.gens ∧ Un (frs outer) [] H H' s.heap s'.heap ∧ HOk P w H' s'.heap ∧ XTb s'.heap a C d T .none ∧
  s.heap.objs.size ≤ a ∧ s.heap.objs.size ≤ T ∧ H' a = none ∧ H' T = none ∧ E (.ref C) d H'
noncomputable def XF (X : Cx) (pins : List (Addr × Obj)) (σ : St) (E : XK) (e : Value) (s : Shared) : Prop := ∃ (a C : Addr) (d : Option Addr) (T : Addr) (H : Hp), e = .ref a ∧ Inv X pins σ H s ∧ FpOk X pins H a ∧ FpOk X pins H T ∧ XTb s.heap a C d T .none ∧ E (.ref C) d H
section
variable {X : Cx} {pins : List (Addr × Obj)} {σ : St} {H : Hp} {s s' : Shared} {E : XK} {e : Value}
theorem Inv.came (I : Inv X pins σ H s) (h : CX1 X.prog X.w X.stack H s E e s') : XF X pins σ E e s' := by
  obtain ⟨a, C, d, T, H', rfl, os, bare, un, hok, x, na, nT, ha, hT, q⟩ := h
  obtain ⟨hh, g, dr, t, os'⟩ := s'
  obtain rfl : os' = s.os := os
  exact ⟨a, C, d, T, H', rfl, I.call (h' := hh) (g' := g) (d' := dr) (t' := t) (ch := []) un hok bare (fun b z => absurd z (by simp)), I.fpOk na ha, I.fpOk nT hT, x, q⟩
end
section
variable {P : Program} {w : World} {K : PySem.W.Frag} {mg : Str → Option Value} {base : Heap} {N : List Str} {qual : Str} {scope : Scope} {f : Addr} {cd : Value} {A : Around} {outer : List Env} {s₀ : Shared} {H₀ : Hp} {E : XK}
variable {pins : List (Addr × Obj)} {σ : St} {H : Hp} {s : Shared} {a C T : Addr} {d : Option Addr}
theorem end_of {h' : Heap} (I : Inv (cxOf (CX1 P w) P w K mg base N qual scope f cd A outer s₀ H₀ E) pins σ H { s with heap := h' }) (fe : FpOk (cxOf (CX1 P w) P w K mg base N qual scope f cd A outer s₀ H₀ E) pins H a) (fT : FpOk (cxOf (CX1 P w) P w K mg base N qual scope f cd A outer s₀ H₀ E) pins H T)
    (x : XTb h' a C d T .none) (q : E (.ref C) d H) : CX1 P w outer H₀ s₀ E (.ref a) { s with heap := h' } := by
  have na : s₀.heap.objs.size ≤ a := fe.2.2.2.1.elim (fun z => absurd z (by show a ∉ ([] : List Addr); simp)) id
  have nT : s₀.heap.objs.size ≤ T := fT.2.2.2.1.elim (fun z => absurd z (by show T ∉ ([] : List Addr); simp)) id
  exact ⟨a, C, d, T, H, rfl, I.os, I.bare, I.base, I.hok, x, na, nT, fe.1, fT.1, q⟩
theorem xe_new (I : Inv (cxOf (CX1 P w) P w K mg base N qual scope f cd A outer s₀ H₀ E) pins σ H s) (fe : FpOk (cxOf (CX1 P w) P w K mg base N qual scope f cd A outer s₀ H₀ E) pins H a) (x : XNew s.heap a C d) (q : E (.ref C) d H) :
    (cxOf (CX1 P w) P w K mg base N qual scope f cd A outer s₀ H₀ E).xe (.ref a) s :=
  leave_new (E := fun e' s'' => CX1 P w outer H₀ s₀ E e' s'') I rfl rfl fe x fun _ _ I' fT x' => end_of I' fe fT x' q
theorem pass1 : Passes (CX1 P w) (cxOf (CX1 P w) P w K mg base N qual scope f cd A outer s₀ H₀ E) E := by
  intro pins σ H s e s' I h
  obtain ⟨a, C, d, T, H', rfl, I', fa, fT, x, q⟩ := I.came h
  exact leave_on (E := fun e' s'' => CX1 P w outer H₀ s₀ E e' s'') I' rfl rfl fa fT x fun _ _ I2 fT2 x2 => end_of I2 fa fT2 x2 q
end
section
variable {X : Cx} {k : Nat} {f C : Addr} {fd : FuncData} {ps : List Str} {sp : Sp} {dvs : List V} {ds : List Value} {E : XK} {x : Str} {p pos : Pos} {e : Expr} {es : List Expr} {t : TA} {Q : VK} {pins : List (Addr × Obj)} {σ : St} {H : Hp} {s : Shared}
theorem pa_any (ha : PA X.nox (e :: es) t) {R : List V → Hp → Prop} (I : Inv X pins σ H s) (h : t σ H R) (F : Value → Shared → Prop) : wpAny (model X.prog X.w) X.A (spliced (backTo pos (starEach (e :: es) X.env))) (AP X pins σ R) F s :=
  wpAny_mono (ha pos pins s σ H _ (I.wish _) h) (fun _ _ hq9 => ex5 hq9 fun v H' I' r q => ⟨v, H', I'.unwish, r, q⟩) fun _ _ z => False.elim z
theorem call_x (F : FnOk X.prog X.w X.K X.mg X.base (CX1 X.prog X.w) k f fd ps sp) (hr : Room k X.A) (hg : Gl X x) (hm : X.mg x = some (.ref f)) (hk : PySem.W.keepIn X.K (.ref f) = true) (hb : Binds X.K fd ps ds) (hd : Vals dvs ds)
    (ha : PA X.nox (e :: es) t) (I : Inv X pins σ H s) (h : tCall sp dvs E t σ H Q) (hdb : (x == ("__debug__" : Str)) = false := by decide) (he : starEach (e :: es) X.env = (false, eval e X.env) :: starEach es X.env := by rfl) (hpl : (backTo pos (starEach es X.env)).any (·.1) = false := by rfl) :
    wpAny (model X.prog X.w) X.A (eval (.Call (.Name x p) (e :: es) [] pos) X.env) (EP X pins σ Q) (XF X pins σ E) s := by
  refine wpAny_Call_Name_kw (ld_glob I hg hm ?_ hdb)
  refine PySem.W.callWith_K (h₀ := X.base) I.ok.mod.kin hk (thn (pa_any ha I h _) fun us s1 hq9 => AP.out hq9 fun vs H1 I1 r q => ⟨I1.kIn, ?_⟩) he hpl
  have r2 : Vals (vs ++ dvs) (us ++ ds) := r.append hd
  have hl : (us ++ ds).length = ps.length := by rw [← r2.length]; exact F.len _ _ _ _ q
  refine wpAny_call (codeAny_mono (F.run X.A X.stack s1 H1 ⟨us, []⟩ (us ++ ds) (vs ++ dvs) Q E hr I1.env0 (hb s1 us I1.kIn hl) r2 q) fun r s' hq => ?_)
  cases r with
  | error e => exact I1.came hq
  | ok fl =>
    cases fl with
    | ret u => exact I1.after hq
    | next => exact False.elim hq
    | brk => exact False.elim hq
    | cont => exact False.elim hq
end
end L2
namespace L2
open PySem PySem.Spec PyProof.Rows PySem.W
noncomputable def xPhi (a C : Addr) (d : Option Addr) : Heap → Prop := fun h => ∃ oe vs, h.get? a = some oe ∧ oe.cls = .ref C ∧ oe.dict = d ∧ oe.data = .fields vs
theorem xPhi.on {a C : Addr} {d : Option Addr} {h1 h2 : Heap} (x : xPhi a C d h1) (k : ∀ o, h1.get? a = some o → h2.get? a = some o) : xPhi a C d h2 := by
  obtain ⟨oe, vs, h, r⟩ := x
  exact ⟨oe, vs, k _ h, r⟩
theorem XTb.phi {h : Heap} {a C T : Addr} {d : Option Addr} {fl : Value} (x : XTb h a C d T fl) : xPhi a C d h := by
  obtain ⟨oe, vs, _, _, he, hc, hd, hv, _⟩ := x
  exact ⟨oe, vs, he, hc, hd, hv⟩
section
variable {X : Cx} {pins : List (Addr × Obj)} {σ : St} {H : Hp} {s : Shared} {a C T : Addr} {d : Option Addr}
theorem Inv.track (I : Inv X pins σ H s) (fa : FpOk X pins H a) (x : xPhi a C d s.heap) : Inv X pins σ (upd H a (.ext (xPhi a C d))) s := by
  have nt : ∀ b u, H b = some u → b ≠ a := fun b u hb z => by rw [z, fa.1] at hb; cases hb
  have := I.step (h' := s.heap) (H' := upd H a (.ext (xPhi a C d))) (g' := s.gens) (d' := s.drawn) (t' := s.toks) (ch := [a]) (fun b hb => by
      rw [List.mem_singleton] at hb
      obtain ⟨_, f1, _, f3, f4, f5⟩ := fa
      rw [hb]
      exact ⟨f3, f1, f4, f5⟩) (fun b o _ _ _ ho _ => ho) (fun b o _ _ _ ho _ => ⟨o.slots, ho⟩) (fun b o n3 _ n => by rw [upd_ne (by simpa using n3)]; exact n)
    (fun b o _ ho => ⟨o, ho⟩) (fun b xs q => by rw [upd_ne (nt b _ q)]; exact q) (fun b o u q => by rw [upd_ne (nt b _ q)]; exact q) (fun b ps q => ⟨#[], by rw [upd_ne (nt b _ q), q]; simp⟩) (fun m hm => hm) (fun b u q => ?_) I.bare
  · exact this
  · by_cases e : b = a
    · subst e
      rw [upd_same] at q
      cases q
      obtain ⟨oe, vs, he, _⟩ := id x
      exact ⟨x, ⟨oe, he⟩, fun h1 h2 y k => y.on k⟩
    · rw [upd_ne e] at q
      refine (I.hok b u q).stay (fun c v _ ho => ho) (fun c y => by rw [upd_ne (nt c _ y)]; exact y) fun c xs y => by rw [upd_ne (nt c _ y)]; exact y
theorem Inv.gone {h' : Heap} {i : Nat} {n : Str} {v : Option Value} {m : Str → Option Value} {t' : Nat} (I : Inv X pins σ H s) (hN : X.N.Nodup) (hi : X.N[i]? = some n) (hl : X.env.scope.names.lookup n = some .local) (sb : Heap.SameBut X.env.locals s.heap h') (hm : s.heap.Ns X.env.locals m)
    (hn : h'.Ns X.env.locals (fun x => if x = n then v else m x)) : Inv X pins (σ.set i none) H { s with heap := h', toks := t' } := by
  have k : ∀ b o, b ≠ X.env.locals → s.heap.get? b = some o → h'.get? b = some o := fun b o nb ho => (sb.2 b nb).trans ho
  have nl : ∀ b o, X.s₀.heap.get? b = some o → b ≠ X.env.locals := fun b o q => Nat.ne_of_lt (Nat.lt_of_lt_of_le (Heap.lt_size q) I.ok.above)
  have nt : ∀ b u, H b = some u → b ≠ X.env.locals := fun b u q z => by rw [z, I.free] at q; cases q
  obtain ⟨m', hm', hlook⟩ := I.loc
  have em : m' = m := by
    obtain ⟨o1, es1, ep1, ho1, hd1, _, f1⟩ := hm'
    obtain ⟨o2, es2, ep2, ho2, hd2, _, f2⟩ := hm
    rw [ho1] at ho2
    cases ho2
    rw [hd1] at hd2
    cases hd2
    funext x
    rw [← f1 x, ← f2 x]
  subst em
  refine ⟨I.ok, I.os, I.bare, ⟨fun b o q n1 n2 n3 => k b o (nl b o q) (I.base.keep b o q n1 n2 n3), fun b o q n1 n2 n3 => ?_, I.base.free, fun b o q n1 => ?_, I.base.tups, I.base.frzs, I.base.tbls⟩, ⟨_, hn, fun j x u hj hu hv => ?_⟩, fun x c hx => ?_, I.free, I.freeC, fun p hp => ?_, fun b u q => ?_, ?_⟩
  · obtain ⟨sl, z⟩ := I.base.slot b o q n1 n2 n3
    exact ⟨sl, k b _ (nl b o q) z⟩
  · obtain ⟨o', z⟩ := I.base.there b o q n1
    exact ⟨o', k b o' (nl b o q) z⟩
  · by_cases e : j = i
    · subst e
      rw [List.getElem?_set_self' ] at hu
      cases q : σ[j]? with
      | none => rw [q] at hu; cases hu
      | some y => rw [q] at hu; cases hu
    · rw [List.getElem?_set_ne (Ne.symm e)] at hu
      obtain ⟨w', r, l⟩ := hlook j x u hj hu hv
      refine ⟨w', r, ?_⟩
      have nx : x ≠ n := fun z => e (nodup_ix hN hj (z ▸ hi))
      rcases l with ⟨l1, l2⟩ | ⟨l1, c, l2, l3⟩
      · exact .inl ⟨l1, by show (if x = n then v else _) = _; rw [if_neg nx]; exact l2⟩
      · obtain ⟨o, ho, hd⟩ := l3
        exact .inr ⟨l1, c, l2, o, k c o (I.cne x c l2) ho, hd⟩
  · obtain ⟨w', o, ho, hd⟩ := I.cell x c hx
    exact ⟨w', o, k c o (I.cne x c hx) ho, hd⟩
  · obtain ⟨e1, e2, e3, e4, e5⟩ := I.pin p hp
    exact ⟨k p.1 p.2 e3 e1, e2, e3, e4, e5⟩
  · refine (I.hok b u q).stay (fun c v y ho => ?_) (fun _ q => q) fun _ _ q => q
    rcases y with rfl | y
    · exact k c v (nt c u q) ho
    · exact k c v (nt c _ y) ho
  · rw [List.length_set]
    exact I.len
noncomputable def Cx.held (X : Cx) (a : Addr) : Cx := { X with A := X.A.mark (some (.ref a)), calm := false, xe := fun _ _ => False }
theorem Inv.held (I : Inv X pins σ H s) (a : Addr) : Inv (X.held a) pins σ H s :=
  ⟨⟨I.ok.mod, I.ok.kind, I.ok.glob, I.ok.blt, I.ok.above, I.ok.inj, I.ok.has, I.ok.cab, (fun z => Bool.noConfusion z), I.ok.frames, I.ok.stk, I.ok.exf, I.ok.bs, I.ok.bsz, I.ok.noex, I.ok.exfs, I.ok.funs, I.ok.frf⟩, I.os, I.bare, I.base, I.loc, I.cell, I.free, I.freeC, I.pin, I.hok, I.len⟩
theorem Inv.unheld {a : Addr} (I : Inv (X.held a) pins σ H s) (hh : X.calm = true → X.A.handled = none) : Inv X pins σ H s :=
  ⟨⟨I.ok.mod, I.ok.kind, I.ok.glob, I.ok.blt, I.ok.above, I.ok.inj, I.ok.has, I.ok.cab, hh, I.ok.frames, I.ok.stk, I.ok.exf, I.ok.bs, I.ok.bsz, I.ok.noex, I.ok.exfs, I.ok.funs, I.ok.frf⟩, I.os, I.bare, I.base, I.loc, I.cell, I.free, I.freeC, I.pin, I.hok, I.len⟩
end
end L2
namespace L2
open PySem PySem.Spec PyProof.Rows PySem.W
section
variable {X : Cx} {pins : List (Addr × Obj)} {σ : St} {H : Hp} {s : Shared} {a C C' T : Addr} {d : Option Addr} {cx n : Str} {np hp : Pos} {i : Nat} {b₀ : Stmt} {tS : TS} {Q : Flow → Shared → Prop} {F : Value → Shared → Prop}
noncomputable def tHeld (tS : TS) (i : Nat) (a : Addr) (R : St → Hp → Prop) (σ : St) (H : Hp) : Prop := tS { nx := fun σ' H' => R (σ'.set i none) H', rt := fun _ _ => False } (σ.set i (some (.ref a))) H
theorem handle_x (I : Inv X pins σ H s) (hc : X.calm = true) (st : X.stack = X.env :: X.outer) (fr : X.env.frame = some X.env.locals) (fa : FpOk X pins H a) (fT : FpOk X pins H T) (x : XTb s.heap a C d T .none)
    (hg : Gl X cx) (hm : X.mg cx = some (.ref C')) (hx : exmOne X.K (.ref C) (.ref C') = some true) (hN : X.N.Nodup) (hi : X.N[i]? = some n) (hl : X.env.scope.names.lookup n = some .local) (suite : PSs (X.held a) [b₀] tS)
    (R : St → Hp → Prop) (h : tHeld tS i a R σ (upd H a (.ext (xPhi a C d)))) (q : ∀ σ' H' s', Inv X pins σ' H' s' → R σ' H' → Q .next s') (hd : (cx == ("__debug__" : Str)) = false := by decide) :
    wpAny (model X.prog X.w) X.A (noteFrame (.ref a) X.env) (fun _ s2 => wpAny (model X.prog X.w) X.A (setFlight (.ref a) none) (fun _ s3 =>
      wpAny (model X.prog X.w) X.A (handleBy (.ref a) X.env [.ExceptHandler (some (.Name cx np)) (some n) [b₀] hp]) Q F s3) F s2) F s := by
  refine note_on I st fr fa fT x fun h1 T1 I1 fT1 x1 => ?_
  refine flight_off I1 fT1 x1 fun h2 I2 x2 => ?_
  refine wpAny_handleBy_cons (codeAny_handlers_test (ld_glob (I2.held a) hg hm ?_ hd)) (by intro z; cases z)
  have LT : Looks (model X.prog X.w) h2 (typeOf (.ref a)) (.ref C) := by
    obtain ⟨oe, _, _, _, he, hcl, _⟩ := x2
    exact hcl ▸ (Looks.ld he).andThen .now
  refine (exm_one I2.kIn LT hx).here ?_
  refine codeAny_handlers_suite_as ?_
  refine flight_off I2 fT1 x2 fun h3 I3 x3 => ?_
  have I4 := I3.track fa x3.phi
  refine store_ok I4 hN hi (.inl hl) (v := .ref a) rfl (fun s4 I5 => ?_) (.inr hl)
  refine wpAny_mono (suite pins s4 _ _ _ (I5.held a) h) (fun f s5 hf => ?_) fun _ _ z => False.elim z
  cases f with
  | next =>
    obtain ⟨σ', H', I6, q6⟩ := hf
    have I7 := I6.unheld I.ok.hd
    obtain ⟨m, hm', _⟩ := id I7.loc
    refine wpAny_nameGoes_keeps hl hm' (by rw [I.ok.kind]; rfl) fun h8 v hn8 sb8 => ?_
    exact q _ _ _ (I7.gone hN hi hl sb8 hm' hn8) q6
  | ret u => obtain ⟨_, _, _, _, _, z⟩ := hf; exact False.elim z
  | brk => obtain ⟨_, _, _, z⟩ := hf; exact False.elim z
  | cont => obtain ⟨_, _, _, z⟩ := hf; exact False.elim z
end
section
variable {X : Cx} {cx n : Str} {np hp p1 pos : Pos} {i : Nat} {b₀ : Stmt} {tS : TS} {ce : Expr} {tC : TE → Prop} {C' : Addr}
noncomputable def PX (X : Cx) (e : Expr) (t : VK → XK → St → Hp → Prop) : Prop :=
  ∀ (pins : List (Addr × Obj)) (s : Shared) (σ : St) (H : Hp) (Q : VK) (E : XK), Inv X pins σ H s → t Q E σ H → wpAny (model X.prog X.w) X.A (eval e X.env) (EP X pins σ Q) (XF X pins σ E) s
noncomputable def eTake (K : PySem.W.Frag) (C' : Addr) (tS : TS) (i : Nat) (R : St → Hp → Prop) (σ : St) : XK := fun c d H => ∃ C, c = .ref C ∧ exmOne K (.ref C) (.ref C') = some true ∧ ∀ a, H a = none → tHeld tS i a R σ (upd H a (.ext (xPhi a C d)))
noncomputable def tTryA (K : PySem.W.Frag) (C' : Addr) (tS : TS) (i j : Nat) (t : VK → XK → St → Hp → Prop) : TS := fun D σ H => t (fun v H' => D.nx (σ.set j (some v)) H') (eTake K C' tS i D.nx σ) σ H
theorem take_ok {pins : List (Addr × Obj)} {σ : St} {e : Value} {s : Shared} {D : Ends} (hc : X.calm = true) (st : X.stack = X.env :: X.outer) (fr : X.env.frame = some X.env.locals) (hg : Gl X cx) (hm : X.mg cx = some (.ref C')) (hN : X.N.Nodup) (hi : X.N[i]? = some n) (hl : X.env.scope.names.lookup n = some .local)
    (suite : ∀ a, PSs (X.held a) [b₀] tS) (hd : (cx == ("__debug__" : Str)) = false) (h : XF X pins σ (eTake X.K C' tS i D.nx σ) e s) :
    wpAny (model X.prog X.w) X.A (noteFrame e X.env) (fun _ s2 => wpAny (model X.prog X.w) X.A (setFlight e none) (fun _ s3 =>
      wpAny (model X.prog X.w) X.A (handleBy e X.env [.ExceptHandler (some (.Name cx np)) (some n) [b₀] hp]) (SP X pins D) X.xe s3) X.xe s2) X.xe s := by
  obtain ⟨a, C, d, T, H, rfl, I, fa, fT, x, C2, ec, hx, h⟩ := h
  cases ec
  exact handle_x I hc st fr fa fT x hg hm hx hN hi hl (suite a) D.nx (h a fa.1) (fun σ' H' s' I' r => ⟨σ', H', I', r⟩) hd
theorem ps_tryA {t : VK → XK → St → Hp → Prop} {j : Nat} {y : Str} {p2 : Pos} (hc : X.calm = true) (st : X.stack = X.env :: X.outer) (fr : X.env.frame = some X.env.locals) (hg : Gl X cx) (hm : X.mg cx = some (.ref C')) (hN : X.N.Nodup) (hi : X.N[i]? = some n) (hl : X.env.scope.names.lookup n = some .local)
    (hj : X.N[j]? = some y) (hy : Loc X.env.scope y) (suite : ∀ a, PSs (X.held a) [b₀] tS) (he : PX X ce t) (hd : (cx == ("__debug__" : Str)) = false := by decide) (hs : swapsWith ce (some (.Name y p2)) p1.line X.env = pure false := by rfl) (hf : X.fn y = true ∨ X.env.scope.names.lookup y = some .local := by first | exact .inl rfl | exact .inr rfl | assumption) :
    PS X (.Try [.Assign [.Name y p2] ce p1] [.ExceptHandler (some (.Name cx np)) (some n) [b₀] hp] [] [] pos) (tTryA X.K C' tS i j t) := by
  intro pins s σ H D I h
  refine wpAny_Try_except (wpAny_execs_cons (wpAny_Assign_Name (wpAny_mono (he pins s σ H _ _ I h) (fun v s1 z => ?_) fun e s1 z => take_ok hc st fr hg hm hN hi hl suite hd z) hs))
  obtain ⟨x, H1, I1, r1, q1⟩ := z
  exact store_ok I1 hN hj hy r1 (fun s2 I2 => wpAny_execs_nil (wpAny_execs_nil ⟨_, H1, I2, q1⟩)) hf
end
section
variable {X : Cx} {k : Nat} {f C : Addr} {fd : FuncData} {ps : List Str} {sp : Sp} {dvs : List V} {ds : List Value} {x : Str} {p pos : Pos} {e : Expr} {es : List Expr} {t : TA}
theorem px_call (F : FnOk X.prog X.w X.K X.mg X.base (CX1 X.prog X.w) k f fd ps sp) (hr : Room k X.A) (hg : Gl X x) (hm : X.mg x = some (.ref f)) (hk : PySem.W.keepIn X.K (.ref f) = true) (hb : Binds X.K fd ps ds) (hd : Vals dvs ds)
    (ha : PA X.nox (e :: es) t) (hdb : (x == ("__debug__" : Str)) = false := by decide) (he : starEach (e :: es) X.env = (false, eval e X.env) :: starEach es X.env := by rfl) (hpl : (backTo pos (starEach es X.env)).any (·.1) = false := by rfl) :
    PX X (.Call (.Name x p) (e :: es) [] pos) (fun Q E σ H => tCall sp dvs E t σ H Q) := fun _ _ _ _ _ _ I h => call_x F hr hg hm hk hb hd ha I h hdb he hpl
end
end L2
namespace L2
open PySem PySem.Spec PyProof.Rows PySem.W
structure XCls (K : PySem.W.Frag) (C : Addr) : Prop where
  ga : findIn K (.ref C) "__getattribute__" = some (some (.builtin "BaseException.__getattribute__"))
  gg : findIn K (.ref C) "__getattr__" = some none
  sa : findIn K (.ref C) "__setattr__" = some (some (.builtin "object.__setattr__"))
  mb : mroIn K C (.type "BaseException") = some true
  mo : mroIn K C (.type "object") = some true
  hd : hasDictIn K C = true
  kc : findIn K (.ref C) "__class__" = some (some (.builtin "object.__class__"))
  cg : specialIn K (.builtin "object.__class__") "__get__" = some (some (.builtin "getset_descriptor.__get__"))
  ct : takesIn K (.builtin "object.__class__") = some true
section
variable {prog : Program} {w : World} {A : Around} {E : Value → Shared → Prop} {s : Shared} {K : Frag} {x C : Addr} {ox : Obj} {od : Option Obj} {name : Str} {expr fill : Bool} {Q : Value → Shared → Prop}
theorem xga_kind : builtinKind "BaseException.__getattribute__" = some .slot := by decide +kernel
theorem xga_cut : splitId "BaseException.__getattribute__" = some ("BaseException", "__getattribute__") := by decide +kernel
theorem xga_call {tk : Tok} {R : Result → Shared → Prop} (X : K.In s.heap) (J : InstAt s.heap x ox C od) (c : XCls K C)
    (h : wpAny (model prog w) A.in1 (Builtin.«object.__getattribute__» ⟨[.ref x, .str name tk], []⟩) (fun fin s' => match fin with | .done f => R (.ok f) s' | .again c' => c'.quiet = true ∧ codeAny (model prog w) A c' R s') (fun e s' => R (.error e) s') s) :
    codeAny (model prog w) A (.call (.builtin "BaseException.__getattribute__") ⟨[.ref x, .str name tk], []⟩) R s := by
  have L : Looks (model prog w) s.heap (isInstance (.ref x) (.type "BaseException")) true := J.type.andThen (looks_mroIn X c.mb)
  have ha := F.args_bexc_ga (.ref x) (.str name tk)
  have hc := @check_slot (model prog w) A.in1 (fun e s' => R (.error e) s') s "BaseException.__getattribute__" "BaseException" "__getattribute__" (.ref x) [.str name tk] [] (fun _ s' => s' = s) xga_kind xga_cut L ha rfl
  refine codeAny_call_builtin F.attr_ValueError.ga.plain F.entry_bexc_ga (wpAny_mono hc (fun _ s' e => ?_) fun _ _ z => z)
  subst e
  exact h
theorem xget_by {tk : Tok} (X : K.In s.heap) (J : InstAt s.heap x ox C od) (c : XCls K C)
    (h : wpAny (model prog w) A.in1 (Builtin.«object.__getattribute__» ⟨[.ref x, .str name tk], []⟩) (fun fin s' => ∃ v, fin = .done (.ret v) ∧ handedIn v = true ∧ Q v s') (fun _ _ => False) s) :
    wpAny (model prog w) A (getAttrBy (.ref x) (.str name tk) fill expr) Q E s := by
  obtain ⟨hh', g, d, t, os⟩ := s
  have L0 := J.type (M := model prog w)
  have L1 := looks_findIn (M := model prog w) X c.ga
  have L3 := looks_hook (M := model prog w) (mc := .ref C) X (r := none) (show (if onTheHeap (.ref C) then findIn K (.ref C) "__getattr__" else some none) = some none from c.gg)
  unfold getAttrBy
  refine wpAny_holding (wpAny_bind (L0.at (wpAny_bind (L1.at ?_))))
  have hx2 : (onTheHeap (Value.ref C) && Value.builtin "BaseException.__getattribute__" == Value.builtin "object.__getattribute__") = false := by
    rw [show (Value.builtin "BaseException.__getattribute__" == Value.builtin "object.__getattribute__") = false by decide +kernel, Bool.and_false]
  show wpAny _ _ (if (onTheHeap (Value.ref C) && Value.builtin "BaseException.__getattribute__" == Value.builtin "object.__getattribute__") = true then _ else getAttrByItsOwn _ _ _ _ _ _) _ _ _
  rw [if_neg (by rw [hx2]; exact Bool.false_ne_true)]
  unfold getAttrByItsOwn
  refine wpAny_bind (L3.at ?_)
  refine wpAny_bind (wpAny_attempt (wpAny_holding ?_))
  unfold callGetattribute
  have hx0 : (expr && onTheHeap (Value.builtin "BaseException.__getattribute__")) = false := by cases expr <;> rfl
  rw [if_neg (by rw [hx0]; exact Bool.false_ne_true)]
  unfold boundAndCalled
  rw [F.attr_ValueError.ga.bind (.ref x)]
  refine wpAny_bind (wpAny_pure ?_)
  refine wpAny_call (xga_call X J c (wpAny_mono h (fun fin s' z => ?_) fun _ _ z => False.elim z))
  obtain ⟨v, rfl, hv, q⟩ := z
  show wpAny _ _ (handedOut v) _ _ _
  rw [handedOut_of hv]
  exact wpAny_pure q
theorem xfind_data {a g : Value} (hc : (clsIn K C).isSome = true) (ha : findIn K (.ref C) name = some (some a)) (hg : specialIn K a "__get__" = some (some g)) (ht : takesIn K a = some true) : findObj K C od name = some (.bind g a) := by
  obtain ⟨cd, e⟩ := Option.isSome_iff_exists.mp hc
  unfold findObj
  rw [e, Option.bind_some, ha, Option.bind_some]
  show Option.bind (specialIn K a "__get__") _ = _
  rw [hg, Option.bind_some]
  show Option.bind (takesIn K a) _ = _
  rw [ht]
  rfl
theorem xget_class {Q : Option Value → Shared → Prop} (X : K.In s.heap) (J : InstAt s.heap x ox C od) (c : XCls K C) (h : Q (some (.ref C)) { s with toks := s.toks + 1 }) : wpAny (model prog w) A (getAttr? (.ref x) "__class__") Q E s := by
  obtain ⟨hh', g, d, t, os⟩ := s
  have hf : findObj K C od "__class__" = some (.bind (.builtin "getset_descriptor.__get__") (.builtin "object.__class__")) := xfind_data (by obtain ⟨cd, hc, _⟩ := any_some c.hd; rw [hc]; rfl) c.kc c.cg c.ct
  have L0 := J.type (M := model prog w)
  have L2 := looks_find (M := model prog w) X J hf
  unfold getAttr? getAttrBy?
  refine wpAny_bind (wpAny_mkText ?_)
  refine wpAny_bind (wpAny_attempt (xget_by X J c ?_))
  unfold Builtin.«object.__getattribute__»
  refine wpAny_bind (wpAny_pure (wpAny_bind (wpAny_pure (wpAny_bind (L0.at (wpAny_bind (L2.at ?_)))))))
  show wpAny _ _ (Builtin.ObjectAttr.bindTo _ _ _ _) _ _ _
  unfold Builtin.ObjectAttr.bindTo
  refine wpAny_bind (wpAny_holding (wpAny_call (class_get (s := ⟨hh', g, d, t + 1, os⟩) X J c.mo ?_)))
  exact wpAny_pure ⟨_, rfl, rfl, wpAny_pure h⟩
theorem kitx_exc (c : XCls K C) : KitX K (.ref x) (.ref C) (fun h => ∃ ox od, InstAt h x ox C od) where
  ty := fun _ _ _ h => by
    obtain ⟨_, _, J⟩ := h
    exact J.type
  it := fun _ _ X _ => by
    obtain ⟨cd, hc, _⟩ := any_some c.hd
    unfold clsIn at hc
    split at hc
    · rename_i c' d' cd' sl' ho
      intro A' Q' E' s' k q
      unfold isType loadHead
      exact wpAny_bind (wpAny_loadPart (k _ _ (X _ _ ho)) (wpAny_pure q))
    · cases hc
  ne := fun h tp dd its n sl X htp => by
    obtain ⟨cd, hc, _⟩ := any_some c.hd
    refine Bool.eq_false_iff.mpr fun q => ?_
    have e : C = tp := Value.ref.inj (beq_iff_eq.mp q)
    subst e
    unfold clsIn at hc
    split at hc
    · rename_i c' d' cd' sl' ho
      have z := (X _ _ ho).symm.trans htp
      cases z
    · cases hc
  ca := fun X h k => by
    obtain ⟨_, _, J⟩ := h
    exact xget_class X J c k
end
end L2
namespace L2
open PySem PySem.Spec PyProof.Rows PySem.W
noncomputable def XD (d : Option Addr) (fs : List (Str × V)) (H : Hp) : Prop := match d with | none => fs = [] | some x => H x = some (.xd fs)
noncomputable def clsV : V → Option Value | .ty n => some (.type n) | .ref a => some (.ref a) | _ => none
theorem clsV_rel {c : V} {u w : Value} (e : clsV c = some u) (r : RelV c w) : w = u := by
  cases c with
  | ty n => cases e; exact r
  | ref a => cases e; exact r
  | _ => cases e
inductive KxOf (K : PySem.W.Frag) (H : Hp) : V → Value → Prop where
  | kd {x : V} {T : String} (e : KdOf K H x T) : KxOf K H x (.type T)
  | exc {a C : Addr} {d : Option Addr} {fs : List (Str × V)} (e : H a = some (.ext (xPhi a C d))) (f : XD d fs H) (c : XCls K C) : KxOf K H (.ref a) (.ref C)
section
variable {X : Cx} {pins : List (Addr × Obj)} {σ : St} {H : Hp} {s : Shared} {a C : Addr} {d : Option Addr} {fs : List (Str × V)} {A : Around} {E : Value → Shared → Prop} {Q : Value → Shared → Prop} {b : Bool}
theorem Inv.exc (I : Inv X pins σ H s) (ha : H a = some (.ext (xPhi a C d))) (hd : XD d fs H) : ∃ ox od, InstAt s.heap a ox C od ∧ ∀ name v, fs.lookup name = some v → ∃ o u, od = some o ∧ RelV v u ∧ lookIn name o = some (some u) := by
  obtain ⟨⟨oe, vs, he, hc, hdd, hv⟩, _⟩ := I.hok a _ ha
  have no : notCls oe = true := by unfold notCls; rw [hv]
  cases d with
  | none =>
    cases (show fs = [] from hd)
    exact ⟨oe, none, ⟨he, hc, no, by rw [hdd]; trivial⟩, fun _ _ z => by cases z⟩
  | some x =>
    obtain ⟨mA, n, r⟩ := I.hok x _ hd
    obtain ⟨od, ho, hl⟩ := lookIn_ns n
    refine ⟨oe, some od, ⟨he, hc, no, by rw [hdd]; exact ho⟩, fun name v q => ?_⟩
    obtain ⟨u, hu, ru⟩ := RelO.some_of (v := v) (o := mA name) (by rw [← q]; exact r name)
    exact ⟨od, u, rfl, ru, by rw [hl, hu]⟩
theorem isx_one {x : V} {u c t : Value} (I : Inv X pins σ H s) (rx : RelV x u) (ty : KxOf X.K H x t) (e : kitOne X.K t c = some b) (h : ∀ tk, Q (.bool b) { s with toks := tk }) :
    wpAny (model X.prog X.w) A (call (.builtin "isinstance") [u, c]) Q E s := by
  cases ty with
  | kd k => exact isk_one I rx k e h
  | exc ea f k =>
    obtain ⟨ox, od, J, _⟩ := I.exc ea f
    cases (show u = Value.ref _ from rx)
    exact kia_one (kitx_exc k) I.kIn ⟨ox, od, J⟩ e (fun z => nomatch z) h
end
noncomputable def rIsX (K : PySem.W.Frag) : List V → Hp → VK → Prop := fun xs H Q => ∃ (x c : V) (t u : Value) (b : Bool), xs = [x, c] ∧ KxOf K H x t ∧ clsV c = some u ∧ kitOne K t u = some b ∧ Q (.bl b) H
theorem call_isX {X : Cx} : CallR X (.builtin "isinstance") (rIsX X.K) := by
  intro pins s σ H xs us Q I r h
  obtain ⟨x, c, t, u', b, rfl, ty, hc, e, q⟩ := h
  obtain ⟨u, w', rfl, rx, rn⟩ := vals2 r
  cases clsV_rel hc rn
  exact isx_one I rx ty e fun tk => ⟨.bl b, H, I.tok tk, rfl, q⟩
theorem vc_isX {K : PySem.W.Frag} {H : Hp} {Q : VK} {x c : V} {t u : Value} {b : Bool} (ty : KxOf K H x t) (hc : clsV c = some u) (e : kitOne K t u = some b) (q : Q (.bl b) H) : rIsX K [x, c] H Q := ⟨x, c, t, u, b, rfl, ty, hc, e, q⟩
end L2
namespace L2
open PySem PySem.Spec PyProof.Rows PySem.W
noncomputable def veRow : List Value := [.type "ValueError", .type "Exception", .type "BaseException", .type "object"]
noncomputable def XUp (h : Heap) (C : Addr) : Prop := ∃ nm q N bs bm hdct sn sub ab col dd k0 k1 k2 k3 k5, h.get? C = some (excClassObj nm q C N bs bm hdct sn sub ab col dd k0 k1 k2 k3 k5 "ValueError.__new__") ∧ OwnTail h veRow bm
noncomputable abbrev xObj (C t : Addr) : Obj := { cls := .ref C, data := .fields #[.ref t, .none, .none, .none, .bool false, .none] }
noncomputable def xHeap (h : Heap) (C : Addr) (rest : List Value) : Heap := (h.push { cls := .type "tuple", data := .seq rest.toArray }).push (xObj C h.objs.size)
section
variable {prog : Program} {w : World} {A : Around} {E : Value → Shared → Prop} {h : Heap} {g : Array GenState} {d : Drawn} {t : Nat} {os : OsState} {C e : Addr} {rest : List Value}
theorem xHeap_keep {b : Addr} {o : Obj} (q : h.get? b = some o) : (xHeap h C rest).get? b = some o := Heap.get?_push_of_some _ (Heap.get?_push_of_some _ q)
theorem xHeap_at : (xHeap h C rest).get? (h.objs.size + 1) = some (xObj C h.objs.size) := by
  have z := Heap.get?_push_size (h.push { cls := .type "tuple", data := .seq rest.toArray }) (o := xObj C h.objs.size) rfl
  rwa [Heap.size_push] at z
theorem x_tcall {init : Value} {Q : Fin → Shared → Prop} (c : XUp h C) (hl : rest.length ≤ sizeLine) (li : Looks (model prog w) (xHeap h C rest) (typeLookup (.ref C) "__init__") (some init))
    (q : wpAny (model prog w) A (bindSpecial init (.ref (h.objs.size + 1))) (fun p s' => wpAny (model prog w) A (call p.1 (p.2 ++ rest)) (fun r s2 => r = .none ∧ Q (.done (.ret (.ref (h.objs.size + 1)))) s2) E s') E ⟨xHeap h C rest, g, d, t, os⟩) :
    wpAny (model prog w) A (Builtin.«type.__call__» ⟨.ref C :: rest, []⟩) Q E ⟨h, g, d, t, os⟩ := by
  obtain ⟨nm, qn, N, bs, bm, hdct, sn, sub, ab, col, dd, k0, k1, k2, k3, k5, hC, T⟩ := c
  have FV := F.excBase_ValueError
  repeat (first | with_reducible refine wpAny_loadPart_at hC ?_ | with_reducible refine wpAny_madeBy_exc hC ?_ | wp_step)
  refine codeAny_call_builtin_code (Code.quiet_builtin _ FV.quiet) (wpAny_check_new_subU FV (bmB := veRow) rfl T hC ?_)
  refine codeAny_exc_new_subU FV (bmB := veRow) rfl FV T hC ?_ hl
  show wpAny _ _ _ _ _ ⟨xHeap h C rest, g, d, t, os⟩
  have g1 : (xHeap h C rest).get? C = _ := xHeap_keep hC
  have g2 : (xHeap h C rest).get? (h.objs.size + 1) = _ := xHeap_at
  have cc : (Value.ref C :: bm).contains (.ref C) = true := by simp
  unfold isInstance
  repeat (first | with_reducible refine wpAny_loadPart_at g2 ?_ | (with_reducible refine wpAny_isSubtype_exc g1 ?_; rw [cc]) | wp_step)
  show wpAny _ _ (typeLookup (.ref C) _) _ _ _
  refine li.at ?_
  refine wpAny_holding (wpAny_bind ?_)
  refine wpAny_mono q (fun p s' z => ?_) fun _ _ x => x
  obtain ⟨f, b⟩ := p
  refine wpAny_bind (wpAny_mono z (fun r s2 y => ?_) fun _ _ x => x)
  obtain ⟨rfl, y⟩ := y
  wp_walk
  exact y
theorem x_binit {oe : Obj} {t0 : Addr} {vs : Array Value} {Q : Value → Shared → Prop} (c : XUp h C) (he : h.get? e = some oe) (hc : oe.cls = .ref C) (hv : oe.data = .fields vs) (h0 : vs[0]? = some (.ref t0)) (hl : rest.length ≤ sizeLine)
    (q : Q .none ⟨(h.push { cls := .type "tuple", data := .seq rest.toArray }).update e (Obj.mapFields (·.setIfInBounds 0 (.ref h.objs.size))), g, d, t, os⟩) :
    wpAny (model prog w) A (call (.builtin "ValueError.__init__") (.ref e :: rest)) Q E ⟨h, g, d, t, os⟩ := by
  obtain ⟨nm, qn, N, bs, bm, hdct, sn, sub, ab, col, dd, k0, k1, k2, k3, k5, hC, T⟩ := c
  have FV := F.excBase_ValueError
  refine wpAny_call (codeAny_call_builtin FV.init.plain FV.initEntry (wpAny_check_init_subU FV T hC he hc ?_))
  have h1 := Heap.get?_push_of_some { cls := .type "tuple", data := .seq rest.toArray } he
  have hn : 0 < vs.size := by
    rcases Nat.lt_or_ge 0 vs.size with y | y
    · exact y
    · rw [Array.getElem?_eq_none y] at h0; cases h0
  repeat (any_goals (first | assumption | with_reducible refine wpAny_field h1 hv h0 ?_ | with_reducible refine wpAny_setField h1 hv hn ?_ | wp_step))
theorem x_call {init : Value} {Q : Value → Shared → Prop} (c : XUp h C) (hl : rest.length ≤ sizeLine) (li : Looks (model prog w) (xHeap h C rest) (typeLookup (.ref C) "__init__") (some init))
    (q : wpAny (model prog w) (A.under (.builtin "type.__call__" ⟨.ref C :: rest, []⟩)) (bindSpecial init (.ref (h.objs.size + 1))) (fun p s' => wpAny (model prog w) (A.under (.builtin "type.__call__" ⟨.ref C :: rest, []⟩)) (call p.1 (p.2 ++ rest)) (fun r s2 => r = .none ∧ Q (.ref (h.objs.size + 1)) s2) E s') E ⟨xHeap h C rest, g, d, t, os⟩) :
    wpAny (model prog w) A (call (.ref C) rest) Q E ⟨h, g, d, t, os⟩ := by
  have c' := c
  obtain ⟨nm, qn, N, bs, bm, hdct, sn, sub, ab, col, dd, k0, k1, k2, k3, k5, hC, T⟩ := c
  have f1 := tc_lookup
  have f2 := tc_bind (.ref C)
  have ht : Shared.TypeIs ⟨h, g, d, t, os⟩ (.ref C) "type" := ⟨_, hC, rfl⟩
  refine wpAny_call (codeAny_of_tree (show wpAny _ _ (callAny (.ref C) _) _ _ _ from ?_))
  repeat (any_goals (first | assumption | (with_reducible refine wpAny_loadPart_at hC ?_) | wp_step))
  refine ⟨rfl, codeAny_call_builtin_at (Code.quiet_builtin _ (by decide +kernel)) entry_typeCall (wpAny_check_type_call_sub hC (x_tcall c' hl li ?_))⟩
  exact q
theorem x_raise {env : Env} {x : Sem Value} {Q : Flow → Shared → Prop} {s : Shared} (hh : A.handled = none)
    (k : wpAny (model prog w) A x (fun v s1 => ∃ a C d, v = .ref a ∧ XUp s1.heap C ∧ XNew s1.heap a C d ∧ E v s1) E s) : wpAny (model prog w) A (raiseStmt env (some x) none) Q E s := by
  unfold raiseStmt
  refine wpAny_bind (wpAny_mono k (fun v s1 z => ?_) fun _ _ y => y)
  obtain ⟨a, C, dx, rfl, ⟨nm, qn, N, bs, bm, hdct, sn, sub, ab, col, dd, k0, k1, k2, k3, k5, hC, T⟩, ⟨oe, vs, ho, hc, _, nc, _, h1⟩, q⟩ := z
  have cc : (Value.ref C :: bm).contains (.type "BaseException") = true := by rw [List.contains_cons, T.hasType (X := "BaseException") (b := true) rfl, Bool.or_true]
  obtain ⟨hp, g, d, tk, os⟩ := s1
  obtain ⟨c0, d0, dt, sl⟩ := oe
  cases (show c0 = Value.ref C from hc)
  cases (show dt = Data.fields vs from nc)
  repeat (first | with_reducible refine wpAny_loadPart_at ho ?_ | with_reducible refine wpAny_loadPart_at hC ?_ | (with_reducible refine wpAny_isSubtype_exc hC ?_; rw [cc]) | wp_step)
  rw [h1]
  repeat (first | exact wpAny_raiseNew_none hh q | wp_step)
theorem x_raise_stmt {env : Env} {ce : Expr} {pos : Pos} {Q : Flow → Shared → Prop} {s : Shared} (hh : A.handled = none)
    (k : wpAny (model prog w) A (eval ce env) (fun v s1 => ∃ a C d, v = .ref a ∧ XUp s1.heap C ∧ XNew s1.heap a C d ∧ E v s1) E s) : wpAny (model prog w) A (exec (.Raise (some ce) none pos) env) Q E s := by
  rw [arm_exec_Raise]
  refine wpAny_bind (wpAny_standAt (x_raise hh (x := eval ce env >>= fun v => standAt pos >>= fun _ => pure v) ?_))
  exact wpAny_bind (wpAny_mono k (fun v s1 z => wpAny_bind (wpAny_standAt (wpAny_pure z))) fun _ _ y => y)
end
end L2
namespace L2
open PySem PySem.Spec PyProof.Rows PySem.W
noncomputable def isStrKey (e : DictEntry) : Bool := match e.key with | .str _ _ => true | _ => false
structure XRaise (K : PySem.W.Frag) (C B : Addr) : Prop where
  up : ∃ (dd : Option Addr) (cd : ClassData) (sl : Array (Option Value)) (oc : Value) (od : Option Addr) (es : Array DictEntry) (ep : Nat) (sl' : Array (Option Value)), K.lookup B = some ⟨.type "type", dd, .cls cd, sl⟩ ∧ K.lookup cd.ns = some ⟨oc, od, .dict es ep, sl'⟩ ∧ es.all isStrKey = true ∧ nsIn K cd.ns "__init__" = some none
  lk : ∃ nm q N bs hdct sn sub ab col dd k0 k1 k2 k3 k5, K.lookup C = some (excClassObj nm q C N bs (.ref B :: [.type "ValueError", .type "Exception", .type "BaseException", .type "object"]) hdct sn sub ab col dd k0 k1 k2 k3 k5 "ValueError.__new__")
  kp : keepIn K (.ref C) = true
theorem XRaise.is {K : PySem.W.Frag} {C B : Addr} {h : Heap} (r : XRaise K C B) (X : K.In h) : XUp h C := by
  obtain ⟨nm, q, N, bs, hdct, sn, sub, ab, col, dd, k0, k1, k2, k3, k5, lk⟩ := r.lk
  obtain ⟨dd', cd, sl, oc, od, es, ep, sl', ho, lo, all, ni⟩ := r.up
  have ok : nsOkIn K cd.ns = true := by
    unfold nsOkIn
    rw [lo]
    exact all
  exact ⟨nm, q, N, bs, _, hdct, sn, sub, ab, col, dd, k0, k1, k2, k3, k5, X _ _ lk, .own (X _ _ ho) (.of_isNs (isNs_of_in X ok)) (nsMap_none_of_in X ok ni) .base⟩
noncomputable def Rs (X : Cx) (E : XK) : Prop := ∀ (pins : List (Addr × Obj)) (σ : St) (H : Hp) (s : Shared) (a C : Addr) (d : Option Addr), Inv X pins σ H s → FpOk X pins H a → XNew s.heap a C d → E (.ref C) d H → X.xe (.ref a) s
theorem rs_of {P : Program} {w : World} {K : PySem.W.Frag} {mg : Str → Option Value} {base : Heap} {N : List Str} {qual : Str} {scope : Scope} {f : Addr} {cd : Value} {A : Around} {outer : List Env} {s₀ : Shared} {H₀ : Hp} {E : XK} : Rs (cxOf (CX1 P w) P w K mg base N qual scope f cd A outer s₀ H₀ E) E :=
  fun _ _ _ _ _ _ _ I fa x q => xe_new I fa x q
section
variable {X : Cx} {C B : Addr} {x : Str} {np cpos pos : Pos} {e : Expr} {es : List Expr} {t : TA} {E : XK} {pins : List (Addr × Obj)} {σ : St} {H : Hp} {s : Shared}
theorem K_on {K : PySem.W.Frag} {h h' : Heap} (X : K.In h) (k : ∀ b o, h.get? b = some o → h'.get? b = some o) : K.In h' := fun b o q => k _ _ (X b o q)
theorem make_e0 {R : Hp → Prop} (r : XRaise X.K C B) (hi : findIn X.K (.ref C) "__init__" = some (some (.builtin "ValueError.__init__"))) (hg : Gl X x) (hm : X.mg x = some (.ref C)) (ha : PA X (e :: es) t) (I : Inv X pins σ H s) (h : t σ H fun vs H1 => vs.length ≤ 99 ∧ R H1)
    (hdb : (x == ("__debug__" : Str)) = false := by decide) (he : starEach (e :: es) X.env = (false, eval e X.env) :: starEach es X.env := by rfl) (hpl : (backTo cpos (starEach es X.env)).any (·.1) = false := by rfl) :
    wpAny (model X.prog X.w) X.A (eval (.Call (.Name x np) (e :: es) [] cpos) X.env) (fun v s1 => ∃ a H1, v = .ref a ∧ Inv X pins σ H1 s1 ∧ FpOk X pins H1 a ∧ XNew s1.heap a C none ∧ R H1) X.xe s := by
  refine wpAny_Call_Name_kw (ld_glob I hg hm ?_ hdb)
  refine PySem.W.callWith_K (h₀ := X.base) I.ok.mod.kin r.kp (thn (ha cpos pins s σ H _ I h) fun us s1 ⟨vs, H1, I1, rv, hl, q⟩ => ⟨I1.kIn, ?_⟩) he hpl
  obtain ⟨hh, g, d, tk, os⟩ := s1
  have hus : us.length ≤ sizeLine := Nat.le_trans (by rw [← rv.length]; exact hl) (by decide)
  have K1 : X.K.In (xHeap hh C us) := K_on I1.kIn fun b o z => xHeap_keep z
  refine x_call (r.is I1.kIn) hus (looks_findIn K1 hi) ?_
  rw [F.excBase_ValueError.init.bind]
  refine wpAny_pure ?_
  refine x_binit (r.is K1) xHeap_at rfl rfl rfl hus ⟨rfl, ?_⟩
  have ne : ∀ b o, hh.get? b = some o → b ≠ hh.objs.size + 1 := fun b o z => Nat.ne_of_lt (Nat.lt_succ_of_lt (Heap.lt_size z))
  have kp : ∀ b o, hh.get? b = some o → (((xHeap hh C us).push { cls := .type "tuple", data := .seq us.toArray }).update (hh.objs.size + 1) (Obj.mapFields (·.setIfInBounds 0 (.ref (xHeap hh C us).objs.size)))).get? b = some o := fun b o z =>
    (Heap.get?_update_other _ _ (Ne.symm (ne b o z))).trans (Heap.get?_push_of_some _ (xHeap_keep z))
  refine ⟨hh.objs.size + 1, H1, rfl, I1.noted (ch := []) (fun b z => by cases z) (fun b o _ _ z => kp b o z) (fun b o _ z => ⟨o.slots, kp b o z⟩), I1.fpOk (Nat.le_succ _) (I1.hok.fresh (Nat.le_succ _)), ?_, q⟩
  have e1 := Heap.get?_update_self (h := (xHeap hh C us).push { cls := .type "tuple", data := .seq us.toArray }) (Obj.mapFields (·.setIfInBounds 0 (.ref (xHeap hh C us).objs.size))) (Heap.get?_push_of_some _ xHeap_at) rfl
  exact ⟨_, _, e1, rfl, rfl, rfl, (show 1 < 6 by decide), rfl⟩
noncomputable def tRaise (C : Addr) (E : XK) (t : TA) : TS := fun _ σ H => t σ H fun vs H1 => vs.length ≤ 99 ∧ E (.ref C) none H1
theorem ps_raise0 (rs : Rs X E) (hc : X.calm = true) (r : XRaise X.K C B) (hi : findIn X.K (.ref C) "__init__" = some (some (.builtin "ValueError.__init__"))) (hg : Gl X x) (hm : X.mg x = some (.ref C)) (ha : PA X (e :: es) t)
    (hdb : (x == ("__debug__" : Str)) = false := by decide) (he : starEach (e :: es) X.env = (false, eval e X.env) :: starEach es X.env := by rfl) (hpl : (backTo cpos (starEach es X.env)).any (·.1) = false := by rfl) :
    PS X (.Raise (some (.Call (.Name x np) (e :: es) [] cpos)) none pos) (tRaise C E t) := by
  intro pins s σ H D I h
  refine x_raise_stmt (I.ok.hd hc) (wpAny_mono (make_e0 r hi hg hm ha I h hdb he hpl) (fun v s1 z => ?_) fun _ _ z => z)
  obtain ⟨a, H1, rfl, I1, fa, xn, q⟩ := z
  exact ⟨a, C, none, rfl, r.is I1.kIn, xn, rs _ _ _ _ _ _ _ I1 fa xn q⟩
end
end L2
namespace L2
open PySem PySem.Spec PyProof.Rows PySem.W
section
variable {prog : Program} {w : World} {A : Around} {E : Value → Shared → Prop} {s : Shared} {K : Frag} {x C : Addr} {ox : Obj} {name : Str} {v : Value} {vs : Array Value}
end
end L2
namespace L2
open PySem PySem.Spec PyProof.Rows PySem.W
section
variable {X : Cx} {pins : List (Addr × Obj)} {σ : St} {H : Hp} {s : Shared} {a C : Addr} {d : Option Addr} {φ ψ : Heap → Prop} {h' : Heap} {t' : Nat}
end
section
variable {X : Cx} {B : Addr} {x : Str} {np apos cpos pos pos' : Pos} {o e value : Expr} {es : List Expr} {t : TA} {ta tv : TE} {f : Str}
end
end L2
namespace L2
open PySem PySem.Spec PyProof.Rows PySem.W
section
variable {X : Cx} {C B f : Addr} {k : Nat} {fd : FuncData} {ps : List Str} {sp : Sp} {dvs : List V} {ds : List Value} {x : Str} {np cpos pos : Pos} {e : Expr} {es : List Expr} {t : TA} {E : XK} {pins : List (Addr × Obj)} {σ : St} {H : Hp} {s : Shared}
end
end L2
namespace L2
open PySem PySem.Spec PyProof.Rows PySem.W
theorem bo_ValueError : bootBuiltins "ValueError" = some (.type "ValueError") := by decide +kernel
section
variable {P : Program} {w : World} {K : PySem.W.Frag} {mg : Str → Option Value} {base : Heap}
theorem Fun.okX {x qual : Str} {st : Stmt} {f : Addr} {fd : FuncData} {N ps : List Str} {k : Nat} {sp : Sp} (F : Fun K x qual st f fd) (S : FnScope N ps (defScope st)) (len : ∀ vs H Q E, sp vs H Q E → vs.length = ps.length)
    (hbody : ∀ (cdv : Value) (A : Around) (outer : List Env) (s : Shared) (H : Hp) (vs : List V) (Q : VK) (E : XK), Room k (A.deeper (envOfC qual (defScope st) s.heap.objs.size f cdv)) → sp vs H Q E →
      ∃ t, PSs (cxOf (CX1 P w) P w K mg base N qual (defScope st) f cdv A outer s H E) (defBody st) t ∧ t { nx := fun _ H' => Q .non H', rt := Q } (start N vs) H) : FnOk P w K mg base (CX1 P w) (k + 1) f fd ps sp := by
  obtain ⟨_, _, _, _, _, _, cdv, _, _, rfl, lk, hcd⟩ := F.ex
  exact fn_of lk hcd S len fun A outer s H vs Q E hr hsp => hbody cdv A outer s H vs Q E hr hsp
end
end L2
namespace L2
open PySem PySem.Spec PyProof.Rows
theorem bo_any : bootBuiltins "any" = some (.builtin "any") := by decide +kernel
section
variable {X : Cx}
noncomputable def rAny (K : PySem.W.Frag) : List V → Hp → VK → Prop := fun xs H Q => ∃ (p : Addr) (bs : List Bool), xs = [.ref p] ∧ SqL K H p (bs.map V.bl) ∧ Q (.bl (bs.any id)) H
theorem any_range (bs : List Bool) : (List.range bs.length).any (fun i => bs.getD i false) = bs.any id := by
  rw [Bool.eq_iff_iff, List.any_eq_true, List.any_eq_true]
  constructor
  · rintro ⟨i, hi, h⟩
    have hi' := List.mem_range.mp hi
    rw [List.getD_eq_getElem?_getD, List.getElem?_eq_getElem hi'] at h
    exact ⟨_, List.getElem_mem hi', h⟩
  · rintro ⟨b, hb, h⟩
    obtain ⟨i, hi, e⟩ := List.mem_iff_getElem.mp hb
    refine ⟨i, List.mem_range.mpr hi, ?_⟩
    rw [List.getD_eq_getElem?_getD, List.getElem?_eq_getElem hi, e]
    exact h
theorem call_any (hc : X.calm = true) : CallR X (.builtin "any") (rAny X.K) := by
  intro pins s σ H xs us Q I r h
  obtain ⟨p, bs, rfl, hq, q⟩ := h
  obtain ⟨u, rfl, ru⟩ := vals1 r
  cases (show u = Value.ref p from ru)
  obtain ⟨its, rv, pl, hz⟩ := I.list hq
  have hl := rv.length
  rw [List.length_map] at hl
  refine call_any_walk (wpAny_pyIter_list pl.isList ?_)
  have hlt : p < s.heap.objs.size := by obtain ⟨o, n, e, _⟩ := pl; exact Heap.lt_size e
  have hh : X.A.in1.handled = none := I.ok.hd hc
  refine ⟨s.heap.objs.size, _, _, _, _, _, fun i => bs.getD i false, rfl, Walks.list hh _ p (Nat.ne_of_lt hlt) its.toArray, ?_, ?_, ?_⟩
  · exact ⟨⟨_, Heap.get?_push_size _ rfl, rfl, rfl⟩, pl.isList.push _⟩
  · intro i v s' Q' E' hv hQ
    have hv' : its[i]? = some v := by simpa using hv
    have hi : i < bs.length := by
      have := (List.getElem?_eq_some_iff.mp hv').1
      omega
    obtain ⟨u, hu, ru⟩ := rv.get (show (bs.map V.bl)[i]? = some (V.bl bs[i]) by simp [hi])
    rw [hv'] at hu
    cases hu
    cases (show v = Value.bool bs[i] from ru)
    refine wpAny_truthy_bool ?_
    have e : bs.getD i false = bs[i] := by rw [List.getD_eq_getElem?_getD, List.getElem?_eq_getElem hi]; rfl
    replace hQ : Q' (bs.getD i false) s' := hQ
    rw [e] at hQ
    exact hQ
  · intro h' tk hk
    have e : its.toArray.size = bs.length := by simp [hl]
    rw [e, any_range]
    exact ⟨.bl _, H, I.kept (t' := tk) fun b o e => hk b o (by simp; exact Nat.ne_of_lt (Heap.lt_size e)) (Heap.get?_push_of_some _ e), rfl, q⟩
theorem vc_any {K : PySem.W.Frag} {H : Hp} {Q : VK} {p : Addr} {bs : List Bool} (l : SqL K H p (bs.map V.bl)) (q : Q (.bl (bs.any id)) H) : rAny K [.ref p] H Q := ⟨p, bs, rfl, l, q⟩
theorem vals_bl {bs : List Bool} : ∀ {its : List Value}, Vals (bs.map V.bl) its → its = bs.map Value.bool := by
  induction bs with
  | nil => intro its h; cases h; rfl
  | cons b bs ih =>
    intro its h
    cases h with
    | cons r q =>
      rw [ih q]
      exact congrArg (· :: _) (show _ = Value.bool _ from r)
noncomputable def isTrueV : Value → Bool
  | .bool b => b
  | _ => false
noncomputable def rCountT : V → List V → Hp → VK → Prop := fun x vs H Q => ∃ (l : Addr) (bs : List Bool), x = .ref l ∧ vs = [.bl true] ∧ H l = some (.lst (bs.map V.bl)) ∧ Q (.int (bs.countP id : Nat)) H
theorem mt_countT : MtR X "list.count" rCountT := by
  intro pins s σ H x vs v us Q I rx rv h
  obtain ⟨l, bs, rfl, rfl, hH, q⟩ := h
  cases rx
  obtain ⟨u, rfl, ru⟩ := vals1 rv
  cases (show u = Value.bool true from ru)
  obtain ⟨z, its, n, r, hl, e⟩ := I.lstM hH
  have ei := vals_bl r
  subst ei
  refine call_meets F.slot_list_count ⟨_, e, rfl⟩ F.entry_list_count (F.args_list_count_2 _ _) (SeqAt.list_countAt l _ n none #[] (.bool true) isTrueV) ⟨e, fun y hy => ?_, ?_⟩
  · obtain ⟨b, _, rfl⟩ := List.mem_map.mp (show y ∈ bs.map Value.bool by simpa using hy)
    have := SeqAt.EqAt.bool_bool (A := X.A.in1) (s := s) b true
    rw [show (b == true) = isTrueV (.bool b) by cases b <;> rfl] at this
    exact this
  · have ec : ((bs.map Value.bool).toArray.toList.countP isTrueV) = bs.countP id := by
      rw [List.countP_map]
      rfl
    rw [ec]
    exact ⟨.int _, H, I.kept (t' := s.toks + 1) fun b o e => e, ⟨_, rfl⟩, q⟩
noncomputable def rIndexT : V → List V → Hp → VK → Prop := fun x vs H Q => ∃ (l : Addr) (bs : List Bool) (j : Nat), x = .ref l ∧ vs = [.bl true] ∧ H l = some (.lst (bs.map V.bl)) ∧ j < 1000 ∧ bs[j]? = some true ∧ (∀ m, m < j → bs[m]? = some false) ∧ Q (.int (j : Int)) H
theorem mt_indexT : MtR X "list.index" rIndexT := by
  intro pins s σ H x vs v us Q I rx rv h
  obtain ⟨l, bs, j, rfl, rfl, hH, j1, hj, hno, q⟩ := h
  cases rx
  obtain ⟨u, rfl, ru⟩ := vals1 rv
  cases (show u = Value.bool true from ru)
  obtain ⟨z, its, n, r, hl, e⟩ := I.lstM hH
  have ei := vals_bl r
  subst ei
  have jl := (List.getElem?_eq_some_iff.mp hj).1
  refine call_meets F.slot_list_index ⟨_, e, rfl⟩ F.entry_list_index (F.args_list_index_2 _ _) (SeqAt.list_indexAt l _ n none #[] (.bool true) isTrueV j (by simpa using jl) (by omega) ?_ ?_) ⟨e, fun y hy => ?_, ?_⟩
  · have := (List.getElem?_eq_some_iff.mp hj).2
    simp [isTrueV, this]
  · intro m hm hmj
    have := (List.getElem?_eq_some_iff.mp (hno m hmj)).2
    simp [isTrueV, this]
  · obtain ⟨b, _, rfl⟩ := List.mem_map.mp (show y ∈ bs.map Value.bool by simpa using hy)
    have := SeqAt.EqAt.bool_bool (A := X.A.in1) (s := s) b true
    rw [show (b == true) = isTrueV (.bool b) by cases b <;> rfl] at this
    exact this
  · exact ⟨.int _, H, I.kept (t' := s.toks + 1) fun b o e => e, ⟨_, rfl⟩, q⟩
noncomputable def tChain3 (r r' r'' : R2) (ta tb tc td : TE) : TE := fun σ H Q => ta σ H fun x H1 => tb σ H1 fun y H2 => r x y H2 fun z H3 => ∃ k, z = .bl k ∧
  (if k = true then tc σ H3 fun w' H4 => r' y w' H4 fun z2 H5 => ∃ k2, z2 = .bl k2 ∧ (if k2 = true then td σ H5 fun w2 H6 => r'' w' w2 H6 Q else Q (.bl false) H5) else Q (.bl false) H3)
theorem pe_chain3 {op op' op'' : CmpOp} {a b c d : Expr} {ta tb tc td : TE} {pos : Pos} {r r' r'' : R2} (ho : OpR X (compareOp op) r) (ho' : OpR X (compareOp op') r') (ho'' : OpR X (compareOp op'') r'') (ha : PE X a ta) (hb : PE X b tb) (hc : PE X c tc) (hd : PE X d td)
    (hm : lastMarks [op, op', op''] [b, c, d] = false := by with_unfolding_all rfl) : PE X (.Compare a [op, op', op''] [b, c, d] pos) (tChain3 r r' r'' ta tb tc td) := by
  intro pins s σ H Q I h
  refine Compare_chain (thn (ha pins s σ H _ I h) fun v s1 hq9 => EP.out hq9 fun x H1 I1 r1 q1 => chain_link (thn (hb pins s1 σ H1 _ I1 q1) fun u s2 hq9 => EP.out hq9 fun y H2 I2 r2 q2 =>
    thn (ho pins s2 σ H2 x y v u _ I2 r1 r2 q2) fun d s3 hq8 => ?_)) hm
  obtain ⟨z, H3, I3, r3, k, e, q3⟩ := hq8
  subst e
  cases r3
  refine wpAny_truthy_bool ?_
  cases k with
  | false => exact ite_ff ⟨.bl false, H3, I3, rfl, q3⟩
  | true =>
    refine ite_tt (chain_link (thn (hc pins s3 σ H3 _ I3 q3) fun w' s4 hq9 => EP.out hq9 fun z' H4 I4 r4 q4 => thn (ho' pins s4 σ H4 y z' u w' _ I4 r2 r4 q4) fun d' s5 hq8 => ?_))
    obtain ⟨z2, H5, I5, r5, k2, e2, q5⟩ := hq8
    subst e2
    cases r5
    refine wpAny_truthy_bool ?_
    cases k2 with
    | false => exact ite_ff ⟨.bl false, H5, I5, rfl, q5⟩
    | true => exact ite_tt (chain_last (thn (hd pins s5 σ H5 _ I5 q5) fun w2 s6 hq9 => EP.out hq9 fun z3 H6 I6 r6 q6 => ho'' pins s6 σ H6 z' z3 w' w2 Q I6 r4 r6 q6))
end
end L2
open L2 in
local macro_rules | `(tactic| walk_at "hl") => `(tactic| first
  | assumption
  | exact upd_same
  | (refine upd_keep (by assumption) ?_; walk_at "hl")
  | (refine (by assumption : Same _ _) _ _ ?_; walk_at "hl"))
local macro_rules | `(tactic| walk_at "side") => `(tactic| first
  | assumption | decide | omega | exact ⟨by decide, by decide⟩ | exact ⟨by decide, by decide, by decide⟩ | exact .inl ⟨by decide, by decide⟩ | exact .inr ⟨by decide, by decide⟩ | exact .inl ⟨by omega, by omega⟩ | exact .inr ⟨by omega, by omega⟩ | exact ⟨L2.up4 (by assumption), L2.up4 (by assumption)⟩)
local macro_rules | `(tactic| walk_at "vce") => `(tactic| first
  | ((with_reducible refine L2.vc_var (x := ?vcx) ?vce ?_); (case vce => rfl))
  | (with_reducible refine L2.vc_asg ?_)
  | (with_reducible refine L2.vc_name ?_)
  | (with_reducible refine L2.vc_c ?_)
  | (with_reducible refine L2.vc_op ?_)
  | (with_reducible refine L2.vc_rI0 ?_)
  | ((with_reducible refine L2.vc_rI ?vcside ?_); (case vcside => walk_at "side"))
  | (with_reducible refine L2.vc_cons ?_)
  | (with_reducible refine L2.vc_nil ?_)
  | (with_reducible refine L2.vc_tup ?_)
  | (with_reducible refine L2.vc_lst ?_)
  | (with_reducible refine L2.vc_call ?_)
  | (with_reducible refine L2.vc_cb ?_)
  | (with_reducible refine L2.vc_un ?_)
  | (with_reducible refine L2.vc_rU ?_)
  | ((with_reducible refine L2.vc_eq ?vce ?_); (case vce => rfl))
  | ((with_reducible refine L2.vc_ne ?vce ?_); (case vce => rfl))
  | (with_reducible refine L2.vc_if ?_)
  | (with_reducible refine L2.vc_test ?_)
  | (with_reducible refine L2.vc_tB ?_)
  | (with_reducible refine L2.vc_ex ?_)
  | (with_reducible refine L2.vc_abs ?_)
  | (with_reducible refine L2.vc_gsub ?_)
  | (with_reducible refine L2.vc_i1 ?_)
  | (with_reducible refine L2.vc_i2 ?_)
  | (with_reducible refine L2.vc_i3 ?_)
  | (with_reducible refine L2.vc_i4 ?_)
  | (with_reducible refine L2.vc_isII ?_)
  | (with_reducible refine L2.vc_isIB ?_)
  | (with_reducible refine L2.vc_isBB ?_)
  | (with_reducible refine L2.vc_ilist ?_)
  | (with_reducible refine L2.vc_ienum ?_)
  | (with_reducible refine L2.vc_istr ?_)
  | (with_reducible refine L2.vc_sfld ?_)
  | (with_reducible refine L2.vc_tfld ?_)
  | (with_reducible refine L2.vc_make ?_)
  | (with_reducible refine L2.vc_gcons ?_)
  | (with_reducible refine L2.vc_gnil ?_)
  | (with_reducible refine L2.vc_sl ?_)
  | (with_reducible refine L2.vc_nopart ?_)
  | (with_reducible refine L2.vc_part ?_)
  | (with_reducible refine L2.vc_exI ?_)
  | (with_reducible refine L2.vc_comp ?_)
  | (with_reducible refine L2.vc_rng1 ?_)
  | (with_reducible refine L2.vc_rng2 ?_)
  | (with_reducible refine L2.vc_for ?_)
  | (with_reducible refine L2.vc_bm ?_)
  | (with_reducible refine L2.vc_max ?_)
  | (with_reducible refine L2.vc_min ?_)
  | (with_reducible refine L2.vc_not ?_)
  | (with_reducible refine L2.vc_and ?_)
  | (with_reducible refine L2.vc_or ?_)
  | (with_reducible refine L2.vc_notV ?_)
  | (with_reducible refine L2.vc_andV ?_)
  | (with_reducible refine L2.vc_orV ?_)
  | (with_reducible refine L2.vc_ifE ?_)
  | (with_reducible refine L2.vc_ret ?_)
  | (with_reducible refine L2.vc_drop ?_)
  | (with_reducible refine L2.vc_next ?_)
  | ((with_reducible refine L2.vc_ixT (xs := ?vcs) (x := ?vcx) ?vch ?vce ?_); (case vch => first | assumption | exact L2.SqT.of (by walk_at "hl") | exact L2.Same.tup (by assumption) (by assumption)); (case vce => rfl))
  | ((with_reducible refine L2.vc_ixL (xs := ?vcs) (x := ?vcx) ?vch ?vce ?_); (case vch => first | assumption | exact L2.SqL.of (by walk_at "hl") | exact L2.Same.seq (by assumption) (by assumption)); (case vce => rfl)))
local macro_rules | `(tactic| walk_at "vcs") => `(tactic| repeat walk_at "vce")
local macro_rules | `(tactic| walk_at "vc") => `(tactic| repeat (first | walk_at "vce" | (with_reducible refine L2.vc_seq ?_)))
seal L2.PE L2.PT L2.PW L2.PA L2.PS L2.PSs L2.OpR L2.UnR L2.CallR L2.IxR L2.SlR L2.MtR L2.PG L2.PGs L2.PI L2.PO L2.PTs L2.Passes
local macro_rules | `(tactic| walk_at "vce") => `(tactic| first
  | (with_reducible refine L2.vc_iitems ?_)
  | (with_reducible refine L2.vc_dnew ?_)
  | (with_reducible refine L2.vc_dput ?_)
  | (with_reducible refine L2.vc_din ?_)
  | (with_reducible refine L2.vc_dnotin ?_)
  | (with_reducible refine L2.vc_dget2 ?_))
local macro_rules | `(tactic| walk_at "vce") => `(tactic| first
  | ((with_reducible refine L2.vc_aug (x := ?vcx) ?vce ?_); (case vce => rfl))
  | (with_reducible refine L2.vc_ipI ?_)
  | (with_reducible refine L2.vc_isN ?_)
  | (with_reducible refine L2.vc_notN ?_)
  | (with_reducible refine L2.vc_tru ?_)
  | (with_reducible refine L2.vc_irev ?_)
  | (with_reducible refine L2.vc_izip ?_)
  | (with_reducible refine L2.vc_bm0 ?_))
local macro_rules | `(tactic| walk_at "kont") => `(tactic| first
  | (with_reducible refine L2.vc_kont (by assumption) ?_)
  | (dsimp only; with_reducible refine L2.vc_kont (by assumption) ?_))
local macro_rules | `(tactic| walk_at "vcs") => `(tactic| repeat (first | walk_at "vce" | walk_at "kont"))
local macro_rules | `(tactic| walk_at "vc") => `(tactic| repeat (first | walk_at "vce" | walk_at "kont" | (with_reducible refine L2.vc_seqA fun _ _ => ?_)))
namespace My
open PySem L2
noncomputable def top (i : Nat) : Stmt := PySem.Challenge.pw_batchpipe_k33_the_spacer_that_fits.main.body.getD i (.Pass ⟨0, 0, 0, 0⟩)
noncomputable abbrev s_Pipe___init__ : Stmt := (inClass (top 7) 0)
noncomputable abbrev s_like_pipe : Stmt := (top 8)
noncomputable abbrev s_place_of : Stmt := (top 9)
noncomputable abbrev s_end_of : Stmt := (top 10)
noncomputable abbrev s_is_way : Stmt := (top 11)
noncomputable abbrev s_are_apart : Stmt := (top 12)
noncomputable abbrev s_first_apart : Stmt := (top 13)
noncomputable abbrev s_Content___init__ : Stmt := (inClass (top 15) 0)
noncomputable abbrev s_newly_met : Stmt := (top 16)
noncomputable abbrev s_joined : Stmt := (top 17)
noncomputable abbrev s_stretches : Stmt := (top 18)
noncomputable abbrev s_meetings : Stmt := (top 19)
noncomputable abbrev s_pigs : Stmt := (top 20)
noncomputable abbrev s_ware_at : Stmt := (top 21)
noncomputable abbrev s_pairs_ahead : Stmt := (top 23)
noncomputable abbrev s_pairs_at_first : Stmt := (top 24)
noncomputable abbrev s_check_way : Stmt := (top 26)
noncomputable abbrev s_spacer_for : Stmt := (top 28)
noncomputable abbrev s_l_mix : Stmt := (top 30)
noncomputable abbrev s_l_at : Stmt := (top 31)
noncomputable abbrev s_l_wares : Stmt := (top 32)
noncomputable abbrev s_l_five : Stmt := (top 33)
noncomputable abbrev s_l_apart : Stmt := (top 34)
noncomputable abbrev s_l_fill : Stmt := (top 35)
noncomputable abbrev s_l_push : Stmt := (top 36)
noncomputable abbrev s_l_pipe : Stmt := (top 37)
noncomputable abbrev s_l_of : Stmt := (top 38)
noncomputable abbrev s_l_units : Stmt := (top 39)
noncomputable abbrev s_l_spacer : Stmt := (top 40)
noncomputable abbrev s_l_spacers : Stmt := (top 41)
noncomputable abbrev s_l_kept : Stmt := (top 42)
noncomputable abbrev s_l_asked : Stmt := (top 43)
noncomputable abbrev s_law : Stmt := (top 44)
set_option genInjectivity false in
set_option genSizeOf false in
structure Ad where
  c_Pipe : Addr
  c_Content : Addr
  c_PipeError : Addr
  c_BadFill : Addr
  c_Touch : Addr
  c_NoWay : Addr
  c_NoSpacer : Addr
  f_Pipe___init__ : Addr
  d_Pipe___init__ : FuncData
  f_like_pipe : Addr
  d_like_pipe : FuncData
  f_place_of : Addr
  d_place_of : FuncData
  f_end_of : Addr
  d_end_of : FuncData
  f_is_way : Addr
  d_is_way : FuncData
  f_are_apart : Addr
  d_are_apart : FuncData
  f_first_apart : Addr
  d_first_apart : FuncData
  f_Content___init__ : Addr
  d_Content___init__ : FuncData
  f_newly_met : Addr
  d_newly_met : FuncData
  f_joined : Addr
  d_joined : FuncData
  f_stretches : Addr
  d_stretches : FuncData
  f_meetings : Addr
  d_meetings : FuncData
  f_pigs : Addr
  d_pigs : FuncData
  f_ware_at : Addr
  d_ware_at : FuncData
  f_pairs_ahead : Addr
  d_pairs_ahead : FuncData
  f_pairs_at_first : Addr
  d_pairs_at_first : FuncData
  f_check_way : Addr
  d_check_way : FuncData
  f_spacer_for : Addr
  d_spacer_for : FuncData
  f_l_mix : Addr
  d_l_mix : FuncData
  f_l_at : Addr
  d_l_at : FuncData
  f_l_wares : Addr
  d_l_wares : FuncData
  f_l_five : Addr
  d_l_five : FuncData
  f_l_apart : Addr
  d_l_apart : FuncData
  f_l_fill : Addr
  d_l_fill : FuncData
  f_l_push : Addr
  d_l_push : FuncData
  f_l_pipe : Addr
  d_l_pipe : FuncData
  f_l_of : Addr
  d_l_of : FuncData
  f_l_units : Addr
  d_l_units : FuncData
  f_l_spacer : Addr
  d_l_spacer : FuncData
  f_l_spacers : Addr
  d_l_spacers : FuncData
  f_l_kept : Addr
  d_l_kept : FuncData
  f_l_asked : Addr
  d_l_asked : FuncData
  f_law : Addr
  d_law : FuncData
structure DefOk (K : PySem.W.Frag) (mg : Str → Option Value) (nm : Str) (st : Stmt) (f : Addr) (d : FuncData) (ps : List Str) : Prop where
  F : Fun K nm nm st f d
  b : Binds K d ps []
  m : mg nm = some (.ref f)
structure Txt (K : PySem.W.Frag) (mg : Str → Option Value) (t : Ad) : Prop where
  F_Pipe___init__ : Fun K "__init__" "Pipe.__init__" s_Pipe___init__ t.f_Pipe___init__ t.d_Pipe___init__
  b_Pipe___init__ : Binds K t.d_Pipe___init__ ["self", "rooms", "table", "thick", "apart", "pig"] []
  D_like_pipe : DefOk K mg "like_pipe" s_like_pipe t.f_like_pipe t.d_like_pipe ["pipe"]
  D_place_of : DefOk K mg "place_of" s_place_of t.f_place_of t.d_place_of ["pipe", "node"]
  D_end_of : DefOk K mg "end_of" s_end_of t.f_end_of t.d_end_of ["pipe"]
  D_is_way : DefOk K mg "is_way" s_is_way t.f_is_way t.d_is_way ["pipe", "i", "j"]
  D_are_apart : DefOk K mg "are_apart" s_are_apart t.f_are_apart t.d_are_apart ["pipe", "one", "other"]
  D_first_apart : DefOk K mg "first_apart" s_first_apart t.f_first_apart t.d_first_apart ["pipe", "pairs"]
  F_Content___init__ : Fun K "__init__" "Content.__init__" s_Content___init__ t.f_Content___init__ t.d_Content___init__
  b_Content___init__ : Binds K t.d_Content___init__ ["self", "pipe", "fill"] []
  D_newly_met : DefOk K mg "newly_met" s_newly_met t.f_newly_met t.d_newly_met ["fill"]
  D_joined : DefOk K mg "joined" s_joined t.f_joined t.d_joined ["row"]
  D_stretches : DefOk K mg "stretches" s_stretches t.f_stretches t.d_stretches ["content"]
  D_meetings : DefOk K mg "meetings" s_meetings t.f_meetings t.d_meetings ["content"]
  D_pigs : DefOk K mg "pigs" s_pigs t.f_pigs t.d_pigs ["content"]
  D_ware_at : DefOk K mg "ware_at" s_ware_at t.f_ware_at t.d_ware_at ["content", "place"]
  D_pairs_ahead : DefOk K mg "pairs_ahead" s_pairs_ahead t.f_pairs_ahead t.d_pairs_ahead ["content", "a", "ware"]
  D_pairs_at_first : DefOk K mg "pairs_at_first" s_pairs_at_first t.f_pairs_at_first t.d_pairs_at_first ["content", "a", "ware"]
  D_check_way : DefOk K mg "check_way" s_check_way t.f_check_way t.d_check_way ["pipe", "i", "j"]
  D_spacer_for : DefOk K mg "spacer_for" s_spacer_for t.f_spacer_for t.d_spacer_for ["content", "i", "j", "ware", "spacers"]
  D_l_mix : DefOk K mg "_law_mix" s_l_mix t.f_l_mix t.d_l_mix ["_law_cell", "_law_k"]
  D_l_at : DefOk K mg "_law_at" s_l_at t.f_l_at t.d_l_at ["_law_script", "_law_k"]
  D_l_wares : DefOk K mg "_law_wares" s_l_wares t.f_l_wares t.d_l_wares ["_law_cell"]
  D_l_five : DefOk K mg "_law_five" s_l_five t.f_l_five t.d_l_five ["_law_cell", "_law_wares_here", "_law_most"]
  D_l_apart : DefOk K mg "_law_apart" s_l_apart t.f_l_apart t.d_l_apart ["_law_five_here", "_law_one", "_law_other"]
  D_l_fill : DefOk K mg "_law_fill" s_l_fill t.f_l_fill t.d_l_fill ["_law_five_here", "_law_cell", "_law_wares_here"]
  D_l_push : DefOk K mg "_law_push" s_l_push t.f_l_push t.d_l_push ["_law_five_here", "_law_cell", "_law_k", "_law_wares_here"]
  D_l_pipe : DefOk K mg "_law_pipe" s_l_pipe t.f_l_pipe t.d_l_pipe ["_law_cell", "_law_wares_here", "_law_most"]
  D_l_of : DefOk K mg "_law_of" s_l_of t.f_l_of t.d_l_of ["_law_five_here"]
  D_l_units : DefOk K mg "_law_units" s_l_units t.f_l_units t.d_l_units ["_law_fill_here"]
  D_l_spacer : DefOk K mg "_law_spacer" s_l_spacer t.f_l_spacer t.d_l_spacer ["_law_five_here", "_law_units_here", "_law_i", "_law_ware", "_law_spacers_here"]
  D_l_spacers : DefOk K mg "_law_spacers" s_l_spacers t.f_l_spacers t.d_l_spacers ["_law_cell", "_law_wares_here", "_law_many"]
  D_l_kept : DefOk K mg "_law_kept" s_l_kept t.f_l_kept t.d_l_kept ["_law_content"]
  D_l_asked : DefOk K mg "_law_asked" s_l_asked t.f_l_asked t.d_l_asked ["_law_content", "_law_push_here", "_law_spacers_here"]
  D_law : DefOk K mg "law" s_law t.f_law t.d_law ["_law_script"]
  c_Pipe : mg "Pipe" = some (.ref t.c_Pipe)
  C_Pipe : Cls K t.c_Pipe
  M_Pipe : Mk K t.c_Pipe t.f_Pipe___init__
  n_Pipe_rooms : NoAttr K t.c_Pipe "rooms"
  n_Pipe_table : NoAttr K t.c_Pipe "table"
  n_Pipe_thick : NoAttr K t.c_Pipe "thick"
  n_Pipe_apart : NoAttr K t.c_Pipe "apart"
  n_Pipe_pig : NoAttr K t.c_Pipe "pig"
  c_Content : mg "Content" = some (.ref t.c_Content)
  C_Content : Cls K t.c_Content
  M_Content : Mk K t.c_Content t.f_Content___init__
  n_Content_pipe : NoAttr K t.c_Content "pipe"
  n_Content_own_pipe : NoAttr K t.c_Content "own_pipe"
  n_Content_lying : NoAttr K t.c_Content "lying"
  n_Content_riding : NoAttr K t.c_Content "riding"
  c_PipeError : mg "PipeError" = some (.ref t.c_PipeError)
  c_BadFill : mg "BadFill" = some (.ref t.c_BadFill)
  c_Touch : mg "Touch" = some (.ref t.c_Touch)
  c_NoWay : mg "NoWay" = some (.ref t.c_NoWay)
  c_NoSpacer : mg "NoSpacer" = some (.ref t.c_NoSpacer)
  X_NoWay : XCls K t.c_NoWay
  R_NoWay : XRaise K t.c_NoWay t.c_PipeError
  I_NoWay : PySem.W.findIn K (.ref t.c_NoWay) "__init__" = some (some (.builtin "ValueError.__init__"))
  e_NoWay_PipeError : PySem.W.exmOne K (.ref t.c_NoWay) (.ref t.c_PipeError) = some true
  k_NoWay_NoWay : PySem.W.kitOne K (.ref t.c_NoWay) (.ref t.c_NoWay) = some true
  k_NoWay_NoSpacer : PySem.W.kitOne K (.ref t.c_NoWay) (.ref t.c_NoSpacer) = some false
  k_NoWay_Touch : PySem.W.kitOne K (.ref t.c_NoWay) (.ref t.c_Touch) = some false
  k_NoWay_ValueError : PySem.W.kitOne K (.ref t.c_NoWay) (.type "ValueError") = some true
  X_NoSpacer : XCls K t.c_NoSpacer
  R_NoSpacer : XRaise K t.c_NoSpacer t.c_PipeError
  I_NoSpacer : PySem.W.findIn K (.ref t.c_NoSpacer) "__init__" = some (some (.builtin "ValueError.__init__"))
  e_NoSpacer_PipeError : PySem.W.exmOne K (.ref t.c_NoSpacer) (.ref t.c_PipeError) = some true
  k_NoSpacer_NoWay : PySem.W.kitOne K (.ref t.c_NoSpacer) (.ref t.c_NoWay) = some false
  k_NoSpacer_NoSpacer : PySem.W.kitOne K (.ref t.c_NoSpacer) (.ref t.c_NoSpacer) = some true
  k_NoSpacer_Touch : PySem.W.kitOne K (.ref t.c_NoSpacer) (.ref t.c_Touch) = some false
  k_NoSpacer_ValueError : PySem.W.kitOne K (.ref t.c_NoSpacer) (.type "ValueError") = some true
  z_ValueError : mg "ValueError" = none
  z_abs : mg "abs" = none
  z_any : mg "any" = none
  z_enumerate : mg "enumerate" = none
  z_int : mg "int" = none
  z_isinstance : mg "isinstance" = none
  z_len : mg "len" = none
  z_list : mg "list" = none
  z_max : mg "max" = none
  z_min : mg "min" = none
  z_range : mg "range" = none
  z_sum : mg "sum" = none
  z_zip : mg "zip" = none
theorem sc_Pipe___init__ : FnScope ["self", "rooms", "table", "thick", "apart", "pig"] ["self", "rooms", "table", "thick", "apart", "pig"] (defScope s_Pipe___init__) := ⟨rfl, rfl, rfl, by decide +kernel, rfl, by decide +kernel, by decide +kernel⟩
theorem qv_Pipe___init__ : VOk ["self", "rooms", "table", "thick", "apart", "pig"] (defScope s_Pipe___init__) = true := by decide +kernel
theorem qg_Pipe___init__ : GOk ["list"] (defScope s_Pipe___init__) = true := by decide +kernel
theorem sc_like_pipe : FnScope ["pipe"] ["pipe"] (defScope s_like_pipe) := ⟨rfl, rfl, rfl, by decide +kernel, rfl, by decide +kernel, by decide +kernel⟩
theorem qv_like_pipe : VOk ["pipe"] (defScope s_like_pipe) = true := by decide +kernel
theorem qg_like_pipe : GOk ["Pipe"] (defScope s_like_pipe) = true := by decide +kernel
theorem sc_place_of : FnScope ["pipe", "node"] ["pipe", "node"] (defScope s_place_of) := ⟨rfl, rfl, rfl, by decide +kernel, rfl, by decide +kernel, by decide +kernel⟩
theorem qv_place_of : VOk ["pipe", "node"] (defScope s_place_of) = true := by decide +kernel
theorem qg_place_of : GOk ["sum"] (defScope s_place_of) = true := by decide +kernel
theorem sc_end_of : FnScope ["pipe"] ["pipe"] (defScope s_end_of) := ⟨rfl, rfl, rfl, by decide +kernel, rfl, by decide +kernel, by decide +kernel⟩
theorem qv_end_of : VOk ["pipe"] (defScope s_end_of) = true := by decide +kernel
theorem qg_end_of : GOk ["place_of", "len"] (defScope s_end_of) = true := by decide +kernel
theorem sc_is_way : FnScope ["pipe", "i", "j"] ["pipe", "i", "j"] (defScope s_is_way) := ⟨rfl, rfl, rfl, by decide +kernel, rfl, by decide +kernel, by decide +kernel⟩
theorem qv_is_way : VOk ["pipe", "i", "j"] (defScope s_is_way) = true := by decide +kernel
theorem qg_is_way : GOk ["len"] (defScope s_is_way) = true := by decide +kernel
theorem sc_are_apart : FnScope ["pipe", "one", "other"] ["pipe", "one", "other"] (defScope s_are_apart) := ⟨rfl, rfl, rfl, by decide +kernel, rfl, by decide +kernel, by decide +kernel⟩
theorem qv_are_apart : VOk ["pipe", "one", "other"] (defScope s_are_apart) = true := by decide +kernel
theorem sc_first_apart : FnScope ["pipe", "pairs", "one", "other"] ["pipe", "pairs"] (defScope s_first_apart) := ⟨rfl, rfl, rfl, by decide +kernel, rfl, by decide +kernel, by decide +kernel⟩
theorem qv_first_apart : VOk ["pipe", "pairs", "one", "other"] (defScope s_first_apart) = true := by decide +kernel
theorem qg_first_apart : GOk ["are_apart"] (defScope s_first_apart) = true := by decide +kernel
theorem sc_Content___init__ : FnScope ["self", "pipe", "fill", "pair"] ["self", "pipe", "fill"] (defScope s_Content___init__) := ⟨rfl, rfl, rfl, by decide +kernel, rfl, by decide +kernel, by decide +kernel⟩
theorem qv_Content___init__ : VOk ["self", "pipe", "fill", "pair"] (defScope s_Content___init__) = true := by decide +kernel
theorem qg_Content___init__ : GOk ["sum", "end_of", "BadFill", "first_apart", "zip", "Touch", "like_pipe", "joined", "newly_met"] (defScope s_Content___init__) = true := by decide +kernel
theorem sc_newly_met : FnScope ["fill", "row", "place", "ware", "volume"] ["fill"] (defScope s_newly_met) := ⟨rfl, rfl, rfl, by decide +kernel, rfl, by decide +kernel, by decide +kernel⟩
theorem qv_newly_met : VOk ["fill", "row", "place", "ware", "volume"] (defScope s_newly_met) = true := by decide +kernel
theorem sc_joined : FnScope ["row", "found", "ware", "volume", "since"] ["row"] (defScope s_joined) := ⟨rfl, rfl, rfl, by decide +kernel, rfl, by decide +kernel, by decide +kernel⟩
theorem qv_joined : VOk ["row", "found", "ware", "volume", "since"] (defScope s_joined) = true := by decide +kernel
theorem sc_stretches : FnScope ["content"] ["content"] (defScope s_stretches) := ⟨rfl, rfl, rfl, by decide +kernel, rfl, by decide +kernel, by decide +kernel⟩
theorem qv_stretches : VOk ["content"] (defScope s_stretches) = true := by decide +kernel
theorem sc_meetings : FnScope ["content", "found", "place", "near", "far"] ["content"] (defScope s_meetings) := ⟨rfl, rfl, rfl, by decide +kernel, rfl, by decide +kernel, by decide +kernel⟩
theorem qv_meetings : VOk ["content", "found", "place", "near", "far"] (defScope s_meetings) = true := by decide +kernel
theorem qg_meetings : GOk ["zip"] (defScope s_meetings) = true := by decide +kernel
theorem sc_pigs : FnScope ["content"] ["content"] (defScope s_pigs) := ⟨rfl, rfl, rfl, by decide +kernel, rfl, by decide +kernel, by decide +kernel⟩
theorem qv_pigs : VOk ["content"] (defScope s_pigs) = true := by decide +kernel
theorem qg_pigs : GOk ["list"] (defScope s_pigs) = true := by decide +kernel
theorem sc_ware_at : FnScope ["content", "place", "end", "ware", "volume", "since"] ["content", "place"] (defScope s_ware_at) := ⟨rfl, rfl, rfl, by decide +kernel, rfl, by decide +kernel, by decide +kernel⟩
theorem qv_ware_at : VOk ["content", "place", "end", "ware", "volume", "since"] (defScope s_ware_at) = true := by decide +kernel
theorem sc_pairs_ahead : FnScope ["content", "a", "ware"] ["content", "a", "ware"] (defScope s_pairs_ahead) := ⟨rfl, rfl, rfl, by decide +kernel, rfl, by decide +kernel, by decide +kernel⟩
theorem qv_pairs_ahead : VOk ["content", "a", "ware"] (defScope s_pairs_ahead) = true := by decide +kernel
theorem qg_pairs_ahead : GOk ["ware_at"] (defScope s_pairs_ahead) = true := by decide +kernel
theorem sc_pairs_at_first : FnScope ["content", "a", "ware"] ["content", "a", "ware"] (defScope s_pairs_at_first) := ⟨rfl, rfl, rfl, by decide +kernel, rfl, by decide +kernel, by decide +kernel⟩
theorem qv_pairs_at_first : VOk ["content", "a", "ware"] (defScope s_pairs_at_first) = true := by decide +kernel
theorem qg_pairs_at_first : GOk ["pairs_ahead", "ware_at"] (defScope s_pairs_at_first) = true := by decide +kernel
theorem sc_check_way : FnScope ["pipe", "i", "j"] ["pipe", "i", "j"] (defScope s_check_way) := ⟨rfl, rfl, rfl, by decide +kernel, rfl, by decide +kernel, by decide +kernel⟩
theorem qv_check_way : VOk ["pipe", "i", "j"] (defScope s_check_way) = true := by decide +kernel
theorem qg_check_way : GOk ["is_way", "NoWay"] (defScope s_check_way) = true := by decide +kernel
theorem sc_spacer_for : FnScope ["content", "i", "j", "ware", "spacers", "pipe", "a", "spacer", "volume", "pairs"] ["content", "i", "j", "ware", "spacers"] (defScope s_spacer_for) := ⟨rfl, rfl, rfl, by decide +kernel, rfl, by decide +kernel, by decide +kernel⟩
theorem qv_spacer_for : VOk ["content", "i", "j", "ware", "spacers", "pipe", "a", "spacer", "volume", "pairs"] (defScope s_spacer_for) = true := by decide +kernel
theorem qg_spacer_for : GOk ["check_way", "place_of", "first_apart", "pairs_at_first", "pairs_ahead", "NoSpacer"] (defScope s_spacer_for) = true := by decide +kernel
theorem sc_l_mix : FnScope ["_law_cell", "_law_k", "_law_once"] ["_law_cell", "_law_k"] (defScope s_l_mix) := ⟨rfl, rfl, rfl, by decide +kernel, rfl, by decide +kernel, by decide +kernel⟩
theorem qv_l_mix : VOk ["_law_cell", "_law_k", "_law_once"] (defScope s_l_mix) = true := by decide +kernel
theorem sc_l_at : FnScope ["_law_script", "_law_k"] ["_law_script", "_law_k"] (defScope s_l_at) := ⟨rfl, rfl, rfl, by decide +kernel, rfl, by decide +kernel, by decide +kernel⟩
theorem qv_l_at : VOk ["_law_script", "_law_k"] (defScope s_l_at) = true := by decide +kernel
theorem qg_l_at : GOk ["len"] (defScope s_l_at) = true := by decide +kernel
theorem sc_l_wares : FnScope ["_law_cell", "_law_letters", "_law_size", "_law_stem", "_law_k", "_law_place"] ["_law_cell"] (defScope s_l_wares) := ⟨rfl, rfl, rfl, by decide +kernel, rfl, by decide +kernel, by decide +kernel⟩
theorem qv_l_wares : VOk ["_law_cell", "_law_letters", "_law_size", "_law_stem", "_law_k", "_law_place"] (defScope s_l_wares) = true := by decide +kernel
theorem qg_l_wares : GOk ["_law_mix", "range"] (defScope s_l_wares) = true := by decide +kernel
theorem sc_l_five : FnScope ["_law_cell", "_law_wares_here", "_law_most", "_law_rooms", "_law_rows", "_law_distance", "_law_half", "_law_k", "_law_thick", "_law_apart_here", "_law_p", "_law_q", "_law_one", "_law_pair", "_law_pig"] ["_law_cell", "_law_wares_here", "_law_most"] (defScope s_l_five) := ⟨rfl, rfl, rfl, by decide +kernel, rfl, by decide +kernel, by decide +kernel⟩
theorem qv_l_five : VOk ["_law_cell", "_law_wares_here", "_law_most", "_law_rooms", "_law_rows", "_law_distance", "_law_half", "_law_k", "_law_thick", "_law_apart_here", "_law_p", "_law_q", "_law_one", "_law_pair", "_law_pig"] (defScope s_l_five) = true := by decide +kernel
theorem qg_l_five : GOk ["range", "_law_mix"] (defScope s_l_five) = true := by decide +kernel
theorem sc_l_apart : FnScope ["_law_five_here", "_law_one", "_law_other"] ["_law_five_here", "_law_one", "_law_other"] (defScope s_l_apart) := ⟨rfl, rfl, rfl, by decide +kernel, rfl, by decide +kernel, by decide +kernel⟩
theorem qv_l_apart : VOk ["_law_five_here", "_law_one", "_law_other"] (defScope s_l_apart) = true := by decide +kernel
theorem sc_l_fill : FnScope ["_law_five_here", "_law_cell", "_law_wares_here", "_law_total", "_law_fill_here", "_law_rest", "_law_one", "_law_ware", "_law_volume"] ["_law_five_here", "_law_cell", "_law_wares_here"] (defScope s_l_fill) := ⟨rfl, rfl, rfl, by decide +kernel, rfl, by decide +kernel, by decide +kernel⟩
theorem qv_l_fill : VOk ["_law_five_here", "_law_cell", "_law_wares_here", "_law_total", "_law_fill_here", "_law_rest", "_law_one", "_law_ware", "_law_volume"] (defScope s_l_fill) = true := by decide +kernel
theorem qg_l_fill : GOk ["sum", "abs", "_law_mix", "len", "_law_apart", "min", "max"] (defScope s_l_fill) = true := by decide +kernel
theorem sc_l_push : FnScope ["_law_five_here", "_law_cell", "_law_k", "_law_wares_here", "_law_rest", "_law_many", "_law_i", "_law_j", "_law_size", "_law_volume", "_law_pig"] ["_law_five_here", "_law_cell", "_law_k", "_law_wares_here"] (defScope s_l_push) := ⟨rfl, rfl, rfl, by decide +kernel, rfl, by decide +kernel, by decide +kernel⟩
theorem qv_l_push : VOk ["_law_five_here", "_law_cell", "_law_k", "_law_wares_here", "_law_rest", "_law_many", "_law_i", "_law_j", "_law_size", "_law_volume", "_law_pig"] (defScope s_l_push) = true := by decide +kernel
theorem qg_l_push : GOk ["_law_mix", "abs", "len", "sum", "int"] (defScope s_l_push) = true := by decide +kernel
theorem sc_l_pipe : FnScope ["_law_cell", "_law_wares_here", "_law_most", "_law_five_here", "_law_p", "_law_q", "_law_one"] ["_law_cell", "_law_wares_here", "_law_most"] (defScope s_l_pipe) := ⟨rfl, rfl, rfl, by decide +kernel, rfl, by decide +kernel, by decide +kernel⟩
theorem qv_l_pipe : VOk ["_law_cell", "_law_wares_here", "_law_most", "_law_five_here", "_law_p", "_law_q", "_law_one"] (defScope s_l_pipe) = true := by decide +kernel
theorem qg_l_pipe : GOk ["_law_five", "_law_mix", "range"] (defScope s_l_pipe) = true := by decide +kernel
theorem sc_l_of : FnScope ["_law_five_here"] ["_law_five_here"] (defScope s_l_of) := ⟨rfl, rfl, rfl, by decide +kernel, rfl, by decide +kernel, by decide +kernel⟩
theorem qv_l_of : VOk ["_law_five_here"] (defScope s_l_of) = true := by decide +kernel
theorem qg_l_of : GOk ["Pipe", "list"] (defScope s_l_of) = true := by decide +kernel
theorem sc_l_units : FnScope ["_law_fill_here", "_law_units_here", "_law_ware", "_law_volume"] ["_law_fill_here"] (defScope s_l_units) := ⟨rfl, rfl, rfl, by decide +kernel, rfl, by decide +kernel, by decide +kernel⟩
theorem qv_l_units : VOk ["_law_fill_here", "_law_units_here", "_law_ware", "_law_volume"] (defScope s_l_units) = true := by decide +kernel
theorem sc_l_spacer : FnScope ["_law_five_here", "_law_units_here", "_law_i", "_law_ware", "_law_spacers_here", "_law_start", "_law_round_it", "_law_spacer_here", "_law_shut"] ["_law_five_here", "_law_units_here", "_law_i", "_law_ware", "_law_spacers_here"] (defScope s_l_spacer) := ⟨rfl, rfl, rfl, by decide +kernel, rfl, by decide +kernel, by decide +kernel⟩
theorem qv_l_spacer : VOk ["_law_five_here", "_law_units_here", "_law_i", "_law_ware", "_law_spacers_here", "_law_start", "_law_round_it", "_law_spacer_here", "_law_shut"] (defScope s_l_spacer) = true := by decide +kernel
theorem qg_l_spacer : GOk ["sum", "any"] (defScope s_l_spacer) = true := by decide +kernel
theorem sc_l_spacers : FnScope ["_law_cell", "_law_wares_here", "_law_many", "_law_found", "_law_k", "_law_one"] ["_law_cell", "_law_wares_here", "_law_many"] (defScope s_l_spacers) := ⟨rfl, rfl, rfl, by decide +kernel, rfl, by decide +kernel, by decide +kernel⟩
theorem qv_l_spacers : VOk ["_law_cell", "_law_wares_here", "_law_many", "_law_found", "_law_k", "_law_one"] (defScope s_l_spacers) = true := by decide +kernel
theorem qg_l_spacers : GOk ["range", "_law_mix"] (defScope s_l_spacers) = true := by decide +kernel
theorem sc_l_kept : FnScope ["_law_content"] ["_law_content"] (defScope s_l_kept) := ⟨rfl, rfl, rfl, by decide +kernel, rfl, by decide +kernel, by decide +kernel⟩
theorem qv_l_kept : VOk ["_law_content"] (defScope s_l_kept) = true := by decide +kernel
theorem qg_l_kept : GOk ["stretches", "meetings", "pigs"] (defScope s_l_kept) = true := by decide +kernel
theorem sc_l_asked : FnScope ["_law_content", "_law_push_here", "_law_spacers_here", "_law_found", "_law_caught", "error", "_law_kinds"] ["_law_content", "_law_push_here", "_law_spacers_here"] (defScope s_l_asked) := ⟨rfl, rfl, rfl, by decide +kernel, rfl, by decide +kernel, by decide +kernel⟩
theorem qv_l_asked : VOk ["_law_content", "_law_push_here", "_law_spacers_here", "_law_found", "_law_caught", "error", "_law_kinds"] (defScope s_l_asked) = true := by decide +kernel
theorem qg_l_asked : GOk ["spacer_for", "PipeError", "isinstance", "NoWay", "NoSpacer", "Touch", "ValueError"] (defScope s_l_asked) = true := by decide +kernel
theorem sc_law : FnScope ["_law_script", "_law_wares_here", "_law_five_here", "_law_fill_here", "_law_content", "_law_shown", "_law_k", "_law_cell", "_law_push_here", "_law_spacers_here", "_law_due", "_law_handed"] ["_law_script"] (defScope s_law) := ⟨rfl, rfl, rfl, by decide +kernel, rfl, by decide +kernel, by decide +kernel⟩
theorem qv_law : VOk ["_law_script", "_law_wares_here", "_law_five_here", "_law_fill_here", "_law_content", "_law_shown", "_law_k", "_law_cell", "_law_push_here", "_law_spacers_here", "_law_due", "_law_handed"] (defScope s_law) = true := by decide +kernel
theorem qg_law : GOk ["_law_wares", "_law_at", "_law_pipe", "_law_fill", "Content", "_law_of", "list", "_law_kept", "enumerate", "_law_push", "_law_spacers", "_law_mix", "len", "_law_spacer", "_law_units", "_law_asked"] (defScope s_law) = true := by decide +kernel
noncomputable def mix (c k : Int) : Int := (((c % 10 ^ (30 : Int).toNat + 7919 * k + 11) * (k * k + 48271) % 2147483647) * ((c % 10 ^ (30 : Int).toNat + 7919 * k + 11) * (k * k + 48271) % 2147483647) % 2147483629) / 3
theorem mix_nonneg (c k : Int) : 0 ≤ mix c k := Int.ediv_nonneg (Int.emod_nonneg _ (by decide)) (by decide)
theorem mix_lt (c k : Int) : mix c k < 715827877 := by
  have := Int.emod_lt_of_pos (((c % 10 ^ (30 : Int).toNat + 7919 * k + 11) * (k * k + 48271) % 2147483647) * ((c % 10 ^ (30 : Int).toNat + 7919 * k + 11) * (k * k + 48271) % 2147483647)) (show (0 : Int) < 2147483629 by decide)
  unfold mix
  omega
inductive spMix_ (vs : List V) (H : Hp) (Q : VK) : Prop where
  | mk (c k : Int) : (vs = [.int c, .int k]) → (0 ≤ k) → (k ≤ 100000) → (Q (.int (mix c k)) H) → spMix_  vs H Q
noncomputable def spMix : Sp := fun vs H Q _ => spMix_  vs H Q
theorem vc_mix {H : Hp} {Q : VK} {E : XK} {c k : Int} {vs : List V} (e : vs = [.int c, .int k]) (h : 0 ≤ k ∧ k ≤ 100000) (q : Q (.int (mix c k)) H) : spMix vs H Q E := ⟨c, k, e, h.1, h.2, q⟩
local macro_rules | `(tactic| walk_at "vce") => `(tactic| ((with_reducible refine My.vc_mix (c := ?vcx) (k := ?vcy) ?vce ?vcs ?_); (case vce => rfl); (case vcs => first | exact ⟨by decide, by decide⟩ | exact ⟨by omega, by omega⟩)))
section
variable {P : Program} {w : World} {K : PySem.W.Frag} {mg : Str → Option Value} {base : Heap} {t : Ad}
theorem sq_le' {k : Int} (h0 : 0 ≤ k) (h1 : k ≤ 100000) : 0 ≤ k * k ∧ k * k ≤ 10000000000 := by
  refine ⟨Int.mul_nonneg h0 h0, ?_⟩
  have := Int.mul_le_mul h1 h1 h0 (by omega : (0 : Int) ≤ 100000)
  omega
theorem ok_l_mix (T : Txt K mg t) : FnOk P w K mg base CX0 1 t.f_l_mix t.d_l_mix ["_law_cell", "_law_k"] spMix := by
  refine T.D_l_mix.F.ok sc_l_mix (fun vs H Q E h => ?_) (fun cdv A outer s H vs Q E hr h => ?_)
  · obtain ⟨c, k, rfl, _⟩ := h
    rfl
  obtain ⟨c, k, rfl, h0, h1, q⟩ := h
  refine ⟨_, (pss_cons (q_set (i := 2) qv_l_mix sc_l_mix.nd rfl rfl rfl (pe_op op_mod (pe_op op_mul (pe_op op_add (pe_op op_add (pe_op op_mod (qv qv_l_mix 0 rfl rfl rfl) (pe_op op_pow pe_int pe_int)) (pe_op op_mul pe_int (qv qv_l_mix 1 rfl rfl rfl))) pe_int) (pe_op op_add (pe_op op_mul (qv qv_l_mix 1 rfl rfl rfl) (qv qv_l_mix 1 rfl rfl rfl)) pe_int)) pe_int))
      (pss_one (ps_ret (pe_op op_fdiv (pe_op op_mod (pe_op op_mul (qv qv_l_mix 2 rfl rfl rfl) (qv qv_l_mix 2 rfl rfl rfl)) pe_int) pe_int)))), ?_⟩
  have hk := sq_le' h0 h1
  walk_at "vc"
  exact q
noncomputable def letters : List Nat := (Str.ofString "abcdefghijklmnopqrstuvwxyz").cps.toList
theorem letters_ok : letters.length = 26 ∧ ∀ c ∈ letters, 97 ≤ c ∧ c ≤ 122 := by decide +kernel
noncomputable def Let (x : Str) : Prop := ∀ c ∈ x.cps.toList, 97 ≤ c ∧ c ≤ 122
structure Wares (ws : List Str) : Prop where
  len : ws.length = 6
  nd : ws.Nodup
  ok : ∀ x ∈ ws, Let x ∧ 1 ≤ x.length ∧ x.length ≤ 8
theorem letter_at {i : Int} (h0 : 0 ≤ i) (h1 : i < 26) : ∃ c, atI letters i = some c ∧ 97 ≤ c ∧ c ≤ 122 := by
  have hk : i.toNat < letters.length := by rw [letters_ok.1]; omega
  have ek : i = ((i.toNat : Nat) : Int) := by omega
  refine ⟨letters[i.toNat], ?_, letters_ok.2 _ (List.getElem_mem hk)⟩
  have q : atI letters ((i.toNat : Nat) : Int) = some letters[i.toNat] := atI_nat (List.getElem?_eq_getElem hk)
  rw [← ek] at q
  exact q
theorem Let.app {x y : Str} (a : Let x) (b : Let y) : Let (x ++ y) := fun c h => by
  rw [str_app] at h
  rcases List.mem_append.mp h with h | h
  · exact a c h
  · exact b c h
theorem Let.slice {x : Str} (a : Let x) (lo hi : Option Int) : Let (Txt.slice x lo hi) := fun c h => by
  rw [slice_cps] at h
  exact a c (List.mem_of_mem_drop (List.mem_of_mem_take h))
theorem let_nil : Let (Str.ofString "") := fun c h => by
  have e : (Str.ofString "").cps.toList = [] := by decide +kernel
  rw [e] at h
  cases h
noncomputable def signs : List Nat := (Str.ofString "fbdace").cps.toList
theorem signs_ok : signs.length = 6 ∧ signs.Nodup ∧ (∀ c ∈ signs, 97 ≤ c ∧ c ≤ 122) ∧ (Str.ofString "fbdace").cps.all (· < 128) = true := by decide +kernel
theorem slice_mid {x : Str} {a b : Nat} (h : x.length = 8) (hb : b ≤ 8) : (Txt.slice x (some (a : Int)) (some (b : Int))).cps.toList = (x.cps.toList.drop a).take (b - a) := by
  rw [slice_cps, h, HT.sIx_nat, HT.sIx_nat, Nat.min_eq_left hb]
  by_cases ha : a ≤ 8
  · rw [Nat.min_eq_left ha]
  · rw [Nat.min_eq_right (by omega)]
    have e1 : b - 8 = 0 := by omega
    have e2 : b - a = 0 := by omega
    rw [e1, e2, List.take_zero, List.take_zero]
theorem slice_pre {x : Str} {a : Nat} (h : x.length = 8) (ha : a ≤ 8) : (Txt.slice x none (some (a : Int))).cps.toList = x.cps.toList.take a := by
  rw [slice_cps, h, HT.sIx_none, HT.sIx_nat, Nat.min_eq_left ha, List.drop_zero, Nat.sub_zero]
noncomputable def ware1 (x : Str) (a b c : Nat) : Str := Txt.slice x none (some (a : Int)) ++ ⟨#[c]⟩ ++ Txt.slice x (some (a : Int)) (some (b : Int))
theorem ware1_cps {x : Str} {a b c : Nat} (h : x.length = 8) (ha : a ≤ b) (hb : b ≤ 7) : (ware1 x a b c).cps.toList = x.cps.toList.take a ++ [c] ++ (x.cps.toList.drop a).take (b - a) := by
  unfold ware1
  rw [str_app, str_app, slice_pre h (by omega), slice_mid h (by omega)]
theorem ware1_len {x : Str} {a b c : Nat} (h : x.length = 8) (ha : a ≤ b) (hb : b ≤ 7) : (ware1 x a b c).length = b + 1 := by
  rw [str_len, ware1_cps h ha hb, List.length_append, List.length_append, List.length_take, List.length_take, List.length_drop, ← str_len, h, List.length_singleton]
  omega
theorem ware1_inj {x : Str} {a b c d : Nat} (h : x.length = 8) (ha : a ≤ b) (hb : b ≤ 7) (e : ware1 x a b c = ware1 x a b d) : c = d := by
  have e1 := congrArg (fun y : Str => y.cps.toList) e
  simp only [ware1_cps h ha hb, List.append_assoc] at e1
  have e2 := List.append_cancel_left e1
  exact (List.cons.inj e2).1
inductive spWares_ (vs : List V) (H : Hp) (Q : VK) : Prop where
  | mk (c : Int) : (vs = [.int c]) → (∀ (l : Addr) (ws : List Str) (H' : Hp), H l = none → Same H H' → H' l = some (.lst (ws.map V.str)) → Wares ws → Q (.ref l) H') → spWares_  vs H Q
noncomputable def spWares : Sp := fun vs H Q _ => spWares_  vs H Q
theorem nodup_of_inj {α : Type} {f : Nat → α} {n : Nat} (h : ∀ i j, i < n → j < n → f i = f j → i = j) : ((List.range n).map f).Nodup := by
  induction n with
  | zero => simp
  | succ n ih =>
    rw [List.range_succ, List.map_append, List.nodup_append]
    refine ⟨ih fun i j hi hj e => h i j (by omega) (by omega) e, by simp, ?_⟩
    intro x hx y hy e
    obtain ⟨i, hi, rfl⟩ := List.mem_map.mp hx
    have hi' := List.mem_range.mp hi
    rw [List.map_singleton, List.mem_singleton] at hy
    have := h i n (by omega) (by omega) (e.trans hy)
    omega
theorem map_range_succ {α : Type} (f : Nat → α) (i : Nat) : (List.range (i + 1)).map f = (List.range i).map f ++ [f i] := by
  rw [List.range_succ, List.map_append, List.map_singleton]
theorem slice_pre_len {x : Str} (h : x.length = 8) {k : Nat} (hk : k ≤ 8) : (Txt.slice x none (some (k : Int))).length = k := by
  rw [str_len, slice_cps, List.length_take, List.length_drop, ← str_len, h, HT.sIx_none, HT.sIx_nat]
  omega
theorem ok_l_wares (T : Txt K mg t) : FnOk P w K mg base CX0 2 t.f_l_wares t.d_l_wares ["_law_cell"] spWares := by
  have G_l_mix := ok_l_mix (P := P) (w := w) (base := base) T
  refine T.D_l_wares.F.ok sc_l_wares (fun vs H Q E h => ?_) (fun cdv A outer s H vs Q E hr h => ?_)
  · obtain ⟨c, rfl, _⟩ := h
    rfl
  obtain ⟨c, rfl, q⟩ := h
  refine ⟨_, (pss_cons (q_set (i := 1) qv_l_wares sc_l_wares.nd rfl rfl rfl pe_str)
      (pss_cons (q_set (i := 2) qv_l_wares sc_l_wares.nd rfl rfl rfl (pe_op op_mod (q_call G_l_mix (hr.mono (by decide)) qg_l_wares 0 rfl rfl T.D_l_mix.m T.D_l_mix.F.kp T.D_l_mix.b .nil pass0 (pa_cons (qv qv_l_wares 0 rfl rfl rfl) (pa_cons pe_int pa_nil))) pe_int))
      (pss_cons (q_set (i := 3) qv_l_wares sc_l_wares.nd rfl rfl rfl pe_str)
      (pss_cons (ps_for PassesOwn.never rfl (pi_range1 (qgl qg_l_wares 1 rfl rfl) T.z_range (pa_cons pe_int pa_nil)) (q_name (i := 4) qv_l_wares sc_l_wares.nd rfl rfl rfl) (pss_one (q_set (i := 3) qv_l_wares sc_l_wares.nd rfl rfl rfl (pe_op op_addS (qv qv_l_wares 3 rfl rfl rfl) (pe_ix ix_str (qv qv_l_wares 1 rfl rfl rfl) (pe_op op_mod (q_call G_l_mix (hr.mono (by decide)) qg_l_wares 0 rfl rfl T.D_l_mix.m T.D_l_mix.F.kp T.D_l_mix.b .nil pass0 (pa_cons (qv qv_l_wares 0 rfl rfl rfl) (pa_cons (pe_op op_add (qv qv_l_wares 4 rfl rfl rfl) pe_int) pa_nil))) pe_int) (fun _ _ => rfl))))))
      (pss_cons (q_set (i := 5) qv_l_wares sc_l_wares.nd rfl rfl rfl (pe_op op_mod (q_call G_l_mix (hr.mono (by decide)) qg_l_wares 0 rfl rfl T.D_l_mix.m T.D_l_mix.F.kp T.D_l_mix.b .nil pass0 (pa_cons (qv qv_l_wares 0 rfl rfl rfl) (pa_cons pe_int pa_nil))) (pe_op op_add (qv qv_l_wares 2 rfl rfl rfl) pe_int)))
      (pss_cons (ps_if (pt_cmpR op_eq (pe_op op_mod (q_call G_l_mix (hr.mono (by decide)) qg_l_wares 0 rfl rfl T.D_l_mix.m T.D_l_mix.F.kp T.D_l_mix.b .nil pass0 (pa_cons (qv qv_l_wares 0 rfl rfl rfl) (pa_cons pe_int pa_nil))) pe_int) pe_int (nomark _)) (pss_one (ps_ret (pe_comp ["_law_k", "_law_stem", "_law_cell"] [none, some 3, some 0] rfl  (pi_range1 (qgl qg_l_wares 1 rfl rfl) T.z_range (pa_cons pe_int pa_nil)) (fun _ _ _ _ => (pg_name (i := 0) (show (["_law_k", "_law_stem", "_law_cell"] : List Str).Nodup by decide +kernel) rfl (Or.inl rfl))) (fun _ _ _ _ => pts_nil) (fun _ _ _ _ => (pe_slice sl_str (pv 1) po_none (po_some (pe_op op_add (pe_op op_add (pv 0) pe_int) (pe_op op_mod (pe_call G_l_mix (hr.mono (by decide)) rfl T.D_l_mix.m T.D_l_mix.F.kp T.D_l_mix.b .nil pass0 (pa_cons (pv 2) (pa_cons pe_int pa_nil))) pe_int))))) rfl rfl))) pss_nil)
      (pss_one (ps_ret (pe_comp ["_law_sign", "_law_stem", "_law_place", "_law_size"] [none, some 3, some 5, some 2] rfl  (pi_str pe_str) (fun _ _ _ _ => (pg_name (i := 0) (show (["_law_sign", "_law_stem", "_law_place", "_law_size"] : List Str).Nodup by decide +kernel) rfl (Or.inl rfl))) (fun _ _ _ _ => pts_nil) (fun _ _ _ _ => (pe_op op_addS (pe_op op_addS (pe_slice sl_str (pv 1) po_none (po_some (pv 2))) (pv 0)) (pe_slice sl_str (pv 1) (po_some (pv 2)) (po_some (pv 3))))) rfl rfl))))))))), ?_⟩
  walk_at "vc"
  have sz0 := mix_nonneg c 1
  have m8a : 0 ≤ mix c 1 % 8 := Int.emod_nonneg _ (by decide)
  have m8b : mix c 1 % 8 < 8 := Int.emod_lt_of_pos _ (by decide)
  refine ⟨8, rfl, by decide, by decide, for_range (n := 8) (fun i σ H' => H' = H ∧ ∃ (st : Str) (u : Option V), σ = [some (.int c), some (.str (Str.ofString "abcdefghijklmnopqrstuvwxyz")), some (.int (mix c 1 % 8)), some (.str st), u, none] ∧ Let st ∧ st.length = i)
    ⟨rfl, _, none, rfl, let_nil, rfl⟩ ?_ ?_⟩
  · rintro i σ H' hi ⟨rfl, st, u, rfl, hst, hlen⟩
    obtain ⟨ch, hat, hch⟩ := letter_at (i := mix c (0 + (i : Int) + 2) % 26) (Int.emod_nonneg _ (by decide)) (Int.emod_lt_of_pos _ (by decide))
    walk_at "vc"
    refine vc_ixS (small (by rw [str_len, show (Str.ofString "abcdefghijklmnopqrstuvwxyz").cps.toList.length = 26 from letters_ok.1]; decide)) hat ?_
    refine vc_addS (small (by rw [hlen]; show i + 1 ≤ 1000; omega)) ?_
    walk_at "vc"
    refine ⟨rfl, _, _, rfl, hst.app fun x hx => ?_, ?_⟩
    · have e : x = ch := by simpa using hx
      rw [e]; exact hch
    · rw [str_len, str_app, List.length_append, ← str_len, hlen]; rfl
  rintro σ H' ⟨rfl, st, u, rfl, hst, hlen⟩
  walk_at "vc"
  generalize hsz : mix c 1 % 8 = sz at *
  have hpl0 : 0 ≤ mix c 11 % (sz + 1) := Int.emod_nonneg _ (by omega)
  have hpl1 : mix c 11 % (sz + 1) < sz + 1 := Int.emod_lt_of_pos _ (by omega)
  generalize mix c 11 % (sz + 1) = pl at *
  have hlS : st.length ≤ sizeLine := small (by omega)
  refine ite2 (fun z => ?_) (fun z => ?_)
  · walk_at "vc"
    have hm0 : 0 ≤ mix c 13 % 3 := Int.emod_nonneg _ (by decide)
    have hm1 : mix c 13 % 3 < 3 := Int.emod_lt_of_pos _ (by decide)
    let f : Nat → Str := fun i => Txt.slice st none (some (0 + (i : Int) + 1 + mix c 13 % 3))
    refine ⟨6, rfl, by decide, by decide, fun D hD => comp_gen (n := 6) (fun i x => x = .int (0 + (i : Int))) hD (small (by decide)) (hJ_rng _ _ _)
      (fun i ys _ => ys = ((List.range i).map f).map V.str) (fun σ => ∃ u, σ = [u, some (.str st), some (.int c)]) rfl ⟨_, rfl⟩ ?_ ?_⟩
    · rintro i x ys σ H2 R1 R0 hi rfl ⟨u, rfl⟩ sm hDl rfl k1 k0
      walk_at "vc"
      refine vc_slS hlS ?_
      refine k1 _ _ _ (Same.refl _) ⟨_, rfl⟩ ?_
      rw [map_range_succ, List.map_append]
      rfl
    · rintro ys H2 sm hDl hly rfl
      refine q D _ H2 hD sm hDl ⟨by simp, nodup_of_inj fun i j hi hj e => ?_, fun x hx => ?_⟩
      · have l1 : (f i).length = ((0 + (i : Int) + 1 + mix c 13 % 3).toNat) := by
          have e1 : (0 + (i : Int) + 1 + mix c 13 % 3) = (((0 + (i : Int) + 1 + mix c 13 % 3).toNat : Nat) : Int) := by omega
          show (Txt.slice st none (some (0 + (i : Int) + 1 + mix c 13 % 3))).length = _
          rw [e1]
          exact slice_pre_len hlen (by omega)
        have l2 : (f j).length = ((0 + (j : Int) + 1 + mix c 13 % 3).toNat) := by
          have e1 : (0 + (j : Int) + 1 + mix c 13 % 3) = (((0 + (j : Int) + 1 + mix c 13 % 3).toNat : Nat) : Int) := by omega
          show (Txt.slice st none (some (0 + (j : Int) + 1 + mix c 13 % 3))).length = _
          rw [e1]
          exact slice_pre_len hlen (by omega)
        rw [e] at l1
        omega
      · obtain ⟨i, hi, rfl⟩ := List.mem_map.mp hx
        have hi' := List.mem_range.mp hi
        have l1 : (f i).length = ((0 + (i : Int) + 1 + mix c 13 % 3).toNat) := by
          have e1 : (0 + (i : Int) + 1 + mix c 13 % 3) = (((0 + (i : Int) + 1 + mix c 13 % 3).toNat : Nat) : Int) := by omega
          show (Txt.slice st none (some (0 + (i : Int) + 1 + mix c 13 % 3))).length = _
          rw [e1]
          exact slice_pre_len hlen (by omega)
        exact ⟨hst.slice _ _, by omega, by omega⟩
  · walk_at "vc"
    refine ⟨_, rfl, signs_ok.2.2.2, fun D hD => comp_gen (n := 6) (fun i x => ∃ c, signs[i]? = some c ∧ x = .str ⟨#[c]⟩) hD (small (by decide)) ?_
      (fun i ys _ => ys = ((signs.take i).map (ware1 st pl.toNat sz.toNat)).map V.str) (fun σ => ∃ u, σ = [u, some (.str st), some (.int pl), some (.int sz)]) rfl ⟨_, rfl⟩ ?_ ?_⟩
    · intro i H2 sm
      obtain ⟨a1, a2, a3⟩ := hJ_str H' (Str.ofString "fbdace") i H2 sm
      exact ⟨a1, a2, fun x H3 hi y => by
        obtain ⟨e, ch, h1, h2⟩ := a3 x H3 hi y
        exact ⟨e, ch, by unfold signs; rw [Array.getElem?_toList]; exact h1, h2⟩⟩
    · rintro i x ys σ H2 R1 R0 hi ⟨ch, hch, rfl⟩ ⟨u, rfl⟩ sm hDl rfl k1 k0
      walk_at "vc"
      have epl : pl = ((pl.toNat : Nat) : Int) := by omega
      have esz : sz = ((sz.toNat : Nat) : Int) := by omega
      walk_at "vc"
      refine vc_slS hlS ?_
      have l1 : (Txt.slice st none (some pl)).length ≤ 8 := Nat.le_trans (Txt.slice_le _ _ _) (by omega)
      have l2 : (Txt.slice st (some pl) (some sz)).length ≤ 8 := Nat.le_trans (Txt.slice_le _ _ _) (by omega)
      walk_at "vc"
      refine vc_addS (small (by show _ + 1 ≤ 1000; omega)) ?_
      walk_at "vc"
      refine vc_slS hlS ?_
      have l3 : (Txt.slice st none (some pl) ++ (⟨#[ch]⟩ : Str)).length ≤ 9 := by
        rw [str_len, str_app, List.length_append, ← str_len]
        show _ + 1 ≤ 9
        omega
      refine vc_addS (small (by omega)) ?_
      refine k1 _ _ _ (Same.refl _) ⟨_, rfl⟩ ?_
      have e1 : signs.take (i + 1) = signs.take i ++ [ch] := by
        rw [List.take_add_one, hch]; rfl
      rw [e1, List.map_append, List.map_append]
      have e2 : ware1 st pl.toNat sz.toNat ch = Txt.slice st none (some pl) ++ ⟨#[ch]⟩ ++ Txt.slice st (some pl) (some sz) := by
        unfold ware1
        rw [← epl, ← esz]
      show _ = _ ++ [V.str (ware1 st pl.toNat sz.toNat ch)]
      rw [e2]
    · rintro ys H2 sm hDl hly rfl
      have e6 : signs.take 6 = signs := List.take_of_length_le (by rw [signs_ok.1]; exact Nat.le_refl _)
      rw [e6] at hDl
      have h1 : pl.toNat ≤ sz.toNat := by omega
      have h2 : sz.toNat ≤ 7 := by omega
      refine q D _ H2 hD sm hDl ⟨by rw [List.length_map]; exact signs_ok.1, ?_, fun x hx => ?_⟩
      · exact List.Pairwise.map _ (fun a b hab e => hab (ware1_inj hlen h1 h2 e)) signs_ok.2.1
      · obtain ⟨ch, hc, rfl⟩ := List.mem_map.mp hx
        have hl := ware1_len (c := ch) hlen h1 h2
        refine ⟨?_, by omega, by omega⟩
        have lc : Let (⟨#[ch]⟩ : Str) := fun y hy => by
          have e : y = ch := by simpa using hy
          rw [e]; exact signs_ok.2.2.1 ch hc
        exact ((hst.slice _ _).app lc).app (hst.slice _ _)
noncomputable def pipeFs (l1 l2 l3 l4 : Addr) (pg : V) : List (Str × V) := [("rooms", .ref l1), ("table", .ref l2), ("thick", .ref l3), ("apart", .ref l4), ("pig", pg)]
theorem pipeFs_eq (l1 l2 l3 l4 : Addr) (pg : V) : putF "pig" pg (putF "apart" (.ref l4) (putF "thick" (.ref l3) (putF "table" (.ref l2) (putF "rooms" (.ref l1) [])))) = pipeFs l1 l2 l3 l4 pg := by rfl
theorem fs_rooms (l1 l2 l3 l4 : Addr) (pg : V) : (pipeFs l1 l2 l3 l4 pg).lookup (Str.ofString "rooms") = some (.ref l1) := by rfl
theorem fs_table (l1 l2 l3 l4 : Addr) (pg : V) : (pipeFs l1 l2 l3 l4 pg).lookup (Str.ofString "table") = some (.ref l2) := by rfl
theorem fs_thick (l1 l2 l3 l4 : Addr) (pg : V) : (pipeFs l1 l2 l3 l4 pg).lookup (Str.ofString "thick") = some (.ref l3) := by rfl
theorem fs_apart (l1 l2 l3 l4 : Addr) (pg : V) : (pipeFs l1 l2 l3 l4 pg).lookup (Str.ofString "apart") = some (.ref l4) := by rfl
theorem fs_pig (l1 l2 l3 l4 : Addr) (pg : V) : (pipeFs l1 l2 l3 l4 pg).lookup (Str.ofString "pig") = some pg := by rfl
inductive spPipe_ (K : PySem.W.Frag) (C : Addr) (vs : List V) (H : Hp) (Q : VK) : Prop where
  | mk (x dx r1 r2 r3 r4 : Addr) (pg : V) (s1 s2 s3 s4 : List V) : (vs = [.ref x, .ref r1, .ref r2, .ref r3, .ref r4, pg]) → (H x = some (.ins C dx [])) → (SqL K H r1 s1) → (SqL K H r2 s2) → (SqL K H r3 s3) → (SqL K H r4 s4) → ((∀ r ∈ [r1, r2, r3, r4], r ≠ x)) → (∀ (l1 l2 l3 l4 : Addr) (H' : Hp), (∀ l ∈ [l1, l2, l3, l4], H l = none) → [l1, l2, l3, l4].Nodup → Same (hids [x] H) (hids [x] H') → H' l1 = some (.lst s1) → H' l2 = some (.lst s2) → H' l3 = some (.lst s3) → H' l4 = some (.lst s4) → H' x = some (.ins C dx (pipeFs l1 l2 l3 l4 pg)) → Q .non H') → spPipe_ K C vs H Q
noncomputable def spPipe (K : PySem.W.Frag) (C : Addr) : Sp := fun vs H Q _ => spPipe_ K C vs H Q
theorem sql_upd {K : PySem.W.Frag} {H : Hp} {x a : Addr} {o : HO} {xs : List V} (h : SqL K H a xs) (ne : a ≠ x) : SqL K (upd H x o) a xs := by
  rcases h with h | h
  · rcases h with h | ⟨u, h⟩
    · exact .inl (.inl (by rw [upd_ne ne]; exact h))
    · exact .inl (.inr ⟨u, by rw [upd_ne ne]; exact h⟩)
  · exact .inr h
theorem few {n : Nat} {f : Str} {v : V} {fs : List (Str × V)} (h : fs.length < n) : (putF f v fs).length < n + 1 := by
  have := length_putF f v fs
  omega
theorem upd_none {H : Hp} {a b : Addr} {o : HO} (h : upd H a o b = none) : b ≠ a ∧ H b = none := by
  by_cases e : b = a
  · rw [e, upd_same] at h; cases h
  · rw [upd_ne e] at h; exact ⟨e, h⟩
theorem ok_Pipe___init__ (T : Txt K mg t) : FnOk P w K mg base CX0 1 t.f_Pipe___init__ t.d_Pipe___init__ ["self", "rooms", "table", "thick", "apart", "pig"] (spPipe K t.c_Pipe) := by
  refine T.F_Pipe___init__.ok sc_Pipe___init__ (fun vs H Q E h => ?_) (fun cdv A outer s H vs Q E hr h => ?_)
  · obtain ⟨x, dx, r1, r2, r3, r4, pg, s1, s2, s3, s4, rfl, _⟩ := h
    rfl
  obtain ⟨x, dx, r1, r2, r3, r4, pg, s1, s2, s3, s4, rfl, hx, q1, q2, q3, q4, hne, q⟩ := h
  refine ⟨_, (pss_cons (ps_fld (qv qv_Pipe___init__ 0 rfl rfl rfl) (q_callTy call_listR qg_Pipe___init__ 0 rfl rfl T.z_list bo_list (pa_cons (qv qv_Pipe___init__ 1 rfl rfl rfl) pa_nil)) rfl)
      (pss_cons (ps_fld (qv qv_Pipe___init__ 0 rfl rfl rfl) (q_callTy call_listR qg_Pipe___init__ 0 rfl rfl T.z_list bo_list (pa_cons (qv qv_Pipe___init__ 2 rfl rfl rfl) pa_nil)) rfl)
      (pss_cons (ps_fld (qv qv_Pipe___init__ 0 rfl rfl rfl) (q_callTy call_listR qg_Pipe___init__ 0 rfl rfl T.z_list bo_list (pa_cons (qv qv_Pipe___init__ 3 rfl rfl rfl) pa_nil)) rfl)
      (pss_cons (ps_fld (qv qv_Pipe___init__ 0 rfl rfl rfl) (q_callTy call_listR qg_Pipe___init__ 0 rfl rfl T.z_list bo_list (pa_cons (qv qv_Pipe___init__ 4 rfl rfl rfl) pa_nil)) rfl)
      (pss_one (ps_fld (qv qv_Pipe___init__ 0 rfl rfl rfl) (qv qv_Pipe___init__ 5 rfl rfl rfl) rfl)))))), ?_⟩
  have mx : x ∈ [x] := List.mem_singleton.mpr rfl
  have e1 := hne r1 (by simp)
  have e2 := hne r2 (by simp)
  have e3 := hne r3 (by simp)
  have e4 := hne r4 (by simp)
  walk_at "vc"
  refine vc_listL q1 fun l1 h1 => ?_
  walk_at "vc"
  refine ⟨x, t.c_Pipe, dx, _, rfl, upd_keep h1 hx, T.C_Pipe, T.n_Pipe_rooms, (show 0 < 1000 by decide), ?_⟩
  walk_at "vc"
  refine vc_listL (sql_upd ((same_new h1 _).seq q2) e2) fun l2 h2 => ?_
  walk_at "vc"
  refine ⟨x, t.c_Pipe, dx, _, rfl, upd_keep h2 upd_same, T.C_Pipe, T.n_Pipe_table, Nat.lt_of_lt_of_le (few (n := 1) (show 0 < 1 by decide)) (by decide), ?_⟩
  walk_at "vc"
  refine vc_listL (sql_upd ((same_new h2 _).seq (sql_upd ((same_new h1 _).seq q3) e3)) e3) fun l3 h3 => ?_
  walk_at "vc"
  refine ⟨x, t.c_Pipe, dx, _, rfl, upd_keep h3 upd_same, T.C_Pipe, T.n_Pipe_thick, Nat.lt_of_lt_of_le (few (few (n := 1) (show 0 < 1 by decide))) (by decide), ?_⟩
  walk_at "vc"
  refine vc_listL (sql_upd ((same_new h3 _).seq (sql_upd ((same_new h2 _).seq (sql_upd ((same_new h1 _).seq q4) e4)) e4)) e4) fun l4 h4 => ?_
  walk_at "vc"
  refine ⟨x, t.c_Pipe, dx, _, rfl, upd_keep h4 upd_same, T.C_Pipe, T.n_Pipe_apart, Nat.lt_of_lt_of_le (few (few (few (n := 1) (show 0 < 1 by decide)))) (by decide), ?_⟩
  walk_at "vc"
  refine ⟨x, t.c_Pipe, dx, _, rfl, upd_same, T.C_Pipe, T.n_Pipe_pig, Nat.lt_of_lt_of_le (few (few (few (few (n := 1) (show 0 < 1 by decide))))) (by decide), ?_⟩
  have n1 : l1 ≠ x := (ne_of_none hx h1).symm
  obtain ⟨n2, h2⟩ := upd_none h2
  obtain ⟨n21, h2⟩ := upd_none h2
  obtain ⟨n3, h3⟩ := upd_none h3
  obtain ⟨n32, h3⟩ := upd_none h3
  obtain ⟨_, h3⟩ := upd_none h3
  obtain ⟨n31, h3⟩ := upd_none h3
  obtain ⟨n4, h4⟩ := upd_none h4
  obtain ⟨n43, h4⟩ := upd_none h4
  obtain ⟨_, h4⟩ := upd_none h4
  obtain ⟨n42, h4⟩ := upd_none h4
  obtain ⟨_, h4⟩ := upd_none h4
  obtain ⟨n41, h4⟩ := upd_none h4
  refine q l1 l2 l3 l4 _ ?_ ?_ ?_ ?_ ?_ ?_ ?_ ?_
  · simp only [List.mem_cons, List.not_mem_nil, or_false]
    rintro a (rfl | rfl | rfl | rfl) <;> assumption
  · simp [n21.symm, n31.symm, n41.symm, n32.symm, n42.symm, n43.symm]
  · intro b o ho
    have hb : b ∉ [x] := fun e => by
      unfold hids at ho
      rw [if_pos e] at ho
      cases ho
    rw [hids_at hb] at ho ⊢
    have hbx : b ≠ x := by simpa using hb
    have b1 := ne_of_none ho h1
    have b2 := ne_of_none ho h2
    have b3 := ne_of_none ho h3
    have b4 := ne_of_none ho h4
    simp [upd, hbx, b1, b2, b3, b4, ho]
  · simp [upd, n1, n21.symm, n31.symm, n41.symm]
  · simp [upd, n2, n32.symm, n42.symm]
  · simp [upd, n3, n43.symm]
  · simp [upd, n4]
  · rw [upd_same, ← pipeFs_eq]
structure PipeAt (H : Hp) (C x l1 l2 l3 l4 : Addr) (pg : V) : Prop where
  at_ : ∃ dx, H x = some (.ins C dx (pipeFs l1 l2 l3 l4 pg))
theorem PipeAt.same {H H' : Hp} {C x l1 l2 l3 l4 : Addr} {pg : V} (h : PipeAt H C x l1 l2 l3 l4 pg) (e : Same H H') : PipeAt H' C x l1 l2 l3 l4 pg := by
  obtain ⟨dx, h⟩ := h.at_
  exact ⟨dx, e _ _ h⟩
open PySem.W in
noncomputable def apartDs (ps : List (Str × Str)) : List Dat := ps.map fun p => .tuple [.str p.1, .str p.2]
open Classical in
inductive spApart_ (K : PySem.W.Frag) (C : Addr) (vs : List V) (H : Hp) (Q : VK) : Prop where
  | mk (x l1 l2 l3 l4 : Addr) (pg : V) (rs : List V) (ps : List (Str × Str)) (one other : Str) : (vs = [.ref x, .str one, .str other]) → (PipeAt H C x l1 l2 l3 l4 pg) → (SqL K H l4 rs) → (Reps K H rs (apartDs ps)) → ((∀ p ∈ ps, Let p.1 ∧ Let p.2)) → (Let one) → (Let other) → (∀ H', Same H H' → Q (.bl (decide ((one, other) ∈ ps ∨ (other, one) ∈ ps))) H') → spApart_ K C vs H Q
open Classical in
noncomputable def spApart (K : PySem.W.Frag) (C : Addr) : Sp := fun vs H Q _ => spApart_ K C vs H Q
open PySem.W in
theorem str_ok {x : Str} (h : Let x) (n : Nat) : kqdOk n (.str x) = true := by
  have e : PyData.strOk x = true := by
    unfold PyData.strOk
    rw [Array.all_eq_true_iff_forall_mem]
    intro c hc
    have := h c (by simpa using hc)
    simp only [decide_eq_true_eq]
    omega
  cases n <;> exact e
open PySem.W in
theorem two_ok {x y : Str} (hx : Let x) (hy : Let y) (n : Nat) : kqdOk (n + 1) (.tuple [.str x, .str y]) = true := by
  simp only [kqdOk, List.all_cons, List.all_nil, Bool.and_true, Bool.and_eq_true]
  exact ⟨str_ok hx 0, str_ok hy 0⟩
open PySem.W in
theorem mem_apart {ps : List (Str × Str)} {x y : Str} : Dat.tuple [.str x, .str y] ∈ apartDs ps ↔ (x, y) ∈ ps := by
  unfold apartDs
  rw [List.mem_map]
  constructor
  · rintro ⟨p, hp, e⟩
    have e' := Dat.tuple.inj e
    simp only [List.cons.injEq, Dat.str.injEq, and_true] at e'
    obtain ⟨p1, p2⟩ := p
    dsimp only at e'
    rw [e'.1, e'.2] at hp
    exact hp
  · intro h
    exact ⟨(x, y), h, rfl⟩
theorem same_none {H H' : Hp} {a : Addr} (e : Same H H') (h : H' a = none) : H a = none := by
  cases q : H a with
  | none => rfl
  | some o => rw [e _ _ q] at h; cases h
theorem getD_mem {ws : List Str} {p : Nat} (h : p < ws.length) : ws.getD p (Str.ofString "") ∈ ws := by
  rw [List.getD_eq_getElem?_getD, List.getElem?_eq_getElem h]
  exact List.getElem_mem h
theorem getD_inj {ws : List Str} (nd : ws.Nodup) {p q : Nat} (hp : p < ws.length) (hq : q < ws.length) (e : ws.getD p (Str.ofString "") = ws.getD q (Str.ofString "")) : p = q := by
  rw [List.getD_eq_getElem?_getD, List.getElem?_eq_getElem hp, List.getD_eq_getElem?_getD, List.getElem?_eq_getElem hq] at e
  refine (List.getElem?_inj hp nd).mp ?_
  rw [List.getElem?_eq_getElem hp, List.getElem?_eq_getElem hq]
  exact congrArg some e
theorem sum_bounds {m : Int} : ∀ {xs : List Int}, (∀ x ∈ xs, 1 ≤ x ∧ x ≤ m) → (xs.length : Int) ≤ xs.sum ∧ xs.sum ≤ m * xs.length
  | [], _ => by simp
  | x :: xs, h => by
    have ih := sum_bounds fun y hy => h y (List.mem_cons_of_mem _ hy)
    have hx := h x List.mem_cons_self
    rw [List.sum_cons, List.length_cons]
    have e : m * ((xs.length + 1 : Nat) : Int) = m * (xs.length : Int) + m := by rw [Int.natCast_add, Int.mul_add]; simp
    omega
inductive spFive_ (K : PySem.W.Frag) (vs : List V) (H : Hp) (Q : VK) : Prop where
  | mk (c most : Int) (lw : Addr) (ws : List Str) : (vs = [.int c, .ref lw, .int most]) → (SqL K H lw (ws.map V.str)) → (Wares ws) → (1 ≤ most) → (most ≤ 1000000) → (∀ (f a0 a1 a2 a3 a4 : Addr) (rooms : List Int) (r1 r2 r3 : List V) (H' : Hp), H f = none → [f, a0, a1, a2, a3].Nodup → Same H H' → H' f = some (.lst [.ref a0, .ref a1, .ref a2, .ref a3, .ref a4]) → H' a0 = some (.lst (rooms.map V.int)) → H' a1 = some (.lst r1) → H' a2 = some (.lst r2) → H' a3 = some (.lst r3) → 1 ≤ rooms.length → rooms.length ≤ 4 → (∀ r ∈ rooms, 1 ≤ r ∧ r ≤ most) → Q (.ref f) H') → spFive_ K vs H Q
noncomputable def spFive (K : PySem.W.Frag) : Sp := fun vs H Q _ => spFive_ K vs H Q
theorem atW {ws : List Str} (h : ws.length = 6) {p : Nat} (hp : p < 6) : atI (ws.map V.str) (0 + (p : Int)) = some (.str (ws.getD p (Str.ofString ""))) := by
  have e : (0 + (p : Int)) = ((p : Nat) : Int) := by omega
  rw [e]
  refine atI_nat ?_
  rw [List.getElem?_map, List.getElem?_eq_getElem (by omega), List.getD_eq_getElem?_getD, List.getElem?_eq_getElem (by omega)]
  rfl
structure Two (H H' : Hp) (a2 a3 : Addr) (n : Nat) : Prop where
  l2 : ∃ ts, H' a2 = some (.lst ts) ∧ ts.length ≤ n
  l3 : ∃ ts, H' a3 = some (.lst ts) ∧ ts.length ≤ n
  sm : Same (hids [a2, a3] H) (hids [a2, a3] H')
theorem Two.mono {H H' : Hp} {a2 a3 : Addr} {n m : Nat} (W : Two H H' a2 a3 n) (h : n ≤ m) : Two H H' a2 a3 m :=
  let ⟨t2, x2, y2⟩ := W.l2; let ⟨t3, x3, y3⟩ := W.l3; ⟨⟨t2, x2, Nat.le_trans y2 h⟩, ⟨t3, x3, Nat.le_trans y3 h⟩, W.sm⟩
theorem Two.new {H H' H2 : Hp} {a2 a3 : Addr} {n : Nat} (W : Two H H' a2 a3 n) (e : Same H' H2) : Two H H2 a2 a3 n :=
  let ⟨t2, x2, y2⟩ := W.l2; let ⟨t3, x3, y3⟩ := W.l3; ⟨⟨t2, e _ _ x2, y2⟩, ⟨t3, e _ _ x3, y3⟩, W.sm.trans e.hids⟩
theorem Two.put {H H' : Hp} {a2 a3 b : Addr} {n : Nat} {ts : List V} {v : V} (W : Two H H' a2 a3 n) (n23 : a2 ≠ a3) (hb : b = a2 ∨ b = a3) (ht : H' b = some (.lst ts)) (hl : ts.length ≤ n) : Two H (upd H' b (.lst (ts ++ [v]))) a2 a3 (n + 1) := by
  obtain ⟨t2, x2, y2⟩ := W.l2
  obtain ⟨t3, x3, y3⟩ := W.l3
  have ll : (ts ++ [v]).length ≤ n + 1 := by rw [List.length_append, List.length_singleton]; omega
  have sm : Same (hids [a2, a3] H) (hids [a2, a3] (upd H' b (.lst (ts ++ [v])))) := by
    rw [hids_upd (by rcases hb with e | e <;> rw [e] <;> simp)]
    exact W.sm
  rcases hb with e | e
  · rw [e] at sm ⊢
    exact ⟨⟨_, upd_same, ll⟩, ⟨t3, by rw [upd_ne (Ne.symm n23)]; exact x3, by omega⟩, sm⟩
  · rw [e] at sm ⊢
    exact ⟨⟨t2, by rw [upd_ne n23]; exact x2, by omega⟩, ⟨_, upd_same, ll⟩, sm⟩
theorem ok_l_five (T : Txt K mg t) : FnOk P w K mg base CX0 2 t.f_l_five t.d_l_five ["_law_cell", "_law_wares_here", "_law_most"] (spFive K) := by
  have G_l_mix := ok_l_mix (P := P) (w := w) (base := base) T
  refine T.D_l_five.F.ok sc_l_five (fun vs H Q E h => ?_) (fun cdv A outer s H vs Q E hr h => ?_)
  · obtain ⟨c, most, lw, ws, rfl, _⟩ := h
    rfl
  obtain ⟨c, most, lw, ws, rfl, hlw, hws, hm1, hm2, q⟩ := h
  refine ⟨_, (pss_cons (ps_setComp (i := 3) ["_law_k", "_law_most", "_law_cell"] [none, some 2, some 0] rfl sc_l_five.nd rfl (VOk.at qv_l_five (i := 3) rfl).2 (pi_range1 (qgl qg_l_five 0 rfl rfl) T.z_range (pa_cons (pe_op op_add pe_int (pe_op op_mod (q_call G_l_mix (hr.mono (by decide)) qg_l_five 1 rfl rfl T.D_l_mix.m T.D_l_mix.F.kp T.D_l_mix.b .nil pass0 (pa_cons (qv qv_l_five 0 rfl rfl rfl) (pa_cons pe_int pa_nil))) pe_int)) pa_nil)) (fun _ _ _ _ => (pg_name (i := 0) (show (["_law_k", "_law_most", "_law_cell"] : List Str).Nodup by decide +kernel) rfl (Or.inl rfl))) (fun _ _ _ _ => pts_nil) (fun _ _ _ _ => (pe_op op_add pe_int (pe_op op_mod (pe_call G_l_mix (hr.mono (by decide)) rfl T.D_l_mix.m T.D_l_mix.F.kp T.D_l_mix.b .nil pass0 (pa_cons (pv 2) (pa_cons (pe_op op_add pe_int (pv 0)) pa_nil))) (pv 1)))) rfl rfl)
      (pss_cons (q_set (i := 4) qv_l_five sc_l_five.nd rfl rfl rfl (pe_lst pa_nil))
      (pss_cons (q_set (i := 5) qv_l_five sc_l_five.nd rfl rfl rfl pe_int)
      (pss_cons (q_set (i := 6) qv_l_five sc_l_five.nd rfl rfl rfl pe_int)
      (pss_cons (ps_for PassesOwn.never rfl (pi_range1 (qgl qg_l_five 0 rfl rfl) T.z_range (pa_cons (pe_op op_mod (q_call G_l_mix (hr.mono (by decide)) qg_l_five 1 rfl rfl T.D_l_mix.m T.D_l_mix.F.kp T.D_l_mix.b .nil pass0 (pa_cons (qv qv_l_five 0 rfl rfl rfl) (pa_cons pe_int pa_nil))) pe_int) pa_nil)) (q_name (i := 7) qv_l_five sc_l_five.nd rfl rfl rfl) (pss_cons (q_set (i := 5) qv_l_five sc_l_five.nd rfl rfl rfl (pe_op op_add (pe_op op_add (qv qv_l_five 5 rfl rfl rfl) pe_int) (pe_op op_mod (q_call G_l_mix (hr.mono (by decide)) qg_l_five 1 rfl rfl T.D_l_mix.m T.D_l_mix.F.kp T.D_l_mix.b .nil pass0 (pa_cons (qv qv_l_five 0 rfl rfl rfl) (pa_cons (pe_op op_add pe_int (qv qv_l_five 7 rfl rfl rfl)) pa_nil))) (pe_op op_add (pe_op op_fdiv (qv qv_l_five 2 rfl rfl rfl) pe_int) pe_int))))
      (pss_cons (q_set (i := 6) qv_l_five sc_l_five.nd rfl rfl rfl (pe_op op_add (qv qv_l_five 6 rfl rfl rfl) (pe_op op_mul (pe_op op_mod (q_call G_l_mix (hr.mono (by decide)) qg_l_five 1 rfl rfl T.D_l_mix.m T.D_l_mix.F.kp T.D_l_mix.b .nil pass0 (pa_cons (qv qv_l_five 0 rfl rfl rfl) (pa_cons (pe_op op_add pe_int (qv qv_l_five 7 rfl rfl rfl)) pa_nil))) pe_int) (pe_op op_mod (q_call G_l_mix (hr.mono (by decide)) qg_l_five 1 rfl rfl T.D_l_mix.m T.D_l_mix.F.kp T.D_l_mix.b .nil pass0 (pa_cons (qv qv_l_five 0 rfl rfl rfl) (pa_cons (pe_op op_add pe_int (qv qv_l_five 7 rfl rfl rfl)) pa_nil))) (pe_op op_add (pe_op op_fdiv (qv qv_l_five 2 rfl rfl rfl) pe_int) pe_int)))))
      (pss_one (ps_expr (pe_bm PySem.F.plainAttrs_list PySem.F.slot_list_append PySem.F.type_list_append mt_appendR (qv qv_l_five 4 rfl rfl rfl) (pa_cons (pe_tup (pa_cons (qv qv_l_five 5 rfl rfl rfl) (pa_cons (qv qv_l_five 6 rfl rfl rfl) pa_nil))) pa_nil)))))))
      (pss_cons (q_set (i := 8) qv_l_five sc_l_five.nd rfl rfl rfl (pe_lst pa_nil))
      (pss_cons (q_set (i := 9) qv_l_five sc_l_five.nd rfl rfl rfl (pe_lst pa_nil))
      (pss_cons (ps_for PassesOwn.never rfl (pi_range1 (qgl qg_l_five 0 rfl rfl) T.z_range (pa_cons pe_int pa_nil)) (q_name (i := 10) qv_l_five sc_l_five.nd rfl rfl rfl) (pss_one (ps_for PassesOwn.never rfl (pi_range1 (qgl qg_l_five 0 rfl rfl) T.z_range (pa_cons (qv qv_l_five 10 rfl rfl rfl) pa_nil)) (q_name (i := 11) qv_l_five sc_l_five.nd rfl rfl rfl) (pss_cons (q_set (i := 12) qv_l_five sc_l_five.nd rfl rfl rfl (q_call G_l_mix (hr.mono (by decide)) qg_l_five 1 rfl rfl T.D_l_mix.m T.D_l_mix.F.kp T.D_l_mix.b .nil pass0 (pa_cons (qv qv_l_five 0 rfl rfl rfl) (pa_cons (pe_op op_add (pe_op op_add pe_int (pe_op op_mul pe_int (qv qv_l_five 10 rfl rfl rfl))) (qv qv_l_five 11 rfl rfl rfl)) pa_nil))))
      (pss_cons (q_set (i := 13) qv_l_five sc_l_five.nd rfl rfl rfl (pe_ix ix_list (pe_lst (pa_cons (pe_tup (pa_cons (pe_ix ix_list (qv qv_l_five 1 rfl rfl rfl) (qv qv_l_five 10 rfl rfl rfl) (fun _ _ => rfl)) (pa_cons (pe_ix ix_list (qv qv_l_five 1 rfl rfl rfl) (qv qv_l_five 11 rfl rfl rfl) (fun _ _ => rfl)) pa_nil))) (pa_cons (pe_tup (pa_cons (pe_ix ix_list (qv qv_l_five 1 rfl rfl rfl) (qv qv_l_five 11 rfl rfl rfl) (fun _ _ => rfl)) (pa_cons (pe_ix ix_list (qv qv_l_five 1 rfl rfl rfl) (qv qv_l_five 10 rfl rfl rfl) (fun _ _ => rfl)) pa_nil))) pa_nil))) (pe_op op_mod (qv qv_l_five 12 rfl rfl rfl) pe_int) (fun _ _ => rfl)))
      (pss_cons (ps_if (pt_cmpR op_eq (pe_op op_mod (pe_op op_fdiv (qv qv_l_five 12 rfl rfl rfl) pe_int) pe_int) pe_int (nomark _)) (pss_one (ps_expr (pe_bm PySem.F.plainAttrs_list PySem.F.slot_list_append PySem.F.type_list_append mt_appendR (qv qv_l_five 8 rfl rfl rfl) (pa_cons (pe_op op_catT (qv qv_l_five 13 rfl rfl rfl) (pe_tup (pa_cons (pe_op op_mod (pe_op op_fdiv (qv qv_l_five 12 rfl rfl rfl) pe_int) pe_int) pa_nil))) pa_nil)))) pss_nil)
      (pss_one (ps_if (pt_cmpR op_eq (pe_op op_mod (pe_op op_fdiv (qv qv_l_five 12 rfl rfl rfl) pe_int) pe_int) pe_int (nomark _)) (pss_one (ps_expr (pe_bm PySem.F.plainAttrs_list PySem.F.slot_list_append PySem.F.type_list_append mt_appendR (qv qv_l_five 9 rfl rfl rfl) (pa_cons (qv qv_l_five 13 rfl rfl rfl) pa_nil)))) pss_nil))))))))
      (pss_cons (q_set (i := 14) qv_l_five sc_l_five.nd rfl rfl rfl (pe_tup (pa_cons (pe_op op_mod (q_call G_l_mix (hr.mono (by decide)) qg_l_five 1 rfl rfl T.D_l_mix.m T.D_l_mix.F.kp T.D_l_mix.b .nil pass0 (pa_cons (qv qv_l_five 0 rfl rfl rfl) (pa_cons pe_int pa_nil))) pe_int) (pa_cons (pe_op op_add pe_int (pe_op op_mod (q_call G_l_mix (hr.mono (by decide)) qg_l_five 1 rfl rfl T.D_l_mix.m T.D_l_mix.F.kp T.D_l_mix.b .nil pass0 (pa_cons (qv qv_l_five 0 rfl rfl rfl) (pa_cons pe_int pa_nil))) pe_int)) pa_nil))))
      (pss_one (ps_ret (pe_lst (pa_cons (qv qv_l_five 3 rfl rfl rfl) (pa_cons (qv qv_l_five 4 rfl rfl rfl) (pa_cons (qv qv_l_five 8 rfl rfl rfl) (pa_cons (qv qv_l_five 9 rfl rfl rfl) (pa_cons (qv qv_l_five 14 rfl rfl rfl) pa_nil))))))))))))))))), ?_⟩
  have q2 : 0 < most / 2 + 2 := by omega
  have q4 : 0 < most / 4 + 2 := by omega
  walk_at "vc"
  have m4a : 0 ≤ mix c 19 % 4 := Int.emod_nonneg _ (by decide)
  have m4b : mix c 19 % 4 < 4 := Int.emod_lt_of_pos _ (by decide)
  refine ⟨1 + mix c 19 % 4, rfl, by omega, by omega, fun a0 ha0 => comp_gen (n := (1 + mix c 19 % 4).toNat) (fun i x => x = .int (0 + (i : Int))) ha0 (small (by omega)) (hJ_rng _ _ _)
    (fun i ys _ => ∃ ns : List Int, ys = ns.map V.int ∧ ns.length = i ∧ ∀ r ∈ ns, 1 ≤ r ∧ r ≤ most) (fun σ => ∃ u, σ = [u, some (.int most), some (.int c)]) ⟨[], rfl, rfl, by simp⟩ ⟨_, rfl⟩ ?_ ?_⟩
  · rintro i x ys σ H2 R1 R0 hi rfl ⟨u, rfl⟩ sm hDl ⟨ns, rfl, hl, hns⟩ k1 k0
    walk_at "vc"
    refine k1 _ _ _ (Same.refl _) ⟨_, rfl⟩ ⟨ns ++ [1 + mix c (20 + (0 + (i : Int))) % most], by rw [List.map_append]; rfl, by simp [hl], fun r hr => ?_⟩
    rcases List.mem_append.mp hr with hr | hr
    · exact hns r hr
    · rw [List.mem_singleton] at hr
      have a := Int.emod_nonneg (mix c (20 + (0 + (i : Int)))) (show most ≠ 0 by omega)
      have b := Int.emod_lt_of_pos (mix c (20 + (0 + (i : Int)))) (show 0 < most by omega)
      omega
  rintro ys H1 sm1 hDl hly ⟨rooms, rfl, hrl, hrr⟩
  have hr1 : 1 ≤ rooms.length := by omega
  have hr4 : rooms.length ≤ 4 := by omega
  clear hly hrl
  walk_at "vc"
  refine ⟨Nat.zero_le _, fun a1 ha1 => ?_⟩
  walk_at "vc"
  have k4a : 0 ≤ mix c 30 % 4 := Int.emod_nonneg _ (by decide)
  have k4b : mix c 30 % 4 < 4 := Int.emod_lt_of_pos _ (by decide)
  have n01 : a0 ≠ a1 := ne_of_none hDl ha1
  refine ⟨_, rfl, by omega, by omega, for_range (n := (mix c 30 % 4).toNat) (fun i σ H' => ∃ (rs : List V) (d h : Int) (u : Option V), σ = [some (.int c), some (.ref lw), some (.int most), some (.ref a0), some (.ref a1), some (.int d), some (.int h), u, none, none, none, none, none, none, none] ∧ H' a1 = some (.lst rs) ∧ rs.length = i ∧ Same H1 H')
    ⟨[], 0, 0, _, rfl, upd_same, rfl, same_new ha1 _⟩ ?_ ?_⟩
  · rintro i σ H' hi ⟨rs, d, h, u, rfl, hl1, hlen, hsm⟩
    walk_at "vc"
    refine ⟨tyV_list (SqL.of hl1), ?_⟩
    walk_at "vc"
    refine ⟨(by show 2 ≤ sizeLine; decide), fun p hp => ?_⟩
    walk_at "vc"
    refine vc_append (K := K) (upd_keep hp hl1) (small1000 (by omega)) ?_
    exact ⟨_, _, _, _, rfl, upd_same, by rw [List.length_append, List.length_singleton, hlen], (hsm.trans (same_new hp _)).updD ha1⟩
  rintro σ H2 ⟨rs, d, h, u, rfl, hl1, hlen, s12⟩
  clear hlen
  walk_at "vc"
  refine ⟨Nat.zero_le _, fun a2 ha2 => ?_⟩
  walk_at "vc"
  refine ⟨Nat.zero_le _, fun a3 ha3 => ?_⟩
  walk_at "vc"
  have n23 : a2 ≠ a3 := ne_of_none upd_same ha3
  have ha3' : H2 a3 = none := by rw [upd_ne n23.symm] at ha3; exact ha3
  have s02 : Same H H2 := sm1.trans s12
  have hl0 : H2 a0 = some (.lst (rooms.map V.int)) := s12 _ _ hDl
  have m2 : a2 ∈ [a2, a3] := by simp
  have m3 : a3 ∈ [a2, a3] := by simp
  have off : ∀ {H' : Hp} {b : Addr} {o : HO} {n : Nat}, Two H2 H' a2 a3 n → H2 b = some o → H' b = some o := fun {H' b o n} W hb => by
    have nb : b ∉ [a2, a3] := by
      simp only [List.mem_cons, List.not_mem_nil, or_false]
      rintro (rfl | rfl)
      · rw [ha2] at hb; cases hb
      · rw [ha3'] at hb; cases hb
    have := W.sm b o (by rw [hids_at nb]; exact hb)
    rw [hids_at nb] at this
    exact this
  refine ⟨_, rfl, by decide, by decide, for_range (n := 6) (fun i σ H' => ∃ (u1 u2 u3 u4 u5 : Option V), σ = [some (.int c), some (.ref lw), some (.int most), some (.ref a0), some (.ref a1), some (.int d), some (.int h), u1, some (.ref a2), some (.ref a3), u2, u3, u4, u5, none] ∧ Two H2 H' a2 a3 (20 * i))
    ⟨_, _, _, _, _, rfl, ⟨⟨[], by rw [upd_ne n23]; exact upd_same, by simp⟩, ⟨[], upd_same, by simp⟩, by rw [hids_upd m3, hids_upd m2]; exact Same.refl _⟩⟩ ?_ ?_⟩
  · rintro i σ H' hi ⟨u1, u2, u3, u4, u5, rfl, W⟩
    walk_at "vc"
    refine ⟨_, rfl, by omega, by omega, for_range (n := (0 + (i : Int)).toNat) (fun j σ H' => ∃ (u1 u3 u4 u5 : Option V), σ = [some (.int c), some (.ref lw), some (.int most), some (.ref a0), some (.ref a1), some (.int d), some (.int h), u1, some (.ref a2), some (.ref a3), some (.int (0 + (i : Int))), u3, u4, u5, none] ∧ Two H2 H' a2 a3 (20 * i + 2 * j))
      ⟨_, _, _, _, rfl, W⟩ ?_ ?_⟩
    rotate_left
    · rintro σ H' ⟨u1, u3, u4, u5, rfl, W⟩
      exact ⟨_, _, _, _, _, rfl, W.mono (by omega)⟩
    clear W
    rintro j σ H' hj ⟨u1, u3, u4, u5, rfl, W⟩
    have hj' : j < i := by omega
    have sH' : Same H H' := fun b o ho => off W (s02 _ _ ho)
    have hlw1 := sH'.seq hlw
    walk_at "vc"
    refine vc_ixL hlw1 (atW hws.len hi) ?_
    walk_at "vc"
    refine vc_ixL hlw1 (atW hws.len (by omega)) ?_
    walk_at "vc"
    refine ⟨(by show 2 ≤ sizeLine; decide), fun t1 ht1 => ?_⟩
    walk_at "vc"
    refine vc_ixL ((same_new ht1 _).seq hlw1) (atW hws.len (by omega)) ?_
    walk_at "vc"
    refine vc_ixL ((same_new ht1 _).seq hlw1) (atW hws.len hi) ?_
    walk_at "vc"
    refine ⟨(by show 2 ≤ sizeLine; decide), fun t2 ht2 => ?_⟩
    walk_at "vc"
    refine ⟨(by show 2 ≤ sizeLine; decide), fun l3 hl3 => ?_⟩
    walk_at "vc"
    generalize mix c (60 + 6 * (0 + (i : Int)) + (0 + (j : Int))) = o
    generalize ws.getD i (Str.ofString "") = wi at *
    generalize ws.getD j (Str.ofString "") = wj at *
    generalize hHe : upd (upd (upd H' t1 (.tup [.str wi, .str wj])) t2 (.tup [.str wj, .str wi])) l3 (.lst [.ref t1, .ref t2]) = He
    have sHe : Same H' He := hHe ▸ (same_new ht1 _).trans ((same_new ht2 _).trans (same_new hl3 _))
    have hlist : He l3 = some (.lst [.ref t1, .ref t2]) := hHe ▸ upd_same
    have hpair : ∃ (tp : Addr) (x y : Str), atI [V.ref t1, V.ref t2] (o % 2) = some (.ref tp) ∧ He tp = some (.tup [.str x, .str y]) := by
      rcases (by omega : o % 2 = 0 ∨ o % 2 = 1) with e | e
      · exact ⟨t1, wi, wj, by rw [e]; rfl, hHe ▸ upd_keep hl3 (upd_keep ht2 upd_same)⟩
      · exact ⟨t2, wj, wi, by rw [e]; rfl, hHe ▸ upd_keep hl3 upd_same⟩
    obtain ⟨tp, x, y, hat, htp⟩ := hpair
    have We := W.new sHe
    have bn : 20 * i + 2 * j ≤ 900 := by omega
    have en : 20 * i + 2 * (j + 1) = 20 * i + 2 * j + 1 + 1 := by omega
    rw [en]
    generalize hnn : 20 * i + 2 * j = nn at *
    refine vc_ixL (SqL.of hlist) hat ?_
    clear W hHe sHe hlist hlw1 sH' hat
    walk_at "vcs"
    with_reducible refine tSeq.join (fun σ H'' => σ = [some (.int c), some (.ref lw), some (.int most), some (.ref a0), some (.ref a1), some (.int d), some (.int h), u1, some (.ref a2), some (.ref a3), some (.int (0 + (i : Int))), some (.int (0 + (j : Int))), some (.int o), some (.ref tp), none] ∧ Two H2 H'' a2 a3 (nn + 1) ∧ H'' tp = some (.tup [.str x, .str y])) (fun R k => ?_) ?_
    · walk_at "vc"
      refine ite2 (fun z => ?_) (fun z => ?_)
      · obtain ⟨ts, x2, y2⟩ := We.l2
        walk_at "vc"
        refine ⟨tyV_list (SqL.of x2), ?_⟩
        walk_at "vc"
        refine ⟨(by show 1 ≤ sizeLine; decide), fun p1 hp1 => ?_⟩
        walk_at "vc"
        refine vc_catT (SqT.of (upd_keep hp1 htp)) (SqT.of upd_same) (by simp) (by simp) (by show 3 ≤ sizeLine; decide) fun p2 hp2 => ?_
        have sn := (same_new hp1 (.tup [.int (o / 6 % 4)])).trans (same_new hp2 (.tup [.str x, .str y, .int (o / 6 % 4)]))
        walk_at "vc"
        refine vc_append (K := K) (sn _ _ x2) (small1000 (by omega)) ?_
        have n2 : tp ≠ a2 := fun e => by rw [e, x2] at htp; cases htp
        exact k _ _ ⟨rfl, (We.new sn).put n23 (.inl rfl) (sn _ _ x2) y2, by rw [upd_ne n2]; exact sn _ _ htp⟩
      · exact k _ _ ⟨rfl, We.mono (by omega), htp⟩
    rintro σ H3 ⟨rfl, W3, htp3⟩
    walk_at "vc"
    refine ite2 (fun z => ?_) (fun z => ?_)
    · obtain ⟨ts, x3, y3⟩ := W3.l3
      walk_at "vc"
      refine ⟨tyV_list (SqL.of x3), ?_⟩
      walk_at "vc"
      refine vc_append (K := K) x3 (small1000 (by omega)) ?_
      exact ⟨_, _, _, _, rfl, (W3.put n23 (.inr rfl) x3 y3).mono (by omega)⟩
    · exact ⟨_, _, _, _, rfl, W3.mono (by omega)⟩
  rintro σ H3 ⟨u1, u2, u3, u4, u5, rfl, W⟩
  obtain ⟨t2, x2, _⟩ := W.l2
  obtain ⟨t3, x3, _⟩ := W.l3
  have h00 := off W hl0
  have h11 := off W hl1
  have SH : Same H H3 := fun b o ho => off W (s02 _ _ ho)
  walk_at "vc"
  refine ⟨(by show 2 ≤ sizeLine; decide), fun a4 ha4 => ?_⟩
  walk_at "vc"
  refine ⟨(by show 5 ≤ sizeLine; decide), fun f hf => ?_⟩
  walk_at "vc"
  have sn := (same_new ha4 (.tup [.int (mix c 100 % 5), .int (4 + mix c 101 % 3)])).trans (same_new hf (.lst [.ref a0, .ref a1, .ref a2, .ref a3, .ref a4]))
  have hf3 : H3 f = none := (upd_none hf).2
  have n02 : a0 ≠ a2 := ne_of_none hl0 ha2
  have n03 : a0 ≠ a3 := ne_of_none hl0 ha3'
  have n12 : a1 ≠ a2 := ne_of_none hl1 ha2
  have n13 : a1 ≠ a3 := ne_of_none hl1 ha3'
  refine q f a0 a1 a2 a3 a4 rooms rs t2 t3 _ (same_none SH hf3) ?_ (SH.trans sn) upd_same (sn _ _ h00) (sn _ _ h11) (sn _ _ x2) (sn _ _ x3) hr1 hr4 hrr
  have f0 : f ≠ a0 := (ne_of_none h00 hf3).symm
  have f1 : f ≠ a1 := (ne_of_none h11 hf3).symm
  have f2 : f ≠ a2 := (ne_of_none x2 hf3).symm
  have f3 : f ≠ a3 := (ne_of_none x3 hf3).symm
  simp [f0, f1, f2, f3, n01, n02, n03, n12, n13, n23]
inductive spAt_ (K : PySem.W.Frag) (vs : List V) (H : Hp) (Q : VK) : Prop where
  | mk (a : Addr) (k : Int) (ns : List Int) : (vs = [.ref a, .int k]) → (SqL K H a (ns.map V.int)) → (0 ≤ k) → (ns.length ≤ 63) → (∀ c : Int, Q (.int c) H) → spAt_ K vs H Q
noncomputable def spAt (K : PySem.W.Frag) : Sp := fun vs H Q _ => spAt_ K vs H Q
theorem ok_l_at (T : Txt K mg t) : FnOk P w K mg base CX0 1 t.f_l_at t.d_l_at ["_law_script", "_law_k"] (spAt K) := by
  refine T.D_l_at.F.ok sc_l_at (fun vs H Q E h => ?_) (fun cdv A outer s H vs Q E hr h => ?_)
  · obtain ⟨a, k, ns, rfl, _⟩ := h
    rfl
  obtain ⟨a, k, ns, rfl, hq, h0, hl, q⟩ := h
  refine ⟨_, (pss_cons (ps_if (pt_cmpR op_lt (qv qv_l_at 1 rfl rfl rfl) (q_callB call_lenR qg_l_at 0 rfl rfl T.z_len bo_len (pa_cons (qv qv_l_at 0 rfl rfl rfl) pa_nil)) (nomark _)) (pss_one (ps_ret (pe_ix ix_list (qv qv_l_at 0 rfl rfl rfl) (qv qv_l_at 1 rfl rfl rfl) (fun _ _ => rfl)))) pss_nil)
      (pss_one (ps_ret (pe_op op_sub (q_callB call_lenR qg_l_at 0 rfl rfl T.z_len bo_len (pa_cons (qv qv_l_at 0 rfl rfl rfl) pa_nil)) (qv qv_l_at 1 rfl rfl rfl))))), ?_⟩
  walk_at "vc"
  refine vc_lenL hq ?_
  walk_at "vc"
  refine ite2 (fun z => ?_) (fun z => ?_)
  · have hk : k < ((ns.map V.int).length : Int) := of_decide_eq_true z
    rw [List.length_map] at hk
    walk_at "vc"
    obtain ⟨j, rfl⟩ : ∃ j : Nat, k = (j : Int) := ⟨k.toNat, by omega⟩
    have hj : j < ns.length := by omega
    refine vc_ixL hq (x := .int ns[j]) (atI_nat ?_) ?_
    · rw [List.getElem?_map, List.getElem?_eq_getElem hj]
      rfl
    exact q _
  · walk_at "vc"
    refine vc_lenL hq ?_
    walk_at "vc"
    exact q _
open Classical in
inductive spLApart_ (K : PySem.W.Frag) (vs : List V) (H : Hp) (Q : VK) : Prop where
  | mk (f a0 a1 a2 a3 a4 : Addr) (rs : List V) (ps : List (Str × Str)) (one other : Str) : (vs = [.ref f, .str one, .str other]) → (SqL K H f [.ref a0, .ref a1, .ref a2, .ref a3, .ref a4]) → (SqL K H a3 rs) → (Reps K H rs (apartDs ps)) → ((∀ p ∈ ps, Let p.1 ∧ Let p.2)) → (Let one) → (Let other) → (∀ H', Same H H' → Q (.bl (decide ((one, other) ∈ ps ∨ (other, one) ∈ ps))) H') → spLApart_ K vs H Q
open Classical in
noncomputable def spLApart (K : PySem.W.Frag) : Sp := fun vs H Q _ => spLApart_ K vs H Q
theorem ok_l_apart (T : Txt K mg t) : FnOk P w K mg base CX0 1 t.f_l_apart t.d_l_apart ["_law_five_here", "_law_one", "_law_other"] (spLApart K) := by
  refine T.D_l_apart.F.ok sc_l_apart (fun vs H Q E h => ?_) (fun cdv A outer s H vs Q E hr h => ?_)
  · obtain ⟨f, a0, a1, a2, a3, a4, rs, ps, one, other, rfl, _⟩ := h
    rfl
  obtain ⟨f, a0, a1, a2, a3, a4, rs, ps, one, other, rfl, hf, hl, hR, hps, ho, ht, q⟩ := h
  refine ⟨_, (pss_one (ps_ret (pe_or (pe_cmpR (op_inD hr.units) (pe_tup (pa_cons (qv qv_l_apart 1 rfl rfl rfl) (pa_cons (qv qv_l_apart 2 rfl rfl rfl) pa_nil))) (pe_ix ix_list (qv qv_l_apart 0 rfl rfl rfl) pe_int (fun _ _ => rfl)) (by with_unfolding_all rfl)) (pe_one (pe_cmpR (op_inD hr.units) (pe_tup (pa_cons (qv qv_l_apart 2 rfl rfl rfl) (pa_cons (qv qv_l_apart 1 rfl rfl rfl) pa_nil))) (pe_ix ix_list (qv qv_l_apart 0 rfl rfl rfl) pe_int (fun _ _ => rfl)) (by with_unfolding_all rfl)))))), ?_⟩
  have hk : ∀ d ∈ apartDs ps, PySem.W.kqdOk 8 d = true := fun d hd => by
    unfold apartDs at hd
    obtain ⟨p, hp, rfl⟩ := List.mem_map.mp hd
    exact two_ok (hps p hp).1 (hps p hp).2 7
  walk_at "vc"
  refine ⟨(by show 2 ≤ sizeLine; decide), fun t1 ht1 => ?_⟩
  walk_at "vc"
  have s1 := same_new ht1 (.tup [.str one, .str other])
  refine vc_ixL (s1.seq hf) (x := .ref a3) rfl ?_
  refine ⟨.tuple [.str one, .str other], apartDs ps, .tup (SqT.of upd_same) (.cons (.str _) (.cons (.str _) .nil)), .lst (s1.seq hl) (hR.same s1), two_ok ho ht 7, hk, ?_⟩
  by_cases e1 : (one, other) ∈ ps
  · rw [if_neg Bool.false_ne_true, dec_true (mem_apart.mpr e1)]
    walk_at "vc"
    have := q _ s1
    rw [dec_true (.inl e1)] at this
    exact this
  rw [if_neg Bool.false_ne_true, dec_false (fun z => e1 (mem_apart.mp z))]
  walk_at "vc"
  refine ⟨(by show 2 ≤ sizeLine; decide), fun t2 ht2 => ?_⟩
  walk_at "vc"
  have s2 := s1.trans (same_new ht2 (.tup [.str other, .str one]))
  refine vc_ixL (s2.seq hf) (x := .ref a3) rfl ?_
  refine ⟨.tuple [.str other, .str one], apartDs ps, .tup (SqT.of upd_same) (.cons (.str _) (.cons (.str _) .nil)), .lst (s2.seq hl) (hR.same s2), two_ok ht ho 7, hk, ?_⟩
  rw [if_neg Bool.false_ne_true]
  have := q _ s2
  by_cases e2 : (other, one) ∈ ps
  · rw [dec_true (.inr e2)] at this
    rw [dec_true (mem_apart.mpr e2)]
    exact this
  · rw [dec_false (fun z => z.elim e1 e2)] at this
    rw [dec_false (fun z => e2 (mem_apart.mp z))]
    exact this
open PySem.W in
noncomputable def fillDs (ps : List (Str × Int)) : List Dat := ps.map fun p => .tuple [.str p.1, .int p.2]
structure FillOk (ws : List Str) (ap : List (Str × Str)) (ps : List (Str × Int)) : Prop where
  ware : ∀ p ∈ ps, p.1 ∈ ws
  pos : ∀ p ∈ ps, 1 ≤ p.2
  next : ∀ (i : Nat) (p r : Str × Int), ps[i]? = some p → ps[i + 1]? = some r → (p.1, r.1) ∉ ap ∧ (r.1, p.1) ∉ ap
theorem FillOk.snoc {ws : List Str} {ap : List (Str × Str)} {ps : List (Str × Int)} (h : FillOk ws ap ps) {x : Str} {v : Int} (hx : x ∈ ws) (hv : 1 ≤ v) (hn : ∀ p, ps.getLast? = some p → (p.1, x) ∉ ap ∧ (x, p.1) ∉ ap) : FillOk ws ap (ps ++ [(x, v)]) := by
  refine ⟨fun p hp => ?_, fun p hp => ?_, fun i p r hp hr => ?_⟩
  · rcases List.mem_append.mp hp with hp | hp
    · exact h.ware p hp
    · rw [List.mem_singleton] at hp
      rw [hp]
      exact hx
  · rcases List.mem_append.mp hp with hp | hp
    · exact h.pos p hp
    · rw [List.mem_singleton] at hp
      rw [hp]
      exact hv
  · by_cases hi : i + 1 < ps.length
    · rw [List.getElem?_append_left hi] at hr
      rw [List.getElem?_append_left (by omega)] at hp
      exact h.next i p r hp hr
    · have hl := (List.getElem?_eq_some_iff.mp hr).1
      rw [List.length_append, List.length_singleton] at hl
      have e : i + 1 = ps.length := by omega
      rw [List.getElem?_append_left (by omega)] at hp
      rw [e, List.getElem?_append_right (Nat.le_refl _), Nat.sub_self] at hr
      have er : (x, v) = r := Option.some.inj hr
      subst er
      refine hn p ?_
      rw [List.getLast?_eq_getElem?, ← e]
      exact hp
theorem pair_of {K : PySem.W.Frag} {H : Hp} {rs : List V} {ps : List (Str × Int)} {i : Nat} {x : V} (h : Reps K H rs (fillDs ps)) (e : rs[i]? = some x) : ∃ (p : Str × Int) (a : Addr), ps[i]? = some p ∧ x = .ref a ∧ SqT K H a [.str p.1, .int p.2] := by
  obtain ⟨d, hd, hr⟩ := h.get e
  unfold fillDs at hd
  rw [List.getElem?_map] at hd
  cases hp : ps[i]? with
  | none => rw [hp] at hd; cases hd
  | some p =>
    rw [hp] at hd
    have ed := Option.some.inj hd
    subst ed
    obtain ⟨a, xs, rfl, hs, hr2⟩ := Rep.tup_of hr
    cases hr2 with
    | cons h1 h2 => cases h2 with
      | cons h2 h3 =>
        cases h3
        rw [h1.str_of, h2.int_of] at hs
        exact ⟨p, a, rfl, rfl, hs⟩
theorem atI_last {α : Type} {xs : List α} {v : α} (h : xs[xs.length - 1]? = some v) : atI xs (-1) = some v := by
  have hl := (List.getElem?_eq_some_iff.mp h).1
  have e : ixN xs.length (-1) = some (xs.length - 1) := by
    unfold ixN
    rw [if_neg (by decide), if_pos (by omega)]
    congr 1
    omega
  unfold atI
  rw [e]
  exact h
inductive spFill_ (K : PySem.W.Frag) (vs : List V) (H : Hp) (Q : VK) : Prop where
  | mk (f a0 a1 a2 a3 a4 lw : Addr) (c : Int) (ws : List Str) (rooms : List Int) (rs : List V) (ap : List (Str × Str)) : (vs = [.ref f, .int c, .ref lw]) → (SqL K H f [.ref a0, .ref a1, .ref a2, .ref a3, .ref a4]) → (SqL K H a0 (rooms.map V.int)) → (SqL K H a3 rs) → (Reps K H rs (apartDs ap)) → ((∀ p ∈ ap, Let p.1 ∧ Let p.2)) → ((∀ x, (x, x) ∉ ap)) → (SqL K H lw (ws.map V.str)) → (Wares ws) → (1 ≤ rooms.sum) → (rooms.sum ≤ 10000000) → (∀ (l : Addr) (fs : List V) (ps : List (Str × Int)) (H' : Hp), H l = none → Same H H' → H' l = some (.lst fs) → Reps K (hid l H') fs (fillDs ps) → FillOk ws ap ps → (ps.map (·.2)).sum = rooms.sum → 1 ≤ ps.length → ps.length ≤ 50 → Q (.ref l) H') → spFill_ K vs H Q
noncomputable def spFill (K : PySem.W.Frag) : Sp := fun vs H Q _ => spFill_ K vs H Q
theorem ok_l_fill (T : Txt K mg t) : FnOk P w K mg base CX0 2 t.f_l_fill t.d_l_fill ["_law_five_here", "_law_cell", "_law_wares_here"] (spFill K) := by
  have G_l_mix := ok_l_mix (P := P) (w := w) (base := base) T
  have G_l_apart := ok_l_apart (P := P) (w := w) (base := base) T
  refine T.D_l_fill.F.ok sc_l_fill (fun vs H Q E h => ?_) (fun cdv A outer s H vs Q E hr h => ?_)
  · obtain ⟨f, a0, a1, a2, a3, a4, lw, c, ws, rooms, rs, ap, rfl, _⟩ := h
    rfl
  obtain ⟨f, a0, a1, a2, a3, a4, lw, c, ws, rooms, rs, ap, rfl, hf, h0, h3, hR, hap, hxx, hlw, hws, hs1, hs2, q⟩ := h
  refine ⟨_, (pss_cons (q_set (i := 3) qv_l_fill sc_l_fill.nd rfl rfl rfl (q_callB (call_sum rfl) qg_l_fill 0 rfl rfl T.z_sum bo_sum (pa_cons (pe_ix ix_list (qv qv_l_fill 0 rfl rfl rfl) pe_int (fun _ _ => rfl)) pa_nil)))
      (pss_cons (q_set (i := 4) qv_l_fill sc_l_fill.nd rfl rfl rfl (pe_lst pa_nil))
      (pss_cons (q_set (i := 5) qv_l_fill sc_l_fill.nd rfl rfl rfl (pe_op op_fdiv (q_callB call_absR qg_l_fill 1 rfl rfl T.z_abs bo_abs (pa_cons (qv qv_l_fill 1 rfl rfl rfl) pa_nil)) pe_int))
      (pss_cons (ps_while PassesOwn.never (pt_cmpR op_gt (qv qv_l_fill 3 rfl rfl rfl) pe_int (nomark _)) (pss_cons (q_set (i := 6) qv_l_fill sc_l_fill.nd rfl rfl rfl (q_call G_l_mix (hr.mono (by decide)) qg_l_fill 2 rfl rfl T.D_l_mix.m T.D_l_mix.F.kp T.D_l_mix.b .nil pass0 (pa_cons (qv qv_l_fill 1 rfl rfl rfl) (pa_cons (pe_op op_add pe_int (q_callB call_lenR qg_l_fill 3 rfl rfl T.z_len bo_len (pa_cons (qv qv_l_fill 4 rfl rfl rfl) pa_nil))) pa_nil))))
      (pss_cons (ps_if (pt_cmpR op_eq (pe_op op_mod (qv qv_l_fill 1 rfl rfl rfl) pe_int) pe_int (nomark _)) (pss_cons (q_set (i := 6) qv_l_fill sc_l_fill.nd rfl rfl rfl (pe_op op_mod (qv qv_l_fill 5 rfl rfl rfl) pe_int))
      (pss_one (q_set (i := 5) qv_l_fill sc_l_fill.nd rfl rfl rfl (pe_op op_fdiv (qv qv_l_fill 5 rfl rfl rfl) pe_int)))) pss_nil)
      (pss_cons (q_set (i := 7) qv_l_fill sc_l_fill.nd rfl rfl rfl (pe_ix ix_list (qv qv_l_fill 2 rfl rfl rfl) (pe_op op_mod (qv qv_l_fill 6 rfl rfl rfl) pe_int) (fun _ _ => rfl)))
      (pss_cons (ps_if (PW.pt (pw_and (pt_cmpR op_gt (q_callB call_lenR qg_l_fill 3 rfl rfl T.z_len bo_len (pa_cons (qv qv_l_fill 4 rfl rfl rfl) pa_nil)) pe_int (nomark _)) (pw_and1 (pt_val (q_call G_l_apart (hr.mono (by decide)) qg_l_fill 4 rfl rfl T.D_l_apart.m T.D_l_apart.F.kp T.D_l_apart.b .nil pass0 (pa_cons (qv qv_l_fill 0 rfl rfl rfl) (pa_cons (pe_ix ix_tup (pe_ix ix_list (qv qv_l_fill 4 rfl rfl rfl) (pe_un un_neg pe_int) (fun _ _ => rfl)) pe_int (fun _ _ => rfl)) (pa_cons (qv qv_l_fill 7 rfl rfl rfl) pa_nil)))))))) (pss_one (q_set (i := 7) qv_l_fill sc_l_fill.nd rfl rfl rfl (pe_ix ix_tup (pe_ix ix_list (qv qv_l_fill 4 rfl rfl rfl) (pe_un un_neg pe_int) (fun _ _ => rfl)) pe_int (fun _ _ => rfl)))) pss_nil)
      (pss_cons (q_set (i := 8) qv_l_fill sc_l_fill.nd rfl rfl rfl (q_callB (call_min2R rfl) qg_l_fill 5 rfl rfl T.z_min bo_min (pa_cons (qv qv_l_fill 3 rfl rfl rfl) (pa_cons (pe_op op_add pe_int (pe_op op_mod (pe_op op_fdiv (qv qv_l_fill 6 rfl rfl rfl) pe_int) (pe_op op_add pe_int (q_callB (call_max2R rfl) qg_l_fill 6 rfl rfl T.z_max bo_max (pa_cons pe_int (pa_cons (pe_op op_fdiv (q_callB (call_sum rfl) qg_l_fill 0 rfl rfl T.z_sum bo_sum (pa_cons (pe_ix ix_list (qv qv_l_fill 0 rfl rfl rfl) pe_int (fun _ _ => rfl)) pa_nil)) pe_int) pa_nil)))))) pa_nil))))
      (pss_cons (ps_if (pt_cmpR op_gt (q_callB call_lenR qg_l_fill 3 rfl rfl T.z_len bo_len (pa_cons (qv qv_l_fill 4 rfl rfl rfl) pa_nil)) pe_int (nomark _)) (pss_one (q_set (i := 8) qv_l_fill sc_l_fill.nd rfl rfl rfl (qv qv_l_fill 3 rfl rfl rfl))) pss_nil)
      (pss_cons (ps_expr (pe_bm PySem.F.plainAttrs_list PySem.F.slot_list_append PySem.F.type_list_append mt_appendR (qv qv_l_fill 4 rfl rfl rfl) (pa_cons (pe_tup (pa_cons (qv qv_l_fill 7 rfl rfl rfl) (pa_cons (qv qv_l_fill 8 rfl rfl rfl) pa_nil))) pa_nil)))
      (pss_one (q_set (i := 3) qv_l_fill sc_l_fill.nd rfl rfl rfl (pe_op op_sub (qv qv_l_fill 3 rfl rfl rfl) (qv qv_l_fill 8 rfl rfl rfl))))))))))))
      (pss_one (ps_ret (qv qv_l_fill 4 rfl rfl rfl))))))), ?_⟩
  walk_at "vc"
  refine vc_sum h0 ?_
  walk_at "vc"
  refine ⟨Nat.zero_le _, fun l hl => ?_⟩
  walk_at "vc"
  refine ⟨fun m σ H' => ∃ (fs : List V) (ps : List (Str × Int)) (rest tot : Int) (u6 u7 u8 : Option V), σ = [some (.ref f), some (.int c), some (.ref lw), some (.int tot), some (.ref l), some (.int rest), u6, u7, u8] ∧ Same H H' ∧ H' l = some (.lst fs) ∧ Reps K (hid l H') fs (fillDs ps) ∧ FillOk ws ap ps ∧
    0 ≤ rest ∧ 0 ≤ tot ∧ (ps.map (·.2)).sum + tot = rooms.sum ∧ ps.length ≤ 50 ∧ (ps.length = 50 → tot = 0) ∧ m = tot.toNat, ⟨_, [], [], _, rooms.sum, _, _, _, rfl, same_new hl _, upd_same, .nil, ⟨fun _ h => (by cases h), fun _ h => (by cases h), fun _ _ _ h => (by cases h)⟩, ?_, by omega, by simp, by simp, by simp, rfl⟩, ?_⟩
  · exact Int.ediv_nonneg (by unfold ab; split <;> omega) (by decide)
  rintro m σ H' ⟨fs, ps, rest, tot, u6, u7, u8, rfl, sm, hl', hF, hok, hr0, ht0, hsum, hlen, h50, rfl⟩
  have lf : fs.length = ps.length := by rw [hF.length]; unfold fillDs; rw [List.length_map]
  walk_at "vc"
  refine ite2 (fun z => ?_) (fun z => ?_)
  rotate_left
  · have et : tot = 0 := by
      have := of_decide_eq_false (Bool.eq_false_iff.mpr z)
      omega
    walk_at "vc"
    refine q l fs ps H' hl sm hl' hF hok (by omega) ?_ hlen
    rcases ps with _ | ⟨p, ps⟩
    · simp at hsum
      omega
    · simp
  have tpos : 0 < tot := of_decide_eq_true z
  have l49 : ps.length ≤ 49 := by
    by_cases e : ps.length = 50
    · have := h50 e
      omega
    · omega
  refine ⟨fun σ' H'' => ∃ m', m' < tot.toNat ∧ _, fun _ _ h => h, ?_⟩
  walk_at "vc"
  refine vc_lenL (SqL.of hl') ?_
  walk_at "vcs"
  with_reducible refine tSeq.join (fun σ H'' => H'' = H' ∧ ∃ one rest' : Int, σ = [some (.ref f), some (.int c), some (.ref lw), some (.int tot), some (.ref l), some (.int rest'), some (.int one), u7, u8] ∧ 0 ≤ one ∧ 0 ≤ rest') (fun R k => ?_) ?_
  · walk_at "vc"
    refine ite2 (fun z => ?_) (fun z => ?_)
    · walk_at "vc"
      exact k _ _ ⟨rfl, _, _, rfl, Int.emod_nonneg _ (by decide), Int.ediv_nonneg hr0 (by decide)⟩
    · walk_at "vc"
      exact k _ _ ⟨rfl, _, _, rfl, mix_nonneg _ _, hr0⟩
  rintro σ H'' ⟨rfl, one, rest', rfl, ho0, hr0'⟩
  have hi6 := Int.emod_nonneg one (show (6 : Int) ≠ 0 by decide)
  have hi6' := Int.emod_lt_of_pos one (show (0 : Int) < 6 by decide)
  obtain ⟨j, ej⟩ : ∃ j : Nat, one % 6 = (j : Int) := ⟨(one % 6).toNat, by omega⟩
  have hj : j < ws.length := by rw [hws.len]; omega
  have hat : atI (ws.map V.str) (one % 6) = some (.str ws[j]) := by
    rw [ej]
    refine atI_nat ?_
    rw [List.getElem?_map, List.getElem?_eq_getElem hj]
    rfl
  have hwj : ws[j] ∈ ws := List.getElem_mem hj
  generalize ws[j] = x0 at *
  walk_at "vcs"
  with_reducible refine vc_seq ?_
  walk_at "vcs"
  refine vc_ixL (sm.seq hlw) hat ?_
  walk_at "vcs"
  with_reducible refine tSeq.join (fun σ H2 => Same H'' H2 ∧ ∃ x : Str, σ = [some (.ref f), some (.int c), some (.ref lw), some (.int tot), some (.ref l), some (.int rest'), some (.int one), some (.str x), u8] ∧ x ∈ ws ∧ ∀ p, ps.getLast? = some p → (p.1, x) ∉ ap ∧ (x, p.1) ∉ ap) (fun R k => ?_) ?_
  · walk_at "vc"
    refine vc_lenL (SqL.of hl') ?_
    walk_at "vc"
    refine ite2 (fun z => ?_) (fun z => ?_)
    · have hp0 : (0 : Int) < (fs.length : Int) := of_decide_eq_true z
      have hlt : fs.length - 1 < fs.length := by omega
      have hv : fs[fs.length - 1]? = some fs[fs.length - 1] := List.getElem?_eq_getElem hlt
      obtain ⟨p, b, hp, ev, hb⟩ := pair_of hF hv
      rw [ev] at hv
      have hb' := (hid_same l H'').tup hb
      have hpl : ps.getLast? = some p := by rw [List.getLast?_eq_getElem?, ← lf]; exact hp
      have hpw : p.1 ∈ ws := hok.ware p (List.mem_of_getElem? hp)
      walk_at "vc"
      refine vc_ixL (SqL.of hl') (atI_last hv) ?_
      walk_at "vc"
      refine ⟨f, a0, a1, a2, a3, a4, rs, ap, p.1, x0, rfl, sm.seq hf, sm.seq h3, hR.same sm, hap, (hws.ok _ hpw).1, (hws.ok _ hwj).1, fun H3 s3 => ?_⟩
      by_cases e : (p.1, x0) ∈ ap ∨ (x0, p.1) ∈ ap
      · rw [dec_true e]
        have hb3 := s3.tup hb'
        walk_at "vc"
        refine vc_ixL (SqL.of (s3 _ _ hl')) (atI_last hv) ?_
        walk_at "vc"
        refine k _ _ ⟨s3, p.1, rfl, hpw, fun p' hp' => ?_⟩
        rw [hpl] at hp'
        cases hp'
        exact ⟨hxx _, hxx _⟩
      · rw [dec_false e]
        walk_at "vc"
        refine k _ _ ⟨s3, x0, rfl, hwj, fun p' hp' => ?_⟩
        rw [hpl] at hp'
        cases hp'
        exact ⟨fun z => e (.inl z), fun z => e (.inr z)⟩
    · have e0 : ps = [] := by
        have := of_decide_eq_false (Bool.eq_false_iff.mpr z)
        exact List.eq_nil_of_length_eq_zero (by omega)
      walk_at "vc"
      refine k _ _ ⟨Same.refl _, x0, rfl, hwj, fun p hp => ?_⟩
      rw [e0] at hp
      cases hp
  rintro σ H2 ⟨sm2, x, rfl, hx, hxn⟩
  have hl2 := sm2 _ _ hl'
  have sm3 := sm.trans sm2
  have hf2 := sm3.seq hf
  have hF2 := hF.same sm2.hid
  walk_at "vcs"
  with_reducible refine vc_seq ?_
  walk_at "vcs"
  refine vc_sum (sm3.seq h0) ?_
  walk_at "vcs"
  have v0 := Int.emod_nonneg (one / 6) (show (1 + max 5 (rooms.sum / 6) : Int) ≠ 0 by omega)
  with_reducible refine tSeq.join (fun σ H3 => H3 = H2 ∧ ∃ v : Int, σ = [some (.ref f), some (.int c), some (.ref lw), some (.int tot), some (.ref l), some (.int rest'), some (.int one), some (.str x), some (.int v)] ∧ 1 ≤ v ∧ v ≤ tot ∧ (ps.length = 49 → v = tot)) (fun R k => ?_) ?_
  · walk_at "vc"
    refine vc_lenL (SqL.of hl2) ?_
    walk_at "vc"
    refine ite2 (fun z => ?_) (fun z => ?_)
    · walk_at "vc"
      exact k _ _ ⟨rfl, _, rfl, by omega, Int.le_refl _, fun _ => rfl⟩
    · have := of_decide_eq_false (Bool.eq_false_iff.mpr z)
      walk_at "vc"
      refine k _ _ ⟨rfl, _, rfl, ?_, ?_, fun e => ?_⟩
      · omega
      · omega
      · omega
  rintro σ H3 ⟨rfl, v, rfl, v1, v2, v49⟩
  walk_at "vc"
  refine ⟨tyV_list (SqL.of hl2), ?_⟩
  walk_at "vc"
  refine ⟨(by show 2 ≤ sizeLine; decide), fun b hb => ?_⟩
  have sb := same_new hb (.tup [.str x, .int v])
  have hbl : b ≠ l := fun e => by rw [e, hl2] at hb; cases hb
  walk_at "vc"
  refine vc_append (K := K) (sb _ _ hl2) (small1000 (by omega)) ?_
  walk_at "vc"
  refine ⟨_, ?_, fs ++ [.ref b], ps ++ [(x, v)], rest', tot - v, _, _, _, rfl, (sm3.trans sb).updD hl, upd_same, ?_, hok.snoc hx v1 hxn, hr0', by omega, ?_, ?_, ?_, rfl⟩
  · omega
  · rw [hid_upd]
    have er : fillDs (ps ++ [(x, v)]) = fillDs ps ++ [.tuple [.str x, .int v]] := by
      unfold fillDs
      rw [List.map_append]
      rfl
    rw [er]
    exact (hF2.same sb.hid).append (.one (.tup (SqT.of (by rw [hid_ne hbl]; exact upd_same)) (.cons (.str _) (.cons (.int _) .nil))))
  · rw [List.map_append, List.sum_append, List.map_singleton, List.sum_singleton]
    show _ + v + _ = _
    omega
  · rw [List.length_append, List.length_singleton]
    omega
  · rw [List.length_append, List.length_singleton]
    intro e
    have := v49 (by omega)
    omega
inductive spLPipe_ (K : PySem.W.Frag) (C : Addr) (vs : List V) (H : Hp) (Q : VK) : Prop where
  | mk (f a0 a1 a2 a3 : Addr) (pg : V) (s1 s2 s3 s4 : List V) : (vs = [.ref f]) → (SqL K H f [.ref a0, .ref a1, .ref a2, .ref a3, pg]) → (SqL K H a0 s1) → (SqL K H a1 s2) → (SqL K H a2 s3) → (SqL K H a3 s4) → (∀ (x dx l1 l2 l3 l4 : Addr) (H' : Hp), H x = none → (∀ l ∈ [l1, l2, l3, l4], H l = none) → [l1, l2, l3, l4].Nodup → x ∉ [l1, l2, l3, l4] → Same H H' → H' l1 = some (.lst s1) → H' l2 = some (.lst s2) → H' l3 = some (.lst s3) → H' l4 = some (.lst s4) → H' x = some (.ins C dx (pipeFs l1 l2 l3 l4 pg)) → Q (.ref x) H') → spLPipe_ K C vs H Q
noncomputable def spLPipe (K : PySem.W.Frag) (C : Addr) : Sp := fun vs H Q _ => spLPipe_ K C vs H Q
theorem ok_l_of (T : Txt K mg t) : FnOk P w K mg base CX0 3 t.f_l_of t.d_l_of ["_law_five_here"] (spLPipe K t.c_Pipe) := by
  have G_Pipe___init__ := ok_Pipe___init__ (P := P) (w := w) (base := base) T
  refine T.D_l_of.F.ok sc_l_of (fun vs H Q E h => ?_) (fun cdv A outer s H vs Q E hr h => ?_)
  · obtain ⟨f, a0, a1, a2, a3, pg, s1, s2, s3, s4, rfl, _⟩ := h
    rfl
  obtain ⟨f, a0, a1, a2, a3, pg, s1, s2, s3, s4, rfl, hf, h0, h1, h2, h3, q⟩ := h
  refine ⟨_, (pss_one (ps_ret (q_make T.M_Pipe G_Pipe___init__ (hr.mono (by decide)) qg_l_of 0 rfl rfl T.c_Pipe T.b_Pipe___init__ .nil pass0 (pa_cons (q_callTy call_listR qg_l_of 1 rfl rfl T.z_list bo_list (pa_cons (pe_ix ix_list (qv qv_l_of 0 rfl rfl rfl) pe_int (fun _ _ => rfl)) pa_nil)) (pa_cons (q_callTy call_listR qg_l_of 1 rfl rfl T.z_list bo_list (pa_cons (pe_ix ix_list (qv qv_l_of 0 rfl rfl rfl) pe_int (fun _ _ => rfl)) pa_nil)) (pa_cons (q_callTy call_listR qg_l_of 1 rfl rfl T.z_list bo_list (pa_cons (pe_ix ix_list (qv qv_l_of 0 rfl rfl rfl) pe_int (fun _ _ => rfl)) pa_nil)) (pa_cons (q_callTy call_listR qg_l_of 1 rfl rfl T.z_list bo_list (pa_cons (pe_ix ix_list (qv qv_l_of 0 rfl rfl rfl) pe_int (fun _ _ => rfl)) pa_nil)) (pa_cons (pe_ix ix_list (qv qv_l_of 0 rfl rfl rfl) pe_int (fun _ _ => rfl)) pa_nil)))))))), ?_⟩
  walk_at "vc"
  refine vc_listL h0 fun r1 e1 => ?_
  have S1 := same_new e1 (.lst s1)
  have g1 : upd H r1 (.lst s1) r1 = some (.lst s1) := upd_same
  generalize upd H r1 (.lst s1) = H1 at *
  have f1 := S1.seq hf
  walk_at "vc"
  refine vc_listL (S1.seq h1) fun r2 e2 => ?_
  have Z2 := same_new e2 (.lst s2)
  have S2 := S1.trans Z2
  have g2 : upd H1 r2 (.lst s2) r2 = some (.lst s2) := upd_same
  generalize upd H1 r2 (.lst s2) = H2 at *
  have f2 := S2.seq hf
  walk_at "vc"
  refine vc_listL (S2.seq h2) fun r3 e3 => ?_
  have Z3 := same_new e3 (.lst s3)
  have S3 := S2.trans Z3
  have g3 : upd H2 r3 (.lst s3) r3 = some (.lst s3) := upd_same
  generalize upd H2 r3 (.lst s3) = H3 at *
  have f3 := S3.seq hf
  walk_at "vc"
  refine vc_listL (S3.seq h3) fun r4 e4 => ?_
  have Z4 := same_new e4 (.lst s4)
  have S4 := S3.trans Z4
  have g4 : upd H3 r4 (.lst s4) r4 = some (.lst s4) := upd_same
  generalize upd H3 r4 (.lst s4) = H4 at *
  have f4 := S4.seq hf
  walk_at "vc"
  intro x dx hx hdx ndx
  have hxd : upd H4 dx (.own x) x = none := by rw [upd_ne (Ne.symm ndx)]; exact hx
  have SX : Same H4 (upd (upd H4 dx (.own x)) x (.ins t.c_Pipe dx [])) := (same_new hdx _).trans (same_new hxd _)
  have k1 := Z4 _ _ (Z3 _ _ (Z2 _ _ g1))
  have k2 := Z4 _ _ (Z3 _ _ g2)
  have k3 := Z4 _ _ g3
  refine ⟨x, dx, r1, r2, r3, r4, pg, _, _, _, _, rfl, upd_same, SqL.of (SX _ _ k1), SqL.of (SX _ _ k2), SqL.of (SX _ _ k3), SqL.of (SX _ _ g4), ?_, fun l1 l2 l3 l4 H5 hlf hlnd hls y1 y2 y3 y4 hx5 => ⟨rfl, ?_⟩⟩
  · simp only [List.mem_cons, List.not_mem_nil, or_false]
    rintro r (rfl | rfl | rfl | rfl)
    · exact ne_of_none k1 hx
    · exact ne_of_none k2 hx
    · exact ne_of_none k3 hx
    · exact ne_of_none g4 hx
  have S5 : Same H4 H5 := fun b o ho => by
    have nb : b ∉ [x] := by simpa using ne_of_none ho hx
    have := hls b o (by rw [hids_at nb]; exact SX _ _ ho)
    rw [hids_at nb] at this
    exact this
  refine q x dx l1 l2 l3 l4 H5 (same_none S4 hx) (fun l hl => same_none S4 (same_none SX (hlf l hl))) hlnd (fun hm => ?_) (S4.trans S5) y1 y2 y3 y4 hx5
  have := hlf x hm
  rw [upd_same] at this
  cases this
structure PushOk (ws : List Str) (rooms : List Int) (i j : Int) (x : Str) (v : Int) (pg : V) : Prop where
  i0 : 0 ≤ i
  ij : i < j
  jn : j ≤ rooms.length
  xw : x ∈ ws
  v1 : 1 ≤ v
  vm : v ≤ 9 + 2 * rooms.sum
  pg : pg = .non ∨ ∃ n : Int, pg = .int n ∧ 0 ≤ n ∧ n < 1000
inductive spPush_ (K : PySem.W.Frag) (vs : List V) (H : Hp) (Q : VK) : Prop where
  | mk (f a0 lw : Addr) (c k : Int) (y1 y2 y3 y4 : V) (ws : List Str) (rooms : List Int) : (vs = [.ref f, .int c, .int k, .ref lw]) → (0 ≤ k) → (k ≤ 1000) → (SqL K H f [.ref a0, y1, y2, y3, y4]) → (SqL K H a0 (rooms.map V.int)) → (1 ≤ rooms.length) → (rooms.length ≤ 6) → (1 ≤ rooms.sum) → (rooms.sum ≤ 10000000) → (SqL K H lw (ws.map V.str)) → (Wares ws) → (∀ (r : Addr) (i j : Int) (x : Str) (v : Int) (pg : V) (H' : Hp), H r = none → Same H H' → H' r = some (.tup [.int i, .int j, .str x, .int v, pg]) → PushOk ws rooms i j x v pg → Q (.ref r) H') → spPush_ K vs H Q
noncomputable def spPush (K : PySem.W.Frag) : Sp := fun vs H Q _ => spPush_ K vs H Q
theorem atI_mem {xs : List V} {r : Int} {n : Nat} (hn : xs.length = n) (h0 : 0 < n) : ∃ v, atI xs (r % (n : Int)) = some v ∧ v ∈ xs := by
  have b0 := Int.emod_nonneg r (show (n : Int) ≠ 0 by omega)
  have b1 := Int.emod_lt_of_pos r (show (0 : Int) < (n : Int) by omega)
  obtain ⟨j, ej⟩ : ∃ j : Nat, r % (n : Int) = (j : Int) := ⟨(r % (n : Int)).toNat, by omega⟩
  have hj : j < xs.length := by omega
  rw [ej]
  exact ⟨xs[j], atI_nat (List.getElem?_eq_getElem hj), List.getElem_mem hj⟩
theorem ok_l_push (T : Txt K mg t) : FnOk P w K mg base CX0 2 t.f_l_push t.d_l_push ["_law_five_here", "_law_cell", "_law_k", "_law_wares_here"] (spPush K) := by
  have G_l_mix := ok_l_mix (P := P) (w := w) (base := base) T
  refine T.D_l_push.F.ok sc_l_push (fun vs H Q E h => ?_) (fun cdv A outer s H vs Q E hr h => ?_)
  · obtain ⟨f, a0, lw, c, k, y1, y2, y3, y4, ws, rooms, rfl, _⟩ := h
    rfl
  obtain ⟨f, a0, lw, c, k, y1, y2, y3, y4, ws, rooms, rfl, k0, k1, hf, h0, n1, n6, s1, s2, hlw, W, q⟩ := h
  refine ⟨_, (pss_cons (q_set (i := 4) qv_l_push sc_l_push.nd rfl rfl rfl (pe_op op_add (pe_op op_mul (q_call G_l_mix (hr.mono (by decide)) qg_l_push 0 rfl rfl T.D_l_mix.m T.D_l_mix.F.kp T.D_l_mix.b .nil pass0 (pa_cons (qv qv_l_push 1 rfl rfl rfl) (pa_cons (pe_op op_add pe_int (qv qv_l_push 2 rfl rfl rfl)) pa_nil))) pe_int) (q_call G_l_mix (hr.mono (by decide)) qg_l_push 0 rfl rfl T.D_l_mix.m T.D_l_mix.F.kp T.D_l_mix.b .nil pass0 (pa_cons (qv qv_l_push 1 rfl rfl rfl) (pa_cons (pe_op op_add pe_int (qv qv_l_push 2 rfl rfl rfl)) pa_nil)))))
      (pss_cons (ps_if (pt_cmpR op_eq (pe_op op_mod (qv qv_l_push 1 rfl rfl rfl) pe_int) pe_int (nomark _)) (pss_one (q_set (i := 4) qv_l_push sc_l_push.nd rfl rfl rfl (pe_op op_fdiv (q_callB call_absR qg_l_push 1 rfl rfl T.z_abs bo_abs (pa_cons (qv qv_l_push 1 rfl rfl rfl) pa_nil)) pe_int))) pss_nil)
      (pss_cons (q_set (i := 5) qv_l_push sc_l_push.nd rfl rfl rfl (q_callB call_lenR qg_l_push 2 rfl rfl T.z_len bo_len (pa_cons (pe_ix ix_list (qv qv_l_push 0 rfl rfl rfl) pe_int (fun _ _ => rfl)) pa_nil)))
      (pss_cons (q_set (i := 6) qv_l_push sc_l_push.nd rfl rfl rfl (pe_ix ix_list (pe_lst (pa_cons pe_int (pa_cons pe_int (pa_cons (pe_op op_mod (pe_op op_fdiv (qv qv_l_push 4 rfl rfl rfl) pe_int) (qv qv_l_push 5 rfl rfl rfl)) pa_nil)))) (pe_op op_mod (qv qv_l_push 4 rfl rfl rfl) pe_int) (fun _ _ => rfl)))
      (pss_cons (q_set (i := 4) qv_l_push sc_l_push.nd rfl rfl rfl (pe_op op_fdiv (qv qv_l_push 4 rfl rfl rfl) (pe_op op_mul pe_int (qv qv_l_push 5 rfl rfl rfl))))
      (pss_cons (q_set (i := 7) qv_l_push sc_l_push.nd rfl rfl rfl (pe_op op_add (pe_op op_add (qv qv_l_push 6 rfl rfl rfl) pe_int) (pe_op op_mod (qv qv_l_push 4 rfl rfl rfl) (pe_op op_sub (qv qv_l_push 5 rfl rfl rfl) (qv qv_l_push 6 rfl rfl rfl)))))
      (pss_cons (q_set (i := 4) qv_l_push sc_l_push.nd rfl rfl rfl (pe_op op_fdiv (qv qv_l_push 4 rfl rfl rfl) (pe_op op_sub (qv qv_l_push 5 rfl rfl rfl) (qv qv_l_push 6 rfl rfl rfl))))
      (pss_cons (q_set (i := 8) qv_l_push sc_l_push.nd rfl rfl rfl (pe_ix ix_list (pe_lst (pa_cons pe_int (pa_cons pe_int (pa_cons (pe_op op_add (pe_op op_fdiv (q_callB (call_sum rfl) qg_l_push 3 rfl rfl T.z_sum bo_sum (pa_cons (pe_ix ix_list (qv qv_l_push 0 rfl rfl rfl) pe_int (fun _ _ => rfl)) pa_nil)) pe_int) pe_int) (pa_cons (pe_op op_mul pe_int (q_callB (call_sum rfl) qg_l_push 3 rfl rfl T.z_sum bo_sum (pa_cons (pe_ix ix_list (qv qv_l_push 0 rfl rfl rfl) pe_int (fun _ _ => rfl)) pa_nil))) pa_nil))))) (pe_op op_mod (pe_op op_fdiv (qv qv_l_push 4 rfl rfl rfl) pe_int) pe_int) (fun _ _ => rfl)))
      (pss_cons (q_set (i := 9) qv_l_push sc_l_push.nd rfl rfl rfl (pe_op op_add pe_int (pe_op op_mod (pe_op op_fdiv (qv qv_l_push 4 rfl rfl rfl) pe_int) (qv qv_l_push 8 rfl rfl rfl))))
      (pss_cons (q_set (i := 10) qv_l_push sc_l_push.nd rfl rfl rfl (pe_op op_fdiv (qv qv_l_push 4 rfl rfl rfl) (pe_op op_mul pe_int (qv qv_l_push 8 rfl rfl rfl))))
      (pss_one (ps_ret (pe_tup (pa_cons (qv qv_l_push 6 rfl rfl rfl) (pa_cons (qv qv_l_push 7 rfl rfl rfl) (pa_cons (pe_ix ix_list (qv qv_l_push 3 rfl rfl rfl) (pe_op op_mod (qv qv_l_push 4 rfl rfl rfl) pe_int) (fun _ _ => rfl)) (pa_cons (qv qv_l_push 9 rfl rfl rfl) (pa_cons (pe_ix ix_list (pe_lst (pa_cons pe_non (pa_cons (pe_op op_mod (pe_op op_fdiv (qv qv_l_push 10 rfl rfl rfl) pe_int) pe_int) pa_nil))) (q_callTy call_int1 qg_l_push 4 rfl rfl T.z_int bo_int (pa_cons (pe_cmpR op_eq (pe_op op_mod (qv qv_l_push 10 rfl rfl rfl) pe_int) pe_int (nomark _)) pa_nil)) (fun _ _ => rfl)) pa_nil)))))))))))))))))), ?_⟩
  have m1 := mix_nonneg c (300 + k)
  have m2 := mix_nonneg c (400 + k)
  have m3 := mix_lt c (300 + k)
  walk_at "vcs"
  with_reducible refine vc_seq ?_
  walk_at "vcs"
  with_reducible refine tSeq.join (fun σ H' => H' = H ∧ ∃ rest : Int, σ = [some (.ref f), some (.int c), some (.int k), some (.ref lw), some (.int rest), none, none, none, none, none, none] ∧ 0 ≤ rest) (fun R k => ?_) ?_
  · walk_at "vc"
    refine ite2 (fun z => ?_) (fun z => ?_)
    · walk_at "vc"
      exact k _ _ ⟨rfl, _, rfl, Int.ediv_nonneg (ab_nonneg _) (by decide)⟩
    · walk_at "vc"
      exact k _ _ ⟨rfl, _, rfl, by omega⟩
  rintro σ H' ⟨rfl, rest, rfl, r0⟩
  walk_at "vc"
  refine vc_lenL h0 ?_
  rw [List.length_map]
  obtain ⟨n, en⟩ : ∃ n : Int, (rooms.length : Int) = n := ⟨_, rfl⟩
  rw [en]
  have nn1 : 1 ≤ n := by omega
  have nn6 : n ≤ 6 := by omega
  have npos : 0 < n := by omega
  walk_at "vc"
  refine ⟨(by show 3 ≤ sizeLine; decide), fun p1 hp1 => ?_⟩
  walk_at "vc"
  have e0 := Int.emod_nonneg (rest / 3) (show n ≠ 0 by omega)
  have e1 := Int.emod_lt_of_pos (rest / 3) npos
  obtain ⟨vi, ai, mi⟩ := atI_mem (xs := [.int 0, .int 0, .int (rest / 3 % n)]) (r := rest) (n := 3) rfl (by decide)
  obtain ⟨i, rfl, i0, i1⟩ : ∃ i : Int, vi = .int i ∧ 0 ≤ i ∧ i < n := by
    simp only [List.mem_cons, List.not_mem_nil, or_false] at mi
    rcases mi with rfl | rfl | rfl
    · exact ⟨0, rfl, by decide, npos⟩
    · exact ⟨0, rfl, by decide, npos⟩
    · exact ⟨_, rfl, e0, e1⟩
  refine vc_ixL (SqL.of upd_same) ai ?_
  have S1 := same_new hp1 (.lst [.int 0, .int 0, .int (rest / 3 % n)])
  generalize upd H' p1 (.lst [.int 0, .int 0, .int (rest / 3 % n)]) = H1 at *
  have c1 : CDiv rest (3 * n) := ⟨by omega, by omega⟩
  have hi0 : 0 < n - i := by omega
  have c2 : CDiv (rest / (3 * n)) (n - i) := ⟨by omega, by omega⟩
  have q0 : 0 ≤ rest / (3 * n) := Int.ediv_nonneg r0 (by omega)
  have q1 := Int.emod_nonneg (rest / (3 * n)) (show n - i ≠ 0 by omega)
  have q2 := Int.emod_lt_of_pos (rest / (3 * n)) hi0
  have hf1 := S1.seq hf
  have h01 := S1.seq h0
  walk_at "vc"
  have q3 : 0 ≤ rest / (3 * n) / (n - i) := Int.ediv_nonneg q0 (by omega)
  generalize rest / (3 * n) % (n - i) = jj at *
  generalize rest / (3 * n) / (n - i) = r2 at *
  refine vc_sum h01 ?_
  walk_at "vc"
  refine vc_sum h01 ?_
  walk_at "vc"
  refine ⟨(by show 4 ≤ sizeLine; decide), fun p2 hp2 => ?_⟩
  walk_at "vc"
  obtain ⟨vz, az, mz⟩ := atI_mem (xs := [.int 3, .int 9, .int (rooms.sum / 2 + 1), .int (2 * rooms.sum)]) (r := r2 / 6) (n := 4) rfl (by decide)
  obtain ⟨z, rfl, z1, z2, z3⟩ : ∃ z : Int, vz = .int z ∧ 0 < z ∧ z ≤ 20000009 ∧ z ≤ 9 + 2 * rooms.sum := by
    simp only [List.mem_cons, List.not_mem_nil, or_false] at mz
    rcases mz with rfl | rfl | rfl | rfl
    · exact ⟨3, rfl, by decide, by decide, by omega⟩
    · exact ⟨9, rfl, by decide, by decide, by omega⟩
    · exact ⟨_, rfl, by omega, by omega, by omega⟩
    · exact ⟨_, rfl, by omega, by omega, by omega⟩
  refine vc_ixL (SqL.of upd_same) az ?_
  have S2 := S1.trans (same_new hp2 (.lst [.int 3, .int 9, .int (rooms.sum / 2 + 1), .int (2 * rooms.sum)]))
  generalize upd H1 p2 (.lst [.int 3, .int 9, .int (rooms.sum / 2 + 1), .int (2 * rooms.sum)]) = H2 at *
  have c3 : CDiv r2 (24 * z) := ⟨by omega, by omega⟩
  have w0 := Int.emod_nonneg (r2 / 24) (show z ≠ 0 by omega)
  have w1 := Int.emod_lt_of_pos (r2 / 24) z1
  have hlw2 := S2.seq hlw
  obtain ⟨vx, ax, mx⟩ := atI_mem (xs := ws.map V.str) (r := r2) (n := 6) (by rw [List.length_map, W.len]) (by decide)
  obtain ⟨x, hx, rfl⟩ := List.mem_map.mp mx
  walk_at "vc"
  refine vc_ixL hlw2 ax ?_
  walk_at "vc"
  refine ⟨(by show 2 ≤ sizeLine; decide), fun p3 hp3 => ?_⟩
  walk_at "vc"
  have u0 := Int.emod_nonneg (r2 / (24 * z) / 4) (show (1000 : Int) ≠ 0 by decide)
  have u1 := Int.emod_lt_of_pos (r2 / (24 * z) / 4) (show (0 : Int) < 1000 by decide)
  generalize r2 / (24 * z) / 4 % 1000 = pn at *
  have S3 := S2.trans (same_new hp3 (.lst [.non, .int pn]))
  refine .inr ⟨_, rfl, ?_⟩
  obtain ⟨vp, ap, hvp⟩ : ∃ vp, atI [V.non, .int pn] (if decide (V.int (r2 / (24 * z) % 4) = V.int 0) = true then 1 else 0) = some vp ∧ (vp = .non ∨ ∃ n : Int, vp = .int n ∧ 0 ≤ n ∧ n < 1000) := by
    split
    · exact ⟨_, rfl, .inr ⟨pn, rfl, u0, u1⟩⟩
    · exact ⟨_, rfl, .inl rfl⟩
  walk_at "vc"
  refine vc_ixL (SqL.of upd_same) ap ?_
  generalize upd H2 p3 (.lst [.non, .int pn]) = H3 at *
  walk_at "vc"
  refine ⟨(by show 5 ≤ sizeLine; decide), fun r hr0 => ?_⟩
  walk_at "vc"
  refine q r i (i + 1 + jj) x (1 + r2 / 24 % z) vp _ (same_none S3 hr0) (S3.trans (same_new hr0 _)) upd_same ⟨i0, by omega, by omega, hx, by omega, by omega, hvp⟩
noncomputable def joinStep (acc : List (Str × Int)) (p : Str × Int) : List (Str × Int) :=
  match acc.getLast? with
  | some r => if r.1 = p.1 then acc.take (acc.length - 1) ++ [(p.1, r.2 + p.2)] else acc ++ [p]
  | none => acc ++ [p]
noncomputable def joined (ps : List (Str × Int)) : List (Str × Int) := ps.foldl joinStep []
theorem fill_snoc (ps : List (Str × Int)) (p : Str × Int) : fillDs (ps ++ [p]) = fillDs ps ++ [.tuple [.str p.1, .int p.2]] := by
  unfold fillDs
  rw [List.map_append]
  rfl
theorem ixN_last {n : Nat} (h : 0 < n) : ixN n (-1) = some (n - 1) := by
  unfold ixN
  rw [if_neg (by decide), if_pos (by omega)]
  congr 1
  omega
theorem cut_ints (rooms : List Int) {n : Int} (h : 0 ≤ n) : cutV (rooms.map V.int) none (some n) = (rooms.take n.toNat).map V.int := by
  have e : n = ((n.toNat : Nat) : Int) := by omega
  rw [e, cutV_take, Int.toNat_natCast, List.map_take]
inductive spPlace_ (K : PySem.W.Frag) (C : Addr) (vs : List V) (H : Hp) (Q : VK) : Prop where
  | mk (x l1 l2 l3 l4 : Addr) (pg : V) (rooms : List Int) (n : Int) : (vs = [.ref x, .int n]) → (PipeAt H C x l1 l2 l3 l4 pg) → (SqL K H l1 (rooms.map V.int)) → (0 ≤ n) → (∀ H', Same H H' → Q (.int ((rooms.take n.toNat).sum)) H') → spPlace_ K C vs H Q
noncomputable def spPlace (K : PySem.W.Frag) (C : Addr) : Sp := fun vs H Q _ => spPlace_ K C vs H Q
theorem ok_place_of (T : Txt K mg t) : FnOk P w K mg base CX0 1 t.f_place_of t.d_place_of ["pipe", "node"] (spPlace K t.c_Pipe) := by
  refine T.D_place_of.F.ok sc_place_of (fun vs H Q E h => ?_) (fun cdv A outer s H vs Q E hr h => ?_)
  · obtain ⟨x, l1, l2, l3, l4, pg, rooms, n, rfl, _⟩ := h
    rfl
  obtain ⟨x, l1, l2, l3, l4, pg, rooms, n, rfl, ⟨dx, hx⟩, hl, hn, q⟩ := h
  refine ⟨_, (pss_one (ps_ret (q_callB (call_sum rfl) qg_place_of 0 rfl rfl T.z_sum bo_sum (pa_cons (pe_slice sl_list (pe_fld (qv qv_place_of 0 rfl rfl rfl) rfl) po_none (po_some (qv qv_place_of 1 rfl rfl rfl))) pa_nil)))), ?_⟩
  walk_at "vc"
  refine ⟨x, t.c_Pipe, dx, _, _, rfl, hx, T.C_Pipe, T.n_Pipe_rooms, fs_rooms .., ?_⟩
  walk_at "vc"
  refine vc_slL hl fun p hp => ?_
  walk_at "vc"
  refine vc_sum (ns := rooms.take n.toNat) (SqL.of (by rw [upd_same, cut_ints rooms hn])) ?_
  exact q _ (same_new hp _)
theorem ok_are_apart (T : Txt K mg t) : FnOk P w K mg base CX0 1 t.f_are_apart t.d_are_apart ["pipe", "one", "other"] (spApart K t.c_Pipe) := by
  refine T.D_are_apart.F.ok sc_are_apart (fun vs H Q E h => ?_) (fun cdv A outer s H vs Q E hr h => ?_)
  · obtain ⟨x, l1, l2, l3, l4, pg, rs, ps, one, other, rfl, _⟩ := h
    rfl
  obtain ⟨x, l1, l2, l3, l4, pg, rs, ps, one, other, rfl, ⟨dx, hx⟩, hl, hR, hps, ho, ht, q⟩ := h
  refine ⟨_, (pss_one (ps_ret (pe_or (pe_cmpR (op_inD hr.units) (pe_tup (pa_cons (qv qv_are_apart 1 rfl rfl rfl) (pa_cons (qv qv_are_apart 2 rfl rfl rfl) pa_nil))) (pe_fld (qv qv_are_apart 0 rfl rfl rfl) rfl) (by with_unfolding_all rfl)) (pe_one (pe_cmpR (op_inD hr.units) (pe_tup (pa_cons (qv qv_are_apart 2 rfl rfl rfl) (pa_cons (qv qv_are_apart 1 rfl rfl rfl) pa_nil))) (pe_fld (qv qv_are_apart 0 rfl rfl rfl) rfl) (by with_unfolding_all rfl)))))), ?_⟩
  have hk : ∀ d ∈ apartDs ps, PySem.W.kqdOk 8 d = true := fun d hd => by
    unfold apartDs at hd
    obtain ⟨p, hp, rfl⟩ := List.mem_map.mp hd
    exact two_ok (hps p hp).1 (hps p hp).2 7
  walk_at "vc"
  refine ⟨(by show 2 ≤ sizeLine; decide), fun t1 ht1 => ?_⟩
  walk_at "vc"
  have s1 := same_new ht1 (.tup [.str one, .str other])
  refine ⟨x, t.c_Pipe, dx, _, _, rfl, s1 _ _ hx, T.C_Pipe, T.n_Pipe_apart, fs_apart .., ?_⟩
  refine ⟨.tuple [.str one, .str other], apartDs ps, .tup (SqT.of upd_same) (.cons (.str _) (.cons (.str _) .nil)), .lst (s1.seq hl) (hR.same s1), two_ok ho ht 7, hk, ?_⟩
  by_cases e1 : (one, other) ∈ ps
  · rw [if_neg Bool.false_ne_true, dec_true (mem_apart.mpr e1)]
    walk_at "vc"
    have := q _ s1
    rw [dec_true (.inl e1)] at this
    exact this
  rw [if_neg Bool.false_ne_true, dec_false (fun z => e1 (mem_apart.mp z))]
  walk_at "vc"
  refine ⟨(by show 2 ≤ sizeLine; decide), fun t2 ht2 => ?_⟩
  walk_at "vc"
  have s2 := s1.trans (same_new ht2 (.tup [.str other, .str one]))
  refine ⟨x, t.c_Pipe, dx, _, _, rfl, s2 _ _ hx, T.C_Pipe, T.n_Pipe_apart, fs_apart .., ?_⟩
  refine ⟨.tuple [.str other, .str one], apartDs ps, .tup (SqT.of upd_same) (.cons (.str _) (.cons (.str _) .nil)), .lst (s2.seq hl) (hR.same s2), two_ok ht ho 7, hk, ?_⟩
  rw [if_neg Bool.false_ne_true]
  have := q _ s2
  by_cases e2 : (other, one) ∈ ps
  · rw [dec_true (.inr e2)] at this
    rw [dec_true (mem_apart.mpr e2)]
    exact this
  · rw [dec_false (fun z => z.elim e1 e2)] at this
    rw [dec_false (fun z => e2 (mem_apart.mp z))]
    exact this
inductive spEnd_ (K : PySem.W.Frag) (C : Addr) (vs : List V) (H : Hp) (Q : VK) : Prop where
  | mk (x l1 l2 l3 l4 : Addr) (pg : V) (rooms : List Int) : (vs = [.ref x]) → (PipeAt H C x l1 l2 l3 l4 pg) → (SqL K H l1 (rooms.map V.int)) → (∀ H', Same H H' → Q (.int rooms.sum) H') → spEnd_ K C vs H Q
noncomputable def spEnd (K : PySem.W.Frag) (C : Addr) : Sp := fun vs H Q _ => spEnd_ K C vs H Q
theorem ok_end_of (T : Txt K mg t) : FnOk P w K mg base CX0 2 t.f_end_of t.d_end_of ["pipe"] (spEnd K t.c_Pipe) := by
  have G_place_of := ok_place_of (P := P) (w := w) (base := base) T
  refine T.D_end_of.F.ok sc_end_of (fun vs H Q E h => ?_) (fun cdv A outer s H vs Q E hr h => ?_)
  · obtain ⟨x, l1, l2, l3, l4, pg, rooms, rfl, _⟩ := h
    rfl
  obtain ⟨x, l1, l2, l3, l4, pg, rooms, rfl, ⟨dx, hx⟩, hl, q⟩ := h
  refine ⟨_, (pss_one (ps_ret (q_call G_place_of (hr.mono (by decide)) qg_end_of 0 rfl rfl T.D_place_of.m T.D_place_of.F.kp T.D_place_of.b .nil pass0 (pa_cons (qv qv_end_of 0 rfl rfl rfl) (pa_cons (q_callB call_lenR qg_end_of 1 rfl rfl T.z_len bo_len (pa_cons (pe_fld (qv qv_end_of 0 rfl rfl rfl) rfl) pa_nil)) pa_nil))))), ?_⟩
  walk_at "vc"
  refine ⟨x, t.c_Pipe, dx, _, _, rfl, hx, T.C_Pipe, T.n_Pipe_rooms, fs_rooms .., ?_⟩
  walk_at "vc"
  refine vc_lenL hl ?_
  walk_at "vc"
  refine ⟨x, l1, l2, l3, l4, pg, rooms, _, rfl, ⟨dx, hx⟩, hl, Int.natCast_nonneg _, fun H' sm => ?_⟩
  rw [List.length_map, Int.toNat_natCast, List.take_length]
  exact q H' sm
noncomputable def IsAp (ap : List (Str × Str)) (p : Str × Str) : Prop := p ∈ ap ∨ (p.2, p.1) ∈ ap
open Classical in
noncomputable def firstAp (ap : List (Str × Str)) : List (Str × Str) → Option (Str × Str)
  | [] => none
  | p :: r => if IsAp ap p then some p else firstAp ap r
open Classical in
theorem firstAp_cons (ap : List (Str × Str)) (p : Str × Str) (r : List (Str × Str)) : firstAp ap (p :: r) = if IsAp ap p then some p else firstAp ap r := rfl
theorem firstAp_none {ap : List (Str × Str)} : ∀ {ps : List (Str × Str)}, (∀ p ∈ ps, ¬ IsAp ap p) → firstAp ap ps = none
  | [], _ => rfl
  | p :: r, h => by
    rw [firstAp_cons, if_neg (h p List.mem_cons_self)]
    exact firstAp_none fun q hq => h q (List.mem_cons_of_mem _ hq)
theorem two_of {K : PySem.W.Frag} {H : Hp} {rs : List V} {ps : List (Str × Str)} {i : Nat} {x : V} (h : Reps K H rs (apartDs ps)) (e : rs[i]? = some x) : ∃ (p : Str × Str) (a : Addr), ps[i]? = some p ∧ x = .ref a ∧ SqT K H a [.str p.1, .str p.2] := by
  obtain ⟨d, hd, hr⟩ := h.get e
  unfold apartDs at hd
  rw [List.getElem?_map] at hd
  cases q : ps[i]? with
  | none => rw [q] at hd; cases hd
  | some p =>
    rw [q] at hd
    cases (Option.some.inj hd)
    obtain ⟨a, xs, rfl, hs, hr2⟩ := Rep.tup_of hr
    cases hr2 with
    | cons h1 h2 => cases h2 with
      | cons h2 h3 =>
        cases h3
        rw [h1.str_of, h2.str_of] at hs
        exact ⟨p, a, rfl, rfl, hs⟩
inductive spFirst_ (K : PySem.W.Frag) (C : Addr) (vs : List V) (H : Hp) (Q : VK) : Prop where
  | mk (x l1 l2 l3 l4 : Addr) (pg : V) (rs : List V) (ap : List (Str × Str)) (a : Addr) (ss : List V) (ps : List (Str × Str)) : (vs = [.ref x, .ref a]) → (PipeAt H C x l1 l2 l3 l4 pg) → (SqL K H l4 rs) → (Reps K H rs (apartDs ap)) → ((∀ p ∈ ap, Let p.1 ∧ Let p.2)) → (SqL K H a ss) → (Reps K H ss (apartDs ps)) → ((∀ p ∈ ps, Let p.1 ∧ Let p.2)) → ((firstAp ap ps = none → ∀ H', Same H H' → Q .non H')) → (∀ (p : Str × Str) (r : Addr) (H' : Hp), firstAp ap ps = some p → Same H H' → H r = none → H' r = some (.tup [.str p.1, .str p.2]) → Q (.ref r) H') → spFirst_ K C vs H Q
noncomputable def spFirst (K : PySem.W.Frag) (C : Addr) : Sp := fun vs H Q _ => spFirst_ K C vs H Q
theorem ok_first_apart (T : Txt K mg t) : FnOk P w K mg base CX0 2 t.f_first_apart t.d_first_apart ["pipe", "pairs"] (spFirst K t.c_Pipe) := by
  have G_are_apart := ok_are_apart (P := P) (w := w) (base := base) T
  refine T.D_first_apart.F.ok sc_first_apart (fun vs H Q E h => ?_) (fun cdv A outer s H vs Q E hr h => ?_)
  · obtain ⟨x, l1, l2, l3, l4, pg, rs, ap, a, ss, ps, rfl, _⟩ := h
    rfl
  obtain ⟨x, l1, l2, l3, l4, pg, rs, ap, a, ss, ps, rfl, hp, hl4, hR4, hap, ha, hS, hps, q0, q1⟩ := h
  refine ⟨_, (pss_cons (ps_for PassesOwn.never rfl (pi_list (qv qv_first_apart 1 rfl rfl rfl)) (pg_tup rfl (pgs_cons (q_name (i := 2) qv_first_apart sc_first_apart.nd rfl rfl rfl) (pgs_cons (q_name (i := 3) qv_first_apart sc_first_apart.nd rfl rfl rfl) pgs_nil))) (pss_one (ps_if (pt_val (q_call G_are_apart (hr.mono (by decide)) qg_first_apart 0 rfl rfl T.D_are_apart.m T.D_are_apart.F.kp T.D_are_apart.b .nil pass0 (pa_cons (qv qv_first_apart 0 rfl rfl rfl) (pa_cons (qv qv_first_apart 2 rfl rfl rfl) (pa_cons (qv qv_first_apart 3 rfl rfl rfl) pa_nil))))) (pss_one (ps_ret (pe_tup (pa_cons (qv qv_first_apart 2 rfl rfl rfl) (pa_cons (qv qv_first_apart 3 rfl rfl rfl) pa_nil))))) pss_nil)))
      (pss_one (ps_ret pe_non))), ?_⟩
  have ls : ss.length = ps.length := by rw [hS.length]; unfold apartDs; rw [List.length_map]
  walk_at "vc"
  refine ⟨a, rfl, ⟨_, ha⟩, for_list (xs := ss) (fun i σ H' => ∃ (u v : Option V), σ = [some (.ref x), some (.ref a), u, v] ∧ Same H H' ∧ firstAp ap (ps.drop i) = firstAp ap ps)
    ⟨none, none, rfl, Same.refl _, rfl⟩ (fun i σ H' _ ⟨_, _, _, sm, _⟩ => sm.seq ha) ?_ ?_⟩
  rotate_left
  · rintro σ H' ⟨u, v, rfl, sm, e⟩
    rw [ls, List.drop_length] at e
    walk_at "vc"
    exact q0 e.symm H' sm
  rintro i y σ H' hy ⟨u, v, rfl, sm, e⟩
  obtain ⟨p, b, hp', rfl, hb⟩ := two_of hS hy
  have hi : i < ps.length := (List.getElem?_eq_some_iff.mp hp').1
  have ep : ps[i] = p := (List.getElem?_eq_some_iff.mp hp').2
  have ed : ps.drop i = p :: ps.drop (i + 1) := by rw [List.drop_eq_getElem_cons hi, ep]
  obtain ⟨p1, p2⟩ := hps p (ep ▸ List.getElem_mem hi)
  rw [ed, firstAp_cons] at e
  refine vc_asgT (sm.tup hb) rfl ?_
  walk_at "vc"
  refine ⟨x, l1, l2, l3, l4, pg, rs, ap, p.1, p.2, rfl, hp.same sm, sm.seq hl4, hR4.same sm, hap, p1, p2, fun H2 s2 => ?_⟩
  by_cases z : IsAp ap p
  · rw [dec_true (p := (p.1, p.2) ∈ ap ∨ (p.2, p.1) ∈ ap) z]
    rw [if_pos z] at e
    walk_at "vc"
    refine ⟨(by show 2 ≤ sizeLine; decide), fun r hr0 => ?_⟩
    walk_at "vc"
    exact q1 p r _ e.symm ((sm.trans s2).trans (same_new hr0 _)) (same_none (sm.trans s2) hr0) upd_same
  · rw [dec_false (p := (p.1, p.2) ∈ ap ∨ (p.2, p.1) ∈ ap) z]
    rw [if_neg z] at e
    walk_at "vc"
    exact ⟨_, _, rfl, sm.trans s2, e⟩
structure PipeIs (H : Hp) (C x l1 l2 l3 l4 : Addr) (pg : V) (s1 s2 s3 s4 : List V) : Prop where
  p : PipeAt H C x l1 l2 l3 l4 pg
  h1 : H l1 = some (.lst s1)
  h2 : H l2 = some (.lst s2)
  h3 : H l3 = some (.lst s3)
  h4 : H l4 = some (.lst s4)
theorem PipeIs.same {H H' : Hp} {C x l1 l2 l3 l4 : Addr} {pg : V} {s1 s2 s3 s4 : List V} (h : PipeIs H C x l1 l2 l3 l4 pg s1 s2 s3 s4) (e : Same H H') : PipeIs H' C x l1 l2 l3 l4 pg s1 s2 s3 s4 :=
  ⟨h.p.same e, e _ _ h.h1, e _ _ h.h2, e _ _ h.h3, e _ _ h.h4⟩
inductive spLike_ (C : Addr) (vs : List V) (H : Hp) (Q : VK) : Prop where
  | mk (x l1 l2 l3 l4 : Addr) (pg : V) (s1 s2 s3 s4 : List V) : (vs = [.ref x]) → (PipeIs H C x l1 l2 l3 l4 pg s1 s2 s3 s4) → (∀ (y k1 k2 k3 k4 : Addr) (H' : Hp), (∀ a ∈ [y, k1, k2, k3, k4], H a = none) → [k1, k2, k3, k4].Nodup → Same H H' → PipeIs H' C y k1 k2 k3 k4 pg s1 s2 s3 s4 → Q (.ref y) H') → spLike_ C vs H Q
noncomputable def spLike (C : Addr) : Sp := fun vs H Q _ => spLike_ C vs H Q
theorem ok_like_pipe (T : Txt K mg t) : FnOk P w K mg base CX0 3 t.f_like_pipe t.d_like_pipe ["pipe"] (spLike t.c_Pipe) := by
  have G_Pipe___init__ := ok_Pipe___init__ (P := P) (w := w) (base := base) T
  refine T.D_like_pipe.F.ok sc_like_pipe (fun vs H Q E h => ?_) (fun cdv A outer s H vs Q E hr h => ?_)
  · obtain ⟨x, l1, l2, l3, l4, pg, s1, s2, s3, s4, rfl, _⟩ := h
    rfl
  obtain ⟨x, l1, l2, l3, l4, pg, s1, s2, s3, s4, rfl, ⟨⟨dx, hx⟩, h1, h2, h3, h4⟩, q⟩ := h
  refine ⟨_, (pss_one (ps_ret (q_make T.M_Pipe G_Pipe___init__ (hr.mono (by decide)) qg_like_pipe 0 rfl rfl T.c_Pipe T.b_Pipe___init__ .nil pass0 (pa_cons (pe_fld (qv qv_like_pipe 0 rfl rfl rfl) rfl) (pa_cons (pe_fld (qv qv_like_pipe 0 rfl rfl rfl) rfl) (pa_cons (pe_fld (qv qv_like_pipe 0 rfl rfl rfl) rfl) (pa_cons (pe_fld (qv qv_like_pipe 0 rfl rfl rfl) rfl) (pa_cons (pe_fld (qv qv_like_pipe 0 rfl rfl rfl) rfl) pa_nil)))))))), ?_⟩
  walk_at "vc"
  refine ⟨x, t.c_Pipe, dx, _, _, rfl, hx, T.C_Pipe, T.n_Pipe_rooms, fs_rooms .., ?_⟩
  walk_at "vc"
  refine ⟨x, t.c_Pipe, dx, _, _, rfl, hx, T.C_Pipe, T.n_Pipe_table, fs_table .., ?_⟩
  walk_at "vc"
  refine ⟨x, t.c_Pipe, dx, _, _, rfl, hx, T.C_Pipe, T.n_Pipe_thick, fs_thick .., ?_⟩
  walk_at "vc"
  refine ⟨x, t.c_Pipe, dx, _, _, rfl, hx, T.C_Pipe, T.n_Pipe_apart, fs_apart .., ?_⟩
  walk_at "vc"
  refine ⟨x, t.c_Pipe, dx, _, _, rfl, hx, T.C_Pipe, T.n_Pipe_pig, fs_pig .., ?_⟩
  walk_at "vc"
  intro y dy hy hdy ndy
  have hyd : upd H dy (.own y) y = none := by rw [upd_ne (Ne.symm ndy)]; exact hy
  have SX : Same H (upd (upd H dy (.own y)) y (.ins t.c_Pipe dy [])) := (same_new hdy _).trans (same_new hyd _)
  refine ⟨y, dy, l1, l2, l3, l4, pg, _, _, _, _, rfl, upd_same, SqL.of (SX _ _ h1), SqL.of (SX _ _ h2), SqL.of (SX _ _ h3), SqL.of (SX _ _ h4), ?_, fun k1 k2 k3 k4 H5 hlf hlnd hls y1 y2 y3 y4 hx5 => ⟨rfl, ?_⟩⟩
  · simp only [List.mem_cons, List.not_mem_nil, or_false]
    rintro r (rfl | rfl | rfl | rfl)
    · exact ne_of_none h1 hy
    · exact ne_of_none h2 hy
    · exact ne_of_none h3 hy
    · exact ne_of_none h4 hy
  have S5 : Same H H5 := fun b o ho => by
    have nb : b ∉ [y] := by simpa using ne_of_none ho hy
    have := hls b o (by rw [hids_at nb]; exact SX _ _ ho)
    rw [hids_at nb] at this
    exact this
  refine q y k1 k2 k3 k4 H5 (fun a ha => ?_) hlnd S5 ⟨⟨dy, hx5⟩, y1, y2, y3, y4⟩
  rcases List.mem_cons.mp ha with e | ha
  · rw [e]; exact hy
  · exact same_none SX (hlf a ha)
noncomputable abbrev Lie := Str × Int × Option Int
open PySem.W in
noncomputable def sinceD : Option Int → Dat
  | none => .none
  | some i => .int i
noncomputable def sinceV : Option Int → V
  | none => .non
  | some i => .int i
open PySem.W in
noncomputable def lieD (p : Lie) : Dat := .tuple [.str p.1, .int p.2.1, sinceD p.2.2]
open PySem.W in
noncomputable def lieDs (ps : List Lie) : List Dat := ps.map lieD
theorem since_rep {K : PySem.W.Frag} {H : Hp} (s : Option Int) : Rep K H (sinceV s) (sinceD s) := by
  cases s with
  | none => exact .non
  | some i => exact .int i
theorem since_of {K : PySem.W.Frag} {H : Hp} {s : Option Int} {v : V} (h : Rep K H v (sinceD s)) : v = sinceV s := by
  cases s with
  | none => cases h; rfl
  | some i => cases h; rfl
theorem lie_rep {K : PySem.W.Frag} {H : Hp} {a : Addr} {p : Lie} (h : SqT K H a [.str p.1, .int p.2.1, sinceV p.2.2]) : Rep K H (.ref a) (lieD p) := .tup h (.cons (.str _) (.cons (.int _) (.cons (since_rep _) .nil)))
theorem lie_of {K : PySem.W.Frag} {H : Hp} {rs : List V} {ps : List Lie} {i : Nat} {x : V} (h : Reps K H rs (lieDs ps)) (e : rs[i]? = some x) : ∃ (p : Lie) (a : Addr), ps[i]? = some p ∧ x = .ref a ∧ SqT K H a [.str p.1, .int p.2.1, sinceV p.2.2] := by
  obtain ⟨d, hd, hr⟩ := h.get e
  unfold lieDs at hd
  rw [List.getElem?_map] at hd
  cases q : ps[i]? with
  | none => rw [q] at hd; cases hd
  | some p =>
    rw [q] at hd
    cases (Option.some.inj hd)
    obtain ⟨a, xs, rfl, hs, hr2⟩ := Rep.tup_of hr
    cases hr2 with
    | cons h1 h2 => cases h2 with
      | cons h2 h3 => cases h3 with
        | cons h3 h4 =>
          cases h4
          rw [h1.str_of, h2.int_of, since_of h3] at hs
          exact ⟨p, a, rfl, rfl, hs⟩
theorem lie_len {K : PySem.W.Frag} {H : Hp} {rs : List V} {ps : List Lie} (h : Reps K H rs (lieDs ps)) : rs.length = ps.length := by
  rw [h.length]
  unfold lieDs
  rw [List.length_map]
theorem lie_snoc (ps : List Lie) (p : Lie) : lieDs (ps ++ [p]) = lieDs ps ++ [lieD p] := by
  unfold lieDs
  rw [List.map_append]
  rfl
noncomputable def newly : Int → List (Str × Int) → List Lie
  | _, [] => []
  | p, q :: r => (q.1, q.2, some p) :: newly (p + q.2) r
theorem newly_snoc (q : Str × Int) : ∀ (p : Int) (ps : List (Str × Int)), newly p (ps ++ [q]) = newly p ps ++ [(q.1, q.2, some (p + (ps.map (·.2)).sum))]
  | p, [] => by simp [newly]
  | p, r :: ps => by
    rw [List.cons_append, newly, newly_snoc q _ ps, newly, List.map_cons, List.sum_cons, List.cons_append]
    congr 4
    rw [Int.add_assoc]
theorem newly_len : ∀ (p : Int) (ps : List (Str × Int)), (newly p ps).length = ps.length
  | _, [] => rfl
  | p, r :: ps => by rw [newly, List.length_cons, List.length_cons, newly_len _ ps]
theorem lie_app {H' : Hp} {l n : Addr} {rs : List V} {acc js : List Lie} {p : Lie} {o : HO} (hl : H' l = some (.lst rs)) (hn : H' n = none) (hR : Reps K (hid l H') rs (lieDs acc)) (e : js = acc ++ [p]) :
    Reps K (hid l (upd (upd H' n (.tup [.str p.1, .int p.2.1, sinceV p.2.2])) l o)) (rs ++ [.ref n]) (lieDs js) := by
  have hnl : n ≠ l := fun z => by rw [z, hl] at hn; cases hn
  rw [hid_upd, e, lie_snoc]
  exact (hR.same (same_new hn _).hid).append (.one (lie_rep (SqT.of (by rw [hid_ne hnl]; exact upd_same))))
inductive spNewly_ (K : PySem.W.Frag) (vs : List V) (H : Hp) (Q : VK) : Prop where
  | mk (a : Addr) (fs : List V) (ps : List (Str × Int)) : (vs = [.ref a]) → (SqL K H a fs) → (Reps K H fs (fillDs ps)) → (ps.length ≤ 900) → (∀ (l : Addr) (rs : List V) (H' : Hp), H l = none → Same H H' → H' l = some (.lst rs) → Reps K (hid l H') rs (lieDs (newly 0 ps)) → Q (.ref l) H') → spNewly_ K vs H Q
noncomputable def spNewly (K : PySem.W.Frag) : Sp := fun vs H Q _ => spNewly_ K vs H Q
theorem ok_newly_met (T : Txt K mg t) : FnOk P w K mg base CX0 1 t.f_newly_met t.d_newly_met ["fill"] (spNewly K) := by
  refine T.D_newly_met.F.ok sc_newly_met (fun vs H Q E h => ?_) (fun cdv A outer s H vs Q E hr h => ?_)
  · obtain ⟨a, fs, ps, rfl, _⟩ := h
    rfl
  obtain ⟨a, fs, ps, rfl, ha, hF, hl, q⟩ := h
  have lf : fs.length = ps.length := by rw [hF.length]; unfold fillDs; rw [List.length_map]
  refine ⟨_, (pss_cons (q_set (i := 1) qv_newly_met sc_newly_met.nd rfl rfl rfl (pe_lst pa_nil))
      (pss_cons (q_set (i := 2) qv_newly_met sc_newly_met.nd rfl rfl rfl pe_int)
      (pss_cons (ps_for PassesOwn.never rfl (pi_list (qv qv_newly_met 0 rfl rfl rfl)) (pg_tup rfl (pgs_cons (q_name (i := 3) qv_newly_met sc_newly_met.nd rfl rfl rfl) (pgs_cons (q_name (i := 4) qv_newly_met sc_newly_met.nd rfl rfl rfl) pgs_nil))) (pss_cons (ps_expr (pe_bm PySem.F.plainAttrs_list PySem.F.slot_list_append PySem.F.type_list_append mt_appendR (qv qv_newly_met 1 rfl rfl rfl) (pa_cons (pe_tup (pa_cons (qv qv_newly_met 3 rfl rfl rfl) (pa_cons (qv qv_newly_met 4 rfl rfl rfl) (pa_cons (qv qv_newly_met 2 rfl rfl rfl) pa_nil)))) pa_nil)))
      (pss_one (ps_aug (i := 2) sc_newly_met.nd rfl (VOk.at qv_newly_met (i := 2) rfl).2 (qv qv_newly_met 4 rfl rfl rfl) ip_add))))
      (pss_one (ps_ret (qv qv_newly_met 1 rfl rfl rfl)))))), ?_⟩
  walk_at "vc"
  refine ⟨Nat.zero_le _, fun l hl0 => ?_⟩
  walk_at "vc"
  refine ⟨a, rfl, ⟨_, (same_new hl0 _).seq ha⟩, for_list (xs := fs) (fun i σ H' => ∃ (rs : List V) (u v : Option V), σ = [some (.ref a), some (.ref l), some (.int ((ps.take i).map (·.2)).sum), u, v] ∧ Same H H' ∧ H' l = some (.lst rs) ∧ Reps K (hid l H') rs (lieDs (newly 0 (ps.take i))))
    ⟨[], none, none, rfl, same_new hl0 _, upd_same, .nil⟩ (fun i σ H' _ ⟨_, _, _, _, sm, _⟩ => sm.seq ha) ?_ ?_⟩
  rotate_left
  · rintro σ H' ⟨rs, u, v, rfl, sm, hl', hR⟩
    rw [lf, List.take_length] at hR
    walk_at "vc"
    exact q l rs H' hl0 sm hl' hR
  rintro i y σ H' hy ⟨rs, u, v, rfl, sm, hl', hR⟩
  obtain ⟨p, b, hp, rfl, hb⟩ := pair_of hF hy
  have et : ps.take (i + 1) = ps.take i ++ [p] := by rw [List.take_add_one, hp]; rfl
  have hi : i < ps.length := (List.getElem?_eq_some_iff.mp hp).1
  have lr : rs.length ≤ i := by rw [lie_len hR, newly_len, List.length_take]; omega
  rw [et]
  refine vc_asgT (sm.tup hb) rfl ?_
  walk_at "vc"
  refine ⟨tyV_list (SqL.of hl'), ?_⟩
  walk_at "vc"
  refine ⟨(by show 3 ≤ sizeLine; decide), fun n hn => ?_⟩
  walk_at "vc"
  refine vc_append (K := K) (same_new hn _ _ _ hl') (small1000 (by omega)) ?_
  walk_at "vc"
  refine ⟨_, some (.str p.1), some (.int p.2), ?_, (sm.trans (same_new hn _)).updD hl0, upd_same, lie_app (p := (p.1, p.2, some ((ps.take i).map (fun q : Str × Int => q.2)).sum)) hl' hn hR (by rw [newly_snoc, Int.zero_add])⟩
  have e : ((ps.take i ++ [p]).map (·.2)).sum = ((ps.take i).map (·.2)).sum + p.2 := by
    rw [List.map_append, List.sum_append]
    simp
  rw [e]
  rfl
noncomputable def jStep (acc : List Lie) (p : Lie) : List Lie :=
  match acc.getLast? with
  | some r => if r.1 = p.1 then acc.take (acc.length - 1) ++ [(p.1, r.2.1 + p.2.1, r.2.2)] else acc ++ [p]
  | none => acc ++ [p]
noncomputable def jLie (ps : List Lie) : List Lie := ps.foldl jStep []
theorem jLie_snoc (ps : List Lie) (p : Lie) : jLie (ps ++ [p]) = jStep (jLie ps) p := by
  unfold jLie
  rw [List.foldl_append]
  rfl
theorem jStep_len (acc : List Lie) (p : Lie) : (jStep acc p).length ≤ acc.length + 1 := by
  unfold jStep
  split
  · split
    · rw [List.length_append, List.length_take, List.length_singleton]
      omega
    · rw [List.length_append, List.length_singleton]
      exact Nat.le_refl _
  · rw [List.length_append, List.length_singleton]
    exact Nat.le_refl _
theorem jLie_len (ps : List Lie) : ∀ n, (jLie (ps.take n)).length ≤ n
  | 0 => by rw [List.take_zero]; exact Nat.le_refl _
  | n + 1 => by
    have ih := jLie_len ps n
    cases e : ps[n]? with
    | none => rw [List.take_add_one, e, Option.toList_none, List.append_nil]; omega
    | some p =>
      rw [List.take_add_one, e, Option.toList_some, jLie_snoc]
      have := jStep_len (jLie (ps.take n)) p
      omega
theorem lie_set {H' : Hp} {l n : Addr} {rs : List V} {acc : List Lie} {p r : Lie} {o : HO} (hl : H' l = some (.lst rs)) (hn : H' n = none) (hR : Reps K (hid l H') rs (lieDs acc)) (hlast : acc.getLast? = some r) (e : r.1 = p.1) (h0 : 0 < rs.length) :
    Reps K (hid l (upd (upd H' n (.tup [.str p.1, .int (r.2.1 + p.2.1), sinceV r.2.2])) l o)) (rs.set (rs.length - 1) (.ref n)) (lieDs (jStep acc p)) := by
  have hnl : n ≠ l := fun z => by rw [z, hl] at hn; cases hn
  have lr := lie_len hR
  have e1 : jStep acc p = acc.take (acc.length - 1) ++ [(p.1, r.2.1 + p.2.1, r.2.2)] := by
    unfold jStep
    rw [hlast]
    exact if_pos e
  have e2 : rs.set (rs.length - 1) (.ref n) = rs.take (acc.length - 1) ++ [.ref n] := by
    rw [List.set_eq_take_append_cons_drop, if_pos (by omega), List.drop_of_length_le (by omega), lr]
  have e3 : lieDs (acc.take (acc.length - 1)) = (lieDs acc).take (acc.length - 1) := by
    unfold lieDs
    rw [List.map_take]
  rw [hid_upd, e1, e2, lie_snoc, e3]
  exact ((hR.same (same_new hn _).hid).take _).append (.one (lie_rep (p := (p.1, r.2.1 + p.2.1, r.2.2)) (SqT.of (by rw [hid_ne hnl]; exact upd_same))))
inductive spCJoined_ (K : PySem.W.Frag) (vs : List V) (H : Hp) (Q : VK) : Prop where
  | mk (a : Addr) (fs : List V) (ps : List Lie) : (vs = [.ref a]) → (SqL K H a fs) → (Reps K H fs (lieDs ps)) → (ps.length ≤ 900) → (∀ (l : Addr) (rs : List V) (H' : Hp), H l = none → Same H H' → H' l = some (.lst rs) → Reps K (hid l H') rs (lieDs (jLie ps)) → Q (.ref l) H') → spCJoined_ K vs H Q
noncomputable def spCJoined (K : PySem.W.Frag) : Sp := fun vs H Q _ => spCJoined_ K vs H Q
theorem ok_joined (T : Txt K mg t) : FnOk P w K mg base CX0 1 t.f_joined t.d_joined ["row"] (spCJoined K) := by
  refine T.D_joined.F.ok sc_joined (fun vs H Q E h => ?_) (fun cdv A outer s H vs Q E hr h => ?_)
  · obtain ⟨a, fs, ps, rfl, _⟩ := h
    rfl
  obtain ⟨a, fs, ps, rfl, ha, hF, hl, q⟩ := h
  have lf := lie_len hF
  refine ⟨_, (pss_cons (q_set (i := 1) qv_joined sc_joined.nd rfl rfl rfl (pe_lst pa_nil))
      (pss_cons (ps_for PassesOwn.never rfl (pi_list (qv qv_joined 0 rfl rfl rfl)) (pg_tup rfl (pgs_cons (q_name (i := 2) qv_joined sc_joined.nd rfl rfl rfl) (pgs_cons (q_name (i := 3) qv_joined sc_joined.nd rfl rfl rfl) (pgs_cons (q_name (i := 4) qv_joined sc_joined.nd rfl rfl rfl) pgs_nil)))) (pss_one (ps_if (PW.pt (pw_and (pt_tru (qv qv_joined 1 rfl rfl rfl)) (pw_and1 (pt_cmpR op_eq (pe_ix ix_tup (pe_ix ix_list (qv qv_joined 1 rfl rfl rfl) (pe_un un_neg pe_int) (fun _ _ => rfl)) pe_int (fun _ _ => rfl)) (qv qv_joined 2 rfl rfl rfl) (nomark _))))) (pss_one (ps_asg (pe_tup (pa_cons (qv qv_joined 2 rfl rfl rfl) (pa_cons (pe_op op_add (pe_ix ix_tup (pe_ix ix_list (qv qv_joined 1 rfl rfl rfl) (pe_un un_neg pe_int) (fun _ _ => rfl)) pe_int (fun _ _ => rfl)) (qv qv_joined 3 rfl rfl rfl)) (pa_cons (pe_ix ix_tup (pe_ix ix_list (qv qv_joined 1 rfl rfl rfl) (pe_un un_neg pe_int) (fun _ _ => rfl)) pe_int (fun _ _ => rfl)) pa_nil)))) (pg_sub (qv qv_joined 1 rfl rfl rfl) (pe_un un_neg pe_int) set_list))) (pss_one (ps_expr (pe_bm PySem.F.plainAttrs_list PySem.F.slot_list_append PySem.F.type_list_append mt_appendR (qv qv_joined 1 rfl rfl rfl) (pa_cons (pe_tup (pa_cons (qv qv_joined 2 rfl rfl rfl) (pa_cons (qv qv_joined 3 rfl rfl rfl) (pa_cons (qv qv_joined 4 rfl rfl rfl) pa_nil)))) pa_nil)))))))
      (pss_one (ps_ret (qv qv_joined 1 rfl rfl rfl))))), ?_⟩
  walk_at "vc"
  refine ⟨Nat.zero_le _, fun l hl0 => ?_⟩
  walk_at "vc"
  refine ⟨a, rfl, ⟨_, (same_new hl0 _).seq ha⟩, for_list (xs := fs) (fun i σ H' => ∃ (rs : List V) (u v z : Option V), σ = [some (.ref a), some (.ref l), u, v, z] ∧ Same H H' ∧ H' l = some (.lst rs) ∧ Reps K (hid l H') rs (lieDs (jLie (ps.take i))))
    ⟨[], none, none, none, rfl, same_new hl0 _, upd_same, .nil⟩ (fun i σ H' _ ⟨_, _, _, _, _, sm, _⟩ => sm.seq ha) ?_ ?_⟩
  rotate_left
  · rintro σ H' ⟨rs, u, v, z, rfl, sm, hl', hR⟩
    rw [lf, List.take_length] at hR
    walk_at "vc"
    exact q l rs H' hl0 sm hl' hR
  rintro i y σ H' hy ⟨rs, u, v, z, rfl, sm, hl', hR⟩
  obtain ⟨p, b, hp, rfl, hb⟩ := lie_of hF hy
  have et : ps.take (i + 1) = ps.take i ++ [p] := by rw [List.take_add_one, hp]; rfl
  have hi : i < ps.length := (List.getElem?_eq_some_iff.mp hp).1
  have jl := jLie_len ps i
  rw [et, jLie_snoc]
  generalize jLie (ps.take i) = acc at *
  have lr := lie_len hR
  refine vc_asgT (sm.tup hb) rfl ?_
  walk_at "vc"
  refine vc_truL (K := K) (SqL.of hl') ?_
  refine ite_bl (fun z => ?_) (fun z => ?_)
  · have hp0 : 0 < rs.length := by
      cases rs with
      | nil => cases z
      | cons => exact Nat.succ_pos _
    have hlt : rs.length - 1 < rs.length := by omega
    have hv : rs[rs.length - 1]? = some rs[rs.length - 1] := List.getElem?_eq_getElem hlt
    obtain ⟨r, c, hr', ev, hc⟩ := lie_of hR hv
    rw [ev] at hv
    have hc' := (hid_same l H').tup hc
    have hlast : acc.getLast? = some r := by rw [List.getLast?_eq_getElem?, ← lr]; exact hr'
    walk_at "vc"
    refine vc_ixL (SqL.of hl') (atI_last hv) ?_
    walk_at "vc"
    refine ite2 (fun z => ?_) (fun z => ?_)
    · have e : r.1 = p.1 := V.str.inj (of_decide_eq_true z)
      walk_at "vc"
      refine vc_ixL (SqL.of hl') (atI_last hv) ?_
      walk_at "vc"
      refine vc_ixL (SqL.of hl') (atI_last hv) ?_
      walk_at "vc"
      refine ⟨(by show 3 ≤ sizeLine; decide), fun n hn => ?_⟩
      walk_at "vc"
      refine vc_setL (same_new hn _ _ _ hl') (j := rs.length - 1) (ixN_last (by omega)) ?_
      walk_at "vc"
      exact ⟨_, _, _, _, rfl, (sm.trans (same_new hn _)).updD hl0, upd_same, lie_set hl' hn hR hlast e (by omega)⟩
    · have e : r.1 ≠ p.1 := fun e => z (decide_eq_true (congrArg V.str e))
      walk_at "vc"
      refine ⟨tyV_list (SqL.of hl'), ?_⟩
      walk_at "vc"
      refine ⟨(by show 3 ≤ sizeLine; decide), fun n hn => ?_⟩
      walk_at "vc"
      refine vc_append (K := K) (same_new hn _ _ _ hl') (small1000 (by omega)) ?_
      walk_at "vc"
      exact ⟨_, _, _, _, rfl, (sm.trans (same_new hn _)).updD hl0, upd_same, lie_app hl' hn hR (by unfold jStep; rw [hlast]; exact if_neg e)⟩
  · have e0 : acc = [] := by
      cases rs with
      | nil => exact List.eq_nil_of_length_eq_zero lr.symm
      | cons => cases z
    walk_at "vc"
    refine ⟨tyV_list (SqL.of hl'), ?_⟩
    walk_at "vc"
    refine ⟨(by show 3 ≤ sizeLine; decide), fun n hn => ?_⟩
    walk_at "vc"
    refine vc_append (K := K) (same_new hn _ _ _ hl') (small1000 (by omega)) ?_
    walk_at "vc"
    exact ⟨_, _, _, _, rfl, (sm.trans (same_new hn _)).updD hl0, upd_same, lie_app hl' hn hR (by rw [e0]; rfl)⟩
noncomputable def ctFs (p o ly rd : Addr) : List (Str × V) := [("pipe", .ref p), ("own_pipe", .ref o), ("lying", .ref ly), ("riding", .ref rd)]
theorem ctFs_eq (p o ly rd : Addr) : putF "riding" (.ref rd) (putF "lying" (.ref ly) (putF "own_pipe" (.ref o) (putF "pipe" (.ref p) []))) = ctFs p o ly rd := by rfl
theorem ct_own (p o ly rd : Addr) : (ctFs p o ly rd).lookup (Str.ofString "own_pipe") = some (.ref o) := by rfl
theorem ct_lying (p o ly rd : Addr) : (ctFs p o ly rd).lookup (Str.ofString "lying") = some (.ref ly) := by rfl
theorem ct_riding (p o ly rd : Addr) : (ctFs p o ly rd).lookup (Str.ofString "riding") = some (.ref rd) := by rfl
structure CtAt (H : Hp) (C x p o ly rd : Addr) : Prop where
  at_ : ∃ dx, H x = some (.ins C dx (ctFs p o ly rd))
theorem CtAt.same {H H' : Hp} {C x p o ly rd : Addr} (h : CtAt H C x p o ly rd) (e : Same H H') : CtAt H' C x p o ly rd := by
  obtain ⟨dx, h⟩ := h.at_
  exact ⟨dx, e _ _ h⟩
noncomputable def pairsIn (ps : List (Str × Int)) : List (Str × Str) := (ps.zip (ps.drop 1)).map fun p => (p.1.1, p.2.1)
inductive spContent_ (K : PySem.W.Frag) (C D : Addr) (vs : List V) (H : Hp) (Q : VK) : Prop where
  | mk (x dx pp l1 l2 l3 l4 fa : Addr) (pg : V) (rooms : List Int) (s2 s3 s4 fs : List V) (ap : List (Str × Str)) (ps : List (Str × Int)) : (vs = [.ref x, .ref pp, .ref fa]) → (H x = some (.ins D dx [])) → (PipeIs (hid x H) C pp l1 l2 l3 l4 pg (rooms.map V.int) s2 s3 s4) → (Reps K (hid x H) s4 (apartDs ap)) → ((∀ p ∈ ap, Let p.1 ∧ Let p.2)) → (SqL K (hid x H) fa fs) → (Reps K (hid x H) fs (fillDs ps)) → (ps.length ≤ 900) → ((∀ p ∈ ps, Let p.1)) → ((ps.map (·.2)).sum = rooms.sum) → ((∀ p ∈ pairsIn ps, ¬ IsAp ap p)) → (∀ (p1 k1 k2 k3 k4 p2 m1 m2 m3 m4 ly rd : Addr) (ls : List V) (H' : Hp), (∀ a ∈ [p1, k1, k2, k3, k4, p2, m1, m2, m3, m4, ly, rd], H a = none) → Same (hid x H) (hid x H') → PipeIs (hid x H') C p1 k1 k2 k3 k4 pg (rooms.map V.int) s2 s3 s4 → PipeIs (hid x H') C p2 m1 m2 m3 m4 pg (rooms.map V.int) s2 s3 s4 → hid x H' ly = some (.lst ls) → Reps K (hid x (hid ly H')) ls (lieDs (jLie (newly 0 ps))) → hid x H' rd = some (.lst []) → H' x = some (.ins D dx (ctFs p1 p2 ly rd)) → Q .non H') → spContent_ K C D vs H Q
noncomputable def spContent (K : PySem.W.Frag) (C D : Addr) : Sp := fun vs H Q _ => spContent_ K C D vs H Q
theorem hid_comm (a b : Addr) (H : Hp) : hid a (hid b H) = hid b (hid a H) := by
  funext c
  unfold hid
  split <;> split <;> rfl
theorem pairs_ds (ps : List (Str × Int)) (i : Nat) (p r : Str × Int) (h1 : ps[i]? = some p) (h2 : ps[i + 1]? = some r) : (pairsIn ps).take (i + 1) = (pairsIn ps).take i ++ [(p.1, r.1)] := by
  have e : (pairsIn ps)[i]? = some (p.1, r.1) := by
    unfold pairsIn
    rw [List.getElem?_map, (List.getElem?_zip_eq_some (z := (p, r))).mpr ⟨h1, by rw [List.getElem?_drop, Nat.add_comm]; exact h2⟩]
    rfl
  rw [List.take_add_one, e]
  rfl
theorem pairs_len (ps : List (Str × Int)) : (pairsIn ps).length = ps.length - 1 := by
  unfold pairsIn
  rw [List.length_map, List.length_zip, List.length_drop]
  omega
theorem pairs_mem {ps : List (Str × Int)} {p : Str × Str} (h : p ∈ pairsIn ps) : ∃ a ∈ ps, ∃ b ∈ ps, p = (a.1, b.1) := by
  unfold pairsIn at h
  obtain ⟨z, hz, rfl⟩ := List.mem_map.mp h
  have := List.of_mem_zip hz
  exact ⟨z.1, this.1, z.2, List.mem_of_mem_drop this.2, rfl⟩
theorem pipe_hid {H : Hp} {C x y l1 l2 l3 l4 : Addr} {pg : V} {s1 s2 s3 s4 : List V} (h : PipeIs H C y l1 l2 l3 l4 pg s1 s2 s3 s4) (n : ∀ a ∈ [y, l1, l2, l3, l4], a ≠ x) : PipeIs (hid x H) C y l1 l2 l3 l4 pg s1 s2 s3 s4 := by
  obtain ⟨⟨dx, hy⟩, h1, h2, h3, h4⟩ := h
  exact ⟨⟨dx, by rw [hid_ne (n y (by simp))]; exact hy⟩, by rw [hid_ne (n l1 (by simp))]; exact h1, by rw [hid_ne (n l2 (by simp))]; exact h2, by rw [hid_ne (n l3 (by simp))]; exact h3, by rw [hid_ne (n l4 (by simp))]; exact h4⟩
theorem none_hid {H H' : Hp} {x a : Addr} {o : HO} (e : Same (hid x H) (hid x H')) (hx : H' x = some o) (h : H' a = none) : H a = none := by
  have ne : a ≠ x := fun z => by rw [z, hx] at h; cases h
  have := same_none e (a := a) (by rw [hid_ne ne]; exact h)
  rw [hid_ne ne] at this
  exact this
theorem cutV_drop (xs : List V) (k : Nat) : cutV xs (some (k : Int)) none = xs.drop k := by
  unfold cutV
  rw [HT.sIx_none, HT.sIx_nat]
  by_cases h : k ≤ xs.length
  · rw [Nat.min_eq_left h, List.take_of_length_le (by rw [List.length_drop]; omega)]
  · rw [Nat.min_eq_right (by omega), Nat.sub_self, List.take_zero, List.drop_of_length_le (by omega)]
theorem lie_noL (ps : List Lie) : noLs (lieDs ps) = true := noLs_map (fun p => by
  unfold lieD
  cases p.2.2 <;> rfl) ps
theorem lie_hid {H : Hp} {x ly C dx : Addr} {fs : List (Str × V)} {ls : List V} {ps : List Lie} (hx : H x = some (.ins C dx fs)) (h : Reps K (hid ly H) ls (lieDs ps)) : Reps K (hid x (hid ly H)) ls (lieDs ps) := by
  refine h.sameT (fun b o hb ho => ?_) (lie_noL ps)
  obtain ⟨xs, r⟩ := hb
  have ne : b ≠ x := by
    rintro rfl
    have r' := r.up (hid_same ly H)
    rcases r' with r' | ⟨o, r'⟩ <;> rw [hx] at r' <;> cases r'
  rw [hid_ne ne]
  exact ho
theorem ok_Content___init__ (T : Txt K mg t) : FnOk P w K mg base CX0 4 t.f_Content___init__ t.d_Content___init__ ["self", "pipe", "fill"] (spContent K t.c_Pipe t.c_Content) := by
  have G_end_of := ok_end_of (P := P) (w := w) (base := base) T
  have G_first_apart := ok_first_apart (P := P) (w := w) (base := base) T
  have G_like_pipe := ok_like_pipe (P := P) (w := w) (base := base) T
  have G_joined := ok_joined (P := P) (w := w) (base := base) T
  have G_newly_met := ok_newly_met (P := P) (w := w) (base := base) T
  refine T.F_Content___init__.ok sc_Content___init__ (fun vs H Q E h => ?_) (fun cdv A outer s H vs Q E hr h => ?_)
  · obtain ⟨x, dx, pp, l1, l2, l3, l4, fa, pg, rooms, s2, s3, s4, fs, ap, ps, rfl, _⟩ := h
    rfl
  obtain ⟨x, dx, pp, l1, l2, l3, l4, fa, pg, rooms, s2, s3, s4, fs, ap, ps, rfl, hx, hP, hR4, hap, hfa, hF, hlen, hlet, hsum, hno, q⟩ := h
  have lf : fs.length = ps.length := by rw [hF.length]; unfold fillDs; rw [List.length_map]
  refine ⟨_, (pss_cons (ps_if (pt_cmpR op_ne (q_callB (call_sum rfl) qg_Content___init__ 0 rfl rfl T.z_sum bo_sum (pa_cons (pe_comp ["ware", "volume"] [none, none] rfl  (pi_list (qv qv_Content___init__ 2 rfl rfl rfl)) (fun _ _ _ _ => (pg_tupC (n := 2) rfl (pgs_cons (pg_name (i := 0) (show (["ware", "volume"] : List Str).Nodup by decide +kernel) rfl (Or.inl rfl)) (pgs_cons (pg_name (i := 1) (show (["ware", "volume"] : List Str).Nodup by decide +kernel) rfl (Or.inl rfl)) pgs_nil)))) (fun _ _ _ _ => pts_nil) (fun _ _ _ _ => (pv 1)) rfl rfl) pa_nil)) (q_call G_end_of (hr.mono (by decide)) qg_Content___init__ 1 rfl rfl T.D_end_of.m T.D_end_of.F.kp T.D_end_of.b .nil pass0 (pa_cons (qv qv_Content___init__ 1 rfl rfl rfl) pa_nil)) (nomark _)) (pss_one ps_never) pss_nil)
      (pss_cons (q_set (i := 3) qv_Content___init__ sc_Content___init__.nd rfl rfl rfl (q_call G_first_apart (hr.mono (by decide)) qg_Content___init__ 3 rfl rfl T.D_first_apart.m T.D_first_apart.F.kp T.D_first_apart.b .nil pass0 (pa_cons (qv qv_Content___init__ 1 rfl rfl rfl) (pa_cons (pe_comp ["near", "far"] [none, none] rfl  (pi_zip (qgl qg_Content___init__ 4 rfl rfl) T.z_zip (pa_cons (qv qv_Content___init__ 2 rfl rfl rfl) (pa_cons (pe_slice sl_list (qv qv_Content___init__ 2 rfl rfl rfl) (po_some pe_int) po_none) pa_nil))) (fun _ _ _ _ => (pg_tupC (n := 2) rfl (pgs_cons (pg_name (i := 0) (show (["near", "far"] : List Str).Nodup by decide +kernel) rfl (Or.inl rfl)) (pgs_cons (pg_name (i := 1) (show (["near", "far"] : List Str).Nodup by decide +kernel) rfl (Or.inl rfl)) pgs_nil)))) (fun _ _ _ _ => pts_nil) (fun _ _ _ _ => (pe_tup (pa_cons (pe_ix ix_tupC (pv 0) pe_int (fun _ _ => rfl)) (pa_cons (pe_ix ix_tupC (pv 1) pe_int (fun _ _ => rfl)) pa_nil)))) rfl rfl) pa_nil))))
      (pss_cons (ps_if (pt_cmp (pc_notN (qv qv_Content___init__ 3 rfl rfl rfl))) (pss_one ps_never) pss_nil)
      (pss_cons (ps_fld (qv qv_Content___init__ 0 rfl rfl rfl) (q_call G_like_pipe (hr.mono (by decide)) qg_Content___init__ 6 rfl rfl T.D_like_pipe.m T.D_like_pipe.F.kp T.D_like_pipe.b .nil pass0 (pa_cons (qv qv_Content___init__ 1 rfl rfl rfl) pa_nil)) rfl)
      (pss_cons (ps_fld (qv qv_Content___init__ 0 rfl rfl rfl) (q_call G_like_pipe (hr.mono (by decide)) qg_Content___init__ 6 rfl rfl T.D_like_pipe.m T.D_like_pipe.F.kp T.D_like_pipe.b .nil pass0 (pa_cons (qv qv_Content___init__ 1 rfl rfl rfl) pa_nil)) rfl)
      (pss_cons (ps_fld (qv qv_Content___init__ 0 rfl rfl rfl) (q_call G_joined (hr.mono (by decide)) qg_Content___init__ 7 rfl rfl T.D_joined.m T.D_joined.F.kp T.D_joined.b .nil pass0 (pa_cons (q_call G_newly_met (hr.mono (by decide)) qg_Content___init__ 8 rfl rfl T.D_newly_met.m T.D_newly_met.F.kp T.D_newly_met.b .nil pass0 (pa_cons (qv qv_Content___init__ 2 rfl rfl rfl) pa_nil)) pa_nil)) rfl)
      (pss_one (ps_fld (qv qv_Content___init__ 0 rfl rfl rfl) (pe_lst pa_nil) rfl)))))))), ?_⟩
  have Z : Same (hid x H) H := hid_same x H
  have hfa0 := Z.seq hfa
  walk_at "vc"
  refine ⟨fa, rfl, ⟨_, hfa0⟩, fun d1 hd1 => comp_gen (n := fs.length) (fun i x => fs[i]? = some x) hd1 (small1000 (by omega)) (hJ_list hfa0) (fun i ys _ => ys = ((ps.take i).map (·.2)).map V.int) (fun σ => ∃ u v, σ = [u, v]) rfl ⟨_, _, rfl⟩ ?_ ?_⟩
  · rintro i y ys σ H1 R1 R0 hi hy ⟨u, v, rfl⟩ sm hDl hΦ k1 k0
    obtain ⟨p, b, hp, rfl, hb⟩ := pair_of hF hy
    refine vc_asgT (sm.tup (Z.tup hb)) rfl ?_
    walk_at "vc"
    refine k1 _ _ _ (Same.refl _) ⟨_, _, rfl⟩ ?_
    rw [hΦ, List.take_add_one, hp, Option.toList_some, List.map_append, List.map_append]
    rfl
  intro ys H1 S1 hd1' _ hΦ
  rw [lf, List.take_length] at hΦ
  subst hΦ
  have Z1 : Same (hid x H) H1 := Z.trans S1
  walk_at "vc"
  refine vc_sum (SqL.of hd1') ?_
  walk_at "vc"
  refine ⟨pp, l1, l2, l3, l4, pg, rooms, rfl, hP.p.same Z1, SqL.of (Z1 _ _ hP.h1), fun H2 S2 => ?_⟩
  walk_at "vc"
  rw [hsum]
  refine iteNS rfl ?_
  have Z2 : Same (hid x H) H2 := Z1.trans S2
  have hfa2 := Z2.seq hfa
  walk_at "vc"
  refine vc_slL hfa2 fun d2 hd2 => ?_
  have ec : cutV fs (some 1) none = fs.drop 1 := cutV_drop fs 1
  rw [ec]
  have Y3 := same_new hd2 (.lst (fs.drop 1))
  have hd2' : upd H2 d2 (.lst (fs.drop 1)) d2 = some (.lst (fs.drop 1)) := upd_same
  generalize upd H2 d2 (.lst (fs.drop 1)) = H3 at *
  have Z3 : Same (hid x H) H3 := Z2.trans Y3
  have hfa3 : Sq false K H3 fa fs := Z3.seq hfa
  have hd23 : Sq false K H3 d2 (fs.drop 1) := SqL.of hd2'
  walk_at "vc"
  refine ⟨false, fa, d2, _, _, rfl, hfa3, hd23, fun d3 hd3 => comp_gen2 (n := (fs.drop 1).length) (fun i v H' => ∃ TT u z, v = .ref TT ∧ fs[i]? = some u ∧ (fs.drop 1)[i]? = some z ∧ H' TT = some (.tup [u, z])) hd3 (small1000 (by rw [List.length_drop]; omega)) (hJ_zipS hfa3 hd23 (by rw [List.length_drop]; omega)) (fun i ys H' => Reps K H' ys (apartDs ((pairsIn ps).take i))) (fun σ => ∃ u v, σ = [u, v]) (fun _ _ _ _ sm h => h.same sm) .nil ⟨_, _, rfl⟩ ?_ ?_⟩
  · rintro i v ys σ H' R1 R0 hi ⟨TT, u, z, rfl, hu, hz, hT⟩ ⟨u1, u2, rfl⟩ sm hDl hΦ k1 k0
    rw [List.getElem?_drop, Nat.add_comm] at hz
    obtain ⟨p, b, hp, rfl, hb⟩ := pair_of hF hu
    obtain ⟨r, c, hr', rfl, hc⟩ := pair_of hF hz
    refine vc_asgT (SqT.of hT) rfl ?_
    have hb' := (Z3.trans sm).tup hb
    have hc' := (Z3.trans sm).tup hc
    walk_at "vc"
    refine ⟨(by show 2 ≤ sizeLine; decide), fun n hn => ?_⟩
    have nD : n ≠ d3 := fun e => by rw [e, hDl] at hn; cases hn
    refine k1 _ _ _ (same_new hn _) ⟨_, _, rfl⟩ ?_
    rw [pairs_ds ps i p r hp hr']
    unfold apartDs at hΦ ⊢
    rw [List.map_append]
    exact (hΦ.same (same_new hn _).hid).append (.one (.tup (SqT.of (by rw [hid_ne nD]; exact upd_same)) (.cons (.str _) (.cons (.str _) .nil))))
  intro ss H4 S4 hd3' _ hΦ
  rw [show (fs.drop 1).length = (pairsIn ps).length by rw [List.length_drop, pairs_len, lf], List.take_length] at hΦ
  have Z4 : Same (hid x H) H4 := Z3.trans S4
  walk_at "vc"
  refine ⟨pp, l1, l2, l3, l4, pg, s4, ap, d3, ss, pairsIn ps, rfl, hP.p.same Z4, SqL.of (Z4 _ _ hP.h4), hR4.same Z4, hap, SqL.of hd3', hΦ.same (hid_same _ _), fun p hp => ?_, fun _ H5 S5 => ?_, fun p r H5 e => ?_⟩
  · obtain ⟨a, ha, b, hb, rfl⟩ := pairs_mem hp
    exact ⟨hlet a ha, hlet b hb⟩
  rotate_left
  · rw [firstAp_none hno] at e
    cases e
  have Z5 : Same H H5 := S1.trans (S2.trans (Y3.trans (S4.trans S5)))
  have hx5 : H5 x = some (.ins t.c_Content dx []) := Z5 _ _ hx
  have W5 : Same (hid x H) (hid x H5) := Z5.hid
  have V5 : Same (hid x H) H5 := Z.trans Z5
  walk_at "vc"
  refine iteNS rfl ?_
  walk_at "vc"
  refine ⟨pp, l1, l2, l3, l4, pg, _, _, _, _, rfl, hP.same V5, fun p1 k1 k2 k3 k4 H6 n6 _ S6 P1 => ?_⟩
  walk_at "vc"
  refine ⟨x, t.c_Content, dx, _, rfl, S6 _ _ hx5, T.C_Content, T.n_Content_pipe, (show 0 < 1000 by decide), ?_⟩
  have W6 : Same (hid x H) (hid x (upd H6 x (.ins t.c_Content dx (putF "pipe" (.ref p1) [])))) := by rw [hid_upd]; exact W5.trans S6.hid
  have n6' : ∀ a ∈ [p1, k1, k2, k3, k4], H a = none := fun a ha => same_none Z5 (n6 a ha)
  have nx6 : ∀ a ∈ [p1, k1, k2, k3, k4], a ≠ x := fun a ha e => by have := n6' a ha; rw [e, hx] at this; cases this
  have P1' : PipeIs (hid x (upd H6 x (.ins t.c_Content dx (putF "pipe" (.ref p1) [])))) t.c_Pipe p1 k1 k2 k3 k4 pg (rooms.map V.int) s2 s3 s4 := by
    rw [hid_upd]
    exact pipe_hid P1 nx6
  have hx6 : upd H6 x (.ins t.c_Content dx (putF "pipe" (.ref p1) [])) x = some (.ins t.c_Content dx (putF "pipe" (.ref p1) [])) := upd_same
  generalize upd H6 x (.ins t.c_Content dx (putF "pipe" (.ref p1) [])) = H7 at *
  have V7 : Same (hid x H) H7 := W6.trans (hid_same _ _)
  walk_at "vc"
  refine ⟨pp, l1, l2, l3, l4, pg, _, _, _, _, rfl, hP.same V7, fun p2 m1 m2 m3 m4 H8 n8 _ S8 P2 => ?_⟩
  walk_at "vc"
  refine ⟨x, t.c_Content, dx, _, rfl, S8 _ _ hx6, T.C_Content, T.n_Content_own_pipe, Nat.lt_of_lt_of_le (few (n := 1) (show 0 < 1 by decide)) (by decide), ?_⟩
  have n8' : ∀ a ∈ [p2, m1, m2, m3, m4], H a = none := fun a ha => none_hid W6 hx6 (n8 a ha)
  have nx8 : ∀ a ∈ [p2, m1, m2, m3, m4], a ≠ x := fun a ha e => by have := n8' a ha; rw [e, hx] at this; cases this
  have W8 : Same (hid x H7) (hid x (upd H8 x (.ins t.c_Content dx (putF "own_pipe" (.ref p2) (putF "pipe" (.ref p1) []))))) := by rw [hid_upd]; exact S8.hid
  have P2' : PipeIs (hid x (upd H8 x (.ins t.c_Content dx (putF "own_pipe" (.ref p2) (putF "pipe" (.ref p1) []))))) t.c_Pipe p2 m1 m2 m3 m4 pg (rooms.map V.int) s2 s3 s4 := by
    rw [hid_upd]
    exact pipe_hid P2 nx8
  have hx8 : upd H8 x (.ins t.c_Content dx (putF "own_pipe" (.ref p2) (putF "pipe" (.ref p1) []))) x = some (.ins t.c_Content dx (putF "own_pipe" (.ref p2) (putF "pipe" (.ref p1) []))) := upd_same
  generalize upd H8 x (.ins t.c_Content dx (putF "own_pipe" (.ref p2) (putF "pipe" (.ref p1) []))) = H9 at *
  have Q9 : Same (hid x H) (hid x H9) := W6.trans W8
  have V9 : Same (hid x H) H9 := Q9.trans (hid_same _ _)
  walk_at "vc"
  refine ⟨fa, fs, ps, rfl, V9.seq hfa, hF.same V9, hlen, fun g gs H10 hg0 S10 hg hG => ?_⟩
  walk_at "vc"
  refine ⟨g, gs, newly 0 ps, rfl, SqL.of hg, hG.same (hid_same _ _), by rw [newly_len]; exact hlen, fun ly ls H11 hly0 S11 hly hL => ?_⟩
  walk_at "vc"
  have S9 : Same H9 H11 := S10.trans S11
  refine ⟨x, t.c_Content, dx, _, rfl, S9 _ _ hx8, T.C_Content, T.n_Content_lying, Nat.lt_of_lt_of_le (few (few (n := 1) (show 0 < 1 by decide))) (by decide), ?_⟩
  have nly : ly ≠ x := fun e => by rw [e, S10 _ _ hx8] at hly0; cases hly0
  have nly0 : H ly = none := none_hid Q9 hx8 (same_none S10 hly0)
  have hlyU : hid x (upd H11 x (.ins t.c_Content dx (putF "lying" (.ref ly) (putF "own_pipe" (.ref p2) (putF "pipe" (.ref p1) []))))) ly = some (.lst ls) := by rw [hid_upd, hid_ne nly]; exact hly
  have W12 : Same (hid x H9) (hid x (upd H11 x (.ins t.c_Content dx (putF "lying" (.ref ly) (putF "own_pipe" (.ref p2) (putF "pipe" (.ref p1) [])))))) := by rw [hid_upd]; exact S9.hid
  have hL12 : Reps K (hid x (hid ly (upd H11 x (.ins t.c_Content dx (putF "lying" (.ref ly) (putF "own_pipe" (.ref p2) (putF "pipe" (.ref p1) []))))))) ls (lieDs (jLie (newly 0 ps))) := by
    rw [hid_comm, hid_upd, hid_comm]
    exact lie_hid (S9 _ _ hx8) hL
  have hx12 : upd H11 x (.ins t.c_Content dx (putF "lying" (.ref ly) (putF "own_pipe" (.ref p2) (putF "pipe" (.ref p1) [])))) x = some (.ins t.c_Content dx (putF "lying" (.ref ly) (putF "own_pipe" (.ref p2) (putF "pipe" (.ref p1) [])))) := upd_same
  generalize upd H11 x (.ins t.c_Content dx (putF "lying" (.ref ly) (putF "own_pipe" (.ref p2) (putF "pipe" (.ref p1) [])))) = H12 at *
  have Q12 : Same (hid x H) (hid x H12) := Q9.trans W12
  walk_at "vc"
  refine ⟨Nat.zero_le _, fun rd hrd => ?_⟩
  walk_at "vc"
  have nrd : rd ≠ x := fun e => by rw [e, hx12] at hrd; cases hrd
  have Srd := same_new hrd (.lst [])
  refine ⟨x, t.c_Content, dx, _, rfl, Srd _ _ hx12, T.C_Content, T.n_Content_riding, Nat.lt_of_lt_of_le (few (few (few (n := 1) (show 0 < 1 by decide)))) (by decide), ?_⟩
  rw [ctFs_eq]
  have F : Same (hid x H12) (hid x (upd (upd H12 rd (.lst [])) x (.ins t.c_Content dx (ctFs p1 p2 ly rd)))) := by rw [hid_upd]; exact Srd.hid
  refine q p1 k1 k2 k3 k4 p2 m1 m2 m3 m4 ly rd ls _ (fun a ha => ?_) (Q12.trans F) (((P1'.same W8).same W12).same F) ((P2'.same W12).same F) (F _ _ hlyU) ?_ (by rw [hid_upd, hid_ne nrd]; exact upd_same) upd_same
  · have h12 : ∀ a ∈ [p2, m1, m2, m3, m4, ly, rd], H a = none := fun a ha => by
      have : a ∈ [p2, m1, m2, m3, m4] ∨ a = ly ∨ a = rd := by
        simp only [List.mem_cons, List.not_mem_nil, or_false] at ha ⊢
        rcases ha with h | h | h | h | h | h | h <;> simp [h]
      rcases this with h | h | h
      · exact n8' a h
      · rw [h]; exact nly0
      · rw [h]; exact none_hid Q12 hx12 hrd
    have : a ∈ [p1, k1, k2, k3, k4] ∨ a ∈ [p2, m1, m2, m3, m4, ly, rd] := List.mem_append.mp ha
    exact this.elim (n6' a) (h12 a)
  · rw [hid_comm, hid_upd, hid_comm]
    have := Same.hid (D := x) (Srd.hid (D := ly))
    exact hL12.same this
noncomputable def lieFill (p : Lie) : Str × Int := (p.1, p.2.1)
inductive spStretches_ (K : PySem.W.Frag) (D : Addr) (vs : List V) (H : Hp) (Q : VK) : Prop where
  | mk (x p o ly rd : Addr) (ls : List V) (ps : List Lie) : (vs = [.ref x]) → (CtAt H D x p o ly rd) → (SqL K H ly ls) → (Reps K H ls (lieDs ps)) → (ps.length ≤ 900) → (∀ (l : Addr) (rs : List V) (H' : Hp), H l = none → Same H H' → H' l = some (.lst rs) → Reps K (hid l H') rs (fillDs (ps.map lieFill)) → Q (.ref l) H') → spStretches_ K D vs H Q
noncomputable def spStretches (K : PySem.W.Frag) (D : Addr) : Sp := fun vs H Q _ => spStretches_ K D vs H Q
theorem ok_stretches (T : Txt K mg t) : FnOk P w K mg base CX0 1 t.f_stretches t.d_stretches ["content"] (spStretches K t.c_Content) := by
  refine T.D_stretches.F.ok sc_stretches (fun vs H Q E h => ?_) (fun cdv A outer s H vs Q E hr h => ?_)
  · obtain ⟨x, p, o, ly, rd, ls, ps, rfl, _⟩ := h
    rfl
  obtain ⟨x, p, o, ly, rd, ls, ps, rfl, ⟨dx, hx⟩, hly, hL, hlen, q⟩ := h
  have ll := lie_len hL
  refine ⟨_, (pss_one (ps_ret (pe_comp ["ware", "volume", "since"] [none, none, none] rfl  (pi_list (pe_fld (qv qv_stretches 0 rfl rfl rfl) rfl)) (fun _ _ _ _ => (pg_tupC (n := 3) rfl (pgs_cons (pg_name (i := 0) (show (["ware", "volume", "since"] : List Str).Nodup by decide +kernel) rfl (Or.inl rfl)) (pgs_cons (pg_name (i := 1) (show (["ware", "volume", "since"] : List Str).Nodup by decide +kernel) rfl (Or.inl rfl)) (pgs_cons (pg_name (i := 2) (show (["ware", "volume", "since"] : List Str).Nodup by decide +kernel) rfl (Or.inl rfl)) pgs_nil))))) (fun _ _ _ _ => pts_nil) (fun _ _ _ _ => (pe_tup (pa_cons (pv 0) (pa_cons (pv 1) pa_nil)))) rfl rfl))), ?_⟩
  walk_at "vc"
  refine ⟨x, t.c_Content, dx, _, _, rfl, hx, T.C_Content, T.n_Content_lying, ct_lying .., ?_⟩
  refine ⟨ly, rfl, ⟨_, hly⟩, fun d hd => comp_gen (n := ls.length) (fun i x => ls[i]? = some x) hd (small1000 (by omega)) (hJ_list hly) (fun i ys H' => Reps K H' ys (fillDs ((ps.take i).map lieFill))) (fun σ => ∃ u v z, σ = [u, v, z]) .nil ⟨_, _, _, rfl⟩ ?_ ?_⟩
  · rintro i y ys σ H1 R1 R0 hi hy ⟨u, v, z, rfl⟩ sm hDl hΦ k1 k0
    obtain ⟨p, b, hp, rfl, hb⟩ := lie_of hL hy
    refine vc_asgT (sm.tup hb) rfl ?_
    walk_at "vc"
    refine ⟨(by show 2 ≤ sizeLine; decide), fun n hn => ?_⟩
    have nD : n ≠ d := fun e => by rw [e, hDl] at hn; cases hn
    refine k1 _ _ _ (same_new hn _) ⟨_, _, _, rfl⟩ ?_
    rw [List.take_add_one, hp, Option.toList_some, List.map_append, List.map_singleton, fill_snoc]
    exact (hΦ.same (same_new hn _).hid).append (.one (.tup (SqT.of (by rw [hid_ne nD]; exact upd_same)) (.cons (.str _) (.cons (.int _) .nil))))
  intro ys H1 S1 hd1' _ hΦ
  rw [ll, List.take_length] at hΦ
  exact q d ys H1 hd S1 hd1' hΦ
noncomputable def meetAt (ps : List Lie) (j : Nat) : Int × Option Int := (((ps.take (j + 1)).map (·.2.1)).sum, (ps[j + 1]?).bind (·.2.2))
noncomputable def meetsL (ps : List Lie) (n : Nat) : List (Int × Option Int) := (List.range n).map (meetAt ps)
open PySem.W in
noncomputable def meetDs (ms : List (Int × Option Int)) : List Dat := ms.map fun m => .tuple [.int m.1, sinceD m.2]
inductive spMeetings_ (K : PySem.W.Frag) (D : Addr) (vs : List V) (H : Hp) (Q : VK) : Prop where
  | mk (x p o ly rd : Addr) (ls : List V) (ps : List Lie) : (vs = [.ref x]) → (CtAt H D x p o ly rd) → (SqL K H ly ls) → (Reps K H ls (lieDs ps)) → (ps.length ≤ 900) → (∀ (l : Addr) (rs : List V) (H' : Hp), H l = none → Same H H' → H' l = some (.lst rs) → Reps K (hid l H') rs (meetDs (meetsL ps (ps.length - 1))) → Q (.ref l) H') → spMeetings_ K D vs H Q
noncomputable def spMeetings (K : PySem.W.Frag) (D : Addr) : Sp := fun vs H Q _ => spMeetings_ K D vs H Q
theorem ok_meetings (T : Txt K mg t) : FnOk P w K mg base CX0 1 t.f_meetings t.d_meetings ["content"] (spMeetings K t.c_Content) := by
  refine T.D_meetings.F.ok sc_meetings (fun vs H Q E h => ?_) (fun cdv A outer s H vs Q E hr h => ?_)
  · obtain ⟨x, p, o, ly, rd, ls, ps, rfl, _⟩ := h
    rfl
  obtain ⟨x, p, o, ly, rd, ls, ps, rfl, ⟨dx, hx⟩, hly, hL, hlen, q⟩ := h
  have ll := lie_len hL
  refine ⟨_, (pss_cons (q_set (i := 1) qv_meetings sc_meetings.nd rfl rfl rfl (pe_lst pa_nil))
      (pss_cons (q_set (i := 2) qv_meetings sc_meetings.nd rfl rfl rfl pe_int)
      (pss_cons (ps_for PassesOwn.never rfl (pi_zip (qgl qg_meetings 0 rfl rfl) T.z_zip (pa_cons (pe_fld (qv qv_meetings 0 rfl rfl rfl) rfl) (pa_cons (pe_slice sl_list (pe_fld (qv qv_meetings 0 rfl rfl rfl) rfl) (po_some pe_int) po_none) pa_nil))) (pg_tup rfl (pgs_cons (q_name (i := 3) qv_meetings sc_meetings.nd rfl rfl rfl) (pgs_cons (q_name (i := 4) qv_meetings sc_meetings.nd rfl rfl rfl) pgs_nil))) (pss_cons (ps_aug (i := 2) sc_meetings.nd rfl (VOk.at qv_meetings (i := 2) rfl).2 (pe_ix ix_tup (qv qv_meetings 3 rfl rfl rfl) pe_int (fun _ _ => rfl)) ip_add)
      (pss_one (ps_expr (pe_bm PySem.F.plainAttrs_list PySem.F.slot_list_append PySem.F.type_list_append mt_appendR (qv qv_meetings 1 rfl rfl rfl) (pa_cons (pe_tup (pa_cons (qv qv_meetings 2 rfl rfl rfl) (pa_cons (pe_ix ix_tup (qv qv_meetings 4 rfl rfl rfl) pe_int (fun _ _ => rfl)) pa_nil))) pa_nil))))))
      (pss_one (ps_ret (qv qv_meetings 1 rfl rfl rfl)))))), ?_⟩
  walk_at "vc"
  refine ⟨Nat.zero_le _, fun l hl0 => ?_⟩
  have S0 := same_new hl0 (.lst [])
  have hl1 : upd H l (.lst []) l = some (.lst []) := upd_same
  generalize upd H l (.lst []) = H0 at *
  have hx0 := S0 _ _ hx
  have hly0 := S0.seq hly
  walk_at "vc"
  refine ⟨x, t.c_Content, dx, _, _, rfl, hx0, T.C_Content, T.n_Content_lying, ct_lying .., ?_⟩
  walk_at "vc"
  refine ⟨x, t.c_Content, dx, _, _, rfl, hx0, T.C_Content, T.n_Content_lying, ct_lying .., ?_⟩
  walk_at "vc"
  refine vc_slL hly0 fun d2 hd2 => ?_
  have ec : cutV ls (some 1) none = ls.drop 1 := cutV_drop ls 1
  rw [ec]
  have S1 := same_new hd2 (.lst (ls.drop 1))
  have hd2' : upd H0 d2 (.lst (ls.drop 1)) d2 = some (.lst (ls.drop 1)) := upd_same
  have nl2 : l ≠ d2 := ne_of_none hl1 hd2
  generalize upd H0 d2 (.lst (ls.drop 1)) = H1 at *
  have Z1 : Same H H1 := S0.trans S1
  have hl1' := S1 _ _ hl1
  walk_at "vc"
  refine ⟨false, ly, d2, ls, ls.drop 1, rfl, Z1.seq hly, SqL.of hd2', for_zip (by rw [List.length_drop]; omega) (fun i σ H' => ∃ (rs : List V) (u v : Option V), σ = [some (.ref x), some (.ref l), some (.int ((ps.take i).map (·.2.1)).sum), u, v] ∧ Same H H' ∧ H' d2 = some (.lst (ls.drop 1)) ∧ H' l = some (.lst rs) ∧ Reps K (hid l H') rs (meetDs (meetsL ps i)))
    ⟨[], none, none, rfl, Z1, hd2', hl1', .nil⟩ (fun i σ H' _ ⟨_, _, _, _, sm, h2, _⟩ => ⟨sm.seq hly, SqL.of h2⟩) ?_ ?_⟩
  rotate_left
  · rintro σ H' ⟨rs, u, v, rfl, sm, _, hl', hR⟩
    rw [List.length_drop, ll] at hR
    walk_at "vc"
    exact q l rs H' hl0 sm hl' hR
  rintro i y z σ H' TT hy hz ⟨rs, u, v, rfl, sm, h2, hl', hR⟩ hT
  rw [List.getElem?_drop, Nat.add_comm] at hz
  obtain ⟨p, b, hp, rfl, hb⟩ := lie_of hL hy
  obtain ⟨r, c, hr', rfl, hc⟩ := lie_of hL hz
  have hi : i < ps.length := (List.getElem?_eq_some_iff.mp hp).1
  have lr : rs.length = i := by rw [hR.length]; unfold meetDs meetsL; rw [List.length_map, List.length_map, List.length_range]
  have ST := same_new hT (.tup [.ref b, .ref c])
  refine vc_asgT (SqT.of upd_same) rfl ?_
  have hl'' := ST _ _ hl'
  have h2' := ST _ _ h2
  have sm' := sm.trans ST
  have hR' := hR.same (Same.hid (D := l) ST)
  generalize upd H' TT (.tup [.ref b, .ref c]) = H3 at *
  have hb' := sm'.tup hb
  have hc' := sm'.tup hc
  walk_at "vc"
  refine ⟨tyV_list (SqL.of hl''), ?_⟩
  walk_at "vc"
  refine ⟨(by show 2 ≤ sizeLine; decide), fun n hn => ?_⟩
  walk_at "vc"
  have nD : n ≠ l := fun e => by rw [e, hl''] at hn; cases hn
  refine vc_append (K := K) (same_new hn _ _ _ hl'') (small1000 (by omega)) ?_
  walk_at "vc"
  refine ⟨_, some (.ref b), some (.ref c), ?_, (sm'.trans (same_new hn _)).updD hl0, ?_, upd_same, ?_⟩
  · have e : ((ps.take (i + 1)).map (·.2.1)).sum = ((ps.take i).map (·.2.1)).sum + p.2.1 := by
      rw [List.take_add_one, hp, Option.toList_some, List.map_append, List.sum_append]
      simp
    rw [e]
    rfl
  · rw [upd_ne (Ne.symm nl2)]
    exact same_new hn _ _ _ h2'
  · have e : meetsL ps (i + 1) = meetsL ps i ++ [(((ps.take i).map (·.2.1)).sum + p.2.1, r.2.2)] := by
      unfold meetsL
      rw [List.range_succ, List.map_append]
      unfold meetAt
      rw [List.map_singleton, hr', List.take_add_one, hp, Option.toList_some, List.map_append, List.sum_append]
      simp
    rw [hid_upd, e]
    unfold meetDs at hR' ⊢
    rw [List.map_append]
    exact (hR'.same (same_new hn _).hid).append (.one (.tup (SqT.of (by rw [hid_ne nD]; exact upd_same)) (.cons (.int _) (.cons (since_rep _) .nil))))
inductive spPigs_ (K : PySem.W.Frag) (D : Addr) (vs : List V) (H : Hp) (Q : VK) : Prop where
  | mk (x p o ly rd : Addr) (rs : List V) : (vs = [.ref x]) → (CtAt H D x p o ly rd) → (SqL K H rd rs) → (∀ l, H l = none → Q (.ref l) (upd H l (.lst rs))) → spPigs_ K D vs H Q
noncomputable def spPigs (K : PySem.W.Frag) (D : Addr) : Sp := fun vs H Q _ => spPigs_ K D vs H Q
theorem ok_pigs (T : Txt K mg t) : FnOk P w K mg base CX0 1 t.f_pigs t.d_pigs ["content"] (spPigs K t.c_Content) := by
  refine T.D_pigs.F.ok sc_pigs (fun vs H Q E h => ?_) (fun cdv A outer s H vs Q E hr h => ?_)
  · obtain ⟨x, p, o, ly, rd, rs, rfl, _⟩ := h
    rfl
  obtain ⟨x, p, o, ly, rd, rs, rfl, ⟨dx, hx⟩, hr0, q⟩ := h
  refine ⟨_, (pss_one (ps_ret (q_callTy call_listR qg_pigs 0 rfl rfl T.z_list bo_list (pa_cons (pe_fld (qv qv_pigs 0 rfl rfl rfl) rfl) pa_nil)))), ?_⟩
  walk_at "vc"
  refine ⟨x, t.c_Content, dx, _, _, rfl, hx, T.C_Content, T.n_Content_riding, ct_riding .., ?_⟩
  walk_at "vc"
  exact vc_listL hr0 fun l hl => q l hl
noncomputable def wareGo : Int → List Lie → Int → Option Str
  | _, [], _ => none
  | e, p :: r, pl => if pl < e + p.2.1 then some p.1 else wareGo (e + p.2.1) r pl
noncomputable def wareV : Option Str → V
  | none => .non
  | some x => .str x
inductive spWareAt_ (K : PySem.W.Frag) (D : Addr) (vs : List V) (H : Hp) (Q : VK) : Prop where
  | mk (x p o ly rd : Addr) (ls : List V) (ps : List Lie) (pl : Int) : (vs = [.ref x, .int pl]) → (CtAt H D x p o ly rd) → (SqL K H ly ls) → (Reps K H ls (lieDs ps)) → (Q (wareV (wareGo 0 ps pl)) H) → spWareAt_ K D vs H Q
noncomputable def spWareAt (K : PySem.W.Frag) (D : Addr) : Sp := fun vs H Q _ => spWareAt_ K D vs H Q
theorem ok_ware_at (T : Txt K mg t) : FnOk P w K mg base CX0 1 t.f_ware_at t.d_ware_at ["content", "place"] (spWareAt K t.c_Content) := by
  refine T.D_ware_at.F.ok sc_ware_at (fun vs H Q E h => ?_) (fun cdv A outer s H vs Q E hr h => ?_)
  · obtain ⟨x, p, o, ly, rd, ls, ps, pl, rfl, _⟩ := h
    rfl
  obtain ⟨x, p, o, ly, rd, ls, ps, pl, rfl, ⟨dx, hx⟩, hly, hL, q⟩ := h
  have ll := lie_len hL
  refine ⟨_, (pss_cons (q_set (i := 2) qv_ware_at sc_ware_at.nd rfl rfl rfl pe_int)
      (pss_cons (ps_for PassesOwn.never rfl (pi_list (pe_fld (qv qv_ware_at 0 rfl rfl rfl) rfl)) (pg_tup rfl (pgs_cons (q_name (i := 3) qv_ware_at sc_ware_at.nd rfl rfl rfl) (pgs_cons (q_name (i := 4) qv_ware_at sc_ware_at.nd rfl rfl rfl) (pgs_cons (q_name (i := 5) qv_ware_at sc_ware_at.nd rfl rfl rfl) pgs_nil)))) (pss_cons (ps_aug (i := 2) sc_ware_at.nd rfl (VOk.at qv_ware_at (i := 2) rfl).2 (qv qv_ware_at 4 rfl rfl rfl) ip_add)
      (pss_one (ps_if (pt_cmpR op_lt (qv qv_ware_at 1 rfl rfl rfl) (qv qv_ware_at 2 rfl rfl rfl) (nomark _)) (pss_one (ps_ret (qv qv_ware_at 3 rfl rfl rfl))) pss_nil))))
      (pss_one (ps_ret pe_non)))), ?_⟩
  walk_at "vc"
  refine ⟨x, t.c_Content, dx, _, _, rfl, hx, T.C_Content, T.n_Content_lying, ct_lying .., ?_⟩
  refine ⟨ly, rfl, ⟨_, hly⟩, for_list (xs := ls) (fun i σ H' => H' = H ∧ ∃ (e : Int) (u v z : Option V), σ = [some (.ref x), some (.int pl), some (.int e), u, v, z] ∧ wareGo e (ps.drop i) pl = wareGo 0 ps pl)
    ⟨rfl, 0, none, none, none, rfl, rfl⟩ (fun i σ H' _ ⟨e, _⟩ => e ▸ hly) ?_ ?_⟩
  rotate_left
  · rintro σ H' ⟨rfl, e, u, v, z, rfl, hgo⟩
    rw [ll, List.drop_length] at hgo
    rw [← hgo] at q
    walk_at "vc"
    exact q
  rintro i y σ H' hy ⟨rfl, e, u, v, z, rfl, hgo⟩
  obtain ⟨p, b, hp, rfl, hb⟩ := lie_of hL hy
  have hi : i < ps.length := (List.getElem?_eq_some_iff.mp hp).1
  have ep : ps[i] = p := (List.getElem?_eq_some_iff.mp hp).2
  rw [List.drop_eq_getElem_cons hi, ep, wareGo] at hgo
  refine vc_asgT hb rfl ?_
  walk_at "vc"
  refine ite2 (fun z => ?_) (fun z => ?_)
  · have z' : pl < e + p.2.1 := of_decide_eq_true z
    rw [if_pos z'] at hgo
    rw [← hgo] at q
    walk_at "vc"
    exact q
  · have z' : ¬ pl < e + p.2.1 := fun h => z (decide_eq_true h)
    rw [if_neg z'] at hgo
    walk_at "vc"
    exact ⟨rfl, _, _, _, _, rfl, hgo⟩
theorem newly_fill : ∀ (p : Int) (ps : List (Str × Int)), (newly p ps).map lieFill = ps
  | _, [] => rfl
  | p, r :: ps => by rw [newly, List.map_cons, newly_fill _ ps]; rfl
theorem jStep_fill (acc : List Lie) (p : Lie) : (jStep acc p).map lieFill = joinStep (acc.map lieFill) (lieFill p) := by
  unfold jStep joinStep
  rw [List.getLast?_map]
  cases acc.getLast? with
  | none => rw [List.map_append]; rfl
  | some r =>
    show List.map lieFill (if r.1 = p.1 then _ else _) = (if r.1 = p.1 then _ else _)
    split
    · rw [List.map_append, List.map_take, List.length_map]; rfl
    · rw [List.map_append]; rfl
theorem jFold_fill : ∀ (ls acc : List Lie), (ls.foldl jStep acc).map lieFill = (ls.map lieFill).foldl joinStep (acc.map lieFill)
  | [], _ => rfl
  | p :: r, acc => by rw [List.foldl_cons, jFold_fill r, jStep_fill, List.map_cons, List.foldl_cons]
theorem jLie_fill (ps : List (Str × Int)) : (jLie (newly 0 ps)).map lieFill = joined ps := by
  unfold jLie joined
  rw [jFold_fill, newly_fill]
  rfl
noncomputable def volS (ls : List Lie) : Int := (ls.map (·.2.1)).sum
theorem last_split {α : Type} {acc : List α} {r : α} (h : acc.getLast? = some r) : acc = acc.take (acc.length - 1) ++ [r] := by
  cases acc with
  | nil => cases h
  | cons x xs =>
    have hne : x :: xs ≠ [] := List.cons_ne_nil _ _
    rw [List.getLast?_eq_some_getLast hne] at h
    have e := List.dropLast_concat_getLast hne
    rw [Option.some.inj h, List.dropLast_eq_take] at e
    exact e.symm
noncomputable def volF (rs : List (Str × Int)) : Int := (rs.map (·.2)).sum
theorem joinStep_all {Pr : Str → Prop} {acc : List (Str × Int)} {p : Str × Int} (h : ∀ q ∈ acc, Pr q.1 ∧ 1 ≤ q.2) (hp : Pr p.1 ∧ 1 ≤ p.2) : ∀ q ∈ joinStep acc p, Pr q.1 ∧ 1 ≤ q.2 := by
  unfold joinStep
  intro q hq
  have app : ∀ x : Str × Int, Pr x.1 ∧ 1 ≤ x.2 → ∀ l : List (Str × Int), (∀ q ∈ l, Pr q.1 ∧ 1 ≤ q.2) → q ∈ l ++ [x] → Pr q.1 ∧ 1 ≤ q.2 := fun x hx l hl hm => by
    rcases List.mem_append.mp hm with hm | hm
    · exact hl q hm
    · rw [List.mem_singleton] at hm
      rw [hm]
      exact hx
  cases hl : acc.getLast? with
  | none => rw [hl] at hq; exact app p hp acc h hq
  | some r =>
    rw [hl] at hq
    have hr := h r (List.mem_of_getLast? hl)
    have hq' : q ∈ (if r.1 = p.1 then acc.take (acc.length - 1) ++ [(p.1, r.2 + p.2)] else acc ++ [p]) := hq
    split at hq'
    · refine app (p.1, r.2 + p.2) ⟨hp.1, ?_⟩ _ (fun y hy => h y (List.mem_of_mem_take hy)) hq'
      show 1 ≤ r.2 + p.2
      omega
    · exact app p hp acc h hq'
theorem joined_all {Pr : Str → Prop} : ∀ (ps acc : List (Str × Int)), (∀ q ∈ acc, Pr q.1 ∧ 1 ≤ q.2) → (∀ q ∈ ps, Pr q.1 ∧ 1 ≤ q.2) → ∀ q ∈ ps.foldl joinStep acc, Pr q.1 ∧ 1 ≤ q.2
  | [], _, h, _ => h
  | p :: r, acc, h, hp => by
    rw [List.foldl_cons]
    exact joined_all r _ (joinStep_all h (hp p List.mem_cons_self)) fun q hq => hp q (List.mem_cons_of_mem _ hq)
theorem volF_step {rs : List (Str × Int)} {i : Nat} {p : Str × Int} (h : rs[i]? = some p) : volF (rs.take (i + 1)) = volF (rs.take i) + p.2 := by
  unfold volF
  rw [List.take_add_one, h, Option.toList_some, List.map_append, List.sum_append]
  simp
theorem make_hid {H : Hp} {x dx : Addr} {o o' : HO} (hx : H x = none) (hd : H dx = none) : Same H (hid x (upd (upd H dx o) x o')) := by
  rw [hid_upd]
  intro b u hb
  rw [hid_ne (ne_of_none hb hx)]
  exact same_new hd _ _ _ hb
noncomputable def un (ls : List Lie) : List Str := ls.flatMap fun l => List.replicate l.2.1.toNat l.1
noncomputable def unF (ps : List (Str × Int)) : List Str := ps.flatMap fun p => List.replicate p.2.toNat p.1
theorem un_fill (ls : List Lie) : un ls = unF (ls.map lieFill) := by
  unfold un unF
  rw [List.flatMap_map]
  rfl
theorem un_cons (x : Lie) (r : List Lie) : un (x :: r) = List.replicate x.2.1.toNat x.1 ++ un r := by
  unfold un
  rw [List.flatMap_cons]
theorem unF_app (a b : List (Str × Int)) : unF (a ++ b) = unF a ++ unF b := by
  unfold unF
  rw [List.flatMap_append]
theorem unF_one (p : Str × Int) : unF [p] = List.replicate p.2.toNat p.1 := by
  unfold unF
  simp
theorem unF_step {acc : List (Str × Int)} {p : Str × Int} (h : ∀ q ∈ acc, 0 ≤ q.2) (hp : 0 ≤ p.2) : unF (joinStep acc p) = unF acc ++ unF [p] := by
  unfold joinStep
  cases hl : acc.getLast? with
  | none => exact unF_app _ _
  | some r =>
    have hr := h r (List.mem_of_getLast? hl)
    have es := last_split hl
    show unF (if r.1 = p.1 then _ else _) = _
    split
    · rename_i e
      have e2 : (r.2 + p.2).toNat = r.2.toNat + p.2.toNat := by omega
      conv => rhs; rw [es]
      rw [unF_app, unF_app, unF_one, unF_one, unF_one, List.append_assoc]
      show _ ++ List.replicate (r.2 + p.2).toNat p.1 = _
      rw [e2, ← List.replicate_append_replicate, e]
    · exact unF_app _ _
theorem joinStep_nn {acc : List (Str × Int)} {p : Str × Int} (h : ∀ q ∈ acc, 1 ≤ q.2) (hp : 1 ≤ p.2) : ∀ q ∈ joinStep acc p, 1 ≤ q.2 := fun q hq => (joinStep_all (Pr := fun _ => True) (fun q hq => ⟨trivial, h q hq⟩) ⟨trivial, hp⟩ q hq).2
theorem unF_fold : ∀ (ps acc : List (Str × Int)), (∀ q ∈ acc, 1 ≤ q.2) → (∀ q ∈ ps, 1 ≤ q.2) → unF (ps.foldl joinStep acc) = unF acc ++ unF ps
  | [], acc, _, _ => by unfold unF; simp
  | p :: r, acc, h, hp => by
    have h1 := hp p List.mem_cons_self
    rw [List.foldl_cons, unF_fold r _ (joinStep_nn h h1) fun q hq => hp q (List.mem_cons_of_mem _ hq), unF_step (fun q hq => by have := h q hq; omega) (by omega), List.append_assoc, ← unF_app]
    rfl
theorem unF_joined {ps : List (Str × Int)} (h : ∀ q ∈ ps, 1 ≤ q.2) : unF (joined ps) = unF ps := by
  unfold joined
  rw [unF_fold ps [] (fun _ h => by cases h) h]
  unfold unF
  simp
theorem un_len : ∀ {ls : List Lie}, (∀ q ∈ ls, 0 ≤ q.2.1) → ((un ls).length : Int) = volS ls ∧ 0 ≤ volS ls
  | [], _ => by unfold un volS; simp
  | x :: r, h => by
    obtain ⟨ih, ih2⟩ := un_len fun q hq => h q (List.mem_cons_of_mem _ hq)
    have hx := h x List.mem_cons_self
    have e : volS (x :: r) = x.2.1 + volS r := by unfold volS; rw [List.map_cons, List.sum_cons]
    rw [un_cons, List.length_append, List.length_replicate, e]
    omega
theorem unI3 (a p : Int) (n : Nat) : (a - (p + n)).toNat = (a - p).toNat - n := by rw [← Int.sub_sub, Int.toNat_sub']
theorem unI5 (a p : Int) {y : Int} (h : 1 ≤ y) : (a - (p + y)).toNat = (a - p).toNat - y.toNat := by
  obtain ⟨n, rfl⟩ := Int.eq_ofNat_of_zero_le (Int.le_trans (by decide) h)
  rw [unI3, Int.toNat_natCast]
theorem ware_un : ∀ (ls : List Lie) (e pl : Int), (∀ q ∈ ls, 1 ≤ q.2.1) → e ≤ pl → wareGo e ls pl = (un ls)[(pl - e).toNat]?
  | [], _, _, _, _ => by unfold un; simp [wareGo]
  | x :: r, e, pl, h, hp => by
    have hx := h x List.mem_cons_self
    rw [wareGo, un_cons]
    split
    · rw [List.getElem?_append_left (by rw [List.length_replicate]; omega), List.getElem?_replicate, if_pos (by omega)]
    · rw [List.getElem?_append_right (by rw [List.length_replicate]; omega), List.length_replicate, ware_un r _ pl (fun q hq => h q (List.mem_cons_of_mem _ hq)) (by omega)]
      congr 1
      exact unI5 pl e hx
structure LiesOk (ps : List Lie) (rooms : List Int) : Prop where
  pos : ∀ q ∈ ps, 1 ≤ q.2.1
  let_ : ∀ q ∈ ps, Let q.1
  len : ps.length ≤ 700
  sum : volS ps = rooms.sum
  rpos : ∀ r ∈ rooms, 1 ≤ r
theorem sum_take {rooms : List Int} (h : ∀ r ∈ rooms, 1 ≤ r) : ∀ {i j : Nat}, i < j → j ≤ rooms.length → (rooms.take i).sum < (rooms.take j).sum ∧ 0 ≤ (rooms.take i).sum ∧ (rooms.take j).sum ≤ rooms.sum := by
  have nn : ∀ xs : List Int, (∀ r ∈ xs, 1 ≤ r) → (xs.length : Int) ≤ xs.sum := fun xs => by
    induction xs with
    | nil => intro _; exact Int.le_refl _
    | cons x r ih =>
      intro hx
      have h1 := hx x List.mem_cons_self
      have h2 := ih fun y hy => hx y (List.mem_cons_of_mem _ hy)
      rw [List.length_cons, List.sum_cons, Int.natCast_add, Int.add_comm]
      exact Int.add_le_add h1 h2
  intro i j hij hj
  have e1 : (rooms.take j).sum = (rooms.take i).sum + ((rooms.take j).drop i).sum := by
    conv => lhs; rw [← List.take_append_drop i (rooms.take j)]
    rw [List.sum_append, List.take_take, Nat.min_eq_left (by omega)]
  have e2 : rooms.sum = (rooms.take j).sum + (rooms.drop j).sum := by
    conv => lhs; rw [← List.take_append_drop j rooms]
    rw [List.sum_append]
  have h1 := nn ((rooms.take j).drop i) fun r hr => h r (List.mem_of_mem_take (List.mem_of_mem_drop hr))
  have h2 := nn (rooms.drop j) fun r hr => h r (List.mem_of_mem_drop hr)
  have h3 := nn (rooms.take i) fun r hr => h r (List.mem_of_mem_take hr)
  rw [List.length_drop, List.length_take] at h1
  rw [List.length_drop] at h2
  rw [List.length_take] at h3
  omega
theorem ware_in {ps : List Lie} {rooms : List Int} (O : LiesOk ps rooms) {pl : Int} (h0 : 0 ≤ pl) (h1 : pl < rooms.sum) : ∃ u, wareGo 0 ps pl = some u ∧ Let u := by
  have hl := (un_len (ls := ps) fun q hq => by have := O.pos q hq; omega).1
  have hw := ware_un ps 0 pl O.pos h0
  have hlt : (pl - 0).toNat < (un ps).length := by have := O.sum; omega
  rw [List.getElem?_eq_getElem hlt] at hw
  refine ⟨_, hw, ?_⟩
  have hm : (un ps)[(pl - 0).toNat] ∈ un ps := List.getElem_mem hlt
  unfold un at hm
  obtain ⟨q, hq, hr⟩ := List.mem_flatMap.mp hm
  have e := List.eq_of_mem_replicate hr
  have := O.let_ q hq
  unfold un
  rw [e]
  exact this
noncomputable def aheadL (ps : List Lie) (a : Int) (w : Str) : List (Str × Str) := if 0 < a then [((wareGo 0 ps (a - 1)).getD w, w)] else []
inductive spAhead_ (K : PySem.W.Frag) (D : Addr) (vs : List V) (H : Hp) (Q : VK) : Prop where
  | mk (x p o ly rd : Addr) (ls : List V) (ps : List Lie) (a : Int) (w : Str) : (vs = [.ref x, .int a, .str w]) → (CtAt H D x p o ly rd) → (SqL K H ly ls) → (Reps K H ls (lieDs ps)) → ((0 < a → ∃ u, wareGo 0 ps (a - 1) = some u)) → (∀ (l : Addr) (rs : List V) (H' : Hp), H l = none → Same H H' → H' l = some (.lst rs) → Reps K (hid l H') rs (apartDs (aheadL ps a w)) → Q (.ref l) H') → spAhead_ K D vs H Q
noncomputable def spAhead (K : PySem.W.Frag) (D : Addr) : Sp := fun vs H Q _ => spAhead_ K D vs H Q
theorem ok_pairs_ahead (T : Txt K mg t) : FnOk P w K mg base CX0 2 t.f_pairs_ahead t.d_pairs_ahead ["content", "a", "ware"] (spAhead K t.c_Content) := by
  have G_ware_at := ok_ware_at (P := P) (w := w) (base := base) T
  refine T.D_pairs_ahead.F.ok sc_pairs_ahead (fun vs H Q E h => ?_) (fun cdv A outer s H vs Q E hr h => ?_)
  · obtain ⟨x, p, o, ly, rd, ls, ps, a, w, rfl, _⟩ := h
    rfl
  obtain ⟨x, p, o, ly, rd, ls, ps, a, w, rfl, hC, hly, hL, hu, q⟩ := h
  refine ⟨_, (pss_one (ps_ret (pe_ifExp (pt_cmpR op_gt (qv qv_pairs_ahead 1 rfl rfl rfl) pe_int (nomark _)) (pe_lst (pa_cons (pe_tup (pa_cons (q_call G_ware_at (hr.mono (by decide)) qg_pairs_ahead 0 rfl rfl T.D_ware_at.m T.D_ware_at.F.kp T.D_ware_at.b .nil pass0 (pa_cons (qv qv_pairs_ahead 0 rfl rfl rfl) (pa_cons (pe_op op_sub (qv qv_pairs_ahead 1 rfl rfl rfl) pe_int) pa_nil))) (pa_cons (qv qv_pairs_ahead 2 rfl rfl rfl) pa_nil))) pa_nil)) (pe_lst pa_nil)))), ?_⟩
  unfold aheadL at q
  walk_at "vc"
  refine ite2 (fun z => ?_) (fun z => ?_)
  · have z' : 0 < a := of_decide_eq_true z
    obtain ⟨u, eu⟩ := hu z'
    rw [if_pos z', eu, Option.getD_some] at q
    walk_at "vc"
    refine ⟨x, p, o, ly, rd, ls, ps, a - 1, rfl, hC, hly, hL, ?_⟩
    rw [eu, show wareV (some u) = .str u from rfl]
    walk_at "vc"
    refine ⟨(by show 2 ≤ sizeLine; decide), fun n hn => ?_⟩
    have Yn := same_new hn (.tup [.str u, .str w])
    have gn : upd H n (.tup [.str u, .str w]) n = some (.tup [.str u, .str w]) := upd_same
    generalize upd H n (.tup [.str u, .str w]) = H1 at *
    walk_at "vc"
    refine ⟨(by show 1 ≤ sizeLine; decide), fun l hl => ?_⟩
    have nl : n ≠ l := fun e => by rw [e, hl] at gn; cases gn
    walk_at "vc"
    refine q l [.ref n] _ (same_none Yn hl) (Yn.trans (same_new hl _)) upd_same ?_
    rw [hid_upd]
    exact .cons (.tup (SqT.of (by rw [hid_ne nl]; exact gn)) (.cons (.str _) (.cons (.str _) .nil))) .nil
  · have z' : ¬ 0 < a := fun h => z (decide_eq_true h)
    rw [if_neg z'] at q
    walk_at "vc"
    refine ⟨Nat.zero_le _, fun l hl => ?_⟩
    walk_at "vc"
    exact q l [] _ hl (same_new hl _) upd_same .nil
inductive spAtFirst_ (K : PySem.W.Frag) (D : Addr) (vs : List V) (H : Hp) (Q : VK) : Prop where
  | mk (x p o ly rd : Addr) (ls : List V) (ps : List Lie) (a : Int) (w d : Str) : (vs = [.ref x, .int a, .str w]) → (CtAt H D x p o ly rd) → (SqL K H ly ls) → (Reps K H ls (lieDs ps)) → ((0 < a → ∃ u, wareGo 0 ps (a - 1) = some u)) → (wareGo 0 ps a = some d) → (∀ (l : Addr) (rs : List V) (H' : Hp), H l = none → Same H H' → H' l = some (.lst rs) → Reps K (hid l H') rs (apartDs (aheadL ps a w ++ [(w, d)])) → Q (.ref l) H') → spAtFirst_ K D vs H Q
noncomputable def spAtFirst (K : PySem.W.Frag) (D : Addr) : Sp := fun vs H Q _ => spAtFirst_ K D vs H Q
theorem ok_pairs_at_first (T : Txt K mg t) : FnOk P w K mg base CX0 3 t.f_pairs_at_first t.d_pairs_at_first ["content", "a", "ware"] (spAtFirst K t.c_Content) := by
  have G_pairs_ahead := ok_pairs_ahead (P := P) (w := w) (base := base) T
  have G_ware_at := ok_ware_at (P := P) (w := w) (base := base) T
  refine T.D_pairs_at_first.F.ok sc_pairs_at_first (fun vs H Q E h => ?_) (fun cdv A outer s H vs Q E hr h => ?_)
  · obtain ⟨x, p, o, ly, rd, ls, ps, a, w, d, rfl, _⟩ := h
    rfl
  obtain ⟨x, p, o, ly, rd, ls, ps, a, w, d, rfl, hC, hly, hL, hu, ed, q⟩ := h
  refine ⟨_, (pss_one (ps_ret (pe_op op_cat (q_call G_pairs_ahead (hr.mono (by decide)) qg_pairs_at_first 0 rfl rfl T.D_pairs_ahead.m T.D_pairs_ahead.F.kp T.D_pairs_ahead.b .nil pass0 (pa_cons (qv qv_pairs_at_first 0 rfl rfl rfl) (pa_cons (qv qv_pairs_at_first 1 rfl rfl rfl) (pa_cons (qv qv_pairs_at_first 2 rfl rfl rfl) pa_nil)))) (pe_lst (pa_cons (pe_tup (pa_cons (qv qv_pairs_at_first 2 rfl rfl rfl) (pa_cons (q_call G_ware_at (hr.mono (by decide)) qg_pairs_at_first 1 rfl rfl T.D_ware_at.m T.D_ware_at.F.kp T.D_ware_at.b .nil pass0 (pa_cons (qv qv_pairs_at_first 0 rfl rfl rfl) (pa_cons (qv qv_pairs_at_first 1 rfl rfl rfl) pa_nil))) pa_nil))) pa_nil))))), ?_⟩
  walk_at "vc"
  refine ⟨x, p, o, ly, rd, ls, ps, a, w, rfl, hC, hly, hL, hu, fun l1 rs H1 hl1 S1 g1 hR => ?_⟩
  have hlen : (aheadL ps a w).length ≤ 1 := by unfold aheadL; split <;> simp
  have lrs : rs.length = (aheadL ps a w).length := by rw [hR.length]; unfold apartDs; rw [List.length_map]
  generalize aheadL ps a w = acc at *
  walk_at "vc"
  refine ⟨x, p, o, ly, rd, ls, ps, a, rfl, hC.same S1, S1.seq hly, hL.same S1, ?_⟩
  rw [ed, show wareV (some d) = .str d from rfl]
  walk_at "vc"
  refine ⟨(by show 2 ≤ sizeLine; decide), fun n hn => ?_⟩
  have Yn := same_new hn (.tup [.str w, .str d])
  have gn : upd H1 n (.tup [.str w, .str d]) n = some (.tup [.str w, .str d]) := upd_same
  generalize upd H1 n (.tup [.str w, .str d]) = H2 at *
  walk_at "vc"
  refine ⟨(by show 1 ≤ sizeLine; decide), fun l2 hl2 => ?_⟩
  have Y2 := same_new hl2 (.lst [.ref n])
  have g2 : upd H2 l2 (.lst [.ref n]) l2 = some (.lst [.ref n]) := upd_same
  generalize upd H2 l2 (.lst [.ref n]) = H3 at *
  have Z3 := Yn.trans Y2
  walk_at "vc"
  refine vc_cat (Z3 _ _ g1) g2 (Nat.le_of_lt (small1000 (by simp only [List.length_cons, List.length_nil]; omega))) fun l hl => ?_
  have nl : n ≠ l := fun e => by rw [e] at gn; have := Y2 _ _ gn; rw [hl] at this; cases this
  have Sh : Same H3 (hid l H3) := fun b o hb => by rw [hid_ne (ne_of_none hb hl)]; exact hb
  walk_at "vc"
  refine q l _ _ (same_none (S1.trans Z3) hl) (S1.trans (Z3.trans (same_new hl _))) upd_same ?_
  rw [hid_upd, show apartDs (acc ++ [(w, d)]) = apartDs acc ++ [.tuple [.str w, .str d]] by unfold apartDs; rw [List.map_append]; rfl]
  exact ((hR.same (hid_same _ _)).same (Z3.trans Sh)).append (.one (.tup (SqT.of (Sh _ _ (Y2 _ _ gn))) (.cons (.str _) (.cons (.str _) .nil))))
structure ApOk (ws : List Str) (ap : List (Str × Str)) : Prop where
  mem : ∀ p ∈ ap, p.1 ∈ ws ∧ p.2 ∈ ws
  ne : ∀ x, (x, x) ∉ ap
theorem ApOk.snoc {ws : List Str} {ap : List (Str × Str)} (h : ApOk ws ap) {x y : Str} (hx : x ∈ ws) (hy : y ∈ ws) (n : x ≠ y) : ApOk ws (ap ++ [(x, y)]) := by
  refine ⟨fun p hp => ?_, fun z hz => ?_⟩
  · rcases List.mem_append.mp hp with hp | hp
    · exact h.mem p hp
    · rw [List.mem_singleton] at hp
      rw [hp]
      exact ⟨hx, hy⟩
  · rcases List.mem_append.mp hz with hz | hz
    · exact h.ne z hz
    · rw [List.mem_singleton] at hz
      exact n ((congrArg Prod.fst hz).symm.trans (congrArg Prod.snd hz))
structure P30 (K : PySem.W.Frag) (H : Hp) (f b0 a1 a2 b3 a4 : Addr) (rooms : List Int) (r1 r2 r3 : List V) (ws : List Str) (ap : List (Str × Str)) : Prop where
  hf : H f = some (.lst [.ref b0, .ref a1, .ref a2, .ref b3, .ref a4])
  h0 : H b0 = some (.lst (rooms.map V.int))
  h1 : H a1 = some (.lst r1)
  h2 : H a2 = some (.lst r2)
  h3 : H b3 = some (.lst r3)
  r3 : Reps K (hid b3 H) r3 (apartDs ap)
  hap : ApOk ws ap
  al : ap.length ≤ 36
  n0 : 1 ≤ rooms.length
  n6 : rooms.length ≤ 6
  rr : ∀ r ∈ rooms, 1 ≤ r ∧ r ≤ 8
theorem P30.same {H H' : Hp} {f b0 a1 a2 b3 a4 : Addr} {rooms : List Int} {r1 r2 r3 : List V} {ws : List Str} {ap : List (Str × Str)} (h : P30 K H f b0 a1 a2 b3 a4 rooms r1 r2 r3 ws ap) (e : Same H H') : P30 K H' f b0 a1 a2 b3 a4 rooms r1 r2 r3 ws ap :=
  ⟨e _ _ h.hf, e _ _ h.h0, e _ _ h.h1, e _ _ h.h2, e _ _ h.h3, h.r3.same e.hid, h.hap, h.al, h.n0, h.n6, h.rr⟩
inductive spPipe30_ (K : PySem.W.Frag) (vs : List V) (H : Hp) (Q : VK) : Prop where
  | mk (c : Int) (lw : Addr) (ws : List Str) : (vs = [.int c, .ref lw, .int 8]) → (SqL K H lw (ws.map V.str)) → (Wares ws) → (∀ (f b0 a1 a2 b3 a4 : Addr) (rooms : List Int) (r1 r2 r3 : List V) (ap : List (Str × Str)) (H' : Hp), Same H H' → P30 K H' f b0 a1 a2 b3 a4 rooms r1 r2 r3 ws ap → Q (.ref f) H') → spPipe30_ K vs H Q
noncomputable def spPipe30 (K : PySem.W.Frag) : Sp := fun vs H Q _ => spPipe30_ K vs H Q
theorem ok_l_pipe (T : Txt K mg t) : FnOk P w K mg base CX0 3 t.f_l_pipe t.d_l_pipe ["_law_cell", "_law_wares_here", "_law_most"] (spPipe30 K) := by
  have G_l_five := ok_l_five (P := P) (w := w) (base := base) T
  have G_l_mix := ok_l_mix (P := P) (w := w) (base := base) T
  refine T.D_l_pipe.F.ok sc_l_pipe (fun vs H Q E h => ?_) (fun cdv A outer s H vs Q E hr h => ?_)
  · obtain ⟨c, lw, ws, rfl, _⟩ := h
    rfl
  obtain ⟨c, lw, ws, rfl, hlw, W, q⟩ := h
  refine ⟨_, (pss_cons (q_set (i := 3) qv_l_pipe sc_l_pipe.nd rfl rfl rfl (q_call G_l_five (hr.mono (by decide)) qg_l_pipe 0 rfl rfl T.D_l_five.m T.D_l_five.F.kp T.D_l_five.b .nil pass0 (pa_cons (qv qv_l_pipe 0 rfl rfl rfl) (pa_cons (qv qv_l_pipe 1 rfl rfl rfl) (pa_cons (qv qv_l_pipe 2 rfl rfl rfl) pa_nil)))))
      (pss_cons (ps_if (pt_cmpR op_eq (pe_op op_mod (q_call G_l_mix (hr.mono (by decide)) qg_l_pipe 1 rfl rfl T.D_l_mix.m T.D_l_mix.F.kp T.D_l_mix.b .nil pass0 (pa_cons (qv qv_l_pipe 0 rfl rfl rfl) (pa_cons pe_int pa_nil))) pe_int) pe_int (nomark _)) (pss_one (ps_asg (pe_comp ["_law_k", "_law_cell"] [none, some 0] rfl  (pi_range1 (qgl qg_l_pipe 2 rfl rfl) T.z_range (pa_cons (pe_op op_add pe_int (pe_op op_mod (q_call G_l_mix (hr.mono (by decide)) qg_l_pipe 1 rfl rfl T.D_l_mix.m T.D_l_mix.F.kp T.D_l_mix.b .nil pass0 (pa_cons (qv qv_l_pipe 0 rfl rfl rfl) (pa_cons pe_int pa_nil))) pe_int)) pa_nil)) (fun _ _ _ _ => (pg_name (i := 0) (show (["_law_k", "_law_cell"] : List Str).Nodup by decide +kernel) rfl (Or.inl rfl))) (fun _ _ _ _ => pts_nil) (fun _ _ _ _ => (pe_op op_add pe_int (pe_op op_mod (pe_call G_l_mix (hr.mono (by decide)) rfl T.D_l_mix.m T.D_l_mix.F.kp T.D_l_mix.b .nil pass0 (pa_cons (pv 1) (pa_cons (pe_op op_add pe_int (pv 0)) pa_nil))) pe_int))) rfl rfl) (pg_sub (qv qv_l_pipe 3 rfl rfl rfl) pe_int set_list))) pss_nil)
      (pss_cons (ps_asg (pe_lst pa_nil) (pg_sub (qv qv_l_pipe 3 rfl rfl rfl) pe_int set_list))
      (pss_cons (ps_for PassesOwn.never rfl (pi_range1 (qgl qg_l_pipe 2 rfl rfl) T.z_range (pa_cons pe_int pa_nil)) (q_name (i := 4) qv_l_pipe sc_l_pipe.nd rfl rfl rfl) (pss_one (ps_for PassesOwn.never rfl (pi_range1 (qgl qg_l_pipe 2 rfl rfl) T.z_range (pa_cons (qv qv_l_pipe 4 rfl rfl rfl) pa_nil)) (q_name (i := 5) qv_l_pipe sc_l_pipe.nd rfl rfl rfl) (pss_cons (q_set (i := 6) qv_l_pipe sc_l_pipe.nd rfl rfl rfl (q_call G_l_mix (hr.mono (by decide)) qg_l_pipe 1 rfl rfl T.D_l_mix.m T.D_l_mix.F.kp T.D_l_mix.b .nil pass0 (pa_cons (qv qv_l_pipe 0 rfl rfl rfl) (pa_cons (pe_op op_add (pe_op op_add pe_int (pe_op op_mul pe_int (qv qv_l_pipe 4 rfl rfl rfl))) (qv qv_l_pipe 5 rfl rfl rfl)) pa_nil))))
      (pss_one (ps_if (pt_cmpR op_eq (pe_op op_mod (qv qv_l_pipe 6 rfl rfl rfl) pe_int) pe_int (nomark _)) (pss_one (ps_expr (pe_bm PySem.F.plainAttrs_list PySem.F.slot_list_append PySem.F.type_list_append mt_appendR (pe_ix ix_list (qv qv_l_pipe 3 rfl rfl rfl) pe_int (fun _ _ => rfl)) (pa_cons (pe_ix ix_list (pe_lst (pa_cons (pe_tup (pa_cons (pe_ix ix_list (qv qv_l_pipe 1 rfl rfl rfl) (qv qv_l_pipe 4 rfl rfl rfl) (fun _ _ => rfl)) (pa_cons (pe_ix ix_list (qv qv_l_pipe 1 rfl rfl rfl) (qv qv_l_pipe 5 rfl rfl rfl) (fun _ _ => rfl)) pa_nil))) (pa_cons (pe_tup (pa_cons (pe_ix ix_list (qv qv_l_pipe 1 rfl rfl rfl) (qv qv_l_pipe 5 rfl rfl rfl) (fun _ _ => rfl)) (pa_cons (pe_ix ix_list (qv qv_l_pipe 1 rfl rfl rfl) (qv qv_l_pipe 4 rfl rfl rfl) (fun _ _ => rfl)) pa_nil))) pa_nil))) (pe_op op_mod (pe_op op_fdiv (qv qv_l_pipe 6 rfl rfl rfl) pe_int) pe_int) (fun _ _ => rfl)) pa_nil)))) pss_nil))))))
      (pss_one (ps_ret (qv qv_l_pipe 3 rfl rfl rfl))))))), ?_⟩
  walk_at "vc"
  refine ⟨c, 8, lw, ws, rfl, hlw, W, by decide, by decide, fun f a0 a1 a2 a3 a4 drooms r1 r2 r3 H1 hf0 nd S1 Fhf Fh0 h1 h2 h3 o1 o4 orr => ?_⟩
  simp only [List.nodup_cons, List.mem_cons, List.not_mem_nil, or_false, not_or] at nd
  walk_at "vcs"
  with_reducible refine tSeq.join (fun σ H' => ∃ (b0 : Addr) (rooms : List Int), σ = [some (.int c), some (.ref lw), some (.int 8), some (.ref f), none, none, none] ∧ Same H H' ∧ H' f = some (.lst [.ref b0, .ref a1, .ref a2, .ref a3, .ref a4]) ∧ H' b0 = some (.lst (rooms.map V.int)) ∧ b0 ≠ f ∧ H' a1 = some (.lst r1) ∧ H' a2 = some (.lst r2) ∧ 1 ≤ rooms.length ∧ rooms.length ≤ 6 ∧ ∀ r ∈ rooms, 1 ≤ r ∧ r ≤ 8) (fun R k => ?_) ?_
  · walk_at "vc"
    refine ite2 (fun z => ?_) (fun z => ?_)
    · walk_at "vc"
      have m0 := Int.emod_nonneg (mix c 157) (show (2 : Int) ≠ 0 by decide)
      have m1 := Int.emod_lt_of_pos (mix c 157) (show (0 : Int) < 2 by decide)
      refine ⟨5 + mix c 157 % 2, rfl, by omega, by omega, fun b0 hb0 => comp_gen (n := (5 + mix c 157 % 2).toNat) (fun i x => x = .int (0 + (i : Int))) hb0 (small (by omega)) (hJ_rng _ _ _)
        (fun i ys _ => ∃ ns : List Int, ys = ns.map V.int ∧ ns.length = i ∧ ∀ r ∈ ns, 1 ≤ r ∧ r ≤ 8) (fun σ => ∃ u, σ = [u, some (.int c)]) ⟨[], rfl, rfl, by simp⟩ ⟨_, rfl⟩ ?_ ?_⟩
      · rintro i x ys σ H2 R1 R0 hi rfl ⟨u, rfl⟩ sm hDl ⟨ns, rfl, hl, hns⟩ k1 k0
        walk_at "vc"
        refine k1 _ _ _ (Same.refl _) ⟨_, rfl⟩ ⟨ns ++ [1 + mix c (151 + (0 + (i : Int))) % 5], by rw [List.map_append]; rfl, by simp [hl], fun r hr => ?_⟩
        rcases List.mem_append.mp hr with hr | hr
        · exact hns r hr
        · rw [List.mem_singleton] at hr
          have a := Int.emod_nonneg (mix c (151 + (0 + (i : Int)))) (show (5 : Int) ≠ 0 by decide)
          have b := Int.emod_lt_of_pos (mix c (151 + (0 + (i : Int)))) (show (0 : Int) < 5 by decide)
          omega
      rintro ys H2 S2 hDl _ ⟨rooms, rfl, hrl, hrr⟩
      have hf2 := S2 _ _ Fhf
      have nbf : b0 ≠ f := (ne_of_none Fhf hb0).symm
      walk_at "vc"
      refine vc_setL hf2 (j := 0) rfl ?_
      refine k _ _ ⟨b0, rooms, rfl, (S1.trans S2).updD hf0, upd_same, by rw [upd_ne nbf]; exact hDl, nbf, by rw [upd_ne (Ne.symm nd.1.2.1)]; exact S2 _ _ h1, by rw [upd_ne (Ne.symm nd.1.2.2.1)]; exact S2 _ _ h2, by omega, by omega, hrr⟩
    · refine k _ _ ⟨a0, drooms, rfl, S1, Fhf, Fh0, Ne.symm nd.1.1, h1, h2, o1, by omega, orr⟩
  rintro σ H2 ⟨b0, rooms, rfl, S2, hf, h0, nb0, h1', h2', n0, n6, hrr⟩
  walk_at "vc"
  refine ⟨Nat.zero_le _, fun b3 hb3 => ?_⟩
  walk_at "vc"
  have Y3 := same_new hb3 (.lst [])
  have g3 : upd H2 b3 (.lst []) b3 = some (.lst []) := upd_same
  have n3f : b3 ≠ f := (ne_of_none hf hb3).symm
  have hb30 : H b3 = none := same_none S2 hb3
  refine vc_setL (Y3 _ _ hf) (j := 3) rfl ?_
  have S4 : Same H (upd (upd H2 b3 (.lst [])) f (.lst ([V.ref b0, .ref a1, .ref a2, .ref a3, .ref a4].set 3 (.ref b3)))) := (S2.trans Y3).updD hf0
  have f4 : upd (upd H2 b3 (.lst [])) f (.lst ([V.ref b0, .ref a1, .ref a2, .ref a3, .ref a4].set 3 (.ref b3))) f = some (.lst [.ref b0, .ref a1, .ref a2, .ref b3, .ref a4]) := upd_same
  have g34 : upd (upd H2 b3 (.lst [])) f (.lst ([V.ref b0, .ref a1, .ref a2, .ref a3, .ref a4].set 3 (.ref b3))) b3 = some (.lst []) := by rw [upd_ne n3f]; exact g3
  have h04 : upd (upd H2 b3 (.lst [])) f (.lst ([V.ref b0, .ref a1, .ref a2, .ref a3, .ref a4].set 3 (.ref b3))) b0 = some (.lst (rooms.map V.int)) := by rw [upd_ne nb0]; exact Y3 _ _ h0
  have h14 : upd (upd H2 b3 (.lst [])) f (.lst ([V.ref b0, .ref a1, .ref a2, .ref a3, .ref a4].set 3 (.ref b3))) a1 = some (.lst r1) := by rw [upd_ne (Ne.symm nd.1.2.1)]; exact Y3 _ _ h1'
  have h24 : upd (upd H2 b3 (.lst [])) f (.lst ([V.ref b0, .ref a1, .ref a2, .ref a3, .ref a4].set 3 (.ref b3))) a2 = some (.lst r2) := by rw [upd_ne (Ne.symm nd.1.2.2.1)]; exact Y3 _ _ h2'
  have n03 : b0 ≠ b3 := ne_of_none h0 hb3
  have n13 : a1 ≠ b3 := ne_of_none h1' hb3
  have n23 : a2 ≠ b3 := ne_of_none h2' hb3
  generalize upd (upd H2 b3 (.lst [])) f (.lst ([V.ref b0, .ref a1, .ref a2, .ref a3, .ref a4].set 3 (.ref b3))) = H4 at *
  have keep : ∀ {H' : Hp} {b : Addr} {o : HO}, Same (hid b3 H4) (hid b3 H') → b ≠ b3 → H4 b = some o → H' b = some o := fun {H' b o} e n hb => by
    have := e b o (by rw [hid_ne n]; exact hb)
    rw [hid_ne n] at this
    exact this
  walk_at "vc"
  refine ⟨_, rfl, by decide, by decide, for_range (n := 6) (fun i σ H' => ∃ (as : List V) (ap : List (Str × Str)) (u4 u5 u6 : Option V), σ = [some (.int c), some (.ref lw), some (.int 8), some (.ref f), u4, u5, u6] ∧ Same (hid b3 H4) (hid b3 H') ∧ H' b3 = some (.lst as) ∧ Reps K (hid b3 H') as (apartDs ap) ∧ ApOk ws ap ∧ ap.length ≤ 6 * i)
    ⟨[], [], _, _, _, rfl, Same.refl _, g34, .nil, ⟨by simp, by simp⟩, by simp⟩ ?_ ?_⟩
  rotate_left
  · rintro σ H' ⟨as, ap, u4, u5, u6, rfl, sm, hb, hR, hA, hal⟩
    walk_at "vc"
    have SH : Same H H' := fun b o ho => keep sm (ne_of_none ho hb30) (S4 _ _ ho)
    exact q f b0 a1 a2 b3 a4 rooms r1 r2 as ap H' SH ⟨keep sm (Ne.symm n3f) f4, keep sm n03 h04, keep sm n13 h14, keep sm n23 h24, hb, hR, hA, by omega, n0, n6, hrr⟩
  rintro i σ H' hi ⟨as, ap, u4, u5, u6, rfl, sm, hb, hR, hA, hal⟩
  walk_at "vc"
  refine ⟨_, rfl, by omega, by omega, for_range (n := (0 + (i : Int)).toNat) (fun j σ H' => ∃ (as : List V) (ap : List (Str × Str)) (u5 u6 : Option V), σ = [some (.int c), some (.ref lw), some (.int 8), some (.ref f), some (.int (0 + (i : Int))), u5, u6] ∧ Same (hid b3 H4) (hid b3 H') ∧ H' b3 = some (.lst as) ∧ Reps K (hid b3 H') as (apartDs ap) ∧ ApOk ws ap ∧ ap.length ≤ 6 * i + j)
    ⟨as, ap, _, _, rfl, sm, hb, hR, hA, hal⟩ ?_ ?_⟩
  rotate_left
  · rintro σ H' ⟨as, ap, u5, u6, rfl, sm, hb, hR, hA, hal⟩
    exact ⟨as, ap, _, _, _, rfl, sm, hb, hR, hA, by omega⟩
  clear hb hR hA hal sm
  rintro j σ H' hj ⟨as, ap, u5, u6, rfl, sm, hb, hR, hA, hal⟩
  have hj' : j < i := by omega
  have SH : Same H H' := fun b o ho => keep sm (ne_of_none ho hb30) (S4 _ _ ho)
  have hlw1 := SH.seq hlw
  have hf1 := keep sm (Ne.symm n3f) f4
  have las : as.length = ap.length := by rw [hR.length]; unfold apartDs; rw [List.length_map]
  walk_at "vc"
  refine ite2 (fun z => ?_) (fun z => ?_)
  rotate_left
  · exact ⟨as, ap, _, _, rfl, sm, hb, hR, hA, by omega⟩
  walk_at "vc"
  refine ⟨tyV_list (SqL.of hb), ?_⟩
  walk_at "vc"
  refine vc_ixL hlw1 (atW W.len hi) ?_
  walk_at "vc"
  refine vc_ixL hlw1 (atW W.len (by omega)) ?_
  walk_at "vc"
  refine ⟨(by show 2 ≤ sizeLine; decide), fun t1 ht1 => ?_⟩
  walk_at "vc"
  refine vc_ixL ((same_new ht1 _).seq hlw1) (atW W.len (by omega)) ?_
  walk_at "vc"
  refine vc_ixL ((same_new ht1 _).seq hlw1) (atW W.len hi) ?_
  walk_at "vc"
  refine ⟨(by show 2 ≤ sizeLine; decide), fun t2 ht2 => ?_⟩
  walk_at "vc"
  refine ⟨(by show 2 ≤ sizeLine; decide), fun l3 hl3 => ?_⟩
  walk_at "vc"
  generalize ho : mix c (160 + 6 * (0 + (i : Int)) + (0 + (j : Int))) = o
  have o0 : 0 ≤ o := ho ▸ mix_nonneg _ _
  have mi : ws.getD i (Str.ofString "") ∈ ws := getD_mem (by rw [W.len]; omega)
  have mj : ws.getD j (Str.ofString "") ∈ ws := getD_mem (by rw [W.len]; omega)
  have nij : ws.getD i (Str.ofString "") ≠ ws.getD j (Str.ofString "") := fun e => by
    have := getD_inj W.nd (by rw [W.len]; omega) (by rw [W.len]; omega) e
    omega
  generalize ws.getD i (Str.ofString "") = wi at *
  generalize ws.getD j (Str.ofString "") = wj at *
  generalize hHe : upd (upd (upd H' t1 (.tup [.str wi, .str wj])) t2 (.tup [.str wj, .str wi])) l3 (.lst [.ref t1, .ref t2]) = He
  have sHe : Same H' He := hHe ▸ (same_new ht1 _).trans ((same_new ht2 _).trans (same_new hl3 _))
  have hlist : He l3 = some (.lst [.ref t1, .ref t2]) := hHe ▸ upd_same
  have hpair : ∃ (tp : Addr) (x y : Str), atI [V.ref t1, V.ref t2] (o / 4 % 2) = some (.ref tp) ∧ He tp = some (.tup [.str x, .str y]) ∧ x ∈ ws ∧ y ∈ ws ∧ x ≠ y := by
    rcases (by omega : o / 4 % 2 = 0 ∨ o / 4 % 2 = 1) with e | e
    · exact ⟨t1, wi, wj, by rw [e]; rfl, hHe ▸ upd_keep hl3 (upd_keep ht2 upd_same), mi, mj, nij⟩
    · exact ⟨t2, wj, wi, by rw [e]; rfl, hHe ▸ upd_keep hl3 upd_same, mj, mi, Ne.symm nij⟩
  obtain ⟨tp, x, y, hat, htp, hx, hy, nxy⟩ := hpair
  refine vc_ixL (SqL.of hlist) hat ?_
  walk_at "vc"
  have hbe := sHe _ _ hb
  refine vc_append (K := K) hbe (small1000 (by omega)) ?_
  have ntp : tp ≠ b3 := fun e => by rw [e, hbe] at htp; cases htp
  refine ⟨_, ap ++ [(x, y)], _, _, rfl, by rw [hid_upd]; exact sm.trans sHe.hid, upd_same, ?_, hA.snoc hx hy nxy, by rw [List.length_append, List.length_singleton]; omega⟩
  rw [hid_upd]
  unfold apartDs
  rw [List.map_append]
  exact (hR.same sHe.hid).append (.one (.tup (SqT.of (by rw [hid_ne ntp]; exact htp)) (.cons (.str _) (.cons (.str _) .nil))))
theorem unF_len : ∀ {ps : List (Str × Int)}, (∀ q ∈ ps, 0 ≤ q.2) → ((unF ps).length : Int) = volF ps ∧ 0 ≤ volF ps
  | [], _ => by unfold unF volF; simp
  | x :: r, h => by
    obtain ⟨ih, ih2⟩ := unF_len fun q hq => h q (List.mem_cons_of_mem _ hq)
    have hx := h x List.mem_cons_self
    have e : volF (x :: r) = x.2 + volF r := by unfold volF; rw [List.map_cons, List.sum_cons]
    have e2 : unF (x :: r) = List.replicate x.2.toNat x.1 ++ unF r := by unfold unF; rw [List.flatMap_cons]
    rw [e2, List.length_append, List.length_replicate, e]
    omega
theorem rep_one (w : Str) (k : Nat) : (List.replicate k [V.str w]).flatten = (List.replicate k w).map V.str := by
  rw [List.map_replicate]
  exact List.flatten_replicate_singleton
inductive spUnits_ (K : PySem.W.Frag) (vs : List V) (H : Hp) (Q : VK) : Prop where
  | mk (a : Addr) (fs : List V) (ps : List (Str × Int)) : (vs = [.ref a]) → (SqL K H a fs) → (Reps K H fs (fillDs ps)) → ((∀ p ∈ ps, 1 ≤ p.2)) → (volF ps ≤ 1000000) → (∀ (l : Addr) (H' : Hp), H l = none → Same H H' → H' l = some (.lst ((unF ps).map V.str)) → Q (.ref l) H') → spUnits_ K vs H Q
noncomputable def spUnits (K : PySem.W.Frag) : Sp := fun vs H Q _ => spUnits_ K vs H Q
theorem ok_l_units (T : Txt K mg t) : FnOk P w K mg base CX0 1 t.f_l_units t.d_l_units ["_law_fill_here"] (spUnits K) := by
  refine T.D_l_units.F.ok sc_l_units (fun vs H Q E h => ?_) (fun cdv A outer s H vs Q E hr h => ?_)
  · obtain ⟨a, fs, ps, rfl, _⟩ := h
    rfl
  obtain ⟨a, fs, ps, rfl, ha, hF, hpos, hmax, q⟩ := h
  have lf : fs.length = ps.length := by rw [hF.length]; unfold fillDs; rw [List.length_map]
  refine ⟨_, (pss_cons (q_set (i := 1) qv_l_units sc_l_units.nd rfl rfl rfl (pe_lst pa_nil))
      (pss_cons (ps_for PassesOwn.never rfl (pi_list (qv qv_l_units 0 rfl rfl rfl)) (pg_tup rfl (pgs_cons (q_name (i := 2) qv_l_units sc_l_units.nd rfl rfl rfl) (pgs_cons (q_name (i := 3) qv_l_units sc_l_units.nd rfl rfl rfl) pgs_nil))) (pss_one (q_set (i := 1) qv_l_units sc_l_units.nd rfl rfl rfl (pe_op op_cat (qv qv_l_units 1 rfl rfl rfl) (pe_op op_rep (pe_lst (pa_cons (qv qv_l_units 2 rfl rfl rfl) pa_nil)) (qv qv_l_units 3 rfl rfl rfl))))))
      (pss_one (ps_ret (qv qv_l_units 1 rfl rfl rfl))))), ?_⟩
  walk_at "vc"
  refine ⟨Nat.zero_le _, fun l hl0 => ?_⟩
  walk_at "vc"
  refine ⟨a, rfl, ⟨_, (same_new hl0 _).seq ha⟩, for_list (xs := fs) (fun i σ H' => ∃ (l : Addr) (u v : Option V), σ = [some (.ref a), some (.ref l), u, v] ∧ H l = none ∧ Same H H' ∧ H' l = some (.lst ((unF (ps.take i)).map V.str)))
    ⟨l, none, none, rfl, hl0, same_new hl0 _, upd_same⟩ (fun i σ H' _ ⟨_, _, _, _, _, sm, _⟩ => sm.seq ha) ?_ ?_⟩
  rotate_left
  · rintro σ H' ⟨l, u, v, rfl, hl0, sm, hl'⟩
    rw [lf, List.take_length] at hl'
    walk_at "vc"
    exact q l H' hl0 sm hl'
  clear hl0
  rintro i y σ H' hy ⟨l, u, v, rfl, hl0, sm, hl'⟩
  obtain ⟨p, b, hp, rfl, hb⟩ := pair_of hF hy
  have et : ps.take (i + 1) = ps.take i ++ [p] := by rw [List.take_add_one, hp]; rfl
  have hv := hpos p (List.mem_of_getElem? hp)
  have h1 := volF_step hp
  have h2 := unF_len (ps := ps.take i) fun q hq => by have := hpos q (List.mem_of_mem_take hq); omega
  have h3 := unF_len (ps := ps.drop (i + 1)) fun q hq => by have := hpos q (List.mem_of_mem_drop hq); omega
  have h4 : volF ps = volF (ps.take (i + 1)) + volF (ps.drop (i + 1)) := by
    conv => lhs; rw [← List.take_append_drop (i + 1) ps]
    unfold volF
    rw [List.map_append, List.sum_append]
  have hs : sizeLine = 16777216 := sizeLine_eq
  rw [et, unF_app, unF_one]
  refine vc_asgT (sm.tup hb) rfl ?_
  walk_at "vc"
  refine ⟨(by show 1 ≤ sizeLine; decide), fun p0 hp0 => ?_⟩
  have Y0 := same_new hp0 (.lst [.str p.1])
  have g0 : upd H' p0 (.lst [.str p.1]) p0 = some (.lst [.str p.1]) := upd_same
  have hl2 := Y0 _ _ hl'
  have sm2 := sm.trans Y0
  generalize upd H' p0 (.lst [.str p.1]) = H2 at *
  walk_at "vc"
  refine vc_rep g0 (by omega) (by omega) (by simp; omega) fun p1 hp1 => ?_
  rw [rep_one]
  have Y1 := same_new hp1 (.lst ((List.replicate p.2.toNat p.1).map V.str))
  have g1 : upd H2 p1 (.lst ((List.replicate p.2.toNat p.1).map V.str)) p1 = some (.lst ((List.replicate p.2.toNat p.1).map V.str)) := upd_same
  have hl3 := Y1 _ _ hl2
  have sm3 := sm2.trans Y1
  generalize upd H2 p1 (.lst ((List.replicate p.2.toNat p.1).map V.str)) = H3 at *
  refine vc_cat hl3 g1 (by rw [List.length_map, List.length_map, List.length_replicate]; omega) fun p2 hp2 => ?_
  rw [← List.map_append]
  walk_at "vc"
  exact ⟨p2, _, _, rfl, same_none sm3 hp2, sm3.trans (same_new hp2 _), upd_same⟩
theorem at_strs {us : List Str} {k : Nat} (w : Str) (h : k < us.length) : atI (us.map V.str) (k : Int) = some (.str (us.getD k w)) := by
  refine atI_nat ?_
  rw [List.getElem?_map, List.getElem?_eq_getElem h, List.getD_eq_getElem?_getD, List.getElem?_eq_getElem h]
  rfl
theorem getD_let {us : List Str} {w : Str} (h : ∀ x ∈ us, Let x) (hw : Let w) (k : Nat) : Let (us.getD k w) := by
  rw [List.getD_eq_getElem?_getD]
  cases e : us[k]? with
  | none => exact hw
  | some x => exact h x (List.mem_of_getElem? e)
open PySem.W in
noncomputable def keptD (ps : List Lie) : Dat := .list [.list (fillDs (ps.map lieFill)), .list (meetDs (meetsL ps (ps.length - 1))), .list []]
inductive spKept_ (K : PySem.W.Frag) (D : Addr) (vs : List V) (H : Hp) (Q : VK) : Prop where
  | mk (x p o ly rd : Addr) (ls : List V) (ps : List Lie) : (vs = [.ref x]) → (CtAt H D x p o ly rd) → (SqL K H ly ls) → (Reps K H ls (lieDs ps)) → (ps.length ≤ 900) → (SqL K H rd []) → (∀ (l : Addr) (H' : Hp), Same H H' → Rep K H' (.ref l) (keptD ps) → Q (.ref l) H') → spKept_ K D vs H Q
noncomputable def spKept (K : PySem.W.Frag) (D : Addr) : Sp := fun vs H Q _ => spKept_ K D vs H Q
theorem ok_l_kept (T : Txt K mg t) : FnOk P w K mg base CX0 2 t.f_l_kept t.d_l_kept ["_law_content"] (spKept K t.c_Content) := by
  have G_stretches := ok_stretches (P := P) (w := w) (base := base) T
  have G_meetings := ok_meetings (P := P) (w := w) (base := base) T
  have G_pigs := ok_pigs (P := P) (w := w) (base := base) T
  refine T.D_l_kept.F.ok sc_l_kept (fun vs H Q E h => ?_) (fun cdv A outer s H vs Q E hr h => ?_)
  · obtain ⟨x, p, o, ly, rd, ls, ps, rfl, _⟩ := h
    rfl
  obtain ⟨x, p, o, ly, rd, ls, ps, rfl, hC, hly, hL, hlen, hrd, q⟩ := h
  refine ⟨_, (pss_one (ps_ret (pe_lst (pa_cons (q_call G_stretches (hr.mono (by decide)) qg_l_kept 0 rfl rfl T.D_stretches.m T.D_stretches.F.kp T.D_stretches.b .nil pass0 (pa_cons (qv qv_l_kept 0 rfl rfl rfl) pa_nil)) (pa_cons (q_call G_meetings (hr.mono (by decide)) qg_l_kept 1 rfl rfl T.D_meetings.m T.D_meetings.F.kp T.D_meetings.b .nil pass0 (pa_cons (qv qv_l_kept 0 rfl rfl rfl) pa_nil)) (pa_cons (q_call G_pigs (hr.mono (by decide)) qg_l_kept 2 rfl rfl T.D_pigs.m T.D_pigs.F.kp T.D_pigs.b .nil pass0 (pa_cons (qv qv_l_kept 0 rfl rfl rfl) pa_nil)) pa_nil)))))), ?_⟩
  walk_at "vc"
  refine ⟨x, p, o, ly, rd, ls, ps, rfl, hC, hly, hL, by omega, fun l1 r1 H1 _ S1 g1 hR1 => ?_⟩
  walk_at "vc"
  refine ⟨x, p, o, ly, rd, ls, ps, rfl, hC.same S1, S1.seq hly, hL.same S1, by omega, fun l2 r2 H2 _ S2 g2 hR2 => ?_⟩
  walk_at "vc"
  have Z2 := S1.trans S2
  refine ⟨x, p, o, ly, rd, [], rfl, hC.same Z2, Z2.seq hrd, fun l3 hl3 => ?_⟩
  have Y3 := same_new hl3 (.lst [])
  have g3 : upd H2 l3 (.lst []) l3 = some (.lst []) := upd_same
  generalize upd H2 l3 (.lst []) = H3 at *
  walk_at "vc"
  refine ⟨(by show 3 ≤ sizeLine; decide), fun l4 hl4 => ?_⟩
  walk_at "vc"
  have Y4 := same_new hl4 (.lst [.ref l1, .ref l2, .ref l3])
  have S14 := (S2.trans Y3).trans Y4
  have S24 := Y3.trans Y4
  exact q l4 _ ((Z2.trans Y3).trans Y4) (.lst (SqL.of upd_same) (.cons (.lst (SqL.of (S14 _ _ g1)) ((hR1.same (hid_same _ _)).same S14)) (.cons (.lst (SqL.of (S24 _ _ g2)) ((hR2.same (hid_same _ _)).same S24)) (.cons (.lst (SqL.of (Y4 _ _ g3)) .nil) .nil))))
theorem cut_any (ns : List Int) (lo hi : Option Int) : ∃ ms : List Int, cutV (ns.map V.int) lo hi = ms.map V.int ∧ ms.length ≤ ns.length := by
  unfold cutV
  refine ⟨(ns.drop (HT.sIx (ns.map V.int).length 0 lo)).take (HT.sIx (ns.map V.int).length (ns.map V.int).length hi - HT.sIx (ns.map V.int).length 0 lo), ?_, ?_⟩
  · rw [List.map_take, List.map_drop]
  · rw [List.length_take, List.length_drop]
    omega
theorem no_apart {ws : List Str} {ap : List (Str × Str)} {ps : List (Str × Int)} (h : FillOk ws ap ps) : ∀ p ∈ pairsIn ps, ¬ IsAp ap p := by
  intro p hp
  unfold pairsIn at hp
  obtain ⟨z, hz, rfl⟩ := List.mem_map.mp hp
  obtain ⟨i, hi, e⟩ := List.getElem_of_mem hz
  have e1 : (ps.zip (ps.drop 1))[i]? = some z := by rw [List.getElem?_eq_getElem hi, e]
  rw [List.getElem?_zip_eq_some] at e1
  have e2 := e1.2
  rw [List.getElem?_drop, Nat.add_comm] at e2
  have := h.next i z.1 z.2 e1.1 e2
  exact fun a => a.elim this.1 this.2
theorem lies_ok {ps : List (Str × Int)} {rooms : List Int} (hlet : ∀ p ∈ ps, Let p.1) (hpos : ∀ p ∈ ps, 1 ≤ p.2) (hl : ps.length ≤ 50) (hs : (ps.map (·.2)).sum = rooms.sum) (hr : ∀ r ∈ rooms, 1 ≤ r) : LiesOk (jLie (newly 0 ps)) rooms ∧ un (jLie (newly 0 ps)) = unF ps := by
  have ej := jLie_fill ps
  have hall : ∀ q ∈ joined ps, Let q.1 ∧ 1 ≤ q.2 := joined_all (Pr := Let) ps [] (fun _ h => by cases h) fun p hp => ⟨hlet p hp, hpos p hp⟩
  have hm : ∀ q ∈ jLie (newly 0 ps), Let q.1 ∧ 1 ≤ q.2.1 := fun q hq => hall (lieFill q) (by rw [← ej]; exact List.mem_map_of_mem hq)
  have hu : un (jLie (newly 0 ps)) = unF ps := by rw [un_fill, ej, unF_joined hpos]
  refine ⟨⟨fun q hq => (hm q hq).2, fun q hq => (hm q hq).1, ?_, ?_, hr⟩, hu⟩
  · have := jLie_len (newly 0 ps) (newly 0 ps).length
    rw [List.take_length, newly_len] at this
    omega
  · have h1 := (un_len (ls := jLie (newly 0 ps)) fun q hq => by have := (hm q hq).2; omega).1
    have h2 := (unF_len (ps := ps) fun q hq => by have := hpos q hq; omega).1
    rw [hu] at h1
    unfold volF at h2
    omega
open PySem.W in
theorem kept_kqd {ps : List Lie} {rooms : List Int} (O : LiesOk ps rooms) : kqdOk 9 (keptD ps) = true := by
  unfold keptD fillDs meetDs
  simp only [kqdOk, List.all_cons, List.all_nil, Bool.and_true, Bool.and_eq_true, List.all_eq_true, List.mem_map]
  refine ⟨?_, ?_⟩
  · rintro x ⟨p, ⟨q, hq, rfl⟩, rfl⟩
    simp only [kqdOk, List.all_cons, List.all_nil, Bool.and_true]
    exact str_ok (O.let_ q hq) 6
  · rintro x ⟨m, _, rfl⟩
    simp only [kqdOk, List.all_cons, List.all_nil, Bool.and_true, Bool.true_and]
    cases m.2 <;> rfl
theorem kx_same {H H' : Hp} {a C : Addr} {d : Option Addr} {fs : List (Str × V)} (e : H a = some (.ext (xPhi a C d))) (f : XD d fs H) (c : XCls K C) (s : Same H H') : KxOf K H' (.ref a) (.ref C) := by
  refine .exc (fs := fs) (s _ _ e) ?_ c
  cases d with
  | none => exact f
  | some x => exact s _ _ f
noncomputable def IsWay (rooms : List Int) (i j : Int) : Prop := 0 ≤ i ∧ i < j ∧ j ≤ rooms.length
instance (rooms : List Int) (i j : Int) : Decidable (IsWay rooms i j) := by unfold IsWay; infer_instance
inductive spIsWay_ (K : PySem.W.Frag) (C : Addr) (vs : List V) (H : Hp) (Q : VK) : Prop where
  | mk (x l1 l2 l3 l4 : Addr) (pg : V) (rooms : List Int) (i j : Int) : (vs = [.ref x, .int i, .int j]) → (PipeAt H C x l1 l2 l3 l4 pg) → (SqL K H l1 (rooms.map V.int)) → (Q (.bl (decide (IsWay rooms i j))) H) → spIsWay_ K C vs H Q
noncomputable def spIsWay (K : PySem.W.Frag) (C : Addr) : Sp := fun vs H Q _ => spIsWay_ K C vs H Q
theorem ok_is_way (T : Txt K mg t) : FnOk P w K mg base CX0 1 t.f_is_way t.d_is_way ["pipe", "i", "j"] (spIsWay K t.c_Pipe) := by
  refine T.D_is_way.F.ok sc_is_way (fun vs H Q E h => ?_) (fun cdv A outer s H vs Q E hr h => ?_)
  · obtain ⟨x, l1, l2, l3, l4, pg, rooms, i, j, rfl, _⟩ := h
    rfl
  obtain ⟨x, l1, l2, l3, l4, pg, rooms, i, j, rfl, ⟨dx, hx⟩, hl, q⟩ := h
  refine ⟨_, (pss_one (ps_ret (pe_chain3 op_le op_lt op_le pe_int (qv qv_is_way 1 rfl rfl rfl) (qv qv_is_way 2 rfl rfl rfl) (q_callB call_lenR qg_is_way 0 rfl rfl T.z_len bo_len (pa_cons (pe_fld (qv qv_is_way 0 rfl rfl rfl) rfl) pa_nil))))), ?_⟩
  walk_at "vc"
  unfold tChain3
  walk_at "vc"
  refine ite2 (fun z => ?_) (fun z => ?_)
  rotate_left
  · have h1 : ¬ 0 ≤ i := fun h => z (decide_eq_true h)
    rw [dec_false (fun z : IsWay rooms i j => h1 z.1)] at q
    exact q
  have h1 : 0 ≤ i := of_decide_eq_true z
  walk_at "vc"
  refine ite2 (fun z => ?_) (fun z => ?_)
  rotate_left
  · have h2 : ¬ i < j := fun h => z (decide_eq_true h)
    rw [dec_false (fun z : IsWay rooms i j => h2 z.2.1)] at q
    exact q
  have h2 : i < j := of_decide_eq_true z
  walk_at "vc"
  refine ⟨x, t.c_Pipe, dx, _, _, rfl, hx, T.C_Pipe, T.n_Pipe_rooms, fs_rooms .., ?_⟩
  walk_at "vc"
  refine vc_lenL hl ?_
  walk_at "vc"
  rw [List.length_map]
  by_cases h3 : j ≤ (rooms.length : Int)
  · rw [dec_true h3]
    rw [dec_true (show IsWay rooms i j from ⟨h1, h2, h3⟩)] at q
    exact q
  · rw [dec_false h3]
    rw [dec_false (fun z : IsWay rooms i j => h3 z.2.2)] at q
    exact q
inductive spCheckWay_ (K : PySem.W.Frag) (C cN : Addr) (vs : List V) (H : Hp) (Q : VK) (E : XK) : Prop where
  | mk (x l1 l2 l3 l4 : Addr) (pg : V) (rooms : List Int) (i j : Int) : (vs = [.ref x, .int i, .int j]) → (PipeAt H C x l1 l2 l3 l4 pg) → (SqL K H l1 (rooms.map V.int)) → ((IsWay rooms i j → Q .non H)) → ((¬ IsWay rooms i j → E (.ref cN) none H)) → spCheckWay_ K C cN vs H Q E
noncomputable def spCheckWay (K : PySem.W.Frag) (C cN : Addr) : Sp := fun vs H Q E => spCheckWay_ K C cN vs H Q E
theorem ok_check_way (T : Txt K mg t) : FnOk P w K mg base (CX1 P w) 2 t.f_check_way t.d_check_way ["pipe", "i", "j"] (spCheckWay K t.c_Pipe t.c_NoWay) := by
  have G_is_way := ok_is_way (P := P) (w := w) (base := base) T
  refine T.D_check_way.F.okX sc_check_way (fun vs H Q E h => ?_) (fun cdv A outer s H vs Q E hr h => ?_)
  · obtain ⟨x, l1, l2, l3, l4, pg, rooms, i, j, rfl, _⟩ := h
    rfl
  obtain ⟨x, l1, l2, l3, l4, pg, rooms, i, j, rfl, hP, hl, q1, q2⟩ := h
  refine ⟨_, (pss_one (ps_if (pt_not (pt_val (q_call G_is_way (hr.mono (by decide)) qg_check_way 0 rfl rfl T.D_is_way.m T.D_is_way.F.kp T.D_is_way.b .nil pass0 (pa_cons (qv qv_check_way 0 rfl rfl rfl) (pa_cons (qv qv_check_way 1 rfl rfl rfl) (pa_cons (qv qv_check_way 2 rfl rfl rfl) pa_nil)))))) (pss_one (ps_raise0 rs_of rfl T.R_NoWay T.I_NoWay (qgl qg_check_way 1 rfl rfl) T.c_NoWay (pa_cons pe_str pa_nil))) pss_nil)), ?_⟩
  walk_at "vc"
  refine ⟨x, l1, l2, l3, l4, pg, rooms, i, j, rfl, hP, hl, ?_⟩
  walk_at "vc"
  by_cases e : IsWay rooms i j
  · rw [dec_true e]
    walk_at "vc"
    exact q1 e
  · rw [dec_false e]
    walk_at "vc"
    unfold tRaise
    walk_at "vc"
    exact ⟨(by decide), q2 e⟩
theorem goLet {w : Str} (hw : Let w) (pl : Int) : ∀ (ls : List Lie) (e : Int), (∀ q ∈ ls, Let q.1) → Let ((wareGo e ls pl).getD w)
  | [], _, _ => hw
  | x :: r, e, h => by
    rw [wareGo]
    split
    · exact h x List.mem_cons_self
    · exact goLet hw pl r _ fun q hq => h q (List.mem_cons_of_mem _ hq)
theorem ahead_let {ps : List Lie} (h : ∀ q ∈ ps, Let q.1) {w : Str} (hw : Let w) (a : Int) : ∀ p ∈ aheadL ps a w, Let p.1 ∧ Let p.2 := by
  intro p hp
  unfold aheadL at hp
  split at hp
  · rw [List.mem_singleton] at hp
    rw [hp]
    exact ⟨goLet hw _ ps 0 h, hw⟩
  · cases hp
noncomputable def fitGo (ap : List (Str × Str)) (L : Str → List (Str × Str)) : List (Str × Int) → Option (Str × Int)
  | [] => none
  | s :: r => match firstAp ap (L s.1) with
    | none => some s
    | some _ => fitGo ap L r
noncomputable def atL (ps : List Lie) (a : Int) (w d : Str) : List (Str × Str) := aheadL ps a w ++ [(w, d)]
noncomputable def progL (ps : List Lie) (a : Int) (w d s : Str) : List (Str × Str) := aheadL ps a s ++ [(s, d)] ++ [(w, s)] ++ aheadL ps a w
theorem app_let {a b : List (Str × Str)} (ha : ∀ p ∈ a, Let p.1 ∧ Let p.2) (hb : ∀ p ∈ b, Let p.1 ∧ Let p.2) : ∀ p ∈ a ++ b, Let p.1 ∧ Let p.2 := fun p hp => (List.mem_append.mp hp).elim (ha p) (hb p)
theorem one_let {x y : Str} (hx : Let x) (hy : Let y) : ∀ p ∈ [(x, y)], Let p.1 ∧ Let p.2 := fun p hp => by
  rw [List.mem_singleton] at hp
  rw [hp]
  exact ⟨hx, hy⟩
structure SpIn (K : PySem.W.Frag) (H : Hp) (C D x p o ly rd m1 m2 m3 m4 sa : Addr) (pg : V) (rooms : List Int) (s2 s3 s4 ls ss : List V) (ps : List Lie) (ap : List (Str × Str)) (sps : List (Str × Int)) (w : Str) : Prop where
  hC : CtAt H D x p o ly rd
  hP : PipeIs H C o m1 m2 m3 m4 pg (rooms.map V.int) s2 s3 s4
  hR : Reps K H s4 (apartDs ap)
  hap : ∀ p ∈ ap, Let p.1 ∧ Let p.2
  hly : SqL K H ly ls
  hL : Reps K H ls (lieDs ps)
  O : LiesOk ps rooms
  hw : Let w
  hs : SqL K H sa ss
  hS : Reps K H ss (fillDs sps)
  hsl : ∀ s ∈ sps, Let s.1
theorem SpIn.same {H H' : Hp} {C D x p o ly rd m1 m2 m3 m4 sa : Addr} {pg : V} {rooms : List Int} {s2 s3 s4 ls ss : List V} {ps : List Lie} {ap : List (Str × Str)} {sps : List (Str × Int)} {w : Str} (h : SpIn K H C D x p o ly rd m1 m2 m3 m4 sa pg rooms s2 s3 s4 ls ss ps ap sps w) (e : Same H H') : SpIn K H' C D x p o ly rd m1 m2 m3 m4 sa pg rooms s2 s3 s4 ls ss ps ap sps w :=
  ⟨h.hC.same e, h.hP.same e, h.hR.same e, h.hap, e.seq h.hly, h.hL.same e, h.O, h.hw, e.seq h.hs, h.hS.same e, h.hsl⟩
inductive spSpacer_ (K : PySem.W.Frag) (C D cW cS : Addr) (vs : List V) (H : Hp) (Q : VK) (E : XK) : Prop where
  | mk (x p o ly rd m1 m2 m3 m4 sa : Addr) (pg : V) (rooms : List Int) (s2 s3 s4 ls ss : List V) (ps : List Lie) (ap : List (Str × Str)) (sps : List (Str × Int)) (i j : Int) (w : Str) : (vs = [.ref x, .int i, .int j, .str w, .ref sa]) → (SpIn K H C D x p o ly rd m1 m2 m3 m4 sa pg rooms s2 s3 s4 ls ss ps ap sps w) → ((¬ IsWay rooms i j → ∀ H', Same H H' → E (.ref cW) none H')) → ((IsWay rooms i j → ∀ d, wareGo 0 ps (rooms.take i.toNat).sum = some d → (firstAp ap (atL ps (rooms.take i.toNat).sum w d) = none → ∀ H', Same H H' → Q .non H') ∧ (∀ q, firstAp ap (atL ps (rooms.take i.toNat).sum w d) = some q → (∀ (s : Str × Int) (r : Addr) (H' : Hp), fitGo ap (progL ps (rooms.take i.toNat).sum w d) sps = some s → Same H H' → H' r = some (.tup [.str s.1, .int s.2]) → Q (.ref r) H') ∧ (fitGo ap (progL ps (rooms.take i.toNat).sum w d) sps = none → ∀ H', Same H H' → E (.ref cS) none H')))) → spSpacer_ K C D cW cS vs H Q E
noncomputable def spSpacer (K : PySem.W.Frag) (C D cW cS : Addr) : Sp := fun vs H Q E => spSpacer_ K C D cW cS vs H Q E
theorem ok_spacer_for (T : Txt K mg t) : FnOk P w K mg base (CX1 P w) 4 t.f_spacer_for t.d_spacer_for ["content", "i", "j", "ware", "spacers"] (spSpacer K t.c_Pipe t.c_Content t.c_NoWay t.c_NoSpacer) := by
  have G_check_way := ok_check_way (P := P) (w := w) (base := base) T
  have G_place_of := ok_place_of (P := P) (w := w) (base := base) T
  have G_first_apart := ok_first_apart (P := P) (w := w) (base := base) T
  have G_pairs_at_first := ok_pairs_at_first (P := P) (w := w) (base := base) T
  have G_pairs_ahead := ok_pairs_ahead (P := P) (w := w) (base := base) T
  refine T.D_spacer_for.F.okX sc_spacer_for (fun vs H Q E h => ?_) (fun cdv A outer s H vs Q E hr h => ?_)
  · obtain ⟨x, p, o, ly, rd, m1, m2, m3, m4, sa, pg, rooms, s2, s3, s4, ls, ss, ps, ap, sps, i, j, w, rfl, _⟩ := h
    rfl
  obtain ⟨x, p, o, ly, rd, m1, m2, m3, m4, sa, pg, rooms, s2, s3, s4, ls, ss, ps, ap, sps, i, j, w, rfl, I, qW, qY⟩ := h
  refine ⟨_, (pss_cons (q_set (i := 5) qv_spacer_for sc_spacer_for.nd rfl rfl rfl (pe_fld (qv qv_spacer_for 0 rfl rfl rfl) rfl))
      (pss_cons (ps_expr (q_call G_check_way (hr.mono (by decide)) qg_spacer_for 0 rfl rfl T.D_check_way.m T.D_check_way.F.kp T.D_check_way.b .nil pass1 (pa_cons (qv qv_spacer_for 5 rfl rfl rfl) (pa_cons (qv qv_spacer_for 1 rfl rfl rfl) (pa_cons (qv qv_spacer_for 2 rfl rfl rfl) pa_nil)))))
      (pss_cons (q_set (i := 6) qv_spacer_for sc_spacer_for.nd rfl rfl rfl (q_call G_place_of (hr.mono (by decide)) qg_spacer_for 1 rfl rfl T.D_place_of.m T.D_place_of.F.kp T.D_place_of.b .nil pass0 (pa_cons (qv qv_spacer_for 5 rfl rfl rfl) (pa_cons (qv qv_spacer_for 1 rfl rfl rfl) pa_nil))))
      (pss_cons (ps_if (pt_cmp (pc_isN (q_call G_first_apart (hr.mono (by decide)) qg_spacer_for 2 rfl rfl T.D_first_apart.m T.D_first_apart.F.kp T.D_first_apart.b .nil pass0 (pa_cons (qv qv_spacer_for 5 rfl rfl rfl) (pa_cons (q_call G_pairs_at_first (hr.mono (by decide)) qg_spacer_for 3 rfl rfl T.D_pairs_at_first.m T.D_pairs_at_first.F.kp T.D_pairs_at_first.b .nil pass0 (pa_cons (qv qv_spacer_for 0 rfl rfl rfl) (pa_cons (qv qv_spacer_for 6 rfl rfl rfl) (pa_cons (qv qv_spacer_for 3 rfl rfl rfl) pa_nil)))) pa_nil))))) (pss_one (ps_ret pe_non)) pss_nil)
      (pss_cons (ps_for PassesOwn.leaving rfl (pi_list (qv qv_spacer_for 4 rfl rfl rfl)) (pg_tup rfl (pgs_cons (q_name (i := 7) qv_spacer_for sc_spacer_for.nd rfl rfl rfl) (pgs_cons (q_name (i := 8) qv_spacer_for sc_spacer_for.nd rfl rfl rfl) pgs_nil))) (pss_cons (q_set (i := 9) qv_spacer_for sc_spacer_for.nd rfl rfl rfl (pe_op op_cat (pe_op op_cat (q_call G_pairs_at_first (hr.mono (by decide)) qg_spacer_for 3 rfl rfl T.D_pairs_at_first.m T.D_pairs_at_first.F.kp T.D_pairs_at_first.b .nil pass0 (pa_cons (qv qv_spacer_for 0 rfl rfl rfl) (pa_cons (qv qv_spacer_for 6 rfl rfl rfl) (pa_cons (qv qv_spacer_for 7 rfl rfl rfl) pa_nil)))) (pe_lst (pa_cons (pe_tup (pa_cons (qv qv_spacer_for 3 rfl rfl rfl) (pa_cons (qv qv_spacer_for 7 rfl rfl rfl) pa_nil))) pa_nil))) (q_call G_pairs_ahead (hr.mono (by decide)) qg_spacer_for 4 rfl rfl T.D_pairs_ahead.m T.D_pairs_ahead.F.kp T.D_pairs_ahead.b .nil pass0 (pa_cons (qv qv_spacer_for 0 rfl rfl rfl) (pa_cons (qv qv_spacer_for 6 rfl rfl rfl) (pa_cons (qv qv_spacer_for 3 rfl rfl rfl) pa_nil))))))
      (pss_one (ps_if (pt_cmp (pc_isN (q_call G_first_apart (hr.mono (by decide)) qg_spacer_for 2 rfl rfl T.D_first_apart.m T.D_first_apart.F.kp T.D_first_apart.b .nil pass0 (pa_cons (qv qv_spacer_for 5 rfl rfl rfl) (pa_cons (qv qv_spacer_for 9 rfl rfl rfl) pa_nil))))) (pss_one (ps_ret (pe_tup (pa_cons (qv qv_spacer_for 7 rfl rfl rfl) (pa_cons (qv qv_spacer_for 8 rfl rfl rfl) pa_nil))))) pss_nil))))
      (pss_one (ps_raise0 rs_of rfl T.R_NoSpacer T.I_NoSpacer (qgl qg_spacer_for 5 rfl rfl) T.c_NoSpacer (pa_cons pe_str pa_nil)))))))), ?_⟩
  obtain ⟨dx, hx⟩ := I.hC.at_
  walk_at "vc"
  refine ⟨x, t.c_Content, dx, _, _, rfl, hx, T.C_Content, T.n_Content_own_pipe, ct_own .., ?_⟩
  walk_at "vc"
  refine ⟨o, m1, m2, m3, m4, pg, rooms, i, j, rfl, I.hP.p, SqL.of I.hP.h1, fun hw => ?_, fun hn => qW hn H (Same.refl _)⟩
  obtain ⟨w1, w2, w3⟩ := id hw
  obtain ⟨z1, z2, z3⟩ := sum_take I.O.rpos (i := i.toNat) (j := j.toNat) (by omega) (by omega)
  obtain ⟨d, ed, hd⟩ := ware_in I.O (pl := (rooms.take i.toNat).sum) z2 (by omega)
  have hu : 0 < (rooms.take i.toNat).sum → ∃ u, wareGo 0 ps ((rooms.take i.toNat).sum - 1) = some u := fun h => by
    obtain ⟨u, e, _⟩ := ware_in I.O (pl := (rooms.take i.toNat).sum - 1) (by omega) (by omega)
    exact ⟨u, e⟩
  obtain ⟨q0, q1⟩ := qY hw d ed
  walk_at "vc"
  refine ⟨o, m1, m2, m3, m4, pg, rooms, i, rfl, I.hP.p, SqL.of I.hP.h1, w1, fun H1 S1 => ?_⟩
  generalize (rooms.take i.toNat).sum = a at *
  have I1 := I.same S1
  walk_at "vc"
  refine ⟨x, p, o, ly, rd, ls, ps, a, w, d, rfl, I1.hC, I1.hly, I1.hL, hu, ed, fun l rs H2 hl0 S2 gl hR => ?_⟩
  have Z2 := S1.trans S2
  have I2 := I.same Z2
  walk_at "vc"
  refine ⟨o, m1, m2, m3, m4, pg, s4, ap, l, rs, atL ps a w d, rfl, I2.hP.p, SqL.of I2.hP.h4, I2.hR, I.hap, SqL.of gl, hR.same (hid_same _ _), app_let (ahead_let I.O.let_ I.hw a) (one_let I.hw hd), fun e H3 S3 => ?_, fun pp r H3 e S3 hr0 hr3 => ?_⟩
  · walk_at "vc"
    rw [dec_true rfl]
    walk_at "vc"
    exact q0 e H3 (Z2.trans S3)
  obtain ⟨qF, qN⟩ := q1 pp e
  walk_at "vc"
  rw [dec_false (fun z => by cases z)]
  walk_at "vc"
  have Z3 := Z2.trans S3
  refine ⟨sa, rfl, ⟨_, Z3.seq I.hs⟩, for_list (xs := ss) (fun k σ H' => ∃ (u7 u8 u9 : Option V), σ = [some (.ref x), some (.int i), some (.int j), some (.str w), some (.ref sa), some (.ref o), some (.int a), u7, u8, u9] ∧ Same H H' ∧ fitGo ap (progL ps a w d) (sps.drop k) = fitGo ap (progL ps a w d) sps)
    ⟨_, _, _, rfl, Z3, rfl⟩ (fun k σ H' _ ⟨_, _, _, _, sm, _⟩ => sm.seq I.hs) ?_ ?_⟩
  rotate_left
  · rintro σ H' ⟨u7, u8, u9, rfl, sm, hgo⟩
    rw [List.drop_eq_nil_of_le (by rw [I.hS.length]; unfold fillDs; rw [List.length_map]; exact Nat.le_refl _)] at hgo
    walk_at "vc"
    unfold tRaise
    walk_at "vc"
    exact ⟨(by decide), qN (by rw [← hgo]; rfl) H' sm⟩
  rintro k y σ H4 hy ⟨u7, u8, u9, rfl, S4, hgo⟩
  obtain ⟨sp, b, hsp, rfl, hb⟩ := pair_of I.hS hy
  have hk : k < sps.length := (List.getElem?_eq_some_iff.mp hsp).1
  have ek : sps[k] = sp := (List.getElem?_eq_some_iff.mp hsp).2
  have ed' : sps.drop k = sp :: sps.drop (k + 1) := by rw [List.drop_eq_getElem_cons hk, ek]
  have hsl := I.hsl sp (List.mem_of_getElem? hsp)
  rw [ed', fitGo] at hgo
  refine vc_asgT (S4.tup hb) rfl ?_
  have I4 := I.same S4
  walk_at "vc"
  refine ⟨x, p, o, ly, rd, ls, ps, a, sp.1, d, rfl, I4.hC, I4.hly, I4.hL, hu, ed, fun l1 r1 H5 hl1 S5 g1 hR1 => ?_⟩
  walk_at "vc"
  refine ⟨(by show 2 ≤ sizeLine; decide), fun n hn => ?_⟩
  have Yn := same_new hn (.tup [.str w, .str sp.1])
  have gn : upd H5 n (.tup [.str w, .str sp.1]) n = some (.tup [.str w, .str sp.1]) := upd_same
  generalize upd H5 n (.tup [.str w, .str sp.1]) = H6 at *
  walk_at "vc"
  refine ⟨(by show 1 ≤ sizeLine; decide), fun l2 hl2 => ?_⟩
  have Y2 := same_new hl2 (.lst [.ref n])
  have g2 : upd H6 l2 (.lst [.ref n]) l2 = some (.lst [.ref n]) := upd_same
  generalize upd H6 l2 (.lst [.ref n]) = H7 at *
  have Z57 := Yn.trans Y2
  have la1 : (aheadL ps a sp.1 ++ [(sp.1, d)]).length ≤ 2 := by unfold aheadL; split <;> simp
  have lr1 : r1.length ≤ 2 := by rw [hR1.length]; unfold apartDs; rw [List.length_map]; exact la1
  walk_at "vc"
  refine vc_cat (Z57 _ _ g1) g2 (Nat.le_of_lt (small1000 (by simp only [List.length_cons, List.length_nil]; omega))) fun l3 hl3 => ?_
  have Y3 := same_new hl3 (.lst (r1 ++ [.ref n]))
  have g3 : upd H7 l3 (.lst (r1 ++ [.ref n])) l3 = some (.lst (r1 ++ [.ref n])) := upd_same
  generalize upd H7 l3 (.lst (r1 ++ [.ref n])) = H8 at *
  have Z58 := Z57.trans Y3
  have Z48 := S5.trans Z58
  have I8 := I4.same Z48
  walk_at "vc"
  refine ⟨x, p, o, ly, rd, ls, ps, a, w, rfl, I8.hC, I8.hly, I8.hL, hu, fun l4 r4 H9 hl4 S9 g4 hR4 => ?_⟩
  have la4 : (aheadL ps a w).length ≤ 1 := by unfold aheadL; split <;> simp
  have lr4 : r4.length ≤ 1 := by rw [hR4.length]; unfold apartDs; rw [List.length_map]; exact la4
  walk_at "vc"
  refine vc_cat (S9 _ _ g3) g4 (Nat.le_of_lt (small1000 (by rw [List.length_append, List.length_singleton]; omega))) fun l5 hl5 => ?_
  have Y5 := same_new hl5 (.lst (r1 ++ [.ref n] ++ r4))
  have g5 : upd H9 l5 (.lst (r1 ++ [.ref n] ++ r4)) l5 = some (.lst (r1 ++ [.ref n] ++ r4)) := upd_same
  generalize upd H9 l5 (.lst (r1 ++ [.ref n] ++ r4)) = H10 at *
  have Z510 := Z58.trans (S9.trans Y5)
  have I10 := I8.same (S9.trans Y5)
  have hR10 : Reps K H10 (r1 ++ [.ref n] ++ r4) (apartDs (progL ps a w d sp.1)) := by
    have e1 : apartDs (progL ps a w d sp.1) = apartDs (aheadL ps a sp.1 ++ [(sp.1, d)]) ++ [.tuple [.str w, .str sp.1]] ++ apartDs (aheadL ps a w) := by
      unfold progL apartDs
      simp only [List.map_append, List.map_cons, List.map_nil]
    rw [e1]
    refine (((hR1.same (hid_same _ _)).same Z510).append (.one (.tup (SqT.of ?_) (.cons (.str _) (.cons (.str _) .nil))))).append ((hR4.same (hid_same _ _)).same Y5)
    exact Y5 _ _ (S9 _ _ (Y3 _ _ (Y2 _ _ gn)))
  walk_at "vc"
  refine ⟨o, m1, m2, m3, m4, pg, s4, ap, l5, _, progL ps a w d sp.1, rfl, I10.hP.p, SqL.of I10.hP.h4, I10.hR, I.hap, SqL.of g5, hR10, app_let (app_let (app_let (ahead_let I.O.let_ hsl a) (one_let hsl hd)) (one_let I.hw hsl)) (ahead_let I.O.let_ I.hw a), fun e H11 S11 => ?_, fun pp r H11 e S11 hr0 hr3 => ?_⟩
  · walk_at "vc"
    rw [dec_true rfl]
    rw [e] at hgo
    walk_at "vc"
    refine ⟨(by show 2 ≤ sizeLine; decide), fun r hr => ?_⟩
    walk_at "vc"
    exact qF sp r _ hgo.symm (S4.trans (S5.trans (Z510.trans (S11.trans (same_new hr _))))) upd_same
  · walk_at "vc"
    rw [dec_false (fun z => by cases z)]
    rw [e] at hgo
    walk_at "vc"
    exact ⟨_, _, _, rfl, S4.trans (S5.trans (Z510.trans S11)), hgo⟩
open PySem.W in
noncomputable def spD (ap : List (Str × Str)) (first : List (Str × Str)) (L : Str → List (Str × Str)) (sps : List (Str × Int)) : Dat := match firstAp ap first with
  | none => .none
  | some _ => match fitGo ap L sps with
    | some s => .tuple [.str s.1, .int s.2]
    | none => .str "none"
theorem fitGo_congr {ap : List (Str × Str)} {L1 L2 : Str → List (Str × Str)} (h : ∀ s, firstAp ap (L1 s) = none ↔ firstAp ap (L2 s) = none) : ∀ sps : List (Str × Int), fitGo ap L1 sps = fitGo ap L2 sps
  | [] => rfl
  | s :: r => by
    rw [fitGo, fitGo]
    have := h s.1
    cases e1 : firstAp ap (L1 s.1) with
    | none =>
      rw [this.mp e1]
    | some p =>
      cases e2 : firstAp ap (L2 s.1) with
      | none => rw [this.mpr e2] at e1; cases e1
      | some q => exact fitGo_congr h r
theorem spD_congr {ap f1 f2 : List (Str × Str)} {L1 L2 : Str → List (Str × Str)} (h0 : firstAp ap f1 = none ↔ firstAp ap f2 = none) (h : ∀ s, firstAp ap (L1 s) = none ↔ firstAp ap (L2 s) = none) (sps : List (Str × Int)) : spD ap f1 L1 sps = spD ap f2 L2 sps := by
  unfold spD
  rw [fitGo_congr h]
  cases e1 : firstAp ap f1 with
  | none => rw [h0.mp e1]
  | some p =>
    cases e2 : firstAp ap f2 with
    | none => rw [h0.mpr e2] at e1; cases e1
    | some q => rfl
theorem none_ap {ap : List (Str × Str)} : ∀ {ps : List (Str × Str)}, firstAp ap ps = none → ∀ p ∈ ps, ¬ IsAp ap p
  | [], _, _, hp => by cases hp
  | p :: r, h, q, hq => by
    rw [firstAp_cons] at h
    by_cases z : IsAp ap p
    · rw [if_pos z] at h; cases h
    · rw [if_neg z] at h
      rcases List.mem_cons.mp hq with rfl | hq
      · exact z
      · exact none_ap h q hq
theorem none_iff {ap : List (Str × Str)} {ps : List (Str × Str)} : firstAp ap ps = none ↔ ∀ p ∈ ps, ¬ IsAp ap p := ⟨none_ap, firstAp_none⟩
theorem isAp_comm {ap : List (Str × Str)} {x y : Str} : IsAp ap (x, y) ↔ IsAp ap (y, x) := ⟨Or.symm, Or.symm⟩
noncomputable def rndL (us : List Str) (a : Nat) (i : Int) (w : Str) : List (Str × Str) := [(us.getD a w, w)] ++ (if 0 < i then [(us.getD (a - 1) w, w)] else [])
noncomputable def shutL (us : List Str) (a : Nat) (i : Int) (w s : Str) : List (Str × Str) := [(s, us.getD a w), (w, s)] ++ (if 0 < i then [(us.getD (a - 1) w, s), (us.getD (a - 1) w, w)] else [])
theorem decE {p q : Prop} {i : Decidable p} {j : Decidable q} (h : p ↔ q) : @decide p i = @decide q j := by
  by_cases hp : p
  · rw [dec_true hp, dec_true (h.mp hp)]
  · rw [dec_false hp, dec_false fun z => hp (h.mpr z)]
open Classical in
theorem any_ap (ap : List (Str × Str)) (L : List (Str × Str)) : (L.map fun p => decide (IsAp ap p)).any id = true ↔ firstAp ap L ≠ none := by
  rw [Ne, none_iff, List.any_eq_true]
  constructor
  · rintro ⟨b, hb, e⟩ h
    obtain ⟨p, hp, rfl⟩ := List.mem_map.mp hb
    exact h p hp (of_decide_eq_true e)
  · intro h
    by_cases c : ∃ p ∈ L, IsAp ap p
    · obtain ⟨p, hp, e⟩ := c
      exact ⟨_, List.mem_map_of_mem hp, decide_eq_true e⟩
    · exact absurd (fun p hp e => c ⟨p, hp, e⟩) h
inductive spLSpacer_ (K : PySem.W.Frag) (vs : List V) (H : Hp) (Q : VK) : Prop where
  | mk (f b0 b3 ua sa : Addr) (y1 y2 y4 : Addr) (rooms : List Int) (r3 ss : List V) (ap : List (Str × Str)) (us : List Str) (sps : List (Str × Int)) (i : Int) (w : Str) : (vs = [.ref f, .ref ua, .int i, .str w, .ref sa]) → (SqL K H f [.ref b0, .ref y1, .ref y2, .ref b3, .ref y4]) → (SqL K H b0 (rooms.map V.int)) → (SqL K H b3 r3) → (Reps K H r3 (apartDs ap)) → ((∀ p ∈ ap, Let p.1 ∧ Let p.2)) → (SqL K H ua (us.map V.str)) → ((∀ x ∈ us, Let x)) → (Let w) → ((us.length : Int) = rooms.sum) → ((∀ r ∈ rooms, 1 ≤ r)) → (0 ≤ i) → (i < rooms.length) → (SqL K H sa ss) → (Reps K H ss (fillDs sps)) → ((∀ s ∈ sps, Let s.1)) → (∀ (v : V) (H' : Hp), Same H H' → Rep K H' v (spD ap (rndL us (rooms.take i.toNat).sum.toNat i w) (shutL us (rooms.take i.toNat).sum.toNat i w) sps) → Q v H') → spLSpacer_ K vs H Q
noncomputable def spLSpacer (K : PySem.W.Frag) : Sp := fun vs H Q _ => spLSpacer_ K vs H Q
open Classical in
theorem ok_l_spacer (T : Txt K mg t) : FnOk P w K mg base CX0 2 t.f_l_spacer t.d_l_spacer ["_law_five_here", "_law_units_here", "_law_i", "_law_ware", "_law_spacers_here"] (spLSpacer K) := by
  have G_l_apart := ok_l_apart (P := P) (w := w) (base := base) T
  refine T.D_l_spacer.F.ok sc_l_spacer (fun vs H Q E h => ?_) (fun cdv A outer s H vs Q E hr h => ?_)
  · obtain ⟨f, b0, b3, ua, sa, y1, y2, y4, rooms, r3, ss, ap, us, sps, i, w, rfl, _⟩ := h
    rfl
  obtain ⟨f, b0, b3, ua, sa, y1, y2, y4, rooms, r3, ss, ap, us, sps, i, w, rfl, hf, h0, h3, hR, hap, hua, hul, hw, hlen, hrp, i0, i1, hsa, hS, hsl, q⟩ := h
  refine ⟨_, (pss_cons (q_set (i := 5) qv_l_spacer sc_l_spacer.nd rfl rfl rfl (q_callB (call_sum rfl) qg_l_spacer 0 rfl rfl T.z_sum bo_sum (pa_cons (pe_slice sl_list (pe_ix ix_list (qv qv_l_spacer 0 rfl rfl rfl) pe_int (fun _ _ => rfl)) po_none (po_some (qv qv_l_spacer 2 rfl rfl rfl))) pa_nil)))
      (pss_cons (q_set (i := 6) qv_l_spacer sc_l_spacer.nd rfl rfl rfl (pe_lst (pa_cons (pe_ix ix_list (qv qv_l_spacer 1 rfl rfl rfl) (qv qv_l_spacer 5 rfl rfl rfl) (fun _ _ => rfl)) pa_nil)))
      (pss_cons (ps_if (pt_cmpR op_gt (qv qv_l_spacer 2 rfl rfl rfl) pe_int (nomark _)) (pss_one (ps_expr (pe_bm PySem.F.plainAttrs_list PySem.F.slot_list_append PySem.F.type_list_append mt_appendR (qv qv_l_spacer 6 rfl rfl rfl) (pa_cons (pe_ix ix_list (qv qv_l_spacer 1 rfl rfl rfl) (pe_op op_sub (qv qv_l_spacer 5 rfl rfl rfl) pe_int) (fun _ _ => rfl)) pa_nil)))) pss_nil)
      (pss_cons (ps_if (pt_not (pt_val (q_callB (call_any rfl) qg_l_spacer 1 rfl rfl T.z_any bo_any (pa_cons (pe_comp ["_law_one", "_law_five_here", "_law_ware"] [none, some 0, some 3] rfl  (pi_list (qv qv_l_spacer 6 rfl rfl rfl)) (fun _ _ _ _ => (pg_name (i := 0) (show (["_law_one", "_law_five_here", "_law_ware"] : List Str).Nodup by decide +kernel) rfl (Or.inl rfl))) (fun _ _ _ _ => pts_nil) (fun _ _ _ _ => (pe_call G_l_apart (hr.mono (by decide)) rfl T.D_l_apart.m T.D_l_apart.F.kp T.D_l_apart.b .nil pass0 (pa_cons (pv 1) (pa_cons (pv 0) (pa_cons (pv 2) pa_nil))))) rfl rfl) pa_nil)))) (pss_one (ps_ret pe_non)) pss_nil)
      (pss_cons (ps_for PassesOwn.never rfl (pi_list (qv qv_l_spacer 4 rfl rfl rfl)) (q_name (i := 7) qv_l_spacer sc_l_spacer.nd rfl rfl rfl) (pss_cons (q_set (i := 8) qv_l_spacer sc_l_spacer.nd rfl rfl rfl (pe_lst (pa_cons (pe_tup (pa_cons (pe_ix ix_tup (qv qv_l_spacer 7 rfl rfl rfl) pe_int (fun _ _ => rfl)) (pa_cons (pe_ix ix_list (qv qv_l_spacer 1 rfl rfl rfl) (qv qv_l_spacer 5 rfl rfl rfl) (fun _ _ => rfl)) pa_nil))) (pa_cons (pe_tup (pa_cons (qv qv_l_spacer 3 rfl rfl rfl) (pa_cons (pe_ix ix_tup (qv qv_l_spacer 7 rfl rfl rfl) pe_int (fun _ _ => rfl)) pa_nil))) pa_nil))))
      (pss_cons (ps_if (pt_cmpR op_gt (qv qv_l_spacer 2 rfl rfl rfl) pe_int (nomark _)) (pss_one (q_set (i := 8) qv_l_spacer sc_l_spacer.nd rfl rfl rfl (pe_op op_cat (qv qv_l_spacer 8 rfl rfl rfl) (pe_lst (pa_cons (pe_tup (pa_cons (pe_ix ix_list (qv qv_l_spacer 1 rfl rfl rfl) (pe_op op_sub (qv qv_l_spacer 5 rfl rfl rfl) pe_int) (fun _ _ => rfl)) (pa_cons (pe_ix ix_tup (qv qv_l_spacer 7 rfl rfl rfl) pe_int (fun _ _ => rfl)) pa_nil))) (pa_cons (pe_tup (pa_cons (pe_ix ix_list (qv qv_l_spacer 1 rfl rfl rfl) (pe_op op_sub (qv qv_l_spacer 5 rfl rfl rfl) pe_int) (fun _ _ => rfl)) (pa_cons (qv qv_l_spacer 3 rfl rfl rfl) pa_nil))) pa_nil)))))) pss_nil)
      (pss_one (ps_if (pt_not (pt_val (q_callB (call_any rfl) qg_l_spacer 1 rfl rfl T.z_any bo_any (pa_cons (pe_comp ["_law_one", "_law_other", "_law_five_here"] [none, none, some 0] rfl  (pi_list (qv qv_l_spacer 8 rfl rfl rfl)) (fun _ _ _ _ => (pg_tupC (n := 2) rfl (pgs_cons (pg_name (i := 0) (show (["_law_one", "_law_other", "_law_five_here"] : List Str).Nodup by decide +kernel) rfl (Or.inl rfl)) (pgs_cons (pg_name (i := 1) (show (["_law_one", "_law_other", "_law_five_here"] : List Str).Nodup by decide +kernel) rfl (Or.inl rfl)) pgs_nil)))) (fun _ _ _ _ => pts_nil) (fun _ _ _ _ => (pe_call G_l_apart (hr.mono (by decide)) rfl T.D_l_apart.m T.D_l_apart.F.kp T.D_l_apart.b .nil pass0 (pa_cons (pv 2) (pa_cons (pv 0) (pa_cons (pv 1) pa_nil))))) rfl rfl) pa_nil)))) (pss_one (ps_ret (qv qv_l_spacer 7 rfl rfl rfl))) pss_nil)))))
      (pss_one (ps_ret pe_str))))))), ?_⟩
  obtain ⟨z1, z2, z3⟩ := sum_take hrp (i := i.toNat) (j := rooms.length) (by omega) (Nat.le_refl _)
  rw [List.take_length] at z1
  have hpos : 0 < i → 0 < (rooms.take i.toNat).sum := fun h => by
    have := sum_take hrp (i := 0) (j := i.toNat) (by omega) (by omega)
    rw [List.take_zero, List.sum_nil] at this
    exact this.1
  walk_at "vc"
  refine vc_slL h0 fun s0 hs0 => ?_
  rw [cut_ints rooms i0]
  have Y1 := same_new hs0 (.lst ((rooms.take i.toNat).map V.int))
  have g1 : upd H s0 (.lst ((rooms.take i.toNat).map V.int)) s0 = some (.lst ((rooms.take i.toNat).map V.int)) := upd_same
  generalize upd H s0 (.lst ((rooms.take i.toNat).map V.int)) = H1 at *
  walk_at "vc"
  refine vc_sum (SqL.of g1) ?_
  obtain ⟨a, ea⟩ : ∃ a : Nat, (rooms.take i.toNat).sum = (a : Int) := ⟨(rooms.take i.toNat).sum.toNat, by omega⟩
  rw [ea] at z1 z2 hpos q ⊢
  rw [Int.toNat_natCast] at q
  have hau : a < us.length := by omega
  have hatd := at_strs w hau
  have ld := getD_let hul hw a
  have lu := getD_let hul hw (a - 1)
  walk_at "vc"
  refine vc_ixL (Y1.seq hua) hatd ?_
  have hau1 : 0 < i → atI (us.map V.str) ((a : Int) - 1) = some (.str (us.getD (a - 1) w)) := fun h => by
    have := hpos h
    rw [show (a : Int) - 1 = ((a - 1 : Nat) : Int) by omega]
    exact at_strs w (by omega)
  unfold rndL shutL at q
  generalize us.getD a w = d at *
  generalize us.getD (a - 1) w = u at *
  walk_at "vc"
  refine ⟨(by show 1 ≤ sizeLine; decide), fun l hl => ?_⟩
  have hl0 : H l = none := same_none Y1 hl
  have Y2 := Y1.trans (same_new hl (.lst [.str d]))
  have g2 : upd H1 l (.lst [.str d]) l = some (.lst [.str d]) := upd_same
  generalize upd H1 l (.lst [.str d]) = H2 at *
  walk_at "vcs"
  with_reducible refine tSeq.join (fun σ H' => ∃ xs : List Str, σ = [some (.ref f), some (.ref ua), some (.int i), some (.str w), some (.ref sa), some (.int a), some (.ref l), none, none] ∧ Same H H' ∧ H' l = some (.lst (xs.map V.str)) ∧ xs.map (fun x => (x, w)) = [(d, w)] ++ (if 0 < i then [(u, w)] else []) ∧ (∀ x ∈ xs, Let x) ∧ xs.length ≤ 2) (fun R k => ?_) ?_
  · walk_at "vc"
    refine ite2 (fun z => ?_) (fun z => ?_)
    · have z' : 0 < i := of_decide_eq_true z
      rw [if_pos z'] at k
      walk_at "vc"
      refine ⟨tyV_list (SqL.of g2), ?_⟩
      walk_at "vc"
      refine vc_ixL (Y2.seq hua) (hau1 z') ?_
      walk_at "vc"
      refine vc_append (K := K) g2 (small1000 (by show 1 ≤ 1000; decide)) ?_
      walk_at "vc"
      exact k _ _ ⟨[d, u], rfl, Y2.updD hl0, upd_same, rfl, by simp only [List.mem_cons, List.not_mem_nil, or_false]; rintro x (rfl | rfl) <;> assumption, by show 2 ≤ 2; decide⟩
    · have z' : ¬ 0 < i := fun h => z (decide_eq_true h)
      rw [if_neg z'] at k
      walk_at "vc"
      exact k _ _ ⟨[d], rfl, Y2, g2, rfl, by simp only [List.mem_singleton]; rintro x rfl; exact ld, by show 1 ≤ 2; decide⟩
  rintro σ H3 ⟨xs, rfl, S3, g3, ex, hxl, xl⟩
  rw [← ex] at q
  walk_at "vc"
  refine ⟨l, rfl, ⟨_, SqL.of g3⟩, fun d1 hd1 => comp_gen (n := (xs.map V.str).length) (fun i x => (xs.map V.str)[i]? = some x) hd1 (small1000 (by rw [List.length_map]; omega)) (hJ_list (SqL.of g3)) (fun i ys _ => ys = ((((xs.take i).map (fun x => (x, w))).map fun p => decide (IsAp ap p)).map V.bl)) (fun σ => ∃ u, σ = [u, some (.ref f), some (.str w)]) rfl ⟨_, rfl⟩ ?_ ?_⟩
  · rintro n y ys σ H' R1 R0 hn hy ⟨u', rfl⟩ sm hDl hΦ k1 k0
    rw [List.getElem?_map] at hy
    cases e : xs[n]? with
    | none => rw [e] at hy; cases hy
    | some x =>
    rw [e] at hy
    cases (Option.some.inj hy)
    have Z := S3.trans sm
    walk_at "vc"
    refine ⟨f, b0, y1, y2, b3, y4, r3, ap, x, w, rfl, Z.seq hf, Z.seq h3, hR.same Z, hap, hxl x (List.mem_of_getElem? e), hw, fun H5 S5 => ?_⟩
    refine k1 _ _ _ S5 ⟨_, rfl⟩ ?_
    rw [hΦ, List.take_add_one, e, Option.toList_some, List.map_append, List.map_append, List.map_append]
    refine congrArg (_ ++ ·) ?_
    show [V.bl _] = [V.bl (decide (IsAp ap (x, w)))]
    exact congrArg (fun b => [V.bl b]) (decE Iff.rfl)
  intro ys H4 S4 hd4 _ hΦ
  rw [List.length_map, List.take_length] at hΦ
  subst hΦ
  walk_at "vc"
  refine vc_any (SqL.of hd4) ?_
  have Z4 := S3.trans S4
  walk_at "vc"
  by_cases e0 : firstAp ap (xs.map fun x => (x, w)) = none
  · have eb : ((xs.map fun x => (x, w)).map fun p => decide (IsAp ap p)).any id = false := by
      rw [Bool.eq_false_iff]
      exact fun z => (any_ap ap _).mp z e0
    rw [eb]
    walk_at "vc"
    refine q .non H4 Z4 ?_
    unfold spD
    rw [e0]
    exact .non
  have eb : ((xs.map fun x => (x, w)).map fun p => decide (IsAp ap p)).any id = true := (any_ap ap _).mpr e0
  rw [eb]
  obtain ⟨pp, epp⟩ := Option.ne_none_iff_exists'.mp e0
  unfold spD at q
  rw [epp] at q
  clear epp e0 eb
  walk_at "vc"
  refine ⟨sa, rfl, ⟨_, Z4.seq hsa⟩, for_list (xs := ss) (fun k σ H' => ∃ (u7 u8 : Option V), σ = [some (.ref f), some (.ref ua), some (.int i), some (.str w), some (.ref sa), some (.int a), some (.ref l), u7, u8] ∧ Same H H' ∧ fitGo ap (fun s => [(s, d), (w, s)] ++ (if 0 < i then [(u, s), (u, w)] else [])) (sps.drop k) = fitGo ap (fun s => [(s, d), (w, s)] ++ (if 0 < i then [(u, s), (u, w)] else [])) sps)
    ⟨_, _, rfl, Z4, rfl⟩ (fun k σ H' _ ⟨_, _, _, sm, _⟩ => sm.seq hsa) ?_ ?_⟩
  rotate_left
  · rintro σ H' ⟨u7, u8, rfl, sm, hgo⟩
    rw [List.drop_eq_nil_of_le (by rw [hS.length]; unfold fillDs; rw [List.length_map]; exact Nat.le_refl _)] at hgo
    walk_at "vc"
    refine q (.str "none") H' sm ?_
    rw [← hgo]
    exact .str _
  rintro k y σ H5 hy ⟨u7, u8, rfl, S5, hgo⟩
  obtain ⟨sp, b, hsp, rfl, hb⟩ := pair_of hS hy
  have hk : k < sps.length := (List.getElem?_eq_some_iff.mp hsp).1
  have ek : sps[k] = sp := (List.getElem?_eq_some_iff.mp hsp).2
  have ed' : sps.drop k = sp :: sps.drop (k + 1) := by rw [List.drop_eq_getElem_cons hk, ek]
  have lsp := hsl sp (List.mem_of_getElem? hsp)
  rw [ed', fitGo] at hgo
  have hb5 := S5.tup hb
  walk_at "vc"
  refine vc_ixL (S5.seq hua) hatd ?_
  walk_at "vc"
  refine ⟨(by show 2 ≤ sizeLine; decide), fun t1 ht1 => ?_⟩
  have X1 := same_new ht1 (.tup [.str sp.1, .str d])
  have gt1 : upd H5 t1 (.tup [.str sp.1, .str d]) t1 = some (.tup [.str sp.1, .str d]) := upd_same
  generalize upd H5 t1 (.tup [.str sp.1, .str d]) = H6 at *
  have hb6 := X1.tup hb5
  walk_at "vc"
  refine ⟨(by show 2 ≤ sizeLine; decide), fun t2 ht2 => ?_⟩
  have X2 := same_new ht2 (.tup [.str w, .str sp.1])
  have gt2 : upd H6 t2 (.tup [.str w, .str sp.1]) t2 = some (.tup [.str w, .str sp.1]) := upd_same
  generalize upd H6 t2 (.tup [.str w, .str sp.1]) = H7 at *
  walk_at "vc"
  refine ⟨(by show 2 ≤ sizeLine; decide), fun l2 hl2 => ?_⟩
  have X3 := same_new hl2 (.lst [.ref t1, .ref t2])
  have g7 : upd H7 l2 (.lst [.ref t1, .ref t2]) l2 = some (.lst [.ref t1, .ref t2]) := upd_same
  generalize upd H7 l2 (.lst [.ref t1, .ref t2]) = H8 at *
  have S8 := S5.trans (X1.trans (X2.trans X3))
  have hb8 := (X1.trans (X2.trans X3)).tup hb5
  have gt18 := X3 _ _ (X2 _ _ gt1)
  have gt28 := X3 _ _ gt2
  walk_at "vcs"
  with_reducible refine tSeq.join (fun σ H' => ∃ (l3 : Addr) (rs : List V), σ = [some (.ref f), some (.ref ua), some (.int i), some (.str w), some (.ref sa), some (.int a), some (.ref l), some (.ref b), some (.ref l3)] ∧ Same H8 H' ∧ H' l3 = some (.lst rs) ∧ Reps K H' rs (apartDs ([(sp.1, d), (w, sp.1)] ++ (if 0 < i then [(u, sp.1), (u, w)] else [])))) (fun R kk => ?_) ?_
  · walk_at "vc"
    refine ite2 (fun z => ?_) (fun z => ?_)
    · have z' : 0 < i := of_decide_eq_true z
      rw [if_pos z'] at kk
      walk_at "vc"
      refine vc_ixL (S8.seq hua) (hau1 z') ?_
      walk_at "vc"
      refine ⟨(by show 2 ≤ sizeLine; decide), fun t3 ht3 => ?_⟩
      have X4 := same_new ht3 (.tup [.str u, .str sp.1])
      have gt3 : upd H8 t3 (.tup [.str u, .str sp.1]) t3 = some (.tup [.str u, .str sp.1]) := upd_same
      generalize upd H8 t3 (.tup [.str u, .str sp.1]) = H9 at *
      walk_at "vc"
      refine vc_ixL ((S8.trans X4).seq hua) (hau1 z') ?_
      walk_at "vc"
      refine ⟨(by show 2 ≤ sizeLine; decide), fun t4 ht4 => ?_⟩
      have X5 := same_new ht4 (.tup [.str u, .str w])
      have gt4 : upd H9 t4 (.tup [.str u, .str w]) t4 = some (.tup [.str u, .str w]) := upd_same
      generalize upd H9 t4 (.tup [.str u, .str w]) = H10 at *
      walk_at "vc"
      refine ⟨(by show 2 ≤ sizeLine; decide), fun l4 hl4 => ?_⟩
      have X6 := same_new hl4 (.lst [.ref t3, .ref t4])
      have g10 : upd H10 l4 (.lst [.ref t3, .ref t4]) l4 = some (.lst [.ref t3, .ref t4]) := upd_same
      generalize upd H10 l4 (.lst [.ref t3, .ref t4]) = H11 at *
      have X46 := X4.trans (X5.trans X6)
      walk_at "vc"
      refine vc_cat (X46 _ _ g7) g10 (by show 4 ≤ sizeLine; decide) fun l5 hl5 => ?_
      have X7 := same_new hl5 (.lst ([.ref t1, .ref t2] ++ [.ref t3, .ref t4]))
      walk_at "vc"
      refine kk _ _ ⟨l5, [.ref t1, .ref t2] ++ [.ref t3, .ref t4], rfl, X46.trans X7, upd_same, ?_⟩
      have X47 := X46.trans X7
      exact .cons (.tup (SqT.of (X47 _ _ gt18)) (.cons (.str _) (.cons (.str _) .nil))) (.cons (.tup (SqT.of (X47 _ _ gt28)) (.cons (.str _) (.cons (.str _) .nil))) (.cons (.tup (SqT.of (X7 _ _ (X6 _ _ (X5 _ _ gt3)))) (.cons (.str _) (.cons (.str _) .nil))) (.cons (.tup (SqT.of (X7 _ _ (X6 _ _ gt4))) (.cons (.str _) (.cons (.str _) .nil))) .nil)))
    · have z' : ¬ 0 < i := fun h => z (decide_eq_true h)
      rw [if_neg z'] at kk
      walk_at "vc"
      exact kk _ _ ⟨l2, _, rfl, Same.refl _, g7, .cons (.tup (SqT.of gt18) (.cons (.str _) (.cons (.str _) .nil))) (.cons (.tup (SqT.of gt28) (.cons (.str _) (.cons (.str _) .nil))) .nil)⟩
  rintro σ H9 ⟨l3, rs9, rfl, S9, g9, hR9⟩
  have hL9 : ∀ p ∈ [(sp.1, d), (w, sp.1)] ++ (if 0 < i then [(u, sp.1), (u, w)] else []), Let p.1 ∧ Let p.2 := by
    refine app_let (fun p hp => ?_) (fun p hp => ?_)
    · simp only [List.mem_cons, List.not_mem_nil, or_false] at hp
      rcases hp with rfl | rfl
      · exact ⟨lsp, ld⟩
      · exact ⟨hw, lsp⟩
    · split at hp
      · simp only [List.mem_cons, List.not_mem_nil, or_false] at hp
        rcases hp with rfl | rfl
        · exact ⟨lu, lsp⟩
        · exact ⟨lu, hw⟩
      · cases hp
  have hl9 : ([(sp.1, d), (w, sp.1)] ++ (if 0 < i then [(u, sp.1), (u, w)] else [])).length ≤ 4 := by split <;> simp
  generalize [(sp.1, d), (w, sp.1)] ++ (if 0 < i then [(u, sp.1), (u, w)] else []) = LL at *
  have lr9 : rs9.length = LL.length := by rw [hR9.length]; unfold apartDs; rw [List.length_map]
  have Z9 := S8.trans S9
  walk_at "vc"
  refine ⟨l3, rfl, ⟨_, SqL.of g9⟩, fun d2 hd2 => comp_gen (n := rs9.length) (fun i x => rs9[i]? = some x) hd2 (small1000 (by omega)) (hJ_list (SqL.of g9)) (fun i ys _ => ys = (((LL.take i).map fun p => decide (IsAp ap p)).map V.bl)) (fun σ => ∃ u v, σ = [u, v, some (.ref f)]) rfl ⟨_, _, rfl⟩ ?_ ?_⟩
  · rintro n y ys σ H' R1 R0 hn hy ⟨u', v', rfl⟩ sm hDl hΦ k1 k0
    obtain ⟨p, b2, hp, rfl, hb2⟩ := two_of hR9 hy
    refine vc_asgT (sm.tup hb2) rfl ?_
    have Z := Z9.trans sm
    have lp := hL9 p (List.mem_of_getElem? hp)
    walk_at "vc"
    refine ⟨f, b0, y1, y2, b3, y4, r3, ap, p.1, p.2, rfl, Z.seq hf, Z.seq h3, hR.same Z, hap, lp.1, lp.2, fun H' S' => ?_⟩
    refine k1 _ _ _ S' ⟨_, _, rfl⟩ ?_
    rw [hΦ, List.take_add_one, hp, Option.toList_some, List.map_append, List.map_append]
    refine congrArg (_ ++ ·) ?_
    show [V.bl _] = [V.bl (decide (IsAp ap p))]
    exact congrArg (fun b => [V.bl b]) (decE Iff.rfl)
  intro ys H10 S10 hd10 _ hΦ
  rw [lr9, List.take_length] at hΦ
  subst hΦ
  walk_at "vc"
  refine vc_any (SqL.of hd10) ?_
  have Z10 := Z9.trans S10
  walk_at "vc"
  cases e1 : firstAp ap LL with
  | none =>
    rw [e1] at hgo
    have eb : (LL.map fun p => decide (IsAp ap p)).any id = false := by
      rw [Bool.eq_false_iff]
      exact fun z => (any_ap ap _).mp z e1
    rw [eb]
    walk_at "vc"
    refine q (.ref b) H10 Z10 ?_
    rw [← hgo]
    exact .tup ((S9.trans S10).tup hb8) (.cons (.str _) (.cons (.int _) .nil))
  | some pq =>
    rw [e1] at hgo
    have eb : (LL.map fun p => decide (IsAp ap p)).any id = true := (any_ap ap _).mpr (by rw [e1]; exact Option.some_ne_none _)
    rw [eb]
    walk_at "vc"
    exact ⟨_, _, rfl, Z10, hgo⟩
inductive spSpacers_ (K : PySem.W.Frag) (vs : List V) (H : Hp) (Q : VK) : Prop where
  | mk (c m : Int) (lw : Addr) (ws : List Str) : (vs = [.int c, .ref lw, .int m]) → (SqL K H lw (ws.map V.str)) → (Wares ws) → (1 ≤ m) → (m ≤ 100) → (∀ (l : Addr) (fs : List V) (ps : List (Str × Int)) (H' : Hp), H l = none → Same H H' → H' l = some (.lst fs) → Reps K (hid l H') fs (fillDs ps) → (∀ p ∈ ps, Let p.1) → ps.length ≤ 100 → Q (.ref l) H') → spSpacers_ K vs H Q
noncomputable def spSpacers (K : PySem.W.Frag) : Sp := fun vs H Q _ => spSpacers_ K vs H Q
theorem ok_l_spacers (T : Txt K mg t) : FnOk P w K mg base CX0 2 t.f_l_spacers t.d_l_spacers ["_law_cell", "_law_wares_here", "_law_many"] (spSpacers K) := by
  have G_l_mix := ok_l_mix (P := P) (w := w) (base := base) T
  refine T.D_l_spacers.F.ok sc_l_spacers (fun vs H Q E h => ?_) (fun cdv A outer s H vs Q E hr h => ?_)
  · obtain ⟨c, m, lw, ws, rfl, _⟩ := h
    rfl
  obtain ⟨c, m, lw, ws, rfl, hlw, W, m1, m2, q⟩ := h
  refine ⟨_, (pss_cons (q_set (i := 3) qv_l_spacers sc_l_spacers.nd rfl rfl rfl (pe_lst pa_nil))
      (pss_cons (ps_for PassesOwn.never rfl (pi_range1 (qgl qg_l_spacers 0 rfl rfl) T.z_range (pa_cons (pe_op op_mod (q_call G_l_mix (hr.mono (by decide)) qg_l_spacers 1 rfl rfl T.D_l_mix.m T.D_l_mix.F.kp T.D_l_mix.b .nil pass0 (pa_cons (qv qv_l_spacers 0 rfl rfl rfl) (pa_cons pe_int pa_nil))) (qv qv_l_spacers 2 rfl rfl rfl)) pa_nil)) (q_name (i := 4) qv_l_spacers sc_l_spacers.nd rfl rfl rfl) (pss_cons (q_set (i := 5) qv_l_spacers sc_l_spacers.nd rfl rfl rfl (q_call G_l_mix (hr.mono (by decide)) qg_l_spacers 1 rfl rfl T.D_l_mix.m T.D_l_mix.F.kp T.D_l_mix.b .nil pass0 (pa_cons (qv qv_l_spacers 0 rfl rfl rfl) (pa_cons (pe_op op_add pe_int (qv qv_l_spacers 4 rfl rfl rfl)) pa_nil))))
      (pss_one (ps_expr (pe_bm PySem.F.plainAttrs_list PySem.F.slot_list_append PySem.F.type_list_append mt_appendR (qv qv_l_spacers 3 rfl rfl rfl) (pa_cons (pe_tup (pa_cons (pe_ix ix_list (qv qv_l_spacers 1 rfl rfl rfl) (pe_op op_mod (qv qv_l_spacers 5 rfl rfl rfl) pe_int) (fun _ _ => rfl)) (pa_cons (pe_op op_add pe_int (pe_op op_mod (pe_op op_fdiv (qv qv_l_spacers 5 rfl rfl rfl) pe_int) pe_int)) pa_nil))) pa_nil))))))
      (pss_one (ps_ret (qv qv_l_spacers 3 rfl rfl rfl))))), ?_⟩
  walk_at "vc"
  refine ⟨Nat.zero_le _, fun l hl => ?_⟩
  have Y := same_new hl (.lst [])
  have g : upd H l (.lst []) l = some (.lst []) := upd_same
  generalize upd H l (.lst []) = H1 at *
  walk_at "vc"
  have b0 := Int.emod_nonneg (mix c 800) (show m ≠ 0 by omega)
  have b1 := Int.emod_lt_of_pos (mix c 800) (show 0 < m by omega)
  generalize mix c 800 % m = nn at *
  refine ⟨_, rfl, by omega, by omega, for_range (n := nn.toNat) (fun i σ H' => ∃ (fs : List V) (ps : List (Str × Int)) (u4 u5 : Option V), σ = [some (.int c), some (.ref lw), some (.int m), some (.ref l), u4, u5] ∧ Same H H' ∧ H' l = some (.lst fs) ∧ Reps K (hid l H') fs (fillDs ps) ∧ (∀ p ∈ ps, Let p.1) ∧ ps.length = i)
    ⟨[], [], _, _, rfl, Y, g, .nil, (by intro p hp; cases hp), rfl⟩ ?_ ?_⟩
  rotate_left
  · rintro σ H' ⟨fs, ps, u4, u5, rfl, sm, hl', hF, hps, hlen⟩
    walk_at "vc"
    exact q l fs ps H' hl sm hl' hF hps (by omega)
  rintro i σ H' hi ⟨fs, ps, u4, u5, rfl, sm, hl', hF, hps, hlen⟩
  have lf : fs.length = ps.length := by rw [hF.length]; unfold fillDs; rw [List.length_map]
  walk_at "vc"
  refine ⟨tyV_list (SqL.of hl'), ?_⟩
  walk_at "vc"
  generalize mix c (801 + (0 + (i : Int))) = o at *
  have i0 := Int.emod_nonneg o (show (6 : Int) ≠ 0 by decide)
  have i1 := Int.emod_lt_of_pos o (show (0 : Int) < 6 by decide)
  obtain ⟨ni, ei⟩ : ∃ ni : Nat, o % 6 = 0 + (ni : Int) := ⟨(o % 6).toNat, by omega⟩
  obtain ⟨wi, hwi, mi⟩ : ∃ wi, atI (ws.map V.str) (o % 6) = some (.str wi) ∧ wi ∈ ws := ⟨ws.getD ni (Str.ofString ""), by rw [ei]; exact atW W.len (by omega), getD_mem (by rw [W.len]; omega)⟩
  refine vc_ixL (sm.seq hlw) hwi ?_
  walk_at "vc"
  refine ⟨(by show 2 ≤ sizeLine; decide), fun b hb => ?_⟩
  have sb := same_new hb (.tup [.str wi, .int (1 + o / 6 % 5)])
  have hbl : b ≠ l := fun e => by rw [e, hl'] at hb; cases hb
  walk_at "vc"
  refine vc_append (K := K) (sb _ _ hl') (small1000 (by omega)) ?_
  walk_at "vc"
  refine ⟨fs ++ [.ref b], ps ++ [(wi, 1 + o / 6 % 5)], _, _, rfl, (sm.trans sb).updD hl, upd_same, ?_, ?_, by rw [List.length_append, List.length_singleton, hlen]⟩
  · rw [hid_upd, fill_snoc]
    exact (hF.same sb.hid).append (.one (.tup (SqT.of (by rw [hid_ne hbl]; exact upd_same)) (.cons (.str _) (.cons (.int _) .nil))))
  · intro p hp
    rcases List.mem_append.mp hp with hp | hp
    · exact hps p hp
    · rw [List.mem_singleton] at hp
      rw [hp]
      exact (W.ok _ mi).1
open PySem.W in
open Classical in
noncomputable def ansD (rooms : List Int) (ps : List Lie) (ap : List (Str × Str)) (sps : List (Str × Int)) (i j : Int) (w : Str) : Dat :=
  if IsWay rooms i j then spD ap (atL ps (rooms.take i.toNat).sum w ((wareGo 0 ps (rooms.take i.toNat).sum).getD w)) (progL ps (rooms.take i.toNat).sum w ((wareGo 0 ps (rooms.take i.toNat).sum).getD w)) sps else .str "way"
theorem one_false : ∀ m, m < 1 → [false, true, false][m]? = some false := by
  intro m hm
  have : m = 0 := by omega
  rw [this]
  rfl
inductive spAsked_ (K : PySem.W.Frag) (C D : Addr) (vs : List V) (H : Hp) (Q : VK) : Prop where
  | mk (x p o ly rd m1 m2 m3 m4 sa pa : Addr) (pg : V) (rooms : List Int) (s2 s3 s4 ls ss : List V) (ps : List Lie) (ap : List (Str × Str)) (sps : List (Str × Int)) (i j : Int) (w : Str) (v3 v4 : V) : (vs = [.ref x, .ref pa, .ref sa]) → (SqT K H pa [.int i, .int j, .str w, v3, v4]) → (SpIn K H C D x p o ly rd m1 m2 m3 m4 sa pg rooms s2 s3 s4 ls ss ps ap sps w) → (∀ (v : V) (H' : Hp), Same H H' → Rep K H' v (ansD rooms ps ap sps i j w) → Q v H') → spAsked_ K C D vs H Q
noncomputable def spAsked (K : PySem.W.Frag) (C D : Addr) : Sp := fun vs H Q _ => spAsked_ K C D vs H Q
theorem ok_l_asked (T : Txt K mg t) : FnOk P w K mg base CX0 5 t.f_l_asked t.d_l_asked ["_law_content", "_law_push_here", "_law_spacers_here"] (spAsked K t.c_Pipe t.c_Content) := by
  have G_spacer_for := ok_spacer_for (P := P) (w := w) (base := base) T
  refine T.D_l_asked.F.ok sc_l_asked (fun vs H Q E h => ?_) (fun cdv A outer s H vs Q E hr h => ?_)
  · obtain ⟨x, p, o, ly, rd, m1, m2, m3, m4, sa, pa, pg, rooms, s2, s3, s4, ls, ss, ps, ap, sps, i, j, w, v3, v4, rfl, _⟩ := h
    rfl
  obtain ⟨x, p, o, ly, rd, m1, m2, m3, m4, sa, pa, pg, rooms, s2, s3, s4, ls, ss, ps, ap, sps, i, j, w, v3, v4, rfl, hpa, I, q⟩ := h
  refine ⟨_, (pss_cons (q_set (i := 3) qv_l_asked sc_l_asked.nd rfl rfl rfl pe_non)
      (pss_cons (q_set (i := 4) qv_l_asked sc_l_asked.nd rfl rfl rfl pe_non)
      (pss_cons (ps_tryA rfl rfl rfl (qgl qg_l_asked 1 rfl rfl) T.c_PipeError sc_l_asked.nd (i := 5) rfl rfl (j := 3) rfl (VOk.at qv_l_asked (i := 3) rfl).2 (fun _ => (pss_one (q_set (i := 4) qv_l_asked sc_l_asked.nd rfl rfl rfl (qv qv_l_asked 5 rfl rfl rfl)))) (px_call G_spacer_for (hr.mono (by decide)) (qgl qg_l_asked 0 rfl rfl) T.D_spacer_for.m T.D_spacer_for.F.kp T.D_spacer_for.b .nil (pa_cons (qv qv_l_asked 0 rfl rfl rfl) (pa_cons (pe_ix ix_tup (qv qv_l_asked 1 rfl rfl rfl) pe_int (fun _ _ => rfl)) (pa_cons (pe_ix ix_tup (qv qv_l_asked 1 rfl rfl rfl) pe_int (fun _ _ => rfl)) (pa_cons (pe_ix ix_tup (qv qv_l_asked 1 rfl rfl rfl) pe_int (fun _ _ => rfl)) (pa_cons (qv qv_l_asked 2 rfl rfl rfl) pa_nil)))))))
      (pss_cons (ps_if (pt_cmp (pc_isN (qv qv_l_asked 4 rfl rfl rfl))) (pss_one (ps_ret (qv qv_l_asked 3 rfl rfl rfl))) pss_nil)
      (pss_cons (q_set (i := 6) qv_l_asked sc_l_asked.nd rfl rfl rfl (pe_lst (pa_cons (q_callB call_isX qg_l_asked 2 rfl rfl T.z_isinstance bo_isinstance (pa_cons (qv qv_l_asked 4 rfl rfl rfl) (pa_cons (q_glob (v := .ref t.c_NoWay) qg_l_asked 3 rfl rfl T.c_NoWay rfl) pa_nil))) (pa_cons (q_callB call_isX qg_l_asked 2 rfl rfl T.z_isinstance bo_isinstance (pa_cons (qv qv_l_asked 4 rfl rfl rfl) (pa_cons (q_glob (v := .ref t.c_NoSpacer) qg_l_asked 4 rfl rfl T.c_NoSpacer rfl) pa_nil))) (pa_cons (q_callB call_isX qg_l_asked 2 rfl rfl T.z_isinstance bo_isinstance (pa_cons (qv qv_l_asked 4 rfl rfl rfl) (pa_cons (q_glob (v := .ref t.c_Touch) qg_l_asked 5 rfl rfl T.c_Touch rfl) pa_nil))) pa_nil)))))
      (pss_cons (ps_if (PW.pt (pw_or (pt_cmpR op_ne (pe_bm PySem.F.plainAttrs_list PySem.F.slot_list_count PySem.F.type_list_count mt_countT (qv qv_l_asked 6 rfl rfl rfl) (pa_cons pe_bl pa_nil)) pe_int (nomark _)) (pw_or1 (pt_not (pt_val (q_callB call_isX qg_l_asked 2 rfl rfl T.z_isinstance bo_isinstance (pa_cons (qv qv_l_asked 4 rfl rfl rfl) (pa_cons (q_bltn (v := .ty "ValueError") qg_l_asked 6 rfl rfl T.z_ValueError bo_ValueError rfl) pa_nil)))))))) (pss_one (ps_ret pe_str)) pss_nil)
      (pss_one (ps_ret (pe_ix ix_list (pe_lst (pa_cons pe_str (pa_cons pe_str (pa_cons pe_str pa_nil)))) (pe_bm PySem.F.plainAttrs_list PySem.F.slot_list_index PySem.F.type_list_index mt_indexT (qv qv_l_asked 6 rfl rfl rfl) (pa_cons pe_bl pa_nil)) (fun _ _ => rfl)))))))))), ?_⟩
  walk_at "vc"
  unfold tTryA
  walk_at "vc"
  refine ⟨x, p, o, ly, rd, m1, m2, m3, m4, sa, pg, rooms, s2, s3, s4, ls, ss, ps, ap, sps, i, j, w, rfl, I, fun hn H1 S1 => ?_, fun hw d ed => ⟨fun e H1 S1 => ?_, fun qq eq => ⟨fun s r H1 ef S1 g1 => ?_, fun ef H1 S1 => ?_⟩⟩⟩
  · refine ⟨t.c_NoWay, rfl, T.e_NoWay_PipeError, fun a ha => ?_⟩
    have hE : upd H1 a (.ext (xPhi a t.c_NoWay none)) a = some (.ext (xPhi a t.c_NoWay none)) := upd_same
    have Sa := same_new ha (.ext (xPhi a t.c_NoWay none))
    generalize upd H1 a (.ext (xPhi a t.c_NoWay none)) = H2 at *
    have XDv : XD none [] H2 := rfl
    have kx := kx_same hE XDv T.X_NoWay (Same.refl _)
    unfold tHeld
    walk_at "vc"
    rw [dec_false (fun z => by cases z)]
    walk_at "vc"
    refine vc_isX kx rfl T.k_NoWay_NoWay ?_
    walk_at "vc"
    refine vc_isX kx rfl T.k_NoWay_NoSpacer ?_
    walk_at "vc"
    refine vc_isX kx rfl T.k_NoWay_Touch ?_
    walk_at "vc"
    refine ⟨(by show 3 ≤ sizeLine; decide), fun lk hlk => ?_⟩
    have Sk := same_new hlk (.lst [.bl true, .bl false, .bl false])
    have gk : upd H2 lk (.lst [.bl true, .bl false, .bl false]) lk = some (.lst ([true, false, false].map V.bl)) := upd_same
    generalize upd H2 lk (.lst [.bl true, .bl false, .bl false]) = H3 at *
    walk_at "vc"
    refine ⟨tyV_list (SqL.of gk), ?_⟩
    walk_at "vc"
    refine ⟨lk, [true, false, false], rfl, rfl, gk, ?_⟩
    walk_at "vc"
    refine iteNS rfl ?_
    walk_at "vc"
    refine vc_isX (kx_same hE XDv T.X_NoWay Sk) rfl T.k_NoWay_ValueError ?_
    walk_at "vc"
    refine ⟨(by show 3 ≤ sizeLine; decide), fun lt hlt => ?_⟩
    have St := same_new hlt (.lst [.str "way", .str "none", .str "odd"])
    have gt : upd H3 lt (.lst [.str "way", .str "none", .str "odd"]) lt = some (.lst [.str "way", .str "none", .str "odd"]) := upd_same
    generalize upd H3 lt (.lst [.str "way", .str "none", .str "odd"]) = H4 at *
    walk_at "vc"
    refine ⟨tyV_list (SqL.of (St _ _ gk)), ?_⟩
    walk_at "vc"
    refine ⟨lk, [true, false, false], 0, rfl, rfl, St _ _ gk, by decide, rfl, (by intro m hm; omega), ?_⟩
    refine vc_ixL (SqL.of gt) (x := .str "way") rfl ?_
    walk_at "vc"
    refine q (.str "way") _ (S1.trans (Sa.trans (Sk.trans St))) ?_
    unfold ansD
    rw [if_neg hn]
    exact .str _
  · walk_at "vc"
    rw [dec_true rfl]
    walk_at "vc"
    refine q .non H1 S1 ?_
    unfold ansD spD
    rw [if_pos hw, ed, Option.getD_some, e]
    exact .non
  · walk_at "vc"
    rw [dec_true rfl]
    walk_at "vc"
    refine q (.ref r) H1 S1 ?_
    unfold ansD spD
    rw [if_pos hw, ed, Option.getD_some, eq]
    dsimp only
    rw [ef]
    exact .tup (SqT.of g1) (.cons (.str _) (.cons (.int _) .nil))
  · refine ⟨t.c_NoSpacer, rfl, T.e_NoSpacer_PipeError, fun a ha => ?_⟩
    have hE : upd H1 a (.ext (xPhi a t.c_NoSpacer none)) a = some (.ext (xPhi a t.c_NoSpacer none)) := upd_same
    have Sa := same_new ha (.ext (xPhi a t.c_NoSpacer none))
    generalize upd H1 a (.ext (xPhi a t.c_NoSpacer none)) = H2 at *
    have XDv : XD none [] H2 := rfl
    have kx := kx_same hE XDv T.X_NoSpacer (Same.refl _)
    unfold tHeld
    walk_at "vc"
    rw [dec_false (fun z => by cases z)]
    walk_at "vc"
    refine vc_isX kx rfl T.k_NoSpacer_NoWay ?_
    walk_at "vc"
    refine vc_isX kx rfl T.k_NoSpacer_NoSpacer ?_
    walk_at "vc"
    refine vc_isX kx rfl T.k_NoSpacer_Touch ?_
    walk_at "vc"
    refine ⟨(by show 3 ≤ sizeLine; decide), fun lk hlk => ?_⟩
    have Sk := same_new hlk (.lst [.bl false, .bl true, .bl false])
    have gk : upd H2 lk (.lst [.bl false, .bl true, .bl false]) lk = some (.lst ([false, true, false].map V.bl)) := upd_same
    generalize upd H2 lk (.lst [.bl false, .bl true, .bl false]) = H3 at *
    walk_at "vc"
    refine ⟨tyV_list (SqL.of gk), ?_⟩
    walk_at "vc"
    refine ⟨lk, [false, true, false], rfl, rfl, gk, ?_⟩
    walk_at "vc"
    refine iteNS rfl ?_
    walk_at "vc"
    refine vc_isX (kx_same hE XDv T.X_NoSpacer Sk) rfl T.k_NoSpacer_ValueError ?_
    walk_at "vc"
    refine ⟨(by show 3 ≤ sizeLine; decide), fun lt hlt => ?_⟩
    have St := same_new hlt (.lst [.str "way", .str "none", .str "odd"])
    have gt : upd H3 lt (.lst [.str "way", .str "none", .str "odd"]) lt = some (.lst [.str "way", .str "none", .str "odd"]) := upd_same
    generalize upd H3 lt (.lst [.str "way", .str "none", .str "odd"]) = H4 at *
    walk_at "vc"
    refine ⟨tyV_list (SqL.of (St _ _ gk)), ?_⟩
    walk_at "vc"
    refine ⟨lk, [false, true, false], 1, rfl, rfl, St _ _ gk, by decide, rfl, one_false, ?_⟩
    refine vc_ixL (SqL.of gt) (x := .str "none") rfl ?_
    walk_at "vc"
    refine q (.str "none") _ (S1.trans (Sa.trans (Sk.trans St))) ?_
    unfold ansD spD
    rw [if_pos hw, ed, Option.getD_some, eq]
    dsimp only
    rw [ef]
    exact .str _
theorem law_spD {ps : List Lie} {rooms : List Int} (O : LiesOk ps rooms) {ap : List (Str × Str)} {sps : List (Str × Int)} {i j : Int} {w : Str} (hw : IsWay rooms i j) :
    spD ap (rndL (un ps) (rooms.take i.toNat).sum.toNat i w) (shutL (un ps) (rooms.take i.toNat).sum.toNat i w) sps = ansD rooms ps ap sps i j w := by
  obtain ⟨w1, w2, w3⟩ := id hw
  obtain ⟨z1, z2, z3⟩ := sum_take O.rpos (i := i.toNat) (j := j.toNat) (by omega) (by omega)
  have hai : 0 < (rooms.take i.toNat).sum ↔ 0 < i := by
    constructor
    · intro h
      by_cases h2 : 0 < i
      · exact h2
      · have e0 : i.toNat = 0 := by omega
        rw [e0, List.take_zero, List.sum_nil] at h
        omega
    · intro h
      have := sum_take O.rpos (i := 0) (j := i.toNat) (by omega) (by omega)
      rw [List.take_zero, List.sum_nil] at this
      exact this.1
  unfold ansD
  rw [if_pos hw]
  have ed : (wareGo 0 ps (rooms.take i.toNat).sum).getD w = (un ps).getD (rooms.take i.toNat).sum.toNat w := by
    rw [ware_un ps 0 _ O.pos z2, Int.sub_zero, List.getD_eq_getElem?_getD]
  have eu : ∀ s : Str, 0 < i → (wareGo 0 ps ((rooms.take i.toNat).sum - 1)).getD s = (un ps).getD ((rooms.take i.toNat).sum.toNat - 1) s := fun s h => by
    have := hai.mpr h
    rw [ware_un ps 0 _ O.pos (by omega), Int.sub_zero, List.getD_eq_getElem?_getD, show ((rooms.take i.toNat).sum - 1).toNat = (rooms.take i.toNat).sum.toNat - 1 by omega]
  have lu : 0 < i → (rooms.take i.toNat).sum.toNat - 1 < (un ps).length := fun h => by
    have h1 := (un_len (ls := ps) fun q hq => by have := O.pos q hq; omega).1
    have h2 := O.sum
    have := hai.mpr h
    omega
  rw [ed]
  have ahd : ∀ s : Str, aheadL ps (rooms.take i.toNat).sum s = if 0 < i then [((un ps).getD ((rooms.take i.toNat).sum.toNat - 1) w, s)] else [] := fun s => by
    unfold aheadL
    by_cases h : 0 < i
    · rw [if_pos h, if_pos (hai.mpr h), eu s h, List.getD_eq_getElem?_getD, List.getD_eq_getElem?_getD, List.getElem?_eq_getElem (lu h)]
      rfl
    · rw [if_neg h, if_neg fun z => h (hai.mp z)]
  unfold rndL shutL atL progL
  generalize (un ps).getD (rooms.take i.toNat).sum.toNat w = d at *
  refine spD_congr ?_ (fun s => ?_) sps
  · rw [ahd, none_iff, none_iff]
    by_cases h : 0 < i
    · simp only [if_pos h, List.mem_append, List.mem_singleton, or_imp, forall_and, forall_eq]
      rw [isAp_comm (x := d) (y := w)]
      exact And.comm
    · simp only [if_neg h, List.append_nil, List.nil_append, List.mem_singleton, forall_eq]
      rw [isAp_comm (x := d) (y := w)]
  · rw [ahd, ahd, none_iff, none_iff]
    by_cases h : 0 < i
    · simp only [if_pos h, List.mem_append, List.mem_cons, List.not_mem_nil, or_false, or_imp, forall_and, forall_eq]
      constructor
      · rintro ⟨⟨a, b⟩, c, e⟩
        exact ⟨⟨⟨c, a⟩, b⟩, e⟩
      · rintro ⟨⟨⟨c, a⟩, b⟩, e⟩
        exact ⟨⟨a, b⟩, c, e⟩
    · simp only [if_neg h, List.append_nil, List.nil_append, List.mem_append, List.mem_cons, List.not_mem_nil, or_false, or_imp, forall_and, forall_eq]
open PySem.W in
theorem ans_kqd {rooms : List Int} {ps : List Lie} {ap : List (Str × Str)} {sps : List (Str × Int)} {i j : Int} {w : Str} (h : ∀ s ∈ sps, Let s.1) : kqdOk 9 (ansD rooms ps ap sps i j w) = true := by
  have fit : ∀ (L : Str → List (Str × Str)) (qs : List (Str × Int)) (s : Str × Int), fitGo ap L qs = some s → s ∈ qs := fun L qs => by
    induction qs with
    | nil => intro s e; cases e
    | cons q r ih =>
      intro s e
      rw [fitGo] at e
      cases e1 : firstAp ap (L q.1) with
      | none => rw [e1] at e; exact (Option.some.inj e) ▸ List.mem_cons_self
      | some p => rw [e1] at e; exact List.mem_cons_of_mem _ (ih s e)
  have lt : ∀ x : Str, (∀ c ∈ x.cps.toList, c < 128) → kqdOk 9 (.str x) = true := fun x hx => by
    have e : PyData.strOk x = true := by
      unfold PyData.strOk
      rw [Array.all_eq_true_iff_forall_mem]
      intro c hc
      have := hx c (by simpa using hc)
      simp only [decide_eq_true_eq]
      omega
    exact e
  unfold ansD
  split
  · unfold spD
    split
    · rfl
    · split
      · rename_i s e
        simp only [kqdOk, List.all_cons, List.all_nil, Bool.and_true]
        exact str_ok (h s (fit _ _ s e)) 8
      · exact lt _ (by decide)
  · exact lt _ (by decide)
inductive spLaw_ (K : PySem.W.Frag) (vs : List V) (H : Hp) (Q : VK) : Prop where
  | mk (a : Addr) (ns : List Int) : (vs = [.ref a]) → (SqL K H a (ns.map V.int)) → (ns.length ≤ 63) → (∀ H', Q (.bl true) H') → spLaw_ K vs H Q
noncomputable def spLaw (K : PySem.W.Frag) : Sp := fun vs H Q _ => spLaw_ K vs H Q
open PySem.W in
theorem fill_kqd {ps : List (Str × Int)} (h : ∀ p ∈ ps, Let p.1) : kqdOk 9 (.list (fillDs ps)) = true := by
  unfold fillDs
  simp only [kqdOk, List.all_eq_true, List.mem_map]
  rintro x ⟨p, hp, rfl⟩
  simp only [kqdOk, List.all_cons, List.all_nil, Bool.and_true]
  exact str_ok (h p hp) 7
theorem ok_law (T : Txt K mg t) : FnOk P w K mg base CX0 6 t.f_law t.d_law ["_law_script"] (spLaw K) := by
  have G_l_wares := ok_l_wares (P := P) (w := w) (base := base) T
  have G_l_at := ok_l_at (P := P) (w := w) (base := base) T
  have G_l_pipe := ok_l_pipe (P := P) (w := w) (base := base) T
  have G_l_fill := ok_l_fill (P := P) (w := w) (base := base) T
  have G_Content___init__ := ok_Content___init__ (P := P) (w := w) (base := base) T
  have G_l_of := ok_l_of (P := P) (w := w) (base := base) T
  have G_l_kept := ok_l_kept (P := P) (w := w) (base := base) T
  have G_l_push := ok_l_push (P := P) (w := w) (base := base) T
  have G_l_spacers := ok_l_spacers (P := P) (w := w) (base := base) T
  have G_l_mix := ok_l_mix (P := P) (w := w) (base := base) T
  have G_l_spacer := ok_l_spacer (P := P) (w := w) (base := base) T
  have G_l_units := ok_l_units (P := P) (w := w) (base := base) T
  have G_l_asked := ok_l_asked (P := P) (w := w) (base := base) T
  refine T.D_law.F.ok sc_law (fun vs H Q E h => ?_) (fun cdv A outer s H vs Q E hr h => ?_)
  · obtain ⟨a, ns, rfl, _⟩ := h
    rfl
  obtain ⟨a, ns, rfl, hS, hlen, q⟩ := h
  refine ⟨_, (pss_cons (q_set (i := 1) qv_law sc_law.nd rfl rfl rfl (q_call G_l_wares (hr.mono (by decide)) qg_law 0 rfl rfl T.D_l_wares.m T.D_l_wares.F.kp T.D_l_wares.b .nil pass0 (pa_cons (q_call G_l_at (hr.mono (by decide)) qg_law 1 rfl rfl T.D_l_at.m T.D_l_at.F.kp T.D_l_at.b .nil pass0 (pa_cons (qv qv_law 0 rfl rfl rfl) (pa_cons pe_int pa_nil))) pa_nil)))
      (pss_cons (q_set (i := 2) qv_law sc_law.nd rfl rfl rfl (q_call G_l_pipe (hr.mono (by decide)) qg_law 2 rfl rfl T.D_l_pipe.m T.D_l_pipe.F.kp T.D_l_pipe.b .nil pass0 (pa_cons (q_call G_l_at (hr.mono (by decide)) qg_law 1 rfl rfl T.D_l_at.m T.D_l_at.F.kp T.D_l_at.b .nil pass0 (pa_cons (qv qv_law 0 rfl rfl rfl) (pa_cons pe_int pa_nil))) (pa_cons (qv qv_law 1 rfl rfl rfl) (pa_cons pe_int pa_nil)))))
      (pss_cons (q_set (i := 3) qv_law sc_law.nd rfl rfl rfl (q_call G_l_fill (hr.mono (by decide)) qg_law 3 rfl rfl T.D_l_fill.m T.D_l_fill.F.kp T.D_l_fill.b .nil pass0 (pa_cons (qv qv_law 2 rfl rfl rfl) (pa_cons (q_call G_l_at (hr.mono (by decide)) qg_law 1 rfl rfl T.D_l_at.m T.D_l_at.F.kp T.D_l_at.b .nil pass0 (pa_cons (qv qv_law 0 rfl rfl rfl) (pa_cons pe_int pa_nil))) (pa_cons (qv qv_law 1 rfl rfl rfl) pa_nil)))))
      (pss_cons (q_set (i := 4) qv_law sc_law.nd rfl rfl rfl (q_make T.M_Content G_Content___init__ (hr.mono (by decide)) qg_law 4 rfl rfl T.c_Content T.b_Content___init__ .nil pass0 (pa_cons (q_call G_l_of (hr.mono (by decide)) qg_law 5 rfl rfl T.D_l_of.m T.D_l_of.F.kp T.D_l_of.b .nil pass0 (pa_cons (qv qv_law 2 rfl rfl rfl) pa_nil)) (pa_cons (q_callTy call_listR qg_law 6 rfl rfl T.z_list bo_list (pa_cons (qv qv_law 3 rfl rfl rfl) pa_nil)) pa_nil))))
      (pss_cons (q_set (i := 5) qv_law sc_law.nd rfl rfl rfl (q_call G_l_kept (hr.mono (by decide)) qg_law 7 rfl rfl T.D_l_kept.m T.D_l_kept.F.kp T.D_l_kept.b .nil pass0 (pa_cons (qv qv_law 4 rfl rfl rfl) pa_nil)))
      (pss_cons (ps_for PassesOwn.never rfl (pi_enum (qgl qg_law 8 rfl rfl) T.z_enumerate (pa_cons (pe_slice sl_list (qv qv_law 0 rfl rfl rfl) (po_some pe_int) (po_some pe_int)) pa_nil)) (pg_tup rfl (pgs_cons (q_name (i := 6) qv_law sc_law.nd rfl rfl rfl) (pgs_cons (q_name (i := 7) qv_law sc_law.nd rfl rfl rfl) pgs_nil))) (pss_cons (q_set (i := 8) qv_law sc_law.nd rfl rfl rfl (q_call G_l_push (hr.mono (by decide)) qg_law 9 rfl rfl T.D_l_push.m T.D_l_push.F.kp T.D_l_push.b .nil pass0 (pa_cons (qv qv_law 2 rfl rfl rfl) (pa_cons (qv qv_law 7 rfl rfl rfl) (pa_cons (qv qv_law 6 rfl rfl rfl) (pa_cons (qv qv_law 1 rfl rfl rfl) pa_nil))))))
      (pss_cons (q_set (i := 9) qv_law sc_law.nd rfl rfl rfl (q_call G_l_spacers (hr.mono (by decide)) qg_law 10 rfl rfl T.D_l_spacers.m T.D_l_spacers.F.kp T.D_l_spacers.b .nil pass0 (pa_cons (qv qv_law 7 rfl rfl rfl) (pa_cons (qv qv_law 1 rfl rfl rfl) (pa_cons (pe_ix ix_list (pe_lst (pa_cons pe_int (pa_cons pe_int pa_nil))) (pe_op op_mod (qv qv_law 6 rfl rfl rfl) pe_int) (fun _ _ => rfl)) pa_nil)))))
      (pss_cons (q_set (i := 10) qv_law sc_law.nd rfl rfl rfl pe_str)
      (pss_cons (ps_if (pt_cmpR op_eq (pe_op op_mod (q_call G_l_mix (hr.mono (by decide)) qg_law 11 rfl rfl T.D_l_mix.m T.D_l_mix.F.kp T.D_l_mix.b .nil pass0 (pa_cons (qv qv_law 7 rfl rfl rfl) (pa_cons pe_int pa_nil))) pe_int) pe_int (nomark _)) (pss_one (q_set (i := 8) qv_law sc_law.nd rfl rfl rfl (pe_op op_catT (pe_ix ix_list (pe_lst (pa_cons (pe_tup (pa_cons pe_int (pa_cons pe_int pa_nil))) (pa_cons (pe_tup (pa_cons (pe_un un_neg pe_int) (pa_cons pe_int pa_nil))) (pa_cons (pe_tup (pa_cons pe_int (pa_cons (pe_op op_add (q_callB call_lenR qg_law 12 rfl rfl T.z_len bo_len (pa_cons (pe_ix ix_list (qv qv_law 2 rfl rfl rfl) pe_int (fun _ _ => rfl)) pa_nil)) pe_int) pa_nil))) (pa_cons (pe_tup (pa_cons (q_callB call_lenR qg_law 12 rfl rfl T.z_len bo_len (pa_cons (pe_ix ix_list (qv qv_law 2 rfl rfl rfl) pe_int (fun _ _ => rfl)) pa_nil)) (pa_cons pe_int pa_nil))) pa_nil))))) (pe_op op_mod (q_call G_l_mix (hr.mono (by decide)) qg_law 11 rfl rfl T.D_l_mix.m T.D_l_mix.F.kp T.D_l_mix.b .nil pass0 (pa_cons (qv qv_law 7 rfl rfl rfl) (pa_cons pe_int pa_nil))) pe_int) (fun _ _ => rfl)) (pe_slice sl_tup (qv qv_law 8 rfl rfl rfl) (po_some pe_int) po_none)))) (pss_one (q_set (i := 10) qv_law sc_law.nd rfl rfl rfl (q_call G_l_spacer (hr.mono (by decide)) qg_law 13 rfl rfl T.D_l_spacer.m T.D_l_spacer.F.kp T.D_l_spacer.b .nil pass0 (pa_cons (qv qv_law 2 rfl rfl rfl) (pa_cons (q_call G_l_units (hr.mono (by decide)) qg_law 14 rfl rfl T.D_l_units.m T.D_l_units.F.kp T.D_l_units.b .nil pass0 (pa_cons (qv qv_law 3 rfl rfl rfl) pa_nil)) (pa_cons (pe_ix ix_tup (qv qv_law 8 rfl rfl rfl) pe_int (fun _ _ => rfl)) (pa_cons (pe_ix ix_tup (qv qv_law 8 rfl rfl rfl) pe_int (fun _ _ => rfl)) (pa_cons (qv qv_law 9 rfl rfl rfl) pa_nil)))))))))
      (pss_cons (q_set (i := 11) qv_law sc_law.nd rfl rfl rfl (q_callTy call_listR qg_law 6 rfl rfl T.z_list bo_list (pa_cons (qv qv_law 9 rfl rfl rfl) pa_nil)))
      (pss_one (ps_if (PW.pt (pw_or (pt_cmpR (op_neD hr.units) (q_call G_l_asked (hr.mono (by decide)) qg_law 15 rfl rfl T.D_l_asked.m T.D_l_asked.F.kp T.D_l_asked.b .nil pass0 (pa_cons (qv qv_law 4 rfl rfl rfl) (pa_cons (qv qv_law 8 rfl rfl rfl) (pa_cons (qv qv_law 11 rfl rfl rfl) pa_nil)))) (qv qv_law 10 rfl rfl rfl) (nomark _)) (pw_or (pt_cmpR (op_neD hr.units) (qv qv_law 11 rfl rfl rfl) (qv qv_law 9 rfl rfl rfl) (nomark _)) (pw_or1 (pt_cmpR (op_neD hr.units) (q_call G_l_kept (hr.mono (by decide)) qg_law 7 rfl rfl T.D_l_kept.m T.D_l_kept.F.kp T.D_l_kept.b .nil pass0 (pa_cons (qv qv_law 4 rfl rfl rfl) pa_nil)) (qv qv_law 5 rfl rfl rfl) (nomark _)))))) (pss_one (ps_ret pe_bl)) pss_nil))))))))
      (pss_one (ps_ret pe_bl)))))))), ?_⟩
  walk_at "vc"
  refine ⟨a, 0, ns, rfl, hS, Int.le_refl _, hlen, fun c0 => ?_⟩
  walk_at "vc"
  refine ⟨c0, rfl, fun lw ws H1 hlw0 S1 hlw W => ?_⟩
  walk_at "vc"
  refine ⟨a, 1, ns, rfl, S1.seq hS, by decide, hlen, fun c1 => ?_⟩
  walk_at "vc"
  refine ⟨c1, lw, ws, rfl, SqL.of hlw, W, fun f b0 a1 a2 b3 a4 rooms r1 r2 r3 ap H2 S2 PP => ?_⟩
  have Z2 := S1.trans S2
  walk_at "vc"
  refine ⟨a, 1, ns, rfl, Z2.seq hS, by decide, hlen, fun c2 => ?_⟩
  have hlet2 : ∀ p ∈ ap, Let p.1 ∧ Let p.2 := fun p hp => ⟨(W.ok _ (PP.hap.mem p hp).1).1, (W.ok _ (PP.hap.mem p hp).2).1⟩
  have sb := sum_bounds PP.rr
  have n0 := PP.n0
  have n6 := PP.n6
  walk_at "vc"
  refine ⟨f, b0, a1, a2, b3, a4, lw, c2, ws, rooms, r3, ap, rfl, SqL.of PP.hf, SqL.of PP.h0, SqL.of PP.h3, PP.r3.same (hid_same _ _), hlet2, PP.hap.ne, SqL.of (S2 _ _ hlw), W, by omega, by omega, fun l fs ps H3 hl0 S3 hl hFl hok hsum p1 p50 => ?_⟩
  have PP3 := PP.same S3
  have hF3 : Reps K H3 fs (fillDs ps) := hFl.same (hid_same _ _)
  have hlet : ∀ p ∈ ps, Let p.1 := fun p hp => (W.ok _ (hok.ware p hp)).1
  have hrp : ∀ r ∈ rooms, 1 ≤ r := fun r hr => (PP.rr r hr).1
  obtain ⟨O, hun⟩ := lies_ok hlet hok.pos p50 hsum hrp
  have hvol : volF ps = rooms.sum := hsum
  have hul := unF_len (ps := ps) fun q hq => by have := hok.pos q hq; omega
  walk_at "vc"
  refine ⟨f, b0, a1, a2, b3, .ref a4, _, _, _, _, rfl, SqL.of PP3.hf, SqL.of PP3.h0, SqL.of PP3.h1, SqL.of PP3.h2, SqL.of PP3.h3, fun xp dp l1 l2 l3 l4 H4 nxp nl hlnd hxl S4 g1 g2 g3 g4 gp => ?_⟩
  walk_at "vc"
  refine vc_listL (SqL.of (S4 _ _ hl)) fun hd hhd => ?_
  have Y5 := same_new hhd (.lst fs)
  have ghd : upd H4 hd (.lst fs) hd = some (.lst fs) := upd_same
  generalize upd H4 hd (.lst fs) = H5 at *
  have Z35 := S4.trans Y5
  walk_at "vc"
  intro xc dc hxc hdc ndc
  have M := make_hid (o := .own xc) (o' := .ins t.c_Content dc []) hxc hdc
  have P5 : PipeIs H5 t.c_Pipe xp l1 l2 l3 l4 (.ref a4) (rooms.map V.int) r1 r2 r3 := ⟨⟨dp, Y5 _ _ gp⟩, Y5 _ _ g1, Y5 _ _ g2, Y5 _ _ g3, Y5 _ _ g4⟩
  have q3' : Reps K H3 r3 (apartDs ap) := PP3.r3.same (hid_same _ _)
  refine ⟨xc, dc, xp, l1, l2, l3, l4, hd, .ref a4, rooms, r1, r2, r3, fs, ap, ps, rfl, upd_same, P5.same M, (q3'.same Z35).same M, hlet2, M.seq (SqL.of ghd), (hF3.same Z35).same M, by omega, hlet, hsum, no_apart hok, fun pc1 k1 k2 k3 k4 pc2 m1 m2 m3 m4 ly rd ls H6 hfr S6 PC1 PC2 hly hL hrd hxc6 => ⟨rfl, ?_⟩⟩
  have Z36 : Same H3 H6 := Z35.trans (M.trans (S6.trans (hid_same _ _)))
  have PC : PipeIs H6 t.c_Pipe pc2 m1 m2 m3 m4 (.ref a4) (rooms.map V.int) r1 r2 r3 := PC2.same (hid_same _ _)
  have CC : CtAt H6 t.c_Content xc pc1 pc2 ly rd := ⟨dc, hxc6⟩
  have hly6 : H6 ly = some (.lst ls) := hid_same _ _ _ _ hly
  have hrd6 : H6 rd = some (.lst []) := hid_same _ _ _ _ hrd
  have hL6 : Reps K H6 ls (lieDs (jLie (newly 0 ps))) := (hL.same (hid_same _ _)).same (hid_same _ _)
  have F6 := PP3.same Z36
  have A6 : Reps K H6 r3 (apartDs ap) := q3'.same Z36
  have hlw6 := Z36 _ _ (S3 _ _ (S2 _ _ hlw))
  have hS6 := (Z36.seq (S3.seq (Z2.seq hS)))
  have hl6 := Z36 _ _ hl
  have hF6 := hF3.same Z36
  rw [← hun] at hul
  generalize jLie (newly 0 ps) = lies at *
  clear hfr S6 PC1 PC2 hly hrd hL P5 q3' M g1 g2 g3 g4 gp hlnd hxl nl nxp
  walk_at "vc"
  refine ⟨xc, pc1, pc2, ly, rd, ls, lies, rfl, CC, SqL.of hly6, hL6, by have := O.len; omega, SqL.of hrd6, fun sh H7 S7 hsh => ?_⟩
  walk_at "vc"
  refine vc_slL (S7.seq hS6) fun p hp => ?_
  obtain ⟨ms, ems, hms⟩ := cut_any ns (some 2) (some 63)
  rw [ems]
  have Y8 := same_new hp (.lst (ms.map V.int))
  have gp : upd H7 p (.lst (ms.map V.int)) p = some (.lst (ms.map V.int)) := upd_same
  generalize upd H7 p (.lst (ms.map V.int)) = H8 at *
  have Z68 := S7.trans Y8
  walk_at "vc"
  refine ⟨p, ms.map V.int, rfl, SqL.of gp, for_enum (xs := ms.map V.int) (fun n σ H' => ∃ (u6 u7 u8 u9 u10 u11 : Option V), σ = [some (.ref a), some (.ref lw), some (.ref f), some (.ref l), some (.ref xc), some (.ref sh), u6, u7, u8, u9, u10, u11] ∧ Same H8 H')
    ⟨_, _, _, _, _, _, rfl, Same.refl _⟩ (fun n σ H' _ z => by obtain ⟨_, _, _, _, _, _, _, e⟩ := z; exact SqL.of (e _ _ gp)) ?_ ?_⟩
  rotate_left
  · rintro σ H' ⟨u6, u7, u8, u9, u10, u11, rfl, sm⟩
    walk_at "vc"
    exact q _
  rintro n y σ H9 TT hy ⟨u6, u7, u8, u9, u10, u11, rfl, S9⟩ hT
  obtain ⟨c, rfl, hn⟩ := get_int hy
  have hn63 : n < 63 := by omega
  have YT := same_new hT (.tup [.int ((n : Nat) : Int), .int c])
  refine vc_asgT (SqT.of upd_same) rfl ?_
  have S10 := S9.trans YT
  generalize upd H9 TT (.tup [.int ((n : Nat) : Int), .int c]) = H10 at *
  have s6 := Z68.trans S10
  walk_at "vc"
  refine ⟨f, b0, lw, c, n, .ref a1, .ref a2, .ref b3, .ref a4, ws, rooms, rfl, by omega, by omega, SqL.of (s6 _ _ F6.hf), SqL.of (s6 _ _ F6.h0), n0, n6, by omega, by omega, SqL.of (s6 _ _ hlw6), W, fun r i j x v pg H11 hr0 S11 hr1 OP => ?_⟩
  have s11 := s6.trans S11
  walk_at "vc"
  refine ⟨(by show 2 ≤ sizeLine; decide), fun lm hlm => ?_⟩
  have Ym := same_new hlm (.lst [.int 4, .int 21])
  have gm : upd H11 lm (.lst [.int 4, .int 21]) lm = some (.lst [.int 4, .int 21]) := upd_same
  generalize upd H11 lm (.lst [.int 4, .int 21]) = H12 at *
  walk_at "vc"
  obtain ⟨md, hmd, md1, md2⟩ : ∃ md : Int, atI [V.int 4, .int 21] (((n : Nat) : Int) % 2) = some (.int md) ∧ 1 ≤ md ∧ md ≤ 100 := by
    rcases (by omega : ((n : Nat) : Int) % 2 = 0 ∨ ((n : Nat) : Int) % 2 = 1) with e | e
    · exact ⟨4, by rw [e]; rfl, by decide, by decide⟩
    · exact ⟨21, by rw [e]; rfl, by decide, by decide⟩
  refine vc_ixL (SqL.of gm) hmd ?_
  walk_at "vc"
  have s12 := s11.trans Ym
  refine ⟨c, md, lw, ws, rfl, SqL.of (s12 _ _ hlw6), W, md1, md2, fun sl ss sps H13 hsl0 S13 hsl hSp hspl hsn => ?_⟩
  have s13 := s12.trans S13
  have hr13 := S13 _ _ (Ym _ _ hr1)
  have hSp13 : Reps K H13 ss (fillDs sps) := hSp.same (hid_same _ _)
  have o1 := OP.i0
  have o2 := OP.ij
  have o3 := OP.jn
  have hxl : Let x := (W.ok _ OP.xw).1
  have hf13 : SqL K H13 f [.ref b0, .ref a1, .ref a2, .ref b3, .ref a4] := SqL.of (s13 _ _ F6.hf)
  have h013 : SqL K H13 b0 (rooms.map V.int) := SqL.of (s13 _ _ F6.h0)
  walk_at "vcs"
  with_reducible refine vc_seq ?_
  walk_at "vcs"
  with_reducible refine tSeq.join (fun σ H' => ∃ (r' : Addr) (i' j' : Int) (dv : V), σ = [some (.ref a), some (.ref lw), some (.ref f), some (.ref l), some (.ref xc), some (.ref sh), some (.int ((n : Nat) : Int)), some (.int c), some (.ref r'), some (.ref sl), some dv, u11] ∧ Same H13 H' ∧ SqT K H' r' [.int i', .int j', .str x, .int v, pg] ∧ Rep K H' dv (ansD rooms lies ap sps i' j' x)) (fun R k => ?_) ?_
  · walk_at "vc"
    refine ite2 (fun z => ?_) (fun z => ?_)
    · walk_at "vc"
      refine ⟨(by show 2 ≤ sizeLine; decide), fun t1 ht1 => ?_⟩
      have X1 := same_new ht1 (.tup [.int 1, .int 1])
      have q1 : upd H13 t1 (.tup [.int 1, .int 1]) t1 = some (.tup [.int 1, .int 1]) := upd_same
      generalize upd H13 t1 (.tup [.int 1, .int 1]) = G1 at *
      walk_at "vc"
      refine ⟨(by show 2 ≤ sizeLine; decide), fun t2 ht2 => ?_⟩
      have X2 := same_new ht2 (.tup [.int (-1), .int 1])
      have q2 : upd G1 t2 (.tup [.int (-1), .int 1]) t2 = some (.tup [.int (-1), .int 1]) := upd_same
      generalize upd G1 t2 (.tup [.int (-1), .int 1]) = G2 at *
      have hf2 := (X1.trans X2).seq hf13
      walk_at "vc"
      refine vc_lenL ((X1.trans X2).seq h013) ?_
      rw [List.length_map]
      walk_at "vc"
      refine ⟨(by show 2 ≤ sizeLine; decide), fun t3 ht3 => ?_⟩
      have X3 := same_new ht3 (.tup [.int 0, .int ((rooms.length : Int) + 1)])
      have q3 : upd G2 t3 (.tup [.int 0, .int ((rooms.length : Int) + 1)]) t3 = some (.tup [.int 0, .int ((rooms.length : Int) + 1)]) := upd_same
      generalize upd G2 t3 (.tup [.int 0, .int ((rooms.length : Int) + 1)]) = G3 at *
      have hf3 := X3.seq hf2
      walk_at "vc"
      refine vc_lenL ((X1.trans (X2.trans X3)).seq h013) ?_
      rw [List.length_map]
      walk_at "vc"
      refine ⟨(by show 2 ≤ sizeLine; decide), fun t4 ht4 => ?_⟩
      have X4 := same_new ht4 (.tup [.int (rooms.length : Int), .int 0])
      have q4 : upd G3 t4 (.tup [.int (rooms.length : Int), .int 0]) t4 = some (.tup [.int (rooms.length : Int), .int 0]) := upd_same
      generalize upd G3 t4 (.tup [.int (rooms.length : Int), .int 0]) = G4 at *
      walk_at "vc"
      refine ⟨(by show 4 ≤ sizeLine; decide), fun l5 hl5 => ?_⟩
      have X5 := same_new hl5 (.lst [.ref t1, .ref t2, .ref t3, .ref t4])
      have q5 : upd G4 l5 (.lst [.ref t1, .ref t2, .ref t3, .ref t4]) l5 = some (.lst [.ref t1, .ref t2, .ref t3, .ref t4]) := upd_same
      generalize upd G4 l5 (.lst [.ref t1, .ref t2, .ref t3, .ref t4]) = G5 at *
      walk_at "vc"
      obtain ⟨tp, i', j', htp, gtp, hno⟩ : ∃ (tp : Addr) (i' j' : Int), atI [V.ref t1, .ref t2, .ref t3, .ref t4] (mix c 703 % 4) = some (.ref tp) ∧ G5 tp = some (.tup [.int i', .int j']) ∧ ¬ IsWay rooms i' j' := by
        rcases (by omega : mix c 703 % 4 = 0 ∨ mix c 703 % 4 = 1 ∨ mix c 703 % 4 = 2 ∨ mix c 703 % 4 = 3) with e | e | e | e
        · exact ⟨t1, 1, 1, by rw [e]; rfl, X5 _ _ (X4 _ _ (X3 _ _ (X2 _ _ q1))), fun h => by have := h.2.1; omega⟩
        · exact ⟨t2, -1, 1, by rw [e]; rfl, X5 _ _ (X4 _ _ (X3 _ _ q2)), fun h => by have := h.1; omega⟩
        · exact ⟨t3, 0, (rooms.length : Int) + 1, by rw [e]; rfl, X5 _ _ (X4 _ _ q3), fun h => by have := h.2.2; omega⟩
        · exact ⟨t4, (rooms.length : Int), 0, by rw [e]; rfl, X5 _ _ q4, fun h => by have := h.2.1; omega⟩
      refine vc_ixL (SqL.of q5) htp ?_
      have X15 := X1.trans (X2.trans (X3.trans (X4.trans X5)))
      walk_at "vc"
      refine vc_slT (SqT.of (X15 _ _ hr13)) (by show ¬ ((2 : Nat) = 0 ∧ _); omega) fun t6 ht6 => ?_
      rw [show cutV [V.int i, .int j, .str x, .int v, pg] (some 2) none = [.str x, .int v, pg] from rfl]
      have X6 := same_new ht6 (.tup [.str x, .int v, pg])
      refine vc_catT (SqT.of (X6 _ _ gtp)) (SqT.of upd_same) (by simp) (by simp) (by show 5 ≤ sizeLine; decide) fun t7 ht7 => ?_
      walk_at "vc"
      refine k _ _ ⟨t7, i', j', _, rfl, X15.trans (X6.trans (same_new ht7 _)), SqT.of upd_same, ?_⟩
      unfold ansD
      rw [if_neg hno]
      exact .str _
    · walk_at "vc"
      refine ⟨l, fs, ps, rfl, SqL.of (s13 _ _ hl6), hF6.same s13, hok.pos, by omega, fun ul H14 hul0 S14 hul => ?_⟩
      rw [← hun] at hul
      have s14 := s13.trans S14
      have hr14 := S14 _ _ hr13
      have hr14' : SqT K H14 r [.int i, .int j, .str x, .int v, pg] := SqT.of hr14
      walk_at "vc"
      refine ⟨f, b0, b3, ul, sl, a1, a2, a4, rooms, r3, ss, ap, un lies, sps, i, x, rfl, SqL.of (s14 _ _ F6.hf), SqL.of (s14 _ _ F6.h0), SqL.of (s14 _ _ F6.h3), A6.same s14, hlet2, SqL.of hul, ?_, hxl, by omega, hrp, o1, by omega, SqL.of (S14 _ _ hsl), hSp13.same S14, hspl, fun dv H15 S15 hdv => ?_⟩
      · intro z hz
        unfold un at hz
        obtain ⟨g, hg, hz⟩ := List.mem_flatMap.mp hz
        rw [List.eq_of_mem_replicate hz]
        exact O.let_ g hg
      walk_at "vc"
      exact k _ _ ⟨r, i, j, dv, rfl, S14.trans S15, S15.tup hr14', by rw [← law_spD O ⟨o1, o2, o3⟩]; exact hdv⟩
  rintro σ H14 ⟨r', i', j', dv, rfl, S14, hT14, hdv⟩
  have s14 := s13.trans S14
  walk_at "vc"
  refine vc_listL (SqL.of (S14 _ _ hsl)) fun hd2 hhd2 => ?_
  have Y15 := same_new hhd2 (.lst ss)
  have ghd2 : upd H14 hd2 (.lst ss) hd2 = some (.lst ss) := upd_same
  generalize upd H14 hd2 (.lst ss) = H15 at *
  have s15 := s14.trans Y15
  have hSp15 := (hSp13.same S14).same Y15
  walk_at "vc"
  refine ⟨xc, pc1, pc2, ly, rd, m1, m2, m3, m4, hd2, r', .ref a4, rooms, r1, r2, r3, ls, ss, lies, ap, sps, i', j', x, .int v, pg, rfl, Y15.tup hT14, ⟨CC.same s15, PC.same s15, A6.same s15, hlet2, SqL.of (s15 _ _ hly6), hL6.same s15, O, hxl, SqL.of ghd2, hSp15, hspl⟩, fun av H16 S16 hav => ?_⟩
  walk_at "vc"
  refine ⟨_, _, hav, (hdv.same Y15).same S16, ans_kqd hspl, ans_kqd hspl, ?_⟩
  rw [dec_true rfl]
  walk_at "vc"
  refine ⟨.list (fillDs sps), .list (fillDs sps), .lst (SqL.of (S16 _ _ ghd2)) (hSp15.same S16), .lst (SqL.of (S16 _ _ (Y15 _ _ (S14 _ _ hsl)))) (hSp15.same S16), fill_kqd hspl, fill_kqd hspl, ?_⟩
  rw [dec_true rfl]
  have s16 := s15.trans S16
  walk_at "vc"
  refine ⟨xc, pc1, pc2, ly, rd, ls, lies, rfl, CC.same s16, SqL.of (s16 _ _ hly6), hL6.same s16, by have := O.len; omega, SqL.of (s16 _ _ hrd6), fun kl H17 S17 hk => ?_⟩
  walk_at "vc"
  have b17 : Same H7 H17 := Y8.trans (S10.trans (S11.trans (Ym.trans (S13.trans (S14.trans (Y15.trans (S16.trans S17)))))))
  refine ⟨keptD lies, keptD lies, hk, hsh.same b17, kept_kqd O, kept_kqd O, ?_⟩
  rw [dec_true rfl]
  walk_at "vc"
  exact ⟨_, _, _, _, _, _, rfl, S10.trans (S11.trans (Ym.trans (S13.trans (S14.trans (Y15.trans (S16.trans S17))))))⟩
end
theorem len_s {n : Nat} : ∀ {us : List Value}, us.length = n + 1 → ∃ x xs, us = x :: xs ∧ xs.length = n
  | x :: xs, h => ⟨x, xs, rfl, Nat.succ.inj h⟩
theorem of_len1 {f : FuncData} {ps : List Str} (h : ∀ x0, bindArgs f ⟨[x0], []⟩ = pure (ps.zip [x0])) (us : List Value) (hl : us.length = 1) : bindArgs f ⟨us, []⟩ = pure (ps.zip us) := by
  obtain ⟨x0, u0, rfl, l0⟩ := len_s hl
  cases List.eq_nil_of_length_eq_zero l0
  exact h x0
theorem of_len2 {f : FuncData} {ps : List Str} (h : ∀ x0 x1, bindArgs f ⟨[x0, x1], []⟩ = pure (ps.zip [x0, x1])) (us : List Value) (hl : us.length = 2) : bindArgs f ⟨us, []⟩ = pure (ps.zip us) := by
  obtain ⟨x0, u0, rfl, l0⟩ := len_s hl
  obtain ⟨x1, u1, rfl, l1⟩ := len_s l0
  cases List.eq_nil_of_length_eq_zero l1
  exact h x0 x1
theorem of_len3 {f : FuncData} {ps : List Str} (h : ∀ x0 x1 x2, bindArgs f ⟨[x0, x1, x2], []⟩ = pure (ps.zip [x0, x1, x2])) (us : List Value) (hl : us.length = 3) : bindArgs f ⟨us, []⟩ = pure (ps.zip us) := by
  obtain ⟨x0, u0, rfl, l0⟩ := len_s hl
  obtain ⟨x1, u1, rfl, l1⟩ := len_s l0
  obtain ⟨x2, u2, rfl, l2⟩ := len_s l1
  cases List.eq_nil_of_length_eq_zero l2
  exact h x0 x1 x2
theorem of_len4 {f : FuncData} {ps : List Str} (h : ∀ x0 x1 x2 x3, bindArgs f ⟨[x0, x1, x2, x3], []⟩ = pure (ps.zip [x0, x1, x2, x3])) (us : List Value) (hl : us.length = 4) : bindArgs f ⟨us, []⟩ = pure (ps.zip us) := by
  obtain ⟨x0, u0, rfl, l0⟩ := len_s hl
  obtain ⟨x1, u1, rfl, l1⟩ := len_s l0
  obtain ⟨x2, u2, rfl, l2⟩ := len_s l1
  obtain ⟨x3, u3, rfl, l3⟩ := len_s l2
  cases List.eq_nil_of_length_eq_zero l3
  exact h x0 x1 x2 x3
theorem of_len5 {f : FuncData} {ps : List Str} (h : ∀ x0 x1 x2 x3 x4, bindArgs f ⟨[x0, x1, x2, x3, x4], []⟩ = pure (ps.zip [x0, x1, x2, x3, x4])) (us : List Value) (hl : us.length = 5) : bindArgs f ⟨us, []⟩ = pure (ps.zip us) := by
  obtain ⟨x0, u0, rfl, l0⟩ := len_s hl
  obtain ⟨x1, u1, rfl, l1⟩ := len_s l0
  obtain ⟨x2, u2, rfl, l2⟩ := len_s l1
  obtain ⟨x3, u3, rfl, l3⟩ := len_s l2
  obtain ⟨x4, u4, rfl, l4⟩ := len_s l3
  cases List.eq_nil_of_length_eq_zero l4
  exact h x0 x1 x2 x3 x4
theorem of_len6 {f : FuncData} {ps : List Str} (h : ∀ x0 x1 x2 x3 x4 x5, bindArgs f ⟨[x0, x1, x2, x3, x4, x5], []⟩ = pure (ps.zip [x0, x1, x2, x3, x4, x5])) (us : List Value) (hl : us.length = 6) : bindArgs f ⟨us, []⟩ = pure (ps.zip us) := by
  obtain ⟨x0, u0, rfl, l0⟩ := len_s hl
  obtain ⟨x1, u1, rfl, l1⟩ := len_s l0
  obtain ⟨x2, u2, rfl, l2⟩ := len_s l1
  obtain ⟨x3, u3, rfl, l3⟩ := len_s l2
  obtain ⟨x4, u4, rfl, l4⟩ := len_s l3
  obtain ⟨x5, u5, rfl, l5⟩ := len_s l4
  cases List.eq_nil_of_length_eq_zero l5
  exact h x0 x1 x2 x3 x4 x5
set_option maxHeartbeats 0 in
theorem all_mk {K : PySem.W.Frag} {h : Heap} {mg : Str → Option Value} {fa : Addr} (X : K.In h) (G : h.Ns mainGlobals mg) (hfa : mg "law" = some (.ref fa))
    {c_Pipe c_Content c_PipeError c_BadFill c_Touch c_NoWay c_NoSpacer f0 f1 f2 f3 f4 f5 f6 f7 f8 f9 f10 f11 f12 f13 f14 f15 f16 f17 f18 f19 f20 f21 f22 f23 f24 f25 f26 f27 f28 f29 f30 f31 f32 : Addr}
    {dbo_NoWay : Option Addr} {cbd_NoWay : ClassData} {slb_NoWay obs_NoWay : Array (Option Value)} {obc_NoWay : Value} {obd_NoWay : Option Addr} {obe_NoWay : Array DictEntry} {obp_NoWay : Nat}
    {dbo_NoSpacer : Option Addr} {cbd_NoSpacer : ClassData} {slb_NoSpacer obs_NoSpacer : Array (Option Value)} {obc_NoSpacer : Value} {obd_NoSpacer : Option Addr} {obe_NoSpacer : Array DictEntry} {obp_NoSpacer : Nat}
    {nm_NoWay q_NoWay : Str} {N_NoWay : Addr} {bs_NoWay sub_NoWay : List Value} {hc_NoWay ab_NoWay : Bool} {sn_NoWay : List Str} {col_NoWay : Option Bool} {dd_NoWay : Option Addr} {k0_NoWay k1_NoWay k2_NoWay k3_NoWay k5_NoWay : Option Value}
    {nm_NoSpacer q_NoSpacer : Str} {N_NoSpacer : Addr} {bs_NoSpacer sub_NoSpacer : List Value} {hc_NoSpacer ab_NoSpacer : Bool} {sn_NoSpacer : List Str} {col_NoSpacer : Option Bool} {dd_NoSpacer : Option Addr} {k0_NoSpacer k1_NoSpacer k2_NoSpacer k3_NoSpacer k5_NoSpacer : Option Value}
    {od0 an0 : Option Addr} {sl0 : Array (Option Value)} {oc0 kV0 dc0 pm0 cd0 ct0 : Value}
    {od1 an1 : Option Addr} {sl1 : Array (Option Value)} {oc1 kV1 dc1 pm1 cd1 ct1 : Value}
    {od2 an2 : Option Addr} {sl2 : Array (Option Value)} {oc2 kV2 dc2 pm2 cd2 ct2 : Value}
    {od3 an3 : Option Addr} {sl3 : Array (Option Value)} {oc3 kV3 dc3 pm3 cd3 ct3 : Value}
    {od4 an4 : Option Addr} {sl4 : Array (Option Value)} {oc4 kV4 dc4 pm4 cd4 ct4 : Value}
    {od5 an5 : Option Addr} {sl5 : Array (Option Value)} {oc5 kV5 dc5 pm5 cd5 ct5 : Value}
    {od6 an6 : Option Addr} {sl6 : Array (Option Value)} {oc6 kV6 dc6 pm6 cd6 ct6 : Value}
    {od7 an7 : Option Addr} {sl7 : Array (Option Value)} {oc7 kV7 dc7 pm7 cd7 ct7 : Value}
    {od8 an8 : Option Addr} {sl8 : Array (Option Value)} {oc8 kV8 dc8 pm8 cd8 ct8 : Value}
    {od9 an9 : Option Addr} {sl9 : Array (Option Value)} {oc9 kV9 dc9 pm9 cd9 ct9 : Value}
    {od10 an10 : Option Addr} {sl10 : Array (Option Value)} {oc10 kV10 dc10 pm10 cd10 ct10 : Value}
    {od11 an11 : Option Addr} {sl11 : Array (Option Value)} {oc11 kV11 dc11 pm11 cd11 ct11 : Value}
    {od12 an12 : Option Addr} {sl12 : Array (Option Value)} {oc12 kV12 dc12 pm12 cd12 ct12 : Value}
    {od13 an13 : Option Addr} {sl13 : Array (Option Value)} {oc13 kV13 dc13 pm13 cd13 ct13 : Value}
    {od14 an14 : Option Addr} {sl14 : Array (Option Value)} {oc14 kV14 dc14 pm14 cd14 ct14 : Value}
    {od15 an15 : Option Addr} {sl15 : Array (Option Value)} {oc15 kV15 dc15 pm15 cd15 ct15 : Value}
    {od16 an16 : Option Addr} {sl16 : Array (Option Value)} {oc16 kV16 dc16 pm16 cd16 ct16 : Value}
    {od17 an17 : Option Addr} {sl17 : Array (Option Value)} {oc17 kV17 dc17 pm17 cd17 ct17 : Value}
    {od18 an18 : Option Addr} {sl18 : Array (Option Value)} {oc18 kV18 dc18 pm18 cd18 ct18 : Value}
    {od19 an19 : Option Addr} {sl19 : Array (Option Value)} {oc19 kV19 dc19 pm19 cd19 ct19 : Value}
    {od20 an20 : Option Addr} {sl20 : Array (Option Value)} {oc20 kV20 dc20 pm20 cd20 ct20 : Value}
    {od21 an21 : Option Addr} {sl21 : Array (Option Value)} {oc21 kV21 dc21 pm21 cd21 ct21 : Value}
    {od22 an22 : Option Addr} {sl22 : Array (Option Value)} {oc22 kV22 dc22 pm22 cd22 ct22 : Value}
    {od23 an23 : Option Addr} {sl23 : Array (Option Value)} {oc23 kV23 dc23 pm23 cd23 ct23 : Value}
    {od24 an24 : Option Addr} {sl24 : Array (Option Value)} {oc24 kV24 dc24 pm24 cd24 ct24 : Value}
    {od25 an25 : Option Addr} {sl25 : Array (Option Value)} {oc25 kV25 dc25 pm25 cd25 ct25 : Value}
    {od26 an26 : Option Addr} {sl26 : Array (Option Value)} {oc26 kV26 dc26 pm26 cd26 ct26 : Value}
    {od27 an27 : Option Addr} {sl27 : Array (Option Value)} {oc27 kV27 dc27 pm27 cd27 ct27 : Value}
    {od28 an28 : Option Addr} {sl28 : Array (Option Value)} {oc28 kV28 dc28 pm28 cd28 ct28 : Value}
    {od29 an29 : Option Addr} {sl29 : Array (Option Value)} {oc29 kV29 dc29 pm29 cd29 ct29 : Value}
    {od30 an30 : Option Addr} {sl30 : Array (Option Value)} {oc30 kV30 dc30 pm30 cd30 ct30 : Value}
    {od31 an31 : Option Addr} {sl31 : Array (Option Value)} {oc31 kV31 dc31 pm31 cd31 ct31 : Value}
    {od32 an32 : Option Addr} {sl32 : Array (Option Value)} {oc32 kV32 dc32 pm32 cd32 ct32 : Value}
    (x_c_PipeError : PySem.W.nsIn K mainGlobals "PipeError" = some (some (.ref c_PipeError)))
    (x_c_BadFill : PySem.W.nsIn K mainGlobals "BadFill" = some (some (.ref c_BadFill)))
    (x_c_Touch : PySem.W.nsIn K mainGlobals "Touch" = some (some (.ref c_Touch)))
    (x_c_NoWay : PySem.W.nsIn K mainGlobals "NoWay" = some (some (.ref c_NoWay)))
    (x_c_NoSpacer : PySem.W.nsIn K mainGlobals "NoSpacer" = some (some (.ref c_NoSpacer)))
    (xga_X_NoWay : PySem.W.findIn K (.ref c_NoWay) "__getattribute__" = some (some (.builtin "BaseException.__getattribute__")))
    (xgg_X_NoWay : PySem.W.findIn K (.ref c_NoWay) "__getattr__" = some none)
    (xsa_X_NoWay : PySem.W.findIn K (.ref c_NoWay) "__setattr__" = some (some (.builtin "object.__setattr__")))
    (xmb_X_NoWay : PySem.W.mroIn K c_NoWay (.type "BaseException") = some true)
    (xmo_X_NoWay : PySem.W.mroIn K c_NoWay (.type "object") = some true)
    (xhd_X_NoWay : PySem.W.hasDictIn K c_NoWay = true)
    (xkc_X_NoWay : PySem.W.findIn K (.ref c_NoWay) "__class__" = some (some (.builtin "object.__class__")))
    (xcg_X_NoWay : PySem.W.specialIn K (.builtin "object.__class__") "__get__" = some (some (.builtin "getset_descriptor.__get__")))
    (xct_X_NoWay : PySem.W.takesIn K (.builtin "object.__class__") = some true)
    (xlb_R_NoWay : K.lookup c_PipeError = some ⟨.type "type", dbo_NoWay, .cls cbd_NoWay, slb_NoWay⟩)
    (xlo_R_NoWay : K.lookup cbd_NoWay.ns = some ⟨obc_NoWay, obd_NoWay, .dict obe_NoWay obp_NoWay, obs_NoWay⟩)
    (xok_R_NoWay : obe_NoWay.all isStrKey = true)
    (xni_R_NoWay : PySem.W.nsIn K cbd_NoWay.ns "__init__" = some none)
    (xlk_R_NoWay : K.lookup c_NoWay = some (excClassObj nm_NoWay q_NoWay c_NoWay N_NoWay bs_NoWay (.ref c_PipeError :: [.type "ValueError", .type "Exception", .type "BaseException", .type "object"]) hc_NoWay sn_NoWay sub_NoWay ab_NoWay col_NoWay dd_NoWay k0_NoWay k1_NoWay k2_NoWay k3_NoWay k5_NoWay "ValueError.__new__"))
    (xkp_R_NoWay : PySem.W.keepIn K (.ref c_NoWay) = true)
    (x_I_NoWay : PySem.W.findIn K (.ref c_NoWay) "__init__" = some (some (.builtin "ValueError.__init__")))
    (x_e_NoWay_PipeError : PySem.W.exmOne K (.ref c_NoWay) (.ref c_PipeError) = some true)
    (x_k_NoWay_NoWay : PySem.W.kitOne K (.ref c_NoWay) (.ref c_NoWay) = some true)
    (x_k_NoWay_NoSpacer : PySem.W.kitOne K (.ref c_NoWay) (.ref c_NoSpacer) = some false)
    (x_k_NoWay_Touch : PySem.W.kitOne K (.ref c_NoWay) (.ref c_Touch) = some false)
    (x_k_NoWay_ValueError : PySem.W.kitOne K (.ref c_NoWay) (.type "ValueError") = some true)
    (xga_X_NoSpacer : PySem.W.findIn K (.ref c_NoSpacer) "__getattribute__" = some (some (.builtin "BaseException.__getattribute__")))
    (xgg_X_NoSpacer : PySem.W.findIn K (.ref c_NoSpacer) "__getattr__" = some none)
    (xsa_X_NoSpacer : PySem.W.findIn K (.ref c_NoSpacer) "__setattr__" = some (some (.builtin "object.__setattr__")))
    (xmb_X_NoSpacer : PySem.W.mroIn K c_NoSpacer (.type "BaseException") = some true)
    (xmo_X_NoSpacer : PySem.W.mroIn K c_NoSpacer (.type "object") = some true)
    (xhd_X_NoSpacer : PySem.W.hasDictIn K c_NoSpacer = true)
    (xkc_X_NoSpacer : PySem.W.findIn K (.ref c_NoSpacer) "__class__" = some (some (.builtin "object.__class__")))
    (xcg_X_NoSpacer : PySem.W.specialIn K (.builtin "object.__class__") "__get__" = some (some (.builtin "getset_descriptor.__get__")))
    (xct_X_NoSpacer : PySem.W.takesIn K (.builtin "object.__class__") = some true)
    (xlb_R_NoSpacer : K.lookup c_PipeError = some ⟨.type "type", dbo_NoSpacer, .cls cbd_NoSpacer, slb_NoSpacer⟩)
    (xlo_R_NoSpacer : K.lookup cbd_NoSpacer.ns = some ⟨obc_NoSpacer, obd_NoSpacer, .dict obe_NoSpacer obp_NoSpacer, obs_NoSpacer⟩)
    (xok_R_NoSpacer : obe_NoSpacer.all isStrKey = true)
    (xni_R_NoSpacer : PySem.W.nsIn K cbd_NoSpacer.ns "__init__" = some none)
    (xlk_R_NoSpacer : K.lookup c_NoSpacer = some (excClassObj nm_NoSpacer q_NoSpacer c_NoSpacer N_NoSpacer bs_NoSpacer (.ref c_PipeError :: [.type "ValueError", .type "Exception", .type "BaseException", .type "object"]) hc_NoSpacer sn_NoSpacer sub_NoSpacer ab_NoSpacer col_NoSpacer dd_NoSpacer k0_NoSpacer k1_NoSpacer k2_NoSpacer k3_NoSpacer k5_NoSpacer "ValueError.__new__"))
    (xkp_R_NoSpacer : PySem.W.keepIn K (.ref c_NoSpacer) = true)
    (x_I_NoSpacer : PySem.W.findIn K (.ref c_NoSpacer) "__init__" = some (some (.builtin "ValueError.__init__")))
    (x_e_NoSpacer_PipeError : PySem.W.exmOne K (.ref c_NoSpacer) (.ref c_PipeError) = some true)
    (x_k_NoSpacer_NoWay : PySem.W.kitOne K (.ref c_NoSpacer) (.ref c_NoWay) = some false)
    (x_k_NoSpacer_NoSpacer : PySem.W.kitOne K (.ref c_NoSpacer) (.ref c_NoSpacer) = some true)
    (x_k_NoSpacer_Touch : PySem.W.kitOne K (.ref c_NoSpacer) (.ref c_Touch) = some false)
    (x_k_NoSpacer_ValueError : PySem.W.kitOne K (.ref c_NoSpacer) (.type "ValueError") = some true)
    (ac_Pipe : PySem.W.nsIn K mainGlobals "Pipe" = some (some (.ref c_Pipe)))
    (ac_Content : PySem.W.nsIn K mainGlobals "Content" = some (some (.ref c_Content)))
    (a0 : PySem.W.findIn K (.ref c_Pipe) "__init__" = some (some (.ref f0))) (i0 : PySem.W.isFn K (.ref f0) = true)
    (l0 : K.lookup f0 = some ⟨oc0, od0, .func (PySem.W.fnOf "__init__" "Pipe.__init__" (defArgs s_Pipe___init__) (defBody s_Pipe___init__) (defScope s_Pipe___init__) .none kV0 dc0 pm0 an0 cd0 ct0), sl0⟩) (e0 : PySem.W.codeIn K cd0 "Pipe.__init__" = true) (k0 : PySem.W.keepIn K (.ref f0) = true)
    (a1 : PySem.W.nsIn K mainGlobals "like_pipe" = some (some (.ref f1)))
    (l1 : K.lookup f1 = some ⟨oc1, od1, .func (PySem.W.fnOf "like_pipe" "like_pipe" (defArgs s_like_pipe) (defBody s_like_pipe) (defScope s_like_pipe) .none kV1 dc1 pm1 an1 cd1 ct1), sl1⟩) (e1 : PySem.W.codeIn K cd1 "like_pipe" = true) (k1 : PySem.W.keepIn K (.ref f1) = true)
    (a2 : PySem.W.nsIn K mainGlobals "place_of" = some (some (.ref f2)))
    (l2 : K.lookup f2 = some ⟨oc2, od2, .func (PySem.W.fnOf "place_of" "place_of" (defArgs s_place_of) (defBody s_place_of) (defScope s_place_of) .none kV2 dc2 pm2 an2 cd2 ct2), sl2⟩) (e2 : PySem.W.codeIn K cd2 "place_of" = true) (k2 : PySem.W.keepIn K (.ref f2) = true)
    (a3 : PySem.W.nsIn K mainGlobals "end_of" = some (some (.ref f3)))
    (l3 : K.lookup f3 = some ⟨oc3, od3, .func (PySem.W.fnOf "end_of" "end_of" (defArgs s_end_of) (defBody s_end_of) (defScope s_end_of) .none kV3 dc3 pm3 an3 cd3 ct3), sl3⟩) (e3 : PySem.W.codeIn K cd3 "end_of" = true) (k3 : PySem.W.keepIn K (.ref f3) = true)
    (a4 : PySem.W.nsIn K mainGlobals "is_way" = some (some (.ref f4)))
    (l4 : K.lookup f4 = some ⟨oc4, od4, .func (PySem.W.fnOf "is_way" "is_way" (defArgs s_is_way) (defBody s_is_way) (defScope s_is_way) .none kV4 dc4 pm4 an4 cd4 ct4), sl4⟩) (e4 : PySem.W.codeIn K cd4 "is_way" = true) (k4 : PySem.W.keepIn K (.ref f4) = true)
    (a5 : PySem.W.nsIn K mainGlobals "are_apart" = some (some (.ref f5)))
    (l5 : K.lookup f5 = some ⟨oc5, od5, .func (PySem.W.fnOf "are_apart" "are_apart" (defArgs s_are_apart) (defBody s_are_apart) (defScope s_are_apart) .none kV5 dc5 pm5 an5 cd5 ct5), sl5⟩) (e5 : PySem.W.codeIn K cd5 "are_apart" = true) (k5 : PySem.W.keepIn K (.ref f5) = true)
    (a6 : PySem.W.nsIn K mainGlobals "first_apart" = some (some (.ref f6)))
    (l6 : K.lookup f6 = some ⟨oc6, od6, .func (PySem.W.fnOf "first_apart" "first_apart" (defArgs s_first_apart) (defBody s_first_apart) (defScope s_first_apart) .none kV6 dc6 pm6 an6 cd6 ct6), sl6⟩) (e6 : PySem.W.codeIn K cd6 "first_apart" = true) (k6 : PySem.W.keepIn K (.ref f6) = true)
    (a7 : PySem.W.findIn K (.ref c_Content) "__init__" = some (some (.ref f7))) (i7 : PySem.W.isFn K (.ref f7) = true)
    (l7 : K.lookup f7 = some ⟨oc7, od7, .func (PySem.W.fnOf "__init__" "Content.__init__" (defArgs s_Content___init__) (defBody s_Content___init__) (defScope s_Content___init__) .none kV7 dc7 pm7 an7 cd7 ct7), sl7⟩) (e7 : PySem.W.codeIn K cd7 "Content.__init__" = true) (k7 : PySem.W.keepIn K (.ref f7) = true)
    (a8 : PySem.W.nsIn K mainGlobals "newly_met" = some (some (.ref f8)))
    (l8 : K.lookup f8 = some ⟨oc8, od8, .func (PySem.W.fnOf "newly_met" "newly_met" (defArgs s_newly_met) (defBody s_newly_met) (defScope s_newly_met) .none kV8 dc8 pm8 an8 cd8 ct8), sl8⟩) (e8 : PySem.W.codeIn K cd8 "newly_met" = true) (k8 : PySem.W.keepIn K (.ref f8) = true)
    (a9 : PySem.W.nsIn K mainGlobals "joined" = some (some (.ref f9)))
    (l9 : K.lookup f9 = some ⟨oc9, od9, .func (PySem.W.fnOf "joined" "joined" (defArgs s_joined) (defBody s_joined) (defScope s_joined) .none kV9 dc9 pm9 an9 cd9 ct9), sl9⟩) (e9 : PySem.W.codeIn K cd9 "joined" = true) (k9 : PySem.W.keepIn K (.ref f9) = true)
    (a10 : PySem.W.nsIn K mainGlobals "stretches" = some (some (.ref f10)))
    (l10 : K.lookup f10 = some ⟨oc10, od10, .func (PySem.W.fnOf "stretches" "stretches" (defArgs s_stretches) (defBody s_stretches) (defScope s_stretches) .none kV10 dc10 pm10 an10 cd10 ct10), sl10⟩) (e10 : PySem.W.codeIn K cd10 "stretches" = true) (k10 : PySem.W.keepIn K (.ref f10) = true)
    (a11 : PySem.W.nsIn K mainGlobals "meetings" = some (some (.ref f11)))
    (l11 : K.lookup f11 = some ⟨oc11, od11, .func (PySem.W.fnOf "meetings" "meetings" (defArgs s_meetings) (defBody s_meetings) (defScope s_meetings) .none kV11 dc11 pm11 an11 cd11 ct11), sl11⟩) (e11 : PySem.W.codeIn K cd11 "meetings" = true) (k11 : PySem.W.keepIn K (.ref f11) = true)
    (a12 : PySem.W.nsIn K mainGlobals "pigs" = some (some (.ref f12)))
    (l12 : K.lookup f12 = some ⟨oc12, od12, .func (PySem.W.fnOf "pigs" "pigs" (defArgs s_pigs) (defBody s_pigs) (defScope s_pigs) .none kV12 dc12 pm12 an12 cd12 ct12), sl12⟩) (e12 : PySem.W.codeIn K cd12 "pigs" = true) (k12 : PySem.W.keepIn K (.ref f12) = true)
    (a13 : PySem.W.nsIn K mainGlobals "ware_at" = some (some (.ref f13)))
    (l13 : K.lookup f13 = some ⟨oc13, od13, .func (PySem.W.fnOf "ware_at" "ware_at" (defArgs s_ware_at) (defBody s_ware_at) (defScope s_ware_at) .none kV13 dc13 pm13 an13 cd13 ct13), sl13⟩) (e13 : PySem.W.codeIn K cd13 "ware_at" = true) (k13 : PySem.W.keepIn K (.ref f13) = true)
    (a14 : PySem.W.nsIn K mainGlobals "pairs_ahead" = some (some (.ref f14)))
    (l14 : K.lookup f14 = some ⟨oc14, od14, .func (PySem.W.fnOf "pairs_ahead" "pairs_ahead" (defArgs s_pairs_ahead) (defBody s_pairs_ahead) (defScope s_pairs_ahead) .none kV14 dc14 pm14 an14 cd14 ct14), sl14⟩) (e14 : PySem.W.codeIn K cd14 "pairs_ahead" = true) (k14 : PySem.W.keepIn K (.ref f14) = true)
    (a15 : PySem.W.nsIn K mainGlobals "pairs_at_first" = some (some (.ref f15)))
    (l15 : K.lookup f15 = some ⟨oc15, od15, .func (PySem.W.fnOf "pairs_at_first" "pairs_at_first" (defArgs s_pairs_at_first) (defBody s_pairs_at_first) (defScope s_pairs_at_first) .none kV15 dc15 pm15 an15 cd15 ct15), sl15⟩) (e15 : PySem.W.codeIn K cd15 "pairs_at_first" = true) (k15 : PySem.W.keepIn K (.ref f15) = true)
    (a16 : PySem.W.nsIn K mainGlobals "check_way" = some (some (.ref f16)))
    (l16 : K.lookup f16 = some ⟨oc16, od16, .func (PySem.W.fnOf "check_way" "check_way" (defArgs s_check_way) (defBody s_check_way) (defScope s_check_way) .none kV16 dc16 pm16 an16 cd16 ct16), sl16⟩) (e16 : PySem.W.codeIn K cd16 "check_way" = true) (k16 : PySem.W.keepIn K (.ref f16) = true)
    (a17 : PySem.W.nsIn K mainGlobals "spacer_for" = some (some (.ref f17)))
    (l17 : K.lookup f17 = some ⟨oc17, od17, .func (PySem.W.fnOf "spacer_for" "spacer_for" (defArgs s_spacer_for) (defBody s_spacer_for) (defScope s_spacer_for) .none kV17 dc17 pm17 an17 cd17 ct17), sl17⟩) (e17 : PySem.W.codeIn K cd17 "spacer_for" = true) (k17 : PySem.W.keepIn K (.ref f17) = true)
    (a18 : PySem.W.nsIn K mainGlobals "_law_mix" = some (some (.ref f18)))
    (l18 : K.lookup f18 = some ⟨oc18, od18, .func (PySem.W.fnOf "_law_mix" "_law_mix" (defArgs s_l_mix) (defBody s_l_mix) (defScope s_l_mix) .none kV18 dc18 pm18 an18 cd18 ct18), sl18⟩) (e18 : PySem.W.codeIn K cd18 "_law_mix" = true) (k18 : PySem.W.keepIn K (.ref f18) = true)
    (a19 : PySem.W.nsIn K mainGlobals "_law_at" = some (some (.ref f19)))
    (l19 : K.lookup f19 = some ⟨oc19, od19, .func (PySem.W.fnOf "_law_at" "_law_at" (defArgs s_l_at) (defBody s_l_at) (defScope s_l_at) .none kV19 dc19 pm19 an19 cd19 ct19), sl19⟩) (e19 : PySem.W.codeIn K cd19 "_law_at" = true) (k19 : PySem.W.keepIn K (.ref f19) = true)
    (a20 : PySem.W.nsIn K mainGlobals "_law_wares" = some (some (.ref f20)))
    (l20 : K.lookup f20 = some ⟨oc20, od20, .func (PySem.W.fnOf "_law_wares" "_law_wares" (defArgs s_l_wares) (defBody s_l_wares) (defScope s_l_wares) .none kV20 dc20 pm20 an20 cd20 ct20), sl20⟩) (e20 : PySem.W.codeIn K cd20 "_law_wares" = true) (k20 : PySem.W.keepIn K (.ref f20) = true)
    (a21 : PySem.W.nsIn K mainGlobals "_law_five" = some (some (.ref f21)))
    (l21 : K.lookup f21 = some ⟨oc21, od21, .func (PySem.W.fnOf "_law_five" "_law_five" (defArgs s_l_five) (defBody s_l_five) (defScope s_l_five) .none kV21 dc21 pm21 an21 cd21 ct21), sl21⟩) (e21 : PySem.W.codeIn K cd21 "_law_five" = true) (k21 : PySem.W.keepIn K (.ref f21) = true)
    (a22 : PySem.W.nsIn K mainGlobals "_law_apart" = some (some (.ref f22)))
    (l22 : K.lookup f22 = some ⟨oc22, od22, .func (PySem.W.fnOf "_law_apart" "_law_apart" (defArgs s_l_apart) (defBody s_l_apart) (defScope s_l_apart) .none kV22 dc22 pm22 an22 cd22 ct22), sl22⟩) (e22 : PySem.W.codeIn K cd22 "_law_apart" = true) (k22 : PySem.W.keepIn K (.ref f22) = true)
    (a23 : PySem.W.nsIn K mainGlobals "_law_fill" = some (some (.ref f23)))
    (l23 : K.lookup f23 = some ⟨oc23, od23, .func (PySem.W.fnOf "_law_fill" "_law_fill" (defArgs s_l_fill) (defBody s_l_fill) (defScope s_l_fill) .none kV23 dc23 pm23 an23 cd23 ct23), sl23⟩) (e23 : PySem.W.codeIn K cd23 "_law_fill" = true) (k23 : PySem.W.keepIn K (.ref f23) = true)
    (a24 : PySem.W.nsIn K mainGlobals "_law_push" = some (some (.ref f24)))
    (l24 : K.lookup f24 = some ⟨oc24, od24, .func (PySem.W.fnOf "_law_push" "_law_push" (defArgs s_l_push) (defBody s_l_push) (defScope s_l_push) .none kV24 dc24 pm24 an24 cd24 ct24), sl24⟩) (e24 : PySem.W.codeIn K cd24 "_law_push" = true) (k24 : PySem.W.keepIn K (.ref f24) = true)
    (a25 : PySem.W.nsIn K mainGlobals "_law_pipe" = some (some (.ref f25)))
    (l25 : K.lookup f25 = some ⟨oc25, od25, .func (PySem.W.fnOf "_law_pipe" "_law_pipe" (defArgs s_l_pipe) (defBody s_l_pipe) (defScope s_l_pipe) .none kV25 dc25 pm25 an25 cd25 ct25), sl25⟩) (e25 : PySem.W.codeIn K cd25 "_law_pipe" = true) (k25 : PySem.W.keepIn K (.ref f25) = true)
    (a26 : PySem.W.nsIn K mainGlobals "_law_of" = some (some (.ref f26)))
    (l26 : K.lookup f26 = some ⟨oc26, od26, .func (PySem.W.fnOf "_law_of" "_law_of" (defArgs s_l_of) (defBody s_l_of) (defScope s_l_of) .none kV26 dc26 pm26 an26 cd26 ct26), sl26⟩) (e26 : PySem.W.codeIn K cd26 "_law_of" = true) (k26 : PySem.W.keepIn K (.ref f26) = true)
    (a27 : PySem.W.nsIn K mainGlobals "_law_units" = some (some (.ref f27)))
    (l27 : K.lookup f27 = some ⟨oc27, od27, .func (PySem.W.fnOf "_law_units" "_law_units" (defArgs s_l_units) (defBody s_l_units) (defScope s_l_units) .none kV27 dc27 pm27 an27 cd27 ct27), sl27⟩) (e27 : PySem.W.codeIn K cd27 "_law_units" = true) (k27 : PySem.W.keepIn K (.ref f27) = true)
    (a28 : PySem.W.nsIn K mainGlobals "_law_spacer" = some (some (.ref f28)))
    (l28 : K.lookup f28 = some ⟨oc28, od28, .func (PySem.W.fnOf "_law_spacer" "_law_spacer" (defArgs s_l_spacer) (defBody s_l_spacer) (defScope s_l_spacer) .none kV28 dc28 pm28 an28 cd28 ct28), sl28⟩) (e28 : PySem.W.codeIn K cd28 "_law_spacer" = true) (k28 : PySem.W.keepIn K (.ref f28) = true)
    (a29 : PySem.W.nsIn K mainGlobals "_law_spacers" = some (some (.ref f29)))
    (l29 : K.lookup f29 = some ⟨oc29, od29, .func (PySem.W.fnOf "_law_spacers" "_law_spacers" (defArgs s_l_spacers) (defBody s_l_spacers) (defScope s_l_spacers) .none kV29 dc29 pm29 an29 cd29 ct29), sl29⟩) (e29 : PySem.W.codeIn K cd29 "_law_spacers" = true) (k29 : PySem.W.keepIn K (.ref f29) = true)
    (a30 : PySem.W.nsIn K mainGlobals "_law_kept" = some (some (.ref f30)))
    (l30 : K.lookup f30 = some ⟨oc30, od30, .func (PySem.W.fnOf "_law_kept" "_law_kept" (defArgs s_l_kept) (defBody s_l_kept) (defScope s_l_kept) .none kV30 dc30 pm30 an30 cd30 ct30), sl30⟩) (e30 : PySem.W.codeIn K cd30 "_law_kept" = true) (k30 : PySem.W.keepIn K (.ref f30) = true)
    (a31 : PySem.W.nsIn K mainGlobals "_law_asked" = some (some (.ref f31)))
    (l31 : K.lookup f31 = some ⟨oc31, od31, .func (PySem.W.fnOf "_law_asked" "_law_asked" (defArgs s_l_asked) (defBody s_l_asked) (defScope s_l_asked) .none kV31 dc31 pm31 an31 cd31 ct31), sl31⟩) (e31 : PySem.W.codeIn K cd31 "_law_asked" = true) (k31 : PySem.W.keepIn K (.ref f31) = true)
    (a32 : PySem.W.nsIn K mainGlobals "law" = some (some (.ref f32)))
    (l32 : K.lookup f32 = some ⟨oc32, od32, .func (PySem.W.fnOf "law" "law" (defArgs s_law) (defBody s_law) (defScope s_law) .none kV32 dc32 pm32 an32 cd32 ct32), sl32⟩) (e32 : PySem.W.codeIn K cd32 "law" = true) (k32 : PySem.W.keepIn K (.ref f32) = true)
    (pg_Pipe : PySem.W.plainGet K c_Pipe Str.empty = true) (hd_Pipe : PySem.W.hasDictIn K c_Pipe = true) (po_Pipe : PySem.W.plainOver K c_Pipe = true) (sa_Pipe : PySem.W.findIn K (.ref c_Pipe) "__setattr__" = some (some (.builtin "object.__setattr__"))) (mk_Pipe : PySem.W.makesIn K c_Pipe = true) (kc_Pipe : PySem.W.keepIn K (.ref c_Pipe) = true)
    (n_Pipe_rooms : PySem.W.findIn K (.ref c_Pipe) "rooms" = some none)
    (n_Pipe_table : PySem.W.findIn K (.ref c_Pipe) "table" = some none)
    (n_Pipe_thick : PySem.W.findIn K (.ref c_Pipe) "thick" = some none)
    (n_Pipe_apart : PySem.W.findIn K (.ref c_Pipe) "apart" = some none)
    (n_Pipe_pig : PySem.W.findIn K (.ref c_Pipe) "pig" = some none)
    (pg_Content : PySem.W.plainGet K c_Content Str.empty = true) (hd_Content : PySem.W.hasDictIn K c_Content = true) (po_Content : PySem.W.plainOver K c_Content = true) (sa_Content : PySem.W.findIn K (.ref c_Content) "__setattr__" = some (some (.builtin "object.__setattr__"))) (mk_Content : PySem.W.makesIn K c_Content = true) (kc_Content : PySem.W.keepIn K (.ref c_Content) = true)
    (n_Content_pipe : PySem.W.findIn K (.ref c_Content) "pipe" = some none)
    (n_Content_own_pipe : PySem.W.findIn K (.ref c_Content) "own_pipe" = some none)
    (n_Content_lying : PySem.W.findIn K (.ref c_Content) "lying" = some none)
    (n_Content_riding : PySem.W.findIn K (.ref c_Content) "riding" = some none)
    (z_ValueError : PySem.W.nsIn K mainGlobals "ValueError" = some none)
    (z_abs : PySem.W.nsIn K mainGlobals "abs" = some none)
    (z_any : PySem.W.nsIn K mainGlobals "any" = some none)
    (z_enumerate : PySem.W.nsIn K mainGlobals "enumerate" = some none)
    (z_int : PySem.W.nsIn K mainGlobals "int" = some none)
    (z_isinstance : PySem.W.nsIn K mainGlobals "isinstance" = some none)
    (z_len : PySem.W.nsIn K mainGlobals "len" = some none)
    (z_list : PySem.W.nsIn K mainGlobals "list" = some none)
    (z_max : PySem.W.nsIn K mainGlobals "max" = some none)
    (z_min : PySem.W.nsIn K mainGlobals "min" = some none)
    (z_range : PySem.W.nsIn K mainGlobals "range" = some none)
    (z_sum : PySem.W.nsIn K mainGlobals "sum" = some none)
    (z_zip : PySem.W.nsIn K mainGlobals "zip" = some none)
    : ∃ t : Ad, Txt K mg t ∧ fa = t.f_law ∧ (∀ (s : Shared) (v : Value), BindsTo s t.d_law ⟨[v], []⟩ [("_law_script", v)]) := by
  have e : f32 = fa := Value.ref.inj (Option.some.inj ((PySem.W.mg_of X G a32).symm.trans hfa))
  subst e
  have F0 := fun_mk (st := s_Pipe___init__) l0 e0 k0
  have b0 := F0.binds (ps := ["self", "rooms", "table", "thick", "apart", "pig"]) fun _ _ _ _ _ _ us hl => of_len6 (fun _ _ _ _ _ _ => rfl) us hl
  have F1 := fun_mk (st := s_like_pipe) l1 e1 k1
  have b1 := F1.binds (ps := ["pipe"]) fun _ _ _ _ _ _ us hl => of_len1 (fun _ => rfl) us hl
  have F2 := fun_mk (st := s_place_of) l2 e2 k2
  have b2 := F2.binds (ps := ["pipe", "node"]) fun _ _ _ _ _ _ us hl => of_len2 (fun _ _ => rfl) us hl
  have F3 := fun_mk (st := s_end_of) l3 e3 k3
  have b3 := F3.binds (ps := ["pipe"]) fun _ _ _ _ _ _ us hl => of_len1 (fun _ => rfl) us hl
  have F4 := fun_mk (st := s_is_way) l4 e4 k4
  have b4 := F4.binds (ps := ["pipe", "i", "j"]) fun _ _ _ _ _ _ us hl => of_len3 (fun _ _ _ => rfl) us hl
  have F5 := fun_mk (st := s_are_apart) l5 e5 k5
  have b5 := F5.binds (ps := ["pipe", "one", "other"]) fun _ _ _ _ _ _ us hl => of_len3 (fun _ _ _ => rfl) us hl
  have F6 := fun_mk (st := s_first_apart) l6 e6 k6
  have b6 := F6.binds (ps := ["pipe", "pairs"]) fun _ _ _ _ _ _ us hl => of_len2 (fun _ _ => rfl) us hl
  have F7 := fun_mk (st := s_Content___init__) l7 e7 k7
  have b7 := F7.binds (ps := ["self", "pipe", "fill"]) fun _ _ _ _ _ _ us hl => of_len3 (fun _ _ _ => rfl) us hl
  have F8 := fun_mk (st := s_newly_met) l8 e8 k8
  have b8 := F8.binds (ps := ["fill"]) fun _ _ _ _ _ _ us hl => of_len1 (fun _ => rfl) us hl
  have F9 := fun_mk (st := s_joined) l9 e9 k9
  have b9 := F9.binds (ps := ["row"]) fun _ _ _ _ _ _ us hl => of_len1 (fun _ => rfl) us hl
  have F10 := fun_mk (st := s_stretches) l10 e10 k10
  have b10 := F10.binds (ps := ["content"]) fun _ _ _ _ _ _ us hl => of_len1 (fun _ => rfl) us hl
  have F11 := fun_mk (st := s_meetings) l11 e11 k11
  have b11 := F11.binds (ps := ["content"]) fun _ _ _ _ _ _ us hl => of_len1 (fun _ => rfl) us hl
  have F12 := fun_mk (st := s_pigs) l12 e12 k12
  have b12 := F12.binds (ps := ["content"]) fun _ _ _ _ _ _ us hl => of_len1 (fun _ => rfl) us hl
  have F13 := fun_mk (st := s_ware_at) l13 e13 k13
  have b13 := F13.binds (ps := ["content", "place"]) fun _ _ _ _ _ _ us hl => of_len2 (fun _ _ => rfl) us hl
  have F14 := fun_mk (st := s_pairs_ahead) l14 e14 k14
  have b14 := F14.binds (ps := ["content", "a", "ware"]) fun _ _ _ _ _ _ us hl => of_len3 (fun _ _ _ => rfl) us hl
  have F15 := fun_mk (st := s_pairs_at_first) l15 e15 k15
  have b15 := F15.binds (ps := ["content", "a", "ware"]) fun _ _ _ _ _ _ us hl => of_len3 (fun _ _ _ => rfl) us hl
  have F16 := fun_mk (st := s_check_way) l16 e16 k16
  have b16 := F16.binds (ps := ["pipe", "i", "j"]) fun _ _ _ _ _ _ us hl => of_len3 (fun _ _ _ => rfl) us hl
  have F17 := fun_mk (st := s_spacer_for) l17 e17 k17
  have b17 := F17.binds (ps := ["content", "i", "j", "ware", "spacers"]) fun _ _ _ _ _ _ us hl => of_len5 (fun _ _ _ _ _ => rfl) us hl
  have F18 := fun_mk (st := s_l_mix) l18 e18 k18
  have b18 := F18.binds (ps := ["_law_cell", "_law_k"]) fun _ _ _ _ _ _ us hl => of_len2 (fun _ _ => rfl) us hl
  have F19 := fun_mk (st := s_l_at) l19 e19 k19
  have b19 := F19.binds (ps := ["_law_script", "_law_k"]) fun _ _ _ _ _ _ us hl => of_len2 (fun _ _ => rfl) us hl
  have F20 := fun_mk (st := s_l_wares) l20 e20 k20
  have b20 := F20.binds (ps := ["_law_cell"]) fun _ _ _ _ _ _ us hl => of_len1 (fun _ => rfl) us hl
  have F21 := fun_mk (st := s_l_five) l21 e21 k21
  have b21 := F21.binds (ps := ["_law_cell", "_law_wares_here", "_law_most"]) fun _ _ _ _ _ _ us hl => of_len3 (fun _ _ _ => rfl) us hl
  have F22 := fun_mk (st := s_l_apart) l22 e22 k22
  have b22 := F22.binds (ps := ["_law_five_here", "_law_one", "_law_other"]) fun _ _ _ _ _ _ us hl => of_len3 (fun _ _ _ => rfl) us hl
  have F23 := fun_mk (st := s_l_fill) l23 e23 k23
  have b23 := F23.binds (ps := ["_law_five_here", "_law_cell", "_law_wares_here"]) fun _ _ _ _ _ _ us hl => of_len3 (fun _ _ _ => rfl) us hl
  have F24 := fun_mk (st := s_l_push) l24 e24 k24
  have b24 := F24.binds (ps := ["_law_five_here", "_law_cell", "_law_k", "_law_wares_here"]) fun _ _ _ _ _ _ us hl => of_len4 (fun _ _ _ _ => rfl) us hl
  have F25 := fun_mk (st := s_l_pipe) l25 e25 k25
  have b25 := F25.binds (ps := ["_law_cell", "_law_wares_here", "_law_most"]) fun _ _ _ _ _ _ us hl => of_len3 (fun _ _ _ => rfl) us hl
  have F26 := fun_mk (st := s_l_of) l26 e26 k26
  have b26 := F26.binds (ps := ["_law_five_here"]) fun _ _ _ _ _ _ us hl => of_len1 (fun _ => rfl) us hl
  have F27 := fun_mk (st := s_l_units) l27 e27 k27
  have b27 := F27.binds (ps := ["_law_fill_here"]) fun _ _ _ _ _ _ us hl => of_len1 (fun _ => rfl) us hl
  have F28 := fun_mk (st := s_l_spacer) l28 e28 k28
  have b28 := F28.binds (ps := ["_law_five_here", "_law_units_here", "_law_i", "_law_ware", "_law_spacers_here"]) fun _ _ _ _ _ _ us hl => of_len5 (fun _ _ _ _ _ => rfl) us hl
  have F29 := fun_mk (st := s_l_spacers) l29 e29 k29
  have b29 := F29.binds (ps := ["_law_cell", "_law_wares_here", "_law_many"]) fun _ _ _ _ _ _ us hl => of_len3 (fun _ _ _ => rfl) us hl
  have F30 := fun_mk (st := s_l_kept) l30 e30 k30
  have b30 := F30.binds (ps := ["_law_content"]) fun _ _ _ _ _ _ us hl => of_len1 (fun _ => rfl) us hl
  have F31 := fun_mk (st := s_l_asked) l31 e31 k31
  have b31 := F31.binds (ps := ["_law_content", "_law_push_here", "_law_spacers_here"]) fun _ _ _ _ _ _ us hl => of_len3 (fun _ _ _ => rfl) us hl
  have F32 := fun_mk (st := s_law) l32 e32 k32
  have b32 := F32.binds (ps := ["_law_script"]) fun _ _ _ _ _ _ us hl => of_len1 (fun _ => rfl) us hl
  exact ⟨⟨c_Pipe, c_Content, c_PipeError, c_BadFill, c_Touch, c_NoWay, c_NoSpacer, f0, _, f1, _, f2, _, f3, _, f4, _, f5, _, f6, _, f7, _, f8, _, f9, _, f10, _, f11, _, f12, _, f13, _, f14, _, f15, _, f16, _, f17, _, f18, _, f19, _, f20, _, f21, _, f22, _, f23, _, f24, _, f25, _, f26, _, f27, _, f28, _, f29, _, f30, _, f31, _, f32, _⟩, ⟨F0, b0, ⟨F1, b1, PySem.W.mg_of X G a1⟩, ⟨F2, b2, PySem.W.mg_of X G a2⟩, ⟨F3, b3, PySem.W.mg_of X G a3⟩, ⟨F4, b4, PySem.W.mg_of X G a4⟩, ⟨F5, b5, PySem.W.mg_of X G a5⟩, ⟨F6, b6, PySem.W.mg_of X G a6⟩, F7, b7, ⟨F8, b8, PySem.W.mg_of X G a8⟩, ⟨F9, b9, PySem.W.mg_of X G a9⟩, ⟨F10, b10, PySem.W.mg_of X G a10⟩, ⟨F11, b11, PySem.W.mg_of X G a11⟩, ⟨F12, b12, PySem.W.mg_of X G a12⟩, ⟨F13, b13, PySem.W.mg_of X G a13⟩, ⟨F14, b14, PySem.W.mg_of X G a14⟩, ⟨F15, b15, PySem.W.mg_of X G a15⟩, ⟨F16, b16, PySem.W.mg_of X G a16⟩, ⟨F17, b17, PySem.W.mg_of X G a17⟩, ⟨F18, b18, PySem.W.mg_of X G a18⟩, ⟨F19, b19, PySem.W.mg_of X G a19⟩, ⟨F20, b20, PySem.W.mg_of X G a20⟩, ⟨F21, b21, PySem.W.mg_of X G a21⟩, ⟨F22, b22, PySem.W.mg_of X G a22⟩, ⟨F23, b23, PySem.W.mg_of X G a23⟩, ⟨F24, b24, PySem.W.mg_of X G a24⟩, ⟨F25, b25, PySem.W.mg_of X G a25⟩, ⟨F26, b26, PySem.W.mg_of X G a26⟩, ⟨F27, b27, PySem.W.mg_of X G a27⟩, ⟨F28, b28, PySem.W.mg_of X G a28⟩, ⟨F29, b29, PySem.W.mg_of X G a29⟩, ⟨F30, b30, PySem.W.mg_of X G a30⟩, ⟨F31, b31, PySem.W.mg_of X G a31⟩, ⟨F32, b32, PySem.W.mg_of X G a32⟩, PySem.W.mg_of X G ac_Pipe, ⟨pg_Pipe, hd_Pipe, po_Pipe, sa_Pipe⟩, ⟨mk_Pipe, a0, i0, kc_Pipe⟩, n_Pipe_rooms, n_Pipe_table, n_Pipe_thick, n_Pipe_apart, n_Pipe_pig, PySem.W.mg_of X G ac_Content, ⟨pg_Content, hd_Content, po_Content, sa_Content⟩, ⟨mk_Content, a7, i7, kc_Content⟩, n_Content_pipe, n_Content_own_pipe, n_Content_lying, n_Content_riding, PySem.W.mg_of X G x_c_PipeError, PySem.W.mg_of X G x_c_BadFill, PySem.W.mg_of X G x_c_Touch, PySem.W.mg_of X G x_c_NoWay, PySem.W.mg_of X G x_c_NoSpacer, ⟨xga_X_NoWay, xgg_X_NoWay, xsa_X_NoWay, xmb_X_NoWay, xmo_X_NoWay, xhd_X_NoWay, xkc_X_NoWay, xcg_X_NoWay, xct_X_NoWay⟩, ⟨⟨_, _, _, _, _, _, _, _, xlb_R_NoWay, xlo_R_NoWay, xok_R_NoWay, xni_R_NoWay⟩, ⟨_, _, _, _, _, _, _, _, _, _, _, _, _, _, _, xlk_R_NoWay⟩, xkp_R_NoWay⟩, x_I_NoWay, x_e_NoWay_PipeError, x_k_NoWay_NoWay, x_k_NoWay_NoSpacer, x_k_NoWay_Touch, x_k_NoWay_ValueError, ⟨xga_X_NoSpacer, xgg_X_NoSpacer, xsa_X_NoSpacer, xmb_X_NoSpacer, xmo_X_NoSpacer, xhd_X_NoSpacer, xkc_X_NoSpacer, xcg_X_NoSpacer, xct_X_NoSpacer⟩, ⟨⟨_, _, _, _, _, _, _, _, xlb_R_NoSpacer, xlo_R_NoSpacer, xok_R_NoSpacer, xni_R_NoSpacer⟩, ⟨_, _, _, _, _, _, _, _, _, _, _, _, _, _, _, xlk_R_NoSpacer⟩, xkp_R_NoSpacer⟩, x_I_NoSpacer, x_e_NoSpacer_PipeError, x_k_NoSpacer_NoWay, x_k_NoSpacer_NoSpacer, x_k_NoSpacer_Touch, x_k_NoSpacer_ValueError, PySem.W.mg_none_of X G z_ValueError, PySem.W.mg_none_of X G z_abs, PySem.W.mg_none_of X G z_any, PySem.W.mg_none_of X G z_enumerate, PySem.W.mg_none_of X G z_int, PySem.W.mg_none_of X G z_isinstance, PySem.W.mg_none_of X G z_len, PySem.W.mg_none_of X G z_list, PySem.W.mg_none_of X G z_max, PySem.W.mg_none_of X G z_min, PySem.W.mg_none_of X G z_range, PySem.W.mg_none_of X G z_sum, PySem.W.mg_none_of X G z_zip⟩, rfl, fun s v => .of_eq rfl⟩
theorem walk {l : PySem.W.OpenLaw} {q : Program} {loose : List Str} {XP : (Str → Option Value) → Heap → Prop} {YP : World → Heap → Prop} {d : DefRec} {K : Params → PySem.W.Frag} (hn : l.most = some 63) (hdf : d.params.defaults = []) (hdn : d.name = "law")
    (hY : ∀ (w : World) (h : Heap), YP w h → (K w.params).In h)
    (F : ∀ (w : World) (mg : Str → Option Value) (fa : Addr) (h : Heap), (K w.params).In h → h.Ns mainGlobals mg → mg "law" = some (.ref fa) →
      ∃ t : Ad, Txt (K w.params) mg t ∧ fa = t.f_law ∧ (∀ (s : Shared) (v : Value), BindsTo s t.d_law ⟨[v], []⟩ [("_law_script", v)])) :
    PySem.W.WalkO q loose XP YP l.row.toRowW d [] (fun f vs => PySem.call f vs) :=
  L2.walk_of (n := 63) (k := 6) (x := "_law_script") (CX := fun _ => CX0) (sp := fun w => spLaw (K w.params)) hn (by decide) hdf ⟨rfl, by decide, by decide⟩ hY
    (fun w mg fa h KX G hmg => by
      rw [hdn] at hmg
      obtain ⟨t, T, e, hb⟩ := F w mg fa h KX G hmg
      subst e
      exact ⟨t.d_law, hb, fun base _ _ => ok_law T⟩)
    (fun _ _ a ns hl _ hS => ⟨a, ns, rfl, hS, hl, fun _ => rfl⟩) fun _ _ _ _ _ z => z
end My
open PySem PySem.W PyProof.Rows
set_option maxRecDepth 100000 in
set_option maxHeartbeats 0 in
theorem PySem.Challenge.cw_batchpipe_k33_the_spacer_that_fits_holds : PySem.Challenge.rw_batchpipe_k33_the_spacer_that_fits.Holds := by
  w_on; o_law; k_head; (case hw => w_witness2)
  k_fill
  refine My.walk (l := PySem.Challenge.rw_batchpipe_k33_the_spacer_that_fits) rfl rfl rfl (fun w h Y => PySem.W.kIn_of Y) ?F
  case F =>
    intro w mg fa h KX G hmg
    refine' My.all_mk KX G hmg ?x_c_PipeError ?x_c_BadFill ?x_c_Touch ?x_c_NoWay ?x_c_NoSpacer ?xga_X_NoWay ?xgg_X_NoWay ?xsa_X_NoWay ?xmb_X_NoWay ?xmo_X_NoWay ?xhd_X_NoWay ?xkc_X_NoWay ?xcg_X_NoWay ?xct_X_NoWay ?xlb_R_NoWay ?xlo_R_NoWay ?xok_R_NoWay ?xni_R_NoWay ?xlk_R_NoWay ?xkp_R_NoWay ?x_I_NoWay ?x_e_NoWay_PipeError ?x_k_NoWay_NoWay ?x_k_NoWay_NoSpacer ?x_k_NoWay_Touch ?x_k_NoWay_ValueError ?xga_X_NoSpacer ?xgg_X_NoSpacer ?xsa_X_NoSpacer ?xmb_X_NoSpacer ?xmo_X_NoSpacer ?xhd_X_NoSpacer ?xkc_X_NoSpacer ?xcg_X_NoSpacer ?xct_X_NoSpacer ?xlb_R_NoSpacer ?xlo_R_NoSpacer ?xok_R_NoSpacer ?xni_R_NoSpacer ?xlk_R_NoSpacer ?xkp_R_NoSpacer ?x_I_NoSpacer ?x_e_NoSpacer_PipeError ?x_k_NoSpacer_NoWay ?x_k_NoSpacer_NoSpacer ?x_k_NoSpacer_Touch ?x_k_NoSpacer_ValueError ?ac_Pipe ?ac_Content ?a0 ?i0 ?l0 ?e0 ?k0 ?a1 ?l1 ?e1 ?k1 ?a2 ?l2 ?e2 ?k2 ?a3 ?l3 ?e3 ?k3 ?a4 ?l4 ?e4 ?k4 ?a5 ?l5 ?e5 ?k5 ?a6 ?l6 ?e6 ?k6 ?a7 ?i7 ?l7 ?e7 ?k7 ?a8 ?l8 ?e8 ?k8 ?a9 ?l9 ?e9 ?k9 ?a10 ?l10 ?e10 ?k10 ?a11 ?l11 ?e11 ?k11 ?a12 ?l12 ?e12 ?k12 ?a13 ?l13 ?e13 ?k13 ?a14 ?l14 ?e14 ?k14 ?a15 ?l15 ?e15 ?k15 ?a16 ?l16 ?e16 ?k16 ?a17 ?l17 ?e17 ?k17 ?a18 ?l18 ?e18 ?k18 ?a19 ?l19 ?e19 ?k19 ?a20 ?l20 ?e20 ?k20 ?a21 ?l21 ?e21 ?k21 ?a22 ?l22 ?e22 ?k22 ?a23 ?l23 ?e23 ?k23 ?a24 ?l24 ?e24 ?k24 ?a25 ?l25 ?e25 ?k25 ?a26 ?l26 ?e26 ?k26 ?a27 ?l27 ?e27 ?k27 ?a28 ?l28 ?e28 ?k28 ?a29 ?l29 ?e29 ?k29 ?a30 ?l30 ?e30 ?k30 ?a31 ?l31 ?e31 ?k31 ?a32 ?l32 ?e32 ?k32 ?pg_Pipe ?hd_Pipe ?po_Pipe ?sa_Pipe ?mk_Pipe ?kc_Pipe ?n_Pipe_rooms ?n_Pipe_table ?n_Pipe_thick ?n_Pipe_apart ?n_Pipe_pig ?pg_Content ?hd_Content ?po_Content ?sa_Content ?mk_Content ?kc_Content ?n_Content_pipe ?n_Content_own_pipe ?n_Content_lying ?n_Content_riding ?z_ValueError ?z_abs ?z_any ?z_enumerate ?z_int ?z_isinstance ?z_len ?z_list ?z_max ?z_min ?z_range ?z_sum ?z_zip
    (case x_c_PipeError => k_is)
    (case x_c_BadFill => k_is)
    (case x_c_Touch => k_is)
    (case x_c_NoWay => k_is)
    (case x_c_NoSpacer => k_is)
    (case xga_X_NoWay => k_is)
    (case xgg_X_NoWay => k_is)
    (case xsa_X_NoWay => k_is)
    (case xmb_X_NoWay => k_is)
    (case xmo_X_NoWay => k_is)
    (case xhd_X_NoWay => k_is)
    (case xkc_X_NoWay => k_is)
    (case xcg_X_NoWay => k_is)
    (case xct_X_NoWay => k_is)
    (case xlb_R_NoWay => k_is)
    (case xlo_R_NoWay => k_is)
    (case xok_R_NoWay => first | rfl | (rw [← Array.all_toList]; rfl) | simp [L2.isStrKey])
    (case xni_R_NoWay => k_is)
    (case xlk_R_NoWay => k_is)
    (case xkp_R_NoWay => k_is)
    (case x_I_NoWay => k_is)
    (case x_e_NoWay_PipeError => kts_exm)
    (case x_k_NoWay_NoWay => kit_is)
    (case x_k_NoWay_NoSpacer => kit_is)
    (case x_k_NoWay_Touch => kit_is)
    (case x_k_NoWay_ValueError => kit_is)
    (case xga_X_NoSpacer => k_is)
    (case xgg_X_NoSpacer => k_is)
    (case xsa_X_NoSpacer => k_is)
    (case xmb_X_NoSpacer => k_is)
    (case xmo_X_NoSpacer => k_is)
    (case xhd_X_NoSpacer => k_is)
    (case xkc_X_NoSpacer => k_is)
    (case xcg_X_NoSpacer => k_is)
    (case xct_X_NoSpacer => k_is)
    (case xlb_R_NoSpacer => k_is)
    (case xlo_R_NoSpacer => k_is)
    (case xok_R_NoSpacer => first | rfl | (rw [← Array.all_toList]; rfl) | simp [L2.isStrKey])
    (case xni_R_NoSpacer => k_is)
    (case xlk_R_NoSpacer => k_is)
    (case xkp_R_NoSpacer => k_is)
    (case x_I_NoSpacer => k_is)
    (case x_e_NoSpacer_PipeError => kts_exm)
    (case x_k_NoSpacer_NoWay => kit_is)
    (case x_k_NoSpacer_NoSpacer => kit_is)
    (case x_k_NoSpacer_Touch => kit_is)
    (case x_k_NoSpacer_ValueError => kit_is)
    (case ac_Pipe => k_is)
    (case ac_Content => k_is)
    (case a0 => k_is)
    (case i0 => k_is)
    (case l0 => k_is)
    (case e0 => k_is)
    (case k0 => k_is)
    (case a1 => k_is)
    (case l1 => k_is)
    (case e1 => k_is)
    (case k1 => k_is)
    (case a2 => k_is)
    (case l2 => k_is)
    (case e2 => k_is)
    (case k2 => k_is)
    (case a3 => k_is)
    (case l3 => k_is)
    (case e3 => k_is)
    (case k3 => k_is)
    (case a4 => k_is)
    (case l4 => k_is)
    (case e4 => k_is)
    (case k4 => k_is)
    (case a5 => k_is)
    (case l5 => k_is)
    (case e5 => k_is)
    (case k5 => k_is)
    (case a6 => k_is)
    (case l6 => k_is)
    (case e6 => k_is)
    (case k6 => k_is)
    (case a7 => k_is)
    (case i7 => k_is)
    (case l7 => k_is)
    (case e7 => k_is)
    (case k7 => k_is)
    (case a8 => k_is)
    (case l8 => k_is)
    (case e8 => k_is)
    (case k8 => k_is)
    (case a9 => k_is)
    (case l9 => k_is)
    (case e9 => k_is)
    (case k9 => k_is)
    (case a10 => k_is)
    (case l10 => k_is)
    (case e10 => k_is)
    (case k10 => k_is)
    (case a11 => k_is)
    (case l11 => k_is)
    (case e11 => k_is)
    (case k11 => k_is)
    (case a12 => k_is)
    (case l12 => k_is)
    (case e12 => k_is)
    (case k12 => k_is)
    (case a13 => k_is)
    (case l13 => k_is)
    (case e13 => k_is)
    (case k13 => k_is)
    (case a14 => k_is)
    (case l14 => k_is)
    (case e14 => k_is)
    (case k14 => k_is)
    (case a15 => k_is)
    (case l15 => k_is)
    (case e15 => k_is)
    (case k15 => k_is)
    (case a16 => k_is)
    (case l16 => k_is)
    (case e16 => k_is)
    (case k16 => k_is)
    (case a17 => k_is)
    (case l17 => k_is)
    (case e17 => k_is)
    (case k17 => k_is)
    (case a18 => k_is)
    (case l18 => k_is)
    (case e18 => k_is)
    (case k18 => k_is)
    (case a19 => k_is)
    (case l19 => k_is)
    (case e19 => k_is)
    (case k19 => k_is)
    (case a20 => k_is)
    (case l20 => k_is)
    (case e20 => k_is)
    (case k20 => k_is)
    (case a21 => k_is)
    (case l21 => k_is)
    (case e21 => k_is)
    (case k21 => k_is)
    (case a22 => k_is)
    (case l22 => k_is)
    (case e22 => k_is)
    (case k22 => k_is)
    (case a23 => k_is)
    (case l23 => k_is)
    (case e23 => k_is)
    (case k23 => k_is)
    (case a24 => k_is)
    (case l24 => k_is)
    (case e24 => k_is)
    (case k24 => k_is)
    (case a25 => k_is)
    (case l25 => k_is)
    (case e25 => k_is)
    (case k25 => k_is)
    (case a26 => k_is)
    (case l26 => k_is)
    (case e26 => k_is)
    (case k26 => k_is)
    (case a27 => k_is)
    (case l27 => k_is)
    (case e27 => k_is)
    (case k27 => k_is)
    (case a28 => k_is)
    (case l28 => k_is)
    (case e28 => k_is)
    (case k28 => k_is)
    (case a29 => k_is)
    (case l29 => k_is)
    (case e29 => k_is)
    (case k29 => k_is)
    (case a30 => k_is)
    (case l30 => k_is)
    (case e30 => k_is)
    (case k30 => k_is)
    (case a31 => k_is)
    (case l31 => k_is)
    (case e31 => k_is)
    (case k31 => k_is)
    (case a32 => k_is)
    (case l32 => k_is)
    (case e32 => k_is)
    (case k32 => k_is)
    (case pg_Pipe => k_is)
    (case hd_Pipe => k_is)
    (case po_Pipe => k_is)
    (case sa_Pipe => k_is)
    (case mk_Pipe => k_is)
    (case kc_Pipe => k_is)
    (case n_Pipe_rooms => k_is)
    (case n_Pipe_table => k_is)
    (case n_Pipe_thick => k_is)
    (case n_Pipe_apart => k_is)
    (case n_Pipe_pig => k_is)
    (case pg_Content => k_is)
    (case hd_Content => k_is)
    (case po_Content => k_is)
    (case sa_Content => k_is)
    (case mk_Content => k_is)
    (case kc_Content => k_is)
    (case n_Content_pipe => k_is)
    (case n_Content_own_pipe => k_is)
    (case n_Content_lying => k_is)
    (case n_Content_riding => k_is)
    (case z_ValueError => k_is)
    (case z_abs => k_is)
    (case z_any => k_is)
    (case z_enumerate => k_is)
    (case z_int => k_is)
    (case z_isinstance => k_is)
    (case z_len => k_is)
    (case z_list => k_is)
    (case z_max => k_is)
    (case z_min => k_is)
    (case z_range => k_is)
    (case z_sum => k_is)
    (case z_zip => k_is)
