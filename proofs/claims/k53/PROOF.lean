import PyProof.Rows.All
import Wide.All
import OpenK.AllK
import Wide.FinOn
import Lean
import PyProof.EqAt
import PyProof.EqKinds
import PyProof.TupleCall
import PySem.Challenge.RW_batchpipe_k53_the_near_order
set_option Elab.async false
set_option linter.all false
set_option maxRecDepth 100000
local macro_rules | `(tactic| omega) => `(tactic| lia)
namespace L2
open PySem PySem.Spec PyProof.Rows
noncomputable abbrev Key := Sum Int Str
noncomputable def keyIs : Key → Value → Bool
  | .inl k, v => Value.isInt k v
  | .inr x, v => Value.isStrOf x v
noncomputable def keyH (w : World) : Key → Int
  | .inl k => hashInt k
  | .inr x => hashStr w x
theorem keyIs_shape : ∀ {k : Key} {v : Value}, keyIs k v = true → (∃ i t, k = Sum.inl i ∧ v = Value.int i t) ∨ (∃ x t, k = Sum.inr x ∧ v = Value.str x t)
  | .inl i, v, h => by
    obtain ⟨t, e⟩ := Value.isInt_shape (k := i) (v := v) h
    exact .inl ⟨i, t, rfl, e⟩
  | .inr x, v, h => by
    obtain ⟨t, e⟩ := Value.isStrOf_shape (x := x) (v := v) h
    exact .inr ⟨x, t, rfl, e⟩
theorem key_ll (a b : Int) : decide ((Sum.inl a : Key) = Sum.inl b) = (a == b) := by
  by_cases e : a = b
  · subst e; simp
  · have h : ¬ (Sum.inl a : Key) = Sum.inl b := fun q => e (Sum.inl.inj q)
    rw [decide_eq_false h]
    exact (beq_eq_false_iff_ne.mpr e).symm
theorem key_rr (a b : Str) : decide ((Sum.inr a : Key) = Sum.inr b) = decide (a = b) := by
  by_cases e : a = b
  · subst e; simp
  · have h : ¬ (Sum.inr a : Key) = Sum.inr b := fun q => e (Sum.inr.inj q)
    rw [decide_eq_false h, decide_eq_false e]
theorem key_lr (a : Int) (b : Str) : decide ((Sum.inl a : Key) = Sum.inr b) = false := decide_eq_false (fun q => nomatch q)
theorem key_rl (a : Str) (b : Int) : decide ((Sum.inr a : Key) = Sum.inl b) = false := decide_eq_false (fun q => nomatch q)
noncomputable def mixKind (prog : Program) (w : World) : PySem.KeyKind prog w Key where
  is := keyIs
  hash := keyH w
  inj := fun v a b ha hb => by
    rcases keyIs_shape ha with ⟨i, t, rfl, rfl⟩ | ⟨x, t, rfl, rfl⟩
    · rcases keyIs_shape hb with ⟨j, u, rfl, e⟩ | ⟨y, u, rfl, e⟩
      · injection e with e1 _; rw [e1]
      · exact nomatch e
    · rcases keyIs_shape hb with ⟨j, u, rfl, e⟩ | ⟨y, u, rfl, e⟩
      · exact nomatch e
      · injection e with e1 _; rw [e1]
  byValue := fun k v h => by
    rcases keyIs_shape h with ⟨i, t, rfl, rfl⟩ | ⟨x, t, rfl, rfl⟩ <;> rfl
  pyHash := fun hv h => by
    rcases keyIs_shape hv with ⟨i, t, rfl, rfl⟩ | ⟨x, t, rfl, rfl⟩
    · exact wpAny_pyHash_int h
    · exact wpAny_pyHash_str h
  eqBool := fun hu hv h => by
    rcases keyIs_shape hu with ⟨i, t, rfl, rfl⟩ | ⟨x, t, rfl, rfl⟩
    · rcases keyIs_shape hv with ⟨j, u, rfl, rfl⟩ | ⟨y, u, rfl, rfl⟩
      · rw [key_ll] at h; exact wpAny_eqBool_int h
      · rw [key_lr] at h; exact SeqAt.EqAt.int_str i t y u _ _ _ _ h
    · rcases keyIs_shape hv with ⟨j, u, rfl, rfl⟩ | ⟨y, u, rfl, rfl⟩
      · rw [key_rl] at h; exact SeqAt.EqAt.str_int x t j u _ _ _ _ h
      · rw [key_rr] at h; exact wpAny_eqBool_str h
  «strs» := fun k x t v h => by
    rcases keyIs_shape h with ⟨i, u, rfl, e⟩ | ⟨y, u, rfl, e⟩
    · exact nomatch e
    · injection e with e1 _
      subst e1
      cases v <;> rfl
end L2
namespace L2
open PySem PySem.Spec PyProof.Rows
inductive V where
  | non | bl (b : Bool) | int (i : Int) | str (x : Str) | byt (b : Array UInt8) | flt (b : UInt64) | ref (a : Addr) | ty (n : String)
  deriving DecidableEq
noncomputable def RelV : V → Value → Prop
  | .non, u => u = Value.none
  | .bl b, u => u = Value.bool b
  | .int i, u => ∃ t, u = Value.int i t
  | .str x, u => ∃ t, u = Value.str x t
  | .byt b, u => ∃ t, u = Value.bytes b t
  | .flt b, u => ∃ t, u = Value.float b t
  | .ref a, u => u = Value.ref a
  | .ty n, u => u = Value.type n
noncomputable abbrev Vals : List V → List Value → Prop := Paired RelV
theorem Vals.length {xs : List V} {us : List Value} (r : Vals xs us) : xs.length = us.length := Paired.length r
theorem Vals.get {xs : List V} {us : List Value} {i : Nat} {x : V} (h : Vals xs us) (e : xs[i]? = some x) : ∃ u, us[i]? = some u ∧ RelV x u := by
  induction h generalizing i with
  | nil => simp at e
  | cons r t ih =>
    cases i with
    | zero =>
      rw [List.getElem?_cons_zero] at e
      cases e
      exact ⟨_, rfl, r⟩
    | succ i =>
      rw [List.getElem?_cons_succ] at e ⊢
      exact ih e
theorem Vals.set {x : V} {u : Value} (r : RelV x u) : ∀ {xs : List V} {us : List Value} (i : Nat), Vals xs us → Vals (xs.set i x) (us.set i u)
  | _, _, _, .nil => .nil
  | _, _, 0, .cons _ t => .cons r t
  | _, _, i + 1, .cons q t => .cons q (Vals.set r i t)
theorem Vals.append {xs ys : List V} {us ws : List Value} (h : Vals xs us) (s : Vals ys ws) : Vals (xs ++ ys) (us ++ ws) := by
  induction h with
  | nil => exact s
  | cons r t ih => exact .cons r ih
theorem Vals.take {xs : List V} {us : List Value} (n : Nat) (h : Vals xs us) : Vals (xs.take n) (us.take n) := by
  induction h generalizing n with
  | nil => rw [List.take_nil, List.take_nil]; exact .nil
  | cons r t ih =>
    cases n with
    | zero => exact .nil
    | succ n => exact .cons r (ih n)
theorem Vals.drop {xs : List V} {us : List Value} (n : Nat) (h : Vals xs us) : Vals (xs.drop n) (us.drop n) := by
  induction h generalizing n with
  | nil => rw [List.drop_nil, List.drop_nil]; exact .nil
  | cons r t ih =>
    cases n with
    | zero => exact .cons r t
    | succ n => exact ih n
noncomputable def RelO : Option V → Option Value → Prop
  | some v, some u => RelV v u
  | none, none => True
  | _, _ => False
noncomputable def KV {κ : Type} : List (κ × V) → List (κ × Value) → Prop := Paired fun (p : κ × V) (q : κ × Value) => p.1 = q.1 ∧ RelV p.2 q.2
noncomputable def kV : Key → V
  | .inl i => .int i
  | .inr x => .str x
inductive HO where
    | lst (xs : List V)
    | tup (xs : List V)
    | dK (kvs : List (Key × V)) | dT (kvs : List (List Key × V))
    | set (S : Int → Bool) (n : Nat)
    | ins (C dx : Addr) (fs : List (Str × V))
    | own (x : Addr)
    | xd (fs : List (Str × V))
    | met (f x : Addr)
    | rng (lo hi : Int)
    | frz (o : Obj) (u : HO)
    | tbl (ps : Array Value)
    | ext (φ : Heap → Prop)
noncomputable abbrev Hp := Addr → Option HO
noncomputable def upd (H : Hp) (a : Addr) (o : HO) : Hp := fun b => if b = a then some o else H b
theorem upd_same {H : Hp} {a : Addr} {o : HO} : upd H a o a = some o := by unfold upd; rw [if_pos rfl]
theorem upd_ne {H : Hp} {a b : Addr} {o : HO} (h : b ≠ a) : upd H a o b = H b := by unfold upd; rw [if_neg h]
theorem ne_of_none {H : Hp} {a b : Addr} {o : HO} (h : H a = some o) (h' : H b = none) : a ≠ b := by
  intro e; subst e; rw [h] at h'; cases h'
section
variable (P : Program) (w : World)
noncomputable def ObjOk (H : Hp) (h : Heap) (a : Addr) : HO → Prop
  | .lst xs => xs.length ≤ sizeLine ∧ ∃ (its : List Value) (n : Nat), Vals xs its ∧ h.get? a = some { cls := .type "list", data := .seq its.toArray n }
  | .tup xs => xs.length ≤ sizeLine ∧ ∃ its : List Value, Vals xs its ∧ IsTup h a its.toArray
  | .dK kvs => kvs.length ≤ sizeLine ∧ (a == sysModules) = false ∧ ∃ vs, KV kvs vs ∧ h.DictOf (mixKind P w) a vs
  | .dT kvs => kvs.length ≤ sizeLine ∧ (a == sysModules) = false ∧ ∃ xs : List (List Key × Addr × Value),
      Paired (fun (p : List Key × V) (q : List Key × Addr × Value) => p.1 = q.1 ∧ H q.2.1 = some (.tup (p.1.map kV)) ∧ RelV p.2 q.2.2) kvs xs ∧
      ∃ o es ep, h.get? a = some o ∧ o.ExactDict ∧ o.data = .dict es ep ∧ es.toList = xs.map (entryOfKey (tupleKind (mixKind P w))) ∧ (xs.map (·.1)).Nodup
  | .set S n => h.SetOf (intKind P w) a S n
  | .ins C dx fs => H dx = some (.own a) ∧ fs.length ≤ 1000 ∧ dx ≠ a ∧ h.get? a = some (PySem.W.instObj C dx) ∧
      ∃ mA, h.Ns1 dx mA ∧ (∀ f, RelO (fs.lookup f) (mA f)) ∧ PySem.Within mA (fs.map (·.1))
  | .own _ => ∃ o, h.get? a = some o
  | .xd fs => ∃ mA, h.Ns1 a mA ∧ ∀ f, RelO (fs.lookup f) (mA f)
  | .rng lo hi => ∃ t u v, h.get? a = some { cls := .type "range", data := .fields #[.int lo t, .int hi u, .int 1 v] }
  | .frz o u => h.get? a = some o ∧ ObjOk H h a u
  | .tbl ps => h.get? a = some { cls := .none, data := .fields ps }
  | .met f x => h.get? a = some (PySem.W.methodObj (.ref f) (.ref x))
  | .ext φ => φ h ∧ (∃ o, h.get? a = some o) ∧ ∀ h1 h2 : Heap, φ h1 → (∀ o, h1.get? a = some o → h2.get? a = some o) → φ h2
noncomputable def HOk (H : Hp) (h : Heap) : Prop := ∀ a o, H a = some o → ObjOk P w H h a o
end
section
variable {P : Program} {w : World} {H H' : Hp} {h h' : Heap} {a : Addr} {o : HO}
theorem ObjOk.lt (x : ObjOk P w H h a o) : a < h.objs.size := by
  cases o with
  | lst xs => obtain ⟨_, _, _, _, e⟩ := x; exact Heap.lt_size e
  | tup xs => obtain ⟨_, _, _, p⟩ := x; exact p.lt
  | dK kvs => obtain ⟨_, _, _, _, o, _, _, e, _⟩ := x; exact Heap.lt_size e
  | dT kvs => obtain ⟨_, _, _, _, o, _, _, e, _⟩ := x; exact Heap.lt_size e
  | set S n => obtain ⟨o, _, _, _, e, _⟩ := x; exact Heap.lt_size e
  | ins C dx fs => obtain ⟨_, _, _, e, _⟩ := x; exact Heap.lt_size e
  | own y => obtain ⟨_, e⟩ := x; exact Heap.lt_size e
  | xd fs => obtain ⟨_, ⟨_, _, _, e, _⟩, _⟩ := x; exact Heap.lt_size e
  | rng lo hi => obtain ⟨_, _, _, e⟩ := x; exact Heap.lt_size e
  | frz ob u => obtain ⟨e, _⟩ := x; exact Heap.lt_size e
  | tbl ps => exact Heap.lt_size (show h.get? a = some _ from x)
  | met f y => exact Heap.lt_size (show h.get? a = some _ from x)
  | ext φ => obtain ⟨_, ⟨_, e⟩, _⟩ := x; exact Heap.lt_size e
theorem Paired.mapP {α β : Type} {F G : α → β → Prop} {l₁ : List α} {l₂ : List β} (h : Paired F l₁ l₂) (f : ∀ a b, F a b → G a b) : Paired G l₁ l₂ := by
  induction h with
  | nil => exact .nil
  | cons r t ih => exact .cons (f _ _ r) ih
theorem ObjOk.stay (x : ObjOk P w H h a o) (k : ∀ b u, (b = a ∨ H b = some (.own a)) → h.get? b = some u → h'.get? b = some u)
    (ho : ∀ b, H b = some (.own a) → H' b = some (.own a)) (ht : ∀ b xs, H b = some (.tup xs) → H' b = some (.tup xs)) : ObjOk P w H' h' a o := by
  induction o with
  | lst xs => obtain ⟨z, its, n, r, e⟩ := x; exact ⟨z, its, n, r, k _ _ (.inl rfl) e⟩
  | tup xs => obtain ⟨z, its, r, ob, e, c⟩ := x; exact ⟨z, its, r, ob, k _ _ (.inl rfl) e, c⟩
  | dK kvs => obtain ⟨z, y, vs, r, ob, es, ep, e, c⟩ := x; exact ⟨z, y, vs, r, ob, es, ep, k _ _ (.inl rfl) e, c⟩
  | dT kvs =>
    obtain ⟨z, y, xs, r, ob, es, ep, e, c⟩ := x
    exact ⟨z, y, xs, Paired.mapP r fun p q z => ⟨z.1, ht _ _ z.2.1, z.2.2⟩, ob, es, ep, k _ _ (.inl rfl) e, c⟩
  | set S n => obtain ⟨ob, es, ep, t, e, c⟩ := x; exact ⟨ob, es, ep, t, k _ _ (.inl rfl) e, c⟩
  | ins C dx fs =>
    obtain ⟨d, z, ne, e, mA, ⟨od, es, ep, e2, c⟩, r⟩ := x
    exact ⟨ho _ d, z, ne, k _ _ (.inl rfl) e, mA, ⟨od, es, ep, k _ _ (.inr d) e2, c⟩, r⟩
  | own y => obtain ⟨ob, e⟩ := x; exact ⟨ob, k _ _ (.inl rfl) e⟩
  | xd fs => obtain ⟨mA, ⟨od, es, ep, e, c⟩, r⟩ := x; exact ⟨mA, ⟨od, es, ep, k _ _ (.inl rfl) e, c⟩, r⟩
  | rng lo hi => obtain ⟨t, u, v, e⟩ := x; exact ⟨t, u, v, k _ _ (.inl rfl) e⟩
  | frz ob u ih => obtain ⟨e, q⟩ := x; exact ⟨k _ _ (.inl rfl) e, ih q⟩
  | tbl ps =>
    have e : h.get? a = some { cls := .none, data := .fields ps } := x
    show h'.get? a = some { cls := .none, data := .fields ps }
    exact k a _ (.inl rfl) e
  | met f y =>
    have e : h.get? a = some (PySem.W.methodObj (.ref f) (.ref y)) := x
    show h'.get? a = some (PySem.W.methodObj (.ref f) (.ref y))
    exact k a _ (.inl rfl) e
  | ext φ => obtain ⟨p, ⟨o, e⟩, st⟩ := x; exact ⟨st _ _ p fun o q => k _ _ (.inl rfl) q, ⟨o, k _ _ (.inl rfl) e⟩, st⟩
theorem HOk.lt (x : HOk P w H h) (e : H a = some o) : a < h.objs.size := (x a o e).lt
theorem HOk.fresh (x : HOk P w H h) (e : h.objs.size ≤ a) : H a = none := by
  cases q : H a with
  | none => rfl
  | some u => exact absurd (Nat.lt_of_lt_of_le (x.lt q) e) (Nat.lt_irrefl _)
theorem HOk.kept (x : HOk P w H h) (k : ∀ b u, h.get? b = some u → h'.get? b = some u) : HOk P w H h' := fun a o e =>
  (x a o e).stay (fun b u _ q => k b u q) (fun _ q => q) fun _ _ q => q
theorem HOk.laid (x : HOk P w H h) (k : ∀ b u, h.get? b = some u → h'.get? b = some u) (hp : h.objs.size ≤ a) (new : ObjOk P w (upd H a o) h' a o) : HOk P w (upd H a o) h' := fun b u e => by
  have hn := x.fresh hp
  by_cases hb : b = a
  · subst hb; rw [upd_same] at e; cases e; exact new
  · rw [upd_ne hb] at e
    exact (x b u e).stay (fun c v _ q => k c v q) (fun c q => by rw [upd_ne (ne_of_none q hn)]; exact q) fun c xs q => by rw [upd_ne (ne_of_none q hn)]; exact q
end
noncomputable def Rd (H : Hp) (a : Addr) (u : HO) : Prop := H a = some u ∨ ∃ o, H a = some (.frz o u)
theorem Rd.ok {P : Program} {w : World} {H : Hp} {h : Heap} {a : Addr} {u : HO} (r : Rd H a u) (x : HOk P w H h) : ObjOk P w H h a u := by
  rcases r with r | ⟨o, r⟩
  · exact x a u r
  · obtain ⟨_, q⟩ := x a _ r
    exact q
noncomputable def Mut : Option HO → Prop
  | some (.lst _) => True
  | some (.dK _) => True
  | some (.dT _) => True
  | some (.set _ _) => True
  | some (.ins _ _ _) => True
  | some (.ext _) => True
  | _ => False
section
variable {P : Program} {w : World} {H : Hp} {h h' : Heap} {x e : Addr} {o' : HO}
theorem HOk.write (ok : HOk P w H h) (mu : Mut (H x)) (he : e = x ∨ H e = some (.own x)) (k : ∀ b u, b ≠ e → h.get? b = some u → h'.get? b = some u) (heo : ∃ u, h'.get? e = some u)
    (new : ObjOk P w (upd H x o') h' x o') : HOk P w (upd H x o') h' := fun b u q => by
  have nown : ∀ c y, H c = some (.own y) → c ≠ x := fun c y r z => by subst z; rw [r] at mu; exact mu
  have ntup : ∀ c xs, H c = some (.tup xs) → c ≠ x := fun c xs r z => by subst z; rw [r] at mu; exact mu
  by_cases hb : b = x
  · subst hb; rw [upd_same] at q; cases q; exact new
  · rw [upd_ne hb] at q
    by_cases hbe : b = e
    · have q' : H b = some (.own x) := by
        rcases he with z | z
        · exact absurd (hbe.trans z) hb
        · rw [hbe]; exact z
      rw [q] at q'; cases q'
      obtain ⟨v, hv⟩ := heo
      exact ⟨v, by rw [hbe]; exact hv⟩
    · refine (ok b u q).stay (fun c v hc r => k c v ?_ r) (fun c r => by rw [upd_ne (nown c b r)]; exact r) fun c xs r => by rw [upd_ne (ntup c xs r)]; exact r
      rcases hc with rfl | hc
      · exact hbe
      · rintro rfl
        rcases he with z | z
        · exact nown c b hc z
        · rw [hc] at z; cases z; exact hb rfl
end
structure Un (fs ex : List Addr) (H H' : Hp) (h h' : Heap) : Prop where
  keep : ∀ b o, h.get? b = some o → H b = none → b ∉ fs → b ∉ ex → h'.get? b = some o
  slot : ∀ b o, h.get? b = some o → H b = none → b ∈ fs → b ∉ ex → ∃ sl, h'.get? b = some { o with slots := sl }
  free : ∀ b o, h.get? b = some o → H b = none → b ∉ ex → H' b = none
  there : ∀ b o, h.get? b = some o → b ∉ ex → ∃ o', h'.get? b = some o'
  tups : ∀ b xs, H b = some (.tup xs) → H' b = some (.tup xs)
  frzs : ∀ b o u, H b = some (.frz o u) → H' b = some (.frz o u)
  tbls : ∀ b ps, H b = some (.tbl ps) → ∃ more, H' b = some (.tbl (ps ++ more))
section
variable {fs fs' ex ex' : List Addr} {H H1 H2 : Hp} {h h1 h2 h' : Heap} {a x e : Addr} {o : HO}
theorem Un.any (u : Un fs ex H H1 h h1) {b : Addr} {ob : Obj} (q : h.get? b = some ob) (n : H b = none) (hx : b ∉ ex) : ∃ sl, h1.get? b = some { ob with slots := sl } := by
  by_cases hb : b ∈ fs
  · exact u.slot b ob q n hb hx
  · exact ⟨ob.slots, u.keep b ob q n hb hx⟩
theorem Un.kept (k : ∀ b u, h.get? b = some u → h'.get? b = some u) : Un fs ex H H h h' :=
  ⟨fun b ob q _ _ _ => k b ob q, fun b ob q _ _ _ => ⟨ob.slots, k b ob q⟩, fun _ _ _ n _ => n, fun b ob q _ => ⟨ob, k b ob q⟩, fun _ _ q => q, fun _ _ _ q => q, fun _ ps q => ⟨#[], by rw [q]; simp⟩⟩
theorem Un.refl : Un fs ex H H h h := Un.kept fun _ _ q => q
theorem Un.laid (k : ∀ b u, h.get? b = some u → h'.get? b = some u) (hp : h.objs.size ≤ a) (hn : H a = none) : Un fs ex H (upd H a o) h h' where
  keep := fun b u q _ _ _ => k b u q
  slot := fun b u q _ _ _ => ⟨u.slots, k b u q⟩
  free := fun b u q n _ => by rw [upd_ne (Nat.ne_of_lt (Nat.lt_of_lt_of_le (Heap.lt_size q) hp))]; exact n
  there := fun b u q _ => ⟨u, k b u q⟩
  tups := fun b xs q => by rw [upd_ne (ne_of_none q hn)]; exact q
  frzs := fun b u xs q => by rw [upd_ne (ne_of_none q hn)]; exact q
  tbls := fun b ps q => ⟨#[], by rw [upd_ne (ne_of_none q hn), q]; simp⟩
theorem Un.write (mu : Mut (H x)) (he : e = x ∨ H e = some (.own x)) (k : ∀ b u, b ≠ e → h.get? b = some u → h'.get? b = some u) (heo : ∃ u, h'.get? e = some u) : Un fs ex H (upd H x o) h h' := by
  have hx : ∀ b, H b = none → b ≠ x := fun b n z => by subst z; rw [n] at mu; exact mu
  have hb : ∀ b, H b = none → b ≠ e := fun b n z => by
    subst z
    rcases he with r | r
    · exact hx b n r
    · rw [n] at r; cases r
  have hm : ∀ b u, H b = some u → ¬ Mut (some u) → b ≠ x := fun b u q nm z => by subst z; rw [q] at mu; exact nm mu
  refine ⟨fun b u q n _ _ => k b u (hb b n) q, fun b u q n _ _ => ⟨u.slots, k b u (hb b n) q⟩, fun b u q n _ => by rw [upd_ne (hx b n)]; exact n, fun b u q _ => ?_,
    fun b xs q => by rw [upd_ne (hm b _ q fun z => z)]; exact q, fun b u xs q => by rw [upd_ne (hm b _ q fun z => z)]; exact q, fun b ps q => ⟨#[], by rw [upd_ne (hm b _ q fun z => z), q]; simp⟩⟩
  by_cases hbe : b = e
  · subst hbe; exact heo
  · exact ⟨u, k b u hbe q⟩
end
noncomputable def trk (h : Heap) (H : Hp) : List Addr := (List.range h.objs.size).filter fun a => (H a).isSome
noncomputable def hidT (h : Heap) (H : Hp) : Heap := PySem.W.hideAll h (trk h H)
theorem hidT_size (h : Heap) (H : Hp) : (hidT h H).objs.size = h.objs.size := PySem.W.hideAll_size _ _
theorem hidT_get {h : Heap} {H : Hp} {b : Addr} {o : Obj} (e : h.get? b = some o) (n : H b = none) : (hidT h H).get? b = some o :=
  PySem.W.hideAll_get _ e fun hm => by
    have q : (H b).isSome = true := (List.mem_filter.mp hm).2
    rw [n] at q; simp at q
theorem of_hidT {h : Heap} {H : Hp} {b : Addr} {o : Obj} (e : (hidT h H).get? b = some o) : h.get? b = some o ∧ H b = none := by
  have e' : h.get? b = some o := PySem.W.of_hideAll (trk h H) e
  refine ⟨e', ?_⟩
  cases q : H b with
  | none => rfl
  | some x =>
    have hm : b ∈ trk h H := List.mem_filter.mpr ⟨List.mem_range.mpr (Heap.lt_size e'), by simp [q]⟩
    have z : (hidT h H).get? b = none := PySem.W.hideAll_none (trk h H) hm
    rw [z] at e; cases e
end L2
namespace L2
open PySem PySem.Spec PyProof.Rows
structure Mod (K : PySem.W.Frag) (mg : Str → Option Value) (base : Heap) : Prop where
  kin : K.In base
  glob : base.Ns mainGlobals mg
  blt : ∃ mb, base.Ns builtinsNs mb ∧ ∀ x : Str, x ≠ "__name__" → mb x = bootBuiltins x
  nolimit : base.NoLimit
structure Cx where
  prog : Program
  w : World
  K : PySem.W.Frag
  mg : Str → Option Value
  base : Heap
  A : Around
  N : List Str
  s₀ : Shared
  H₀ : Hp
  env : Env
  outer : List Env
  stack : List Env
  ex : List Addr
  fn : Str → Bool
  calm : Bool
  pn : List (Addr × Obj)
  xe : Value → Shared → Prop
noncomputable def frs (l : List Env) : List Addr := l.filterMap (·.frame)
noncomputable abbrev Cx.fs (X : Cx) : List Addr := frs X.outer
noncomputable def Vis (sc : Scope) (x : Str) : Prop := sc.names.lookup x = some .local ∨ sc.names.lookup x = some .cell ∨ sc.names.lookup x = some .free
noncomputable def Loc (sc : Scope) (x : Str) : Prop := sc.names.lookup x = some .local ∨ sc.names.lookup x = some .cell
noncomputable def Look (env : Env) (h : Heap) (m : Str → Option Value) (x : Str) (u : Value) : Prop :=
  (env.kindOf x = some .local ∧ m x = some u) ∨ ((env.kindOf x = some .cell ∨ env.kindOf x = some .free) ∧ ∃ c, env.cells.lookup x = some c ∧ h.IsCell c (some u))
structure Cx.Ok (X : Cx) : Prop where
  mod : Mod X.K X.mg X.base
  kind : X.env.scope.kind = .function
  glob : X.env.globals = mainGlobals
  blt : X.env.builtins = builtinsNs
  above : X.s₀.heap.objs.size ≤ X.env.locals
  inj : ∀ x y c, X.env.cells.lookup x = some c → X.env.cells.lookup y = some c → x = y
  has : ∀ x, (X.env.kindOf x = some .cell ∨ X.env.kindOf x = some .free) → ∃ c, X.env.cells.lookup x = some c
  cab : ∀ x c, X.fn x = true → X.env.cells.lookup x = some c → X.s₀.heap.objs.size ≤ c
  hd : X.calm = true → X.A.handled = none
  frames : X.A.frames = some X.stack
  stk : X.stack = X.outer ∨ (X.stack = X.env :: X.outer ∧ X.env.frame = some X.env.locals)
  exf : ∀ b ∈ X.ex, b ≠ X.env.locals ∧ ∀ x c, X.env.cells.lookup x = some c → c ≠ b
  bs : ∀ b o, X.base.get? b = some o → X.s₀.heap.get? b = some o ∧ X.H₀ b = none
  bsz : X.base.objs.size ≤ X.s₀.heap.objs.size
  noex : ∀ b o, X.base.get? b = some o → b ∉ X.ex
  exfs : ∀ b ∈ X.ex, b ∉ X.fs
  funs : X.s₀.heap.FunFrames X.base X.outer
  frf : ∀ b ∈ X.fs, X.H₀ b = none
structure Inv (X : Cx) (pins : List (Addr × Obj)) (σ : List (Option V)) (H : Hp) (s : Shared) : Prop where
  ok : X.Ok
  os : s.os = X.s₀.os
  bare : AllBare s.gens
  base : Un X.fs X.ex X.H₀ H X.s₀.heap s.heap
  loc : ∃ m, s.heap.Ns X.env.locals m ∧ ∀ (i : Nat) (x : Str) (v : V), X.N[i]? = some x → σ[i]? = some (some v) → Vis X.env.scope x → ∃ u, RelV v u ∧ Look X.env s.heap m x u
  cell : ∀ x c, X.env.cells.lookup x = some c → ∃ v, s.heap.IsCell c v
  free : H X.env.locals = none
  freeC : ∀ x c, X.env.cells.lookup x = some c → H c = none
  pin : ∀ p ∈ X.pn ++ pins, s.heap.get? p.1 = some p.2 ∧ H p.1 = none ∧ p.1 ≠ X.env.locals ∧ p.1 ∉ X.fs ∧ ∀ v, p.2.data ≠ .cell v
  hok : HOk X.prog X.w H s.heap
  len : σ.length = X.N.length
section
variable {X : Cx} {pins : List (Addr × Obj)} {σ : List (Option V)} {H H' : Hp} {s : Shared} {h' : Heap}
theorem Cx.Ok.nofr (ok : X.Ok) {b : Addr} {o : Obj} (e : X.base.get? b = some o) : b ∉ X.fs := fun hb => by
  have := (ok.funs.mem hb).1
  rw [e] at this; cases this
theorem Inv.bs (I : Inv X pins σ H s) : ∀ b o, X.base.get? b = some o → s.heap.get? b = some o ∧ H b = none := fun b o e =>
  ⟨I.base.keep b o (I.ok.bs b o e).1 (I.ok.bs b o e).2 (I.ok.nofr e) (I.ok.noex b o e), I.base.free b o (I.ok.bs b o e).1 (I.ok.bs b o e).2 (I.ok.noex b o e)⟩
theorem Inv.bk (I : Inv X pins σ H s) : ∀ b o, X.base.get? b = some o → s.heap.get? b = some o := fun b o e => (I.bs b o e).1
theorem Inv.mod (I : Inv X pins σ H s) : Mod X.K X.mg X.base := I.ok.mod
theorem Inv.kIn (I : Inv X pins σ H s) : X.K.In s.heap := I.ok.mod.kin.keeps I.bk
theorem Inv.lt (I : Inv X pins σ H s) : X.env.locals < s.heap.objs.size := by
  obtain ⟨_, hn, _⟩ := I.loc
  exact hn.lt
theorem Inv.sz (I : Inv X pins σ H s) : X.s₀.heap.objs.size ≤ s.heap.objs.size := Nat.le_trans I.ok.above (Nat.le_of_lt I.lt)
theorem Inv.nofs (I : Inv X pins σ H s) {a : Addr} (h : s.heap.objs.size ≤ a) : a ∉ X.fs := fun hb => by
  obtain ⟨_, o, ho, _⟩ := I.ok.funs.mem hb
  exact absurd (Nat.lt_of_lt_of_le (Heap.lt_size ho) (Nat.le_trans I.sz h)) (Nat.lt_irrefl _)
theorem Inv.cne (I : Inv X pins σ H s) : ∀ x c, X.env.cells.lookup x = some c → c ≠ X.env.locals := fun x c e z => by
  obtain ⟨v, o, ho, hd⟩ := I.cell x c e
  obtain ⟨m, ⟨o', es, ep, ho', hd', _⟩, _⟩ := I.loc
  rw [z, ho'] at ho; cases ho; rw [hd'] at hd; cases hd
theorem Inv.funs (I : Inv X pins σ H s) : s.heap.FunFrames X.base X.outer := by
  have all : ∀ (l : List Env), (∀ b ∈ frs l, b ∈ X.fs) → X.s₀.heap.FunFrames X.base l → s.heap.FunFrames X.base l := by
    intro l
    induction l with
    | nil => intro _ _; trivial
    | cons env r ih =>
      intro hs hl
      obtain ⟨hk, ⟨L, o, hf, hn, ho, hd⟩, hr⟩ := hl
      have hL : L ∈ X.fs := hs L (by unfold frs; rw [List.filterMap_cons, hf]; exact List.mem_cons_self)
      obtain ⟨sl, e⟩ := I.base.slot L o ho (I.ok.frf L hL) hL fun z => I.ok.exfs L z hL
      exact ⟨hk, ⟨L, _, hf, hn, e, hd⟩, ih (fun b hb => hs b (by unfold frs; rw [List.filterMap_cons, hf]; exact List.mem_cons_of_mem _ hb)) hr⟩
  exact all X.outer (fun _ hb => hb) I.ok.funs
theorem Inv.stack (I : Inv X pins σ H s) : s.heap.FunFrames X.base X.stack := by
  rcases I.ok.stk with e | ⟨e, hf⟩
  · rw [e]; exact I.funs
  · rw [e]
    obtain ⟨m, hn, _⟩ := I.loc
    refine .cons (by rw [I.ok.kind]; decide) hf hn ?_ I.funs
    exact Heap.get?_none_of_le (Nat.le_trans I.ok.bsz I.ok.above)
theorem Inv.stkSub (I : Inv X pins σ H s) : ∀ b ∈ frs X.stack, b ∈ X.env.locals :: X.fs := fun b hb => by
  rcases I.ok.stk with e | ⟨e, hf⟩
  · rw [e] at hb; exact List.mem_cons_of_mem _ hb
  · rw [e] at hb
    unfold frs at hb
    rw [List.filterMap_cons, hf] at hb
    exact hb
theorem Inv.stkFree (I : Inv X pins σ H s) : ∀ b ∈ frs X.stack, H b = none := fun b hb => by
  rcases List.mem_cons.mp (I.stkSub b hb) with e | hb
  · rw [e]; exact I.free
  · obtain ⟨_, o, ho, _⟩ := I.ok.funs.mem hb
    exact I.base.free b o ho (I.ok.frf b hb) fun z => I.ok.exfs b z hb
theorem Inv.step {g' : Array GenState} {t' : Nat} {d' : Drawn} {ch : List Addr} (I : Inv X pins σ H s)
    (hch : ∀ b ∈ ch, (b ∈ X.ex ∨ X.s₀.heap.objs.size ≤ b) ∧ b ≠ X.env.locals ∧ (∀ x c, X.env.cells.lookup x = some c → c ≠ b) ∧ ∀ p ∈ X.pn ++ pins, p.1 ≠ b)
    (keep : ∀ b o, b ≠ X.env.locals → b ∉ X.fs → b ∉ ch → s.heap.get? b = some o → H b = none → h'.get? b = some o)
    (slot : ∀ b o, b ≠ X.env.locals → b ∈ X.fs → b ∉ ch → s.heap.get? b = some o → H b = none → ∃ sl, h'.get? b = some { o with slots := sl }) (free : ∀ b o, b ∉ ch → s.heap.get? b = some o → H b = none → H' b = none)
    (there : ∀ b o, b ∉ ch → s.heap.get? b = some o → ∃ o', h'.get? b = some o')
    (tups : ∀ b xs, H b = some (.tup xs) → H' b = some (.tup xs)) (frzs : ∀ b o u, H b = some (.frz o u) → H' b = some (.frz o u)) (tbls : ∀ b ps, H b = some (.tbl ps) → ∃ more, H' b = some (.tbl (ps ++ more)))
    (ns : ∀ m, s.heap.Ns X.env.locals m → h'.Ns X.env.locals m) (hok : HOk X.prog X.w H' h') (hg : AllBare g') :
    Inv X pins σ H' { s with heap := h', gens := g', drawn := d', toks := t' } := by
  have neL : ∀ b o, X.s₀.heap.get? b = some o → b ≠ X.env.locals := fun b o e => Nat.ne_of_lt (Nat.lt_of_lt_of_le (Heap.lt_size e) I.ok.above)
  have neC : ∀ b o, X.s₀.heap.get? b = some o → b ∉ X.ex → b ∉ ch := fun b o e hx hb => by
    rcases (hch b hb).1 with z | z
    · exact hx z
    · exact absurd (Nat.lt_of_lt_of_le (Heap.lt_size e) z) (Nat.lt_irrefl _)
  have cellK : ∀ x c, X.env.cells.lookup x = some c → ∀ v, s.heap.IsCell c v → h'.IsCell c v := fun x c e v ⟨o, ho, hd⟩ => by
    have nch : c ∉ ch := fun z => (hch c z).2.2.1 x c e rfl
    by_cases hc : c ∈ X.fs
    · obtain ⟨sl, q⟩ := slot c o (I.cne x c e) hc nch ho (I.freeC x c e)
      exact ⟨_, q, hd⟩
    · exact ⟨o, keep c o (I.cne x c e) hc nch ho (I.freeC x c e), hd⟩
  refine ⟨I.ok, I.os, hg, ⟨fun b o e n hb hx => ?_, fun b o e n hb hx => ?_, fun b o e n hx => ?_, fun b o e hx => ?_, fun b xs e => tups b xs (I.base.tups b xs e), fun b o xs e => frzs b o xs (I.base.frzs b o xs e), fun b ps e => ?_⟩, ?_, fun x c e => ?_, ?_, fun x c e => ?_, fun p hp => ?_, hok, I.len⟩
  · exact keep b o (neL b o e) hb (neC b o e hx) (I.base.keep b o e n hb hx) (I.base.free b o e n hx)
  · obtain ⟨sl, e1⟩ := I.base.slot b o e n hb hx
    obtain ⟨sl', e2⟩ := slot b _ (neL b o e) hb (neC b o e hx) e1 (I.base.free b o e n hx)
    exact ⟨sl', e2⟩
  · obtain ⟨o', e1⟩ := I.base.there b o e hx
    exact free b o' (neC b o e hx) e1 (I.base.free b o e n hx)
  · obtain ⟨o', e1⟩ := I.base.there b o e hx
    exact there b o' (neC b o e hx) e1
  · obtain ⟨m1, e1⟩ := I.base.tbls b ps e
    obtain ⟨m2, e2⟩ := tbls b _ e1
    exact ⟨m1 ++ m2, by rw [e2, Array.append_assoc]⟩
  · obtain ⟨m, hn, hl⟩ := I.loc
    refine ⟨m, ns m hn, fun i x v e1 e2 e3 => ?_⟩
    obtain ⟨u, r, l⟩ := hl i x v e1 e2 e3
    refine ⟨u, r, ?_⟩
    rcases l with l | ⟨k, c, e, z⟩
    · exact .inl l
    · exact .inr ⟨k, c, e, cellK x c e _ z⟩
  · obtain ⟨v, z⟩ := I.cell x c e
    exact ⟨v, cellK x c e v z⟩
  · obtain ⟨m, ⟨o, _, _, ho, _⟩, _⟩ := I.loc
    exact free _ o (fun z => (hch _ z).2.1 rfl) ho I.free
  · obtain ⟨v, o, ho, hd⟩ := I.cell x c e
    exact free c o (fun z => (hch c z).2.2.1 x c e rfl) ho (I.freeC x c e)
  · obtain ⟨e, n, ne, nf, d⟩ := I.pin p hp
    have nch : p.1 ∉ ch := fun z => (hch p.1 z).2.2.2 p hp rfl
    exact ⟨keep p.1 p.2 ne nf nch e n, free p.1 p.2 nch e n, ne, nf, d⟩
theorem Inv.un {t' : Nat} (I : Inv X pins σ H s) (u : Un X.fs [] H H' s.heap h') (hok : HOk X.prog X.w H' h') : Inv X pins σ H' { s with heap := h', toks := t' } := by
  obtain ⟨m, ⟨o, es, ep, ho, r⟩, _⟩ := id I.loc
  obtain ⟨sl, hL⟩ := u.any ho I.free (by simp)
  exact I.step (g' := s.gens) (d' := s.drawn) (ch := []) (fun _ z => nomatch z) (fun b o _ hb _ e n => u.keep b o e n hb (by simp)) (fun b o _ hb _ e n => u.slot b o e n hb (by simp)) (fun b o _ e n => u.free b o e n (by simp)) (fun b o _ e => u.there b o e (by simp)) u.tups u.frzs u.tbls (fun m' hm => by
    obtain ⟨o', es', ep', ho', r'⟩ := hm
    rw [ho] at ho'; cases ho'
    exact ⟨_, es', ep', hL, r'⟩) hok I.bare
theorem Inv.call {g' : Array GenState} {t' : Nat} {d' : Drawn} {ch : List Addr} (I : Inv X pins σ H s) (u : Un (frs X.stack) ch H H' s.heap h') (hok : HOk X.prog X.w H' h') (hg : AllBare g')
    (hch : ∀ b ∈ ch, (b ∈ X.ex ∨ X.s₀.heap.objs.size ≤ b) ∧ b ≠ X.env.locals ∧ (∀ x c, X.env.cells.lookup x = some c → c ≠ b) ∧ ∀ p ∈ X.pn ++ pins, p.1 ≠ b) :
    Inv X pins σ H' { s with heap := h', gens := g', drawn := d', toks := t' } := by
  obtain ⟨m, ⟨o, es, ep, ho, r⟩, _⟩ := id I.loc
  obtain ⟨sl, hL⟩ := u.any ho I.free fun z => (hch _ z).2.1 rfl
  exact I.step (ch := ch) hch (fun b o hL hb hc e n => u.keep b o e n (fun z => (List.mem_cons.mp (I.stkSub b z)).elim hL hb) hc) (fun b o _ _ hc e n => u.any e n hc) (fun b o hc e n => u.free b o e n hc) (fun b o hc e => u.there b o e hc) u.tups u.frzs u.tbls (fun m' hm => by
    obtain ⟨o', es', ep', ho', r'⟩ := hm
    rw [ho] at ho'; cases ho'
    exact ⟨_, es', ep', hL, r'⟩) hok hg
theorem Inv.turned {t' : Nat} {it : Addr} (I : Inv X pins σ H s) (k : ∀ b o, b ≠ it → s.heap.get? b = some o → h'.get? b = some o) (hn : H it = none) (hL : it ≠ X.env.locals)
    (h1 : it ∈ X.ex ∨ X.s₀.heap.objs.size ≤ it) (h2 : ∀ x c, X.env.cells.lookup x = some c → c ≠ it) (h3 : ∀ p ∈ X.pn ++ pins, p.1 ≠ it) : Inv X pins σ H { s with heap := h', toks := t' } := by
  have nit : ∀ b u, H b = some u → b ≠ it := fun b u e z => by rw [z, hn] at e; cases e
  refine I.step (g' := s.gens) (d' := s.drawn) (ch := [it]) (fun b hb => ?_) (fun b o _ _ hc e _ => k b o (fun z => hc (by simp [z])) e) (fun b o _ _ hc e _ => ⟨o.slots, k b o (fun z => hc (by simp [z])) e⟩) (fun _ _ _ _ n => n)
    (fun b o hc e => ⟨o, k b o (fun z => hc (by simp [z])) e⟩) (fun _ _ e => e) (fun _ _ _ e => e) (fun b ps e => ⟨#[], by rw [e]; simp⟩) (fun m hm => ?_) (fun b u e => ?_) I.bare
  · have e : b = it := by simpa using hb
    subst e
    exact ⟨h1, hL, h2, h3⟩
  · obtain ⟨o, es, ep, ho, r⟩ := hm
    exact ⟨o, es, ep, k _ o (Ne.symm hL) ho, r⟩
  · refine (I.hok b u e).stay (fun c v hc q => k c v ?_ q) (fun _ q => q) fun _ _ q => q
    rcases hc with z | z
    · rw [z]; exact nit b u e
    · exact nit c _ z
theorem Inv.tok (I : Inv X pins σ H s) (t : Nat) : Inv X pins σ H { s with toks := t } := I.un (h' := s.heap) (t' := t) Un.refl I.hok
theorem Inv.kept {t' : Nat} (I : Inv X pins σ H s) (k : ∀ b u, s.heap.get? b = some u → h'.get? b = some u) : Inv X pins σ H { s with heap := h', toks := t' } := I.un (Un.kept k) (I.hok.kept k)
theorem Inv.laid {a : Addr} {o : HO} {t' : Nat} (I : Inv X pins σ H s) (k : ∀ b u, s.heap.get? b = some u → h'.get? b = some u) (hp : s.heap.objs.size ≤ a) (new : ObjOk X.prog X.w (upd H a o) h' a o) :
    Inv X pins σ (upd H a o) { s with heap := h', toks := t' } := I.un (Un.laid k hp (I.hok.fresh hp)) (I.hok.laid k hp new)
theorem Inv.write {x e : Addr} {o : HO} {t' : Nat} (I : Inv X pins σ H s) (mu : Mut (H x)) (he : e = x ∨ H e = some (.own x)) (k : ∀ b u, b ≠ e → s.heap.get? b = some u → h'.get? b = some u) (heo : ∃ u, h'.get? e = some u)
    (new : ObjOk X.prog X.w (upd H x o) h' x o) : Inv X pins σ (upd H x o) { s with heap := h', toks := t' } := I.un (Un.write mu he k heo) (I.hok.write mu he k heo new)
theorem Inv.pins_of {pins' : List (Addr × Obj)} (I : Inv X pins σ H s) (h : ∀ p ∈ pins', s.heap.get? p.1 = some p.2 ∧ H p.1 = none ∧ p.1 ≠ X.env.locals ∧ p.1 ∉ X.fs ∧ ∀ v, p.2.data ≠ .cell v) : Inv X pins' σ H s :=
  ⟨I.ok, I.os, I.bare, I.base, I.loc, I.cell, I.free, I.freeC, fun p hp => (List.mem_append.mp hp).elim (fun z => I.pin p (List.mem_append_left _ z)) (h p), I.hok, I.len⟩
theorem nodup_ix {N : List Str} (hN : N.Nodup) {i j : Nat} {x : Str} (a : N[i]? = some x) (b : N[j]? = some x) : i = j := by
  obtain ⟨h1, e1⟩ := List.getElem?_eq_some_iff.mp a
  obtain ⟨h2, e2⟩ := List.getElem?_eq_some_iff.mp b
  exact (List.getElem_inj hN).mp (e1.trans e2.symm)
theorem store_ok2 {M : Model} {A : Around} {E : Value → Shared → Prop} {i : Nat} {x : Str} {v : V} {u : Value} {Q : Unit → Shared → Prop} (I : Inv X pins σ H s) (hN : X.N.Nodup) (hi : X.N[i]? = some x) (hx : Loc X.env.scope x) (r : RelV v u)
    (h : ∀ s', Inv X pins (σ.set i (some v)) H s' → (∃ a, Heap.SameBut a s.heap s'.heap ∧ (a = X.env.locals ∨ X.env.cells.lookup x = some a)) → Q () s') (hf : X.fn x = true ∨ X.env.scope.names.lookup x = some .local := by first | exact .inl rfl | exact .inr rfl | assumption) : wpAny M A (storeName X.env x u) Q E s := by
  obtain ⟨m, hn, hl⟩ := id I.loc
  have hcls : (X.env.scope.kind == .class || (X.env.scope.kind == .module && X.env.locals != X.env.globals)) = false := by rw [I.ok.kind]; rfl
  have hiσ : i < σ.length := by rw [I.len]; exact (List.getElem?_eq_some_iff.mp hi).1
  have cne := I.cne
  have tracked : ∀ {a : Addr} {h' : Heap}, (∃ o, s.heap.get? a = some o ∧ H a = none) → Heap.SameBut a s.heap h' → HOk X.prog X.w H h' := fun {a h'} ha hs b ob e => by
    obtain ⟨_, _, hfree⟩ := ha
    refine (I.hok b ob e).stay (fun c w' hc q => (hs.2 c ?_).trans q) (fun _ q => q) fun _ _ q => q
    rintro rfl
    rcases hc with rfl | hc
    · rw [hfree] at e; cases e
    · rw [hfree] at hc; cases hc
  rcases hx with hk | hk
  · refine wpAny_storeName_local hk hn (fun h' hn' hs => ?_) hcls
    obtain ⟨oL, _, _, hoL, _⟩ := id hn
    refine h _ ⟨I.ok, I.os, I.bare, ⟨fun b o e n hb hx => ?_, fun b o e n hb hx => ?_, I.base.free, fun b o e hx => ?_, I.base.tups, I.base.frzs, I.base.tbls⟩, ⟨_, hn', fun j y v' e1 e2 e3 => ?_⟩, fun y c e => ?_, I.free, I.freeC, fun p hp => ?_, tracked ⟨oL, hoL, I.free⟩ hs, by simpa using I.len⟩ ⟨_, hs, .inl rfl⟩
    · exact (hs.2 b (Nat.ne_of_lt (Nat.lt_of_lt_of_le (Heap.lt_size e) I.ok.above))).trans (I.base.keep b o e n hb hx)
    · obtain ⟨sl, e1⟩ := I.base.slot b o e n hb hx
      exact ⟨sl, (hs.2 b (Nat.ne_of_lt (Nat.lt_of_lt_of_le (Heap.lt_size e) I.ok.above))).trans e1⟩
    · obtain ⟨o', e1⟩ := I.base.there b o e hx
      exact ⟨o', (hs.2 b (Nat.ne_of_lt (Nat.lt_of_lt_of_le (Heap.lt_size e) I.ok.above))).trans e1⟩
    · by_cases hj : j = i
      · subst hj
        rw [hi] at e1; cases e1
        rw [List.getElem?_set_self hiσ] at e2
        cases e2
        exact ⟨u, r, .inl ⟨hk, by simp⟩⟩
      · rw [List.getElem?_set_ne (Ne.symm hj)] at e2
        obtain ⟨u', r', q⟩ := hl j y v' e1 e2 e3
        refine ⟨u', r', ?_⟩
        rcases q with ⟨k, e⟩ | ⟨k, c, e, z⟩
        · refine .inl ⟨k, ?_⟩
          have : y ≠ x := fun e => hj (nodup_ix hN e1 (e ▸ hi))
          simp [this, e]
        · exact .inr ⟨k, c, e, z.sameBut hs (cne y c e)⟩
    · obtain ⟨w', z⟩ := I.cell y c e
      exact ⟨w', z.sameBut hs (cne y c e)⟩
    · obtain ⟨e, n, ne, nf, d⟩ := I.pin p hp
      exact ⟨(hs.2 p.1 ne).trans e, n, ne, nf, d⟩
  · have hfn : X.fn x = true := by
      rcases hf with z | z
      · exact z
      · rw [z] at hk; cases hk
    obtain ⟨c, hc⟩ := I.ok.has x (.inl hk)
    obtain ⟨w', z⟩ := I.cell x c hc
    refine wpAny_storeName_cell I.ok.kind hk hc z (fun h' hc' hs => ?_)
    obtain ⟨oc, hoc, hocd⟩ := id z
    refine h { s with heap := h' } ⟨I.ok, I.os, I.bare, ⟨fun b o e n hb hx => ?_, fun b o e n hb hx => ?_, I.base.free, fun b o e hx => ?_, I.base.tups, I.base.frzs, I.base.tbls⟩, ⟨m, hn.sameBut hs (Ne.symm (cne x c hc)), fun j y v' e1 e2 e3 => ?_⟩, fun y c' e => ?_, I.free, I.freeC, fun p hp => ?_, tracked ⟨oc, hoc, I.freeC x c hc⟩ hs, by simpa using I.len⟩ ⟨c, hs, .inr hc⟩
    · exact (hs.2 b (Nat.ne_of_lt (Nat.lt_of_lt_of_le (Heap.lt_size e) (I.ok.cab x c hfn hc)))).trans (I.base.keep b o e n hb hx)
    · obtain ⟨sl, e1⟩ := I.base.slot b o e n hb hx
      exact ⟨sl, (hs.2 b (Nat.ne_of_lt (Nat.lt_of_lt_of_le (Heap.lt_size e) (I.ok.cab x c hfn hc)))).trans e1⟩
    · obtain ⟨o', e1⟩ := I.base.there b o e hx
      exact ⟨o', (hs.2 b (Nat.ne_of_lt (Nat.lt_of_lt_of_le (Heap.lt_size e) (I.ok.cab x c hfn hc)))).trans e1⟩
    · by_cases hj : j = i
      · subst hj
        rw [hi] at e1; cases e1
        rw [List.getElem?_set_self hiσ] at e2
        cases e2
        exact ⟨u, r, .inr ⟨.inl hk, c, hc, hc'⟩⟩
      · rw [List.getElem?_set_ne (Ne.symm hj)] at e2
        obtain ⟨u', r', q⟩ := hl j y v' e1 e2 e3
        refine ⟨u', r', ?_⟩
        rcases q with q | ⟨k, c', e, z'⟩
        · exact .inl q
        · refine .inr ⟨k, c', e, z'.sameBut hs ?_⟩
          rintro rfl
          exact hj (nodup_ix hN e1 (I.ok.inj _ _ _ e hc ▸ hi))
    · by_cases hcc : c' = c
      · subst hcc; exact ⟨_, hc'⟩
      · obtain ⟨w2, z2⟩ := I.cell y c' e
        exact ⟨w2, z2.sameBut hs hcc⟩
    · obtain ⟨e, n, ne, nf, d⟩ := I.pin p hp
      refine ⟨(hs.2 p.1 ?_).trans e, n, ne, nf, d⟩
      intro q
      rw [q, hoc] at e
      have q' : oc = p.2 := Option.some.inj e
      exact d w' (by rw [← q']; exact hocd)
theorem store_ok {M : Model} {A : Around} {E : Value → Shared → Prop} {i : Nat} {x : Str} {v : V} {u : Value} {Q : Unit → Shared → Prop} (I : Inv X pins σ H s) (hN : X.N.Nodup) (hi : X.N[i]? = some x) (hx : Loc X.env.scope x) (r : RelV v u)
    (h : ∀ s', Inv X pins (σ.set i (some v)) H s' → Q () s') (hf : X.fn x = true ∨ X.env.scope.names.lookup x = some .local := by first | exact .inl rfl | exact .inr rfl | assumption) : wpAny M A (storeName X.env x u) Q E s :=
  store_ok2 I hN hi hx r (fun s' I' _ => h s' I') hf
theorem Inv.call' {s' : Shared} {ch : List Addr} (I : Inv X pins σ H s) (ho : s'.os = s.os) (u : Un (frs X.stack) ch H H' s.heap s'.heap) (hok : HOk X.prog X.w H' s'.heap) (hg : AllBare s'.gens)
    (hch : ∀ b ∈ ch, (b ∈ X.ex ∨ X.s₀.heap.objs.size ≤ b) ∧ b ≠ X.env.locals ∧ (∀ x c, X.env.cells.lookup x = some c → c ≠ b) ∧ ∀ p ∈ X.pn ++ pins, p.1 ≠ b) : Inv X pins σ H' s' := by
  obtain ⟨h', g', d', t', o'⟩ := s'
  have e : o' = s.os := ho
  subst e
  exact I.call (g' := g') (t' := t') (d' := d') u hok hg hch
end
noncomputable abbrev XK := Value → Option Addr → Hp → Prop
noncomputable abbrev St := List (Option V)
noncomputable abbrev VK := V → Hp → Prop
noncomputable abbrev TE := St → Hp → VK → Prop
noncomputable abbrev TT := St → Hp → (Bool → Hp → Prop) → Prop
noncomputable abbrev TA := St → Hp → (List V → Hp → Prop) → Prop
structure Ends where
  nx : St → Hp → Prop
  rt : VK
  bk : St → Hp → Prop := fun _ _ => False
  ct : St → Hp → Prop := fun _ _ => False
noncomputable abbrev TS := Ends → St → Hp → Prop
noncomputable def EP (X : Cx) (pins : List (Addr × Obj)) (σ : St) (Q : VK) (u : Value) (s' : Shared) : Prop := ∃ v H', Inv X pins σ H' s' ∧ RelV v u ∧ Q v H'
noncomputable def TP (X : Cx) (pins : List (Addr × Obj)) (σ : St) (Q : Bool → Hp → Prop) (b : Bool) (s' : Shared) : Prop := ∃ H', Inv X pins σ H' s' ∧ Q b H'
noncomputable def AP (X : Cx) (pins : List (Addr × Obj)) (σ : St) (Q : List V → Hp → Prop) (us : List Value) (s' : Shared) : Prop := ∃ vs H', Inv X pins σ H' s' ∧ Vals vs us ∧ Q vs H'
noncomputable def SP (X : Cx) (pins : List (Addr × Obj)) (D : Ends) (f : Flow) (s' : Shared) : Prop :=
  match f with
  | .next => ∃ σ' H', Inv X pins σ' H' s' ∧ D.nx σ' H'
  | .brk => ∃ σ' H', Inv X pins σ' H' s' ∧ D.bk σ' H'
  | .cont => ∃ σ' H', Inv X pins σ' H' s' ∧ D.ct σ' H'
  | .ret u => ∃ v σ' H', Inv X pins σ' H' s' ∧ RelV v u ∧ D.rt v H'
noncomputable def PE (X : Cx) (e : Expr) (t : TE) : Prop :=
  ∀ (pins : List (Addr × Obj)) (s : Shared) (σ : St) (H : Hp) (Q : VK), Inv X pins σ H s → t σ H Q → wpAny (model X.prog X.w) X.A (eval e X.env) (EP X pins σ Q) X.xe s
noncomputable def PT (X : Cx) (e : Expr) (t : TT) : Prop :=
  ∀ (pins : List (Addr × Obj)) (s : Shared) (σ : St) (H : Hp) (Q : Bool → Hp → Prop), Inv X pins σ H s → t σ H Q → wpAny (model X.prog X.w) X.A (isTrue e X.env (eval e X.env)) (TP X pins σ Q) X.xe s
noncomputable def PW (X : Cx) (e : Expr) (t : TT) : Prop :=
  ∀ (whole : Sem Value) (pins : List (Addr × Obj)) (s : Shared) (σ : St) (H : Hp) (Q : Bool → Hp → Prop), Inv X pins σ H s → t σ H Q → wpAny (model X.prog X.w) X.A (isTrue e X.env whole) (TP X pins σ Q) X.xe s
theorem PW.pt {X : Cx} {e : Expr} {t : TT} (h : PW X e t) : PT X e t := h _
noncomputable def PA (X : Cx) (es : List Expr) (t : TA) : Prop :=
  ∀ (pos : Pos) (pins : List (Addr × Obj)) (s : Shared) (σ : St) (H : Hp) (Q : List V → Hp → Prop), Inv X pins σ H s → t σ H Q → wpAny (model X.prog X.w) X.A (spliced (backTo pos (starEach es X.env))) (AP X pins σ Q) X.xe s
noncomputable def PS (X : Cx) (st : Stmt) (t : TS) : Prop :=
  ∀ (pins : List (Addr × Obj)) (s : Shared) (σ : St) (H : Hp) (D : Ends), Inv X pins σ H s → t D σ H → wpAny (model X.prog X.w) X.A (exec st X.env) (SP X pins D) X.xe s
noncomputable def PSs (X : Cx) (st : List Stmt) (t : TS) : Prop :=
  ∀ (pins : List (Addr × Obj)) (s : Shared) (σ : St) (H : Hp) (D : Ends), Inv X pins σ H s → t D σ H → wpAny (model X.prog X.w) X.A (execs st X.env) (SP X pins D) X.xe s
theorem thn {α : Type} {t : Sem α} {Q Q' : α → Shared → Prop} {M : Model} {A : Around} {E : Value → Shared → Prop} {s : Shared} (h : wpAny M A t Q E s) (hQ : ∀ a s, Q a s → Q' a s) : wpAny M A t Q' E s := wpAny_mono h hQ fun _ _ x => x
theorem EP.out {X : Cx} {pins : List (Addr × Obj)} {σ : St} {Q : VK} {u : Value} {s' : Shared} {C : Prop} (h : EP X pins σ Q u s') (k : ∀ v H', Inv X pins σ H' s' → RelV v u → Q v H' → C) : C := by
  obtain ⟨v, H', a, b, c⟩ := h
  exact k v H' a b c
theorem ex3 {α : Type} {p q : α → Prop} {C : Prop} (h : ∃ x, p x ∧ q x) (k : ∀ x, p x → q x → C) : C := by
  obtain ⟨x, a, c⟩ := h
  exact k x a c
theorem ex5 {α β : Type} {p q r : α → β → Prop} {C : Prop} (h : ∃ x y, p x y ∧ q x y ∧ r x y) (k : ∀ x y, p x y → q x y → r x y → C) : C := by
  obtain ⟨x, y, a, b, c⟩ := h
  exact k x y a b c
theorem AP.out {X : Cx} {pins : List (Addr × Obj)} {σ : St} {Q : List V → Hp → Prop} {us : List Value} {s' : Shared} {C : Prop} (h : AP X pins σ Q us s') (k : ∀ vs H', Inv X pins σ H' s' → Vals vs us → Q vs H' → C) : C := by
  obtain ⟨v, H', a, b, c⟩ := h
  exact k v H' a b c
theorem GP.out {X : Cx} {pins : List (Addr × Obj)} {Q : St → Hp → Prop} {s' : Shared} {C : Prop} (h : ∃ σ' H', Inv X pins σ' H' s' ∧ Q σ' H') (k : ∀ σ' H', Inv X pins σ' H' s' → Q σ' H' → C) : C := by
  obtain ⟨v, H', a, c⟩ := h
  exact k v H' a c
end L2
namespace L2
open PySem PySem.Spec PyProof.Rows
section
variable {X : Cx}
noncomputable def tVar (i : Nat) : TE := fun σ H Q => ∃ v, σ[i]? = some (some v) ∧ Q v H
noncomputable def tC (v : V) : TE := fun _ H Q => Q v H
theorem pe_var {i : Nat} {x : Str} {pos : Pos} (hN : X.N[i]? = some x) (hv : Vis X.env.scope x) (hd : (x == ("__debug__" : Str)) = false := by decide) (hcd : (x == ("__classdict__" : Str)) = false := by decide) : PE X (.Name x pos) (tVar i) := by
  intro pins s σ H Q I h
  obtain ⟨v, e, h⟩ := h
  obtain ⟨m, hn, hl⟩ := I.loc
  obtain ⟨u, r, l⟩ := hl i x v hN e hv
  have fin : EP X pins σ Q u s := ⟨v, H, I, r, h⟩
  rcases l with ⟨hk, hm⟩ | ⟨hk, c, hc, hcell⟩
  · exact wpAny_Name (wpAny_loadName_local I.ok.kind hk hn hm fin) hd
  · rcases hk with hk | hk
    · exact wpAny_Name (wpAny_loadName_cell I.ok.kind hk hc hcell fin) hd
    · exact wpAny_Name (wpAny_loadName_free I.ok.kind hk hc hcell fin hcd) hd
theorem pe_int {i j pos} : PE X (.Constant (.int i) j pos) (tC (.int i)) := fun _ _ _ H _ I h => wpAny_Constant_int ⟨.int i, H, I.tok _, ⟨_, rfl⟩, h⟩
theorem pe_bl {b j pos} : PE X (.Constant (.bool b) j pos) (tC (.bl b)) := fun _ _ _ H _ I h => Constant_bool ⟨.bl b, H, I, rfl, h⟩
theorem pe_non {j pos} : PE X (.Constant .none j pos) (tC .non) := fun _ _ _ H _ I h => Constant_none ⟨.non, H, I, rfl, h⟩
theorem pe_str {x j pos} : PE X (.Constant (.str x) j pos) (tC (.str x)) := fun _ _ _ H _ I h => Calls.Constant_str ⟨.str x, H, I.tok _, ⟨_, rfl⟩, h⟩
noncomputable def Gl (X : Cx) (x : Str) : Prop := X.env.kindOf x = some .globalImplicit
theorem ld_glob {E : Value → Shared → Prop} {pins : List (Addr × Obj)} {s : Shared} {σ : St} {H : Hp} {x : Str} {u : Value} {pos : Pos} {Q : Value → Shared → Prop} (I : Inv X pins σ H s) (hg : Gl X x) (hm : X.mg x = some u) (h : Q u s)
    (hd : (x == ("__debug__" : Str)) = false := by decide) : wpAny (model X.prog X.w) X.A (eval (.Name x pos) X.env) Q E s :=
  Calls.Name_function_global I.ok.kind hg (Calls.loadGlobal_global (by rw [I.ok.glob]; exact I.mod.glob.keeps I.bk) hm h) hd
theorem ld_blt {E : Value → Shared → Prop} {pins : List (Addr × Obj)} {s : Shared} {σ : St} {H : Hp} {x : Str} {u : Value} {pos : Pos} {Q : Value → Shared → Prop} (I : Inv X pins σ H s) (hg : Gl X x) (hm : X.mg x = none) (hv : bootBuiltins x = some u) (h : Q u s)
    (hn : x ≠ "__name__" := by decide) (hd : (x == ("__debug__" : Str)) = false := by decide) : wpAny (model X.prog X.w) X.A (eval (.Name x pos) X.env) Q E s := by
  obtain ⟨mb, h1, h2⟩ := I.mod.blt
  exact Calls.Name_function_global I.ok.kind hg (Calls.loadGlobal_builtin (by rw [I.ok.glob]; exact I.mod.glob.keeps I.bk) hm (by rw [I.ok.blt]; exact h1.keeps I.bk) ((h2 x hn).trans hv) h) hd
theorem pe_bltn {x : Str} {v : V} {u : Value} {pos : Pos} (hg : Gl X x) (hm : X.mg x = none) (hv : bootBuiltins x = some u) (r : RelV v u) (hn : x ≠ "__name__" := by decide) (hd : (x == ("__debug__" : Str)) = false := by decide) : PE X (.Name x pos) (tC v) :=
  fun _ _ _ H _ I h => ld_blt I hg hm hv ⟨v, H, I, r, h⟩ hn hd
variable {a b : Expr} {ta tb : TE} {pos : Pos}
noncomputable def PC (X : Cx) (op : CmpOp) (a b : Expr) (t : TE) : Prop :=
  ∀ (pins : List (Addr × Obj)) (s : Shared) (σ : St) (H : Hp) (Q : VK), Inv X pins σ H s → t σ H Q →
    wpAny (model X.prog X.w) X.A (eval a X.env) (fun v s₁ => wpAny (model X.prog X.w) X.A (eval b X.env) (fun u s₂ => wpAny (model X.prog X.w) X.A (compareOp op v u) (EP X pins σ Q) X.xe s₂) X.xe s₁) X.xe s
theorem nobehind (b : Expr) {op : CmpOp} (h : op ≠ .In) (h2 : op ≠ .NotIn) : behindInMarks op b = false := by
  have e1 : (op == CmpOp.In) = false := by cases op <;> first | rfl | exact absurd rfl h
  have e2 : (op == CmpOp.NotIn) = false := by cases op <;> first | rfl | exact absurd rfl h2
  cases b <;> simp [behindInMarks, e1, e2]
noncomputable def tIsN (ta : TE) : TE := fun σ H Q => ta σ H fun x H1 => Q (.bl (decide (x = .non))) H1
noncomputable def tNotN (ta : TE) : TE := fun σ H Q => ta σ H fun x H1 => Q (.bl (!decide (x = .non))) H1
theorem RelV.none_iff {x : V} {v : Value} (r : RelV x v) : (v == Value.none) = decide (x = .non) := by
  cases x with
  | non => cases r; rfl
  | bl _ => cases r; rfl
  | int _ => obtain ⟨t, rfl⟩ := r; rfl
  | str _ => obtain ⟨t, rfl⟩ := r; rfl
  | byt _ => obtain ⟨t, rfl⟩ := r; rfl
  | flt _ => obtain ⟨t, rfl⟩ := r; rfl
  | ref _ => cases r; rfl
  | ty _ => cases r; rfl
theorem pc_isN {j pos'} (ha : PE X a ta) : PC X .Is a (.Constant .none j pos') (tIsN ta) := by
  intro pins s σ H Q I h
  refine thn (ha pins s σ H _ I h) fun v s1 hq9 => EP.out hq9 fun x H1 I1 r1 q1 => ?_
  exact Constant_none (is_none_gen ⟨.bl _, H1, I1, by rw [r1.none_iff]; rfl, q1⟩)
theorem pc_notN {j pos'} (ha : PE X a ta) : PC X .IsNot a (.Constant .none j pos') (tNotN ta) := by
  intro pins s σ H Q I h
  refine thn (ha pins s σ H _ I h) fun v s1 hq9 => EP.out hq9 fun x H1 I1 r1 q1 => ?_
  exact Constant_none (isnot_none_gen ⟨.bl _, H1, I1, by rw [r1.none_iff]; rfl, q1⟩)
noncomputable def tB (t : TE) : TT := fun σ H Q => t σ H fun x H1 => ∃ c, x = .bl c ∧ Q c H1
theorem pe_cmp {op : CmpOp} {t : TE} (h : PC X op a b t) (h1 : behindInMarks op b = false := by first | exact nobehind _ (by decide) (by decide) | rfl) : PE X (.Compare a [op] [b] pos) t := fun pins s σ H Q I hw => wpAny_Compare1 (h pins s σ H Q I hw) h1
theorem pt_cmp {op : CmpOp} {t : TE} (h : PC X op a b t) (h1 : behindInMarks op b = false := by first | exact nobehind _ (by decide) (by decide) | rfl) : PT X (.Compare a [op] [b] pos) (tB t) := by
  intro pins s σ H Q I hw
  refine wpAny_isTrue_Compare1 (thn (h pins s σ H _ I hw) fun v s1 h1 => thn h1 fun u s2 h2 => thn h2 fun c s3 hq9 => EP.out hq9 fun x H1 I1 r1 q1 => ?_) h1
  obtain ⟨d, rfl, q⟩ := q1
  cases r1
  exact wpAny_truthy_bool ⟨H1, I1, q⟩
theorem pt_val {e : Expr} {t : TE} (h : PE X e t) (he : ∀ whole, isTrue e X.env whole = (do let v ← whole; standAt e.pos; holding [v] (truthy v)) := by intro _; rfl) : PT X e (tB t) := by
  intro pins s σ H Q I hw
  refine isTrue_plain (thn (h pins s σ H _ I hw) fun v s1 hq9 => EP.out hq9 fun x H1 I1 r1 q1 => ?_) (he _)
  obtain ⟨d, rfl, q⟩ := q1
  cases r1
  exact wpAny_truthy_bool ⟨H1, I1, q⟩
variable {tA tB' : TT} {rest : List Expr}
noncomputable def tAnd (t u : TT) : TT := fun σ H Q => t σ H fun c H1 => if c = true then u σ H1 Q else Q false H1
noncomputable def tOr (t u : TT) : TT := fun σ H Q => t σ H fun c H1 => if c = true then Q true H1 else u σ H1 Q
noncomputable def tNot (t : TT) : TT := fun σ H Q => t σ H fun c H1 => Q (!c) H1
theorem pw_and1 (ha : PT X a tA) : PW X (.BoolOp .And [a] pos) tA := by
  intro wh pins s σ H Q I h
  refine isTrue_and (thn (ha pins s σ H Q I h) fun c s1 e => ?_)
  cases c with
  | true => exact isTrue_and_nil e
  | false => exact e
theorem pw_or1 (ha : PT X a tA) : PW X (.BoolOp .Or [a] pos) tA := by
  intro wh pins s σ H Q I h
  refine isTrue_or (thn (ha pins s σ H Q I h) fun c s1 e => ?_)
  cases c with
  | false => exact isTrue_or_nil e
  | true => exact e
theorem pw_and (ha : PT X a tA) (hb : PW X (.BoolOp .And (b :: rest) pos) tB') : PW X (.BoolOp .And (a :: b :: rest) pos) (tAnd tA tB') := by
  intro wh pins s σ H Q I h
  refine isTrue_and (thn (ha pins s σ H _ I h) fun c s1 hq9 => ex3 hq9 fun H1 I1 q1 => ?_)
  cases c with
  | true => exact hb wh pins s1 σ H1 Q I1 q1
  | false => exact ⟨H1, I1, q1⟩
theorem pw_or (ha : PT X a tA) (hb : PW X (.BoolOp .Or (b :: rest) pos) tB') : PW X (.BoolOp .Or (a :: b :: rest) pos) (tOr tA tB') := by
  intro wh pins s σ H Q I h
  refine isTrue_or (thn (ha pins s σ H _ I h) fun c s1 hq9 => ex3 hq9 fun H1 I1 q1 => ?_)
  cases c with
  | true => exact ⟨H1, I1, q1⟩
  | false => exact hb wh pins s1 σ H1 Q I1 q1
theorem pt_not (ha : PT X a tA) : PT X (.UnaryOp .Not a pos) (tNot tA) := by
  intro pins s σ H Q I h
  exact isTrue_not (ha pins s σ H (fun c H1 => Q (!c) H1) I h)
noncomputable def tAndV (ta tb : TE) : TE := fun σ H Q => ta σ H fun x H1 => ∃ c, x = .bl c ∧ if c = true then tb σ H1 Q else Q (.bl false) H1
noncomputable def tOrV (ta tb : TE) : TE := fun σ H Q => ta σ H fun x H1 => ∃ c, x = .bl c ∧ if c = true then Q (.bl true) H1 else tb σ H1 Q
noncomputable def tNotV (ta : TE) : TE := fun σ H Q => ta σ H fun x H1 => ∃ c, x = .bl c ∧ Q (.bl (!c)) H1
theorem pe_one {op} {t : TE} (h : PE X a t) : PE X (.BoolOp op [a] pos) t := fun pins s σ H Q I hw => BoolOp_one (h pins s σ H Q I hw)
theorem pe_and (ha : PE X a ta) (hb : PE X (.BoolOp .And (b :: rest) pos) tb) : PE X (.BoolOp .And (a :: b :: rest) pos) (tAndV ta tb) := by
  intro pins s σ H Q I h
  refine BoolOp_and (thn (ha pins s σ H _ I h) fun v s1 hq9 => EP.out hq9 fun x H1 I1 r1 q1 => ?_)
  obtain ⟨c, rfl, q1⟩ := q1
  cases r1
  refine wpAny_truthy_bool ?_
  cases c with
  | true => exact hb pins s1 σ H1 Q I1 q1
  | false => exact ⟨.bl false, H1, I1, rfl, q1⟩
theorem pe_or (ha : PE X a ta) (hb : PE X (.BoolOp .Or (b :: rest) pos) tb) : PE X (.BoolOp .Or (a :: b :: rest) pos) (tOrV ta tb) := by
  intro pins s σ H Q I h
  refine BoolOp_or (thn (ha pins s σ H _ I h) fun v s1 hq9 => EP.out hq9 fun x H1 I1 r1 q1 => ?_)
  obtain ⟨c, rfl, q1⟩ := q1
  cases r1
  refine wpAny_truthy_bool ?_
  cases c with
  | false => exact hb pins s1 σ H1 Q I1 q1
  | true => exact ⟨.bl true, H1, I1, rfl, q1⟩
theorem pe_not (ha : PE X a ta) : PE X (.UnaryOp .Not a pos) (tNotV ta) := by
  intro pins s σ H Q I h
  refine UnaryOp_ (thn (ha pins s σ H _ I h) fun v s1 hq9 => EP.out hq9 fun x H1 I1 r1 q1 => ?_)
  obtain ⟨c, rfl, q1⟩ := q1
  cases r1
  exact not_of (wpAny_truthy_bool ⟨.bl (!c), H1, I1, rfl, q1⟩)
noncomputable def tIf (t : TT) (ta tb : TE) : TE := fun σ H Q => t σ H fun c H1 => if c = true then ta σ H1 Q else tb σ H1 Q
theorem pe_ifExp {c : Expr} (hc : PT X c tA) (ha : PE X a ta) (hb : PE X b tb) : PE X (.IfExp c a b pos) (tIf tA ta tb) := by
  intro pins s σ H Q I h
  refine wpAny_IfExp (thn (hc pins s σ H _ I h) fun d s1 hq9 => ex3 hq9 fun H1 I1 q1 => ?_)
  cases d with
  | true => exact ha pins s1 σ H1 Q I1 q1
  | false => exact hb pins s1 σ H1 Q I1 q1
end
end L2
namespace L2
open PySem PySem.Spec PyProof.Rows
noncomputable def SqL (K : PySem.W.Frag) (H : Hp) (a : Addr) (xs : List V) : Prop :=
  Rd H a (.lst xs) ∨
    ∃ (o : Obj) (its : Array Value) (n : Nat), K.lookup a = some o ∧ o.cls = .type "list" ∧ o.dict = none ∧ o.data = .seq its n ∧ its.size ≤ sizeLine ∧ Vals xs its.toList
noncomputable def SqT (K : PySem.W.Frag) (H : Hp) (a : Addr) (xs : List V) : Prop :=
  Rd H a (.tup xs) ∨
    ∃ (o : Obj) (its : Array Value) (n : Nat), K.lookup a = some o ∧ o.cls = .type "tuple" ∧ o.data = .seq its n ∧ its.size ≤ sizeLine ∧ Vals xs its.toList
noncomputable def absV : Value → Option V
  | .none => some .non
  | .bool b => some (.bl b)
  | .int i _ => some (.int i)
  | .str x _ => some (.str x)
  | .bytes b _ => some (.byt b)
  | .float b _ => some (.flt b)
  | .ref a => some (.ref a)
  | .type n => some (.ty n)
  | _ => none
theorem RelV.abs {x : V} {u : Value} (r : RelV x u) : absV u = some x := by
  cases x with
  | non => cases r; rfl
  | bl _ => cases r; rfl
  | int _ => obtain ⟨t, rfl⟩ := r; rfl
  | str _ => obtain ⟨t, rfl⟩ := r; rfl
  | byt _ => obtain ⟨t, rfl⟩ := r; rfl
  | flt _ => obtain ⟨t, rfl⟩ := r; rfl
  | ref _ => cases r; rfl
  | ty _ => cases r; rfl
theorem RelV.inj {x y : V} {u : Value} (r : RelV x u) (q : RelV y u) : x = y := Option.some.inj (r.abs.symm.trans q.abs)
theorem Vals.inj {xs ys : List V} {us : List Value} (h : Vals xs us) (g : Vals ys us) : xs = ys := by
  induction h generalizing ys with
  | nil => cases g; rfl
  | cons r t ih =>
    cases g with
    | cons r' t' => rw [r.inj r', ih t']
section
variable {X : Cx} {pins : List (Addr × Obj)} {σ : St} {H : Hp} {s : Shared} {a : Addr} {xs ys : List V}
theorem SqL.of {K : PySem.W.Frag} (h : H a = some (.lst xs)) : SqL K H a xs := .inl (.inl h)
theorem SqT.of {K : PySem.W.Frag} (h : H a = some (.tup xs)) : SqT K H a xs := .inl (.inl h)
theorem Inv.list (I : Inv X pins σ H s) (h : SqL X.K H a xs) : ∃ its : List Value, Vals xs its ∧ PlainL s.heap a its.toArray ∧ xs.length ≤ sizeLine := by
  rcases h with h | ⟨o, its, n, hk, hc, hd, hs, hz, r⟩
  · obtain ⟨z, its, n, r, e⟩ := h.ok I.hok
    exact ⟨its, r, ⟨_, n, e, rfl, rfl, rfl⟩, z⟩
  · refine ⟨its.toList, r, ⟨o, n, I.kIn a o hk, hc, hd, by simpa using hs⟩, ?_⟩
    have e := r.length
    simp only [Array.length_toList] at e
    omega
theorem Inv.tuple (I : Inv X pins σ H s) (h : SqT X.K H a xs) : ∃ its : List Value, Vals xs its ∧ IsTup s.heap a its.toArray ∧ xs.length ≤ sizeLine := by
  rcases h with h | ⟨o, its, n, hk, hc, hs, hz, r⟩
  · obtain ⟨z, its, r, p⟩ := h.ok I.hok
    exact ⟨its, r, p, z⟩
  · refine ⟨its.toList, r, ⟨o, I.kIn a o hk, hc, n, by simpa using hs⟩, ?_⟩
    have e := r.length
    simp only [Array.length_toList] at e
    omega
theorem Inv.list_inj (I : Inv X pins σ H s) (h : SqL X.K H a xs) (h' : SqL X.K H a ys) : xs = ys := by
  obtain ⟨its, r, ⟨o, n, e, _, _, d⟩, _⟩ := I.list h
  obtain ⟨its', r', ⟨o', n', e', _, _, d'⟩, _⟩ := I.list h'
  rw [e] at e'; cases e'
  rw [d] at d'
  injection d' with d1 _
  have : its = its' := by simpa using congrArg Array.toList d1
  subst this
  exact r.inj r'
theorem Inv.tuple_inj (I : Inv X pins σ H s) (h : SqT X.K H a xs) (h' : SqT X.K H a ys) : xs = ys := by
  obtain ⟨its, r, ⟨o, e, _, n, d⟩, _⟩ := I.tuple h
  obtain ⟨its', r', ⟨o', e', _, n', d'⟩, _⟩ := I.tuple h'
  rw [e] at e'; cases e'
  rw [d] at d'
  injection d' with d1 _
  have : its = its' := by simpa using congrArg Array.toList d1
  subst this
  exact r.inj r'
end
noncomputable abbrev Cx.wish (X : Cx) (E : Value → Shared → Prop) : Cx := { X with xe := E }
noncomputable abbrev Cx.nox (X : Cx) : Cx := X.wish fun _ _ => False
theorem Cx.Ok.wish {X : Cx} (ok : X.Ok) (E : Value → Shared → Prop) : (X.wish E).Ok :=
  ⟨ok.mod, ok.kind, ok.glob, ok.blt, ok.above, ok.inj, ok.has, ok.cab, ok.hd, ok.frames, ok.stk, ok.exf, ok.bs, ok.bsz, ok.noex, ok.exfs, ok.funs, ok.frf⟩
theorem Cx.Ok.unwish {X : Cx} {E : Value → Shared → Prop} (ok : (X.wish E).Ok) : X.Ok :=
  ⟨ok.mod, ok.kind, ok.glob, ok.blt, ok.above, ok.inj, ok.has, ok.cab, ok.hd, ok.frames, ok.stk, ok.exf, ok.bs, ok.bsz, ok.noex, ok.exfs, ok.funs, ok.frf⟩
section
variable {X : Cx} {pins : List (Addr × Obj)} {σ : St} {H : Hp} {s : Shared} {E : Value → Shared → Prop}
theorem Inv.wish (I : Inv X pins σ H s) (E : Value → Shared → Prop) : Inv (X.wish E) pins σ H s := ⟨I.ok.wish E, I.os, I.bare, I.base, I.loc, I.cell, I.free, I.freeC, I.pin, I.hok, I.len⟩
theorem Inv.unwish (I : Inv (X.wish E) pins σ H s) : Inv X pins σ H s := ⟨I.ok.unwish, I.os, I.bare, I.base, I.loc, I.cell, I.free, I.freeC, I.pin, I.hok, I.len⟩
theorem SP.unwish {D : Ends} {f : Flow} {s' : Shared} (h : SP (X.wish E) pins D f s') : SP X pins D f s' := by
  cases f with
  | next => obtain ⟨σ', H', I, q⟩ := h; exact ⟨σ', H', I.unwish, q⟩
  | brk => obtain ⟨σ', H', I, q⟩ := h; exact ⟨σ', H', I.unwish, q⟩
  | cont => obtain ⟨σ', H', I, q⟩ := h; exact ⟨σ', H', I.unwish, q⟩
  | ret u => obtain ⟨v, σ', H', I, r, q⟩ := h; exact ⟨v, σ', H', I.unwish, r, q⟩
theorem PSs.nox {st : List Stmt} {t : TS} (h : PSs X.nox st t) : PSs X st t := fun pins s σ H D I hw =>
  wpAny_mono (h pins s σ H D (I.wish _) hw) (fun _ _ q => q.unwish) fun _ _ z => False.elim z
end
section
variable {X : Cx} {st : Stmt} {rest : List Stmt} {t u : TS} {e : Expr} {te : TE} {pos : Pos}
noncomputable def tNext : TS := fun D σ H => D.nx σ H
noncomputable def tSeq (t u : TS) : TS := fun D σ H => t { D with nx := u D } σ H
theorem pss_nil : PSs X [] tNext := fun _ _ σ H _ I h => wpAny_execs_nil ⟨σ, H, I, h⟩
theorem pss_cons (h1 : PS X st t) (h2 : PSs X rest u) : PSs X (st :: rest) (tSeq t u) := by
  intro pins s σ H D I h
  refine wpAny_execs_cons (thn (h1 pins s σ H { D with nx := u D } I h) fun f s1 q => ?_)
  cases f with
  | next =>
    obtain ⟨σ', H', I', q⟩ := q
    exact h2 pins s1 σ' H' D I' q
  | ret v => exact q
  | brk => exact q
  | cont => exact q
theorem pss_one (h1 : PS X st t) : PSs X [st] t := by
  intro pins s σ H D I h
  refine wpAny_execs_cons (thn (h1 pins s σ H D I h) fun f s1 q => ?_)
  cases f with
  | next => exact wpAny_execs_nil q
  | ret v => exact q
  | brk => exact q
  | cont => exact q
theorem Inv.quiet {pins : List (Addr × Obj)} {σ : St} {H : Hp} {s : Shared} (I : Inv X pins σ H s) : interactive X.env = false := by simp [interactive, I.ok.kind]
noncomputable def tDrop (te : TE) : TS := fun D σ H => te σ H fun _ H1 => D.nx σ H1
theorem ps_expr (he : PE X e te) (hs : swapsWith e none pos.line X.env = pure false := by rfl) : PS X (.Expr e pos) (tDrop te) := by
  intro pins s σ H D I h
  exact wpAny_Expr_any (thn (he pins s σ H _ I h) fun v s1 hq9 => EP.out hq9 fun x H1 I1 r1 q1 => ⟨σ, H1, I1, q1⟩) I.quiet hs
noncomputable def tRet (te : TE) : TS := fun D σ H => te σ H D.rt
theorem ps_ret (he : PE X e te) : PS X (.Return (some e) pos) (tRet te) := by
  intro pins s σ H D I h
  exact wpAny_Return_some (thn (he pins s σ H _ I h) fun v s1 hq9 => EP.out hq9 fun x H1 I1 r1 q1 => ⟨x, σ, H1, I1, r1, q1⟩)
noncomputable def tIfS (c : TT) (t u : TS) : TS := fun D σ H => c σ H fun b H1 => if b = true then t D σ H1 else u D σ H1
theorem ps_if {c : Expr} {a b : List Stmt} {tc : TT} (hc : PT X c tc) (ha : PSs X a t) (hb : PSs X b u) : PS X (.If c a b pos) (tIfS tc t u) := by
  intro pins s σ H D I h
  refine wpAny_If (thn (hc pins s σ H _ I h) fun d s1 hq9 => ex3 hq9 fun H1 I1 q1 => ?_)
  cases d with
  | true => exact ha pins s1 σ H1 D I1 q1
  | false => exact hb pins s1 σ H1 D I1 q1
end
noncomputable abbrev TG := V → St → Hp → (St → Hp → Prop) → Prop
noncomputable abbrev TGs := List V → St → Hp → (St → Hp → Prop) → Prop
noncomputable def PG (X : Cx) (target : Expr) (t : TG) : Prop :=
  ∀ (pins : List (Addr × Obj)) (s : Shared) (σ : St) (H : Hp) (v : V) (u : Value) (Q : St → Hp → Prop), Inv X pins σ H s → RelV v u → t v σ H Q →
    wpAny (model X.prog X.w) X.A (assign target X.env u) (fun _ s' => ∃ σ' H', Inv X pins σ' H' s' ∧ Q σ' H') X.xe s
noncomputable def PGs (X : Cx) (ts : List Expr) (t : TGs) : Prop :=
  ∀ (pins : List (Addr × Obj)) (s : Shared) (σ : St) (H : Hp) (vs : List V) (us : List Value) (Q : St → Hp → Prop), Inv X pins σ H s → Vals vs us → t vs σ H Q →
    wpAny (model X.prog X.w) X.A (assignInOrder ((assignEach ts X.env).map (·.2)) us) (fun _ s' => ∃ σ' H', Inv X pins σ' H' s' ∧ Q σ' H') X.xe s
noncomputable abbrev TSet := V → V → V → Hp → (Hp → Prop) → Prop
noncomputable def PSet (X : Cx) (t : TSet) : Prop :=
  ∀ (pins : List (Addr × Obj)) (s : Shared) (σ : St) (H : Hp) (o i v : V) (ov iv u : Value) (Q : Hp → Prop), Inv X pins σ H s → RelV o ov → RelV i iv → RelV v u → t o i v H Q →
    wpAny (model X.prog X.w) X.A (setItem ov iv u) (fun _ s' => ∃ H', Inv X pins σ H' s' ∧ Q H') X.xe s
section
variable {X : Cx} {pos : Pos}
noncomputable def gName (i : Nat) : TG := fun v σ H Q => Q (σ.set i (some v)) H
theorem pg_name {i : Nat} {x : Str} (hN : X.N.Nodup) (hi : X.N[i]? = some x) (hx : Loc X.env.scope x) (hf : X.fn x = true ∨ X.env.scope.names.lookup x = some .local := by first | exact .inl rfl | exact .inr rfl | assumption) : PG X (.Name x pos) (gName i) := by
  intro pins s σ H v u Q I r h
  exact wpAny_assign_Name (store_ok I hN hi hx r (fun s' I' => ⟨_, H, I', h⟩) hf)
noncomputable def gNil : TGs := fun vs σ H Q => vs = [] ∧ Q σ H
noncomputable def gCons (t : TG) (u : TGs) : TGs := fun vs σ H Q => ∃ v r, vs = v :: r ∧ t v σ H fun σ' H' => u r σ' H' Q
theorem pgs_nil : PGs X [] gNil := by
  intro pins s σ H vs us Q I r h
  obtain ⟨e, h⟩ := h
  subst e
  cases r
  exact assignInOrder_nil ⟨σ, H, I, h⟩
theorem pgs_cons {e : Expr} {es : List Expr} {t : TG} {u : TGs} (h1 : PG X e t) (h2 : PGs X es u)
    (hs : (assignEach (e :: es) X.env).map (·.2) = assign e X.env :: (assignEach es X.env).map (·.2) := by rfl) : PGs X (e :: es) (gCons t u) := by
  intro pins s σ H vs us Q I r h
  obtain ⟨v, vr, e1, h⟩ := h
  subst e1
  cases r with
  | cons r rr =>
    rw [hs]
    refine assignInOrder_cons (thn (h1 pins s σ H _ _ _ I r h) fun _ s1 hq9 => GP.out hq9 fun σ1 H1 I1 q1 => ?_)
    exact h2 pins s1 σ1 H1 _ _ Q I1 rr q1
noncomputable def gTup (K : PySem.W.Frag) (n : Nat) (t : TGs) : TG := fun v σ H Q => ∃ a xs, v = .ref a ∧ SqT K H a xs ∧ xs.length = n ∧ t xs σ H Q
theorem pg_tup {es : List Expr} {k : Nat} {t : TGs} {n : Nat} (hc : X.calm = true) (h : PGs X es t)
    (hn : (assignEach es X.env).length = n := by rfl) (hst : (assignEach es X.env).findIdx? (·.1) = none := by rfl) : PG X (.Tuple es k pos) (gTup X.K n t) := by
  intro pins s σ H v u Q I r hw
  obtain ⟨a, xs, e1, hq, hl, hw⟩ := hw
  subst e1
  cases r
  obtain ⟨its, rv, ht, hz⟩ := I.tuple hq
  refine assign_Tuple_tuple (I.ok.hd hc) ht (by simp [hn, ← hl, rv.length]) hst fun h' hx => ?_
  have I1 : Inv X pins σ H { s with heap := h' } := I.kept (t' := s.toks) fun b o e => hx b o (Nat.ne_of_lt (Heap.lt_size e)) e
  exact h pins _ σ H xs _ Q I1 (by simpa using rv) hw
noncomputable def gSub (to ti : TE) (t : TSet) : TG := fun v σ H Q => to σ H fun o H1 => ti σ H1 fun i H2 => t o i v H2 fun H3 => Q σ H3
theorem pg_sub {o i : Expr} {to ti : TE} {t : TSet} (ho : PE X o to) (hi : PE X i ti) (hs : PSet X t)
    (ha : ∀ v, assign (.Subscript o i pos) X.env v = (do
      let ov ← holding [v] (eval o X.env)
      let iv ← holding [v, ov] (eval i X.env)
      standAt pos
      holding [v, ov, iv] (setItem ov iv v)
      release [v, ov, iv] []) := by intro _; rfl) : PG X (.Subscript o i pos) (gSub to ti t) := by
  intro pins s σ H v u Q I r h
  rw [ha]
  refine wpAny_bind (wpAny_holding (thn (ho pins s σ H _ I h) fun ov s1 hq9 => EP.out hq9 fun x H1 I1 r1 q1 => ?_))
  refine wpAny_bind (wpAny_holding (thn (hi pins s1 σ H1 _ I1 q1) fun iv s2 hq9 => EP.out hq9 fun y H2 I2 r2 q2 => ?_))
  refine wpAny_bind (wpAny_standAt (wpAny_bind (wpAny_holding (thn (hs pins s2 σ H2 x y v ov iv u _ I2 r1 r2 r q2) fun _ s3 hq9 => ex3 hq9 fun H3 I3 q3 => ?_))))
  exact wpAny_release ⟨σ, H3, I3, q3⟩
noncomputable def tAsg (te : TE) (g : TG) : TS := fun D σ H => te σ H fun x H1 => g x σ H1 D.nx
theorem ps_asg {tg e : Expr} {te : TE} {g : TG} (he : PE X e te) (hg : PG X tg g) (hs : swapsWithSole [tg] e pos.line X.env = pure false := by rfl) (hw : swappedStores [tg] e X.env = pure none := by rfl)
    (h1 : (assignEach [tg] X.env).map (·.2) = [assign tg X.env] := by rfl) : PS X (.Assign [tg] e pos) (tAsg te g) := by
  intro pins s σ H D I h
  refine wpAny_Assign_stores (thn (he pins s σ H _ I h) fun v s1 hq9 => EP.out hq9 fun x H1 I1 r1 q1 => ?_) hs hw
  rw [h1]
  exact thn (hg pins s1 σ H1 x v _ I1 r1 q1) fun _ s2 q => q
theorem ps_set {i : Nat} {x : Str} {e : Expr} {te : TE} {pos' : Pos} (hN : X.N.Nodup) (hi : X.N[i]? = some x) (hx : Loc X.env.scope x) (he : PE X e te) (hs : swapsWith e (some (.Name x pos')) pos.line X.env = pure false := by rfl) (hf : X.fn x = true ∨ X.env.scope.names.lookup x = some .local := by first | exact .inl rfl | exact .inr rfl | assumption) :
    PS X (.Assign [.Name x pos'] e pos) (tAsg te (gName i)) := by
  intro pins s σ H D I h
  refine wpAny_Assign_Name (thn (he pins s σ H _ I h) fun v s1 hq9 => EP.out hq9 fun y H1 I1 r1 q1 => ?_) hs
  exact store_ok I1 hN hi hx r1 (fun s2 I2 => ⟨_, H1, I2, q1⟩) hf
end
section
variable {X : Cx} {pos : Pos}
noncomputable def tWhile (c : TT) (tb : TS) : TS := fun D σ H => ∃ W : Nat → St → Hp → Prop, (∃ m, W m σ H) ∧ ∀ m σ H, W m σ H →
  c σ H fun b H1 => if b = true then ∃ N : St → Hp → Prop, (∀ σ' H', N σ' H' → ∃ m', m' < m ∧ W m' σ' H') ∧ tb { D with nx := N, ct := N, bk := D.nx } σ H1 else D.nx σ H1
theorem ps_while {c : Expr} {body : List Stmt} {tc : TT} {tb : TS} (hp : PassesOwn (model X.prog X.w) X.A X.env X.xe) (hc : PT X c tc) (hb : PSs X body tb) : PS X (.While c body [] pos) (tWhile tc tb) := by
  intro pins s σ H D I h
  obtain ⟨W, ⟨m0, w0⟩, turn⟩ := h
  refine wpAny_While (codeAny_whileLoop (fun n s' => ∃ σ' H', Inv X pins σ' H' s' ∧ W n σ' H') ?_ m0 ⟨σ, H, I, w0⟩)
  rintro n s1 ⟨σ1, H1, I1, w1⟩
  refine wpAny_passesOwn hp (thn (hc pins s1 σ1 H1 _ I1 (turn n σ1 H1 w1)) fun b s2 hq9 => ex3 hq9 fun H2 I2 q2 => ?_)
  cases b with
  | true =>
    obtain ⟨N, hN, q2⟩ := q2
    rw [if_pos rfl]
    refine wpAny_passesOwn hp (thn (hb pins s2 σ1 H2 _ I2 q2) fun f s3 q3 => ?_)
    cases f with
    | next =>
      obtain ⟨σ3, H3, I3, n3⟩ := q3
      obtain ⟨m', hm, w3⟩ := hN σ3 H3 n3
      exact ⟨m', hm, σ3, H3, I3, w3⟩
    | cont =>
      obtain ⟨σ3, H3, I3, n3⟩ := q3
      obtain ⟨m', hm, w3⟩ := hN σ3 H3 n3
      exact ⟨m', hm, σ3, H3, I3, w3⟩
    | brk => exact q3
    | ret v => exact q3
  | false =>
    rw [if_neg Bool.false_ne_true]
    exact wpAny_execs_nil ⟨σ1, H2, I2, q2⟩
end
structure It where
  go : Nat → Hp → Prop
  yld : Nat → Hp → V → Hp → Prop
  stop : Nat → Hp → Prop
noncomputable def FpOk (X : Cx) (pins : List (Addr × Obj)) (H : Hp) (b : Addr) : Prop :=
  H b = none ∧ b ≠ X.env.locals ∧ b ∉ X.fs ∧ (b ∈ X.ex ∨ X.s₀.heap.objs.size ≤ b) ∧ (∀ x c, X.env.cells.lookup x = some c → c ≠ b) ∧ ∀ p ∈ X.pn ++ pins, p.1 ≠ b
theorem Inv.fpOk {X : Cx} {pins : List (Addr × Obj)} {σ : St} {H H' : Hp} {s : Shared} {b : Addr} (I : Inv X pins σ H s) (hb : s.heap.objs.size ≤ b) (hn : H' b = none) : FpOk X pins H' b := by
  refine ⟨hn, Nat.ne_of_gt (Nat.lt_of_lt_of_le I.lt hb), I.nofs hb, .inr (Nat.le_trans I.sz hb), fun x c e z => ?_, fun p hp z => ?_⟩
  · obtain ⟨v, q⟩ := I.cell x c e
    exact absurd (Nat.lt_of_lt_of_le q.lt (by rw [z]; exact hb)) (Nat.lt_irrefl _)
  · exact absurd (Nat.lt_of_lt_of_le (Heap.lt_size (I.pin p hp).1) (by rw [z]; exact hb)) (Nat.lt_irrefl _)
structure Turn (P : Program) (w : World) (K : PySem.W.Frag) (tg : Expr) (J : It) (fp : List Addr) (it : Addr) (tn : Nat → Heap → Prop) : Prop where
  mem : it ∈ fp
  obj : ∀ i h, tn i h → ∀ b ∈ fp, ∃ o, h.get? b = some o ∧ ∀ v, o.data ≠ .cell v
  keep : ∀ i h h', tn i h → (∀ b ∈ fp, ∀ o, h.get? b = some o → h'.get? b = some o) → tn i h'
  item : ∀ (X : Cx), X.prog = P → X.w = w → X.K = K → X.calm = true → ∀ (i : Nat) (pins : List (Addr × Obj)) (s : Shared) (σ : St) (H : Hp) (E : Value → Shared → Prop), Inv X pins σ H s → (∀ b ∈ fp, FpOk X pins H b) → tn i s.heap → J.go i H →
    wpAny (model P w) X.A (pyNext (.ref it)) (fun r s1 => ∃ u, r = some u ∧
      wpAny (model P w) X.A (letOwnedTupleGo tg (.ref it) u) (fun _ s2 => ∃ x H', Inv X pins σ H' s2 ∧ RelV x u ∧ J.yld i H x H' ∧ tn (i + 1) s2.heap ∧ ∀ b ∈ fp, H' b = none) E s1) E s
  done : ∀ (X : Cx), X.prog = P → X.w = w → X.K = K → X.calm = true → ∀ (i : Nat) (pins : List (Addr × Obj)) (s : Shared) (σ : St) (H : Hp) (E : Value → Shared → Prop), Inv X pins σ H s → (∀ b ∈ fp, FpOk X pins H b) → tn i s.heap → J.stop i H →
    wpAny (model P w) X.A (pyNext (.ref it)) (fun r s1 => r = none ∧ Inv X pins σ H s1) E s
  self : ∀ (A : Around) (i : Nat) (s : Shared) (Q : Value → Shared → Prop) (E : Value → Shared → Prop), tn i s.heap → Q (.ref it) s → wpAny (model P w) A (pyIter (.ref it)) Q E s
noncomputable abbrev TI := St → Hp → (It → Hp → Prop) → Prop
noncomputable def PIE (X : Cx) (pins : List (Addr × Obj)) (σ : St) (tg : Expr) (R : It → Hp → Prop) (itv : Value) (s2 : Shared) : Prop :=
  ∃ (it : Addr) (fp : List Addr) (tn : Nat → Heap → Prop) (J : It) (H' : Hp), itv = .ref it ∧ Inv X pins σ H' s2 ∧ Turn X.prog X.w X.K tg J fp it tn ∧ tn 0 s2.heap ∧ (∀ b ∈ fp, FpOk X pins H' b) ∧ R J H'
noncomputable def PI (X : Cx) (tg iter : Expr) (wi : TI) : Prop :=
  ∀ (pins : List (Addr × Obj)) (s : Shared) (σ : St) (H : Hp) (R : It → Hp → Prop), Inv X pins σ H s → wi σ H R →
    wpAny (model X.prog X.w) X.A (eval iter X.env) (fun v s1 => wpAny (model X.prog X.w) X.A (pyIter v) (PIE X pins σ tg R) X.xe s1) X.xe s
theorem go_of {M : Model} {A : Around} {E : Value → Shared → Prop} {s : Shared} {tg : Expr} {it : Addr} {u : Value} {o : Obj} {n : String} {vs : Array Value} {Q : Unit → Shared → Prop} (ho : s.heap.get? it = some o) (hc : o.cls = .type n) (hd : o.data = .fields vs)
    (hn : ["enumerate", "zip", "dict_itemiterator", "dict_reverseitemiterator", "odict_iterator", "itertools.zip_longest", "itertools.pairwise"].contains n = false) (hQ : Q () s) : wpAny M A (letOwnedTupleGo tg (.ref it) u) Q E s := by
  unfold letOwnedTupleGo
  cases tg <;> first
    | exact wpAny_pure hQ
    | (cases u <;> first
        | exact wpAny_pure hQ
        | (refine wpAny_bind (wpAny_load ho ?_)
           rw [hc, hd]
           show wpAny M A (if (["enumerate", "zip", "dict_itemiterator", "dict_reverseitemiterator", "odict_iterator", "itertools.zip_longest", "itertools.pairwise"].contains n && vs[0]? == some (rawInt _)) = true then _ else _) Q E s
           rw [if_neg (by intro h; rw [hn, Bool.false_and] at h; cases h)]
           exact wpAny_pure hQ))
noncomputable def Itl (K : PySem.W.Frag) (a : Addr) : It :=
  ⟨fun i H => ∃ xs x, SqL K H a xs ∧ xs[i]? = some x, fun i H x H' => H' = H ∧ ∀ xs, SqL K H a xs → xs[i]? = some x, fun i H => ∃ xs, SqL K H a xs ∧ xs.length ≤ i⟩
noncomputable def Itt (K : PySem.W.Frag) (a : Addr) : It :=
  ⟨fun i H => ∃ xs x, SqT K H a xs ∧ xs[i]? = some x, fun i H x H' => H' = H ∧ ∀ xs, SqT K H a xs → xs[i]? = some x, fun i H => ∃ xs, SqT K H a xs ∧ xs.length ≤ i⟩
noncomputable def Itr (lo : Int) (n : Nat) : It := ⟨fun i _ => i < n, fun i H x H' => H' = H ∧ x = .int (lo + i), fun i _ => n ≤ i⟩
theorem turn_list {P : Program} {w : World} {K : PySem.W.Frag} {tg : Expr} (a it : Addr) : Turn P w K tg (Itl K a) [it] it (fun i h => h.IsListIter it a i) where
  mem := by simp
  obj := fun i h st b hb => by
    have e : b = it := by simpa using hb
    subst e
    obtain ⟨o, e, c, d⟩ := st
    exact ⟨o, e, fun v z => by rw [d] at z; cases z⟩
  keep := fun i h h' st k => st.at fun o e => k it (by simp) o e
  item := by
    intro X hP hw hK hc i pins s σ H E I hf st hg
    subst hP hw hK
    obtain ⟨xs, x, hq, hx⟩ := hg
    obtain ⟨its, rv, p, hz⟩ := I.list hq
    obtain ⟨u, hu, ru⟩ := rv.get hx
    obtain ⟨f0, f1, f2, f3, f4, f5⟩ := hf it (by simp)
    refine wpAny_pyNext_list_item st p.isList (x := u) (by simpa using hu) fun h' st' sb => ?_
    have I1 : Inv X pins σ H { s with heap := h' } := I.turned (t' := s.toks) (fun b o hb e => (sb.2 b hb).trans e) f0 f1 f3 f4 f5
    obtain ⟨o, e, c, d⟩ := id st'
    exact ⟨u, rfl, go_of (s := { s with heap := h' }) e c d (by decide) ⟨x, H, I1, ru, ⟨rfl, fun ys hy => by rw [I.list_inj hy hq]; exact hx⟩, st', fun b hb => (hf b hb).1⟩⟩
  done := by
    intro X hP hw hK hc i pins s σ H E I hf st hg
    subst hP hw hK
    obtain ⟨xs, hq, hx⟩ := hg
    obtain ⟨its, rv, p, hz⟩ := I.list hq
    obtain ⟨f0, f1, f2, f3, f4, f5⟩ := hf it (by simp)
    have hl := rv.length
    exact wpAny_pyNext_list_end (I.ok.hd hc) st p.isList (by simp; omega) fun h' eb => ⟨rfl, I.turned (t' := s.toks) (fun b o hb e => eb b o hb e) f0 f1 f3 f4 f5⟩
  self := fun _ _ _ _ _ st h => wpAny_pyIter_listiter st h
theorem turn_tuple {P : Program} {w : World} {K : PySem.W.Frag} {tg : Expr} (a it : Addr) : Turn P w K tg (Itt K a) [it] it (fun i h => h.IsTupleIter it a i) where
  mem := by simp
  obj := fun i h st b hb => by
    have e : b = it := by simpa using hb
    subst e
    obtain ⟨o, e, c, d⟩ := st
    exact ⟨o, e, fun v z => by rw [d] at z; cases z⟩
  keep := fun i h h' st k => st.at fun o e => k it (by simp) o e
  item := by
    intro X hP hw hK hc i pins s σ H E I hf st hg
    subst hP hw hK
    obtain ⟨xs, x, hq, hx⟩ := hg
    obtain ⟨its, rv, p, hz⟩ := I.tuple hq
    obtain ⟨u, hu, ru⟩ := rv.get hx
    obtain ⟨f0, f1, f2, f3, f4, f5⟩ := hf it (by simp)
    refine wpAny_pyNext_tuple_item st (show s.heap.IsTuple a its.toArray from p) (x := u) (by simpa using hu) fun h' st' sb => ?_
    have I1 : Inv X pins σ H { s with heap := h' } := I.turned (t' := s.toks) (fun b o hb e => (sb.2 b hb).trans e) f0 f1 f3 f4 f5
    obtain ⟨o, e, c, d⟩ := id st'
    exact ⟨u, rfl, go_of (s := { s with heap := h' }) e c d (by decide) ⟨x, H, I1, ru, ⟨rfl, fun ys hy => by rw [I.tuple_inj hy hq]; exact hx⟩, st', fun b hb => (hf b hb).1⟩⟩
  done := by
    intro X hP hw hK hc i pins s σ H E I hf st hg
    subst hP hw hK
    obtain ⟨xs, hq, hx⟩ := hg
    obtain ⟨its, rv, p, hz⟩ := I.tuple hq
    obtain ⟨f0, f1, f2, f3, f4, f5⟩ := hf it (by simp)
    have hl := rv.length
    exact wpAny_pyNext_tuple_end (I.ok.hd hc) st (show s.heap.IsTuple a its.toArray from p) (by simp; omega) fun h' eb => ⟨rfl, I.turned (t' := s.toks) (fun b o hb e => eb b o hb e) f0 f1 f3 f4 f5⟩
  self := fun _ _ _ _ _ st h => wpAny_pyIter_tupleiter st h
theorem turn_range {P : Program} {w : World} {K : PySem.W.Frag} {tg : Expr} (it : Addr) (lo : Int) (n : Nat) : Turn P w K tg (Itr lo n) [it] it (fun i h => IsRangeIter h it (lo + (i : Nat) * 1) ((n : Int) - (i : Nat)) 1) where
  mem := by simp
  obj := fun i h st b hb => by
    have e : b = it := by simpa using hb
    subst e
    exact ⟨_, st, fun v z => by
      have z' : Data.fields _ = Data.cell v := z
      cases z'⟩
  keep := fun i h h' st k => k it (by simp) _ st
  item := by
    intro X hP hw hK hc i pins s σ H E I hf st hg
    subst hP hw hK
    obtain ⟨f0, f1, f2, f3, f4, f5⟩ := hf it (by simp)
    have W := Walks.range (prog := X.prog) (w := X.w) (I.ok.hd hc) it lo 1 n
    refine W.item i s _ _ hg st fun v h' tk hv st' kk => ?_
    obtain ⟨t, rfl⟩ := hv
    have I1 : Inv X pins σ H { s with heap := h', toks := tk } := I.turned (fun b o hb e => kk b o (by simpa using hb) e) f0 f1 f3 f4 f5
    refine ⟨_, rfl, go_of (s := { s with heap := h', toks := tk }) (n := "range_iterator") st' rfl rfl (by decide) ⟨.int (lo + i), H, I1, ⟨t, ?_⟩, ⟨rfl, rfl⟩, st', fun b hb => (hf b hb).1⟩⟩
    rw [Int.mul_one]
  done := by
    intro X hP hw hK hc i pins s σ H E I hf st hg
    subst hP hw hK
    obtain ⟨f0, f1, f2, f3, f4, f5⟩ := hf it (by simp)
    exact wpAny_pyNext_range_end (I.ok.hd hc) st (by have : n ≤ i := hg; omega) fun h' eb => ⟨rfl, I.turned (t' := s.toks) (fun b o hb e => eb b o hb e) f0 f1 f3 f4 f5⟩
  self := fun _ _ _ _ _ st h => wpAny_pyIter_rangeiter st h
end L2
namespace L2
open PySem PySem.Spec PyProof.Rows
section
variable {X : Cx} {tg : Expr}
noncomputable def iList (K : PySem.W.Frag) (tl : TE) : TI := fun σ H R => tl σ H fun x H1 => ∃ a, x = .ref a ∧ (∃ xs, SqL K H1 a xs) ∧ R (Itl K a) H1
noncomputable def iTup (K : PySem.W.Frag) (tl : TE) : TI := fun σ H R => tl σ H fun x H1 => ∃ a, x = .ref a ∧ (∃ xs, SqT K H1 a xs) ∧ R (Itt K a) H1
theorem pi_list {l : Expr} {tl : TE} (hl : PE X l tl) : PI X tg l (iList X.K tl) := by
  intro pins s σ H R I h
  refine thn (hl pins s σ H _ I h) fun v s1 hq9 => EP.out hq9 fun x H1 I1 r1 q1 => ?_
  obtain ⟨a, e, ⟨xs, hq⟩, q⟩ := q1
  subst e
  cases r1
  obtain ⟨its, rv, p, hz⟩ := I1.list hq
  refine wpAny_pyIter_list p.isList ?_
  refine ⟨s1.heap.objs.size, [s1.heap.objs.size], _, _, H1, rfl, I1.kept (t' := s1.toks) fun b o e => Heap.get?_push_of_some _ e, turn_list a _, ⟨_, Heap.get?_push_size _ rfl, rfl, rfl⟩, fun b hb => ?_, q⟩
  have e : b = s1.heap.objs.size := by simpa using hb
  subst e
  exact I1.fpOk (Nat.le_refl _) (I1.hok.fresh (Nat.le_refl _))
theorem pi_tup {l : Expr} {tl : TE} (hl : PE X l tl) : PI X tg l (iTup X.K tl) := by
  intro pins s σ H R I h
  refine thn (hl pins s σ H _ I h) fun v s1 hq9 => EP.out hq9 fun x H1 I1 r1 q1 => ?_
  obtain ⟨a, e, ⟨xs, hq⟩, q⟩ := q1
  subst e
  cases r1
  obtain ⟨its, rv, p, hz⟩ := I1.tuple hq
  refine wpAny_pyIter_tuple (show s1.heap.IsTuple a its.toArray from p) ?_
  refine ⟨s1.heap.objs.size, [s1.heap.objs.size], _, _, H1, rfl, I1.kept (t' := s1.toks) fun b o e => Heap.get?_push_of_some _ e, turn_tuple a _, ⟨_, Heap.get?_push_size _ rfl, rfl, rfl⟩, fun b hb => ?_, q⟩
  have e : b = s1.heap.objs.size := by simpa using hb
  subst e
  exact I1.fpOk (Nat.le_refl _) (I1.hok.fresh (Nat.le_refl _))
theorem range_it {pins : List (Addr × Obj)} {σ : St} {H : Hp} {s : Shared} {R : It → Hp → Prop} {E : Value → Shared → Prop} {lo hi : Int} {t u v : Tok} {tk : Nat} (I : Inv X pins σ H s) (h1 : -(2 ^ 62) ≤ lo) (h2 : lo < 2 ^ 62) (h3 : -(2 ^ 62) ≤ hi) (h4 : hi < 2 ^ 62)
    (q : R (Itr lo (hi - lo).toNat) H) : wpAny (model X.prog X.w) X.A (pyIter (.ref s.heap.objs.size)) (PIE X pins σ tg R) E { s with heap := s.heap.push { cls := .type "range", data := .fields #[.int lo t, .int hi u, .int 1 v] }, toks := tk } := by
  refine wpAny_pyIter_range (IsRange.new ..) (small_one h1 h2 h3 h4) ?_
  have I1 : Inv X pins σ H { s with heap := s.heap.push { cls := .type "range", data := .fields #[.int lo t, .int hi u, .int 1 v] }, toks := tk } := I.kept fun b o e => Heap.get?_push_of_some _ e
  refine ⟨(s.heap.push { cls := .type "range", data := .fields #[.int lo t, .int hi u, .int 1 v] }).objs.size, [(s.heap.push { cls := .type "range", data := .fields #[.int lo t, .int hi u, .int 1 v] }).objs.size], _, _, H, rfl,
    I1.kept (t' := tk) fun b o e => Heap.get?_push_of_some _ e, turn_range _ lo (hi - lo).toNat, ?_, fun b hb => ?_, q⟩
  · have e1 : lo + ((0 : Nat) : Int) * 1 = lo := by simp
    have e2 : (((hi - lo).toNat : Nat) : Int) - ((0 : Nat) : Int) = Builtin.Range.rangeSize lo hi 1 := by rw [rangeSize_one]; split <;> omega
    show IsRangeIter _ _ (lo + ((0 : Nat) : Int) * 1) ((((hi - lo).toNat : Nat) : Int) - ((0 : Nat) : Int)) 1
    rw [e1, e2]
    exact Heap.get?_push_size _ rfl
  · have e : b = (s.heap.push { cls := .type "range", data := .fields #[.int lo t, .int hi u, .int 1 v] }).objs.size := by simpa using hb
    subst e
    exact I1.fpOk (Nat.le_refl _) (I1.hok.fresh (Nat.le_refl _))
noncomputable def iRng1 (ta : TA) : TI := fun σ H R => ta σ H fun vs H1 => ∃ j : Int, vs = [.int j] ∧ -(2 ^ 62) ≤ j ∧ j < 2 ^ 62 ∧ R (Itr 0 j.toNat) H1
theorem pi_range1 {a : Expr} {ta : TA} {p pos : Pos} (hg : Gl X "range") (hm : X.mg "range" = none) (ha : PA X [a] ta) (hs : starEach [a] X.env = [(false, eval a X.env)] := by rfl) : PI X tg (.Call (.Name "range" p) [a] [] pos) (iRng1 ta) := by
  intro pins s σ H R I h
  refine Call_ (ld_blt I hg hm boot_range (PyProof.Rows.callWith_type1 (thn (ha pos pins s σ H _ I h) fun us s1 hq9 => AP.out hq9 fun vs H1 I1 r1 q1 => ?_) hs rfl))
  obtain ⟨j, e, q1, q2, q⟩ := q1
  subst e
  cases r1 with
  | cons r rr =>
    cases rr
    obtain ⟨t, rfl⟩ := r
    exact call_range_1 (range_it I1 (by omega) (by omega) q1 q2 (by simpa using q))
noncomputable def tFor (wi : TI) (g : TG) (tb : TS) : TS := fun D σ H => wi σ H fun J H1 => ∃ W : Nat → Nat → St → Hp → Prop, (∃ m, W 0 m σ H1) ∧ ∀ i m σ H, W i m σ H →
  (J.stop i H ∧ D.nx σ H) ∨ (J.go i H ∧ ∃ N : St → Hp → Prop, (∀ σ' H', N σ' H' → ∃ m', m' < m ∧ W (i + 1) m' σ' H') ∧ ∀ x H', J.yld i H x H' → g x σ H' fun σ2 H2 => tb { D with nx := N, ct := N, bk := D.nx } σ2 H2)
noncomputable def pinsAt (fp : List Addr) (h : Heap) : List (Addr × Obj) := fp.filterMap fun b => (h.get? b).map fun o => (b, o)
theorem mem_pinsAt {fp : List Addr} {h : Heap} {b : Addr} {o : Obj} (hb : b ∈ fp) (e : h.get? b = some o) : (b, o) ∈ pinsAt fp h := List.mem_filterMap.mpr ⟨b, hb, by rw [e]; rfl⟩
theorem of_pinsAt {fp : List Addr} {h : Heap} {p : Addr × Obj} (hp : p ∈ pinsAt fp h) : p.1 ∈ fp ∧ h.get? p.1 = some p.2 := by
  obtain ⟨b, hb, e⟩ := List.mem_filterMap.mp hp
  cases q : h.get? b with
  | none => rw [q] at e; cases e
  | some o =>
    rw [q] at e
    have e' : (b, o) = p := Option.some.inj e
    subst e'
    exact ⟨hb, q⟩
theorem Inv.pinned {pins : List (Addr × Obj)} {σ : St} {H : Hp} {s : Shared} {fp : List Addr} (I : Inv X pins σ H s) (hf : ∀ b ∈ fp, FpOk X pins H b) (ho : ∀ b ∈ fp, ∃ o, s.heap.get? b = some o ∧ ∀ v, o.data ≠ .cell v) : Inv X (pins ++ pinsAt fp s.heap) σ H s :=
  I.pins_of fun p hp => (List.mem_append.mp hp).elim (fun z => I.pin p (List.mem_append_right _ z)) fun z => by
    obtain ⟨hb, e⟩ := of_pinsAt z
    obtain ⟨f0, f1, f2, _⟩ := hf p.1 hb
    obtain ⟨o, e', d⟩ := ho p.1 hb
    rw [e] at e'; cases e'
    exact ⟨e, f0, f1, f2, d⟩
theorem Inv.unpinned {pins pl : List (Addr × Obj)} {σ : St} {H : Hp} {s : Shared} (I : Inv X (pins ++ pl) σ H s) : Inv X pins σ H s := I.pins_of fun p hp => I.pin p (List.mem_append_right _ (List.mem_append_left _ hp))
theorem ps_for {iter : Expr} {body : List Stmt} {wi : TI} {g : TG} {tb : TS} {pos : Pos} (hp : PassesOwn (model X.prog X.w) X.A X.env X.xe) (hc : X.calm = true) (hi : PI X tg iter wi) (hg : PG X tg g) (hb : PSs X body tb)
    (hs : ∀ x, foldedSetIterable iter X.env x = pure x := by intro _; rfl) : PS X (.For tg iter body [] pos) (tFor wi g tb) := by
  intro pins s σ H D I h
  refine wpAny_For (thn (hi pins s σ H _ I h) fun v s1 h1 => thn h1 fun itv s2 h2 => ?_) hs
  obtain ⟨it, fp, tn, J, H2, e, I2, T, st2, f2, W, ⟨m0, w0⟩, turn⟩ := h2
  subst e
  -- what stays true of the iterator's objects through the loop
  have stat : ∀ {H' : Hp}, (∀ b ∈ fp, H' b = none) → ∀ b ∈ fp, FpOk X pins H' b := fun hn b hb => ⟨hn b hb, (f2 b hb).2⟩
  refine codeAny_forLoop_any (fun n s' => ∃ i σ' H', Inv X pins σ' H' s' ∧ tn i s'.heap ∧ (∀ b ∈ fp, H' b = none) ∧ W i n σ' H') ?_ m0 ⟨0, σ, H2, I2, st2, fun b hb => (f2 b hb).1, w0⟩
  rintro n s3 ⟨i, σ3, H3, I3, st3, fr3, w3⟩
  rcases turn i n σ3 H3 w3 with ⟨stop, qn⟩ | ⟨go, N, hN, step⟩
  · refine wpAny_passesOwn hp (thn (T.done X rfl rfl rfl hc i pins s3 σ3 H3 X.xe I3 (stat fr3) st3 stop) fun r s4 hq8 => ?_)
    obtain ⟨hr, I4⟩ := hq8
    subst hr
    exact wpAny_execs_nil ⟨σ3, H3, I4, qn⟩
  · refine wpAny_passesOwn hp (thn (T.item X rfl rfl rfl hc i pins s3 σ3 H3 X.xe I3 (stat fr3) st3 go) fun r s4 hq8 => ?_)
    obtain ⟨u, hr, h4⟩ := hq8
    subst hr
    refine wpAny_passesOwn hp (thn h4 fun _ s5 hq8 => ?_)
    obtain ⟨x, H5, I5, r5, y5, st5, fr5⟩ := hq8
    have I5' := I5.pinned (stat fr5) (T.obj _ _ st5)
    refine wpAny_passesOwn hp (thn (hg _ s5 σ3 H5 x u _ I5' r5 (step x H5 y5)) fun _ s6 hq9 => GP.out hq9 fun σ6 H6 I6 q6 => ?_)
    refine wpAny_passesOwn hp (thn (hb _ s6 σ6 H6 _ I6 q6) fun f s7 q7 => ?_)
    have again : ∀ {σ7 : St} {H7 : Hp}, Inv X (pins ++ pinsAt fp s5.heap) σ7 H7 s7 → N σ7 H7 → ∃ m, m < n ∧ ∃ i σ' H', Inv X pins σ' H' s7 ∧ tn i s7.heap ∧ (∀ b ∈ fp, H' b = none) ∧ W i m σ' H' := fun {σ7 H7} I7 n7 => by
      obtain ⟨m', hm, w7⟩ := hN σ7 H7 n7
      refine ⟨m', hm, i + 1, σ7, H7, I7.unpinned, T.keep _ _ _ st5 fun b hb o e => (I7.pin (b, o) (List.mem_append_right _ (List.mem_append_right _ (mem_pinsAt hb e)))).1, fun b hb => ?_, w7⟩
      obtain ⟨o, e, d⟩ := T.obj _ _ st5 b hb
      exact (I7.pin (b, o) (List.mem_append_right _ (List.mem_append_right _ (mem_pinsAt hb e)))).2.1
    cases f with
    | next => obtain ⟨σ7, H7, I7, n7⟩ := q7; exact again I7 n7
    | cont => obtain ⟨σ7, H7, I7, n7⟩ := q7; exact again I7 n7
    | brk => obtain ⟨σ7, H7, I7, q7⟩ := q7; exact ⟨σ7, H7, I7.unpinned, q7⟩
    | ret v => obtain ⟨x7, σ7, H7, I7, r7, q7⟩ := q7; exact ⟨x7, σ7, H7, I7.unpinned, r7, q7⟩
end
theorem for_list {K : PySem.W.Frag} {a : Addr} {xs : List V} {g : TG} {tb : TS} {D : Ends} {σ : St} {H : Hp} (Pv : Nat → St → Hp → Prop) (h0 : Pv 0 σ H) (hl : ∀ i σ H, i ≤ xs.length → Pv i σ H → SqL K H a xs)
    (hs : ∀ i x σ H, xs[i]? = some x → Pv i σ H → g x σ H fun σ2 H2 => tb { D with nx := Pv (i + 1), ct := Pv (i + 1), bk := D.nx } σ2 H2) (hd : ∀ σ H, Pv xs.length σ H → D.nx σ H) :
    ∃ W : Nat → Nat → St → Hp → Prop, (∃ m, W 0 m σ H) ∧ ∀ i m σ H, W i m σ H →
      ((Itl K a).stop i H ∧ D.nx σ H) ∨ ((Itl K a).go i H ∧ ∃ N : St → Hp → Prop, (∀ σ' H', N σ' H' → ∃ m', m' < m ∧ W (i + 1) m' σ' H') ∧ ∀ x H', (Itl K a).yld i H x H' → g x σ H' fun σ2 H2 => tb { D with nx := N, ct := N, bk := D.nx } σ2 H2) := by
  refine ⟨fun i m σ H => m = xs.length - i ∧ i ≤ xs.length ∧ Pv i σ H, ⟨xs.length, by simp, Nat.zero_le _, h0⟩, ?_⟩
  rintro i m σ H ⟨rfl, hi, p⟩
  have q := hl i σ H hi p
  by_cases hlt : i < xs.length
  · refine .inr ⟨⟨xs, xs[i], q, by simp [hlt]⟩, Pv (i + 1), fun σ' H' p' => ⟨xs.length - (i + 1), by omega, rfl, hlt, p'⟩, fun x H' y => ?_⟩
    obtain ⟨e, y⟩ := y
    subst e
    exact hs i x σ _ (y xs q) p
  · have e : i = xs.length := by omega
    subst e
    exact .inl ⟨⟨xs, q, Nat.le_refl _⟩, hd σ H p⟩
theorem for_range {lo : Int} {n : Nat} {g : TG} {tb : TS} {D : Ends} {σ : St} {H : Hp} (Pv : Nat → St → Hp → Prop) (h0 : Pv 0 σ H)
    (hs : ∀ i σ H, i < n → Pv i σ H → g (.int (lo + i)) σ H fun σ2 H2 => tb { D with nx := Pv (i + 1), ct := Pv (i + 1), bk := D.nx } σ2 H2) (hd : ∀ σ H, Pv n σ H → D.nx σ H) :
    ∃ W : Nat → Nat → St → Hp → Prop, (∃ m, W 0 m σ H) ∧ ∀ i m σ H, W i m σ H →
      ((Itr lo n).stop i H ∧ D.nx σ H) ∨ ((Itr lo n).go i H ∧ ∃ N : St → Hp → Prop, (∀ σ' H', N σ' H' → ∃ m', m' < m ∧ W (i + 1) m' σ' H') ∧ ∀ x H', (Itr lo n).yld i H x H' → g x σ H' fun σ2 H2 => tb { D with nx := N, ct := N, bk := D.nx } σ2 H2) := by
  refine ⟨fun i m σ H => m = n - i ∧ i ≤ n ∧ Pv i σ H, ⟨n, by simp, Nat.zero_le _, h0⟩, ?_⟩
  rintro i m σ H ⟨rfl, hi, p⟩
  by_cases hlt : i < n
  · refine .inr ⟨hlt, Pv (i + 1), fun σ' H' p' => ⟨n - (i + 1), by omega, rfl, hlt, p'⟩, fun x H' y => ?_⟩
    obtain ⟨e, y⟩ := y
    subst e y
    exact hs i σ _ hlt p
  · have e : i = n := by omega
    subst e
    exact .inl ⟨Nat.le_refl _, hd σ H p⟩
theorem while_by {c : TT} {tb : TS} {D : Ends} {σ : St} {H : Hp} (Pv : St → Hp → Prop) (μ : St → Hp → Nat) (h0 : Pv σ H)
    (hs : ∀ σ H, Pv σ H → c σ H fun b H1 => if b = true then tb { D with nx := fun σ' H' => Pv σ' H' ∧ μ σ' H' < μ σ H, ct := fun σ' H' => Pv σ' H' ∧ μ σ' H' < μ σ H, bk := D.nx } σ H1 else D.nx σ H1)
    (mono : ∀ σ H Q Q', (∀ b H1, Q b H1 → Q' b H1) → c σ H Q → c σ H Q') : tWhile c tb D σ H := by
  refine ⟨fun m σ H => m = μ σ H ∧ Pv σ H, ⟨_, rfl, h0⟩, ?_⟩
  rintro m σ H ⟨rfl, p⟩
  refine mono σ H _ _ (fun b H1 q => ?_) (hs σ H p)
  cases b with
  | true => exact ⟨_, fun σ' H' ⟨p', l⟩ => ⟨_, l, rfl, p'⟩, q⟩
  | false => exact q
end L2
namespace L2
open PySem PySem.Spec PyProof.Rows
noncomputable abbrev R2 := V → V → Hp → VK → Prop
noncomputable def OpR (X : Cx) (f : Value → Value → Sem Value) (r : R2) : Prop :=
  ∀ (pins : List (Addr × Obj)) (s : Shared) (σ : St) (H : Hp) (x y : V) (v u : Value) (Q : VK), Inv X pins σ H s → RelV x v → RelV y u → r x y H Q →
    wpAny (model X.prog X.w) X.A (f v u) (EP X pins σ Q) X.xe s
noncomputable def UnR (X : Cx) (f : Value → Sem Value) (r : V → Hp → VK → Prop) : Prop :=
  ∀ (pins : List (Addr × Obj)) (s : Shared) (σ : St) (H : Hp) (x : V) (v : Value) (Q : VK), Inv X pins σ H s → RelV x v → r x H Q →
    wpAny (model X.prog X.w) X.A (f v) (EP X pins σ Q) X.xe s
noncomputable def CallR (X : Cx) (f : Value) (r : List V → Hp → VK → Prop) : Prop :=
  ∀ (pins : List (Addr × Obj)) (s : Shared) (σ : St) (H : Hp) (xs : List V) (us : List Value) (Q : VK), Inv X pins σ H s → Vals xs us → r xs H Q →
    wpAny (model X.prog X.w) X.A (call f us) (EP X pins σ Q) X.xe s
noncomputable def TruR (X : Cx) (r : V → Hp → (Bool → Hp → Prop) → Prop) : Prop :=
  ∀ (pins : List (Addr × Obj)) (s : Shared) (σ : St) (H : Hp) (x : V) (v : Value) (Q : Bool → Hp → Prop), Inv X pins σ H s → RelV x v → r x H Q →
    wpAny (model X.prog X.w) X.A (truthy v) (TP X pins σ Q) X.xe s
noncomputable def tOp (r : R2) (ta tb : TE) : TE := fun σ H Q => ta σ H fun x H1 => tb σ H1 fun y H2 => r x y H2 Q
noncomputable def tUn (r : V → Hp → VK → Prop) (ta : TE) : TE := fun σ H Q => ta σ H fun x H1 => r x H1 Q
noncomputable def rI (C : Int → Int → Prop) (g : Int → Int → V) : R2 := fun x y H Q => ∃ i j, x = .int i ∧ y = .int j ∧ C i j ∧ Q (g i j) H
noncomputable def rI0 (g : Int → Int → V) : R2 := fun x y H Q => ∃ i j, x = .int i ∧ y = .int j ∧ Q (g i j) H
noncomputable def rU (g : Int → V) : V → Hp → VK → Prop := fun x H Q => ∃ i, x = .int i ∧ Q (g i) H
section
variable {X : Cx} {a b c : Expr} {ta tb tc : TE} {pos : Pos}
theorem binT (ha : PE X a ta) (hb : PE X b tb) {pins : List (Addr × Obj)} {s : Shared} {σ : St} {H : Hp} {R : V → V → Hp → Prop} (I : Inv X pins σ H s)
    (h : ta σ H fun x H1 => tb σ H1 fun y H2 => R x y H2) {Q : Value → Shared → Prop} {f : Value → Value → Sem Value}
    (hf : ∀ v u s2 x y H2, Inv X pins σ H2 s2 → RelV x v → RelV y u → R x y H2 → wpAny (model X.prog X.w) X.A (f v u) Q X.xe s2) :
    wpAny (model X.prog X.w) X.A (eval a X.env) (fun v s₁ => wpAny (model X.prog X.w) X.A (eval b X.env) (fun u s₂ => wpAny (model X.prog X.w) X.A (f v u) Q X.xe s₂) X.xe s₁) X.xe s := by
  refine thn (ha pins s σ H _ I h) fun v s1 hq9 => EP.out hq9 fun x H1 I1 r1 q1 => ?_
  refine thn (hb pins s1 σ H1 _ I1 q1) fun u s2 hq9 => EP.out hq9 fun y H2 I2 r2 q2 => ?_
  exact hf v u s2 x y H2 I2 r1 r2 q2
theorem pe_op {op : Operator} {r : R2} (ho : OpR X (binaryOp op) r) (ha : PE X a ta) (hb : PE X b tb) : PE X (.BinOp a op b pos) (tOp r ta tb) := by
  intro pins s σ H Q I h
  exact wpAny_BinOp (binT ha hb I h fun v u s2 x y H2 I2 rx ry q => ho pins s2 σ H2 x y v u Q I2 rx ry q)
theorem pe_un {op : UnaryOp} {r : V → Hp → VK → Prop} (ho : UnR X (unaryOp op) r) (ha : PE X a ta) : PE X (.UnaryOp op a pos) (tUn r ta) := by
  intro pins s σ H Q I h
  exact UnaryOp_ (thn (ha pins s σ H _ I h) fun v s1 hq9 => EP.out hq9 fun x H1 I1 r1 q1 => ho pins s1 σ H1 x v Q I1 r1 q1)
theorem opI {f : Value → Value → Sem Value} {C : Int → Int → Prop} {g : Int → Int → Int}
    (rule : ∀ (i j : Int) (t u : Tok) (s : Shared) (Q : Value → Shared → Prop) (E : Value → Shared → Prop), C i j → Q (.int (g i j) s.toks) { s with toks := s.toks + 1 } → wpAny (model X.prog X.w) X.A (f (.int i t) (.int j u)) Q E s) :
    OpR X f (rI C fun i j => .int (g i j)) := by
  intro pins s σ H x y v u Q I rx ry h
  obtain ⟨i, j, rfl, rfl, hc, q⟩ := h
  obtain ⟨t, rfl⟩ := rx
  obtain ⟨t', rfl⟩ := ry
  exact rule i j t t' s _ _ hc ⟨.int (g i j), H, I.tok _, ⟨_, rfl⟩, q⟩
theorem opI0 {f : Value → Value → Sem Value} {g : Int → Int → Int}
    (rule : ∀ (i j : Int) (t u : Tok) (s : Shared) (Q : Value → Shared → Prop) (E : Value → Shared → Prop), Q (.int (g i j) s.toks) { s with toks := s.toks + 1 } → wpAny (model X.prog X.w) X.A (f (.int i t) (.int j u)) Q E s) :
    OpR X f (rI0 fun i j => .int (g i j)) := by
  intro pins s σ H x y v u Q I rx ry h
  obtain ⟨i, j, rfl, rfl, q⟩ := h
  obtain ⟨t, rfl⟩ := rx
  obtain ⟨t', rfl⟩ := ry
  exact rule i j t t' s _ _ ⟨.int (g i j), H, I.tok _, ⟨_, rfl⟩, q⟩
theorem opB0 {f : Value → Value → Sem Value} {g : Int → Int → Bool}
    (rule : ∀ (i j : Int) (t u : Tok) (s : Shared) (Q : Value → Shared → Prop) (E : Value → Shared → Prop), Q (.bool (g i j)) s → wpAny (model X.prog X.w) X.A (f (.int i t) (.int j u)) Q E s) :
    OpR X f (rI0 fun i j => .bl (g i j)) := by
  intro pins s σ H x y v u Q I rx ry h
  obtain ⟨i, j, rfl, rfl, q⟩ := h
  obtain ⟨t, rfl⟩ := rx
  obtain ⟨t', rfl⟩ := ry
  exact rule i j t t' s _ _ ⟨.bl (g i j), H, I, rfl, q⟩
noncomputable def CDiv (i j : Int) : Prop := 0 < j ∧ j < 1073741824
noncomputable def CPow (i j : Int) : Prop := 0 ≤ j ∧ j ≤ 1000000 ∧ i.natAbs < 2 ^ 64
noncomputable def CMul (i j : Int) : Prop := (-(2 ^ 64) < i ∧ i < 2 ^ 64) ∨ (-(2 ^ 64) < j ∧ j < 2 ^ 64)
theorem CMul.ok {i j : Int} (h : CMul i j) : IntMulOk i j := by
  rcases h with ⟨h1, h2⟩ | ⟨h1, h2⟩
  · exact .of_left (intBits_le_64 h1 h2)
  · exact .of_right (intBits_le_64 h1 h2)
theorem op_add : OpR X (binaryOp .Add) (rI0 fun i j => .int (i + j)) := opI0 fun _ _ _ _ _ _ _ q => add_int q
theorem op_sub : OpR X (binaryOp .Sub) (rI0 fun i j => .int (i - j)) := opI0 fun _ _ _ _ _ _ _ q => sub_int q
theorem op_mul : OpR X (binaryOp .Mult) (rI CMul fun i j => .int (i * j)) := opI fun _ _ _ _ _ _ _ hc q => mul_int q hc.ok
theorem op_fdiv : OpR X (binaryOp .FloorDiv) (rI CDiv fun i j => .int (i / j)) := opI fun i j _ _ _ _ _ hc q => by
  have h1 : (0 : Int) < j := hc.1
  have h2 : j < 1073741824 := hc.2
  exact floordiv_int (by omega) (by rw [Int.fdiv_eq_ediv_of_nonneg i (by omega)]; exact q) (.inl (PyProof.noPylong_small (by omega)))
theorem op_mod : OpR X (binaryOp .Mod) (rI (fun _ j => 0 < j) fun i j => .int (i % j)) := opI fun i j _ _ _ _ _ hc q => by
  have h1 : (0 : Int) < j := hc
  exact mod_int' (by omega) (by rw [Int.fmod_eq_emod_of_nonneg i (by omega)]; exact q)
theorem op_pow : OpR X (binaryOp .Pow) (rI CPow fun i j => .int (i ^ j.toNat)) := opI fun _ _ _ _ _ _ _ hc q => pow_int_small hc.1 hc.2.1 hc.2.2 q
theorem unI {f : Value → Sem Value} {g : Int → Int}
    (rule : ∀ (i : Int) (t : Tok) (s : Shared) (Q : Value → Shared → Prop) (E : Value → Shared → Prop), Q (.int (g i) s.toks) { s with toks := s.toks + 1 } → wpAny (model X.prog X.w) X.A (f (.int i t)) Q E s) :
    UnR X f (rU fun i => .int (g i)) := by
  intro pins s σ H x v Q I rx h
  obtain ⟨i, rfl, q⟩ := h
  obtain ⟨t, rfl⟩ := rx
  exact rule i t s _ _ ⟨.int (g i), H, I.tok _, ⟨_, rfl⟩, q⟩
theorem un_neg : UnR X (unaryOp .USub) (rU fun i => .int (-i)) := unI fun _ _ _ _ _ q => neg_int q
end
noncomputable def scal : V → V → Bool
  | .non, .non => true | .non, .int _ => true | .int _, .non => true | .non, .bl _ => true | .bl _, .non => true | .non, .str _ => true | .str _, .non => true
  | .int _, .int _ => true | .bl _, .bl _ => true | .str _, .str _ => true | .byt _, .byt _ => true
  | .int _, .str _ => true | .str _, .int _ => true | .bl _, .str _ => true | .str _, .bl _ => true
  | _, _ => false
noncomputable def rEq : R2 := fun x y H Q => scal x y = true ∧ Q (.bl (decide (x = y))) H
noncomputable def rNe : R2 := fun x y H Q => scal x y = true ∧ Q (.bl (!decide (x = y))) H
theorem dec_int {i j : Int} : decide (V.int i = V.int j) = (i == j) := by
  rw [Bool.eq_iff_iff]
  simp
theorem dec_bl {i j : Bool} : decide (V.bl i = V.bl j) = (i == j) := by
  rw [Bool.eq_iff_iff]
  simp
theorem dec_str {i j : Str} : decide (V.str i = V.str j) = (i == j) := by
  rw [Bool.eq_iff_iff]
  simp
theorem dec_byt {i j : Array UInt8} : decide (V.byt i = V.byt j) = (i.toList == j.toList) := by
  rw [Bool.eq_iff_iff]
  cases i
  cases j
  simp
section
variable {X : Cx} {a b c : Expr} {ta tb tc : TE} {pos : Pos}
theorem fin_bl {pins : List (Addr × Obj)} {σ : St} {H : Hp} {s : Shared} {Q : VK} {k k' : Bool} (I : Inv X pins σ H s) (q : Q (.bl k) H) (e : k = k') : EP X pins σ Q (.bool k') s := by
  subst e
  exact ⟨.bl k, H, I, rfl, q⟩
theorem op_eq : OpR X (compareOp .Eq) rEq := by
  intro pins s σ H x y v u Q I rx ry h
  obtain ⟨hs, q⟩ := h
  cases x with
  | non =>
    cases rx
    cases y with
    | non => cases ry; exact PySem.EqNone.eq_none_none (fin_bl I q (by simp))
    | bl j => cases ry; exact PySem.EqNone.eq_none_bool (fin_bl I q (by simp))
    | int j => obtain ⟨t', rfl⟩ := ry; exact PySem.EqNone.eq_none_int (fin_bl I q (by simp))
    | str j => obtain ⟨t', rfl⟩ := ry; exact PySem.EqNone.eq_none_str (fin_bl I q (by simp))
    | _ => exact absurd (show false = true from hs) Bool.false_ne_true
  | bl i =>
    cases rx
    cases y with
    | non => cases ry; exact PySem.EqNone.eq_bool_none (fin_bl I q (by simp))
    | bl j => cases ry; exact eq_bool (fin_bl I q dec_bl)
    | str j => obtain ⟨t', rfl⟩ := ry; exact PySem.EqMixed.eq_bool_str (fin_bl I q (by simp))
    | _ => exact absurd (show false = true from hs) Bool.false_ne_true
  | int i =>
    obtain ⟨t, rfl⟩ := rx
    cases y with
    | non => cases ry; exact PySem.EqNone.eq_int_none (fin_bl I q (by simp))
    | int j => obtain ⟨t', rfl⟩ := ry; exact eq_int (fin_bl I q dec_int)
    | str j => obtain ⟨t', rfl⟩ := ry; exact PySem.EqMixed.eq_int_str (fin_bl I q (by simp))
    | _ => exact absurd (show false = true from hs) Bool.false_ne_true
  | str i =>
    obtain ⟨t, rfl⟩ := rx
    cases y with
    | non => cases ry; exact PySem.EqNone.eq_str_none (fin_bl I q (by simp))
    | bl j => cases ry; exact PySem.EqMixed.eq_str_bool (fin_bl I q (by simp))
    | int j => obtain ⟨t', rfl⟩ := ry; exact PySem.EqMixed.eq_str_int (fin_bl I q (by simp))
    | str j => obtain ⟨t', rfl⟩ := ry; exact eq_str (fin_bl I q dec_str)
    | _ => exact absurd (show false = true from hs) Bool.false_ne_true
  | byt i =>
    obtain ⟨t, rfl⟩ := rx
    cases y with
    | byt j => obtain ⟨t', rfl⟩ := ry; exact PySem.W.eq_bytes (fin_bl I q dec_byt)
    | _ => exact absurd (show false = true from hs) Bool.false_ne_true
  | _ => cases y <;> exact absurd (show false = true from hs) Bool.false_ne_true
theorem op_ne : OpR X (compareOp .NotEq) rNe := by
  intro pins s σ H x y v u Q I rx ry h
  obtain ⟨hs, q⟩ := h
  cases x with
  | non =>
    cases rx
    cases y with
    | non => cases ry; exact PySem.EqNone.ne_none_none (fin_bl I q (by simp))
    | bl j => cases ry; exact PySem.EqNone.ne_none_bool (fin_bl I q (by simp))
    | int j => obtain ⟨t', rfl⟩ := ry; exact PySem.EqNone.ne_none_int (fin_bl I q (by simp))
    | str j => obtain ⟨t', rfl⟩ := ry; exact PySem.EqNone.ne_none_str (fin_bl I q (by simp))
    | _ => exact absurd (show false = true from hs) Bool.false_ne_true
  | bl i =>
    cases rx
    cases y with
    | non => cases ry; exact PySem.EqNone.ne_bool_none (fin_bl I q (by simp))
    | bl j => cases ry; exact ne_bool (fin_bl I q (congrArg not dec_bl))
    | str j => obtain ⟨t', rfl⟩ := ry; exact PySem.EqMixed.ne_bool_str (fin_bl I q (by simp))
    | _ => exact absurd (show false = true from hs) Bool.false_ne_true
  | int i =>
    obtain ⟨t, rfl⟩ := rx
    cases y with
    | non => cases ry; exact PySem.EqNone.ne_int_none (fin_bl I q (by simp))
    | int j => obtain ⟨t', rfl⟩ := ry; exact ne_int (fin_bl I q (congrArg not dec_int))
    | str j => obtain ⟨t', rfl⟩ := ry; exact PySem.EqMixed.ne_int_str (fin_bl I q (by simp))
    | _ => exact absurd (show false = true from hs) Bool.false_ne_true
  | str i =>
    obtain ⟨t, rfl⟩ := rx
    cases y with
    | non => cases ry; exact PySem.EqNone.ne_str_none (fin_bl I q (by simp))
    | bl j => cases ry; exact PySem.EqMixed.ne_str_bool (fin_bl I q (by simp))
    | int j => obtain ⟨t', rfl⟩ := ry; exact PySem.EqMixed.ne_str_int (fin_bl I q (by simp))
    | str j => obtain ⟨t', rfl⟩ := ry; exact ne_str (fin_bl I q (congrArg not dec_str))
    | _ => exact absurd (show false = true from hs) Bool.false_ne_true
  | byt i =>
    obtain ⟨t, rfl⟩ := rx
    cases y with
    | byt j => obtain ⟨t', rfl⟩ := ry; exact PySem.W.ne_bytes (fin_bl I q (congrArg not dec_byt))
    | _ => exact absurd (show false = true from hs) Bool.false_ne_true
  | _ => cases y <;> exact absurd (show false = true from hs) Bool.false_ne_true
theorem op_lt : OpR X (compareOp .Lt) (rI0 fun i j => .bl (decide (i < j))) := opB0 fun _ _ _ _ _ _ _ q => lt_int q
theorem op_gt : OpR X (compareOp .Gt) (rI0 fun i j => .bl (decide (j < i))) := opB0 fun _ _ _ _ _ _ _ q => gt_int q
theorem nomark (b : Expr) {op : CmpOp} (h : op ≠ .In := by decide) (h2 : op ≠ .NotIn := by decide) : behindInMarks op b = false := by
  have e1 : (op == CmpOp.In) = false := by cases op <;> first | rfl | exact absurd rfl h
  have e2 : (op == CmpOp.NotIn) = false := by cases op <;> first | rfl | exact absurd rfl h2
  cases b <;> simp [behindInMarks, e1, e2]
theorem pe_cmpR {op : CmpOp} {r : R2} (ho : OpR X (compareOp op) r) (ha : PE X a ta) (hb : PE X b tb) (hm : behindInMarks op b = false) : PE X (.Compare a [op] [b] pos) (tOp r ta tb) := by
  intro pins s σ H Q I h
  exact wpAny_Compare1 (binT ha hb I h fun v u s2 x y H2 I2 rx ry q => ho pins s2 σ H2 x y v u Q I2 rx ry q) hm
noncomputable def tTest (t : TE) : TT := fun σ H Q => t σ H fun x H' => ∃ k, x = .bl k ∧ Q k H'
theorem pt_cmpR {op : CmpOp} {r : R2} (ho : OpR X (compareOp op) r) (ha : PE X a ta) (hb : PE X b tb) (hm : behindInMarks op b = false) : PT X (.Compare a [op] [b] pos) (tTest (tOp r ta tb)) := by
  intro pins s σ H Q I h
  refine wpAny_isTrue_Compare1 (thn (ha pins s σ H _ I h) fun v s1 hq9 => EP.out hq9 fun x H1 I1 r1 q1 => thn (hb pins s1 σ H1 _ I1 q1) fun u s2 hq9 => EP.out hq9 fun y H2 I2 r2 q2 =>
    thn (ho pins s2 σ H2 x y v u _ I2 r1 r2 q2) fun c s3 hq8 => ?_) hm
  obtain ⟨z, H3, I3, r3, k, e, q3⟩ := hq8
  subst e
  cases r3
  exact wpAny_truthy_bool ⟨H3, I3, q3⟩
noncomputable def TruV (K : PySem.W.Frag) (x : V) (H : Hp) (k : Bool) : Prop :=
  match x with
  | .non => k = false
  | .bl b => k = b
  | .int i => k = (i != 0)
  | .str y => y.length ≤ sizeLine ∧ k = ((y.length : Int) != 0)
  | .byt y => y.size ≤ sizeLine ∧ k = ((y.size : Int) != 0)
  | .ref p => (∃ xs, SqL K H p xs ∧ k = !xs.isEmpty) ∨ (∃ xs, SqT K H p xs ∧ k = !xs.isEmpty) ∨ ∃ kvs, H p = some (.dK kvs) ∧ k = !kvs.isEmpty
  | _ => False
theorem isEmpty_kv {κ : Type} {kvs : List (κ × V)} {vs : List (κ × Value)} (r : KV kvs vs) : (!vs.isEmpty) = !kvs.isEmpty := by
  cases r <;> rfl
theorem isEmpty_of {xs : List V} {its : List Value} (r : Vals xs its) : (!its.toArray.isEmpty) = !xs.isEmpty := by
  cases r <;> simp
theorem line63 : (sizeLine : Nat) < 2 ^ 63 := by rw [sizeLine_eq]; decide
theorem tru_ok : TruR X (fun x H Q => ∃ k, TruV X.K x H k ∧ Q k H) := by
  intro pins s σ H x v Q I rx h
  obtain ⟨k, e, q⟩ := h
  have hl := line63
  have hs : sizeLine = 16777216 := sizeLine_eq
  cases x with
  | non =>
    cases rx
    have e' : k = false := e
    subst e'
    exact truthy_none ⟨H, I, q⟩
  | bl b =>
    cases rx
    have e' : k = b := e
    subst e'
    exact wpAny_truthy_bool ⟨H, I, q⟩
  | int i =>
    obtain ⟨t, rfl⟩ := rx
    have e' : k = (i != 0) := e
    subst e'
    exact PySem.P.truthy_int ⟨H, I, q⟩
  | str y =>
    obtain ⟨t, rfl⟩ := rx
    obtain ⟨hy, e'⟩ : y.length ≤ sizeLine ∧ k = ((y.length : Int) != 0) := e
    subst e'
    exact PySem.P.truthy_str (by omega) ⟨H, I.tok _, q⟩
  | byt y =>
    obtain ⟨t, rfl⟩ := rx
    obtain ⟨hy, e'⟩ : y.size ≤ sizeLine ∧ k = ((y.size : Int) != 0) := e
    subst e'
    exact PySem.W.truthy_bytes (by omega) ⟨H, I.tok _, q⟩
  | ref p =>
    cases rx
    have e' : (∃ xs, SqL X.K H p xs ∧ k = !xs.isEmpty) ∨ (∃ xs, SqT X.K H p xs ∧ k = !xs.isEmpty) ∨ ∃ kvs, H p = some (.dK kvs) ∧ k = !kvs.isEmpty := e
    rcases e' with ⟨xs, hx, e'⟩ | ⟨xs, hx, e'⟩ | ⟨kvs, hx, e'⟩
    · subst e'
      obtain ⟨its, r, pl, hz⟩ := I.list hx
      have hlen := r.length
      exact wpAny_truthy_list pl.isList (by simp only [List.size_toArray]; omega) ⟨H, I.tok _, by rw [isEmpty_of r]; exact q⟩
    · subst e'
      obtain ⟨its, r, pl, hz⟩ := I.tuple hx
      have hlen := r.length
      exact truthy_tuple pl (by simp only [List.size_toArray]; omega) ⟨H, I.tok _, by rw [isEmpty_of r]; exact q⟩
    · subst e'
      obtain ⟨hz, hS, vs, r, m⟩ : kvs.length ≤ sizeLine ∧ (p == sysModules) = false ∧ ∃ vs, KV kvs vs ∧ s.heap.DictOf (mixKind X.prog X.w) p vs := I.hok p _ hx
      have hlen : kvs.length = vs.length := Paired.length r
      exact wpAny_truthy_dict hS m (by omega) ⟨H, I.tok _, by rw [isEmpty_kv r]; exact q⟩
  | _ => exact (show False from e).elim
theorem pt_truth (ha : PE X a ta) (he : ∀ whole, isTrue a X.env whole = (do let v ← whole; standAt a.pos; holding [v] (truthy v))) :
    PT X a (fun σ H Q => ta σ H fun x H' => ∃ k, TruV X.K x H' k ∧ Q k H') := by
  intro pins s σ H Q I h
  exact isTrue_plain (thn (ha pins s σ H _ I h) fun v s1 hq9 => EP.out hq9 fun x H1 I1 r1 q1 => tru_ok pins s1 σ H1 x v Q I1 r1 q1) (he _)
theorem op_add_str : OpR X (binaryOp .Add) (fun x y H Q => ∃ i j, x = .str i ∧ y = .str j ∧ i.length + j.length ≤ sizeLine ∧ Q (.str (i ++ j)) H) := by
  intro pins s σ H x y v u Q I rx ry h
  obtain ⟨i, j, rfl, rfl, hz, q⟩ := h
  obtain ⟨t, rfl⟩ := rx
  obtain ⟨t', rfl⟩ := ry
  exact add_str (fun t' tk => ⟨.str (i ++ j), H, I.tok _, ⟨_, rfl⟩, q⟩) hz
theorem vals1 {x : V} {us : List Value} (r : Vals [x] us) : ∃ u, us = [u] ∧ RelV x u := by
  cases r with
  | cons r1 r2 => cases r2; exact ⟨_, rfl, r1⟩
theorem vals2 {x y : V} {us : List Value} (r : Vals [x, y] us) : ∃ u w', us = [u, w'] ∧ RelV x u ∧ RelV y w' := by
  cases r with
  | cons r1 r2 =>
    cases r2 with
    | cons r3 r4 => cases r4; exact ⟨_, _, rfl, r1, r3⟩
theorem call_abs : CallR X (.builtin "abs") (fun xs H Q => ∃ i, xs = [.int i] ∧ Q (.int (if i < 0 then -i else i)) H) := by
  intro pins s σ H xs us Q I r h
  obtain ⟨i, rfl, q⟩ := h
  obtain ⟨u, rfl, t, rfl⟩ := vals1 r
  exact call_abs_int fun u tk => ⟨.int (if i < 0 then -i else i), H, I.tok _, ⟨_, rfl⟩, q⟩
theorem call_max2 (hc : X.calm = true) : CallR X (.builtin "max") (fun xs H Q => ∃ i j, xs = [.int i, .int j] ∧ Q (.int (if j > i then j else i)) H) := by
  intro pins s σ H xs us Q I r h
  obtain ⟨i, j, rfl, q⟩ := h
  obtain ⟨u, w', rfl, ⟨t, rfl⟩, ⟨t', rfl⟩⟩ := vals2 r
  refine max_two_ints (I.ok.hd hc) fun h' tk k => ⟨_, H, I.kept k, ?_, q⟩
  by_cases hj : j > i
  · rw [if_pos hj, if_pos hj]; exact ⟨_, rfl⟩
  · rw [if_neg hj, if_neg hj]; exact ⟨_, rfl⟩
theorem call_min2 (hc : X.calm = true) : CallR X (.builtin "min") (fun xs H Q => ∃ i j, xs = [.int i, .int j] ∧ Q (.int (if j < i then j else i)) H) := by
  intro pins s σ H xs us Q I r h
  obtain ⟨i, j, rfl, q⟩ := h
  obtain ⟨u, w', rfl, ⟨t, rfl⟩, ⟨t', rfl⟩⟩ := vals2 r
  refine min_two_ints (I.ok.hd hc) fun h' tk k => ⟨_, H, I.kept k, ?_, q⟩
  by_cases hj : j < i
  · rw [if_pos hj, if_pos hj]; exact ⟨_, rfl⟩
  · rw [if_neg hj, if_neg hj]; exact ⟨_, rfl⟩
end
end L2
namespace L2
open PySem PySem.Spec PyProof.Rows
structure ObjM (h : Heap) (x dx C : Addr) (mA : Str → Option Value) : Prop where
  obj : h.get? x = some (PySem.W.instObj C dx)
  ns : h.Ns1 dx mA
  ne : dx ≠ x
theorem lookIn_ns {h : Heap} {dx : Addr} {mA : Str → Option Value} (n : h.Ns1 dx mA) : ∃ od, h.get? dx = some od ∧ ∀ name, PySem.W.lookIn name od = some (mA name) := by
  obtain ⟨o, es, ep, ho, hd, hk, _, hm⟩ := n
  refine ⟨o, ho, fun name => ?_⟩
  have e := hm name
  unfold nsFind findBy at e
  rw [← Array.find?_toList] at e
  unfold PySem.W.lookIn
  rw [hd]
  dsimp only
  split
  · rename_i y q
    rw [q] at e
    exact congrArg some e
  · rename_i q
    rw [q] at e
    have a : es.toList.any (·.refKey) = false := by
      rw [List.any_eq_false]
      intro y hy
      obtain ⟨z, t, hkey⟩ := hk y (Array.mem_toList_iff.mp hy)
      simp [DictEntry.refKey, hkey]
    have a' : ¬ es.toList.any (·.refKey) = true := by rw [a]; exact Bool.false_ne_true
    rw [if_neg a']
    exact congrArg some e
theorem ObjM.look {h : Heap} {x dx C : Addr} {mA : Str → Option Value} (I : ObjM h x dx C mA) : ∃ od, PySem.W.InstAt h x (PySem.W.instObj C dx) C (some od) ∧ ∀ name, PySem.W.lookIn name od = some (mA name) :=
  let ⟨od, ho, hl⟩ := lookIn_ns I.ns
  ⟨od, ⟨I.obj, rfl, rfl, ho⟩, hl⟩
section
variable {prog : Program} {w : World} {A : Around} {E : Value → Shared → Prop} {s : Shared} {K : PySem.W.Frag} {x dx C f : Addr} {mA : Str → Option Value} {name : Str} {v : Value}
theorem get_map {expr : Bool} {Q : Value → Shared → Prop} (X : K.In s.heap) (I : ObjM s.heap x dx C mA) (hg : PySem.W.plainGet K C name = true) (hh : PySem.W.hasDictIn K C = true)
    (ha : PySem.W.findIn K (.ref C) name = some none) (hv : mA name = some v) (hv' : PySem.W.handedIn v = true) (h : Q v { s with toks := s.toks + 1 }) :
    wpAny (model prog w) A (getAttr (.ref x) name expr) Q E s := by
  obtain ⟨od, J, hl⟩ := I.look
  exact PySem.W.get_value X J (PySem.W.plainGet_of hg).1 (PySem.W.findObj_own hh ha rfl (by rw [hl, hv])) hv' h
theorem set_map {ns : List Str} {Q : Unit → Shared → Prop} (X : K.In s.heap) (I : ObjM s.heap x dx C mA)
    (hs : PySem.W.findIn K (.ref C) "__setattr__" = some (some (.builtin "object.__setattr__"))) (hp : PySem.W.plainOver K C = true) (ht : PySem.W.takerIn K C name = some none) (hh : PySem.W.hasDictIn K C = true)
    (hw : PySem.Within mA ns) (hsz : ns.length ≤ sizeLine)
    (h : ∀ h', ObjM h' x dx C (fun y => if y = name then some v else mA y) → Heap.SameBut dx s.heap h' → Q () { s with heap := h', toks := s.toks + 2 }) :
    wpAny (model prog w) A (setAttr (.ref x) name v) Q E s := by
  obtain ⟨od, J, hl⟩ := I.look
  refine PySem.W.set_plain X J hs (PySem.W.osa_open (s := { s with toks := s.toks + 1 }) (r := none) X J hp ht fun b => ?_)
  obtain ⟨cd, hc, hd'⟩ := PySem.W.any_some hh
  have hx : s.heap.get? x = some ⟨.ref C, some dx, .plain, #[]⟩ := I.obj
  refine wpAny_bind (wpAny_pure (wpAny_bind (wpAny_bind (wpAny_loadPart hx (wpAny_bind (PySem.W.Looks.here (s := { s with toks := s.toks + 1 }) (PySem.W.looks_clsIn X hc) ?_))))))
  rw [hd']
  refine wpAny_pure (a := some dx) (wpAny_bind (wpAny_pure (wpAny_bind ?_)))
  refine wpAny_nsSet1 (s := { s with toks := s.toks + 1 }) I.ns fun h' hn2 hs2 => ?_
  obtain ⟨oD, esD, epD, hoD, hdD, hcD⟩ := hn2.count (PySem.Within.cons name v hw)
  refine wpAny_bind (wpAny_lookBehind hoD (by rw [hdD]; exact pastItsLine_dict (Nat.le_trans hcD (by rw [List.length_cons]; omega))) ?_)
  exact wpAny_pure (h _ ⟨(hs2.2 _ (Ne.symm I.ne)).trans I.obj, hn2, I.ne⟩ hs2)
theorem make_map {R : Result → Shared → Prop} {vs : List Value} {kw : List (Str × Value)} (X : K.In s.heap) (hm : PySem.W.makesIn K C = true)
    (hi : PySem.W.findIn K (.ref C) "__init__" = some (some (.ref f))) (hf : PySem.W.typeIn K (.ref f) = some (.type "function"))
    (h : codeAny (model prog w) (A.under (.builtin "type.__call__" ⟨.ref C :: vs, kw⟩)) (.call (.ref f) ⟨.ref (s.heap.objs.size + 1) :: vs, kw⟩) (PySem.W.InitBack (s.heap.objs.size + 1) R)
      { s with heap := (s.heap.push PySem.W.emptyDict).push (PySem.W.instObj C s.heap.objs.size) }) :
    codeAny (model prog w) A (.call (.ref C) ⟨vs, kw⟩) R s := by
  obtain ⟨hh, g, d, t, os⟩ := s
  exact PySem.W.make_core (PySem.W.makes_of X hm) (PySem.W.looks_findIn X hi) (fun self => PySem.W.bind_fn X self hf) (.inl rfl) h
end
noncomputable def putF (f : Str) (v : V) : List (Str × V) → List (Str × V)
  | [] => [(f, v)]
  | (g, x) :: r => if g = f then (g, v) :: r else (g, x) :: putF f v r
theorem lookup_putF (f g : Str) (v : V) : ∀ fs : List (Str × V), (putF f v fs).lookup g = if g = f then some v else fs.lookup g
  | [] => by
    show List.lookup g [(f, v)] = _
    by_cases h : g = f
    · have hb : (g == f) = true := beq_iff_eq.mpr h
      simp only [List.lookup, hb, if_pos h]
    · have hb : (g == f) = false := beq_eq_false_iff_ne.mpr h
      simp only [List.lookup, hb, if_neg h]
  | (k, x) :: r => by
    have ih := lookup_putF f g v r
    rw [show putF f v ((k, x) :: r) = (if k = f then (k, v) :: r else (k, x) :: putF f v r) from rfl]
    by_cases hk : k = f
    · rw [if_pos hk]
      by_cases h : g = k
      · have hb : (g == k) = true := beq_iff_eq.mpr h
        simp only [List.lookup, hb, if_pos (h.trans hk)]
      · have hb : (g == k) = false := beq_eq_false_iff_ne.mpr h
        simp only [List.lookup, hb, if_neg (fun e : g = f => h (e.trans hk.symm))]
    · rw [if_neg hk]
      by_cases h : g = k
      · have hb : (g == k) = true := beq_iff_eq.mpr h
        simp only [List.lookup, hb, if_neg (fun e : g = f => hk (h.symm.trans e))]
      · have hb : (g == k) = false := beq_eq_false_iff_ne.mpr h
        simp only [List.lookup, hb]
        exact ih
theorem keys_putF (f : Str) (v : V) : ∀ fs : List (Str × V), f ∈ (putF f v fs).map (·.1) ∧ ∀ g, g ∈ fs.map (·.1) → g ∈ (putF f v fs).map (·.1)
  | [] => ⟨by simp [putF], fun g h => by simp at h⟩
  | (k, x) :: r => by
    obtain ⟨i1, i2⟩ := keys_putF f v r
    rw [show putF f v ((k, x) :: r) = (if k = f then (k, v) :: r else (k, x) :: putF f v r) from rfl]
    by_cases hk : k = f
    · rw [if_pos hk]
      subst hk
      exact ⟨by simp, fun g h => by simpa using h⟩
    · rw [if_neg hk]
      refine ⟨?_, fun g h => ?_⟩
      · rw [List.map_cons]
        exact List.mem_cons_of_mem _ i1
      · rw [List.map_cons] at h ⊢
        rcases List.mem_cons.mp h with e | e
        · exact List.mem_cons.mpr (.inl e)
        · exact List.mem_cons_of_mem _ (i2 g e)
theorem length_putF (f : Str) (v : V) : ∀ fs : List (Str × V), (putF f v fs).length ≤ fs.length + 1
  | [] => by simp [putF]
  | (k, x) :: r => by
    have ih := length_putF f v r
    rw [show putF f v ((k, x) :: r) = (if k = f then (k, v) :: r else (k, x) :: putF f v r) from rfl]
    by_cases hk : k = f
    · rw [if_pos hk, List.length_cons, List.length_cons]; omega
    · rw [if_neg hk, List.length_cons, List.length_cons]; omega
theorem RelO.some_of {v : V} {o : Option Value} (r : RelO (some v) o) : ∃ u, o = some u ∧ RelV v u := by
  cases o with
  | none => exact (show False from r).elim
  | some u => exact ⟨u, rfl, r⟩
theorem handed_of {v : V} {u : Value} (r : RelV v u) : PySem.W.handedIn u = true := by
  cases v with
  | non => cases (show u = Value.none from r); rfl
  | bl b => cases (show u = Value.bool b from r); rfl
  | int i => obtain ⟨t, e⟩ := (show ∃ t, u = Value.int i t from r); cases e; rfl
  | str x => obtain ⟨t, e⟩ := (show ∃ t, u = Value.str x t from r); cases e; rfl
  | byt b => obtain ⟨t, e⟩ := (show ∃ t, u = Value.bytes b t from r); cases e; rfl
  | flt b => obtain ⟨t, e⟩ := (show ∃ t, u = Value.float b t from r); cases e; rfl
  | ref a => cases (show u = Value.ref a from r); rfl
  | ty n => cases (show u = Value.type n from r); rfl
section
variable {P : Program} {w : World} {H H' : Hp} {h h' : Heap} {a C dx : Addr} {fs fs' : List (Str × V)}
theorem ins_get (hok : HOk P w H h) (e : H a = some (.ins C dx fs)) : ∃ mA, ObjM h a dx C mA ∧ (∀ f, RelO (fs.lookup f) (mA f)) ∧ PySem.Within mA (fs.map (·.1)) ∧ fs.length ≤ 1000 ∧ H dx = some (.own a) := by
  obtain ⟨d, z, ne, ob, mA, n, r, q⟩ := (show ObjOk P w H h a (.ins C dx fs) from hok a _ e)
  exact ⟨mA, ⟨ob, n, ne⟩, r, q, z, d⟩
end
structure Cls (K : PySem.W.Frag) (C : Addr) : Prop where
  pg : PySem.W.plainGet K C Str.empty = true
  hd : PySem.W.hasDictIn K C = true
  po : PySem.W.plainOver K C = true
  sa : PySem.W.findIn K (.ref C) "__setattr__" = some (some (.builtin "object.__setattr__"))
theorem Cls.get {K : PySem.W.Frag} {C : Addr} (c : Cls K C) (f : Str) : PySem.W.plainGet K C f = true := c.pg
noncomputable def NoAttr (K : PySem.W.Frag) (C : Addr) (f : Str) : Prop := PySem.W.findIn K (.ref C) f = some none
theorem NoAttr.taker {K : PySem.W.Frag} {C : Addr} {f : Str} (n : NoAttr K C f) : PySem.W.takerIn K C f = some none := by
  unfold PySem.W.takerIn
  rw [show PySem.W.findIn K (.ref C) f = some none from n]
  rfl
structure Con (K : PySem.W.Frag) (C : Addr) (f : Str) (v : V) (u : Value) : Prop where
  at_ : PySem.W.findIn K (.ref C) f = some (some u)
  rel : RelV v u
  get : PySem.W.specialIn K u "__get__" = some none
  cp : PySem.W.copiedNames.contains f = false
section
variable {X : Cx} {pins : List (Addr × Obj)} {σ : St} {H : Hp} {s : Shared} {a C dx : Addr} {fs : List (Str × V)} {f : Str} {v : V} {A : Around} {E : Value → Shared → Prop}
theorem getattr_ok {b : Bool} {Q : Value → Shared → Prop} (I : Inv X pins σ H s) (e : H a = some (.ins C dx fs)) (c : Cls X.K C) (n : NoAttr X.K C f) (l : fs.lookup f = some v)
    (h : ∀ u s', Inv X pins σ H s' → RelV v u → Q u s') : wpAny (model X.prog X.w) A (getAttr (.ref a) f b) Q E s := by
  obtain ⟨mA, O, r, _, _, _⟩ := ins_get I.hok e
  obtain ⟨u, hu, ru⟩ := RelO.some_of (v := v) (o := mA f) (by rw [← l]; exact r f)
  exact get_map I.kIn O (c.get f) c.hd n hu (handed_of ru) (h u _ (I.tok _) ru)
theorem setattr_ok {y : V} {u : Value} {Q : Unit → Shared → Prop} (I : Inv X pins σ H s) (e : H a = some (.ins C dx fs)) (c : Cls X.K C) (n : NoAttr X.K C f) (hl : fs.length < 1000) (ry : RelV y u)
    (h : ∀ s', Inv X pins σ (upd H a (.ins C dx (putF f y fs))) s' → Q () s') : wpAny (model X.prog X.w) A (setAttr (.ref a) f u) Q E s := by
  obtain ⟨mA, O, r, wi, _, ho⟩ := ins_get I.hok e
  have hz : (fs.map (·.1)).length ≤ sizeLine := by rw [List.length_map, sizeLine_eq]; omega
  refine set_map I.kIn O c.sa c.po n.taker c.hd wi hz fun h' O' sb => h _ ?_
  have hd : ∃ o, h'.get? dx = some o := by
    obtain ⟨o, _, _, e', _⟩ := O'.ns
    exact ⟨o, e'⟩
  refine I.write (x := a) (e := dx) (by rw [e]; exact True.intro) (.inr ho) (fun b q hb z => (sb.2 b hb).trans z) hd ?_
  refine ⟨by rw [upd_ne O.ne]; exact ho, ?_, O.ne, O'.obj, _, O'.ns, fun g => ?_, fun g hg => ?_⟩
  · have := length_putF f y fs; omega
  · show RelO ((putF f y fs).lookup g) (if g = f then some u else mA g)
    rw [lookup_putF]
    by_cases q : g = f
    · rw [if_pos q, if_pos q]; exact ry
    · rw [if_neg q, if_neg q]; exact r g
  · by_cases q : g = f
    · rw [q]; exact (keys_putF f y fs).1
    · refine (keys_putF f y fs).2 g (wi g fun z => hg ?_)
      show (if g = f then some u else mA g) = none
      rw [if_neg q]; exact z
theorem Inv.made (I : Inv X pins σ H s) : Inv X pins σ (upd (upd H s.heap.objs.size (.own (s.heap.objs.size + 1))) (s.heap.objs.size + 1) (.ins C s.heap.objs.size []))
    { s with heap := (s.heap.push PySem.W.emptyDict).push (PySem.W.instObj C s.heap.objs.size) } := by
  have e1 : (s.heap.push PySem.W.emptyDict).get? s.heap.objs.size = some PySem.W.emptyDict := Heap.get?_push_size s.heap rfl
  have e2 : ((s.heap.push PySem.W.emptyDict).push (PySem.W.instObj C s.heap.objs.size)).get? (s.heap.objs.size + 1) = some (PySem.W.instObj C s.heap.objs.size) := by
    have := Heap.get?_push_size (s.heap.push PySem.W.emptyDict) (o := PySem.W.instObj C s.heap.objs.size) rfl
    rwa [Heap.size_push] at this
  have e3 : (s.heap.push PySem.W.emptyDict).Ns s.heap.objs.size (fun _ => none) := ⟨PySem.W.emptyDict, #[], _, e1, rfl, (fun e he => absurd he (by simp)), fun _ => rfl⟩
  have I1 := I.laid (a := s.heap.objs.size) (o := .own (s.heap.objs.size + 1)) (h' := s.heap.push PySem.W.emptyDict) (t' := s.toks) (fun b u q => Heap.get?_push_of_some _ q) (Nat.le_refl _) ⟨_, e1⟩
  refine I1.laid (a := s.heap.objs.size + 1) (o := .ins C s.heap.objs.size []) (t' := s.toks) (fun b u q => Heap.get?_push_of_some _ q) (Nat.le_of_eq (Heap.size_push _ _)) ?_
  have ne : s.heap.objs.size ≠ s.heap.objs.size + 1 := Nat.ne_of_lt (Nat.lt_succ_self _)
  refine ⟨by rw [upd_ne ne, upd_same], Nat.zero_le _, ne, e2, fun _ => none, (Heap.Ns1.of_empty e3).at fun o q => Heap.get?_push_of_some _ q, fun _ => True.intro, fun y hy => absurd rfl hy⟩
theorem attr_of {prog : Program} {w : World} {env : Env} {e : Expr} {f : Str} {pos : Pos} {s : Shared} {Q : Value → Shared → Prop} (hb : attributeBase e f env (eval e env) = eval e env)
    (h : wpAny (model prog w) A (eval e env) (fun o s₁ => wpAny (model prog w) A (getAttr o f true) Q E s₁) E s) : wpAny (model prog w) A (eval (.Attribute e f pos) env) Q E s :=
  Attribute_any_ h (by rw [arm_eval_Attribute, hb])
end
noncomputable def tFld (K : PySem.W.Frag) (ta : TE) (f : Str) : TE := fun σ H Q => ta σ H fun x H1 => ∃ a C dx fs v, x = .ref a ∧ H1 a = some (.ins C dx fs) ∧ Cls K C ∧ NoAttr K C f ∧ fs.lookup f = some v ∧ Q v H1
noncomputable def sFld (K : PySem.W.Frag) (ta tv : TE) (f : Str) : TS := fun D σ H => tv σ H fun y H1 => ta σ H1 fun x H2 => ∃ a C dx fs, x = .ref a ∧ H2 a = some (.ins C dx fs) ∧ Cls K C ∧ NoAttr K C f ∧ fs.length < 1000 ∧
  D.nx σ (upd H2 a (.ins C dx (putF f y fs)))
section
variable {X : Cx} {o e value : Expr} {f : Str} {pos pos' tpos : Pos} {ta tv : TE}
theorem pe_fld (he : PE X e ta) (hb : attributeBase e f X.env (eval e X.env) = eval e X.env) : PE X (.Attribute e f pos) (tFld X.K ta f) := by
  intro pins s σ H Q I h
  refine attr_of hb (thn (he pins s σ H _ I h) fun u s1 hq8 => ?_)
  obtain ⟨x, H1, I1, rx, a, C, dx, fs, v, ex, ea, c, n, l, q⟩ := hq8
  subst ex
  obtain rfl : u = Value.ref a := rx
  exact getattr_ok I1 ea c n l fun u' s2 I2 ru => ⟨v, H1, I2, ru, q⟩
theorem ps_fld (ha : PE X o ta) (hv : PE X value tv) (hs : swapsWith value (some (.Attribute o f pos')) pos.line X.env = pure false) : PS X (.Assign [.Attribute o f pos'] value pos) (sFld X.K ta tv f) := by
  intro pins s σ H D I h
  refine plainObj_wpAny_Assign_Attribute (thn (hv pins s σ H _ I h) fun u s1 hq9 => EP.out hq9 fun y H1 I1 ry q => thn (ha pins s1 σ H1 _ I1 q) fun ov s2 hq8 => ?_) hs
  obtain ⟨x, H2, I2, rx, a, C, dx, fs, ex, ea, c, n, l, q2⟩ := hq8
  subst ex
  obtain rfl : ov = Value.ref a := rx
  exact setattr_ok I2 ea c n l ry fun s3 I3 => ⟨σ, _, I3, q2⟩
end
section
variable {X : Cx} {pins : List (Addr × Obj)} {σ : St} {H : Hp} {s : Shared} {A : Around} {E : Value → Shared → Prop} {Q : Value → Shared → Prop} {c : Value} {b : Bool}
end
end L2
namespace L2
open PySem PySem.Spec PyProof.Rows
structure Room (k : Nat) (A : Around) : Prop where
  hd : A.handled = none
  dp : A.depth + 3 * k + 5 < recursionLimit
  un : A.units + 16 * k + 200 < cLine
theorem Room.mono {j k : Nat} {A : Around} (r : Room k A) (h : j ≤ k) : Room j A := ⟨r.hd, by have := r.dp; omega, by have := r.un; omega⟩
theorem Room.deeper {k : Nat} {A : Around} (r : Room (k + 1) A) (env : Env) : Room k (A.deeper env) :=
  ⟨r.hd, by have := r.dp; show A.depth + 1 + 3 * k + 5 < _; omega, by have := r.un; show A.units + 3 + 16 * k + 200 < _; omega⟩
theorem make_depth {A : Around} {C : Addr} {us : List Value} {kw : List (Str × Value)} : (A.under (.builtin "type.__call__" ⟨.ref C :: us, kw⟩)).depth = A.depth + 1 := by
  first | rfl | simp [Around.under, Code.weight, Code.isCreation, Code.isGuard, Code.isCaller, Code.frames, Code.isFrame, guardIds]
theorem make_units {A : Around} {C : Addr} {us : List Value} {kw : List (Str × Value)} : (A.under (.builtin "type.__call__" ⟨.ref C :: us, kw⟩)).units = A.units + 1 := by
  first | rfl | simp [Around.under, Code.cUnits, Code.frames, Code.isFrame]
theorem Room.make {k : Nat} {A : Around} (r : Room (k + 1) A) (C : Addr) (us : List Value) (kw : List (Str × Value)) : Room k (A.under (.builtin "type.__call__" ⟨.ref C :: us, kw⟩)) :=
  ⟨r.hd, by have := r.dp; rw [make_depth]; omega, by have := r.un; rw [make_units]; omega⟩
theorem Room.depth {k : Nat} {A : Around} (r : Room k A) : A.depth < recursionLimit := by have := r.dp; omega
theorem Room.units {k : Nat} {A : Around} (r : Room k A) : A.units + 64 < cLine := by have := r.un; omega
noncomputable def tNil : TA := fun _ H Q => Q [] H
noncomputable def tCons (ta : TE) (tr : TA) : TA := fun σ H Q => ta σ H fun x H1 => tr σ H1 fun xs H2 => Q (x :: xs) H2
section
variable {X : Cx} {e : Expr} {es : List Expr} {te : TE} {t : TA} {pos : Pos}
theorem pa_nil : PA X [] tNil := fun _ _ _ _ H Q I h => Calls.spliced_nil ⟨[], H, I, .nil, h⟩
theorem pa_cons (ha : PE X e te) (hr : PA X es t) (hs : starEach (e :: es) X.env = (false, eval e X.env) :: starEach es X.env := by rfl) : PA X (e :: es) (tCons te t) := by
  intro pos pins s σ H Q I h
  rw [hs]
  show wpAny _ _ (spliced ((false, eval e X.env) :: backTo pos (starEach es X.env))) _ _ s
  refine Calls.spliced_cons (thn (ha pins s σ H _ I h) fun u s1 hq9 => EP.out hq9 fun x H1 I1 r1 q1 => ?_)
  exact thn (hr pos pins s1 σ H1 _ I1 q1) fun us s2 hq9 => AP.out hq9 fun xs H2 I2 r2 q2 => ⟨x :: xs, H2, I2, .cons r1 r2, q2⟩
noncomputable def tTup (t : TA) : TE := fun σ H Q => t σ H fun xs H1 => xs.length ≤ sizeLine ∧ ∀ p, H1 p = none → Q (.ref p) (upd H1 p (.tup xs))
noncomputable def tLst (t : TA) : TE := fun σ H Q => t σ H fun xs H1 => xs.length ≤ sizeLine ∧ ∀ p, H1 p = none → Q (.ref p) (upd H1 p (.lst xs))
theorem pe_tup {x1} (h : PA X es t) : PE X (.Tuple es x1 pos) (tTup t) := by
  intro pins s σ H Q I hq
  refine wpAny_Tuple_spliced (thn (h pos pins s σ H _ I hq) fun us s1 hq9 => AP.out hq9 fun xs H1 I1 r zq => ⟨by rw [← r.length]; exact zq.1, ?_⟩)
  obtain ⟨z, q⟩ := zq
  have hf : H1 s1.heap.objs.size = none := I1.hok.fresh (Nat.le_refl _)
  refine ⟨.ref s1.heap.objs.size, upd H1 s1.heap.objs.size (.tup xs), I1.laid (t' := s1.toks) (fun b u e => Heap.get?_push_of_some _ e) (Nat.le_refl _) ?_, rfl, q _ hf⟩
  exact ⟨z, us, r, ⟨_, Heap.get?_push_size _ rfl, rfl, _, rfl⟩⟩
theorem pe_lst (h : PA X es t) : PE X (.List es pos) (tLst t) := by
  intro pins s σ H Q I hq
  refine wpAny_List_spliced (thn (h pos pins s σ H _ I hq) fun us s1 hq9 => AP.out hq9 fun xs H1 I1 r zq => ⟨by rw [← r.length]; exact zq.1, ?_⟩)
  obtain ⟨z, q⟩ := zq
  have hf : H1 s1.heap.objs.size = none := I1.hok.fresh (Nat.le_refl _)
  refine ⟨.ref s1.heap.objs.size, upd H1 s1.heap.objs.size (.lst xs), I1.laid (t' := s1.toks) (fun b u e => Heap.get?_push_of_some _ e) (Nat.le_refl _) ?_, rfl, q _ hf⟩
  exact ⟨z, us, 0, r, Heap.get?_push_size _ rfl⟩
end
noncomputable abbrev Sp := List V → Hp → VK → XK → Prop
noncomputable abbrev CXT := List Env → Hp → Shared → XK → Value → Shared → Prop
structure Env0 (P : Program) (w : World) (K : PySem.W.Frag) (mg : Str → Option Value) (base : Heap) (A : Around) (outer : List Env) (s : Shared) (H : Hp) : Prop where
  frames : A.frames = some outer
  mod : Mod K mg base
  bs : ∀ b o, base.get? b = some o → s.heap.get? b = some o ∧ H b = none
  bsz : base.objs.size ≤ s.heap.objs.size
  funs : s.heap.FunFrames base outer
  frf : ∀ b ∈ frs outer, H b = none
  hok : HOk P w H s.heap
  bare : AllBare s.gens
noncomputable def CE (outer : List Env) (P : Program) (w : World) (H : Hp) (s : Shared) (Q : VK) (u : Value) (s' : Shared) : Prop :=
  ∃ v H', s'.os = s.os ∧ AllBare s'.gens ∧ Un (frs outer) [] H H' s.heap s'.heap ∧ HOk P w H' s'.heap ∧ RelV v u ∧ Q v H'
noncomputable def CR (CX : CXT) (outer : List Env) (P : Program) (w : World) (H : Hp) (s : Shared) (Q : VK) (E : XK) (r : Result) (s' : Shared) : Prop :=
  match r with
  | .ok (.ret u) => CE outer P w H s Q u s'
  | .ok _ => False
  | .error e => CX outer H s E e s'
structure FnOk (P : Program) (w : World) (K : PySem.W.Frag) (mg : Str → Option Value) (base : Heap) (CX : CXT) (k : Nat) (f : Addr) (fd : FuncData) (ps : List Str) (sp : Sp) : Prop where
  len : ∀ vs H Q E, sp vs H Q E → vs.length = ps.length
  run : ∀ (A : Around) (outer : List Env) (s : Shared) (H : Hp) (args : Args) (us : List Value) (vs : List V) (Q : VK) (E : XK), Room k A → Env0 P w K mg base A outer s H → BindsTo s fd args (ps.zip us) → Vals vs us → sp vs H Q E →
    codeAny (model P w) A (.call (.ref f) args) (CR CX outer P w H s Q E) s
theorem Env0.make {P : Program} {w : World} {K : PySem.W.Frag} {mg : Str → Option Value} {base : Heap} {A : Around} {outer : List Env} {s : Shared} {H : Hp} (e : Env0 P w K mg base A outer s H) (C : Addr) (us : List Value) (kw : List (Str × Value)) :
    Env0 P w K mg base (A.under (.builtin "type.__call__" ⟨.ref C :: us, kw⟩)) outer s H := ⟨by first | exact e.frames | (simpa [Around.under, Code.envs, Code.isFrame, pushEnvs] using e.frames), e.mod, e.bs, e.bsz, e.funs, e.frf, e.hok, e.bare⟩
section
variable {X : Cx} {pins : List (Addr × Obj)} {σ : St} {H : Hp} {s s' : Shared}
theorem Inv.env0 (I : Inv X pins σ H s) : Env0 X.prog X.w X.K X.mg X.base X.A X.stack s H :=
  ⟨I.ok.frames, I.ok.mod, I.bs, Nat.le_trans I.ok.bsz I.sz, I.stack, I.stkFree, I.hok, I.bare⟩
theorem Inv.after {Q : VK} {u : Value} (I : Inv X pins σ H s) (h : CE X.stack X.prog X.w H s Q u s') : EP X pins σ Q u s' := by
  obtain ⟨v, H', os, bare, un, hok, r, q⟩ := h
  obtain ⟨hh, g, d, t, os'⟩ := s'
  obtain rfl : os' = s.os := os
  exact ⟨v, H', I.call (h' := hh) (g' := g) (d' := d) (t' := t) (ch := []) un hok bare (fun b z => absurd z (by simp)), r, q⟩
end
noncomputable def tCall (sp : Sp) (dvs : List V) (E : XK) (t : TA) : TE := fun σ H Q => t σ H fun vs H1 => sp (vs ++ dvs) H1 Q E
noncomputable def tMake (C : Addr) (sp : Sp) (dvs : List V) (E : XK) (t : TA) : TE := fun σ H Q => t σ H fun vs H1 => ∀ x dx, H1 x = none → H1 dx = none → dx ≠ x →
  sp (.ref x :: (vs ++ dvs)) (upd (upd H1 dx (.own x)) x (.ins C dx [])) (fun v H2 => v = .non ∧ Q (.ref x) H2) E
noncomputable def Binds (K : PySem.W.Frag) (fd : FuncData) (ps : List Str) (ds : List Value) : Prop :=
  ∀ (s : Shared) (us : List Value), K.In s.heap → (us ++ ds).length = ps.length → BindsTo s fd ⟨us, []⟩ (ps.zip (us ++ ds))
theorem Binds.all {K : PySem.W.Frag} {fd : FuncData} {ps : List Str} (h : ∀ us : List Value, us.length = ps.length → bindArgs fd ⟨us, []⟩ = pure (ps.zip us)) : Binds K fd ps [] := fun s us _ hl => by
  rw [List.append_nil] at hl ⊢
  exact .of_eq (h us hl)
noncomputable def Passes (CX : CXT) (X : Cx) (E : XK) : Prop := ∀ (pins : List (Addr × Obj)) (σ : St) (H : Hp) (s : Shared) (e : Value) (s' : Shared), Inv X pins σ H s → CX X.stack H s E e s' → X.xe e s'
section
variable {X : Cx} {CX : CXT} {k : Nat} {f C : Addr} {fd : FuncData} {ps : List Str} {sp : Sp} {dvs : List V} {ds : List Value} {E : XK} {x m : Str} {p pos apos : Pos} {e o : Expr} {es : List Expr} {ta : TE} {t : TA}
theorem run_fn {pins : List (Addr × Obj)} {σ : St} {H : Hp} {s : Shared} {Q : VK} {us : List Value} {vs : List V} (F : FnOk X.prog X.w X.K X.mg X.base CX k f fd ps sp) (hr : Room k X.A) (hb : Binds X.K fd ps ds) (hd : Vals dvs ds) (hx : Passes CX X E)
    (I : Inv X pins σ H s) (r : Vals vs us) (h : sp (vs ++ dvs) H Q E) : wpAny (model X.prog X.w) X.A (call (.ref f) us) (EP X pins σ Q) X.xe s := by
  have r2 : Vals (vs ++ dvs) (us ++ ds) := r.append hd
  have hl : (us ++ ds).length = ps.length := by rw [← r2.length]; exact F.len _ _ _ _ h
  refine wpAny_call (codeAny_mono (F.run X.A X.stack s H ⟨us, []⟩ (us ++ ds) (vs ++ dvs) Q E hr I.env0 (hb s us I.kIn hl) r2 h) fun r s' hq => ?_)
  cases r with
  | error e => exact hx pins σ H s e s' I hq
  | ok fl =>
    cases fl with
    | ret u => exact I.after hq
    | next => exact False.elim hq
    | brk => exact False.elim hq
    | cont => exact False.elim hq
theorem pe_call (F : FnOk X.prog X.w X.K X.mg X.base CX k f fd ps sp) (hr : Room k X.A) (hg : Gl X x) (hm : X.mg x = some (.ref f)) (hk : PySem.W.keepIn X.K (.ref f) = true) (hb : Binds X.K fd ps ds) (hd : Vals dvs ds) (hx : Passes CX X E)
    (ha : PA X (e :: es) t) (hdb : (x == ("__debug__" : Str)) = false := by decide) (he : starEach (e :: es) X.env = (false, eval e X.env) :: starEach es X.env := by rfl) (hpl : (backTo pos (starEach es X.env)).any (·.1) = false := by rfl) :
    PE X (.Call (.Name x p) (e :: es) [] pos) (tCall sp dvs E t) := by
  intro pins s σ H Q I h
  refine wpAny_Call_Name_kw (ld_glob I hg hm ?_ hdb)
  refine PySem.W.callWith_K (h₀ := X.base) I.ok.mod.kin hk (thn (ha pos pins s σ H _ I h) fun us s1 hq9 => AP.out hq9 fun vs H1 I1 r q => ⟨I1.kIn, ?_⟩) he hpl
  exact run_fn F hr hb hd hx I1 r q
structure Mk (K : PySem.W.Frag) (C f : Addr) : Prop where
  makes : PySem.W.makesIn K C = true
  init : PySem.W.findIn K (.ref C) "__init__" = some (some (.ref f))
  fn : PySem.W.isFn K (.ref f) = true
  kp : PySem.W.keepIn K (.ref C) = true
theorem run_make {pins : List (Addr × Obj)} {σ : St} {H : Hp} {s : Shared} {Q : VK} {us : List Value} {vs : List V} (M : Mk X.K C f) (F : FnOk X.prog X.w X.K X.mg X.base CX k f fd ps sp) (hr : Room (k + 1) X.A) (hb : Binds X.K fd ps ds) (hd : Vals dvs ds)
    (hx : Passes CX X E) (I : Inv X pins σ H s) (r : Vals vs us)
    (h : ∀ x dx, H x = none → H dx = none → dx ≠ x → sp (.ref x :: (vs ++ dvs)) (upd (upd H dx (.own x)) x (.ins C dx [])) (fun v H2 => v = .non ∧ Q (.ref x) H2) E) :
    wpAny (model X.prog X.w) X.A (call (.ref C) us) (EP X pins σ Q) X.xe s := by
  have hq := h (s.heap.objs.size + 1) s.heap.objs.size (I.hok.fresh (Nat.le_succ _)) (I.hok.fresh (Nat.le_refl _)) (Nat.ne_of_lt (Nat.lt_succ_self _))
  have I2 := Inv.made (C := C) I
  have r2 : Vals (V.ref (s.heap.objs.size + 1) :: (vs ++ dvs)) (Value.ref (s.heap.objs.size + 1) :: (us ++ ds)) := .cons rfl (r.append hd)
  have hl : (Value.ref (s.heap.objs.size + 1) :: us ++ ds).length = ps.length := by
    have e := r2.length
    rw [F.len _ _ _ _ hq] at e
    exact e.symm
  refine wpAny_call (make_map (f := f) I.kIn M.makes M.init (beq_iff_eq.mp M.fn) (codeAny_mono (F.run _ X.stack _ _ ⟨Value.ref (s.heap.objs.size + 1) :: us, []⟩ (Value.ref (s.heap.objs.size + 1) :: (us ++ ds)) _ _ E (hr.make C us [])
    (I2.env0.make C us []) (hb _ (Value.ref (s.heap.objs.size + 1) :: us) I2.kIn hl) r2 hq) fun r s' hq' => ?_))
  cases r with
  | error e => exact hx pins σ _ _ e s' I2 hq'
  | ok fl =>
    cases fl with
    | ret u =>
      obtain ⟨v, H', I3, rv, ev, q3⟩ := I2.after hq'
      subst ev
      exact ⟨rv, ⟨V.ref (s.heap.objs.size + 1), H', I3, rfl, q3⟩⟩
    | next => exact False.elim hq'
    | brk => exact False.elim hq'
    | cont => exact False.elim hq'
theorem pe_make (M : Mk X.K C f) (F : FnOk X.prog X.w X.K X.mg X.base CX k f fd ps sp) (hr : Room (k + 1) X.A) (hg : Gl X x) (hm : X.mg x = some (.ref C)) (hb : Binds X.K fd ps ds) (hd : Vals dvs ds) (hx : Passes CX X E)
    (ha : PA X (e :: es) t) (hdb : (x == ("__debug__" : Str)) = false := by decide) (he : starEach (e :: es) X.env = (false, eval e X.env) :: starEach es X.env := by rfl) (hpl : (backTo pos (starEach es X.env)).any (·.1) = false := by rfl) :
    PE X (.Call (.Name x p) (e :: es) [] pos) (tMake C sp dvs E t) := by
  intro pins s σ H Q I h
  refine wpAny_Call_Name_kw (ld_glob I hg hm ?_ hdb)
  refine PySem.W.callWith_K (h₀ := X.base) I.ok.mod.kin M.kp (thn (ha pos pins s σ H _ I h) fun us s1 hq9 => AP.out hq9 fun vs H1 I1 r q => ⟨I1.kIn, ?_⟩) he hpl
  exact run_make M F hr hb hd hx I1 r q
end
section
variable {X : Cx} {CX : CXT} {k : Nat} {f C : Addr} {fd : FuncData} {ps ks : List Str} {sp : Sp} {E : XK} {x m : Str} {p pos apos kpos : Pos} {e o : Expr} {es : List Expr} {kws : List Keyword} {te ta : TE} {t tk : TA} {nm : Option Str}
variable {g : List Value → List Value → List Value} {gV : List V → List V → List V}
end
structure FnScope (N P : List Str) (sc : Scope) : Prop where
  kind : sc.kind = .function
  co : sc.isCoroutine = false
  gen : sc.isGenerator = false
  nd : N.Nodup
  pre : N.take P.length = P
  par : ∀ x ∈ P, sc.names.lookup x = some .local ∨ sc.names.lookup x = some .cell
  nofree : ∀ y ∈ sc.names, y.2 ≠ .free
theorem bindL_out {kindOf : Str → Option NameKind} {x : Str} : ∀ {binds : List (Str × Value)} {m : Str → Option Value}, (∀ v, (x, v) ∉ binds) → bindL kindOf binds m x = m x
  | [], _, _ => rfl
  | (n, v) :: r, m, h => by
    unfold bindL
    rw [bindL_out fun w hw => h w (List.mem_cons_of_mem _ hw)]
    split
    · have : x ≠ n := by rintro rfl; exact h v List.mem_cons_self
      simp [this]
    · rfl
theorem bindC_out {kindOf : Str → Option NameKind} {x : Str} : ∀ {binds : List (Str × Value)} {m : Str → Option Value}, (∀ v, (x, v) ∉ binds) → bindC kindOf binds m x = m x
  | [], _, _ => rfl
  | (n, v) :: r, m, h => by
    unfold bindC
    rw [bindC_out fun w hw => h w (List.mem_cons_of_mem _ hw)]
    split
    · rfl
    · have : x ≠ n := by rintro rfl; exact h v List.mem_cons_self
      simp [this]
theorem bindL_get {kindOf : Str → Option NameKind} {x : Str} {v : Value} : ∀ {P : List Str} {vs : List Value} {i : Nat} {m : Str → Option Value}, P.Nodup → P[i]? = some x → vs[i]? = some v → kindOf x = some .local →
    bindL kindOf (P.zip vs) m x = some v
  | [], _, _, _, _, h, _, _ => by simp at h
  | _ :: _, [], _, _, _, _, h, _ => by simp at h
  | p :: P, w :: vs, 0, m, nd, h1, h2, hk => by
    simp at h1 h2; subst h1; subst h2
    show bindL kindOf ((p, w) :: P.zip vs) m p = _
    unfold bindL
    rw [bindL_out fun v hv => (List.nodup_cons.mp nd).1 (List.of_mem_zip hv).1, if_pos hk]
    simp
  | p :: P, w :: vs, i + 1, m, nd, h1, h2, hk => by
    show bindL kindOf ((p, w) :: P.zip vs) m x = _
    unfold bindL
    exact bindL_get (i := i) (List.nodup_cons.mp nd).2 (by simpa using h1) (by simpa using h2) hk
theorem bindC_get {kindOf : Str → Option NameKind} {x : Str} {v : Value} : ∀ {P : List Str} {vs : List Value} {i : Nat} {m : Str → Option Value}, P.Nodup → P[i]? = some x → vs[i]? = some v → kindOf x ≠ some .local →
    bindC kindOf (P.zip vs) m x = some v
  | [], _, _, _, _, h, _, _ => by simp at h
  | _ :: _, [], _, _, _, _, h, _ => by simp at h
  | p :: P, w :: vs, 0, m, nd, h1, h2, hk => by
    simp at h1 h2; subst h1; subst h2
    show bindC kindOf ((p, w) :: P.zip vs) m p = _
    unfold bindC
    rw [bindC_out fun v hv => (List.nodup_cons.mp nd).1 (List.of_mem_zip hv).1, if_neg hk]
    simp
  | p :: P, w :: vs, i + 1, m, nd, h1, h2, hk => by
    show bindC kindOf ((p, w) :: P.zip vs) m x = _
    unfold bindC
    exact bindC_get (i := i) (List.nodup_cons.mp nd).2 (by simpa using h1) (by simpa using h2) hk
noncomputable def start (N : List Str) (vs : List V) : St := vs.map some ++ List.replicate (N.length - vs.length) none
noncomputable def cxOf (CX : CXT) (P : Program) (w : World) (K : PySem.W.Frag) (mg : Str → Option Value) (base : Heap) (N : List Str) (qual : Str) (scope : Scope) (f : Addr) (cd : Value) (A : Around) (outer : List Env) (s : Shared) (H : Hp) (E : XK) : Cx where
  prog := P
  w := w
  K := K
  mg := mg
  base := base
  A := A.deeper (envOfC qual scope s.heap.objs.size f cd)
  N := N
  s₀ := s
  H₀ := H
  env := envOfC qual scope s.heap.objs.size f cd
  outer := outer
  stack := envOfC qual scope s.heap.objs.size f cd :: outer
  ex := []
  calm := true
  fn := fun _ => true
  pn := []
  xe := fun e s' => wpAny (model P w) (A.deeper (envOfC qual scope s.heap.objs.size f cd)) (leaving (envOfC qual scope s.heap.objs.size f cd) e) (fun _ s'' => CX outer H s E e s'') (fun e' s'' => CX outer H s E e' s'') s'
theorem cell_has {sc : Scope} {n : Nat} {x : Str} (h : sc.names.lookup x = some .cell) : ∃ c, (cellsFrom n sc.names []).lookup x = some c := by
  have q := PySem.W.cellsFrom_some sc.names n [] (.inl h)
  exact Option.isSome_iff_exists.mp q
theorem inv_start {CX : CXT} {P : Program} {w : World} {K : PySem.W.Frag} {mg : Str → Option Value} {base : Heap} {N ps : List Str} {qual : Str} {scope : Scope} {f : Addr} {cd : Value} {A : Around} {outer : List Env} {s s1 : Shared} {H : Hp} {E : XK} {us : List Value} {vs : List V}
    (S : FnScope N ps scope) (hd : A.handled = none) (e0 : Env0 P w K mg base A outer s H) (hl : vs.length = ps.length) (r : Vals vs us)
    (x : InCallC s s.heap.objs.size (bindL (envOfC qual scope s.heap.objs.size f cd).kindOf (ps.zip us) fun _ => none) (cellsFrom (s.heap.objs.size + 1) scope.names []) (bindC (envOfC qual scope s.heap.objs.size f cd).kindOf (ps.zip us) fun _ => none) s1) :
    Inv (cxOf CX P w K mg base N qual scope f cd A outer s H E) [] (start N vs) H s1 := by
  have hpl : ps.length ≤ N.length := by have := congrArg List.length S.pre; rw [List.length_take] at this; omega
  obtain ⟨h1, tk, rfl, hk⟩ := x.done
  have noA : ∀ b : Addr, b ∉ (cxOf CX P w K mg base N qual scope f cd A outer s H E).ex := fun b z => absurd (show b ∈ ([] : List Addr) from z) (by simp)
  refine ⟨⟨e0.mod, S.kind, rfl, rfl, Nat.le_refl _, fun y z c h1 h2 => ?_, fun y hy => ?_, fun y c _ h => ?_, fun _ => hd, Around.frames_deeper e0.frames, .inr ⟨rfl, rfl⟩, fun b z => absurd z (noA b), e0.bs, e0.bsz, fun b _ _ => noA b, fun b z => absurd z (noA b), e0.funs, e0.frf⟩,
    rfl, e0.bare, Un.kept hk, ⟨_, x.toInCall.ns, fun i y v h1 h2 h3 => ?_⟩, fun y c h => ⟨_, x.cell y c h⟩, e0.hok.fresh (Nat.le_refl _), fun y c h => ?_, fun p hp => absurd (show p ∈ ([] : List (Addr × Obj)) from hp) (by simp), e0.hok.kept hk, ?_⟩
  · exact name_of_addr x.apart (PySem.mem_of_lookup h1) (PySem.mem_of_lookup h2)
  · have hy : scope.names.lookup y = some .cell ∨ scope.names.lookup y = some .free := hy
    rcases hy with hy | hy
    · exact cell_has hy
    · exact absurd rfl (S.nofree _ (PySem.mem_of_lookup hy))
  · exact Nat.le_of_lt (x.above y c (PySem.mem_of_lookup h))
  · have hi : i < vs.length := by
      unfold start at h2
      by_cases hi : i < vs.length
      · exact hi
      · rw [List.getElem?_append_right (by simpa using hi)] at h2
        rw [List.getElem?_replicate] at h2
        split at h2 <;> cases h2
    have ha : vs[i]? = some v := by
      unfold start at h2
      rw [List.getElem?_append_left (by simpa using hi), List.getElem?_map] at h2
      cases e : vs[i]? with
      | none => rw [e] at h2; cases h2
      | some a => rw [e] at h2; cases h2; rfl
    obtain ⟨u, hu, rv⟩ := r.get ha
    have hp : ps[i]? = some y := by
      rw [← S.pre, List.getElem?_take_of_lt (by omega)]; exact h1
    have ndP : ps.Nodup := by rw [← S.pre]; exact S.nd.sublist (List.take_sublist _ _)
    refine ⟨u, rv, ?_⟩
    rcases S.par y (List.mem_of_getElem? hp) with k | k
    · exact .inl ⟨k, bindL_get ndP hp hu k⟩
    · obtain ⟨c, e⟩ := cell_has (n := s.heap.objs.size + 1) k
      refine .inr ⟨.inl k, c, e, ?_⟩
      have q := x.cell y c e
      rw [bindC_get ndP hp hu (by show scope.names.lookup y ≠ _; rw [k]; decide)] at q
      exact q
  · exact e0.hok.fresh (Nat.le_of_lt (x.above y c (PySem.mem_of_lookup h)))
  · unfold start
    show _ = N.length
    rw [List.length_append, List.length_map, List.length_replicate]
    omega
theorem fn_of {CX : CXT} {P : Program} {w : World} {K : PySem.W.Frag} {mg : Str → Option Value} {base : Heap} {k : Nat} {f : Addr} {name qual : Str} {params : Arguments} {body : List Stmt} {scope : Scope} {dV kV doc pm cdv ct oc : Value} {an od : Option Addr}
    {osl : Array (Option Value)} {N ps : List Str} {sp : Sp} (lk : K.lookup f = some ⟨oc, od, .func (PySem.W.fnOf name qual params body scope dV kV doc pm an cdv ct), osl⟩) (hcd : PySem.W.codeIn K cdv qual = true) (S : FnScope N ps scope)
    (len : ∀ vs H Q E, sp vs H Q E → vs.length = ps.length)
    (hbody : ∀ (A : Around) (outer : List Env) (s : Shared) (H : Hp) (vs : List V) (Q : VK) (E : XK), Room k (A.deeper (envOfC qual scope s.heap.objs.size f cdv)) → sp vs H Q E →
      ∃ t, PSs (cxOf CX P w K mg base N qual scope f cdv A outer s H E) body t ∧ t { nx := fun _ H' => Q .non H', rt := Q } (start N vs) H) :
    FnOk P w K mg base CX (k + 1) f (PySem.W.fnOf name qual params body scope dV kV doc pm an cdv ct) ps sp := by
  refine ⟨len, fun A outer s H args us vs Q E hr e0 hb r hsp => ?_⟩
  have hl := len _ _ _ _ hsp
  have KX : K.In s.heap := e0.mod.kin.keeps fun b o e => (e0.bs b o e).1
  have lim : s.heap.NoLimit := e0.mod.nolimit.keeps fun b o e => (e0.bs b o e).1
  have hkind : ∀ y ∈ ps.zip us, scope.names.lookup y.1 = some .local ∨ (scope.names.lookup y.1 = some .cell ∧ ((cellsFrom (s.heap.objs.size + 1) scope.names []).lookup y.1).isSome = true) := fun ⟨n, v⟩ hy => by
    rcases S.par n (List.of_mem_zip hy).1 with q | q
    · exact .inl q
    · exact .inr ⟨q, PySem.W.cellsFrom_some _ _ _ (.inl q)⟩
  refine codeAny_call_function hr.depth (KX _ _ lk) rfl S.co S.gen rfl (PySem.W.codeRec_of KX hcd) (hb _ _ _ _ ?_)
  refine wpAny_newFunctionEnv_cells S.kind hkind fun env he s1 x => ?_
  subst he
  refine ⟨lim.keeps x.toInCall.keep, codeAny_func ?_⟩
  obtain ⟨t, ht, hq⟩ := hbody A outer s H vs Q E (hr.deeper _) hsp
  have I : Inv (cxOf CX P w K mg base N qual scope f cdv A outer s H E) [] (start N vs) H s1 := inv_start S hr.hd e0 hl r x
  refine wpAny_mono (ht [] s1 (start N vs) H _ I hq) (fun fl s' hs => ?_) fun e s' hs => hs
  have fin : ∀ {σ' : St} {H' : Hp} {v : V} {u : Value}, Inv (cxOf CX P w K mg base N qual scope f cdv A outer s H E) [] σ' H' s' → RelV v u → Q v H' → CE outer P w H s Q u s' :=
    fun {σ' H' v u} J rv q => ⟨v, H', J.os, J.bare, J.base, J.hok, rv, q⟩
  cases fl with
  | ret u =>
    obtain ⟨v, σ', H', J, rv, q⟩ := hs
    exact fin J rv q
  | next =>
    obtain ⟨σ', H', J, q⟩ := hs
    exact fin (v := V.non) (u := Value.none) J rfl q
  | brk =>
    obtain ⟨_, _, _, q⟩ := hs
    exact False.elim q
  | cont =>
    obtain ⟨_, _, _, q⟩ := hs
    exact False.elim q
end L2
namespace L2
open PySem PySem.Spec PyProof.Rows
section
variable {X : Cx} {x : Str} {p pos : Pos} {e : Expr} {es : List Expr} {t : TA} {id T : String} {r : List V → Hp → VK → Prop}
noncomputable def tCB (r : List V → Hp → VK → Prop) (t : TA) : TE := fun σ H Q => t σ H fun vs H1 => r vs H1 Q
theorem pe_callB (hc : CallR X (.builtin id) r) (hg : Gl X x) (hm : X.mg x = none) (hv : bootBuiltins x = some (.builtin id)) (ha : PA X (e :: es) t) (hn : x ≠ "__name__" := by decide) (hdb : (x == ("__debug__" : Str)) = false := by decide)
    (he : starEach (e :: es) X.env = (false, eval e X.env) :: starEach es X.env := by rfl) (hpl : (backTo pos (starEach es X.env)).any (·.1) = false := by rfl) : PE X (.Call (.Name x p) (e :: es) [] pos) (tCB r t) := by
  intro pins s σ H Q I h
  refine wpAny_Call_Name_kw (ld_blt I hg hm hv ?_ hn hdb)
  exact PyProof.Rows.callWith_builtin1 (thn (ha pos pins s σ H _ I h) fun us s1 hq9 => AP.out hq9 fun vs H1 I1 r1 q1 => hc pins s1 σ H1 vs us Q I1 r1 q1) he hpl
theorem pe_callTy (hc : CallR X (.type T) r) (hg : Gl X x) (hm : X.mg x = none) (hv : bootBuiltins x = some (.type T)) (ha : PA X (e :: es) t) (hn : x ≠ "__name__" := by decide) (hdb : (x == ("__debug__" : Str)) = false := by decide)
    (he : starEach (e :: es) X.env = (false, eval e X.env) :: starEach es X.env := by rfl) (hpl : (backTo pos (starEach es X.env)).any (·.1) = false := by rfl) : PE X (.Call (.Name x p) (e :: es) [] pos) (tCB r t) := by
  intro pins s σ H Q I h
  refine wpAny_Call_Name_kw (ld_blt I hg hm hv ?_ hn hdb)
  exact PyProof.Rows.callWith_type1 (thn (ha pos pins s σ H _ I h) fun us s1 hq9 => AP.out hq9 fun vs H1 I1 r1 q1 => hc pins s1 σ H1 vs us Q I1 r1 q1) he hpl
end
end L2
namespace HT
open PySem PyProof.Rows
section
open PySem.SeqAt
open PySem.AutoSeq1 (wpAny_loadPart')
open PySem.MeetsSeq PySem.MeetsSeq2 PySem.MeetsSeq3
end
section
variable {prog : Program} {w : World} {A : Around} {E : Value → Shared → Prop} {s : Shared}
theorem cat_tup {t b : Addr} {vs ws : List Value} {Q : Value → Shared → Prop} (ht : IsTup s.heap t vs.toArray) (hb : IsTup s.heap b ws.toArray) (hv : vs ≠ [])
    (h1 : ws = [] → Q (.ref t) s) (h2 : ws ≠ [] → Q (.ref s.heap.objs.size) { s with heap := s.heap.push { cls := .type "tuple", data := .seq (vs ++ ws).toArray } })
    (hsz : vs.length + ws.length ≤ sizeLine) : wpAny (model prog w) A (binaryOp .Add (.ref t) (.ref b)) Q E s := by
  obtain ⟨⟨cls, dd, data, sl⟩, ho, hc, n, hd⟩ := id ht
  obtain ⟨⟨cls2, dd2, data2, sl2⟩, ho2, hc2, n2, hd2⟩ := id hb
  simp only at hc hd hc2 hd2
  subst hc hd hc2 hd2
  have e : vs.toArray ++ ws.toArray = (vs ++ ws).toArray := by simp
  by_cases hw : ws = []
  · exact concat_meets ⟨_, ho, rfl⟩ ⟨_, ho2, rfl⟩ noFill_tuple_add seq_tuple_add PySem.F.slot_tuple_add PySem.F.entry_tuple_add (PySem.F.args_tuple_add_2 _ _)
      (tuple_addW1 t b vs.toArray ws.toArray n n2 dd dd2 sl sl2 (by simpa using hv) (by simp [hw])) ⟨ho, ho2, h1 hw⟩
  · refine concat_meets ⟨_, ho, rfl⟩ ⟨_, ho2, rfl⟩ noFill_tuple_add seq_tuple_add PySem.F.slot_tuple_add PySem.F.entry_tuple_add (PySem.F.args_tuple_add_2 _ _)
      (tuple_addW2 t b vs.toArray ws.toArray n n2 dd dd2 sl sl2 (by simpa using hv) (by simpa using hw) (by rw [List.size_toArray, List.size_toArray]; exact hsz)) ⟨ho, ho2, ?_⟩
    rw [e]
    exact h2 hw
noncomputable def sIx (n d : Nat) : Option Int → Nat
  | none => d
  | some v => if v < 0 then (v + (n : Int)).toNat else min v.toNat n
theorem sIx_none (n d : Nat) : sIx n d none = d := rfl
theorem sIx_nat (n d k : Nat) : sIx n d (some (k : Int)) = min k n := by
  show (if (k : Int) < 0 then ((k : Int) + (n : Int)).toNat else min (k : Int).toNat n) = min k n
  rw [if_neg (by omega), Int.toNat_natCast]
theorem sIx_le (n d : Nat) (hd : d ≤ n) (o : Option Int) : sIx n d o ≤ n := by
  cases o with
  | none => exact hd
  | some v =>
    show (if v < 0 then (v + (n : Int)).toNat else min v.toNat n) ≤ n
    by_cases hv : v < 0
    · rw [if_pos hv]; omega
    · rw [if_neg hv]; exact Nat.min_le_right _ _
end
end HT
namespace L2
open PySem PySem.Spec PyProof.Rows
noncomputable abbrev TO := St → Hp → (Option Int → Hp → Prop) → Prop
noncomputable def PO (X : Cx) (e : Option Expr) (t : TO) : Prop :=
  ∀ (pins : List (Addr × Obj)) (s : Shared) (σ : St) (H : Hp) (Q : Option Int → Hp → Prop), Inv X pins σ H s → t σ H Q →
    wpAny (model X.prog X.w) X.A (evalPart e X.env) (fun u s' => ∃ o H', Inv X pins σ H' s' ∧ IsPart u o ∧ Q o H') X.xe s
noncomputable def tNoPart : TO := fun _ H Q => Q none H
noncomputable def tPart (t : TE) : TO := fun σ H Q => t σ H fun x H1 => ∃ i, x = .int i ∧ Q (some i) H1
theorem intsAre_of {ns : List Int} : ∀ {us : List Value}, Vals (ns.map V.int) us → IntsAre us ns := by
  induction ns with
  | nil => intro us r; rw [List.map_nil] at r; cases r; exact .nil
  | cons n ns ih =>
    intro us r
    rw [List.map_cons] at r
    cases r with
    | cons r1 r2 =>
      obtain ⟨t, e⟩ := r1
      subst e
      exact .cons n t (ih r2)
section
variable {X : Cx} {e : Expr} {te : TE} {lo hi : Option Expr} {tl th : TO} {pos p2 : Pos}
theorem po_none : PO X none tNoPart := by
  intro pins s σ H Q I h
  rw [evalPart_none]
  exact wpAny_pure ⟨none, H, I, .none, h⟩
theorem po_some (h : PE X e te) : PO X (some e) (tPart te) := by
  intro pins s σ H Q I hw
  rw [evalPart_some]
  refine thn (h pins s σ H _ I hw) fun u s1 hq9 => EP.out hq9 fun x H1 I1 r1 q1 => ?_
  obtain ⟨i, rfl, q⟩ := q1
  obtain ⟨t, rfl⟩ := r1
  exact ⟨some i, H1, I1, .int i t, q⟩
noncomputable def SlR (X : Cx) (r : V → Option Int → Option Int → Hp → VK → Prop) : Prop :=
  ∀ (pins : List (Addr × Obj)) (s : Shared) (σ : St) (H : Hp) (x : V) (v vl vu : Value) (lo hi : Option Int) (sl : Addr) (Q : VK), Inv X pins σ H s → RelV x v → s.heap.IsSliceOf sl vl vu .none → IsPart vl lo → IsPart vu hi → r x lo hi H Q →
    ∃ T id, typeLookup (.type T) "__getitem__" = pure (some (.builtin id)) ∧ s.TypeIs v T ∧ wpAny (model X.prog X.w) X.A (getItem v (.ref sl)) (EP X pins σ Q) X.xe s
noncomputable def tSl (r : V → Option Int → Option Int → Hp → VK → Prop) (te : TE) (tl th : TO) : TE := fun σ H Q => te σ H fun x H1 => tl σ H1 fun l H2 => th σ H2 fun u H3 => r x l u H3 Q
theorem pe_slice {r : V → Option Int → Option Int → Hp → VK → Prop} (hr : SlR X r) (he : PE X e te) (hl : PO X lo tl) (hu : PO X hi th) : PE X (.Subscript e (.Slice lo hi none p2) pos) (tSl r te tl th) := by
  intro pins s σ H Q I h
  refine Subscript_ (thn (he pins s σ H _ I h) fun v s1 hq9 => EP.out hq9 fun x H1 I1 r1 q1 => ?_)
  refine wpAny_Slice (thn (hl pins s1 σ H1 _ I1 q1) fun vl s2 hq9 => ex5 hq9 fun l H2 I2 pl q2 => thn (hu pins s2 σ H2 _ I2 q2) fun vu s3 hq9 => ex5 hq9 fun u H3 I3 pu q3 => ?_)
  rw [evalPart_none]
  refine wpAny_pure ?_
  have I4 : Inv X pins σ H3 { s3 with heap := s3.heap.push { cls := .type "slice", data := .fields #[vl, vu, .none] } } := I3.kept (t' := s3.toks) fun b ob q => Heap.get?_push_of_some _ q
  obtain ⟨T, id, hT, ht, hg⟩ := hr pins { s3 with heap := s3.heap.push { cls := .type "slice", data := .fields #[vl, vu, .none] } } σ H3 x v vl vu l u s3.heap.objs.size Q I4 r1 (Heap.IsSliceOf.new ..) pl pu q3
  show wpAny (model X.prog X.w) X.A (subscriptTail e (.Slice lo hi none p2) v (.ref s3.heap.objs.size)) (EP X pins σ Q) X.xe { s3 with heap := s3.heap.push { cls := .type "slice", data := .fields #[vl, vu, .none] } }
  exact tail_any (ops := [.ref s3.heap.objs.size, v]) ht hT hg (by with_unfolding_all rfl)
noncomputable def cutV (xs : List V) (lo hi : Option Int) : List V := (xs.drop (HT.sIx xs.length 0 lo)).take (HT.sIx xs.length xs.length hi - HT.sIx xs.length 0 lo)
theorem cutV_length (xs : List V) (lo hi : Option Int) : (cutV xs lo hi).length ≤ xs.length := by
  unfold cutV
  rw [List.length_take, List.length_drop]
  omega
noncomputable def rCatT (K : PySem.W.Frag) : R2 := fun x y H Q => ∃ a b xs ys, x = .ref a ∧ y = .ref b ∧ SqT K H a xs ∧ SqT K H b ys ∧ xs ≠ [] ∧ xs.length + ys.length ≤ sizeLine ∧
  (ys = [] → Q (.ref a) H) ∧ (ys ≠ [] → ∀ p, H p = none → Q (.ref p) (upd H p (.tup (xs ++ ys))))
theorem Vals.nil_iff {xs : List V} {us : List Value} (r : Vals xs us) : us = [] ↔ xs = [] := by
  cases r with
  | nil => simp
  | cons _ _ => simp
theorem op_catT : OpR X (binaryOp .Add) (rCatT X.K) := by
  intro pins s σ H x y v u Q I rx ry h
  obtain ⟨a, b, xs, ys, rfl, rfl, ha, hb, hx, hz, q1, q2⟩ := h
  cases rx
  cases ry
  obtain ⟨its, r1, p1, _⟩ := I.tuple ha
  obtain ⟨its2, r2, p2, _⟩ := I.tuple hb
  refine HT.cat_tup p1 p2 (fun z => hx (r1.nil_iff.mp z)) (fun z => ⟨.ref a, H, I, rfl, q1 (r2.nil_iff.mp z)⟩) (fun z => ?_) (by rw [← r1.length, ← r2.length]; exact hz)
  refine ⟨.ref s.heap.objs.size, _, I.laid (t' := s.toks) (o := .tup (xs ++ ys)) (fun b ob q => Heap.get?_push_of_some _ q) (Nat.le_refl _) ?_, rfl, q2 (fun w => z (r2.nil_iff.mpr w)) _ (I.hok.fresh (Nat.le_refl _))⟩
  exact ⟨by rw [List.length_append]; exact hz, _, r1.append r2, IsTup.new _ _⟩
end
end L2
namespace L2
open PySem PySem.Spec PyProof.Rows
noncomputable def ixN (n : Nat) (i : Int) : Option Nat := if 0 ≤ i then (if i < n then some i.toNat else none) else if -(n : Int) ≤ i then some (i + n).toNat else none
noncomputable def atI {α : Type} (xs : List α) (i : Int) : Option α := (ixN xs.length i).bind fun j => xs[j]?
theorem ixN_seq {n : Nat} {i : Int} {j : Nat} (h : ixN n i = some j) : seqIndex? i n = some j ∧ j < n ∧ -(n : Int) ≤ i ∧ i < n := by
  unfold ixN at h
  by_cases h0 : 0 ≤ i
  · rw [if_pos h0] at h
    by_cases h1 : i < n
    · rw [if_pos h1] at h
      have e : i.toNat = j := Option.some.inj h
      exact ⟨by rw [seqIndex_of h0 h1, e], by omega, by omega, h1⟩
    · rw [if_neg h1] at h; cases h
  · rw [if_neg h0] at h
    by_cases h1 : -(n : Int) ≤ i
    · rw [if_pos h1] at h
      have e : (i + n).toNat = j := Option.some.inj h
      exact ⟨by rw [seqIndex_neg (by omega) h1, e], by omega, h1, by omega⟩
    · rw [if_neg h1] at h; cases h
theorem atI_get {α : Type} {xs : List α} {i : Int} {v : α} (h : atI xs i = some v) : ∃ j, seqIndex? i xs.length = some j ∧ xs[j]? = some v ∧ j < xs.length ∧ -(xs.length : Int) ≤ i ∧ i < xs.length := by
  unfold atI at h
  cases e : ixN xs.length i with
  | none => rw [e] at h; cases h
  | some j =>
    rw [e] at h
    obtain ⟨h1, h2, h3, h4⟩ := ixN_seq e
    exact ⟨j, h1, h, h2, h3, h4⟩
theorem atI_nat {α : Type} {xs : List α} {j : Nat} {v : α} (h : xs[j]? = some v) : atI xs (j : Int) = some v := by
  have hj : j < xs.length := (List.getElem?_eq_some_iff.mp h).1
  have e : ixN xs.length (j : Int) = some j := by
    unfold ixN
    rw [if_pos (by omega), if_pos (by omega)]; simp
  unfold atI; rw [e]; exact h
theorem atI_last {α : Type} (xs : List α) (v : α) : atI (xs ++ [v]) (-1) = some v := by
  have hl : (xs ++ [v]).length = xs.length + 1 := by simp
  have e : ixN (xs ++ [v]).length (-1) = some xs.length := by
    unfold ixN
    rw [hl, if_neg (by decide), if_pos (by omega)]
    congr 1
    omega
  unfold atI
  rw [e]
  show (xs ++ [v])[xs.length]? = some v
  simp
noncomputable def PlainIx (b : Expr) : Prop := ∀ o i, subscripted b false o i = operate [o, i] (getItem o i)
noncomputable def IxR (X : Cx) (r : R2) : Prop :=
  ∀ (value slice : Expr) (pins : List (Addr × Obj)) (s : Shared) (σ : St) (H : Hp) (x y : V) (v u : Value) (Q : VK), Inv X pins σ H s → RelV x v → RelV y u → r x y H Q →
    subscripted slice false v u = operate [v, u] (getItem v u) → wpAny (model X.prog X.w) X.A (subscriptTail value slice v u) (EP X pins σ Q) X.xe s
noncomputable def MtR (X : Cx) (id : String) (r : V → List V → Hp → VK → Prop) : Prop :=
  ∀ (pins : List (Addr × Obj)) (s : Shared) (σ : St) (H : Hp) (x : V) (xs : List V) (v : Value) (us : List Value) (Q : VK), Inv X pins σ H s → RelV x v → Vals xs us → r x xs H Q →
    wpAny (model X.prog X.w) X.A (call (.builtin id) (v :: us)) (EP X pins σ Q) X.xe s
section
variable {X : Cx} {a b : Expr} {ta tb : TE} {pos : Pos}
theorem pe_ix {r : R2} (hr : IxR X r) (ha : PE X a ta) (hb : PE X b tb) (hs : PlainIx b) : PE X (.Subscript a b pos) (tOp r ta tb) := by
  intro pins s σ H Q I h
  exact Subscript_ (binT ha hb I h fun v u s2 x y H2 I2 rx ry q => hr a b pins s2 σ H2 x y v u Q I2 rx ry q (hs _ _))
noncomputable def rIxL (K : PySem.W.Frag) : R2 := fun x y H Q => ∃ p xs i v, x = .ref p ∧ y = .int i ∧ SqL K H p xs ∧ atI xs i = some v ∧ Q v H
noncomputable def rIxT (K : PySem.W.Frag) : R2 := fun x y H Q => ∃ p xs i v, x = .ref p ∧ y = .int i ∧ SqT K H p xs ∧ atI xs i = some v ∧ Q v H
noncomputable def rIxS : R2 := fun x y H Q => ∃ z i c, x = .str z ∧ y = .int i ∧ z.length ≤ sizeLine ∧ atI z.cps.toList i = some c ∧ Q (.str ⟨#[c]⟩) H
theorem ix_list : IxR X (rIxL X.K) := by
  intro value slice pins s σ H x y v u Q I rx ry h hs
  obtain ⟨p, xs, i, z, rfl, rfl, hq, he, q⟩ := h
  cases rx
  obtain ⟨t, rfl⟩ := ry
  obtain ⟨its, r, pl, hz⟩ := I.list hq
  obtain ⟨j, h1, h2, h3, h4, h5⟩ := atI_get he
  obtain ⟨w, ew, rw'⟩ := r.get h2
  have hl := r.length
  have hn := line63
  have fin : EP X pins σ Q w s := ⟨z, H, I, rw', q⟩
  by_cases h0 : 0 ≤ i
  · have hj : i.toNat = j := by
      rw [seqIndex_of h0 h5] at h1
      exact Option.some.inj h1
    exact item_listR pl.isList h0 (by omega) (by rw [hj]; simpa using ew) fin hs
  · have hj : (i + (its.toArray.size : Int)).toNat = j := by
      rw [seqIndex_neg (by omega) h4] at h1
      rw [List.size_toArray, ← hl]
      exact Option.some.inj h1
    exact subscriptTail_builtinR (x := w) pl.isList.typeIs slot_list_getitem.lookup
      (wpAny_getItem_list_neg (Q := fun r s' => r = w ∧ EP X pins σ Q r s') pl.isList (by omega) (by rw [List.size_toArray] <;> omega) (by omega) (by rw [hj]; simpa using ew) ⟨rfl, fin⟩) hs
theorem ix_tup : IxR X (rIxT X.K) := by
  intro value slice pins s σ H x y v u Q I rx ry h hs
  obtain ⟨p, xs, i, z, rfl, rfl, hq, he, q⟩ := h
  cases rx
  obtain ⟨t, rfl⟩ := ry
  obtain ⟨its, r, pl, hz⟩ := I.tuple hq
  obtain ⟨j, h1, h2, h3, h4, h5⟩ := atI_get he
  obtain ⟨w, ew, rw'⟩ := r.get h2
  have hl := r.length
  have hn := line63
  have fin : EP X pins σ Q w s := ⟨z, H, I, rw', q⟩
  exact subscriptTail_builtinR (x := w) pl.typeIs slot_tuple_getitem.lookup
    (getItem_tuple (j := j) (Q := fun r s' => r = w ∧ EP X pins σ Q r s') pl (by omega) (by omega) (by rw [List.size_toArray, ← hl]; exact h1) (by simpa using ew) ⟨rfl, fin⟩) hs
theorem ix_str : IxR X rIxS := by
  intro value slice pins s σ H x y v u Q I rx ry h hs
  obtain ⟨z, i, c, rfl, rfl, hz, he, q⟩ := h
  obtain ⟨t, rfl⟩ := rx
  obtain ⟨t', rfl⟩ := ry
  obtain ⟨j, h1, h2, h3, h4, h5⟩ := atI_get he
  have hl : z.cps.toList.length = z.length := by simp [Str.length]
  rw [hl] at h1 h4 h5
  have hn := line63
  exact tail_any (typeIs_str s z t) slot_str_getitem.lookup (getItem_str (c := c) (by
    have e1 : decide (i < -(2 ^ 63 : Int)) = false := decide_eq_false (by omega)
    have e2 : decide (i ≥ 2 ^ 63) = false := decide_eq_false (by omega)
    rw [e1, e2, Bool.or_false]) (by rw [h1]; simpa using h2) ⟨.str ⟨#[c]⟩, H, I.tok _, ⟨_, rfl⟩, q⟩) hs
theorem mapSeq_set (its : List Value) (n j : Nat) (u : Value) : Obj.mapSeq (·.setIfInBounds j u) { cls := .type "list", data := .seq its.toArray n } = { cls := .type "list", data := .seq (its.set j u).toArray n } := by
  simp [Obj.mapSeq]
theorem Inv.lst {pins : List (Addr × Obj)} {σ : St} {H : Hp} {s : Shared} {p : Addr} {xs : List V} (I : Inv X pins σ H s) (h : H p = some (.lst xs)) :
    ∃ (its : List Value) (n : Nat), Vals xs its ∧ s.heap.get? p = some { cls := .type "list", data := .seq its.toArray n } ∧ xs.length ≤ sizeLine := by
  obtain ⟨z, its, n, r, e⟩ := I.hok p _ h
  exact ⟨its, n, r, e, z⟩
theorem Inv.lstUpd {pins : List (Addr × Obj)} {σ : St} {H : Hp} {s : Shared} {p : Addr} {xs ys : List V} {its its' : List Value} {n n' : Nat} {f : Obj → Obj} (I : Inv X pins σ H s) (h : H p = some (.lst xs))
    (ho : s.heap.get? p = some { cls := .type "list", data := .seq its.toArray n }) (hf : f { cls := .type "list", data := .seq its.toArray n } = { cls := .type "list", data := .seq its'.toArray n' }) (r : Vals ys its') (hz : ys.length ≤ sizeLine) (t : Nat) :
    Inv X pins σ (upd H p (.lst ys)) { s with heap := s.heap.update p f, toks := t } := by
  have e : (s.heap.update p f).get? p = some { cls := .type "list", data := .seq its'.toArray n' } := by
    rw [Heap.get?_update_self f ho (by rw [hf] <;> rfl), hf]
  refine I.write (x := p) (e := p) (by rw [h]; trivial) (.inl rfl) (fun b u hb q => (Heap.get?_update_other _ _ (Ne.symm hb)).trans q) ⟨_, e⟩ ?_
  exact ⟨hz, its', n', r, e⟩
noncomputable def rSetL : V → V → V → Hp → (Hp → Prop) → Prop := fun o i v H Q => ∃ p xs k j, o = .ref p ∧ i = .int k ∧ H p = some (.lst xs) ∧ ixN xs.length k = some j ∧ Q (upd H p (.lst (xs.set j v)))
theorem set_list : PSet X rSetL := by
  intro pins s σ H o i v ov iv u Q I ro ri rv h
  obtain ⟨p, xs, k, j, rfl, rfl, hp, hj, q⟩ := h
  cases ro
  obtain ⟨t, rfl⟩ := ri
  obtain ⟨its, n, r, ho, hz⟩ := I.lst hp
  obtain ⟨h1, h2, h3, h4⟩ := ixN_seq hj
  have hl := r.length
  have hn := line63
  have I' : Inv X pins σ (upd H p (.lst (xs.set j v))) { s with heap := s.heap.update p (Obj.mapSeq (·.setIfInBounds j u)) } :=
    I.lstUpd hp ho (mapSeq_set its n j u) (r.set rv j) (by rw [List.length_set]; exact hz) s.toks
  by_cases h0 : 0 ≤ k
  · have hk : k.toNat = j := by
      rw [seqIndex_of h0 h4] at h1
      exact Option.some.inj h1
    exact PySem.W.ki_setAt ho h0 (by omega) (by rw [List.size_toArray, ← hl]; exact h4) (by rw [hk]; exact ⟨_, I', q⟩)
  · have hk : (k + (its.toArray.size : Int)).toNat = j := by
      rw [seqIndex_neg (by omega) h3] at h1
      rw [List.size_toArray, ← hl]
      exact Option.some.inj h1
    exact PySem.W.ki_setBack ho (by omega) (by rw [List.size_toArray, ← hl]; exact h3) (by omega) (by rw [hk]; exact ⟨_, I', q⟩)
theorem slice_bounds (lo hi : Option Int) (n : Nat) : (sliceBounds lo hi none n).1 = ((HT.sIx n 0 lo : Nat) : Int) ∧ (sliceBounds lo hi none n).2.1 = ((HT.sIx n n hi : Nat) : Int) ∧ (sliceBounds lo hi none n).2.2 = 1 := by
  refine ⟨?_, ?_, rfl⟩
  · cases lo with
    | none => simp [sliceBounds, HT.sIx]
    | some i =>
      simp only [sliceBounds, HT.sIx, Option.getD_none, show (1 : Int) > 0 by decide, if_true]
      by_cases h : i < 0
      · simp only [h, if_true] <;> omega
      · simp only [h, if_false] <;> omega
  · cases hi with
    | none => simp [sliceBounds, HT.sIx]
    | some i =>
      simp only [sliceBounds, HT.sIx, Option.getD_none, show (1 : Int) > 0 by decide, if_true]
      by_cases h : i < 0
      · simp only [h, if_true] <;> omega
      · simp only [h, if_false] <;> omega
theorem slicePick_cut (its : List Value) (lo hi : Option Int) : slicePick its.toArray lo hi none = ((its.drop (HT.sIx its.length 0 lo)).take (HT.sIx its.length its.length hi - HT.sIx its.length 0 lo)).toArray := by
  obtain ⟨h1, h2, h3⟩ := slice_bounds lo hi its.toArray.size
  unfold slicePick
  rw [h1, h2, h3]
  simp only [sliceRange_one, pick_run, List.size_toArray] <;> rfl
noncomputable def rSlL (K : PySem.W.Frag) : V → Option Int → Option Int → Hp → VK → Prop := fun x lo hi H Q => ∃ a xs, x = .ref a ∧ SqL K H a xs ∧ ∀ p, H p = none → Q (.ref p) (upd H p (.lst (cutV xs lo hi)))
theorem sl_list : SlR X (rSlL X.K) := by
  intro pins s σ H x v vl vu lo hi sl Q I rx hs pl pu h
  obtain ⟨a, xs, rfl, hx, q⟩ := h
  cases rx
  obtain ⟨its, r, ht, hz⟩ := I.list hx
  have hlen := r.length
  refine ⟨"list", _, slot_list_getitem.lookup, ht.isList.typeIs, ?_⟩
  refine wpAny_getItem_list_slice ht.isList hs pl pu .none (by simp) ?_ (by rw [List.size_toArray] <;> omega)
  rw [slicePick_cut, ← hlen]
  refine ⟨.ref s.heap.objs.size, _, I.laid (t' := s.toks) (o := .lst (cutV xs lo hi)) (fun b ob q => Heap.get?_push_of_some _ q) (Nat.le_refl _) ?_, rfl, q _ (I.hok.fresh (Nat.le_refl _))⟩
  exact ⟨Nat.le_trans (cutV_length xs lo hi) hz, _, 0, (r.drop (HT.sIx xs.length 0 lo)).take (HT.sIx xs.length xs.length hi - HT.sIx xs.length 0 lo), Heap.get?_push_size _ rfl⟩
noncomputable def flatV : V → Bool
  | .non => true
  | .bl _ => true
  | .int _ => true
  | .str _ => true
  | _ => false
noncomputable def eqV : V → V → Bool
  | .non, .non => true
  | .bl a, .bl b => a == b
  | .bl a, .int b => (if a then 1 else 0) == b
  | .int a, .bl b => a == (if b then 1 else 0)
  | .int a, .int b => a == b
  | .str a, .str b => a == b
  | _, _ => false
theorem eqAt_V {A : Around} {s : Shared} {y x : V} {u v : Value} (ry : RelV y u) (rx : RelV x v) (fy : flatV y = true) (fx : flatV x = true) : SeqAt.EqAt A s u v (eqV y x) := by
  cases y with
  | non =>
    cases ry
    cases x with
    | non => cases rx; exact SeqAt.EqAt.same _
    | bl b => cases rx; exact SeqAt.EqAt.none_bool b
    | int b => obtain ⟨t, rfl⟩ := rx; exact SeqAt.EqAt.none_int b t
    | str b => obtain ⟨t, rfl⟩ := rx; exact SeqAt.EqAt.none_str b t
    | _ => exact absurd (show false = true from fx) Bool.false_ne_true
  | bl a =>
    cases ry
    cases x with
    | non => cases rx; exact SeqAt.EqAt.bool_none a
    | bl b => cases rx; exact SeqAt.EqAt.bool_bool a b
    | int b => obtain ⟨t, rfl⟩ := rx; exact SeqAt.EqAt.bool_int a b t
    | str b => obtain ⟨t, rfl⟩ := rx; exact SeqAt.EqAt.bool_str a b t
    | _ => exact absurd (show false = true from fx) Bool.false_ne_true
  | int a =>
    obtain ⟨t', rfl⟩ := ry
    cases x with
    | non => cases rx; exact SeqAt.EqAt.int_none a t'
    | bl b => cases rx; exact SeqAt.EqAt.int_bool a t' b
    | int b => obtain ⟨t, rfl⟩ := rx; exact SeqAt.EqAt.int_int a t' b t
    | str b => obtain ⟨t, rfl⟩ := rx; exact SeqAt.EqAt.int_str a t' b t
    | _ => exact absurd (show false = true from fx) Bool.false_ne_true
  | str a =>
    obtain ⟨t', rfl⟩ := ry
    cases x with
    | non => cases rx; exact SeqAt.EqAt.str_none a t'
    | bl b => cases rx; exact SeqAt.EqAt.str_bool a t' b
    | int b => obtain ⟨t, rfl⟩ := rx; exact SeqAt.EqAt.str_int a t' b t
    | str b => obtain ⟨t, rfl⟩ := rx; exact SeqAt.EqAt.str_str a t' b t
    | _ => exact absurd (show false = true from fx) Bool.false_ne_true
  | _ => exact absurd (show false = true from fy) Bool.false_ne_true
noncomputable def eqU (x : V) (u : Value) : Bool := match u with
  | .none => eqV .non x
  | .bool b => eqV (.bl b) x
  | .int i _ => eqV (.int i) x
  | .str z _ => eqV (.str z) x
  | _ => false
theorem eqU_of {x y : V} {u : Value} (r : RelV y u) (f : flatV y = true) : eqU x u = eqV y x := by
  cases y with
  | non => cases r; rfl
  | bl b => cases r; rfl
  | int i => obtain ⟨t, rfl⟩ := r; rfl
  | str z => obtain ⟨t, rfl⟩ := r; rfl
  | _ => exact absurd (show false = true from f) Bool.false_ne_true
theorem any_eqU {x : V} : ∀ {xs : List V} {us : List Value}, Vals xs us → xs.all flatV = true → us.any (eqU x) = xs.any fun y => eqV y x
  | _, _, .nil, _ => rfl
  | y :: xs, u :: us, .cons r t, f => by
    rw [List.all_cons, Bool.and_eq_true] at f
    rw [List.any_cons, List.any_cons, eqU_of r f.1, any_eqU t f.2]
theorem mem_eqAt {A : Around} {s : Shared} {x : V} {v : Value} (rx : RelV x v) (fx : flatV x = true) : ∀ {xs : List V} {us : List Value}, Vals xs us → xs.all flatV = true → ∀ u ∈ us, SeqAt.EqAt A s u v (eqU x u)
  | _, _, .nil, _ => fun u hu => by cases hu
  | y :: xs, u :: us, .cons r t, f => fun u' hu => by
    rw [List.all_cons, Bool.and_eq_true] at f
    rcases List.mem_cons.mp hu with rfl | hu
    · rw [eqU_of r f.1]; exact eqAt_V r rx f.1 fx
    · exact mem_eqAt rx fx t f.2 u' hu
noncomputable def inV (x : V) (xs : List V) : Bool := xs.any fun y => eqV y x
noncomputable def rIn (K : PySem.W.Frag) (neg : Bool) : R2 := fun x y H Q => ∃ p xs, y = .ref p ∧ (SqL K H p xs ∨ SqT K H p xs) ∧ flatV x = true ∧ xs.all flatV = true ∧ Q (.bl (if neg then !inV x xs else inV x xs)) H
theorem op_notIn_seq : OpR X (compareOp .NotIn) (rIn X.K true) := by
  intro pins s σ H x y v u Q I rx ry h
  obtain ⟨p, xs, rfl, hq, fx, fs, q⟩ := h
  cases ry
  rcases hq with hq | hq
  · obtain ⟨its, r, pl, hz⟩ := I.list hq
    refine SeqAt.notIn_listAt (eqU x) pl.isList (fun w hw => mem_eqAt rx fx r fs w (by simpa using hw)) ⟨.bl _, H, I, rfl, ?_⟩
    rw [show its.toArray.any (eqU x) = its.any (eqU x) by simp, any_eqU r fs]
    exact q
  · obtain ⟨its, r, pl, hz⟩ := I.tuple hq
    refine SeqAt.notIn_tupleAt (eqU x) pl (fun w hw => mem_eqAt rx fx r fs w (by simpa using hw)) ⟨.bl _, H, I, rfl, ?_⟩
    rw [show its.toArray.any (eqU x) = its.any (eqU x) by simp, any_eqU r fs]
    exact q
theorem call_len_seq : CallR X (.builtin "len") (fun xs H Q => ∃ p ys, xs = [.ref p] ∧ (SqL X.K H p ys ∨ SqT X.K H p ys) ∧ Q (.int ys.length) H) := by
  intro pins s σ H xs us Q I r h
  obtain ⟨p, ys, rfl, hq, q⟩ := h
  obtain ⟨u, rfl, rx⟩ := vals1 r
  cases rx
  have hn := line63
  rcases hq with hq | hq
  · obtain ⟨its, r', pl, hz⟩ := I.list hq
    have hlen := r'.length
    exact Calls.call_len_list pl.isList (by simp only [List.size_toArray] <;> omega) ⟨.int ys.length, H, I.tok _, ⟨s.toks + 1, by rw [List.size_toArray, hlen]⟩, q⟩
  · obtain ⟨its, r', pl, hz⟩ := I.tuple hq
    have hlen := r'.length
    exact len_tuple pl (by simp only [List.size_toArray] <;> omega) ⟨.int ys.length, H, I.tok _, ⟨s.toks + 1, by rw [List.size_toArray, hlen]⟩, q⟩
theorem call_list_of : CallR X (.type "list") (fun xs H Q => ∃ p ys, xs = [.ref p] ∧ (SqL X.K H p ys ∨ SqT X.K H p ys) ∧ ∀ l, H l = none → Q (.ref l) (upd H l (.lst ys))) := by
  intro pins s σ H xs us Q I r h
  obtain ⟨p, ys, rfl, hq, q⟩ := h
  obtain ⟨u, rfl, rx⟩ := vals1 r
  cases rx
  have fin : ∀ (its : List Value), Vals ys its → ys.length ≤ sizeLine → ∀ (h' : Heap) (c' : Nat), (∀ b o', s.heap.get? b = some o' → h'.get? b = some o') →
      h'.get? s.heap.objs.size = some { cls := .type "list", dict := none, data := .seq its.toArray c', slots := #[] } → EP X pins σ Q (.ref s.heap.objs.size) { s with heap := h' } := fun its r' hz h' c' kp e =>
    ⟨.ref s.heap.objs.size, _, I.laid (t' := s.toks) kp (Nat.le_refl _) (show ObjOk X.prog X.w _ h' _ (.lst ys) from ⟨hz, its, c', r', e⟩), rfl, q _ (I.hok.fresh (Nat.le_refl _))⟩
  rcases hq with hq | hq
  · obtain ⟨its, r', pl, hz⟩ := I.list hq
    have hlen := r'.length
    obtain ⟨o, ho, hc, n, hd⟩ := pl.isList
    exact call_list_seq p (.inl rfl) ho hc hd (fun h' c' kp e => fin its r' hz h' c' kp e) (by simp only [List.size_toArray] <;> omega)
  · obtain ⟨its, r', pl, hz⟩ := I.tuple hq
    have hlen := r'.length
    obtain ⟨o, ho, hc, n, hd⟩ := pl
    exact call_list_seq p (.inr rfl) ho hc hd (fun h' c' kp e => fin its r' hz h' c' kp e) (by simp only [List.size_toArray] <;> omega)
theorem call_tuple_of : CallR X (.type "tuple") (fun xs H Q => ∃ p ys, xs = [.ref p] ∧ ((SqL X.K H p ys ∧ ∀ l, H l = none → Q (.ref l) (upd H l (.tup ys))) ∨ (SqT X.K H p ys ∧ Q (.ref p) H))) := by
  intro pins s σ H xs us Q I r h
  obtain ⟨p, ys, rfl, h⟩ := h
  obtain ⟨u, rfl, rx⟩ := vals1 r
  cases rx
  rcases h with ⟨hq, q⟩ | ⟨hq, q⟩
  · obtain ⟨its, r', pl, hz⟩ := I.list hq
    have hlen := r'.length
    refine call_tuple_list pl.isList (fun h' kp => ?_) (by simp only [List.size_toArray] <;> omega)
    have I1 : Inv X pins σ H { s with heap := h' } := I.kept (t' := s.toks) kp
    have I2 : Inv X pins σ (upd H h'.objs.size (.tup ys)) { s with heap := h'.push { cls := .type "tuple", data := .seq its.toArray } } :=
      I1.laid (t' := s.toks) (fun b o e => Heap.get?_push_of_some _ e) (Nat.le_refl _) (show ObjOk X.prog X.w _ _ _ (.tup ys) from ⟨hz, its, r', IsTup.new _ _⟩)
    exact ⟨.ref h'.objs.size, _, I2, rfl, q _ (I1.hok.fresh (Nat.le_refl _))⟩
  · obtain ⟨its, r', pl, hz⟩ := I.tuple hq
    exact call_tuple_same pl ⟨.ref p, H, I, rfl, q⟩
noncomputable def tyV (K : PySem.W.Frag) (T : String) (x : V) (H : Hp) : Prop := match x with
  | .str _ => T = "str"
  | .int _ => T = "int"
  | .ref p => (T = "list" ∧ ∃ xs, SqL K H p xs) ∨ (T = "tuple" ∧ ∃ o, K.lookup p = some o ∧ o.cls = .type "tuple" ∧ o.dict = none) ∨
      (T = "dict" ∧ ((∃ kvs, H p = some (.dK kvs)) ∨ ∃ kvs, H p = some (.dT kvs))) ∨ (T = "set" ∧ ∃ S n, H p = some (.set S n))
  | _ => False
theorem tyV_is {pins : List (Addr × Obj)} {σ : St} {H : Hp} {s : Shared} {T : String} {x : V} {v : Value} (I : Inv X pins σ H s) (r : RelV x v) (ty : tyV X.K T x H) :
    s.TypeIs v T ∧ ∀ a, v = .ref a → ∃ ob, s.heap.get? a = some ob ∧ ob.dict = none := by
  cases x with
  | str z =>
    obtain ⟨t, rfl⟩ := r
    cases (show T = "str" from ty)
    exact ⟨typeIs_str s z t, fun _ e => nomatch e⟩
  | int i =>
    obtain ⟨t, rfl⟩ := r
    cases (show T = "int" from ty)
    exact ⟨typeIs_int s i t, fun _ e => nomatch e⟩
  | ref p =>
    cases r
    rcases ty with ⟨rfl, xs, hq⟩ | ⟨rfl, o, hk, hc, hd⟩ | ⟨rfl, hk⟩ | ⟨rfl, S, n, hk⟩
    · obtain ⟨its, _, pl, _⟩ := I.list hq
      refine ⟨pl.isList.typeIs, fun a e => ?_⟩
      cases e
      obtain ⟨o, n, e, c, hd, _⟩ := pl
      exact ⟨o, e, hd⟩
    · refine ⟨⟨o, I.kIn p o hk, hc⟩, fun a e => ?_⟩
      cases e
      exact ⟨o, I.kIn _ o hk, hd⟩
    · have z : ∃ o, s.heap.get? p = some o ∧ o.ExactDict := by
        rcases hk with ⟨kvs, hk⟩ | ⟨kvs, hk⟩
        · obtain ⟨_, _, _, _, o, _, _, e, ex, _⟩ := I.hok p _ hk
          exact ⟨o, e, ex⟩
        · obtain ⟨_, _, _, _, o, _, _, e, ex, _⟩ := I.hok p _ hk
          exact ⟨o, e, ex⟩
      obtain ⟨o, e, ex⟩ := z
      refine ⟨⟨o, e, ex.1⟩, fun a e2 => ?_⟩
      cases e2
      exact ⟨o, e, ex.2.1⟩
    · obtain ⟨o, _, _, _, e, ex, _⟩ := I.hok p _ hk
      refine ⟨⟨o, e, ex.1⟩, fun a e2 => ?_⟩
      cases e2
      exact ⟨o, e, ex.2.1⟩
  | _ => exact False.elim ty
noncomputable def tBM (K : PySem.W.Frag) (T : String) (r : V → List V → Hp → VK → Prop) (to : TE) (t : TA) : TE := fun σ H Q => to σ H fun x H1 => tyV K T x H1 ∧ t σ H1 fun xs H2 => r x xs H2 Q
variable {o e : Expr} {es : List Expr} {to : TE} {t : TA} {name : Str} {apos cpos : Pos} {T id : String} {r : V → List V → Hp → VK → Prop}
theorem pe_bm (pa : PlainAttrs T) (slot : Slot T name id) (hty : typeOf (.builtin id) = pure (.type "method_descriptor")) (hm : MtR X id r) (ho : PE X o to) (ha : PA X (e :: es) t)
    (hbase : attributeBase o name X.env (eval o X.env) = eval o X.env := by rfl)
    (hfew : ((backTo cpos (starEach (e :: es) X.env)).all (fun x => !x.1) && (backToKw cpos (keywordEach [] X.env)).all (fun x => x.1.isSome)
      && decide ((e :: es).length + ([] : List Keyword).length + (if ([] : List Keyword).isEmpty then 0 else 1) < 30)) = true := by rfl)
    (hline : (apos.endLine == cpos.line) = true := by rfl) (hs : starEach (e :: es) X.env = (false, eval e X.env) :: starEach es X.env := by rfl) (hplain : (backTo cpos (starEach es X.env)).any (·.1) = false := by rfl) :
    PE X (.Call (.Attribute o name apos) (e :: es) [] cpos) (tBM X.K T r to t) := by
  intro pins s σ H Q I h
  refine wpAny_Call_method_late hbase hfew hline rfl (thn (ho pins s σ H _ I h) fun v s1 hq8 => ?_)
  obtain ⟨x, H1, I1, r1, ty, q1⟩ := hq8
  obtain ⟨h1, h2⟩ := tyV_is I1 r1 ty
  refine ⟨T, id, pa, slot, hty, h1, h2, ?_⟩
  have hA := ha cpos pins s1 σ H1 _ I1 q1
  rw [hs] at hA ⊢
  refine Calls.callWith_builtin (by show (false || (backTo cpos (starEach es X.env)).any (·.1)) = false; rw [hplain] <;> rfl) (Calls.evalArgs_plain ?_)
  exact thn hA fun us s2 hq9 => AP.out hq9 fun vs H2 I2 r2 q2 => hm pins s2 σ H2 x vs v us Q I2 r1 r2 q2
end
end L2
namespace L2
open PySem PySem.Spec PyProof.Rows
noncomputable def MtM (X : Cx) (id : String) (r : V → List V → Hp → VK → Prop) : Prop :=
  ∀ (pins : List (Addr × Obj)) (s : Shared) (σ : St) (H : Hp) (x : V) (xs : List V) (v : Value) (us : List Value) (Q : VK), Inv X pins σ H s → RelV x v → Vals xs us → r x xs H Q →
    wpAny (model X.prog X.w) X.A (call (.builtin id) (v :: us)) (EP X pins σ Q) X.xe s
theorem Vals.one {x : V} {us : List Value} (h : Vals [x] us) : ∃ u, us = [u] ∧ RelV x u := by
  cases h with
  | cons r t =>
    cases t
    exact ⟨_, rfl, r⟩
theorem Vals.eraseIdx : ∀ {xs : List V} {us : List Value} (i : Nat), Vals xs us → Vals (xs.eraseIdx i) (us.eraseIdx i)
  | _, _, _, .nil => .nil
  | _, _, 0, .cons _ t => t
  | _, _, i + 1, .cons r t => .cons r (Vals.eraseIdx i t)
theorem Vals.rep {xs : List V} {us : List Value} (h : Vals xs us) : ∀ k : Nat, Vals (List.replicate k xs).flatten (List.replicate k us).flatten
  | 0 => .nil
  | k + 1 => by
    rw [List.replicate_succ, List.replicate_succ, List.flatten_cons, List.flatten_cons]
    exact Vals.append h (Vals.rep h k)
theorem len_erase {α : Type} : ∀ (l : List α) (i : Nat), (l.eraseIdx i).length ≤ l.length
  | [], _ => Nat.le_refl _
  | _ :: _, 0 => Nat.le_succ _
  | _ :: r, i + 1 => Nat.succ_le_succ (len_erase r i)
section
variable {X : Cx} {pins : List (Addr × Obj)} {σ : St} {H : Hp} {s : Shared} {l b : Addr} {xs ys zs : List V}
theorem Inv.lset {its its' : List Value} {n : Nat} {f : Array Value → Array Value} {t' : Nat} (I : Inv X pins σ H s) (hH : H l = some (.lst xs))
    (e : s.heap.get? l = some { cls := .type "list", data := .seq its.toArray n }) (hf : f its.toArray = its'.toArray) (hv : Vals ys its') (hz : ys.length ≤ sizeLine) :
    Inv X pins σ (upd H l (.lst ys)) { s with heap := s.heap.update l (Obj.mapSeq f), toks := t' } := by
  have q := PySem.IsL.update e f
  rw [hf] at q
  refine I.write (x := l) (e := l) (by rw [hH]; exact trivial) (.inl rfl) (fun b' u hb hu => (Heap.get?_update_other s.heap (Obj.mapSeq f) (Ne.symm hb)).trans hu) ⟨_, q⟩ ?_
  exact ⟨hz, its', _, hv, q⟩
theorem Inv.lnew {its : List Value} {t' : Nat} (I : Inv X pins σ H s) (hv : Vals ys its) (hz : ys.length ≤ sizeLine) :
    Inv X pins σ (upd H s.heap.objs.size (.lst ys)) { s with heap := s.heap.push { cls := .type "list", data := .seq its.toArray }, toks := t' } :=
  I.laid (fun _ _ q => Heap.get?_push_of_some _ q) (Nat.le_refl _) ⟨hz, its, 0, hv, Heap.get?_push_size _ rfl⟩
theorem Inv.fresh (I : Inv X pins σ H s) : H s.heap.objs.size = none := I.hok.fresh (Nat.le_refl _)
theorem Inv.lstM (I : Inv X pins σ H s) (hH : H l = some (.lst xs)) : xs.length ≤ sizeLine ∧ ∃ (its : List Value) (n : Nat), Vals xs its ∧ xs.length = its.length ∧ s.heap.get? l = some { cls := .type "list", data := .seq its.toArray n } := by
  obtain ⟨z, its, n, r, e⟩ := I.hok l _ hH
  exact ⟨z, its, n, r, r.length, e⟩
theorem notLongL {n : Nat} (h : n ≤ sizeLine) : Builtin.List.listTooLong n = false := by
  unfold Builtin.List.listTooLong
  exact decide_eq_false (by omega)
end
section
variable {X : Cx}
noncomputable def rAppend : V → List V → Hp → VK → Prop := fun x vs H Q => ∃ l xs y, x = .ref l ∧ vs = [y] ∧ H l = some (.lst xs) ∧ xs.length < sizeLine ∧ Q .non (upd H l (.lst (xs ++ [y])))
theorem mt_append : MtM X "list.append" rAppend := by
  intro pins s σ H x vs v us Q I rx rv h
  obtain ⟨l, xs, y, rfl, rfl, hH, hz, q⟩ := h
  cases rx
  obtain ⟨u, rfl, ru⟩ := rv.one
  obtain ⟨z, its, n, r, hl, e⟩ := I.lstM hH
  refine call_meets F.slot_list_append ⟨_, e, rfl⟩ F.entry_list_append (F.args_list_append_2 _ _) (PySem.list_append l its.toArray n u (by rw [List.size_toArray]; omega)) ⟨e, ?_⟩
  refine ⟨.non, _, I.lset (its' := its ++ [u]) hH e (by simp) (r.append (.cons ru .nil)) ?_, rfl, q⟩
  rw [List.length_append, List.length_singleton]
  omega
noncomputable def rExtend : V → List V → Hp → VK → Prop := fun x vs H Q => ∃ l b xs zs, x = .ref l ∧ vs = [.ref b] ∧ H l = some (.lst xs) ∧ H b = some (.lst zs) ∧ xs.length + zs.length ≤ sizeLine ∧ Q .non (upd H l (.lst (xs ++ zs)))
theorem mt_extend : MtM X "list.extend" rExtend := by
  intro pins s σ H x vs v us Q I rx rv h
  obtain ⟨l, b, xs, zs, rfl, rfl, hH, hB, hz, q⟩ := h
  cases rx
  obtain ⟨u, rfl, ru⟩ := rv.one
  cases ru
  obtain ⟨z, its, n, r, hl, e⟩ := I.lstM hH
  obtain ⟨z2, its2, n2, r2, hl2, e2⟩ := I.lstM hB
  have hsz : its.toArray.size + its2.toArray.size ≤ sizeLine := by rw [List.size_toArray, List.size_toArray]; omega
  have hlong : ¬ (!its.toArray.isEmpty && Builtin.List.listTooLong (its.toArray.size + its2.toArray.size)) = true := by
    rw [notLongL hsz, Bool.and_false]
    exact Bool.false_ne_true
  refine call_meets F.slot_list_extend ⟨_, e, rfl⟩ F.entry_list_extend (F.args_list_extend_2 _ _)
    (AutoSeq1.list_extend_list_list_0 l its.toArray n b its2.toArray n2 hlong (by rw [List.size_toArray]; omega) (by omega)) ⟨e, e2, ?_⟩
  refine ⟨.non, _, I.lset (its' := its ++ its2) hH e (by simp) (r.append r2) ?_, rfl, q⟩
  rw [List.length_append]
  omega
noncomputable def rCat : R2 := fun x y H Q => ∃ l b xs zs, x = .ref l ∧ y = .ref b ∧ H l = some (.lst xs) ∧ H b = some (.lst zs) ∧ xs.length + zs.length ≤ sizeLine ∧ ∀ p, H p = none → Q (.ref p) (upd H p (.lst (xs ++ zs)))
theorem op_cat : OpR X (binaryOp .Add) rCat := by
  intro pins s σ H x y v u Q I rx ry h
  obtain ⟨l, b, xs, zs, rfl, rfl, hH, hB, hz, q⟩ := h
  cases rx
  cases ry
  obtain ⟨z, its, n, r, hl, e⟩ := I.lstM hH
  obtain ⟨z2, its2, n2, r2, hl2, e2⟩ := I.lstM hB
  refine PySem.P.add_list e e2 ?_ (by rw [List.size_toArray, List.size_toArray]; omega)
  have ea : its.toArray ++ its2.toArray = (its ++ its2).toArray := by simp
  rw [ea]
  exact ⟨.ref _, _, I.lnew (t' := s.toks) (r.append r2) (by rw [List.length_append]; omega), rfl, q _ I.fresh⟩
end
section
variable {prog : Program} {w : World} {A : Around} {E : Value → Shared → Prop} {s : Shared}
end
section
variable {X : Cx}
end
end L2
namespace L2
open PySem PySem.Spec PyProof.Rows
section
variable {κ : Type} [DecidableEq κ]
end
section
variable {P : Program} {w : World} {H : Hp} {h : Heap} {a : Addr}
end
section
variable {X : Cx} {pins : List (Addr × Obj)} {σ : St} {H : Hp} {s : Shared} {a : Addr} {y v : V} {u r : Value} {o : Option V} {A : Around} {E : Value → Shared → Prop}
theorem Inv.big (I : Inv X pins σ H s) : sysModules < s.heap.objs.size := by
  have h : mainGlobals < s.heap.objs.size := (I.mod.glob.keeps I.bk).lt
  exact Nat.lt_trans (by decide) h
theorem d_write {h' : Heap} {t' : Nat} {ob : HO} (I : Inv X pins σ H s) (mu : Mut (H a)) (hs : Heap.SameBut a s.heap h') (he : ∃ q, h'.get? a = some q) (new : ObjOk X.prog X.w (upd H a ob) h' a ob) :
    Inv X pins σ (upd H a ob) { s with heap := h', toks := t' } :=
  I.write (x := a) (e := a) mu (.inl rfl) (fun b q hb z => (hs.2 b hb).trans z) he new
end
section
variable {X : Cx} {pins : List (Addr × Obj)} {σ : St} {H : Hp} {s : Shared} {a : Addr} {kvs : List (Key × V)} {k : Key} {u : Value} {A : Around} {E : Value → Shared → Prop}
end
noncomputable def NoSl (i : Expr) : Prop := ∀ ov iv, subscripted i false ov iv = operate [ov, iv] (getItem ov iv)
theorem subD_of {prog : Program} {w : World} {A : Around} {E : Value → Shared → Prop} {s : Shared} {env : Env} {value slice : Expr} {pos : Pos} {T id : String} {Q : Value → Shared → Prop}
    (hl : typeLookup (.type T) "__getitem__" = pure (some (.builtin id))) (hs : NoSl slice)
    (h : wpAny (model prog w) A (eval value env) (fun o s₁ => wpAny (model prog w) A (eval slice env) (fun i s₂ => s₂.TypeIs o T ∧ wpAny (model prog w) A (getItem o i) Q E s₂) E s₁) E s) :
    wpAny (model prog w) A (eval (.Subscript value slice pos) env) Q E s := by
  refine Subscript_ (wpAny_mono h (fun o s₁ h₁ => wpAny_mono h₁ (fun i s₂ h₂ => ?_) fun _ _ x => x) fun _ _ x => x)
  obtain ⟨hT, h₂⟩ := h₂
  unfold subscriptTail
  refine wpAny_bind ?_
  rw [getitemInPython_of_ne hT.not_modules]
  refine wpAny_bind (wpAny_specialOf hT hl ?_)
  have fin : wpAny (model prog w) A (subscripted slice false o i) (fun r s₃ => wpAny (model prog w) A (letTemporaryGo value o r >>= fun _ => pure r) Q E s₃) E s₂ := by
    rw [hs o i]
    exact wpAny_operating (wpAny_mono h₂ (fun r s₃ h₃ => wpAny_bind (wpAny_letTemporaryGo (wpAny_pure h₃))) fun _ _ x => x)
  first
    | exact wpAny_pure (wpAny_bind fin)
    | exact wpAny_bind (wpAny_pure (wpAny_bind fin))
    | exact wpAny_bind fin
section
variable {X : Cx} {o i e value : Expr} {pos pos' tpos : Pos} {td ty tv : TE}
end
section
variable {X : Cx} {pos : Pos}
end
section
variable {X : Cx} {pins : List (Addr × Obj)} {σ : St} {H : Hp} {s : Shared} {a : Addr} {y d : V} {u r : Value} {o : Option V} {A : Around} {E : Value → Shared → Prop}
end
section
variable {X : Cx} {o e f : Expr} {apos cpos : Pos} {td ty tx : TE}
end
section
variable {X : Cx} {pins : List (Addr × Obj)} {σ : St} {H : Hp} {s : Shared} {a : Addr} {kvs : List (Key × V)} {A : Around} {E : Value → Shared → Prop}
end
section
variable {X : Cx} {pins : List (Addr × Obj)} {σ : St} {H : Hp} {s : Shared} {a : Addr} {y : V} {u : Value} {A : Around} {E : Value → Shared → Prop}
end
end L2
namespace Att
open PySem PySem.W PySem.Calls PyProof.Rows
theorem ints_of_wellAll {P : Params} {h : Heap} : ∀ (ns : List Int) (vs : List Value), WellAll P h vs (ns.map WData.int) → IntsAre vs ns := by
  intro ns
  induction ns with
  | nil =>
    intro vs w
    rw [List.map_nil] at w
    cases w
    exact .nil
  | cons n ns ih =>
    intro vs w
    rw [List.map_cons] at w
    cases w with
    | cons a b =>
      cases a
      exact .cons _ _ (ih _ b)
theorem script_of {l : OpenLaw} {n : Nat} (hn : l.most = some n) {P : Params} {h : Heap} {args : List WData} {vals : List Value}
    (hpre : l.row.toRowW.claim.pre args = true) (hwl : WellAll P h vals args) :
    ∃ a vs ns, vals = [Value.ref a] ∧ args = [WData.list (ns.map WData.int)] ∧ h.get? a = some { cls := .type "list", data := .seq vs.toArray } ∧ IntsAre vs ns ∧ ns.length ≤ n := by
  have hsh : WShape.hasAll [] args [.list .int] = true := (pre_splitW hpre).1
  have hc : l.pre.holds [] { args := args } = true := (pre_splitW hpre).2
  obtain ⟨d, r, rfl, h1, h2⟩ := hasAllW_cons hsh
  obtain rfl := hasAllW_nil h2
  obtain ⟨xs, rfl, h3⟩ := hasW_list h1
  obtain ⟨ns, rfl⟩ := items_int h3
  have hlen : ns.length ≤ n := by
    unfold OpenLaw.pre at hc
    have h4 : (WTm.not (.lt (.lit (.int (n : Int))) (.len (.arg 0)))).holds [] { args := [.list (ns.map .int)] } = true := by
      have h4 := (holds_andW hc).1
      rw [hn] at h4
      exact h4
    have h5 := condW_of h4 (w_not (w_lt w_lit (w_len_list (w_arg rfl))))
    rw [List.length_map] at h5
    refine Nat.le_of_not_lt fun q => ?_
    have q' : (n : Int) < ((ns.length : Nat) : Int) := by omega
    first
      | (rw [decide_eq_true q'] at h5; exact absurd h5 (by decide))
      | (simp at h5; omega)
  cases hwl with
  | cons w1 w2 =>
    cases w2
    cases w1 with
    | list ho hall => exact ⟨_, _, ns, rfl, rfl, ho, ints_of_wellAll ns _ hall, hlen⟩
theorem post_true (l : OpenLaw) (args : List WData) : l.row.toRowW.claim.post args (.bool true) args = true :=
  postW_of (r := l.row.toRowW) (X := (true == true))
    (show WShape.has [] (.bool true) .bool = true by first | rfl | decide | simp [WShape.has, WShape.arms, WShape.armsAll])
    (show (WTm.eq .res (.lit (.bool true))).value [] { args := args, res := some (.bool true), after := args } = some (.bool (true == true)) from w_eq_bool (w_res rfl) w_lit) rfl
theorem attach_call {l : OpenLaw} {n : Nat} {q : Program} {loose : List Str} {XP : (Str → Option Value) → Heap → Prop} {YP : World → Heap → Prop} {d : DefRec}
    (hn : l.most = some n) (hdf : d.params.defaults = [])
    (call : ∀ (w : World) (s₀ s₁ : Shared) (mg mb : Str → Option Value) (fa : Addr) (o : Obj) (pm cd doc : Value) (a : Addr) (vs : List Value) (ns : List Int),
      Ground q loose [] XP w s₀ mg mb s₁.heap → YP w s₁.heap →
      s₁.heap.get? fa = some o → o.data = .func (docDef d.name d.params d.body d.scope pm cd doc) → s₁.heap.CodeRec cd d.name → mg d.name = some (.ref fa) →
      s₁.heap.get? a = some { cls := .type "list", data := .seq vs.toArray } → IntsAre vs ns → ns.length ≤ n → s₁.gens = #[] →
      codeAny (model l.prog w) callerA (.call (.ref fa) ⟨[.ref a], []⟩) (fun r s' => r = .ok (.ret (.bool true)) ∧ OldK s₁.heap s'.heap ∧ s'.os = s₁.os ∧ AllBare s'.gens) s₁) :
    WalkO q loose XP YP l.row.toRowW d [] (fun f vs => PySem.call f vs) := by
  intro w s₀ s₁ mg mb G Y fa o pm cd doc dV kV ho hd hcd hD hmg hg args vals as hpre hlay hrd hwl hlo
  obtain rfl : dV = .none := Dflts.none hD hdf
  obtain rfl : kV = .none := Dflts.noKw hD
  obtain ⟨a, vs, ns, rfl, rfl, hobj, hints, hlen⟩ := script_of hn hpre hwl
  refine enter_call (codeAny_mono (call w s₀ s₁ mg mb fa o pm cd doc a vs ns G Y ho (fd_plain hd) hcd hmg hobj hints hlen hg) fun r s' hq => ?_)
  obtain ⟨rfl, h2, h3, h4⟩ := hq
  exact ⟨.inl ⟨.bool true, .bool true, [], rfl, fun _ => rfl, .bool true, post_true l _, fun _ => ⟨List.Pairwise.nil, fun _ hm => (nomatch hm)⟩⟩, h2, h3, h4⟩
section
variable {prog : Program} {w : World} {A : Around} {E : Value → Shared → Prop} {s : Shared} {K : Frag}
end
end Att
namespace L2
open PySem PySem.Spec PyProof.Rows
theorem vals_ints {vs : List Value} {ns : List Int} (h : IntsAre vs ns) : Vals (ns.map V.int) vs := by
  induction h with
  | nil => exact .nil
  | cons n t h ih => exact .cons ⟨t, rfl⟩ ih
noncomputable def Only (H : Hp) : Prop := ∀ b, H b = none ∨ ∃ o xs, H b = some (.frz o (.lst xs))
theorem law_call {P : Program} {w : World} {K : PySem.W.Frag} {mg mb : Str → Option Value} {CX : CXT} {k : Nat} {fa a : Addr} {fd : FuncData} {x : Str} {sp : Sp} {s₁ : Shared} {vs : List Value} {ns : List Int}
    (KX : K.In s₁.heap) (hns : s₁.heap.Ns mainGlobals mg) (hb : s₁.heap.Ns builtinsNs mb) (hbb : ∀ x : Str, x ≠ "__name__" → mb x = bootBuiltins x) (hlim : s₁.heap.NoLimit) (hg : s₁.gens = #[])
    (ha : s₁.heap.get? a = some { cls := .type "list", data := .seq vs.toArray }) (hi : IntsAre vs ns) (hl : ns.length ≤ sizeLine) (hr : Room k callerA)
    (F : ∀ base : Heap, K.In base → base.Ns mainGlobals mg → FnOk P w K mg base CX k fa fd [x] sp) (hbind : ∀ (s : Shared) (u : Value), BindsTo s fd ⟨[u], []⟩ [(x, u)])
    (hsp : ∀ H : Hp, Only H → SqL K H a (ns.map V.int) → sp [.ref a] H (fun v _ => v = .bl true) fun _ _ _ => False)
    (hCX : ∀ H e s', CX [] H s₁ (fun _ _ _ => False) e s' → False) :
    codeAny (model P w) callerA (.call (.ref fa) ⟨[.ref a], []⟩) (fun r s' => r = .ok (.ret (.bool true)) ∧ OldK s₁.heap s'.heap ∧ s'.os = s₁.os ∧ AllBare s'.gens) s₁ := by
  have rv := vals_ints hi
  have lenV := hi.length
  -- from an abstract heap in which nothing but the script may be tracked
  have core : ∀ H : Hp, Only H → SqL K H a (ns.map V.int) → HOk P w H s₁.heap → (∀ b, H b ≠ none → b = a) → (H a ≠ none → K.lookup a = none) →
      codeAny (model P w) callerA (.call (.ref fa) ⟨[.ref a], []⟩) (fun r s' => r = .ok (.ret (.bool true)) ∧ OldK s₁.heap s'.heap ∧ s'.os = s₁.os ∧ AllBare s'.gens) s₁ := by
    intro H hO hS hok hA hK
    have base_of : ∀ {b : Addr} {o : Obj}, s₁.heap.get? b = some o → H b = none → (hidT s₁.heap H).get? b = some o := fun e n => hidT_get e n
    have noA : ∀ {b : Addr} {o : Obj} {es : Array DictEntry} {ep : Nat}, s₁.heap.get? b = some o → o.data = .dict es ep → H b = none := fun {b o es ep} e d => by
      cases q : H b with
      | none => rfl
      | some u =>
        have e' : b = a := hA b (by rw [q]; simp)
        subst e'
        rw [ha] at e; cases e
        have d' : Data.seq vs.toArray _ = Data.dict es ep := d
        cases d'
    have nsK : ∀ {b : Addr} {m : Str → Option Value}, s₁.heap.Ns b m → (hidT s₁.heap H).Ns b m := fun {b m} ⟨o, es, ep, e, d, r⟩ => ⟨o, es, ep, base_of e (noA e d), d, r⟩
    have hKb : K.In (hidT s₁.heap H) := fun b o e => base_of (KX b o e) (by
      cases q : H b with
      | none => rfl
      | some u =>
        have e' : b = a := hA b (by rw [q]; simp)
        subst e'
        rw [hK (by rw [q]; simp)] at e; cases e)
    have hM : Mod K mg (hidT s₁.heap H) := ⟨hKb, nsK hns, ⟨mb, nsK hb, hbb⟩, let ⟨mc, h1, h2⟩ := hlim; ⟨mc, nsK h1, h2⟩⟩
    have e0 : Env0 P w K mg (hidT s₁.heap H) callerA [] s₁ H := ⟨rfl, hM, fun b o e => of_hidT e, Nat.le_of_eq (hidT_size _ _), trivial, fun b hb => absurd (show b ∈ ([] : List Addr) from hb) (by simp), hok, .of_eq hg⟩
    refine codeAny_mono ((F _ hKb (nsK hns)).run callerA [] s₁ H ⟨[.ref a], []⟩ [.ref a] [.ref a] _ _ hr e0 (hbind s₁ (.ref a)) (.cons rfl .nil) (hsp H hO hS)) fun r s' h => ?_
    cases r with
    | error e => exact (hCX H e s' h).elim
    | ok fl =>
      cases fl with
      | next => exact False.elim h
      | brk => exact False.elim h
      | cont => exact False.elim h
      | ret u =>
        obtain ⟨v, H', os, bare, un, hok', r', q⟩ := h
        have q' : v = .bl true := q
        subst q'
        obtain rfl : u = Value.bool true := r'
        refine ⟨rfl, OldK.of_keep fun b o e => ?_, os, bare⟩
        cases q : H b with
        | none => exact un.keep b o e q (by intro z; exact absurd (show b ∈ ([] : List Addr) from z) (by simp)) (by simp)
        | some u =>
          rcases hO b with z | ⟨ob, xs, z⟩
          · rw [q] at z; cases z
          · have z2 := un.frzs b ob _ z
            obtain ⟨e1, _⟩ := hok b _ z
            obtain ⟨e2, _⟩ := hok' b _ z2
            rw [e] at e1; cases e1
            exact e2
  cases hk : K.lookup a with
  | some o =>
    -- the script is one of the module's own objects
    have e := KX a o hk
    rw [ha] at e
    cases e
    refine core (fun _ => none) (fun _ => .inl rfl) (.inr ⟨_, vs.toArray, _, hk, rfl, rfl, rfl, by rw [List.size_toArray, lenV]; exact hl, by simpa using rv⟩) (fun b u z => by have z' : (none : Option HO) = some u := z; cases z') (fun b z => absurd rfl z) fun z => absurd rfl z
  | none =>
    refine core (fun b => if b = a then some (.frz { cls := .type "list", data := .seq vs.toArray } (.lst (ns.map V.int))) else none) (fun b => ?_) (.inl (.inr ⟨{ cls := .type "list", data := .seq vs.toArray }, if_pos rfl⟩)) (fun b u z => ?_) (fun b z => ?_) fun _ => hk
    · by_cases hb : b = a
      · exact .inr ⟨_, _, if_pos hb⟩
      · exact .inl (if_neg hb)
    · by_cases hb : b = a
      · have z' := (if_pos hb).symm.trans z
        cases z'
        subst hb
        exact ⟨ha, by rw [List.length_map]; exact hl, vs, _, rv, ha⟩
      · have z' := (if_neg hb).symm.trans z
        cases z'
    · by_cases hb : b = a
      · exact hb
      · exact absurd (if_neg hb) z
end L2
namespace L2
open PySem PySem.Spec PyProof.Rows
theorem walk_of {l : PySem.W.OpenLaw} {n k : Nat} {q : Program} {loose : List Str} {XP : (Str → Option Value) → Heap → Prop} {YP : World → Heap → Prop} {d : DefRec} {K : Params → PySem.W.Frag} {CX : World → CXT} {sp : World → Sp} {x : Str}
    (hn : l.most = some n) (hn2 : n ≤ sizeLine) (hdf : d.params.defaults = []) (hr : Room k callerA)
    (hY : ∀ (w : World) (h : Heap), YP w h → (K w.params).In h)
    (F : ∀ (w : World) (mg : Str → Option Value) (fa : Addr) (h : Heap), (K w.params).In h → h.Ns mainGlobals mg → mg d.name = some (.ref fa) →
      ∃ fd : FuncData, (∀ (s : Shared) (u : Value), BindsTo s fd ⟨[u], []⟩ [(x, u)]) ∧
        ∀ base : Heap, (K w.params).In base → base.Ns mainGlobals mg → FnOk l.prog w (K w.params) mg base (CX w) k fa fd [x] (sp w))
    (hsp : ∀ (w : World) (H : Hp) (a : Addr) (ns : List Int), ns.length ≤ n → Only H → SqL (K w.params) H a (ns.map V.int) → sp w [.ref a] H (fun v _ => v = .bl true) fun _ _ _ => False)
    (hCX : ∀ (w : World) (H : Hp) (s : Shared) (e : Value) (s' : Shared), CX w [] H s (fun _ _ _ => False) e s' → False) :
    PySem.W.WalkO q loose XP YP l.row.toRowW d [] (fun f vs => PySem.call f vs) := by
  refine Att.attach_call hn hdf fun w s₀ s₁ mg mb fa o pm cd doc a vs ns G Y ho hd hcd hmg hobj hints hlen hg => ?_
  have KX := hY w _ Y
  obtain ⟨fd, hb, hF⟩ := F w mg fa _ KX G.T.g hmg
  exact law_call KX G.T.g G.T.b G.T.builtins G.T.nolimit hg hobj hints (Nat.le_trans hlen hn2) hr hF hb (fun H hO hS => hsp w H a ns hlen hO hS) fun H e s' => hCX w H s₁ e s'
end L2
namespace L2
open PySem PySem.Spec PyProof.Rows
noncomputable def inClass (s : Stmt) (j : Nat) : Stmt := match s with
  | .ClassDef _ _ _ body _ _ _ _ _ _ _ => body.getD j (.Pass ⟨0, 0, 0, 0⟩)
  | _ => .Pass ⟨0, 0, 0, 0⟩
noncomputable def defArgs (s : Stmt) : Arguments := match s with
  | .FunctionDef _ a _ _ _ _ _ _ _ _ => a
  | _ => { posonlyargs := [], args := [], vararg := none, kwonlyargs := [], kw_defaults := [], kwarg := none, defaults := [] }
noncomputable def defBody (s : Stmt) : List Stmt := match s with
  | .FunctionDef _ _ b _ _ _ _ _ _ _ => b
  | _ => []
noncomputable def defScope (s : Stmt) : Scope := match s with
  | .FunctionDef _ _ _ _ _ _ sc _ _ _ => sc
  | _ => { kind := .function, names := [], isGenerator := false, isCoroutine := false }
noncomputable abbrev CX0 : CXT := fun _ _ _ _ _ _ => False
noncomputable abbrev E0 : XK := fun _ _ _ => False
theorem pass0 {X : Cx} : Passes CX0 X E0 := fun _ _ _ _ _ _ _ h => h.elim
structure Fun (K : PySem.W.Frag) (x qual : Str) (st : Stmt) (f : Addr) (fd : FuncData) : Prop where
  ex : ∃ (oc : Value) (od : Option Addr) (kV doc pm : Value) (an : Option Addr) (cdv ct : Value) (osl : Array (Option Value)),
    fd = PySem.W.fnOf x qual (defArgs st) (defBody st) (defScope st) .none kV doc pm an cdv ct ∧ K.lookup f = some ⟨oc, od, .func fd, osl⟩ ∧ PySem.W.codeIn K cdv qual = true
  kp : PySem.W.keepIn K (.ref f) = true
section
variable {P : Program} {w : World} {K : PySem.W.Frag} {mg : Str → Option Value} {base : Heap}
theorem Fun.ok {x qual : Str} {st : Stmt} {f : Addr} {fd : FuncData} {N ps : List Str} {k : Nat} {sp : Sp} (F : Fun K x qual st f fd) (S : FnScope N ps (defScope st)) (len : ∀ vs H Q E, sp vs H Q E → vs.length = ps.length)
    (hbody : ∀ (cdv : Value) (A : Around) (outer : List Env) (s : Shared) (H : Hp) (vs : List V) (Q : VK) (E : XK), Room k (A.deeper (envOfC qual (defScope st) s.heap.objs.size f cdv)) → sp vs H Q E →
      ∃ t, PSs (cxOf CX0 P w K mg base N qual (defScope st) f cdv A outer s H E).nox (defBody st) t ∧ t { nx := fun _ H' => Q .non H', rt := Q } (start N vs) H) : FnOk P w K mg base CX0 (k + 1) f fd ps sp := by
  obtain ⟨oc, od, kV, doc, pm, an, cdv, ct, osl, rfl, lk, hcd⟩ := F.ex
  refine fn_of lk hcd S len fun A outer s H vs Q E hr hsp => ?_
  obtain ⟨t, h, q⟩ := hbody cdv A outer s H vs Q E hr hsp
  exact ⟨t, h.nox, q⟩
theorem Fun.binds {x qual : Str} {st : Stmt} {f : Addr} {fd : FuncData} {ps : List Str} (F : Fun K x qual st f fd)
    (h : ∀ (kV doc pm : Value) (an : Option Addr) (cdv ct : Value) (us : List Value), us.length = ps.length → bindArgs (PySem.W.fnOf x qual (defArgs st) (defBody st) (defScope st) .none kV doc pm an cdv ct) ⟨us, []⟩ = pure (ps.zip us)) : Binds K fd ps [] := by
  obtain ⟨oc, od, kV, doc, pm, an, cdv, ct, osl, rfl, lk, hcd⟩ := F.ex
  exact .all (h kV doc pm an cdv ct)
theorem fun_mk {x qual : Str} {st : Stmt} {f : Addr} {oc : Value} {od an : Option Addr} {osl : Array (Option Value)} {kV doc pm cdv ct : Value} (l : K.lookup f = some ⟨oc, od, .func (PySem.W.fnOf x qual (defArgs st) (defBody st) (defScope st) .none kV doc pm an cdv ct), osl⟩)
    (c : PySem.W.codeIn K cdv qual = true) (k : PySem.W.keepIn K (.ref f) = true) : Fun K x qual st f (PySem.W.fnOf x qual (defArgs st) (defBody st) (defScope st) .none kV doc pm an cdv ct) := ⟨⟨oc, od, kV, doc, pm, an, cdv, ct, osl, rfl, l, c⟩, k⟩
end
theorem small1000 {n : Nat} (h : n ≤ 1000) : n < sizeLine := Nat.lt_of_le_of_lt h (by decide)
section
variable {X : Cx}
theorem pv (i : Nat) {x : Str} {pos : Pos} (hN : X.N[i]? = some x := by rfl) (hv : Vis X.env.scope x := by first | exact Or.inl rfl | exact Or.inr (Or.inl rfl) | exact Or.inr (Or.inr rfl)) (hd : (x == ("__debug__" : Str)) = false := by decide)
    (hcd : (x == ("__classdict__" : Str)) = false := by decide) : PE X (.Name x pos) (tVar i) := pe_var hN hv hd hcd
end
theorem iteF {A B : Prop} (h : B) : if false = true then A else B := by
  rw [if_neg Bool.false_ne_true]
  exact h
theorem iteT {A B : Prop} (h : A) : if true = true then A else B := by
  rw [if_pos rfl]
  exact h
theorem ite2 {c A B : Prop} [Decidable c] (h1 : c → A) (h2 : ¬ c → B) : if c then A else B := by
  by_cases h : c
  · rw [if_pos h]
    exact h1 h
  · rw [if_neg h]
    exact h2 h
theorem iteNS {c A B : Prop} [Decidable c] (hc : c) (h : B) : if (!decide c) = true then A else B := by
  rw [decide_eq_true hc]
  exact iteF h
noncomputable def Same (H H' : Hp) : Prop := ∀ b o, H b = some o → H' b = some o
theorem Same.refl (H : Hp) : Same H H := fun _ _ h => h
theorem Same.trans {H H1 H2 : Hp} (a : Same H H1) (b : Same H1 H2) : Same H H2 := fun c o h => b c o (a c o h)
theorem Same.free {H H' : Hp} (e : Same H H') {l : Addr} (h : H' l = Option.none) : H l = Option.none := by
  cases q : H l with
  | none => rfl
  | some o =>
    rw [e l o q] at h
    cases h
theorem Same.seq {K : PySem.W.Frag} {H H' : Hp} {a : Addr} {xs : List V} (e : Same H H') (h : SqL K H a xs) : SqL K H' a xs := by
  rcases h with (h | ⟨o, h⟩) | h
  · exact .inl (.inl (e _ _ h))
  · exact .inl (.inr ⟨o, e _ _ h⟩)
  · exact .inr h
section
variable {κ : Type} [DecidableEq κ]
end
end L2
namespace L2
open PySem PySem.Spec PyProof.Rows
section
variable {X : Cx} {pins : List (Addr × Obj)} {σ : St} {H : Hp} {s : Shared} {h' : Heap}
theorem Inv.turnedN {t' : Nat} {ch : List Addr} (I : Inv X pins σ H s) (k : ∀ b o, b ∉ ch → s.heap.get? b = some o → h'.get? b = some o) (hf : ∀ b ∈ ch, FpOk X pins H b) : Inv X pins σ H { s with heap := h', toks := t' } := by
  have nit : ∀ b u, H b = some u → b ∉ ch := fun b u e z => by rw [(hf b z).1] at e; cases e
  refine I.step (g' := s.gens) (d' := s.drawn) (ch := ch) (fun b hb => ?_) (fun b o _ _ hc e _ => k b o hc e) (fun b o _ _ hc e _ => ⟨o.slots, k b o hc e⟩) (fun _ _ _ _ n => n)
    (fun b o hc e => ⟨o, k b o hc e⟩) (fun _ _ e => e) (fun _ _ _ e => e) (fun b ps e => ⟨#[], by rw [e]; simp⟩) (fun m hm => ?_) (fun b u e => ?_) I.bare
  · obtain ⟨f0, f1, f2, f3, f4, f5⟩ := hf b hb
    exact ⟨f3, f1, f4, f5⟩
  · obtain ⟨o, es, ep, ho, r⟩ := hm
    exact ⟨o, es, ep, k _ o (fun z => (hf _ z).2.1 rfl) ho, r⟩
  · refine (I.hok b u e).stay (fun c v hc q => k c v ?_ q) (fun _ q => q) fun _ _ q => q
    rcases hc with z | z
    · rw [z]; exact nit b u e
    · exact nit c _ z
theorem Inv.turnLaid {t' : Nat} {ch : List Addr} {a : Addr} {o : HO} (I : Inv X pins σ H s) (k : ∀ b u, b ∉ ch → s.heap.get? b = some u → h'.get? b = some u) (hf : ∀ b ∈ ch, FpOk X pins H b) (hp : s.heap.objs.size ≤ a)
    (new : ObjOk X.prog X.w (upd H a o) h' a o) : Inv X pins σ (upd H a o) { s with heap := h', toks := t' } := by
  have hn : H a = none := I.hok.fresh hp
  have nit : ∀ b u, H b = some u → b ∉ ch := fun b u e z => by rw [(hf b z).1] at e; cases e
  refine I.step (g' := s.gens) (d' := s.drawn) (ch := ch) (fun b hb => ?_) (fun b o _ _ hc e _ => k b o hc e) (fun b o _ _ hc e _ => ⟨o.slots, k b o hc e⟩)
    (fun b u _ q n => by rw [upd_ne (Nat.ne_of_lt (Nat.lt_of_lt_of_le (Heap.lt_size q) hp))]; exact n)
    (fun b o hc e => ⟨o, k b o hc e⟩) (fun b xs q => by rw [upd_ne (ne_of_none q hn)]; exact q) (fun b u xs q => by rw [upd_ne (ne_of_none q hn)]; exact q) (fun b ps q => ⟨#[], by rw [upd_ne (ne_of_none q hn), q]; simp⟩) (fun m hm => ?_) (fun b u e => ?_) I.bare
  · obtain ⟨f0, f1, f2, f3, f4, f5⟩ := hf b hb
    exact ⟨f3, f1, f4, f5⟩
  · obtain ⟨o, es, ep, ho, r⟩ := hm
    exact ⟨o, es, ep, k _ o (fun z => (hf _ z).2.1 rfl) ho, r⟩
  · by_cases hb : b = a
    · subst hb; rw [upd_same] at e; cases e; exact new
    · rw [upd_ne hb] at e
      refine (I.hok b u e).stay (fun c v hc q => k c v ?_ q) (fun c q => by rw [upd_ne (ne_of_none q hn)]; exact q) fun c xs q => by rw [upd_ne (ne_of_none q hn)]; exact q
      rcases hc with z | z
      · rw [z]; exact nit b u e
      · exact nit c _ z
end
noncomputable def Ite (K : PySem.W.Frag) (a : Addr) : It :=
  ⟨fun i H => ∃ xs x, SqL K H a xs ∧ xs[i]? = some x,
   fun i H v H' => ∃ T y, v = .ref T ∧ H T = none ∧ H' = upd H T (.tup [.int ((i : Nat) : Int), y]) ∧ ∀ xs, SqL K H a xs → xs[i]? = some y,
   fun i H => ∃ xs, SqL K H a xs ∧ xs.length ≤ i⟩
theorem turn_enum {P : Program} {w : World} {K : PySem.W.Frag} {es : List Expr} {k : Nat} {pos : Pos} (a e it : Addr) (hei : e ≠ it) :
    Turn P w K (.Tuple es k pos) (Ite K a) [e, it] e (fun i h => (∃ old, IsEnum h e it ((i : Nat) : Int) old) ∧ h.IsListIter it a i) where
  mem := by simp
  obj := fun i h st b hb => by
    obtain ⟨⟨old, he⟩, hit⟩ := st
    rcases List.mem_cons.mp hb with rfl | hb
    · exact ⟨_, he, fun v z => by
        have z' : Data.fields _ = Data.cell v := z
        cases z'⟩
    · have e1 : b = it := by simpa using hb
      subst e1
      obtain ⟨o, e, c, d⟩ := hit
      exact ⟨o, e, fun v z => by rw [d] at z; cases z⟩
  keep := fun i h h' st k => by
    obtain ⟨⟨old, he⟩, hit⟩ := st
    exact ⟨⟨old, k e (by simp) _ he⟩, hit.at fun o q => k it (by simp) o q⟩
  item := by
    intro X hP hw hK hc i pins s σ H E I hf st hg
    subst hP hw hK
    obtain ⟨⟨old, he⟩, hit⟩ := st
    obtain ⟨xs, x, hq, hx⟩ := hg
    obtain ⟨its, rv, p, hz⟩ := I.list hq
    obtain ⟨u, hu, ru⟩ := rv.get hx
    refine wpAny_pyNext_enum_item he hit p.isList (x := u) (by simpa using hu) hei fun h1 ho hit' hT hsz hk => ?_
    refine ⟨_, rfl, wpAny_letOwnedTupleGo_enum ho fun h2 he2 hs2 => ?_⟩
    have elt : e < s.heap.objs.size := Heap.lt_size he
    have ilt : it < s.heap.objs.size := by obtain ⟨_, q, _⟩ := hit; exact Heap.lt_size q
    have hT2 : h2.get? s.heap.objs.size = some { cls := .type "tuple", data := .seq #[.int i s.toks, u] } := (hs2.2 _ (Nat.ne_of_gt elt)).trans hT
    have kk : ∀ b o, b ∉ [e, it] → s.heap.get? b = some o → h2.get? b = some o := fun b o hb q =>
      (hs2.2 b fun z => hb (by simp [z])).trans (hk b o (fun z => hb (by simp [z])) (fun z => hb (by simp [z])) q)
    have I2 : Inv X pins σ (upd H s.heap.objs.size (.tup [.int ((i : Nat) : Int), x])) { s with heap := h2, toks := s.toks + 1 } :=
      I.turnLaid (ch := [e, it]) kk hf (Nat.le_refl _) ⟨by simp only [List.length_cons, List.length_nil]; rw [sizeLine_eq]; decide, [.int i s.toks, u], .cons ⟨_, rfl⟩ (.cons ru .nil), ⟨_, hT2, rfl, 0, rfl⟩⟩
    refine ⟨.ref s.heap.objs.size, _, I2, rfl, ⟨_, x, rfl, I.hok.fresh (Nat.le_refl _), rfl, fun ys hy => by rw [I.list_inj hy hq]; exact hx⟩, ⟨⟨u, by simpa using he2⟩, hit'.at fun o q => (hs2.2 it hei.symm).trans q⟩, fun b hb => ?_⟩
    have hlt : b < s.heap.objs.size := by
      rcases List.mem_cons.mp hb with rfl | hb
      · exact elt
      · have e1 : b = it := by simpa using hb
        subst e1
        exact ilt
    rw [upd_ne (Nat.ne_of_lt hlt)]
    exact (hf b hb).1
  done := by
    intro X hP hw hK hc i pins s σ H E I hf st hg
    subst hP hw hK
    obtain ⟨⟨old, he⟩, hit⟩ := st
    obtain ⟨xs, hq, hx⟩ := hg
    obtain ⟨its, rv, p, hz⟩ := I.list hq
    have hl := rv.length
    refine wpAny_pyNext_enum_end (I.ok.hd hc) he hit p.isList (Array.getElem?_eq_none (by simp; omega)) fun h1 eb => ⟨rfl, ?_⟩
    exact I.turnedN (t' := s.toks) (ch := [e, it]) (fun b o hb q => eb b o (fun z => hb (by simp [z])) q) hf
  self := fun _ _ _ _ _ st h => by
    obtain ⟨⟨old, he⟩, _⟩ := st
    exact wpAny_pyIter_enum he h
section
variable {X : Cx}
noncomputable def iEnum (K : PySem.W.Frag) (ta : TA) : TI := fun σ H R => ta σ H fun vs H1 => ∃ a xs, vs = [.ref a] ∧ SqL K H1 a xs ∧ R (Ite K a) H1
theorem pi_enum {es : List Expr} {k : Nat} {a : Expr} {ta : TA} {p p2 pos : Pos} (hg : Gl X "enumerate") (hm : X.mg "enumerate" = none) (ha : PA X [a] ta) (hs : starEach [a] X.env = [(false, eval a X.env)] := by rfl) :
    PI X (.Tuple es k p2) (.Call (.Name "enumerate" p) [a] [] pos) (iEnum X.K ta) := by
  intro pins s σ H R I h
  refine Call_ (ld_blt I hg hm boot_enumerate (PyProof.Rows.callWith_type1 (thn (ha pos pins s σ H _ I h) fun us s1 hq9 => AP.out hq9 fun vs H1 I1 r1 q1 => ?_) hs rfl))
  obtain ⟨l, xs, e, hq, q⟩ := q1
  subst e
  obtain ⟨u, rfl, ru⟩ := vals1 r1
  cases (show u = Value.ref l from ru)
  obtain ⟨its, rv, pl, hz⟩ := I1.list hq
  refine call_enumerate_list pl.isList fun h1 he hit hsz hk => ?_
  refine wpAny_pyIter_enum he ?_
  refine ⟨s1.heap.objs.size + 1, [s1.heap.objs.size + 1, s1.heap.objs.size], _, _, H1, rfl, I1.kept (t' := s1.toks) hk, turn_enum l _ _ (Nat.ne_of_gt (Nat.lt_succ_self _)), ⟨⟨.none, by simpa using he⟩, hit⟩, fun b hb => ?_, q⟩
  have hle : s1.heap.objs.size ≤ b := by
    rcases List.mem_cons.mp hb with rfl | hb
    · exact Nat.le_succ _
    · have e1 : b = s1.heap.objs.size := by simpa using hb
      exact Nat.le_of_eq e1.symm
  exact I1.fpOk hle (I1.hok.fresh hle)
end
section
variable {X : Cx}
end
open Builtin.Int (intBits)
noncomputable def Bt (m : Nat) (x : Int) : Prop := intBits x ≤ m
theorem Bt.iff {m : Nat} {x : Int} : Bt m x ↔ x.natAbs < 2 ^ m := intBits_le_iff
theorem Bt.mono {m n : Nat} {x : Int} (h : Bt m x) (l : m ≤ n) : Bt n x := Nat.le_trans h l
theorem Bt.mul {m n : Nat} {x y : Int} (h : Bt m x) (g : Bt n y) : Bt (m + n) (x * y) := intBits_mul_le h g
theorem Bt.le {m : Nat} {x y : Int} (h : x.natAbs ≤ y.natAbs) (g : Bt m y) : Bt m x := intBits_le_of_natAbs h g
section
variable {X : Cx}
noncomputable def CMulB (i j : Int) : Prop := Bt 4000 i ∧ Bt 4000 j
theorem op_mulB : OpR X (binaryOp .Mult) (rI CMulB fun i j => .int (i * j)) := opI fun _ _ _ _ _ _ _ hc q => mul_int q (IntMulOk.of_le hc.1 hc.2 (by decide))
noncomputable def CDivB (_ j : Int) : Prop := j ≠ 0 ∧ Bt 9000 j
theorem CDivB.log {i j : Int} (h : CDivB i j) : j.natAbs.log2 < 9000 := by
  have h1 : intBits j ≤ 9000 := h.2
  have h2 : (j == 0) = false := by simpa using h.1
  unfold Builtin.Int.intBits at h1
  rw [h2] at h1
  simp only [Bool.false_eq_true, if_false] at h1
  omega
theorem op_fdivB : OpR X (binaryOp .FloorDiv) (rI CDivB fun i j => .int (i.fdiv j)) := opI fun _ _ _ _ _ _ _ hc q => floordiv_int hc.1 q (.inl (PyProof.noPylong_of_log2 hc.log))
end
theorem small {n : Nat} (h : n ≤ 1000) : n ≤ sizeLine := Nat.le_of_lt (small1000 h)
theorem same_new {H : Hp} {p : Addr} (h : H p = none) (o : HO) : Same H (upd H p o) := fun b u q => by rw [upd_ne (ne_of_none q h)]; exact q
theorem Same.tup {K : PySem.W.Frag} {H H' : Hp} {a : Addr} {xs : List V} (e : Same H H') (h : SqT K H a xs) : SqT K H' a xs := by
  rcases h with (h | ⟨o, h⟩) | h
  · exact .inl (.inl (e _ _ h))
  · exact .inl (.inr ⟨o, e _ _ h⟩)
  · exact .inr h
end L2
namespace L2
open PySem PySem.Spec PyProof.Rows
theorem bo_int : bootBuiltins "int" = some (.type "int") := by decide +kernel
theorem bo_bool : bootBuiltins "bool" = some (.type "bool") := by decide +kernel
theorem bo_tuple : bootBuiltins "tuple" = some (.type "tuple") := by decide +kernel
theorem bo_list : bootBuiltins "list" = some (.type "list") := by decide +kernel
theorem bo_str : bootBuiltins "str" = some (.type "str") := by decide +kernel
theorem bo_range : bootBuiltins "range" = some (.type "range") := by decide +kernel
theorem bo_abs : bootBuiltins "abs" = some (.builtin "abs") := by decide +kernel
theorem bo_len : bootBuiltins "len" = some (.builtin "len") := by decide +kernel
theorem bo_sum : bootBuiltins "sum" = some (.builtin "sum") := by decide +kernel
theorem bo_max : bootBuiltins "max" = some (.builtin "max") := by decide +kernel
theorem bo_min : bootBuiltins "min" = some (.builtin "min") := by decide +kernel
theorem bo_isinstance : bootBuiltins "isinstance" = some (.builtin "isinstance") := by decide +kernel
theorem iteNT {c A B : Prop} [Decidable c] (hc : ¬ c) (h : A) : if (!decide c) = true then A else B := by
  rw [decide_eq_false hc]
  exact iteT h
theorem cutV_take (xs : List V) (k : Nat) : cutV xs none (some (k : Int)) = xs.take k := by
  unfold cutV
  rw [HT.sIx_none, HT.sIx_nat, List.drop_zero, Nat.sub_zero]
  by_cases h : k ≤ xs.length
  · rw [Nat.min_eq_left h]
  · rw [Nat.min_eq_right (by omega), List.take_of_length_le (Nat.le_refl _), List.take_of_length_le (by omega)]
end L2
namespace L2
open PySem PySem.Spec PyProof.Rows
end L2
namespace My
noncomputable def dv (n p : Int) : Int := if p < 0 then -((Int.gcd n p : Nat) : Int) else ((Int.gcd n p : Nat) : Int)
noncomputable def fN (n p : Int) : Int := n.fdiv (dv n p)
noncomputable def fD (n p : Int) : Int := p.fdiv (dv n p)
theorem gcd_pos {n p : Int} (h : p ≠ 0) : 0 < Int.gcd n p := by
  refine Nat.pos_of_ne_zero fun z => h ?_
  exact (Int.gcd_eq_zero_iff.mp z).2
theorem dv_ne {n p : Int} (h : p ≠ 0) : dv n p ≠ 0 := by
  have g := gcd_pos (n := n) h
  unfold dv
  split <;> omega
theorem dv_dvd_left (n p : Int) : dv n p ∣ n := by
  unfold dv
  split
  · exact Int.neg_dvd.mpr (Int.gcd_dvd_left ..)
  · exact Int.gcd_dvd_left ..
theorem dv_dvd_right (n p : Int) : dv n p ∣ p := by
  unfold dv
  split
  · exact Int.neg_dvd.mpr (Int.gcd_dvd_right ..)
  · exact Int.gcd_dvd_right ..
theorem dv_abs (n p : Int) : (dv n p).natAbs = Int.gcd n p := by
  unfold dv
  split <;> omega
theorem fdiv_of_dvd {d a : Int} (h : d ∣ a) (hd : d ≠ 0) : a = d * a.fdiv d := by
  obtain ⟨c, rfl⟩ := h
  have e : (d * c).fdiv d = c := by rw [Int.mul_comm]; exact Int.mul_fdiv_cancel c hd
  rw [e]
theorem fN_eq {n p : Int} (h : p ≠ 0) : n = dv n p * fN n p := fdiv_of_dvd (dv_dvd_left n p) (dv_ne h)
theorem fD_eq {n p : Int} (h : p ≠ 0) : p = dv n p * fD n p := fdiv_of_dvd (dv_dvd_right n p) (dv_ne h)
theorem fD_pos {n p : Int} (h : p ≠ 0) : 0 < fD n p := by
  have e := fD_eq (n := n) h
  have g := gcd_pos (n := n) h
  have z : fD n p ≠ 0 := fun z => h (by rw [e, z, Int.mul_zero])
  refine Int.lt_of_not_ge fun l => ?_
  have l' : fD n p < 0 := by omega
  by_cases hp : p < 0
  · have hd : dv n p < 0 := by unfold dv; rw [if_pos hp]; omega
    have := Int.mul_pos_of_neg_of_neg hd l'
    omega
  · have hd : 0 < dv n p := by unfold dv; rw [if_neg hp]; omega
    have := Int.mul_neg_of_pos_of_neg hd l'
    omega
theorem f_worth {n p : Int} (h : p ≠ 0) : fN n p * p = n * fD n p := by
  have e1 := fN_eq (n := n) h
  have e2 := fD_eq (n := n) h
  generalize fN n p = a at *
  generalize fD n p = b at *
  generalize dv n p = d at *
  subst e1
  rw [e2, ← Int.mul_assoc, Int.mul_comm a d]
theorem f_cop {n p : Int} (h : p ≠ 0) : Int.gcd (fD n p) (fN n p) = 1 := by
  have e1 := fN_eq (n := n) h
  have e2 := fD_eq (n := n) h
  have g := gcd_pos (n := n) h
  have ga := dv_abs n p
  have k : Int.gcd n p = (dv n p).natAbs * Int.gcd (fN n p) (fD n p) := by
    have : Int.gcd (dv n p * fN n p) (dv n p * fD n p) = (dv n p).natAbs * Int.gcd (fN n p) (fD n p) := Int.gcd_mul_left ..
    rw [← e1, ← e2] at this
    exact this
  rw [ga] at k
  rw [Int.gcd_comm]
  generalize Int.gcd (fN n p) (fD n p) = c at *
  generalize Int.gcd n p = d at *
  have k2 : d * 1 = d * c := by omega
  exact (Nat.eq_of_mul_eq_mul_left g k2).symm
theorem gcd_step {x y : Int} (hx : 0 ≤ x) (hy : 0 < y) : Int.gcd y (x % y) = Int.gcd x y := by
  obtain ⟨a, rfl⟩ := Int.eq_ofNat_of_zero_le hx
  obtain ⟨b, rfl⟩ := Int.eq_ofNat_of_zero_le (Int.le_of_lt hy)
  show Nat.gcd (b : Int).natAbs ((a : Int) % (b : Int)).natAbs = Nat.gcd (a : Int).natAbs (b : Int).natAbs
  rw [← Int.natCast_emod]
  simp only [Int.natAbs_natCast]
  rw [Nat.gcd_comm b, ← Nat.gcd_rec, Nat.gcd_comm]
theorem gcd_end {x : Int} (hx : 0 ≤ x) : ((Int.gcd x 0 : Nat) : Int) = x := by
  rw [Int.gcd_zero_right]
  omega
noncomputable def ab (x : Int) : Int := if x < 0 then -x else x
theorem ab_nonneg (x : Int) : 0 ≤ ab x := by unfold ab; split <;> omega
theorem ab_natAbs (x : Int) : (ab x).natAbs = x.natAbs := by unfold ab; split <;> omega
theorem gcd_ab (x y : Int) : Int.gcd (ab x) (ab y) = Int.gcd x y := by
  show Nat.gcd (ab x).natAbs (ab y).natAbs = Nat.gcd x.natAbs y.natAbs
  rw [ab_natAbs, ab_natAbs]
theorem gcd_ab_right (x y : Int) : Int.gcd x (ab y) = Int.gcd x y := by
  show Nat.gcd x.natAbs (ab y).natAbs = Nat.gcd x.natAbs y.natAbs
  rw [ab_natAbs]
theorem gcd_le {x y : Int} (h : y ≠ 0) : Int.gcd x y ≤ y.natAbs := Nat.le_of_dvd (by omega) (Int.gcd_dvd_natAbs_right x y)
theorem dv_le {n p : Int} (h : p ≠ 0) : (dv n p).natAbs ≤ p.natAbs := by rw [dv_abs]; exact gcd_le h
end My
namespace L2
open PySem PySem.Spec PyProof.Rows
noncomputable def clOf (scope : Scope) (env : Env) : List (Str × Addr) := (scope.names.filterMap fun p => if p.2 == .free then (env.cells.lookup p.1).map fun c => (p.1, c) else none).reverse
theorem lookup_mem {α : Type} {x : Str} {c : α} : ∀ {l : List (Str × α)}, l.lookup x = some c → (x, c) ∈ l
  | [], h => by simp at h
  | (y, d) :: r, h => by
    rw [List.lookup_cons] at h
    cases e : x == y with
    | true =>
      rw [e] at h
      have e1 : x = y := by simpa using e
      have e2 : d = c := by simpa using h
      rw [e1, e2]
      exact List.mem_cons_self
    | false =>
      rw [e] at h
      exact List.mem_cons_of_mem _ (lookup_mem h)
theorem lookup_some_of_mem {α : Type} {x : Str} : ∀ {l : List (Str × α)} {c : α}, (x, c) ∈ l → ∃ d, l.lookup x = some d
  | [], c, h => by simp at h
  | (y, d) :: r, c, h => by
    rw [List.lookup_cons]
    cases e : x == y with
    | true => exact ⟨d, rfl⟩
    | false =>
      rcases List.mem_cons.mp h with z | z
      · cases z
        simp at e
      · exact lookup_some_of_mem z
theorem clOf_sub {scope : Scope} {env : Env} {x : Str} {c : Addr} (h : (clOf scope env).lookup x = some c) : env.cells.lookup x = some c := by
  have m := List.mem_reverse.mp (lookup_mem h)
  obtain ⟨p, _, e⟩ := List.mem_filterMap.mp m
  split at e
  · obtain ⟨d, e1, e2⟩ := Option.map_eq_some_iff.mp e
    cases e2
    exact e1
  · cases e
theorem clOf_has {scope : Scope} {env : Env} {x : Str} {c : Addr} (h : scope.names.lookup x = some .free) (hc : env.cells.lookup x = some c) : (clOf scope env).lookup x = some c := by
  have m : (x, c) ∈ clOf scope env := List.mem_reverse.mpr (List.mem_filterMap.mpr ⟨(x, .free), lookup_mem h, by simp [hc]⟩)
  obtain ⟨d, e⟩ := lookup_some_of_mem m
  have := clOf_sub e
  rw [hc] at this
  cases this
  exact e
theorem relabel_lookup {scope : Scope} {env : Env} {x : Str} {k : NameKind} : ∀ {names : List (Str × NameKind)},
    (names.map fun (n, k) => if (k == NameKind.free && env.scope.kind == .function && env.kindOf n == some .cell) then (n, NameKind.cell) else (n, k)).lookup x = some k →
      names.lookup x = some k ∨ (k = .cell ∧ names.lookup x = some .free)
  | [], h => by simp at h
  | (n, j) :: r, h => by
    rw [List.map_cons] at h
    have ih := @relabel_lookup scope env x k r
    cases e : x == n with
    | true =>
      by_cases hc : (j == NameKind.free && env.scope.kind == .function && env.kindOf n == some .cell) = true
      · simp only [hc, if_true, List.lookup_cons, e] at h
        have hj : j = .free := by
          rw [Bool.and_eq_true, Bool.and_eq_true] at hc
          simpa using hc.1.1
        rw [List.lookup_cons, e]
        cases h
        exact .inr ⟨rfl, by rw [hj]⟩
      · simp only [hc, Bool.false_eq_true, if_false, List.lookup_cons, e] at h
        rw [List.lookup_cons, e]
        exact .inl h
    | false =>
      have h' : (r.map fun (n, k) => if (k == NameKind.free && env.scope.kind == .function && env.kindOf n == some .cell) then (n, NameKind.cell) else (n, k)).lookup x = some k := by
        by_cases hc : (j == NameKind.free && env.scope.kind == .function && env.kindOf n == some .cell) = true
        · simp only [hc, if_true, List.lookup_cons, e] at h
          exact h
        · simp only [hc, Bool.false_eq_true, if_false, List.lookup_cons, e] at h
          exact h
      rw [List.lookup_cons, e]
      exact ih h'
noncomputable def cxC (X : Cx) (Nc : List Str) (scope : Scope) (s₂ : Shared) (H₂ : Hp) (C : Addr) (fp : List Addr) : Cx where
  prog := X.prog
  w := X.w
  K := X.K
  mg := X.mg
  base := X.base
  A := X.A
  N := Nc
  s₀ := s₂
  H₀ := H₂
  env := compEnvC scope (clOf scope X.env) C X.env
  outer := X.stack
  stack := X.stack
  ex := fp
  fn := fun _ => false
  calm := X.calm
  pn := []
  xe := fun _ _ => False
noncomputable def stC (ixs : List (Option Nat)) (σ : St) : St := ixs.map fun o => match o with | none => none | some j => (σ[j]?).join
noncomputable def ixOk (N Nc : List Str) (ixs : List (Option Nat)) (osc sc : List (Str × NameKind)) : Bool :=
  ixs.length == Nc.length && (List.range ixs.length).all fun i => match ixs[i]? with
    | some (some j) => (match Nc[i]?, N[j]? with | some x, some y => x == y && osc.lookup x == some .cell && sc.lookup x == some .free | _, _ => false)
    | _ => true
noncomputable def scOk (osc sc : List (Str × NameKind)) : Bool := sc.all fun p => p.2 != .cell && (p.2 != .local || sc.lookup p.1 == some .local) && (p.2 != .free || osc.lookup p.1 == some .cell)
theorem ixOk_at {N Nc : List Str} {ixs : List (Option Nat)} {osc sc : List (Str × NameKind)} (h : ixOk N Nc ixs osc sc = true) {i j : Nat} (e : ixs[i]? = some (some j)) :
    ∃ x, Nc[i]? = some x ∧ N[j]? = some x ∧ osc.lookup x = some .cell ∧ sc.lookup x = some .free := by
  unfold ixOk at h
  rw [Bool.and_eq_true] at h
  have hi : i < ixs.length := (List.getElem?_eq_some_iff.mp e).1
  have q := List.all_eq_true.mp h.2 i (List.mem_range.mpr hi)
  rw [e] at q
  dsimp only at q
  cases e1 : Nc[i]? with
  | none => rw [e1] at q; simp at q
  | some x =>
    rw [e1] at q
    cases e2 : N[j]? with
    | none => rw [e2] at q; simp at q
    | some y =>
      rw [e2] at q
      dsimp only at q
      simp only [Bool.and_eq_true, beq_iff_eq] at q
      obtain ⟨⟨q1, q2⟩, q3⟩ := q
      subst q1
      exact ⟨x, rfl, rfl, q2, q3⟩
theorem ixOk_len {N Nc : List Str} {ixs : List (Option Nat)} {osc sc : List (Str × NameKind)} (h : ixOk N Nc ixs osc sc = true) : ixs.length = Nc.length := by
  unfold ixOk at h
  rw [Bool.and_eq_true] at h
  simpa using h.1
noncomputable def PTs (X : Cx) (ifs : List Expr) (t : TT) : Prop :=
  ∀ (pins : List (Addr × Obj)) (s : Shared) (σ : St) (H : Hp) (Q : Bool → Hp → Prop), Inv X pins σ H s → t σ H Q →
    wpAny (model X.prog X.w) X.A (forIn ifs true fun c r => if r = true then do let ok ← isTrue c X.env (eval c X.env); pure (ForInStep.yield ok) else pure (ForInStep.yield r)) (TP X pins σ Q) X.xe s
theorem pts_nil {X : Cx} : PTs X [] (fun _ H Q => Q true H) := fun _ _ _ H _ I h => wpAny_tests_nil ⟨H, I, h⟩
theorem pts_one {X : Cx} {c : Expr} {t : TT} (h : PT X c t) : PTs X [c] t := fun pins s σ H Q I q => wpAny_tests_one (h pins s σ H Q I q)
section
variable {prog : Program} {w : World} {A : Around} {R : Result → Shared → Prop} {s : Shared}
theorem compLoop_any {elt target iter : Expr} {ifs : List Expr} {scope : Scope} {pos : Pos} {it acc : Value} {env : Env} (I : Nat → Shared → Prop)
    (turn : ∀ n s, I n s → wpAny (model prog w) A (pyNext it) (fun r s₁ => match r with
      | none => R (.ok .next) s₁
      | some v => wpAny (model prog w) A (letOwnedTupleGo target it v) (fun _ s₁' => wpAny (model prog w) A (assign target env v) (fun _ s₂ =>
          wpAny (model prog w) A (forIn ifs true fun c r => if r = true then do let ok ← isTrue c env (eval c env); pure (ForInStep.yield ok) else pure (ForInStep.yield r)) (fun ok s₃ =>
            if ok = true then wpAny (model prog w) A (eval elt env) (fun x s₄ =>
              wpAny (model prog w) A (call (.builtin "list.append") [acc, x]) (fun _ s₅ => ∃ m, m < n ∧ I m s₅) (notedBy (model prog w) A env fun e s' => R (.error e) s') s₄) (notedBy (model prog w) A env fun e s' => R (.error e) s') s₃
            else ∃ m, m < n ∧ I m s₃) (notedBy (model prog w) A env fun e s' => R (.error e) s') s₂)
          (notedBy (model prog w) A env fun e s' => R (.error e) s') s₁') (notedBy (model prog w) A env fun e s' => R (.error e) s') s₁) (notedBy (model prog w) A env fun e s' => R (.error e) s') s)
    (n : Nat) (h : I n s) : codeAny (model prog w) A (.compLoop (.ListComp elt [⟨target, iter, ifs, 0⟩] scope pos) 0 it acc env) R s := by
  refine codeAny_loop rfl I (fun n s hI => ?_) n h
  show wpAny _ A ((compTurn (.ListComp elt [⟨target, iter, ifs, 0⟩] scope pos) 0 it acc env).onRaise (fun x => do noteFrame x env; theTreesLotGoes x)) _ _ s
  refine wpAny_noted ?_
  rw [compTurn_list]
  refine wpAny_bind (wpAny_standAt (wpAny_bind (wpAny_mono (turn n s hI) (fun r s₁ h₁ => ?_) fun _ _ h' => h')))
  cases r with
  | none => exact wpAny_pure h₁
  | some v =>
    refine wpAny_bind (wpAny_mono h₁ (fun _ s₁' h₁' => ?_) fun _ _ h' => h')
    refine wpAny_bind (wpAny_mono h₁' (fun _ s₂ h₂ => wpAny_bind (wpAny_mono h₂ (fun ok s₃ h₃ => ?_) fun _ _ h' => h')) fun _ _ h' => h')
    cases ok with
    | false => exact wpAny_pure ⟨rfl, h₃⟩
    | true =>
      exact wpAny_bind (wpAny_bind (wpAny_mono h₃ (fun x s₄ h₄ => wpAny_bind (wpAny_mono h₄ (fun _ s₅ h₅ => wpAny_pure (wpAny_pure ⟨rfl, h₅⟩)) fun _ _ h' => h')) fun _ _ h' => h'))
end
noncomputable def CompW (J : It) (g : TG) (tt : TT) (te : TE) (σc : St) (D : Addr) (H1 : Hp) (Q : Hp → Prop) : Prop :=
  ∃ W : Nat → Nat → List V → St → Hp → Prop, (∃ m, W 0 m [] σc (upd H1 D (.lst []))) ∧ ∀ i m ys σ H, W i m ys σ H → ys.length < sizeLine ∧
    ((J.stop i H ∧ Q H) ∨ (J.go i H ∧ ∀ x H', J.yld i H x H' → g x σ H' fun σ2 H2 => tt σ2 H2 fun b H3 =>
      if b = true then te σ2 H3 fun v H4 => H4 D = some (.lst ys) ∧ ∃ m', m' < m ∧ W (i + 1) m' (ys ++ [v]) σ2 (upd H4 D (.lst (ys ++ [v])))
      else ∃ m', m' < m ∧ W (i + 1) m' ys σ2 H3))
section
variable {X : Cx} {pins : List (Addr × Obj)} {σ : St} {H₂ : Hp} {s₂ : Shared}
theorem comp_core {elt iter tg : Expr} {ifs : List Expr} {scope : Scope} {pos : Pos} {g : TG} {tt : TT} {te : TE} {J : It} {fp : List Addr} {it : Addr} {tn : Nat → Heap → Prop} {Nc : List Str} {ixs : List (Option Nat)} {E : Value → Shared → Prop}
    {RR : Value → Addr → Result → Shared → Prop} {QD : Addr → Hp → Prop} (hc : X.calm = true) (hkind : scope.kind = .function) (hix : ixOk X.N Nc ixs X.env.scope.names scope.names = true) (hsc : scOk X.env.scope.names scope.names = true)
    (hg : ∀ s₂ H₂ C fp, PG (cxC X Nc scope s₂ H₂ C fp) tg g) (ht : ∀ s₂ H₂ C fp, PTs (cxC X Nc scope s₂ H₂ C fp) ifs tt) (he : ∀ s₂ H₂ C fp, PE (cxC X Nc scope s₂ H₂ C fp) elt te)
    (I : Inv X pins σ H₂ s₂) (T : Turn X.prog X.w X.K tg J fp it tn) (st : tn 0 s₂.heap) (hf : ∀ b ∈ fp, FpOk X pins H₂ b) (hW : ∀ D, H₂ D = none → CompW J g tt te (stC ixs σ) D H₂ (QD D))
    (hRR : ∀ D C s' H' m, Inv X pins σ H' s' → s'.heap.Ns C m → FpOk X pins H' C → D ≠ C → QD D H' → RR (.ref D) C (.ok .next) s') :
    wpAny (model X.prog X.w) X.A (newList []) (fun acc s₃ => wpAny (model X.prog X.w) X.A (newFunctionEnv scope X.env.globals (clOf scope X.env) [] X.env.qual none .none (some X.env)) (fun cenv s₄ =>
      codeAny (model X.prog X.w) X.A (.compStart (.ListComp elt [⟨tg, iter, ifs, 0⟩] scope pos) 0 (.ref it) acc { cenv with scope := relabel scope X.env }) (RR acc cenv.locals) s₄) E s₃) E s₂ := by
  have scA : ∀ p ∈ scope.names, (p.2 ≠ .cell) ∧ (p.2 = .free → X.env.scope.names.lookup p.1 = some .cell) := fun p hp => by
    have q := List.all_eq_true.mp hsc p hp
    simp only [Bool.and_eq_true, Bool.or_eq_true, bne_iff_ne, beq_iff_eq, ne_eq] at q
    exact ⟨q.1.1, fun z => q.2.resolve_left fun w => w z⟩
  refine wpAny_newObj_type (wpAny_newFunctionEnv (fun p hp => (scA p hp).1) (by intro y hy; simp at hy) (fun h₁ hns₁ hsb₁ => ?_) hkind)
  dsimp only at hns₁ hsb₁ ⊢
  generalize hH2 : s₂.heap.push { cls := .type "list", dict := none, data := .seq ([] : List Value).toArray } = G2 at hns₁ hsb₁ ⊢
  have hC : G2.objs.size = s₂.heap.objs.size + 1 := by rw [← hH2, Heap.size_push]
  have hDC : s₂.heap.objs.size ≠ G2.objs.size := by rw [hC]; exact Nat.ne_of_lt (Nat.lt_succ_self _)
  have hCle : s₂.heap.objs.size ≤ G2.objs.size := by rw [hC]; exact Nat.le_succ _
  have old : ∀ b o, s₂.heap.get? b = some o → h₁.get? b = some o := fun b o e =>
    hsb₁.extBut b o (by rw [hC]; exact Nat.ne_of_lt (Nat.lt_succ_of_lt (Heap.lt_size e))) (Heap.get?_push_of_some _ (hH2 ▸ Heap.get?_push_of_some _ e))
  have hnew : h₁.get? s₂.heap.objs.size = some { cls := .type "list", data := .seq ([] : List Value).toArray } :=
    hsb₁.extBut _ _ hDC (Heap.get?_push_of_some _ (hH2 ▸ Heap.get?_push_size _ rfl))
  have fD : H₂ s₂.heap.objs.size = none := I.hok.fresh (Nat.le_refl _)
  have fC : H₂ G2.objs.size = none := I.hok.fresh hCle
  have clt : ∀ x c, X.env.cells.lookup x = some c → c < s₂.heap.objs.size := fun x c e => by
    obtain ⟨v, q⟩ := I.cell x c e
    exact q.lt
  have flt : ∀ b ∈ fp, b < s₂.heap.objs.size := fun b hb => by
    obtain ⟨o, q, _⟩ := T.obj 0 _ st b hb
    exact Heap.lt_size q
  -- the block's context
  have okY : (cxC X Nc scope s₂ H₂ G2.objs.size fp).Ok := by
    refine ⟨I.ok.mod, hkind, I.ok.glob, I.ok.blt, hCle, fun x y c e1 e2 => I.ok.inj x y c (clOf_sub e1) (clOf_sub e2), fun x h => ?_, fun x c h _ => (nomatch h), I.ok.hd, I.ok.frames, .inl rfl, fun b hb => ⟨?_, fun x c e => (hf b hb).2.2.2.2.1 x c (clOf_sub e)⟩,
      fun b o e => I.bs b o e, Nat.le_trans I.ok.bsz I.sz, fun b o e hb => ?_, fun b hb hm => ?_, I.stack, I.stkFree⟩
    · have h' : scope.names.lookup x = some .free := by
        rcases h with h | h
        · rcases relabel_lookup (scope := scope) (env := X.env) (x := x) h with z | z
          · exact absurd rfl ((scA (x, .cell) (lookup_mem z)).1)
          · exact z.2
        · rcases relabel_lookup (scope := scope) (env := X.env) (x := x) h with z | z
          · exact z
          · cases z.1
      obtain ⟨c, e⟩ := I.ok.has x (.inl ((scA (x, .free) (lookup_mem h')).2 rfl))
      exact ⟨c, clOf_has h' e⟩
    · exact Nat.ne_of_lt (Nat.lt_of_lt_of_le (flt b hb) hCle)
    · rcases (hf b hb).2.2.2.1 with z | z
      · exact I.ok.noex b o e z
      · exact absurd (Nat.lt_of_lt_of_le (Heap.lt_size e) (Nat.le_trans I.ok.bsz z)) (Nat.lt_irrefl _)
    · rcases List.mem_cons.mp (I.stkSub b hm) with z | z
      · exact (hf b hb).2.1 z
      · exact (hf b hb).2.2.1 z
  have IY : Inv (cxC X Nc scope s₂ H₂ G2.objs.size fp) [] (stC ixs σ) (upd H₂ s₂.heap.objs.size (.lst [])) { s₂ with heap := h₁, toks := s₂.toks + ([] : List (Str × Value)).length } := by
    refine ⟨okY, rfl, I.bare, Un.laid old (Nat.le_refl _) fD, ⟨_, hns₁, fun i x v e1 e2 _ => ?_⟩, fun x c e => ?_, ?_, fun x c e => ?_, fun p hp => (nomatch hp), I.hok.laid old (Nat.le_refl _) ⟨Nat.zero_le _, [], 0, .nil, hnew⟩, ?_⟩
    · -- a name of the block that has a value is one of the def around
      obtain ⟨j, ej, ev⟩ : ∃ j, ixs[i]? = some (some j) ∧ σ[j]? = some (some v) := by
        unfold stC at e2
        rw [List.getElem?_map] at e2
        cases q : ixs[i]? with
        | none => rw [q] at e2; cases e2
        | some o =>
          rw [q] at e2
          cases o with
          | none => cases e2
          | some j =>
            have e3 : (σ[j]?).join = some v := Option.some.inj e2
            refine ⟨j, rfl, ?_⟩
            cases q2 : σ[j]? with
            | none => rw [q2] at e3; cases e3
            | some z =>
              rw [q2] at e3
              have e4 : z = some v := e3
              rw [e4]
      obtain ⟨y, k1, k2, k3, k4⟩ := ixOk_at hix ej
      have ey : x = y := Option.some.inj (e1.symm.trans k1)
      subst ey
      obtain ⟨mX, hnX, hlX⟩ := I.loc
      obtain ⟨u, ru, lu⟩ := hlX j x v k2 ev (.inr (.inl k3))
      refine ⟨u, ru, ?_⟩
      rcases lu with ⟨z, _⟩ | ⟨_, c, ec, hcell⟩
      · have z' : X.env.scope.names.lookup x = some .local := z
        rw [k3] at z'
        cases z'
      · have kk : Env.kindOf (compEnvC scope (clOf scope X.env) G2.objs.size X.env) x = some .cell ∨ Env.kindOf (compEnvC scope (clOf scope X.env) G2.objs.size X.env) x = some .free := by
          have : ∀ names : List (Str × NameKind), names.lookup x = some .free →
              (names.map fun (n, k) => if (k == NameKind.free && X.env.scope.kind == .function && X.env.kindOf n == some .cell) then (n, NameKind.cell) else (n, k)).lookup x = some .cell ∨
              (names.map fun (n, k) => if (k == NameKind.free && X.env.scope.kind == .function && X.env.kindOf n == some .cell) then (n, NameKind.cell) else (n, k)).lookup x = some .free := by
            intro names
            induction names with
            | nil => intro h; simp at h
            | cons p r ih =>
              obtain ⟨n, k⟩ := p
              intro h
              rw [List.lookup_cons] at h
              rw [List.map_cons]
              cases e : x == n with
              | true =>
                rw [e] at h
                have hk : k = .free := by simpa using h
                by_cases hcc : (k == NameKind.free && X.env.scope.kind == .function && X.env.kindOf n == some .cell) = true
                · simp only [hcc, if_true, List.lookup_cons, e]; exact .inl trivial
                · simp only [hcc, Bool.false_eq_true, if_false, List.lookup_cons, e]; exact .inr (by rw [hk])
              | false =>
                rw [e] at h
                have q := ih h
                by_cases hcc : (k == NameKind.free && X.env.scope.kind == .function && X.env.kindOf n == some .cell) = true
                · simp only [hcc, if_true, List.lookup_cons, e]; exact q
                · simp only [hcc, Bool.false_eq_true, if_false, List.lookup_cons, e]; exact q
          exact this scope.names k4
        obtain ⟨oc, ho, hd⟩ := hcell
        exact .inr ⟨kk, c, clOf_has k4 ec, ⟨oc, old c oc ho, hd⟩⟩
    · obtain ⟨v, oc, ho, hd⟩ := I.cell x c (clOf_sub e)
      exact ⟨v, oc, old c oc ho, hd⟩
    · exact (upd_ne (Ne.symm hDC)).trans fC
    · exact (upd_ne (Nat.ne_of_lt (clt x c (clOf_sub e)))).trans (I.freeC x c (clOf_sub e))
    · show (stC ixs σ).length = Nc.length
      unfold stC
      rw [List.length_map]
      exact ixOk_len hix
  have st₁ : tn 0 h₁ := T.keep 0 _ _ st fun b _ o e => old b o e
  obtain ⟨W, ⟨m0, w0⟩, turn⟩ := hW _ fD
  have stat : ∀ {H' : Hp} {pn : List (Addr × Obj)}, (∀ b ∈ fp, H' b = none) → (∀ p ∈ pn, p.1 ∉ fp) → ∀ b ∈ fp, FpOk (cxC X Nc scope s₂ H₂ G2.objs.size fp) pn H' b := fun {H' pn} hn hp b hb =>
    ⟨hn b hb, (okY.exf b hb).1, okY.exfs b hb, .inl hb, fun x c e z => (okY.exf b hb).2 x c e z, fun p hp' z => hp p (by simpa [cxC] using hp') (by rw [z]; exact hb)⟩
  have loop : ∀ s₃ : Shared, s₃ = { s₂ with heap := h₁, toks := s₂.toks + ([] : List (Str × Value)).length } →
      codeAny (model X.prog X.w) X.A (.compLoop (.ListComp elt [⟨tg, iter, ifs, 0⟩] scope pos) 0 (.ref it) (.ref s₂.heap.objs.size) (compEnvC scope (clOf scope X.env) G2.objs.size X.env)) (RR (.ref s₂.heap.objs.size) G2.objs.size) s₃ := by
    rintro s₃ rfl
    refine compLoop_any (fun n s' => ∃ i ys σ' H', Inv (cxC X Nc scope s₂ H₂ G2.objs.size fp) [] σ' H' s' ∧ tn i s'.heap ∧ (∀ b ∈ fp, H' b = none) ∧ W i n ys σ' H') ?_ m0
      ⟨0, [], _, _, IY, st₁, fun b hb => (upd_ne (Nat.ne_of_lt (flt b hb))).trans (hf b hb).1, w0⟩
    rintro n s3 ⟨i, ys, σ3, H3, I3, st3, fr3, w3⟩
    obtain ⟨hz, alt⟩ := turn i n ys σ3 H3 w3
    rcases alt with ⟨stop, qn⟩ | ⟨go, step⟩
    · refine thn (T.done (cxC X Nc scope s₂ H₂ G2.objs.size fp) rfl rfl rfl hc i [] s3 σ3 H3 _ I3 (stat fr3 (fun _ z => nomatch z)) st3 stop) fun r s4 hq8 => ?_
      obtain ⟨hr, I4⟩ := hq8
      subst hr
      have IX : Inv X pins σ H3 s4 := I.call' (ch := fp) I4.os I4.base I4.hok I4.bare fun b hb => ⟨(hf b hb).2.2.2.1, (hf b hb).2.1, (hf b hb).2.2.2.2.1, (hf b hb).2.2.2.2.2⟩
      obtain ⟨m4, hn4, _⟩ := I4.loc
      exact hRR _ _ s4 H3 m4 IX hn4 (I.fpOk hCle I4.free) hDC qn
    · refine thn (T.item (cxC X Nc scope s₂ H₂ G2.objs.size fp) rfl rfl rfl hc i [] s3 σ3 H3 _ I3 (stat fr3 (fun _ z => nomatch z)) st3 go) fun r s4 hq8 => ?_
      obtain ⟨u, hr, h4⟩ := hq8
      subst hr
      refine thn h4 fun _ s5 hq8 => ?_
      obtain ⟨x, H5, I5, r5, y5, st5, fr5⟩ := hq8
      have I5' := I5.pinned (stat fr5 (fun _ z => nomatch z)) (T.obj _ _ st5)
      refine wpAny_mono (hg s₂ H₂ G2.objs.size fp _ s5 _ H5 x u _ I5' r5 (step x H5 y5)) (fun _ s6 hq9 => GP.out hq9 fun σ6 H6 I6 q6 => ?_) fun _ _ z => (show False from z).elim
      refine wpAny_mono (ht s₂ H₂ G2.objs.size fp _ s6 σ6 H6 _ I6 q6) (fun ok s7 hq9 => ex3 hq9 fun H7 I7 q7 => ?_) fun _ _ z => (show False from z).elim
      have tnAt : ∀ {σ8 : St} {H8 : Hp} {s8 : Shared}, Inv (cxC X Nc scope s₂ H₂ G2.objs.size fp) ([] ++ pinsAt fp s5.heap) σ8 H8 s8 → tn (i + 1) s8.heap ∧ ∀ b ∈ fp, H8 b = none := fun {σ8 H8 s8} I8 =>
        ⟨T.keep _ _ _ st5 fun b hb o e => (I8.pin (b, o) (List.mem_append_right _ (List.mem_append_right _ (mem_pinsAt hb e)))).1, fun b hb => by
          obtain ⟨o, e, d⟩ := T.obj _ _ st5 b hb
          exact (I8.pin (b, o) (List.mem_append_right _ (List.mem_append_right _ (mem_pinsAt hb e)))).2.1⟩
      cases ok with
      | false =>
        rw [if_neg Bool.false_ne_true] at q7 ⊢
        obtain ⟨m', hm, w7⟩ := q7
        exact ⟨m', hm, i + 1, ys, σ6, H7, I7.unpinned, (tnAt I7).1, (tnAt I7).2, w7⟩
      | true =>
        rw [if_pos rfl] at q7 ⊢
        refine wpAny_mono (he s₂ H₂ G2.objs.size fp _ s7 σ6 H7 _ I7 q7) (fun u8 s8 hq8 => ?_) fun _ _ z => (show False from z).elim
        obtain ⟨v8, H8, I8, r8, hD8, m', hm, w8⟩ := hq8
        refine wpAny_mono (mt_append (X := cxC X Nc scope s₂ H₂ G2.objs.size fp) _ s8 σ6 H8 (.ref s₂.heap.objs.size) [v8] (.ref s₂.heap.objs.size) [u8] (fun _ H' => H' = upd H8 s₂.heap.objs.size (.lst (ys ++ [v8]))) I8 rfl (.cons r8 .nil) ⟨_, ys, v8, rfl, rfl, hD8, hz, rfl⟩)
          (fun _ s9 ⟨_, H9, I9, _, e9⟩ => ?_) fun _ _ z => (show False from z).elim
        subst e9
        exact ⟨m', hm, i + 1, ys ++ [v8], σ6, _, I9.unpinned, (tnAt I9).1, (tnAt I9).2, w8⟩
  exact codeAny_compStart_list (loop _ rfl) (T.self X.A 0 _ _ _ st₁ (loop _ rfl))
noncomputable def tComp (ixs : List (Option Nat)) (wi : TI) (g : TG) (tt : TT) (te : TE) : TE := fun σ H Q => wi σ H fun J H1 => ∀ D, H1 D = none → CompW J g tt te (stC ixs σ) D H1 fun H' => Q (.ref D) H'
theorem scOk_names {osc sc : List (Str × NameKind)} (h : scOk osc sc = true) : ∀ x ∈ sc, x.2 = .local → sc.lookup x.1 = some .local := fun p hp z => by
  have q := List.all_eq_true.mp h p hp
  simp only [Bool.and_eq_true, Bool.or_eq_true, bne_iff_ne, beq_iff_eq, ne_eq] at q
  exact q.1.2.resolve_left fun w => w z
theorem pe_comp {elt iter tg : Expr} {ifs : List Expr} {scope : Scope} {pos : Pos} {wi : TI} {g : TG} {tt : TT} {te : TE} (Nc : List Str) (ixs : List (Option Nat)) (hc : X.calm = true) (hi : PI X tg iter wi)
    (hg : ∀ s₂ H₂ C fp, PG (cxC X Nc scope s₂ H₂ C fp) tg g) (ht : ∀ s₂ H₂ C fp, PTs (cxC X Nc scope s₂ H₂ C fp) ifs tt) (he : ∀ s₂ H₂ C fp, PE (cxC X Nc scope s₂ H₂ C fp) elt te)
    (hix : ixOk X.N Nc ixs X.env.scope.names scope.names = true) (hsc : scOk X.env.scope.names scope.names = true) (hkind : scope.kind = .function := by rfl) (hclos : closureFor scope X.env = pure (clOf scope X.env) := by rfl)
    (hs : ∀ x, foldedSetIterable iter X.env x = pure x := by intro _; rfl) : PE X (.ListComp elt [⟨tg, iter, ifs, 0⟩] scope pos) (tComp ixs wi g tt te) := by
  intro pins s σ H Q I h
  rw [eval_ListComp]
  refine wpAny_comprehension_free (use := none) rfl hs hclos hkind (scOk_names hsc) (thn (hi pins s σ H _ I h) fun xv s₁ h₁ => thn h₁ fun itv s₂ h₂ => ?_)
  obtain ⟨it, fp, tn, J, H2, rfl, I2, T, st2, f2, hW⟩ := h₂
  refine comp_core (QD := fun D H' => Q (.ref D) H') (RR := fun acc C => compPost (model X.prog X.w) X.A X.xe none (EP X pins σ Q) acc C) hc hkind hix hsc hg ht he I2 T st2 f2 hW ?_
  intro D C s' H' m I' hn fC hDC q
  exact ⟨m, hn, fun h' hs' => ⟨.ref D, H', I'.turned (t' := s'.toks) (fun b o hb e => hs'.extBut b o hb e) fC.1 fC.2.1 fC.2.2.2.1 fC.2.2.2.2.1 fC.2.2.2.2.2, rfl, q⟩⟩
theorem ps_setComp {elt iter tg : Expr} {ifs : List Expr} {scope : Scope} {pos spos py : Pos} {wi : TI} {g : TG} {tt : TT} {te : TE} {i : Nat} {y : Str} (Nc : List Str) (ixs : List (Option Nat)) (hc : X.calm = true) (hN : X.N.Nodup) (hi' : X.N[i]? = some y) (hy : Loc X.env.scope y) (hi : PI X tg iter wi)
    (hg : ∀ s₂ H₂ C fp, PG (cxC X Nc scope s₂ H₂ C fp) tg g) (ht : ∀ s₂ H₂ C fp, PTs (cxC X Nc scope s₂ H₂ C fp) ifs tt) (he : ∀ s₂ H₂ C fp, PE (cxC X Nc scope s₂ H₂ C fp) elt te)
    (hix : ixOk X.N Nc ixs X.env.scope.names scope.names = true) (hsc : scOk X.env.scope.names scope.names = true) (hkind : scope.kind = .function := by rfl) (hclos : closureFor scope X.env = pure (clOf scope X.env) := by rfl)
    (hs : ∀ x, foldedSetIterable iter X.env x = pure x := by intro _; rfl) (hsw : swapsWith (.ListComp elt [⟨tg, iter, ifs, 0⟩] scope pos) (some (.Name y py)) spos.line X.env = pure true := by rfl)
    (hfn : X.fn y = true ∨ X.env.scope.names.lookup y = some .local := by first | exact .inl rfl | exact .inr rfl | assumption) :
    PS X (.Assign [.Name y py] (.ListComp elt [⟨tg, iter, ifs, 0⟩] scope pos) spos) (tAsg (tComp ixs wi g tt te) (gName i)) := by
  intro pins s σ H D I h
  rw [exec_Assign_Name_used _ _ _ _ hsw]
  refine wpAny_bind (wpAny_standAt (wpAny_bind ?_))
  show wpAny _ _ (do let _ ← comprehension (.ListComp elt [⟨tg, iter, ifs, 0⟩] scope pos) scope X.env _ (newList []) false (eval iter X.env) (some (assign (.Name y py) X.env))) _ _ s
  refine wpAny_bind (wpAny_mono (wpAny_comprehension_free (use := some (assign (.Name y py) X.env)) (Q := fun _ s' => SP X pins D .next s') rfl hs hclos hkind (scOk_names hsc) (thn (hi pins s σ H _ I h) fun xv s₁ h₁ => thn h₁ fun itv s₂ h₂ => ?_))
    (fun _ s' hq => wpAny_pure (wpAny_pure hq)) fun _ _ e => e)
  obtain ⟨it, fp, tn, J, H2, rfl, I2, T, st2, f2, hW⟩ := h₂
  refine comp_core (QD := fun Dn H' => D.nx (σ.set i (some (.ref Dn))) H') (RR := fun acc C => compPost (model X.prog X.w) X.A X.xe (some (assign (.Name y py) X.env)) (fun _ s' => SP X pins D .next s') acc C) hc hkind hix hsc hg ht he I2 T st2 f2 hW ?_
  intro Dn C s' H' m I' hn fC hDC q
  show wpAny _ _ (assign (.Name y py) X.env (.ref Dn)) _ _ _
  refine wpAny_assign_Name (store_ok2 I' hN hi' hy (v := .ref Dn) rfl (fun s2 I2 hq8 => ?_) hfn)
  obtain ⟨a, sb, ha⟩ := hq8
  have hCa : C ≠ a := by
    rcases ha with z | z
    · rw [z]; exact fC.2.1
    · exact fun e => fC.2.2.2.2.1 y a z e.symm
  refine ⟨m, hn.sameBut sb hCa, fun h' hs' => ?_⟩
  exact ⟨_, H', I2.turned (t' := s2.toks) (fun b o hb e => hs'.extBut b o hb e) fC.1 fC.2.1 fC.2.2.2.1 fC.2.2.2.2.1 fC.2.2.2.2.2, q⟩
end
end L2
namespace L2
open PySem
theorem up4 {x : Int} (h : Bt 400 x) : Bt 4000 x := h.mono (by decide)
noncomputable def rAbs : List V → Hp → VK → Prop := fun xs H Q => ∃ i, xs = [.int i] ∧ Q (.int (if i < 0 then -i else i)) H
theorem call_absR {X : Cx} : CallR X (.builtin "abs") rAbs := call_abs
noncomputable def rMax2 : List V → Hp → VK → Prop := fun xs H Q => ∃ i j, xs = [.int i, .int j] ∧ Q (.int (if j > i then j else i)) H
theorem call_max2R {X : Cx} (hc : X.calm = true) : CallR X (.builtin "max") rMax2 := call_max2 hc
noncomputable def rMin2 : List V → Hp → VK → Prop := fun xs H Q => ∃ i j, xs = [.int i, .int j] ∧ Q (.int (if j < i then j else i)) H
theorem call_min2R {X : Cx} (hc : X.calm = true) : CallR X (.builtin "min") rMin2 := call_min2 hc
noncomputable def rLenSeq (K : PySem.W.Frag) : List V → Hp → VK → Prop := fun xs H Q => ∃ p ys, xs = [.ref p] ∧ (SqL K H p ys ∨ SqT K H p ys) ∧ Q (.int ys.length) H
theorem call_lenR {X : Cx} : CallR X (.builtin "len") (rLenSeq X.K) := call_len_seq
noncomputable def rListOf (K : PySem.W.Frag) : List V → Hp → VK → Prop := fun xs H Q => ∃ p ys, xs = [.ref p] ∧ (SqL K H p ys ∨ SqT K H p ys) ∧ ∀ l, H l = none → Q (.ref l) (upd H l (.lst ys))
theorem call_listR {X : Cx} : CallR X (.type "list") (rListOf X.K) := call_list_of
section
variable {t u : TS} {D : Ends} {σ : St} {H : Hp} {te ta tb : TE} {tt : TT} {x y : V} {Q : VK}
theorem tSeq.join (Φ : St → Hp → Prop) (h1 : ∀ R : St → Hp → Prop, (∀ σ' H', Φ σ' H' → R σ' H') → t { D with nx := R } σ H) (h2 : ∀ σ' H', Φ σ' H' → u D σ' H') : tSeq t u D σ H := h1 (u D) h2
theorem vc_seq (h : t { D with nx := u D } σ H) : tSeq t u D σ H := h
theorem vc_next (h : D.nx σ H) : tNext D σ H := h
theorem vc_asg {g : TG} (h : te σ H fun x H1 => g x σ H1 D.nx) : tAsg te g D σ H := h
theorem vc_name {i : Nat} {R : St → Hp → Prop} (h : R (σ.set i (some x)) H) : gName i x σ H R := h
theorem vc_var {i : Nat} (e : σ[i]? = some (some x)) (h : Q x H) : tVar i σ H Q := ⟨x, e, h⟩
theorem vc_c (h : Q x H) : tC x σ H Q := h
theorem vc_op {r : R2} (h : ta σ H fun x H1 => tb σ H1 fun y H2 => r x y H2 Q) : tOp r ta tb σ H Q := h
theorem vc_un {r : V → Hp → VK → Prop} (h : ta σ H fun x H1 => r x H1 Q) : tUn r ta σ H Q := h
theorem vc_rI {C : Int → Int → Prop} {g : Int → Int → V} {i j : Int} (c : C i j) (h : Q (g i j) H) : rI C g (.int i) (.int j) H Q := ⟨i, j, rfl, rfl, c, h⟩
theorem vc_rI0 {g : Int → Int → V} {i j : Int} (h : Q (g i j) H) : rI0 g (.int i) (.int j) H Q := ⟨i, j, rfl, rfl, h⟩
theorem vc_rU {g : Int → V} {i : Int} (h : Q (g i) H) : rU g (.int i) H Q := ⟨i, rfl, h⟩
theorem vc_eq (c : scal x y = true) (h : Q (.bl (decide (x = y))) H) : rEq x y H Q := ⟨c, h⟩
theorem vc_ne (c : scal x y = true) (h : Q (.bl (!decide (x = y))) H) : rNe x y H Q := ⟨c, h⟩
theorem vc_test {Q : Bool → Hp → Prop} (h : te σ H fun x H' => ∃ k, x = .bl k ∧ Q k H') : tTest te σ H Q := h
theorem vc_tB {Q : Bool → Hp → Prop} (h : te σ H fun x H' => ∃ k, x = .bl k ∧ Q k H') : tB te σ H Q := h
theorem vc_ex {b : Bool} {Q : Bool → Prop} (h : Q b) : ∃ k, V.bl b = .bl k ∧ Q k := ⟨b, rfl, h⟩
theorem vc_not {Q : Bool → Hp → Prop} (h : tt σ H fun c H1 => Q (!c) H1) : tNot tt σ H Q := h
theorem vc_and {t1 t2 : TT} {Q : Bool → Hp → Prop} (h : t1 σ H fun c H1 => if c = true then t2 σ H1 Q else Q false H1) : tAnd t1 t2 σ H Q := h
theorem vc_or {t1 t2 : TT} {Q : Bool → Hp → Prop} (h : t1 σ H fun c H1 => if c = true then Q true H1 else t2 σ H1 Q) : tOr t1 t2 σ H Q := h
theorem vc_notV (h : te σ H fun x H1 => ∃ c, x = .bl c ∧ Q (.bl (!c)) H1) : tNotV te σ H Q := h
theorem vc_andV (h : ta σ H fun x H1 => ∃ c, x = .bl c ∧ if c = true then tb σ H1 Q else Q (.bl false) H1) : tAndV ta tb σ H Q := h
theorem vc_orV (h : ta σ H fun x H1 => ∃ c, x = .bl c ∧ if c = true then Q (.bl true) H1 else tb σ H1 Q) : tOrV ta tb σ H Q := h
theorem vc_if {c : TT} (h : c σ H fun b H1 => if b = true then t D σ H1 else u D σ H1) : tIfS c t u D σ H := h
theorem vc_ret (h : te σ H D.rt) : tRet te D σ H := h
theorem vc_drop (h : te σ H fun _ H1 => D.nx σ H1) : tDrop te D σ H := h
theorem vc_nil {Q : List V → Hp → Prop} (h : Q [] H) : tNil σ H Q := h
theorem vc_cons {tr : TA} {Q : List V → Hp → Prop} (h : te σ H fun x H1 => tr σ H1 fun xs H2 => Q (x :: xs) H2) : tCons te tr σ H Q := h
theorem vc_tup {ta : TA} (h : ta σ H fun xs H1 => xs.length ≤ sizeLine ∧ ∀ p, H1 p = none → Q (.ref p) (upd H1 p (.tup xs))) : tTup ta σ H Q := h
theorem vc_lst {ta : TA} (h : ta σ H fun xs H1 => xs.length ≤ sizeLine ∧ ∀ p, H1 p = none → Q (.ref p) (upd H1 p (.lst xs))) : tLst ta σ H Q := h
theorem vc_call {sp : Sp} {dvs : List V} {E : XK} {ta : TA} (h : ta σ H fun vs H1 => sp (vs ++ dvs) H1 Q E) : tCall sp dvs E ta σ H Q := h
theorem vc_cb {r : List V → Hp → VK → Prop} {ta : TA} (h : ta σ H fun vs H1 => r vs H1 Q) : tCB r ta σ H Q := h
theorem vc_ifE {c : TT} (h : c σ H fun b H1 => if b = true then ta σ H1 Q else tb σ H1 Q) : tIf c ta tb σ H Q := h
theorem vc_ixT {K : PySem.W.Frag} {p : Addr} {xs : List V} {i : Int} (h : SqT K H p xs) (e : atI xs i = some x) (q : Q x H) : rIxT K (.ref p) (.int i) H Q := ⟨p, xs, i, x, rfl, rfl, h, e, q⟩
theorem vc_ixL {K : PySem.W.Frag} {p : Addr} {xs : List V} {i : Int} (h : SqL K H p xs) (e : atI xs i = some x) (q : Q x H) : rIxL K (.ref p) (.int i) H Q := ⟨p, xs, i, x, rfl, rfl, h, e, q⟩
theorem vc_abs {i : Int} (h : Q (.int (My.ab i)) H) : rAbs [.int i] H Q := ⟨i, rfl, h⟩
theorem vc_max {i j : Int} (h : Q (.int (max i j)) H) : rMax2 [.int i, .int j] H Q := ⟨i, j, rfl, by
  have e : (if j > i then j else i) = max i j := by rw [Int.max_def]; split <;> split <;> omega
  rw [e]; exact h⟩
theorem vc_min {i j : Int} (h : Q (.int (min i j)) H) : rMin2 [.int i, .int j] H Q := ⟨i, j, rfl, by
  have e : (if j < i then j else i) = min i j := by rw [Int.min_def]; split <;> split <;> omega
  rw [e]; exact h⟩
theorem upd_keep {p q : Addr} {o o' : HO} (hq : H q = none) (h : H p = some o) : upd H q o' p = some o := (upd_ne (ne_of_none h hq)).trans h
end
end L2
namespace L2
open PySem PySem.Spec PyProof.Rows
noncomputable def okName (x : Str) : Bool := !(x == ("__debug__" : Str)) && !(x == ("__classdict__" : Str)) && !(x == ("__name__" : Str))
noncomputable def VOk (N : List Str) (sc : Scope) : Bool := N.all fun x => okName x && (sc.names.lookup x == some .local || sc.names.lookup x == some .cell)
noncomputable def GOk (G : List Str) (sc : Scope) : Bool := G.all fun x => okName x && sc.names.lookup x == some .globalImplicit
section
variable {N G : List Str} {sc : Scope} {x : Str}
theorem okName.a (h : okName x = true) : (x == ("__debug__" : Str)) = false := by
  unfold okName at h
  simp only [Bool.and_eq_true, Bool.not_eq_true'] at h
  exact h.1.1
theorem okName.b (h : okName x = true) : (x == ("__classdict__" : Str)) = false := by
  unfold okName at h
  simp only [Bool.and_eq_true, Bool.not_eq_true'] at h
  exact h.1.2
theorem okName.c (h : okName x = true) : x ≠ "__name__" := by
  unfold okName at h
  simp only [Bool.and_eq_true, Bool.not_eq_true'] at h
  intro e
  rw [e] at h
  have := h.2
  rw [beq_self_eq_true] at this
  cases this
theorem VOk.at (V : VOk N sc = true) {i : Nat} (e : N[i]? = some x) : okName x = true ∧ Loc sc x := by
  have q := List.all_eq_true.mp V x (List.mem_of_getElem? e)
  simp only [Bool.and_eq_true, Bool.or_eq_true, beq_iff_eq] at q
  exact q
theorem GOk.at (V : GOk G sc = true) {i : Nat} (e : G[i]? = some x) : okName x = true ∧ sc.names.lookup x = some .globalImplicit := by
  have q := List.all_eq_true.mp V x (List.mem_of_getElem? e)
  simp only [Bool.and_eq_true, beq_iff_eq] at q
  exact q
end
section
variable {X : Cx} {N G : List Str} {sc : Scope} {x : Str} {pos p : Pos}
theorem qv (V : VOk N sc = true) (i : Nat) (hN : N[i]? = some x) (hX : X.N = N) (hs : X.env.scope = sc) : PE X (.Name x pos) (tVar i) := by
  obtain ⟨a, b⟩ := VOk.at V hN
  refine pe_var (by rw [hX]; exact hN) ?_ (okName.a a) (okName.b a)
  rw [hs]
  rcases b with b | b
  · exact .inl b
  · exact .inr (.inl b)
theorem qgl (V : GOk G sc = true) (j : Nat) (hj : G[j]? = some x) (hs : X.env.scope = sc) : Gl X x := by
  unfold Gl Env.kindOf
  rw [hs]
  exact (GOk.at V hj).2
theorem q_set {i : Nat} {e : Expr} {te : TE} {pos' : Pos} (V : VOk N sc = true) (hN : N.Nodup) (hi : N[i]? = some x) (hX : X.N = N) (hs : X.env.scope = sc) (he : PE X e te) (hsw : swapsWith e (some (.Name x pos')) pos.line X.env = pure false := by rfl)
    (hf : X.fn x = true ∨ X.env.scope.names.lookup x = some .local := by exact .inl rfl) : PS X (.Assign [.Name x pos'] e pos) (tAsg te (gName i)) :=
  ps_set (by rw [hX]; exact hN) (by rw [hX]; exact hi) (by rw [hs]; exact (VOk.at V hi).2) he hsw hf
theorem q_name {i : Nat} (V : VOk N sc = true) (hN : N.Nodup) (hi : N[i]? = some x) (hX : X.N = N) (hs : X.env.scope = sc)
    (hf : X.fn x = true ∨ X.env.scope.names.lookup x = some .local := by exact .inl rfl) : PG X (.Name x pos) (gName i) :=
  pg_name (by rw [hX]; exact hN) (by rw [hX]; exact hi) (by rw [hs]; exact (VOk.at V hi).2) hf
theorem q_call {CX : CXT} {k : Nat} {f : Addr} {fd : FuncData} {ps : List Str} {sp : Sp} {ds : List Value} {dvs : List V} {E : XK} {e : Expr} {es : List Expr} {t : TA} (F : FnOk X.prog X.w X.K X.mg X.base CX k f fd ps sp) (hr : Room k X.A)
    (V : GOk G sc = true) (j : Nat) (hj : G[j]? = some x) (hs : X.env.scope = sc) (hm : X.mg x = some (.ref f)) (hk : PySem.W.keepIn X.K (.ref f) = true) (hb : Binds X.K fd ps ds) (hd : Vals dvs ds) (hx : Passes CX X E)
    (ha : PA X (e :: es) t) (he : starEach (e :: es) X.env = (false, eval e X.env) :: starEach es X.env := by rfl) (hpl : (backTo pos (starEach es X.env)).any (·.1) = false := by rfl) :
    PE X (.Call (.Name x p) (e :: es) [] pos) (tCall sp dvs E t) := pe_call F hr (qgl V j hj hs) hm hk hb hd hx ha (okName.a (GOk.at V hj).1) he hpl
theorem q_make {CX : CXT} {k : Nat} {C f : Addr} {fd : FuncData} {ps : List Str} {sp : Sp} {ds : List Value} {dvs : List V} {E : XK} {e : Expr} {es : List Expr} {t : TA} (M : Mk X.K C f) (F : FnOk X.prog X.w X.K X.mg X.base CX k f fd ps sp) (hr : Room (k + 1) X.A)
    (V : GOk G sc = true) (j : Nat) (hj : G[j]? = some x) (hs : X.env.scope = sc) (hm : X.mg x = some (.ref C)) (hb : Binds X.K fd ps ds) (hd : Vals dvs ds) (hx : Passes CX X E)
    (ha : PA X (e :: es) t) (he : starEach (e :: es) X.env = (false, eval e X.env) :: starEach es X.env := by rfl) (hpl : (backTo pos (starEach es X.env)).any (·.1) = false := by rfl) :
    PE X (.Call (.Name x p) (e :: es) [] pos) (tMake C sp dvs E t) := pe_make M F hr (qgl V j hj hs) hm hb hd hx ha (okName.a (GOk.at V hj).1) he hpl
theorem q_callB {id : String} {r : List V → Hp → VK → Prop} {e : Expr} {es : List Expr} {t : TA} (hc : CallR X (.builtin id) r) (V : GOk G sc = true) (j : Nat) (hj : G[j]? = some x) (hs : X.env.scope = sc) (hm : X.mg x = none) (hv : bootBuiltins x = some (.builtin id)) (ha : PA X (e :: es) t)
    (he : starEach (e :: es) X.env = (false, eval e X.env) :: starEach es X.env := by rfl) (hpl : (backTo pos (starEach es X.env)).any (·.1) = false := by rfl) : PE X (.Call (.Name x p) (e :: es) [] pos) (tCB r t) :=
  pe_callB hc (qgl V j hj hs) hm hv ha (okName.c (GOk.at V hj).1) (okName.a (GOk.at V hj).1) he hpl
theorem q_callTy {T : String} {r : List V → Hp → VK → Prop} {e : Expr} {es : List Expr} {t : TA} (hc : CallR X (.type T) r) (V : GOk G sc = true) (j : Nat) (hj : G[j]? = some x) (hs : X.env.scope = sc) (hm : X.mg x = none) (hv : bootBuiltins x = some (.type T)) (ha : PA X (e :: es) t)
    (he : starEach (e :: es) X.env = (false, eval e X.env) :: starEach es X.env := by rfl) (hpl : (backTo pos (starEach es X.env)).any (·.1) = false := by rfl) : PE X (.Call (.Name x p) (e :: es) [] pos) (tCB r t) :=
  pe_callTy hc (qgl V j hj hs) hm hv ha (okName.c (GOk.at V hj).1) (okName.a (GOk.at V hj).1) he hpl
theorem q_bltn {v : V} {u : Value} (V : GOk G sc = true) (j : Nat) (hj : G[j]? = some x) (hs : X.env.scope = sc) (hm : X.mg x = none) (hv : bootBuiltins x = some u) (r : RelV v u) : PE X (.Name x pos) (tC v) := pe_bltn (qgl V j hj hs) hm hv r (okName.c (GOk.at V hj).1) (okName.a (GOk.at V hj).1)
end
end L2
namespace L2
open PySem PySem.Spec PyProof.Rows PySem.W
mutual
inductive Rep (K : PySem.W.Frag) (H : Hp) : V → Dat → Prop where
  | non : Rep K H .non .none
  | bl (b : Bool) : Rep K H (.bl b) (.bool b)
  | int (i : Int) : Rep K H (.int i) (.int i)
  | str (x : Str) : Rep K H (.str x) (.str x)
  | tup {a : Addr} {xs : List V} {ds : List Dat} : SqT K H a xs → Reps K H xs ds → Rep K H (.ref a) (.tuple ds)
  | lst {a : Addr} {xs : List V} {ds : List Dat} : SqL K H a xs → Reps K H xs ds → Rep K H (.ref a) (.list ds)
inductive Reps (K : PySem.W.Frag) (H : Hp) : List V → List Dat → Prop where
  | nil : Reps K H [] []
  | cons {x : V} {xs : List V} {d : Dat} {ds : List Dat} : Rep K H x d → Reps K H xs ds → Reps K H (x :: xs) (d :: ds)
end
section
variable {K : PySem.W.Frag} {H H' : Hp}
theorem Rep.same (e : Same H H') {v : V} {d : Dat} (h : Rep K H v d) : Rep K H' v d :=
  Rep.rec (motive_1 := fun v d _ => Rep K H' v d) (motive_2 := fun xs ds _ => Reps K H' xs ds) .non .bl .int .str (fun h _ r => .tup (e.tup h) r) (fun h _ r => .lst (e.seq h) r) .nil (fun _ _ a b => .cons a b) h
theorem Reps.same (e : Same H H') {xs : List V} {ds : List Dat} (h : Reps K H xs ds) : Reps K H' xs ds :=
  Reps.rec (motive_1 := fun v d _ => Rep K H' v d) (motive_2 := fun xs ds _ => Reps K H' xs ds) .non .bl .int .str (fun h _ r => .tup (e.tup h) r) (fun h _ r => .lst (e.seq h) r) .nil (fun _ _ a b => .cons a b) h
theorem Reps.byRows {M : List V → List Dat → Prop} (n : M [] []) (c : ∀ {x : V} {xs : List V} {d : Dat} {ds : List Dat}, Rep K H x d → Reps K H xs ds → M xs ds → M (x :: xs) (d :: ds)) {xs : List V} {ds : List Dat} (h : Reps K H xs ds) : M xs ds :=
  Reps.rec (motive_1 := fun _ _ _ => True) (motive_2 := fun xs ds _ => M xs ds) trivial (fun _ => trivial) (fun _ => trivial) (fun _ => trivial) (fun _ _ _ => trivial) (fun _ _ _ => trivial) n (fun a b _ m => c a b m) h
theorem Reps.length {xs : List V} {ds : List Dat} (h : Reps K H xs ds) : xs.length = ds.length :=
  h.byRows (M := fun xs ds => xs.length = ds.length) rfl fun _ _ r => congrArg (· + 1) r
theorem Reps.get {xs : List V} {ds : List Dat} {i : Nat} {x : V} (h : Reps K H xs ds) (e : xs[i]? = some x) : ∃ d, ds[i]? = some d ∧ Rep K H x d :=
  h.byRows (M := fun xs ds => ∀ i, xs[i]? = some x → ∃ d, ds[i]? = some d ∧ Rep K H x d) (fun i e => by simp at e) (fun a _ m i e => by
    cases i with
    | zero =>
      rw [List.getElem?_cons_zero] at e
      cases e
      exact ⟨_, rfl, a⟩
    | succ i =>
      rw [List.getElem?_cons_succ] at e ⊢
      exact m i e) i e
theorem Reps.get' {xs : List V} {ds : List Dat} {i : Nat} {d : Dat} (h : Reps K H xs ds) (e : ds[i]? = some d) : ∃ x, xs[i]? = some x ∧ Rep K H x d :=
  h.byRows (M := fun xs ds => ∀ i, ds[i]? = some d → ∃ x, xs[i]? = some x ∧ Rep K H x d) (fun i e => by simp at e) (fun a _ m i e => by
    cases i with
    | zero =>
      rw [List.getElem?_cons_zero] at e
      cases e
      exact ⟨_, rfl, a⟩
    | succ i =>
      rw [List.getElem?_cons_succ] at e ⊢
      exact m i e) i e
theorem Reps.append {xs ys : List V} {ds es : List Dat} (h : Reps K H xs ds) (r : Reps K H ys es) : Reps K H (xs ++ ys) (ds ++ es) :=
  h.byRows (M := fun xs ds => Reps K H (xs ++ ys) (ds ++ es)) r fun a _ m => .cons a m
theorem Reps.one {x : V} {d : Dat} (h : Rep K H x d) : Reps K H [x] [d] := .cons h .nil
theorem Reps.ints : ∀ (ns : List Int), Reps K H (ns.map V.int) (ns.map Dat.int)
  | [] => .nil
  | n :: r => .cons (.int n) (Reps.ints r)
theorem Reps.ints_of {xs : List V} {ns : List Int} (h : Reps K H xs (ns.map Dat.int)) : xs = ns.map V.int :=
  h.byRows (M := fun xs ds => ∀ ns : List Int, ds = ns.map Dat.int → xs = ns.map V.int) (fun ns e => by
    cases ns with
    | nil => rfl
    | cons => cases e) (fun a _ m ns e => by
    cases ns with
    | nil => cases e
    | cons n r =>
      cases e
      cases a
      rw [m r rfl]
      rfl) ns rfl
mutual
noncomputable def noL : Dat → Bool
  | .list _ => false
  | .tuple ds => noLs ds
  | _ => true
noncomputable def noLs : List Dat → Bool
  | [] => true
  | d :: ds => noL d && noLs ds
end
noncomputable def SameT (H H' : Hp) : Prop := ∀ b o, (∃ xs, Rd H b (.tup xs)) → H b = some o → H' b = some o
theorem SameT.tup (e : SameT H H') {a : Addr} {xs : List V} (h : SqT K H a xs) : SqT K H' a xs := by
  rcases h with h | h
  · rcases h with h | ⟨o, h⟩
    · exact .inl (.inl (e a _ ⟨xs, .inl h⟩ h))
    · exact .inl (.inr ⟨o, e a _ ⟨xs, .inr ⟨o, h⟩⟩ h⟩)
  · exact .inr h
theorem Rep.sameT (e : SameT H H') {v : V} {d : Dat} (n : noL d = true) (h : Rep K H v d) : Rep K H' v d :=
  Rep.rec (motive_1 := fun v d _ => noL d = true → Rep K H' v d) (motive_2 := fun xs ds _ => noLs ds = true → Reps K H' xs ds) (fun _ => .non) (fun b _ => .bl b) (fun i _ => .int i) (fun x _ => .str x) (fun h _ r n => .tup (e.tup h) (r n)) (fun _ _ _ n => absurd (show false = true from n) (by decide)) (fun _ => .nil)
    (fun _ _ a b n => by
      rw [noLs, Bool.and_eq_true] at n
      exact .cons (a n.1) (b n.2)) h n
theorem Reps.sameT (e : SameT H H') {xs : List V} {ds : List Dat} (n : noLs ds = true) (h : Reps K H xs ds) : Reps K H' xs ds :=
  h.byRows (M := fun xs ds => noLs ds = true → Reps K H' xs ds) (fun _ => .nil) (fun a _ m n => by
    rw [noLs, Bool.and_eq_true] at n
    exact .cons (a.sameT e n.1) (m n.2)) n
theorem noLs_map {α : Type} {f : α → Dat} (h : ∀ a, noL (f a) = true) : ∀ xs : List α, noLs (xs.map f) = true
  | [] => rfl
  | x :: r => by rw [List.map_cons, noLs, h x, noLs_map h r]; rfl
theorem Rd.lst_ne {a b : Addr} {xs ys : List V} (h : H a = some (.lst ys)) (r : Rd H b (.tup xs)) : b ≠ a := by
  rintro rfl
  rcases r with r | ⟨o, r⟩ <;> rw [h] at r <;> cases r
theorem Rep.int_of {v : V} {i : Int} (h : Rep K H v (.int i)) : v = .int i := by cases h; rfl
theorem Rep.str_of {v : V} {i : Str} (h : Rep K H v (.str i)) : v = .str i := by cases h; rfl
theorem Rep.tup_of {v : V} {ds : List Dat} (h : Rep K H v (.tuple ds)) : ∃ a xs, v = .ref a ∧ SqT K H a xs ∧ Reps K H xs ds := by
  cases h with
  | tup h r => exact ⟨_, _, rfl, h, r⟩
theorem Rep.lst_of {v : V} {ds : List Dat} (h : Rep K H v (.list ds)) : ∃ a xs, v = .ref a ∧ SqL K H a xs ∧ Reps K H xs ds := by
  cases h with
  | lst h r => exact ⟨_, _, rfl, h, r⟩
end
section
variable {X : Cx} {pins : List (Addr × Obj)} {σ : St} {H : Hp} {s : Shared}
noncomputable def RdsV (h : Heap) (v : V) (d : Dat) : Prop := ∀ (u : Value) (n : Nat), RelV v u → kqdOk n d = true → ∃ as, Reads h u (kqdP d) as
noncomputable def RdsL (h : Heap) (xs : List V) (ds : List Dat) : Prop := ∀ (us : List Value) (n : Nat), Vals xs us → (∀ d ∈ ds, kqdOk n d = true) → ∃ as, ReadsAll h us (kqdPs ds) as
theorem rds_tup (I : Inv X pins σ H s) {a : Addr} {xs : List V} {ds : List Dat} (hq : SqT X.K H a xs) (r : RdsL s.heap xs ds) : RdsV s.heap (.ref a) (.tuple ds) := fun u n ru hk => by
  cases (show u = Value.ref a from ru)
  cases n with
  | zero => exact absurd (show false = true from hk) (by decide)
  | succ n =>
    obtain ⟨its, rv, ⟨o, e1, e2, k, e3⟩, _⟩ := I.tuple hq
    obtain ⟨as, q⟩ := r its n rv (by simpa [kqdOk] using hk)
    rw [kqdP]
    exact ⟨as, reads_tuple_at e1 e2 e3 (by simpa using q)⟩
theorem rds_lst (I : Inv X pins σ H s) {a : Addr} {xs : List V} {ds : List Dat} (hq : SqL X.K H a xs) (r : RdsL s.heap xs ds) : RdsV s.heap (.ref a) (.list ds) := fun u n ru hk => by
  cases (show u = Value.ref a from ru)
  cases n with
  | zero => exact absurd (show false = true from hk) (by decide)
  | succ n =>
    obtain ⟨its, rv, ⟨o, k, e1, e2, _, e3⟩, _⟩ := I.list hq
    obtain ⟨as, q⟩ := r its n rv (by simpa [kqdOk] using hk)
    rw [kqdP]
    exact ⟨_, reads_list_at e1 e2 e3 (by simpa using q)⟩
theorem rds_cons {h : Heap} {x : V} {xs : List V} {d : Dat} {ds : List Dat} (a : RdsV h x d) (b : RdsL h xs ds) : RdsL h (x :: xs) (d :: ds) := fun us n r hk => by
  cases r with
  | cons r1 r2 =>
    obtain ⟨as, p⟩ := a _ n r1 (hk _ (.head _))
    obtain ⟨bs, p'⟩ := b _ n r2 fun d hm => hk d (.tail _ hm)
    rw [kqdPs]
    exact ⟨_, ReadsAll.cons p p'⟩
theorem rep_reads (I : Inv X pins σ H s) {v : V} {d : Dat} {u : Value} (n : Nat) (h : Rep X.K H v d) (r : RelV v u) (hk : kqdOk n d = true) : ∃ as, Reads s.heap u (kqdP d) as :=
  Rep.rec (motive_1 := fun v d _ => RdsV s.heap v d) (motive_2 := fun xs ds _ => RdsL s.heap xs ds) (fun u _ r _ => by
      cases (show u = Value.none from r)
      exact ⟨_, Reads.none⟩) (fun b u _ r _ => by
      cases (show u = Value.bool b from r)
      exact ⟨_, Reads.bool b⟩) (fun i u _ r _ => by
      obtain ⟨t, e⟩ := (show ∃ t, u = Value.int i t from r)
      subst e
      exact ⟨_, Reads.int i t⟩) (fun x u _ r _ => by
      obtain ⟨t, e⟩ := (show ∃ t, u = Value.str x t from r)
      subst e
      exact ⟨_, Reads.str x t⟩) (fun hq _ m => rds_tup I hq m) (fun hq _ m => rds_lst I hq m) (fun us _ r _ => by
      cases r
      exact ⟨_, ReadsAll.nil⟩) (fun _ _ a b => rds_cons a b) h u n r hk
theorem rep_shaped {n : Nat} {d : Dat} (h : kqdOk n d = true) (hn : n ≤ 64) : SeqAt.shaped (kqdP d) = true := by
  have l := kqd_lay n d h
  unfold SeqAt.shaped
  rw [l.1, Bool.true_and]
  exact decide_eq_true (Nat.le_trans l.2 hn)
open Classical in
theorem rep_eqv {d e : Dat} (hd : kqdOk 9 d = true) (he : kqdOk 9 e = true) : PyData.eqv (kqdP d) (kqdP e) = decide (d = e) := by
  have q := kqd_eqv 9 d e 9 hd he
  by_cases hq : d = e
  · rw [decide_eq_true hq]; exact q.mpr hq
  · rw [decide_eq_false hq]; exact Bool.eq_false_iff.mpr fun x => hq (q.mp x)
open Classical in
noncomputable def rEqD (K : PySem.W.Frag) : R2 := fun x y H Q => ∃ d e, Rep K H x d ∧ Rep K H y e ∧ kqdOk 9 d = true ∧ kqdOk 9 e = true ∧ Q (.bl (decide (d = e))) H
open Classical in
noncomputable def rNeD (K : PySem.W.Frag) : R2 := fun x y H Q => ∃ d e, Rep K H x d ∧ Rep K H y e ∧ kqdOk 9 d = true ∧ kqdOk 9 e = true ∧ Q (.bl (!decide (d = e))) H
theorem op_eqD (hu : X.A.units + 64 < cLine) : OpR X (compareOp .Eq) (rEqD X.K) := by
  intro pins s σ H x y v u Q I rx ry h
  obtain ⟨d, e, hx, hy, kd, ke, q⟩ := h
  obtain ⟨as, ra⟩ := rep_reads I 9 hx rx kd
  obtain ⟨bs, rb⟩ := rep_reads I 9 hy ry ke
  exact eq_dataH ra rb (rep_shaped kd (by decide)) (rep_shaped ke (by decide)) hu (by rw [rep_eqv kd ke]; exact ⟨.bl _, H, I, rfl, q⟩)
theorem op_neD (hu : X.A.units + 64 < cLine) : OpR X (compareOp .NotEq) (rNeD X.K) := by
  intro pins s σ H x y v u Q I rx ry h
  obtain ⟨d, e, hx, hy, kd, ke, q⟩ := h
  obtain ⟨as, ra⟩ := rep_reads I 9 hx rx kd
  obtain ⟨bs, rb⟩ := rep_reads I 9 hy ry ke
  exact ne_dataH ra rb (rep_shaped kd (by decide)) (rep_shaped ke (by decide)) hu (by rw [rep_eqv kd ke]; exact ⟨.bl _, H, I, rfl, q⟩)
open Classical in
noncomputable def rInD (K : PySem.W.Frag) (neg : Bool) : R2 := fun x y H Q => ∃ d ds, Rep K H x d ∧ Rep K H y (.list ds) ∧ kqdOk 8 d = true ∧ (∀ e ∈ ds, kqdOk 8 e = true) ∧ Q (.bl (if neg then !decide (d ∈ ds) else decide (d ∈ ds))) H
open Classical in
theorem rep_any {d : Dat} {ds : List Dat} (hd : kqdOk 8 d = true) (hs : ∀ e ∈ ds, kqdOk 8 e = true) : ((kqdPs ds).any fun y => PyData.eqv y (kqdP d)) = decide (d ∈ ds) := by
  by_cases hq : d ∈ ds
  · rw [decide_eq_true hq]; exact (kqd_any ds d hs hd).mpr hq
  · rw [decide_eq_false hq]; exact Bool.eq_false_iff.mpr fun z => hq ((kqd_any ds d hs hd).mp z)
theorem op_inD (hu : X.A.units + 64 < cLine) : OpR X (compareOp .In) (rInD X.K false) := by
  intro pins s σ H x y v u Q I rx ry h
  obtain ⟨d, ds, hx, hy, kd, ke, q⟩ := h
  obtain ⟨as, ra⟩ := rep_reads I 8 hx rx kd
  obtain ⟨bs, rb⟩ := rep_reads I 9 hy ry (by simpa [kqdOk] using ke)
  rw [kqdP] at rb
  have l := kqd_layL ke
  have ld := kqd_lay 8 d kd
  have l2 := ld.2
  refine SeqAt.in_list_reads rb ra l.1 ld.1 ?_ (by rw [rep_any kd ke]; exact ⟨.bl _, H, I, rfl, q⟩)
  have := Nat.min_le_right (PyData.depthAll (kqdPs ds)) (kqdP d).depth
  omega
end
end L2
namespace L2
open PySem PySem.Spec PyProof.Rows
section
variable {X : Cx}
noncomputable def rSum (K : PySem.W.Frag) : List V → Hp → VK → Prop := fun xs H Q => ∃ (p : Addr) (ns : List Int), xs = [.ref p] ∧ SqL K H p (ns.map V.int) ∧ Q (.int ns.sum) H
theorem call_sum (hc : X.calm = true) : CallR X (.builtin "sum") (rSum X.K) := by
  intro pins s σ H xs us Q I r h
  obtain ⟨p, ns, rfl, hq, q⟩ := h
  obtain ⟨u, rfl, ru⟩ := vals1 r
  cases (show u = Value.ref p from ru)
  obtain ⟨its, rv, pl, hz⟩ := I.list hq
  have hi := intsAre_of rv
  obtain ⟨ys, e⟩ := hi.allInts.items
  have hn : numsOf its = ns := hi.numsOf
  have hl : s.heap.IsList p (intItems ys) := by rw [← e]; exact pl.isList
  refine sum_intListG (I.ok.hd hc) hl fun h' tk t' hk => ?_
  have e2 : preSum (numAt ys) ys.size = ns.sum := by
    rw [preSum_eq, List.take_of_length_le (by simp), ← nums_intItems, ← e]
    show (numsOf its).sum = ns.sum
    rw [hn]
  rw [e2]
  exact ⟨.int ns.sum, H, I.kept (t' := tk) hk, ⟨t', rfl⟩, q⟩
noncomputable def rSlS : V → Option Int → Option Int → Hp → VK → Prop := fun x lo hi H Q => ∃ z, x = .str z ∧ z.length ≤ sizeLine ∧ Q (.str (Txt.slice z lo hi)) H
theorem part_of {v : Value} {lo : Option Int} (h : IsPart v lo) : ∃ l : Option (Int × Tok), v = partValue l ∧ l.map (·.1) = lo := by
  cases h with
  | none => exact ⟨none, rfl, rfl⟩
  | int i t => exact ⟨some (i, t), rfl, rfl⟩
theorem sl_str : SlR X rSlS := by
  intro pins s σ H x v vl vu lo hi sl Q I rx hs pl pu h
  obtain ⟨z, rfl, hz, q⟩ := h
  obtain ⟨t, rfl⟩ := (show ∃ t, v = Value.str z t from rx)
  obtain ⟨l, rfl, el⟩ := part_of pl
  obtain ⟨u, rfl, eu⟩ := part_of pu
  refine ⟨"str", _, F.slot_str_getitem.lookup, typeIs_str _ _ _, wpAny_getItem_str_slice (l := l) (u := u) (st := none) hs rfl ?_⟩
  have key : ∀ (t' : Tok) (k : Nat), EP X pins σ Q (.str (Txt.slice z lo hi) t') { s with toks := k } := fun t' k => ⟨.str _, H, I.tok k, ⟨t', rfl⟩, q⟩
  subst el eu
  exact post_val_or_str ⟨Nat.le_trans (Txt.slice_le z _ _) hz, fun t' k => key t' k⟩
end
noncomputable def Its (x : Str) : It := ⟨fun i _ => i < x.cps.size, fun i H v H' => H' = H ∧ ∃ c, x.cps[i]? = some c ∧ v = .str ⟨#[c]⟩, fun i _ => x.cps.size ≤ i⟩
theorem turn_str {P : Program} {w : World} {K : PySem.W.Frag} {tg : Expr} (it : Addr) (x : Str) (t : Tok) : Turn P w K tg (Its x) [it] it (fun i h => h.IsStrIter it "str_ascii_iterator" x t i) where
  mem := by simp
  obj := fun i h st b hb => by
    have e : b = it := by simpa using hb
    subst e
    obtain ⟨o, e, c, d⟩ := st
    exact ⟨o, e, fun v z => by rw [d] at z; cases z⟩
  keep := fun i h h' st k => by
    obtain ⟨o, e, c, d⟩ := st
    exact ⟨o, k it (by simp) o e, c, d⟩
  item := by
    intro X hP hw hK hc i pins s σ H E I hf st hg
    subst hP hw hK
    have hg' : i < x.cps.size := hg
    obtain ⟨f0, f1, f2, f3, f4, f5⟩ := hf it (by simp)
    refine wpAny_pyNext_ascii_item st (c := x.cps[i]) (by simp [hg']) fun h' st' sb => ?_
    have I1 : Inv X pins σ H { s with heap := h', toks := s.toks + 1 } := I.turned (fun b o hb e => (sb.2 b hb).trans e) f0 f1 f3 f4 f5
    obtain ⟨o, e, c, d⟩ := id st'
    exact ⟨_, rfl, go_of (s := { s with heap := h', toks := s.toks + 1 }) e c d (by decide) ⟨.str ⟨#[x.cps[i]]⟩, H, I1, ⟨_, rfl⟩, ⟨rfl, _, by simp [hg'], rfl⟩, st', fun b hb => (hf b hb).1⟩⟩
  done := by
    intro X hP hw hK hc i pins s σ H E I hf st hg
    subst hP hw hK
    have hg' : x.cps.size ≤ i := hg
    obtain ⟨f0, f1, f2, f3, f4, f5⟩ := hf it (by simp)
    exact wpAny_pyNext_ascii_end (I.ok.hd hc) st (by simp; omega) fun h' eb => ⟨rfl, I.turned (t' := s.toks) (fun b o hb e => eb b o hb e) f0 f1 f3 f4 f5⟩
  self := fun _ _ _ _ _ st h => wpAny_pyIter_striter_ascii st h
section
variable {X : Cx} {tg : Expr}
noncomputable def iStr (tl : TE) : TI := fun σ H R => tl σ H fun x H1 => ∃ z, x = .str z ∧ z.cps.all (· < 128) = true ∧ R (Its z) H1
theorem pi_str {l : Expr} {tl : TE} (hl : PE X l tl) : PI X tg l (iStr tl) := by
  intro pins s σ H R I h
  refine thn (hl pins s σ H _ I h) fun v s1 hq9 => EP.out hq9 fun x H1 I1 r1 q1 => ?_
  obtain ⟨z, rfl, ha, q⟩ := q1
  obtain ⟨t, rfl⟩ := (show ∃ t, v = Value.str z t from r1)
  refine wpAny_pyIter_ascii ha ?_
  refine ⟨s1.heap.objs.size, [s1.heap.objs.size], _, _, H1, rfl, I1.kept (t' := s1.toks) fun b o e => Heap.get?_push_of_some _ e, turn_str _ z t, ⟨_, Heap.get?_push_size _ rfl, rfl, rfl⟩, fun b hb => ?_, q⟩
  have e : b = s1.heap.objs.size := by simpa using hb
  subst e
  exact I1.fpOk (Nat.le_refl _) (I1.hok.fresh (Nat.le_refl _))
end
noncomputable def clipI (n : Nat) (d : Int) (o : Option Int) : Int := match o with | none => d | some i => max 0 (min (if i < 0 then i + (n : Int) else i) (n : Int))
theorem clip_sIx (n d : Nat) (o : Option Int) : clipI n d o = ((HT.sIx n d o : Nat) : Int) := by
  cases o with
  | none => rfl
  | some i =>
    show max 0 (min (if i < 0 then i + (n : Int) else i) (n : Int)) = (((if i < 0 then (i + (n : Int)).toNat else min i.toNat n) : Nat) : Int)
    split <;> omega
theorem slice_ix (lo hi : Option Int) (n : Nat) : Builtin.Str.strSliceIndices lo hi 1 n = (List.range (HT.sIx n n hi - HT.sIx n 0 lo)).map (HT.sIx n 0 lo + ·) := by
  have e : Builtin.Str.strSliceIndices lo hi 1 n = sliceRange (clipI n ((0 : Nat) : Int) lo) (clipI n (n : Int) hi) 1 := by
    unfold Builtin.Str.strSliceIndices clipI
    cases lo <;> cases hi <;> rfl
  rw [e, clip_sIx, clip_sIx, sliceRange_one]
theorem slice_cps (x : Str) (lo hi : Option Int) : (Txt.slice x lo hi).cps.toList = (x.cps.toList.drop (HT.sIx x.length 0 lo)).take (HT.sIx x.length x.length hi - HT.sIx x.length 0 lo) := by
  unfold Txt.slice
  have l2 := HT.sIx_le x.length x.length (Nat.le_refl _) hi
  rw [slice_ix]
  split
  · rename_i h
    simp only [List.length_map, List.length_range, Bool.and_eq_true, beq_iff_eq] at h
    have e0 : HT.sIx x.length 0 lo = 0 ∨ x.length = 0 := by omega
    have h2 := h.2
    rw [h2]
    rcases e0 with e0 | e0
    · rw [e0, List.drop_zero, List.take_of_length_le (by simp; exact Nat.le_refl _)]
    · have : x.cps.toList = [] := by
        apply List.length_eq_zero_iff.mp
        exact (show x.cps.toList.length = 0 by rw [Array.length_toList]; exact e0)
      rw [this]
      simp
  · show (((List.range _).map _).filterMap _).toArray.toList = _
    rw [pick_run]
end L2
namespace L2
open PySem PySem.Spec
noncomputable def hid (D : Addr) (H : Hp) : Hp := fun b => if b = D then none else H b
theorem hid_upd {D : Addr} {H : Hp} {o : HO} : hid D (upd H D o) = hid D H := by
  funext b
  unfold hid upd
  split
  · rfl
  · rfl
theorem hid_none {D : Addr} {H : Hp} (h : H D = none) : hid D H = H := by
  funext b
  unfold hid
  split
  · rename_i e; rw [e, h]
  · rfl
theorem hid_ne {D b : Addr} {H : Hp} (h : b ≠ D) : hid D H b = H b := by unfold hid; rw [if_neg h]
theorem hid_same (D : Addr) (H : Hp) : Same (hid D H) H := fun b o e => by
  unfold hid at e
  split at e
  · cases e
  · exact e
theorem Same.hid {D : Addr} {H H' : Hp} (e : Same H H') : Same (hid D H) (hid D H') := fun b o q => by
  unfold L2.hid at q ⊢
  split
  · rename_i z; rw [if_pos z] at q; cases q
  · rename_i z; rw [if_neg z] at q; exact e b o q
theorem Same.updD {D : Addr} {H H' : Hp} {o : HO} (hD : H D = none) (e : Same H H') : Same H (upd H' D o) := fun b u q => by
  rw [upd_ne (ne_of_none q hD)]
  exact e b u q
theorem comp_gen {J : It} {g : TG} {tt : TT} {te : TE} {σc : St} {D : Addr} {H1 : Hp} {Q : Hp → Prop} {n : Nat} (A : Nat → V → Prop) (hD : H1 D = none) (hn : n < sizeLine)
    (hJ : ∀ i H, Same H1 H → (i < n → J.go i H) ∧ (n ≤ i → J.stop i H) ∧ ∀ x H', i < n → J.yld i H x H' → H' = H ∧ A i x)
    (Φ : Nat → List V → Hp → Prop) (S : St → Prop) (h0 : Φ 0 [] H1) (s0 : S σc)
    (hs : ∀ i x ys σ H (R1 : V → St → Hp → Prop) (R0 : St → Hp → Prop), i < n → A i x → S σ → Same H1 H → H D = some (.lst ys) → Φ i ys (hid D H) →
      (∀ v σ2 H4, Same H H4 → S σ2 → Φ (i + 1) (ys ++ [v]) (hid D H4) → R1 v σ2 H4) → (∀ σ2 H3, Same H H3 → S σ2 → Φ (i + 1) ys (hid D H3) → R0 σ2 H3) →
      g x σ H fun σ2 H2 => tt σ2 H2 fun b H3 => if b = true then te σ2 H3 fun v H4 => R1 v σ2 H4 else R0 σ2 H3)
    (hq : ∀ ys H, Same H1 H → H D = some (.lst ys) → ys.length ≤ n → Φ n ys (hid D H) → Q H) : CompW J g tt te σc D H1 Q := by
  refine ⟨fun i m ys σ H => m = n - i ∧ i ≤ n ∧ ys.length ≤ i ∧ S σ ∧ Same H1 H ∧ H D = some (.lst ys) ∧ Φ i ys (hid D H), ⟨n, by simp, Nat.zero_le _, Nat.le_refl _, s0, (Same.refl H1).updD hD, upd_same, by rw [hid_upd, hid_none hD]; exact h0⟩, ?_⟩
  rintro i m ys σ H ⟨rfl, hi, hl, hS, sm, hDl, hΦ⟩
  refine ⟨by omega, ?_⟩
  obtain ⟨g1, g2, g3⟩ := hJ i H sm
  by_cases hlt : i < n
  · refine .inr ⟨g1 hlt, fun x H' y => ?_⟩
    obtain ⟨rfl, ax⟩ := g3 x H' hlt y
    refine hs i x ys σ H' (fun v σ2 H4 => H4 D = some (.lst ys) ∧ ∃ m', m' < n - i ∧ _) (fun σ2 H3 => ∃ m', m' < n - i ∧ _) hlt ax hS sm hDl hΦ (fun v σ2 H4 s4 hS2 p4 => ?_) (fun σ2 H3 s3 hS2 p3 => ?_)
    · exact ⟨s4 _ _ hDl, n - (i + 1), by omega, rfl, hlt, by rw [List.length_append, List.length_singleton]; omega, hS2, (sm.trans s4).updD hD, upd_same, by rw [hid_upd]; exact p4⟩
    · exact ⟨n - (i + 1), by omega, rfl, hlt, by omega, hS2, sm.trans s3, s3 _ _ hDl, p3⟩
  · have e : i = n := by omega
    subst e
    exact .inl ⟨g2 (Nat.le_refl _), hq ys H sm hDl hl hΦ⟩
theorem hJ_rng (H1 : Hp) (lo : Int) (n : Nat) : ∀ i H, Same H1 H → (i < n → (Itr lo n).go i H) ∧ (n ≤ i → (Itr lo n).stop i H) ∧ ∀ x H', i < n → (Itr lo n).yld i H x H' → H' = H ∧ x = .int (lo + i) :=
  fun _ _ _ => ⟨fun h => h, fun h => h, fun _ _ _ y => y⟩
theorem hJ_list {K : PySem.W.Frag} {H1 : Hp} {a : Addr} {xs : List V} (h : SqL K H1 a xs) : ∀ i H, Same H1 H → (i < xs.length → (Itl K a).go i H) ∧ (xs.length ≤ i → (Itl K a).stop i H) ∧ ∀ x H', i < xs.length → (Itl K a).yld i H x H' → H' = H ∧ xs[i]? = some x :=
  fun i _ sm => ⟨fun hi => ⟨xs, xs[i], sm.seq h, by simp [hi]⟩, fun hi => ⟨xs, sm.seq h, hi⟩, fun _ _ _ y => ⟨y.1, y.2 xs (sm.seq h)⟩⟩
theorem hJ_str (H1 : Hp) (z : Str) : ∀ i H, Same H1 H → (i < z.cps.size → (Its z).go i H) ∧ (z.cps.size ≤ i → (Its z).stop i H) ∧ ∀ x H', i < z.cps.size → (Its z).yld i H x H' → H' = H ∧ ∃ c, z.cps[i]? = some c ∧ x = .str ⟨#[c]⟩ :=
  fun _ _ _ => ⟨fun h => h, fun h => h, fun _ _ _ y => y⟩
noncomputable def rAddS : R2 := fun x y H Q => ∃ i j, x = V.str i ∧ y = V.str j ∧ i.length + j.length ≤ sizeLine ∧ Q (V.str (i ++ j)) H
theorem op_addS {X : Cx} : OpR X (binaryOp .Add) rAddS := op_add_str
section
variable {σ : St} {H : Hp} {te ta tb : TE} {Q : VK}
theorem vc_addS {x y : Str} (l : x.length + y.length ≤ sizeLine) (h : Q (.str (x ++ y)) H) : rAddS (.str x) (.str y) H Q := ⟨x, y, rfl, rfl, l, h⟩
theorem vc_sl {r : V → Option Int → Option Int → Hp → VK → Prop} {tl th : TO} (h : te σ H fun x H1 => tl σ H1 fun l H2 => th σ H2 fun u H3 => r x l u H3 Q) : tSl r te tl th σ H Q := h
theorem vc_nopart {Q : Option Int → Hp → Prop} (h : Q none H) : tNoPart σ H Q := h
theorem vc_part {Q : Option Int → Hp → Prop} (h : te σ H fun x H1 => ∃ i, x = .int i ∧ Q (some i) H1) : tPart te σ H Q := h
theorem vc_exI {i : Int} {Q : Int → Prop} (h : Q i) : ∃ k, V.int i = .int k ∧ Q k := ⟨i, rfl, h⟩
theorem vc_slS {z : Str} {lo hi : Option Int} (l : z.length ≤ sizeLine) (h : Q (.str (Txt.slice z lo hi)) H) : rSlS (.str z) lo hi H Q := ⟨z, rfl, l, h⟩
theorem vc_ixS {z : Str} {i : Int} {c : Nat} (l : z.length ≤ sizeLine) (e : atI z.cps.toList i = some c) (h : Q (.str ⟨#[c]⟩) H) : rIxS (.str z) (.int i) H Q := ⟨z, i, c, rfl, rfl, l, e, h⟩
theorem vc_sum {K : PySem.W.Frag} {p : Addr} {ns : List Int} (l : SqL K H p (ns.map V.int)) (h : Q (.int ns.sum) H) : rSum K [.ref p] H Q := ⟨p, ns, rfl, l, h⟩
theorem vc_lenL {K : PySem.W.Frag} {p : Addr} {xs : List V} (l : SqL K H p xs) (h : Q (.int xs.length) H) : rLenSeq K [.ref p] H Q := ⟨p, xs, rfl, .inl l, h⟩
theorem vc_lenT {K : PySem.W.Frag} {p : Addr} {xs : List V} (l : SqT K H p xs) (h : Q (.int xs.length) H) : rLenSeq K [.ref p] H Q := ⟨p, xs, rfl, .inr l, h⟩
theorem vc_listL {K : PySem.W.Frag} {p : Addr} {xs : List V} (l : SqL K H p xs) (h : ∀ q, H q = none → Q (.ref q) (upd H q (.lst xs))) : rListOf K [.ref p] H Q := ⟨p, xs, rfl, .inl l, h⟩
theorem vc_slL {K : PySem.W.Frag} {p : Addr} {xs : List V} {lo hi : Option Int} (l : SqL K H p xs) (h : ∀ q, H q = none → Q (.ref q) (upd H q (.lst (cutV xs lo hi)))) : rSlL K (.ref p) lo hi H Q := ⟨p, xs, rfl, l, h⟩
theorem vc_cat {p q : Addr} {xs ys : List V} (a : H p = some (.lst xs)) (b : H q = some (.lst ys)) (l : xs.length + ys.length ≤ sizeLine) (h : ∀ r, H r = none → Q (.ref r) (upd H r (.lst (xs ++ ys)))) : rCat (.ref p) (.ref q) H Q := ⟨p, q, xs, ys, rfl, rfl, a, b, l, h⟩
theorem vc_comp {ixs : List (Option Nat)} {wi : TI} {g : TG} {tt : TT} (h : wi σ H fun J H1 => ∀ D, H1 D = none → CompW J g tt te (stC ixs σ) D H1 fun H' => Q (.ref D) H') : tComp ixs wi g tt te σ H Q := h
theorem vc_rng1 {ta : TA} {R : It → Hp → Prop} (h : ta σ H fun vs H1 => ∃ j : Int, vs = [.int j] ∧ -(2 ^ 62) ≤ j ∧ j < 2 ^ 62 ∧ R (Itr 0 j.toNat) H1) : iRng1 ta σ H R := h
theorem vc_for {wi : TI} {g : TG} {tb : TS} {D : Ends} (h : wi σ H fun J H1 => ∃ W : Nat → Nat → St → Hp → Prop, (∃ m, W 0 m σ H1) ∧ ∀ i m σ H, W i m σ H →
    (J.stop i H ∧ D.nx σ H) ∨ (J.go i H ∧ ∃ N : St → Hp → Prop, (∀ σ' H', N σ' H' → ∃ m', m' < m ∧ W (i + 1) m' σ' H') ∧ ∀ x H', J.yld i H x H' → g x σ H' fun σ2 H2 => tb { D with nx := N, ct := N, bk := D.nx } σ2 H2)) : tFor wi g tb D σ H := h
theorem vc_bm {K : PySem.W.Frag} {T : String} {r : V → List V → Hp → VK → Prop} {to : TE} {ta : TA} (h : to σ H fun x H1 => tyV K T x H1 ∧ ta σ H1 fun xs H2 => r x xs H2 Q) : tBM K T r to ta σ H Q := h
theorem vc_append {K : PySem.W.Frag} {l : Addr} {xs : List V} {y : V} (h : H l = some (.lst xs)) (z : xs.length < sizeLine) (q : Q .non (upd H l (.lst (xs ++ [y])))) : rAppend (.ref l) [y] H Q := ⟨l, xs, y, rfl, rfl, h, z, q⟩
theorem tyV_list {K : PySem.W.Frag} {l : Addr} {xs : List V} (h : SqL K H l xs) : tyV K "list" (.ref l) H := .inl ⟨rfl, _, h⟩
end
theorem str_app (x y : Str) : (x ++ y).cps.toList = x.cps.toList ++ y.cps.toList := by
  show (x.cps ++ y.cps).toList = _
  simp
theorem str_len (x : Str) : x.length = x.cps.toList.length := by
  rw [Array.length_toList]; rfl
end L2
namespace L2
open PySem PySem.Spec
noncomputable def hids (S : List Addr) (H : Hp) : Hp := fun b => if b ∈ S then none else H b
theorem hids_upd {S : List Addr} {a : Addr} {H : Hp} {o : HO} (h : a ∈ S) : hids S (upd H a o) = hids S H := by
  funext b
  unfold hids upd
  by_cases hb : b ∈ S
  · rw [if_pos hb, if_pos hb]
  · rw [if_neg hb, if_neg hb, if_neg (show ¬ b = a from fun e => hb (by rw [e]; exact h))]
theorem hids_none {S : List Addr} {H : Hp} (h : ∀ a ∈ S, H a = none) : hids S H = H := by
  funext b
  unfold hids
  by_cases hb : b ∈ S
  · rw [if_pos hb, h b hb]
  · rw [if_neg hb]
theorem hids_at {S : List Addr} {b : Addr} {H : Hp} (h : b ∉ S) : hids S H b = H b := by unfold hids; rw [if_neg h]
theorem hids_same (S : List Addr) (H : Hp) : Same (hids S H) H := fun b o e => by
  unfold hids at e
  split at e
  · cases e
  · exact e
theorem Same.hids {S : List Addr} {H H' : Hp} (e : Same H H') : Same (hids S H) (hids S H') := fun b o q => by
  unfold L2.hids at q ⊢
  by_cases hb : b ∈ S
  · rw [if_pos hb] at q; cases q
  · rw [if_neg hb] at q ⊢; exact e b o q
theorem Same.out {S : List Addr} {H H' : Hp} (e : Same (L2.hids S H) (L2.hids S H')) (h : ∀ a ∈ S, H a = none) : Same H H' := by
  rw [hids_none h] at e
  exact e.trans (hids_same S H')
theorem vc_catT {K : PySem.W.Frag} {H : Hp} {Q : VK} {p q : Addr} {xs ys : List V} (a : SqT K H p xs) (b : SqT K H q ys) (hx : xs ≠ []) (hy : ys ≠ []) (l : xs.length + ys.length ≤ sizeLine) (h : ∀ r, H r = none → Q (.ref r) (upd H r (.tup (xs ++ ys)))) : rCatT K (.ref p) (.ref q) H Q :=
  ⟨p, q, xs, ys, rfl, rfl, a, b, hx, l, fun z => absurd z hy, fun _ => h⟩
end L2
namespace L2
theorem mt_appendR {X : Cx} : MtR X "list.append" rAppend := mt_append
end L2
namespace L2
open PySem
theorem vc_sfld {K : PySem.W.Frag} {ta tv : TE} {f : Str} {D : Ends} {σ : St} {H : Hp} (h : tv σ H fun y H1 => ta σ H1 fun x H2 => ∃ a C dx fs, x = .ref a ∧ H2 a = some (.ins C dx fs) ∧ Cls K C ∧ NoAttr K C f ∧ fs.length < 1000 ∧ D.nx σ (upd H2 a (.ins C dx (putF f y fs)))) : sFld K ta tv f D σ H := h
theorem vc_tfld {K : PySem.W.Frag} {ta : TE} {f : Str} {σ : St} {H : Hp} {Q : VK} (h : ta σ H fun x H1 => ∃ a C dx fs v, x = .ref a ∧ H1 a = some (.ins C dx fs) ∧ Cls K C ∧ NoAttr K C f ∧ fs.lookup f = some v ∧ Q v H1) : tFld K ta f σ H Q := h
theorem vc_make {C : Addr} {sp : Sp} {dvs : List V} {E : XK} {t : TA} {σ : St} {H : Hp} {Q : VK} (h : t σ H fun vs H1 => ∀ x dx, H1 x = none → H1 dx = none → dx ≠ x → sp (.ref x :: (vs ++ dvs)) (upd (upd H1 dx (.own x)) x (.ins C dx [])) (fun v H2 => v = .non ∧ Q (.ref x) H2) E) : tMake C sp dvs E t σ H Q := h
theorem vc_asgT {K : PySem.W.Frag} {n : Nat} {t : TGs} {a : Addr} {xs : List V} {σ : St} {H : Hp} {Q : St → Hp → Prop} (h : SqT K H a xs) (l : xs.length = n) (q : t xs σ H Q) : gTup K n t (.ref a) σ H Q := ⟨a, xs, rfl, h, l, q⟩
theorem vc_gcons {t : TG} {u : TGs} {v : V} {r : List V} {σ : St} {H : Hp} {Q : St → Hp → Prop} (h : t v σ H fun σ' H' => u r σ' H' Q) : gCons t u (v :: r) σ H Q := ⟨v, r, rfl, h⟩
theorem vc_gnil {σ : St} {H : Hp} {Q : St → Hp → Prop} (h : Q σ H) : gNil [] σ H Q := ⟨rfl, h⟩
end L2
namespace L2
theorem vc_ilist {K : PySem.W.Frag} {tl : TE} {σ : St} {H : Hp} {R : It → Hp → Prop} (h : tl σ H fun x H1 => ∃ a, x = .ref a ∧ (∃ xs, SqL K H1 a xs) ∧ R (Itl K a) H1) : iList K tl σ H R := h
theorem vc_ienum {K : PySem.W.Frag} {ta : TA} {σ : St} {H : Hp} {R : It → Hp → Prop} (h : ta σ H fun vs H1 => ∃ a xs, vs = [.ref a] ∧ SqL K H1 a xs ∧ R (Ite K a) H1) : iEnum K ta σ H R := h
theorem vc_istr {tl : TE} {σ : St} {H : Hp} {R : It → Hp → Prop} (h : tl σ H fun x H1 => ∃ z, x = .str z ∧ z.cps.all (· < 128) = true ∧ R (Its z) H1) : iStr tl σ H R := h
end L2
namespace L2
open PySem
section
variable {K : PySem.W.Frag} {H : Hp} {Q : VK}
end
end L2
namespace L2
open PySem
section
variable {X : Cx} {Nc : List Str} {sc : Scope} {s₂ : Shared} {H₂ : Hp} {C : Addr} {fp : List Addr}
theorem ix_listC : IxR (cxC X Nc sc s₂ H₂ C fp) (rIxL X.K) := ix_list
end
end L2
namespace L2
theorem vc_i1 {A B : Prop} (h : B) : if false = true then A else B := iteF h
theorem vc_i2 {A B : Prop} (h : A) : if true = true then A else B := iteT h
theorem vc_i3 {A B : Prop} (h : B) : if (!true) = true then A else B := iteF h
theorem vc_i4 {A B : Prop} (h : A) : if (!false) = true then A else B := iteT h
end L2
namespace L2
theorem dec_true {p : Prop} {i : Decidable p} (h : p) : @decide p i = true := @decide_eq_true p i h
theorem dec_false {p : Prop} {i : Decidable p} (h : ¬ p) : @decide p i = false := @decide_eq_false p i h
end L2
namespace L2
open PySem
theorem vc_gsub {to ti : TE} {t : TSet} {v : V} {σ : St} {H : Hp} {Q : St → Hp → Prop} (h : to σ H fun o H1 => ti σ H1 fun i H2 => t o i v H2 fun H3 => Q σ H3) : gSub to ti t v σ H Q := h
theorem vc_setL {p : Addr} {xs : List V} {k : Int} {j : Nat} {v : V} {H : Hp} {Q : Hp → Prop} (h : H p = some (.lst xs)) (e : ixN xs.length k = some j) (q : Q (upd H p (.lst (xs.set j v)))) : rSetL (.ref p) (.int k) v H Q := ⟨p, xs, k, j, rfl, rfl, h, e, q⟩
end L2
namespace My
noncomputable def halfGo : Int → Int → List (Int × Int) → Int → Int × Int
  | _, nh, [], _ => (nh, 1)
  | near, nh, (far, fh) :: rs, dist => if dist < far then (nh * (far - near) + (fh - nh) * (dist - near), far - near) else halfGo far fh rs dist
theorem fN_one (n : Int) : fN n 1 = n ∧ fD n 1 = 1 := by
  have h1 : dv n 1 = 1 := by
    unfold dv
    rw [if_neg (by decide), Int.gcd_one_right]
    rfl
  unfold fN fD
  rw [h1]
  exact ⟨Int.fdiv_one n, by decide⟩
end My
namespace My
end My
namespace L2
open PySem PySem.Spec PyProof.Rows
section
variable {P : Program} {w : World} {A : Around} {E : Value → Shared → Prop} {s : Shared} {d it vw : Addr} {es : Array DictEntry} {ep i : Nat}
end
section
variable {X : Cx} {pins : List (Addr × Obj)} {σ : St} {H : Hp} {s : Shared}
end
section
variable {X : Cx}
end
theorem comp_gen2 {J : It} {g : TG} {tt : TT} {te : TE} {σc : St} {D : Addr} {H1 : Hp} {Q : Hp → Prop} {n : Nat} (A : Nat → V → Hp → Prop) (hD : H1 D = none) (hn : n < sizeLine)
    (hJ : ∀ i H, Same H1 H → (i < n → J.go i H) ∧ (n ≤ i → J.stop i H) ∧ ∀ x H', i < n → J.yld i H x H' → Same H H' ∧ A i x H')
    (Φ : Nat → List V → Hp → Prop) (S : St → Prop) (mono : ∀ i ys H H', Same H H' → Φ i ys H → Φ i ys H') (h0 : Φ 0 [] H1) (s0 : S σc)
    (hs : ∀ i x ys σ H (R1 : V → St → Hp → Prop) (R0 : St → Hp → Prop), i < n → A i x H → S σ → Same H1 H → H D = some (.lst ys) → Φ i ys (hid D H) →
      (∀ v σ2 H4, Same H H4 → S σ2 → Φ (i + 1) (ys ++ [v]) (hid D H4) → R1 v σ2 H4) → (∀ σ2 H3, Same H H3 → S σ2 → Φ (i + 1) ys (hid D H3) → R0 σ2 H3) →
      g x σ H fun σ2 H2 => tt σ2 H2 fun b H3 => if b = true then te σ2 H3 fun v H4 => R1 v σ2 H4 else R0 σ2 H3)
    (hq : ∀ ys H, Same H1 H → H D = some (.lst ys) → ys.length ≤ n → Φ n ys (hid D H) → Q H) : CompW J g tt te σc D H1 Q := by
  refine ⟨fun i m ys σ H => m = n - i ∧ i ≤ n ∧ ys.length ≤ i ∧ S σ ∧ Same H1 H ∧ H D = some (.lst ys) ∧ Φ i ys (hid D H), ⟨n, by simp, Nat.zero_le _, Nat.le_refl _, s0, (Same.refl H1).updD hD, upd_same, by rw [hid_upd, hid_none hD]; exact h0⟩, ?_⟩
  rintro i m ys σ H ⟨rfl, hi, hl, hS, sm, hDl, hΦ⟩
  refine ⟨by omega, ?_⟩
  obtain ⟨g1, g2, g3⟩ := hJ i H sm
  by_cases hlt : i < n
  · refine .inr ⟨g1 hlt, fun x H' y => ?_⟩
    obtain ⟨sy, ax⟩ := g3 x H' hlt y
    refine hs i x ys σ H' (fun v σ2 H4 => H4 D = some (.lst ys) ∧ ∃ m', m' < n - i ∧ _) (fun σ2 H3 => ∃ m', m' < n - i ∧ _) hlt ax hS (sm.trans sy) (sy _ _ hDl) (mono _ _ _ _ sy.hid hΦ) (fun v σ2 H4 s4 hS2 p4 => ?_) (fun σ2 H3 s3 hS2 p3 => ?_)
    · exact ⟨s4 _ _ (sy _ _ hDl), n - (i + 1), by omega, rfl, hlt, by rw [List.length_append, List.length_singleton]; omega, hS2, ((sm.trans sy).trans s4).updD hD, upd_same, by rw [hid_upd]; exact p4⟩
    · exact ⟨n - (i + 1), by omega, rfl, hlt, by omega, hS2, (sm.trans sy).trans s3, s3 _ _ (sy _ _ hDl), p3⟩
  · have e : i = n := by omega
    subst e
    exact .inl ⟨g2 (Nat.le_refl _), hq ys H sm hDl hl hΦ⟩
end L2
namespace L2
open PySem
theorem pg_tupC {X : Cx} {Nc : List Str} {sc : Scope} {s₂ : Shared} {H₂ : Hp} {C : Addr} {fp : List Addr} {ts : List Expr} {k : Nat} {p : Pos} {n : Nat} {t : TGs} (hc : (cxC X Nc sc s₂ H₂ C fp).calm = true) (h : PGs (cxC X Nc sc s₂ H₂ C fp) ts t)
    (hn : (assignEach ts (cxC X Nc sc s₂ H₂ C fp).env).length = n := by rfl) (hst : (assignEach ts (cxC X Nc sc s₂ H₂ C fp).env).findIdx? (·.1) = none := by rfl) : PG (cxC X Nc sc s₂ H₂ C fp) (.Tuple ts k p) (gTup X.K n t) := pg_tup hc h hn hst
end L2
namespace L2
open PySem PySem.Spec PyProof.Rows
section
variable {X : Cx}
noncomputable def rAll (K : PySem.W.Frag) : List V → Hp → VK → Prop := fun xs H Q => ∃ (p : Addr) (bs : List Bool), xs = [.ref p] ∧ SqL K H p (bs.map V.bl) ∧ Q (.bl (bs.all id)) H
theorem all_range (bs : List Bool) : (List.range bs.length).all (fun i => bs.getD i false) = bs.all id := by
  rw [Bool.eq_iff_iff, List.all_eq_true, List.all_eq_true]
  constructor
  · intro h b hb
    obtain ⟨i, hi, e⟩ := List.mem_iff_getElem.mp hb
    have := h i (List.mem_range.mpr hi)
    rw [List.getD_eq_getElem?_getD, List.getElem?_eq_getElem hi, e] at this
    exact this
  · intro h i hi
    have hi' := List.mem_range.mp hi
    rw [List.getD_eq_getElem?_getD, List.getElem?_eq_getElem hi']
    exact h _ (List.getElem_mem hi')
theorem call_all (hc : X.calm = true) : CallR X (.builtin "all") (rAll X.K) := by
  intro pins s σ H xs us Q I r h
  obtain ⟨p, bs, rfl, hq, q⟩ := h
  obtain ⟨u, rfl, ru⟩ := vals1 r
  cases (show u = Value.ref p from ru)
  obtain ⟨its, rv, pl, hz⟩ := I.list hq
  have hl := rv.length
  rw [List.length_map] at hl
  refine call_all_walk (wpAny_pyIter_list pl.isList ?_)
  have hlt : p < s.heap.objs.size := by obtain ⟨o, n, e, _⟩ := pl; exact Heap.lt_size e
  have hh : X.A.in1.handled = none := I.ok.hd hc
  refine ⟨s.heap.objs.size, _, _, _, _, _, fun i => bs.getD i false, rfl, Walks.list hh _ p (Nat.ne_of_lt hlt) its.toArray, ?_, ?_, ?_⟩
  · exact ⟨⟨_, Heap.get?_push_size _ rfl, rfl, rfl⟩, pl.isList.push _⟩
  · intro i v s' Q' E' hv hQ
    have hv' : its[i]? = some v := by simpa using hv
    have hi : i < bs.length := by
      have := (List.getElem?_eq_some_iff.mp hv').1
      omega
    obtain ⟨u, hu, ru⟩ := rv.get (show (bs.map V.bl)[i]? = some (V.bl bs[i]) by simp [hi])
    rw [hv'] at hu
    cases hu
    cases (show v = Value.bool bs[i] from ru)
    refine wpAny_truthy_bool ?_
    have e : bs.getD i false = bs[i] := by rw [List.getD_eq_getElem?_getD, List.getElem?_eq_getElem hi]; rfl
    replace hQ : Q' (bs.getD i false) s' := hQ
    rw [e] at hQ
    exact hQ
  · intro h' tk hk
    have e : its.toArray.size = bs.length := by simp [hl]
    rw [e, all_range]
    exact ⟨.bl _, H, I.kept (t' := tk) fun b o e => hk b o (by simp; exact Nat.ne_of_lt (Heap.lt_size e)) (Heap.get?_push_of_some _ e), rfl, q⟩
theorem vals_ty : ∀ {ns : List String} {its : List Value}, Vals (ns.map V.ty) its → its = ns.map Value.type
  | [], _, .nil => rfl
  | _ :: _, _, .cons r q => by
    rw [vals_ty q]
    exact congrArg (· :: _) (show _ = Value.type _ from r)
end
noncomputable def rowT : Bool → String
  | true => "tuple"
  | false => "list"
noncomputable def rowI : Bool → String
  | true => "tuple_iterator"
  | false => "list_iterator"
noncomputable def RAt (t : Bool) (h : Heap) (l : Addr) (its : Array Value) : Prop := ∃ o, h.get? l = some o ∧ o.cls = .type (rowT t) ∧ ∃ n, o.data = .seq its n
noncomputable def RIt (t : Bool) (h : Heap) (j l : Addr) (i : Nat) : Prop := ∃ o, h.get? j = some o ∧ o.cls = .type (rowI t) ∧ o.data = .fields #[.ref l, .int i 0]
section
variable {t : Bool} {h h' : Heap} {j l : Addr} {i : Nat} {its : Array Value}
theorem RAt.at (x : RAt t h l its) (k : ∀ o, h.get? l = some o → h'.get? l = some o) : RAt t h' l its := by
  obtain ⟨o, ho, r⟩ := x
  exact ⟨o, k o ho, r⟩
theorem RIt.at (x : RIt t h j l i) (k : ∀ o, h.get? j = some o → h'.get? j = some o) : RIt t h' j l i := by
  obtain ⟨o, ho, r⟩ := x
  exact ⟨o, k o ho, r⟩
theorem RIt.lt (x : RIt t h j l i) : j < h.objs.size := by
  obtain ⟨o, ho, _⟩ := x
  exact Heap.lt_size ho
theorem RAt.lt (x : RAt t h l its) : l < h.objs.size := by
  obtain ⟨o, ho, _⟩ := x
  exact Heap.lt_size ho
end
section
variable {P : Program} {w : World} {A : Around} {E : Value → Shared → Prop} {s : Shared} {t : Bool} {j l : Addr} {i : Nat} {its : Array Value}
theorem row_item {x : Value} {Q : Value → Shared → Prop} (gj : RIt t s.heap j l i) (g : RAt t s.heap l its) (e : its[i]? = some x)
    (q : ∀ h', RIt t h' j l (i + 1) → Heap.SameBut j s.heap h' → Q x { s with heap := h' }) : wpAny (model P w) A (Builtin.SmallTypes.nextOf (.ref j)) Q E s := by
  cases t with
  | false => exact wpAny_nextOf_list_item gj g e q
  | true =>
    have gi : s.heap.IsTupleIter j l i := gj
    obtain ⟨oj, hoj, hcj, hdj⟩ := gj
    obtain ⟨om, hom, _, nm, hdm⟩ := g
    unfold Builtin.SmallTypes.nextOf
    refine wpAny_bind (wpAny_callSpecial?_slot (name := Str.ofString "__next__") gi.typeIs F.slot_tuple_iterator_next (wpAny_call_entry F.slot_tuple_iterator_next gi.typeIs F.entry_tuple_iterator_next ?_ (F.args_tuple_iterator_next_1 _)))
    show wpAny _ _ (field (.ref j) 0 >>= _) _ _ s
    refine wpAny_bind (wpAny_field hoj hdj (x := .ref l) rfl ?_)
    show wpAny _ A.in1 (if (Value.ref l == Value.none) = true then _ else _) _ _ s
    rw [if_neg (by exact Bool.false_ne_true)]
    show wpAny _ _ (field (.ref j) 1 >>= _) _ _ s
    refine wpAny_bind (wpAny_field hoj hdj (x := .int i 0) rfl ?_)
    show wpAny _ A.in1 (seqItems? (.ref l) >>= _) _ _ s
    refine wpAny_bind (wpAny_seqItems hom hdm ?_)
    simp only [Int.toNat_natCast, e]
    refine wpAny_bind (wpAny_setField hoj hdj (by simp) (wpAny_pure ⟨x, rfl, wpAny_pure (q _ ?_ (Heap.SameBut.update ..))⟩))
    refine ⟨_, Heap.get?_update_self _ hoj (Obj.isFreed_of_fields (Obj.data_mapFields hdj _)), (Obj.cls_mapFields ..).trans hcj, ?_⟩
    rw [Obj.data_mapFields hdj]
    simp [rawInt]
theorem row_end {Q : Value → Shared → Prop} (hh : A.handled = none) (gj : RIt t s.heap j l i) (g : RAt t s.heap l its) (e : its[i]? = none)
    (q : ∀ h' x, Heap.ExtBut j s.heap h' → (∃ o, h'.get? x = some o ∧ o.cls = .type "StopIteration") → E (.ref x) { s with heap := h' }) : wpAny (model P w) A (Builtin.SmallTypes.nextOf (.ref j)) Q E s := by
  cases t with
  | false => exact wpAny_nextOf_list_end hh gj g e q
  | true =>
    have gi : s.heap.IsTupleIter j l i := gj
    obtain ⟨oj, hoj, hcj, hdj⟩ := gj
    obtain ⟨om, hom, _, nm, hdm⟩ := g
    unfold Builtin.SmallTypes.nextOf
    refine wpAny_bind (wpAny_callSpecial?_slot (name := Str.ofString "__next__") gi.typeIs F.slot_tuple_iterator_next (wpAny_call_entry F.slot_tuple_iterator_next gi.typeIs F.entry_tuple_iterator_next ?_ (F.args_tuple_iterator_next_1 _)))
    show wpAny _ _ (field (.ref j) 0 >>= _) _ _ s
    refine wpAny_bind (wpAny_field hoj hdj (x := .ref l) rfl ?_)
    show wpAny _ A.in1 (if (Value.ref l == Value.none) = true then _ else _) _ _ s
    rw [if_neg (by exact Bool.false_ne_true)]
    show wpAny _ _ (field (.ref j) 1 >>= _) _ _ s
    refine wpAny_bind (wpAny_field hoj hdj (x := .int i 0) rfl ?_)
    show wpAny _ A.in1 (seqItems? (.ref l) >>= _) _ _ s
    refine wpAny_bind (wpAny_seqItems hom hdm ?_)
    simp only [Int.toNat_natCast, e]
    refine wpAny_bind (wpAny_rule (wpAny_bind (wpAny_setField hoj hdj (by simp) ?_)))
    show wpAny _ A.in1 (newExc (.type "StopIteration") [] >>= _) _ _ _
    refine wpAny_bind ?_
    simp only [newExc, newTuple]
    refine wpAny_bind (wpAny_newObj_type ?_ (by size_fits))
    refine wpAny_bind (m := firstArgMember _ _) (wpAny_of_eq (a := Value.none) (by first | rfl | (simp only [firstArgMember]; rfl)) ?_)
    refine wpAny_newObj_type ?_ (by size_fits)
    refine wpAny_raiseNew_none (show A.in1.handled = none from hh) ?_
    exact q _ _ (((Heap.SameBut.update ..).extBut.push _).push _) ⟨_, Heap.get?_push_size _ rfl, rfl⟩
end
noncomputable def zc1 (t : Bool) (h : Heap) (l : Addr) : Heap := h.push { cls := .type (rowI t), data := .fields #[.ref l, .int 0 0] }
noncomputable def zc3 (t : Bool) (h : Heap) (l m : Addr) : Heap := (zc1 t (zc1 t h l) m).push { cls := .type "tuple", data := .seq #[.ref h.objs.size, .ref (zc1 t h l).objs.size] }
noncomputable def zc4 (t : Bool) (h : Heap) (l m : Addr) : Heap := (zc3 t h l m).push { cls := .type "tuple", data := .seq #[.none, .none] }
noncomputable def zc5 (t : Bool) (h : Heap) (l m : Addr) : Heap :=
  (zc4 t h l m).push { cls := .type "zip", data := .fields #[.none, .bool false, .bool false, .ref (zc1 t (zc1 t h l) m).objs.size, .ref (zc3 t h l m).objs.size] }
theorem zip_new (l m : Addr) (xs ys : Array Value) :
    Meets (Builtin.«zip.__new__» ⟨[.type "zip", .ref l, .ref m], []⟩) (fun _ R s => s.heap.IsTuple l xs ∧ s.heap.IsTuple m ys ∧ R (.ok (.ret (.ref (zc4 true s.heap l m).objs.size))) { s with heap := zc5 true s.heap l m }) :=
  .of_wp fun P w A R s hs => by
    obtain ⟨hp, g, d, tk, os⟩ := s
    obtain ⟨g1, g2, q⟩ := hs
    have sb := sub_zip
    have k1 : Heap.IsTuple (Shared.heap ⟨hp, g, d, tk, os⟩) l xs := g1
    have k2 : Heap.IsTuple (Shared.heap ⟨hp.push { cls := .type "tuple_iterator", data := .fields #[.ref l, .int 0 0] }, g, d, tk, os⟩) m ys := Heap.IsTuple.push g2 _
    wp_walk using wpAny_pyIter_tuple k1, wpAny_pyIter_tuple k2
    exact ⟨_, rfl, q⟩
end L2
namespace L2
open PySem PySem.Spec PyProof.Rows
section
variable {P : Program} {w : World} {A : Around} {E : Value → Shared → Prop} {s : Shared} {t : Bool} {l m : Addr} {xs ys : Array Value}
theorem zip_made {Q : Value → Shared → Prop} (g1 : RAt t s.heap l xs) (g2 : RAt t s.heap m ys)
    (q : ∀ h', IsZip h' (s.heap.objs.size + 4) (s.heap.objs.size + 2) (s.heap.objs.size + 3) .none → IsPair h' (s.heap.objs.size + 2) (.ref s.heap.objs.size) (.ref (s.heap.objs.size + 1)) → IsPair h' (s.heap.objs.size + 3) .none .none →
      RIt t h' s.heap.objs.size l 0 → RIt t h' (s.heap.objs.size + 1) m 0 → h'.objs.size = s.heap.objs.size + 5 → (∀ b o, s.heap.get? b = some o → h'.get? b = some o) → Q (.ref (s.heap.objs.size + 4)) { s with heap := h' }) :
    wpAny (model P w) A (call (.type "zip") [.ref l, .ref m]) Q E s := by
  cases t with
  | false => exact call_zip_2 g1 g2 q
  | true =>
    refine callType_new F.called_zip (by decide) (F.typeCall_zip_2 _ _) (F.newCall_zip_2 _ _) (fun z => F.args_object_init_3 z _ _) F.entry_zip_new (zip_new l m xs ys) ⟨g1, g2, ?_⟩
    have n1 : (zc1 true s.heap l).objs.size = s.heap.objs.size + 1 := Heap.size_push ..
    have n2 : (zc1 true (zc1 true s.heap l) m).objs.size = s.heap.objs.size + 2 := (Heap.size_push ..).trans (congrArg (· + 1) n1)
    have n3 : (zc3 true s.heap l m).objs.size = s.heap.objs.size + 3 := (Heap.size_push ..).trans (congrArg (· + 1) n2)
    have n4 : (zc4 true s.heap l m).objs.size = s.heap.objs.size + 4 := (Heap.size_push ..).trans (congrArg (· + 1) n3)
    have n5 : (zc5 true s.heap l m).objs.size = s.heap.objs.size + 5 := (Heap.size_push ..).trans (congrArg (· + 1) n4)
    have u45 : ∀ {b o}, (zc4 true s.heap l m).get? b = some o → (zc5 true s.heap l m).get? b = some o := fun z => Heap.get?_push_of_some _ z
    have u35 : ∀ {b o}, (zc3 true s.heap l m).get? b = some o → (zc5 true s.heap l m).get? b = some o := fun z => u45 (Heap.get?_push_of_some _ z)
    have u25 : ∀ {b o}, (zc1 true (zc1 true s.heap l) m).get? b = some o → (zc5 true s.heap l m).get? b = some o := fun z => u35 (Heap.get?_push_of_some _ z)
    have u15 : ∀ {b o}, (zc1 true s.heap l).get? b = some o → (zc5 true s.heap l m).get? b = some o := fun z => u25 (Heap.get?_push_of_some _ z)
    have e5 : (zc5 true s.heap l m).get? (zc4 true s.heap l m).objs.size = some _ := Heap.get?_push_size _ rfl
    have e4 : (zc5 true s.heap l m).get? (zc3 true s.heap l m).objs.size = some _ := u45 (Heap.get?_push_size _ rfl)
    have e3 : (zc5 true s.heap l m).get? (zc1 true (zc1 true s.heap l) m).objs.size = some _ := u35 (Heap.get?_push_size _ rfl)
    have e2 : (zc5 true s.heap l m).get? (zc1 true s.heap l).objs.size = some _ := u25 (Heap.get?_push_size _ rfl)
    have e1 : (zc5 true s.heap l m).get? s.heap.objs.size = some _ := u15 (Heap.get?_push_size _ rfl)
    show _ ∧ _
    rw [n2, n3, n4] at e5
    rw [n1, n2] at e3
    rw [n3] at e4
    rw [n1] at e2
    rw [n4]
    exact ⟨⟨_, e5, rfl⟩, q _ e5 e3 e4 ⟨_, e1, rfl, rfl⟩ ⟨_, e2, rfl, rfl⟩ n5 fun b o z => u15 (Heap.get?_push_of_some _ z)⟩
structure Zp (t : Bool) (h : Heap) (z c d j k l m : Addr) (f : Value) (i : Nat) : Prop where
  z : IsZip h z c d f
  c : IsPair h c (.ref j) (.ref k)
  d : ∃ a b, IsPair h d a b
  j : RIt t h j l i
  k : RIt t h k m i
theorem RIt.but {h h' : Heap} {j l b : Addr} {i : Nat} (x : RIt t h j l i) (e : Heap.ExtBut b h h') (n : j ≠ b) : RIt t h' j l i := x.at fun o q => e j o n q
theorem RAt.but {h h' : Heap} {b : Addr} (x : RAt t h l xs) (e : Heap.ExtBut b h h') (n : l ≠ b) : RAt t h' l xs := x.at fun o q => e l o n q
theorem zip_item {z c d j k : Addr} {i : Nat} {x y : Value} {Q : Value → Shared → Prop} (D : ZipApart z c d j k l m) (g : Zp t s.heap z c d j k l m .none i) (g1 : RAt t s.heap l xs) (g2 : RAt t s.heap m ys) (ex : xs[i]? = some x) (ey : ys[i]? = some y)
    (q : ∀ h', Zp t h' z c d j k l m (rawInt s.heap.objs.size) (i + 1) → IsPair h' s.heap.objs.size x y → h'.objs.size = s.heap.objs.size + 1 → (∀ b o, b ∉ [z, d, j, k] → s.heap.get? b = some o → h'.get? b = some o) → Q (.ref s.heap.objs.size) { s with heap := h' }) :
    wpAny (model P w) A (Builtin.«zip.__next__» ⟨[.ref z], []⟩) (fun fin s' => ∃ v, fin = .done (.ret v) ∧ Q v s') E s := by
  obtain ⟨gz, gc, ⟨p, r, gd⟩, gj, gk⟩ := g
  show wpAny _ A (field (.ref z) 2 >>= _) _ _ _
  refine wpAny_bind (wpAny_field gz rfl (x := .bool false) rfl ?_)
  show wpAny _ A (field (.ref z) 3 >>= _) _ _ _
  refine wpAny_bind (wpAny_field gz rfl (x := .ref c) rfl ?_)
  refine wpAny_bind (wpAny_seqItems gc rfl ?_)
  show wpAny _ A (Builtin.SmallTypes.ownedTupleIsFree (.ref z) >>= _) _ _ _
  refine wpAny_bind ?_
  unfold Builtin.SmallTypes.ownedTupleIsFree
  refine wpAny_bind (wpAny_field gz rfl (x := .none) rfl (wpAny_pure ?_))
  simp only [if_true]
  refine wpAny_bind (wpAny_rule ?_)
  refine wpAny_bind (wpAny_field gz rfl (x := .ref d) rfl ?_)
  refine wpAny_bind (wpAny_setField_rec gz (by simp) fun h1 z1 a1 => ?_)
  replace z1 : IsZip h1 z c d .ellipsis := z1
  refine wpAny_bind ?_
  simp only [List.zipIdx_cons, List.zipIdx_nil, List.forIn_cons, List.forIn_nil]
  refine wpAny_bind (wpAny_bind (wpAny_onRaise ?_))
  show wpAny _ A (Builtin.SmallTypes.nextOf (.ref j) >>= _) _ _ _
  refine wpAny_bind (row_item (gj.but a1.extBut D.i1z) (g1.but a1.extBut D.l1z) ex fun h2 j2 a2 => wpAny_pure ?_)
  have d2 : IsPair h2 d p r := a2.extBut _ _ D.TOi1 (a1.extBut _ _ D.TOz gd)
  refine wpAny_bind (wpAny_seqItems d2 rfl ?_)
  refine wpAny_bind (wpAny_updateSeq_pair d2 fun h3 d3 a3 => ?_)
  replace d3 : IsPair h3 d x r := d3
  refine wpAny_bind (wpAny_letGo (wpAny_pure ?_))
  refine wpAny_bind (wpAny_bind (wpAny_onRaise ?_))
  show wpAny _ A (Builtin.SmallTypes.nextOf (.ref k) >>= _) _ _ _
  refine wpAny_bind (row_item (((gk.but a1.extBut D.i2z).but a2.extBut D.i12.symm).but a3.extBut D.TOi2.symm) (((g2.but a1.extBut D.l2z).but a2.extBut D.l2i1).but a3.extBut D.l2TO) ey fun h4 k4 a4 => wpAny_pure ?_)
  have d4 : IsPair h4 d x r := a4.extBut _ _ D.TOi2 d3
  refine wpAny_bind (wpAny_seqItems d4 rfl ?_)
  refine wpAny_bind (wpAny_updateSeq_pair d4 fun h5 d5 a5 => ?_)
  replace d5 : IsPair h5 d x y := d5
  refine wpAny_bind (wpAny_letGo (wpAny_pure (wpAny_pure ?_)))
  refine wpAny_bind (wpAny_seqItems d5 rfl ?_)
  refine wpAny_bind (wpAny_newTuple ?_)
  have e5 : h5.objs.size = s.heap.objs.size := by rw [a5.1, a4.1, a3.1, a2.1, a1.1]
  have z5 : IsZip h5 z c d .ellipsis := a5.extBut _ _ D.TOz.symm (a4.extBut _ _ D.i2z.symm (a3.extBut _ _ D.TOz.symm (a2.extBut _ _ D.i1z.symm z1)))
  have k5 : ∀ b o, b ≠ z → b ≠ d → b ≠ j → b ≠ k → s.heap.get? b = some o → h5.get? b = some o := fun b o b1 b2 b3 b4 e =>
    a5.extBut _ _ b2 (a4.extBut _ _ b4 (a3.extBut _ _ b2 (a2.extBut _ _ b3 (a1.extBut _ _ b1 e))))
  have j5 : RIt t h5 j l (i + 1) := ((j2.but a3.extBut D.TOi1.symm).but a4.extBut D.i12).but a5.extBut D.TOi1.symm
  have m5 : RIt t h5 k m (i + 1) := k4.but a5.extBut D.TOi2.symm
  have zl : z < h5.objs.size := Heap.lt_size z5
  show wpAny _ A (Builtin.SmallTypes.ownedTupleHandOut (.ref z) (.ref h5.objs.size) >>= _) _ _ _
  refine wpAny_bind ?_
  unfold Builtin.SmallTypes.ownedTupleHandOut
  have z6 : IsZip (h5.push { cls := .type "tuple", data := .seq #[x, y] }) z c d .ellipsis := Heap.get?_push_of_some _ z5
  refine wpAny_bind (wpAny_setField_rec z6 (by simp) fun h7 z7 a7 => ?_)
  replace z7 : IsZip h7 z c d (rawInt h5.objs.size) := z7
  refine wpAny_setField_rec z7 (by simp) fun h8 z8 a8 => ?_
  replace z8 : IsZip h8 z c d (rawInt h5.objs.size) := z8
  have up : ∀ b o, b ≠ z → h5.get? b = some o → h8.get? b = some o := fun b o b1 e => a8.extBut _ _ b1 (a7.extBut _ _ b1 (Heap.get?_push_of_some _ e))
  have t8 : IsPair h8 h5.objs.size x y := a8.extBut _ _ (Nat.ne_of_gt zl) (a7.extBut _ _ (Nat.ne_of_gt zl) (Heap.get?_push_size _ rfl))
  have e8 : h8.objs.size = h5.objs.size + 1 := by rw [a8.1, a7.1, Heap.size_push]
  rw [e5] at z8 t8 e8
  refine wpAny_pure ⟨_, rfl, ?_⟩
  show Q (.ref h5.objs.size) _
  rw [e5]
  refine q h8 ⟨z8, up _ _ D.TIz (k5 _ _ D.TIz D.TITO D.TIi1 D.TIi2 gc), ⟨x, y, up _ _ D.TOz d5⟩, j5.at fun o e => up _ o D.i1z e, m5.at fun o e => up _ o D.i2z e⟩ t8 e8 fun b o hb e => ?_
  simp only [List.mem_cons, List.not_mem_nil, or_false, not_or] at hb
  exact up b o hb.1 (k5 b o hb.1 hb.2.1 hb.2.2.1 hb.2.2.2 e)
theorem zip_stop {z c d j k : Addr} {i : Nat} {Q : Fin → Shared → Prop} (hh : A.handled = none) (D : ZipApart z c d j k l m) (g : Zp t s.heap z c d j k l m .none i) (g1 : RAt t s.heap l xs) (ex : xs[i]? = none)
    (q : ∀ h' e, (∀ b o, b ∉ [z, d, j, k] → s.heap.get? b = some o → h'.get? b = some o) → (∃ o, h'.get? e = some o ∧ o.cls = .type "StopIteration") → E (.ref e) { s with heap := h' }) :
    wpAny (model P w) A (Builtin.«zip.__next__» ⟨[.ref z], []⟩) Q E s := by
  obtain ⟨gz, gc, ⟨p, r, gd⟩, gj, gk⟩ := g
  show wpAny _ A (field (.ref z) 2 >>= _) _ _ _
  refine wpAny_bind (wpAny_field gz rfl (x := .bool false) rfl ?_)
  show wpAny _ A (field (.ref z) 3 >>= _) _ _ _
  refine wpAny_bind (wpAny_field gz rfl (x := .ref c) rfl ?_)
  refine wpAny_bind (wpAny_seqItems gc rfl ?_)
  show wpAny _ A (Builtin.SmallTypes.ownedTupleIsFree (.ref z) >>= _) _ _ _
  refine wpAny_bind ?_
  unfold Builtin.SmallTypes.ownedTupleIsFree
  refine wpAny_bind (wpAny_field gz rfl (x := .none) rfl (wpAny_pure ?_))
  simp only [if_true]
  refine wpAny_bind (wpAny_rule ?_)
  refine wpAny_bind (wpAny_field gz rfl (x := .ref d) rfl ?_)
  refine wpAny_bind (wpAny_setField_rec gz (by simp) fun h1 z1 a1 => ?_)
  replace z1 : IsZip h1 z c d .ellipsis := z1
  refine wpAny_bind ?_
  simp only [List.zipIdx_cons, List.zipIdx_nil, List.forIn_cons, List.forIn_nil]
  refine wpAny_bind (wpAny_bind (wpAny_onRaise ?_))
  show wpAny _ A (Builtin.SmallTypes.nextOf (.ref j) >>= _) _ _ _
  refine wpAny_bind (row_end hh (gj.but a1.extBut D.i1z) (g1.but a1.extBut D.l1z) ex fun h2 e a2 he => ?_)
  obtain ⟨oe, hoe, hce⟩ := he
  have z2 : IsZip h2 z c d .ellipsis := a2 _ _ D.i1z.symm z1
  have ne : e ≠ z := fun x => by subst x; rw [z2] at hoe; cases hoe; simp at hce
  refine wpAny_setField_rec z2 (by simp) fun h3 _ a3 => q h3 e (fun b o hb x => ?_) ⟨oe, a3.extBut _ _ ne hoe, hce⟩
  simp only [List.mem_cons, List.not_mem_nil, or_false, not_or] at hb
  exact a3.extBut _ _ hb.1 (a2 _ _ hb.2.2.1 (a1.extBut _ _ hb.1 x))
theorem zip_stop2 {z c d j k : Addr} {i : Nat} {x : Value} {Q : Fin → Shared → Prop} (hh : A.handled = none) (D : ZipApart z c d j k l m) (g : Zp t s.heap z c d j k l m .none i) (g1 : RAt t s.heap l xs) (g2 : RAt t s.heap m ys) (ex : xs[i]? = some x) (ey : ys[i]? = none)
    (q : ∀ h' e, (∀ b o, b ∉ [z, d, j, k] → s.heap.get? b = some o → h'.get? b = some o) → (∃ o, h'.get? e = some o ∧ o.cls = .type "StopIteration") → E (.ref e) { s with heap := h' }) :
    wpAny (model P w) A (Builtin.«zip.__next__» ⟨[.ref z], []⟩) Q E s := by
  obtain ⟨gz, gc, ⟨p, r, gd⟩, gj, gk⟩ := g
  show wpAny _ A (field (.ref z) 2 >>= _) _ _ _
  refine wpAny_bind (wpAny_field gz rfl (x := .bool false) rfl ?_)
  show wpAny _ A (field (.ref z) 3 >>= _) _ _ _
  refine wpAny_bind (wpAny_field gz rfl (x := .ref c) rfl ?_)
  refine wpAny_bind (wpAny_seqItems gc rfl ?_)
  show wpAny _ A (Builtin.SmallTypes.ownedTupleIsFree (.ref z) >>= _) _ _ _
  refine wpAny_bind ?_
  unfold Builtin.SmallTypes.ownedTupleIsFree
  refine wpAny_bind (wpAny_field gz rfl (x := .none) rfl (wpAny_pure ?_))
  simp only [if_true]
  refine wpAny_bind (wpAny_rule ?_)
  refine wpAny_bind (wpAny_field gz rfl (x := .ref d) rfl ?_)
  refine wpAny_bind (wpAny_setField_rec gz (by simp) fun h1 z1 a1 => ?_)
  replace z1 : IsZip h1 z c d .ellipsis := z1
  refine wpAny_bind ?_
  simp only [List.zipIdx_cons, List.zipIdx_nil, List.forIn_cons, List.forIn_nil]
  refine wpAny_bind (wpAny_bind (wpAny_onRaise ?_))
  show wpAny _ A (Builtin.SmallTypes.nextOf (.ref j) >>= _) _ _ _
  refine wpAny_bind (row_item (gj.but a1.extBut D.i1z) (g1.but a1.extBut D.l1z) ex fun h2 j2 a2 => wpAny_pure ?_)
  have d2 : IsPair h2 d p r := a2.extBut _ _ D.TOi1 (a1.extBut _ _ D.TOz gd)
  refine wpAny_bind (wpAny_seqItems d2 rfl ?_)
  refine wpAny_bind (wpAny_updateSeq_pair d2 fun h3 d3 a3 => ?_)
  replace d3 : IsPair h3 d x r := d3
  refine wpAny_bind (wpAny_letGo (wpAny_pure ?_))
  refine wpAny_bind (wpAny_bind (wpAny_onRaise ?_))
  show wpAny _ A (Builtin.SmallTypes.nextOf (.ref k) >>= _) _ _ _
  refine wpAny_bind (row_end hh (((gk.but a1.extBut D.i2z).but a2.extBut D.i12.symm).but a3.extBut D.TOi2.symm) (((g2.but a1.extBut D.l2z).but a2.extBut D.l2i1).but a3.extBut D.l2TO) ey fun h4 e a4 he => ?_)
  obtain ⟨oe, hoe, hce⟩ := he
  have z4 : IsZip h4 z c d .ellipsis := a4 _ _ D.i2z.symm (a3.extBut _ _ D.TOz.symm (a2.extBut _ _ D.i1z.symm z1))
  have ne : e ≠ z := fun x => by subst x; rw [z4] at hoe; cases hoe; simp at hce
  refine wpAny_setField_rec z4 (by simp) fun h5 _ a5 => q h5 e (fun b o hb x => ?_) ⟨oe, a5.extBut _ _ ne hoe, hce⟩
  simp only [List.mem_cons, List.not_mem_nil, or_false, not_or] at hb
  exact a5.extBut _ _ hb.1 (a4 _ _ hb.2.2.2 (a3.extBut _ _ hb.2.1 (a2.extBut _ _ hb.2.2.1 (a1.extBut _ _ hb.1 x))))
theorem next_zip {z c d j k : Addr} {i : Nat} {x y : Value} {Q : Option Value → Shared → Prop} (D : ZipApart z c d j k l m) (g : Zp t s.heap z c d j k l m .none i) (g1 : RAt t s.heap l xs) (g2 : RAt t s.heap m ys) (ex : xs[i]? = some x) (ey : ys[i]? = some y)
    (q : ∀ h', Zp t h' z c d j k l m (rawInt s.heap.objs.size) (i + 1) → IsPair h' s.heap.objs.size x y → h'.objs.size = s.heap.objs.size + 1 → (∀ b o, b ∉ [z, d, j, k] → s.heap.get? b = some o → h'.get? b = some o) → Q (some (.ref s.heap.objs.size)) { s with heap := h' }) :
    wpAny (model P w) A (pyNext (.ref z)) Q E s := by
  have ty : s.TypeIs (.ref z) "zip" := ⟨_, g.z, rfl⟩
  unfold pyNext
  refine wpAny_bind (wpAny_attempt (wpAny_callSpecial?_slot (name := Str.ofString "__next__") ty F.slot_zip_next (wpAny_call_entry F.slot_zip_next ty F.entry_zip_next ?_ (F.args_zip_next_1 _))))
  exact zip_item D g g1 g2 ex ey fun h' b1 b2 b3 b4 => wpAny_pure (q h' b1 b2 b3 b4)
theorem next_stop {z c d j k : Addr} {i : Nat} {Q : Option Value → Shared → Prop} (hh : A.handled = none) (D : ZipApart z c d j k l m) (g : Zp t s.heap z c d j k l m .none i) (g1 : RAt t s.heap l xs) (ex : xs[i]? = none)
    (q : ∀ h', (∀ b o, b ∉ [z, d, j, k] → s.heap.get? b = some o → h'.get? b = some o) → Q none { s with heap := h' }) : wpAny (model P w) A (pyNext (.ref z)) Q E s := by
  have ty : s.TypeIs (.ref z) "zip" := ⟨_, g.z, rfl⟩
  unfold pyNext
  refine wpAny_bind (wpAny_attempt (wpAny_callSpecial?_slot (name := Str.ofString "__next__") ty F.slot_zip_next (wpAny_call_entry F.slot_zip_next ty F.entry_zip_next ?_ (F.args_zip_next_1 _))))
  refine zip_stop hh D g g1 ex fun h' e hk he => ?_
  obtain ⟨o, ho, hc⟩ := he
  refine wpAny_bind (wpAny_isInstance (T := "StopIteration") (b := true) ⟨o, ho, hc⟩ isSubtype_stop ?_)
  exact wpAny_pure (q _ hk)
theorem next_stop2 {z c d j k : Addr} {i : Nat} {x : Value} {Q : Option Value → Shared → Prop} (hh : A.handled = none) (D : ZipApart z c d j k l m) (g : Zp t s.heap z c d j k l m .none i) (g1 : RAt t s.heap l xs) (g2 : RAt t s.heap m ys) (ex : xs[i]? = some x) (ey : ys[i]? = none)
    (q : ∀ h', (∀ b o, b ∉ [z, d, j, k] → s.heap.get? b = some o → h'.get? b = some o) → Q none { s with heap := h' }) : wpAny (model P w) A (pyNext (.ref z)) Q E s := by
  have ty : s.TypeIs (.ref z) "zip" := ⟨_, g.z, rfl⟩
  unfold pyNext
  refine wpAny_bind (wpAny_attempt (wpAny_callSpecial?_slot (name := Str.ofString "__next__") ty F.slot_zip_next (wpAny_call_entry F.slot_zip_next ty F.entry_zip_next ?_ (F.args_zip_next_1 _))))
  refine zip_stop2 hh D g g1 g2 ex ey fun h' e hk he => ?_
  obtain ⟨o, ho, hc⟩ := he
  refine wpAny_bind (wpAny_isInstance (T := "StopIteration") (b := true) ⟨o, ho, hc⟩ isSubtype_stop ?_)
  exact wpAny_pure (q _ hk)
end
end L2
namespace L2
open PySem PySem.Spec PyProof.Rows
noncomputable def Sq (t : Bool) (K : PySem.W.Frag) (H : Hp) (a : Addr) (xs : List V) : Prop :=
  match t with
  | true => SqT K H a xs
  | false => SqL K H a xs
section
variable {X : Cx} {pins : List (Addr × Obj)} {σ : St} {H : Hp} {s : Shared} {t : Bool} {a : Addr} {xs ys : List V}
theorem Inv.row (I : Inv X pins σ H s) (h : Sq t X.K H a xs) : ∃ its : List Value, Vals xs its ∧ RAt t s.heap a its.toArray ∧ xs.length ≤ sizeLine := by
  cases t with
  | true => exact I.tuple h
  | false =>
    obtain ⟨its, r, p, z⟩ := I.list h
    exact ⟨its, r, p.isList, z⟩
theorem Inv.row_inj (I : Inv X pins σ H s) (h : Sq t X.K H a xs) (h' : Sq t X.K H a ys) : xs = ys := by
  cases t with
  | true => exact I.tuple_inj h h'
  | false => exact I.list_inj h h'
end
noncomputable def Itz (t : Bool) (K : PySem.W.Frag) (a b : Addr) : It :=
  ⟨fun i H => ∃ xs ys x y, Sq t K H a xs ∧ Sq t K H b ys ∧ xs[i]? = some x ∧ ys[i]? = some y,
   fun i H v H' => ∃ T x y, v = .ref T ∧ H T = none ∧ H' = upd H T (.tup [x, y]) ∧ (∀ xs, Sq t K H a xs → xs[i]? = some x) ∧ ∀ ys, Sq t K H b ys → ys[i]? = some y,
   fun i H => (∃ xs, Sq t K H a xs ∧ xs.length ≤ i) ∨ ∃ xs ys, Sq t K H a xs ∧ Sq t K H b ys ∧ i < xs.length ∧ ys.length ≤ i⟩
theorem turn_zip {P : Program} {w : World} {K : PySem.W.Frag} {es : List Expr} {n : Nat} {pos : Pos} {t : Bool} (a b z c d j k : Addr) (D : ZipApart z c d j k a b) :
    Turn P w K (.Tuple es n pos) (Itz t K a b) [z, c, d, j, k] z (fun i h => Zp t h z c d j k a b .none i) where
  mem := by simp
  obj := fun i h st b' hb => by
    obtain ⟨g1, g2, ⟨p, r, g3⟩, ⟨oj, ej, cj, dj⟩, ⟨ok, ek, ck, dk⟩⟩ := st
    simp only [List.mem_cons, List.not_mem_nil, or_false] at hb
    rcases hb with rfl | rfl | rfl | rfl | rfl
    · exact ⟨_, g1, fun v q => by cases (show Data.fields _ = Data.cell v from q)⟩
    · exact ⟨_, g2, fun v q => by cases (show Data.seq _ _ = Data.cell v from q)⟩
    · exact ⟨_, g3, fun v q => by cases (show Data.seq _ _ = Data.cell v from q)⟩
    · exact ⟨_, ej, fun v q => by rw [dj] at q; cases q⟩
    · exact ⟨_, ek, fun v q => by rw [dk] at q; cases q⟩
  keep := fun i h h' st kp => by
    obtain ⟨g1, g2, ⟨p, r, g3⟩, gj, gk⟩ := st
    exact ⟨kp z (by simp) _ g1, kp c (by simp) _ g2, ⟨p, r, kp d (by simp) _ g3⟩, gj.at fun o q => kp j (by simp) o q, gk.at fun o q => kp k (by simp) o q⟩
  item := by
    intro X hP hw hK hc i pins s σ H E I hf st hg
    subst hP hw hK
    obtain ⟨xs, ys, x, y, ha, hb, hx, hy⟩ := hg
    obtain ⟨is1, v1, r1, _⟩ := I.row ha
    obtain ⟨is2, v2, r2, _⟩ := I.row hb
    obtain ⟨u1, e1, q1⟩ := v1.get hx
    obtain ⟨u2, e2, q2⟩ := v2.get hy
    refine next_zip D st r1 r2 (x := u1) (y := u2) (by simpa using e1) (by simpa using e2) fun h1 zp hT hsz hk => ?_
    obtain ⟨g1, g2, ⟨p, r, g3⟩, gj, gk⟩ := zp
    refine ⟨_, rfl, wpAny_letOwnedTupleGo_zip g1 fun h2 z2 s2 => ?_⟩
    have zlt : z < s.heap.objs.size := Heap.lt_size st.z
    have hT2 : h2.get? s.heap.objs.size = some { cls := .type "tuple", data := .seq #[u1, u2] } := (s2.2 _ (Nat.ne_of_gt zlt)).trans hT
    have kk : ∀ b o, b ∉ [z, d, j, k] → s.heap.get? b = some o → h2.get? b = some o := fun b o hb q => (s2.2 b fun e => hb (by simp [e])).trans (hk b o hb q)
    have hf4 : ∀ b ∈ [z, d, j, k], FpOk X pins H b := fun b hb => hf b (by
      simp only [List.mem_cons, List.not_mem_nil, or_false] at hb ⊢
      rcases hb with h | h | h | h
      · exact .inl h
      · exact .inr (.inr (.inl h))
      · exact .inr (.inr (.inr (.inl h)))
      · exact .inr (.inr (.inr (.inr h))))
    have I2 : Inv X pins σ (upd H s.heap.objs.size (.tup [x, y])) { s with heap := h2, toks := s.toks } :=
      I.turnLaid (ch := [z, d, j, k]) kk hf4 (Nat.le_refl _) ⟨by simp only [List.length_cons, List.length_nil]; rw [sizeLine_eq]; decide, [u1, u2], .cons q1 (.cons q2 .nil), ⟨_, hT2, rfl, 0, rfl⟩⟩
    refine ⟨.ref s.heap.objs.size, _, I2, rfl, ⟨_, x, y, rfl, I.hok.fresh (Nat.le_refl _), rfl, fun xs' h' => by rw [I.row_inj h' ha]; exact hx, fun ys' h' => by rw [I.row_inj h' hb]; exact hy⟩, ?_, fun b' hb' => ?_⟩
    · have up : ∀ b, b ≠ z → ∀ o, h1.get? b = some o → h2.get? b = some o := fun b n o q => (s2.2 b n).trans q
      exact ⟨z2, up _ D.TIz _ g2, ⟨p, r, up _ D.TOz _ g3⟩, gj.at fun o q => up _ D.i1z o q, gk.at fun o q => up _ D.i2z o q⟩
    · have hlt : b' < s.heap.objs.size := by
        obtain ⟨s1, s2, ⟨_, _, s3⟩, s4, s5⟩ := st
        simp only [List.mem_cons, List.not_mem_nil, or_false] at hb'
        rcases hb' with rfl | rfl | rfl | rfl | rfl
        · exact zlt
        · exact Heap.lt_size s2
        · exact Heap.lt_size s3
        · exact s4.lt
        · exact s5.lt
      rw [upd_ne (Nat.ne_of_lt hlt)]
      exact (hf b' hb').1
  done := by
    intro X hP hw hK hc i pins s σ H E I hf st hg
    subst hP hw hK
    have fin : ∀ h1 : Heap, (∀ b o, b ∉ [z, d, j, k] → s.heap.get? b = some o → h1.get? b = some o) → Inv X pins σ H { s with heap := h1 } := fun h1 hk => by
      refine I.turnedN (t' := s.toks) (ch := [z, d, j, k]) hk fun b hb => hf b ?_
      simp only [List.mem_cons, List.not_mem_nil, or_false] at hb ⊢
      rcases hb with h | h | h | h
      · exact .inl h
      · exact .inr (.inr (.inl h))
      · exact .inr (.inr (.inr (.inl h)))
      · exact .inr (.inr (.inr (.inr h)))
    rcases hg with ⟨xs, ha, hl⟩ | ⟨xs, ys, ha, hb, hi, hl⟩
    · obtain ⟨is1, v1, r1, _⟩ := I.row ha
      have e := v1.length
      exact next_stop (I.ok.hd hc) D st r1 (by simp; omega) fun h1 hk => ⟨rfl, fin h1 hk⟩
    · obtain ⟨is1, v1, r1, _⟩ := I.row ha
      obtain ⟨is2, v2, r2, _⟩ := I.row hb
      have e := v1.length
      have e2 := v2.length
      obtain ⟨u, hu, _⟩ := v1.get (List.getElem?_eq_getElem hi)
      exact next_stop2 (I.ok.hd hc) D st r1 r2 (x := u) (by simpa using hu) (by simp; omega) fun h1 hk => ⟨rfl, fin h1 hk⟩
  self := fun _ _ _ _ _ st h => wpAny_pyIter_zip st.z h
section
variable {X : Cx}
noncomputable def iZip (K : PySem.W.Frag) (ta : TA) : TI := fun σ H R => ta σ H fun vs H1 => ∃ t a b xs ys, vs = [.ref a, .ref b] ∧ Sq t K H1 a xs ∧ Sq t K H1 b ys ∧ R (Itz t K a b) H1
theorem pi_zip {es : List Expr} {k : Nat} {e f : Expr} {ta : TA} {p p2 pos : Pos} (hg : Gl X "zip") (hm : X.mg "zip" = none) (ha : PA X [e, f] ta) (hs : starEach [e, f] X.env = (false, eval e X.env) :: starEach [f] X.env := by rfl) (hs2 : (backTo pos (starEach [f] X.env)).any (·.1) = false := by rfl) :
    PI X (.Tuple es k p2) (.Call (.Name "zip" p) [e, f] [] pos) (iZip X.K ta) := by
  intro pins s σ H R I h
  refine Call_ (ld_blt I hg hm boot_zip (PyProof.Rows.callWith_type1 (thn (ha pos pins s σ H _ I h) fun us s1 hq9 => AP.out hq9 fun vs H1 I1 r1 q1 => ?_) hs hs2))
  obtain ⟨t, a, b, xs, ys, e1, hA, hB, q⟩ := q1
  subst e1
  obtain ⟨u, v, rfl, ru, rv⟩ := vals2 r1
  cases (show u = Value.ref a from ru)
  cases (show v = Value.ref b from rv)
  obtain ⟨is1, v1, g1, _⟩ := I1.row hA
  obtain ⟨is2, v2, g2, _⟩ := I1.row hB
  refine zip_made g1 g2 fun h1 z1 z2 z3 z4 z5 hsz hk => ?_
  refine wpAny_pyIter_zip z1 ?_
  refine ⟨_, [s1.heap.objs.size + 4, s1.heap.objs.size + 2, s1.heap.objs.size + 3, s1.heap.objs.size, s1.heap.objs.size + 1], _, _, H1, rfl, I1.kept (t' := s1.toks) hk, turn_zip a b _ _ _ _ _ (zipApart_new g1.lt g2.lt), ⟨z1, z2, ⟨_, _, z3⟩, z4, z5⟩, fun b' hb' => ?_, q⟩
  have hle : s1.heap.objs.size ≤ b' := by
    simp only [List.mem_cons, List.not_mem_nil, or_false] at hb'
    rcases hb' with h | h | h | h | h
    · rw [h]; exact Nat.le_add_right _ _
    · rw [h]; exact Nat.le_add_right _ _
    · rw [h]; exact Nat.le_add_right _ _
    · rw [h]; exact Nat.le_refl _
    · rw [h]; exact Nat.le_add_right _ _
  exact I1.fpOk hle (I1.hok.fresh hle)
end
end L2
namespace L2
open PySem PySem.Spec PyProof.Rows
inductive KdOf (K : PySem.W.Frag) (H : Hp) : V → String → Prop where
  | non : KdOf K H .non "NoneType"
  | bl (x : Bool) : KdOf K H (.bl x) "bool"
  | int (i : Int) : KdOf K H (.int i) "int"
  | str (x : Str) : KdOf K H (.str x) "str"
  | lst {a : Addr} {xs : List V} (e : SqL K H a xs) : KdOf K H (.ref a) "list"
  | tup {a : Addr} {xs : List V} (e : SqT K H a xs) : KdOf K H (.ref a) "tuple"
section
variable {X : Cx} {pins : List (Addr × Obj)} {σ : St} {H : Hp} {s : Shared} {A : Around} {E : Value → Shared → Prop} {Q : Value → Shared → Prop} {b : Bool}
theorem Inv.kitL {a : Addr} {xs : List V} (I : Inv X pins σ H s) (h : SqL X.K H a xs) : PySem.W.KitAt a "list" s.heap := by
  obtain ⟨its, _, ⟨o, n, e, c, _⟩, _⟩ := I.list h
  exact ⟨o, e, c⟩
theorem Inv.kitT {a : Addr} {xs : List V} (I : Inv X pins σ H s) (h : SqT X.K H a xs) : PySem.W.KitAt a "tuple" s.heap := by
  obtain ⟨its, _, ⟨o, e, c, _⟩, _⟩ := I.tuple h
  exact ⟨o, e, c⟩
theorem isk_one {x : V} {u c : Value} {T : String} (I : Inv X pins σ H s) (rx : RelV x u) (ty : KdOf X.K H x T) (e : PySem.W.kitOne X.K (.type T) c = some b) (h : ∀ tk, Q (.bool b) { s with toks := tk }) :
    wpAny (model X.prog X.w) A (call (.builtin "isinstance") [u, c]) Q E s := by
  cases ty with
  | non => cases (show u = Value.none from rx); exact PySem.W.kia_one PySem.W.kitx_none I.kIn True.intro e (fun z => nomatch z) h
  | bl y => cases (show u = Value.bool y from rx); exact PySem.W.kia_one PySem.W.kitx_bool I.kIn True.intro e (fun z => nomatch z) h
  | int i => obtain ⟨t, q⟩ := (show ∃ t, u = Value.int i t from rx); cases q; exact PySem.W.kia_one PySem.W.kitx_int I.kIn True.intro e (fun z => nomatch z) h
  | str y => obtain ⟨t, q⟩ := (show ∃ t, u = Value.str y t from rx); cases q; exact PySem.W.kia_one PySem.W.kitx_str I.kIn True.intro e (fun z => nomatch z) h
  | @lst a xs ea => cases (show u = Value.ref a from rx); exact PySem.W.kia_one PySem.W.kitx_list I.kIn (I.kitL ea) e (fun z => nomatch z) h
  | @tup a xs ea => cases (show u = Value.ref a from rx); exact PySem.W.kia_one PySem.W.kitx_tuple I.kIn (I.kitT ea) e (fun z => nomatch z) h
theorem isk_any {x : V} {u : Value} {T : String} {tp : Addr} {ns : List String} (I : Inv X pins σ H s) (rx : RelV x u) (ty : KdOf X.K H x T) (htp : SqT X.K H tp (ns.map V.ty)) (e : PySem.W.kitAny X.K (.type T) (ns.map Value.type) = some b) (h : ∀ tk, Q (.bool b) { s with toks := tk }) :
    wpAny (model X.prog X.w) A (call (.builtin "isinstance") [u, .ref tp]) Q E s := by
  obtain ⟨its, rv, pt, _⟩ := I.tuple htp
  obtain ⟨ot, g1, g2, n, g3⟩ := pt
  obtain ⟨c0, d0, t0, l0⟩ := ot
  dsimp only at g2 g3
  subst g2 g3
  cases vals_ty rv
  cases ty with
  | non => cases (show u = Value.none from rx); exact PySem.W.kia_tup PySem.W.kitx_none I.kIn True.intro g1 e (fun z => nomatch z) h
  | bl y => cases (show u = Value.bool y from rx); exact PySem.W.kia_tup PySem.W.kitx_bool I.kIn True.intro g1 e (fun z => nomatch z) h
  | int i => obtain ⟨t, q⟩ := (show ∃ t, u = Value.int i t from rx); cases q; exact PySem.W.kia_tup PySem.W.kitx_int I.kIn True.intro g1 e (fun z => nomatch z) h
  | str y => obtain ⟨t, q⟩ := (show ∃ t, u = Value.str y t from rx); cases q; exact PySem.W.kia_tup PySem.W.kitx_str I.kIn True.intro g1 e (fun z => nomatch z) h
  | @lst a xs ea => cases (show u = Value.ref a from rx); exact PySem.W.kia_tup PySem.W.kitx_list I.kIn (I.kitL ea) g1 e (fun z => nomatch z) h
  | @tup a xs ea => cases (show u = Value.ref a from rx); exact PySem.W.kia_tup PySem.W.kitx_tuple I.kIn (I.kitT ea) g1 e (fun z => nomatch z) h
noncomputable def rIsK (K : PySem.W.Frag) : List V → Hp → VK → Prop := fun xs H Q => ∃ (x : V) (T n : String) (b : Bool), xs = [x, .ty n] ∧ KdOf K H x T ∧ PySem.W.kitOne K (.type T) (.type n) = some b ∧ Q (.bl b) H
theorem call_isK {X : Cx} : CallR X (.builtin "isinstance") (rIsK X.K) := by
  intro pins s σ H xs us Q I r h
  obtain ⟨x, T, n, b, rfl, ty, e, q⟩ := h
  obtain ⟨u, w', rfl, rx, rn⟩ := vals2 r
  cases (show w' = Value.type n from rn)
  exact isk_one I rx ty e fun tk => ⟨.bl b, H, I.tok tk, rfl, q⟩
noncomputable def rIsKs (K : PySem.W.Frag) : List V → Hp → VK → Prop := fun xs H Q => ∃ (x : V) (T : String) (tp : Addr) (ns : List String) (b : Bool), xs = [x, .ref tp] ∧ KdOf K H x T ∧ SqT K H tp (ns.map V.ty) ∧ PySem.W.kitAny K (.type T) (ns.map Value.type) = some b ∧ Q (.bl b) H
theorem call_isKs {X : Cx} : CallR X (.builtin "isinstance") (rIsKs X.K) := by
  intro pins s σ H xs us Q I r h
  obtain ⟨x, T, tp, ns, b, rfl, ty, htp, e, q⟩ := h
  obtain ⟨u, w', rfl, rx, rn⟩ := vals2 r
  cases (show w' = Value.ref tp from rn)
  exact isk_any I rx ty htp e fun tk => ⟨.bl b, H, I.tok tk, rfl, q⟩
theorem vc_isK {K : PySem.W.Frag} {H : Hp} {Q : VK} {x : V} {T n : String} {b : Bool} (ty : KdOf K H x T) (e : PySem.W.kitOne K (.type T) (.type n) = some b) (q : Q (.bl b) H) : rIsK K [x, .ty n] H Q := ⟨x, T, n, b, rfl, ty, e, q⟩
theorem vc_isKs {K : PySem.W.Frag} {H : Hp} {Q : VK} {x : V} {T : String} {tp : Addr} {ns : List String} {b : Bool} (ty : KdOf K H x T) (htp : SqT K H tp (ns.map V.ty)) (e : PySem.W.kitAny K (.type T) (ns.map Value.type) = some b) (q : Q (.bl b) H) :
    rIsKs K [x, .ref tp] H Q := ⟨x, T, tp, ns, b, rfl, ty, htp, e, q⟩
theorem vc_all {K : PySem.W.Frag} {H : Hp} {Q : VK} {p : Addr} {bs : List Bool} (l : SqL K H p (bs.map V.bl)) (q : Q (.bl (bs.all id)) H) : rAll K [.ref p] H Q := ⟨p, bs, rfl, l, q⟩
theorem vc_izip {K : PySem.W.Frag} {ta : TA} {σ : St} {H : Hp} {R : It → Hp → Prop} (h : ta σ H fun vs H1 => ∃ t a b xs ys, vs = [.ref a, .ref b] ∧ Sq t K H1 a xs ∧ Sq t K H1 b ys ∧ R (Itz t K a b) H1) : iZip K ta σ H R := h
end
section
variable {K : PySem.W.Frag} {H H' H1 : Hp} {t : Bool} {a b : Addr} {xs ys : List V}
theorem Same.sq (e : Same H H') (h : Sq t K H a xs) : Sq t K H' a xs := by
  cases t with
  | true => exact e.tup h
  | false => exact e.seq h
theorem hJ_zip (ha : Sq t K H1 a xs) (hb : Sq t K H1 b ys) (hl : xs.length = ys.length) : ∀ i H, Same H1 H → (i < xs.length → (Itz t K a b).go i H) ∧ (xs.length ≤ i → (Itz t K a b).stop i H) ∧
    ∀ x H', i < xs.length → (Itz t K a b).yld i H x H' → Same H H' ∧ ∃ T y z, x = .ref T ∧ xs[i]? = some y ∧ ys[i]? = some z ∧ H' T = some (.tup [y, z]) := by
  intro i H sm
  refine ⟨fun hi => ⟨xs, ys, xs[i], ys[i]'(hl ▸ hi), sm.sq ha, sm.sq hb, by simp [hi], by simp [hl ▸ hi]⟩, fun hi => .inl ⟨xs, sm.sq ha, hi⟩, ?_⟩
  rintro x H' hi ⟨T, y, z, rfl, hT, rfl, h1, h2⟩
  exact ⟨same_new hT _, T, y, z, rfl, h1 _ (sm.sq ha), h2 _ (sm.sq hb), upd_same⟩
open PySem.W in
noncomputable def kindD : Dat → String
  | .none => "NoneType"
  | .bool _ => "bool"
  | .int _ => "int"
  | .str _ => "str"
  | .tuple _ => "tuple"
  | .list _ => "list"
  | .bytes _ => "bytes"
theorem Rep.kind {v : V} {d : PySem.W.Dat} (r : Rep K H v d) : KdOf K H v (kindD d) := by
  cases r with
  | non => exact .non
  | bl b => exact .bl b
  | int i => exact .int i
  | str x => exact .str x
  | tup h _ => exact .tup h
  | lst h _ => exact .lst h
end
theorem bo_all : bootBuiltins "all" = some (.builtin "all") := by decide +kernel
end L2
namespace L2
open PySem PySem.Spec PyProof.Rows
section
variable {X : Cx} {a : Expr} {ta : TE}
noncomputable def tTru (K : PySem.W.Frag) (ta : TE) : TT := fun σ H Q => ta σ H fun x H' => ∃ k, TruV K x H' k ∧ Q k H'
theorem pt_tru (ha : PE X a ta) (he : ∀ whole, isTrue a X.env whole = (do let v ← whole; standAt a.pos; holding [v] (truthy v)) := by intro _; rfl) : PT X a (tTru X.K ta) := pt_truth ha he
theorem mt_extendR : MtR X "list.extend" rExtend := mt_extend
end
section
variable {K : PySem.W.Frag} {σ : St} {H : Hp} {Q : VK} {te ta : TE} {D : Ends}
theorem vc_tru {QB : Bool → Hp → Prop} (h : ta σ H fun x H' => ∃ k, TruV K x H' k ∧ QB k H') : tTru K ta σ H QB := h
theorem vc_truL {p : Addr} {xs : List V} {R : Bool → Prop} (l : SqL K H p xs) (h : R (!xs.isEmpty)) : ∃ k, TruV K (.ref p) H k ∧ R k := ⟨_, .inl ⟨xs, l, rfl⟩, h⟩
theorem vc_isN (h : ta σ H fun x H1 => Q (.bl (decide (x = .non))) H1) : tIsN ta σ H Q := h
theorem vc_notN (h : ta σ H fun x H1 => Q (.bl (!decide (x = .non))) H1) : tNotN ta σ H Q := h
theorem vc_extend {l b : Addr} {xs zs : List V} (h : H l = some (.lst xs)) (g : H b = some (.lst zs)) (n : xs.length + zs.length ≤ sizeLine) (q : Q .non (upd H l (.lst (xs ++ zs)))) : rExtend (.ref l) [.ref b] H Q := ⟨l, b, xs, zs, rfl, rfl, h, g, n, q⟩
end
end L2
namespace L2
open PySem PySem.Spec PyProof.Rows PySem.W
theorem bo_reversed : bootBuiltins "reversed" = some (.type "reversed") := by decide +kernel
section
variable {X : Cx}
end
end L2
namespace L2
open PySem PySem.Spec PyProof.Rows
theorem bo_sorted : bootBuiltins "sorted" = some (.builtin "sorted") := by decide +kernel
noncomputable def rSortS (K : PySem.W.Frag) : List V → Hp → VK → Prop := fun xs H Q => ∃ p ss, xs = [.ref p] ∧ SqL K H p (ss.map V.str) ∧ ss.length < 64 ∧
  ∀ (l : Addr) (ss' : List Str), H l = none → ss'.Perm ss → sortedS ss' = true → Q (.ref l) (upd H l (.lst (ss'.map V.str)))
theorem strs_of : ∀ {ss : List Str} {its : List Value}, Vals (ss.map V.str) its → StrsAre its ss
  | [], _, h => by cases h; exact .nil
  | x :: r, _, h => by
    cases h with
    | cons h1 h2 =>
      obtain ⟨t, rfl⟩ := h1
      exact .cons x t (strs_of h2)
theorem vals_of : ∀ {its : List Value} {ss : List Str}, StrsAre its ss → Vals (ss.map V.str) its
  | _, _, .nil => .nil
  | _, _, .cons y t r => .cons ⟨t, rfl⟩ (vals_of r)
theorem call_sortS {X : Cx} : CallR X (.builtin "sorted") (rSortS X.K) := by
  intro pins s σ H xs us Q I r h
  obtain ⟨p, ss, rfl, hq, h64, q⟩ := h
  obtain ⟨u, rfl, rx⟩ := vals1 r
  cases rx
  obtain ⟨its, r', pl, hz⟩ := I.list hq
  have hlen := r'.length
  rw [List.length_map] at hlen
  refine sorted_strs pl.isList (strs_of r') (by omega) fun out ss' a1 a2 a3 => ?_
  obtain ⟨e, he⟩ := sortedAll_at s.heap its out
  have hp := a2.length_eq
  exact ⟨.ref (s.heap.objs.size + 1), _, I.laid (t' := s.toks) (fun b o z => sortedAll_old z) (Nat.le_succ _) (show ObjOk X.prog X.w _ _ _ (.lst (ss'.map V.str)) from ⟨(by rw [List.length_map] at hz ⊢; omega), out.toList, e, vals_of a1, he⟩), rfl, q _ ss' (I.hok.fresh (Nat.le_succ _)) a2 a3⟩
theorem vc_sortS {K : PySem.W.Frag} {H : Hp} {Q : VK} {p : Addr} {ss : List Str} (l : SqL K H p (ss.map V.str)) (n : ss.length < 64) (q : ∀ (l : Addr) (ss' : List Str), H l = none → ss'.Perm ss → sortedS ss' = true → Q (.ref l) (upd H l (.lst (ss'.map V.str)))) : rSortS K [.ref p] H Q := ⟨p, ss, rfl, l, n, q⟩
section
variable {X : Cx} {Nc : List Str} {sc : Scope} {s₂ : Shared} {H₂ : Hp} {C : Addr} {fp : List Addr}
end
theorem str_lt_or (x y : Str) (h1 : ltCps x.cps.toList y.cps.toList = false) (h2 : ltCps y.cps.toList x.cps.toList = false) : x = y := by
  rw [ltCps_eq] at h1 h2
  have a := of_decide_eq_false h1
  have b := of_decide_eq_false h2
  have e : x.cps.toList = y.cps.toList := List.le_antisymm (List.not_lt.mp b) (List.not_lt.mp a)
  cases x; cases y
  congr 1
  exact Array.toList_inj.mp e
theorem perm_two {α : Type} {a b : α} {l : List α} (h : l.Perm [a, b]) : l = [a, b] ∨ l = [b, a] := by
  have hl := h.length_eq
  match l, hl with
  | [x, y], _ =>
    have hx := h.mem_iff (a := x) |>.mp List.mem_cons_self
    simp only [List.mem_cons, List.not_mem_nil, or_false] at hx
    rcases hx with rfl | rfl
    · have := (List.perm_cons x).mp h
      rw [List.perm_singleton.mp this]
      exact .inl rfl
    · have h' : ([x, y] : List α).Perm [x, a] := h.trans (List.Perm.swap x a [])
      have := (List.perm_cons x).mp h'
      rw [List.perm_singleton.mp this]
      exact .inr rfl
theorem two_sorted {a b c d : Str} {l m : List Str} (hl : l.Perm [a, b]) (hm : m.Perm [c, d]) (sl : sortedS l = true) (sm : sortedS m = true) : l = m ↔ (a = c ∧ b = d) ∨ (a = d ∧ b = c) := by
  have key : ∀ {x y : Str}, sortedS [x, y] = true → sortedS [y, x] = true → x = y := fun {x y} h1 h2 => by
    simp only [sortedS, risingS, Bool.and_true, Bool.not_eq_true'] at h1 h2
    exact str_lt_or x y h2 h1
  constructor
  · rintro rfl
    rcases perm_two hl with e | e <;> rcases perm_two hm with f | f <;> rw [e] at f <;> simp only [List.cons.injEq, and_true] at f
    · exact .inl f
    · exact .inr f
    · exact .inr ⟨f.2, f.1⟩
    · exact .inl ⟨f.2, f.1⟩
  · rintro (⟨rfl, rfl⟩ | ⟨rfl, rfl⟩)
    · rcases perm_two hl with rfl | rfl <;> rcases perm_two hm with rfl | rfl <;> first | rfl | (rw [key sl sm])
    · rcases perm_two hl with rfl | rfl <;> rcases perm_two hm with rfl | rfl <;> first | rfl | (rw [key sl sm])
end L2
namespace L2
open PySem
section
variable {t u : TS} {D : Ends} {σ : St} {H : Hp} {R : St → Hp → Prop}
end
end L2
namespace L2
open PySem PySem.Spec PyProof.Rows PySem.W
noncomputable def TreeOk {α : Type} (n : Nat) (R : α → Prop) : KasT α → Prop
  | .ret a => R a
  | .ask i j k => i < n ∧ j < n ∧ ∀ b, TreeOk n R (k b)
theorem TreeOk.bind {α β : Type} {n : Nat} {R : α → Prop} {S : β → Prop} {f : α → KasT β} (hf : ∀ a, R a → TreeOk n S (f a)) : ∀ {t : KasT α}, TreeOk n R t → TreeOk n S (t.bind f) := by
  intro t
  induction t with
  | ret a => intro h; exact hf a h
  | ask i j k ih => intro h; exact ⟨h.1, h.2.1, fun b => ih b (h.2.2 b)⟩
theorem TreeOk.wp {α : Type} {n : Nat} {R : α → Prop} {cmp : Nat → Nat → (Bool → Shared → Prop) → Shared → Prop} {Q : α → Shared → Prop} {s : Shared}
    (hc : ∀ i j C, i < n → j < n → (∀ b, C b s) → cmp i j C s) (hR : ∀ a, R a → Q a s) : ∀ {t : KasT α}, TreeOk n R t → t.kasWp cmp Q s := by
  intro t
  induction t with
  | ret a => intro h; exact hR a h
  | ask i j k ih => intro h; exact hc i j _ h.1 h.2.1 fun b => ih b (h.2.2 b)
noncomputable def PermN (n : Nat) (p : Array Nat) : Prop := 0 < n ∧ p.toList.Perm (List.range n)
theorem PermN.lt {n : Nat} {p : Array Nat} (h : PermN n p) (k : Nat) : p.getD k 0 < n := by
  by_cases hk : k < p.size
  · have e : p.getD k 0 = p[k] := by simp [Array.getD, hk]
    rw [e]
    exact List.mem_range.mp (h.2.mem_iff.mp (by simp))
  · have e : p.getD k 0 = 0 := by simp [Array.getD, hk]
    rw [e]
    exact h.1
theorem PermN.rev {n : Nat} {p : Array Nat} (h : PermN n p) (i j : Nat) : PermN n (kas_rev p i j) := ⟨h.1, (Array.perm_iff_toList_perm.mp (mirror_perm p i j _)).trans h.2⟩
theorem PermN.bub {n : Nat} {p : Array Nat} (h : PermN n p) (i j : Nat) : PermN n (bubble p i j) := ⟨h.1, (Array.perm_iff_toList_perm.mp (bubble_perm p i j)).trans h.2⟩
theorem ok_asc {n : Nat} {p : Array Nat} (h : PermN n p) : ∀ (f m : Nat), TreeOk n (fun _ => True) (kas_asc p f m) := by
  intro f
  induction f with
  | zero => intro m; exact trivial
  | succ f ih =>
    intro m
    refine ⟨h.lt _, h.lt _, fun b => ?_⟩
    cases b
    · exact ih (m + 1)
    · exact trivial
theorem ok_desc {n : Nat} : ∀ (f : Nat) (p : Array Nat) (m q : Nat), PermN n p → TreeOk n (fun r => PermN n r.1) (kas_desc f p m q) := by
  intro f
  induction f with
  | zero => intro p m q h; exact h
  | succ f ih =>
    intro p m q h
    refine ⟨h.lt _, h.lt _, fun b => ?_⟩
    cases b
    · refine ⟨h.lt _, h.lt _, fun d => ?_⟩
      cases d
      · exact ih p _ _ h
      · exact h
    · show TreeOk n _ (if q > 0 then _ else _)
      split
      · exact ih _ _ _ (h.rev _ _)
      · exact ih _ _ _ h
theorem ok_tail3 {n : Nat} {p : Array Nat} (h : PermN n p) (m r : Nat) : TreeOk n (fun x => PermN n x.2) (kas_tail3 m r p) := by
  refine TreeOk.bind (R := fun _ => True) (fun k _ => ?_) (ok_asc (h.rev 0 m) _ _)
  exact h.rev 0 m
theorem ok_descPart {n : Nat} {p : Array Nat} (h : PermN n p) (m r : Nat) : TreeOk n (fun x => PermN n x.2) (kas_descPart m r p) := by
  refine (ok_desc _ p _ _ h).bind fun a ha => ?_
  split
  · exact ok_tail3 (ha.rev _ _) _ _
  · exact ok_tail3 ha _ _
theorem ok_count {n : Nat} {p : Array Nat} (h : PermN n p) (r : Nat) : TreeOk n (fun x => PermN n x.2) (kas_count r p) := by
  refine (ok_asc h _ _).bind fun a _ => ?_
  split
  · exact h
  · split
    · refine ⟨h.lt _, h.lt _, fun b => ?_⟩
      cases b
      · exact ok_descPart (h.rev _ _) _ _
      · exact h
    · exact ok_descPart h _ _
theorem ok_place {n : Nat} {p : Array Nat} (h : PermN n p) (k : Nat) : ∀ (f l r : Nat), TreeOk n (fun _ => True) (kas_place p k f l r) := by
  intro f
  induction f with
  | zero => intro l r; exact trivial
  | succ f ih =>
    intro l r
    show TreeOk n _ (if l ≥ r then _ else _)
    split
    · exact trivial
    · refine ⟨h.lt _, h.lt _, fun b => ?_⟩
      cases b
      · exact ih _ _
      · exact ih _ _
theorem ok_bin {n : Nat} : ∀ (f : Nat) (p : Array Nat) (k : Nat), PermN n p → TreeOk n (PermN n) (kas_bin f p k) := by
  intro f
  induction f with
  | zero => intro p k h; exact h
  | succ f ih => intro p k h; exact (ok_place h k _ _ _).bind fun l _ => ih _ _ (h.bub _ _)
theorem ok_sort {n : Nat} (h : 0 < n) : TreeOk n (PermN n) (kas_sort n) := by
  have h0 : PermN n (List.toArray (List.range n)) := ⟨h, .refl _⟩
  refine (ok_count h0 n).bind fun a ha => ?_
  split
  · exact ok_bin _ _ _ ha
  · exact ha
section
variable {prog : Program} {w : World} {A : Around} {E : Value → Shared → Prop} {s : Shared}
theorem perm_map_range {α : Type} (d : α) : ∀ (vs : List α), (List.range vs.length).map (fun i => vs.getD i d) = vs := by
  intro vs
  apply List.ext_getElem
  · simp
  · intro i h1 h2
    simp only [List.getElem_map, List.getElem_range]
    simp [List.getD_eq_getElem?_getD, h2]
end
theorem sortedHeap_old {h : Heap} {vs : List Value} {out : Array Value} {b : Addr} {o : Obj} (hb : h.get? b = some o) : (sortedHeap (h.push (seqObj "list" vs.toArray 0)) h.objs.size vs out).get? b = some o := by
  have nb : b ≠ h.objs.size := Nat.ne_of_lt (Heap.lt_size hb)
  unfold sortedHeap
  rw [Heap.get?_update_ne _ _ _ _ nb]
  exact Heap.get?_push_of_some _ (Heap.get?_push_of_some _ ((Heap.get?_update_ne _ _ _ _ nb).trans (Heap.get?_push_of_some _ hb)))
theorem sortedHeap_at (h : Heap) (vs : List Value) (out : Array Value) : ∃ e, (sortedHeap (h.push (seqObj "list" vs.toArray 0)) h.objs.size vs out).get? h.objs.size = some (seqObj "list" out e) := by
  have h0 : (h.push (seqObj "list" vs.toArray 0)).get? h.objs.size = some (seqObj "list" vs.toArray 0) := Heap.get?_push_size _ rfl
  have h1 := get?_update_seq h0 fun _ => (#[] : Array Value)
  have h2 := Heap.get?_push_of_some (seqObj "list" #[] 0) (Heap.get?_push_of_some (seqObj "tuple" vs.toArray 0) h1)
  exact ⟨_, get?_update_seq h2 fun _ => out⟩
theorem vals_refs {as : List Addr} : ∀ {us : List Value}, Vals (as.map V.ref) us → us = as.map Value.ref := by
  induction as with
  | nil => intro us h; cases h; rfl
  | cons a as ih =>
    intro us h
    cases h with
    | cons h1 h2 =>
      cases (show _ = Value.ref a from h1)
      rw [List.map_cons, ih h2]
theorem refs_vals : ∀ (as : List Addr), Vals (as.map V.ref) (as.map Value.ref) := by
  intro as
  induction as with
  | nil => exact .nil
  | cons a as ih => exact .cons rfl ih
theorem getD_refs (as : List Addr) (i : Nat) (h : i < as.length) : (as.map Value.ref).getD i Value.none = Value.ref (as.getD i 0) := by
  rw [List.getD_eq_getElem?_getD, List.getD_eq_getElem?_getD, List.getElem?_map, List.getElem?_eq_getElem h]
  rfl
theorem perm_refs {as : List Addr} {p : List Nat} (hp : p.Perm (List.range as.length)) : (p.map fun i => (as.map Value.ref).getD i Value.none) = (p.map fun i => as.getD i 0).map Value.ref := by
  rw [List.map_map]
  refine List.map_congr_left fun i hi => getD_refs as i ?_
  exact List.mem_range.mp (hp.mem_iff.mp hi)
theorem perm_as {as : List Addr} {p : List Nat} (hp : p.Perm (List.range as.length)) : (p.map fun i => as.getD i 0).Perm as := by
  have q := hp.map fun i => as.getD i 0
  rw [perm_map_range] at q
  exact q
end L2
namespace L2
open PySem PySem.Spec PyProof.Rows PySem.W
section
variable {X : Cx} {pins : List (Addr × Obj)} {σ : St} {H : Hp} {s : Shared}
end
section
variable {X : Cx}
end
section
variable {X : Cx} {pins : List (Addr × Obj)} {σ : St} {H : Hp} {s : Shared}
end
theorem vals_at {xs : List V} : ∀ {us : List Value}, xs.length = us.length → (∀ (i : Nat) (x : V) (u : Value), xs[i]? = some x → us[i]? = some u → RelV x u) → Vals xs us := by
  induction xs with
  | nil =>
    intro us hl _
    cases us with
    | nil => exact .nil
    | cons => cases hl
  | cons x xs ih =>
    intro us hl h
    cases us with
    | nil => cases hl
    | cons u us => exact .cons (h 0 x u rfl rfl) (ih (Nat.succ.inj hl) fun i y w h1 h2 => h (i + 1) y w (by rw [List.getElem?_cons_succ]; exact h1) (by rw [List.getElem?_cons_succ]; exact h2))
end L2
namespace L2
open PySem
end L2
namespace L2
open PySem PyProof.Rows PySem.W
section
variable (c : Nat → Nat → Bool)
end
section
variable {c : Nat → Nat → Bool} {n : Nat}
end
end L2
namespace L2
open PySem PySem.Spec PyProof.Rows PySem.W
section
variable {prog : Program} {w : World} {A : Around} {E : Value → Shared → Prop} {s : Shared}
end
end L2
namespace L2
open PySem PySem.Spec PyProof.Rows PySem.W
section
variable {prog : Program} {w : World} {A : Around} {E : Value → Shared → Prop} {s : Shared}
end
end L2
namespace L2
open PySem PySem.Spec PySem.W
section
variable {P : Program} {w : World} {A : Around} {E : Value → Shared → Prop} {s : Shared} {a : Addr} {B : Bool}
end
end L2
namespace L2
open PySem PySem.Spec PySem.W
section
variable {P : Program} {w : World} {A : Around} {B : Bool}
variable {E : Value → Shared → Prop} {s : Shared}
end
end L2
namespace L2
open PySem PySem.Spec PySem.W
section
variable {P : Program} {w : World} {A : Around} {E : Value → Shared → Prop} {s : Shared}
end
end L2
namespace L2
open PySem PySem.Spec PySem.W
section
end
section
variable {M : Model} {A : Around} {E : Value → Shared → Prop} {s : Shared}
end
end L2
namespace L2
open PySem PySem.Spec PySem.W
section
variable {P : Program} {w : World} {A : Around} {E : Value → Shared → Prop} {s : Shared} {I S T : Addr} {es : Array (Int × Value)} {ep : Nat} {t : SetTable} {Q : Option Value → Shared → Prop}
end
end L2
namespace L2
open PySem PySem.Spec PySem.W
section
end
section
variable {P : Program} {w : World} {A : Around} {S T I : Addr} {es : Array (Int × Value)} {ep : Nat} {t : SetTable}
end
end L2
namespace L2
open PySem PySem.Spec PySem.W
section
variable {P : Program} {w : World} {A A' : Around} {E : Value → Shared → Prop} {s : Shared} {S : Addr} {es : Array (Int × Value)} {ep : Nat} {t : SetTable}
end
end L2
namespace L2
open PySem PySem.Spec PyProof.Rows PySem.W
section
variable {P : Program} {w : World} {A : Around} {E : Value → Shared → Prop} {s : Shared} {S : Addr} {es : Array (Int × Value)} {ep : Nat} {t : SetTable}
end
end L2
namespace L2
open PySem PySem.Spec PyProof.Rows PySem.W
section
variable {X : Cx} {pins : List (Addr × Obj)} {σ : St} {H : Hp} {s : Shared}
end
end L2
namespace L2
open PySem PySem.Spec PyProof.Rows PySem.W
end L2
namespace L2
open PySem PySem.Spec PySem.W
section
variable {P : Program} {w : World} {A : Around} {E : Value → Shared → Prop} {s : Shared}
noncomputable def NestAt (P : Program) (w : World) (h : Heap) (k : Int × List Int) (a : Addr) : Prop :=
  ∃ o t b n, h.get? a = some o ∧ o.cls = .type "tuple" ∧ o.data = .seq #[.int k.1 t, .ref b] n ∧ IsTupleKey (intKind P w) h k.2 b
noncomputable def nestHash (P : Program) (w : World) (k : Int × List Int) : Int := reduceHash (Builtin.Tuple.tupleHashOf [(intKind P w).hash k.1, tupleKeyHash (intKind P w) k.2])
theorem NestAt.ty {k : Int × List Int} {a : Addr} (h : NestAt P w s.heap k a) : s.TypeIs (.ref a) "tuple" := by
  obtain ⟨o, _, _, _, e, c, _⟩ := h
  exact ⟨o, e, c⟩
theorem NestAt.inj {h : Heap} {a : Addr} {x y : Int × List Int} (hx : NestAt P w h x a) (hy : NestAt P w h y a) : x = y := by
  obtain ⟨o, t, b, n, e, _, d, i⟩ := hx
  obtain ⟨o', t', b', n', e', _, d', i'⟩ := hy
  obtain rfl : o = o' := Option.some.inj (e.symm.trans e')
  rw [d] at d'
  injection d' with q _
  simp only [Array.mk.injEq, List.cons.injEq, Value.int.injEq, Value.ref.injEq, and_true] at q
  obtain ⟨⟨q1, _⟩, rfl⟩ := q
  exact Prod.ext q1 (i.inj i')
theorem NestAt.keeps {h h' : Heap} {k : Int × List Int} {a d : Addr} {o : Obj} {es : Array DictEntry} {ep : Nat} (x : NestAt P w h k a) (ho : h.get? d = some o) (hd : o.data = .dict es ep) (hs : Heap.SameBut d h h') : NestAt P w h' k a := by
  obtain ⟨o', t, b, n, e, c, dd, i⟩ := x
  have ne : a ≠ d := by
    rintro rfl
    obtain rfl : o' = o := Option.some.inj (e.symm.trans ho)
    rw [hd] at dd
    cases dd
  exact ⟨o', t, b, n, (hs.2 a ne).trans e, c, dd, i.keeps ho hd hs⟩
theorem nest_hash {k : Int × List Int} {a : Addr} {Q : Int → Shared → Prop} (hu : A.units + 4 < cLine) (hk : NestAt P w s.heap k a) (h : Q (nestHash P w k) { s with toks := s.toks + (k.2.length + 3) }) :
    wpAny (model P w) A (pyHash (.ref a)) Q E s := by
  have ty := hk.ty
  obtain ⟨o, t, b, n, e, c, d, i⟩ := hk
  unfold pyHash
  first | unfold pyHashByItsType | skip
  first | refine wpAny_bind (wpAny_cRoomFor_or (.inr (by omega)) ?_) | skip
  refine wpAny_bind (wpAny_specialOf ty PySem.F.slot_tuple_hash.lookup ?_)
  refine wpAny_ite_split (fun q => absurd q (by rw [beq_builtin_none]; exact Bool.false_ne_true)) fun _ => ?_
  refine wpAny_bind (wpAny_specialOf ty PySem.F.slot_tuple_hash.lookup ?_)
  refine wpAny_bind (m := callSpecialIfBoundUnlessNone? (.ref a) "__hash__" _) (wpAny_callSpecialIfBoundUnlessNone?_slot ty PySem.F.slot_tuple_hash (wpAny_call_entry PySem.F.slot_tuple_hash ty PySem.F.entry_tuple_hash ?_ (PySem.F.args_tuple_hash_1 _)))
  refine wpAny_bind (m := Builtin.Tuple.tupleItemsOf (.ref a)) (wpAny_tupleItemsOf e d ?_)
  refine wpAny_bind ?_
  rw [← Array.forIn_toList]
  show wpAny _ _ (forIn [Value.int k.1 t, Value.ref b] (#[] : Array Int) _) _ _ _
  rw [List.forIn_cons]
  refine wpAny_bind (wpAny_bind ((intKind P w).pyHash (k := k.1) (intKind_is P w k.1 t) (wpAny_pure ?_)))
  dsimp only
  rw [List.forIn_cons]
  refine wpAny_bind (wpAny_bind (wpAny_pyHash_tuple (s := { s with toks := s.toks + 1 }) (ks := k.2) (tupleKind_room_in1 (knd := intKind P w) (by omega)) i (wpAny_pure ?_)))
  dsimp only
  rw [List.forIn_nil]
  refine wpAny_pure ?_
  show wpAny _ _ (retInt (Builtin.Tuple.tupleHashOf [(intKind P w).hash k.1, tupleKeyHash (intKind P w) k.2])) _ _ _
  refine wpAny_ret_mkInt ?_
  unfold nestHash reduceHash at h
  have et : s.toks + 1 + (k.2.length + 1) + 1 = s.toks + (k.2.length + 3) := by omega
  refine wpAny_ite_split (fun q => ?_) fun q => ?_
  · rw [if_pos q] at h
    exact wpAny_pure (by simpa [et] using h)
  · rw [if_neg q] at h
    exact wpAny_bind (wpAny_rule (wpAny_pure (by simpa [et] using h)))
theorem nest_eq_tree {x y : Int × List Int} {a b : Addr} {R : PySem.Fin → Shared → Prop} (hu : A.units < cLine) (hx : NestAt P w s.heap x a) (hy : NestAt P w s.heap y b) (h : R (.done (.ret (.bool (decide (x = y))))) s) :
    wpAny (model P w) A (Builtin.«tuple.__eq__» ⟨[.ref a, .ref b], []⟩) R E s := by
  have tb := hy.ty
  obtain ⟨oa, ta, ia, na, ea, _, da, xa⟩ := hx
  obtain ⟨ob, tb', ib, nb, eb, _, db, xb⟩ := hy
  refine wpAny_bind (m := isInstance (.ref b) (.type "tuple")) (wpAny_isInstance tb isSubtype_tuple_tuple ?_)
  simp only [Bool.not_true, Bool.false_eq_true, if_false]
  refine wpAny_bind (wpAny_tupleItemsOf ea da (wpAny_bind (wpAny_tupleItemsOf eb db ?_)))
  refine wpAny_bind ?_
  show wpAny _ _ (forIn [(Value.int x.1 ta, Value.int y.1 tb'), (Value.ref ia, Value.ref ib)] _ _) _ _ _
  rw [List.forIn_cons]
  refine wpAny_bind (wpAny_bind ((intKind P w).eqBool (a := x.1) (b := y.1) (intKind_is P w x.1 ta) (intKind_is P w y.1 tb') ?_))
  by_cases e1 : x.1 = y.1
  · rw [decide_eq_true e1]
    refine wpAny_pure ?_
    dsimp only
    rw [List.forIn_cons]
    refine wpAny_bind (wpAny_bind (wpAny_eqBool_tuple hu xa xb ?_))
    by_cases e2 : x.2 = y.2
    · rw [decide_eq_true e2]
      refine wpAny_pure ?_
      dsimp only
      rw [List.forIn_nil]
      refine wpAny_pure ?_
      rw [decide_eq_true (Prod.ext e1 e2)] at h
      exact wpAny_pure h
    · rw [decide_eq_false e2]
      rw [decide_eq_false (fun z => e2 (by rw [z]))] at h
      exact wpAny_bind (wpAny_pure (wpAny_pure (wpAny_pure (wpAny_pure h))))
  · rw [decide_eq_false e1]
    rw [decide_eq_false (fun z => e1 (by rw [z]))] at h
    exact wpAny_bind (wpAny_pure (wpAny_pure (wpAny_pure (wpAny_pure h))))
theorem nest_eq {x y : Int × List Int} {a b : Addr} {Q : Bool → Shared → Prop} (hu : A.units + 4 < cLine) (hx : NestAt P w s.heap x a) (hy : NestAt P w s.heap y b) (h : Q (decide (x = y)) s) : wpAny (model P w) A (eqBool (.ref a) (.ref b)) Q E s := by
  unfold eqBool
  try with_reducible refine wpAny_holding ?_
  refine wpAny_ite_split (fun q => ?_) fun q => ?_
  · have e : a = b := by have := eq_of_beq q; injection this
    subst e
    obtain rfl := hx.inj hy
    exact wpAny_bind (wpAny_rule (wpAny_pure (by simpa using h)))
  · exact wpAny_bind (wpAny_richCompare_same_room (op := .Eq) hx.ty hy.ty PySem.F.slot_tuple_eq (wpAny_call_entry PySem.F.slot_tuple_eq hx.ty PySem.F.entry_tuple_eq (nest_eq_tree (tupleKind_room_in1 (knd := intKind P w) (by omega)) hx hy ⟨_, rfl, (fun e => nomatch e), wpAny_truthy_bool h⟩) (PySem.F.args_tuple_eq_2 _ _)) (by omega))
theorem tup_quiet {ks : List Int} {a : Addr} {n : Nat} {Q : Bool → Shared → Prop} (hk : IsTupleKey (intKind P w) s.heap ks a) (h : Q true s) : wpAny (model P w) A (eqIsQuiet (n + 1) (.ref a)) Q E s := by
  have ty := hk.typeIs
  obtain ⟨o, its, m, e, c, d, i⟩ := hk
  unfold eqIsQuiet
  refine wpAny_bind (wpAny_specialOf ty PySem.F.slot_tuple_eq.lookup ?_)
  refine wpAny_bind (m := isInstance (.ref a) (.type "tuple")) (wpAny_isInstance ty isSubtype_tuple_tuple ?_)
  simp only [Bool.not_true, Bool.false_eq_true, if_false]
  refine wpAny_bind (wpAny_seqItems e d (wpAny_bind ?_))
  show wpAny _ _ (forIn its _ _) _ _ s
  rw [← Array.forIn_toList]
  refine wpAny_forIn_list _ (fun rest r s' => r.1 = none ∧ s' = s ∧ ∀ v ∈ rest, carriedByValue v = true) _ ?_ ?_ _ _ ⟨rfl, rfl, i.byValue⟩
  · rintro v rest r s' ⟨hr, rfl, all⟩
    rw [eqIsQuiet_byValue _ (all v List.mem_cons_self)]
    refine wpAny_bind (wpAny_pure ?_)
    simp only [Bool.not_true, Bool.false_eq_true, if_false]
    exact wpAny_pure ⟨rfl, rfl, fun u hu' => all u (List.mem_cons_of_mem _ hu')⟩
  · rintro ⟨r1, r2⟩ s' ⟨hr, rfl, _⟩
    simp only at hr
    subst hr
    exact wpAny_pure h
theorem nest_quiet {k : Int × List Int} {a : Addr} {Q : Bool → Shared → Prop} (hk : NestAt P w s.heap k a) (h : Q true s) : wpAny (model P w) A (eqIsQuiet 8 (.ref a)) Q E s := by
  have ty := hk.ty
  obtain ⟨o, t, b, n, e, c, d, i⟩ := hk
  unfold eqIsQuiet
  refine wpAny_bind (wpAny_specialOf ty PySem.F.slot_tuple_eq.lookup ?_)
  refine wpAny_bind (m := isInstance (.ref a) (.type "tuple")) (wpAny_isInstance ty isSubtype_tuple_tuple ?_)
  simp only [Bool.not_true, Bool.false_eq_true, if_false]
  refine wpAny_bind (wpAny_seqItems e d (wpAny_bind ?_))
  show wpAny _ _ (forIn (#[Value.int k.1 t, Value.ref b] : Array Value) _ _) _ _ s
  rw [← Array.forIn_toList]
  show wpAny _ _ (forIn [Value.int k.1 t, Value.ref b] _ _) _ _ s
  rw [List.forIn_cons]
  refine wpAny_bind ?_
  rw [eqIsQuiet_byValue 7 (v := Value.int k.1 t) rfl]
  refine wpAny_bind (wpAny_pure ?_)
  simp only [Bool.not_true, Bool.false_eq_true, if_false]
  refine wpAny_pure ?_
  dsimp only
  rw [List.forIn_cons]
  refine wpAny_bind (wpAny_bind (tup_quiet (n := 6) i ?_))
  simp only [Bool.not_true, Bool.false_eq_true, if_false]
  refine wpAny_pure ?_
  dsimp only
  rw [List.forIn_nil]
  exact wpAny_pure (wpAny_pure h)
noncomputable def nestKind (P : Program) (w : World) : HeapKind P w (Int × List Int) where
  is := NestAt P w
  hash := nestHash P w
  draws := fun k => k.2.length + 3
  room := fun A => A.units + 4 < cLine
  inj := fun hx hy => hx.inj hy
  keeps := fun x ho hd hs => x.keeps ho hd hs
  pyHash := fun hu hk h => nest_hash hu hk h
  eqBool := fun hu hx hy h => nest_eq hu hx hy h
  quiet := fun hk h => nest_quiet hk h
end
end L2
namespace L2
open PySem PySem.Spec PyProof.Rows PySem.W
noncomputable abbrev NKey := Int × List Int
noncomputable def rawV : V → Value
  | .ref a => .ref a
  | _ => .none
noncomputable def okV : V → Prop
  | .ref _ => True
  | .non => True
  | _ => False
theorem rawV_rel {v : V} (h : okV v) : RelV v (rawV v) := by
  cases v with
  | ref a => rfl
  | non => rfl
  | _ => exact h.elim
noncomputable def rawM (xs : List (NKey × Addr × V)) : List (NKey × Addr × Value) := xs.map fun x => (x.1, x.2.1, rawV x.2.2)
noncomputable def memO (P : Program) (w : World) (d : Addr) (xs : List (NKey × Addr × V)) : HO := .ext fun h => (d == sysModules) = false ∧ ∃ o es ep, h.get? d = some o ∧ o.ExactDict ∧ o.data = .dict es ep ∧ es.toList = (rawM xs).map (entryOfKey (nestKind P w)) ∧ ((rawM xs).map (·.1)).Nodup
noncomputable def KeyN (H : Hp) (a : Addr) (k : NKey) : Prop := ∃ b, H a = some (.tup [.int k.1, .ref b]) ∧ H b = some (.tup (k.2.map V.int))
structure Memo (P : Program) (w : World) (H : Hp) (d : Addr) (xs : List (NKey × Addr × V)) : Prop where
  at_ : H d = some (memO P w d xs)
  keys : ∀ x ∈ xs, KeyN H x.2.1 x.1 ∧ okV x.2.2
  len : xs.length ≤ 100000
noncomputable def lookM (xs : List (NKey × Addr × V)) (k : NKey) : Option V := (xs.find? fun x => decide (x.1 = k)).map (·.2.2)
section
variable {X : Cx} {pins : List (Addr × Obj)} {σ : St} {H : Hp} {s : Shared} {d a : Addr} {k : NKey} {xs : List (NKey × Addr × V)}
theorem KeyN.is (I : Inv X pins σ H s) (h : KeyN H a k) : (nestKind X.prog X.w).is s.heap k a := by
  obtain ⟨b, ha, hb⟩ := h
  obtain ⟨_, its, r, o, h1, h2, n, h3⟩ := (show ObjOk X.prog X.w H s.heap a (.tup [.int k.1, .ref b]) from I.hok a _ ha)
  obtain ⟨_, jts, q, o', g1, g2, m, g3⟩ := (show ObjOk X.prog X.w H s.heap b (.tup (k.2.map V.int)) from I.hok b _ hb)
  obtain ⟨u, v, rfl, ru, rv⟩ := vals2 r
  obtain ⟨t, rfl⟩ := (show ∃ t, u = Value.int k.1 t from ru)
  cases (show v = Value.ref b from rv)
  refine ⟨o, t, b, n, h1, h2, h3, o', jts.toArray, m, g1, g2, g3, ?_⟩
  have all : ∀ {ks : List Int} {vs : List Value}, Vals (ks.map V.int) vs → ItemsAre (intKind X.prog X.w) ks vs := by
    intro ks
    induction ks with
    | nil => intro vs h; cases h; exact .nil
    | cons z zs ih =>
      intro vs h
      rw [List.map_cons] at h
      cases h with
      | cons h1 h2 =>
        obtain ⟨t, rfl⟩ := h1
        exact .cons (intKind_is _ _ _ _) (ih h2)
  simpa using all q
theorem Memo.dict (I : Inv X pins σ H s) (m : Memo X.prog X.w H d xs) : (d == sysModules) = false ∧ s.heap.DictOfH (nestKind X.prog X.w) d (rawM xs) := by
  obtain ⟨nm, o, es, ep, h1, h2, h3, h4, h5⟩ := (show ObjOk X.prog X.w H s.heap d (memO X.prog X.w d xs) from I.hok d _ m.at_).1
  refine ⟨nm, o, es, ep, h1, h2, h3, h4, fun x hx => ?_, h5⟩
  obtain ⟨y, hy, rfl⟩ := List.mem_map.mp hx
  exact (m.keys y hy).1.is I
theorem look_raw (xs : List (NKey × Addr × V)) (k : NKey) : (atKey (rawM xs) k).map (·.2) = (lookM xs k).map rawV := by
  unfold atKey lookM rawM
  induction xs with
  | nil => rfl
  | cons x xs ih =>
    rw [List.map_cons]
    by_cases e : x.1 = k
    · rw [List.find?_cons_of_pos (by simpa using e), List.find?_cons_of_pos (by simpa using e)]
      rfl
    · rw [List.find?_cons_of_neg (by simpa using e), List.find?_cons_of_neg (by simpa using e)]
      exact ih
theorem look_isSome (xs : List (NKey × Addr × V)) (k : NKey) : (atKey (rawM xs) k).isSome = (lookM xs k).isSome := by
  have := congrArg Option.isSome (look_raw xs k)
  simpa using this
theorem look_ok {v : V} (m : ∀ x ∈ xs, okV x.2.2) (h : lookM xs k = some v) : okV v := by
  unfold lookM at h
  obtain ⟨x, hx, rfl⟩ := Option.map_eq_some_iff.mp h
  exact m x (List.mem_of_find?_eq_some hx)
end
section
variable {X : Cx}
noncomputable def rNotM (P : Program) (w : World) : R2 := fun x y H Q => ∃ (a d : Addr) (k : NKey) (xs : List (NKey × Addr × V)), x = .ref a ∧ y = .ref d ∧ KeyN H a k ∧ Memo P w H d xs ∧ Q (.bl (!(lookM xs k).isSome)) H
theorem op_notInM (hu : X.A.units + 64 < cLine) : OpR X (compareOp .NotIn) (rNotM X.prog X.w) := by
  intro pins s σ H x y v u Q I rx ry h
  obtain ⟨a, d, k, xs, rfl, rfl, hk, m, q⟩ := h
  cases (show v = Value.ref a from rx)
  cases (show u = Value.ref d from ry)
  obtain ⟨nm, dd⟩ := m.dict I
  refine wpAny_notIn_heap (knd := nestKind X.prog X.w) (show X.A.units + 1 + 4 < cLine by omega) (hk.is I) nm dd ⟨.bl _, H, I.tok _, ?_, q⟩
  rw [look_isSome]
  rfl
noncomputable def tMGet (P : Program) (w : World) (td ty : TE) : TE := fun σ H Q => td σ H fun x H1 => ty σ H1 fun y H2 => ∃ (d a : Addr) (k : NKey) (xs : List (NKey × Addr × V)) (v : V), x = .ref d ∧ y = .ref a ∧ KeyN H2 a k ∧ Memo P w H2 d xs ∧ lookM xs k = some v ∧ Q v H2
theorem pe_mget {o i : Expr} {pos : Pos} {td ty : TE} (hu : X.A.units + 64 < cLine) (ho : PE X o td) (hi : PE X i ty) (hs : NoSl i) : PE X (.Subscript o i pos) (tMGet X.prog X.w td ty) := by
  intro pins s σ H Q I h
  refine subD_of PySem.F.slot_dict_getitem.lookup hs (thn (ho pins s σ H _ I h) fun u s1 hq9 => EP.out hq9 fun x H1 I1 rx q1 => thn (hi pins s1 σ H1 _ I1 q1) fun iv s2 hq8 => ?_)
  obtain ⟨y, H2, I2, ry, d, a, k, xs, v, ex, ey, hk, m, l, q2⟩ := hq8
  subst ex ey
  cases (show u = Value.ref d from rx)
  cases (show iv = Value.ref a from ry)
  obtain ⟨nm, dd⟩ := m.dict I2
  refine ⟨dd.typeIs, ?_⟩
  have e := look_raw xs k
  rw [l] at e
  obtain ⟨p, hp, hp2⟩ := Option.map_eq_some_iff.mp e
  refine wpAny_getItem_heap (knd := nestKind X.prog X.w) (show X.A.units + 1 + 4 < cLine by omega) (hk.is I2) dd hp ⟨v, H2, I2.tok _, ?_, q2⟩
  rw [hp2]
  exact rawV_rel (look_ok (fun x hx => (m.keys x hx).2) l)
end
end L2
namespace L2
open PySem PySem.Spec PyProof.Rows PySem.W
section
variable {X : Cx}
theorem mem_mono {P : Program} {w : World} {H : Hp} {h : Heap} {d : Addr} {xs : List (NKey × Addr × V)} {o : Obj} {es : Array DictEntry} {ep : Nat} (nm : (d == sysModules) = false) (h1 : h.get? d = some o) (h2 : o.ExactDict) (h3 : o.data = .dict es ep) (h4 : es.toList = (rawM xs).map (entryOfKey (nestKind P w))) (h5 : ((rawM xs).map (·.1)).Nodup) : ObjOk P w H h d (memO P w d xs) :=
  ⟨⟨nm, o, es, ep, h1, h2, h3, h4, h5⟩, ⟨o, h1⟩, fun g1 g2 z k => by
    obtain ⟨a, o, es, ep, b, r⟩ := z
    exact ⟨a, o, es, ep, k _ b, r⟩⟩
noncomputable def rSetM (P : Program) (w : World) : V → V → V → Hp → (Hp → Prop) → Prop := fun o i v H Q => ∃ (d a : Addr) (k : NKey) (xs : List (NKey × Addr × V)), o = .ref d ∧ i = .ref a ∧ KeyN H a k ∧ Memo P w H d xs ∧ lookM xs k = none ∧ okV v ∧ Q (upd H d (memO P w d (xs ++ [(k, a, v)])))
theorem set_memo (hu : X.A.units + 64 < cLine) : PSet X (rSetM X.prog X.w) := by
  intro pins s σ H o i v ov iv u Q I ro ri rv h
  obtain ⟨d, a, k, xs, rfl, rfl, hk, m, l, ok, q⟩ := h
  cases (show ov = Value.ref d from ro)
  cases (show iv = Value.ref a from ri)
  obtain ⟨nm, dd⟩ := m.dict I
  have eu : u = rawV v := by
    cases v with
    | ref b => exact rv
    | non => exact rv
    | _ => exact ok.elim
  subst eu
  have na : atKey (rawM xs) k = none := by
    have := look_isSome xs k
    rw [l] at this
    cases e : atKey (rawM xs) k with
    | none => rfl
    | some p => rw [e] at this; cases this
  have len : (rawM xs).length ≤ sizeLine := by
    unfold rawM
    rw [List.length_map, sizeLine_eq]
    have := m.len
    omega
  refine wpAny_setItem_heap (knd := nestKind X.prog X.w) (hsz := len) (show X.A.units + 1 + 4 < cLine by omega) (hk.is I) dd fun h' dd' hs => ?_
  rw [storedH_new na] at dd'
  obtain ⟨o, es, ep, h1, h2, h3, h4, _, h5⟩ := dd'
  have er : rawM xs ++ [(k, a, rawV v)] = rawM (xs ++ [(k, a, v)]) := by unfold rawM; rw [List.map_append]; rfl
  rw [er] at h4 h5
  exact ⟨_, d_write I (by rw [m.at_]; exact True.intro) hs ⟨o, h1⟩ (mem_mono nm h1 h2 h3 h4 h5), q⟩
noncomputable def tDNewM (P : Program) (w : World) : TE := fun _ H Q => ∀ p, H p = none → Q (.ref p) (upd H p (memO P w p []))
theorem pe_dnewM {pos : Pos} : PE X (.Dict [] [] pos) (tDNewM X.prog X.w) := by
  intro pins s σ H Q I h
  exact wpAny_Dict_empty ⟨.ref s.heap.objs.size, _, I.laid (a := s.heap.objs.size) (o := memO X.prog X.w s.heap.objs.size []) (t' := s.toks) (fun _ _ q => Heap.get?_push_of_some _ q) (Nat.le_refl _) (mem_mono (by have := I.big; exact beq_eq_false_iff_ne.mpr (Nat.ne_of_gt this)) (Heap.get?_push_size _ rfl) ⟨rfl, rfl, rfl⟩ rfl rfl List.Pairwise.nil), rfl, h _ (I.hok.fresh (Nat.le_refl _))⟩
theorem vc_notM {P : Program} {w : World} {H : Hp} {Q : VK} {a d : Addr} {k : NKey} {xs : List (NKey × Addr × V)} (hk : KeyN H a k) (m : Memo P w H d xs) (q : Q (.bl (!(lookM xs k).isSome)) H) : rNotM P w (.ref a) (.ref d) H Q := ⟨a, d, k, xs, rfl, rfl, hk, m, q⟩
theorem vc_setM {P : Program} {w : World} {H : Hp} {Q : Hp → Prop} {a d : Addr} {k : NKey} {v : V} {xs : List (NKey × Addr × V)} (hk : KeyN H a k) (m : Memo P w H d xs) (l : lookM xs k = none) (ok : okV v) (q : Q (upd H d (memO P w d (xs ++ [(k, a, v)])))) : rSetM P w (.ref d) (.ref a) v H Q := ⟨d, a, k, xs, rfl, rfl, hk, m, l, ok, q⟩
theorem vc_mget {P : Program} {w : World} {td ty : TE} {σ : St} {H : Hp} {Q : VK} (h : td σ H fun x H1 => ty σ H1 fun y H2 => ∃ (d a : Addr) (k : NKey) (xs : List (NKey × Addr × V)) (v : V), x = .ref d ∧ y = .ref a ∧ KeyN H2 a k ∧ Memo P w H2 d xs ∧ lookM xs k = some v ∧ Q v H2) : tMGet P w td ty σ H Q := h
theorem vc_dnewM {P : Program} {w : World} {σ : St} {H : Hp} {Q : VK} (h : ∀ p o, H p = none → o = memO P w p [] → Q (.ref p) (upd H p o)) : tDNewM P w σ H Q := fun p hp => h p _ hp rfl
theorem KeyN.same {H H' : Hp} {a : Addr} {k : NKey} (h : KeyN H a k) (e : Same H H') : KeyN H' a k := by
  obtain ⟨b, h1, h2⟩ := h
  exact ⟨b, e _ _ h1, e _ _ h2⟩
end
end L2
namespace L2
open PySem PySem.Spec PyProof.Rows
theorem vc_itup {K : PySem.W.Frag} {tl : TE} {σ : St} {H : Hp} {R : It → Hp → Prop} (h : tl σ H fun x H1 => ∃ a, x = .ref a ∧ (∃ xs, SqT K H1 a xs) ∧ R (Itt K a) H1) : iTup K tl σ H R := h
theorem hJ_tup {K : PySem.W.Frag} {H1 : Hp} {a : Addr} {xs : List V} (h : SqT K H1 a xs) : ∀ i H, Same H1 H → (i < xs.length → (Itt K a).go i H) ∧ (xs.length ≤ i → (Itt K a).stop i H) ∧ ∀ x H', i < xs.length → (Itt K a).yld i H x H' → H' = H ∧ xs[i]? = some x :=
  fun i _ sm => ⟨fun hi => ⟨xs, xs[i], sm.tup h, by simp [hi]⟩, fun hi => ⟨xs, sm.tup h, hi⟩, fun _ _ _ y => ⟨y.1, y.2 xs (sm.tup h)⟩⟩
end L2
namespace L2
open PySem PySem.Spec PyProof.Rows PySem.W
section
variable {P : Program} {w : World} {A : Around} {E : Value → Shared → Prop} {s : Shared}
noncomputable def GotR (s : Shared) (n : Nat) (q : Result) (s' : Shared) : Prop :=
  ∃ (h' : Heap) (tk : Nat) (acc : Array Value) (c : Nat), q = .ok (.ret (.ref s.heap.objs.size)) ∧ s' = { s with heap := h', toks := tk } ∧ (∀ b o, s.heap.get? b = some o → h'.get? b = some o) ∧ h'.get? s.heap.objs.size = some { cls := .type "list", data := .seq acc c } ∧ ItemsOf (fun i v => ∃ t, v = .int (0 + i * 1) t) acc n
theorem collect_range {R : List Value → Shared → Prop} {r : Addr} {n : Nat} {t u v : Tok} (nh : A.handled = none) (hr : IsRange s.heap r 0 n 1 t u v) (hn : n ≤ 1000)
    (h : ∀ h' tk acc, s.heap.objs.size < h'.objs.size → (∀ b o, s.heap.get? b = some o → h'.get? b = some o) → ItemsOf (fun i v => ∃ t, v = .int (0 + i * 1) t) acc n → R acc.toList { s with heap := h', toks := tk }) : wpAny (model P w) A (collect (.ref r)) R E s := by
  have sz : Builtin.Range.rangeSize 0 (n : Int) 1 = n := by rw [rangeSize_one]; split <;> omega
  have fin : ∀ (q : Result) (s' : Shared), GotR s n q s' → ∃ (h' : Heap) (tk : Nat) (acc : Array Value) (c : Nat), q = .ok (.ret (.ref s.heap.objs.size)) ∧ s' = { s with heap := h', toks := tk } ∧ h'.get? s.heap.objs.size = some { cls := .type "list", data := .seq acc c } ∧ R acc.toList s' := fun q s' y => by
    obtain ⟨h', tk, acc, c, e1, e2, k, e3, e4⟩ := y
    refine ⟨h', tk, acc, c, e1, e2, e3, ?_⟩
    rw [e2]
    exact h h' tk acc (Heap.lt_size e3) k e4
  have key := wpAny_extend_range (prog := P) (w := w) (A := A) (R := GotR s n) (s := { s with heap := s.heap.push { cls := .type "list", data := .seq #[] } }) nh (Heap.get?_push_of_some _ hr) (small_one (by decide) (by decide) (by omega) (by omega)) sz (Nat.le_trans hn (by decide)) s.heap.objs.size (.ref s.heap.objs.size) 0 (Heap.get?_push_size _ rfl)
    fun h' tk acc c k e1 e2 => ⟨h', tk, acc, c, rfl, rfl, fun b o e => k b o (Nat.ne_of_lt (Heap.lt_size e)) (Heap.get?_push_of_some _ e), e1, e2⟩
  unfold collect
  refine wpAny_bind (wpAny_runValue (codeAny_builtin entry_proto_collect' ?_))
  rw [Around.under_plainId PySem.F.plain_proto_collect _]
  refine wpAny_bind (m := newList []) (wpAny_newObj_type (wpAny_pure ⟨plainId_quiet PySem.F.plain_list_iadd _, codeAny_builtin entry_list_iadd' ?_⟩))
  rw [Around.under_plainId PySem.F.plain_list_iadd _]
  refine wpAny_mono key (fun f s' x => ?_) fun e s' x => ?_
  · cases f with
    | done f =>
      obtain ⟨h', tk, acc, c, e1, rfl, e3, q⟩ := fin _ _ x
      cases e1
      exact wpAny_bind (m := load s.heap.objs.size) (wpAny_load e3 (wpAny_pure q))
    | again c1 =>
      refine ⟨x.1, codeAny_mono x.2 fun r s2 y => ?_⟩
      obtain ⟨h', tk, acc, c, rfl, rfl, e3, q⟩ := fin _ _ y
      exact wpAny_bind (m := load s.heap.objs.size) (wpAny_load e3 (wpAny_pure q))
  · obtain ⟨_, _, _, _, e1, _⟩ := fin _ _ x
    cases e1
theorem tuple_new_range (r : Addr) (n : Nat) (hn : n ≤ 1000) : MeetsIn P w (Builtin.«tuple.__new__» ⟨[.type "tuple", .ref r], []⟩)
    (fun A R s => A.in1.handled = none ∧ (∃ t u v, IsRange s.heap r 0 n 1 t u v) ∧ ∀ (h' : Heap) (tk : Nat) (acc : Array Value), s.heap.objs.size < h'.objs.size → (∀ b o, s.heap.get? b = some o → h'.get? b = some o) → ItemsOf (fun i v => ∃ t, v = .int (0 + i * 1) t) acc n → R (.ok (.ret (.ref h'.objs.size))) { s with heap := h'.push { cls := .type "tuple", data := .seq acc }, toks := tk }) := by
  intro A R s hh
  obtain ⟨nh, ⟨t, u, v, hr⟩, h⟩ := hh
  obtain ⟨hp, g, d, tk, os⟩ := s
  have q1 := sub_tuple_self
  have q2 := init_tuple_lookup
  have q3 := madeHere_tuple
  have ty : Shared.TypeIs ⟨hp, g, d, tk, os⟩ (.ref r) "range" := ⟨_, hr, rfl⟩
  wp_walk using wpAny_loadPart' hr, wpAny_typeOf ty, collect_range (n := n) nh hr hn
  intro h' tk' acc hgr kp it
  refine wpAny_bind (wpAny_pure ?_)
  show wpAny _ _ (Builtin.Tuple.tupleExact acc.toList.toArray >>= fun v => ret v) _ _ _
  unfold Builtin.Tuple.tupleExact
  have e : acc.toList.toArray = acc := by simp
  have la : acc.size ≤ sizeLine := by rw [it.1, sizeLine_eq]; omega
  refine wpAny_bind (wpAny_newObj_type ?_ (by show acc.toList.toArray.size ≤ sizeLine; rw [e]; exact la))
  refine wpAny_pure ?_
  rw [e]
  exact h h' tk' acc hgr kp it
end
section
variable {X : Cx}
noncomputable def rRange1 : List V → Hp → VK → Prop := fun xs H Q => ∃ n : Int, xs = [.int n] ∧ ∀ p, H p = none → Q (.ref p) (upd H p (.rng 0 n))
theorem call_rangeV : CallR X (.type "range") rRange1 := by
  intro pins s σ H xs us Q I r h
  obtain ⟨n, rfl, q⟩ := h
  obtain ⟨u, rfl, rx⟩ := vals1 r
  obtain ⟨t, rfl⟩ := (show ∃ t, u = Value.int n t from rx)
  refine call_range_1 ⟨.ref s.heap.objs.size, _, I.laid (o := .rng 0 n) (fun b o e => Heap.get?_push_of_some _ e) (Nat.le_refl _) ⟨_, _, _, Heap.get?_push_size _ rfl⟩, rfl, q _ (I.hok.fresh (Nat.le_refl _))⟩
noncomputable def rTupR : List V → Hp → VK → Prop := fun xs H Q => ∃ (p : Addr) (n : Nat), xs = [.ref p] ∧ H p = some (.rng 0 n) ∧ n ≤ 1000 ∧ ∀ l, H l = none → Q (.ref l) (upd H l (.tup ((List.range n).map fun (i : Nat) => V.int i)))
theorem call_tupR (hcalm : X.calm = true) : CallR X (.type "tuple") rTupR := by
  intro pins s σ H xs us Q I r h
  obtain ⟨p, n, rfl, hp, hn, q⟩ := h
  obtain ⟨u, rfl, rx⟩ := vals1 r
  cases (show u = Value.ref p from rx)
  obtain ⟨t, u, v, g⟩ := (show ObjOk X.prog X.w H s.heap p (.rng 0 n) from I.hok p _ hp)
  refine callType_newIn PySem.F.called_tuple (by decide) (PySem.F.typeCall_tuple_1 _) (PySem.F.newCall_tuple_1 _) (fun obj => PySem.F.args_object_init_2 obj _) PySem.F.entry_tuple_new (tuple_new_range p n hn) ⟨by simpa using I.ok.hd hcalm, ⟨t, u, v, g⟩, fun h' tk acc hgr kp it => ⟨⟨_, Heap.get?_push_size _ rfl, rfl⟩, ?_⟩⟩
  have le : s.heap.objs.size ≤ h'.objs.size := Nat.le_of_lt hgr
  refine ⟨.ref h'.objs.size, _, I.laid (t' := tk) (fun b o e => Heap.get?_push_of_some _ (kp b o e)) le (show ObjOk X.prog X.w _ _ _ (.tup ((List.range n).map fun (i : Nat) => V.int i)) from ⟨by rw [List.length_map, List.length_range, sizeLine_eq]; omega, acc.toList, ?_, ?_⟩), rfl, q _ (I.hok.fresh le)⟩
  · refine vals_at (by rw [List.length_map, List.length_range, Array.length_toList, it.1]) fun i x u h1 h2 => ?_
    rw [Array.getElem?_toList] at h2
    obtain ⟨t, rfl⟩ := it.2 i u h2
    rw [List.getElem?_map] at h1
    obtain ⟨j, hj, rfl⟩ := Option.map_eq_some_iff.mp h1
    obtain ⟨lt, e⟩ := List.getElem?_eq_some_iff.mp hj
    rw [List.getElem_range] at e
    subst e
    exact ⟨t, by rw [Int.zero_add, Int.mul_one]⟩
  · have e : acc.toList.toArray = acc := by simp
    rw [e]
    exact IsTup.new _ _
theorem vc_rangeV {H : Hp} {Q : VK} {n : Int} (q : ∀ p, H p = none → Q (.ref p) (upd H p (.rng 0 n))) : rRange1 [.int n] H Q := ⟨n, rfl, q⟩
theorem vc_tupR {H : Hp} {Q : VK} {p : Addr} {n : Nat} (h : H p = some (.rng 0 n)) (hn : n ≤ 1000) (q : ∀ l, H l = none → Q (.ref l) (upd H l (.tup ((List.range n).map fun (i : Nat) => V.int i)))) : rTupR [.ref p] H Q := ⟨p, n, rfl, h, hn, q⟩
end
end L2
namespace L2
open PySem PySem.Spec PyProof.Rows PySem.W
section
variable {X : Cx}
noncomputable def rListR : List V → Hp → VK → Prop := fun xs H Q => ∃ (p : Addr) (n : Nat), xs = [.ref p] ∧ H p = some (.rng 0 n) ∧ n ≤ 1000 ∧ ∀ l, H l = none → Q (.ref l) (upd H l (.lst ((List.range n).map fun (i : Nat) => V.int i)))
theorem call_listRg (hcalm : X.calm = true) : CallR X (.type "list") rListR := by
  intro pins s σ H xs us Q I r h
  obtain ⟨p, n, rfl, hp, hn, q⟩ := h
  obtain ⟨u, rfl, rx⟩ := vals1 r
  cases (show u = Value.ref p from rx)
  obtain ⟨t, u, v, g⟩ := (show ObjOk X.prog X.w H s.heap p (.rng 0 n) from I.hok p _ hp)
  have sz : Builtin.Range.rangeSize 0 (n : Int) 1 = n := by rw [rangeSize_one]; split <;> omega
  refine call_list_range (I.ok.hd hcalm) (show IsRange s.heap p 0 n 1 t u v from g) (small_one (by decide) (by decide) (by omega) (by omega)) sz (Nat.le_trans hn (by decide)) fun h' tk acc c hk hS it => ?_
  refine ⟨.ref s.heap.objs.size, _, I.laid (t' := tk) hk (Nat.le_refl _) (show ObjOk X.prog X.w _ _ _ (.lst ((List.range n).map fun (i : Nat) => V.int i)) from ⟨by rw [List.length_map, List.length_range, sizeLine_eq]; omega, acc.toList, c, ?_, by rw [hS]⟩), rfl, q _ (I.hok.fresh (Nat.le_refl _))⟩
  refine vals_at (by rw [List.length_map, List.length_range, Array.length_toList, it.1]) fun i x u h1 h2 => ?_
  rw [Array.getElem?_toList] at h2
  obtain ⟨t, rfl⟩ := it.2 i u h2
  rw [List.getElem?_map] at h1
  obtain ⟨j, hj, rfl⟩ := Option.map_eq_some_iff.mp h1
  obtain ⟨lt, e⟩ := List.getElem?_eq_some_iff.mp hj
  rw [List.getElem_range] at e
  subst e
  exact ⟨t, by rw [Int.zero_add, Int.mul_one]⟩
theorem vc_listRg {H : Hp} {Q : VK} {p : Addr} {n : Nat} (h : H p = some (.rng 0 n)) (hn : n ≤ 1000) (q : ∀ l, H l = none → Q (.ref l) (upd H l (.lst ((List.range n).map fun (i : Nat) => V.int i)))) : rListR [.ref p] H Q := ⟨p, n, rfl, h, hn, q⟩
noncomputable def isN (k : Int) : Value → Bool
  | .int a _ => a == k
  | _ => false
theorem vals_isN {k : Int} {ns : List Int} : ∀ {its : List Value}, Vals (ns.map V.int) its → its.length = ns.length ∧ (∀ y ∈ its, ∃ a t, y = .int a t) ∧ ∀ (i : Nat) (u : Value), its[i]? = some u → isN k u = (ns[i]? == some k) := by
  induction ns with
  | nil => intro its h; cases h; exact ⟨rfl, fun _ z => (nomatch z), fun i u z => by simp at z⟩
  | cons n ns ih =>
    intro its h
    cases h with
    | cons h1 h2 =>
      obtain ⟨t, rfl⟩ := h1
      obtain ⟨a, b, c⟩ := ih h2
      refine ⟨by rw [List.length_cons, List.length_cons, a], fun y hy => ?_, fun i u hu => ?_⟩
      · rcases List.mem_cons.mp hy with rfl | z
        · exact ⟨n, t, rfl⟩
        · exact b y z
      · cases i with
        | zero => cases hu; show (n == k) = (some n == some k); rfl
        | succ i => exact c i u hu
theorem map_eraseI {α β : Type} (f : α → β) : ∀ (l : List α) (i : Nat), (l.eraseIdx i).map f = (l.map f).eraseIdx i
  | [], _ => rfl
  | _ :: _, 0 => rfl
  | a :: l, i + 1 => by
    show f a :: (l.eraseIdx i).map f = f a :: (l.map f).eraseIdx i
    rw [map_eraseI f l i]
noncomputable def rRemoveI : V → List V → Hp → VK → Prop := fun x vs H Q => ∃ (l : Addr) (ns : List Int) (k : Int), x = .ref l ∧ vs = [.int k] ∧ H l = some (.lst (ns.map V.int)) ∧ k ∈ ns ∧ Q .non (upd H l (.lst ((ns.erase k).map V.int)))
theorem mt_removeI : MtR X "list.remove" rRemoveI := by
  intro pins s σ H x vs v us Q I rx rv h
  obtain ⟨l, ns, k, rfl, rfl, hH, hk, q⟩ := h
  cases rx
  obtain ⟨u, rfl, ru⟩ := vals1 rv
  obtain ⟨t, rfl⟩ := ru
  obtain ⟨z, its, n, r, hl, e⟩ := I.lstM hH
  obtain ⟨il, ii, ia⟩ := vals_isN (k := k) r
  have hj : ns.idxOf k < ns.length := List.idxOf_lt_length_of_mem hk
  have hat : ns[ns.idxOf k]? = some k := by rw [List.getElem?_eq_getElem hj, List.getElem_idxOf]
  refine call_meets F.slot_list_remove ⟨_, e, rfl⟩ F.entry_list_remove (F.args_list_remove_2 _ _)
    (MeetsSeq.list_remove l its.toArray n (.int k t) (isN k) (fun y hy => ?_) (ns.idxOf k) (by rw [List.size_toArray, il]; exact hj) ?_ (fun m hm hmj => ?_) (by rw [List.size_toArray]; omega)) ⟨e, ?_⟩
  · obtain ⟨a, t', rfl⟩ := ii y (by simpa using hy)
    exact MeetsSeq.EqGives.int a k t' t
  · have hm : ns.idxOf k < its.length := by omega
    have := ia (ns.idxOf k) its[ns.idxOf k] (List.getElem?_eq_getElem hm)
    rw [hat] at this
    simpa using this
  · have hm' : m < its.length := by simpa using hm
    have := ia m its[m] (List.getElem?_eq_getElem hm')
    have ne : ¬ ns[m]? = some k := fun z => by
      obtain ⟨lt, ez⟩ := List.getElem?_eq_some_iff.mp z
      have nz := List.not_of_lt_findIdx (p := (· == k)) (xs := ns) hmj
      rw [show (ns[m] == k) = true by simpa using ez] at nz
      cases nz
    rw [show (ns[m]? == some k) = false by simpa using ne] at this
    simpa using this
  · have ee : (ns.erase k).map V.int = (ns.map V.int).eraseIdx (ns.idxOf k) := by
      rw [List.erase_eq_eraseIdx_of_idxOf rfl, map_eraseI]
    rw [ee] at q
    refine ⟨.non, _, I.lset (its' := its.eraseIdx (ns.idxOf k)) hH e ?_ (r.eraseIdx _) ?_, rfl, q⟩
    · show its.toArray.eraseIdxIfInBounds _ = (its.eraseIdx _).toArray
      rw [List.eraseIdxIfInBounds_toArray]
    · have := len_erase (ns.map V.int) (ns.idxOf k)
      omega
theorem vc_remove {H : Hp} {Q : VK} {l : Addr} {ns : List Int} {k : Int} (h : H l = some (.lst (ns.map V.int))) (hk : k ∈ ns) (q : Q .non (upd H l (.lst ((ns.erase k).map V.int)))) : rRemoveI (.ref l) [.int k] H Q := ⟨l, ns, k, rfl, rfl, h, hk, q⟩
end
section
variable {prog : Program} {w : World} {A : Around} {E : Value → Shared → Prop} {s : Shared}
end
section
variable {X : Cx}
end
end L2
namespace L2
open PySem PySem.Spec PyProof.Rows PySem.W
section
variable {prog : Program} {w : World} {A : Around} {E : Value → Shared → Prop} {s : Shared}
inductive TupsI (hp : Heap) : List Value → List (Int × Int) → Prop
  | nil : TupsI hp [] []
  | cons {a : Addr} {o : Obj} {p : Int × Int} {t u : Tok} {n : Nat} {vs : List Value} {ps : List (Int × Int)} (g : hp.get? a = some o) (c : o.cls = .type "tuple") (d : o.data = .seq #[.int p.1 t, .int p.2 u] n) (r : TupsI hp vs ps) : TupsI hp (.ref a :: vs) (p :: ps)
theorem TupsI.at {hp : Heap} {vs : List Value} {ps : List (Int × Int)} (r : TupsI hp vs ps) : ∀ {i : Nat} {y : Int × Int}, ps[i]? = some y → ∃ a o t u n, vs[i]? = some (.ref a) ∧ hp.get? a = some o ∧ o.cls = .type "tuple" ∧ o.data = .seq #[.int y.1 t, .int y.2 u] n := by
  induction r with
  | nil => intro i y h; simp at h
  | cons g c d r ih =>
    intro i y h
    cases i with
    | zero =>
      rw [List.getElem?_cons_zero] at h
      cases h
      exact ⟨_, _, _, _, _, rfl, g, c, d⟩
    | succ i =>
      rw [List.getElem?_cons_succ] at h
      obtain ⟨a', o', t', v', n', z⟩ := ih h
      exact ⟨a', o', t', v', n', by rw [List.getElem?_cons_succ]; exact z.1, z.2⟩
theorem TupsI.len {hp : Heap} {vs : List Value} {ps : List (Int × Int)} (r : TupsI hp vs ps) : vs.length = ps.length := by
  induction r with
  | nil => rfl
  | cons g c d r ih => rw [List.length_cons, List.length_cons, ih]
theorem TupsI.mono {hp hp' : Heap} {vs : List Value} {ps : List (Int × Int)} (r : TupsI hp vs ps) (k : ∀ b o, o.cls = .type "tuple" → hp.get? b = some o → hp'.get? b = some o) : TupsI hp' vs ps := by
  induction r with
  | nil => exact .nil
  | cons g c d r ih => exact .cons (k _ _ c g) c d ih
theorem TupsI.firsts {hp : Heap} {vs : List Value} {ps : List (Int × Int)} (r : TupsI hp vs ps) : ∃ fs, KatTups hp vs fs ∧ fs.length = ps.length ∧ ∀ v ∈ fs, ∃ i t, v = Value.int i t := by
  induction r with
  | nil => exact ⟨[], .nil, rfl, fun _ h => (nomatch h)⟩
  | @cons a o x t v n vs ss g c d r ih =>
    obtain ⟨fs, z, y, q⟩ := ih
    refine ⟨.int x.1 t :: fs, .cons g c d rfl z, by rw [List.length_cons, List.length_cons, y], fun v hv => ?_⟩
    rcases List.mem_cons.mp hv with rfl | h
    · exact ⟨_, _, rfl⟩
    · exact q v h
end
inductive TupP (K : PySem.W.Frag) (H : Hp) : List Addr → List (Int × Int) → Prop
  | nil : TupP K H [] []
  | cons {a : Addr} {p : Int × Int} {as : List Addr} {ps : List (Int × Int)} (g : SqT K H a [.int p.1, .int p.2]) (r : TupP K H as ps) : TupP K H (a :: as) (p :: ps)
theorem TupP.len {K : PySem.W.Frag} {H : Hp} {as : List Addr} {ps : List (Int × Int)} (r : TupP K H as ps) : as.length = ps.length := by
  induction r with
  | nil => rfl
  | cons g r ih => rw [List.length_cons, List.length_cons, ih]
theorem TupP.same {K : PySem.W.Frag} {H H' : Hp} (e : Same H H') {as : List Addr} {ps : List (Int × Int)} (r : TupP K H as ps) : TupP K H' as ps := by
  induction r with
  | nil => exact .nil
  | cons g r ih => exact .cons (e.tup g) ih
theorem TupP.snoc {K : PySem.W.Frag} {H : Hp} {as : List Addr} {ps : List (Int × Int)} {a : Addr} {p : Int × Int} (r : TupP K H as ps) (g : SqT K H a [.int p.1, .int p.2]) : TupP K H (as ++ [a]) (ps ++ [p]) := by
  induction r with
  | nil => exact .cons g .nil
  | cons h r ih => exact .cons h ih
theorem TupP.tups {X : Cx} {pins : List (Addr × Obj)} {σ : St} {H : Hp} {s : Shared} (I : Inv X pins σ H s) {as : List Addr} {ps : List (Int × Int)} (r : TupP X.K H as ps) : TupsI s.heap (as.map Value.ref) ps := by
  induction r with
  | nil => exact .nil
  | cons g r ih =>
    obtain ⟨its, rv, ⟨o, e1, e2, k, e3⟩, _⟩ := I.tuple g
    cases rv with
    | cons h1 h2 =>
      cases h2 with
      | cons h2 h3 =>
        cases h3
        obtain ⟨t, rfl⟩ := h1
        obtain ⟨u, rfl⟩ := h2
        exact .cons e1 e2 e3 ih
end L2
namespace L2
open PySem PySem.Spec PyProof.Rows PySem.W
section
variable {prog : Program} {w : World} {A : Around} {E : Value → Shared → Prop} {s : Shared}
theorem rev_len_none : typeLookup (.type "list_reverseiterator") "__len__" = pure none := by rw [typeLookup_type, builtinLookup_eq_fast]; kernel_rfl
theorem rev_hint_at : typeLookup (.type "list_reverseiterator") "__length_hint__" = pure (some (.builtin "list_reverseiterator.__length_hint__")) := by rw [typeLookup_type, builtinLookup_eq_fast]; kernel_rfl
theorem hint_rev {r : Addr} {Q : Bool → Shared → Prop} (hT : s.TypeIs (.ref r) "list_reverseiterator") (h : Q false s) : wpAny (model prog w) A (Builtin.List.listLengthHint (.ref r)) Q E s := by
  unfold Builtin.List.listLengthHint
  refine wpAny_bind (wpAny_specialOf hT rev_len_none ?_)
  dsimp only
  refine wpAny_ite_split (fun hab => absurd hab (by decide +kernel)) (fun _ => ?_)
  refine wpAny_ite_split (fun hab => absurd hab (by decide)) (fun _ => ?_)
  refine wpAny_bind (wpAny_specialOf hT rev_hint_at ?_)
  generalize hid : ("list_reverseiterator.__length_hint__" : String) = id0
  wp_delta
  rw [show splitId id0 = some ("list_reverseiterator", "__length_hint__") from by subst hid; decide +kernel]
  subst hid
  refine wpAny_bind (wpAny_isInstance (T := "list_reverseiterator") (b := true) hT (by rw [isSubtype_type]; kernel_rfl) ?_)
  refine wpAny_ite_split (fun hab => absurd hab (by decide)) (fun _ => ?_)
  refine wpAny_ite_split (fun _ => ?_) (fun hab => absurd (by decide +kernel) hab)
  refine wpAny_ite_split (fun hab => absurd hab (by decide +kernel)) (fun _ => ?_)
  exact wpAny_pure h
theorem ext_rev {R : Result → Shared → Prop} {it l : Addr} {items : Array Value} (hh : A.handled = none) (hit : s.heap.IsRevIter it l ((items.size : Int) - 1)) (hl : s.heap.IsList l items) (hli : l ≠ it) (S : Addr) (hSi : S ≠ it) (hSl : S ≠ l) (res : Value) (c₀ : Nat) (hS : s.heap.get? S = some { cls := .type "list", data := .seq #[] c₀ })
    (hR : ∀ h' tk acc' c', (∀ b o, b ≠ S → b ≠ it → s.heap.get? b = some o → h'.get? b = some o) → h'.get? S = some { cls := .type "list", dict := none, data := .seq acc' c', slots := #[] } → ItemsOf (fun i v => items[items.size - 1 - i]? = some v) acc' items.size → R (.ok (.ret res)) { s with heap := h', toks := tk }) (hn : items.size ≤ sizeLine) :
    wpAny (model prog w) A.in1 (Builtin.List.listExtendWith (.ref S) (.ref it) res)
      (fun fin s' => match fin with | .done f => R (.ok f) s' | .again c' => c'.quiet = true ∧ codeAny (model prog w) A c' R s') (fun e s' => R (.error e) s') s := by
  have W := Walks.listRev (prog := prog) (w := w) (A := A.in1) hh it l hli items
  have hSf : S ∉ [it, l] := by simp only [List.mem_cons, List.not_mem_nil, or_false, not_or]; exact ⟨hSi, hSl⟩
  have st : (fun i (h : Heap) => i ≤ items.size ∧ h.IsRevIter it l ((items.size : Int) - 1 - (i : Int)) ∧ h.IsList l items) 0 s.heap := ⟨Nat.zero_le _, by rw [show (items.size : Int) - 1 - ((0 : Nat) : Int) = (items.size : Int) - 1 by omega]; exact hit, hl⟩
  have key : ∀ (h : Heap) (c₁ tk : Nat), (fun i (h : Heap) => i ≤ items.size ∧ h.IsRevIter it l ((items.size : Int) - 1 - (i : Int)) ∧ h.IsList l items) 0 h → (∀ b o, b ≠ S → s.heap.get? b = some o → h.get? b = some o) →
      h.get? S = some { cls := .type "list", data := .seq #[] c₁ } → codeAny (model prog w) A (.builtin "list.extend.loop" ⟨[.ref S, .ref it, res], []⟩) R { s with heap := h, toks := tk } := by
    intro h c₁ tk hst hk hS₁
    refine codeAny_extend_loopS W.toS hn S hSf res items.size 0 _ #[] c₁ rfl (Nat.zero_le _) hst hS₁ (ItemsOf.nil _) fun s' acc' c' hm hS' hacc => ?_
    rw [Moved.eq_with hm]
    refine hR s'.heap s'.toks acc' c' (fun b o hb hbi e => hm.heap b o (fun hmem => ?_) (hk b o hb e)) hS' hacc
    rcases List.mem_cons.mp hmem with e' | hmem
    · exact hb e'
    · exact hbi (List.mem_singleton.mp hmem)
  unfold Builtin.List.listExtendWith
  refine wpAny_bind (wpAny_typeOf (T := "list_reverseiterator") hit.typeIs ?_)
  have h1 : Builtin.List.listSameRef (.ref S) (.ref it) = false := by simp [Builtin.List.listSameRef, hSi]
  simp only [h1, show (Value.type "list_reverseiterator" == Value.type "list") = false by decide, show (Value.type "list_reverseiterator" == Value.type "tuple") = false by decide, Bool.or_false, Bool.false_eq_true, if_false]
  refine wpAny_bind (wpAny_pyIter_revIter hit ?_)
  refine wpAny_bind (wpAny_holding (hint_rev hit.typeIs ?_))
  refine wpAny_ite_split (fun _ => ?_) (fun _ => wpAny_pure ⟨plainId_quiet PySem.F.plain_extend_loop _, key _ c₀ _ st (fun b o _ e => e) hS⟩)
  refine wpAny_bind (wpAny_rule ?_)
  refine wpAny_bind ?_
  show wpAny _ _ (updateSeq S (·.push .none) >>= fun _ => updateSeq S (·.pop)) _ _ _
  refine wpAny_bind (wpAny_updateSeq hS rfl ?_)
  have hS₂ := Heap.get?_update_self (Obj.mapSeq (·.push Value.none)) hS rfl
  refine wpAny_updateSeq (hz := by seq_fits) hS₂ rfl ?_
  have hS₃ := Heap.get?_update_self (Obj.mapSeq (·.pop)) hS₂ rfl
  refine wpAny_pure ⟨plainId_quiet PySem.F.plain_extend_loop _, key _ _ _ ?_ (fun b o hb e => ?_) hS₃⟩
  · refine W.frame 0 _ _ st fun b hb o e => ?_
    have hbS : b ≠ S := fun h => hSf (h ▸ hb)
    exact (Heap.get?_update_other _ _ (Ne.symm hbS)).trans ((Heap.get?_update_other _ _ (Ne.symm hbS)).trans e)
  · exact (Heap.get?_update_other _ _ (Ne.symm hb)).trans ((Heap.get?_update_other _ _ (Ne.symm hb)).trans e)
theorem init_rev {R : Result → Shared → Prop} {it l : Addr} {items : Array Value} (hh : A.handled = none) (hit : s.heap.IsRevIter it l ((items.size : Int) - 1)) (hl : s.heap.IsList l items) (hli : l ≠ it) (S : Addr) (hSi : S ≠ it) (hSl : S ≠ l) (hS : s.heap.get? S = some { cls := .type "list", data := .seq #[] })
    (hR : ∀ h' tk acc' c', (∀ b o, b ≠ S → b ≠ it → s.heap.get? b = some o → h'.get? b = some o) → h'.get? S = some { cls := .type "list", dict := none, data := .seq acc' c', slots := #[] } → ItemsOf (fun i v => items[items.size - 1 - i]? = some v) acc' items.size → R (.ok (.ret .none)) { s with heap := h', toks := tk }) (hn : items.size ≤ sizeLine) :
    wpAny (model prog w) A.in1 (Builtin.«list.__init__» ⟨[.ref S, .ref it], []⟩)
      (fun fin s' => match fin with | .done f => R (.ok f) s' | .again c' => c'.quiet = true ∧ codeAny (model prog w) A c' R s') (fun e s' => R (.error e) s') s := by
  show wpAny _ _ (do let old ← Builtin.List.listItems (.ref S); Builtin.List.listUpdate (.ref S) (fun _ => #[]); letGo old.toList.reverse; Builtin.List.listExtendWith (.ref S) (.ref it) .none) _ _ s
  refine wpAny_bind ?_
  unfold Builtin.List.listItems
  refine wpAny_bind (wpAny_seqItems hS rfl (wpAny_pure ?_))
  show wpAny _ _ (updateSeq S (fun _ => #[]) >>= fun _ => letGo (#[] : Array Value).toList.reverse >>= fun _ => Builtin.List.listExtendWith (.ref S) (.ref it) .none) _ _ s
  refine wpAny_bind (wpAny_updateSeq hS rfl ?_)
  have hS₂ := Heap.get?_update_self (Obj.mapSeq (fun _ => (#[] : Array Value))) hS rfl
  have oth : ∀ b o, b ≠ S → s.heap.get? b = some o → (s.heap.update S (Obj.mapSeq (fun _ => (#[] : Array Value)))).get? b = some o :=
    fun b o hb e => (Heap.get?_update_other _ _ (Ne.symm hb)).trans e
  refine wpAny_bind (wpAny_letGo ?_)
  refine ext_rev hh (hit.at fun o e => oth _ o hSi.symm e) (hl.at fun o e => oth _ o hSl.symm e) hli S hSi hSl .none _ hS₂ (fun h' tk acc' c' hk hS' hacc => ?_) hn
  exact hR h' tk acc' c' (fun b o hb hbi e => hk b o hb hbi (oth b o hb e)) hS' hacc
theorem call_list_rev {Q : Value → Shared → Prop} {it l : Addr} {items : Array Value} (hh : A.handled = none) (hit : s.heap.IsRevIter it l ((items.size : Int) - 1)) (hl : s.heap.IsList l items) (hli : l ≠ it) (hn : items.size ≤ sizeLine)
    (hQ : ∀ h' tk acc' c', (∀ b o, b ≠ it → s.heap.get? b = some o → h'.get? b = some o) → h'.get? s.heap.objs.size = some { cls := .type "list", dict := none, data := .seq acc' c', slots := #[] } → ItemsOf (fun i v => items[items.size - 1 - i]? = some v) acc' items.size → Q (.ref s.heap.objs.size) { s with heap := h', toks := tk }) :
    wpAny (model prog w) A (call (.type "list") [.ref it]) Q E s := by
  refine callType_codes (Q₁ := fun obj s₁ => obj = .ref s.heap.objs.size ∧ s₁ = { s with heap := s.heap.push { cls := .type "list", data := .seq #[] } }) PySem.F.called_list (PySem.F.typeCall_list_1 _) PySem.F.entry_list_init
    (code_list_new _ ⟨rfl, rfl⟩) fun obj s₁ h₁ => ?_
  obtain ⟨rfl, rfl⟩ := h₁
  have hS : (s.heap.push { cls := .type "list", data := .seq #[] }).get? s.heap.objs.size = some { cls := .type "list", data := .seq #[] } := Heap.get?_push_size _ rfl
  have l1 : it < s.heap.objs.size := let ⟨_, ho, _⟩ := hit; Heap.lt_size ho
  have l2 : l < s.heap.objs.size := let ⟨_, ho, _⟩ := hl; Heap.lt_size ho
  refine ⟨⟨_, hS, rfl⟩, PySem.F.args_list_init_2 _ _, init_rev (A := A.in1) hh (hit.at fun o e => Heap.get?_push_of_some _ e) (hl.at fun o e => Heap.get?_push_of_some _ e) hli _ (Nat.ne_of_gt l1) (Nat.ne_of_gt l2) hS (fun h' tk acc' c' hk hS' hacc => ?_) hn⟩
  exact ⟨rfl, hQ h' tk acc' c' (fun b o hbi e => hk b o (Nat.ne_of_lt (Heap.lt_size e)) hbi (Heap.get?_push_of_some _ e)) hS' hacc⟩
end
section
variable {X : Cx}
noncomputable def tListRev (K : PySem.W.Frag) (ta : TA) : TE := fun σ H Q => ta σ H fun vs H1 => ∃ a xs, vs = [.ref a] ∧ SqL K H1 a xs ∧ ∀ q, H1 q = none → Q (.ref q) (upd H1 q (.lst xs.reverse))
theorem pe_listRev {a : Expr} {ta : TA} {p pos p2 pos2 : Pos} (hcalm : X.calm = true) (hgl : Gl X "list") (hml : X.mg "list" = none) (hg : Gl X "reversed") (hm : X.mg "reversed" = none) (ha : PA X [a] ta) (hs : starEach [a] X.env = [(false, eval a X.env)] := by rfl)
    (hs2 : starEach [.Call (.Name "reversed" p) [a] [] pos] X.env = [(false, eval (.Call (.Name "reversed" p) [a] [] pos) X.env)] := by rfl) :
    PE X (.Call (.Name "list" p2) [.Call (.Name "reversed" p) [a] [] pos] [] pos2) (tListRev X.K ta) := by
  intro pins s σ H Q I h
  refine wpAny_Call_Name_kw (ld_blt I hgl hml bo_list ?_)
  refine PyProof.Rows.callWith_type1 ?_ hs2 rfl
  rw [hs2]
  show wpAny _ _ (spliced ((false, eval (.Call (.Name "reversed" p) [a] [] pos) X.env) :: backTo pos2 [])) _ _ s
  refine Calls.spliced_cons ?_
  refine wpAny_Call_Name_kw (ld_blt I hg hm bo_reversed (PyProof.Rows.callWith_type1 (thn (ha pos pins s σ H _ I h) fun us s1 hq9 => AP.out hq9 fun vs H1 I1 r1 q1 => ?_) hs rfl))
  obtain ⟨a, xs, e, hq, q⟩ := q1
  subst e
  obtain ⟨u, rfl, ru⟩ := vals1 r1
  cases (show u = Value.ref a from ru)
  obtain ⟨its, rv, pl, hz⟩ := I1.list hq
  refine call_reversed_list pl.isList ?_
  have hit : (s1.heap.push (revObj a ((its.toArray.size : Int) - 1))).IsRevIter s1.heap.objs.size a ((its.toArray.size : Int) - 1) := ⟨_, Heap.get?_push_size _ rfl, rfl, rfl⟩
  have hl : its.toArray.size = xs.length := by rw [List.size_toArray]; exact rv.length.symm
  have la : a < s1.heap.objs.size := let ⟨_, ho, _⟩ := pl.isList; Heap.lt_size ho
  refine Calls.spliced_nil ?_
  refine call_list_rev (I.ok.hd hcalm) hit (pl.isList.at fun o e => Heap.get?_push_of_some _ e) (Nat.ne_of_lt la) (by rw [hl]; exact hz) fun h' tk acc c hk hS it => ?_
  have I2 : Inv X pins σ H1 { s1 with heap := s1.heap.push (revObj a ((its.toArray.size : Int) - 1)) } := I1.kept (t' := s1.toks) fun b o e => Heap.get?_push_of_some _ e
  refine ⟨.ref _, _, I2.turnLaid (t' := tk) (ch := [s1.heap.objs.size]) (fun b u hb e => hk b u (by simpa using hb) e) (fun b hb => ?_) (Nat.le_refl _) (show ObjOk X.prog X.w _ _ _ (.lst xs.reverse) from ⟨by rw [List.length_reverse]; exact hz, acc.toList, c, ?_, by rw [hS]⟩), rfl, q _ (I2.hok.fresh (Nat.le_refl _))⟩
  · have e : b = s1.heap.objs.size := by simpa using hb
    subst e
    exact I1.fpOk (Nat.le_refl _) (I1.hok.fresh (Nat.le_refl _))
  · refine vals_at (by rw [List.length_reverse]; have z := it.1; rw [hl] at z; simpa using z.symm) fun i x u h1 h2 => ?_
    rw [Array.getElem?_toList] at h2
    have e := it.2 i u h2
    have li : i < xs.length := by
      have := (List.getElem?_eq_some_iff.mp h1).1
      rw [List.length_reverse] at this
      exact this
    rw [List.getElem?_reverse li] at h1
    obtain ⟨u', hu', ru'⟩ := rv.get h1
    rw [hl, ← Array.getElem?_toList] at e
    have : its[xs.length - 1 - i]? = some u := by simpa using e
    rw [hu'] at this
    cases this
    exact ru'
theorem vc_listRev {K : PySem.W.Frag} {ta : TA} {σ : St} {H : Hp} {Q : VK} (h : ta σ H fun vs H1 => ∃ a xs, vs = [.ref a] ∧ SqL K H1 a xs ∧ ∀ q, H1 q = none → Q (.ref q) (upd H1 q (.lst xs.reverse))) : tListRev K ta σ H Q := h
end
end L2
namespace L2
open PySem PySem.Spec PyProof.Rows PySem.W
section
variable {prog : Program} {w : World} {A : Around} {E : Value → Shared → Prop} {s : Shared}
theorem lt_tupsI0 {vs : List Value} {ps : List (Int × Int)} (r : TupsI s.heap vs ps) {i j : Nat} (hi : i < vs.length) (hj : j < vs.length) {C : Bool → Shared → Prop} (h : ∀ b, C b s) :
    wpAny (model prog w) A (keyLt' (tuples' true) (vs.getD i Value.none) (vs.getD j Value.none)) C E s := by
  have hl := r.len
  obtain ⟨a, o, t, v, n, e1, g1, c1, d1⟩ := r.at (i := i) (y := ps[i]'(by omega)) (List.getElem?_eq_getElem (by omega))
  obtain ⟨b, p, u, y, m, e2, g2, c2, d2⟩ := r.at (i := j) (y := ps[j]'(by omega)) (List.getElem?_eq_getElem (by omega))
  rw [List.getD_eq_getElem?_getD, List.getD_eq_getElem?_getD, e1, e2]
  refine kat_lt g1 d1 g2 d2 (kat_cons (wpAny_eqBool_int ?_))
  refine kat_go (fun _ => kat_yes (kat_cons (wpAny_eqBool_int (kat_go (fun _ => kat_yes (kat_nil (h _))) fun _ => kat_no (kat_one _ _ (lt_int (h _))))))) fun _ => kat_no (oneLt_int (h _))
theorem tups_lsortI0 {a : Addr} {vs : List Value} {ps : List (Int × Int)} {n : Nat} {P : PySem.Fin → Shared → Prop} (ho : s.heap.get? a = some (seqObj "list" vs.toArray n)) (r : TupsI s.heap vs ps) (z : vs.length < 64)
    (h : ∀ p : List Nat, p.Perm (List.range vs.length) → P (.done (.ret .none)) { s with heap := sortedHeap s.heap a vs (p.map fun i => vs.getD i Value.none).toArray }) : wpAny (model prog w) A (Builtin.«list.sort» ⟨[.ref a], []⟩) P E s := by
  have la := Heap.lt_size ho
  have o1 := get?_update_seq ho fun _ => (#[] : Array Value)
  have keep : ∀ b o, b ≠ a → s.heap.get? b = some o → (((s.heap.update a (Obj.mapSeq fun _ => #[])).push (seqObj "tuple" vs.toArray 0)).push (seqObj "list" #[] 0)).get? b = some o := fun b o nb e =>
    Heap.get?_push_of_some _ (Heap.get?_push_of_some _ ((Heap.get?_update_ne _ _ _ _ nb).trans e))
  have o2 := Heap.get?_push_of_some (seqObj "list" #[] 0) (Heap.get?_push_of_some (seqObj "tuple" vs.toArray 0) o1)
  have r2 := r.mono (hp' := ((s.heap.update a (Obj.mapSeq fun _ => #[])).push (seqObj "tuple" vs.toArray 0)).push (seqObj "list" #[] 0)) fun b o c e => keep b o (fun q => by
    rw [q, ho] at e
    cases e
    exact absurd (show Value.type "list" = Value.type "tuple" from c) (by decide)) e
  have vl : vs.toArray.size = vs.length := by simp
  rw [list_sort_plain]
  refine wpAny_bind (listItems_at ho rfl (wpAny_bind (listUpdate_at ho rfl ?_ (by rw [vl, sizeLine_eq]; omega) (Nat.zero_le _))))
  refine wpAny_bind (seqEpoch_at o1 rfl (wpAny_bind (wpAny_newTuple ?_ (by show vs.length ≤ _; rw [sizeLine_eq]; omega))))
  refine wpAny_bind (wpAny_newList (wpAny_holding ?_) (Nat.zero_le _))
  dsimp only
  by_cases h2 : vs.length < 2
  · rw [if_pos (by rw [vl]; exact h2), if_pos (by rw [vl]; exact h2)]
    refine wpAny_bind (wpAny_pure ?_)
    rw [StateT.run_pure]
    refine wpAny_bind (wpAny_pure (wpAny_bind (seqEpoch_at o2 rfl (wpAny_bind (listUpdate_at o2 rfl ?_ (Nat.zero_le _) (by
      show ((vs.toArray.zip vs.toArray).map (·.2)).size ≤ _
      rw [Array.size_map, Array.size_zip, vl, sizeLine_eq]
      omega))))))
    have e : (arrOf (SortSt.mk' general' (vs.toArray.zip vs.toArray) #[] 7 none)).map (·.2) = vs.toArray := by
      show (vs.toArray.zip vs.toArray).map Prod.snd = vs.toArray
      apply Array.toList_inj.mp
      rw [Array.toList_map, Array.toList_zip]
      exact List.map_snd_zip (Nat.le_refl _)
    rw [e]
    simp only [bne_self_eq_false, Bool.false_eq_true, if_false]
    have q := h (List.range vs.length) (.refl _)
    rw [perm_map_range] at q
    exact wpAny_pure q
  · rw [if_neg (by rw [vl]; exact h2), if_neg (by rw [vl]; exact h2)]
    obtain ⟨fs, kt, fl, st⟩ := r2.firsts
    have hl := r.len
    refine wpAny_bind (kat_kind (T := .type "int") kt (by omega) (fun v hv => by
      obtain ⟨x, t, rfl⟩ := st v hv
      exact .now) (by decide) ?_)
    refine wpAny_bind (wpAny_mono (kat_run (A := A) (E := E) (ks := vs) (vs := vs) (κ := tuples' (Value.type "int" != Value.type "tuple")) (G := fun p s' => PermN vs.length p ∧ s' = _) (Q := fun st' s' => (∃ p, PermN vs.length p ∧ p.size = vs.length ∧ arrOf st' = p.map (kas_item (vs.toArray.zip vs.toArray)) ∧ failedOf st' = none) ∧ s' = _) rfl (by omega) z
      (fun p st' s' a1 a2 a3 a4 => ⟨⟨p, a4.1, a1, a2, a3⟩, a4.2⟩)
      ((ok_sort (by omega)).wp (fun i j C hi hj hC => lt_tupsI0 r2 hi hj hC) fun p hp => ⟨hp, rfl⟩)) ?_ fun _ _ e => e)
    rintro ⟨⟨⟩, st'⟩ s' ⟨⟨p, hp, hz, har, hf⟩, rfl⟩
    dsimp only
    have ho' := kat_snds rfl har
    rw [ho']
    refine wpAny_bind (seqEpoch_at o2 rfl (wpAny_bind (listUpdate_at o2 rfl ?_ (Nat.zero_le _) (by rw [List.size_toArray, List.length_map, Array.length_toList, hz, sizeLine_eq]; omega))))
    rw [hf]
    simp only [bne_self_eq_false, Bool.false_eq_true, if_false]
    exact wpAny_pure (h _ hp.2)
theorem tups_sortedI0 {x : Value} {vs : List Value} {ps : List (Int × Int)} {Q : Value → Shared → Prop} (z : vs.length < 64)
    (hc : ∀ R : List Value → Shared → Prop, (∀ (h' : Heap) (tk : Nat), (∀ b o, s.heap.get? b = some o → h'.get? b = some o) → TupsI h' vs ps → (∀ (p : List Nat), p.Perm (List.range vs.length) → Q (.ref h'.objs.size) { s with heap := sortedHeap (h'.push (seqObj "list" vs.toArray 0)) h'.objs.size vs (p.map fun i => vs.getD i Value.none).toArray, toks := tk }) → R vs { s with heap := h', toks := tk }) → wpAny (model prog w) A.in1 (collect x) R E s) :
    wpAny (model prog w) A (call (.builtin "sorted") [x]) Q E s := by
  refine Calls.call_function_entry kind_sorted plain_sorted entry_sorted (args_sorted1 _) ?_
  unfold Builtin.«sorted»
  refine wpAny_bind (m := checkCount "sorted" 1 1 _) (wpAny_pure (wpAny_bind (hc _ fun h' tk hk r q => ?_)))
  refine wpAny_bind (wpAny_newList ?_ (by rw [sizeLine_eq]; omega))
  have ho : (h'.push (seqObj "list" vs.toArray 0)).get? h'.objs.size = some (seqObj "list" vs.toArray 0) := Heap.get?_push_size _ rfl
  refine wpAny_bind (wpAny_holding (wpAny_call_entry slot_list_sort ⟨_, ho, rfl⟩ entry_list_sort (tups_lsortI0 (s := { s with heap := h'.push (seqObj "list" vs.toArray 0), toks := tk }) ho (r.mono fun b o _ e => Heap.get?_push_of_some _ e) z fun p hp => ⟨_, rfl, ?_⟩) (args_list_sort _)))
  exact wpAny_pure ⟨_, rfl, q p hp⟩
end
noncomputable def rSortI0 (K : PySem.W.Frag) : List V → Hp → VK → Prop := fun xs H Q => ∃ (l : Addr) (as : List Addr) (ps : List (Int × Int)), xs = [.ref l] ∧ SqL K H l (as.map V.ref) ∧ TupP K H as ps ∧ ps.length < 64 ∧
  ∀ (l' : Addr) (as' : List Addr), H l' = none → Q (.ref l') (upd H l' (.lst (as'.map V.ref)))
theorem call_sortI0 {X : Cx} : CallR X (.builtin "sorted") (rSortI0 X.K) := by
  intro pins s σ H xs us Q I r h
  obtain ⟨l, as, ps, rfl, hl, ta, hz, q⟩ := h
  obtain ⟨u, rfl, rx⟩ := vals1 r
  cases (show u = Value.ref l from rx)
  obtain ⟨its, rv, pl, hz2⟩ := I.list hl
  cases vals_refs rv
  have tl := ta.len
  have n64 : (as.map Value.ref).length < 64 := by rw [List.length_map]; omega
  refine tups_sortedI0 (ps := ps) n64 fun R hR => ?_
  have r2 := ta.tups I
  refine collect_list pl.isList ?_ (by rw [sizeLine_eq]; omega)
  refine hR _ s.toks (fun b o e => ?_) (r2.mono fun b o _ e => ?_) fun p hp => ?_
  · rw [Heap.get?_update_ne _ _ _ _ (Nat.ne_of_lt (Heap.lt_size e))]
    exact Heap.get?_push_of_some _ e
  · rw [Heap.get?_update_ne _ _ _ _ (Nat.ne_of_lt (Heap.lt_size e))]
    exact Heap.get?_push_of_some _ e
  rw [List.length_map] at hp
  rw [perm_refs hp]
  generalize hh : (s.heap.push (seqObj "list" #[] 0)).update s.heap.objs.size (Obj.mapSeq (· ++ (as.map Value.ref).toArray)) = h1
  have hs : h1.objs.size = s.heap.objs.size + 1 := by rw [← hh, Heap.size_update, size_push']
  have k1 : ∀ b o, s.heap.get? b = some o → h1.get? b = some o := fun b o e => by
    rw [← hh, Heap.get?_update_ne _ _ _ _ (Nat.ne_of_lt (Heap.lt_size e))]
    exact Heap.get?_push_of_some _ e
  obtain ⟨e, he⟩ := sortedHeap_at h1 (as.map Value.ref) ((p.map fun i => as.getD i 0).map Value.ref).toArray
  have pl2 := (perm_as hp).length_eq
  have le : s.heap.objs.size ≤ h1.objs.size := by omega
  exact ⟨.ref h1.objs.size, _, I.laid (t' := s.toks) (fun b o z => sortedHeap_old (k1 b o z)) le (show ObjOk X.prog X.w _ _ _ (.lst ((p.map fun i => as.getD i 0).map V.ref)) from ⟨by rw [List.length_map, pl2, sizeLine_eq]; omega, _, e, refs_vals _, he⟩), rfl, q _ _ (I.hok.fresh le)⟩
theorem vc_sortI0 {K : PySem.W.Frag} {H : Hp} {Q : VK} {l : Addr} {as : List Addr} {ps : List (Int × Int)} (a : SqL K H l (as.map V.ref)) (b : TupP K H as ps) (d : ps.length < 64) (q : ∀ (l' : Addr) (as' : List Addr), H l' = none → Q (.ref l') (upd H l' (.lst (as'.map V.ref)))) : rSortI0 K [.ref l] H Q := ⟨l, as, ps, rfl, a, b, d, q⟩
end L2
open L2 in
local macro_rules | `(tactic| walk_at "hl") => `(tactic| first
  | assumption
  | exact upd_same
  | (refine upd_keep (by assumption) ?_; walk_at "hl")
  | (refine (by assumption : Same _ _) _ _ ?_; walk_at "hl"))
local macro_rules | `(tactic| walk_at "side") => `(tactic| first
  | assumption | decide | omega | exact ⟨by decide, by decide⟩ | exact ⟨by decide, by decide, by decide⟩ | exact .inl ⟨by decide, by decide⟩ | exact .inr ⟨by decide, by decide⟩ | exact .inl ⟨by omega, by omega⟩ | exact .inr ⟨by omega, by omega⟩ | exact ⟨L2.up4 (by assumption), L2.up4 (by assumption)⟩)
local macro_rules | `(tactic| walk_at "vce") => `(tactic| first
  | ((with_reducible refine L2.vc_var (x := ?vcx) ?vce ?_); (case vce => rfl))
  | (with_reducible refine L2.vc_asg ?_)
  | (with_reducible refine L2.vc_name ?_)
  | (with_reducible refine L2.vc_c ?_)
  | (with_reducible refine L2.vc_op ?_)
  | (with_reducible refine L2.vc_rI0 ?_)
  | ((with_reducible refine L2.vc_rI ?vcside ?_); (case vcside => walk_at "side"))
  | (with_reducible refine L2.vc_cons ?_)
  | (with_reducible refine L2.vc_nil ?_)
  | (with_reducible refine L2.vc_tup ?_)
  | (with_reducible refine L2.vc_lst ?_)
  | (with_reducible refine L2.vc_call ?_)
  | (with_reducible refine L2.vc_cb ?_)
  | (with_reducible refine L2.vc_un ?_)
  | (with_reducible refine L2.vc_rU ?_)
  | ((with_reducible refine L2.vc_eq ?vce ?_); (case vce => rfl))
  | ((with_reducible refine L2.vc_ne ?vce ?_); (case vce => rfl))
  | (with_reducible refine L2.vc_if ?_)
  | (with_reducible refine L2.vc_test ?_)
  | (with_reducible refine L2.vc_tB ?_)
  | (with_reducible refine L2.vc_ex ?_)
  | (with_reducible refine L2.vc_abs ?_)
  | (with_reducible refine L2.vc_gsub ?_)
  | (with_reducible refine L2.vc_i1 ?_)
  | (with_reducible refine L2.vc_i2 ?_)
  | (with_reducible refine L2.vc_i3 ?_)
  | (with_reducible refine L2.vc_i4 ?_)
  | (with_reducible refine L2.vc_isII ?_)
  | (with_reducible refine L2.vc_isIB ?_)
  | (with_reducible refine L2.vc_isBB ?_)
  | (with_reducible refine L2.vc_ilist ?_)
  | (with_reducible refine L2.vc_ienum ?_)
  | (with_reducible refine L2.vc_istr ?_)
  | (with_reducible refine L2.vc_sfld ?_)
  | (with_reducible refine L2.vc_tfld ?_)
  | (with_reducible refine L2.vc_make ?_)
  | (with_reducible refine L2.vc_gcons ?_)
  | (with_reducible refine L2.vc_gnil ?_)
  | (with_reducible refine L2.vc_sl ?_)
  | (with_reducible refine L2.vc_nopart ?_)
  | (with_reducible refine L2.vc_part ?_)
  | (with_reducible refine L2.vc_exI ?_)
  | (with_reducible refine L2.vc_comp ?_)
  | (with_reducible refine L2.vc_rng1 ?_)
  | (with_reducible refine L2.vc_rng2 ?_)
  | (with_reducible refine L2.vc_for ?_)
  | (with_reducible refine L2.vc_bm ?_)
  | (with_reducible refine L2.vc_max ?_)
  | (with_reducible refine L2.vc_min ?_)
  | (with_reducible refine L2.vc_not ?_)
  | (with_reducible refine L2.vc_and ?_)
  | (with_reducible refine L2.vc_or ?_)
  | (with_reducible refine L2.vc_notV ?_)
  | (with_reducible refine L2.vc_andV ?_)
  | (with_reducible refine L2.vc_orV ?_)
  | (with_reducible refine L2.vc_ifE ?_)
  | (with_reducible refine L2.vc_ret ?_)
  | (with_reducible refine L2.vc_drop ?_)
  | (with_reducible refine L2.vc_next ?_)
  | ((with_reducible refine L2.vc_ixT (xs := ?vcs) (x := ?vcx) ?vch ?vce ?_); (case vch => first | assumption | exact L2.SqT.of (by walk_at "hl") | exact L2.Same.tup (by assumption) (by assumption)); (case vce => rfl))
  | ((with_reducible refine L2.vc_ixL (xs := ?vcs) (x := ?vcx) ?vch ?vce ?_); (case vch => first | assumption | exact L2.SqL.of (by walk_at "hl") | exact L2.Same.seq (by assumption) (by assumption)); (case vce => rfl)))
local macro_rules | `(tactic| walk_at "vcs") => `(tactic| repeat walk_at "vce")
local macro_rules | `(tactic| walk_at "vc") => `(tactic| repeat (first | walk_at "vce" | (with_reducible refine L2.vc_seq ?_)))
seal L2.PE L2.PT L2.PW L2.PA L2.PS L2.PSs L2.OpR L2.UnR L2.CallR L2.IxR L2.SlR L2.MtR L2.PG L2.PGs L2.PI L2.PO L2.PTs L2.Passes
local macro_rules | `(tactic| walk_at "vce") => `(tactic| first
  | (with_reducible refine L2.vc_iitems ?_)
  | (with_reducible refine L2.vc_dnew ?_)
  | (with_reducible refine L2.vc_dput ?_)
  | (with_reducible refine L2.vc_din ?_)
  | (with_reducible refine L2.vc_dnotin ?_)
  | (with_reducible refine L2.vc_dget2 ?_))
local macro_rules | `(tactic| walk_at "vce") => `(tactic| first
  | ((with_reducible refine L2.vc_aug (x := ?vcx) ?vce ?_); (case vce => rfl))
  | (with_reducible refine L2.vc_ipI ?_)
  | (with_reducible refine L2.vc_isN ?_)
  | (with_reducible refine L2.vc_notN ?_)
  | (with_reducible refine L2.vc_tru ?_)
  | (with_reducible refine L2.vc_irev ?_)
  | (with_reducible refine L2.vc_izip ?_)
  | (with_reducible refine L2.vc_bm0 ?_))
local macro_rules | `(tactic| walk_at "vce") => `(tactic| first
  | (with_reducible refine L2.vc_iitemsK ?_)
  | (with_reducible refine L2.vc_view ?_)
  | (with_reducible refine L2.vc_dnewK ?_)
  | (with_reducible refine L2.vc_par2 ?_)
  | (with_reducible refine L2.vc_chain2 ?_)
  | (with_reducible refine L2.vc_disp1 ?_))
local macro_rules | `(tactic| walk_at "vce") => `(tactic| first
  | (with_reducible refine L2.vc_itup ?_)
  | (with_reducible refine L2.vc_mget ?_)
  | (with_reducible refine L2.vc_dnewM ?_))
local macro_rules | `(tactic| walk_at "vce") => `(tactic| first
  | (with_reducible refine L2.vc_listRev ?_)
  | (with_reducible refine L2.vc_dget ?_)
  | (with_reducible refine L2.vc_chain3 ?_))
namespace My
open PySem L2
noncomputable def top (i : Nat) : Stmt := PySem.Challenge.pw_batchpipe_k53_the_near_order.main.body.getD i (.Pass ⟨0, 0, 0, 0⟩)
noncomputable abbrev s_greatest_divisor : Stmt := (top 1)
noncomputable abbrev s_made : Stmt := (top 2)
noncomputable abbrev s_sum_of : Stmt := (top 3)
noncomputable abbrev s_times : Stmt := (top 4)
noncomputable abbrev s_below : Stmt := (top 5)
noncomputable abbrev s_Pipe___init__ : Stmt := (inClass (top 7) 0)
noncomputable abbrev s_place_of : Stmt := (top 8)
noncomputable abbrev s_end_of : Stmt := (top 9)
noncomputable abbrev s_half_at : Stmt := (top 10)
noncomputable abbrev s_thick_of : Stmt := (top 11)
noncomputable abbrev s_are_apart : Stmt := (top 12)
noncomputable abbrev s_half_between : Stmt := (top 13)
noncomputable abbrev s_waste_between : Stmt := (top 15)
noncomputable abbrev s_wastes_of : Stmt := (top 16)
noncomputable abbrev s_wastes_from : Stmt := (top 17)
noncomputable abbrev s_steps_from : Stmt := (top 18)
noncomputable abbrev s_least_of : Stmt := (top 19)
noncomputable abbrev s_least_order : Stmt := (top 20)
noncomputable abbrev s_least_behind : Stmt := (top 21)
noncomputable abbrev s_tree_of : Stmt := (top 22)
noncomputable abbrev s_steps_between : Stmt := (top 23)
noncomputable abbrev s_near_order : Stmt := (top 24)
noncomputable abbrev s_l_mix : Stmt := (top 26)
noncomputable abbrev s_l_at : Stmt := (top 27)
noncomputable abbrev s_l_wares : Stmt := (top 28)
noncomputable abbrev s_l_five : Stmt := (top 29)
noncomputable abbrev s_l_apart : Stmt := (top 30)
noncomputable abbrev s_l_pipe : Stmt := (top 31)
noncomputable abbrev s_l_of : Stmt := (top 32)
noncomputable abbrev s_l_lowest : Stmt := (top 33)
noncomputable abbrev s_l_half : Stmt := (top 34)
noncomputable abbrev s_l_thick : Stmt := (top 35)
noncomputable abbrev s_l_waste : Stmt := (top 36)
noncomputable abbrev s_l_sum : Stmt := (top 37)
noncomputable abbrev s_l_less : Stmt := (top 38)
noncomputable abbrev s_l_some : Stmt := (top 39)
noncomputable abbrev s_l_alike : Stmt := (top 40)
noncomputable abbrev s_l_due : Stmt := (top 41)
noncomputable abbrev s_l_right : Stmt := (top 42)
noncomputable abbrev s_law : Stmt := (top 43)
set_option genInjectivity false in
set_option genSizeOf false in
structure Ad where
  c_Pipe : Addr
  f_greatest_divisor : Addr
  d_greatest_divisor : FuncData
  f_made : Addr
  d_made : FuncData
  f_sum_of : Addr
  d_sum_of : FuncData
  f_times : Addr
  d_times : FuncData
  f_below : Addr
  d_below : FuncData
  f_Pipe___init__ : Addr
  d_Pipe___init__ : FuncData
  f_place_of : Addr
  d_place_of : FuncData
  f_end_of : Addr
  d_end_of : FuncData
  f_half_at : Addr
  d_half_at : FuncData
  f_thick_of : Addr
  d_thick_of : FuncData
  f_are_apart : Addr
  d_are_apart : FuncData
  f_half_between : Addr
  d_half_between : FuncData
  f_waste_between : Addr
  d_waste_between : FuncData
  f_wastes_of : Addr
  d_wastes_of : FuncData
  f_wastes_from : Addr
  d_wastes_from : FuncData
  f_steps_from : Addr
  d_steps_from : FuncData
  f_least_of : Addr
  d_least_of : FuncData
  f_least_order : Addr
  d_least_order : FuncData
  f_least_behind : Addr
  d_least_behind : FuncData
  f_tree_of : Addr
  d_tree_of : FuncData
  f_steps_between : Addr
  d_steps_between : FuncData
  f_near_order : Addr
  d_near_order : FuncData
  f_l_mix : Addr
  d_l_mix : FuncData
  f_l_at : Addr
  d_l_at : FuncData
  f_l_wares : Addr
  d_l_wares : FuncData
  f_l_five : Addr
  d_l_five : FuncData
  f_l_apart : Addr
  d_l_apart : FuncData
  f_l_pipe : Addr
  d_l_pipe : FuncData
  f_l_of : Addr
  d_l_of : FuncData
  f_l_lowest : Addr
  d_l_lowest : FuncData
  f_l_half : Addr
  d_l_half : FuncData
  f_l_thick : Addr
  d_l_thick : FuncData
  f_l_waste : Addr
  d_l_waste : FuncData
  f_l_sum : Addr
  d_l_sum : FuncData
  f_l_less : Addr
  d_l_less : FuncData
  f_l_some : Addr
  d_l_some : FuncData
  f_l_alike : Addr
  d_l_alike : FuncData
  f_l_due : Addr
  d_l_due : FuncData
  f_l_right : Addr
  d_l_right : FuncData
  f_law : Addr
  d_law : FuncData
structure DefOk (K : PySem.W.Frag) (mg : Str → Option Value) (nm : Str) (st : Stmt) (f : Addr) (d : FuncData) (ps : List Str) : Prop where
  F : Fun K nm nm st f d
  b : Binds K d ps []
  m : mg nm = some (.ref f)
structure Txt (K : PySem.W.Frag) (mg : Str → Option Value) (t : Ad) : Prop where
  D_greatest_divisor : DefOk K mg "greatest_divisor" s_greatest_divisor t.f_greatest_divisor t.d_greatest_divisor ["one", "other"]
  D_made : DefOk K mg "made" s_made t.f_made t.d_made ["number", "parts"]
  D_sum_of : DefOk K mg "sum_of" s_sum_of t.f_sum_of t.d_sum_of ["one", "other"]
  D_times : DefOk K mg "times" s_times t.f_times t.d_times ["one", "other"]
  D_below : DefOk K mg "below" s_below t.f_below t.d_below ["one", "other"]
  F_Pipe___init__ : Fun K "__init__" "Pipe.__init__" s_Pipe___init__ t.f_Pipe___init__ t.d_Pipe___init__
  b_Pipe___init__ : Binds K t.d_Pipe___init__ ["self", "rooms", "table", "thick", "apart", "pig"] []
  D_place_of : DefOk K mg "place_of" s_place_of t.f_place_of t.d_place_of ["pipe", "node"]
  D_end_of : DefOk K mg "end_of" s_end_of t.f_end_of t.d_end_of ["pipe"]
  D_half_at : DefOk K mg "half_at" s_half_at t.f_half_at t.d_half_at ["pipe", "distance"]
  D_thick_of : DefOk K mg "thick_of" s_thick_of t.f_thick_of t.d_thick_of ["pipe", "one", "other"]
  D_are_apart : DefOk K mg "are_apart" s_are_apart t.f_are_apart t.d_are_apart ["pipe", "one", "other"]
  D_half_between : DefOk K mg "half_between" s_half_between t.f_half_between t.d_half_between ["pipe", "one", "other", "distance", "with_pig"]
  D_waste_between : DefOk K mg "waste_between" s_waste_between t.f_waste_between t.d_waste_between ["pipe", "one", "other"]
  D_wastes_of : DefOk K mg "wastes_of" s_wastes_of t.f_wastes_of t.d_wastes_of ["pipe", "wares"]
  D_wastes_from : DefOk K mg "wastes_from" s_wastes_from t.f_wastes_from t.d_wastes_from ["pipe", "one", "wares"]
  D_steps_from : DefOk K mg "steps_from" s_steps_from t.f_steps_from t.d_steps_from ["wastes", "one", "rest"]
  D_least_of : DefOk K mg "least_of" s_least_of t.f_least_of t.d_least_of ["choices"]
  D_least_order : DefOk K mg "least_order" s_least_order t.f_least_order t.d_least_order ["pipe", "wares"]
  D_least_behind : DefOk K mg "least_behind" s_least_behind t.f_least_behind t.d_least_behind ["wastes", "last", "rest", "known"]
  D_tree_of : DefOk K mg "tree_of" s_tree_of t.f_tree_of t.d_tree_of ["pipe", "wares"]
  D_steps_between : DefOk K mg "steps_between" s_steps_between t.f_steps_between t.d_steps_between ["wastes", "reached", "rest"]
  D_near_order : DefOk K mg "near_order" s_near_order t.f_near_order t.d_near_order ["pipe", "wares"]
  D_l_mix : DefOk K mg "_law_mix" s_l_mix t.f_l_mix t.d_l_mix ["_law_cell", "_law_k"]
  D_l_at : DefOk K mg "_law_at" s_l_at t.f_l_at t.d_l_at ["_law_script", "_law_k"]
  D_l_wares : DefOk K mg "_law_wares" s_l_wares t.f_l_wares t.d_l_wares ["_law_cell"]
  D_l_five : DefOk K mg "_law_five" s_l_five t.f_l_five t.d_l_five ["_law_cell", "_law_wares_here", "_law_most"]
  D_l_apart : DefOk K mg "_law_apart" s_l_apart t.f_l_apart t.d_l_apart ["_law_five_here", "_law_one", "_law_other"]
  D_l_pipe : DefOk K mg "_law_pipe" s_l_pipe t.f_l_pipe t.d_l_pipe ["_law_cell", "_law_wares_here", "_law_most"]
  D_l_of : DefOk K mg "_law_of" s_l_of t.f_l_of t.d_l_of ["_law_five_here"]
  D_l_lowest : DefOk K mg "_law_lowest" s_l_lowest t.f_l_lowest t.d_l_lowest ["_law_number", "_law_parts"]
  D_l_half : DefOk K mg "_law_half" s_l_half t.f_l_half t.d_l_half ["_law_five_here", "_law_distance"]
  D_l_thick : DefOk K mg "_law_thick" s_l_thick t.f_l_thick t.d_l_thick ["_law_five_here", "_law_one", "_law_other"]
  D_l_waste : DefOk K mg "_law_waste" s_l_waste t.f_l_waste t.d_l_waste ["_law_five_here", "_law_one", "_law_other"]
  D_l_sum : DefOk K mg "_law_sum" s_l_sum t.f_l_sum t.d_l_sum ["_law_one", "_law_other"]
  D_l_less : DefOk K mg "_law_less" s_l_less t.f_l_less t.d_l_less ["_law_one", "_law_other"]
  D_l_some : DefOk K mg "_law_some" s_l_some t.f_l_some t.d_l_some ["_law_wares_here", "_law_cells"]
  D_l_alike : DefOk K mg "_law_alike" s_l_alike t.f_l_alike t.d_l_alike ["_law_found", "_law_due_here"]
  D_l_due : DefOk K mg "_law_due" s_l_due t.f_l_due t.d_l_due ["_law_five_here", "_law_some_here"]
  D_l_right : DefOk K mg "_law_right" s_l_right t.f_l_right t.d_l_right ["_law_five_here", "_law_pipe_here", "_law_some_here"]
  D_law : DefOk K mg "law" s_law t.f_law t.d_law ["_law_script"]
  c_Pipe : mg "Pipe" = some (.ref t.c_Pipe)
  C_Pipe : Cls K t.c_Pipe
  M_Pipe : Mk K t.c_Pipe t.f_Pipe___init__
  n_Pipe_rooms : NoAttr K t.c_Pipe "rooms"
  n_Pipe_table : NoAttr K t.c_Pipe "table"
  n_Pipe_thick : NoAttr K t.c_Pipe "thick"
  n_Pipe_apart : NoAttr K t.c_Pipe "apart"
  n_Pipe_pig : NoAttr K t.c_Pipe "pig"
  z_abs : mg "abs" = none
  z_all : mg "all" = none
  z_bool : mg "bool" = none
  z_enumerate : mg "enumerate" = none
  z_int : mg "int" = none
  z_isinstance : mg "isinstance" = none
  z_len : mg "len" = none
  z_list : mg "list" = none
  z_max : mg "max" = none
  z_min : mg "min" = none
  z_range : mg "range" = none
  z_reversed : mg "reversed" = none
  z_sorted : mg "sorted" = none
  z_str : mg "str" = none
  z_sum : mg "sum" = none
  z_tuple : mg "tuple" = none
  z_zip : mg "zip" = none
theorem sc_greatest_divisor : FnScope ["one", "other", "rest"] ["one", "other"] (defScope s_greatest_divisor) := ⟨rfl, rfl, rfl, by decide +kernel, rfl, by decide +kernel, by decide +kernel⟩
theorem qv_greatest_divisor : VOk ["one", "other", "rest"] (defScope s_greatest_divisor) = true := by decide +kernel
theorem sc_made : FnScope ["number", "parts", "divisor"] ["number", "parts"] (defScope s_made) := ⟨rfl, rfl, rfl, by decide +kernel, rfl, by decide +kernel, by decide +kernel⟩
theorem qv_made : VOk ["number", "parts", "divisor"] (defScope s_made) = true := by decide +kernel
theorem qg_made : GOk ["greatest_divisor", "abs"] (defScope s_made) = true := by decide +kernel
theorem sc_sum_of : FnScope ["one", "other"] ["one", "other"] (defScope s_sum_of) := ⟨rfl, rfl, rfl, by decide +kernel, rfl, by decide +kernel, by decide +kernel⟩
theorem qv_sum_of : VOk ["one", "other"] (defScope s_sum_of) = true := by decide +kernel
theorem qg_sum_of : GOk ["made"] (defScope s_sum_of) = true := by decide +kernel
theorem sc_times : FnScope ["one", "other"] ["one", "other"] (defScope s_times) := ⟨rfl, rfl, rfl, by decide +kernel, rfl, by decide +kernel, by decide +kernel⟩
theorem qv_times : VOk ["one", "other"] (defScope s_times) = true := by decide +kernel
theorem qg_times : GOk ["made"] (defScope s_times) = true := by decide +kernel
theorem sc_below : FnScope ["one", "other"] ["one", "other"] (defScope s_below) := ⟨rfl, rfl, rfl, by decide +kernel, rfl, by decide +kernel, by decide +kernel⟩
theorem qv_below : VOk ["one", "other"] (defScope s_below) = true := by decide +kernel
theorem sc_Pipe___init__ : FnScope ["self", "rooms", "table", "thick", "apart", "pig"] ["self", "rooms", "table", "thick", "apart", "pig"] (defScope s_Pipe___init__) := ⟨rfl, rfl, rfl, by decide +kernel, rfl, by decide +kernel, by decide +kernel⟩
theorem qv_Pipe___init__ : VOk ["self", "rooms", "table", "thick", "apart", "pig"] (defScope s_Pipe___init__) = true := by decide +kernel
theorem qg_Pipe___init__ : GOk ["list"] (defScope s_Pipe___init__) = true := by decide +kernel
theorem sc_place_of : FnScope ["pipe", "node"] ["pipe", "node"] (defScope s_place_of) := ⟨rfl, rfl, rfl, by decide +kernel, rfl, by decide +kernel, by decide +kernel⟩
theorem qv_place_of : VOk ["pipe", "node"] (defScope s_place_of) = true := by decide +kernel
theorem qg_place_of : GOk ["sum"] (defScope s_place_of) = true := by decide +kernel
theorem sc_end_of : FnScope ["pipe"] ["pipe"] (defScope s_end_of) := ⟨rfl, rfl, rfl, by decide +kernel, rfl, by decide +kernel, by decide +kernel⟩
theorem qv_end_of : VOk ["pipe"] (defScope s_end_of) = true := by decide +kernel
theorem qg_end_of : GOk ["place_of", "len"] (defScope s_end_of) = true := by decide +kernel
theorem sc_half_at : FnScope ["pipe", "distance", "near", "near_half", "far", "far_half", "span"] ["pipe", "distance"] (defScope s_half_at) := ⟨rfl, rfl, rfl, by decide +kernel, rfl, by decide +kernel, by decide +kernel⟩
theorem qv_half_at : VOk ["pipe", "distance", "near", "near_half", "far", "far_half", "span"] (defScope s_half_at) = true := by decide +kernel
theorem qg_half_at : GOk ["made"] (defScope s_half_at) = true := by decide +kernel
theorem sc_thick_of : FnScope ["pipe", "one", "other", "first", "second", "k"] ["pipe", "one", "other"] (defScope s_thick_of) := ⟨rfl, rfl, rfl, by decide +kernel, rfl, by decide +kernel, by decide +kernel⟩
theorem qv_thick_of : VOk ["pipe", "one", "other", "first", "second", "k"] (defScope s_thick_of) = true := by decide +kernel
theorem sc_are_apart : FnScope ["pipe", "one", "other"] ["pipe", "one", "other"] (defScope s_are_apart) := ⟨rfl, rfl, rfl, by decide +kernel, rfl, by decide +kernel, by decide +kernel⟩
theorem qv_are_apart : VOk ["pipe", "one", "other"] (defScope s_are_apart) = true := by decide +kernel
theorem sc_half_between : FnScope ["pipe", "one", "other", "distance", "with_pig", "half"] ["pipe", "one", "other", "distance", "with_pig"] (defScope s_half_between) := ⟨rfl, rfl, rfl, by decide +kernel, rfl, by decide +kernel, by decide +kernel⟩
theorem qv_half_between : VOk ["pipe", "one", "other", "distance", "with_pig", "half"] (defScope s_half_between) = true := by decide +kernel
theorem qg_half_between : GOk ["times", "half_at", "thick_of"] (defScope s_half_between) = true := by decide +kernel
theorem sc_waste_between : FnScope ["pipe", "one", "other"] ["pipe", "one", "other"] (defScope s_waste_between) := ⟨rfl, rfl, rfl, by decide +kernel, rfl, by decide +kernel, by decide +kernel⟩
theorem qv_waste_between : VOk ["pipe", "one", "other"] (defScope s_waste_between) = true := by decide +kernel
theorem qg_waste_between : GOk ["are_apart", "times", "half_between", "end_of"] (defScope s_waste_between) = true := by decide +kernel
theorem sc_wastes_of : FnScope ["pipe", "wares"] ["pipe", "wares"] (defScope s_wastes_of) := ⟨rfl, rfl, rfl, by decide +kernel, rfl, by decide +kernel, by decide +kernel⟩
theorem qv_wastes_of : VOk ["pipe", "wares"] (defScope s_wastes_of) = true := by decide +kernel
theorem sc_wastes_from : FnScope ["pipe", "one", "wares"] ["pipe", "one", "wares"] (defScope s_wastes_from) := ⟨rfl, rfl, rfl, by decide +kernel, rfl, by decide +kernel, by decide +kernel⟩
theorem qv_wastes_from : VOk ["pipe", "one", "wares"] (defScope s_wastes_from) = true := by decide +kernel
theorem sc_steps_from : FnScope ["wastes", "one", "rest"] ["wastes", "one", "rest"] (defScope s_steps_from) := ⟨rfl, rfl, rfl, by decide +kernel, rfl, by decide +kernel, by decide +kernel⟩
theorem qv_steps_from : VOk ["wastes", "one", "rest"] (defScope s_steps_from) = true := by decide +kernel
theorem sc_least_of : FnScope ["choices", "best", "what", "waste"] ["choices"] (defScope s_least_of) := ⟨rfl, rfl, rfl, by decide +kernel, rfl, by decide +kernel, by decide +kernel⟩
theorem qv_least_of : VOk ["choices", "best", "what", "waste"] (defScope s_least_of) = true := by decide +kernel
theorem qg_least_of : GOk ["below"] (defScope s_least_of) = true := by decide +kernel
theorem sc_least_order : FnScope ["pipe", "wares", "wastes"] ["pipe", "wares"] (defScope s_least_order) := ⟨rfl, rfl, rfl, by decide +kernel, rfl, by decide +kernel, by decide +kernel⟩
theorem qv_least_order : VOk ["pipe", "wares", "wastes"] (defScope s_least_order) = true := by decide +kernel
theorem qg_least_order : GOk ["wastes_of", "least_behind", "len", "tuple", "range"] (defScope s_least_order) = true := by decide +kernel
theorem sc_least_behind : FnScope ["wastes", "last", "rest", "known", "orders", "number", "step", "order"] ["wastes", "last", "rest", "known"] (defScope s_least_behind) := ⟨rfl, rfl, rfl, by decide +kernel, rfl, by decide +kernel, by decide +kernel⟩
theorem qv_least_behind : VOk ["wastes", "last", "rest", "known", "orders", "number", "step", "order"] (defScope s_least_behind) = true := by decide +kernel
theorem qg_least_behind : GOk ["steps_from", "least_behind", "tuple", "sum_of", "least_of"] (defScope s_least_behind) = true := by decide +kernel
theorem sc_tree_of : FnScope ["pipe", "wares", "wastes", "numbers", "reached", "rest", "pairs", "weight", "step", "one", "other"] ["pipe", "wares"] (defScope s_tree_of) := ⟨rfl, rfl, rfl, by decide +kernel, rfl, by decide +kernel, by decide +kernel⟩
theorem qv_tree_of : VOk ["pipe", "wares", "wastes", "numbers", "reached", "rest", "pairs", "weight", "step", "one", "other"] (defScope s_tree_of) = true := by decide +kernel
theorem qg_tree_of : GOk ["wastes_of", "list", "range", "len", "least_of", "steps_between", "min", "max", "sum_of", "sorted"] (defScope s_tree_of) = true := by decide +kernel
theorem sc_steps_between : FnScope ["wastes", "reached", "rest", "steps", "one"] ["wastes", "reached", "rest"] (defScope s_steps_between) := ⟨rfl, rfl, rfl, by decide +kernel, rfl, by decide +kernel, by decide +kernel⟩
theorem qv_steps_between : VOk ["wastes", "reached", "rest", "steps", "one"] (defScope s_steps_between) = true := by decide +kernel
theorem qg_steps_between : GOk ["steps_from"] (defScope s_steps_between) = true := by decide +kernel
theorem sc_near_order : FnScope ["pipe", "wares", "wastes", "numbers", "order", "rest", "whole", "step"] ["pipe", "wares"] (defScope s_near_order) := ⟨rfl, rfl, rfl, by decide +kernel, rfl, by decide +kernel, by decide +kernel⟩
theorem qv_near_order : VOk ["pipe", "wares", "wastes", "numbers", "order", "rest", "whole", "step"] (defScope s_near_order) = true := by decide +kernel
theorem qg_near_order : GOk ["wastes_of", "list", "range", "len", "least_of", "steps_from", "sum_of"] (defScope s_near_order) = true := by decide +kernel
theorem sc_l_mix : FnScope ["_law_cell", "_law_k", "_law_once"] ["_law_cell", "_law_k"] (defScope s_l_mix) := ⟨rfl, rfl, rfl, by decide +kernel, rfl, by decide +kernel, by decide +kernel⟩
theorem qv_l_mix : VOk ["_law_cell", "_law_k", "_law_once"] (defScope s_l_mix) = true := by decide +kernel
theorem sc_l_at : FnScope ["_law_script", "_law_k"] ["_law_script", "_law_k"] (defScope s_l_at) := ⟨rfl, rfl, rfl, by decide +kernel, rfl, by decide +kernel, by decide +kernel⟩
theorem qv_l_at : VOk ["_law_script", "_law_k"] (defScope s_l_at) = true := by decide +kernel
theorem qg_l_at : GOk ["len"] (defScope s_l_at) = true := by decide +kernel
theorem sc_l_wares : FnScope ["_law_cell", "_law_letters", "_law_size", "_law_stem", "_law_k", "_law_place"] ["_law_cell"] (defScope s_l_wares) := ⟨rfl, rfl, rfl, by decide +kernel, rfl, by decide +kernel, by decide +kernel⟩
theorem qv_l_wares : VOk ["_law_cell", "_law_letters", "_law_size", "_law_stem", "_law_k", "_law_place"] (defScope s_l_wares) = true := by decide +kernel
theorem qg_l_wares : GOk ["_law_mix", "range"] (defScope s_l_wares) = true := by decide +kernel
theorem sc_l_five : FnScope ["_law_cell", "_law_wares_here", "_law_most", "_law_rooms", "_law_rows", "_law_distance", "_law_half_here", "_law_k", "_law_thick_here", "_law_apart_here", "_law_p", "_law_q", "_law_one", "_law_pair", "_law_pig"] ["_law_cell", "_law_wares_here", "_law_most"] (defScope s_l_five) := ⟨rfl, rfl, rfl, by decide +kernel, rfl, by decide +kernel, by decide +kernel⟩
theorem qv_l_five : VOk ["_law_cell", "_law_wares_here", "_law_most", "_law_rooms", "_law_rows", "_law_distance", "_law_half_here", "_law_k", "_law_thick_here", "_law_apart_here", "_law_p", "_law_q", "_law_one", "_law_pair", "_law_pig"] (defScope s_l_five) = true := by decide +kernel
theorem qg_l_five : GOk ["range", "_law_mix"] (defScope s_l_five) = true := by decide +kernel
theorem sc_l_apart : FnScope ["_law_five_here", "_law_one", "_law_other"] ["_law_five_here", "_law_one", "_law_other"] (defScope s_l_apart) := ⟨rfl, rfl, rfl, by decide +kernel, rfl, by decide +kernel, by decide +kernel⟩
theorem qv_l_apart : VOk ["_law_five_here", "_law_one", "_law_other"] (defScope s_l_apart) = true := by decide +kernel
theorem sc_l_pipe : FnScope ["_law_cell", "_law_wares_here", "_law_most", "_law_five_here", "_law_p", "_law_q", "_law_one"] ["_law_cell", "_law_wares_here", "_law_most"] (defScope s_l_pipe) := ⟨rfl, rfl, rfl, by decide +kernel, rfl, by decide +kernel, by decide +kernel⟩
theorem qv_l_pipe : VOk ["_law_cell", "_law_wares_here", "_law_most", "_law_five_here", "_law_p", "_law_q", "_law_one"] (defScope s_l_pipe) = true := by decide +kernel
theorem qg_l_pipe : GOk ["_law_five", "range", "_law_mix"] (defScope s_l_pipe) = true := by decide +kernel
theorem sc_l_of : FnScope ["_law_five_here"] ["_law_five_here"] (defScope s_l_of) := ⟨rfl, rfl, rfl, by decide +kernel, rfl, by decide +kernel, by decide +kernel⟩
theorem qv_l_of : VOk ["_law_five_here"] (defScope s_l_of) = true := by decide +kernel
theorem qg_l_of : GOk ["Pipe", "list"] (defScope s_l_of) = true := by decide +kernel
theorem sc_l_lowest : FnScope ["_law_number", "_law_parts", "_law_one", "_law_other", "_law_kept"] ["_law_number", "_law_parts"] (defScope s_l_lowest) := ⟨rfl, rfl, rfl, by decide +kernel, rfl, by decide +kernel, by decide +kernel⟩
theorem qv_l_lowest : VOk ["_law_number", "_law_parts", "_law_one", "_law_other", "_law_kept"] (defScope s_l_lowest) = true := by decide +kernel
theorem qg_l_lowest : GOk ["abs"] (defScope s_l_lowest) = true := by decide +kernel
theorem sc_l_half : FnScope ["_law_five_here", "_law_distance", "_law_near", "_law_half_here", "_law_far", "_law_more"] ["_law_five_here", "_law_distance"] (defScope s_l_half) := ⟨rfl, rfl, rfl, by decide +kernel, rfl, by decide +kernel, by decide +kernel⟩
theorem qv_l_half : VOk ["_law_five_here", "_law_distance", "_law_near", "_law_half_here", "_law_far", "_law_more"] (defScope s_l_half) = true := by decide +kernel
theorem qg_l_half : GOk ["_law_lowest"] (defScope s_l_half) = true := by decide +kernel
theorem sc_l_thick : FnScope ["_law_five_here", "_law_one", "_law_other", "_law_first", "_law_second", "_law_many"] ["_law_five_here", "_law_one", "_law_other"] (defScope s_l_thick) := ⟨rfl, rfl, rfl, by decide +kernel, rfl, by decide +kernel, by decide +kernel⟩
theorem qv_l_thick : VOk ["_law_five_here", "_law_one", "_law_other", "_law_first", "_law_second", "_law_many"] (defScope s_l_thick) = true := by decide +kernel
theorem qg_l_thick : GOk ["sorted"] (defScope s_l_thick) = true := by decide +kernel
theorem sc_l_waste : FnScope ["_law_five_here", "_law_one", "_law_other", "_law_half_here"] ["_law_five_here", "_law_one", "_law_other"] (defScope s_l_waste) := ⟨rfl, rfl, rfl, by decide +kernel, rfl, by decide +kernel, by decide +kernel⟩
theorem qv_l_waste : VOk ["_law_five_here", "_law_one", "_law_other", "_law_half_here"] (defScope s_l_waste) = true := by decide +kernel
theorem qg_l_waste : GOk ["_law_apart", "_law_half", "sum", "_law_lowest", "_law_thick"] (defScope s_l_waste) = true := by decide +kernel
theorem sc_l_sum : FnScope ["_law_one", "_law_other"] ["_law_one", "_law_other"] (defScope s_l_sum) := ⟨rfl, rfl, rfl, by decide +kernel, rfl, by decide +kernel, by decide +kernel⟩
theorem qv_l_sum : VOk ["_law_one", "_law_other"] (defScope s_l_sum) = true := by decide +kernel
theorem qg_l_sum : GOk ["_law_lowest"] (defScope s_l_sum) = true := by decide +kernel
theorem sc_l_less : FnScope ["_law_one", "_law_other"] ["_law_one", "_law_other"] (defScope s_l_less) := ⟨rfl, rfl, rfl, by decide +kernel, rfl, by decide +kernel, by decide +kernel⟩
theorem qv_l_less : VOk ["_law_one", "_law_other"] (defScope s_l_less) = true := by decide +kernel
theorem sc_l_some : FnScope ["_law_wares_here", "_law_cells"] ["_law_wares_here", "_law_cells"] (defScope s_l_some) := ⟨rfl, rfl, rfl, by decide +kernel, rfl, by decide +kernel, by decide +kernel⟩
theorem qv_l_some : VOk ["_law_wares_here", "_law_cells"] (defScope s_l_some) = true := by decide +kernel
theorem qg_l_some : GOk ["enumerate"] (defScope s_l_some) = true := by decide +kernel
theorem sc_l_alike : FnScope ["_law_found", "_law_due_here"] ["_law_found", "_law_due_here"] (defScope s_l_alike) := ⟨rfl, rfl, rfl, by decide +kernel, rfl, by decide +kernel, by decide +kernel⟩
theorem qv_l_alike : VOk ["_law_found", "_law_due_here"] (defScope s_l_alike) = true := by decide +kernel
theorem qg_l_alike : GOk ["isinstance", "list", "tuple", "len", "all", "zip", "str", "int", "bool"] (defScope s_l_alike) = true := by decide +kernel
theorem sc_l_due : FnScope ["_law_five_here", "_law_some_here", "_law_order", "_law_total", "_law_chosen", "_law_k", "_law_step"] ["_law_five_here", "_law_some_here"] (defScope s_l_due) := ⟨rfl, rfl, rfl, by decide +kernel, rfl, by decide +kernel, by decide +kernel⟩
theorem qv_l_due : VOk ["_law_five_here", "_law_some_here", "_law_order", "_law_total", "_law_chosen", "_law_k", "_law_step"] (defScope s_l_due) = true := by decide +kernel
theorem qg_l_due : GOk ["len", "range", "_law_waste", "_law_less", "_law_sum"] (defScope s_l_due) = true := by decide +kernel
theorem sc_l_right : FnScope ["_law_five_here", "_law_pipe_here", "_law_some_here", "_law_handed", "_law_found", "_law_due_here", "_law_tree", "_law_best"] ["_law_five_here", "_law_pipe_here", "_law_some_here"] (defScope s_l_right) := ⟨rfl, rfl, rfl, by decide +kernel, rfl, by decide +kernel, by decide +kernel⟩
theorem qv_l_right : VOk ["_law_five_here", "_law_pipe_here", "_law_some_here", "_law_handed", "_law_found", "_law_due_here", "_law_tree", "_law_best"] (defScope s_l_right) = true := by decide +kernel
theorem qg_l_right : GOk ["list", "near_order", "_law_due", "_law_alike", "tree_of", "_law_less", "len", "least_order"] (defScope s_l_right) = true := by decide +kernel
theorem sc_law : FnScope ["_law_script", "_law_wares_here", "_law_five_here", "_law_some_here", "_law_others", "_law_pipe_here", "_law_wanted"] ["_law_script"] (defScope s_law) := ⟨rfl, rfl, rfl, by decide +kernel, rfl, by decide +kernel, by decide +kernel⟩
theorem qv_law : VOk ["_law_script", "_law_wares_here", "_law_five_here", "_law_some_here", "_law_others", "_law_pipe_here", "_law_wanted"] (defScope s_law) = true := by decide +kernel
theorem qg_law : GOk ["_law_wares", "_law_at", "_law_pipe", "_law_some", "range", "len", "_law_of", "list", "reversed", "_law_right"] (defScope s_law) = true := by decide +kernel
noncomputable def mix (c k : Int) : Int := (((c % 10 ^ (30 : Int).toNat + 7919 * k + 11) * (k * k + 48271) % 2147483647) * ((c % 10 ^ (30 : Int).toNat + 7919 * k + 11) * (k * k + 48271) % 2147483647) % 2147483629) / 3
theorem mix_nonneg (c k : Int) : 0 ≤ mix c k := Int.ediv_nonneg (Int.emod_nonneg _ (by decide)) (by decide)
inductive spMix_ (vs : List V) (H : Hp) (Q : VK) : Prop where
  | mk (c k : Int) : (vs = [.int c, .int k]) → (0 ≤ k) → (k ≤ 100000) → (Q (.int (mix c k)) H) → spMix_  vs H Q
noncomputable def spMix : Sp := fun vs H Q _ => spMix_  vs H Q
theorem vc_mix {H : Hp} {Q : VK} {E : XK} {c k : Int} {vs : List V} (e : vs = [.int c, .int k]) (h : 0 ≤ k ∧ k ≤ 100000) (q : Q (.int (mix c k)) H) : spMix vs H Q E := ⟨c, k, e, h.1, h.2, q⟩
local macro_rules | `(tactic| walk_at "vce") => `(tactic| ((with_reducible refine My.vc_mix (c := ?vcx) (k := ?vcy) ?vce ?vcs ?_); (case vce => rfl); (case vcs => first | exact ⟨by decide, by decide⟩ | exact ⟨by omega, by omega⟩)))
section
variable {P : Program} {w : World} {K : PySem.W.Frag} {mg : Str → Option Value} {base : Heap} {t : Ad}
theorem sq_le' {k : Int} (h0 : 0 ≤ k) (h1 : k ≤ 100000) : 0 ≤ k * k ∧ k * k ≤ 10000000000 := by
  refine ⟨Int.mul_nonneg h0 h0, ?_⟩
  have := Int.mul_le_mul h1 h1 h0 (by omega : (0 : Int) ≤ 100000)
  omega
theorem ok_l_mix (T : Txt K mg t) : FnOk P w K mg base CX0 1 t.f_l_mix t.d_l_mix ["_law_cell", "_law_k"] spMix := by
  refine T.D_l_mix.F.ok sc_l_mix (fun vs H Q E h => ?_) (fun cdv A outer s H vs Q E hr h => ?_)
  · obtain ⟨c, k, rfl, _⟩ := h
    rfl
  obtain ⟨c, k, rfl, h0, h1, q⟩ := h
  refine ⟨_, (pss_cons (q_set (i := 2) qv_l_mix sc_l_mix.nd rfl rfl rfl (pe_op op_mod (pe_op op_mul (pe_op op_add (pe_op op_add (pe_op op_mod (qv qv_l_mix 0 rfl rfl rfl) (pe_op op_pow pe_int pe_int)) (pe_op op_mul pe_int (qv qv_l_mix 1 rfl rfl rfl))) pe_int) (pe_op op_add (pe_op op_mul (qv qv_l_mix 1 rfl rfl rfl) (qv qv_l_mix 1 rfl rfl rfl)) pe_int)) pe_int))
      (pss_one (ps_ret (pe_op op_fdiv (pe_op op_mod (pe_op op_mul (qv qv_l_mix 2 rfl rfl rfl) (qv qv_l_mix 2 rfl rfl rfl)) pe_int) pe_int)))), ?_⟩
  have hk := sq_le' h0 h1
  walk_at "vc"
  exact q
noncomputable def letters : List Nat := (Str.ofString "abcdefghijklmnopqrstuvwxyz").cps.toList
theorem letters_ok : letters.length = 26 ∧ ∀ c ∈ letters, 97 ≤ c ∧ c ≤ 122 := by decide +kernel
noncomputable def Let (x : Str) : Prop := ∀ c ∈ x.cps.toList, 97 ≤ c ∧ c ≤ 122
structure Wares (ws : List Str) : Prop where
  len : ws.length = 6
  nd : ws.Nodup
  ok : ∀ x ∈ ws, Let x ∧ 1 ≤ x.length ∧ x.length ≤ 8
theorem letter_at {i : Int} (h0 : 0 ≤ i) (h1 : i < 26) : ∃ c, atI letters i = some c ∧ 97 ≤ c ∧ c ≤ 122 := by
  have hk : i.toNat < letters.length := by rw [letters_ok.1]; omega
  have ek : i = ((i.toNat : Nat) : Int) := by omega
  refine ⟨letters[i.toNat], ?_, letters_ok.2 _ (List.getElem_mem hk)⟩
  have q : atI letters ((i.toNat : Nat) : Int) = some letters[i.toNat] := atI_nat (List.getElem?_eq_getElem hk)
  rw [← ek] at q
  exact q
theorem Let.app {x y : Str} (a : Let x) (b : Let y) : Let (x ++ y) := fun c h => by
  rw [str_app] at h
  rcases List.mem_append.mp h with h | h
  · exact a c h
  · exact b c h
theorem Let.slice {x : Str} (a : Let x) (lo hi : Option Int) : Let (Txt.slice x lo hi) := fun c h => by
  rw [slice_cps] at h
  exact a c (List.mem_of_mem_drop (List.mem_of_mem_take h))
theorem let_nil : Let (Str.ofString "") := fun c h => by
  have e : (Str.ofString "").cps.toList = [] := by decide +kernel
  rw [e] at h
  cases h
noncomputable def signs : List Nat := (Str.ofString "fbdace").cps.toList
theorem signs_ok : signs.length = 6 ∧ signs.Nodup ∧ (∀ c ∈ signs, 97 ≤ c ∧ c ≤ 122) ∧ (Str.ofString "fbdace").cps.all (· < 128) = true := by decide +kernel
theorem slice_mid {x : Str} {a b : Nat} (h : x.length = 8) (hb : b ≤ 8) : (Txt.slice x (some (a : Int)) (some (b : Int))).cps.toList = (x.cps.toList.drop a).take (b - a) := by
  rw [slice_cps, h, HT.sIx_nat, HT.sIx_nat, Nat.min_eq_left hb]
  by_cases ha : a ≤ 8
  · rw [Nat.min_eq_left ha]
  · rw [Nat.min_eq_right (by omega)]
    have e1 : b - 8 = 0 := by omega
    have e2 : b - a = 0 := by omega
    rw [e1, e2, List.take_zero, List.take_zero]
theorem slice_pre {x : Str} {a : Nat} (h : x.length = 8) (ha : a ≤ 8) : (Txt.slice x none (some (a : Int))).cps.toList = x.cps.toList.take a := by
  rw [slice_cps, h, HT.sIx_none, HT.sIx_nat, Nat.min_eq_left ha, List.drop_zero, Nat.sub_zero]
noncomputable def ware1 (x : Str) (a b c : Nat) : Str := Txt.slice x none (some (a : Int)) ++ ⟨#[c]⟩ ++ Txt.slice x (some (a : Int)) (some (b : Int))
theorem ware1_cps {x : Str} {a b c : Nat} (h : x.length = 8) (ha : a ≤ b) (hb : b ≤ 7) : (ware1 x a b c).cps.toList = x.cps.toList.take a ++ [c] ++ (x.cps.toList.drop a).take (b - a) := by
  unfold ware1
  rw [str_app, str_app, slice_pre h (by omega), slice_mid h (by omega)]
theorem ware1_len {x : Str} {a b c : Nat} (h : x.length = 8) (ha : a ≤ b) (hb : b ≤ 7) : (ware1 x a b c).length = b + 1 := by
  rw [str_len, ware1_cps h ha hb, List.length_append, List.length_append, List.length_take, List.length_take, List.length_drop, ← str_len, h, List.length_singleton]
  omega
theorem ware1_inj {x : Str} {a b c d : Nat} (h : x.length = 8) (ha : a ≤ b) (hb : b ≤ 7) (e : ware1 x a b c = ware1 x a b d) : c = d := by
  have e1 := congrArg (fun y : Str => y.cps.toList) e
  simp only [ware1_cps h ha hb, List.append_assoc] at e1
  have e2 := List.append_cancel_left e1
  exact (List.cons.inj e2).1
inductive spWares_ (vs : List V) (H : Hp) (Q : VK) : Prop where
  | mk (c : Int) : (vs = [.int c]) → (∀ (l : Addr) (ws : List Str) (H' : Hp), H l = none → Same H H' → H' l = some (.lst (ws.map V.str)) → Wares ws → Q (.ref l) H') → spWares_  vs H Q
noncomputable def spWares : Sp := fun vs H Q _ => spWares_  vs H Q
theorem nodup_of_inj {α : Type} {f : Nat → α} {n : Nat} (h : ∀ i j, i < n → j < n → f i = f j → i = j) : ((List.range n).map f).Nodup := by
  induction n with
  | zero => simp
  | succ n ih =>
    rw [List.range_succ, List.map_append, List.nodup_append]
    refine ⟨ih fun i j hi hj e => h i j (by omega) (by omega) e, by simp, ?_⟩
    intro x hx y hy e
    obtain ⟨i, hi, rfl⟩ := List.mem_map.mp hx
    have hi' := List.mem_range.mp hi
    rw [List.map_singleton, List.mem_singleton] at hy
    have := h i n (by omega) (by omega) (e.trans hy)
    omega
theorem map_range_succ {α : Type} (f : Nat → α) (i : Nat) : (List.range (i + 1)).map f = (List.range i).map f ++ [f i] := by
  rw [List.range_succ, List.map_append, List.map_singleton]
theorem slice_pre_len {x : Str} (h : x.length = 8) {k : Nat} (hk : k ≤ 8) : (Txt.slice x none (some (k : Int))).length = k := by
  rw [str_len, slice_cps, List.length_take, List.length_drop, ← str_len, h, HT.sIx_none, HT.sIx_nat]
  omega
theorem ok_l_wares (T : Txt K mg t) : FnOk P w K mg base CX0 2 t.f_l_wares t.d_l_wares ["_law_cell"] spWares := by
  have G_l_mix := ok_l_mix (P := P) (w := w) (base := base) T
  refine T.D_l_wares.F.ok sc_l_wares (fun vs H Q E h => ?_) (fun cdv A outer s H vs Q E hr h => ?_)
  · obtain ⟨c, rfl, _⟩ := h
    rfl
  obtain ⟨c, rfl, q⟩ := h
  refine ⟨_, (pss_cons (q_set (i := 1) qv_l_wares sc_l_wares.nd rfl rfl rfl pe_str)
      (pss_cons (q_set (i := 2) qv_l_wares sc_l_wares.nd rfl rfl rfl (pe_op op_mod (q_call G_l_mix (hr.mono (by first | decide | omega)) qg_l_wares 0 rfl rfl T.D_l_mix.m T.D_l_mix.F.kp T.D_l_mix.b .nil pass0 (pa_cons (qv qv_l_wares 0 rfl rfl rfl) (pa_cons pe_int pa_nil))) pe_int))
      (pss_cons (q_set (i := 3) qv_l_wares sc_l_wares.nd rfl rfl rfl pe_str)
      (pss_cons (ps_for PassesOwn.never rfl (pi_range1 (qgl qg_l_wares 1 rfl rfl) T.z_range (pa_cons pe_int pa_nil)) (q_name (i := 4) qv_l_wares sc_l_wares.nd rfl rfl rfl) (pss_one (q_set (i := 3) qv_l_wares sc_l_wares.nd rfl rfl rfl (pe_op op_addS (qv qv_l_wares 3 rfl rfl rfl) (pe_ix ix_str (qv qv_l_wares 1 rfl rfl rfl) (pe_op op_mod (q_call G_l_mix (hr.mono (by first | decide | omega)) qg_l_wares 0 rfl rfl T.D_l_mix.m T.D_l_mix.F.kp T.D_l_mix.b .nil pass0 (pa_cons (qv qv_l_wares 0 rfl rfl rfl) (pa_cons (pe_op op_add (qv qv_l_wares 4 rfl rfl rfl) pe_int) pa_nil))) pe_int) (fun _ _ => rfl))))))
      (pss_cons (q_set (i := 5) qv_l_wares sc_l_wares.nd rfl rfl rfl (pe_op op_mod (q_call G_l_mix (hr.mono (by first | decide | omega)) qg_l_wares 0 rfl rfl T.D_l_mix.m T.D_l_mix.F.kp T.D_l_mix.b .nil pass0 (pa_cons (qv qv_l_wares 0 rfl rfl rfl) (pa_cons pe_int pa_nil))) (pe_op op_add (qv qv_l_wares 2 rfl rfl rfl) pe_int)))
      (pss_cons (ps_if (pt_cmpR op_eq (pe_op op_mod (q_call G_l_mix (hr.mono (by first | decide | omega)) qg_l_wares 0 rfl rfl T.D_l_mix.m T.D_l_mix.F.kp T.D_l_mix.b .nil pass0 (pa_cons (qv qv_l_wares 0 rfl rfl rfl) (pa_cons pe_int pa_nil))) pe_int) pe_int (nomark _)) (pss_one (ps_ret (pe_comp ["_law_k", "_law_stem", "_law_cell"] [none, some 3, some 0] rfl  (pi_range1 (qgl qg_l_wares 1 rfl rfl) T.z_range (pa_cons pe_int pa_nil)) (fun _ _ _ _ => (pg_name (i := 0) (show (["_law_k", "_law_stem", "_law_cell"] : List Str).Nodup by decide +kernel) rfl (Or.inl rfl))) (fun _ _ _ _ => pts_nil) (fun _ _ _ _ => (pe_slice sl_str (pv 1) po_none (po_some (pe_op op_add (pe_op op_add (pv 0) pe_int) (pe_op op_mod (pe_call G_l_mix (hr.mono (by decide)) rfl T.D_l_mix.m T.D_l_mix.F.kp T.D_l_mix.b .nil pass0 (pa_cons (pv 2) (pa_cons pe_int pa_nil))) pe_int))))) rfl rfl))) pss_nil)
      (pss_one (ps_ret (pe_comp ["_law_sign", "_law_stem", "_law_place", "_law_size"] [none, some 3, some 5, some 2] rfl  (pi_str pe_str) (fun _ _ _ _ => (pg_name (i := 0) (show (["_law_sign", "_law_stem", "_law_place", "_law_size"] : List Str).Nodup by decide +kernel) rfl (Or.inl rfl))) (fun _ _ _ _ => pts_nil) (fun _ _ _ _ => (pe_op op_addS (pe_op op_addS (pe_slice sl_str (pv 1) po_none (po_some (pv 2))) (pv 0)) (pe_slice sl_str (pv 1) (po_some (pv 2)) (po_some (pv 3))))) rfl rfl))))))))), ?_⟩
  walk_at "vc"
  have sz0 := mix_nonneg c 1
  have m8a : 0 ≤ mix c 1 % 8 := Int.emod_nonneg _ (by decide)
  have m8b : mix c 1 % 8 < 8 := Int.emod_lt_of_pos _ (by decide)
  refine ⟨8, rfl, by decide, by decide, for_range (n := 8) (fun i σ H' => H' = H ∧ ∃ (st : Str) (u : Option V), σ = [some (.int c), some (.str (Str.ofString "abcdefghijklmnopqrstuvwxyz")), some (.int (mix c 1 % 8)), some (.str st), u, none] ∧ Let st ∧ st.length = i)
    ⟨rfl, _, none, rfl, let_nil, rfl⟩ ?_ ?_⟩
  · rintro i σ H' hi ⟨rfl, st, u, rfl, hst, hlen⟩
    obtain ⟨ch, hat, hch⟩ := letter_at (i := mix c (0 + (i : Int) + 2) % 26) (Int.emod_nonneg _ (by decide)) (Int.emod_lt_of_pos _ (by decide))
    walk_at "vc"
    refine vc_ixS (small (by rw [str_len, show (Str.ofString "abcdefghijklmnopqrstuvwxyz").cps.toList.length = 26 from letters_ok.1]; decide)) hat ?_
    refine vc_addS (small (by rw [hlen]; show i + 1 ≤ 1000; omega)) ?_
    walk_at "vc"
    refine ⟨rfl, _, _, rfl, hst.app fun x hx => ?_, ?_⟩
    · have e : x = ch := by simpa using hx
      rw [e]; exact hch
    · rw [str_len, str_app, List.length_append, ← str_len, hlen]; rfl
  rintro σ H' ⟨rfl, st, u, rfl, hst, hlen⟩
  walk_at "vc"
  generalize hsz : mix c 1 % 8 = sz at *
  have hpl0 : 0 ≤ mix c 11 % (sz + 1) := Int.emod_nonneg _ (by omega)
  have hpl1 : mix c 11 % (sz + 1) < sz + 1 := Int.emod_lt_of_pos _ (by omega)
  generalize mix c 11 % (sz + 1) = pl at *
  have hlS : st.length ≤ sizeLine := small (by omega)
  refine ite2 (fun z => ?_) (fun z => ?_)
  · walk_at "vc"
    have hm0 : 0 ≤ mix c 13 % 3 := Int.emod_nonneg _ (by decide)
    have hm1 : mix c 13 % 3 < 3 := Int.emod_lt_of_pos _ (by decide)
    let f : Nat → Str := fun i => Txt.slice st none (some (0 + (i : Int) + 1 + mix c 13 % 3))
    refine ⟨6, rfl, by decide, by decide, fun D hD => comp_gen (n := 6) (fun i x => x = .int (0 + (i : Int))) hD (small (by decide)) (hJ_rng _ _ _)
      (fun i ys _ => ys = ((List.range i).map f).map V.str) (fun σ => ∃ u, σ = [u, some (.str st), some (.int c)]) rfl ⟨_, rfl⟩ ?_ ?_⟩
    · rintro i x ys σ H2 R1 R0 hi rfl ⟨u, rfl⟩ sm hDl rfl k1 k0
      walk_at "vc"
      refine vc_slS hlS ?_
      refine k1 _ _ _ (Same.refl _) ⟨_, rfl⟩ ?_
      rw [map_range_succ, List.map_append]
      rfl
    · rintro ys H2 sm hDl hly rfl
      refine q D _ H2 hD sm hDl ⟨by simp, nodup_of_inj fun i j hi hj e => ?_, fun x hx => ?_⟩
      · have l1 : (f i).length = ((0 + (i : Int) + 1 + mix c 13 % 3).toNat) := by
          have e1 : (0 + (i : Int) + 1 + mix c 13 % 3) = (((0 + (i : Int) + 1 + mix c 13 % 3).toNat : Nat) : Int) := by omega
          show (Txt.slice st none (some (0 + (i : Int) + 1 + mix c 13 % 3))).length = _
          rw [e1]
          exact slice_pre_len hlen (by omega)
        have l2 : (f j).length = ((0 + (j : Int) + 1 + mix c 13 % 3).toNat) := by
          have e1 : (0 + (j : Int) + 1 + mix c 13 % 3) = (((0 + (j : Int) + 1 + mix c 13 % 3).toNat : Nat) : Int) := by omega
          show (Txt.slice st none (some (0 + (j : Int) + 1 + mix c 13 % 3))).length = _
          rw [e1]
          exact slice_pre_len hlen (by omega)
        rw [e] at l1
        omega
      · obtain ⟨i, hi, rfl⟩ := List.mem_map.mp hx
        have hi' := List.mem_range.mp hi
        have l1 : (f i).length = ((0 + (i : Int) + 1 + mix c 13 % 3).toNat) := by
          have e1 : (0 + (i : Int) + 1 + mix c 13 % 3) = (((0 + (i : Int) + 1 + mix c 13 % 3).toNat : Nat) : Int) := by omega
          show (Txt.slice st none (some (0 + (i : Int) + 1 + mix c 13 % 3))).length = _
          rw [e1]
          exact slice_pre_len hlen (by omega)
        exact ⟨hst.slice _ _, by omega, by omega⟩
  · walk_at "vc"
    refine ⟨_, rfl, signs_ok.2.2.2, fun D hD => comp_gen (n := 6) (fun i x => ∃ c, signs[i]? = some c ∧ x = .str ⟨#[c]⟩) hD (small (by decide)) ?_
      (fun i ys _ => ys = ((signs.take i).map (ware1 st pl.toNat sz.toNat)).map V.str) (fun σ => ∃ u, σ = [u, some (.str st), some (.int pl), some (.int sz)]) rfl ⟨_, rfl⟩ ?_ ?_⟩
    · intro i H2 sm
      obtain ⟨a1, a2, a3⟩ := hJ_str H' (Str.ofString "fbdace") i H2 sm
      exact ⟨a1, a2, fun x H3 hi y => by
        obtain ⟨e, ch, h1, h2⟩ := a3 x H3 hi y
        exact ⟨e, ch, by unfold signs; rw [Array.getElem?_toList]; exact h1, h2⟩⟩
    · rintro i x ys σ H2 R1 R0 hi ⟨ch, hch, rfl⟩ ⟨u, rfl⟩ sm hDl rfl k1 k0
      walk_at "vc"
      have epl : pl = ((pl.toNat : Nat) : Int) := by omega
      have esz : sz = ((sz.toNat : Nat) : Int) := by omega
      walk_at "vc"
      refine vc_slS hlS ?_
      have l1 : (Txt.slice st none (some pl)).length ≤ 8 := Nat.le_trans (Txt.slice_le _ _ _) (by omega)
      have l2 : (Txt.slice st (some pl) (some sz)).length ≤ 8 := Nat.le_trans (Txt.slice_le _ _ _) (by omega)
      walk_at "vc"
      refine vc_addS (small (by show _ + 1 ≤ 1000; omega)) ?_
      walk_at "vc"
      refine vc_slS hlS ?_
      have l3 : (Txt.slice st none (some pl) ++ (⟨#[ch]⟩ : Str)).length ≤ 9 := by
        rw [str_len, str_app, List.length_append, ← str_len]
        show _ + 1 ≤ 9
        omega
      refine vc_addS (small (by omega)) ?_
      refine k1 _ _ _ (Same.refl _) ⟨_, rfl⟩ ?_
      have e1 : signs.take (i + 1) = signs.take i ++ [ch] := by
        rw [List.take_add_one, hch]; rfl
      rw [e1, List.map_append, List.map_append]
      have e2 : ware1 st pl.toNat sz.toNat ch = Txt.slice st none (some pl) ++ ⟨#[ch]⟩ ++ Txt.slice st (some pl) (some sz) := by
        unfold ware1
        rw [← epl, ← esz]
      show _ = _ ++ [V.str (ware1 st pl.toNat sz.toNat ch)]
      rw [e2]
    · rintro ys H2 sm hDl hly rfl
      have e6 : signs.take 6 = signs := List.take_of_length_le (by rw [signs_ok.1]; exact Nat.le_refl _)
      rw [e6] at hDl
      have h1 : pl.toNat ≤ sz.toNat := by omega
      have h2 : sz.toNat ≤ 7 := by omega
      refine q D _ H2 hD sm hDl ⟨by rw [List.length_map]; exact signs_ok.1, ?_, fun x hx => ?_⟩
      · exact List.Pairwise.map _ (fun a b hab e => hab (ware1_inj hlen h1 h2 e)) signs_ok.2.1
      · obtain ⟨ch, hc, rfl⟩ := List.mem_map.mp hx
        have hl := ware1_len (c := ch) hlen h1 h2
        refine ⟨?_, by omega, by omega⟩
        have lc : Let (⟨#[ch]⟩ : Str) := fun y hy => by
          have e : y = ch := by simpa using hy
          rw [e]; exact signs_ok.2.2.1 ch hc
        exact ((hst.slice _ _).app lc).app (hst.slice _ _)
open PySem.W in
noncomputable def rowD (r : Int × Int) : Dat := .tuple [.int r.1, .int r.2]
structure Rows (d h : Int) (rs : List (Int × Int)) : Prop where
  up : ((0, 0) :: rs).Pairwise fun x y => x.1 < y.1 ∧ x.2 ≤ y.2
  all : ∀ r ∈ ((0, 0) :: rs : List (Int × Int)), r.1 ≤ d ∧ r.2 ≤ h
theorem Rows.snoc {d h d' h' : Int} {rs : List (Int × Int)} (R : Rows d h rs) (hd : d < d') (hh : h ≤ h') : Rows d' h' (rs ++ [(d', h')]) := by
  refine ⟨?_, fun r hr => ?_⟩
  · rw [← List.cons_append, List.pairwise_append]
    refine ⟨R.up, by simp, fun x hx y hy => ?_⟩
    have := R.all x hx
    rw [List.mem_singleton] at hy
    subst hy
    exact ⟨by show x.1 < d'; omega, by show x.2 ≤ h'; omega⟩
  · rw [← List.cons_append] at hr
    rcases List.mem_append.mp hr with hr | hr
    · have := R.all r hr
      omega
    · rw [List.mem_singleton] at hr
      subst hr
      exact ⟨Int.le_refl _, Int.le_refl _⟩
theorem step_le {d e M : Int} {i : Nat} (h : d ≤ (i : Int) * M) (h2 : e ≤ M) : d + e ≤ ((i + 1 : Nat) : Int) * M := by
  have : ((i + 1 : Nat) : Int) * M = (i : Int) * M + M := by rw [Int.natCast_add, Int.add_mul]; simp
  omega
theorem atW {ws : List Str} (h : ws.length = 6) {p : Nat} (hp : p < 6) : atI (ws.map V.str) (0 + (p : Int)) = some (.str (ws.getD p (Str.ofString ""))) := by
  have e : (0 + (p : Int)) = ((p : Nat) : Int) := by omega
  rw [e]
  refine atI_nat ?_
  rw [List.getElem?_map, List.getElem?_eq_getElem (by omega), List.getD_eq_getElem?_getD, List.getElem?_eq_getElem (by omega)]
  rfl
noncomputable def pipeFs (l1 l2 l3 l4 : Addr) (pg : V) : List (Str × V) := [("rooms", .ref l1), ("table", .ref l2), ("thick", .ref l3), ("apart", .ref l4), ("pig", pg)]
theorem pipeFs_eq (l1 l2 l3 l4 : Addr) (pg : V) : putF "pig" pg (putF "apart" (.ref l4) (putF "thick" (.ref l3) (putF "table" (.ref l2) (putF "rooms" (.ref l1) [])))) = pipeFs l1 l2 l3 l4 pg := by rfl
theorem fs_rooms (l1 l2 l3 l4 : Addr) (pg : V) : (pipeFs l1 l2 l3 l4 pg).lookup (Str.ofString "rooms") = some (.ref l1) := by rfl
theorem fs_table (l1 l2 l3 l4 : Addr) (pg : V) : (pipeFs l1 l2 l3 l4 pg).lookup (Str.ofString "table") = some (.ref l2) := by rfl
theorem fs_thick (l1 l2 l3 l4 : Addr) (pg : V) : (pipeFs l1 l2 l3 l4 pg).lookup (Str.ofString "thick") = some (.ref l3) := by rfl
theorem fs_apart (l1 l2 l3 l4 : Addr) (pg : V) : (pipeFs l1 l2 l3 l4 pg).lookup (Str.ofString "apart") = some (.ref l4) := by rfl
inductive spPipe_ (K : PySem.W.Frag) (C : Addr) (vs : List V) (H : Hp) (Q : VK) : Prop where
  | mk (x dx r1 r2 r3 r4 : Addr) (pg : V) (s1 s2 s3 s4 : List V) : (vs = [.ref x, .ref r1, .ref r2, .ref r3, .ref r4, pg]) → (H x = some (.ins C dx [])) → (SqL K H r1 s1) → (SqL K H r2 s2) → (SqL K H r3 s3) → (SqL K H r4 s4) → ((∀ r ∈ [r1, r2, r3, r4], r ≠ x)) → (∀ (l1 l2 l3 l4 : Addr) (H' : Hp), (∀ l ∈ [l1, l2, l3, l4], H l = none) → [l1, l2, l3, l4].Nodup → Same (hids [x] H) (hids [x] H') → H' l1 = some (.lst s1) → H' l2 = some (.lst s2) → H' l3 = some (.lst s3) → H' l4 = some (.lst s4) → H' x = some (.ins C dx (pipeFs l1 l2 l3 l4 pg)) → Q .non H') → spPipe_ K C vs H Q
noncomputable def spPipe (K : PySem.W.Frag) (C : Addr) : Sp := fun vs H Q _ => spPipe_ K C vs H Q
theorem sql_upd {K : PySem.W.Frag} {H : Hp} {x a : Addr} {o : HO} {xs : List V} (h : SqL K H a xs) (ne : a ≠ x) : SqL K (upd H x o) a xs := by
  rcases h with h | h
  · rcases h with h | ⟨u, h⟩
    · exact .inl (.inl (by rw [upd_ne ne]; exact h))
    · exact .inl (.inr ⟨u, by rw [upd_ne ne]; exact h⟩)
  · exact .inr h
theorem few {n : Nat} {f : Str} {v : V} {fs : List (Str × V)} (h : fs.length < n) : (putF f v fs).length < n + 1 := by
  have := length_putF f v fs
  omega
theorem upd_none {H : Hp} {a b : Addr} {o : HO} (h : upd H a o b = none) : b ≠ a ∧ H b = none := by
  by_cases e : b = a
  · rw [e, upd_same] at h; cases h
  · rw [upd_ne e] at h; exact ⟨e, h⟩
theorem ok_Pipe___init__ (T : Txt K mg t) : FnOk P w K mg base CX0 1 t.f_Pipe___init__ t.d_Pipe___init__ ["self", "rooms", "table", "thick", "apart", "pig"] (spPipe K t.c_Pipe) := by
  refine T.F_Pipe___init__.ok sc_Pipe___init__ (fun vs H Q E h => ?_) (fun cdv A outer s H vs Q E hr h => ?_)
  · obtain ⟨x, dx, r1, r2, r3, r4, pg, s1, s2, s3, s4, rfl, _⟩ := h
    rfl
  obtain ⟨x, dx, r1, r2, r3, r4, pg, s1, s2, s3, s4, rfl, hx, q1, q2, q3, q4, hne, q⟩ := h
  refine ⟨_, (pss_cons (ps_fld (qv qv_Pipe___init__ 0 rfl rfl rfl) (q_callTy call_listR qg_Pipe___init__ 0 rfl rfl T.z_list bo_list (pa_cons (qv qv_Pipe___init__ 1 rfl rfl rfl) pa_nil)) rfl)
      (pss_cons (ps_fld (qv qv_Pipe___init__ 0 rfl rfl rfl) (q_callTy call_listR qg_Pipe___init__ 0 rfl rfl T.z_list bo_list (pa_cons (qv qv_Pipe___init__ 2 rfl rfl rfl) pa_nil)) rfl)
      (pss_cons (ps_fld (qv qv_Pipe___init__ 0 rfl rfl rfl) (q_callTy call_listR qg_Pipe___init__ 0 rfl rfl T.z_list bo_list (pa_cons (qv qv_Pipe___init__ 3 rfl rfl rfl) pa_nil)) rfl)
      (pss_cons (ps_fld (qv qv_Pipe___init__ 0 rfl rfl rfl) (q_callTy call_listR qg_Pipe___init__ 0 rfl rfl T.z_list bo_list (pa_cons (qv qv_Pipe___init__ 4 rfl rfl rfl) pa_nil)) rfl)
      (pss_one (ps_fld (qv qv_Pipe___init__ 0 rfl rfl rfl) (qv qv_Pipe___init__ 5 rfl rfl rfl) rfl)))))), ?_⟩
  have mx : x ∈ [x] := List.mem_singleton.mpr rfl
  have e1 := hne r1 (by simp)
  have e2 := hne r2 (by simp)
  have e3 := hne r3 (by simp)
  have e4 := hne r4 (by simp)
  walk_at "vc"
  refine vc_listL q1 fun l1 h1 => ?_
  walk_at "vc"
  refine ⟨x, t.c_Pipe, dx, _, rfl, upd_keep h1 hx, T.C_Pipe, T.n_Pipe_rooms, (show 0 < 1000 by decide), ?_⟩
  walk_at "vc"
  refine vc_listL (sql_upd ((same_new h1 _).seq q2) e2) fun l2 h2 => ?_
  walk_at "vc"
  refine ⟨x, t.c_Pipe, dx, _, rfl, upd_keep h2 upd_same, T.C_Pipe, T.n_Pipe_table, Nat.lt_of_lt_of_le (few (n := 1) (show 0 < 1 by decide)) (by decide), ?_⟩
  walk_at "vc"
  refine vc_listL (sql_upd ((same_new h2 _).seq (sql_upd ((same_new h1 _).seq q3) e3)) e3) fun l3 h3 => ?_
  walk_at "vc"
  refine ⟨x, t.c_Pipe, dx, _, rfl, upd_keep h3 upd_same, T.C_Pipe, T.n_Pipe_thick, Nat.lt_of_lt_of_le (few (few (n := 1) (show 0 < 1 by decide))) (by decide), ?_⟩
  walk_at "vc"
  refine vc_listL (sql_upd ((same_new h3 _).seq (sql_upd ((same_new h2 _).seq (sql_upd ((same_new h1 _).seq q4) e4)) e4)) e4) fun l4 h4 => ?_
  walk_at "vc"
  refine ⟨x, t.c_Pipe, dx, _, rfl, upd_keep h4 upd_same, T.C_Pipe, T.n_Pipe_apart, Nat.lt_of_lt_of_le (few (few (few (n := 1) (show 0 < 1 by decide)))) (by decide), ?_⟩
  walk_at "vc"
  refine ⟨x, t.c_Pipe, dx, _, rfl, upd_same, T.C_Pipe, T.n_Pipe_pig, Nat.lt_of_lt_of_le (few (few (few (few (n := 1) (show 0 < 1 by decide))))) (by decide), ?_⟩
  have n1 : l1 ≠ x := (ne_of_none hx h1).symm
  obtain ⟨n2, h2⟩ := upd_none h2
  obtain ⟨n21, h2⟩ := upd_none h2
  obtain ⟨n3, h3⟩ := upd_none h3
  obtain ⟨n32, h3⟩ := upd_none h3
  obtain ⟨_, h3⟩ := upd_none h3
  obtain ⟨n31, h3⟩ := upd_none h3
  obtain ⟨n4, h4⟩ := upd_none h4
  obtain ⟨n43, h4⟩ := upd_none h4
  obtain ⟨_, h4⟩ := upd_none h4
  obtain ⟨n42, h4⟩ := upd_none h4
  obtain ⟨_, h4⟩ := upd_none h4
  obtain ⟨n41, h4⟩ := upd_none h4
  refine q l1 l2 l3 l4 _ ?_ ?_ ?_ ?_ ?_ ?_ ?_ ?_
  · simp only [List.mem_cons, List.not_mem_nil, or_false]
    rintro a (rfl | rfl | rfl | rfl) <;> assumption
  · simp [n21.symm, n31.symm, n41.symm, n32.symm, n42.symm, n43.symm]
  · intro b o ho
    have hb : b ∉ [x] := fun e => by
      unfold hids at ho
      rw [if_pos e] at ho
      cases ho
    rw [hids_at hb] at ho ⊢
    have hbx : b ≠ x := by simpa using hb
    have b1 := ne_of_none ho h1
    have b2 := ne_of_none ho h2
    have b3 := ne_of_none ho h3
    have b4 := ne_of_none ho h4
    simp [upd, hbx, b1, b2, b3, b4, ho]
  · simp [upd, n1, n21.symm, n31.symm, n41.symm]
  · simp [upd, n2, n32.symm, n42.symm]
  · simp [upd, n3, n43.symm]
  · simp [upd, n4]
  · rw [upd_same, ← pipeFs_eq]
structure PipeAt (H : Hp) (C x l1 l2 l3 l4 : Addr) (pg : V) : Prop where
  at_ : ∃ dx, H x = some (.ins C dx (pipeFs l1 l2 l3 l4 pg))
theorem PipeAt.same {H H' : Hp} {C x l1 l2 l3 l4 : Addr} {pg : V} (h : PipeAt H C x l1 l2 l3 l4 pg) (e : Same H H') : PipeAt H' C x l1 l2 l3 l4 pg := by
  obtain ⟨dx, h⟩ := h.at_
  exact ⟨dx, e _ _ h⟩
theorem cut_ints (rooms : List Int) {n : Int} (h : 0 ≤ n) : cutV (rooms.map V.int) none (some n) = (rooms.take n.toNat).map V.int := by
  have e : n = ((n.toNat : Nat) : Int) := by omega
  rw [e, cutV_take, Int.toNat_natCast, List.map_take]
inductive spPlace_ (K : PySem.W.Frag) (C : Addr) (vs : List V) (H : Hp) (Q : VK) : Prop where
  | mk (x l1 l2 l3 l4 : Addr) (pg : V) (rooms : List Int) (n : Int) : (vs = [.ref x, .int n]) → (PipeAt H C x l1 l2 l3 l4 pg) → (SqL K H l1 (rooms.map V.int)) → (0 ≤ n) → (∀ H', Same H H' → Q (.int ((rooms.take n.toNat).sum)) H') → spPlace_ K C vs H Q
noncomputable def spPlace (K : PySem.W.Frag) (C : Addr) : Sp := fun vs H Q _ => spPlace_ K C vs H Q
theorem ok_place_of (T : Txt K mg t) : FnOk P w K mg base CX0 1 t.f_place_of t.d_place_of ["pipe", "node"] (spPlace K t.c_Pipe) := by
  refine T.D_place_of.F.ok sc_place_of (fun vs H Q E h => ?_) (fun cdv A outer s H vs Q E hr h => ?_)
  · obtain ⟨x, l1, l2, l3, l4, pg, rooms, n, rfl, _⟩ := h
    rfl
  obtain ⟨x, l1, l2, l3, l4, pg, rooms, n, rfl, ⟨dx, hx⟩, hl, hn, q⟩ := h
  refine ⟨_, (pss_one (ps_ret (q_callB (call_sum rfl) qg_place_of 0 rfl rfl T.z_sum bo_sum (pa_cons (pe_slice sl_list (pe_fld (qv qv_place_of 0 rfl rfl rfl) rfl) po_none (po_some (qv qv_place_of 1 rfl rfl rfl))) pa_nil)))), ?_⟩
  walk_at "vc"
  refine ⟨x, t.c_Pipe, dx, _, _, rfl, hx, T.C_Pipe, T.n_Pipe_rooms, fs_rooms .., ?_⟩
  walk_at "vc"
  refine vc_slL hl fun p hp => ?_
  walk_at "vc"
  refine vc_sum (ns := rooms.take n.toNat) (SqL.of (by rw [upd_same, cut_ints rooms hn])) ?_
  exact q _ (same_new hp _)
inductive spGcd_ (vs : List V) (H : Hp) (Q : VK) : Prop where
  | mk (a b : Int) : (vs = [.int a, .int b]) → (0 ≤ a) → (0 ≤ b) → (Q (.int ((Int.gcd a b : Nat) : Int)) H) → spGcd_  vs H Q
noncomputable def spGcd : Sp := fun vs H Q _ => spGcd_  vs H Q
inductive spMade_ (vs : List V) (H : Hp) (Q : VK) : Prop where
  | mk (n p : Int) : (vs = [.int n, .int p]) → (p ≠ 0) → (Bt 4000 p) → (∀ r, H r = none → Q (.ref r) (upd H r (.tup [.int (fN n p), .int (fD n p)]))) → spMade_  vs H Q
noncomputable def spMade : Sp := fun vs H Q _ => spMade_  vs H Q
theorem ok_greatest_divisor (T : Txt K mg t) : FnOk P w K mg base CX0 1 t.f_greatest_divisor t.d_greatest_divisor ["one", "other"] spGcd := by
  refine T.D_greatest_divisor.F.ok sc_greatest_divisor (fun vs H Q E h => ?_) (fun cdv A outer s H vs Q E hr h => ?_)
  · obtain ⟨a, b, rfl, _⟩ := h
    rfl
  obtain ⟨a, b, rfl, ha, hb, q⟩ := h
  refine ⟨_, (pss_cons (ps_while PassesOwn.never (pt_cmpR op_ne (qv qv_greatest_divisor 1 rfl rfl rfl) pe_int (nomark _)) (pss_cons (q_set (i := 2) qv_greatest_divisor sc_greatest_divisor.nd rfl rfl rfl (pe_op op_mod (qv qv_greatest_divisor 0 rfl rfl rfl) (qv qv_greatest_divisor 1 rfl rfl rfl)))
      (pss_cons (q_set (i := 0) qv_greatest_divisor sc_greatest_divisor.nd rfl rfl rfl (qv qv_greatest_divisor 1 rfl rfl rfl))
      (pss_one (q_set (i := 1) qv_greatest_divisor sc_greatest_divisor.nd rfl rfl rfl (qv qv_greatest_divisor 2 rfl rfl rfl))))))
      (pss_one (ps_ret (qv qv_greatest_divisor 0 rfl rfl rfl)))), ?_⟩
  refine while_by (fun σ H' => H' = H ∧ ∃ (x y : Int) (z : Option V), σ = [some (.int x), some (.int y), z] ∧ 0 ≤ x ∧ 0 ≤ y ∧ Int.gcd x y = Int.gcd a b)
    (fun σ _ => match σ with | [_, some (.int y), _] => y.toNat | _ => 0) ⟨rfl, a, b, none, rfl, ha, hb, rfl⟩ ?_ ?_
  · rintro σ H' ⟨rfl, x, y, z, rfl, hx, hy, hg⟩
    refine ⟨_, rfl, rfl, _, rfl, ?_⟩
    by_cases hy0 : y = 0
    · subst hy0
      refine iteNS rfl ?_
      refine ⟨_, rfl, ?_⟩
      have e : ((Int.gcd a b : Nat) : Int) = x := by rw [← hg]; exact gcd_end hx
      rw [e] at q
      exact q
    · refine iteNT (fun z => hy0 (V.int.inj z)) ?_
      have hy1 : 0 < y := by omega
      refine ⟨_, rfl, _, rfl, _, _, rfl, rfl, hy1, _, rfl, _, rfl, ?_⟩
      refine ⟨⟨rfl, y, x % y, _, rfl, hy, Int.emod_nonneg _ hy0, (gcd_step hx hy1).trans hg⟩, ?_⟩
      show (x % y).toNat < y.toNat
      have l1 := Int.emod_lt_of_pos x hy1
      have l2 := Int.emod_nonneg x hy0
      omega
  · rintro σ H' Q1 Q2 hQ ⟨v, e, hs, k, hk, q1⟩
    exact ⟨v, e, hs, k, hk, hQ _ _ q1⟩
theorem ok_made (T : Txt K mg t) : FnOk P w K mg base CX0 2 t.f_made t.d_made ["number", "parts"] spMade := by
  have G_greatest_divisor := ok_greatest_divisor (P := P) (w := w) (base := base) T
  refine T.D_made.F.ok sc_made (fun vs H Q E h => ?_) (fun cdv A outer s H vs Q E hr h => ?_)
  · obtain ⟨n, p, rfl, _⟩ := h
    rfl
  obtain ⟨n, p, rfl, hp, hB, q⟩ := h
  refine ⟨_, (pss_cons (q_set (i := 2) qv_made sc_made.nd rfl rfl rfl (q_call G_greatest_divisor (hr.mono (by first | decide | omega)) qg_made 0 rfl rfl T.D_greatest_divisor.m T.D_greatest_divisor.F.kp T.D_greatest_divisor.b .nil pass0 (pa_cons (q_callB call_absR qg_made 1 rfl rfl T.z_abs bo_abs (pa_cons (qv qv_made 0 rfl rfl rfl) pa_nil)) (pa_cons (q_callB call_absR qg_made 1 rfl rfl T.z_abs bo_abs (pa_cons (qv qv_made 1 rfl rfl rfl) pa_nil)) pa_nil))))
      (pss_cons (ps_if (pt_cmpR op_lt (qv qv_made 1 rfl rfl rfl) pe_int (nomark _)) (pss_one (q_set (i := 2) qv_made sc_made.nd rfl rfl rfl (pe_un un_neg (qv qv_made 2 rfl rfl rfl)))) pss_nil)
      (pss_one (ps_ret (pe_tup (pa_cons (pe_op op_fdivB (qv qv_made 0 rfl rfl rfl) (qv qv_made 2 rfl rfl rfl)) (pa_cons (pe_op op_fdivB (qv qv_made 1 rfl rfl rfl) (qv qv_made 2 rfl rfl rfl)) pa_nil))))))), ?_⟩
  refine ⟨_, rfl, _, rfl, _, rfl, _, rfl, _, _, rfl, ab_nonneg n, ab_nonneg p, ?_⟩
  have hb9 : Bt 9000 (dv n p) := (Bt.le (dv_le hp) hB).mono (by decide)
  have eg : Int.gcd (ab n) (ab p) = Int.gcd n p := gcd_ab n p
  refine ⟨_, rfl, _, _, rfl, rfl, _, rfl, ?_⟩
  refine ite2 (fun c => ?_) (fun c => ?_)
  · have c' : p < 0 := of_decide_eq_true c
    have e : -((Int.gcd (ab n) (ab p) : Nat) : Int) = dv n p := by unfold dv; rw [if_pos c', eg]
    refine ⟨_, rfl, _, rfl, ?_⟩
    refine ⟨_, rfl, _, rfl, _, _, rfl, rfl, (by show CDivB n (-((Int.gcd (ab n) (ab p) : Nat) : Int)); rw [e]; exact ⟨dv_ne hp, hb9⟩),
      _, rfl, _, rfl, _, _, rfl, rfl, (by show CDivB p (-((Int.gcd (ab n) (ab p) : Nat) : Int)); rw [e]; exact ⟨dv_ne hp, hb9⟩), (by show 2 ≤ sizeLine; decide), fun r hr1 => ?_⟩
    show Q (.ref r) (upd H r (.tup [.int (n.fdiv (-((Int.gcd (ab n) (ab p) : Nat) : Int))), .int (p.fdiv (-((Int.gcd (ab n) (ab p) : Nat) : Int)))]))
    rw [e]
    exact q r hr1
  · have c' : ¬ p < 0 := fun z => c (decide_eq_true z)
    have e : ((Int.gcd (ab n) (ab p) : Nat) : Int) = dv n p := by unfold dv; rw [if_neg c', eg]
    refine ⟨_, rfl, _, rfl, _, _, rfl, rfl, (by show CDivB n ((Int.gcd (ab n) (ab p) : Nat) : Int); rw [e]; exact ⟨dv_ne hp, hb9⟩),
      _, rfl, _, rfl, _, _, rfl, rfl, (by show CDivB p ((Int.gcd (ab n) (ab p) : Nat) : Int); rw [e]; exact ⟨dv_ne hp, hb9⟩), (by show 2 ≤ sizeLine; decide), fun r hr1 => ?_⟩
    show Q (.ref r) (upd H r (.tup [.int (n.fdiv ((Int.gcd (ab n) (ab p) : Nat) : Int)), .int (p.fdiv ((Int.gcd (ab n) (ab p) : Nat) : Int))]))
    rw [e]
    exact q r hr1
structure RowsOk (rs : List (Int × Int)) : Prop where
  up : ((0, 0) :: rs).Pairwise fun x y => x.1 < y.1 ∧ x.2 ≤ y.2
  le : ∀ r ∈ rs, r.1 ≤ 100000000 ∧ r.2 ≤ 100000000
inductive spHalf_ (K : PySem.W.Frag) (C : Addr) (vs : List V) (H : Hp) (Q : VK) : Prop where
  | mk (x l1 l2 l3 l4 : Addr) (pg : V) (rs : List V) (rows : List (Int × Int)) (n : Int) : (vs = [.ref x, .int n]) → (PipeAt H C x l1 l2 l3 l4 pg) → (SqL K H l2 rs) → (Reps K H rs (rows.map rowD)) → (RowsOk rows) → (0 ≤ n) → (n ≤ 200000000) → (∀ r, H r = none → Q (.ref r) (upd H r (.tup [.int (fN (halfGo 0 0 rows n).1 (halfGo 0 0 rows n).2), .int (fD (halfGo 0 0 rows n).1 (halfGo 0 0 rows n).2)]))) → spHalf_ K C vs H Q
noncomputable def spHalf (K : PySem.W.Frag) (C : Addr) : Sp := fun vs H Q _ => spHalf_ K C vs H Q
theorem row_of {K : PySem.W.Frag} {H : Hp} {rs : List V} {rows : List (Int × Int)} {i : Nat} {x : V} (h : Reps K H rs (rows.map rowD)) (e : rs[i]? = some x) : ∃ (r : Int × Int) (a : Addr), rows[i]? = some r ∧ x = .ref a ∧ SqT K H a [.int r.1, .int r.2] := by
  obtain ⟨d, hd, hr⟩ := h.get e
  rw [List.getElem?_map] at hd
  cases q : rows[i]? with
  | none => rw [q] at hd; cases hd
  | some r =>
    rw [q] at hd
    cases (Option.some.inj hd)
    obtain ⟨a, xs, rfl, hs, hr2⟩ := Rep.tup_of (show Rep K H x (.tuple [.int r.1, .int r.2]) from hr)
    cases hr2 with
    | cons h1 h2 => cases h2 with
      | cons h2 h3 =>
        cases h3
        rw [h1.int_of, h2.int_of] at hs
        exact ⟨r, a, rfl, rfl, hs⟩
theorem b4000 {x : Int} (h0 : -(2 ^ 64) ≤ x) (h1 : x ≤ 2 ^ 64) : Bt 4000 x := Bt.mono (m := 66) (Bt.iff.mpr (by omega)) (by decide)
theorem ok_half_at (T : Txt K mg t) : FnOk P w K mg base CX0 3 t.f_half_at t.d_half_at ["pipe", "distance"] (spHalf K t.c_Pipe) := by
  have G_made := ok_made (P := P) (w := w) (base := base) T
  refine T.D_half_at.F.ok sc_half_at (fun vs H Q E h => ?_) (fun cdv A outer s H vs Q E hr h => ?_)
  · obtain ⟨x, l1, l2, l3, l4, pg, rs, rows, n, rfl, _⟩ := h
    rfl
  obtain ⟨x, l1, l2, l3, l4, pg, rs, rows, n, rfl, ⟨dx, hx⟩, hl, hR, hok, hn0, hn1, q⟩ := h
  refine ⟨_, (pss_cons (q_set (i := 2) qv_half_at sc_half_at.nd rfl rfl rfl pe_int)
      (pss_cons (q_set (i := 3) qv_half_at sc_half_at.nd rfl rfl rfl pe_int)
      (pss_cons (ps_for PassesOwn.never rfl (pi_list (pe_fld (qv qv_half_at 0 rfl rfl rfl) rfl)) (pg_tup rfl (pgs_cons (q_name (i := 4) qv_half_at sc_half_at.nd rfl rfl rfl) (pgs_cons (q_name (i := 5) qv_half_at sc_half_at.nd rfl rfl rfl) pgs_nil))) (pss_cons (ps_if (pt_cmpR op_lt (qv qv_half_at 1 rfl rfl rfl) (qv qv_half_at 4 rfl rfl rfl) (nomark _)) (pss_cons (q_set (i := 6) qv_half_at sc_half_at.nd rfl rfl rfl (pe_op op_sub (qv qv_half_at 4 rfl rfl rfl) (qv qv_half_at 2 rfl rfl rfl)))
      (pss_one (ps_ret (q_call G_made (hr.mono (by first | decide | omega)) qg_half_at 0 rfl rfl T.D_made.m T.D_made.F.kp T.D_made.b .nil pass0 (pa_cons (pe_op op_add (pe_op op_mul (qv qv_half_at 3 rfl rfl rfl) (qv qv_half_at 6 rfl rfl rfl)) (pe_op op_mul (pe_op op_sub (qv qv_half_at 5 rfl rfl rfl) (qv qv_half_at 3 rfl rfl rfl)) (pe_op op_sub (qv qv_half_at 1 rfl rfl rfl) (qv qv_half_at 2 rfl rfl rfl)))) (pa_cons (qv qv_half_at 6 rfl rfl rfl) pa_nil)))))) pss_nil)
      (pss_cons (q_set (i := 2) qv_half_at sc_half_at.nd rfl rfl rfl (qv qv_half_at 4 rfl rfl rfl))
      (pss_one (q_set (i := 3) qv_half_at sc_half_at.nd rfl rfl rfl (qv qv_half_at 5 rfl rfl rfl))))))
      (pss_one (ps_ret (q_call G_made (hr.mono (by first | decide | omega)) qg_half_at 0 rfl rfl T.D_made.m T.D_made.F.kp T.D_made.b .nil pass0 (pa_cons (qv qv_half_at 3 rfl rfl rfl) (pa_cons pe_int pa_nil)))))))), ?_⟩
  walk_at "vc"
  refine ⟨x, t.c_Pipe, dx, _, _, rfl, hx, T.C_Pipe, T.n_Pipe_table, fs_table .., ?_⟩
  have hlen : rs.length = rows.length := by rw [hR.length, List.length_map]
  refine ⟨l2, rfl, ⟨rs, hl⟩, for_list (xs := rs) (fun i σ H' => H' = H ∧ ∃ (near nh : Int) (u1 u2 u3 : Option V), σ = [some (.ref x), some (.int n), some (.int near), some (.int nh), u1, u2, u3] ∧
    halfGo near nh (rows.drop i) n = halfGo 0 0 rows n ∧ ((near, nh) :: rows.drop i).Pairwise (fun x y => x.1 < y.1 ∧ x.2 ≤ y.2) ∧ 0 ≤ near ∧ near ≤ 100000000 ∧ 0 ≤ nh ∧ nh ≤ 100000000)
    ⟨rfl, 0, 0, none, none, none, rfl, rfl, hok.up, by omega, by omega, by omega, by omega⟩ (fun i σ H' _ ⟨e, _⟩ => e ▸ hl) ?_ ?_⟩
  · rintro i y σ H' hy ⟨rfl, near, nh, u1, u2, u3, rfl, hgo, hup, b1, b2, b3, b4⟩
    obtain ⟨r, a, hr', rfl, hs⟩ := row_of hR hy
    have hi : i < rows.length := (List.getElem?_eq_some_iff.mp hr').1
    have er : rows[i] = r := (List.getElem?_eq_some_iff.mp hr').2
    have ed : rows.drop i = r :: rows.drop (i + 1) := by rw [List.drop_eq_getElem_cons hi, er]
    have hle := hok.le r (er ▸ List.getElem_mem hi)
    rw [ed] at hgo hup
    obtain ⟨hup1, hup2⟩ := List.pairwise_cons.mp hup
    have h12 := hup1 r (List.mem_cons_self)
    refine vc_asgT hs rfl ?_
    walk_at "vc"
    obtain ⟨far, fh⟩ := r
    dsimp only at h12 hle
    refine ite2 (fun z => ?_) (fun z => ?_)
    · have z' : n < far := of_decide_eq_true z
      walk_at "vc"
      refine ⟨_, _, rfl, by omega, b4000 (by omega) (by omega), fun r hr2 => ?_⟩
      have e : halfGo 0 0 rows n = (nh * (far - near) + (fh - nh) * (n - near), far - near) := by
        rw [← hgo, halfGo, if_pos z']
      rw [e] at q
      exact q r hr2
    · have z' : ¬ n < far := fun w => z (decide_eq_true w)
      walk_at "vc"
      refine ⟨rfl, far, fh, _, _, _, rfl, ?_, hup2, by omega, by omega, by omega, by omega⟩
      rw [← hgo, halfGo, if_neg z']
  · rintro σ H' ⟨rfl, near, nh, u1, u2, u3, rfl, hgo, hup, b1, b2, b3, b4⟩
    walk_at "vc"
    refine ⟨_, _, rfl, by decide, b4000 (by decide) (by decide), fun r hr2 => ?_⟩
    have e : halfGo 0 0 rows n = (nh, 1) := by
      rw [← hgo, hlen, List.drop_length]
      rfl
    rw [e] at q
    exact q r hr2
open PySem.W in
noncomputable def thickDs (ps : List (Str × Str × Int)) : List Dat := ps.map fun p => .tuple [.str p.1, .str p.2.1, .int p.2.2]
open PySem.W in
noncomputable def apartDs (ps : List (Str × Str)) : List Dat := ps.map fun p => .tuple [.str p.1, .str p.2]
noncomputable def thickGo (one other : Str) : List (Str × Str × Int) → Int
  | [] => 1
  | p :: r => if (p.1 = one ∧ p.2.1 = other) ∨ (p.1 = other ∧ p.2.1 = one) then p.2.2 else thickGo one other r
noncomputable def thickBy (one other : Str) (ps : List (Str × Str × Int)) : Int := if one = other then 0 else thickGo one other ps
inductive spThick_ (K : PySem.W.Frag) (C : Addr) (vs : List V) (H : Hp) (Q : VK) : Prop where
  | mk (x l1 l2 l3 l4 : Addr) (pg : V) (rs : List V) (ps : List (Str × Str × Int)) (one other : Str) : (vs = [.ref x, .str one, .str other]) → (PipeAt H C x l1 l2 l3 l4 pg) → (SqL K H l3 rs) → (Reps K H rs (thickDs ps)) → ((∀ p ∈ ps, Let p.1 ∧ Let p.2.1)) → (Let one) → (Let other) → (∀ H', Same H H' → Q (.int (thickBy one other ps)) H') → spThick_ K C vs H Q
noncomputable def spThick (K : PySem.W.Frag) (C : Addr) : Sp := fun vs H Q _ => spThick_ K C vs H Q
open Classical in
inductive spApart_ (K : PySem.W.Frag) (C : Addr) (vs : List V) (H : Hp) (Q : VK) : Prop where
  | mk (x l1 l2 l3 l4 : Addr) (pg : V) (rs : List V) (ps : List (Str × Str)) (one other : Str) : (vs = [.ref x, .str one, .str other]) → (PipeAt H C x l1 l2 l3 l4 pg) → (SqL K H l4 rs) → (Reps K H rs (apartDs ps)) → ((∀ p ∈ ps, Let p.1 ∧ Let p.2)) → (Let one) → (Let other) → (∀ H', Same H H' → Q (.bl (decide ((one, other) ∈ ps ∨ (other, one) ∈ ps))) H') → spApart_ K C vs H Q
open Classical in
noncomputable def spApart (K : PySem.W.Frag) (C : Addr) : Sp := fun vs H Q _ => spApart_ K C vs H Q
open PySem.W in
theorem str_ok {x : Str} (h : Let x) (n : Nat) : kqdOk n (.str x) = true := by
  have e : PyData.strOk x = true := by
    unfold PyData.strOk
    rw [Array.all_eq_true_iff_forall_mem]
    intro c hc
    have := h c (by simpa using hc)
    simp only [decide_eq_true_eq]
    omega
  cases n <;> exact e
open PySem.W in
theorem two_ok {x y : Str} (hx : Let x) (hy : Let y) (n : Nat) : kqdOk (n + 1) (.tuple [.str x, .str y]) = true := by
  simp only [kqdOk, List.all_cons, List.all_nil, Bool.and_true, Bool.and_eq_true]
  exact ⟨str_ok hx 0, str_ok hy 0⟩
theorem triple_of {K : PySem.W.Frag} {H : Hp} {rs : List V} {ps : List (Str × Str × Int)} {i : Nat} {x : V} (h : Reps K H rs (thickDs ps)) (e : rs[i]? = some x) : ∃ (p : Str × Str × Int) (a : Addr), ps[i]? = some p ∧ x = .ref a ∧ SqT K H a [.str p.1, .str p.2.1, .int p.2.2] := by
  obtain ⟨d, hd, hr⟩ := h.get e
  unfold thickDs at hd
  rw [List.getElem?_map] at hd
  cases q : ps[i]? with
  | none => rw [q] at hd; cases hd
  | some p =>
    rw [q] at hd
    cases (Option.some.inj hd)
    obtain ⟨a, xs, rfl, hs, hr2⟩ := Rep.tup_of hr
    cases hr2 with
    | cons h1 h2 => cases h2 with
      | cons h2 h3 => cases h3 with
        | cons h3 h4 =>
          cases h4
          rw [h1.str_of, h2.str_of, h3.int_of] at hs
          exact ⟨p, a, rfl, rfl, hs⟩
open PySem.W in
theorem mem_apart {ps : List (Str × Str)} {x y : Str} : Dat.tuple [.str x, .str y] ∈ apartDs ps ↔ (x, y) ∈ ps := by
  unfold apartDs
  rw [List.mem_map]
  constructor
  · rintro ⟨p, hp, e⟩
    have e' := Dat.tuple.inj e
    simp only [List.cons.injEq, Dat.str.injEq, and_true] at e'
    obtain ⟨p1, p2⟩ := p
    dsimp only at e'
    rw [e'.1, e'.2] at hp
    exact hp
  · intro h
    exact ⟨(x, y), h, rfl⟩
theorem ok_thick_of (T : Txt K mg t) : FnOk P w K mg base CX0 1 t.f_thick_of t.d_thick_of ["pipe", "one", "other"] (spThick K t.c_Pipe) := by
  refine T.D_thick_of.F.ok sc_thick_of (fun vs H Q E h => ?_) (fun cdv A outer s H vs Q E hr h => ?_)
  · obtain ⟨x, l1, l2, l3, l4, pg, rs, ps, one, other, rfl, _⟩ := h
    rfl
  obtain ⟨x, l1, l2, l3, l4, pg, rs, ps, one, other, rfl, ⟨dx, hx⟩, hl, hR, hps, ho, ht, q⟩ := h
  refine ⟨_, (pss_cons (ps_if (pt_cmpR op_eq (qv qv_thick_of 1 rfl rfl rfl) (qv qv_thick_of 2 rfl rfl rfl) (nomark _)) (pss_one (ps_ret pe_int)) pss_nil)
      (pss_cons (ps_for PassesOwn.never rfl (pi_list (pe_fld (qv qv_thick_of 0 rfl rfl rfl) rfl)) (pg_tup rfl (pgs_cons (q_name (i := 3) qv_thick_of sc_thick_of.nd rfl rfl rfl) (pgs_cons (q_name (i := 4) qv_thick_of sc_thick_of.nd rfl rfl rfl) (pgs_cons (q_name (i := 5) qv_thick_of sc_thick_of.nd rfl rfl rfl) pgs_nil)))) (pss_one (ps_if (PW.pt (pw_or (pt_cmpR (op_eqD hr.units) (pe_tup (pa_cons (qv qv_thick_of 3 rfl rfl rfl) (pa_cons (qv qv_thick_of 4 rfl rfl rfl) pa_nil))) (pe_tup (pa_cons (qv qv_thick_of 1 rfl rfl rfl) (pa_cons (qv qv_thick_of 2 rfl rfl rfl) pa_nil))) (nomark _)) (pw_or1 (pt_cmpR (op_eqD hr.units) (pe_tup (pa_cons (qv qv_thick_of 3 rfl rfl rfl) (pa_cons (qv qv_thick_of 4 rfl rfl rfl) pa_nil))) (pe_tup (pa_cons (qv qv_thick_of 2 rfl rfl rfl) (pa_cons (qv qv_thick_of 1 rfl rfl rfl) pa_nil))) (nomark _))))) (pss_one (ps_ret (qv qv_thick_of 5 rfl rfl rfl))) pss_nil)))
      (pss_one (ps_ret pe_int)))), ?_⟩
  walk_at "vc"
  refine ite2 (fun z => ?_) (fun z => ?_)
  · have e : one = other := V.str.inj (of_decide_eq_true z)
    walk_at "vc"
    have := q H (Same.refl _)
    unfold thickBy at this
    rw [if_pos e] at this
    exact this
  have e : one ≠ other := fun e => z (decide_eq_true (congrArg V.str e))
  walk_at "vc"
  refine ⟨x, t.c_Pipe, dx, _, _, rfl, hx, T.C_Pipe, T.n_Pipe_thick, fs_thick .., ?_⟩
  refine ⟨l3, rfl, ⟨rs, hl⟩, for_list (xs := rs) (fun i σ H' => Same H H' ∧ ∃ u1 u2 u3, σ = [some (.ref x), some (.str one), some (.str other), u1, u2, u3] ∧ thickGo one other (ps.drop i) = thickGo one other ps)
    ⟨Same.refl _, none, none, none, rfl, rfl⟩ (fun i σ H' _ ⟨sm, _⟩ => sm.seq hl) ?_ ?_⟩
  · rintro i y σ H' hy ⟨sm, u1, u2, u3, rfl, hgo⟩
    obtain ⟨p, a, hp, rfl, hs⟩ := triple_of hR hy
    refine vc_asgT (sm.tup hs) rfl ?_
    have hi : i < ps.length := (List.getElem?_eq_some_iff.mp hp).1
    have ep : ps[i] = p := (List.getElem?_eq_some_iff.mp hp).2
    have ed : ps.drop i = p :: ps.drop (i + 1) := by rw [List.drop_eq_getElem_cons hi, ep]
    obtain ⟨hp1, hp2⟩ := hps p (ep ▸ List.getElem_mem hi)
    rw [ed] at hgo
    walk_at "vc"
    refine ⟨(by show 2 ≤ sizeLine; decide), fun t1 ht1 => ?_⟩
    walk_at "vc"
    refine ⟨(by show 2 ≤ sizeLine; decide), fun t2 ht2 => ?_⟩
    refine ⟨.tuple [.str p.1, .str p.2.1], .tuple [.str one, .str other], .tup (SqT.of (upd_keep ht2 upd_same)) (.cons (.str _) (.cons (.str _) .nil)), .tup (SqT.of upd_same) (.cons (.str _) (.cons (.str _) .nil)), two_ok hp1 hp2 8, two_ok ho ht 8, ?_⟩
    have s2 : Same H' (upd (upd H' t1 (.tup [.str p.1, .str p.2.1])) t2 (.tup [.str one, .str other])) := (same_new ht1 _).trans (same_new ht2 _)
    generalize upd (upd H' t1 (.tup [.str p.1, .str p.2.1])) t2 (.tup [.str one, .str other]) = H2 at *
    by_cases e1 : p.1 = one ∧ p.2.1 = other
    · rw [dec_true (by rw [e1.1, e1.2])]
      walk_at "vc"
      have := q H2 (sm.trans s2)
      unfold thickBy at this
      rw [if_neg e, ← hgo, thickGo, if_pos (.inl e1)] at this
      exact this
    · rw [dec_false (fun z => e1 (by
        have z' := PySem.W.Dat.tuple.inj z
        simp only [List.cons.injEq, PySem.W.Dat.str.injEq, and_true] at z'
        exact z'))]
      walk_at "vc"
      refine ⟨(by show 2 ≤ sizeLine; decide), fun t3 ht3 => ?_⟩
      walk_at "vc"
      refine ⟨(by show 2 ≤ sizeLine; decide), fun t4 ht4 => ?_⟩
      refine ⟨.tuple [.str p.1, .str p.2.1], .tuple [.str other, .str one], .tup (SqT.of (upd_keep ht4 upd_same)) (.cons (.str _) (.cons (.str _) .nil)), .tup (SqT.of upd_same) (.cons (.str _) (.cons (.str _) .nil)), two_ok hp1 hp2 8, two_ok ht ho 8, ?_⟩
      have s3 : Same H2 (upd (upd H2 t3 (.tup [.str p.1, .str p.2.1])) t4 (.tup [.str other, .str one])) := (same_new ht3 _).trans (same_new ht4 _)
      generalize upd (upd H2 t3 (.tup [.str p.1, .str p.2.1])) t4 (.tup [.str other, .str one]) = H3 at *
      by_cases e2 : p.1 = other ∧ p.2.1 = one
      · rw [dec_true (by rw [e2.1, e2.2])]
        walk_at "vc"
        have := q H3 (sm.trans (s2.trans s3))
        unfold thickBy at this
        rw [if_neg e, ← hgo, thickGo, if_pos (.inr e2)] at this
        exact this
      · rw [dec_false (fun z => e2 (by
          have z' := PySem.W.Dat.tuple.inj z
          simp only [List.cons.injEq, PySem.W.Dat.str.injEq, and_true] at z'
          exact z'))]
        walk_at "vc"
        refine ⟨sm.trans (s2.trans s3), _, _, _, rfl, ?_⟩
        rw [← hgo, thickGo, if_neg (fun z => z.elim e1 e2)]
  · rintro σ H' ⟨sm, u1, u2, u3, rfl, hgo⟩
    walk_at "vc"
    have hlen : rs.length = ps.length := by rw [hR.length]; unfold thickDs; rw [List.length_map]
    rw [hlen, List.drop_length] at hgo
    have := q H' sm
    unfold thickBy at this
    rw [if_neg e, ← hgo] at this
    exact this
open PySem.W in
noncomputable def Dp : Nat → Dat → Prop
  | 0, _ => False
  | _ + 1, .int _ => True
  | _ + 1, .str _ => True
  | n + 1, .tuple ds => ds.length < 1000 ∧ ∀ d ∈ ds, Dp n d
  | n + 1, .list ds => ds.length < 1000 ∧ ∀ d ∈ ds, Dp n d
  | _ + 1, .none => True
  | _ + 1, _ => False
inductive spAlike_ (K : PySem.W.Frag) (n : Nat) (vs : List V) (H : Hp) (Q : VK) : Prop where
  | mk (found due : V) (d : PySem.W.Dat) : (vs = [found, due]) → (Rep K H found d) → (Rep K H due d) → (Dp n d) → (∀ H', Same H H' → Q (.bl true) H') → spAlike_ K n vs H Q
noncomputable def spAlike (K : PySem.W.Frag) (n : Nat) : Sp := fun vs H Q _ => spAlike_ K n vs H Q
theorem alike_comp {n : Nat} {b : Bool} {x y D : Addr} {xs ys : List V} {ds : List PySem.W.Dat} {H : Hp} {Q : Hp → Prop} (hx : Sq b K H x xs) (hy : Sq b K H y ys) (rx : Reps K H xs ds) (ry : Reps K H ys ds) (hd : ∀ d ∈ ds, Dp n d) (hn : xs.length < sizeLine) (hD : H D = none)
    (q : ∀ H', Same H H' → H' D = some (.lst ((List.replicate xs.length true).map V.bl)) → Q H') :
    CompW (Itz b K x y) (gTup K 2 (gCons (gName 0) (gCons (gName 1) gNil))) (fun _ H Q => Q true H) (tCall (spAlike K n) [] E0 (tCons (tVar 0) (tCons (tVar 1) tNil))) [none, none] D H Q := by
  have hl : xs.length = ys.length := rx.length.trans ry.length.symm
  refine comp_gen2 (n := xs.length) (fun i v H' => ∃ T u z, v = .ref T ∧ xs[i]? = some u ∧ ys[i]? = some z ∧ H' T = some (.tup [u, z])) hD hn (hJ_zip hx hy hl) (fun i vs _ => vs = (List.replicate i true).map V.bl) (fun σ => ∃ u v, σ = [u, v]) (fun _ _ _ _ _ h => h) rfl ⟨none, none, rfl⟩ ?_ ?_
  · rintro i v vs σ H' R1 R0 hi ⟨T, u, z, rfl, hu, hz, hT⟩ ⟨u1, u2, rfl⟩ sm hDl hΦ k1 k0
    refine vc_asgT (SqT.of hT) rfl ?_
    walk_at "vc"
    obtain ⟨d, hd1, hr1⟩ := rx.get hu
    obtain ⟨d', hd2, hr2⟩ := ry.get hz
    rw [hd1] at hd2
    cases hd2
    refine ⟨u, z, d, rfl, hr1.same sm, hr2.same sm, hd d (List.mem_of_getElem? hd1), fun H4 s4 => ?_⟩
    refine k1 _ _ _ s4 ⟨_, _, rfl⟩ ?_
    rw [hΦ, List.replicate_succ', List.map_append]
    rfl
  · intro vs H' sm hDl _ hΦ
    rw [hΦ] at hDl
    exact q H' sm hDl
theorem all_rep (n : Nat) : (List.replicate n true).all id = true := by
  rw [List.all_eq_true]
  intro b hb
  rw [(List.mem_replicate.mp hb).2]
  rfl
theorem alike_step (T : Txt K mg t) (n : Nat) (G_l_alike : FnOk P w K mg base CX0 (n + 1) t.f_l_alike t.d_l_alike ["_law_found", "_law_due_here"] (spAlike K n)) : FnOk P w K mg base CX0 (n + 1 + 1) t.f_l_alike t.d_l_alike ["_law_found", "_law_due_here"] (spAlike K (n + 1)) := by
  refine T.D_l_alike.F.ok sc_l_alike (fun vs H Q E h => ?_) (fun cdv A outer s H vs Q E hr h => ?_)
  · obtain ⟨found, due, d, rfl, _⟩ := h
    rfl
  obtain ⟨found, due, d, rfl, h1, h2, hd, q⟩ := h
  refine ⟨_, (pss_cons (ps_if (pt_val (q_callB call_isKs qg_l_alike 0 rfl rfl T.z_isinstance bo_isinstance (pa_cons (qv qv_l_alike 1 rfl rfl rfl) (pa_cons (pe_tup (pa_cons (q_bltn (v := .ty "list") qg_l_alike 1 rfl rfl T.z_list bo_list rfl) (pa_cons (q_bltn (v := .ty "tuple") qg_l_alike 2 rfl rfl T.z_tuple bo_tuple rfl) pa_nil))) pa_nil)))) (pss_cons (ps_if (PW.pt (pw_or (pt_not (pt_val (q_callB call_isKs qg_l_alike 0 rfl rfl T.z_isinstance bo_isinstance (pa_cons (qv qv_l_alike 0 rfl rfl rfl) (pa_cons (pe_tup (pa_cons (q_bltn (v := .ty "list") qg_l_alike 1 rfl rfl T.z_list bo_list rfl) (pa_cons (q_bltn (v := .ty "tuple") qg_l_alike 2 rfl rfl T.z_tuple bo_tuple rfl) pa_nil))) pa_nil))))) (pw_or1 (pt_cmpR op_ne (q_callB call_isK qg_l_alike 0 rfl rfl T.z_isinstance bo_isinstance (pa_cons (qv qv_l_alike 0 rfl rfl rfl) (pa_cons (q_bltn (v := .ty "list") qg_l_alike 1 rfl rfl T.z_list bo_list rfl) pa_nil))) (q_callB call_isK qg_l_alike 0 rfl rfl T.z_isinstance bo_isinstance (pa_cons (qv qv_l_alike 1 rfl rfl rfl) (pa_cons (q_bltn (v := .ty "list") qg_l_alike 1 rfl rfl T.z_list bo_list rfl) pa_nil))) (nomark _))))) (pss_one (ps_ret pe_bl)) pss_nil)
      (pss_one (ps_ret (pe_and (pe_cmpR op_eq (q_callB call_lenR qg_l_alike 3 rfl rfl T.z_len bo_len (pa_cons (qv qv_l_alike 0 rfl rfl rfl) pa_nil)) (q_callB call_lenR qg_l_alike 3 rfl rfl T.z_len bo_len (pa_cons (qv qv_l_alike 1 rfl rfl rfl) pa_nil)) (nomark _)) (pe_one (q_callB (call_all rfl) qg_l_alike 4 rfl rfl T.z_all bo_all (pa_cons (pe_comp ["_law_one", "_law_other"] [none, none] rfl  (pi_zip (qgl qg_l_alike 5 rfl rfl) T.z_zip (pa_cons (qv qv_l_alike 0 rfl rfl rfl) (pa_cons (qv qv_l_alike 1 rfl rfl rfl) pa_nil))) (fun _ _ _ _ => (pg_tupC (n := 2) rfl (pgs_cons (pg_name (i := 0) (show (["_law_one", "_law_other"] : List Str).Nodup by decide +kernel) rfl (Or.inl rfl)) (pgs_cons (pg_name (i := 1) (show (["_law_one", "_law_other"] : List Str).Nodup by decide +kernel) rfl (Or.inl rfl)) pgs_nil)))) (fun _ _ _ _ => pts_nil) (fun _ _ _ _ => (pe_call G_l_alike (hr.mono (Nat.le_refl _)) rfl T.D_l_alike.m T.D_l_alike.F.kp T.D_l_alike.b .nil pass0 (pa_cons (pv 0) (pa_cons (pv 1) pa_nil)))) rfl rfl) pa_nil))))))) pss_nil)
      (pss_cons (ps_if (pt_val (q_callB call_isK qg_l_alike 0 rfl rfl T.z_isinstance bo_isinstance (pa_cons (qv qv_l_alike 1 rfl rfl rfl) (pa_cons (q_bltn (v := .ty "str") qg_l_alike 6 rfl rfl T.z_str bo_str rfl) pa_nil)))) (pss_one (ps_ret (pe_and (q_callB call_isK qg_l_alike 0 rfl rfl T.z_isinstance bo_isinstance (pa_cons (qv qv_l_alike 0 rfl rfl rfl) (pa_cons (q_bltn (v := .ty "str") qg_l_alike 6 rfl rfl T.z_str bo_str rfl) pa_nil))) (pe_one (pe_cmpR op_eq (qv qv_l_alike 0 rfl rfl rfl) (qv qv_l_alike 1 rfl rfl rfl) (nomark _)))))) pss_nil)
      (pss_cons (ps_if (pt_cmp (pc_isN (qv qv_l_alike 1 rfl rfl rfl))) (pss_one (ps_ret (pe_cmp (pc_isN (qv qv_l_alike 0 rfl rfl rfl))))) pss_nil)
      (pss_one (ps_ret (pe_and (q_callB call_isK qg_l_alike 0 rfl rfl T.z_isinstance bo_isinstance (pa_cons (qv qv_l_alike 0 rfl rfl rfl) (pa_cons (q_bltn (v := .ty "int") qg_l_alike 7 rfl rfl T.z_int bo_int rfl) pa_nil))) (pe_and (pe_not (q_callB call_isK qg_l_alike 0 rfl rfl T.z_isinstance bo_isinstance (pa_cons (qv qv_l_alike 0 rfl rfl rfl) (pa_cons (q_bltn (v := .ty "bool") qg_l_alike 8 rfl rfl T.z_bool bo_bool rfl) pa_nil)))) (pe_one (pe_cmpR op_eq (qv qv_l_alike 0 rfl rfl rfl) (qv qv_l_alike 1 rfl rfl rfl) (nomark _)))))))))), ?_⟩
  walk_at "vc"
  refine ⟨(by show 2 ≤ sizeLine; decide), fun p1 hp1 => ?_⟩
  walk_at "vc"
  have s1 := same_new hp1 (.tup [V.ty "list", V.ty "tuple"])
  have k1 := (h1.same s1).kind
  have k2 := (h2.same s1).kind
  have tp1 : SqT K (upd H p1 (.tup [V.ty "list", V.ty "tuple"])) p1 (["list", "tuple"].map V.ty) := SqT.of upd_same
  cases d with
  | none =>
    refine vc_isKs (ns := ["list", "tuple"]) (b := false) k2 tp1 rfl ?_
    walk_at "vc"
    refine vc_isK (b := false) k2 rfl ?_
    cases h1
    cases h2
    walk_at "vc"
    rw [dec_true rfl]
    walk_at "vc"
    have := q _ s1
    rw [dec_true rfl]
    exact this
  | bool b => exact hd.elim
  | bytes b => exact hd.elim
  | int i =>
    refine vc_isKs (ns := ["list", "tuple"]) (b := false) k2 tp1 rfl ?_
    walk_at "vc"
    refine vc_isK (b := false) k2 rfl ?_
    cases h2
    walk_at "vc"
    rw [dec_false (fun z => by cases z)]
    walk_at "vc"
    refine vc_isK (b := true) k1 rfl ?_
    walk_at "vc"
    refine vc_isK (b := false) k1 rfl ?_
    cases h1
    walk_at "vc"
    have := q _ s1
    rw [dec_true rfl]
    exact this
  | str x =>
    refine vc_isKs (ns := ["list", "tuple"]) (b := false) k2 tp1 rfl ?_
    walk_at "vc"
    refine vc_isK (b := true) k2 rfl ?_
    walk_at "vc"
    refine vc_isK (b := true) k1 rfl ?_
    cases h1
    cases h2
    walk_at "vc"
    have := q _ s1
    rw [dec_true rfl]
    exact this
  | tuple ds =>
    refine vc_isKs (ns := ["list", "tuple"]) (b := true) k2 tp1 rfl ?_
    walk_at "vc"
    refine ⟨(by show 2 ≤ sizeLine; decide), fun p2 hp2 => ?_⟩
    have s2 := s1.trans (same_new hp2 (.tup [V.ty "list", V.ty "tuple"]))
    have tp2 : SqT K (upd (upd H p1 (.tup [V.ty "list", V.ty "tuple"])) p2 (.tup [V.ty "list", V.ty "tuple"])) p2 (["list", "tuple"].map V.ty) := SqT.of upd_same
    generalize upd (upd H p1 (.tup [V.ty "list", V.ty "tuple"])) p2 (.tup [V.ty "list", V.ty "tuple"]) = H2 at *
    have r1 := h1.same s2
    have r2 := h2.same s2
    walk_at "vc"
    refine vc_isKs (ns := ["list", "tuple"]) (b := true) r1.kind tp2 rfl ?_
    walk_at "vc"
    refine vc_isK (b := false) r1.kind rfl ?_
    walk_at "vc"
    refine vc_isK (b := false) r2.kind rfl ?_
    walk_at "vc"
    refine iteNS rfl ?_
    cases r1 with
    | @tup a1 xs _ l1 e1 =>
    cases r2 with
    | @tup a2 ys _ l2 e2 =>
    walk_at "vc"
    refine vc_lenT l1 ?_
    walk_at "vc"
    refine vc_lenT l2 ?_
    walk_at "vc"
    have hl : xs.length = ys.length := e1.length.trans e2.length.symm
    rw [hl, dec_true rfl]
    refine iteT ?_
    walk_at "vc"
    refine ⟨true, a1, a2, xs, ys, rfl, l1, l2, fun D hD => alike_comp (b := true) l1 l2 e1 e2 hd.2 (small1000 (by rw [e1.length]; exact Nat.le_of_lt hd.1)) hD fun H3 s3 hD3 => ?_⟩
    walk_at "vc"
    refine vc_all (SqL.of hD3) ?_
    rw [all_rep]
    exact q _ (s2.trans s3)
  | list ds =>
    refine vc_isKs (ns := ["list", "tuple"]) (b := true) k2 tp1 rfl ?_
    walk_at "vc"
    refine ⟨(by show 2 ≤ sizeLine; decide), fun p2 hp2 => ?_⟩
    have s2 := s1.trans (same_new hp2 (.tup [V.ty "list", V.ty "tuple"]))
    have tp2 : SqT K (upd (upd H p1 (.tup [V.ty "list", V.ty "tuple"])) p2 (.tup [V.ty "list", V.ty "tuple"])) p2 (["list", "tuple"].map V.ty) := SqT.of upd_same
    generalize upd (upd H p1 (.tup [V.ty "list", V.ty "tuple"])) p2 (.tup [V.ty "list", V.ty "tuple"]) = H2 at *
    have r1 := h1.same s2
    have r2 := h2.same s2
    walk_at "vc"
    refine vc_isKs (ns := ["list", "tuple"]) (b := true) r1.kind tp2 rfl ?_
    walk_at "vc"
    refine vc_isK (b := true) r1.kind rfl ?_
    walk_at "vc"
    refine vc_isK (b := true) r2.kind rfl ?_
    walk_at "vc"
    refine iteNS rfl ?_
    cases r1 with
    | @lst a1 xs _ l1 e1 =>
    cases r2 with
    | @lst a2 ys _ l2 e2 =>
    walk_at "vc"
    refine vc_lenL l1 ?_
    walk_at "vc"
    refine vc_lenL l2 ?_
    walk_at "vc"
    have hl : xs.length = ys.length := e1.length.trans e2.length.symm
    rw [hl, dec_true rfl]
    refine iteT ?_
    walk_at "vc"
    refine ⟨false, a1, a2, xs, ys, rfl, l1, l2, fun D hD => alike_comp (b := false) l1 l2 e1 e2 hd.2 (small1000 (by rw [e1.length]; exact Nat.le_of_lt hd.1)) hD fun H3 s3 hD3 => ?_⟩
    walk_at "vc"
    refine vc_all (SqL.of hD3) ?_
    rw [all_rep]
    exact q _ (s2.trans s3)
theorem ok_l_alike (T : Txt K mg t) (n : Nat) : FnOk P w K mg base CX0 (n + 1) t.f_l_alike t.d_l_alike ["_law_found", "_law_due_here"] (spAlike K n) := by
  induction n with
  | zero => exact ⟨fun _ _ _ _ h => by obtain ⟨_, _, _, _, _, _, z, _⟩ := h; exact z.elim, fun _ _ _ _ _ _ _ _ _ _ _ _ _ h => by obtain ⟨_, _, _, _, _, _, z, _⟩ := h; exact z.elim⟩
  | succ n G_l_alike => exact alike_step T n G_l_alike
inductive spAt_ (K : PySem.W.Frag) (vs : List V) (H : Hp) (Q : VK) : Prop where
  | mk (a : Addr) (k : Int) (ns : List Int) : (vs = [.ref a, .int k]) → (SqL K H a (ns.map V.int)) → (0 ≤ k) → (ns.length ≤ 63) → (∀ c : Int, Q (.int c) H) → spAt_ K vs H Q
noncomputable def spAt (K : PySem.W.Frag) : Sp := fun vs H Q _ => spAt_ K vs H Q
theorem ok_l_at (T : Txt K mg t) : FnOk P w K mg base CX0 1 t.f_l_at t.d_l_at ["_law_script", "_law_k"] (spAt K) := by
  refine T.D_l_at.F.ok sc_l_at (fun vs H Q E h => ?_) (fun cdv A outer s H vs Q E hr h => ?_)
  · obtain ⟨a, k, ns, rfl, _⟩ := h
    rfl
  obtain ⟨a, k, ns, rfl, hq, h0, hl, q⟩ := h
  refine ⟨_, (pss_cons (ps_if (pt_cmpR op_lt (qv qv_l_at 1 rfl rfl rfl) (q_callB call_lenR qg_l_at 0 rfl rfl T.z_len bo_len (pa_cons (qv qv_l_at 0 rfl rfl rfl) pa_nil)) (nomark _)) (pss_one (ps_ret (pe_ix ix_list (qv qv_l_at 0 rfl rfl rfl) (qv qv_l_at 1 rfl rfl rfl) (fun _ _ => rfl)))) pss_nil)
      (pss_one (ps_ret (pe_op op_sub (q_callB call_lenR qg_l_at 0 rfl rfl T.z_len bo_len (pa_cons (qv qv_l_at 0 rfl rfl rfl) pa_nil)) (qv qv_l_at 1 rfl rfl rfl))))), ?_⟩
  walk_at "vc"
  refine vc_lenL hq ?_
  walk_at "vc"
  refine ite2 (fun z => ?_) (fun z => ?_)
  · have hk : k < ((ns.map V.int).length : Int) := of_decide_eq_true z
    rw [List.length_map] at hk
    walk_at "vc"
    obtain ⟨j, rfl⟩ : ∃ j : Nat, k = (j : Int) := ⟨k.toNat, by omega⟩
    have hj : j < ns.length := by omega
    refine vc_ixL hq (x := .int ns[j]) (atI_nat ?_) ?_
    · rw [List.getElem?_map, List.getElem?_eq_getElem hj]
      rfl
    exact q _
  · walk_at "vc"
    refine vc_lenL hq ?_
    walk_at "vc"
    exact q _
open Classical in
inductive spLApart_ (K : PySem.W.Frag) (vs : List V) (H : Hp) (Q : VK) : Prop where
  | mk (f a0 a1 a2 a3 a4 : Addr) (rs : List V) (ps : List (Str × Str)) (one other : Str) : (vs = [.ref f, .str one, .str other]) → (SqL K H f [.ref a0, .ref a1, .ref a2, .ref a3, .ref a4]) → (SqL K H a3 rs) → (Reps K H rs (apartDs ps)) → ((∀ p ∈ ps, Let p.1 ∧ Let p.2)) → (Let one) → (Let other) → (∀ H', Same H H' → Q (.bl (decide ((one, other) ∈ ps ∨ (other, one) ∈ ps))) H') → spLApart_ K vs H Q
open Classical in
noncomputable def spLApart (K : PySem.W.Frag) : Sp := fun vs H Q _ => spLApart_ K vs H Q
theorem ok_l_apart (T : Txt K mg t) : FnOk P w K mg base CX0 1 t.f_l_apart t.d_l_apart ["_law_five_here", "_law_one", "_law_other"] (spLApart K) := by
  refine T.D_l_apart.F.ok sc_l_apart (fun vs H Q E h => ?_) (fun cdv A outer s H vs Q E hr h => ?_)
  · obtain ⟨f, a0, a1, a2, a3, a4, rs, ps, one, other, rfl, _⟩ := h
    rfl
  obtain ⟨f, a0, a1, a2, a3, a4, rs, ps, one, other, rfl, hf, hl, hR, hps, ho, ht, q⟩ := h
  refine ⟨_, (pss_one (ps_ret (pe_or (pe_cmpR (op_inD hr.units) (pe_tup (pa_cons (qv qv_l_apart 1 rfl rfl rfl) (pa_cons (qv qv_l_apart 2 rfl rfl rfl) pa_nil))) (pe_ix ix_list (qv qv_l_apart 0 rfl rfl rfl) pe_int (fun _ _ => rfl)) (by with_unfolding_all rfl)) (pe_one (pe_cmpR (op_inD hr.units) (pe_tup (pa_cons (qv qv_l_apart 2 rfl rfl rfl) (pa_cons (qv qv_l_apart 1 rfl rfl rfl) pa_nil))) (pe_ix ix_list (qv qv_l_apart 0 rfl rfl rfl) pe_int (fun _ _ => rfl)) (by with_unfolding_all rfl)))))), ?_⟩
  have hk : ∀ d ∈ apartDs ps, PySem.W.kqdOk 8 d = true := fun d hd => by
    unfold apartDs at hd
    obtain ⟨p, hp, rfl⟩ := List.mem_map.mp hd
    exact two_ok (hps p hp).1 (hps p hp).2 7
  walk_at "vc"
  refine ⟨(by show 2 ≤ sizeLine; decide), fun t1 ht1 => ?_⟩
  walk_at "vc"
  have s1 := same_new ht1 (.tup [.str one, .str other])
  refine vc_ixL (s1.seq hf) (x := .ref a3) rfl ?_
  refine ⟨.tuple [.str one, .str other], apartDs ps, .tup (SqT.of upd_same) (.cons (.str _) (.cons (.str _) .nil)), .lst (s1.seq hl) (hR.same s1), two_ok ho ht 7, hk, ?_⟩
  by_cases e1 : (one, other) ∈ ps
  · rw [if_neg Bool.false_ne_true, dec_true (mem_apart.mpr e1)]
    walk_at "vc"
    have := q _ s1
    rw [dec_true (.inl e1)] at this
    exact this
  rw [if_neg Bool.false_ne_true, dec_false (fun z => e1 (mem_apart.mp z))]
  walk_at "vc"
  refine ⟨(by show 2 ≤ sizeLine; decide), fun t2 ht2 => ?_⟩
  walk_at "vc"
  have s2 := s1.trans (same_new ht2 (.tup [.str other, .str one]))
  refine vc_ixL (s2.seq hf) (x := .ref a3) rfl ?_
  refine ⟨.tuple [.str other, .str one], apartDs ps, .tup (SqT.of upd_same) (.cons (.str _) (.cons (.str _) .nil)), .lst (s2.seq hl) (hR.same s2), two_ok ht ho 7, hk, ?_⟩
  rw [if_neg Bool.false_ne_true]
  have := q _ s2
  by_cases e2 : (other, one) ∈ ps
  · rw [dec_true (.inr e2)] at this
    rw [dec_true (mem_apart.mpr e2)]
    exact this
  · rw [dec_false (fun z => z.elim e1 e2)] at this
    rw [dec_false (fun z => e2 (mem_apart.mp z))]
    exact this
theorem same_none {H H' : Hp} {a : Addr} (e : Same H H') (h : H' a = none) : H a = none := by
  cases q : H a with
  | none => rfl
  | some o => rw [e _ _ q] at h; cases h
theorem getD_mem {ws : List Str} {p : Nat} (h : p < ws.length) : ws.getD p (Str.ofString "") ∈ ws := by
  rw [List.getD_eq_getElem?_getD, List.getElem?_eq_getElem h]
  exact List.getElem_mem h
theorem getD_inj {ws : List Str} (nd : ws.Nodup) {p q : Nat} (hp : p < ws.length) (hq : q < ws.length) (e : ws.getD p (Str.ofString "") = ws.getD q (Str.ofString "")) : p = q := by
  rw [List.getD_eq_getElem?_getD, List.getElem?_eq_getElem hp, List.getD_eq_getElem?_getD, List.getElem?_eq_getElem hq] at e
  refine (List.getElem?_inj hp nd).mp ?_
  rw [List.getElem?_eq_getElem hp, List.getElem?_eq_getElem hq]
  exact congrArg some e
theorem sum_bounds {m : Int} : ∀ {xs : List Int}, (∀ x ∈ xs, 1 ≤ x ∧ x ≤ m) → (xs.length : Int) ≤ xs.sum ∧ xs.sum ≤ m * xs.length
  | [], _ => by simp
  | x :: xs, h => by
    have ih := sum_bounds fun y hy => h y (List.mem_cons_of_mem _ hy)
    have hx := h x List.mem_cons_self
    rw [List.sum_cons, List.length_cons]
    have e : m * ((xs.length + 1 : Nat) : Int) = m * (xs.length : Int) + m := by rw [Int.natCast_add, Int.mul_add]; simp
    omega
theorem ok_are_apart (T : Txt K mg t) : FnOk P w K mg base CX0 1 t.f_are_apart t.d_are_apart ["pipe", "one", "other"] (spApart K t.c_Pipe) := by
  refine T.D_are_apart.F.ok sc_are_apart (fun vs H Q E h => ?_) (fun cdv A outer s H vs Q E hr h => ?_)
  · obtain ⟨x, l1, l2, l3, l4, pg, rs, ps, one, other, rfl, _⟩ := h
    rfl
  obtain ⟨x, l1, l2, l3, l4, pg, rs, ps, one, other, rfl, ⟨dx, hx⟩, hl, hR, hps, ho, ht, q⟩ := h
  refine ⟨_, (pss_one (ps_ret (pe_or (pe_cmpR (op_inD hr.units) (pe_tup (pa_cons (qv qv_are_apart 1 rfl rfl rfl) (pa_cons (qv qv_are_apart 2 rfl rfl rfl) pa_nil))) (pe_fld (qv qv_are_apart 0 rfl rfl rfl) rfl) (by with_unfolding_all rfl)) (pe_one (pe_cmpR (op_inD hr.units) (pe_tup (pa_cons (qv qv_are_apart 2 rfl rfl rfl) (pa_cons (qv qv_are_apart 1 rfl rfl rfl) pa_nil))) (pe_fld (qv qv_are_apart 0 rfl rfl rfl) rfl) (by with_unfolding_all rfl)))))), ?_⟩
  have hk : ∀ d ∈ apartDs ps, PySem.W.kqdOk 8 d = true := fun d hd => by
    unfold apartDs at hd
    obtain ⟨p, hp, rfl⟩ := List.mem_map.mp hd
    exact two_ok (hps p hp).1 (hps p hp).2 7
  walk_at "vc"
  refine ⟨(by show 2 ≤ sizeLine; decide), fun t1 ht1 => ?_⟩
  walk_at "vc"
  have s1 := same_new ht1 (.tup [.str one, .str other])
  refine ⟨x, t.c_Pipe, dx, _, _, rfl, s1 _ _ hx, T.C_Pipe, T.n_Pipe_apart, fs_apart .., ?_⟩
  refine ⟨.tuple [.str one, .str other], apartDs ps, .tup (SqT.of upd_same) (.cons (.str _) (.cons (.str _) .nil)), .lst (s1.seq hl) (hR.same s1), two_ok ho ht 7, hk, ?_⟩
  by_cases e1 : (one, other) ∈ ps
  · rw [if_neg Bool.false_ne_true, dec_true (mem_apart.mpr e1)]
    walk_at "vc"
    have := q _ s1
    rw [dec_true (.inl e1)] at this
    exact this
  rw [if_neg Bool.false_ne_true, dec_false (fun z => e1 (mem_apart.mp z))]
  walk_at "vc"
  refine ⟨(by show 2 ≤ sizeLine; decide), fun t2 ht2 => ?_⟩
  walk_at "vc"
  have s2 := s1.trans (same_new ht2 (.tup [.str other, .str one]))
  refine ⟨x, t.c_Pipe, dx, _, _, rfl, s2 _ _ hx, T.C_Pipe, T.n_Pipe_apart, fs_apart .., ?_⟩
  refine ⟨.tuple [.str other, .str one], apartDs ps, .tup (SqT.of upd_same) (.cons (.str _) (.cons (.str _) .nil)), .lst (s2.seq hl) (hR.same s2), two_ok ht ho 7, hk, ?_⟩
  rw [if_neg Bool.false_ne_true]
  have := q _ s2
  by_cases e2 : (other, one) ∈ ps
  · rw [dec_true (.inr e2)] at this
    rw [dec_true (mem_apart.mpr e2)]
    exact this
  · rw [dec_false (fun z => z.elim e1 e2)] at this
    rw [dec_false (fun z => e2 (mem_apart.mp z))]
    exact this
inductive spEnd_ (K : PySem.W.Frag) (C : Addr) (vs : List V) (H : Hp) (Q : VK) : Prop where
  | mk (x l1 l2 l3 l4 : Addr) (pg : V) (rooms : List Int) : (vs = [.ref x]) → (PipeAt H C x l1 l2 l3 l4 pg) → (SqL K H l1 (rooms.map V.int)) → (∀ H', Same H H' → Q (.int rooms.sum) H') → spEnd_ K C vs H Q
noncomputable def spEnd (K : PySem.W.Frag) (C : Addr) : Sp := fun vs H Q _ => spEnd_ K C vs H Q
theorem ok_end_of (T : Txt K mg t) : FnOk P w K mg base CX0 2 t.f_end_of t.d_end_of ["pipe"] (spEnd K t.c_Pipe) := by
  have G_place_of := ok_place_of (P := P) (w := w) (base := base) T
  refine T.D_end_of.F.ok sc_end_of (fun vs H Q E h => ?_) (fun cdv A outer s H vs Q E hr h => ?_)
  · obtain ⟨x, l1, l2, l3, l4, pg, rooms, rfl, _⟩ := h
    rfl
  obtain ⟨x, l1, l2, l3, l4, pg, rooms, rfl, ⟨dx, hx⟩, hl, q⟩ := h
  refine ⟨_, (pss_one (ps_ret (q_call G_place_of (hr.mono (by first | decide | omega)) qg_end_of 0 rfl rfl T.D_place_of.m T.D_place_of.F.kp T.D_place_of.b .nil pass0 (pa_cons (qv qv_end_of 0 rfl rfl rfl) (pa_cons (q_callB call_lenR qg_end_of 1 rfl rfl T.z_len bo_len (pa_cons (pe_fld (qv qv_end_of 0 rfl rfl rfl) rfl) pa_nil)) pa_nil))))), ?_⟩
  walk_at "vc"
  refine ⟨x, t.c_Pipe, dx, _, _, rfl, hx, T.C_Pipe, T.n_Pipe_rooms, fs_rooms .., ?_⟩
  walk_at "vc"
  refine vc_lenL hl ?_
  walk_at "vc"
  refine ⟨x, l1, l2, l3, l4, pg, rooms, _, rfl, ⟨dx, hx⟩, hl, Int.natCast_nonneg _, fun H' sm => ?_⟩
  rw [List.length_map, Int.toNat_natCast, List.take_length]
  exact q H' sm
structure Fr2 (H : Hp) (r : Addr) (a b : Int) : Prop where
  at_ : H r = some (.tup [.int a, .int b])
  ba : Bt 400 a
  bb : Bt 400 b
  pos : 0 < b
inductive spTimes_ (vs : List V) (H : Hp) (Q : VK) : Prop where
  | mk (r1 r2 : Addr) (a b c d : Int) : (vs = [.ref r1, .ref r2]) → (Fr2 H r1 a b) → (Fr2 H r2 c d) → (∀ r, H r = none → Q (.ref r) (upd H r (.tup [.int (fN (a * c) (b * d)), .int (fD (a * c) (b * d))]))) → spTimes_  vs H Q
noncomputable def spTimes : Sp := fun vs H Q _ => spTimes_  vs H Q
theorem ok_times (T : Txt K mg t) : FnOk P w K mg base CX0 3 t.f_times t.d_times ["one", "other"] spTimes := by
  have G_made := ok_made (P := P) (w := w) (base := base) T
  refine T.D_times.F.ok sc_times (fun vs H Q E h => ?_) (fun cdv A outer s H vs Q E hr h => ?_)
  · obtain ⟨r1, r2, a, b, c, d, rfl, _⟩ := h
    rfl
  obtain ⟨r1, r2, a, b, c, d, rfl, ⟨h1, ba, bb, pb⟩, ⟨h2, bc, bd, pd⟩, q⟩ := h
  have g1 : SqT K H r1 [.int a, .int b] := SqT.of h1
  have g2 : SqT K H r2 [.int c, .int d] := SqT.of h2
  refine ⟨_, (pss_one (ps_ret (q_call G_made (hr.mono (by first | decide | omega)) qg_times 0 rfl rfl T.D_made.m T.D_made.F.kp T.D_made.b .nil pass0 (pa_cons (pe_op op_mulB (pe_ix ix_tup (qv qv_times 0 rfl rfl rfl) pe_int (fun _ _ => rfl)) (pe_ix ix_tup (qv qv_times 1 rfl rfl rfl) pe_int (fun _ _ => rfl))) (pa_cons (pe_op op_mulB (pe_ix ix_tup (qv qv_times 0 rfl rfl rfl) pe_int (fun _ _ => rfl)) (pe_ix ix_tup (qv qv_times 1 rfl rfl rfl) pe_int (fun _ _ => rfl))) pa_nil))))), ?_⟩
  walk_at "vc"
  exact ⟨_, _, rfl, Int.mul_ne_zero (by omega) (by omega), (Bt.mul bb bd).mono (by decide), q⟩
theorem cop_dvd {a b D D' : Int} (c : Int.gcd D a = 1) (x : a * D' = b * D) : D.natAbs ∣ D'.natAbs := by
  have h : D.natAbs ∣ a.natAbs * D'.natAbs := ⟨b.natAbs, by rw [← Int.natAbs_mul, x, Int.natAbs_mul, Nat.mul_comm]⟩
  exact Nat.Coprime.dvd_of_dvd_mul_left (show Nat.Coprime D.natAbs a.natAbs from c) h
theorem f_uniq {n p n' p' : Int} (hp : p ≠ 0) (hp' : p' ≠ 0) (h : n * p' = n' * p) : fN n p = fN n' p' ∧ fD n p = fD n' p' := by
  have w := f_worth (n := n) hp
  have w' := f_worth (n := n') hp'
  have c := f_cop (n := n) hp
  have c' := f_cop (n := n') hp'
  have d := fD_pos (n := n) hp
  have d' := fD_pos (n := n') hp'
  generalize fN n p = a at *
  generalize fD n p = D at *
  generalize fN n' p' = a' at *
  generalize fD n' p' = D' at *
  have x : a * D' = a' * D := by
    refine Int.eq_of_mul_eq_mul_right (Int.mul_ne_zero hp hp') ?_
    calc a * D' * (p * p') = (a * p) * (D' * p') := by ac_rfl
      _ = (n * D) * (D' * p') := by rw [w]
      _ = (n * p') * (D * D') := by ac_rfl
      _ = (n' * p) * (D * D') := by rw [h]
      _ = (n' * D') * (p * D) := by ac_rfl
      _ = (a' * p') * (p * D) := by rw [w']
      _ = a' * D * (p * p') := by ac_rfl
  have e := Nat.dvd_antisymm (cop_dvd c x) (cop_dvd c' x.symm)
  have eD : D = D' := by omega
  subst eD
  exact ⟨Int.eq_of_mul_eq_mul_right (by omega) x, rfl⟩
theorem f_times {h1 h2 k : Int} (hp : 0 < h2) : fN (2 * fN (h1 * k) (h2 * 1)) (1 * fD (h1 * k) (h2 * 1)) = fN (2 * k * h1) h2 ∧ fD (2 * fN (h1 * k) (h2 * 1)) (1 * fD (h1 * k) (h2 * 1)) = fD (2 * k * h1) h2 := by
  have hp1 : h2 * 1 ≠ 0 := by omega
  have w := f_worth (n := h1 * k) hp1
  have d := fD_pos (n := h1 * k) hp1
  generalize fN (h1 * k) (h2 * 1) = a at *
  generalize fD (h1 * k) (h2 * 1) = D at *
  refine f_uniq (by omega) (by omega) ?_
  calc 2 * a * h2 = 2 * (a * (h2 * 1)) := by rw [Int.mul_one, Int.mul_assoc]
    _ = 2 * (h1 * k * D) := by rw [w]
    _ = 2 * k * h1 * (1 * D) := by rw [Int.one_mul]; ac_rfl
structure ApOk (ws : List Str) (ap : List (Str × Str)) : Prop where
  mem : ∀ p ∈ ap, p.1 ∈ ws ∧ p.2 ∈ ws
  ne : ∀ x, (x, x) ∉ ap
theorem ApOk.snoc {ws : List Str} {ap : List (Str × Str)} (h : ApOk ws ap) {x y : Str} (hx : x ∈ ws) (hy : y ∈ ws) (n : x ≠ y) : ApOk ws (ap ++ [(x, y)]) := by
  refine ⟨fun p hp => ?_, fun z hz => ?_⟩
  · rcases List.mem_append.mp hp with hp | hp
    · exact h.mem p hp
    · rw [List.mem_singleton] at hp
      rw [hp]
      exact ⟨hx, hy⟩
  · rcases List.mem_append.mp hz with hz | hz
    · exact h.ne z hz
    · rw [List.mem_singleton] at hz
      exact n ((congrArg Prod.fst hz).symm.trans (congrArg Prod.snd hz))
structure DataOk (rooms : List Int) (rows : List (Int × Int)) (th : List (Str × Str × Int)) (ap : List (Str × Str)) : Prop where
  s0 : 0 ≤ rooms.sum
  s1 : rooms.sum ≤ 200000000
  rw : RowsOk rows
  thl : ∀ p ∈ th, Let p.1 ∧ Let p.2.1
  thk : ∀ p ∈ th, 0 ≤ p.2.2 ∧ p.2.2 ≤ 20
  apl : ∀ p ∈ ap, Let p.1 ∧ Let p.2
structure PipeD (K : PySem.W.Frag) (H : Hp) (C x : Addr) (rooms : List Int) (rows : List (Int × Int)) (th : List (Str × Str × Int)) (ap : List (Str × Str)) : Prop where
  at_ : ∃ (l1 l2 l3 l4 : Addr) (pg : V) (r2 r3 r4 : List V), PipeAt H C x l1 l2 l3 l4 pg ∧ SqL K H l1 (rooms.map V.int) ∧ SqL K H l2 r2 ∧ Reps K H r2 (rows.map rowD) ∧ SqL K H l3 r3 ∧ Reps K H r3 (thickDs th) ∧ SqL K H l4 r4 ∧ Reps K H r4 (apartDs ap)
theorem PipeD.same {H H' : Hp} {C x : Addr} {rooms : List Int} {rows : List (Int × Int)} {th : List (Str × Str × Int)} {ap : List (Str × Str)} (h : PipeD K H C x rooms rows th ap) (e : Same H H') : PipeD K H' C x rooms rows th ap := by
  obtain ⟨l1, l2, l3, l4, pg, r2, r3, r4, a, b, c, d, f, g, i, j⟩ := h.at_
  exact ⟨l1, l2, l3, l4, pg, r2, r3, r4, a.same e, e.seq b, e.seq c, d.same e, e.seq f, g.same e, e.seq i, j.same e⟩
noncomputable def hfN (rows : List (Int × Int)) (n : Int) : Int := fN (halfGo 0 0 rows n).1 (halfGo 0 0 rows n).2
noncomputable def hfD (rows : List (Int × Int)) (n : Int) : Int := fD (halfGo 0 0 rows n).1 (halfGo 0 0 rows n).2
theorem half_bounds (n : Int) (hn0 : 0 ≤ n) (hn1 : n ≤ 200000000) : ∀ (rows : List (Int × Int)) (near nh : Int), ((near, nh) :: rows).Pairwise (fun x y => x.1 < y.1 ∧ x.2 ≤ y.2) → (∀ r ∈ rows, r.1 ≤ 100000000 ∧ r.2 ≤ 100000000) → 0 ≤ near → near ≤ 100000000 → 0 ≤ nh → nh ≤ 100000000 →
    0 < (halfGo near nh rows n).2 ∧ (halfGo near nh rows n).2 ≤ 100000000 ∧ (halfGo near nh rows n).1.natAbs ≤ 100000000 * 400000000
  | [], near, nh, _, _, _, _, b0, b1 => by
    show 0 < (1 : Int) ∧ (1 : Int) ≤ 100000000 ∧ nh.natAbs ≤ _
    omega
  | r :: rs, near, nh, hup, hle, a0, a1, b0, b1 => by
    obtain ⟨h1, h2⟩ := List.pairwise_cons.mp hup
    have g := h1 r List.mem_cons_self
    have l := hle r List.mem_cons_self
    obtain ⟨far, fh⟩ := r
    dsimp only at g l
    rw [halfGo]
    split
    · show 0 < far - near ∧ far - near ≤ 100000000 ∧ (nh * (far - near) + (fh - nh) * (n - near)).natAbs ≤ _
      refine ⟨by omega, by omega, ?_⟩
      have m1 : (nh * (far - near)).natAbs ≤ 100000000 * 100000000 := by rw [Int.natAbs_mul]; exact Nat.mul_le_mul (by omega) (by omega)
      have m2 : ((fh - nh) * (n - near)).natAbs ≤ 100000000 * 200000000 := by rw [Int.natAbs_mul]; exact Nat.mul_le_mul (by omega) (by omega)
      exact Nat.le_trans (Int.natAbs_add_le _ _) (Nat.le_trans (Nat.add_le_add m1 m2) (by decide))
    · exact half_bounds n hn0 hn1 rs far fh h2 (fun q hq => hle q (List.mem_cons_of_mem _ hq)) (by omega) (by omega) (by omega) (by omega)
theorem fN_le {n p : Int} (h : p ≠ 0) : (fN n p).natAbs ≤ n.natAbs ∧ (fD n p).natAbs ≤ p.natAbs := by
  have e1 := fN_eq (n := n) h
  have e2 := fD_eq (n := n) h
  have d := dv_ne (n := n) h
  have d1 : 1 ≤ (dv n p).natAbs := by omega
  constructor
  · conv => rhs; rw [e1, Int.natAbs_mul]
    exact Nat.le_mul_of_pos_left _ d1
  · conv => rhs; rw [e2, Int.natAbs_mul]
    exact Nat.le_mul_of_pos_left _ d1
theorem half_ok {rows : List (Int × Int)} {n : Int} (h : RowsOk rows) (hn0 : 0 ≤ n) (hn1 : n ≤ 200000000) : 0 < hfD rows n ∧ hfD rows n ≤ 100000000 ∧ (hfN rows n).natAbs ≤ 100000000 * 400000000 := by
  obtain ⟨a, b, c⟩ := half_bounds n hn0 hn1 rows 0 0 h.up h.le (by decide) (by decide) (by decide) (by decide)
  have l := fN_le (n := (halfGo 0 0 rows n).1) (p := (halfGo 0 0 rows n).2) (by omega)
  have p := fD_pos (n := (halfGo 0 0 rows n).1) (p := (halfGo 0 0 rows n).2) (by omega)
  unfold hfN hfD
  omega
theorem bt400 {x : Int} (h : x.natAbs < 2 ^ 100) : Bt 400 x := Bt.mono (m := 100) (Bt.iff.mpr h) (by decide)
theorem thick_b {one other : Str} : ∀ {th : List (Str × Str × Int)}, (∀ p ∈ th, 0 ≤ p.2.2 ∧ p.2.2 ≤ 20) → 0 ≤ thickGo one other th ∧ thickGo one other th ≤ 20
  | [], _ => by show 0 ≤ (1 : Int) ∧ (1 : Int) ≤ 20; omega
  | p :: r, h => by
    rw [thickGo]
    split
    · exact h p List.mem_cons_self
    · exact thick_b fun q hq => h q (List.mem_cons_of_mem _ hq)
theorem thickBy_b {one other : Str} {th : List (Str × Str × Int)} (h : ∀ p ∈ th, 0 ≤ p.2.2 ∧ p.2.2 ≤ 20) : 0 ≤ thickBy one other th ∧ thickBy one other th ≤ 20 := by
  unfold thickBy
  split
  · omega
  · exact thick_b h
theorem thickGo_comm (one other : Str) : ∀ th : List (Str × Str × Int), thickGo one other th = thickGo other one th
  | [] => rfl
  | p :: r => by
    rw [thickGo, thickGo, thickGo_comm one other r]
    by_cases h : (p.1 = one ∧ p.2.1 = other) ∨ (p.1 = other ∧ p.2.1 = one)
    · rw [if_pos h, if_pos h.symm]
    · rw [if_neg h, if_neg fun z => h z.symm]
theorem thickBy_comm (one other : Str) (th : List (Str × Str × Int)) : thickBy one other th = thickBy other one th := by
  unfold thickBy
  rw [thickGo_comm]
  by_cases h : one = other
  · rw [if_pos h, if_pos h.symm]
  · rw [if_neg h, if_neg fun z => h z.symm]
inductive spHB_ (K : PySem.W.Frag) (C : Addr) (vs : List V) (H : Hp) (Q : VK) : Prop where
  | mk (x : Addr) (rooms : List Int) (rows : List (Int × Int)) (th : List (Str × Str × Int)) (ap : List (Str × Str)) (one other : Str) (n : Int) : (vs = [.ref x, .str one, .str other, .int n, .bl false]) → (PipeD K H C x rooms rows th ap) → (DataOk rooms rows th ap) → (Let one) → (Let other) → (0 ≤ n) → (n ≤ 200000000) → (∀ (r : Addr) (H' : Hp), Same H H' → H' r = some (.tup [.int (fN (hfN rows n * thickBy one other th) (hfD rows n * 1)), .int (fD (hfN rows n * thickBy one other th) (hfD rows n * 1))]) → Q (.ref r) H') → spHB_ K C vs H Q
noncomputable def spHB (K : PySem.W.Frag) (C : Addr) : Sp := fun vs H Q _ => spHB_ K C vs H Q
theorem ok_half_between (T : Txt K mg t) : FnOk P w K mg base CX0 4 t.f_half_between t.d_half_between ["pipe", "one", "other", "distance", "with_pig"] (spHB K t.c_Pipe) := by
  have G_times := ok_times (P := P) (w := w) (base := base) T
  have G_half_at := ok_half_at (P := P) (w := w) (base := base) T
  have G_thick_of := ok_thick_of (P := P) (w := w) (base := base) T
  refine T.D_half_between.F.ok sc_half_between (fun vs H Q E h => ?_) (fun cdv A outer s H vs Q E hr h => ?_)
  · obtain ⟨x, rooms, rows, th, ap, one, other, n, rfl, _⟩ := h
    rfl
  obtain ⟨x, rooms, rows, th, ap, one, other, n, rfl, ⟨l1, l2, l3, l4, pg, r2, r3, r4, hP, _, h2, q2, h3, q3, _, _⟩, D, ho, ht, hn0, hn1, q⟩ := h
  obtain ⟨b1, b2, b3⟩ := half_ok D.rw hn0 hn1
  obtain ⟨k0, k1⟩ := thickBy_b (one := one) (other := other) D.thk
  refine ⟨_, (pss_cons (q_set (i := 5) qv_half_between sc_half_between.nd rfl rfl rfl (q_call G_times (hr.mono (by first | decide | omega)) qg_half_between 0 rfl rfl T.D_times.m T.D_times.F.kp T.D_times.b .nil pass0 (pa_cons (q_call G_half_at (hr.mono (by first | decide | omega)) qg_half_between 1 rfl rfl T.D_half_at.m T.D_half_at.F.kp T.D_half_at.b .nil pass0 (pa_cons (qv qv_half_between 0 rfl rfl rfl) (pa_cons (qv qv_half_between 3 rfl rfl rfl) pa_nil))) (pa_cons (pe_tup (pa_cons (q_call G_thick_of (hr.mono (by first | decide | omega)) qg_half_between 2 rfl rfl T.D_thick_of.m T.D_thick_of.F.kp T.D_thick_of.b .nil pass0 (pa_cons (qv qv_half_between 0 rfl rfl rfl) (pa_cons (qv qv_half_between 1 rfl rfl rfl) (pa_cons (qv qv_half_between 2 rfl rfl rfl) pa_nil)))) (pa_cons pe_int pa_nil))) pa_nil))))
      (pss_one (ps_ret (pe_ifExp (pt_val (qv qv_half_between 4 rfl rfl rfl)) (q_call G_times (hr.mono (by first | decide | omega)) qg_half_between 0 rfl rfl T.D_times.m T.D_times.F.kp T.D_times.b .nil pass0 (pa_cons (qv qv_half_between 5 rfl rfl rfl) (pa_cons (pe_fld (qv qv_half_between 0 rfl rfl rfl) rfl) pa_nil))) (qv qv_half_between 5 rfl rfl rfl))))), ?_⟩
  walk_at "vc"
  refine ⟨x, l1, l2, l3, l4, pg, r2, rows, n, rfl, hP, h2, q2, D.rw, hn0, hn1, fun r hr1 => ?_⟩
  have Y1 := same_new hr1 (.tup [.int (hfN rows n), .int (hfD rows n)])
  have g1 : upd H r (.tup [.int (hfN rows n), .int (hfD rows n)]) r = some (.tup [.int (hfN rows n), .int (hfD rows n)]) := upd_same
  show tCons _ _ _ (upd H r (.tup [.int (hfN rows n), .int (hfD rows n)])) _
  generalize upd H r (.tup [.int (hfN rows n), .int (hfD rows n)]) = H1 at *
  walk_at "vc"
  refine ⟨x, l1, l2, l3, l4, pg, r3, th, one, other, rfl, hP.same Y1, Y1.seq h3, q3.same Y1, D.thl, ho, ht, fun H2 S2 => ?_⟩
  walk_at "vc"
  refine ⟨(by show 2 ≤ sizeLine; decide), fun r' hr2 => ?_⟩
  have Y2 := same_new hr2 (.tup [.int (thickBy one other th), .int 1])
  refine ⟨r, r', _, _, _, _, rfl, ⟨Y2 _ _ (S2 _ _ g1), bt400 (by omega), bt400 (by omega), b1⟩, ⟨upd_same, bt400 (by omega), bt400 (by decide), by decide⟩, fun r3 hr3 => ?_⟩
  walk_at "vc"
  exact q r3 _ (Y1.trans (S2.trans (Y2.trans (same_new hr3 _)))) upd_same
open Classical in
inductive spWB_ (K : PySem.W.Frag) (C : Addr) (vs : List V) (H : Hp) (Q : VK) : Prop where
  | mk (x : Addr) (rooms : List Int) (rows : List (Int × Int)) (th : List (Str × Str × Int)) (ap : List (Str × Str)) (one other : Str) : (vs = [.ref x, .str one, .str other]) → (PipeD K H C x rooms rows th ap) → (DataOk rooms rows th ap) → (Let one) → (Let other) → ((((one, other) ∈ ap ∨ (other, one) ∈ ap) → ∀ H', Same H H' → Q .non H')) → ((¬ ((one, other) ∈ ap ∨ (other, one) ∈ ap) → ∀ (r : Addr) (H' : Hp), Same H H' → H' r = some (.tup [.int (fN (2 * thickBy one other th * hfN rows rooms.sum) (hfD rows rooms.sum)), .int (fD (2 * thickBy one other th * hfN rows rooms.sum) (hfD rows rooms.sum))]) → Q (.ref r) H')) → spWB_ K C vs H Q
open Classical in
noncomputable def spWB (K : PySem.W.Frag) (C : Addr) : Sp := fun vs H Q _ => spWB_ K C vs H Q
theorem ok_waste_between (T : Txt K mg t) : FnOk P w K mg base CX0 5 t.f_waste_between t.d_waste_between ["pipe", "one", "other"] (spWB K t.c_Pipe) := by
  have G_are_apart := ok_are_apart (P := P) (w := w) (base := base) T
  have G_times := ok_times (P := P) (w := w) (base := base) T
  have G_half_between := ok_half_between (P := P) (w := w) (base := base) T
  have G_end_of := ok_end_of (P := P) (w := w) (base := base) T
  refine T.D_waste_between.F.ok sc_waste_between (fun vs H Q E h => ?_) (fun cdv A outer s H vs Q E hr h => ?_)
  · obtain ⟨x, rooms, rows, th, ap, one, other, rfl, _⟩ := h
    rfl
  obtain ⟨x, rooms, rows, th, ap, one, other, rfl, hD, D, ho, ht, qA, qN⟩ := h
  obtain ⟨l1, l2, l3, l4, pg, r2, r3, r4, hP, h1, _, _, _, _, h4, q4⟩ := hD.at_
  obtain ⟨b1, b2, b3⟩ := half_ok D.rw D.s0 D.s1
  obtain ⟨k0, k1⟩ := thickBy_b (one := one) (other := other) D.thk
  refine ⟨_, (pss_cons (ps_if (pt_val (q_call G_are_apart (hr.mono (by first | decide | omega)) qg_waste_between 0 rfl rfl T.D_are_apart.m T.D_are_apart.F.kp T.D_are_apart.b .nil pass0 (pa_cons (qv qv_waste_between 0 rfl rfl rfl) (pa_cons (qv qv_waste_between 1 rfl rfl rfl) (pa_cons (qv qv_waste_between 2 rfl rfl rfl) pa_nil))))) (pss_one (ps_ret pe_non)) pss_nil)
      (pss_one (ps_ret (q_call G_times (hr.mono (by first | decide | omega)) qg_waste_between 1 rfl rfl T.D_times.m T.D_times.F.kp T.D_times.b .nil pass0 (pa_cons (pe_tup (pa_cons pe_int (pa_cons pe_int pa_nil))) (pa_cons (q_call G_half_between (hr.mono (by first | decide | omega)) qg_waste_between 2 rfl rfl T.D_half_between.m T.D_half_between.F.kp T.D_half_between.b .nil pass0 (pa_cons (qv qv_waste_between 0 rfl rfl rfl) (pa_cons (qv qv_waste_between 1 rfl rfl rfl) (pa_cons (qv qv_waste_between 2 rfl rfl rfl) (pa_cons (q_call G_end_of (hr.mono (by first | decide | omega)) qg_waste_between 3 rfl rfl T.D_end_of.m T.D_end_of.F.kp T.D_end_of.b .nil pass0 (pa_cons (qv qv_waste_between 0 rfl rfl rfl) pa_nil)) (pa_cons pe_bl pa_nil)))))) pa_nil)))))), ?_⟩
  walk_at "vc"
  refine ⟨x, l1, l2, l3, l4, pg, r4, ap, one, other, rfl, hP, h4, q4, D.apl, ho, ht, fun H1 S1 => ?_⟩
  walk_at "vc"
  by_cases e : (one, other) ∈ ap ∨ (other, one) ∈ ap
  · rw [dec_true e]
    walk_at "vc"
    exact qA e H1 S1
  rw [dec_false e]
  walk_at "vc"
  refine ⟨(by show 2 ≤ sizeLine; decide), fun r hr1 => ?_⟩
  have Y1 := same_new hr1 (.tup [.int 2, .int 1])
  have g1 : upd H1 r (.tup [.int 2, .int 1]) r = some (.tup [.int 2, .int 1]) := upd_same
  generalize upd H1 r (.tup [.int 2, .int 1]) = H2 at *
  walk_at "vc"
  refine ⟨x, l1, l2, l3, l4, pg, rooms, rfl, (hP.same S1).same Y1, Y1.seq (S1.seq h1), fun H3 S3 => ?_⟩
  have Z3 := S1.trans (Y1.trans S3)
  walk_at "vc"
  refine ⟨x, rooms, rows, th, ap, one, other, rooms.sum, rfl, hD.same Z3, D, ho, ht, D.s0, D.s1, fun r' H4 S4 g4 => ?_⟩
  have hp1 : hfD rows rooms.sum * 1 ≠ 0 := by omega
  have lm : (hfN rows rooms.sum * thickBy one other th).natAbs ≤ 100000000 * 400000000 * 20 := by rw [Int.natAbs_mul]; exact Nat.mul_le_mul b3 (by omega)
  have lf := fN_le (n := hfN rows rooms.sum * thickBy one other th) hp1
  have dp := fD_pos (n := hfN rows rooms.sum * thickBy one other th) hp1
  have ft := f_times (h1 := hfN rows rooms.sum) (k := thickBy one other th) b1
  generalize fN (hfN rows rooms.sum * thickBy one other th) (hfD rows rooms.sum * 1) = u at *
  generalize fD (hfN rows rooms.sum * thickBy one other th) (hfD rows rooms.sum * 1) = v at *
  walk_at "vc"
  refine ⟨r, r', _, _, _, _, rfl, ⟨S4 _ _ (S3 _ _ g1), bt400 (by decide), bt400 (by decide), by decide⟩, ⟨g4, bt400 (by omega), bt400 (by omega), dp⟩, fun r5 hr5 => ?_⟩
  rw [ft.1, ft.2]
  exact qN e r5 _ (Z3.trans (S4.trans (same_new hr5 _))) upd_same
structure FiveP (K : PySem.W.Frag) (H : Hp) (f a0 a1 a2 a3 a4 : Addr) (rooms : List Int) (rows : List (Int × Int)) (th : List (Str × Str × Int)) (ap : List (Str × Str)) (pg : Int × Int) : Prop where
  hf : H f = some (.lst [.ref a0, .ref a1, .ref a2, .ref a3, .ref a4])
  h0 : H a0 = some (.lst (rooms.map V.int))
  h1 : ∃ rs, H a1 = some (.lst rs) ∧ Reps K H rs (rows.map rowD)
  h2 : ∃ rs, H a2 = some (.lst rs) ∧ Reps K H rs (thickDs th)
  h3 : ∃ rs, H a3 = some (.lst rs) ∧ Reps K H rs (apartDs ap)
  h4 : H a4 = some (.tup [.int pg.1, .int pg.2])
  nd : f ∉ [a0, a1, a2, a3]
theorem FiveP.same {H H' : Hp} {f a0 a1 a2 a3 a4 : Addr} {rooms : List Int} {rows : List (Int × Int)} {th : List (Str × Str × Int)} {ap : List (Str × Str)} {pg : Int × Int} (h : FiveP K H f a0 a1 a2 a3 a4 rooms rows th ap pg) (e : Same H H') : FiveP K H' f a0 a1 a2 a3 a4 rooms rows th ap pg := by
  obtain ⟨hf, h0, ⟨r1, x1, y1⟩, ⟨r2, x2, y2⟩, ⟨r3, x3, y3⟩, h4, nd⟩ := h
  exact ⟨e _ _ hf, e _ _ h0, ⟨r1, e _ _ x1, y1.same e⟩, ⟨r2, e _ _ x2, y2.same e⟩, ⟨r3, e _ _ x3, y3.same e⟩, e _ _ h4, nd⟩
inductive spLow_ (vs : List V) (H : Hp) (Q : VK) : Prop where
  | mk (n p : Int) : (vs = [.int n, .int p]) → (0 < p) → (Bt 4000 p) → (∀ r, H r = none → Q (.ref r) (upd H r (.tup [.int (fN n p), .int (fD n p)]))) → spLow_  vs H Q
noncomputable def spLow : Sp := fun vs H Q _ => spLow_  vs H Q
theorem ok_l_lowest (T : Txt K mg t) : FnOk P w K mg base CX0 1 t.f_l_lowest t.d_l_lowest ["_law_number", "_law_parts"] spLow := by
  refine T.D_l_lowest.F.ok sc_l_lowest (fun vs H Q E h => ?_) (fun cdv A outer s H vs Q E hr h => ?_)
  · obtain ⟨n, p, rfl, _⟩ := h
    rfl
  obtain ⟨n, p, rfl, hp, hB, q⟩ := h
  have hb9 : Bt 9000 (dv n p) := (Bt.le (dv_le (by omega)) hB).mono (by decide)
  have dn := dv_ne (n := n) (p := p) (by omega)
  have ed : dv n p = ((Int.gcd (ab n) p : Nat) : Int) := by
    unfold dv
    rw [if_neg (by omega)]
    congr 1
    have := gcd_ab n p
    rw [gcd_ab_right] at this
    exact this.symm
  refine ⟨_, (pss_cons (q_set (i := 2) qv_l_lowest sc_l_lowest.nd rfl rfl rfl (q_callB call_absR qg_l_lowest 0 rfl rfl T.z_abs bo_abs (pa_cons (qv qv_l_lowest 0 rfl rfl rfl) pa_nil)))
      (pss_cons (q_set (i := 3) qv_l_lowest sc_l_lowest.nd rfl rfl rfl (qv qv_l_lowest 1 rfl rfl rfl))
      (pss_cons (ps_while PassesOwn.never (pt_cmpR op_gt (qv qv_l_lowest 3 rfl rfl rfl) pe_int (nomark _)) (pss_cons (q_set (i := 4) qv_l_lowest sc_l_lowest.nd rfl rfl rfl (pe_op op_mod (qv qv_l_lowest 2 rfl rfl rfl) (qv qv_l_lowest 3 rfl rfl rfl)))
      (pss_cons (q_set (i := 2) qv_l_lowest sc_l_lowest.nd rfl rfl rfl (qv qv_l_lowest 3 rfl rfl rfl))
      (pss_one (q_set (i := 3) qv_l_lowest sc_l_lowest.nd rfl rfl rfl (qv qv_l_lowest 4 rfl rfl rfl))))))
      (pss_one (ps_ret (pe_tup (pa_cons (pe_op op_fdivB (qv qv_l_lowest 0 rfl rfl rfl) (qv qv_l_lowest 2 rfl rfl rfl)) (pa_cons (pe_op op_fdivB (qv qv_l_lowest 1 rfl rfl rfl) (qv qv_l_lowest 2 rfl rfl rfl)) pa_nil)))))))), ?_⟩
  walk_at "vc"
  refine ⟨fun m σ H' => H' = H ∧ ∃ (x y : Int) (z : Option V), σ = [some (.int n), some (.int p), some (.int x), some (.int y), z] ∧ 0 ≤ x ∧ 0 ≤ y ∧ Int.gcd x y = Int.gcd (ab n) p ∧ m = y.toNat, ⟨_, rfl, _, _, _, rfl, ab_nonneg n, by omega, rfl, rfl⟩, ?_⟩
  rintro m σ H' ⟨rfl, x, y, z, rfl, hx, hy, hg, rfl⟩
  walk_at "vc"
  refine ite2 (fun c => ?_) (fun c => ?_)
  rotate_left
  · have y0 : y = 0 := by
      have := of_decide_eq_false (Bool.eq_false_iff.mpr c)
      omega
    subst y0
    have ex : x = dv n p := by rw [ed, ← hg]; exact (gcd_end hx).symm
    subst ex
    walk_at "vc"
    refine vc_rI (show CDivB n (dv n p) from ⟨dn, hb9⟩) ?_
    walk_at "vc"
    refine vc_rI (show CDivB p (dv n p) from ⟨dn, hb9⟩) ?_
    walk_at "vc"
    exact ⟨(by show 2 ≤ sizeLine; decide), q⟩
  have y1 : 0 < y := of_decide_eq_true c
  refine ⟨fun σ' H'' => ∃ m', m' < y.toNat ∧ _, fun _ _ h => h, ?_⟩
  walk_at "vc"
  refine ⟨_, ?_, rfl, y, x % y, _, rfl, hy, Int.emod_nonneg _ (by omega), (gcd_step hx y1).trans hg, rfl⟩
  have l1 := Int.emod_lt_of_pos x y1
  have l2 := Int.emod_nonneg x (show y ≠ 0 by omega)
  omega
inductive spLHalf_ (K : PySem.W.Frag) (vs : List V) (H : Hp) (Q : VK) : Prop where
  | mk (f a0 a1 a2 a3 a4 : Addr) (rs : List V) (rows : List (Int × Int)) (n : Int) : (vs = [.ref f, .int n]) → (SqL K H f [.ref a0, .ref a1, .ref a2, .ref a3, .ref a4]) → (SqL K H a1 rs) → (Reps K H rs (rows.map rowD)) → (RowsOk rows) → (0 ≤ n) → (n ≤ 200000000) → (∀ r, H r = none → Q (.ref r) (upd H r (.tup [.int (hfN rows n), .int (hfD rows n)]))) → spLHalf_ K vs H Q
noncomputable def spLHalf (K : PySem.W.Frag) : Sp := fun vs H Q _ => spLHalf_ K vs H Q
theorem ok_l_half (T : Txt K mg t) : FnOk P w K mg base CX0 2 t.f_l_half t.d_l_half ["_law_five_here", "_law_distance"] (spLHalf K) := by
  have G_l_lowest := ok_l_lowest (P := P) (w := w) (base := base) T
  refine T.D_l_half.F.ok sc_l_half (fun vs H Q E h => ?_) (fun cdv A outer s H vs Q E hr h => ?_)
  · obtain ⟨f, a0, a1, a2, a3, a4, rs, rows, n, rfl, _⟩ := h
    rfl
  obtain ⟨f, a0, a1, a2, a3, a4, rs, rows, n, rfl, hf, hl, hR, hok, hn0, hn1, q⟩ := h
  refine ⟨_, (pss_cons (q_set (i := 2) qv_l_half sc_l_half.nd rfl rfl rfl pe_int)
      (pss_cons (q_set (i := 3) qv_l_half sc_l_half.nd rfl rfl rfl pe_int)
      (pss_cons (ps_for PassesOwn.never rfl (pi_list (pe_ix ix_list (qv qv_l_half 0 rfl rfl rfl) pe_int (fun _ _ => rfl))) (pg_tup rfl (pgs_cons (q_name (i := 4) qv_l_half sc_l_half.nd rfl rfl rfl) (pgs_cons (q_name (i := 5) qv_l_half sc_l_half.nd rfl rfl rfl) pgs_nil))) (pss_cons (ps_if (pt_cmpR op_lt (qv qv_l_half 1 rfl rfl rfl) (qv qv_l_half 4 rfl rfl rfl) (nomark _)) (pss_one (ps_ret (q_call G_l_lowest (hr.mono (by first | decide | omega)) qg_l_half 0 rfl rfl T.D_l_lowest.m T.D_l_lowest.F.kp T.D_l_lowest.b .nil pass0 (pa_cons (pe_op op_add (pe_op op_mul (qv qv_l_half 3 rfl rfl rfl) (pe_op op_sub (qv qv_l_half 4 rfl rfl rfl) (qv qv_l_half 2 rfl rfl rfl))) (pe_op op_mul (pe_op op_sub (qv qv_l_half 5 rfl rfl rfl) (qv qv_l_half 3 rfl rfl rfl)) (pe_op op_sub (qv qv_l_half 1 rfl rfl rfl) (qv qv_l_half 2 rfl rfl rfl)))) (pa_cons (pe_op op_sub (qv qv_l_half 4 rfl rfl rfl) (qv qv_l_half 2 rfl rfl rfl)) pa_nil))))) pss_nil)
      (pss_cons (q_set (i := 2) qv_l_half sc_l_half.nd rfl rfl rfl (qv qv_l_half 4 rfl rfl rfl))
      (pss_one (q_set (i := 3) qv_l_half sc_l_half.nd rfl rfl rfl (qv qv_l_half 5 rfl rfl rfl))))))
      (pss_one (ps_ret (pe_tup (pa_cons (qv qv_l_half 3 rfl rfl rfl) (pa_cons pe_int pa_nil)))))))), ?_⟩
  walk_at "vc"
  have hlen : rs.length = rows.length := by rw [hR.length, List.length_map]
  refine ⟨a1, rfl, ⟨rs, hl⟩, for_list (xs := rs) (fun i σ H' => H' = H ∧ ∃ (near nh : Int) (u1 u2 : Option V), σ = [some (.ref f), some (.int n), some (.int near), some (.int nh), u1, u2] ∧
    halfGo near nh (rows.drop i) n = halfGo 0 0 rows n ∧ ((near, nh) :: rows.drop i).Pairwise (fun x y => x.1 < y.1 ∧ x.2 ≤ y.2) ∧ 0 ≤ near ∧ near ≤ 100000000 ∧ 0 ≤ nh ∧ nh ≤ 100000000)
    ⟨rfl, 0, 0, none, none, rfl, rfl, hok.up, by omega, by omega, by omega, by omega⟩ (fun i σ H' _ ⟨e, _⟩ => e ▸ hl) ?_ ?_⟩
  · rintro i y σ H' hy ⟨rfl, near, nh, u1, u2, rfl, hgo, hup, b1, b2, b3, b4⟩
    obtain ⟨r, a, hr', rfl, hs⟩ := row_of hR hy
    have hi : i < rows.length := (List.getElem?_eq_some_iff.mp hr').1
    have er : rows[i] = r := (List.getElem?_eq_some_iff.mp hr').2
    have ed : rows.drop i = r :: rows.drop (i + 1) := by rw [List.drop_eq_getElem_cons hi, er]
    have hle := hok.le r (er ▸ List.getElem_mem hi)
    rw [ed] at hgo hup
    obtain ⟨hup1, hup2⟩ := List.pairwise_cons.mp hup
    have h12 := hup1 r (List.mem_cons_self)
    refine vc_asgT hs rfl ?_
    walk_at "vc"
    obtain ⟨far, fh⟩ := r
    dsimp only at h12 hle
    refine ite2 (fun z => ?_) (fun z => ?_)
    · have z' : n < far := of_decide_eq_true z
      walk_at "vc"
      refine ⟨_, _, rfl, by omega, b4000 (by omega) (by omega), fun r hr2 => ?_⟩
      have e : halfGo 0 0 rows n = (nh * (far - near) + (fh - nh) * (n - near), far - near) := by
        rw [← hgo, halfGo, if_pos z']
      unfold hfN hfD at q
      rw [e] at q
      exact q r hr2
    · have z' : ¬ n < far := fun w => z (decide_eq_true w)
      walk_at "vc"
      refine ⟨rfl, far, fh, _, _, rfl, ?_, hup2, by omega, by omega, by omega, by omega⟩
      rw [← hgo, halfGo, if_neg z']
  · rintro σ H' ⟨rfl, near, nh, u1, u2, rfl, hgo, hup, b1, b2, b3, b4⟩
    walk_at "vc"
    refine ⟨(by show 2 ≤ sizeLine; decide), fun r hr2 => ?_⟩
    have e : halfGo 0 0 rows n = (nh, 1) := by
      rw [← hgo, hlen, List.drop_length]
      rfl
    unfold hfN hfD at q
    rw [e] at q
    have := q r hr2
    rw [(fN_one nh).1, (fN_one nh).2] at this
    exact this
open PySem.W in
theorem strs_kqd {x y : Str} (hx : Let x) (hy : Let y) : kqdOk 9 (.list ([x, y].map Dat.str)) = true := by
  simp only [List.map_cons, List.map_nil, kqdOk, List.all_cons, List.all_nil, Bool.and_true, Bool.and_eq_true]
  exact ⟨str_ok hx 8, str_ok hy 8⟩
inductive spLThick_ (K : PySem.W.Frag) (vs : List V) (H : Hp) (Q : VK) : Prop where
  | mk (f a0 a1 a2 a3 a4 : Addr) (rs : List V) (ps : List (Str × Str × Int)) (one other : Str) : (vs = [.ref f, .str one, .str other]) → (SqL K H f [.ref a0, .ref a1, .ref a2, .ref a3, .ref a4]) → (SqL K H a2 rs) → (Reps K H rs (thickDs ps)) → ((∀ p ∈ ps, Let p.1 ∧ Let p.2.1)) → (Let one) → (Let other) → (∀ H', Same H H' → Q (.int (thickBy one other ps)) H') → spLThick_ K vs H Q
noncomputable def spLThick (K : PySem.W.Frag) : Sp := fun vs H Q _ => spLThick_ K vs H Q
open PySem.W in
theorem reps_strs {H : Hp} : ∀ ss : List Str, Reps K H (ss.map V.str) (ss.map Dat.str)
  | [] => .nil
  | x :: r => .cons (.str x) (reps_strs r)
open PySem.W in
theorem strs_inj {l m : List Str} : Dat.list (l.map Dat.str) = .list (m.map Dat.str) ↔ l = m := by
  constructor
  · intro h
    have := Dat.list.inj h
    exact (List.map_inj_right (fun _ _ e => Dat.str.inj e)).mp this
  · rintro rfl
    rfl
open PySem.W in
theorem kqd_perm {l : List Str} {x y : Str} (h : l.Perm [x, y]) (hx : Let x) (hy : Let y) : kqdOk 9 (.list (l.map Dat.str)) = true := by
  rcases perm_two h with rfl | rfl
  · exact strs_kqd hx hy
  · exact strs_kqd hy hx
theorem ok_l_thick (T : Txt K mg t) : FnOk P w K mg base CX0 1 t.f_l_thick t.d_l_thick ["_law_five_here", "_law_one", "_law_other"] (spLThick K) := by
  refine T.D_l_thick.F.ok sc_l_thick (fun vs H Q E h => ?_) (fun cdv A outer s H vs Q E hr h => ?_)
  · obtain ⟨f, a0, a1, a2, a3, a4, rs, ps, one, other, rfl, _⟩ := h
    rfl
  obtain ⟨f, a0, a1, a2, a3, a4, rs, ps, one, other, rfl, hf, hl, hR, hps, ho, ht, q⟩ := h
  refine ⟨_, (pss_cons (ps_if (pt_cmpR op_eq (qv qv_l_thick 1 rfl rfl rfl) (qv qv_l_thick 2 rfl rfl rfl) (nomark _)) (pss_one (ps_ret pe_int)) pss_nil)
      (pss_cons (ps_for PassesOwn.never rfl (pi_list (pe_ix ix_list (qv qv_l_thick 0 rfl rfl rfl) pe_int (fun _ _ => rfl))) (pg_tup rfl (pgs_cons (q_name (i := 3) qv_l_thick sc_l_thick.nd rfl rfl rfl) (pgs_cons (q_name (i := 4) qv_l_thick sc_l_thick.nd rfl rfl rfl) (pgs_cons (q_name (i := 5) qv_l_thick sc_l_thick.nd rfl rfl rfl) pgs_nil)))) (pss_one (ps_if (pt_cmpR (op_eqD hr.units) (q_callB call_sortS qg_l_thick 0 rfl rfl T.z_sorted bo_sorted (pa_cons (pe_lst (pa_cons (qv qv_l_thick 3 rfl rfl rfl) (pa_cons (qv qv_l_thick 4 rfl rfl rfl) pa_nil))) pa_nil)) (q_callB call_sortS qg_l_thick 0 rfl rfl T.z_sorted bo_sorted (pa_cons (pe_lst (pa_cons (qv qv_l_thick 1 rfl rfl rfl) (pa_cons (qv qv_l_thick 2 rfl rfl rfl) pa_nil))) pa_nil)) (nomark _)) (pss_one (ps_ret (qv qv_l_thick 5 rfl rfl rfl))) pss_nil)))
      (pss_one (ps_ret pe_int)))), ?_⟩
  walk_at "vc"
  refine ite2 (fun z => ?_) (fun z => ?_)
  · have e : one = other := V.str.inj (of_decide_eq_true z)
    walk_at "vc"
    have := q H (Same.refl _)
    unfold thickBy at this
    rw [if_pos e] at this
    exact this
  have e : one ≠ other := fun e => z (decide_eq_true (congrArg V.str e))
  walk_at "vc"
  refine ⟨a2, rfl, ⟨rs, hl⟩, for_list (xs := rs) (fun i σ H' => Same H H' ∧ ∃ u1 u2 u3, σ = [some (.ref f), some (.str one), some (.str other), u1, u2, u3] ∧ thickGo one other (ps.drop i) = thickGo one other ps)
    ⟨Same.refl _, none, none, none, rfl, rfl⟩ (fun i σ H' _ ⟨sm, _⟩ => sm.seq hl) ?_ ?_⟩
  · rintro i y σ H' hy ⟨sm, u1, u2, u3, rfl, hgo⟩
    obtain ⟨p, a, hp, rfl, hs⟩ := triple_of hR hy
    refine vc_asgT (sm.tup hs) rfl ?_
    have hi : i < ps.length := (List.getElem?_eq_some_iff.mp hp).1
    have ep : ps[i] = p := (List.getElem?_eq_some_iff.mp hp).2
    have ed : ps.drop i = p :: ps.drop (i + 1) := by rw [List.drop_eq_getElem_cons hi, ep]
    obtain ⟨hp1, hp2⟩ := hps p (ep ▸ List.getElem_mem hi)
    rw [ed] at hgo
    walk_at "vc"
    refine ⟨(by show 2 ≤ sizeLine; decide), fun t1 ht1 => ?_⟩
    have s1 := same_new ht1 (.lst [.str p.1, .str p.2.1])
    walk_at "vc"
    refine vc_sortS (ss := [p.1, p.2.1]) (SqL.of upd_same) (by show 2 < 64; decide) fun l1 m1 hl1 pm1 sm1 => ?_
    have s2 := s1.trans (same_new hl1 (.lst (m1.map V.str)))
    have g1 : upd (upd H' t1 (.lst [.str p.1, .str p.2.1])) l1 (.lst (m1.map V.str)) l1 = some (.lst (m1.map V.str)) := upd_same
    generalize upd (upd H' t1 (.lst [.str p.1, .str p.2.1])) l1 (.lst (m1.map V.str)) = H2 at *
    walk_at "vc"
    refine ⟨(by show 2 ≤ sizeLine; decide), fun t2 ht2 => ?_⟩
    have s3 := same_new ht2 (.lst [.str one, .str other])
    walk_at "vc"
    refine vc_sortS (ss := [one, other]) (SqL.of upd_same) (by show 2 < 64; decide) fun l2 m2 hl2 pm2 sm2 => ?_
    have s4 := s3.trans (same_new hl2 (.lst (m2.map V.str)))
    have g2 : upd (upd H2 t2 (.lst [.str one, .str other])) l2 (.lst (m2.map V.str)) l2 = some (.lst (m2.map V.str)) := upd_same
    generalize upd (upd H2 t2 (.lst [.str one, .str other])) l2 (.lst (m2.map V.str)) = H3 at *
    refine ⟨.list (m1.map PySem.W.Dat.str), .list (m2.map PySem.W.Dat.str), .lst (SqL.of (s4 _ _ g1)) (reps_strs m1), .lst (SqL.of g2) (reps_strs m2), kqd_perm pm1 hp1 hp2, kqd_perm pm2 ho ht, ?_⟩
    have iff := two_sorted pm1 pm2 sm1 sm2
    by_cases c : (p.1 = one ∧ p.2.1 = other) ∨ (p.1 = other ∧ p.2.1 = one)
    · rw [dec_true (strs_inj.mpr (iff.mpr c))]
      walk_at "vc"
      have := q H3 (sm.trans (s2.trans s4))
      unfold thickBy at this
      rw [if_neg e, ← hgo, thickGo, if_pos c] at this
      exact this
    · rw [dec_false (fun z => c (iff.mp (strs_inj.mp z)))]
      walk_at "vc"
      refine ⟨sm.trans (s2.trans s4), _, _, _, rfl, ?_⟩
      rw [← hgo, thickGo, if_neg c]
  · rintro σ H' ⟨sm, u1, u2, u3, rfl, hgo⟩
    walk_at "vc"
    have := q H' sm
    unfold thickBy at this
    rw [if_neg e, ← hgo, List.drop_eq_nil_of_le (by rw [hR.length]; unfold thickDs; rw [List.length_map]; exact Nat.le_refl _)] at this
    exact this
open Classical in
inductive spLWaste_ (K : PySem.W.Frag) (vs : List V) (H : Hp) (Q : VK) : Prop where
  | mk (f a0 a1 a2 a3 a4 : Addr) (rooms : List Int) (rows : List (Int × Int)) (th : List (Str × Str × Int)) (ap : List (Str × Str)) (pg : Int × Int) (one other : Str) : (vs = [.ref f, .str one, .str other]) → (FiveP K H f a0 a1 a2 a3 a4 rooms rows th ap pg) → (DataOk rooms rows th ap) → (Let one) → (Let other) → ((((one, other) ∈ ap ∨ (other, one) ∈ ap) → ∀ H', Same H H' → Q .non H')) → ((¬ ((one, other) ∈ ap ∨ (other, one) ∈ ap) → ∀ (r : Addr) (H' : Hp), Same H H' → H' r = some (.tup [.int (fN (2 * thickBy one other th * hfN rows rooms.sum) (hfD rows rooms.sum)), .int (fD (2 * thickBy one other th * hfN rows rooms.sum) (hfD rows rooms.sum))]) → Q (.ref r) H')) → spLWaste_ K vs H Q
open Classical in
noncomputable def spLWaste (K : PySem.W.Frag) : Sp := fun vs H Q _ => spLWaste_ K vs H Q
theorem ok_l_waste (T : Txt K mg t) : FnOk P w K mg base CX0 3 t.f_l_waste t.d_l_waste ["_law_five_here", "_law_one", "_law_other"] (spLWaste K) := by
  have G_l_apart := ok_l_apart (P := P) (w := w) (base := base) T
  have G_l_half := ok_l_half (P := P) (w := w) (base := base) T
  have G_l_lowest := ok_l_lowest (P := P) (w := w) (base := base) T
  have G_l_thick := ok_l_thick (P := P) (w := w) (base := base) T
  refine T.D_l_waste.F.ok sc_l_waste (fun vs H Q E h => ?_) (fun cdv A outer s H vs Q E hr h => ?_)
  · obtain ⟨f, a0, a1, a2, a3, a4, rooms, rows, th, ap, pg, one, other, rfl, _⟩ := h
    rfl
  obtain ⟨f, a0, a1, a2, a3, a4, rooms, rows, th, ap, pg, one, other, rfl, F, D, ho, ht, qA, qN⟩ := h
  obtain ⟨r1, x1, y1⟩ := F.h1
  obtain ⟨r2, x2, y2⟩ := F.h2
  obtain ⟨r3, x3, y3⟩ := F.h3
  obtain ⟨b1, b2, b3⟩ := half_ok D.rw D.s0 D.s1
  obtain ⟨k0, k1⟩ := thickBy_b (one := one) (other := other) D.thk
  refine ⟨_, (pss_cons (ps_if (pt_val (q_call G_l_apart (hr.mono (by first | decide | omega)) qg_l_waste 0 rfl rfl T.D_l_apart.m T.D_l_apart.F.kp T.D_l_apart.b .nil pass0 (pa_cons (qv qv_l_waste 0 rfl rfl rfl) (pa_cons (qv qv_l_waste 1 rfl rfl rfl) (pa_cons (qv qv_l_waste 2 rfl rfl rfl) pa_nil))))) (pss_one (ps_ret pe_non)) pss_nil)
      (pss_cons (q_set (i := 3) qv_l_waste sc_l_waste.nd rfl rfl rfl (q_call G_l_half (hr.mono (by first | decide | omega)) qg_l_waste 1 rfl rfl T.D_l_half.m T.D_l_half.F.kp T.D_l_half.b .nil pass0 (pa_cons (qv qv_l_waste 0 rfl rfl rfl) (pa_cons (q_callB (call_sum rfl) qg_l_waste 2 rfl rfl T.z_sum bo_sum (pa_cons (pe_ix ix_list (qv qv_l_waste 0 rfl rfl rfl) pe_int (fun _ _ => rfl)) pa_nil)) pa_nil))))
      (pss_one (ps_ret (q_call G_l_lowest (hr.mono (by first | decide | omega)) qg_l_waste 3 rfl rfl T.D_l_lowest.m T.D_l_lowest.F.kp T.D_l_lowest.b .nil pass0 (pa_cons (pe_op op_mul (pe_op op_mul pe_int (q_call G_l_thick (hr.mono (by first | decide | omega)) qg_l_waste 4 rfl rfl T.D_l_thick.m T.D_l_thick.F.kp T.D_l_thick.b .nil pass0 (pa_cons (qv qv_l_waste 0 rfl rfl rfl) (pa_cons (qv qv_l_waste 1 rfl rfl rfl) (pa_cons (qv qv_l_waste 2 rfl rfl rfl) pa_nil))))) (pe_ix ix_tup (qv qv_l_waste 3 rfl rfl rfl) pe_int (fun _ _ => rfl))) (pa_cons (pe_ix ix_tup (qv qv_l_waste 3 rfl rfl rfl) pe_int (fun _ _ => rfl)) pa_nil))))))), ?_⟩
  walk_at "vc"
  refine ⟨f, a0, a1, a2, a3, a4, r3, ap, one, other, rfl, SqL.of F.hf, SqL.of x3, y3, D.apl, ho, ht, fun H1 S1 => ?_⟩
  walk_at "vc"
  by_cases e : (one, other) ∈ ap ∨ (other, one) ∈ ap
  · rw [dec_true e]
    walk_at "vc"
    exact qA e H1 S1
  rw [dec_false e]
  have hf1 := S1.seq (K := K) (SqL.of F.hf)
  walk_at "vc"
  refine vc_sum (S1.seq (SqL.of F.h0)) ?_
  walk_at "vc"
  refine ⟨f, a0, a1, a2, a3, a4, r1, rows, rooms.sum, rfl, hf1, SqL.of (S1 _ _ x1), y1.same S1, D.rw, D.s0, D.s1, fun r hr1 => ?_⟩
  have Y1 := same_new hr1 (.tup [.int (hfN rows rooms.sum), .int (hfD rows rooms.sum)])
  have g1 : SqT K (upd H1 r (.tup [.int (hfN rows rooms.sum), .int (hfD rows rooms.sum)])) r [.int (hfN rows rooms.sum), .int (hfD rows rooms.sum)] := SqT.of upd_same
  generalize upd H1 r (.tup [.int (hfN rows rooms.sum), .int (hfD rows rooms.sum)]) = H2 at *
  have Z2 := S1.trans Y1
  walk_at "vc"
  refine ⟨f, a0, a1, a2, a3, a4, r2, th, one, other, rfl, Z2.seq (SqL.of F.hf), SqL.of (Z2 _ _ x2), y2.same Z2, D.thl, ho, ht, fun H3 S3 => ?_⟩
  have g3 := S3.tup g1
  walk_at "vc"
  refine ⟨_, _, rfl, b1, b4000 (by omega) (by omega), fun r5 hr5 => ?_⟩
  walk_at "vc"
  exact qN e r5 _ (Z2.trans (S3.trans (same_new hr5 _))) upd_same
theorem ware_let {ws : List Str} (W : Wares ws) {i : Nat} (h : i < 6) : Let (ws.getD i (Str.ofString "")) := by
  have hi : i < ws.length := by rw [W.len]; exact h
  rw [List.getD_eq_getElem?_getD, List.getElem?_eq_getElem hi]
  exact (W.ok _ (List.getElem_mem hi)).1
structure Two5 (K : PySem.W.Frag) (H H' : Hp) (a2 a3 : Addr) (th : List (Str × Str × Int)) (m n : Nat) : Prop where
  h2 : ∃ ts, H' a2 = some (.lst ts) ∧ Reps K (hids [a2, a3] H') ts (thickDs th)
  h3 : ∃ as, H' a3 = some (.lst as) ∧ as.length ≤ n
  l2 : th.length ≤ m
  d2 : ∀ p ∈ th, Let p.1 ∧ Let p.2.1 ∧ 0 ≤ p.2.2 ∧ p.2.2 ≤ 3
  sm : Same (hids [a2, a3] H) (hids [a2, a3] H')
section
variable {H H' H'' : Hp} {a2 a3 : Addr} {th : List (Str × Str × Int)} {m n : Nat}
theorem Two5.new (W : Two5 K H H' a2 a3 th m n) (e : Same H' H'') : Two5 K H H'' a2 a3 th m n := by
  obtain ⟨⟨ts, h2, r2⟩, ⟨as, h3, l3⟩, l2, d2, sm⟩ := W
  exact ⟨⟨ts, e _ _ h2, r2.same e.hids⟩, ⟨as, e _ _ h3, l3⟩, l2, d2, sm.trans e.hids⟩
theorem Two5.mono {m' n' : Nat} (W : Two5 K H H' a2 a3 th m n) (e : m ≤ m') (e' : n ≤ n') : Two5 K H H' a2 a3 th m' n' := by
  obtain ⟨h2, ⟨as, h3, l3⟩, l2, d2, sm⟩ := W
  exact ⟨h2, ⟨as, h3, Nat.le_trans l3 e'⟩, Nat.le_trans l2 e, d2, sm⟩
theorem Two5.add2 {ts : List V} {p : Str × Str × Int} {a : Addr} (W : Two5 K H H' a2 a3 th m n) (ne : a2 ≠ a3) (h2 : H' a2 = some (.lst ts)) (r2 : Reps K (hids [a2, a3] H') ts (thickDs th)) (ha : H' a = some (.tup [.str p.1, .str p.2.1, .int p.2.2])) (x1 : Let p.1) (x2 : Let p.2.1) (x3 : 0 ≤ p.2.2) (x4 : p.2.2 ≤ 3) :
    Two5 K H (upd H' a2 (.lst (ts ++ [.ref a]))) a2 a3 (th ++ [p]) (m + 1) n := by
  obtain ⟨_, ⟨as, h3, l3⟩, l2, d2, sm⟩ := W
  have na : a ∉ [a2, a3] := by
    simp only [List.mem_cons, List.not_mem_nil, or_false, not_or]
    exact ⟨(fun z => by rw [z, h2] at ha; cases ha), (fun z => by rw [z, h3] at ha; cases ha)⟩
  have e : hids [a2, a3] (upd H' a2 (.lst (ts ++ [.ref a]))) = hids [a2, a3] H' := hids_upd (by simp)
  refine ⟨⟨_, upd_same, ?_⟩, ⟨as, by rw [upd_ne ne.symm]; exact h3, l3⟩, by rw [List.length_append, List.length_singleton]; omega, fun q hq => ?_, by rw [e]; exact sm⟩
  · rw [e]
    unfold thickDs at r2 ⊢
    rw [List.map_append]
    exact r2.append (.one (.tup (SqT.of (by rw [hids_at na]; exact ha)) (.cons (.str _) (.cons (.str _) (.cons (.int _) .nil)))))
  · rcases List.mem_append.mp hq with z | z
    · exact d2 q z
    · rw [List.mem_singleton.mp z]
      exact ⟨x1, x2, x3, x4⟩
theorem Two5.add3 {as : List V} {v : V} (W : Two5 K H H' a2 a3 th m n) (ne : a2 ≠ a3) (l3 : as.length ≤ n) : Two5 K H (upd H' a3 (.lst (as ++ [v]))) a2 a3 th m (n + 1) := by
  obtain ⟨⟨ts, h2, r2⟩, _, l2, d2, sm⟩ := W
  have e : hids [a2, a3] (upd H' a3 (.lst (as ++ [v]))) = hids [a2, a3] H' := hids_upd (by simp)
  exact ⟨⟨ts, by rw [upd_ne ne]; exact h2, by rw [e]; exact r2⟩, ⟨_, upd_same, by rw [List.length_append, List.length_singleton]; omega⟩, l2, d2, by rw [e]; exact sm⟩
end
structure FiveB (K : PySem.W.Frag) (H : Hp) (f a0 a1 a2 a3 a4 : Addr) (rooms : List Int) (rows : List (Int × Int)) (th : List (Str × Str × Int)) (pg : Int × Int) : Prop where
  hf : H f = some (.lst [.ref a0, .ref a1, .ref a2, .ref a3, .ref a4])
  h0 : H a0 = some (.lst (rooms.map V.int))
  h1 : ∃ rs, H a1 = some (.lst rs) ∧ Reps K H rs (rows.map rowD)
  h2 : ∃ rs, H a2 = some (.lst rs) ∧ Reps K H rs (thickDs th)
  h4 : H a4 = some (.tup [.int pg.1, .int pg.2])
structure OkB (most : Int) (rooms : List Int) (rows : List (Int × Int)) (th : List (Str × Str × Int)) : Prop where
  r0 : 1 ≤ rooms.length
  r4 : rooms.length ≤ 4
  rr : ∀ r ∈ rooms, 1 ≤ r ∧ r ≤ most
  w3 : rows.length ≤ 3
  wu : ((0, 0) :: rows).Pairwise fun x y => x.1 < y.1 ∧ x.2 ≤ y.2
  wb : ∀ r ∈ rows, r.1 ≤ 3 * (most + 3) ∧ r.2 ≤ 6 * (most + 2)
  tl : th.length ≤ 36
  thd : ∀ p ∈ th, Let p.1 ∧ Let p.2.1 ∧ 0 ≤ p.2.2 ∧ p.2.2 ≤ 3
inductive spFive53_ (K : PySem.W.Frag) (vs : List V) (H : Hp) (Q : VK) : Prop where
  | mk (c most : Int) (lw : Addr) (ws : List Str) : (vs = [.int c, .ref lw, .int most]) → (SqL K H lw (ws.map V.str)) → (Wares ws) → (1 ≤ most) → (most ≤ 1000000) → (∀ (f a0 a1 a2 a3 a4 : Addr) (rooms : List Int) (rows : List (Int × Int)) (th : List (Str × Str × Int)) (pg : Int × Int) (H' : Hp), H f = none → f ∉ [a0, a1, a2] → Same H H' → FiveB K H' f a0 a1 a2 a3 a4 rooms rows th pg → OkB most rooms rows th → Q (.ref f) H') → spFive53_ K vs H Q
noncomputable def spFive53 (K : PySem.W.Frag) : Sp := fun vs H Q _ => spFive53_ K vs H Q
theorem ok_l_five (T : Txt K mg t) : FnOk P w K mg base CX0 2 t.f_l_five t.d_l_five ["_law_cell", "_law_wares_here", "_law_most"] (spFive53 K) := by
  have G_l_mix := ok_l_mix (P := P) (w := w) (base := base) T
  refine T.D_l_five.F.ok sc_l_five (fun vs H Q E h => ?_) (fun cdv A outer s H vs Q E hr h => ?_)
  · obtain ⟨c, most, lw, ws, rfl, _⟩ := h
    rfl
  obtain ⟨c, most, lw, ws, rfl, hlw, hws, hm1, hm2, q⟩ := h
  refine ⟨_, (pss_cons (ps_setComp (i := 3) ["_law_k", "_law_most", "_law_cell"] [none, some 2, some 0] rfl sc_l_five.nd rfl (VOk.at qv_l_five (i := 3) rfl).2 (pi_range1 (qgl qg_l_five 0 rfl rfl) T.z_range (pa_cons (pe_op op_add pe_int (pe_op op_mod (q_call G_l_mix (hr.mono (by first | decide | omega)) qg_l_five 1 rfl rfl T.D_l_mix.m T.D_l_mix.F.kp T.D_l_mix.b .nil pass0 (pa_cons (qv qv_l_five 0 rfl rfl rfl) (pa_cons pe_int pa_nil))) pe_int)) pa_nil)) (fun _ _ _ _ => (pg_name (i := 0) (show (["_law_k", "_law_most", "_law_cell"] : List Str).Nodup by decide +kernel) rfl (Or.inl rfl))) (fun _ _ _ _ => pts_nil) (fun _ _ _ _ => (pe_op op_add pe_int (pe_op op_mod (pe_call G_l_mix (hr.mono (by decide)) rfl T.D_l_mix.m T.D_l_mix.F.kp T.D_l_mix.b .nil pass0 (pa_cons (pv 2) (pa_cons (pe_op op_add pe_int (pv 0)) pa_nil))) (pv 1)))) rfl rfl)
      (pss_cons (q_set (i := 4) qv_l_five sc_l_five.nd rfl rfl rfl (pe_lst pa_nil))
      (pss_cons (q_set (i := 5) qv_l_five sc_l_five.nd rfl rfl rfl pe_int)
      (pss_cons (q_set (i := 6) qv_l_five sc_l_five.nd rfl rfl rfl pe_int)
      (pss_cons (ps_for PassesOwn.never rfl (pi_range1 (qgl qg_l_five 0 rfl rfl) T.z_range (pa_cons (pe_op op_mod (q_call G_l_mix (hr.mono (by first | decide | omega)) qg_l_five 1 rfl rfl T.D_l_mix.m T.D_l_mix.F.kp T.D_l_mix.b .nil pass0 (pa_cons (qv qv_l_five 0 rfl rfl rfl) (pa_cons pe_int pa_nil))) pe_int) pa_nil)) (q_name (i := 7) qv_l_five sc_l_five.nd rfl rfl rfl) (pss_cons (q_set (i := 5) qv_l_five sc_l_five.nd rfl rfl rfl (pe_op op_add (pe_op op_add (qv qv_l_five 5 rfl rfl rfl) pe_int) (pe_op op_mod (q_call G_l_mix (hr.mono (by first | decide | omega)) qg_l_five 1 rfl rfl T.D_l_mix.m T.D_l_mix.F.kp T.D_l_mix.b .nil pass0 (pa_cons (qv qv_l_five 0 rfl rfl rfl) (pa_cons (pe_op op_add pe_int (qv qv_l_five 7 rfl rfl rfl)) pa_nil))) (pe_op op_add (pe_op op_fdiv (qv qv_l_five 2 rfl rfl rfl) pe_int) pe_int))))
      (pss_cons (q_set (i := 6) qv_l_five sc_l_five.nd rfl rfl rfl (pe_op op_add (qv qv_l_five 6 rfl rfl rfl) (pe_op op_mul (pe_op op_mod (q_call G_l_mix (hr.mono (by first | decide | omega)) qg_l_five 1 rfl rfl T.D_l_mix.m T.D_l_mix.F.kp T.D_l_mix.b .nil pass0 (pa_cons (qv qv_l_five 0 rfl rfl rfl) (pa_cons (pe_op op_add pe_int (qv qv_l_five 7 rfl rfl rfl)) pa_nil))) pe_int) (pe_op op_mod (q_call G_l_mix (hr.mono (by first | decide | omega)) qg_l_five 1 rfl rfl T.D_l_mix.m T.D_l_mix.F.kp T.D_l_mix.b .nil pass0 (pa_cons (qv qv_l_five 0 rfl rfl rfl) (pa_cons (pe_op op_add pe_int (qv qv_l_five 7 rfl rfl rfl)) pa_nil))) (pe_op op_add (pe_op op_fdiv (qv qv_l_five 2 rfl rfl rfl) pe_int) pe_int)))))
      (pss_one (ps_expr (pe_bm PySem.F.plainAttrs_list PySem.F.slot_list_append PySem.F.type_list_append mt_appendR (qv qv_l_five 4 rfl rfl rfl) (pa_cons (pe_tup (pa_cons (qv qv_l_five 5 rfl rfl rfl) (pa_cons (qv qv_l_five 6 rfl rfl rfl) pa_nil))) pa_nil)))))))
      (pss_cons (q_set (i := 8) qv_l_five sc_l_five.nd rfl rfl rfl (pe_lst pa_nil))
      (pss_cons (q_set (i := 9) qv_l_five sc_l_five.nd rfl rfl rfl (pe_lst pa_nil))
      (pss_cons (ps_for PassesOwn.never rfl (pi_range1 (qgl qg_l_five 0 rfl rfl) T.z_range (pa_cons pe_int pa_nil)) (q_name (i := 10) qv_l_five sc_l_five.nd rfl rfl rfl) (pss_one (ps_for PassesOwn.never rfl (pi_range1 (qgl qg_l_five 0 rfl rfl) T.z_range (pa_cons (qv qv_l_five 10 rfl rfl rfl) pa_nil)) (q_name (i := 11) qv_l_five sc_l_five.nd rfl rfl rfl) (pss_cons (q_set (i := 12) qv_l_five sc_l_five.nd rfl rfl rfl (q_call G_l_mix (hr.mono (by first | decide | omega)) qg_l_five 1 rfl rfl T.D_l_mix.m T.D_l_mix.F.kp T.D_l_mix.b .nil pass0 (pa_cons (qv qv_l_five 0 rfl rfl rfl) (pa_cons (pe_op op_add (pe_op op_add pe_int (pe_op op_mul pe_int (qv qv_l_five 10 rfl rfl rfl))) (qv qv_l_five 11 rfl rfl rfl)) pa_nil))))
      (pss_cons (q_set (i := 13) qv_l_five sc_l_five.nd rfl rfl rfl (pe_ix ix_list (pe_lst (pa_cons (pe_tup (pa_cons (pe_ix ix_list (qv qv_l_five 1 rfl rfl rfl) (qv qv_l_five 10 rfl rfl rfl) (fun _ _ => rfl)) (pa_cons (pe_ix ix_list (qv qv_l_five 1 rfl rfl rfl) (qv qv_l_five 11 rfl rfl rfl) (fun _ _ => rfl)) pa_nil))) (pa_cons (pe_tup (pa_cons (pe_ix ix_list (qv qv_l_five 1 rfl rfl rfl) (qv qv_l_five 11 rfl rfl rfl) (fun _ _ => rfl)) (pa_cons (pe_ix ix_list (qv qv_l_five 1 rfl rfl rfl) (qv qv_l_five 10 rfl rfl rfl) (fun _ _ => rfl)) pa_nil))) pa_nil))) (pe_op op_mod (qv qv_l_five 12 rfl rfl rfl) pe_int) (fun _ _ => rfl)))
      (pss_cons (ps_if (pt_cmpR op_eq (pe_op op_mod (pe_op op_fdiv (qv qv_l_five 12 rfl rfl rfl) pe_int) pe_int) pe_int (nomark _)) (pss_one (ps_expr (pe_bm PySem.F.plainAttrs_list PySem.F.slot_list_append PySem.F.type_list_append mt_appendR (qv qv_l_five 8 rfl rfl rfl) (pa_cons (pe_op op_catT (qv qv_l_five 13 rfl rfl rfl) (pe_tup (pa_cons (pe_op op_mod (pe_op op_fdiv (qv qv_l_five 12 rfl rfl rfl) pe_int) pe_int) pa_nil))) pa_nil)))) pss_nil)
      (pss_one (ps_if (pt_cmpR op_eq (pe_op op_mod (pe_op op_fdiv (qv qv_l_five 12 rfl rfl rfl) pe_int) pe_int) pe_int (nomark _)) (pss_one (ps_expr (pe_bm PySem.F.plainAttrs_list PySem.F.slot_list_append PySem.F.type_list_append mt_appendR (qv qv_l_five 9 rfl rfl rfl) (pa_cons (qv qv_l_five 13 rfl rfl rfl) pa_nil)))) pss_nil))))))))
      (pss_cons (q_set (i := 14) qv_l_five sc_l_five.nd rfl rfl rfl (pe_tup (pa_cons (pe_op op_mod (q_call G_l_mix (hr.mono (by first | decide | omega)) qg_l_five 1 rfl rfl T.D_l_mix.m T.D_l_mix.F.kp T.D_l_mix.b .nil pass0 (pa_cons (qv qv_l_five 0 rfl rfl rfl) (pa_cons pe_int pa_nil))) pe_int) (pa_cons (pe_op op_add pe_int (pe_op op_mod (q_call G_l_mix (hr.mono (by first | decide | omega)) qg_l_five 1 rfl rfl T.D_l_mix.m T.D_l_mix.F.kp T.D_l_mix.b .nil pass0 (pa_cons (qv qv_l_five 0 rfl rfl rfl) (pa_cons pe_int pa_nil))) pe_int)) pa_nil))))
      (pss_one (ps_ret (pe_lst (pa_cons (qv qv_l_five 3 rfl rfl rfl) (pa_cons (qv qv_l_five 4 rfl rfl rfl) (pa_cons (qv qv_l_five 8 rfl rfl rfl) (pa_cons (qv qv_l_five 9 rfl rfl rfl) (pa_cons (qv qv_l_five 14 rfl rfl rfl) pa_nil))))))))))))))))), ?_⟩
  walk_at "vc"
  have m4a : 0 ≤ mix c 19 % 4 := Int.emod_nonneg _ (by decide)
  have m4b : mix c 19 % 4 < 4 := Int.emod_lt_of_pos _ (by decide)
  refine ⟨1 + mix c 19 % 4, rfl, by omega, by omega, fun a0 ha0 => comp_gen (n := (1 + mix c 19 % 4).toNat) (fun i x => x = .int (0 + (i : Int))) ha0 (small (by omega)) (hJ_rng _ _ _)
    (fun i ys _ => ∃ ns : List Int, ys = ns.map V.int ∧ ns.length = i ∧ ∀ r ∈ ns, 1 ≤ r ∧ r ≤ most) (fun σ => ∃ u, σ = [u, some (.int most), some (.int c)]) ⟨[], rfl, rfl, by simp⟩ ⟨_, rfl⟩ ?_ ?_⟩
  · rintro i x ys σ H2 R1 R0 hi rfl ⟨u, rfl⟩ sm hDl ⟨ns, rfl, hl, hns⟩ k1 k0
    walk_at "vc"
    refine k1 _ _ _ (Same.refl _) ⟨_, rfl⟩ ⟨ns ++ [1 + mix c (20 + (0 + (i : Int))) % most], by rw [List.map_append]; rfl, by simp [hl], fun r hr => ?_⟩
    rcases List.mem_append.mp hr with hr | hr
    · exact hns r hr
    · rw [List.mem_singleton] at hr
      have a := Int.emod_nonneg (mix c (20 + (0 + (i : Int)))) (show most ≠ 0 by omega)
      have b := Int.emod_lt_of_pos (mix c (20 + (0 + (i : Int)))) (show 0 < most by omega)
      omega
  rintro ys H1 sm1 hDl hly ⟨rooms, rfl, hrl, hrr⟩
  walk_at "vc"
  refine ⟨Nat.zero_le _, fun a1 ha1 => ?_⟩
  walk_at "vc"
  have k4a : 0 ≤ mix c 30 % 4 := Int.emod_nonneg _ (by decide)
  have k4b : mix c 30 % 4 < 4 := Int.emod_lt_of_pos _ (by decide)
  have n01 : a0 ≠ a1 := ne_of_none hDl ha1
  refine ⟨_, rfl, by omega, by omega, for_range (n := (mix c 30 % 4).toNat) (fun i σ H' => ∃ (rs : List V) (rows : List (Int × Int)) (d h : Int) (u : Option V),
      σ = [some (.int c), some (.ref lw), some (.int most), some (.ref a0), some (.ref a1), some (.int d), some (.int h), u, none, none, none, none, none, none, none] ∧
      H' a1 = some (.lst rs) ∧ Reps K (hids [a1] H') rs (rows.map rowD) ∧ Rows d h rows ∧ rows.length = i ∧ d ≤ (i : Int) * (most + 3) ∧ h ≤ (i : Int) * (2 * (most + 2)) ∧ Same (hids [a1] H1) (hids [a1] H'))
    ⟨[], [], 0, 0, _, rfl, upd_same, .nil, ⟨by simp, by simp⟩, rfl, by omega, by omega, by rw [hids_upd (List.mem_singleton.mpr rfl)]; exact Same.refl _⟩ ?_ ?_⟩
  · rintro i σ H' hi ⟨rs, rows, d, h, u, rfl, hl1, hR, hRows, hlen, hd, hh, hsm⟩
    have q2 : 0 < most / 2 + 2 := by omega
    have q4 : 0 < most / 4 + 2 := by omega
    walk_at "vc"
    refine ⟨tyV_list (SqL.of hl1), ?_⟩
    walk_at "vc"
    refine ⟨(by show 2 ≤ sizeLine; decide), fun p hp => ?_⟩
    walk_at "vc"
    have npa : p ∉ [a1] := by simpa using (ne_of_none hl1 hp).symm
    have hrl2 := hR.length
    rw [List.length_map] at hrl2
    refine vc_append (K := K) (upd_keep hp hl1) (small1000 (by omega)) ?_
    have x1 := Int.emod_nonneg (mix c (31 + (0 + (i : Int)))) (show most / 2 + 2 ≠ 0 by omega)
    have x2 := Int.emod_lt_of_pos (mix c (31 + (0 + (i : Int)))) q2
    have y1 := Int.emod_nonneg (mix c (51 + (0 + (i : Int)))) (show most / 4 + 2 ≠ 0 by omega)
    have y2 := Int.emod_lt_of_pos (mix c (51 + (0 + (i : Int)))) q4
    have z1 := Int.emod_nonneg (mix c (41 + (0 + (i : Int)))) (show (3 : Int) ≠ 0 by decide)
    have z2 := Int.emod_lt_of_pos (mix c (41 + (0 + (i : Int)))) (show (0 : Int) < 3 by decide)
    have hw : 0 ≤ mix c (41 + (0 + (i : Int))) % 3 * (mix c (51 + (0 + (i : Int))) % (most / 4 + 2)) ∧ mix c (41 + (0 + (i : Int))) % 3 * (mix c (51 + (0 + (i : Int))) % (most / 4 + 2)) ≤ 2 * (most + 2) := by
      refine ⟨Int.mul_nonneg z1 y1, ?_⟩
      have := Int.mul_le_mul (show mix c (41 + (0 + (i : Int))) % 3 ≤ 2 by omega) (show mix c (51 + (0 + (i : Int))) % (most / 4 + 2) ≤ most + 2 by omega) y1 (by decide : (0 : Int) ≤ 2)
      exact this
    generalize mix c (41 + (0 + (i : Int))) % 3 * (mix c (51 + (0 + (i : Int))) % (most / 4 + 2)) = dh at *
    generalize mix c (31 + (0 + (i : Int))) % (most / 2 + 2) = dd at *
    have hs2 : Same (hids [a1] H') (hids [a1] (upd H' p (.tup [.int (d + 1 + dd), .int (h + dh)]))) := (same_new hp _).hids
    refine ⟨rs ++ [.ref p], rows ++ [(d + 1 + dd, h + dh)], d + 1 + dd, h + dh, _, rfl, upd_same, ?_, hRows.snoc (by omega) (by omega), by simp [hlen], ?_, step_le hh hw.2, ?_⟩
    · rw [hids_upd (List.mem_singleton.mpr rfl), List.map_append]
      exact (hR.same hs2).append (.one (.tup (SqT.of (show hids [a1] _ p = _ by rw [hids_at npa]; exact upd_same)) (.cons (.int _) (.cons (.int _) .nil))))
    · have := step_le (e := 1 + dd) hd (by omega)
      omega
    · have e := @hids_upd [a1] a1 (upd H' p (.tup [.int (d + 1 + dd), .int (h + dh)])) (.lst (rs ++ [.ref p])) (List.mem_singleton.mpr rfl)
      rw [e]
      exact hsm.trans hs2
  rintro σ H2 ⟨rs, rows, d, h, u, rfl, hl1, hR, hRows, hlen, hd, hh, hsm⟩
  walk_at "vc"
  refine ⟨Nat.zero_le _, fun a2 ha2 => ?_⟩
  walk_at "vc"
  refine ⟨Nat.zero_le _, fun a3 ha3 => ?_⟩
  walk_at "vc"
  have n23 : a2 ≠ a3 := ne_of_none upd_same ha3
  have ha3' : H2 a3 = none := by rw [upd_ne n23.symm] at ha3; exact ha3
  have s12 : Same H1 H2 := hsm.out (by simpa using ha1)
  have s02 : Same H H2 := sm1.trans s12
  have hl0 : H2 a0 = some (.lst (rooms.map V.int)) := s12 _ _ hDl
  have m2 : a2 ∈ [a2, a3] := by simp
  have m3 : a3 ∈ [a2, a3] := by simp
  have free2 : ∀ a ∈ [a2, a3], H2 a = none := fun a ha => by
    simp only [List.mem_cons, List.not_mem_nil, or_false] at ha
    rcases ha with rfl | rfl <;> assumption
  refine ⟨_, rfl, by decide, by decide, for_range (n := 6) (fun i σ H' => ∃ (th : List (Str × Str × Int)) (u1 u2 u3 u4 u5 : Option V),
      σ = [some (.int c), some (.ref lw), some (.int most), some (.ref a0), some (.ref a1), some (.int d), some (.int h), u1, some (.ref a2), some (.ref a3), u2, u3, u4, u5, none] ∧ Two5 K H2 H' a2 a3 th (6 * i) (6 * i))
    ⟨[], _, _, _, _, _, rfl, ⟨[], by rw [upd_ne n23]; exact upd_same, .nil⟩, ⟨[], upd_same, Nat.le_refl _⟩, Nat.le_refl _, (fun _ h => nomatch h), by rw [hids_upd m3, hids_upd m2]; exact Same.refl _⟩ ?_ ?_⟩
  · rintro i σ H' hi ⟨th, u1, u2, u3, u4, u5, rfl, W⟩
    walk_at "vc"
    refine ⟨_, rfl, by omega, by omega, for_range (n := (0 + (i : Int)).toNat) (fun j σ H' => ∃ (th : List (Str × Str × Int)) (u1 u3 u4 u5 : Option V),
      σ = [some (.int c), some (.ref lw), some (.int most), some (.ref a0), some (.ref a1), some (.int d), some (.int h), u1, some (.ref a2), some (.ref a3), some (.int (0 + (i : Int))), u3, u4, u5, none] ∧ Two5 K H2 H' a2 a3 th (6 * i + j) (6 * i + j))
      ⟨th, _, _, _, _, rfl, W⟩ ?_ ?_⟩
    rotate_left
    · rintro σ H' ⟨th, u1, u3, u4, u5, rfl, W⟩
      exact ⟨th, _, _, _, _, _, rfl, W.mono (by omega) (by omega)⟩
    rintro j σ H' hj ⟨th, u1, u3, u4, u5, rfl, W⟩
    have hj' : j < i := by omega
    have hlw1 := (s02.trans (W.sm.out free2)).seq hlw
    walk_at "vc"
    refine vc_ixL hlw1 (atW hws.len hi) ?_
    walk_at "vc"
    refine vc_ixL hlw1 (atW hws.len (by omega)) ?_
    walk_at "vc"
    refine ⟨(by show 2 ≤ sizeLine; decide), fun t1 ht1 => ?_⟩
    walk_at "vc"
    refine vc_ixL ((same_new ht1 _).seq hlw1) (atW hws.len (by omega)) ?_
    walk_at "vc"
    refine vc_ixL ((same_new ht1 _).seq hlw1) (atW hws.len hi) ?_
    walk_at "vc"
    refine ⟨(by show 2 ≤ sizeLine; decide), fun t2 ht2 => ?_⟩
    walk_at "vc"
    refine ⟨(by show 2 ≤ sizeLine; decide), fun l3 hl3 => ?_⟩
    walk_at "vc"
    generalize ho : mix c (60 + 6 * (0 + (i : Int)) + (0 + (j : Int))) = o
    have o0 : 0 ≤ o := ho ▸ mix_nonneg _ _
    have li := ware_let hws hi
    have lj := ware_let hws (show j < 6 by omega)
    generalize ws.getD i (Str.ofString "") = wi at *
    generalize ws.getD j (Str.ofString "") = wj at *
    generalize hHe : upd (upd (upd H' t1 (.tup [.str wi, .str wj])) t2 (.tup [.str wj, .str wi])) l3 (.lst [.ref t1, .ref t2]) = He
    have sHe : Same H' He := hHe ▸ (same_new ht1 _).trans ((same_new ht2 _).trans (same_new hl3 _))
    have We := W.new sHe
    have hlist : He l3 = some (.lst [.ref t1, .ref t2]) := hHe ▸ upd_same
    obtain ⟨tp, x, y, hat, htp, lx, ly⟩ : ∃ (tp : Addr) (x y : Str), atI [V.ref t1, V.ref t2] (o % 2) = some (.ref tp) ∧ He tp = some (.tup [.str x, .str y]) ∧ Let x ∧ Let y := by
      rcases (by omega : o % 2 = 0 ∨ o % 2 = 1) with e | e
      · exact ⟨t1, wi, wj, by rw [e]; rfl, hHe ▸ upd_keep hl3 (upd_keep ht2 upd_same), li, lj⟩
      · exact ⟨t2, wj, wi, by rw [e]; rfl, hHe ▸ upd_keep hl3 upd_same, lj, li⟩
    refine vc_ixL (SqL.of hlist) hat ?_
    walk_at "vcs"
    with_reducible refine tSeq.join (fun σ H'' => ∃ (th : List (Str × Str × Int)), σ = [some (.int c), some (.ref lw), some (.int most), some (.ref a0), some (.ref a1), some (.int d), some (.int h), u1, some (.ref a2), some (.ref a3), some (.int (0 + (i : Int))), some (.int (0 + (j : Int))), some (.int o), some (.ref tp), none] ∧ Two5 K H2 H'' a2 a3 th (6 * i + j + 1) (6 * i + j)) (fun R k => ?_) ?_
    · walk_at "vc"
      refine ite2 (fun z => ?_) (fun z => ?_)
      · walk_at "vc"
        obtain ⟨ts0, h20, _⟩ := We.h2
        refine ⟨tyV_list (SqL.of h20), ?_⟩
        walk_at "vc"
        refine ⟨(by show 1 ≤ sizeLine; decide), fun p1 hp1 => ?_⟩
        walk_at "vc"
        refine vc_catT (SqT.of (upd_keep hp1 htp)) (SqT.of upd_same) (by simp) (by simp) (by show 3 ≤ sizeLine; decide) fun p2 hp2 => ?_
        have sn := (same_new hp1 (.tup [.int (o / 6 % 4)])).trans (same_new hp2 (.tup [.str x, .str y, .int (o / 6 % 4)]))
        have Wn := We.new sn
        have gp2 : upd (upd He p1 (.tup [.int (o / 6 % 4)])) p2 (.tup [.str x, .str y, .int (o / 6 % 4)]) p2 = some (.tup [.str x, .str y, .int (o / 6 % 4)]) := upd_same
        walk_at "vc"
        obtain ⟨ts, h2, r2⟩ := Wn.h2
        have tl := r2.length
        unfold thickDs at tl
        rw [List.length_map] at tl
        have tl2 := Wn.l2
        refine vc_append (K := K) h2 (small1000 (by omega)) ?_
        exact k _ _ ⟨_, rfl, Wn.add2 n23 h2 r2 (p := (x, y, o / 6 % 4)) gp2 lx ly (by show 0 ≤ o / 6 % 4; omega) (by show o / 6 % 4 ≤ 3; omega)⟩
      · exact k _ _ ⟨_, rfl, We.mono (by omega) (by omega)⟩
    rintro σ H3 ⟨th3, rfl, W3⟩
    walk_at "vc"
    refine ite2 (fun z => ?_) (fun z => ?_)
    · obtain ⟨as, h3, l3⟩ := W3.h3
      walk_at "vc"
      refine ⟨tyV_list (SqL.of h3), ?_⟩
      walk_at "vc"
      refine vc_append (K := K) h3 (small1000 (by omega)) ?_
      exact ⟨_, _, _, _, _, rfl, W3.add3 n23 l3⟩
    · exact ⟨_, _, _, _, _, rfl, W3.mono (by omega) (by omega)⟩
  rintro σ H3 ⟨th, u1, u2, u3, u4, u5, rfl, W⟩
  walk_at "vc"
  refine ⟨(by show 2 ≤ sizeLine; decide), fun a4 ha4 => ?_⟩
  walk_at "vc"
  refine ⟨(by show 5 ≤ sizeLine; decide), fun f hf => ?_⟩
  have s23 : Same H2 H3 := W.sm.out free2
  obtain ⟨ts, h2, r2⟩ := W.h2
  have Y4 := same_new ha4 (.tup [.int (mix c 100 % 5), .int (4 + mix c 101 % 3)])
  have g4 : upd H3 a4 (.tup [.int (mix c 100 % 5), .int (4 + mix c 101 % 3)]) a4 = some (.tup [.int (mix c 100 % 5), .int (4 + mix c 101 % 3)]) := upd_same
  generalize upd H3 a4 (.tup [.int (mix c 100 % 5), .int (4 + mix c 101 % 3)]) = H4 at *
  have Y5 := same_new hf (.lst [.ref a0, .ref a1, .ref a2, .ref a3, .ref a4])
  have s3f := Y4.trans Y5
  have hfree := Y4.free hf
  have f0 : f ≠ a0 := (ne_of_none (s23 _ _ hl0) hfree).symm
  have f1 : f ≠ a1 := (ne_of_none (s23 _ _ hl1) hfree).symm
  have f2 : f ≠ a2 := (ne_of_none h2 hfree).symm
  have hM : 0 ≤ most + 3 := by omega
  refine q f a0 a1 a2 a3 a4 rooms rows th (mix c 100 % 5, 4 + mix c 101 % 3) _ ((s02.trans s23).free hfree) (by simp [f0, f1, f2]) ((s02.trans s23).trans s3f) ⟨upd_same, s3f _ _ (s23 _ _ hl0), ⟨rs, s3f _ _ (s23 _ _ hl1), (hR.same (hids_same _ _)).same (s23.trans s3f)⟩, ⟨ts, s3f _ _ h2, (r2.same (hids_same _ _)).same s3f⟩, Y5 _ _ g4⟩ ⟨by rw [hrl]; omega, by rw [hrl]; omega, hrr, by rw [hlen]; omega, hRows.up, fun r hr => ?_, W.l2, W.d2⟩
  have hb := hRows.all r (List.mem_cons_of_mem _ hr)
  have x1 := Int.mul_le_mul_of_nonneg_right (show (((mix c 30 % 4).toNat : Nat) : Int) ≤ 3 by omega) hM
  have x2 := Int.mul_le_mul_of_nonneg_right (show (((mix c 30 % 4).toNat : Nat) : Int) ≤ 3 by omega) (show 0 ≤ 2 * (most + 2) by omega)
  omega
theorem reps_noL {H H' : Hp} {rs : List V} {ds : List PySem.W.Dat} (n : noLs ds = true) (h : Reps K H rs ds) (e : ∀ b o, (∀ ys, H b ≠ some (.lst ys)) → H b = some o → H' b = some o) : Reps K H' rs ds := by
  refine h.sameT (fun b o hb ho => ?_) n
  obtain ⟨xs, r⟩ := hb
  exact e b o (fun ys hy => Rd.lst_ne hy r rfl) ho
theorem reps_set {H : Hp} {f : Addr} {xs : List V} {o : HO} {rs : List V} {ds : List PySem.W.Dat} (n : noLs ds = true) (hf : H f = some (.lst xs)) (h : Reps K H rs ds) : Reps K (upd H f o) rs ds :=
  reps_noL n h fun b u hn hu => by
    have : b ≠ f := fun z => hn xs (z ▸ hf)
    rw [upd_ne this]
    exact hu
theorem rows_noL (rs : List (Int × Int)) : noLs (rs.map rowD) = true := noLs_map (fun _ => rfl) rs
theorem thickDs_noL (es : List (Str × Str × Int)) : noLs (thickDs es) = true := noLs_map (fun _ => rfl) es
structure D50 (most : Int) (ws : List Str) (rooms : List Int) (rows : List (Int × Int)) (th : List (Str × Str × Int)) (ap : List (Str × Str)) : Prop where
  r0 : 1 ≤ rooms.length
  r4 : rooms.length ≤ 4
  rr : ∀ r ∈ rooms, 1 ≤ r ∧ r ≤ most
  w3 : rows.length ≤ 3
  wu : ((0, 0) :: rows).Pairwise fun x y => x.1 < y.1 ∧ x.2 ≤ y.2
  wb : ∀ r ∈ rows, r.1 ≤ 3 * (most + 3) ∧ r.2 ≤ 6 * (most + 2)
  tl : th.length ≤ 36
  al : ap.length ≤ 36
  thd : ∀ p ∈ th, Let p.1 ∧ Let p.2.1 ∧ 0 ≤ p.2.2 ∧ p.2.2 ≤ 3
  apd : ApOk ws ap
inductive spPipe50_ (K : PySem.W.Frag) (vs : List V) (H : Hp) (Q : VK) : Prop where
  | mk (c most : Int) (lw : Addr) (ws : List Str) : (vs = [.int c, .ref lw, .int most]) → (SqL K H lw (ws.map V.str)) → (Wares ws) → (1 ≤ most) → (most ≤ 1000000) → (∀ (f a0 a1 a2 a3 a4 : Addr) (rooms : List Int) (rows : List (Int × Int)) (th : List (Str × Str × Int)) (ap : List (Str × Str)) (pg : Int × Int) (H' : Hp), Same H H' → H f = none → FiveP K H' f a0 a1 a2 a3 a4 rooms rows th ap pg → D50 most ws rooms rows th ap → Q (.ref f) H') → spPipe50_ K vs H Q
noncomputable def spPipe50 (K : PySem.W.Frag) : Sp := fun vs H Q _ => spPipe50_ K vs H Q
theorem ok_l_pipe (T : Txt K mg t) : FnOk P w K mg base CX0 3 t.f_l_pipe t.d_l_pipe ["_law_cell", "_law_wares_here", "_law_most"] (spPipe50 K) := by
  have G_l_five := ok_l_five (P := P) (w := w) (base := base) T
  have G_l_mix := ok_l_mix (P := P) (w := w) (base := base) T
  refine T.D_l_pipe.F.ok sc_l_pipe (fun vs H Q E h => ?_) (fun cdv A outer s H vs Q E hr h => ?_)
  · obtain ⟨c, most, lw, ws, rfl, _⟩ := h
    rfl
  obtain ⟨c, most, lw, ws, rfl, hlw, W, m1, m2, q⟩ := h
  refine ⟨_, (pss_cons (q_set (i := 3) qv_l_pipe sc_l_pipe.nd rfl rfl rfl (q_call G_l_five (hr.mono (by first | decide | omega)) qg_l_pipe 0 rfl rfl T.D_l_five.m T.D_l_five.F.kp T.D_l_five.b .nil pass0 (pa_cons (qv qv_l_pipe 0 rfl rfl rfl) (pa_cons (qv qv_l_pipe 1 rfl rfl rfl) (pa_cons (qv qv_l_pipe 2 rfl rfl rfl) pa_nil)))))
      (pss_cons (ps_asg (pe_lst pa_nil) (pg_sub (qv qv_l_pipe 3 rfl rfl rfl) pe_int set_list))
      (pss_cons (ps_for PassesOwn.never rfl (pi_range1 (qgl qg_l_pipe 1 rfl rfl) T.z_range (pa_cons pe_int pa_nil)) (q_name (i := 4) qv_l_pipe sc_l_pipe.nd rfl rfl rfl) (pss_one (ps_for PassesOwn.never rfl (pi_range1 (qgl qg_l_pipe 1 rfl rfl) T.z_range (pa_cons (qv qv_l_pipe 4 rfl rfl rfl) pa_nil)) (q_name (i := 5) qv_l_pipe sc_l_pipe.nd rfl rfl rfl) (pss_cons (q_set (i := 6) qv_l_pipe sc_l_pipe.nd rfl rfl rfl (q_call G_l_mix (hr.mono (by first | decide | omega)) qg_l_pipe 2 rfl rfl T.D_l_mix.m T.D_l_mix.F.kp T.D_l_mix.b .nil pass0 (pa_cons (qv qv_l_pipe 0 rfl rfl rfl) (pa_cons (pe_op op_add (pe_op op_add pe_int (pe_op op_mul pe_int (qv qv_l_pipe 4 rfl rfl rfl))) (qv qv_l_pipe 5 rfl rfl rfl)) pa_nil))))
      (pss_one (ps_if (pt_cmpR op_eq (pe_op op_mod (qv qv_l_pipe 6 rfl rfl rfl) pe_int) pe_int (nomark _)) (pss_one (ps_expr (pe_bm PySem.F.plainAttrs_list PySem.F.slot_list_append PySem.F.type_list_append mt_appendR (pe_ix ix_list (qv qv_l_pipe 3 rfl rfl rfl) pe_int (fun _ _ => rfl)) (pa_cons (pe_ix ix_list (pe_lst (pa_cons (pe_tup (pa_cons (pe_ix ix_list (qv qv_l_pipe 1 rfl rfl rfl) (qv qv_l_pipe 4 rfl rfl rfl) (fun _ _ => rfl)) (pa_cons (pe_ix ix_list (qv qv_l_pipe 1 rfl rfl rfl) (qv qv_l_pipe 5 rfl rfl rfl) (fun _ _ => rfl)) pa_nil))) (pa_cons (pe_tup (pa_cons (pe_ix ix_list (qv qv_l_pipe 1 rfl rfl rfl) (qv qv_l_pipe 5 rfl rfl rfl) (fun _ _ => rfl)) (pa_cons (pe_ix ix_list (qv qv_l_pipe 1 rfl rfl rfl) (qv qv_l_pipe 4 rfl rfl rfl) (fun _ _ => rfl)) pa_nil))) pa_nil))) (pe_op op_mod (pe_op op_fdiv (qv qv_l_pipe 6 rfl rfl rfl) pe_int) pe_int) (fun _ _ => rfl)) pa_nil)))) pss_nil))))))
      (pss_one (ps_ret (qv qv_l_pipe 3 rfl rfl rfl)))))), ?_⟩
  walk_at "vc"
  refine ⟨c, most, lw, ws, rfl, hlw, W, m1, m2, fun f a0 a1 a2 a3 a4 rooms rows th pg H2 hf0 nd S2 F O => ?_⟩
  obtain ⟨r1, h1', q1⟩ := F.h1
  obtain ⟨r2, h2', q2⟩ := F.h2
  have hf := F.hf
  have h0 := F.h0
  simp only [List.mem_cons, List.not_mem_nil, or_false, not_or] at nd
  have q1' := q1
  have q2' := q2
  walk_at "vc"
  refine ⟨Nat.zero_le _, fun b3 hb3 => ?_⟩
  walk_at "vc"
  have Y3 := same_new hb3 (.lst [])
  have g3 : upd H2 b3 (.lst []) b3 = some (.lst []) := upd_same
  have n3f : b3 ≠ f := (ne_of_none hf hb3).symm
  have hb30 : H b3 = none := same_none S2 hb3
  refine vc_setL (Y3 _ _ hf) (j := 3) rfl ?_
  have S4 : Same H (upd (upd H2 b3 (.lst [])) f (.lst ([V.ref a0, .ref a1, .ref a2, .ref a3, .ref a4].set 3 (.ref b3)))) := (S2.trans Y3).updD hf0
  have f4 : upd (upd H2 b3 (.lst [])) f (.lst ([V.ref a0, .ref a1, .ref a2, .ref a3, .ref a4].set 3 (.ref b3))) f = some (.lst [.ref a0, .ref a1, .ref a2, .ref b3, .ref a4]) := upd_same
  have g34 : upd (upd H2 b3 (.lst [])) f (.lst ([V.ref a0, .ref a1, .ref a2, .ref a3, .ref a4].set 3 (.ref b3))) b3 = some (.lst []) := by rw [upd_ne n3f]; exact g3
  have h04 : upd (upd H2 b3 (.lst [])) f (.lst ([V.ref a0, .ref a1, .ref a2, .ref a3, .ref a4].set 3 (.ref b3))) a0 = some (.lst (rooms.map V.int)) := by rw [upd_ne (Ne.symm nd.1)]; exact Y3 _ _ h0
  have h14 : upd (upd H2 b3 (.lst [])) f (.lst ([V.ref a0, .ref a1, .ref a2, .ref a3, .ref a4].set 3 (.ref b3))) a1 = some (.lst r1) := by rw [upd_ne (Ne.symm nd.2.1)]; exact Y3 _ _ h1'
  have h24 : upd (upd H2 b3 (.lst [])) f (.lst ([V.ref a0, .ref a1, .ref a2, .ref a3, .ref a4].set 3 (.ref b3))) a2 = some (.lst r2) := by rw [upd_ne (Ne.symm nd.2.2)]; exact Y3 _ _ h2'
  have n4f : a4 ≠ f := fun e => by have := F.h4; rw [e, hf] at this; cases this
  have h44 : upd (upd H2 b3 (.lst [])) f (.lst ([V.ref a0, .ref a1, .ref a2, .ref a3, .ref a4].set 3 (.ref b3))) a4 = some (.tup [.int pg.1, .int pg.2]) := by rw [upd_ne n4f]; exact Y3 _ _ F.h4
  have q14 := reps_set (o := .lst ([V.ref a0, .ref a1, .ref a2, .ref a3, .ref a4].set 3 (.ref b3))) (rows_noL _) (Y3 _ _ hf) (q1'.same Y3)
  have q24 := reps_set (o := .lst ([V.ref a0, .ref a1, .ref a2, .ref a3, .ref a4].set 3 (.ref b3))) (thickDs_noL _) (Y3 _ _ hf) (q2'.same Y3)
  have n03 : a0 ≠ b3 := ne_of_none h0 hb3
  have n13 : a1 ≠ b3 := ne_of_none h1' hb3
  have n23 : a2 ≠ b3 := ne_of_none h2' hb3
  have n43 : a4 ≠ b3 := ne_of_none F.h4 hb3
  generalize upd (upd H2 b3 (.lst [])) f (.lst ([V.ref a0, .ref a1, .ref a2, .ref a3, .ref a4].set 3 (.ref b3))) = H4 at *
  have keep : ∀ {H' : Hp} {b : Addr} {o : HO}, Same (hid b3 H4) (hid b3 H') → b ≠ b3 → H4 b = some o → H' b = some o := fun {H' b o} e n hb => by
    have := e b o (by rw [hid_ne n]; exact hb)
    rw [hid_ne n] at this
    exact this
  walk_at "vc"
  refine ⟨_, rfl, by decide, by decide, for_range (n := 6) (fun i σ H' => ∃ (as : List V) (ap : List (Str × Str)) (u4 u5 u6 : Option V), σ = [some (.int c), some (.ref lw), some (.int most), some (.ref f), u4, u5, u6] ∧ Same (hid b3 H4) (hid b3 H') ∧ H' b3 = some (.lst as) ∧ Reps K (hid b3 H') as (apartDs ap) ∧ ApOk ws ap ∧ ap.length ≤ 6 * i)
    ⟨[], [], _, _, _, rfl, Same.refl _, g34, .nil, ⟨by simp, by simp⟩, by simp⟩ ?_ ?_⟩
  rotate_left
  · rintro σ H' ⟨as, ap, u4, u5, u6, rfl, sm, hb, hR, hA, hal⟩
    walk_at "vc"
    have SH : Same H H' := fun b o ho => keep sm (ne_of_none ho hb30) (S4 _ _ ho)
    have mv : ∀ b o, (∀ ys, H4 b ≠ some (.lst ys)) → H4 b = some o → H' b = some o := fun b o hn ho => keep sm (fun z => hn [] (z ▸ g34)) ho
    refine q f a0 a1 a2 b3 a4 rooms rows th ap pg H' SH hf0 ⟨keep sm (Ne.symm n3f) f4, keep sm n03 h04, ⟨r1, keep sm n13 h14, reps_noL (rows_noL _) q14 mv⟩, ⟨r2, keep sm n23 h24, reps_noL (thickDs_noL _) q24 mv⟩, ⟨as, hb, hR.same (hid_same _ _)⟩, keep sm n43 h44, ?_⟩ ⟨O.r0, O.r4, O.rr, O.w3, O.wu, O.wb, O.tl, by omega, O.thd, hA⟩
    simp only [List.mem_cons, List.not_mem_nil, or_false, not_or]
    exact ⟨nd.1, nd.2.1, nd.2.2, Ne.symm n3f⟩
  rintro i σ H' hi ⟨as, ap, u4, u5, u6, rfl, sm, hb, hR, hA, hal⟩
  walk_at "vc"
  refine ⟨_, rfl, by omega, by omega, for_range (n := (0 + (i : Int)).toNat) (fun j σ H' => ∃ (as : List V) (ap : List (Str × Str)) (u5 u6 : Option V), σ = [some (.int c), some (.ref lw), some (.int most), some (.ref f), some (.int (0 + (i : Int))), u5, u6] ∧ Same (hid b3 H4) (hid b3 H') ∧ H' b3 = some (.lst as) ∧ Reps K (hid b3 H') as (apartDs ap) ∧ ApOk ws ap ∧ ap.length ≤ 6 * i + j)
    ⟨as, ap, _, _, rfl, sm, hb, hR, hA, hal⟩ ?_ ?_⟩
  rotate_left
  · rintro σ H' ⟨as, ap, u5, u6, rfl, sm, hb, hR, hA, hal⟩
    exact ⟨as, ap, _, _, _, rfl, sm, hb, hR, hA, by omega⟩
  clear hb hR hA hal sm
  rintro j σ H' hj ⟨as, ap, u5, u6, rfl, sm, hb, hR, hA, hal⟩
  have hj' : j < i := by omega
  have SH : Same H H' := fun b o ho => keep sm (ne_of_none ho hb30) (S4 _ _ ho)
  have hlw1 := SH.seq hlw
  have hf1 := keep sm (Ne.symm n3f) f4
  have las : as.length = ap.length := by rw [hR.length]; unfold apartDs; rw [List.length_map]
  walk_at "vc"
  refine ite2 (fun z => ?_) (fun z => ?_)
  rotate_left
  · exact ⟨as, ap, _, _, rfl, sm, hb, hR, hA, by omega⟩
  walk_at "vc"
  refine ⟨tyV_list (SqL.of hb), ?_⟩
  walk_at "vc"
  refine vc_ixL hlw1 (atW W.len hi) ?_
  walk_at "vc"
  refine vc_ixL hlw1 (atW W.len (by omega)) ?_
  walk_at "vc"
  refine ⟨(by show 2 ≤ sizeLine; decide), fun t1 ht1 => ?_⟩
  walk_at "vc"
  refine vc_ixL ((same_new ht1 _).seq hlw1) (atW W.len (by omega)) ?_
  walk_at "vc"
  refine vc_ixL ((same_new ht1 _).seq hlw1) (atW W.len hi) ?_
  walk_at "vc"
  refine ⟨(by show 2 ≤ sizeLine; decide), fun t2 ht2 => ?_⟩
  walk_at "vc"
  refine ⟨(by show 2 ≤ sizeLine; decide), fun l3 hl3 => ?_⟩
  walk_at "vc"
  generalize ho : mix c (160 + 6 * (0 + (i : Int)) + (0 + (j : Int))) = o
  have o0 : 0 ≤ o := ho ▸ mix_nonneg _ _
  have mi : ws.getD i (Str.ofString "") ∈ ws := getD_mem (by rw [W.len]; omega)
  have mj : ws.getD j (Str.ofString "") ∈ ws := getD_mem (by rw [W.len]; omega)
  have nij : ws.getD i (Str.ofString "") ≠ ws.getD j (Str.ofString "") := fun e => by
    have := getD_inj W.nd (by rw [W.len]; omega) (by rw [W.len]; omega) e
    omega
  generalize ws.getD i (Str.ofString "") = wi at *
  generalize ws.getD j (Str.ofString "") = wj at *
  generalize hHe : upd (upd (upd H' t1 (.tup [.str wi, .str wj])) t2 (.tup [.str wj, .str wi])) l3 (.lst [.ref t1, .ref t2]) = He
  have sHe : Same H' He := hHe ▸ (same_new ht1 _).trans ((same_new ht2 _).trans (same_new hl3 _))
  have hlist : He l3 = some (.lst [.ref t1, .ref t2]) := hHe ▸ upd_same
  have hpair : ∃ (tp : Addr) (x y : Str), atI [V.ref t1, V.ref t2] (o / 4 % 2) = some (.ref tp) ∧ He tp = some (.tup [.str x, .str y]) ∧ x ∈ ws ∧ y ∈ ws ∧ x ≠ y := by
    rcases (by omega : o / 4 % 2 = 0 ∨ o / 4 % 2 = 1) with e | e
    · exact ⟨t1, wi, wj, by rw [e]; rfl, hHe ▸ upd_keep hl3 (upd_keep ht2 upd_same), mi, mj, nij⟩
    · exact ⟨t2, wj, wi, by rw [e]; rfl, hHe ▸ upd_keep hl3 upd_same, mj, mi, Ne.symm nij⟩
  obtain ⟨tp, x, y, hat, htp, hx, hy, nxy⟩ := hpair
  refine vc_ixL (SqL.of hlist) hat ?_
  walk_at "vc"
  have hbe := sHe _ _ hb
  refine vc_append (K := K) hbe (small1000 (by omega)) ?_
  have ntp : tp ≠ b3 := fun e => by rw [e, hbe] at htp; cases htp
  refine ⟨_, ap ++ [(x, y)], _, _, rfl, by rw [hid_upd]; exact sm.trans sHe.hid, upd_same, ?_, hA.snoc hx hy nxy, by rw [List.length_append, List.length_singleton]; omega⟩
  rw [hid_upd]
  unfold apartDs
  rw [List.map_append]
  exact (hR.same sHe.hid).append (.one (.tup (SqT.of (by rw [hid_ne ntp]; exact htp)) (.cons (.str _) (.cons (.str _) .nil))))
inductive spLPipe_ (K : PySem.W.Frag) (C : Addr) (vs : List V) (H : Hp) (Q : VK) : Prop where
  | mk (f a0 a1 a2 a3 : Addr) (pg : V) (s1 s2 s3 s4 : List V) : (vs = [.ref f]) → (SqL K H f [.ref a0, .ref a1, .ref a2, .ref a3, pg]) → (SqL K H a0 s1) → (SqL K H a1 s2) → (SqL K H a2 s3) → (SqL K H a3 s4) → (∀ (x dx l1 l2 l3 l4 : Addr) (H' : Hp), H x = none → (∀ l ∈ [l1, l2, l3, l4], H l = none) → [l1, l2, l3, l4].Nodup → x ∉ [l1, l2, l3, l4] → Same H H' → H' l1 = some (.lst s1) → H' l2 = some (.lst s2) → H' l3 = some (.lst s3) → H' l4 = some (.lst s4) → H' x = some (.ins C dx (pipeFs l1 l2 l3 l4 pg)) → Q (.ref x) H') → spLPipe_ K C vs H Q
noncomputable def spLPipe (K : PySem.W.Frag) (C : Addr) : Sp := fun vs H Q _ => spLPipe_ K C vs H Q
theorem ok_l_of (T : Txt K mg t) : FnOk P w K mg base CX0 3 t.f_l_of t.d_l_of ["_law_five_here"] (spLPipe K t.c_Pipe) := by
  have G_Pipe___init__ := ok_Pipe___init__ (P := P) (w := w) (base := base) T
  refine T.D_l_of.F.ok sc_l_of (fun vs H Q E h => ?_) (fun cdv A outer s H vs Q E hr h => ?_)
  · obtain ⟨f, a0, a1, a2, a3, pg, s1, s2, s3, s4, rfl, _⟩ := h
    rfl
  obtain ⟨f, a0, a1, a2, a3, pg, s1, s2, s3, s4, rfl, hf, h0, h1, h2, h3, q⟩ := h
  refine ⟨_, (pss_one (ps_ret (q_make T.M_Pipe G_Pipe___init__ (hr.mono (by decide)) qg_l_of 0 rfl rfl T.c_Pipe T.b_Pipe___init__ .nil pass0 (pa_cons (q_callTy call_listR qg_l_of 1 rfl rfl T.z_list bo_list (pa_cons (pe_ix ix_list (qv qv_l_of 0 rfl rfl rfl) pe_int (fun _ _ => rfl)) pa_nil)) (pa_cons (q_callTy call_listR qg_l_of 1 rfl rfl T.z_list bo_list (pa_cons (pe_ix ix_list (qv qv_l_of 0 rfl rfl rfl) pe_int (fun _ _ => rfl)) pa_nil)) (pa_cons (q_callTy call_listR qg_l_of 1 rfl rfl T.z_list bo_list (pa_cons (pe_ix ix_list (qv qv_l_of 0 rfl rfl rfl) pe_int (fun _ _ => rfl)) pa_nil)) (pa_cons (q_callTy call_listR qg_l_of 1 rfl rfl T.z_list bo_list (pa_cons (pe_ix ix_list (qv qv_l_of 0 rfl rfl rfl) pe_int (fun _ _ => rfl)) pa_nil)) (pa_cons (pe_ix ix_list (qv qv_l_of 0 rfl rfl rfl) pe_int (fun _ _ => rfl)) pa_nil)))))))), ?_⟩
  walk_at "vc"
  refine vc_listL h0 fun r1 e1 => ?_
  have S1 := same_new e1 (.lst s1)
  have g1 : upd H r1 (.lst s1) r1 = some (.lst s1) := upd_same
  generalize upd H r1 (.lst s1) = H1 at *
  have f1 := S1.seq hf
  walk_at "vc"
  refine vc_listL (S1.seq h1) fun r2 e2 => ?_
  have Z2 := same_new e2 (.lst s2)
  have S2 := S1.trans Z2
  have g2 : upd H1 r2 (.lst s2) r2 = some (.lst s2) := upd_same
  generalize upd H1 r2 (.lst s2) = H2 at *
  have f2 := S2.seq hf
  walk_at "vc"
  refine vc_listL (S2.seq h2) fun r3 e3 => ?_
  have Z3 := same_new e3 (.lst s3)
  have S3 := S2.trans Z3
  have g3 : upd H2 r3 (.lst s3) r3 = some (.lst s3) := upd_same
  generalize upd H2 r3 (.lst s3) = H3 at *
  have f3 := S3.seq hf
  walk_at "vc"
  refine vc_listL (S3.seq h3) fun r4 e4 => ?_
  have Z4 := same_new e4 (.lst s4)
  have S4 := S3.trans Z4
  have g4 : upd H3 r4 (.lst s4) r4 = some (.lst s4) := upd_same
  generalize upd H3 r4 (.lst s4) = H4 at *
  have f4 := S4.seq hf
  walk_at "vc"
  intro x dx hx hdx ndx
  have hxd : upd H4 dx (.own x) x = none := by rw [upd_ne (Ne.symm ndx)]; exact hx
  have SX : Same H4 (upd (upd H4 dx (.own x)) x (.ins t.c_Pipe dx [])) := (same_new hdx _).trans (same_new hxd _)
  have k1 := Z4 _ _ (Z3 _ _ (Z2 _ _ g1))
  have k2 := Z4 _ _ (Z3 _ _ g2)
  have k3 := Z4 _ _ g3
  refine ⟨x, dx, r1, r2, r3, r4, pg, _, _, _, _, rfl, upd_same, SqL.of (SX _ _ k1), SqL.of (SX _ _ k2), SqL.of (SX _ _ k3), SqL.of (SX _ _ g4), ?_, fun l1 l2 l3 l4 H5 hlf hlnd hls y1 y2 y3 y4 hx5 => ⟨rfl, ?_⟩⟩
  · simp only [List.mem_cons, List.not_mem_nil, or_false]
    rintro r (rfl | rfl | rfl | rfl)
    · exact ne_of_none k1 hx
    · exact ne_of_none k2 hx
    · exact ne_of_none k3 hx
    · exact ne_of_none g4 hx
  have S5 : Same H4 H5 := fun b o ho => by
    have nb : b ∉ [x] := by simpa using ne_of_none ho hx
    have := hls b o (by rw [hids_at nb]; exact SX _ _ ho)
    rw [hids_at nb] at this
    exact this
  refine q x dx l1 l2 l3 l4 H5 (same_none S4 hx) (fun l hl => same_none S4 (same_none SX (hlf l hl))) hlnd (fun hm => ?_) (S4.trans S5) y1 y2 y3 y4 hx5
  have := hlf x hm
  rw [upd_same] at this
  cases this
theorem cutV_drop (xs : List V) (k : Nat) : cutV xs (some (k : Int)) none = xs.drop k := by
  unfold cutV
  rw [HT.sIx_none, HT.sIx_nat]
  by_cases h : k ≤ xs.length
  · rw [Nat.min_eq_left h, List.take_of_length_le (by rw [List.length_drop]; omega)]
  · rw [Nat.min_eq_right (by omega), Nat.sub_self, List.take_zero, List.drop_of_length_le (by omega)]
structure Den (D : Int) : Prop where
  pos : 0 < D
  bt : Bt 1000 D
noncomputable def frD (D m : Int) : PySem.W.Dat := .tuple [.int (fN m D), .int (fD m D)]
noncomputable def frO (D m : Int) : HO := .tup [.int (fN m D), .int (fD m D)]
theorem fd_worth {D : Int} (h : Den D) (m : Int) : fN m D * D = m * fD m D := f_worth (by have := h.pos; omega)
theorem fd_pos {D : Int} (h : Den D) (m : Int) : 0 < fD m D := fD_pos (by have := h.pos; omega)
theorem fd_le {D : Int} (h : Den D) (m : Int) : (fN m D).natAbs ≤ m.natAbs ∧ (fD m D).natAbs ≤ D.natAbs := by
  have hd : D ≠ 0 := by have := h.pos; omega
  have e1 := fN_eq (n := m) hd
  have e2 := fD_eq (n := m) hd
  have d := dv_ne (n := m) hd
  have d1 : 1 ≤ (dv m D).natAbs := by omega
  constructor
  · conv => rhs; rw [e1, Int.natAbs_mul]
    exact Nat.le_mul_of_pos_left _ d1
  · conv => rhs; rw [e2, Int.natAbs_mul]
    exact Nat.le_mul_of_pos_left _ d1
theorem fd_bt {D m : Int} (h : Den D) (l : Bt 1100 m) : Bt 1100 (fN m D) ∧ Bt 1000 (fD m D) := ⟨Bt.le (fd_le h m).1 l, Bt.le (fd_le h m).2 h.bt⟩
theorem fd_zero {D : Int} (h : Den D) : (HO.tup [.int 0, .int 1]) = frO D 0 := by
  have p := h.pos
  have e := f_uniq (n := 0) (p := D) (n' := 0) (p' := 1) (by omega) (by decide) (by omega)
  unfold frO
  rw [e.1, e.2]
  rfl
noncomputable def FrD (K : PySem.W.Frag) (H : Hp) (D : Int) (r : Addr) (m : Int) : Prop := SqT K H r [.int (fN m D), .int (fD m D)]
theorem FrD.of {H : Hp} {D : Int} {r : Addr} {m : Int} (h : H r = some (frO D m)) : FrD K H D r m := SqT.of h
theorem FrD.same {H H' : Hp} {D : Int} {r : Addr} {m : Int} (h : FrD K H D r m) (e : Same H H') : FrD K H' D r m := e.tup h
theorem sumD {D : Int} (h : Den D) (a b : Int) : fN (fN a D * fD b D + fN b D * fD a D) (fD a D * fD b D) = fN (a + b) D ∧ fD (fN a D * fD b D + fN b D * fD a D) (fD a D * fD b D) = fD (a + b) D := by
  have wa := fd_worth h a
  have wb := fd_worth h b
  have pa := fd_pos h a
  have pb := fd_pos h b
  have p := h.pos
  refine f_uniq (Int.mul_ne_zero (by omega) (by omega)) (by omega) ?_
  generalize fN a D = x at *
  generalize fD a D = y at *
  generalize fN b D = u at *
  generalize fD b D = v at *
  calc (x * v + u * y) * D = (x * D) * v + (u * D) * y := by rw [Int.add_mul]; ac_rfl
    _ = a * y * v + b * v * y := by rw [wa, wb]
    _ = (a + b) * (y * v) := by rw [Int.add_mul]; ac_rfl
inductive spSumD_ (K : PySem.W.Frag) (vs : List V) (H : Hp) (Q : VK) : Prop where
  | mk (D : Int) (r1 r2 : Addr) (a b : Int) : (vs = [.ref r1, .ref r2]) → (Den D) → (FrD K H D r1 a) → (FrD K H D r2 b) → (Bt 1100 a) → (Bt 1100 b) → (∀ r, H r = none → Q (.ref r) (upd H r (frO D (a + b)))) → spSumD_ K vs H Q
noncomputable def spSumD (K : PySem.W.Frag) : Sp := fun vs H Q _ => spSumD_ K vs H Q
theorem ok_sum_of (T : Txt K mg t) : FnOk P w K mg base CX0 3 t.f_sum_of t.d_sum_of ["one", "other"] (spSumD K) := by
  have G_made := ok_made (P := P) (w := w) (base := base) T
  refine T.D_sum_of.F.ok sc_sum_of (fun vs H Q E h => ?_) (fun cdv A outer s H vs Q E hr h => ?_)
  · obtain ⟨D, r1, r2, a, b, rfl, _⟩ := h
    rfl
  obtain ⟨D, r1, r2, a, b, rfl, hD, g1, g2, la, lb, q⟩ := h
  unfold FrD at g1 g2
  have e := sumD hD a b
  have pa := fd_pos hD a
  have pb := fd_pos hD b
  obtain ⟨ba, bb⟩ := fd_bt hD la
  obtain ⟨bc, bd⟩ := fd_bt hD lb
  replace ba : Bt 4000 _ := ba.mono (by decide)
  replace bc : Bt 4000 _ := bc.mono (by decide)
  have bb4 : Bt 4000 _ := bb.mono (show 1000 ≤ 4000 by decide)
  have bd4 : Bt 4000 _ := bd.mono (show 1000 ≤ 4000 by decide)
  have m1 : CMulB (fN a D) (fD b D) := ⟨ba, bd4⟩
  have m2 : CMulB (fN b D) (fD a D) := ⟨bc, bb4⟩
  have m3 : CMulB (fD a D) (fD b D) := ⟨bb4, bd4⟩
  unfold frO at q
  rw [← e.1, ← e.2] at q
  generalize fN a D = x at *
  generalize fD a D = y at *
  generalize fN b D = u at *
  generalize fD b D = v at *
  refine ⟨_, (pss_one (ps_ret (q_call G_made (hr.mono (by first | decide | omega)) qg_sum_of 0 rfl rfl T.D_made.m T.D_made.F.kp T.D_made.b .nil pass0 (pa_cons (pe_op op_add (pe_op op_mulB (pe_ix ix_tup (qv qv_sum_of 0 rfl rfl rfl) pe_int (fun _ _ => rfl)) (pe_ix ix_tup (qv qv_sum_of 1 rfl rfl rfl) pe_int (fun _ _ => rfl))) (pe_op op_mulB (pe_ix ix_tup (qv qv_sum_of 1 rfl rfl rfl) pe_int (fun _ _ => rfl)) (pe_ix ix_tup (qv qv_sum_of 0 rfl rfl rfl) pe_int (fun _ _ => rfl)))) (pa_cons (pe_op op_mulB (pe_ix ix_tup (qv qv_sum_of 0 rfl rfl rfl) pe_int (fun _ _ => rfl)) (pe_ix ix_tup (qv qv_sum_of 1 rfl rfl rfl) pe_int (fun _ _ => rfl))) pa_nil))))), ?_⟩
  walk_at "vc"
  exact ⟨_, _, rfl, Int.mul_ne_zero (by omega) (by omega), (Bt.mul bb bd).mono (by decide), q⟩
noncomputable abbrev Cand := List Int × Int
noncomputable def better (b : Option Cand) (c : Cand) : Option Cand := match b with
  | none => some c
  | some a => if c.2 < a.2 then some c else some a
noncomputable def firstMin (cs : List Cand) : Option Cand := cs.foldl better none
noncomputable def merge2 (a b : Option Cand) : Option Cand := match b with
  | none => a
  | some c => better a c
theorem better_merge (a : Option Cand) (b : Option Cand) (c : Cand) : better (merge2 a b) c = merge2 a (better b c) := by
  cases a with
  | none => cases b <;> first | rfl | (simp only [merge2, better]; split <;> rfl)
  | some a =>
    cases b with
    | none => rfl
    | some b =>
      simp only [merge2, better]
      by_cases h1 : b.2 < a.2 <;> by_cases h2 : c.2 < b.2 <;> by_cases h3 : c.2 < a.2 <;> simp only [h1, h2, h3, if_true, if_false] <;> omega
theorem fold_merge (a : Option Cand) (cs : List Cand) : cs.foldl better a = merge2 a (firstMin cs) := by
  unfold firstMin
  suffices h : ∀ (b : Option Cand), cs.foldl better (merge2 a b) = merge2 a (cs.foldl better b) from h none
  induction cs with
  | nil => intro b; rfl
  | cons c cs ih =>
    intro b
    rw [List.foldl_cons, List.foldl_cons, better_merge]
    exact ih _
theorem first_append (a b : List Cand) : firstMin (a ++ b) = merge2 (firstMin a) (firstMin b) := by
  unfold firstMin
  rw [List.foldl_append]
  exact fold_merge _ b
noncomputable def addF (x u : Int) (c : Cand) : Cand := (x :: c.1, u + c.2)
theorem first_map (x u : Int) (cs : List Cand) : firstMin (cs.map (addF x u)) = (firstMin cs).map (addF x u) := by
  unfold firstMin
  suffices h : ∀ b : Option Cand, (cs.map (addF x u)).foldl better (b.map (addF x u)) = (cs.foldl better b).map (addF x u) from h none
  induction cs with
  | nil => intro b; rfl
  | cons c cs ih =>
    intro b
    rw [List.map_cons, List.foldl_cons, List.foldl_cons, ← ih]
    congr 1
    cases b with
    | none => rfl
    | some b =>
      have l : (addF x u c).2 < (addF x u b).2 ↔ c.2 < b.2 := by
        show u + c.2 < u + b.2 ↔ _
        omega
      show (if (addF x u c).2 < (addF x u b).2 then some (addF x u c) else some (addF x u b)) = Option.map (addF x u) (if c.2 < b.2 then some c else some b)
      by_cases h : c.2 < b.2
      · rw [if_pos h, if_pos (l.mpr h)]
        rfl
      · rw [if_neg h, if_neg (fun z => h (l.mp z))]
        rfl
noncomputable def bestM (M : Int → Int → Option Int) : Nat → Int → List Int → Option Cand
  | 0, _, _ => some ([], 0)
  | n + 1, last, rest => firstMin (rest.filterMap fun x => (M last x).bind fun u => (bestM M n x (rest.filter fun y => decide (y ≠ x))).map (addF x u))
noncomputable def allM (M : Int → Int → Option Int) : Nat → Int → List Int → List Cand
  | 0, _, _ => [([], 0)]
  | n + 1, last, rest => rest.flatMap fun x => match M last x with
    | none => []
    | some u => (allM M n x (rest.filter fun y => decide (y ≠ x))).map (addF x u)
theorem best_all (M : Int → Int → Option Int) : ∀ (n : Nat) (last : Int) (rest : List Int), bestM M n last rest = firstMin (allM M n last rest)
  | 0, _, _ => rfl
  | n + 1, last, rest => by
    unfold bestM allM
    have ih := best_all M n
    generalize (fun x : Int => rest.filter fun y => decide (y ≠ x)) = cut at *
    suffices h : ∀ (l : List Int) (g : Int → List Int), firstMin (l.filterMap fun x => (M last x).bind fun u => (bestM M n x (g x)).map (addF x u)) = firstMin (l.flatMap fun x => match M last x with | none => [] | some u => (allM M n x (g x)).map (addF x u)) from h rest _
    intro l g
    induction l with
    | nil => rfl
    | cons x l ih2 =>
      rw [List.flatMap_cons, first_append, ← ih2, List.filterMap_cons]
      cases hm : M last x with
      | none =>
        show firstMin (l.filterMap _) = merge2 (firstMin []) _
        generalize firstMin (l.filterMap _) = z
        cases z with
        | none => rfl
        | some z => rfl
      | some u =>
        rw [first_map, ← ih x (g x)]
        rw [Option.bind_some]
        cases hb : (bestM M n x (g x)).map (addF x u) with
        | none =>
          dsimp only
          generalize firstMin (l.filterMap _) = z
          cases z with
          | none => rfl
          | some z => rfl
        | some c =>
          dsimp only
          show firstMin ([c] ++ l.filterMap _) = _
          rw [first_append]
          rfl
theorem allM_succ (M : Int → Int → Option Int) (n : Nat) (last : Int) (rest : List Int) : allM M (n + 1) last rest = rest.flatMap fun x => match M last x with
    | none => []
    | some u => (allM M n x (rest.filter fun y => decide (y ≠ x))).map (addF x u) := rfl
theorem below_D {D : Int} (h : Den D) (a b : Int) : fN a D * fD b D < fN b D * fD a D ↔ a < b := by
  have wa := fd_worth h a
  have wb := fd_worth h b
  have pa := fd_pos h a
  have pb := fd_pos h b
  have pD := h.pos
  have pp := Int.mul_pos pa pb
  have e1 : fN a D * fD b D * D = a * (fD a D * fD b D) := by
    calc fN a D * fD b D * D = (fN a D * D) * fD b D := by ac_rfl
      _ = a * (fD a D * fD b D) := by rw [wa]; ac_rfl
  have e2 : fN b D * fD a D * D = b * (fD a D * fD b D) := by
    calc fN b D * fD a D * D = (fN b D * D) * fD a D := by ac_rfl
      _ = b * (fD a D * fD b D) := by rw [wb]; ac_rfl
  constructor
  · intro q
    have := Int.mul_lt_mul_of_pos_right q pD
    rw [e1, e2] at this
    exact Int.lt_of_mul_lt_mul_right this (Int.le_of_lt pp)
  · intro q
    have := Int.mul_lt_mul_of_pos_right q pp
    rw [← e1, ← e2] at this
    exact Int.lt_of_mul_lt_mul_right this (Int.le_of_lt pD)
inductive spBelowD_ (K : PySem.W.Frag) (vs : List V) (H : Hp) (Q : VK) : Prop where
  | mk (D : Int) (r1 r2 : Addr) (a b : Int) : (vs = [.ref r1, .ref r2]) → (Den D) → (FrD K H D r1 a) → (FrD K H D r2 b) → (Bt 1100 a) → (Bt 1100 b) → (Q (.bl (decide (a < b))) H) → spBelowD_ K vs H Q
noncomputable def spBelowD (K : PySem.W.Frag) : Sp := fun vs H Q _ => spBelowD_ K vs H Q
theorem ok_below (T : Txt K mg t) : FnOk P w K mg base CX0 1 t.f_below t.d_below ["one", "other"] (spBelowD K) := by
  refine T.D_below.F.ok sc_below (fun vs H Q E h => ?_) (fun cdv A outer s H vs Q E hr h => ?_)
  · obtain ⟨D, r1, r2, a, b, rfl, _⟩ := h
    rfl
  obtain ⟨D, r1, r2, a, b, rfl, hD, g1, g2, la, lb, q⟩ := h
  unfold FrD at g1 g2
  have e := below_D hD a b
  obtain ⟨ba, bb⟩ := fd_bt hD la
  obtain ⟨bc, bd⟩ := fd_bt hD lb
  have m1 : CMulB (fN a D) (fD b D) := ⟨ba.mono (by decide), bd.mono (by decide)⟩
  have m2 : CMulB (fN b D) (fD a D) := ⟨bc.mono (by decide), bb.mono (by decide)⟩
  refine ⟨_, (pss_one (ps_ret (pe_cmpR op_lt (pe_op op_mulB (pe_ix ix_tup (qv qv_below 0 rfl rfl rfl) pe_int (fun _ _ => rfl)) (pe_ix ix_tup (qv qv_below 1 rfl rfl rfl) pe_int (fun _ _ => rfl))) (pe_op op_mulB (pe_ix ix_tup (qv qv_below 1 rfl rfl rfl) pe_int (fun _ _ => rfl)) (pe_ix ix_tup (qv qv_below 0 rfl rfl rfl) pe_int (fun _ _ => rfl))) (nomark _)))), ?_⟩
  walk_at "vc"
  rw [show decide (fN a D * fD b D < fN b D * fD a D) = decide (a < b) from decide_eq_decide.mpr e]
  exact q
noncomputable def betterG {α : Type} (b : Option (α × Int)) (c : α × Int) : Option (α × Int) := match b with
  | none => some c
  | some a => if c.2 < a.2 then some c else some a
noncomputable def firstG {α : Type} (cs : List (α × Int)) : Option (α × Int) := cs.foldl betterG none
theorem firstG_map {α β : Type} (f : α → β) (cs : List (α × Int)) : firstG (cs.map fun c => (f c.1, c.2)) = (firstG cs).map fun c => (f c.1, c.2) := by
  unfold firstG
  suffices h : ∀ b : Option (α × Int), (cs.map fun c => (f c.1, c.2)).foldl betterG (b.map fun c => (f c.1, c.2)) = (cs.foldl betterG b).map fun c => (f c.1, c.2) from h none
  induction cs with
  | nil => intro b; rfl
  | cons c cs ih =>
    intro b
    rw [List.map_cons, List.foldl_cons, List.foldl_cons, ← ih]
    congr 1
    cases b with
    | none => rfl
    | some b =>
      show (if c.2 < b.2 then some (f c.1, c.2) else some (f b.1, b.2)) = Option.map _ (if c.2 < b.2 then some c else some b)
      split <;> rfl
theorem betterG_cand : (betterG : Option Cand → Cand → Option Cand) = better := by
  funext b c
  cases b <;> rfl
theorem firstG_cand (cs : List Cand) : firstG cs = firstMin cs := by
  unfold firstG firstMin
  rw [betterG_cand]
theorem firstG_mem {α : Type} {cs : List (α × Int)} {c : α × Int} (h : firstG cs = some c) : c ∈ cs := by
  unfold firstG at h
  suffices k : ∀ (b : Option (α × Int)), cs.foldl betterG b = some c → c ∈ cs ∨ b = some c from (k none h).elim id fun z => nomatch z
  clear h
  induction cs with
  | nil => intro b h; exact .inr h
  | cons d cs ih =>
    intro b h
    rw [List.foldl_cons] at h
    rcases ih _ h with q | q
    · exact .inl (List.mem_cons_of_mem _ q)
    · cases b with
      | none => cases q; exact .inl List.mem_cons_self
      | some b =>
        have q' : (if d.2 < b.2 then some d else some b) = some c := q
        by_cases e : d.2 < b.2
        · rw [if_pos e] at q'; cases q'; exact .inl List.mem_cons_self
        · rw [if_neg e] at q'; exact .inr q'
noncomputable def ChAt (K : PySem.W.Frag) (H : Hp) (D : Int) (r : V) (c : V × Int) : Prop := ∃ t f, r = .ref t ∧ SqT K H t [c.1, .ref f] ∧ FrD K H D f c.2 ∧ Bt 1100 c.2
inductive spLeast_ (K : PySem.W.Frag) (vs : List V) (H : Hp) (Q : VK) : Prop where
  | mk (D : Int) (l : Addr) (rs : List V) (cs : List (V × Int)) : (vs = [.ref l]) → (Den D) → (SqL K H l rs) → (rs.length = cs.length) → ((∀ (i : Nat) (r : V) (c : V × Int), rs[i]? = some r → cs[i]? = some c → ChAt K H D r c)) → ((firstG cs = none → ∀ H', Same H H' → Q .non H')) → ((∀ c, firstG cs = some c → ∀ (t f : Addr) (H' : Hp), Same H H' → H' t = some (.tup [c.1, .ref f]) → FrD K H' D f c.2 → Q (.ref t) H')) → spLeast_ K vs H Q
noncomputable def spLeast (K : PySem.W.Frag) : Sp := fun vs H Q _ => spLeast_ K vs H Q
theorem ok_least_of (T : Txt K mg t) : FnOk P w K mg base CX0 2 t.f_least_of t.d_least_of ["choices"] (spLeast K) := by
  have G_below := ok_below (P := P) (w := w) (base := base) T
  refine T.D_least_of.F.ok sc_least_of (fun vs H Q E h => ?_) (fun cdv A outer s H vs Q E hr h => ?_)
  · obtain ⟨D, l, rs, cs, rfl, _⟩ := h
    rfl
  obtain ⟨D, l, rs, cs, rfl, hD, hl, el, ch, qn, qs⟩ := h
  refine ⟨_, (pss_cons (q_set (i := 1) qv_least_of sc_least_of.nd rfl rfl rfl pe_non)
      (pss_cons (ps_for PassesOwn.never rfl (pi_list (qv qv_least_of 0 rfl rfl rfl)) (pg_tup rfl (pgs_cons (q_name (i := 2) qv_least_of sc_least_of.nd rfl rfl rfl) (pgs_cons (q_name (i := 3) qv_least_of sc_least_of.nd rfl rfl rfl) pgs_nil))) (pss_one (ps_if (PW.pt (pw_or (pt_cmp (pc_isN (qv qv_least_of 1 rfl rfl rfl))) (pw_or1 (pt_val (q_call G_below (hr.mono (by first | decide | omega)) qg_least_of 0 rfl rfl T.D_below.m T.D_below.F.kp T.D_below.b .nil pass0 (pa_cons (qv qv_least_of 3 rfl rfl rfl) (pa_cons (pe_ix ix_tup (qv qv_least_of 1 rfl rfl rfl) pe_int (fun _ _ => rfl)) pa_nil))))))) (pss_one (q_set (i := 1) qv_least_of sc_least_of.nd rfl rfl rfl (pe_tup (pa_cons (qv qv_least_of 2 rfl rfl rfl) (pa_cons (qv qv_least_of 3 rfl rfl rfl) pa_nil))))) pss_nil)))
      (pss_one (ps_ret (qv qv_least_of 1 rfl rfl rfl))))), ?_⟩
  walk_at "vc"
  refine ⟨l, rfl, ⟨rs, hl⟩, for_list (xs := rs) (fun i σ H' => Same H H' ∧ ∃ (b : V) (u1 u2 : Option V), σ = [some (.ref l), some b, u1, u2] ∧ match (cs.take i).foldl betterG none with
      | none => b = .non
      | some c => ∃ t f, b = .ref t ∧ H' t = some (.tup [c.1, .ref f]) ∧ FrD K H' D f c.2 ∧ Bt 1100 c.2)
    ⟨Same.refl _, .non, none, none, rfl, rfl⟩ (fun i σ H' _ hh => hh.1.seq hl) ?_ ?_⟩
  · rintro i y σ H' hy ⟨sm, b, u1, u2, rfl, hb⟩
    obtain ⟨c, hc⟩ : ∃ c, cs[i]? = some c := ⟨cs[i]'(by rw [← el]; exact (List.getElem?_eq_some_iff.mp hy).1), List.getElem?_eq_getElem _⟩
    obtain ⟨tt, ff, rfl, h1, h2, h3⟩ := ch i y c hy hc
    refine vc_asgT (sm.tup h1) rfl ?_
    have et : (cs.take (i + 1)).foldl betterG none = betterG ((cs.take i).foldl betterG none) c := by
      rw [List.take_add_one, hc, List.foldl_append]
      rfl
    cases hf : (cs.take i).foldl betterG none with
    | none =>
      rw [hf] at hb et
      cases (show b = .non from hb)
      walk_at "vc"
      rw [dec_true rfl]
      walk_at "vc"
      refine ⟨(by show 2 ≤ sizeLine; decide), fun r hr' => ?_⟩
      walk_at "vc"
      have Y := same_new hr' (.tup [c.1, .ref ff])
      refine ⟨sm.trans Y, _, _, _, rfl, ?_⟩
      rw [et]
      exact ⟨r, ff, rfl, upd_same, h2.same (sm.trans Y), h3⟩
    | some c0 =>
      rw [hf] at hb et
      obtain ⟨t0, f0, rfl, g1, g2, g3⟩ := hb
      walk_at "vc"
      rw [dec_false (fun z => by cases z)]
      walk_at "vc"
      refine ⟨D, ff, f0, c.2, c0.2, rfl, hD, h2.same sm, g2, h3, g3, ?_⟩
      walk_at "vc"
      have e' : betterG (some c0) c = if c.2 < c0.2 then some c else some c0 := rfl
      rw [e'] at et
      refine ite2 (fun z => ?_) (fun z => ?_)
      · rw [if_pos (of_decide_eq_true z)] at et
        walk_at "vc"
        refine ⟨(by show 2 ≤ sizeLine; decide), fun r hr' => ?_⟩
        walk_at "vc"
        have Y := same_new hr' (.tup [c.1, .ref ff])
        refine ⟨sm.trans Y, _, _, _, rfl, ?_⟩
        rw [et]
        exact ⟨r, ff, rfl, upd_same, h2.same (sm.trans Y), h3⟩
      · rw [if_neg (fun y => z (decide_eq_true y))] at et
        walk_at "vc"
        refine ⟨sm, _, _, _, rfl, ?_⟩
        rw [et]
        exact ⟨t0, f0, rfl, g1, g2, g3⟩
  · rintro σ H' ⟨sm, b, u1, u2, rfl, hb⟩
    rw [el, List.take_length] at hb
    walk_at "vc"
    cases hf : cs.foldl betterG none with
    | none =>
      rw [hf] at hb
      rw [show b = .non from hb]
      exact qn hf H' sm
    | some c =>
      rw [hf] at hb
      obtain ⟨t, f, rfl, g1, g2, _⟩ := hb
      exact qs c hf t f H' sm g1 g2
noncomputable def wasteO (D : Int) : Option Int → PySem.W.Dat
  | none => .none
  | some u => frD D u
noncomputable def wv (rooms : List Int) (rows : List (Int × Int)) (th : List (Str × Str × Int)) (ap : List (Str × Str)) (x y : Str) : Option Int := if (x, y) ∈ ap ∨ (y, x) ∈ ap then none else some (2 * thickBy x y th * hfN rows rooms.sum)
theorem row_noL (D : Int) (os : List (Option Int)) : noLs (os.map (wasteO D)) = true := noLs_map (fun o => by cases o <;> rfl) os
inductive spWF_ (K : PySem.W.Frag) (C : Addr) (vs : List V) (H : Hp) (Q : VK) : Prop where
  | mk (x lw : Addr) (rooms : List Int) (rows : List (Int × Int)) (th : List (Str × Str × Int)) (ap : List (Str × Str)) (one : Str) (ss : List Str) : (vs = [.ref x, .str one, .ref lw]) → (PipeD K H C x rooms rows th ap) → (DataOk rooms rows th ap) → (Let one) → (SqL K H lw (ss.map V.str)) → ((∀ s ∈ ss, Let s)) → (ss.length ≤ 100) → (∀ (l' : Addr) (rs : List V) (H' : Hp), Same H H' → H l' = none → H' l' = some (.lst rs) → Reps K H' rs ((ss.map (wv rooms rows th ap one)).map (wasteO (hfD rows rooms.sum))) → Q (.ref l') H') → spWF_ K C vs H Q
noncomputable def spWF (K : PySem.W.Frag) (C : Addr) : Sp := fun vs H Q _ => spWF_ K C vs H Q
theorem ok_wastes_from (T : Txt K mg t) : FnOk P w K mg base CX0 6 t.f_wastes_from t.d_wastes_from ["pipe", "one", "wares"] (spWF K t.c_Pipe) := by
  have G_waste_between := ok_waste_between (P := P) (w := w) (base := base) T
  refine T.D_wastes_from.F.ok sc_wastes_from (fun vs H Q E h => ?_) (fun cdv A outer s H vs Q E hr h => ?_)
  · obtain ⟨x, lw, rooms, rows, th, ap, one, ss, rfl, _⟩ := h
    rfl
  obtain ⟨x, lw, rooms, rows, th, ap, one, ss, rfl, hP, Dk, lo, hl, ls, sl, q⟩ := h
  refine ⟨_, (pss_one (ps_ret (pe_comp ["other", "pipe", "one"] [none, some 0, some 1] rfl  (pi_list (qv qv_wastes_from 2 rfl rfl rfl)) (fun _ _ _ _ => (pg_name (i := 0) (show (["other", "pipe", "one"] : List Str).Nodup by decide +kernel) rfl (Or.inl rfl))) (fun _ _ _ _ => pts_nil) (fun _ _ _ _ => (pe_call G_waste_between (hr.mono (by decide)) rfl T.D_waste_between.m T.D_waste_between.F.kp T.D_waste_between.b .nil pass0 (pa_cons (pv 1) (pa_cons (pv 2) (pa_cons (pv 0) pa_nil))))) rfl rfl))), ?_⟩
  walk_at "vc"
  refine ⟨lw, rfl, ⟨_, hl⟩, fun d hd => comp_gen (n := (ss.map V.str).length) (fun i y => (ss.map V.str)[i]? = some y) hd (small1000 (by rw [List.length_map]; omega)) (hJ_list hl) (fun i ys H => Reps K H ys (((ss.take i).map (wv rooms rows th ap one)).map (wasteO (hfD rows rooms.sum)))) (fun σ => ∃ u, σ = [u, some (.ref x), some (.str one)]) .nil ⟨_, rfl⟩ ?_ ?_⟩
  · rintro i y ys σ H' R1 R0 hi hy ⟨u, rfl⟩ sm hDl hΦ k1 k0
    rw [List.getElem?_map] at hy
    obtain ⟨z, hz, rfl⟩ := Option.map_eq_some_iff.mp hy
    have et : ss.take (i + 1) = ss.take i ++ [z] := by rw [List.take_add_one, hz]; rfl
    walk_at "vc"
    refine ⟨x, rooms, rows, th, ap, one, z, rfl, hP.same sm, Dk, lo, ls z (List.mem_of_getElem? hz), fun e H2 S2 => ?_, fun e r H2 S2 g2 => ?_⟩
    · walk_at "vc"
      refine k1 _ _ _ S2 ⟨_, rfl⟩ ?_
      rw [et, List.map_append, List.map_append]
      refine (hΦ.same S2.hid).append (.one ?_)
      show Rep K _ .non (wasteO _ (wv rooms rows th ap one z))
      unfold wv
      rw [if_pos e]
      exact .non
    · walk_at "vc"
      have hD2 := S2 _ _ hDl
      have nr : r ≠ d := fun e => by rw [e, hD2] at g2; cases g2
      refine k1 _ _ _ S2 ⟨_, rfl⟩ ?_
      rw [et, List.map_append, List.map_append]
      refine (hΦ.same S2.hid).append (.one ?_)
      show Rep K _ (.ref r) (wasteO _ (wv rooms rows th ap one z))
      unfold wv
      rw [if_neg e]
      exact .tup (SqT.of (by rw [hid_ne nr]; exact g2)) (.cons (.int _) (.cons (.int _) .nil))
  · rintro ys H2 sm hDl hly hΦ
    rw [List.length_map, List.take_length] at hΦ
    exact q d ys H2 sm hd hDl (hΦ.same (hid_same _ _))
inductive spWO_ (K : PySem.W.Frag) (C : Addr) (vs : List V) (H : Hp) (Q : VK) : Prop where
  | mk (x lw : Addr) (rooms : List Int) (rows : List (Int × Int)) (th : List (Str × Str × Int)) (ap : List (Str × Str)) (ss : List Str) : (vs = [.ref x, .ref lw]) → (PipeD K H C x rooms rows th ap) → (DataOk rooms rows th ap) → (SqL K H lw (ss.map V.str)) → ((∀ s ∈ ss, Let s)) → (ss.length ≤ 100) → (∀ (l' : Addr) (rs : List V) (H' : Hp), Same H H' → H l' = none → H' l' = some (.lst rs) → Reps K H' rs (ss.map fun one => .list ((ss.map (wv rooms rows th ap one)).map (wasteO (hfD rows rooms.sum)))) → (∀ y ∈ rs, ∃ b, y = .ref b ∧ H b = none) → Q (.ref l') H') → spWO_ K C vs H Q
noncomputable def spWO (K : PySem.W.Frag) (C : Addr) : Sp := fun vs H Q _ => spWO_ K C vs H Q
theorem ok_wastes_of (T : Txt K mg t) : FnOk P w K mg base CX0 7 t.f_wastes_of t.d_wastes_of ["pipe", "wares"] (spWO K t.c_Pipe) := by
  have G_wastes_from := ok_wastes_from (P := P) (w := w) (base := base) T
  refine T.D_wastes_of.F.ok sc_wastes_of (fun vs H Q E h => ?_) (fun cdv A outer s H vs Q E hr h => ?_)
  · obtain ⟨x, lw, rooms, rows, th, ap, ss, rfl, _⟩ := h
    rfl
  obtain ⟨x, lw, rooms, rows, th, ap, ss, rfl, hP, Dk, hl, ls, sl, q⟩ := h
  refine ⟨_, (pss_one (ps_ret (pe_comp ["one", "pipe", "wares"] [none, some 0, some 1] rfl  (pi_list (qv qv_wastes_of 1 rfl rfl rfl)) (fun _ _ _ _ => (pg_name (i := 0) (show (["one", "pipe", "wares"] : List Str).Nodup by decide +kernel) rfl (Or.inl rfl))) (fun _ _ _ _ => pts_nil) (fun _ _ _ _ => (pe_call G_wastes_from (hr.mono (by decide)) rfl T.D_wastes_from.m T.D_wastes_from.F.kp T.D_wastes_from.b .nil pass0 (pa_cons (pv 1) (pa_cons (pv 0) (pa_cons (pv 2) pa_nil))))) rfl rfl))), ?_⟩
  walk_at "vc"
  refine ⟨lw, rfl, ⟨_, hl⟩, fun d hd => comp_gen (n := (ss.map V.str).length) (fun i y => (ss.map V.str)[i]? = some y) hd (small1000 (by rw [List.length_map]; omega)) (hJ_list hl) (fun i ys H1 => Reps K H1 ys ((ss.take i).map fun one => .list ((ss.map (wv rooms rows th ap one)).map (wasteO (hfD rows rooms.sum)))) ∧ ∀ y ∈ ys, ∃ b, y = .ref b ∧ H b = none) (fun σ => ∃ u, σ = [u, some (.ref x), some (.ref lw)]) ⟨.nil, fun _ h => nomatch h⟩ ⟨_, rfl⟩ ?_ ?_⟩
  · rintro i y ys σ H' R1 R0 hi hy ⟨u, rfl⟩ sm hDl ⟨hΦ, hN⟩ k1 k0
    rw [List.getElem?_map] at hy
    obtain ⟨z, hz, rfl⟩ := Option.map_eq_some_iff.mp hy
    have et : ss.take (i + 1) = ss.take i ++ [z] := by rw [List.take_add_one, hz]; rfl
    walk_at "vc"
    refine ⟨x, lw, rooms, rows, th, ap, z, ss, rfl, hP.same sm, Dk, ls z (List.mem_of_getElem? hz), sm.seq hl, ls, sl, fun l' rs H2 S2 n2 g2 R2 => ?_⟩
    walk_at "vc"
    have hD2 := S2 _ _ hDl
    have nl : l' ≠ d := fun e => by rw [e, hDl] at n2; cases n2
    refine k1 _ _ _ S2 ⟨_, rfl⟩ ?_
    refine ⟨?_, fun y hy => ?_⟩
    rotate_left
    · rcases List.mem_append.mp hy with h | h
      · exact hN y h
      · rw [List.mem_singleton.mp h]
        exact ⟨l', rfl, sm.free n2⟩
    rw [et, List.map_append]
    refine (hΦ.same S2.hid).append (.one (.lst (SqL.of (by rw [hid_ne nl]; exact g2)) ?_))
    exact reps_noL (row_noL _ _) R2 fun b u hn hu => by
      rw [hid_ne (fun z => hn _ (z ▸ hD2))]
      exact hu
  · rintro ys H2 sm hDl hly ⟨hΦ, hN⟩
    rw [List.length_map, List.take_length] at hΦ
    exact q d ys H2 sm hd hDl (hΦ.same (hid_same _ _)) hN
structure RowAt (K : PySem.W.Frag) (H : Hp) (D : Int) (wa : Addr) (one : Int) (row : List (Option Int)) : Prop where
  at_ : ∃ (ws rs : List V) (l : Addr), SqL K H wa ws ∧ atI ws one = some (.ref l) ∧ SqL K H l rs ∧ Reps K H rs (row.map (wasteO D))
noncomputable def stepsR (row : List (Option Int)) (rest : List Int) : List (Int × Int) := rest.filterMap fun x => ((row[x.toNat]?).getD none).map fun u => (x, u)
inductive spSteps_ (K : PySem.W.Frag) (vs : List V) (H : Hp) (Q : VK) : Prop where
  | mk (D one : Int) (wa tr : Addr) (row : List (Option Int)) (rest : List Int) : (vs = [.ref wa, .int one, .ref tr]) → (Den D) → (RowAt K H D wa one row) → (SqL K H tr (rest.map V.int)) → ((∀ x ∈ rest, 0 ≤ x ∧ x < row.length)) → (rest.length ≤ 100) → ((∀ u, some u ∈ row → Bt 1100 u)) → (∀ (l' : Addr) (rs : List V) (H' : Hp), Same H H' → H l' = none → H' l' = some (.lst rs) → rs.length = (stepsR row rest).length → (∀ (i : Nat) (r : V) (c : Int × Int), rs[i]? = some r → (stepsR row rest)[i]? = some c → ChAt K H' D r (.int c.1, c.2)) → Q (.ref l') H') → spSteps_ K vs H Q
noncomputable def spSteps (K : PySem.W.Frag) : Sp := fun vs H Q _ => spSteps_ K vs H Q
theorem ChAt.same {H H' : Hp} {D : Int} {r : V} {c : V × Int} (h : ChAt K H D r c) (e : Same H H') : ChAt K H' D r c := by
  obtain ⟨t, f, q, a, b, z⟩ := h
  exact ⟨t, f, q, e.tup a, b.same e, z⟩
theorem steps_comp {J : It} {D one : Int} {wa d : Addr} {row : List (Option Int)} {rest : List Int} {H : Hp} {Q : VK} (hR : RowAt K H D wa one row) (hb : ∀ x ∈ rest, 0 ≤ x ∧ x < row.length) (sl : rest.length ≤ 100) (bt : ∀ u, some u ∈ row → Bt 1100 u) (hd : H d = none)
    (hJ : ∀ i H', Same H H' → (i < (rest.map V.int).length → J.go i H') ∧ ((rest.map V.int).length ≤ i → J.stop i H') ∧ ∀ x H'', i < (rest.map V.int).length → J.yld i H' x H'' → H'' = H' ∧ (rest.map V.int)[i]? = some x)
    (q : ∀ (l' : Addr) (rs : List V) (H' : Hp), Same H H' → H l' = none → H' l' = some (.lst rs) → rs.length = (stepsR row rest).length → (∀ (i : Nat) (r : V) (c : Int × Int), rs[i]? = some r → (stepsR row rest)[i]? = some c → ChAt K H' D r (.int c.1, c.2)) → Q (.ref l') H') :
    CompW J (gName 0) (tB (tNotN (tOp (rIxL K) (tOp (rIxL K) (tVar 1) (tVar 2)) (tVar 0)))) (tTup (tCons (tVar 0) (tCons (tOp (rIxL K) (tOp (rIxL K) (tVar 1) (tVar 2)) (tVar 0)) tNil))) [none, some (.ref wa), some (.int one)] d H fun H' => Q (.ref d) H' := by
  obtain ⟨ws, rs, l, w1, w2, w3, w4⟩ := hR.at_
  have rl : rs.length = row.length := by rw [w4.length, List.length_map]
  refine comp_gen (n := (rest.map V.int).length) (fun i y => (rest.map V.int)[i]? = some y) hd (small1000 (by rw [List.length_map]; omega)) hJ (fun i ys H => ys.length = (stepsR row (rest.take i)).length ∧ ∀ (j : Nat) (r : V) (c : Int × Int), ys[j]? = some r → (stepsR row (rest.take i))[j]? = some c → ChAt K H D r (.int c.1, c.2)) (fun σ => ∃ u, σ = [u, some (.ref wa), some (.int one)]) ⟨rfl, fun j r c h => by simp at h⟩ ⟨_, rfl⟩ ?_ ?_
  · rintro i y ys σ H' R1 R0 hi hy ⟨u, rfl⟩ sm hDl hΦ k1 k0
    rw [List.getElem?_map] at hy
    obtain ⟨z, hz, rfl⟩ := Option.map_eq_some_iff.mp hy
    have hzb := hb z (List.mem_of_getElem? hz)
    have et : rest.take (i + 1) = rest.take i ++ [z] := by rw [List.take_add_one, hz]; rfl
    have ez : z = ((z.toNat : Nat) : Int) := by omega
    have lt : z.toNat < row.length := by omega
    obtain ⟨v, hv, rv⟩ := w4.get' (i := z.toNat) (d := wasteO D row[z.toNat]) (by rw [List.getElem?_map, List.getElem?_eq_getElem lt]; rfl)
    have hat : atI rs z = some v := by rw [ez]; exact atI_nat hv
    have er : (row[z.toNat]?).getD none = row[z.toNat] := by rw [List.getElem?_eq_getElem lt]; rfl
    have es : stepsR row (rest.take (i + 1)) = stepsR row (rest.take i) ++ (match row[z.toNat] with | none => [] | some u => [(z, u)]) := by
      unfold stepsR
      rw [et, List.filterMap_append, List.filterMap_cons, er]
      cases row[z.toNat] <;> rfl
    walk_at "vc"
    refine vc_ixL (sm.seq w1) w2 ?_
    walk_at "vc"
    refine vc_ixL (sm.seq w3) hat ?_
    cases ho : row[z.toNat] with
    | none =>
      rw [ho] at rv es
      cases rv
      refine ⟨false, by rw [dec_true rfl]; rfl, ?_⟩
      walk_at "vc"
      refine k0 _ _ (Same.refl _) ⟨_, rfl⟩ ?_
      rw [es, List.append_nil]
      exact hΦ
    | some uu =>
      rw [ho] at rv es
      obtain ⟨f, xs, rfl, hf, rx⟩ := rv.tup_of
      cases (show xs = [V.int (fN uu D), V.int (fD uu D)] from Reps.ints_of (ns := [fN uu D, fD uu D]) rx)
      refine ⟨true, by rw [dec_false (fun z => by cases z)]; rfl, ?_⟩
      walk_at "vc"
      refine vc_ixL (sm.seq w1) w2 ?_
      walk_at "vc"
      refine vc_ixL (sm.seq w3) hat ?_
      walk_at "vc"
      refine ⟨(by show 2 ≤ sizeLine; decide), fun e he => ?_⟩
      have Y := same_new he (.tup [.int z, .ref f])
      have ge : upd H' e (.tup [.int z, .ref f]) e = some (.tup [.int z, .ref f]) := upd_same
      have ne : e ≠ d := (ne_of_none hDl he).symm
      generalize upd H' e (.tup [.int z, .ref f]) = H2 at *
      have hD2 := Y _ _ hDl
      have SH : Same H (hid d H2) := fun b u q => by
        rw [hid_ne (ne_of_none q hd)]
        exact Y _ _ (sm _ _ q)
      refine k1 _ _ _ Y ⟨_, rfl⟩ ?_
      rw [es]
      refine ⟨by rw [List.length_append, List.length_append, hΦ.1]; rfl, fun j r c h1 h2 => ?_⟩
      rcases Nat.lt_or_ge j ys.length with lj | lj
      · rw [List.getElem?_append_left lj] at h1
        rw [List.getElem?_append_left (by rw [← hΦ.1]; exact lj)] at h2
        exact (hΦ.2 j r c h1 h2).same Y.hid
      · rw [List.getElem?_append_right lj] at h1
        rw [List.getElem?_append_right (by rw [← hΦ.1]; exact lj), ← hΦ.1] at h2
        obtain ⟨l1, q1⟩ := List.getElem?_eq_some_iff.mp h1
        have j0 : j - ys.length = 0 := by simpa using l1
        rw [j0] at h1 h2
        cases h1
        cases h2
        exact ⟨e, f, rfl, SqT.of (by rw [hid_ne ne]; exact ge), SH.tup hf, bt uu (by rw [← ho]; exact List.getElem_mem _)⟩
  · rintro ys H2 sm hDl hly hΦ
    rw [List.length_map, List.take_length] at hΦ
    refine q d ys H2 sm hd hDl hΦ.1 fun i r c h1 h2 => ?_
    obtain ⟨t, f, e, a, b, c⟩ := hΦ.2 i r c h1 h2
    exact ⟨t, f, e, (hid_same _ _).tup a, b.same (hid_same _ _), c⟩
theorem ok_steps_from (T : Txt K mg t) : FnOk P w K mg base CX0 1 t.f_steps_from t.d_steps_from ["wastes", "one", "rest"] (spSteps K) := by
  refine T.D_steps_from.F.ok sc_steps_from (fun vs H Q E h => ?_) (fun cdv A outer s H vs Q E hr h => ?_)
  · obtain ⟨D, one, wa, tr, row, rest, rfl, _⟩ := h
    rfl
  obtain ⟨D, one, wa, tr, row, rest, rfl, hD, hR, ht, hb, sl, bt, q⟩ := h
  refine ⟨_, (pss_one (ps_ret (pe_comp ["number", "wastes", "one"] [none, some 0, some 1] rfl  (pi_list (qv qv_steps_from 2 rfl rfl rfl)) (fun _ _ _ _ => (pg_name (i := 0) (show (["number", "wastes", "one"] : List Str).Nodup by decide +kernel) rfl (Or.inl rfl))) (fun _ _ _ _ => (pts_one (pt_cmp (pc_notN (pe_ix ix_listC (pe_ix ix_listC (pv 1) (pv 2) (fun _ _ => rfl)) (pv 0) (fun _ _ => rfl)))))) (fun _ _ _ _ => (pe_tup (pa_cons (pv 0) (pa_cons (pe_ix ix_listC (pe_ix ix_listC (pv 1) (pv 2) (fun _ _ => rfl)) (pv 0) (fun _ _ => rfl)) pa_nil)))) rfl rfl))), ?_⟩
  walk_at "vc"
  exact ⟨tr, rfl, ⟨_, ht⟩, fun d hd => steps_comp hR hb sl bt hd (hJ_list ht) q⟩
inductive spStepsT_ (K : PySem.W.Frag) (vs : List V) (H : Hp) (Q : VK) : Prop where
  | mk (D one : Int) (wa tq : Addr) (row : List (Option Int)) (rest : List Int) : (vs = [.ref wa, .int one, .ref tq]) → (Den D) → (RowAt K H D wa one row) → (SqT K H tq (rest.map V.int)) → ((∀ x ∈ rest, 0 ≤ x ∧ x < row.length)) → (rest.length ≤ 100) → ((∀ u, some u ∈ row → Bt 1100 u)) → (∀ (l' : Addr) (rs : List V) (H' : Hp), Same H H' → H l' = none → H' l' = some (.lst rs) → rs.length = (stepsR row rest).length → (∀ (i : Nat) (r : V) (c : Int × Int), rs[i]? = some r → (stepsR row rest)[i]? = some c → ChAt K H' D r (.int c.1, c.2)) → Q (.ref l') H') → spStepsT_ K vs H Q
noncomputable def spStepsT (K : PySem.W.Frag) : Sp := fun vs H Q _ => spStepsT_ K vs H Q
theorem ok_steps_fromT (T : Txt K mg t) : FnOk P w K mg base CX0 1 t.f_steps_from t.d_steps_from ["wastes", "one", "rest"] (spStepsT K) := by
  refine T.D_steps_from.F.ok sc_steps_from (fun vs H Q E h => ?_) (fun cdv A outer s H vs Q E hr h => ?_)
  · obtain ⟨D, one, wa, tq, row, rest, rfl, _⟩ := h
    rfl
  obtain ⟨D, one, wa, tq, row, rest, rfl, hD, hR, hq0, hb, sl, bt, q⟩ := h
  refine ⟨_, (pss_one (ps_ret (pe_comp ["number", "wastes", "one"] [none, some 0, some 1] rfl  (pi_tup (qv qv_steps_from 2 rfl rfl rfl)) (fun _ _ _ _ => (pg_name (i := 0) (show (["number", "wastes", "one"] : List Str).Nodup by decide +kernel) rfl (Or.inl rfl))) (fun _ _ _ _ => (pts_one (pt_cmp (pc_notN (pe_ix ix_listC (pe_ix ix_listC (pv 1) (pv 2) (fun _ _ => rfl)) (pv 0) (fun _ _ => rfl)))))) (fun _ _ _ _ => (pe_tup (pa_cons (pv 0) (pa_cons (pe_ix ix_listC (pe_ix ix_listC (pv 1) (pv 2) (fun _ _ => rfl)) (pv 0) (fun _ _ => rfl)) pa_nil)))) rfl rfl))), ?_⟩
  walk_at "vc"
  exact ⟨tq, rfl, ⟨_, hq0⟩, fun d hd => steps_comp hR hb sl bt hd (hJ_tup hq0) q⟩
noncomputable def nums (m : Nat) : List Int := (List.range m).map fun (i : Nat) => (i : Int)
theorem nums_at {m i : Nat} (h : i < m) : (nums m)[i]? = some (i : Int) := by
  unfold nums
  rw [List.getElem?_map, List.getElem?_range h]
  rfl
theorem nums_mem {m : Nat} {x : Int} (h : x ∈ nums m) : ∃ a : Nat, x = (a : Int) ∧ a < m := by
  obtain ⟨a, ha, rfl⟩ := List.mem_map.mp h
  exact ⟨a, rfl, List.mem_range.mp ha⟩
theorem mem_nums {m : Nat} {x : Int} (h0 : 0 ≤ x) (h1 : x < m) : x ∈ nums m := List.mem_map.mpr ⟨x.toNat, List.mem_range.mpr (by omega), by omega⟩
theorem getD_at {ss : List Str} {a : Nat} (h : a < ss.length) : ss.getD a (Str.ofString "") = ss[a] := by
  rw [List.getD_eq_getElem?_getD, List.getElem?_eq_getElem h]
  rfl
theorem nums_nd (m : Nat) : (nums m).Nodup := List.Pairwise.map _ (fun a b h e => h (by omega)) List.nodup_range
theorem nums_len (m : Nat) : (nums m).length = m := by unfold nums; rw [List.length_map, List.length_range]
noncomputable def Wn (rooms : List Int) (rows : List (Int × Int)) (th : List (Str × Str × Int)) (ap : List (Str × Str)) (ss : List Str) (i j : Int) : Option Int := wv rooms rows th ap (ss.getD i.toNat (Str.ofString "")) (ss.getD j.toNat (Str.ofString ""))
theorem wv_sym {rooms : List Int} {rows : List (Int × Int)} {th : List (Str × Str × Int)} {ap : List (Str × Str)} (x y : Str) : wv rooms rows th ap x y = wv rooms rows th ap y x := by
  unfold wv
  rw [thickBy_comm]
  by_cases h : (x, y) ∈ ap ∨ (y, x) ∈ ap
  · rw [if_pos h, if_pos h.symm]
  · rw [if_neg h, if_neg fun z => h z.symm]
theorem Wn_sym {rooms : List Int} {rows : List (Int × Int)} {th : List (Str × Str × Int)} {ap : List (Str × Str)} {ss : List Str} (i j : Int) : Wn rooms rows th ap ss i j = Wn rooms rows th ap ss j i := wv_sym _ _
theorem half_nn (n : Int) : ∀ (rows : List (Int × Int)) (near nh : Int), ((near, nh) :: rows).Pairwise (fun x y => x.1 < y.1 ∧ x.2 ≤ y.2) → near ≤ n → 0 ≤ nh → 0 ≤ (halfGo near nh rows n).1
  | [], near, nh, _, _, h => h
  | r :: rs, near, nh, hup, hn, h0 => by
    obtain ⟨h1, h2⟩ := List.pairwise_cons.mp hup
    have g := h1 r List.mem_cons_self
    obtain ⟨far, fh⟩ := r
    dsimp only at g
    rw [halfGo]
    split
    · show 0 ≤ nh * (far - near) + (fh - nh) * (n - near)
      have a := Int.mul_nonneg h0 (show 0 ≤ far - near by omega)
      have b := Int.mul_nonneg (show 0 ≤ fh - nh by omega) (show 0 ≤ n - near by omega)
      omega
    · exact half_nn n rs far fh h2 (by omega) (by omega)
theorem hfN_nn {rows : List (Int × Int)} {n : Int} (h : RowsOk rows) (hn0 : 0 ≤ n) (hn1 : n ≤ 200000000) : 0 ≤ hfN rows n := by
  obtain ⟨a, b, c⟩ := half_bounds n hn0 hn1 rows 0 0 h.up h.le (by decide) (by decide) (by decide) (by decide)
  have g := half_nn n rows 0 0 h.up hn0 (by decide)
  have w := f_worth (n := (halfGo 0 0 rows n).1) (p := (halfGo 0 0 rows n).2) (by omega)
  have p := fD_pos (n := (halfGo 0 0 rows n).1) (p := (halfGo 0 0 rows n).2) (by omega)
  unfold hfN
  refine Classical.byContradiction fun z => ?_
  have : fN (halfGo 0 0 rows n).1 (halfGo 0 0 rows n).2 * (halfGo 0 0 rows n).2 < 0 := Int.mul_neg_of_neg_of_pos (by omega) a
  have q := Int.mul_nonneg g (show 0 ≤ fD (halfGo 0 0 rows n).1 (halfGo 0 0 rows n).2 by omega)
  omega
theorem wv_b0 {rooms : List Int} {rows : List (Int × Int)} {th : List (Str × Str × Int)} {ap : List (Str × Str)} (D : DataOk rooms rows th ap) {x y : Str} {u : Int} (h : wv rooms rows th ap x y = some u) : 0 ≤ u ∧ u ≤ 1600000000000000000 := by
  unfold wv at h
  split at h
  · cases h
  · cases h
    obtain ⟨_, _, b3⟩ := half_ok D.rw D.s0 D.s1
    have n0 := hfN_nn D.rw D.s0 D.s1
    obtain ⟨k0, k1⟩ := thickBy_b (one := x) (other := y) D.thk
    generalize thickBy x y th = t at *
    generalize hfN rows rooms.sum = n at *
    have a0 : 0 ≤ 2 * t * n := Int.mul_nonneg (by omega) n0
    have a1 : (2 * t * n).natAbs ≤ 40 * (100000000 * 400000000) := by
      rw [Int.natAbs_mul]
      exact Nat.mul_le_mul (by omega) b3
    omega
theorem hJ_enum {H1 : Hp} {a : Addr} {xs : List V} (h : SqL K H1 a xs) : ∀ i H, Same H1 H → (i < xs.length → (Ite K a).go i H) ∧ (xs.length ≤ i → (Ite K a).stop i H) ∧
    ∀ x H', i < xs.length → (Ite K a).yld i H x H' → Same H H' ∧ ∃ TT y, x = .ref TT ∧ xs[i]? = some y ∧ H' TT = some (.tup [.int ((i : Nat) : Int), y]) :=
  fun i H sm => ⟨fun hi => ⟨xs, xs[i], sm.seq h, by simp [hi]⟩, fun hi => ⟨xs, sm.seq h, hi⟩, fun x H' _ y => by
    obtain ⟨TT, v, rfl, hT, rfl, e⟩ := y
    exact ⟨same_new hT _, TT, v, rfl, e xs (sm.seq h), upd_same⟩⟩
inductive spSome_ (K : PySem.W.Frag) (vs : List V) (H : Hp) (Q : VK) : Prop where
  | mk (lw lc : Addr) (ws : List Str) (ns : List Int) : (vs = [.ref lw, .ref lc]) → (SqL K H lw (ws.map V.str)) → (Wares ws) → (SqL K H lc (ns.map V.int)) → (ns.length ≤ 63) → (∀ (l : Addr) (ss : List Str) (H' : Hp), Same H H' → H l = none → H' l = some (.lst (ss.map V.str)) → ss.length = ns.length → (∀ s ∈ ss, s ∈ ws) → Q (.ref l) H') → spSome_ K vs H Q
noncomputable def spSome (K : PySem.W.Frag) : Sp := fun vs H Q _ => spSome_ K vs H Q
theorem ok_l_some (T : Txt K mg t) : FnOk P w K mg base CX0 2 t.f_l_some t.d_l_some ["_law_wares_here", "_law_cells"] (spSome K) := by
  have G_l_mix := ok_l_mix (P := P) (w := w) (base := base) T
  refine T.D_l_some.F.ok sc_l_some (fun vs H Q E h => ?_) (fun cdv A outer s H vs Q E hr h => ?_)
  · obtain ⟨lw, lc, ws, ns, rfl, _⟩ := h
    rfl
  obtain ⟨lw, lc, ws, ns, rfl, hw, W, hc, nl, q⟩ := h
  refine ⟨_, (pss_one (ps_ret (pe_comp ["_law_k", "_law_cell", "_law_wares_here"] [none, none, some 0] rfl  (pi_enum (qgl qg_l_some 0 rfl rfl) T.z_enumerate (pa_cons (qv qv_l_some 1 rfl rfl rfl) pa_nil)) (fun _ _ _ _ => (pg_tupC (n := 2) rfl (pgs_cons (pg_name (i := 0) (show (["_law_k", "_law_cell", "_law_wares_here"] : List Str).Nodup by decide +kernel) rfl (Or.inl rfl)) (pgs_cons (pg_name (i := 1) (show (["_law_k", "_law_cell", "_law_wares_here"] : List Str).Nodup by decide +kernel) rfl (Or.inl rfl)) pgs_nil)))) (fun _ _ _ _ => pts_nil) (fun _ _ _ _ => (pe_ix ix_listC (pv 2) (pe_op op_mod (pe_ix ix_listC (pe_lst (pa_cons (pe_op op_fdiv (pe_callB call_absR rfl T.z_abs bo_abs (pa_cons (pv 1) pa_nil)) pe_int) (pa_cons (pe_call G_l_mix (hr.mono (by decide)) rfl T.D_l_mix.m T.D_l_mix.F.kp T.D_l_mix.b .nil pass0 (pa_cons (pv 1) (pa_cons (pe_op op_add pe_int (pv 0)) pa_nil))) pa_nil))) (pe_op op_mod (pv 1) pe_int) (fun _ _ => rfl)) pe_int) (fun _ _ => rfl))) rfl rfl))), ?_⟩
  walk_at "vc"
  refine ⟨lc, _, rfl, hc, fun D1 hD1 => comp_gen2 (n := ns.length) (fun i v H' => ∃ TT y, v = .ref TT ∧ (ns.map V.int)[i]? = some y ∧ H' TT = some (.tup [.int ((i : Nat) : Int), y])) hD1 (small1000 (by omega)) (by have := hJ_enum hc; rw [List.length_map] at this; exact this) (fun i ys H => ∃ ss : List Str, ys = ss.map V.str ∧ ss.length = i ∧ ∀ s ∈ ss, s ∈ ws) (fun σ => ∃ u v, σ = [u, v, some (.ref lw)]) (fun _ _ _ _ _ h => h) ⟨[], rfl, rfl, fun _ h => nomatch h⟩ ⟨_, _, rfl⟩ ?_ ?_⟩
  · rintro i v ys σ H' R1 R0 hi ⟨TT, y, rfl, hy, hT⟩ ⟨u1, u2, rfl⟩ sm hDl ⟨ss, rfl, sl, sw⟩ k1 k0
    rw [List.getElem?_map] at hy
    obtain ⟨c, hc', rfl⟩ := Option.map_eq_some_iff.mp hy
    refine vc_asgT (SqT.of hT) rfl ?_
    have hw' := sm.seq hw
    walk_at "vc"
    refine ⟨(by show 2 ≤ sizeLine; decide), fun t0 ht0 => ?_⟩
    have Y0 := same_new ht0 (.lst [V.int (ab c / 2), .int (mix c (721 + (i : Int)))])
    have g0 : upd H' t0 (.lst [V.int (ab c / 2), .int (mix c (721 + (i : Int)))]) t0 = some (.lst [V.int (ab c / 2), .int (mix c (721 + (i : Int)))]) := upd_same
    generalize upd H' t0 (.lst [V.int (ab c / 2), .int (mix c (721 + (i : Int)))]) = H2 at *
    walk_at "vc"
    obtain ⟨v, hat⟩ : ∃ v : Int, atI [V.int (ab c / 2), .int (mix c (721 + (i : Int)))] (c % 2) = some (.int v) := by
      rcases (by omega : c % 2 = 0 ∨ c % 2 = 1) with e | e
      · exact ⟨_, by rw [e]; rfl⟩
      · exact ⟨_, by rw [e]; rfl⟩
    refine vc_ixL (SqL.of g0) hat ?_
    walk_at "vc"
    have i0 := Int.emod_nonneg v (show (6 : Int) ≠ 0 by decide)
    have i1 := Int.emod_lt_of_pos v (show (0 : Int) < 6 by decide)
    obtain ⟨ni, ei⟩ : ∃ ni : Nat, v % 6 = 0 + (ni : Int) := ⟨(v % 6).toNat, by omega⟩
    obtain ⟨wi, hwi, mi⟩ : ∃ wi, atI (ws.map V.str) (v % 6) = some (.str wi) ∧ wi ∈ ws := ⟨ws.getD ni (Str.ofString ""), by rw [ei]; exact atW W.len (by omega), getD_mem (by rw [W.len]; omega)⟩
    refine vc_ixL (Y0.seq hw') hwi ?_
    refine k1 _ _ _ Y0 ⟨_, _, rfl⟩ ⟨ss ++ [wi], by rw [List.map_append]; rfl, by rw [List.length_append, sl]; rfl, fun s hs => ?_⟩
    rcases List.mem_append.mp hs with h | h
    · exact sw s h
    · rw [List.mem_singleton.mp h]; exact mi
  · rintro ys H2 sm hDl hly ⟨ss, rfl, sl, sw⟩
    exact q D1 ss H2 sm hD1 hDl sl sw
noncomputable def wsum (W : Int → Int → Option Int) (T : List (Int × Int)) : Int := (T.map fun e => (W e.1 e.2).getD 0).sum
theorem wsum_snoc (W : Int → Int → Option Int) (T : List (Int × Int)) (e : Int × Int) : wsum W (T ++ [e]) = wsum W T + (W e.1 e.2).getD 0 := by
  unfold wsum
  rw [List.map_append, List.sum_append]
  simp
theorem sum_permI {l l' : List Int} (p : l.Perm l') : l.sum = l'.sum := by
  induction p with
  | nil => rfl
  | cons x _ ih => rw [List.sum_cons, List.sum_cons, ih]
  | swap x y l => rw [List.sum_cons, List.sum_cons, List.sum_cons, List.sum_cons]; omega
  | trans _ _ a b => exact a.trans b
theorem wsum_perm {W : Int → Int → Option Int} {T T' : List (Int × Int)} (p : T'.Perm T) : wsum W T' = wsum W T := by
  unfold wsum
  exact sum_permI (p.map _)
theorem wsum_b {W : Int → Int → Option Int} (h : ∀ i j u, W i j = some u → 0 ≤ u ∧ u ≤ 1600000000000000000) : ∀ T : List (Int × Int), 0 ≤ wsum W T ∧ wsum W T ≤ 1600000000000000000 * T.length
  | [] => by show 0 ≤ (0 : Int) ∧ (0 : Int) ≤ _; simp
  | e :: T => by
    have ih := wsum_b h T
    have e1 : wsum W (e :: T) = (W e.1 e.2).getD 0 + wsum W T := by unfold wsum; rw [List.map_cons, List.sum_cons]
    have b : 0 ≤ (W e.1 e.2).getD 0 ∧ (W e.1 e.2).getD 0 ≤ 1600000000000000000 := by
      cases q : W e.1 e.2 with
      | none => show 0 ≤ (0 : Int) ∧ (0 : Int) ≤ _; omega
      | some u => exact h _ _ _ q
    rw [e1, List.length_cons]
    omega
theorem wsum_app (W : Int → Int → Option Int) (T Z : List (Int × Int)) : wsum W (T ++ Z) = wsum W T + wsum W Z := by
  unfold wsum
  rw [List.map_append, List.sum_append]
noncomputable def nrm (r o : Int) : Int × Int := (min r o, max r o)
theorem nrm_or (r o : Int) : nrm r o = (r, o) ∨ nrm r o = (o, r) := by
  unfold nrm
  rcases Int.le_total r o with h | h
  · exact .inl (by rw [Int.min_eq_left h, Int.max_eq_right h])
  · exact .inr (by rw [Int.min_eq_right h, Int.max_eq_left h])
noncomputable def Con (V : List Int) (P : List (Int × Int)) : Prop := ∀ S : Int → Prop, (∀ e ∈ P, S e.1 ↔ S e.2) → ∀ p ∈ V, ∀ q ∈ V, S p → S q
theorem filter_lt {α : Type} {p p' : α → Bool} : ∀ {Z : List α}, (∀ g ∈ Z, p' g = true → p g = true) → (∃ f ∈ Z, p f = true ∧ p' f = false) → (Z.filter p').length < (Z.filter p).length
  | [], _, ⟨_, h, _⟩ => nomatch h
  | a :: Z, h, ⟨f, hf, h1, h2⟩ => by
    have hs : ∀ g ∈ Z, p' g = true → p g = true := fun g hg => h g (List.mem_cons_of_mem _ hg)
    have le : (Z.filter p').length ≤ (Z.filter p).length := by
      clear hf h
      induction Z with
      | nil => exact Nat.le_refl _
      | cons b Z ih =>
        have ih := ih fun g hg => hs g (List.mem_cons_of_mem _ hg)
        have hb := hs b List.mem_cons_self
        rw [List.filter_cons, List.filter_cons]
        cases e' : p' b <;> cases e : p b <;> simp <;> first | omega | (rw [e] at hb; exact absurd (hb e') (by decide))
    rw [List.filter_cons, List.filter_cons]
    rcases List.mem_cons.mp hf with z | hf
    · subst z
      rw [h1, h2]
      simp
      omega
    · have := filter_lt hs ⟨f, hf, h1, h2⟩
      have ha := h a List.mem_cons_self
      cases e' : p' a <;> cases e : p a <;> simp <;> first | omega | (rw [e] at ha; exact absurd (ha e') (by decide))
noncomputable def flp (χ : Int → Prop) (g : Int × Int) : Bool := @decide (¬ (χ g.1 ↔ χ g.2)) (Classical.propDecidable _)
theorem flp_t {χ : Int → Prop} {g : Int × Int} (h : ¬ (χ g.1 ↔ χ g.2)) : flp χ g = true := @decide_eq_true _ (Classical.propDecidable _) h
theorem flp_of {χ : Int → Prop} {g : Int × Int} (h : flp χ g = true) : ¬ (χ g.1 ↔ χ g.2) := @of_decide_eq_true _ (Classical.propDecidable _) h
theorem flip_none {V : List Int} {T Z : List (Int × Int)} {r o : Int} (con : Con V (T ++ Z)) (rV : r ∈ V) (oV : o ∈ V) : ∀ (k : Nat) (χ : Int → Prop), (Z.filter (flp χ)).length ≤ k → (∀ e ∈ T, χ e.1 ↔ χ e.2) → ¬ (χ r ↔ χ o) →
    (∀ f ∈ Z, ¬ (χ f.1 ↔ χ f.2) → ∃ S : Int → Prop, (∀ e ∈ T, S e.1 ↔ S e.2) ∧ (∀ e ∈ Z.erase f, S e.1 ↔ S e.2) ∧ (S r ↔ S o) ∧ ¬ (S f.1 ↔ S f.2)) → False := by
  intro k
  induction k with
  | zero =>
    intro χ hk hT hro _
    have none_ : ∀ g ∈ Z, χ g.1 ↔ χ g.2 := fun g hg => Classical.byContradiction fun n => by
      have : g ∈ Z.filter (flp χ) := List.mem_filter.mpr ⟨hg, flp_t n⟩
      have := List.length_pos_of_mem this
      omega
    have cl : ∀ e ∈ T ++ Z, χ e.1 ↔ χ e.2 := fun e he => (List.mem_append.mp he).elim (hT e) (none_ e)
    exact hro ⟨con χ cl r rV o oV, con χ cl o oV r rV⟩
  | succ k ih =>
    intro χ hk hT hro hf
    by_cases ex : ∃ f ∈ Z, ¬ (χ f.1 ↔ χ f.2)
    · obtain ⟨f, hfZ, nf⟩ := ex
      obtain ⟨S, s1, s2, s3, s4⟩ := hf f hfZ nf
      have nof : ¬ ¬ ((¬ (χ f.1 ↔ S f.1)) ↔ ¬ (χ f.2 ↔ S f.2)) := by
        by_cases a : χ f.1 <;> by_cases b : χ f.2 <;> by_cases c : S f.1 <;> by_cases d : S f.2 <;> simp [a, b, c, d] at nf s4 ⊢
      have sub : ∀ g ∈ Z, ¬ ((¬ (χ g.1 ↔ S g.1)) ↔ ¬ (χ g.2 ↔ S g.2)) → ¬ (χ g.1 ↔ χ g.2) := fun g hg n z => by
        by_cases e : g = f
        · subst e
          exact nf z
        · have sg := s2 g ((List.mem_erase_of_ne e).mpr hg)
          exact n (not_congr (iff_congr z sg))
      refine ih (fun v => ¬ (χ v ↔ S v)) ?_ (fun e he => not_congr (iff_congr (hT e he) (s1 e he))) ?_ fun g hg n => hf g hg (sub g hg n)
      · have := filter_lt (p := flp χ) (p' := flp fun v => ¬ (χ v ↔ S v)) (Z := Z) (fun g hg z => flp_t (sub g hg (flp_of z))) ⟨f, hfZ, flp_t nf, Bool.eq_false_iff.mpr fun z => nof (flp_of z)⟩
        omega
      · by_cases a : χ r <;> by_cases b : χ o <;> by_cases c : S r <;> by_cases d : S o <;> simp [a, b, c, d] at hro s3 ⊢
    · refine ih χ ?_ hT hro hf
      have : Z.filter (flp χ) = [] := List.filter_eq_nil_iff.mpr fun g hg z => ex ⟨g, hg, flp_of z⟩
      rw [this]
      exact Nat.zero_le _
theorem ext_step {V R : List Int} {T Z : List (Int × Int)} {r o : Int} (hT : ∀ e ∈ T, e.1 ∈ R ∧ e.2 ∈ R) (hr : r ∈ R) (ho : o ∉ R) (rV : r ∈ V) (oV : o ∈ V) (con : Con V (T ++ Z)) :
    ∃ f ∈ Z, ¬ (f.1 ∈ R ↔ f.2 ∈ R) ∧ Con V ((T ++ [nrm r o]) ++ Z.erase f) := Classical.byContradiction fun nex => by
  refine flip_none con rV oV _ (fun v => v ∈ R) (Nat.le_refl _) (fun e he => ⟨fun _ => (hT e he).2, fun _ => (hT e he).1⟩) (fun z => ho (z.mp hr)) fun f hf nf => ?_
  have nc : ¬ Con V ((T ++ [nrm r o]) ++ Z.erase f) := fun z => nex ⟨f, hf, nf, z⟩
  obtain ⟨S, hS⟩ := Classical.not_forall.mp nc
  obtain ⟨cl, hS⟩ := Classical.not_imp.mp hS
  obtain ⟨p, hS⟩ := Classical.not_forall.mp hS
  obtain ⟨hp, hS⟩ := Classical.not_imp.mp hS
  obtain ⟨q, hS⟩ := Classical.not_forall.mp hS
  obtain ⟨hq, hS⟩ := Classical.not_imp.mp hS
  obtain ⟨sp, nsq⟩ := Classical.not_imp.mp hS
  have c1 : ∀ e ∈ T, S e.1 ↔ S e.2 := fun e he => cl e (List.mem_append_left _ (List.mem_append_left _ he))
  have c2 : ∀ e ∈ Z.erase f, S e.1 ↔ S e.2 := fun e he => cl e (List.mem_append_right _ he)
  have c3 : S r ↔ S o := by
    have := cl (nrm r o) (List.mem_append_left _ (List.mem_append_right _ (by simp)))
    rcases nrm_or r o with e | e <;> rw [e] at this
    · exact this
    · exact this.symm
  refine ⟨S, c1, c2, c3, fun sf => nsq (con S (fun e he => ?_) p hp q hq sp)⟩
  rcases List.mem_append.mp he with he | he
  · exact c1 e he
  · by_cases z : e = f
    · rw [z]; exact sf
    · exact c2 e ((List.mem_erase_of_ne z).mpr he)
structure Prim (W : Int → Int → Option Int) (V R : List Int) (T : List (Int × Int)) : Prop where
  mem : ∀ e ∈ T, e.1 ∈ R ∧ e.2 ∈ R
  ext : ∀ P : List (Int × Int), Con V P → (∀ e ∈ P, (∃ u, W e.1 e.2 = some u) ∧ e.1 ∈ V ∧ e.2 ∈ V) → ∃ Z, Con V (T ++ Z) ∧ (∀ e ∈ Z, (∃ u, W e.1 e.2 = some u) ∧ e.1 ∈ V ∧ e.2 ∈ V) ∧ wsum W (T ++ Z) ≤ wsum W P ∧ (T ++ Z).length = P.length
  nd : T.Nodup
  len : T.length + 1 = R.length
theorem Prim.one (W : Int → Int → Option Int) (V : List Int) (b : Int) : Prim W V [b] [] where
  mem := fun _ h => nomatch h
  ext := fun P c h => ⟨P, c, h, Int.le_refl _, rfl⟩
  nd := List.nodup_nil
  len := rfl
theorem Prim.step {W : Int → Int → Option Int} {V R : List Int} {T : List (Int × Int)} (h : Prim W V R T) (sym : ∀ x y, W x y = W y x) {r o w : Int} (hr : r ∈ R) (ho : o ∉ R) (rV : ∀ x ∈ R, x ∈ V) (oV : o ∈ V) (hw : W r o = some w)
    (least : ∀ x ∈ R, ∀ y ∈ V, y ∉ R → ∀ u, W x y = some u → w ≤ u) : Prim W V (R ++ [o]) (T ++ [nrm r o]) := by
  have wn : W (nrm r o).1 (nrm r o).2 = some w := by
    rcases nrm_or r o with e | e <;> rw [e]
    · exact hw
    · show W o r = _
      rw [sym]; exact hw
  refine ⟨fun e he => ?_, fun P cP hP => ?_, ?_, ?_⟩
  · rcases List.mem_append.mp he with he | he
    · obtain ⟨a, b⟩ := h.mem e he
      exact ⟨List.mem_append_left _ a, List.mem_append_left _ b⟩
    · rw [List.mem_singleton.mp he]
      rcases nrm_or r o with e | e <;> rw [e] <;> simp [hr]
  · obtain ⟨Z, c, hZ, le, ln⟩ := h.ext P cP hP
    obtain ⟨f, hf, nf, c'⟩ := ext_step h.mem hr ho (rV r hr) oV c
    obtain ⟨⟨u, hu⟩, f1, f2⟩ := hZ f hf
    have wu : w ≤ u := by
      by_cases a : f.1 ∈ R
      · have b : f.2 ∉ R := fun b => nf ⟨fun _ => b, fun _ => a⟩
        exact least f.1 a f.2 f2 b u hu
      · have b : f.2 ∈ R := Classical.byContradiction fun b => nf ⟨fun z => absurd z a, fun z => absurd z b⟩
        exact least f.2 b f.1 f1 a u (by rw [sym]; exact hu)
    refine ⟨Z.erase f, c', fun e he => hZ e (List.mem_of_mem_erase he), ?_, ?_⟩
    · have e1 : wsum W Z = u + wsum W (Z.erase f) := by
        rw [wsum_perm (List.perm_cons_erase hf)]
        show wsum W ([f] ++ Z.erase f) = _
        rw [wsum_app]
        congr 1
        show ((W f.1 f.2).getD 0 + 0 : Int) = u
        rw [hu]
        show u + 0 = u
        omega
      rw [wsum_app] at le
      rw [wsum_app, wsum_snoc, wn]
      show wsum W T + w + wsum W (Z.erase f) ≤ _
      omega
    · rw [List.length_append] at ln
      rw [List.length_append, List.length_append, List.length_singleton, List.length_erase_of_mem hf]
      have := List.length_pos_of_mem hf
      omega
  · rw [List.nodup_append]
    refine ⟨h.nd, by simp, fun a ha b hb e => ?_⟩
    rw [List.mem_singleton.mp hb] at e
    rw [e] at ha
    obtain ⟨x, y⟩ := h.mem _ ha
    rcases nrm_or r o with e | e <;> rw [e] at x y
    · exact ho y
    · exact ho x
  · rw [List.length_append, List.length_append, List.length_singleton, List.length_singleton, h.len]
theorem Prim.least {W : Int → Int → Option Int} {V R : List Int} {T P : List (Int × Int)} (h : Prim W V R T) (all : R.Perm V) (c : Con V P) (hP : ∀ e ∈ P, (∃ u, W e.1 e.2 = some u) ∧ e.1 ∈ V ∧ e.2 ∈ V) (ln : P.length + 1 = V.length) : wsum W T ≤ wsum W P := by
  obtain ⟨Z, _, _, le, l2⟩ := h.ext P c hP
  have l3 := h.len
  rw [all.length_eq] at l3
  rw [List.length_append] at l2
  have : Z = [] := List.length_eq_zero_iff.mp (by omega)
  rw [this, List.append_nil] at le
  exact le
noncomputable def edg : Int → List Int → List (Int × Int)
  | _, [] => []
  | x, y :: r => (x, y) :: edg y r
theorem edg_len : ∀ (x : Int) (o : List Int), (edg x o).length = o.length
  | _, [] => rfl
  | _, y :: r => by
    show (edg y r).length + 1 = _
    rw [edg_len y r]
    rfl
theorem edg_mem : ∀ {x : Int} {o : List Int} {e : Int × Int}, e ∈ edg x o → e.1 ∈ x :: o ∧ e.2 ∈ x :: o
  | _, [], _, h => nomatch h
  | x, y :: r, e, h => by
    rcases List.mem_cons.mp h with rfl | h
    · exact ⟨by simp, by simp⟩
    · obtain ⟨a, b⟩ := edg_mem h
      exact ⟨List.mem_cons_of_mem _ a, List.mem_cons_of_mem _ b⟩
theorem edg_same {S : Int → Prop} : ∀ {x : Int} {o : List Int}, (∀ e ∈ edg x o, S e.1 ↔ S e.2) → ∀ y ∈ x :: o, S x ↔ S y
  | x, [], _, y, hy => by rw [List.mem_singleton.mp hy]
  | x, z :: r, h, y, hy => by
    have xz : S x ↔ S z := h (x, z) List.mem_cons_self
    rcases List.mem_cons.mp hy with rfl | hy
    · exact Iff.rfl
    · exact xz.trans (edg_same (fun e he => h e (List.mem_cons_of_mem _ he)) y hy)
theorem edg_con {V : List Int} {x : Int} {o : List Int} (p : (x :: o).Perm V) : Con V (edg x o) := fun S hS a ha b hb sa => (edg_same hS b (p.mem_iff.mpr hb)).mp ((edg_same hS a (p.mem_iff.mpr ha)).mpr sa)
noncomputable def pathC (M : Int → Int → Option Int) : Int → List Int → Option Int
  | _, [] => some 0
  | x, y :: r => (M x y).bind fun u => (pathC M y r).map (u + ·)
theorem pathC_edg {W : Int → Int → Option Int} : ∀ {x : Int} {o : List Int} {q : Int}, pathC W x o = some q → (∀ e ∈ edg x o, ∃ u, W e.1 e.2 = some u) ∧ wsum W (edg x o) = q
  | _, [], q, h => by cases h; exact ⟨fun _ z => (nomatch z), rfl⟩
  | x, y :: r, q, h => by
    cases hm : W x y with
    | none => unfold pathC at h; rw [hm] at h; cases h
    | some u =>
      unfold pathC at h
      rw [hm, Option.bind_some] at h
      obtain ⟨q', hq, rfl⟩ := Option.map_eq_some_iff.mp h
      obtain ⟨a, b⟩ := pathC_edg hq
      refine ⟨fun e he => ?_, ?_⟩
      · rcases List.mem_cons.mp he with rfl | he
        · exact ⟨u, hm⟩
        · exact a e he
      · show wsum W ([(x, y)] ++ edg y r) = _
        rw [wsum_app, b]
        congr 1
        show ((W x y).getD 0 + 0 : Int) = u
        rw [hm]
        show u + 0 = u
        omega
theorem pathC_snoc {W : Int → Int → Option Int} : ∀ (x : Int) (o : List Int) (y : Int), pathC W x (o ++ [y]) = (pathC W x o).bind fun t => (W (o.getLast?.getD x) y).map (t + ·)
  | x, [], y => by
    show (W x y).bind (fun u => (some (0 : Int)).map (u + ·)) = (W x y).map (0 + ·)
    cases W x y with
    | none => rfl
    | some u => show some (u + 0) = some (0 + u); congr 1; omega
  | x, z :: r, y => by
    show (W x z).bind (fun u => (pathC W z (r ++ [y])).map (u + ·)) = ((W x z).bind fun u => (pathC W z r).map (u + ·)).bind _
    rw [pathC_snoc z r y]
    have el : (z :: r).getLast?.getD x = r.getLast?.getD z := by
      cases r with
      | nil => rfl
      | cons a r => simp [List.getLast?_cons]
    rw [el]
    cases W x z with
    | none => rfl
    | some u =>
      cases pathC W z r with
      | none => rfl
      | some t =>
        cases W (r.getLast?.getD z) y with
        | none => rfl
        | some v => show some (u + (t + v)) = some (u + t + v); congr 1; omega
theorem mem_allM {M : Int → Int → Option Int} : ∀ {n : Nat} {last : Int} {rest o : List Int} {q : Int}, rest.Nodup → rest.length = n → o.Perm rest → pathC M last o = some q → (o, q) ∈ allM M n last rest
  | 0, last, rest, o, q, nd, ln, pm, h => by
    have : o = [] := List.length_eq_zero_iff.mp (by rw [pm.length_eq]; exact ln)
    subst this
    cases h
    exact List.mem_singleton.mpr rfl
  | n + 1, last, rest, o, q, nd, ln, pm, h => by
    cases o with
    | nil => have := pm.length_eq; rw [ln] at this; cases this
    | cons x o =>
      have hx : x ∈ rest := pm.mem_iff.mp List.mem_cons_self
      rw [show allM M (n + 1) last rest = rest.flatMap fun x => match M last x with | none => [] | some u => (allM M n x (rest.filter fun y => decide (y ≠ x))).map (addF x u) from rfl]
      refine List.mem_flatMap.mpr ⟨x, hx, ?_⟩
      unfold pathC at h
      cases hm : M last x with
      | none => rw [hm] at h; cases h
      | some u =>
        rw [hm, Option.bind_some] at h
        obtain ⟨q', hq, rfl⟩ := Option.map_eq_some_iff.mp h
        have ef : rest.filter (fun y => decide (y ≠ x)) = rest.erase x := by
          rw [nd.erase_eq_filter]
          refine List.filter_congr fun y _ => ?_
          by_cases b : y = x <;> simp [b]
        refine List.mem_map.mpr ⟨(o, q'), ?_, rfl⟩
        rw [ef]
        refine mem_allM (nd.sublist List.erase_sublist) (by rw [List.length_erase_of_mem hx]; omega) ?_ hq
        have := (pm.trans (List.perm_cons_erase hx))
        exact (List.perm_cons x).mp this
theorem allM_mem {M : Int → Int → Option Int} : ∀ {n : Nat} {last : Int} {rest : List Int} {c : Cand}, rest.Nodup → rest.length = n → c ∈ allM M n last rest → c.1.Perm rest ∧ pathC M last c.1 = some c.2
  | 0, last, rest, c, nd, ln, h => by
    have : rest = [] := List.length_eq_zero_iff.mp ln
    subst this
    cases List.mem_singleton.mp h
    exact ⟨.refl _, rfl⟩
  | n + 1, last, rest, c, nd, ln, h => by
    rw [show allM M (n + 1) last rest = rest.flatMap fun x => match M last x with | none => [] | some u => (allM M n x (rest.filter fun y => decide (y ≠ x))).map (addF x u) from rfl] at h
    obtain ⟨x, hx, h⟩ := List.mem_flatMap.mp h
    cases hm : M last x with
    | none => rw [hm] at h; cases h
    | some u =>
      rw [hm] at h
      obtain ⟨d, hd, rfl⟩ := List.mem_map.mp h
      have ef : rest.filter (fun y => decide (y ≠ x)) = rest.erase x := by
        rw [nd.erase_eq_filter]
        refine List.filter_congr fun y _ => ?_
        by_cases b : y = x <;> simp [b]
      rw [ef] at hd
      obtain ⟨p, q⟩ := allM_mem (nd.sublist List.erase_sublist) (by rw [List.length_erase_of_mem hx]; omega) hd
      refine ⟨(p.cons x).trans (List.perm_cons_erase hx).symm, ?_⟩
      show (M last x).bind (fun u => (pathC M x d.1).map (u + ·)) = some (u + d.2)
      rw [hm, q]
      rfl
theorem firstG_le {α : Type} {cs : List (α × Int)} {c : α × Int} (h : firstG cs = some c) : ∀ d ∈ cs, c.2 ≤ d.2 := by
  unfold firstG at h
  suffices k : ∀ (cs : List (α × Int)) (b : Option (α × Int)), cs.foldl betterG b = some c → (∀ d ∈ cs, c.2 ≤ d.2) ∧ ∀ a, b = some a → c.2 ≤ a.2 from (k cs none h).1
  clear h
  intro cs
  induction cs with
  | nil => exact fun b h => ⟨fun _ z => (nomatch z), fun a z => by rw [show b = some c from h] at z; cases z; exact Int.le_refl _⟩
  | cons d cs ih =>
    intro b h
    rw [List.foldl_cons] at h
    obtain ⟨h1, h2⟩ := ih _ h
    cases b with
    | none =>
      have := h2 d rfl
      exact ⟨fun x hx => (List.mem_cons.mp hx).elim (fun z => z ▸ this) (h1 x), fun a z => (nomatch z)⟩
    | some a =>
      by_cases e : d.2 < a.2
      · have := h2 d (by show (if d.2 < a.2 then some d else some a) = _; rw [if_pos e])
        exact ⟨fun x hx => (List.mem_cons.mp hx).elim (fun z => z ▸ this) (h1 x), fun x z => by cases z; omega⟩
      · have := h2 a (by show (if d.2 < a.2 then some d else some a) = _; rw [if_neg e])
        exact ⟨fun x hx => (List.mem_cons.mp hx).elim (fun z => by rw [z]; omega) (h1 x), fun x z => by cases z; exact this⟩
theorem firstG_none {α : Type} {cs : List (α × Int)} (h : firstG cs = none) : cs = [] := by
  cases cs with
  | nil => rfl
  | cons c cs =>
    exfalso
    unfold firstG at h
    rw [List.foldl_cons] at h
    suffices k : ∀ (cs : List (α × Int)) (a : α × Int), cs.foldl betterG (some a) ≠ none from k cs c h
    clear h
    intro cs
    induction cs with
    | nil => exact fun a z => nomatch z
    | cons d cs ih =>
      intro a
      rw [List.foldl_cons]
      show cs.foldl betterG (if d.2 < a.2 then some d else some a) ≠ none
      split
      · exact ih _
      · exact ih _
noncomputable def restG (n : Nat) (order : List Int) : List Int := (nums n).filter fun x => decide (x ∉ order)
noncomputable def lastG (order : List Int) : Int := order.getLast?.getD 0
noncomputable def outG (W : Int → Int → Option Int) (l : Int) (rest : List Int) : List (Int × Int) := rest.filterMap fun x => (W l x).map fun u => (x, u)
noncomputable def gr (W : Int → Int → Option Int) (n : Nat) : Nat → List Int → Int → Option Cand
  | 0, order, tot => some (order, tot)
  | k + 1, order, tot => match firstG (outG W (lastG order) (restG n order)) with
    | none => none
    | some c => gr W n k (order ++ [c.1]) (tot + c.2)
theorem restG_snoc {n : Nat} {order : List Int} {x : Int} (hx : x ∈ restG n order) : restG n (order ++ [x]) = (restG n order).erase x := by
  have nd : (restG n order).Nodup := (nums_nd n).sublist List.filter_sublist
  rw [nd.erase_eq_filter]
  unfold restG
  rw [List.filter_filter]
  refine List.filter_congr fun y _ => ?_
  simp only [List.mem_append, List.mem_singleton, not_or]
  by_cases a : y ∈ order <;> by_cases b : y = x <;> simp [a, b]
structure OrdG (n : Nat) (order : List Int) : Prop where
  nd : order.Nodup
  inn : ∀ x ∈ order, 0 ≤ x ∧ x < n
  len : order.length + (restG n order).length = n
theorem OrdG.one {n : Nat} (h : 1 ≤ n) : OrdG n [0] := by
  have e : (restG n [0]).length + 1 = n := by
    have p : (0 :: restG n [0]).Perm (nums n) := by
      have m : (0 : Int) ∈ nums n := mem_nums (by decide) (by omega)
      refine List.Perm.trans ?_ (List.perm_cons_erase m).symm
      rw [(nums_nd n).erase_eq_filter]
      refine List.Perm.cons _ (List.Perm.of_eq ?_)
      unfold restG
      refine List.filter_congr fun y _ => ?_
      by_cases b : y = 0 <;> simp [b]
    have := p.length_eq
    rw [nums_len, List.length_cons] at this
    exact this
  exact ⟨by simp, fun x hx => by rw [List.mem_singleton.mp hx]; omega, by rw [List.length_singleton]; omega⟩
theorem rest_mem {n : Nat} {order : List Int} {x : Int} (h : x ∈ restG n order) : (0 ≤ x ∧ x < n) ∧ x ∉ order := by
  obtain ⟨a, b⟩ := List.mem_filter.mp h
  obtain ⟨k, rfl, hk⟩ := nums_mem a
  exact ⟨by omega, of_decide_eq_true b⟩
theorem OrdG.snoc {n : Nat} {order : List Int} {x : Int} (h : OrdG n order) (hx : x ∈ restG n order) : OrdG n (order ++ [x]) := by
  have m := rest_mem hx
  refine ⟨?_, fun y hy => ?_, ?_⟩
  · rw [List.nodup_append]
    exact ⟨h.nd, by simp, fun a ha b hb e => m.2 (by rw [List.mem_singleton.mp hb] at e; exact e ▸ ha)⟩
  · rcases List.mem_append.mp hy with z | z
    · exact h.inn y z
    · rw [List.mem_singleton.mp z]; exact m.1
  · have l := h.len
    have := List.length_pos_of_mem hx
    rw [restG_snoc hx, List.length_append, List.length_singleton, List.length_erase_of_mem hx]
    omega
theorem outG_mem {W : Int → Int → Option Int} {l : Int} {rest : List Int} {c : Int × Int} (h : c ∈ outG W l rest) : c.1 ∈ rest ∧ W l c.1 = some c.2 := by
  unfold outG at h
  obtain ⟨x, hx, h⟩ := List.mem_filterMap.mp h
  obtain ⟨u, hu, rfl⟩ := Option.map_eq_some_iff.mp h
  exact ⟨hx, hu⟩
theorem nd_perm : ∀ {l m : List Int}, l.Nodup → (∀ x ∈ l, x ∈ m) → m.length ≤ l.length → l.Perm m
  | [], m, _, _, h => by
    have : m = [] := List.length_eq_zero_iff.mp (by simpa using h)
    rw [this]
  | a :: l, m, nd, h, ln => by
    have n := List.nodup_cons.mp nd
    have ha := h a List.mem_cons_self
    have := nd_perm (m := m.erase a) n.2 (fun x hx => (List.mem_erase_of_ne (fun (z : x = a) => n.1 (z ▸ hx))).mpr (h x (List.mem_cons_of_mem _ hx))) (by rw [List.length_erase_of_mem ha]; rw [List.length_cons] at ln; omega)
    exact (this.cons a).trans (List.perm_cons_erase ha).symm
theorem gr_ok {W : Int → Int → Option Int} {n : Nat} : ∀ {k : Nat} {o1 : List Int} {tot : Int} {c : Cand}, gr W n k (0 :: o1) tot = some c → OrdG n (0 :: o1) → k = (restG n (0 :: o1)).length → pathC W 0 o1 = some tot → ∃ o, c.1 = 0 :: o ∧ (0 :: o).Perm (nums n) ∧ pathC W 0 o = some c.2
  | 0, o1, tot, c, h, O, hk, hp => by
    cases h
    refine ⟨o1, rfl, nd_perm O.nd (fun x hx => mem_nums (O.inn x hx).1 (O.inn x hx).2) ?_, hp⟩
    have := O.len
    rw [nums_len]
    omega
  | k + 1, o1, tot, c, h, O, hk, hp => by
    unfold gr at h
    cases hf : firstG (outG W (lastG (0 :: o1)) (restG n (0 :: o1))) with
    | none => rw [hf] at h; cases h
    | some d =>
      rw [hf] at h
      obtain ⟨m1, m2⟩ := outG_mem (firstG_mem hf)
      have e : (0 :: o1) ++ [d.1] = 0 :: (o1 ++ [d.1]) := rfl
      have h' : gr W n k (0 :: (o1 ++ [d.1])) (tot + d.2) = some c := h
      have O' : OrdG n (0 :: (o1 ++ [d.1])) := O.snoc m1
      refine gr_ok h' O' ?_ ?_
      · rw [← e, restG_snoc m1, List.length_erase_of_mem m1]
        omega
      · rw [pathC_snoc, hp, Option.bind_some]
        have el : o1.getLast?.getD 0 = lastG (0 :: o1) := by
          unfold lastG
          cases o1 with
          | nil => rfl
          | cons a r => simp [List.getLast?_cons]
        rw [el, m2]
        rfl
theorem restG_one {n : Nat} {tl : List Int} (e : nums n = 0 :: tl) : restG n [0] = tl := by
  have nd := nums_nd n
  unfold restG
  rw [e] at nd ⊢
  rw [List.filter_cons_of_neg (by simp)]
  refine List.filter_eq_self.mpr fun y hy => ?_
  have := (List.nodup_cons.mp nd).1
  have : y ≠ 0 := fun z => this (z ▸ hy)
  simpa using this
theorem first_mem {cs : List Cand} {c : Cand} (h : firstMin cs = some c) : c ∈ cs := firstG_mem (firstG_cand cs ▸ h)
theorem all_bound {M : Int → Int → Option Int} {B : Int} (h0 : 0 ≤ B) (hM : ∀ i j u, M i j = some u → -B ≤ u ∧ u ≤ B) : ∀ (n : Nat) (last : Int) (rest : List Int) (c : Cand), c ∈ allM M n last rest → -(B * n) ≤ c.2 ∧ c.2 ≤ B * n ∧ c.1.length = n
  | 0, _, _, c, h => by
    cases List.mem_singleton.mp h
    exact ⟨by simp, by simp, rfl⟩
  | n + 1, last, rest, c, h => by
    rw [allM_succ] at h
    obtain ⟨x, _, hx⟩ := List.mem_flatMap.mp h
    cases hm : M last x with
    | none => rw [hm] at hx; cases hx
    | some u =>
      rw [hm] at hx
      obtain ⟨d, hd, rfl⟩ := List.mem_map.mp hx
      have ih := all_bound h0 hM n x _ d hd
      have b := hM last x u hm
      refine ⟨?_, ?_, ?_⟩
      · show -(B * ((n + 1 : Nat) : Int)) ≤ u + d.2
        rw [Int.natCast_add, Int.mul_add]
        omega
      · show u + d.2 ≤ B * ((n + 1 : Nat) : Int)
        rw [Int.natCast_add, Int.mul_add]
        omega
      · show d.1.length + 1 = n + 1
        omega
theorem best_bound {M : Int → Int → Option Int} {B : Int} (h0 : 0 ≤ B) (hM : ∀ i j u, M i j = some u → -B ≤ u ∧ u ≤ B) {n : Nat} {last : Int} {rest : List Int} {c : Cand} (h : bestM M n last rest = some c) : -(B * n) ≤ c.2 ∧ c.2 ≤ B * n ∧ c.1.length = n := by
  rw [best_all] at h
  exact all_bound h0 hM n last rest c (first_mem h)
noncomputable def ResAt (K : PySem.W.Frag) (H : Hp) (D : Int) (v : V) (r : Option Cand) : Prop := match r with
  | none => v = .non
  | some c => ∃ t l f, v = .ref t ∧ H t = some (.tup [.ref l, .ref f]) ∧ H l = some (.lst (c.1.map V.int)) ∧ FrD K H D f c.2
theorem ResAt.same {H H' : Hp} {D : Int} {v : V} {r : Option Cand} (h : ResAt K H D v r) (e : Same H H') : ResAt K H' D v r := by
  cases r with
  | none => exact h
  | some c =>
    obtain ⟨t, l, f, a, b, d, g⟩ := h
    exact ⟨t, l, f, a, e _ _ b, e _ _ d, g.same e⟩
theorem ResAt.ok {H : Hp} {D : Int} {v : V} {r : Option Cand} (h : ResAt K H D v r) : okV v := by
  cases r with
  | none => cases (show v = .non from h); exact True.intro
  | some c =>
    obtain ⟨t, l, f, rfl, _⟩ := h
    exact True.intro
noncomputable def cnt : Nat → Nat
  | 0 => 0
  | n + 1 => 1 + (n + 1) * cnt n
structure Tab (K : PySem.W.Frag) (H : Hp) (D B : Int) (wa : Addr) (M : Int → Int → Option Int) (top : Int) : Prop where
  den : Den D
  row : ∀ l, 0 ≤ l → l ≤ top → ∃ r : List (Option Int), RowAt K H D wa l r ∧ (r.length : Int) = top ∧ ∀ x, M l x = ((r[x.toNat]?).getD none)
  b0 : 0 ≤ B
  b1 : Bt 900 B
  bd : ∀ i j u, M i j = some u → -B ≤ u ∧ u ≤ B
theorem Tab.same {H H' : Hp} {D B : Int} {wa : Addr} {M : Int → Int → Option Int} {top : Int} (h : Tab K H D B wa M top) (e : Same H H') : Tab K H' D B wa M top := ⟨h.den, fun l a b => by
  obtain ⟨r, q, z⟩ := h.row l a b
  obtain ⟨ws, rs, l', w1, w2, w3, w4⟩ := q.at_
  exact ⟨r, ⟨ws, rs, l', e.seq w1, w2, e.seq w3, w4.same e⟩, z⟩, h.b0, h.b1, h.bd⟩
structure MS (P : Program) (w : World) (K : PySem.W.Frag) (H : Hp) (D : Int) (M : Int → Int → Option Int) (kd : Addr) (S : List Addr) (xs : List (NKey × Addr × V)) : Prop where
  at_ : H kd = some (memO P w kd xs)
  ents : ∀ x ∈ xs, KeyN (hids (kd :: S) H) x.2.1 x.1 ∧ ResAt K (hids (kd :: S) H) D x.2.2 (bestM M x.1.2.length x.1.1 x.1.2)
theorem MS.same {P : Program} {w : World} {H H' : Hp} {D : Int} {M : Int → Int → Option Int} {kd : Addr} {S : List Addr} {xs : List (NKey × Addr × V)} (m : MS P w K H D M kd S xs) (e : Same H H') : MS P w K H' D M kd S xs := ⟨e _ _ m.at_, fun x hx => ⟨(m.ents x hx).1.same e.hids, (m.ents x hx).2.same e.hids⟩⟩
theorem MS.memo {P : Program} {w : World} {H : Hp} {D : Int} {M : Int → Int → Option Int} {kd : Addr} {S : List Addr} {xs : List (NKey × Addr × V)} (m : MS P w K H D M kd S xs) (l : xs.length ≤ 100000) : Memo P w H kd xs := ⟨m.at_, fun x hx => ⟨(m.ents x hx).1.same (hids_same _ _), (m.ents x hx).2.ok⟩, l⟩
theorem look_mem {xs : List (NKey × Addr × V)} {k : NKey} {v : V} (h : lookM xs k = some v) : ∃ x ∈ xs, x.1 = k ∧ x.2.2 = v := by
  unfold lookM at h
  obtain ⟨x, hx, rfl⟩ := Option.map_eq_some_iff.mp h
  exact ⟨x, List.mem_of_find?_eq_some hx, by have := List.find?_some hx; exact of_decide_eq_true this, rfl⟩
theorem look_none {xs : List (NKey × Addr × V)} {k : NKey} (h : ∀ x ∈ xs, x.1 ≠ k) : lookM xs k = none := by
  unfold lookM
  rw [List.find?_eq_none.mpr fun x hx => by simpa using h x hx]
  rfl
theorem look_last {xs : List (NKey × Addr × V)} {k : NKey} {a : Addr} {v : V} (h : lookM xs k = none) : lookM (xs ++ [(k, a, v)]) k = some v := by
  unfold lookM at *
  have : xs.find? (fun x => decide (x.1 = k)) = none := by
    cases e : xs.find? (fun x => decide (x.1 = k)) with
    | none => rfl
    | some y => rw [e] at h; cases h
  rw [List.find?_append, this]
  simp
inductive spLB_ (P : Program) (w : World) (K : PySem.W.Frag) (n : Nat) (vs : List V) (H : Hp) (Q : VK) : Prop where
  | mk (D B top last : Int) (M : Int → Int → Option Int) (wa tr kd : Addr) (S : List Addr) (rest : List Int) (xs : List (NKey × Addr × V)) : (vs = [.ref wa, .int last, .ref tr, .ref kd]) → (Tab K (hids (kd :: S) H) D B wa M top) → (hids (kd :: S) H tr = some (.tup (rest.map V.int))) → (rest.Nodup) → (rest.length < n) → (n ≤ 9) → (0 ≤ last) → (last ≤ top) → ((∀ x ∈ rest, 0 ≤ x ∧ x < top)) → ((∀ b ∈ S, ∃ ys, H b = some (.lst ys))) → (MS P w K H D M kd S xs) → (xs.length + cnt rest.length ≤ 100000) → (∀ (v : V) (xs' : List (NKey × Addr × V)) (H' : Hp), Same (hid kd H) (hid kd H') → MS P w K H' D M kd S xs' → xs'.length ≤ xs.length + cnt rest.length → (∀ x ∈ xs', x ∈ xs ∨ x.1.2.length ≤ rest.length) → ResAt K (hids (kd :: S) H') D v (bestM M rest.length last rest) → Q v H') → spLB_ P w K n vs H Q
noncomputable def spLB (P : Program) (w : World) (K : PySem.W.Frag) (n : Nat) : Sp := fun vs H Q _ => spLB_ P w K n vs H Q
theorem free_S {H : Hp} {kd a : Addr} {S : List Addr} {o : HO} (hk : H kd = some o) (hs : ∀ b ∈ S, H b ≠ none) (ha : H a = none) : a ∉ kd :: S := fun m => by
  rcases List.mem_cons.mp m with rfl | m
  · rw [hk] at ha; cases ha
  · exact hs a m ha
theorem same_S {H H' : Hp} {kd : Addr} {S : List Addr} (e : Same (hid kd H) (hid kd H')) : Same (hids (kd :: S) H) (hids (kd :: S) H') := fun b o q => by
  unfold hids at q ⊢
  by_cases hb : b ∈ kd :: S
  · rw [if_pos hb] at q; cases q
  · rw [if_neg hb] at q ⊢
    have ne : b ≠ kd := fun z => hb (z ▸ List.mem_cons_self)
    have r := e b o (by rw [hid_ne ne]; exact q)
    rw [hid_ne ne] at r
    exact r
theorem some_S {H H' : Hp} {kd : Addr} {S : List Addr} (e : Same (hid kd H) (hid kd H')) (hk : H' kd ≠ none) (hs : ∀ b ∈ S, H b ≠ none) : ∀ b ∈ S, H' b ≠ none := fun b hb hn => by
  by_cases z : b = kd
  · exact hk (z ▸ hn)
  · cases q : H b with
    | none => exact hs b hb q
    | some o =>
      have r := e b o (by rw [hid_ne z]; exact q)
      rw [hid_ne z, hn] at r
      cases r
theorem same_sub {A B : List Addr} {H H' : Hp} (sub : ∀ a ∈ A, a ∈ B) (e : Same (hids A H) (hids A H')) : Same (hids B H) (hids B H') := fun b o q => by
  have hb : b ∉ B := fun z => by unfold hids at q; rw [if_pos z] at q; cases q
  have ha : b ∉ A := fun z => hb (sub b z)
  rw [hids_at hb] at q ⊢
  have r := e b o (by rw [hids_at ha]; exact q)
  rw [hids_at ha] at r
  exact r
theorem hids_less {A B : List Addr} {H : Hp} (sub : ∀ a ∈ A, a ∈ B) : Same (hids B H) (hids A H) := fun b o q => by
  have hb : b ∉ B := fun z => by unfold hids at q; rw [if_pos z] at q; cases q
  rw [hids_at hb] at q
  rw [hids_at (fun z => hb (sub b z))]
  exact q
theorem look_none_ne {xs : List (NKey × Addr × V)} {k : NKey} (h : lookM xs k = none) : ∀ x ∈ xs, x.1 ≠ k := fun x hx e => by
  unfold lookM at h
  cases q : xs.find? (fun x => decide (x.1 = k)) with
  | none => exact absurd (List.find?_eq_none.mp q x hx) (by simpa using e)
  | some y => rw [q] at h; cases h
theorem best_steps {M : Int → Int → Option Int} {m : Nat} {last : Int} {rest : List Int} : (rest.filterMap fun x => (M last x).map fun u => (x, u)).filterMap (fun p : Int × Int => (bestM M m p.1 (rest.filter fun y => decide (y ≠ p.1))).map (addF p.1 p.2)) = rest.filterMap fun x => (M last x).bind fun u => (bestM M m x (rest.filter fun y => decide (y ≠ x))).map (addF x u) := by
  rw [List.filterMap_filterMap]
  congr 1
  funext x
  cases M last x <;> rfl
theorem list_S {P : Program} {w : World} {H H' : Hp} {kd : Addr} {S : List Addr} {xs : List (NKey × Addr × V)} (hk : H kd = some (memO P w kd xs)) (e : Same (hid kd H) (hid kd H')) (hs : ∀ b ∈ S, ∃ ys, H b = some (.lst ys)) : ∀ b ∈ S, ∃ ys, H' b = some (.lst ys) := fun b hb => by
  obtain ⟨ys, q⟩ := hs b hb
  have z : b ≠ kd := fun z => by rw [z, hk] at q; cases q
  have r := e b _ (by rw [hid_ne z]; exact q)
  rw [hid_ne z] at r
  exact ⟨ys, r⟩
theorem fr_S {P : Program} {w : World} {G : Hp} {kd fr : Addr} {S : List Addr} {D u : Int} {xs : List (NKey × Addr × V)} (hk : G kd = some (memO P w kd xs)) (hs : ∀ b ∈ S, ∃ ys, G b = some (.lst ys)) (h : FrD K G D fr u) : FrD K (hids (kd :: S) G) D fr u := by
  have R : Reps K G [.ref fr] [.tuple [.int (fN u D), .int (fD u D)]] := .one (.tup h (.cons (.int _) (.cons (.int _) .nil)))
  have R2 : Reps K (hids (kd :: S) G) [.ref fr] [.tuple [.int (fN u D), .int (fD u D)]] := R.sameT (fun b o hb ho => by
    obtain ⟨zs, r⟩ := hb
    have nb : b ∉ kd :: S := fun m => by
      rcases List.mem_cons.mp m with rfl | m
      · rcases r with r | ⟨o', r⟩ <;> rw [hk] at r <;> cases r
      · obtain ⟨ys, e⟩ := hs b m
        rcases r with r | ⟨o', r⟩ <;> rw [e] at r <;> cases r
    rw [hids_at nb]
    exact ho) rfl
  obtain ⟨a, ys, e, ha, ry⟩ := (show Rep K _ (.ref fr) _ from by cases R2 with | cons q _ => exact q).tup_of
  cases e
  cases (show ys = [V.int (fN u D), V.int (fD u D)] from Reps.ints_of (ns := [fN u D, fD u D]) ry)
  exact ha
theorem fm_one {α β : Type} (f : α → Option β) (a : α) : [a].filterMap f = (f a).toList := by
  cases h : f a <;> simp [h]
theorem lb_step (T : Txt K mg t) (n : Nat) (G_least_behind : FnOk P w K mg base CX0 (n + 5) t.f_least_behind t.d_least_behind ["wastes", "last", "rest", "known"] (spLB P w K n)) : FnOk P w K mg base CX0 (n + 5 + 1) t.f_least_behind t.d_least_behind ["wastes", "last", "rest", "known"] (spLB P w K (n + 1)) := by
  have G_steps_from := ok_steps_fromT (P := P) (w := w) (base := base) T
  have G_sum_of := ok_sum_of (P := P) (w := w) (base := base) T
  have G_least_of := ok_least_of (P := P) (w := w) (base := base) T
  refine T.D_least_behind.F.ok sc_least_behind (fun vs H Q E h => ?_) (fun cdv A outer s H vs Q E hr h => ?_)
  · obtain ⟨D, B, top, last, M, wa, tr, kd, S, rest, xs, rfl, _⟩ := h
    rfl
  obtain ⟨D, B, top, last, M, wa, tr, kd, S, rest, xs, rfl, Ta, ht, nd, ln, n9, l0, l1, hb, hL, ms, lx, q⟩ := h
  have hS : ∀ b ∈ S, H b ≠ none := fun b hb' z => by
    obtain ⟨ys, e⟩ := hL b hb'
    rw [z] at e
    cases e
  have htr : H tr = some (.tup (rest.map V.int)) := hids_same _ _ _ _ ht
  have lx0 : xs.length ≤ 100000 := by omega
  refine ⟨_, (pss_cons (ps_if (pt_not (pt_tru (qv qv_least_behind 2 rfl rfl rfl))) (pss_one (ps_ret (pe_tup (pa_cons (pe_lst pa_nil) (pa_cons (pe_tup (pa_cons pe_int (pa_cons pe_int pa_nil))) pa_nil))))) pss_nil)
      (pss_cons (ps_if (pt_cmpR (op_notInM hr.units) (pe_tup (pa_cons (qv qv_least_behind 1 rfl rfl rfl) (pa_cons (qv qv_least_behind 2 rfl rfl rfl) pa_nil))) (qv qv_least_behind 3 rfl rfl rfl) (by with_unfolding_all rfl)) (pss_cons (q_set (i := 4) qv_least_behind sc_least_behind.nd rfl rfl rfl (pe_lst pa_nil))
      (pss_cons (ps_for PassesOwn.never rfl (pi_list (q_call G_steps_from (hr.mono (by first | decide | omega)) qg_least_behind 0 rfl rfl T.D_steps_from.m T.D_steps_from.F.kp T.D_steps_from.b .nil pass0 (pa_cons (qv qv_least_behind 0 rfl rfl rfl) (pa_cons (qv qv_least_behind 1 rfl rfl rfl) (pa_cons (qv qv_least_behind 2 rfl rfl rfl) pa_nil))))) (pg_tup rfl (pgs_cons (q_name (i := 5) qv_least_behind sc_least_behind.nd rfl rfl rfl) (pgs_cons (q_name (i := 6) qv_least_behind sc_least_behind.nd rfl rfl rfl) pgs_nil))) (pss_cons (q_set (i := 7) qv_least_behind sc_least_behind.nd rfl rfl rfl (q_call G_least_behind (hr.mono (Nat.le_refl _)) qg_least_behind 1 rfl rfl T.D_least_behind.m T.D_least_behind.F.kp T.D_least_behind.b .nil pass0 (pa_cons (qv qv_least_behind 0 rfl rfl rfl) (pa_cons (qv qv_least_behind 5 rfl rfl rfl) (pa_cons (q_callTy call_tuple_of qg_least_behind 2 rfl rfl T.z_tuple bo_tuple (pa_cons (pe_comp ["other", "number"] [none, some 5] rfl  (pi_tup (qv qv_least_behind 2 rfl rfl rfl)) (fun _ _ _ _ => (pg_name (i := 0) (show (["other", "number"] : List Str).Nodup by decide +kernel) rfl (Or.inl rfl))) (fun _ _ _ _ => (pts_one (pt_cmpR op_ne (pv 0) (pv 1) (nomark _)))) (fun _ _ _ _ => (pv 0)) rfl rfl) pa_nil)) (pa_cons (qv qv_least_behind 3 rfl rfl rfl) pa_nil))))))
      (pss_one (ps_if (pt_cmp (pc_notN (qv qv_least_behind 7 rfl rfl rfl))) (pss_one (ps_expr (pe_bm PySem.F.plainAttrs_list PySem.F.slot_list_append PySem.F.type_list_append mt_appendR (qv qv_least_behind 4 rfl rfl rfl) (pa_cons (pe_tup (pa_cons (pe_op op_cat (pe_lst (pa_cons (qv qv_least_behind 5 rfl rfl rfl) pa_nil)) (pe_ix ix_tup (qv qv_least_behind 7 rfl rfl rfl) pe_int (fun _ _ => rfl))) (pa_cons (q_call G_sum_of (hr.mono (by first | decide | omega)) qg_least_behind 3 rfl rfl T.D_sum_of.m T.D_sum_of.F.kp T.D_sum_of.b .nil pass0 (pa_cons (qv qv_least_behind 6 rfl rfl rfl) (pa_cons (pe_ix ix_tup (qv qv_least_behind 7 rfl rfl rfl) pe_int (fun _ _ => rfl)) pa_nil))) pa_nil))) pa_nil)))) pss_nil))))
      (pss_one (ps_asg (q_call G_least_of (hr.mono (by first | decide | omega)) qg_least_behind 4 rfl rfl T.D_least_of.m T.D_least_of.F.kp T.D_least_of.b .nil pass0 (pa_cons (qv qv_least_behind 4 rfl rfl rfl) pa_nil)) (pg_sub (qv qv_least_behind 3 rfl rfl rfl) (pe_tup (pa_cons (qv qv_least_behind 1 rfl rfl rfl) (pa_cons (qv qv_least_behind 2 rfl rfl rfl) pa_nil))) (set_memo hr.units)))))) pss_nil)
      (pss_one (ps_ret (pe_mget hr.units (qv qv_least_behind 3 rfl rfl rfl) (pe_tup (pa_cons (qv qv_least_behind 1 rfl rfl rfl) (pa_cons (qv qv_least_behind 2 rfl rfl rfl) pa_nil))) (fun _ _ => rfl)))))), ?_⟩
  walk_at "vcs"
  refine vc_seq ?_
  walk_at "vcs"
  refine ⟨!(rest.map V.int).isEmpty, .inr (.inl ⟨_, SqT.of htr, rfl⟩), ?_⟩
  by_cases he : rest = []
  · subst he
    walk_at "vc"
    refine ⟨(by show 0 ≤ sizeLine; decide), fun a1 h1 => ?_⟩
    walk_at "vc"
    refine ⟨(by show 2 ≤ sizeLine; decide), fun a2 h2 => ?_⟩
    walk_at "vc"
    refine ⟨(by show 2 ≤ sizeLine; decide), fun a3 h3 => ?_⟩
    walk_at "vc"
    have Y1 := same_new h1 (.lst [])
    have g1 : upd H a1 (.lst []) a1 = some (.lst []) := upd_same
    have f1 := free_S ms.at_ hS h1
    generalize upd H a1 (.lst []) = H1 at *
    have Y2 := same_new h2 (.tup [.int 0, .int 1])
    have g2 : upd H1 a2 (.tup [.int 0, .int 1]) a2 = some (frO D 0) := by rw [upd_same, fd_zero Ta.den]
    have f2 := free_S ms.at_ hS (Y1.free h2)
    generalize upd H1 a2 (.tup [.int 0, .int 1]) = H2 at *
    have Y3 := same_new h3 (.tup [.ref a1, .ref a2])
    have f3 := free_S ms.at_ hS (Y1.free (Y2.free h3))
    have Y := Y1.trans (Y2.trans Y3)
    refine q (.ref a3) xs _ Y.hid (ms.same Y) (by show xs.length ≤ xs.length + 0; omega) (fun x hx => .inl hx) ⟨a3, a1, a2, rfl, ?_, ?_, ?_⟩
    · rw [hids_at f3]; exact upd_same
    · rw [hids_at f1]; exact Y3 _ _ (Y2 _ _ g1)
    · exact .of (by rw [hids_at f2]; exact Y3 _ _ g2)
  have hne : (rest.map V.int).isEmpty = false := by cases rest with | nil => exact absurd rfl he | cons => rfl
  rw [hne]
  refine ite2 (fun z => absurd z (by decide)) (fun _ => ?_)
  walk_at "vcs"
  obtain ⟨m, hm⟩ : ∃ m, rest.length = m + 1 := ⟨rest.length - 1, by have : rest.length ≠ 0 := fun e => he (List.length_eq_zero_iff.mp e); omega⟩
  have key : ∀ {G : Hp} {a1 : Addr}, Same (hids (kd :: S) H) (hids (kd :: S) G) → G kd ≠ none → (∀ b ∈ S, G b ≠ none) → G a1 = none → a1 ∉ kd :: S ∧ KeyN (hids (kd :: S) (upd G a1 (.tup [.int last, .ref tr]))) a1 (last, rest) := fun {G a1} e hk hs h => by
    have fa : a1 ∉ kd :: S := fun mm => (List.mem_cons.mp mm).elim (fun z => hk (z ▸ h)) fun z => hs a1 z h
    refine ⟨fa, tr, by rw [hids_at fa]; exact upd_same, ?_⟩
    have t1 := e _ _ ht
    exact (same_new h (.tup [.int last, .ref tr])).hids _ _ t1
  with_reducible refine tSeq.join (fun σ H' => ∃ (xs' : List (NKey × Addr × V)) (v : V) (u4 u5 u6 u7 : Option V), σ = [some (.ref wa), some (.int last), some (.ref tr), some (.ref kd), u4, u5, u6, u7] ∧ Same (hid kd H) (hid kd H') ∧ MS P w K H' D M kd S xs' ∧ xs'.length ≤ xs.length + cnt rest.length ∧ (∀ x ∈ xs', x ∈ xs ∨ x.1.2.length ≤ rest.length) ∧ lookM xs' (last, rest) = some v ∧ ResAt K (hids (kd :: S) H') D v (bestM M rest.length last rest)) (fun R k => ?_) ?_
  rotate_left
  · rintro σ H' ⟨xs', v, u4, u5, u6, u7, rfl, sm, ms', lx', hx', lk, rs⟩
    walk_at "vc"
    refine ⟨(by show 2 ≤ sizeLine; decide), fun a1 h1 => ?_⟩
    have hs' : ∀ b ∈ S, H' b ≠ none := some_S sm (by rw [ms'.at_]; exact fun z => nomatch z) hS
    have Y := same_new h1 (.tup [.int last, .ref tr])
    obtain ⟨fa, kn⟩ := key (G := H') (a1 := a1) (same_S sm) (by rw [ms'.at_]; exact fun z => nomatch z) hs' h1
    generalize upd H' a1 (.tup [.int last, .ref tr]) = H2 at *
    walk_at "vc"
    refine ⟨kd, a1, (last, rest), xs', v, rfl, rfl, kn.same (hids_same _ _), (ms'.same Y).memo (by omega), lk, ?_⟩
    walk_at "vc"
    exact q v xs' H2 (sm.trans Y.hid) (ms'.same Y) lx' hx' (rs.same Y.hids)
  walk_at "vc"
  refine ⟨(by show 2 ≤ sizeLine; decide), fun a1 h1 => ?_⟩
  have Y1 := same_new h1 (.tup [.int last, .ref tr])
  obtain ⟨fa1, kn1⟩ := key (G := H) (a1 := a1) (Same.refl _) (by rw [ms.at_]; exact fun z => nomatch z) hS h1
  generalize upd H a1 (.tup [.int last, .ref tr]) = H1 at *
  walk_at "vc"
  refine vc_notM (kn1.same (hids_same _ _)) ((ms.same Y1).memo lx0) ?_
  walk_at "vc"
  cases hlk : lookM xs (last, rest) with
  | some v =>
    obtain ⟨x, hx, e1, e2⟩ := look_mem hlk
    refine ite2 (fun z => by cases z) (fun _ => ?_)
    walk_at "vc"
    have en := ((ms.same Y1).ents x hx).2
    rw [e1, e2] at en
    exact k _ _ ⟨xs, v, _, _, _, _, rfl, Y1.hid, ms.same Y1, by omega, fun x hx => .inl hx, hlk, en⟩
  | none =>
    refine ite2 (fun _ => ?_) (fun z => absurd rfl z)
    walk_at "vc"
    refine ⟨(by show 0 ≤ sizeLine; decide), fun f hf => ?_⟩
    walk_at "vc"
    have Y2 := same_new hf (.lst [])
    have gf : upd H1 f (.lst []) f = some (.lst []) := upd_same
    have ms1 := ms.same Y1
    have fS := free_S ms1.at_ (fun b hb' z => hS b hb' (Y1.free z)) hf
    generalize upd H1 f (.lst []) = H2 at *
    have S2 := Y1.trans Y2
    obtain ⟨row, hrow, rlen, hMx⟩ := Ta.row last l0 l1
    have bt : ∀ u, some u ∈ row → Bt 1100 u := fun u hu => by
      obtain ⟨j, hj⟩ := List.mem_iff_getElem?.mp hu
      have e : M last (j : Int) = some u := by rw [hMx]; show (row[j]?).getD none = _; rw [hj]; rfl
      have b := Ta.bd _ _ _ e
      exact (Bt.le (by omega) Ta.b1).mono (by decide)
    have st : stepsR row rest = rest.filterMap fun x => (M last x).map fun u => (x, u) := by
      unfold stepsR
      congr 1
      funext x
      rw [hMx]
    have T2 : Tab K H2 D B wa M top := (Ta.same (hids_same _ _)).same S2
    obtain ⟨row', hrow', rlen', hMx'⟩ := T2.row last l0 l1
    have er : RowAt K H2 D wa last row := by
      obtain ⟨ws, rs, l', w1, w2, w3, w4⟩ := hrow.at_
      exact ⟨ws, rs, l', ((hids_same _ _).trans S2).seq w1, w2, ((hids_same _ _).trans S2).seq w3, w4.same ((hids_same _ _).trans S2)⟩
    refine ⟨D, last, wa, tr, row, rest, rfl, Ta.den, er, SqT.of (S2 _ _ htr), fun x hx => ⟨(hb x hx).1, by have := (hb x hx).2; omega⟩, by omega, bt, fun ls rs H3 S3 nls gls lrs ch => ?_⟩
    have gf3 := S3 _ _ gf
    have nlf : f ≠ ls := ne_of_none gf nls
    have SH3 := S2.trans S3
    have e3 : Same (hids (kd :: S) H) (hids (kd :: f :: S) H3) := fun b o q => by
      have hbm : b ∉ kd :: S := fun z => by unfold hids at q; rw [if_pos z] at q; cases q
      rw [hids_at hbm] at q
      have nb : b ≠ f := ne_of_none (Y1 _ _ q) hf
      rw [hids_at (by simp only [List.mem_cons, not_or] at hbm ⊢; exact ⟨hbm.1, nb, hbm.2⟩)]
      exact SH3 _ _ q
    have ms3 : MS P w K H3 D M kd (f :: S) xs := ⟨SH3 _ _ ms.at_, fun x hx => ⟨(ms.ents x hx).1.same e3, (ms.ents x hx).2.same e3⟩⟩
    have hk3 := SH3 _ _ ms.at_
    have nfk : f ≠ kd := fun z => fS (z ▸ List.mem_cons_self)
    have two : ∀ {G : Hp}, Same (hids [kd, f] H3) (hids [kd, f] G) → Same (hids (kd :: f :: S) H3) (hids (kd :: f :: S) G) := fun {G} e => same_sub (fun a ha => by simp only [List.mem_cons, List.not_mem_nil, or_false] at ha ⊢; rcases ha with h | h <;> simp [h]) e
    have eHf : ∀ {G : Hp}, Same (hids [kd, f] H3) (hids [kd, f] G) → Same (hid kd H) (hid kd G) := fun {G} e b o q' => by
      have nk : b ≠ kd := fun z => by unfold hid at q'; rw [if_pos z] at q'; cases q'
      rw [hid_ne nk] at q' ⊢
      have nb : b ≠ f := ne_of_none (Y1 _ _ q') hf
      have r := e b o (by rw [hids_at (by simp [nk, nb])]; exact SH3 _ _ q')
      rw [hids_at (by simp [nk, nb])] at r
      exact r
    have ce : cnt rest.length = 1 + (m + 1) * cnt m := by rw [hm]; rfl
    have slen : rs.length ≤ m + 1 := by
      rw [lrs, st, ← hm]
      exact List.length_filterMap_le _ _
    have nlk : ls ≠ kd := (ne_of_none (S2 _ _ ms.at_) nls).symm
    have gls' : ∀ {G : Hp}, Same (hids [kd, f] H3) (hids [kd, f] G) → G ls = some (.lst rs) := fun {G} e => by
      have r := e ls _ (by rw [hids_at (by simp [nlk, nlf.symm])]; exact gls)
      rw [hids_at (by simp [nlk, nlf.symm])] at r
      exact r
    have hS3 : ∀ b ∈ S, H3 b ≠ none := fun b hb' z => hS b hb' (SH3.free z)
    refine ⟨ls, rfl, ⟨rs, SqL.of gls⟩, for_list (xs := rs) (fun i σ H' => ∃ (u5 u6 u7 : Option V) (xi : List (NKey × Addr × V)) (ro : List V) (cs : List ((V × List Int) × Int)), σ = [some (.ref wa), some (.int last), some (.ref tr), some (.ref kd), some (.ref f), u5, u6, u7] ∧ Same (hids [kd, f] H3) (hids [kd, f] H') ∧ H' f = some (.lst ro) ∧ MS P w K H' D M kd (f :: S) xi ∧ xi.length ≤ xs.length + i * cnt m ∧ (∀ x ∈ xi, x ∈ xs ∨ x.1.2.length ≤ m) ∧ ro.length = cs.length ∧
        (∀ (j : Nat) (r : V) (c : (V × List Int) × Int), ro[j]? = some r → cs[j]? = some c → ChAt K (hids (kd :: f :: S) H') D r (c.1.1, c.2) ∧ ∃ l, c.1.1 = .ref l ∧ hids (kd :: f :: S) H' l = some (.lst (c.1.2.map V.int))) ∧
        cs.map (fun c => ((c.1.2, c.2) : Cand)) = ((stepsR row rest).take i).filterMap fun p => (bestM M m p.1 (rest.filter fun y => decide (y ≠ p.1))).map (addF p.1 p.2))
      ⟨_, _, _, xs, [], [], rfl, Same.refl _, gf3, ms3, by omega, fun x hx => .inl hx, rfl, fun j r c h => by simp at h, rfl⟩ (fun i σ H' _ hh => ?_) ?_ ?_⟩
    · obtain ⟨u5, u6, u7, xi, ro, cs, rfl, sm, _⟩ := hh
      exact SqL.of (gls' sm)
    rotate_left
    · rintro σ H' ⟨u5, u6, u7, xi, ro, cs, rfl, sm, hf', msi, lxi, hxi, lro, hch, hcs⟩
      rw [lrs, List.take_length, st] at hcs
      rw [best_steps] at hcs
      have eb : bestM M rest.length last rest = (firstG cs).map fun c => ((c.1.2, c.2) : Cand) := by
        rw [hm]
        show firstMin _ = _
        rw [← hcs, ← firstG_cand]
        exact firstG_map (fun p : V × List Int => p.2) cs
      have cl : rs.length * cnt m ≤ (m + 1) * cnt m := Nat.mul_le_mul_right _ slen
      have eH := eHf sm
      have less : ∀ {G : Hp}, Same (hids (kd :: f :: S) G) (hids (kd :: S) G) := fun {G} => hids_less fun a ha => by simp only [List.mem_cons] at ha ⊢; rcases ha with h | h <;> simp [h]
      have noK : lookM xi (last, rest) = none := look_none fun x hx e => by
        rcases hxi x hx with h | h
        · exact look_none_ne hlk x h e
        · rw [e] at h
          have : rest.length ≤ m := h
          omega
      have fin : ∀ {v : V} {G : Hp} {k3 : Addr}, Same H' G → ResAt K (hids (kd :: S) G) D v (bestM M rest.length last rest) → G k3 = none → KeyN (upd G k3 (.tup [.int last, .ref tr])) k3 (last, rest) ∧ Memo P w (upd G k3 (.tup [.int last, .ref tr])) kd xi ∧
          ∀ {u5 u6 u7 : Option V}, R [some (.ref wa), some (.int last), some (.ref tr), some (.ref kd), some (.ref f), u5, u6, u7] (upd (upd G k3 (.tup [.int last, .ref tr])) kd (memO P w kd (xi ++ [((last, rest), k3, v)]))) := fun {v G k3} SG rv h3 => by
        have hkG : G kd ≠ none := by rw [SG _ _ msi.at_]; exact fun z => nomatch z
        have eG := eH.trans SG.hid
        obtain ⟨fa, kn⟩ := key (G := G) (a1 := k3) (same_S eG) hkG (some_S eG hkG hS) h3
        have Y3 := same_new h3 (.tup [.int last, .ref tr])
        generalize upd G k3 (.tup [.int last, .ref tr]) = G2 at *
        have msG := msi.same (SG.trans Y3)
        refine ⟨kn.same (hids_same _ _), msG.memo (by omega), fun {u5 u6 u7} => ?_⟩
        have Z : hids (kd :: S) (upd G2 kd (memO P w kd (xi ++ [((last, rest), k3, v)]))) = hids (kd :: S) G2 := hids_upd List.mem_cons_self
        refine k _ _ ⟨xi ++ [((last, rest), k3, v)], v, _, _, _, _, rfl, ?_, ⟨upd_same, fun x hx => ?_⟩, ?_, fun x hx => ?_, look_last noK, ?_⟩
        · rw [hid_upd]
          exact eG.trans Y3.hid
        · rw [Z]
          rcases List.mem_append.mp hx with h | h
          · exact ⟨(msG.ents x h).1.same less, (msG.ents x h).2.same less⟩
          · rw [List.mem_singleton.mp h]
            exact ⟨kn, rv.same Y3.hids⟩
        · rw [List.length_append, List.length_singleton, ce]
          omega
        · rcases List.mem_append.mp hx with h | h
          · exact (hxi x h).imp id fun h => by omega
          · rw [List.mem_singleton.mp h]
            exact .inr (Nat.le_refl _)
        · rw [Z]
          exact rv.same Y3.hids
      walk_at "vc"
      refine ⟨D, f, ro, cs.map (fun c => (c.1.1, c.2)), rfl, Ta.den, SqL.of hf', by rw [List.length_map]; exact lro, fun i r c h1 h2 => ?_, fun e G SG => ?_, fun c e t' fr G SG g1 g2 => ?_⟩
      · rw [List.getElem?_map] at h2
        obtain ⟨c0, h0, rfl⟩ := Option.map_eq_some_iff.mp h2
        exact (hch i r c0 h1 h0).1.same (hids_same _ _)
      · rw [firstG_map (fun p : V × List Int => p.1)] at e
        walk_at "vc"
        refine ⟨(by show 2 ≤ sizeLine; decide), fun k3 h3 => ?_⟩
        have rv : ResAt K (hids (kd :: S) G) D .non (bestM M rest.length last rest) := by
          rw [eb]
          cases q' : firstG cs with
          | none => exact rfl
          | some z => rw [q'] at e; cases e
        obtain ⟨f1, f2, f3⟩ := fin SG rv h3
        walk_at "vc"
        exact vc_setM f1 f2 noK rv.ok f3
      · rw [firstG_map (fun p : V × List Int => p.1)] at e
        obtain ⟨c0, q0, rfl⟩ := Option.map_eq_some_iff.mp e
        walk_at "vc"
        refine ⟨(by show 2 ≤ sizeLine; decide), fun k3 h3 => ?_⟩
        have rv : ResAt K (hids (kd :: S) G) D (.ref t') (bestM M rest.length last rest) := by
          rw [eb, q0]
          have hkG := SG _ _ msi.at_
          have hsG := list_S (xs := xs) ms.at_ (eH.trans SG.hid) hL
          obtain ⟨j, hj⟩ := List.mem_iff_getElem?.mp (firstG_mem q0)
          obtain ⟨rj, hrj⟩ : ∃ r, ro[j]? = some r := ⟨ro[j]'(by rw [lro]; exact (List.getElem?_eq_some_iff.mp hj).1), List.getElem?_eq_getElem _⟩
          obtain ⟨_, l, el, hl⟩ := hch j rj c0 hrj hj
          have ntS : t' ∉ kd :: S := fun mm => by
            rcases List.mem_cons.mp mm with rfl | mm
            · rw [hkG] at g1; cases g1
            · obtain ⟨ys, ey⟩ := hsG t' mm
              rw [ey] at g1; cases g1
          refine ⟨t', l, fr, rfl, ?_, less _ _ (SG.hids _ _ hl), fr_S hkG hsG g2⟩
          rw [hids_at ntS, ← el]
          exact g1
        obtain ⟨f1, f2, f3⟩ := fin SG rv h3
        walk_at "vc"
        exact vc_setM f1 f2 noK rv.ok f3
    rintro i y σ H' hy ⟨u5, u6, u7, xi, ro, cs, rfl, sm, hf', msi, lxi, hxi, lro, hch, hcs⟩
    obtain ⟨⟨x, u⟩, hp⟩ : ∃ p, (stepsR row rest)[i]? = some p := ⟨(stepsR row rest)[i]'(by rw [← lrs]; exact (List.getElem?_eq_some_iff.mp hy).1), List.getElem?_eq_getElem _⟩
    obtain ⟨tt, fr, rfl, c1, c2, c3⟩ := ch i y (x, u) hy hp
    change SqT K H3 tt [.int x, .ref fr] at c1
    change FrD K H3 D fr u at c2
    change Bt 1100 u at c3
    have mp := List.mem_of_getElem? hp
    rw [st] at mp
    obtain ⟨x', hx', ex⟩ := List.mem_filterMap.mp mp
    obtain ⟨u', hu', eu⟩ := Option.map_eq_some_iff.mp ex
    cases eu
    have sT : SameT H3 H' := fun b o hbt ho => by
      obtain ⟨zs, r⟩ := hbt
      have nk : b ≠ kd := fun z => by rw [z] at r; rcases r with r | ⟨o', r⟩ <;> rw [hk3] at r <;> cases r
      have nf : b ≠ f := fun z => by rw [z] at r; rcases r with r | ⟨o', r⟩ <;> rw [gf3] at r <;> cases r
      have q' := sm b o (by rw [hids_at (by simp [nk, nf])]; exact ho)
      rw [hids_at (by simp [nk, nf])] at q'
      exact q'
    have lH := list_S ms.at_ (eHf sm) hL
    have ilt : i < rs.length := (List.getElem?_eq_some_iff.mp hy).1
    have htr' : H' tr = some (.tup (rest.map V.int)) := sT tr _ ⟨_, .inl (SH3 _ _ htr)⟩ (SH3 _ _ htr)
    refine vc_asgT (sT.tup c1) rfl ?_
    walk_at "vc"
    refine ⟨tr, rfl, ⟨_, SqT.of htr'⟩, fun d hd => comp_gen (n := (rest.map V.int).length) (fun j z => (rest.map V.int)[j]? = some z) hd (small1000 (by rw [List.length_map]; omega)) (hJ_tup (SqT.of htr')) (fun j ys _ => ys = ((rest.take j).filter fun y => decide (y ≠ x)).map V.int) (fun σ => ∃ u, σ = [u, some (.int x)]) rfl ⟨_, rfl⟩ ?_ ?_⟩
    · rintro j z ys σ G R1 R0 hj hz ⟨v0, rfl⟩ smG hDl rfl k1 k0
      rw [List.getElem?_map] at hz
      obtain ⟨zi, hzi, rfl⟩ := Option.map_eq_some_iff.mp hz
      have et : rest.take (j + 1) = rest.take j ++ [zi] := by rw [List.take_add_one, hzi]; rfl
      walk_at "vc"
      by_cases e : zi = x
      · subst e
        rw [dec_true rfl]
        walk_at "vc"
        refine k0 _ _ (Same.refl _) ⟨_, rfl⟩ ?_
        rw [et, List.filter_append]
        simp
      · rw [dec_false (fun z => e (V.int.inj z))]
        walk_at "vc"
        refine k1 _ _ _ (Same.refl _) ⟨_, rfl⟩ ?_
        rw [et, List.filter_append, List.map_append]
        simp [e]
    rintro ys G smG hDl hly rfl
    rw [List.length_map, List.take_length] at hDl
    walk_at "vc"
    refine ⟨d, _, rfl, .inl ⟨SqL.of hDl, fun tr2 ht2 => ?_⟩⟩
    have Yt := same_new ht2 (.tup ((rest.filter fun y => decide (y ≠ x)).map V.int))
    have gt : upd G tr2 (.tup ((rest.filter fun y => decide (y ≠ x)).map V.int)) tr2 = some (.tup ((rest.filter fun y => decide (y ≠ x)).map V.int)) := upd_same
    have SG := smG.trans Yt
    have ft2 : tr2 ∉ kd :: f :: S := fun mm => by
      rcases List.mem_cons.mp mm with rfl | mm
      · rw [smG _ _ msi.at_] at ht2; cases ht2
      · rcases List.mem_cons.mp mm with rfl | mm
        · rw [smG _ _ hf'] at ht2; cases ht2
        · obtain ⟨ys, ey⟩ := lH tr2 mm
          rw [smG _ _ ey] at ht2; cases ht2
    generalize upd G tr2 (.tup ((rest.filter fun y => decide (y ≠ x)).map V.int)) = G1 at *
    walk_at "vc"
    have lf : (rest.filter fun y => decide (y ≠ x)).length = m := by
      have e2 : rest.filter (fun y => decide (y ≠ x)) = rest.erase x := by
        rw [nd.erase_eq_filter]
        refine List.filter_congr fun y _ => ?_
        by_cases b : y = x <;> simp [b]
      rw [e2, List.length_erase_of_mem hx', hm]
      rfl
    have Tg : Tab K (hids (kd :: f :: S) G1) D B wa M top := ((Ta.same e3).same (two sm)).same SG.hids
    have lC : ∀ b ∈ f :: S, ∃ ys, G1 b = some (.lst ys) := fun b hbm => by
      rcases List.mem_cons.mp hbm with rfl | hbm
      · exact ⟨ro, SG _ _ hf'⟩
      · obtain ⟨ys, ey⟩ := lH b hbm
        exact ⟨ys, SG _ _ ey⟩
    have cm : (i + 1) * cnt m ≤ (m + 1) * cnt m := Nat.mul_le_mul_right _ (by omega)
    have c1m : (i + 1) * cnt m = i * cnt m + cnt m := Nat.succ_mul i (cnt m)
    have cb : xi.length + cnt m ≤ 100000 := by omega
    refine ⟨D, B, top, x, M, wa, tr2, kd, f :: S, rest.filter (fun y => decide (y ≠ x)), xi, rfl, Tg, by rw [hids_at ft2]; exact gt, nd.sublist List.filter_sublist, by omega, by omega, (hb x hx').1, Int.le_of_lt (hb x hx').2, fun y hy' => hb y (List.mem_filter.mp hy').1, lC, msi.same SG, by rw [lf]; exact cb, fun v x2 H5 s5 ms5 lx5 hx5 rv => ?_⟩
    rw [lf] at lx5 hx5 rv
    have s5S : Same (hids (kd :: f :: S) G1) (hids (kd :: f :: S) H5) := same_S s5
    have sm5 : Same (hids [kd, f] H3) (hids [kd, f] H5) := (sm.trans SG.hids).trans (same_S s5)
    have hf5 : H5 f = some (.lst ro) := by
      have r := s5 f _ (by rw [hid_ne nfk]; exact SG _ _ hf')
      rw [hid_ne nfk] at r
      exact r
    have sT5 : SameT G1 H5 := fun b o hbt ho => by
      obtain ⟨zs, r⟩ := hbt
      have nk : b ≠ kd := fun z => by rw [z] at r; rcases r with r | ⟨o', r⟩ <;> rw [SG _ _ msi.at_] at r <;> cases r
      have q' := s5 b o (by rw [hid_ne nk]; exact ho)
      rw [hid_ne nk] at q'
      exact q'
    have fr5 : FrD K H5 D fr u := sT5.tup (SG.tup (sT.tup c2))
    have hch5 : ∀ (j : Nat) (r : V) (c : (V × List Int) × Int), ro[j]? = some r → cs[j]? = some c → ChAt K (hids (kd :: f :: S) H5) D r (c.1.1, c.2) ∧ ∃ l, c.1.1 = .ref l ∧ hids (kd :: f :: S) H5 l = some (.lst (c.1.2.map V.int)) := fun j r c h1 h2 => by
      obtain ⟨a1, l, el, hl⟩ := hch j r c h1 h2
      have ee := SG.hids.trans s5S
      exact ⟨a1.same ee, l, el, ee _ _ hl⟩
    have hx6 : ∀ x ∈ x2, x ∈ xs ∨ x.1.2.length ≤ m := fun y hy' => (hx5 y hy').elim (hxi y) .inr
    have tk1 : (stepsR row rest).take (i + 1) = (stepsR row rest).take i ++ [(x, u)] := by rw [List.take_add_one, hp]; rfl
    walk_at "vc"
    cases hbm : bestM M m x (rest.filter fun y => decide (y ≠ x)) with
    | none =>
      rw [hbm] at rv
      cases (show v = .non from rv)
      rw [dec_true rfl]
      walk_at "vc"
      refine ⟨_, _, _, x2, ro, cs, rfl, sm5, hf5, ms5, by omega, hx6, lro, hch5, ?_⟩
      rw [tk1, List.filterMap_append, hcs, fm_one]
      show _ = _ ++ ((bestM M m x (rest.filter fun y => decide (y ≠ x))).map (addF x u)).toList
      rw [hbm]
      simp
    | some c =>
      rw [hbm] at rv
      obtain ⟨tv, l, ff, rfl, v1, v2, v3⟩ := rv
      have v1' := hids_same _ _ _ _ v1
      have v2' := hids_same _ _ _ _ v2
      have v3' := v3.same (hids_same _ _)
      have bb := best_bound Ta.b0 Ta.bd hbm
      have bu := Ta.bd _ _ _ hu'
      rw [dec_false (fun z => by cases z)]
      walk_at "vc"
      refine ⟨tyV_list (SqL.of hf5), ?_⟩
      walk_at "vc"
      refine ⟨(by show 1 ≤ sizeLine; decide), fun a1 h1' => ?_⟩
      have Z1 := same_new h1' (.lst [.int x])
      have z1 : upd H5 a1 (.lst [.int x]) a1 = some (.lst [.int x]) := upd_same
      have fz1 : ∀ b ∈ f :: S, H5 b ≠ none := some_S s5 (by rw [ms5.at_]; exact fun z => nomatch z) fun b hb' z => by
        obtain ⟨ys, ey⟩ := lC b hb'
        rw [z] at ey; cases ey
      generalize upd H5 a1 (.lst [.int x]) = H6 at *
      have w1 := Z1 _ _ v1'
      walk_at "vc"
      refine vc_cat z1 (Z1 _ _ v2') (by show 1 + (c.1.map V.int).length ≤ sizeLine; rw [List.length_map, bb.2.2, sizeLine_eq]; omega) fun a2 h2' => ?_
      have Z2 := same_new h2' (.lst ([.int x] ++ c.1.map V.int))
      have z2 : upd H6 a2 (.lst ([.int x] ++ c.1.map V.int)) a2 = some (.lst ([.int x] ++ c.1.map V.int)) := upd_same
      have n2 := free_S ms5.at_ fz1 (Z1.free h2')
      generalize upd H6 a2 (.lst ([.int x] ++ c.1.map V.int)) = H7 at *
      have w2 := Z2 _ _ w1
      walk_at "vc"
      have ZZ := Z1.trans Z2
      have bm : Bt 1000 (B * m) := (Bt.mul Ta.b1 (Bt.iff.mpr (show (m : Int).natAbs < 2 ^ 4 by omega))).mono (by decide)
      refine ⟨D, fr, ff, u, c.2, rfl, Ta.den, fr5.same ZZ, v3'.same ZZ, c3, (Bt.le (by omega) bm).mono (by decide), fun r hr8 => ?_⟩
      have S8 := same_new hr8 (frO D (u + c.2))
      have g8 : upd H7 r (frO D (u + c.2)) r = some (frO D (u + c.2)) := upd_same
      have nr := free_S ms5.at_ fz1 (ZZ.free hr8)
      generalize upd H7 r (frO D (u + c.2)) = H8 at *
      walk_at "vc"
      refine ⟨(by show 2 ≤ sizeLine; decide), fun a3 h3' => ?_⟩
      walk_at "vc"
      have Z3 := same_new h3' (.tup [.ref a2, .ref r])
      have z3 : upd H8 a3 (.tup [.ref a2, .ref r]) a3 = some (.tup [.ref a2, .ref r]) := upd_same
      have n3 := free_S ms5.at_ fz1 (ZZ.free (S8.free h3'))
      generalize upd H8 a3 (.tup [.ref a2, .ref r]) = H9 at *
      have SS := ZZ.trans (S8.trans Z3)
      have hf9 := SS _ _ hf5
      have lro' : ro.length ≤ 100 := by
        have e1 := congrArg List.length hcs
        rw [List.length_map] at e1
        have e2 := List.length_filterMap_le (fun p : Int × Int => (bestM M m p.1 (rest.filter fun y => decide (y ≠ p.1))).map (addF p.1 p.2)) ((stepsR row rest).take i)
        rw [List.length_take] at e2
        omega
      refine vc_append (K := K) hf9 (small1000 (by omega)) ?_
      have Zf : hids (kd :: f :: S) (upd H9 f (.lst (ro ++ [.ref a3]))) = hids (kd :: f :: S) H9 := hids_upd (by simp)
      have Zk : hids [kd, f] (upd H9 f (.lst (ro ++ [.ref a3]))) = hids [kd, f] H9 := hids_upd (by simp)
      have bs : Bt 1100 (u + c.2) := by
        have b2 : Bt 1000 (B * ((m : Int) + 1)) := (Bt.mul Ta.b1 (Bt.iff.mpr (show ((m : Int) + 1).natAbs < 2 ^ 4 by omega))).mono (by decide)
        refine (Bt.le ?_ b2).mono (by decide)
        rw [Int.mul_add, Int.mul_one]
        generalize B * (m : Int) = bmm at *
        omega
      refine ⟨_, _, _, x2, ro ++ [.ref a3], cs ++ [((.ref a2, x :: c.1), u + c.2)], rfl, ?_, upd_same, ⟨by rw [upd_ne nfk.symm]; exact SS _ _ ms5.at_, fun y hy' => ?_⟩, by omega, hx6, by rw [List.length_append, List.length_append, lro]; rfl, fun j rr cc h1 h2 => ?_, ?_⟩
      · rw [Zk]
        exact sm5.trans SS.hids
      · rw [Zf]
        exact ⟨(ms5.ents y hy').1.same SS.hids, (ms5.ents y hy').2.same SS.hids⟩
      · rw [Zf]
        rcases Nat.lt_or_ge j ro.length with lj | lj
        · rw [List.getElem?_append_left lj] at h1
          rw [List.getElem?_append_left (by rw [← lro]; exact lj)] at h2
          obtain ⟨q1, l', q2, q3⟩ := hch5 j rr cc h1 h2
          exact ⟨q1.same SS.hids, l', q2, SS.hids _ _ q3⟩
        · rw [List.getElem?_append_right lj] at h1
          rw [List.getElem?_append_right (by rw [← lro]; exact lj), ← lro] at h2
          obtain ⟨q1, _⟩ := List.getElem?_eq_some_iff.mp h1
          have j0 : j - ro.length = 0 := by simpa using q1
          rw [j0] at h1 h2
          cases h1
          cases h2
          refine ⟨⟨a3, r, rfl, SqT.of (by rw [hids_at n3]; exact z3), .of (by rw [hids_at nr]; exact Z3 _ _ g8), bs⟩, a2, rfl, ?_⟩
          rw [hids_at n2]
          exact S8.trans Z3 _ _ z2
      · rw [tk1, List.filterMap_append, List.map_append, hcs, fm_one]
        show _ = _ ++ ((bestM M m x (rest.filter fun y => decide (y ≠ x))).map (addF x u)).toList
        rw [hbm]
        rfl
theorem lb_all (T : Txt K mg t) : ∀ n : Nat, FnOk P w K mg base CX0 (n + 5) t.f_least_behind t.d_least_behind ["wastes", "last", "rest", "known"] (spLB P w K n)
  | 0 => ⟨(fun _ _ _ _ h => by
      obtain ⟨_, _, _, _, _, _, _, _, _, _, _, _, _, _, _, z, _⟩ := h
      exact absurd z (Nat.not_lt_zero _)), (fun _ _ _ _ _ _ _ _ _ _ _ _ _ h => by
      obtain ⟨_, _, _, _, _, _, _, _, _, _, _, _, _, _, _, z, _⟩ := h
      exact absurd z (Nat.not_lt_zero _))⟩
  | n + 1 => lb_step T n (lb_all T n)
theorem ok_least_behind (T : Txt K mg t) (m : Nat) : FnOk P w K mg base CX0 (m + 1) t.f_least_behind t.d_least_behind ["wastes", "last", "rest", "known"] (spLB P w K (m - 4)) := by
  by_cases h : 4 ≤ m
  · obtain ⟨n, rfl⟩ : ∃ n, m = n + 4 := ⟨m - 4, by omega⟩
    rw [Nat.add_sub_cancel]
    exact lb_all T n
  · have e : m - 4 = 0 := by omega
    rw [e]
    exact ⟨(fun _ _ _ _ h => by
      obtain ⟨_, _, _, _, _, _, _, _, _, _, _, _, _, _, _, z, _⟩ := h
      exact absurd z (Nat.not_lt_zero _)), (fun _ _ _ _ _ _ _ _ _ _ _ _ _ h => by
      obtain ⟨_, _, _, _, _, _, _, _, _, _, _, _, _, _, _, z, _⟩ := h
      exact absurd z (Nat.not_lt_zero _))⟩
noncomputable def rowsW (rooms : List Int) (rows : List (Int × Int)) (th : List (Str × Str × Int)) (ap : List (Str × Str)) (ss : List Str) : List (List (Option Int)) := ss.map (fun one => ss.map (wv rooms rows th ap one)) ++ [ss.map fun _ => some 0]
noncomputable def Mw (rooms : List Int) (rows : List (Int × Int)) (th : List (Str × Str × Int)) (ap : List (Str × Str)) (ss : List Str) (l x : Int) : Option Int := (((rowsW rooms rows th ap ss)[l.toNat]?).getD [])[x.toNat]?.getD none
theorem wv_b {rooms : List Int} {rows : List (Int × Int)} {th : List (Str × Str × Int)} {ap : List (Str × Str)} (D : DataOk rooms rows th ap) {x y : Str} {u : Int} (h : wv rooms rows th ap x y = some u) : -1600000000000000000 ≤ u ∧ u ≤ 1600000000000000000 := ⟨Int.le_trans (by decide) (wv_b0 D h).1, (wv_b0 D h).2⟩
theorem Mw_b {rooms : List Int} {rows : List (Int × Int)} {th : List (Str × Str × Int)} {ap : List (Str × Str)} (D : DataOk rooms rows th ap) (ss : List Str) : ∀ i j u, Mw rooms rows th ap ss i j = some u → -1600000000000000000 ≤ u ∧ u ≤ 1600000000000000000 := fun i j u h => by
  unfold Mw at h
  cases hr : (rowsW rooms rows th ap ss)[i.toNat]? with
  | none => rw [hr] at h; simp at h
  | some r =>
    rw [hr] at h
    have mr := List.mem_of_getElem? hr
    cases hc : r[j.toNat]? with
    | none => rw [show (some r).getD [] = r from rfl, hc] at h; cases h
    | some o =>
      rw [show (some r).getD [] = r from rfl, hc] at h
      have mo := List.mem_of_getElem? hc
      cases (show o = some u from h)
      unfold rowsW at mr
      rcases List.mem_append.mp mr with m | m
      · obtain ⟨one, _, rfl⟩ := List.mem_map.mp m
        obtain ⟨y, _, e⟩ := List.mem_map.mp mo
        exact wv_b D e
      · rw [List.mem_singleton.mp m] at mo
        obtain ⟨_, _, e⟩ := List.mem_map.mp mo
        cases e
        decide
theorem sqL_hids {S : List Addr} {H : Hp} {a : Addr} {xs : List V} (n : a ∉ S) (h : SqL K H a xs) : SqL K (hids S H) a xs := by
  rcases h with (h | ⟨o, h⟩) | h
  · exact .inl (.inl (by rw [hids_at n]; exact h))
  · exact .inl (.inr ⟨o, by rw [hids_at n]; exact h⟩)
  · exact .inr h
inductive spLO_ (K : PySem.W.Frag) (C : Addr) (vs : List V) (H : Hp) (Q : VK) : Prop where
  | mk (x lw : Addr) (rooms : List Int) (rows : List (Int × Int)) (th : List (Str × Str × Int)) (ap : List (Str × Str)) (ss : List Str) (S : List Addr) : (vs = [.ref x, .ref lw]) → ((∀ b ∈ S, ∃ ys, H b = some (.lst ys))) → (PipeD K H C x rooms rows th ap) → (DataOk rooms rows th ap) → (H lw = some (.lst (ss.map V.str))) → ((∀ s ∈ ss, Let s)) → (ss.length ≤ 7) → (∀ (v : V) (H' : Hp), Same H H' → ResAt K (hids S H') (hfD rows rooms.sum) v (bestM (Mw rooms rows th ap ss) ss.length ss.length ((List.range ss.length).map fun (i : Nat) => (i : Int))) → Q v H') → spLO_ K C vs H Q
noncomputable def spLO (K : PySem.W.Frag) (C : Addr) : Sp := fun vs H Q _ => spLO_ K C vs H Q
theorem ok_least_order (T : Txt K mg t) : FnOk P w K mg base CX0 14 t.f_least_order t.d_least_order ["pipe", "wares"] (spLO K t.c_Pipe) := by
  have G_wastes_of := ok_wastes_of (P := P) (w := w) (base := base) T
  have G_least_behind := ok_least_behind (P := P) (w := w) (base := base) T 12
  refine T.D_least_order.F.ok sc_least_order (fun vs H Q E h => ?_) (fun cdv A outer s H vs Q E hr h => ?_)
  · obtain ⟨x, lw, rooms, rows, th, ap, ss, S, rfl, _⟩ := h
    rfl
  obtain ⟨x, lw, rooms, rows, th, ap, ss, S, rfl, hS, hP, Dk, hl, ls, sl, q⟩ := h
  have nS : ∀ {b : Addr}, H b = none → b ∉ S := fun {b} hb m => by
    obtain ⟨ys, e⟩ := hS b m
    rw [hb] at e
    cases e
  obtain ⟨b1, b2, b3⟩ := half_ok Dk.rw Dk.s0 Dk.s1
  have De : Den (hfD rows rooms.sum) := ⟨b1, Bt.mono (m := 100) (Bt.iff.mpr (Nat.lt_of_le_of_lt (show (hfD rows rooms.sum).natAbs ≤ 100000000 by omega) (by decide))) (by decide)⟩
  generalize hD : hfD rows rooms.sum = D at *
  refine ⟨_, (pss_cons (q_set (i := 2) qv_least_order sc_least_order.nd rfl rfl rfl (pe_op op_cat (q_call G_wastes_of (hr.mono (by first | decide | omega)) qg_least_order 0 rfl rfl T.D_wastes_of.m T.D_wastes_of.F.kp T.D_wastes_of.b .nil pass0 (pa_cons (qv qv_least_order 0 rfl rfl rfl) (pa_cons (qv qv_least_order 1 rfl rfl rfl) pa_nil))) (pe_lst (pa_cons (pe_comp ["ware"] [none] rfl  (pi_list (qv qv_least_order 1 rfl rfl rfl)) (fun _ _ _ _ => (pg_name (i := 0) (show (["ware"] : List Str).Nodup by decide +kernel) rfl (Or.inl rfl))) (fun _ _ _ _ => pts_nil) (fun _ _ _ _ => (pe_tup (pa_cons pe_int (pa_cons pe_int pa_nil)))) rfl rfl) pa_nil))))
      (pss_one (ps_ret (q_call G_least_behind (hr.mono (by first | decide | omega)) qg_least_order 1 rfl rfl T.D_least_behind.m T.D_least_behind.F.kp T.D_least_behind.b .nil pass0 (pa_cons (qv qv_least_order 2 rfl rfl rfl) (pa_cons (q_callB call_lenR qg_least_order 2 rfl rfl T.z_len bo_len (pa_cons (qv qv_least_order 1 rfl rfl rfl) pa_nil)) (pa_cons (q_callTy (call_tupR rfl) qg_least_order 3 rfl rfl T.z_tuple bo_tuple (pa_cons (q_callTy call_rangeV qg_least_order 4 rfl rfl T.z_range bo_range (pa_cons (q_callB call_lenR qg_least_order 2 rfl rfl T.z_len bo_len (pa_cons (qv qv_least_order 1 rfl rfl rfl) pa_nil)) pa_nil)) pa_nil)) (pa_cons pe_dnewM pa_nil)))))))), ?_⟩
  walk_at "vc"
  refine ⟨x, lw, rooms, rows, th, ap, ss, rfl, hP, Dk, SqL.of hl, ls, by omega, fun l1 rs1 H1 S1 n1 g1 R1 N1 => ?_⟩
  rw [hD] at R1
  walk_at "vc"
  have hl1 := S1 _ _ hl
  refine ⟨lw, rfl, ⟨_, SqL.of hl1⟩, fun d hd => comp_gen (n := (ss.map V.str).length) (fun i y => (ss.map V.str)[i]? = some y) hd (small1000 (by rw [List.length_map]; omega)) (hJ_list (SqL.of hl1)) (fun i ys H => Reps K H ys (((ss.take i).map fun _ => some 0).map (wasteO D))) (fun σ => ∃ u, σ = [u]) .nil ⟨_, rfl⟩ ?_ ?_⟩
  · rintro i y ys σ G R1' R0 hi hy ⟨u, rfl⟩ smG hDl hΦ k1 k0
    rw [List.getElem?_map] at hy
    obtain ⟨z, hz, rfl⟩ := Option.map_eq_some_iff.mp hy
    have et : ss.take (i + 1) = ss.take i ++ [z] := by rw [List.take_add_one, hz]; rfl
    walk_at "vc"
    refine ⟨(by show 2 ≤ sizeLine; decide), fun e he => ?_⟩
    have Y := same_new he (.tup [.int 0, .int 1])
    have ge : upd G e (.tup [.int 0, .int 1]) e = some (frO D 0) := by rw [upd_same, fd_zero De]
    have ne : e ≠ d := (ne_of_none hDl he).symm
    generalize upd G e (.tup [.int 0, .int 1]) = G2 at *
    refine k1 _ _ _ Y ⟨_, rfl⟩ ?_
    rw [et, List.map_append, List.map_append]
    exact (hΦ.same Y.hid).append (.one (.tup (SqT.of (by rw [hid_ne ne]; exact ge)) (.cons (.int _) (.cons (.int _) .nil))))
  rintro ys H2 S2 hDl hly hΦ
  rw [List.length_map, List.take_length] at hΦ
  have R2 := hΦ.same (hid_same _ _)
  clear hΦ
  walk_at "vc"
  refine ⟨(by show 1 ≤ sizeLine; decide), fun a1 h1 => ?_⟩
  have Y3 := same_new h1 (.lst [.ref d])
  have g3 : upd H2 a1 (.lst [.ref d]) a1 = some (.lst [.ref d]) := upd_same
  generalize upd H2 a1 (.lst [.ref d]) = H3 at *
  have lr : rs1.length = ss.length := by rw [R1.length, List.length_map]
  refine vc_cat (Y3 _ _ (S2 _ _ g1)) g3 (by show rs1.length + 1 ≤ sizeLine; rw [lr, sizeLine_eq]; omega) fun wa h2 => ?_
  have Y4 := same_new h2 (.lst (rs1 ++ [.ref d]))
  have g4 : upd H3 wa (.lst (rs1 ++ [.ref d])) wa = some (.lst (rs1 ++ [.ref d])) := upd_same
  generalize upd H3 wa (.lst (rs1 ++ [.ref d])) = H4 at *
  have S4 := S1.trans (S2.trans (Y3.trans Y4))
  have hl4 := S4 _ _ hl
  walk_at "vc"
  refine vc_lenL (SqL.of hl4) ?_
  walk_at "vc"
  refine vc_lenL (SqL.of hl4) ?_
  walk_at "vc"
  rw [List.length_map]
  refine vc_rangeV fun p hp => ?_
  walk_at "vc"
  have Y5 := same_new hp (.rng 0 ss.length)
  have g5 : upd H4 p (.rng 0 ss.length) p = some (.rng 0 ss.length) := upd_same
  generalize upd H4 p (.rng 0 ss.length) = H5 at *
  refine vc_tupR g5 (by omega) fun tr ht => ?_
  have Y6 := same_new ht (.tup ((List.range ss.length).map fun (i : Nat) => V.int i))
  have g6 : upd H5 tr (.tup ((List.range ss.length).map fun (i : Nat) => V.int i)) tr = some (.tup ((List.range ss.length).map fun (i : Nat) => V.int i)) := upd_same
  generalize upd H5 tr (.tup ((List.range ss.length).map fun (i : Nat) => V.int i)) = H6 at *
  walk_at "vc"
  intro kd o hk eo
  walk_at "vc"
  have Y7 := same_new hk o
  have e7 : Same (hids S H6) (hids (kd :: S) (upd H6 kd o)) := fun b z q' => by
    have nbS : b ∉ S := fun z => by unfold hids at q'; rw [if_pos z] at q'; cases q'
    rw [hids_at nbS] at q'
    have nb : b ≠ kd := ne_of_none q' hk
    rw [hids_at (by simp [nb, nbS]), upd_ne nb]
    exact q'
  have g7 : upd H6 kd o kd = some (memO P w kd []) := by rw [upd_same, eo]; rfl
  generalize upd H6 kd o = H7 at *
  have Ymid := Y5.trans Y6
  have eR : (List.range ss.length).map (fun (i : Nat) => V.int i) = ((List.range ss.length).map fun (i : Nat) => (i : Int)).map V.int := by rw [List.map_map]; rfl
  have S6 := S4.trans Ymid
  have hS6 : ∀ b ∈ S, ∃ ys, H6 b = some (.lst ys) := fun b hb => by
    obtain ⟨ys, e⟩ := hS b hb
    exact ⟨ys, S6 _ _ e⟩
  have tup6 : ∀ b o, (∀ ys, H6 b ≠ some (.lst ys)) → H6 b = some o → hids S H6 b = some o := fun b o hn ho => by
    rw [hids_at (fun z => by obtain ⟨ys, e⟩ := hS6 b z; exact hn ys e)]
    exact ho
  have nwa : wa ∉ S := nS (S1.free (S2.free (Y3.free h2)))
  have ntr : tr ∉ S := nS (S4.free (Y5.free ht))
  have ndS : d ∉ S := nS (S1.free hd)
  have Tb : Tab K (hids S H6) D 1600000000000000000 wa (Mw rooms rows th ap ss) ss.length := by
    refine ⟨De, fun l h0 h1 => ?_, by decide, Bt.mono (m := 100) (Bt.iff.mpr (by decide)) (by decide), Mw_b Dk ss⟩
    have el : l = ((l.toNat : Nat) : Int) := by omega
    rcases Nat.lt_or_ge l.toNat ss.length with lt | ge
    · obtain ⟨v, hv, rv⟩ := R1.get' (i := l.toNat) (d := .list ((ss.map (wv rooms rows th ap ss[l.toNat])).map (wasteO D))) (by rw [List.getElem?_map, List.getElem?_eq_getElem lt]; rfl)
      obtain ⟨l', rs, rfl, hl', rr⟩ := rv.lst_of
      have SX := S2.trans (Y3.trans (Y4.trans Ymid))
      have nl' : l' ∉ S := by
        obtain ⟨b', e', hb'⟩ := N1 _ (List.mem_of_getElem? hv)
        cases e'
        exact nS hb'
      refine ⟨ss.map (wv rooms rows th ap ss[l.toNat]), ⟨_, rs, l', SqL.of (by rw [hids_at nwa]; exact Ymid _ _ g4), ?_, sqL_hids nl' (SX.seq hl'), reps_noL (row_noL _ _) (rr.same SX) tup6⟩, by rw [List.length_map], fun y => ?_⟩
      · rw [el]
        exact atI_nat (by rw [List.getElem?_append_left (by omega)]; exact hv)
      · unfold Mw rowsW
        rw [List.getElem?_append_left (by rw [List.length_map]; exact lt), List.getElem?_map, List.getElem?_eq_getElem lt]
        rfl
    · have e0 : l.toNat = ss.length := by omega
      have SX := Y3.trans (Y4.trans Ymid)
      refine ⟨ss.map fun _ => some 0, ⟨_, ys, d, SqL.of (by rw [hids_at nwa]; exact Ymid _ _ g4), ?_, SqL.of (by rw [hids_at ndS]; exact SX _ _ hDl), reps_noL (row_noL _ _) (R2.same SX) tup6⟩, by rw [List.length_map], fun y => ?_⟩
      · rw [el]
        exact atI_nat (by rw [List.getElem?_append_right (by omega), lr, e0, Nat.sub_self]; rfl)
      · unfold Mw rowsW
        rw [List.getElem?_append_right (by rw [List.length_map]; exact ge), List.length_map, e0, Nat.sub_self]
        rfl
  refine ⟨D, 1600000000000000000, ss.length, ss.length, Mw rooms rows th ap ss, wa, tr, kd, S, (List.range ss.length).map fun (i : Nat) => (i : Int), [], rfl, Tb.same e7, by rw [← eR]; exact e7 _ _ (by rw [hids_at ntr]; exact g6), ?_, by rw [List.length_map, List.length_range]; omega, by decide, by omega, Int.le_refl _, fun y hy => ?_, fun b hb => by obtain ⟨ys, e⟩ := hS6 b hb; exact ⟨ys, Y7 _ _ e⟩, ⟨g7, fun y hy => (nomatch hy)⟩, ?_, fun v xs' H8 s8 _ _ _ rv => ?_⟩
  · exact List.Pairwise.map _ (fun a b h e => h (by omega)) List.nodup_range
  · obtain ⟨i, hi, rfl⟩ := List.mem_map.mp hy
    have := List.mem_range.mp hi
    omega
  · rw [List.length_map, List.length_range]
    have all : ∀ k : Nat, k < 8 → cnt k ≤ 100000 := by decide
    have := all ss.length (by omega)
    simpa using this
  walk_at "vc"
  rw [List.length_map, List.length_range] at rv
  refine q v H8 (fun b z hz => ?_) (rv.same (hids_less fun a ha => List.mem_cons_of_mem _ ha))
  have h6 := S6 _ _ hz
  have nb : b ≠ kd := ne_of_none h6 hk
  have r := s8 b z (by rw [hid_ne nb]; exact Y7 _ _ h6)
  rw [hid_ne nb] at r
  exact r
theorem sqT_lists {S : List Addr} {H : Hp} {b : Addr} {xs : List V} (h : SqT K H b xs) (hs : ∀ c ∈ S, ∃ ys, H c = some (.lst ys)) : SqT K (hids S H) b xs := by
  rcases h with h | h
  · have n : b ∉ S := fun z => by
      obtain ⟨ys, e⟩ := hs b z
      rcases h with h | ⟨o, h⟩ <;> rw [e] at h <;> cases h
    rcases h with h | ⟨o, h⟩
    · exact .inl (.inl (by rw [hids_at n]; exact h))
    · exact .inl (.inr ⟨o, by rw [hids_at n]; exact h⟩)
  · exact .inr h
noncomputable abbrev Chc := (V × (Int × Int)) × Int
structure ChsAt (K : PySem.W.Frag) (H : Hp) (D : Int) (rs : List V) (vs : List Chc) : Prop where
  len : rs.length = vs.length
  at_ : ∀ (j : Nat) (r : V) (c : Chc), rs[j]? = some r → vs[j]? = some c → ChAt K H D r (c.1.1, c.2) ∧ ∃ a, c.1.1 = .ref a ∧ SqT K H a [.int c.1.2.1, .int c.1.2.2]
theorem ChsAt.same {H H' : Hp} {D : Int} {rs : List V} {vs : List Chc} (h : ChsAt K H D rs vs) (e : Same H H') : ChsAt K H' D rs vs := ⟨h.len, fun j r c a b => by
  obtain ⟨x, l, y, z⟩ := h.at_ j r c a b
  exact ⟨x.same e, l, y, e.tup z⟩⟩
theorem ChsAt.nil {H : Hp} {D : Int} : ChsAt K H D [] [] := ⟨rfl, fun j r c a => by simp at a⟩
theorem ChsAt.append {H : Hp} {D : Int} {rs rs' : List V} {vs vs' : List Chc} (h : ChsAt K H D rs vs) (h' : ChsAt K H D rs' vs') : ChsAt K H D (rs ++ rs') (vs ++ vs') := ⟨by rw [List.length_append, List.length_append, h.len, h'.len], fun j r c a b => by
  rcases Nat.lt_or_ge j rs.length with lt | ge
  · rw [List.getElem?_append_left lt] at a
    rw [List.getElem?_append_left (by rw [← h.len]; exact lt)] at b
    exact h.at_ j r c a b
  · rw [List.getElem?_append_right ge] at a
    rw [List.getElem?_append_right (by rw [← h.len]; exact ge), ← h.len] at b
    exact h'.at_ _ r c a b⟩
theorem ChsAt.one {H : Hp} {D : Int} {r : V} {c : Chc} (h : ChAt K H D r (c.1.1, c.2)) (h' : ∃ a, c.1.1 = .ref a ∧ SqT K H a [.int c.1.2.1, .int c.1.2.2]) : ChsAt K H D [r] [c] := ⟨rfl, fun j r' c' a b => by
  cases j with
  | zero => cases a; cases b; exact ⟨h, h'⟩
  | succ j => simp at a⟩
structure TabN (K : PySem.W.Frag) (H : Hp) (D : Int) (wa : Addr) (M : Int → Int → Option Int) (n : Nat) : Prop where
  den : Den D
  row : ∀ l : Int, 0 ≤ l → l < n → ∃ r : List (Option Int), RowAt K H D wa l r ∧ r.length = n ∧ ∀ x : Int, 0 ≤ x → x < n → M l x = ((r[x.toNat]?).getD none)
  bd : ∀ i j u, M i j = some u → 0 ≤ u ∧ u ≤ 1600000000000000000
theorem TabN.same {H H' : Hp} {D : Int} {wa : Addr} {M : Int → Int → Option Int} {n : Nat} (h : TabN K H D wa M n) (e : Same H H') : TabN K H' D wa M n := ⟨h.den, fun l a b => by
  obtain ⟨r, q, z⟩ := h.row l a b
  obtain ⟨ws, rs, l', w1, w2, w3, w4⟩ := q.at_
  exact ⟨r, ⟨ws, rs, l', e.seq w1, w2, e.seq w3, w4.same e⟩, z⟩, h.bd⟩
noncomputable def outs (M : Int → Int → Option Int) (R rest : List Int) : List ((Int × Int) × Int) := R.flatMap fun one => rest.filterMap fun x => (M one x).map fun u => ((one, x), u)
theorem outs_append (M : Int → Int → Option Int) (R R' rest : List Int) : outs M (R ++ R') rest = outs M R rest ++ outs M R' rest := by
  unfold outs
  rw [List.flatMap_append]
theorem outs_len (M : Int → Int → Option Int) (R rest : List Int) : (outs M R rest).length ≤ R.length * rest.length := by
  unfold outs
  induction R with
  | nil => simp
  | cons o os ih =>
    rw [List.flatMap_cons, List.length_append, List.length_cons, Nat.succ_mul]
    have := List.length_filterMap_le (fun x => (M o x).map fun u => ((o, x), u)) rest
    omega
theorem outs_mem {M : Int → Int → Option Int} {R rest : List Int} {c : (Int × Int) × Int} (h : c ∈ outs M R rest) : c.1.1 ∈ R ∧ c.1.2 ∈ rest ∧ M c.1.1 c.1.2 = some c.2 := by
  unfold outs at h
  obtain ⟨o, ho, h⟩ := List.mem_flatMap.mp h
  obtain ⟨x, hx, h⟩ := List.mem_filterMap.mp h
  obtain ⟨u, hu, rfl⟩ := Option.map_eq_some_iff.mp h
  exact ⟨ho, hx, hu⟩
theorem mem_outs {M : Int → Int → Option Int} {R rest : List Int} {o x u : Int} (ho : o ∈ R) (hx : x ∈ rest) (hu : M o x = some u) : ((o, x), u) ∈ outs M R rest := by
  unfold outs
  exact List.mem_flatMap.mpr ⟨o, ho, List.mem_filterMap.mpr ⟨x, hx, by rw [hu]; rfl⟩⟩
noncomputable def pvC (c : Chc) : (Int × Int) × Int := (c.1.2, c.2)
inductive spSB_ (K : PySem.W.Frag) (vs : List V) (H : Hp) (Q : VK) : Prop where
  | mk (D : Int) (wa lr lt : Addr) (M : Int → Int → Option Int) (n : Nat) (R rest : List Int) : (vs = [.ref wa, .ref lr, .ref lt]) → (TabN K H D wa M n) → (SqL K H lr (R.map V.int)) → (SqL K H lt (rest.map V.int)) → ((∀ x ∈ R, 0 ≤ x ∧ x < n)) → ((∀ x ∈ rest, 0 ≤ x ∧ x < n)) → (R.length ≤ 30) → (rest.length ≤ 30) → (∀ (l' : Addr) (rs : List V) (vs : List Chc) (H' : Hp), Same H H' → H l' = none → H' l' = some (.lst rs) → ChsAt K H' D rs vs → vs.map pvC = outs M R rest → Q (.ref l') H') → spSB_ K vs H Q
noncomputable def spSB (K : PySem.W.Frag) : Sp := fun vs H Q _ => spSB_ K vs H Q
theorem ok_steps_between (T : Txt K mg t) : FnOk P w K mg base CX0 2 t.f_steps_between t.d_steps_between ["wastes", "reached", "rest"] (spSB K) := by
  have G_steps_from := ok_steps_from (P := P) (w := w) (base := base) T
  refine T.D_steps_between.F.ok sc_steps_between (fun vs H Q E h => ?_) (fun cdv A outer s H vs Q E hr h => ?_)
  · obtain ⟨D, wa, lr, lt, M, n, R, rest, rfl, _⟩ := h
    rfl
  obtain ⟨D, wa, lr, lt, M, n, R, rest, rfl, Ta, hR, ht, bR, bt, nR, nt, q⟩ := h
  refine ⟨_, (pss_cons (q_set (i := 3) qv_steps_between sc_steps_between.nd rfl rfl rfl (pe_lst pa_nil))
      (pss_cons (ps_for PassesOwn.never rfl (pi_list (qv qv_steps_between 1 rfl rfl rfl)) (q_name (i := 4) qv_steps_between sc_steps_between.nd rfl rfl rfl) (pss_one (ps_expr (pe_bm PySem.F.plainAttrs_list PySem.F.slot_list_extend PySem.F.type_list_extend mt_extendR (qv qv_steps_between 3 rfl rfl rfl) (pa_cons (pe_comp ["other", "waste", "one"] [none, none, some 4] rfl  (pi_list (q_call G_steps_from (hr.mono (by first | decide | omega)) qg_steps_between 0 rfl rfl T.D_steps_from.m T.D_steps_from.F.kp T.D_steps_from.b .nil pass0 (pa_cons (qv qv_steps_between 0 rfl rfl rfl) (pa_cons (qv qv_steps_between 4 rfl rfl rfl) (pa_cons (qv qv_steps_between 2 rfl rfl rfl) pa_nil))))) (fun _ _ _ _ => (pg_tupC (n := 2) rfl (pgs_cons (pg_name (i := 0) (show (["other", "waste", "one"] : List Str).Nodup by decide +kernel) rfl (Or.inl rfl)) (pgs_cons (pg_name (i := 1) (show (["other", "waste", "one"] : List Str).Nodup by decide +kernel) rfl (Or.inl rfl)) pgs_nil)))) (fun _ _ _ _ => pts_nil) (fun _ _ _ _ => (pe_tup (pa_cons (pe_tup (pa_cons (pv 2) (pa_cons (pv 0) pa_nil))) (pa_cons (pv 1) pa_nil)))) rfl rfl) pa_nil)))))
      (pss_one (ps_ret (qv qv_steps_between 3 rfl rfl rfl))))), ?_⟩
  walk_at "vc"
  refine ⟨(by show 0 ≤ sizeLine; decide), fun f hf => ?_⟩
  walk_at "vc"
  have Yf := same_new hf (.lst [])
  have gf : upd H f (.lst []) f = some (.lst []) := upd_same
  have e2 : Same H (hid f (upd H f (.lst []))) := fun b o z => by
    rw [hid_ne (ne_of_none z hf)]
    exact Yf _ _ z
  generalize upd H f (.lst []) = H2 at *
  have keep : ∀ {G : Hp}, Same (hid f H2) (hid f G) → Same H G := fun {G} e => (e2.trans e).trans (hid_same _ _)
  refine ⟨lr, rfl, ⟨_, Yf.seq hR⟩, for_list (xs := R.map V.int) (fun j σ G => ∃ (u4 : Option V) (ro : List V) (vs : List Chc), σ = [some (.ref wa), some (.ref lr), some (.ref lt), some (.ref f), u4] ∧ Same (hid f H2) (hid f G) ∧ G f = some (.lst ro) ∧ ChsAt K (hid f G) D ro vs ∧ vs.map pvC = outs M (R.take j) rest)
    ⟨_, [], [], rfl, Same.refl _, gf, .nil, rfl⟩ (fun j σ G _ hh => by obtain ⟨u4, ro, vs, _, e, _⟩ := hh; exact (keep e).seq hR) ?_ ?_⟩
  rotate_left
  · rintro σ G ⟨u4, ro, vs, rfl, sG, hfG, hC, hm⟩
    rw [List.length_map, List.take_length] at hm
    walk_at "vc"
    exact q f ro vs G (keep sG) hf hfG (hC.same (hid_same _ _)) hm
  rintro j y σ G hy ⟨u4, ro, vs, rfl, sG, hfG, hC, hm⟩
  rw [List.getElem?_map] at hy
  obtain ⟨one, ho, rfl⟩ := Option.map_eq_some_iff.mp hy
  have b1 := bR one (List.mem_of_getElem? ho)
  have SG := keep sG
  obtain ⟨row, hrow, rlen, hMx⟩ := (Ta.same SG).row one b1.1 b1.2
  have st : stepsR row rest = rest.filterMap fun x => (M one x).map fun u => (x, u) := by
    unfold stepsR
    have key : ∀ l : List Int, (∀ x ∈ l, 0 ≤ x ∧ x < n) → (l.filterMap fun x => ((row[x.toNat]?).getD none).map fun u => (x, u)) = l.filterMap fun x => (M one x).map fun u => (x, u) := by
      intro l
      induction l with
      | nil => intro _; rfl
      | cons a l ih =>
        intro hb
        have ha := hb a List.mem_cons_self
        rw [List.filterMap_cons, List.filterMap_cons, ih fun x hx => hb x (List.mem_cons_of_mem _ hx), hMx a ha.1 ha.2]
    exact key rest bt
  have bt1 : ∀ u, some u ∈ row → Bt 1100 u := fun u hu => by
    obtain ⟨i, hi⟩ := List.mem_iff_getElem?.mp hu
    have li := (List.getElem?_eq_some_iff.mp hi).1
    have e : M one (i : Int) = some u := by rw [hMx i (by omega) (by omega)]; show (row[i]?).getD none = _; rw [hi]; rfl
    have b := Ta.bd _ _ _ e
    exact Bt.mono (m := 100) (Bt.iff.mpr (Nat.lt_of_le_of_lt (show u.natAbs ≤ 1600000000000000000 by omega) (by decide))) (by decide)
  walk_at "vc"
  refine ⟨tyV_list (SqL.of hfG), ?_⟩
  walk_at "vc"
  refine ⟨D, one, wa, lt, row, rest, rfl, Ta.den, hrow, SG.seq ht, fun x hx => ⟨(bt x hx).1, by have := (bt x hx).2; omega⟩, by omega, bt1, fun ls rs G1 S1 nls gls lrs ch => ?_⟩
  rw [st] at lrs ch
  have nfl : ls ≠ f := (ne_of_none hfG nls).symm
  refine ⟨ls, rfl, ⟨rs, SqL.of gls⟩, fun d hd => comp_gen (n := rs.length) (fun i y => rs[i]? = some y) hd (small1000 (by rw [lrs]; have := List.length_filterMap_le (fun x => (M one x).map fun u => (x, u)) rest; omega)) (hJ_list (SqL.of gls)) (fun i ys G' => ∃ vs' : List Chc, ChsAt K (hid f G') D ys vs' ∧ vs'.map pvC = ((rest.filterMap fun x => (M one x).map fun u => (x, u)).take i).map fun p => ((one, p.1), p.2)) (fun σ => ∃ u v, σ = [u, v, some (.int one)]) ⟨[], .nil, rfl⟩ ⟨_, _, rfl⟩ ?_ ?_⟩
  · rintro i y ys σ G2 R1 R0 hi hy ⟨v1, v2, rfl⟩ s2 hDl ⟨vs', hC', hm'⟩ k1 k0
    obtain ⟨⟨x, u⟩, hp⟩ : ∃ p, (rest.filterMap fun x => (M one x).map fun u => (x, u))[i]? = some p := ⟨(rest.filterMap fun x => (M one x).map fun u => (x, u))[i]'(by rw [← lrs]; exact hi), List.getElem?_eq_getElem _⟩
    obtain ⟨tt, fr, rfl, c1, c2, c3⟩ := ch i y (x, u) hy hp
    change SqT K G1 tt [.int x, .ref fr] at c1
    change FrD K G1 D fr u at c2
    change Bt 1100 u at c3
    refine vc_asgT (s2.tup c1) rfl ?_
    walk_at "vc"
    refine ⟨(by show 2 ≤ sizeLine; decide), fun a1 h1 => ?_⟩
    have Z1 := same_new h1 (.tup [.int one, .int x])
    have z1 : upd G2 a1 (.tup [.int one, .int x]) a1 = some (.tup [.int one, .int x]) := upd_same
    have hfG2 := s2 _ _ (S1 _ _ hfG)
    have n1d : a1 ≠ d := (ne_of_none hDl h1).symm
    have n1f : a1 ≠ f := (ne_of_none hfG2 h1).symm
    generalize upd G2 a1 (.tup [.int one, .int x]) = G3 at *
    walk_at "vc"
    refine ⟨(by show 2 ≤ sizeLine; decide), fun a2 h2 => ?_⟩
    have Z2 := same_new h2 (.tup [.ref a1, .ref fr])
    have z2 : upd G3 a2 (.tup [.ref a1, .ref fr]) a2 = some (.tup [.ref a1, .ref fr]) := upd_same
    have n2d : a2 ≠ d := (ne_of_none (Z1 _ _ hDl) h2).symm
    have n2f : a2 ≠ f := (ne_of_none (Z1 _ _ hfG2) h2).symm
    generalize upd G3 a2 (.tup [.ref a1, .ref fr]) = G4 at *
    have hd4 := Z2 _ _ (Z1 _ _ hDl)
    have hf4 := Z2 _ _ (Z1 _ _ hfG2)
    refine k1 _ _ _ (Z1.trans Z2) ⟨_, _, rfl⟩ ⟨vs' ++ [((.ref a1, (one, x)), u)], (hC'.same (Z1.trans Z2).hid.hid).append (.one ?_ ⟨a1, rfl, SqT.of (by rw [hid_ne n1f, hid_ne n1d]; exact Z2 _ _ z1)⟩), ?_⟩
    · refine ⟨a2, fr, rfl, SqT.of (by rw [hid_ne n2f, hid_ne n2d]; exact z2), ?_, c3⟩
      have R : Reps K G4 [.ref fr] [frD D u] := .one (.tup (Z2.tup (Z1.tup (s2.tup c2))) (.cons (.int _) (.cons (.int _) .nil)))
      have R2 := reps_noL (H' := hid f (hid d G4)) (ds := [frD D u]) rfl R fun b o hn ho => by
        rw [hid_ne (fun z => hn _ (z ▸ hf4)), hid_ne (fun z => hn _ (z ▸ hd4))]
        exact ho
      obtain ⟨a', ys', e', ha', ry'⟩ := (show Rep K _ (.ref fr) _ from by cases R2 with | cons q _ => exact q).tup_of
      cases e'
      cases (show ys' = [V.int (fN u D), V.int (fD u D)] from Reps.ints_of (ns := [fN u D, fD u D]) ry')
      exact ha'
    · rw [List.map_append, hm', List.take_add_one, hp, List.map_append]
      rfl
  rintro ys G2 s2 hDl hly ⟨vs', hC', hm'⟩
  rw [lrs, List.take_length] at hm'
  walk_at "vc"
  have hf2 := s2 _ _ (S1 _ _ hfG)
  have nfd : d ≠ f := (ne_of_none (S1 _ _ hfG) hd).symm
  have et : outs M (R.take (j + 1)) rest = outs M (R.take j) rest ++ ((rest.filterMap fun x => (M one x).map fun u => (x, u)).map fun p => ((one, p.1), p.2)) := by
    rw [List.take_add_one, ho, outs_append]
    congr 1
    show outs M [one] rest = _
    unfold outs
    rw [List.flatMap_cons, List.flatMap_nil, List.append_nil, List.map_filterMap]
    congr 1
    funext x
    cases M one x <;> rfl
  have sz : ro.length + ys.length ≤ 900 := by
    have a1 := hC.len
    have a2 := hC'.len
    have a3 := congrArg List.length hm
    have a4 := congrArg List.length hm'
    rw [List.length_map] at a3 a4
    have a5 := outs_len M (R.take (j + 1)) rest
    rw [et, List.length_append, ← a3, ← a4] at a5
    have a6 : (R.take (j + 1)).length * rest.length ≤ 30 * 30 := Nat.mul_le_mul (by rw [List.length_take]; omega) nt
    omega
  refine vc_extend hf2 hDl (by rw [sizeLine_eq]; omega) ?_
  refine ⟨_, _, vs ++ vs', rfl, ?_, upd_same, ?_, ?_⟩
  · rw [hid_upd]
    exact sG.trans (S1.hid.trans s2.hid)
  · rw [hid_upd]
    refine (hC.same (S1.hid.trans s2.hid)).append (hC'.same fun b o z => ?_)
    have nbf : b ≠ f := fun e => by unfold hid at z; rw [if_pos e] at z; cases z
    rw [hid_ne nbf] at z ⊢
    exact hid_same _ _ _ _ z
  · rw [List.map_append, hm, hm', et]
theorem bt1100 {x : Int} (h0 : 0 ≤ x) (h1 : x ≤ 160000000000000000000) : Bt 1100 x := Bt.mono (m := 100) (Bt.iff.mpr (Nat.lt_of_le_of_lt (show x.natAbs ≤ 160000000000000000000 by omega) (by decide))) (by decide)
theorem tab_of {H1 : Hp} {D : Int} {wa : Addr} {rs1 : List V} {rooms : List Int} {rows : List (Int × Int)} {th : List (Str × Str × Int)} {ap : List (Str × Str)} {ss : List Str} (De : Den D) (Wb : ∀ i j u, Wn rooms rows th ap ss i j = some u → 0 ≤ u ∧ u ≤ 1600000000000000000)
    (g1 : H1 wa = some (.lst rs1)) (R1 : Reps K H1 rs1 (ss.map fun one => .list ((ss.map (wv rooms rows th ap one)).map (wasteO D)))) : TabN K H1 D wa (Wn rooms rows th ap ss) ss.length := by
  refine ⟨De, fun l h0 h1 => ?_, Wb⟩
  have el : l = ((l.toNat : Nat) : Int) := by omega
  have lt : l.toNat < ss.length := by omega
  obtain ⟨v, hv, rv⟩ := R1.get' (i := l.toNat) (d := .list ((ss.map (wv rooms rows th ap ss[l.toNat])).map (wasteO D))) (by rw [List.getElem?_map, List.getElem?_eq_getElem lt]; rfl)
  obtain ⟨l', rs, rfl, hl', rr⟩ := rv.lst_of
  refine ⟨ss.map (wv rooms rows th ap ss[l.toNat]), ⟨_, rs, l', SqL.of g1, ?_, hl', rr⟩, by rw [List.length_map], fun y y0 y1 => ?_⟩
  · rw [el]
    exact atI_nat hv
  · have ly : y.toNat < ss.length := by omega
    rw [List.getElem?_map, List.getElem?_eq_getElem ly]
    unfold Wn
    rw [getD_at lt, getD_at ly]
    rfl
theorem nums_cut {n : Nat} (h : 1 ≤ n) : ∃ tl, nums n = 0 :: tl ∧ cutV ((nums n).map V.int) none (some 1) = [0].map V.int ∧ cutV ((nums n).map V.int) (some 1) none = tl.map V.int := by
  have z := nums_at (m := n) (i := 0) (by omega)
  cases hh : nums n with
  | nil => rw [hh] at z; cases z
  | cons a r =>
    rw [hh] at z
    cases z
    exact ⟨r, rfl, cutV_take _ 1, cutV_drop _ 1⟩
structure TreeAt (K : PySem.W.Frag) (H : Hp) (D : Int) (W : Int → Int → Option Int) (n : Nat) (f : Addr) (R : List Int) (T : List (Int × Int)) : Prop where
  prim : Prim W (nums n) R T
  all : R.Perm (nums n)
  wt : FrD K H D f (wsum W T)
structure Stuck (W : Int → Int → Option Int) (n : Nat) (R rest : List Int) : Prop where
  all : (R ++ rest).Perm (nums n)
  zero : 0 ∈ R
  ne : rest ≠ []
  no : ∀ x ∈ R, ∀ y ∈ rest, W x y = none
inductive spTree_ (K : PySem.W.Frag) (C : Addr) (vs : List V) (H : Hp) (Q : VK) : Prop where
  | mk (x lw : Addr) (rooms : List Int) (rows : List (Int × Int)) (th : List (Str × Str × Int)) (ap : List (Str × Str)) (ss : List Str) : (vs = [.ref x, .ref lw]) → (PipeD K H C x rooms rows th ap) → (DataOk rooms rows th ap) → (SqL K H lw (ss.map V.str)) → ((∀ s ∈ ss, Let s)) → (1 ≤ ss.length) → (ss.length ≤ 30) → ((∀ (R rest : List Int) (H' : Hp), Same H H' → Stuck (Wn rooms rows th ap ss) ss.length R rest → Q .non H')) → (∀ (r l f : Addr) (R : List Int) (T : List (Int × Int)) (H' : Hp), Same H H' → H' r = some (.tup [.ref l, .ref f]) → TreeAt K H' (hfD rows rooms.sum) (Wn rooms rows th ap ss) ss.length f R T → Q (.ref r) H') → spTree_ K C vs H Q
noncomputable def spTree (K : PySem.W.Frag) (C : Addr) : Sp := fun vs H Q _ => spTree_ K C vs H Q
theorem ok_tree_of (T : Txt K mg t) : FnOk P w K mg base CX0 8 t.f_tree_of t.d_tree_of ["pipe", "wares"] (spTree K t.c_Pipe) := by
  have G_wastes_of := ok_wastes_of (P := P) (w := w) (base := base) T
  have G_least_of := ok_least_of (P := P) (w := w) (base := base) T
  have G_steps_between := ok_steps_between (P := P) (w := w) (base := base) T
  have G_sum_of := ok_sum_of (P := P) (w := w) (base := base) T
  refine T.D_tree_of.F.ok sc_tree_of (fun vs H Q E h => ?_) (fun cdv A outer s H vs Q E hr h => ?_)
  · obtain ⟨x, lw, rooms, rows, th, ap, ss, rfl, _⟩ := h
    rfl
  obtain ⟨x, lw, rooms, rows, th, ap, ss, rfl, hP, Dk, hl, ls, s1, s30, qN, qT⟩ := h
  obtain ⟨b1, b2, b3⟩ := half_ok Dk.rw Dk.s0 Dk.s1
  have De : Den (hfD rows rooms.sum) := ⟨b1, Bt.mono (m := 100) (Bt.iff.mpr (Nat.lt_of_le_of_lt (show (hfD rows rooms.sum).natAbs ≤ 100000000 by omega) (by decide))) (by decide)⟩
  have Wb : ∀ i j u, Wn rooms rows th ap ss i j = some u → 0 ≤ u ∧ u ≤ 1600000000000000000 := fun i j u h => wv_b0 Dk h
  generalize hD : hfD rows rooms.sum = D at *
  refine ⟨_, (pss_cons (q_set (i := 2) qv_tree_of sc_tree_of.nd rfl rfl rfl (q_call G_wastes_of (hr.mono (by first | decide | omega)) qg_tree_of 0 rfl rfl T.D_wastes_of.m T.D_wastes_of.F.kp T.D_wastes_of.b .nil pass0 (pa_cons (qv qv_tree_of 0 rfl rfl rfl) (pa_cons (qv qv_tree_of 1 rfl rfl rfl) pa_nil))))
      (pss_cons (q_set (i := 3) qv_tree_of sc_tree_of.nd rfl rfl rfl (q_callTy (call_listRg rfl) qg_tree_of 1 rfl rfl T.z_list bo_list (pa_cons (q_callTy call_rangeV qg_tree_of 2 rfl rfl T.z_range bo_range (pa_cons (q_callB call_lenR qg_tree_of 3 rfl rfl T.z_len bo_len (pa_cons (qv qv_tree_of 1 rfl rfl rfl) pa_nil)) pa_nil)) pa_nil)))
      (pss_cons (q_set (i := 4) qv_tree_of sc_tree_of.nd rfl rfl rfl (pe_slice sl_list (qv qv_tree_of 3 rfl rfl rfl) po_none (po_some pe_int)))
      (pss_cons (q_set (i := 5) qv_tree_of sc_tree_of.nd rfl rfl rfl (pe_slice sl_list (qv qv_tree_of 3 rfl rfl rfl) (po_some pe_int) po_none))
      (pss_cons (q_set (i := 6) qv_tree_of sc_tree_of.nd rfl rfl rfl (pe_lst pa_nil))
      (pss_cons (q_set (i := 7) qv_tree_of sc_tree_of.nd rfl rfl rfl (pe_tup (pa_cons pe_int (pa_cons pe_int pa_nil))))
      (pss_cons (ps_while PassesOwn.never (pt_tru (qv qv_tree_of 5 rfl rfl rfl)) (pss_cons (q_set (i := 8) qv_tree_of sc_tree_of.nd rfl rfl rfl (q_call G_least_of (hr.mono (by first | decide | omega)) qg_tree_of 4 rfl rfl T.D_least_of.m T.D_least_of.F.kp T.D_least_of.b .nil pass0 (pa_cons (q_call G_steps_between (hr.mono (by first | decide | omega)) qg_tree_of 5 rfl rfl T.D_steps_between.m T.D_steps_between.F.kp T.D_steps_between.b .nil pass0 (pa_cons (qv qv_tree_of 2 rfl rfl rfl) (pa_cons (qv qv_tree_of 4 rfl rfl rfl) (pa_cons (qv qv_tree_of 5 rfl rfl rfl) pa_nil)))) pa_nil)))
      (pss_cons (ps_if (pt_cmp (pc_isN (qv qv_tree_of 8 rfl rfl rfl))) (pss_one (ps_ret pe_non)) pss_nil)
      (pss_cons (ps_asg (pe_ix ix_tup (qv qv_tree_of 8 rfl rfl rfl) pe_int (fun _ _ => rfl)) (pg_tup rfl (pgs_cons (q_name (i := 9) qv_tree_of sc_tree_of.nd rfl rfl rfl) (pgs_cons (q_name (i := 10) qv_tree_of sc_tree_of.nd rfl rfl rfl) pgs_nil))))
      (pss_cons (ps_expr (pe_bm PySem.F.plainAttrs_list PySem.F.slot_list_append PySem.F.type_list_append mt_appendR (qv qv_tree_of 6 rfl rfl rfl) (pa_cons (pe_tup (pa_cons (q_callB (call_min2R rfl) qg_tree_of 6 rfl rfl T.z_min bo_min (pa_cons (qv qv_tree_of 9 rfl rfl rfl) (pa_cons (qv qv_tree_of 10 rfl rfl rfl) pa_nil))) (pa_cons (q_callB (call_max2R rfl) qg_tree_of 7 rfl rfl T.z_max bo_max (pa_cons (qv qv_tree_of 9 rfl rfl rfl) (pa_cons (qv qv_tree_of 10 rfl rfl rfl) pa_nil))) pa_nil))) pa_nil)))
      (pss_cons (q_set (i := 7) qv_tree_of sc_tree_of.nd rfl rfl rfl (q_call G_sum_of (hr.mono (by first | decide | omega)) qg_tree_of 8 rfl rfl T.D_sum_of.m T.D_sum_of.F.kp T.D_sum_of.b .nil pass0 (pa_cons (qv qv_tree_of 7 rfl rfl rfl) (pa_cons (pe_ix ix_tup (qv qv_tree_of 8 rfl rfl rfl) pe_int (fun _ _ => rfl)) pa_nil))))
      (pss_cons (ps_expr (pe_bm PySem.F.plainAttrs_list PySem.F.slot_list_append PySem.F.type_list_append mt_appendR (qv qv_tree_of 4 rfl rfl rfl) (pa_cons (qv qv_tree_of 10 rfl rfl rfl) pa_nil)))
      (pss_one (ps_expr (pe_bm PySem.F.plainAttrs_list PySem.F.slot_list_remove PySem.F.type_list_remove mt_removeI (qv qv_tree_of 5 rfl rfl rfl) (pa_cons (qv qv_tree_of 10 rfl rfl rfl) pa_nil)))))))))))
      (pss_one (ps_ret (pe_tup (pa_cons (q_callB call_sortI0 qg_tree_of 9 rfl rfl T.z_sorted bo_sorted (pa_cons (qv qv_tree_of 6 rfl rfl rfl) pa_nil)) (pa_cons (qv qv_tree_of 7 rfl rfl rfl) pa_nil)))))))))))), ?_⟩
  walk_at "vc"
  refine ⟨x, lw, rooms, rows, th, ap, ss, rfl, hP, Dk, hl, ls, by omega, fun wa rs1 H1 S1 n1 g1 R1 N1 => ?_⟩
  rw [hD] at R1
  have Ta1 := tab_of De Wb g1 R1
  have sym : ∀ a b, Wn rooms rows th ap ss a b = Wn rooms rows th ap ss b a := fun a b => Wn_sym a b
  clear R1
  generalize Wn rooms rows th ap ss = W at *
  walk_at "vc"
  refine vc_lenL (S1.seq hl) ?_
  walk_at "vc"
  rw [List.length_map]
  refine vc_rangeV fun p hp => ?_
  walk_at "vc"
  have Y2 := same_new hp (.rng 0 ss.length)
  have g2 : upd H1 p (.rng 0 ss.length) p = some (.rng 0 ss.length) := upd_same
  generalize upd H1 p (.rng 0 ss.length) = H2 at *
  refine vc_listRg g2 (by omega) fun ln hln => ?_
  have enm : (List.range ss.length).map (fun (i : Nat) => V.int i) = (nums ss.length).map V.int := by unfold nums; rw [List.map_map]; rfl
  rw [enm]
  have Y3 := same_new hln (.lst ((nums ss.length).map V.int))
  have g3 : upd H2 ln (.lst ((nums ss.length).map V.int)) ln = some (.lst ((nums ss.length).map V.int)) := upd_same
  generalize upd H2 ln (.lst ((nums ss.length).map V.int)) = H3 at *
  obtain ⟨tl, enum, cut1, cut2⟩ := nums_cut s1
  walk_at "vc"
  refine vc_slL (SqL.of g3) fun lr hlr => ?_
  rw [cut1]
  have Y4 := same_new hlr (.lst ([0].map V.int))
  have g4 : upd H3 lr (.lst ([0].map V.int)) lr = some (.lst (([0] : List Int).map V.int)) := upd_same
  generalize upd H3 lr (.lst ([0].map V.int)) = H4 at *
  walk_at "vc"
  refine vc_slL (SqL.of (Y4 _ _ g3)) fun lt hlt => ?_
  rw [cut2]
  have Y5 := same_new hlt (.lst (tl.map V.int))
  have g5 : upd H4 lt (.lst (tl.map V.int)) lt = some (.lst (tl.map V.int)) := upd_same
  generalize upd H4 lt (.lst (tl.map V.int)) = H5 at *
  walk_at "vc"
  refine ⟨(by show 0 ≤ sizeLine; decide), fun lp hlp => ?_⟩
  walk_at "vc"
  have Y6 := same_new hlp (.lst [])
  have g6 : upd H5 lp (.lst []) lp = some (.lst []) := upd_same
  generalize upd H5 lp (.lst []) = H6 at *
  refine ⟨(by show 2 ≤ sizeLine; decide), fun lf hlf => ?_⟩
  walk_at "vc"
  have Y7 := same_new hlf (.tup [.int 0, .int 1])
  have g7 : upd H6 lf (.tup [.int 0, .int 1]) lf = some (frO D 0) := by rw [upd_same, fd_zero De]
  generalize upd H6 lf (.tup [.int 0, .int 1]) = H7 at *
  have S3 := S1.trans (Y2.trans Y3)
  have S7 := S3.trans (Y4.trans (Y5.trans (Y6.trans Y7)))
  have g47 := Y7 _ _ (Y6 _ _ (Y5 _ _ g4))
  have g57 := Y7 _ _ (Y6 _ _ g5)
  have g67 := Y7 _ _ g6
  have nrt : lr ≠ lt := ne_of_none g4 hlt
  have nrp : lr ≠ lp := ne_of_none (Y5 _ _ g4) hlp
  have ntp : lt ≠ lp := ne_of_none g5 hlp
  have nfr : lf ≠ lr := (ne_of_none (Y6 _ _ (Y5 _ _ g4)) hlf).symm
  have nft : lf ≠ lt := (ne_of_none (Y6 _ _ g5) hlf).symm
  have nfp : lf ≠ lp := (ne_of_none g6 hlf).symm
  have e3 : Same H3 (hids [lr, lt, lp] H7) := fun b o z => by
    have m1 : b ≠ lr := ne_of_none z hlr
    have m2 : b ≠ lt := ne_of_none (Y4 _ _ z) hlt
    have m3 : b ≠ lp := ne_of_none (Y5 _ _ (Y4 _ _ z)) hlp
    rw [hids_at (by simp [m1, m2, m3])]
    exact Y7 _ _ (Y6 _ _ (Y5 _ _ (Y4 _ _ z)))
  have Ta7 : TabN K (hids [lr, lt, lp] H7) D wa (W) ss.length := (Ta1.same (Y2.trans Y3)).same e3
  have keep : ∀ {G : Hp}, Same (hids [lr, lt, lp] H7) (hids [lr, lt, lp] G) → Same H G := fun {G} e => (S3.trans (e3.trans e)).trans (hids_same _ _)
  refine ⟨fun m σ G => ∃ (u8 u9 u10 : Option V) (wf : Addr) (as : List Addr) (R rest : List Int) (Tr : List (Int × Int)), σ = [some (.ref x), some (.ref lw), some (.ref wa), some (.ref ln), some (.ref lr), some (.ref lt), some (.ref lp), some (.ref wf), u8, u9, u10] ∧ Same (hids [lr, lt, lp] H7) (hids [lr, lt, lp] G) ∧ G lr = some (.lst (R.map V.int)) ∧ G lt = some (.lst (rest.map V.int)) ∧ G lp = some (.lst (as.map V.ref)) ∧ TupP K (hids [lr, lt, lp] G) as Tr ∧ FrD K (hids [lr, lt, lp] G) D wf (wsum (W) Tr) ∧ Prim (W) (nums ss.length) R Tr ∧ (R ++ rest).Perm (nums ss.length) ∧ 0 ∈ R ∧ m = rest.length,
    ⟨_, _, _, _, lf, [], [0], tl, [], rfl, Same.refl _, g47, g57, g67, .nil, FrD.of (by rw [hids_at (by simp [nfr, nft, nfp])]; exact g7), Prim.one _ _ _, by rw [enum]; exact .refl _, by simp, rfl⟩, ?_⟩
  rintro m σ G ⟨u8, u9, u10, wf, as, R, rest, Tr, rfl, sG, gR, gt, gp, tup, fw, pr, pm, z0, rfl⟩
  have SG := keep sG
  have pl : R.length + rest.length = ss.length := by
    have := pm.length_eq
    rw [List.length_append, nums_len] at this
    exact this
  have nd : (R ++ rest).Nodup := pm.nodup_iff.mpr (nums_nd _)
  have inV : ∀ {y}, y ∈ R ++ rest → 0 ≤ y ∧ y < ss.length := fun {y} hy => by
    obtain ⟨a, rfl, ha⟩ := nums_mem (pm.mem_iff.mp hy)
    omega
  have tb := wsum_b Wb Tr
  have tlen := pr.len
  walk_at "vc"
  refine vc_truL (SqL.of gt) ?_
  refine ite2 (fun c => ?_) (fun c => ?_)
  rotate_left
  · have er : rest = [] := by
      cases rest with
      | nil => rfl
      | cons a r => exact absurd rfl c
    subst er
    rw [List.append_nil] at pm
    walk_at "vc"
    refine vc_sortI0 (SqL.of gp) (tup.same (hids_same _ _)) (by omega) fun l' as' hl' => ?_
    have Z1 := same_new hl' (.lst (as'.map V.ref))
    generalize upd G l' (.lst (as'.map V.ref)) = G1 at *
    walk_at "vc"
    refine ⟨(by show 2 ≤ sizeLine; decide), fun r hr' => ?_⟩
    have Z2 := same_new hr' (.tup [.ref l', .ref wf])
    exact qT r l' wf R Tr _ (SG.trans (Z1.trans Z2)) upd_same ⟨pr, pm, (fw.same (hids_same _ _)).same (Z1.trans Z2)⟩
  refine ⟨fun σ' H'' => ∃ m', m' < rest.length ∧ _, fun _ _ h => h, ?_⟩
  walk_at "vc"
  refine ⟨D, wa, lr, lt, W, ss.length, R, rest, rfl, (Ta7.same sG).same (hids_same _ _), SqL.of gR, SqL.of gt, fun y hy => inV (List.mem_append_left _ hy), fun y hy => inV (List.mem_append_right _ hy), by omega, by omega, fun lc rs vs G1 Z1 nlc glc hC hm => ?_⟩
  walk_at "vc"
  have eN : firstG (vs.map fun c => (c.1.1, c.2)) = (firstG vs).map fun c => (c.1.1, c.2) := firstG_map (fun p : V × (Int × Int) => p.1) vs
  have eO : firstG (outs (W) R rest) = (firstG vs).map pvC := by
    rw [← hm]
    exact firstG_map (fun p : V × (Int × Int) => p.2) vs
  refine ⟨D, lc, rs, vs.map (fun c => (c.1.1, c.2)), rfl, De, SqL.of glc, by rw [List.length_map]; exact hC.len, fun i r c h1 h2 => ?_, fun e G2 Z2 => ?_, fun c e st fr G2 Z2 gst gfr => ?_⟩
  · rw [List.getElem?_map] at h2
    obtain ⟨c0, h0, rfl⟩ := Option.map_eq_some_iff.mp h2
    exact (hC.at_ i r c0 h1 h0).1
  · have e0 : firstG vs = none := by
      cases q : firstG vs with
      | none => rfl
      | some z => rw [eN, q] at e; cases e
    rw [e0] at eO
    have none_ := firstG_none eO
    walk_at "vc"
    rw [dec_true rfl]
    walk_at "vc"
    refine qN R rest G2 (SG.trans (Z1.trans Z2)) ⟨pm, z0, (fun z => by rw [z] at c; cases c), fun y hy v hv => ?_⟩
    cases q : W y v with
    | none => rfl
    | some u =>
      have := mem_outs (M := W) hy hv q
      rw [none_] at this
      cases this
  rw [eN] at e
  obtain ⟨c0, q0, rfl⟩ := Option.map_eq_some_iff.mp e
  rw [q0] at eO
  obtain ⟨j, hj⟩ := List.mem_iff_getElem?.mp (firstG_mem q0)
  obtain ⟨rj, hrj⟩ : ∃ r, rs[j]? = some r := ⟨rs[j]'(by rw [hC.len]; exact (List.getElem?_eq_some_iff.mp hj).1), List.getElem?_eq_getElem _⟩
  obtain ⟨_, ap', eap, hap⟩ := hC.at_ j rj c0 hrj hj
  obtain ⟨hr1, hr2, hr3⟩ := outs_mem (firstG_mem eO)
  have least := firstG_le eO
  obtain ⟨⟨cv, ⟨one, oth⟩⟩, u⟩ := c0
  dsimp only at eap hap gst gfr
  change one ∈ R at hr1
  change oth ∈ rest at hr2
  change W one oth = some u at hr3
  change ∀ d ∈ outs (W) R rest, u ≤ d.2 at least
  subst eap
  have ub := Wb _ _ _ hr3
  walk_at "vc"
  rw [dec_false (fun z => by cases z)]
  have gst' : SqT K G2 st [.ref ap', .ref fr] := SqT.of gst
  walk_at "vc"
  refine vc_asgT (Z2.tup hap) rfl ?_
  walk_at "vc"
  have SS2 := Z1.trans Z2
  have gp2 := SS2 _ _ gp
  refine ⟨tyV_list (SqL.of gp2), ?_⟩
  walk_at "vc"
  refine ⟨(by show 2 ≤ sizeLine; decide), fun a1 h1 => ?_⟩
  have X1 := same_new h1 (.tup [.int (min one oth), .int (max one oth)])
  have x1 : upd G2 a1 (.tup [.int (min one oth), .int (max one oth)]) a1 = some (.tup [.int (min one oth), .int (max one oth)]) := upd_same
  have n1r : a1 ≠ lr := (ne_of_none (SS2 _ _ gR) h1).symm
  have n1t : a1 ≠ lt := (ne_of_none (SS2 _ _ gt) h1).symm
  have n1p : a1 ≠ lp := (ne_of_none gp2 h1).symm
  generalize upd G2 a1 (.tup [.int (min one oth), .int (max one oth)]) = G3 at *
  have SS3 := SS2.trans X1
  have al : as.length = Tr.length := tup.len
  walk_at "vc"
  refine vc_append (K := K) (SS3 _ _ gp) (small1000 (by rw [List.length_map, al]; omega)) ?_
  have hid4 : hids [lr, lt, lp] (upd G3 lp (.lst (as.map V.ref ++ [.ref a1]))) = hids [lr, lt, lp] G3 := hids_upd (by simp)
  have gp4 : upd G3 lp (.lst (as.map V.ref ++ [.ref a1])) lp = some (.lst ((as ++ [a1]).map V.ref)) := by rw [upd_same, List.map_append]; rfl
  have gR4 : upd G3 lp (.lst (as.map V.ref ++ [.ref a1])) lr = some (.lst (R.map V.int)) := by rw [upd_ne nrp]; exact SS3 _ _ gR
  have gt4 : upd G3 lp (.lst (as.map V.ref ++ [.ref a1])) lt = some (.lst (rest.map V.int)) := by rw [upd_ne ntp]; exact SS3 _ _ gt
  have up4 : ∀ {b : Addr} {xs : List V}, SqT K G3 b xs → SqT K (upd G3 lp (.lst (as.map V.ref ++ [.ref a1]))) b xs := fun {b xs} h => by
    have R0 : SqT K (hids [lr, lt, lp] G3) b xs := sqT_lists h fun c hc => by
      simp only [List.mem_cons, List.not_mem_nil, or_false] at hc
      rcases hc with rfl | rfl | rfl
      · exact ⟨_, SS3 _ _ gR⟩
      · exact ⟨_, SS3 _ _ gt⟩
      · exact ⟨_, SS3 _ _ gp⟩
    rw [← hid4] at R0
    exact (hids_same _ _).tup R0
  generalize upd G3 lp (.lst (as.map V.ref ++ [.ref a1])) = G4 at *
  have gst4 : SqT K G4 st [.ref ap', .ref fr] := up4 (X1.tup gst')
  walk_at "vc"
  refine ⟨D, wf, fr, wsum (W) Tr, u, rfl, De, up4 (SS3.tup (fw.same (hids_same _ _))), up4 (X1.tup gfr), bt1100 tb.1 (by omega), bt1100 ub.1 (by omega), fun wf2 hw2 => ?_⟩
  have X5 := same_new hw2 (frO D (wsum (W) Tr + u))
  have x5 : upd G4 wf2 (frO D (wsum (W) Tr + u)) wf2 = some (frO D (wsum (W) Tr + u)) := upd_same
  have n5r : wf2 ≠ lr := (ne_of_none gR4 hw2).symm
  have n5t : wf2 ≠ lt := (ne_of_none gt4 hw2).symm
  have n5p : wf2 ≠ lp := (ne_of_none gp4 hw2).symm
  generalize upd G4 wf2 (frO D (wsum (W) Tr + u)) = G5 at *
  walk_at "vc"
  refine ⟨tyV_list (SqL.of (X5 _ _ gR4)), ?_⟩
  walk_at "vc"
  refine vc_append (K := K) (X5 _ _ gR4) (small1000 (by rw [List.length_map]; omega)) ?_
  have hid6 : hids [lr, lt, lp] (upd G5 lr (.lst (R.map V.int ++ [.int oth]))) = hids [lr, lt, lp] G5 := hids_upd (by simp)
  have gR6 : upd G5 lr (.lst (R.map V.int ++ [.int oth])) lr = some (.lst ((R ++ [oth]).map V.int)) := by rw [upd_same, List.map_append]; rfl
  have gt6 : upd G5 lr (.lst (R.map V.int ++ [.int oth])) lt = some (.lst (rest.map V.int)) := by rw [upd_ne nrt.symm]; exact X5 _ _ gt4
  have gp6 : upd G5 lr (.lst (R.map V.int ++ [.int oth])) lp = some (.lst ((as ++ [a1]).map V.ref)) := by rw [upd_ne nrp.symm]; exact X5 _ _ gp4
  generalize upd G5 lr (.lst (R.map V.int ++ [.int oth])) = G6 at *
  walk_at "vc"
  refine ⟨tyV_list (SqL.of gt6), ?_⟩
  walk_at "vc"
  refine vc_remove gt6 hr2 ?_
  have hid7 : hids [lr, lt, lp] (upd G6 lt (.lst ((rest.erase oth).map V.int))) = hids [lr, lt, lp] G6 := hids_upd (by simp)
  have big : Same (hids [lr, lt, lp] G) (hids [lr, lt, lp] (upd G6 lt (.lst ((rest.erase oth).map V.int)))) := by
    rw [hid7, hid6]
    refine (SS3.hids (S := [lr, lt, lp])).trans ?_
    rw [← hid4]
    exact X5.hids
  have x17 : hids [lr, lt, lp] (upd G6 lt (.lst ((rest.erase oth).map V.int))) a1 = some (.tup [.int (min one oth), .int (max one oth)]) := by
    rw [hid7, hid6]
    refine X5.hids _ _ ?_
    rw [hid4, hids_at (by simp [n1r, n1t, n1p])]
    exact x1
  have x57 : hids [lr, lt, lp] (upd G6 lt (.lst ((rest.erase oth).map V.int))) wf2 = some (frO D (wsum (W) Tr + u)) := by
    rw [hid7, hid6, hids_at (by simp [n5r, n5t, n5p])]
    exact x5
  have honR : oth ∉ R := fun z => (List.nodup_append.mp nd).2.2 oth z oth hr2 rfl
  refine ⟨(rest.erase oth).length, ?_, _, _, _, wf2, as ++ [a1], R ++ [oth], rest.erase oth, Tr ++ [nrm one oth], rfl, sG.trans big, by rw [upd_ne nrt]; exact gR6, upd_same, by rw [upd_ne ntp.symm]; exact gp6, (tup.same big).snoc (p := nrm one oth) (SqT.of x17), ?_, ?_, ?_, List.mem_append_left _ z0, rfl⟩
  · rw [List.length_erase_of_mem hr2]
    have := List.length_pos_of_mem hr2
    omega
  · rw [wsum_snoc]
    have e : (W (nrm one oth).1 (nrm one oth).2).getD 0 = u := by
      rcases nrm_or one oth with e | e <;> rw [e]
      · show (W one oth).getD 0 = u
        rw [hr3]; rfl
      · show (W oth one).getD 0 = u
        rw [sym, hr3]; rfl
    rw [e]
    exact FrD.of x57
  · refine pr.step sym hr1 honR (fun y hy => ?_) ?_ hr3 fun y hy v hv nv u' hu' => ?_
    · exact mem_nums (inV (List.mem_append_left _ hy)).1 (inV (List.mem_append_left _ hy)).2
    · exact mem_nums (inV (List.mem_append_right _ hr2)).1 (inV (List.mem_append_right _ hr2)).2
    · have hv' : v ∈ rest := (List.mem_append.mp (pm.mem_iff.mpr hv)).elim (fun z => absurd z nv) id
      exact least _ (mem_outs (M := W) hy hv' hu')
  · refine List.Perm.trans ?_ pm
    rw [List.append_assoc]
    exact List.Perm.append_left R (List.perm_cons_erase hr2).symm
inductive spLessD_ (K : PySem.W.Frag) (vs : List V) (H : Hp) (Q : VK) : Prop where
  | mk (D : Int) (r1 r2 : Addr) (a b : Int) : (vs = [.ref r1, .ref r2]) → (Den D) → (FrD K H D r1 a) → (FrD K H D r2 b) → (Bt 1100 a) → (Bt 1100 b) → (Q (.bl (decide (a < b))) H) → spLessD_ K vs H Q
noncomputable def spLessD (K : PySem.W.Frag) : Sp := fun vs H Q _ => spLessD_ K vs H Q
theorem ok_l_less (T : Txt K mg t) : FnOk P w K mg base CX0 1 t.f_l_less t.d_l_less ["_law_one", "_law_other"] (spLessD K) := by
  refine T.D_l_less.F.ok sc_l_less (fun vs H Q E h => ?_) (fun cdv A outer s H vs Q E hr h => ?_)
  · obtain ⟨D, r1, r2, a, b, rfl, _⟩ := h
    rfl
  obtain ⟨D, r1, r2, a, b, rfl, hD, g1, g2, la, lb, q⟩ := h
  unfold FrD at g1 g2
  have e := below_D hD a b
  obtain ⟨ba, bb⟩ := fd_bt hD la
  obtain ⟨bc, bd⟩ := fd_bt hD lb
  have m1 : CMulB (fN a D) (fD b D) := ⟨ba.mono (by decide), bd.mono (by decide)⟩
  have m2 : CMulB (fN b D) (fD a D) := ⟨bc.mono (by decide), bb.mono (by decide)⟩
  refine ⟨_, (pss_one (ps_ret (pe_cmpR op_lt (pe_op op_mulB (pe_ix ix_tup (qv qv_l_less 0 rfl rfl rfl) pe_int (fun _ _ => rfl)) (pe_ix ix_tup (qv qv_l_less 1 rfl rfl rfl) pe_int (fun _ _ => rfl))) (pe_op op_mulB (pe_ix ix_tup (qv qv_l_less 1 rfl rfl rfl) pe_int (fun _ _ => rfl)) (pe_ix ix_tup (qv qv_l_less 0 rfl rfl rfl) pe_int (fun _ _ => rfl))) (nomark _)))), ?_⟩
  walk_at "vc"
  rw [show decide (fN a D * fD b D < fN b D * fD a D) = decide (a < b) from decide_eq_decide.mpr e]
  exact q
inductive spLSumD_ (K : PySem.W.Frag) (vs : List V) (H : Hp) (Q : VK) : Prop where
  | mk (D : Int) (r1 r2 : Addr) (a b : Int) : (vs = [.ref r1, .ref r2]) → (Den D) → (FrD K H D r1 a) → (FrD K H D r2 b) → (Bt 1100 a) → (Bt 1100 b) → (∀ r, H r = none → Q (.ref r) (upd H r (frO D (a + b)))) → spLSumD_ K vs H Q
noncomputable def spLSumD (K : PySem.W.Frag) : Sp := fun vs H Q _ => spLSumD_ K vs H Q
theorem ok_l_sum (T : Txt K mg t) : FnOk P w K mg base CX0 2 t.f_l_sum t.d_l_sum ["_law_one", "_law_other"] (spLSumD K) := by
  have G_l_lowest := ok_l_lowest (P := P) (w := w) (base := base) T
  refine T.D_l_sum.F.ok sc_l_sum (fun vs H Q E h => ?_) (fun cdv A outer s H vs Q E hr h => ?_)
  · obtain ⟨D, r1, r2, a, b, rfl, _⟩ := h
    rfl
  obtain ⟨D, r1, r2, a, b, rfl, hD, g1, g2, la, lb, q⟩ := h
  unfold FrD at g1 g2
  have e := sumD hD a b
  have pa := fd_pos hD a
  have pb := fd_pos hD b
  obtain ⟨ba, bb⟩ := fd_bt hD la
  obtain ⟨bc, bd⟩ := fd_bt hD lb
  replace ba : Bt 4000 _ := ba.mono (by decide)
  replace bc : Bt 4000 _ := bc.mono (by decide)
  have bb4 : Bt 4000 _ := bb.mono (show 1000 ≤ 4000 by decide)
  have bd4 : Bt 4000 _ := bd.mono (show 1000 ≤ 4000 by decide)
  have m1 : CMulB (fN a D) (fD b D) := ⟨ba, bd4⟩
  have m2 : CMulB (fN b D) (fD a D) := ⟨bc, bb4⟩
  have m3 : CMulB (fD a D) (fD b D) := ⟨bb4, bd4⟩
  unfold frO at q
  rw [← e.1, ← e.2] at q
  generalize fN a D = x at *
  generalize fD a D = y at *
  generalize fN b D = u at *
  generalize fD b D = v at *
  refine ⟨_, (pss_one (ps_ret (q_call G_l_lowest (hr.mono (by first | decide | omega)) qg_l_sum 0 rfl rfl T.D_l_lowest.m T.D_l_lowest.F.kp T.D_l_lowest.b .nil pass0 (pa_cons (pe_op op_add (pe_op op_mulB (pe_ix ix_tup (qv qv_l_sum 0 rfl rfl rfl) pe_int (fun _ _ => rfl)) (pe_ix ix_tup (qv qv_l_sum 1 rfl rfl rfl) pe_int (fun _ _ => rfl))) (pe_op op_mulB (pe_ix ix_tup (qv qv_l_sum 1 rfl rfl rfl) pe_int (fun _ _ => rfl)) (pe_ix ix_tup (qv qv_l_sum 0 rfl rfl rfl) pe_int (fun _ _ => rfl)))) (pa_cons (pe_op op_mulB (pe_ix ix_tup (qv qv_l_sum 0 rfl rfl rfl) pe_int (fun _ _ => rfl)) (pe_ix ix_tup (qv qv_l_sum 1 rfl rfl rfl) pe_int (fun _ _ => rfl))) pa_nil))))), ?_⟩
  walk_at "vc"
  exact ⟨_, _, rfl, Int.mul_pos pa pb, (Bt.mul bb bd).mono (by decide), q⟩
theorem last_at {order : List Int} (h : order ≠ []) : atI (order.map V.int) (-1) = some (.int (lastG order)) := by
  rcases List.eq_nil_or_concat order with z | ⟨i, x, z⟩
  · exact absurd z h
  · rw [z, List.concat_eq_append, List.map_append]
    unfold lastG
    rw [List.getLast?_concat]
    exact atI_last _ _
theorem last_mem {order : List Int} (h : order ≠ []) : lastG order ∈ order := by
  rcases List.eq_nil_or_concat order with z | ⟨i, x, z⟩
  · exact absurd z h
  · rw [z, List.concat_eq_append]
    unfold lastG
    rw [List.getLast?_concat]
    simp
noncomputable def greedy (W : Int → Int → Option Int) (n : Nat) : Option Cand := gr W n (n - 1) [0] 0
inductive spNear_ (K : PySem.W.Frag) (C : Addr) (vs : List V) (H : Hp) (Q : VK) : Prop where
  | mk (x lw : Addr) (rooms : List Int) (rows : List (Int × Int)) (th : List (Str × Str × Int)) (ap : List (Str × Str)) (ss : List Str) : (vs = [.ref x, .ref lw]) → (PipeD K H C x rooms rows th ap) → (DataOk rooms rows th ap) → (SqL K H lw (ss.map V.str)) → ((∀ s ∈ ss, Let s)) → (1 ≤ ss.length) → (ss.length ≤ 30) → (∀ (v : V) (H' : Hp), Same H H' → ResAt K H' (hfD rows rooms.sum) v (greedy (Wn rooms rows th ap ss) ss.length) → Q v H') → spNear_ K C vs H Q
noncomputable def spNear (K : PySem.W.Frag) (C : Addr) : Sp := fun vs H Q _ => spNear_ K C vs H Q
theorem ok_near_order (T : Txt K mg t) : FnOk P w K mg base CX0 8 t.f_near_order t.d_near_order ["pipe", "wares"] (spNear K t.c_Pipe) := by
  have G_wastes_of := ok_wastes_of (P := P) (w := w) (base := base) T
  have G_least_of := ok_least_of (P := P) (w := w) (base := base) T
  have G_steps_from := ok_steps_from (P := P) (w := w) (base := base) T
  have G_sum_of := ok_sum_of (P := P) (w := w) (base := base) T
  refine T.D_near_order.F.ok sc_near_order (fun vs H Q E h => ?_) (fun cdv A outer s H vs Q E hr h => ?_)
  · obtain ⟨x, lw, rooms, rows, th, ap, ss, rfl, _⟩ := h
    rfl
  obtain ⟨x, lw, rooms, rows, th, ap, ss, rfl, hP, Dk, hl, ls, s1, s30, q⟩ := h
  obtain ⟨b1, b2, b3⟩ := half_ok Dk.rw Dk.s0 Dk.s1
  have De : Den (hfD rows rooms.sum) := ⟨b1, Bt.mono (m := 100) (Bt.iff.mpr (Nat.lt_of_le_of_lt (show (hfD rows rooms.sum).natAbs ≤ 100000000 by omega) (by decide))) (by decide)⟩
  have Wb : ∀ i j u, Wn rooms rows th ap ss i j = some u → 0 ≤ u ∧ u ≤ 1600000000000000000 := fun i j u h => wv_b0 Dk h
  generalize hD : hfD rows rooms.sum = D at *
  refine ⟨_, (pss_cons (q_set (i := 2) qv_near_order sc_near_order.nd rfl rfl rfl (q_call G_wastes_of (hr.mono (by first | decide | omega)) qg_near_order 0 rfl rfl T.D_wastes_of.m T.D_wastes_of.F.kp T.D_wastes_of.b .nil pass0 (pa_cons (qv qv_near_order 0 rfl rfl rfl) (pa_cons (qv qv_near_order 1 rfl rfl rfl) pa_nil))))
      (pss_cons (q_set (i := 3) qv_near_order sc_near_order.nd rfl rfl rfl (q_callTy (call_listRg rfl) qg_near_order 1 rfl rfl T.z_list bo_list (pa_cons (q_callTy call_rangeV qg_near_order 2 rfl rfl T.z_range bo_range (pa_cons (q_callB call_lenR qg_near_order 3 rfl rfl T.z_len bo_len (pa_cons (qv qv_near_order 1 rfl rfl rfl) pa_nil)) pa_nil)) pa_nil)))
      (pss_cons (q_set (i := 4) qv_near_order sc_near_order.nd rfl rfl rfl (pe_slice sl_list (qv qv_near_order 3 rfl rfl rfl) po_none (po_some pe_int)))
      (pss_cons (q_set (i := 5) qv_near_order sc_near_order.nd rfl rfl rfl (pe_slice sl_list (qv qv_near_order 3 rfl rfl rfl) (po_some pe_int) po_none))
      (pss_cons (q_set (i := 6) qv_near_order sc_near_order.nd rfl rfl rfl (pe_tup (pa_cons pe_int (pa_cons pe_int pa_nil))))
      (pss_cons (ps_while PassesOwn.never (pt_tru (qv qv_near_order 5 rfl rfl rfl)) (pss_cons (q_set (i := 7) qv_near_order sc_near_order.nd rfl rfl rfl (q_call G_least_of (hr.mono (by first | decide | omega)) qg_near_order 4 rfl rfl T.D_least_of.m T.D_least_of.F.kp T.D_least_of.b .nil pass0 (pa_cons (q_call G_steps_from (hr.mono (by first | decide | omega)) qg_near_order 5 rfl rfl T.D_steps_from.m T.D_steps_from.F.kp T.D_steps_from.b .nil pass0 (pa_cons (qv qv_near_order 2 rfl rfl rfl) (pa_cons (pe_ix ix_list (qv qv_near_order 4 rfl rfl rfl) (pe_un un_neg pe_int) (fun _ _ => rfl)) (pa_cons (qv qv_near_order 5 rfl rfl rfl) pa_nil)))) pa_nil)))
      (pss_cons (ps_if (pt_cmp (pc_isN (qv qv_near_order 7 rfl rfl rfl))) (pss_one (ps_ret pe_non)) pss_nil)
      (pss_cons (ps_expr (pe_bm PySem.F.plainAttrs_list PySem.F.slot_list_append PySem.F.type_list_append mt_appendR (qv qv_near_order 4 rfl rfl rfl) (pa_cons (pe_ix ix_tup (qv qv_near_order 7 rfl rfl rfl) pe_int (fun _ _ => rfl)) pa_nil)))
      (pss_cons (ps_expr (pe_bm PySem.F.plainAttrs_list PySem.F.slot_list_remove PySem.F.type_list_remove mt_removeI (qv qv_near_order 5 rfl rfl rfl) (pa_cons (pe_ix ix_tup (qv qv_near_order 7 rfl rfl rfl) pe_int (fun _ _ => rfl)) pa_nil)))
      (pss_one (q_set (i := 6) qv_near_order sc_near_order.nd rfl rfl rfl (q_call G_sum_of (hr.mono (by first | decide | omega)) qg_near_order 6 rfl rfl T.D_sum_of.m T.D_sum_of.F.kp T.D_sum_of.b .nil pass0 (pa_cons (qv qv_near_order 6 rfl rfl rfl) (pa_cons (pe_ix ix_tup (qv qv_near_order 7 rfl rfl rfl) pe_int (fun _ _ => rfl)) pa_nil))))))))))
      (pss_one (ps_ret (pe_tup (pa_cons (qv qv_near_order 4 rfl rfl rfl) (pa_cons (qv qv_near_order 6 rfl rfl rfl) pa_nil))))))))))), ?_⟩
  walk_at "vc"
  refine ⟨x, lw, rooms, rows, th, ap, ss, rfl, hP, Dk, hl, ls, by omega, fun wa rs1 H1 S1 n1 g1 R1 N1 => ?_⟩
  rw [hD] at R1
  have Ta1 := tab_of De Wb g1 R1
  clear R1
  generalize Wn rooms rows th ap ss = W at *
  walk_at "vc"
  refine vc_lenL (S1.seq hl) ?_
  walk_at "vc"
  rw [List.length_map]
  refine vc_rangeV fun p hp => ?_
  walk_at "vc"
  have Y2 := same_new hp (.rng 0 ss.length)
  have g2 : upd H1 p (.rng 0 ss.length) p = some (.rng 0 ss.length) := upd_same
  generalize upd H1 p (.rng 0 ss.length) = H2 at *
  refine vc_listRg g2 (by omega) fun ln hln => ?_
  have enm : (List.range ss.length).map (fun (i : Nat) => V.int i) = (nums ss.length).map V.int := by unfold nums; rw [List.map_map]; rfl
  rw [enm]
  have Y3 := same_new hln (.lst ((nums ss.length).map V.int))
  have g3 : upd H2 ln (.lst ((nums ss.length).map V.int)) ln = some (.lst ((nums ss.length).map V.int)) := upd_same
  generalize upd H2 ln (.lst ((nums ss.length).map V.int)) = H3 at *
  obtain ⟨tl, enum, cut1, cut2⟩ := nums_cut s1
  walk_at "vc"
  refine vc_slL (SqL.of g3) fun lo hlo => ?_
  rw [cut1]
  have Y4 := same_new hlo (.lst ([0].map V.int))
  have g4 : upd H3 lo (.lst ([0].map V.int)) lo = some (.lst (([0] : List Int).map V.int)) := upd_same
  generalize upd H3 lo (.lst ([0].map V.int)) = H4 at *
  walk_at "vc"
  refine vc_slL (SqL.of (Y4 _ _ g3)) fun lt hlt => ?_
  rw [cut2]
  rw [← restG_one enum]
  have Y5 := same_new hlt (.lst ((restG ss.length [0]).map V.int))
  have g5 : upd H4 lt (.lst ((restG ss.length [0]).map V.int)) lt = some (.lst ((restG ss.length [0]).map V.int)) := upd_same
  generalize upd H4 lt (.lst ((restG ss.length [0]).map V.int)) = H5 at *
  walk_at "vc"
  refine ⟨(by show 2 ≤ sizeLine; decide), fun lf hlf => ?_⟩
  walk_at "vc"
  have Y7 := same_new hlf (.tup [.int 0, .int 1])
  have g7 : upd H5 lf (.tup [.int 0, .int 1]) lf = some (frO D 0) := by rw [upd_same, fd_zero De]
  generalize upd H5 lf (.tup [.int 0, .int 1]) = H7 at *
  have S3 := S1.trans (Y2.trans Y3)
  have g47 := Y7 _ _ (Y5 _ _ g4)
  have g57 := Y7 _ _ g5
  have not_ : lo ≠ lt := ne_of_none g4 hlt
  have nfo : lf ≠ lo := (ne_of_none (Y5 _ _ g4) hlf).symm
  have nft : lf ≠ lt := (ne_of_none g5 hlf).symm
  have e3 : Same H3 (hids [lo, lt] H7) := fun b o z => by
    have m1 : b ≠ lo := ne_of_none z hlo
    have m2 : b ≠ lt := ne_of_none (Y4 _ _ z) hlt
    rw [hids_at (by simp [m1, m2])]
    exact Y7 _ _ (Y5 _ _ (Y4 _ _ z))
  have Ta7 : TabN K (hids [lo, lt] H7) D wa (W) ss.length := (Ta1.same (Y2.trans Y3)).same e3
  have keep : ∀ {G : Hp}, Same (hids [lo, lt] H7) (hids [lo, lt] G) → Same H G := fun {G} e => (S3.trans (e3.trans e)).trans (hids_same _ _)
  have O1 := OrdG.one (n := ss.length) s1
  have g0 : gr (W) ss.length (restG ss.length [0]).length [0] 0 = greedy (W) ss.length := by
    unfold greedy
    congr 1
    have := O1.len
    rw [List.length_singleton] at this
    omega
  refine ⟨fun m σ G => ∃ (u7 : Option V) (wf : Addr) (order : List Int) (tot : Int), σ = [some (.ref x), some (.ref lw), some (.ref wa), some (.ref ln), some (.ref lo), some (.ref lt), some (.ref wf), u7] ∧ Same (hids [lo, lt] H7) (hids [lo, lt] G) ∧ G lo = some (.lst (order.map V.int)) ∧ G lt = some (.lst ((restG ss.length order).map V.int)) ∧ FrD K (hids [lo, lt] G) D wf tot ∧ OrdG ss.length order ∧ order ≠ [] ∧ 0 ≤ tot ∧ tot ≤ 1600000000000000000 * order.length ∧ gr (W) ss.length (restG ss.length order).length order tot = greedy (W) ss.length ∧ m = (restG ss.length order).length,
    ⟨_, _, lf, [0], 0, rfl, Same.refl _, g47, g57, FrD.of (by rw [hids_at (by simp [nfo, nft])]; exact g7), O1, by simp, Int.le_refl _, by simp, g0, rfl⟩, ?_⟩
  rintro m σ G ⟨u7, wf, order, tot, rfl, sG, gO, gt, fw, O, one, t0, t1, hgr, rfl⟩
  have SG := keep sG
  have pl := O.len
  have hls := O.inn _ (last_mem one)
  walk_at "vc"
  refine vc_truL (SqL.of gt) ?_
  refine ite2 (fun c => ?_) (fun c => ?_)
  rotate_left
  · have er : restG ss.length order = [] := by
      cases h : restG ss.length order with
      | nil => rfl
      | cons a r => rw [h] at c; exact absurd rfl c
    rw [er] at hgr
    walk_at "vc"
    refine ⟨(by show 2 ≤ sizeLine; decide), fun r hr' => ?_⟩
    have Z2 := same_new hr' (.tup [.ref lo, .ref wf])
    refine q _ _ (SG.trans Z2) ?_
    rw [← hgr]
    exact ⟨r, lo, wf, rfl, upd_same, Z2 _ _ gO, (fw.same (hids_same _ _)).same Z2⟩
  refine ⟨fun σ' H'' => ∃ m', m' < (restG ss.length order).length ∧ _, fun _ _ h => h, ?_⟩
  obtain ⟨row, hrow, rlen, hMx⟩ := ((Ta7.same sG).same (hids_same _ _)).row (lastG order) hls.1 hls.2
  have st : stepsR row (restG ss.length order) = outG (W) (lastG order) (restG ss.length order) := by
    unfold stepsR outG
    have key : ∀ l : List Int, (∀ x ∈ l, 0 ≤ x ∧ x < ss.length) → (l.filterMap fun x => ((row[x.toNat]?).getD none).map fun u => (x, u)) = l.filterMap fun x => (W (lastG order) x).map fun u => (x, u) := by
      intro l
      induction l with
      | nil => intro _; rfl
      | cons a l ih =>
        intro hb
        have ha := hb a List.mem_cons_self
        rw [List.filterMap_cons, List.filterMap_cons, ih fun x hx => hb x (List.mem_cons_of_mem _ hx), hMx a ha.1 ha.2]
    exact key _ fun x hx => (rest_mem hx).1
  have bt1 : ∀ u, some u ∈ row → Bt 1100 u := fun u hu => by
    obtain ⟨i, hi⟩ := List.mem_iff_getElem?.mp hu
    have li := (List.getElem?_eq_some_iff.mp hi).1
    have e : W (lastG order) (i : Int) = some u := by rw [hMx i (by omega) (by omega)]; show (row[i]?).getD none = _; rw [hi]; rfl
    have b := Wb _ _ _ e
    exact bt1100 b.1 (by omega)
  walk_at "vc"
  refine vc_ixL (SqL.of gO) (last_at one) ?_
  walk_at "vc"
  refine ⟨D, lastG order, wa, lt, row, restG ss.length order, rfl, De, hrow, SqL.of gt, fun x hx => ⟨(rest_mem hx).1.1, by have := (rest_mem hx).1.2; omega⟩, by omega, bt1, fun lc rs G1 Z1 nlc glc lrs ch => ?_⟩
  rw [st] at lrs ch
  walk_at "vc"
  refine ⟨D, lc, rs, (outG (W) (lastG order) (restG ss.length order)).map (fun c => (V.int c.1, c.2)), rfl, De, SqL.of glc, by rw [List.length_map]; exact lrs, fun i r c h1 h2 => ?_, fun e G2 Z2 => ?_, fun c e st' fr G2 Z2 gst gfr => ?_⟩
  · rw [List.getElem?_map] at h2
    obtain ⟨c0, h0, rfl⟩ := Option.map_eq_some_iff.mp h2
    exact ch i r c0 h1 h0
  · rw [firstG_map V.int] at e
    have e0 : firstG (outG (W) (lastG order) (restG ss.length order)) = none := by
      cases h : firstG (outG (W) (lastG order) (restG ss.length order)) with
      | none => rfl
      | some z => rw [h] at e; cases e
    walk_at "vc"
    rw [dec_true rfl]
    walk_at "vc"
    refine q _ _ (SG.trans (Z1.trans Z2)) ?_
    rw [← hgr]
    cases hk : (restG ss.length order).length with
    | zero => rw [List.length_eq_zero_iff.mp hk] at c; cases c
    | succ k =>
      unfold gr
      rw [e0]
      exact rfl
  rw [firstG_map V.int] at e
  obtain ⟨c0, q0, rfl⟩ := Option.map_eq_some_iff.mp e
  obtain ⟨m1, m2⟩ := outG_mem (firstG_mem q0)
  obtain ⟨oth, u⟩ := c0
  dsimp only at gst gfr
  change oth ∈ restG ss.length order at m1
  change W (lastG order) oth = some u at m2
  have ub := Wb _ _ _ m2
  have SS2 := Z1.trans Z2
  have gst' : SqT K G2 st' [.int oth, .ref fr] := SqT.of gst
  walk_at "vc"
  rw [dec_false (fun z => by cases z)]
  walk_at "vc"
  refine ⟨tyV_list (SqL.of (SS2 _ _ gO)), ?_⟩
  walk_at "vc"
  refine vc_append (K := K) (SS2 _ _ gO) (small1000 (by rw [List.length_map]; omega)) ?_
  have hid4 : hids [lo, lt] (upd G2 lo (.lst (order.map V.int ++ [.int oth]))) = hids [lo, lt] G2 := hids_upd (by simp)
  have gO4 : upd G2 lo (.lst (order.map V.int ++ [.int oth])) lo = some (.lst ((order ++ [oth]).map V.int)) := by rw [upd_same, List.map_append]; rfl
  have gt4 : upd G2 lo (.lst (order.map V.int ++ [.int oth])) lt = some (.lst ((restG ss.length order).map V.int)) := by rw [upd_ne not_.symm]; exact SS2 _ _ gt
  have up4 : ∀ {b : Addr} {xs : List V}, SqT K G2 b xs → SqT K (hids [lo, lt] G2) b xs := fun {b xs} h => sqT_lists h fun c hc => by
    simp only [List.mem_cons, List.not_mem_nil, or_false] at hc
    rcases hc with rfl | rfl
    · exact ⟨_, SS2 _ _ gO⟩
    · exact ⟨_, SS2 _ _ gt⟩
  generalize upd G2 lo (.lst (order.map V.int ++ [.int oth])) = G4 at *
  have gst4 : SqT K G4 st' [.int oth, .ref fr] := (hids_same _ _).tup (hid4 ▸ up4 gst')
  walk_at "vc"
  refine ⟨tyV_list (SqL.of gt4), ?_⟩
  walk_at "vc"
  refine vc_remove gt4 m1 ?_
  have hid5 : hids [lo, lt] (upd G4 lt (.lst (((restG ss.length order).erase oth).map V.int))) = hids [lo, lt] G2 := (hids_upd (by simp)).trans hid4
  have gO5 : upd G4 lt (.lst (((restG ss.length order).erase oth).map V.int)) lo = some (.lst ((order ++ [oth]).map V.int)) := by rw [upd_ne not_]; exact gO4
  have gt5 : upd G4 lt (.lst (((restG ss.length order).erase oth).map V.int)) lt = some (.lst ((restG ss.length (order ++ [oth])).map V.int)) := by rw [upd_same, restG_snoc m1]
  generalize upd G4 lt (.lst (((restG ss.length order).erase oth).map V.int)) = G5 at *
  have gst5 : SqT K G5 st' [.int oth, .ref fr] := (hids_same _ _).tup (hid5 ▸ up4 gst')
  walk_at "vc"
  refine ⟨D, wf, fr, tot, u, rfl, De, (hids_same _ _).tup (hid5 ▸ (SS2.hids (S := [lo, lt])).tup fw), (hids_same _ _).tup (hid5 ▸ up4 gfr), bt1100 t0 (by omega), bt1100 ub.1 (by omega), fun wf2 hw2 => ?_⟩
  have X6 := same_new hw2 (frO D (tot + u))
  have n6o : wf2 ≠ lo := (ne_of_none gO5 hw2).symm
  have n6t : wf2 ≠ lt := (ne_of_none gt5 hw2).symm
  walk_at "vc"
  have O' := O.snoc m1
  have lpos := List.length_pos_of_mem m1
  refine ⟨(restG ss.length (order ++ [oth])).length, by rw [restG_snoc m1, List.length_erase_of_mem m1]; omega, _, wf2, order ++ [oth], tot + u, rfl, ?_, X6 _ _ gO5, X6 _ _ gt5, FrD.of (by rw [hids_at (by simp [n6o, n6t])]; exact upd_same), O', by simp, by omega, by rw [List.length_append, List.length_singleton]; omega, ?_, rfl⟩
  · refine sG.trans ((SS2.hids (S := [lo, lt])).trans ?_)
    rw [← hid5]
    exact X6.hids
  · rw [← hgr]
    obtain ⟨k, hk⟩ : ∃ k, (restG ss.length order).length = k + 1 := ⟨(restG ss.length order).length - 1, by omega⟩
    rw [restG_snoc m1, List.length_erase_of_mem m1, hk]
    show gr _ _ k _ _ = gr _ _ (k + 1) _ _
    rw [show gr (W) ss.length (k + 1) order tot = match firstG (outG (W) (lastG order) (restG ss.length order)) with | none => none | some c => gr (W) ss.length k (order ++ [c.1]) (tot + c.2) from rfl, q0]
theorem in_ints {x : Int} {o : List Int} : inV (.int x) (o.map V.int) = decide (x ∈ o) := by
  unfold inV
  induction o with
  | nil => rfl
  | cons y o ih =>
    rw [List.map_cons, List.any_cons, ih]
    have e : eqV (.int y) (.int x) = decide (x = y) := by
      show (y == x) = decide (x = y)
      by_cases h : x = y
      · rw [h, decide_eq_true rfl]; exact beq_self_eq_true y
      · rw [decide_eq_false h]; exact beq_eq_false_iff_ne.mpr (Ne.symm h)
    rw [e]
    by_cases h1 : x = y <;> by_cases h2 : x ∈ o <;> simp [h1, h2]
theorem wn_waste {rooms : List Int} {rows : List (Int × Int)} {th : List (Str × Str × Int)} {ap : List (Str × Str)} {ss : List Str} {p r : Int} (hp : p.toNat < ss.length) (hr : r.toNat < ss.length) :
    (((ss[p.toNat], ss[r.toNat]) ∈ ap ∨ (ss[r.toNat], ss[p.toNat]) ∈ ap) → Wn rooms rows th ap ss p r = none) ∧
    (¬ ((ss[p.toNat], ss[r.toNat]) ∈ ap ∨ (ss[r.toNat], ss[p.toNat]) ∈ ap) → Wn rooms rows th ap ss p r = some (2 * thickBy ss[p.toNat] ss[r.toNat] th * hfN rows rooms.sum)) := by
  unfold Wn
  rw [getD_at hp, getD_at hr]
  unfold wv
  exact ⟨fun h => by rw [if_pos h], fun h => by rw [if_neg h]⟩
theorem at_str {ss : List Str} {y : Int} (y0 : 0 ≤ y) (h : y.toNat < ss.length) : atI (ss.map V.str) y = some (.str ss[y.toNat]) := by
  obtain ⟨k, rfl⟩ : ∃ k : Nat, y = (k : Int) := ⟨y.toNat, by omega⟩
  exact atI_nat (by rw [List.getElem?_map, List.getElem?_eq_getElem (show k < ss.length from h)]; rfl)
noncomputable def ChoAt (K : PySem.W.Frag) (H : Hp) (D : Int) (v : V) (r : Option (Int × Int)) : Prop := match r with
  | none => v = .non
  | some c => ∃ t f, v = .ref t ∧ SqT K H t [.ref f, .int c.1] ∧ FrD K H D f c.2 ∧ Bt 1100 c.2
theorem ChoAt.same {H H' : Hp} {D : Int} {v : V} {r : Option (Int × Int)} (h : ChoAt K H D v r) (e : Same H H') : ChoAt K H' D v r := by
  cases r with
  | none => exact h
  | some c =>
    obtain ⟨t, f, a, b, d, g⟩ := h
    exact ⟨t, f, a, e.tup b, d.same e, g⟩
noncomputable def candG (W : Int → Int → Option Int) (n : Nat) (order : List Int) (i : Nat) : List (Int × Int) := outG W (lastG order) (((nums n).take i).filter fun x => decide (x ∉ order))
theorem candG_succ {W : Int → Int → Option Int} {n : Nat} {order : List Int} {i : Nat} (h : i < n) : firstG (candG W n order (i + 1)) = if (i : Int) ∈ order then firstG (candG W n order i) else match W (lastG order) i with
    | none => firstG (candG W n order i)
    | some u => betterG (firstG (candG W n order i)) ((i : Int), u) := by
  unfold candG outG
  rw [List.take_add_one, nums_at h, List.filter_append, List.filterMap_append]
  show firstG (_ ++ List.filterMap _ ([(i : Int)].filter _)) = _
  by_cases e : (i : Int) ∈ order
  · rw [if_pos e, List.filter_cons_of_neg (by simpa using e), List.filter_nil, List.filterMap_nil, List.append_nil]
  · rw [if_neg e, List.filter_cons_of_pos (by simpa using e), List.filter_nil, List.filterMap_cons, List.filterMap_nil]
    cases W (lastG order) (i : Int) with
    | none => show firstG (_ ++ []) = _; rw [List.append_nil]
    | some u =>
      show firstG (_ ++ [((i : Int), u)]) = _
      unfold firstG
      rw [List.foldl_append]
      rfl
inductive spDueN_ (K : PySem.W.Frag) (vs : List V) (H : Hp) (Q : VK) : Prop where
  | mk (f lz a0 a1 a2 a3 a4 : Addr) (rooms : List Int) (rows : List (Int × Int)) (th : List (Str × Str × Int)) (ap : List (Str × Str)) (pg : Int × Int) (ss : List Str) : (vs = [.ref f, .ref lz]) → (FiveP K H f a0 a1 a2 a3 a4 rooms rows th ap pg) → (DataOk rooms rows th ap) → (SqL K H lz (ss.map V.str)) → ((∀ s ∈ ss, Let s)) → (1 ≤ ss.length) → (ss.length ≤ 30) → (∀ (v : V) (H' : Hp), Same H H' → ResAt K H' (hfD rows rooms.sum) v (greedy (Wn rooms rows th ap ss) ss.length) → Q v H') → spDueN_ K vs H Q
noncomputable def spDueN (K : PySem.W.Frag) : Sp := fun vs H Q _ => spDueN_ K vs H Q
theorem ok_l_due (T : Txt K mg t) : FnOk P w K mg base CX0 4 t.f_l_due t.d_l_due ["_law_five_here", "_law_some_here"] (spDueN K) := by
  have G_l_waste := ok_l_waste (P := P) (w := w) (base := base) T
  have G_l_less := ok_l_less (P := P) (w := w) (base := base) T
  have G_l_sum := ok_l_sum (P := P) (w := w) (base := base) T
  refine T.D_l_due.F.ok sc_l_due (fun vs H Q E h => ?_) (fun cdv A outer s H vs Q E hr h => ?_)
  · obtain ⟨f, lz, a0, a1, a2, a3, a4, rooms, rows, th, ap, pg, ss, rfl, _⟩ := h
    rfl
  obtain ⟨f, lz, a0, a1, a2, a3, a4, rooms, rows, th, ap, pg, ss, rfl, F, Dk, hz, ls, s1, s30, q⟩ := h
  obtain ⟨b1, b2, b3⟩ := half_ok Dk.rw Dk.s0 Dk.s1
  have De : Den (hfD rows rooms.sum) := ⟨b1, Bt.mono (m := 100) (Bt.iff.mpr (Nat.lt_of_le_of_lt (show (hfD rows rooms.sum).natAbs ≤ 100000000 by omega) (by decide))) (by decide)⟩
  have Wb : ∀ i j u, Wn rooms rows th ap ss i j = some u → 0 ≤ u ∧ u ≤ 1600000000000000000 := fun i j u h => wv_b0 Dk h
  refine ⟨_, (pss_cons (q_set (i := 2) qv_l_due sc_l_due.nd rfl rfl rfl (pe_lst (pa_cons pe_int pa_nil)))
      (pss_cons (q_set (i := 3) qv_l_due sc_l_due.nd rfl rfl rfl (pe_tup (pa_cons pe_int (pa_cons pe_int pa_nil))))
      (pss_cons (ps_while PassesOwn.never (pt_cmpR op_lt (q_callB call_lenR qg_l_due 0 rfl rfl T.z_len bo_len (pa_cons (qv qv_l_due 2 rfl rfl rfl) pa_nil)) (q_callB call_lenR qg_l_due 0 rfl rfl T.z_len bo_len (pa_cons (qv qv_l_due 1 rfl rfl rfl) pa_nil)) (nomark _)) (pss_cons (q_set (i := 4) qv_l_due sc_l_due.nd rfl rfl rfl pe_non)
      (pss_cons (ps_for PassesOwn.never rfl (pi_range1 (qgl qg_l_due 1 rfl rfl) T.z_range (pa_cons (q_callB call_lenR qg_l_due 0 rfl rfl T.z_len bo_len (pa_cons (qv qv_l_due 1 rfl rfl rfl) pa_nil)) pa_nil)) (q_name (i := 5) qv_l_due sc_l_due.nd rfl rfl rfl) (pss_cons (q_set (i := 6) qv_l_due sc_l_due.nd rfl rfl rfl (q_call G_l_waste (hr.mono (by first | decide | omega)) qg_l_due 2 rfl rfl T.D_l_waste.m T.D_l_waste.F.kp T.D_l_waste.b .nil pass0 (pa_cons (qv qv_l_due 0 rfl rfl rfl) (pa_cons (pe_ix ix_list (qv qv_l_due 1 rfl rfl rfl) (pe_ix ix_list (qv qv_l_due 2 rfl rfl rfl) (pe_un un_neg pe_int) (fun _ _ => rfl)) (fun _ _ => rfl)) (pa_cons (pe_ix ix_list (qv qv_l_due 1 rfl rfl rfl) (qv qv_l_due 5 rfl rfl rfl) (fun _ _ => rfl)) pa_nil)))))
      (pss_one (ps_if (PW.pt (pw_and (pt_cmpR op_notIn_seq (qv qv_l_due 5 rfl rfl rfl) (qv qv_l_due 2 rfl rfl rfl) (by with_unfolding_all rfl)) (pw_and (pt_cmp (pc_notN (qv qv_l_due 6 rfl rfl rfl))) (pw_and1 (PW.pt (pw_or (pt_cmp (pc_isN (qv qv_l_due 4 rfl rfl rfl))) (pw_or1 (pt_val (q_call G_l_less (hr.mono (by first | decide | omega)) qg_l_due 3 rfl rfl T.D_l_less.m T.D_l_less.F.kp T.D_l_less.b .nil pass0 (pa_cons (qv qv_l_due 6 rfl rfl rfl) (pa_cons (pe_ix ix_tup (qv qv_l_due 4 rfl rfl rfl) pe_int (fun _ _ => rfl)) pa_nil))))))))))) (pss_one (q_set (i := 4) qv_l_due sc_l_due.nd rfl rfl rfl (pe_tup (pa_cons (qv qv_l_due 6 rfl rfl rfl) (pa_cons (qv qv_l_due 5 rfl rfl rfl) pa_nil))))) pss_nil))))
      (pss_cons (ps_if (pt_cmp (pc_isN (qv qv_l_due 4 rfl rfl rfl))) (pss_one (ps_ret pe_non)) pss_nil)
      (pss_cons (ps_expr (pe_bm PySem.F.plainAttrs_list PySem.F.slot_list_append PySem.F.type_list_append mt_appendR (qv qv_l_due 2 rfl rfl rfl) (pa_cons (pe_ix ix_tup (qv qv_l_due 4 rfl rfl rfl) pe_int (fun _ _ => rfl)) pa_nil)))
      (pss_one (q_set (i := 3) qv_l_due sc_l_due.nd rfl rfl rfl (q_call G_l_sum (hr.mono (by first | decide | omega)) qg_l_due 4 rfl rfl T.D_l_sum.m T.D_l_sum.F.kp T.D_l_sum.b .nil pass0 (pa_cons (qv qv_l_due 3 rfl rfl rfl) (pa_cons (pe_ix ix_tup (qv qv_l_due 4 rfl rfl rfl) pe_int (fun _ _ => rfl)) pa_nil))))))))))
      (pss_one (ps_ret (pe_tup (pa_cons (qv qv_l_due 2 rfl rfl rfl) (pa_cons (qv qv_l_due 3 rfl rfl rfl) pa_nil)))))))), ?_⟩
  walk_at "vc"
  refine ⟨(by show 1 ≤ sizeLine; decide), fun lo hlo => ?_⟩
  walk_at "vc"
  have Y1 := same_new hlo (.lst [.int 0])
  have g1 : upd H lo (.lst [.int 0]) lo = some (.lst (([0] : List Int).map V.int)) := upd_same
  generalize upd H lo (.lst [.int 0]) = H1 at *
  refine ⟨(by show 2 ≤ sizeLine; decide), fun lf hlf => ?_⟩
  walk_at "vc"
  have Y2 := same_new hlf (.tup [.int 0, .int 1])
  have g2 : upd H1 lf (.tup [.int 0, .int 1]) lf = some (frO (hfD rows rooms.sum) 0) := by rw [upd_same, fd_zero De]
  generalize upd H1 lf (.tup [.int 0, .int 1]) = H2 at *
  have nfo : lf ≠ lo := (ne_of_none g1 hlf).symm
  have e2 : Same H (hids [lo] H2) := fun b o z => by
    rw [hids_at (by simpa using ne_of_none z hlo)]
    exact Y2 _ _ (Y1 _ _ z)
  have keep : ∀ {G : Hp}, Same (hids [lo] H2) (hids [lo] G) → Same H G := fun {G} e => (e2.trans e).trans (hids_same _ _)
  have O1 := OrdG.one (n := ss.length) s1
  have g0 : gr (Wn rooms rows th ap ss) ss.length (restG ss.length [0]).length [0] 0 = greedy (Wn rooms rows th ap ss) ss.length := by
    unfold greedy
    congr 1
    have := O1.len
    rw [List.length_singleton] at this
    omega
  refine ⟨fun m σ G => ∃ (u4 u5 u6 : Option V) (wf : Addr) (order : List Int) (tot : Int), σ = [some (.ref f), some (.ref lz), some (.ref lo), some (.ref wf), u4, u5, u6] ∧ Same (hids [lo] H2) (hids [lo] G) ∧ G lo = some (.lst (order.map V.int)) ∧ FrD K (hids [lo] G) (hfD rows rooms.sum) wf tot ∧ OrdG ss.length order ∧ order ≠ [] ∧ 0 ≤ tot ∧ tot ≤ 1600000000000000000 * order.length ∧ gr (Wn rooms rows th ap ss) ss.length (restG ss.length order).length order tot = greedy (Wn rooms rows th ap ss) ss.length ∧ m = (restG ss.length order).length,
    ⟨_, _, _, _, lf, [0], 0, rfl, Same.refl _, Y2 _ _ g1, FrD.of (by rw [hids_at (by simp [nfo])]; exact g2), O1, by simp, Int.le_refl _, by simp, g0, rfl⟩, ?_⟩
  rintro m σ G ⟨u4, u5, u6, wf, order, tot, rfl, sG, gO, fw, O, one, t0, t1, hgr, rfl⟩
  have SG := keep sG
  have pl := O.len
  have hls := O.inn _ (last_mem one)
  walk_at "vc"
  refine vc_lenL (SqL.of gO) ?_
  walk_at "vc"
  refine vc_lenL (SG.seq hz) ?_
  walk_at "vc"
  rw [List.length_map, List.length_map]
  refine ite2 (fun c => ?_) (fun c => ?_)
  rotate_left
  · have er : (restG ss.length order).length = 0 := by
      have : ¬ ((order.length : Int) < ss.length) := fun z => c (decide_eq_true z)
      omega
    rw [er] at hgr
    walk_at "vc"
    refine ⟨(by show 2 ≤ sizeLine; decide), fun r hr' => ?_⟩
    have Z2 := same_new hr' (.tup [.ref lo, .ref wf])
    refine q _ _ (SG.trans Z2) ?_
    rw [← hgr]
    exact ⟨r, lo, wf, rfl, upd_same, Z2 _ _ gO, (fw.same (hids_same _ _)).same Z2⟩
  have lt := of_decide_eq_true c
  refine ⟨fun σ' H'' => ∃ m', m' < (restG ss.length order).length ∧ _, fun _ _ h => h, ?_⟩
  walk_at "vc"
  refine vc_lenL (SG.seq hz) ?_
  walk_at "vc"
  rw [List.length_map]
  refine ⟨_, rfl, by omega, by omega, for_range (n := ((ss.length : Int)).toNat) (fun i σ G' => ∃ (cv : V) (u5 u6 : Option V), σ = [some (.ref f), some (.ref lz), some (.ref lo), some (.ref wf), some cv, u5, u6] ∧ Same G G' ∧ ChoAt K G' (hfD rows rooms.sum) cv (firstG (candG (Wn rooms rows th ap ss) ss.length order i)))
    ⟨.non, _, _, rfl, Same.refl _, rfl⟩ ?_ ?_⟩
  · rintro i σ G1 hi ⟨cv, u5, u6, rfl, s1', hc⟩
    have hi' : i < ss.length := by omega
    have SG1 := SG.trans s1'
    have l1 : (lastG order).toNat < ss.length := by omega
    have l2 : ((i : Int)).toNat < ss.length := by omega
    have sn := candG_succ (W := Wn rooms rows th ap ss) (order := order) hi'
    obtain ⟨wa, wb⟩ := wn_waste (rooms := rooms) (rows := rows) (th := th) (ap := ap) (r := (i : Int)) l1 l2
    rw [Int.zero_add]
    walk_at "vc"
    refine vc_ixL (SqL.of (s1' _ _ gO)) (last_at one) ?_
    walk_at "vc"
    refine vc_ixL (SG1.seq hz) (at_str hls.1 l1) ?_
    walk_at "vc"
    refine vc_ixL (SG1.seq hz) (at_str (by omega) l2) ?_
    walk_at "vc"
    generalize firstG (candG (Wn rooms rows th ap ss) ss.length order i) = cur at *
    refine ⟨f, a0, a1, a2, a3, a4, rooms, rows, th, ap, pg, ss[(lastG order).toNat], ss[((i : Int)).toNat], rfl, F.same SG1, Dk, ls _ (List.getElem_mem _), ls _ (List.getElem_mem _), fun az G2 S2 => ?_, fun nz st G2 S2 gst => ?_⟩
    · rw [wa az] at sn
      walk_at "vc"
      refine ⟨lo, order.map V.int, rfl, .inl (SqL.of (S2 _ _ (s1' _ _ gO))), rfl, by simp [flatV], ?_⟩
      rw [if_pos rfl, in_ints]
      by_cases e : (i : Int) ∈ order
      · rw [if_pos e] at sn
        rw [dec_true e]
        walk_at "vc"
        exact ⟨cv, _, _, rfl, s1'.trans S2, by rw [sn]; exact hc.same S2⟩
      · rw [if_neg e] at sn
        rw [dec_false e]
        walk_at "vc"
        rw [dec_true rfl]
        walk_at "vc"
        exact ⟨cv, _, _, rfl, s1'.trans S2, by rw [sn]; exact hc.same S2⟩
    · have hu := wb nz
      generalize 2 * thickBy ss[(lastG order).toNat] ss[((i : Int)).toNat] th * hfN rows rooms.sum = u at *
      have ub := Wb _ _ _ hu
      rw [hu] at sn
      walk_at "vc"
      refine ⟨lo, order.map V.int, rfl, .inl (SqL.of (S2 _ _ (s1' _ _ gO))), rfl, by simp [flatV], ?_⟩
      rw [if_pos rfl, in_ints]
      by_cases e : (i : Int) ∈ order
      · rw [if_pos e] at sn
        rw [dec_true e]
        walk_at "vc"
        exact ⟨cv, _, _, rfl, s1'.trans S2, by rw [sn]; exact hc.same S2⟩
      rw [if_neg e] at sn
      rw [dec_false e]
      walk_at "vc"
      rw [dec_false (fun z => by cases z)]
      walk_at "vc"
      have new : ∀ {G3 : Hp} {r : Addr}, G3 r = none → Same G1 G3 → FrD K G3 (hfD rows rooms.sum) st u → betterG cur ((i : Int), u) = some ((i : Int), u) → ∃ (cv' : V) (v5 v6 : Option V), [some (V.ref f), some (.ref lz), some (.ref lo), some (.ref wf), some (.ref r), some (.int (i : Int)), some (.ref st)] = [some (.ref f), some (.ref lz), some (.ref lo), some (.ref wf), some cv', v5, v6] ∧ Same G (upd G3 r (.tup [.ref st, .int (i : Int)])) ∧ ChoAt K (upd G3 r (.tup [.ref st, .int (i : Int)])) (hfD rows rooms.sum) cv' (firstG (candG (Wn rooms rows th ap ss) ss.length order (i + 1))) := fun {G3 r} hr3 S3 fr eb => by
        have Y := same_new hr3 (.tup [.ref st, .int (i : Int)])
        refine ⟨_, _, _, rfl, s1'.trans (S3.trans Y), ?_⟩
        rw [sn]
        show ChoAt K _ _ _ (betterG cur ((i : Int), u))
        rw [eb]
        exact ⟨r, st, rfl, SqT.of upd_same, fr.same Y, bt1100 ub.1 (by omega)⟩
      cases cur with
      | none =>
        cases (show cv = .non from hc)
        rw [dec_true rfl]
        walk_at "vc"
        refine ⟨(by show 2 ≤ sizeLine; decide), fun r hr' => ?_⟩
        walk_at "vc"
        exact new hr' S2 (SqT.of gst) rfl
      | some c0 =>
        obtain ⟨ct, cf, rfl, k1, k2, k3⟩ := hc
        rw [dec_false (fun z => by cases z)]
        have k1' := S2.tup k1
        walk_at "vc"
        refine ⟨hfD rows rooms.sum, st, cf, u, c0.2, rfl, De, SqT.of gst, k2.same S2, bt1100 ub.1 (by omega), k3, ?_⟩
        walk_at "vc"
        refine ite2 (fun z => ?_) (fun z => ?_)
        · walk_at "vc"
          refine ⟨(by show 2 ≤ sizeLine; decide), fun r hr' => ?_⟩
          walk_at "vc"
          exact new hr' S2 (SqT.of gst) (by show (if u < c0.2 then some ((i : Int), u) else some c0) = _; rw [if_pos (of_decide_eq_true z)])
        · walk_at "vc"
          refine ⟨_, _, _, rfl, s1'.trans S2, ?_⟩
          rw [sn]
          show ChoAt K _ _ _ (if u < c0.2 then some ((i : Int), u) else some c0)
          rw [if_neg (fun y => z (decide_eq_true y))]
          exact ⟨ct, cf, rfl, k1', k2.same S2, k3⟩
  · rintro σ G1 ⟨cv, u5, u6, rfl, s1', hc⟩
    have ef : candG (Wn rooms rows th ap ss) ss.length order ((ss.length : Int)).toNat = outG (Wn rooms rows th ap ss) (lastG order) (restG ss.length order) := by
      unfold candG restG
      rw [List.take_of_length_le (by rw [nums_len]; omega)]
    rw [ef] at hc
    have gO1 := s1' _ _ gO
    cases hf : firstG (outG (Wn rooms rows th ap ss) (lastG order) (restG ss.length order)) with
    | none =>
      rw [hf] at hc
      cases (show cv = .non from hc)
      walk_at "vc"
      rw [dec_true rfl]
      walk_at "vc"
      refine q _ _ (SG.trans s1') ?_
      rw [← hgr]
      cases hk : (restG ss.length order).length with
      | zero => omega
      | succ k =>
        unfold gr
        rw [hf]
        exact rfl
    | some c0 =>
      rw [hf] at hc
      obtain ⟨ct, cf, rfl, k1, k2, k3⟩ := hc
      obtain ⟨m1, m2⟩ := outG_mem (firstG_mem hf)
      have ub := Wb _ _ _ m2
      walk_at "vc"
      rw [dec_false (fun z => by cases z)]
      walk_at "vc"
      refine ⟨tyV_list (SqL.of gO1), ?_⟩
      walk_at "vc"
      refine vc_append (K := K) gO1 (small1000 (by rw [List.length_map]; omega)) ?_
      have hid4 : hids [lo] (upd G1 lo (.lst (order.map V.int ++ [.int c0.1]))) = hids [lo] G1 := hids_upd (by simp)
      have gO4 : upd G1 lo (.lst (order.map V.int ++ [.int c0.1])) lo = some (.lst ((order ++ [c0.1]).map V.int)) := by rw [upd_same, List.map_append]; rfl
      have up4 : ∀ {b : Addr} {xs : List V}, SqT K G1 b xs → SqT K (hids [lo] G1) b xs := fun {b xs} h => sqT_lists h fun c hc => by
        rw [List.mem_singleton.mp hc]
        exact ⟨_, gO1⟩
      generalize upd G1 lo (.lst (order.map V.int ++ [.int c0.1])) = G4 at *
      have k14 : SqT K G4 ct [.ref cf, .int c0.1] := (hids_same _ _).tup (hid4 ▸ up4 k1)
      walk_at "vc"
      refine ⟨hfD rows rooms.sum, wf, cf, tot, c0.2, rfl, De, (hids_same _ _).tup (hid4 ▸ (s1'.hids (S := [lo])).tup fw), (hids_same _ _).tup (hid4 ▸ up4 k2), bt1100 t0 (by omega), bt1100 ub.1 (by omega), fun wf2 hw2 => ?_⟩
      have X6 := same_new hw2 (frO (hfD rows rooms.sum) (tot + c0.2))
      have n6o : wf2 ≠ lo := (ne_of_none gO4 hw2).symm
      walk_at "vc"
      have O' := O.snoc m1
      have lpos := List.length_pos_of_mem m1
      refine ⟨(restG ss.length (order ++ [c0.1])).length, by rw [restG_snoc m1, List.length_erase_of_mem m1]; omega, _, _, _, wf2, order ++ [c0.1], tot + c0.2, rfl, ?_, X6 _ _ gO4, FrD.of (by rw [hids_at (by simp [n6o])]; exact upd_same), O', by simp, by omega, by rw [List.length_append, List.length_singleton]; omega, ?_, rfl⟩
      · refine sG.trans ((s1'.hids (S := [lo])).trans ?_)
        rw [← hid4]
        exact X6.hids
      · rw [← hgr]
        obtain ⟨k, hk⟩ : ∃ k, (restG ss.length order).length = k + 1 := ⟨(restG ss.length order).length - 1, by omega⟩
        rw [restG_snoc m1, List.length_erase_of_mem m1, hk]
        show gr _ _ k _ _ = gr _ _ (k + 1) _ _
        rw [show gr (Wn rooms rows th ap ss) ss.length (k + 1) order tot = match firstG (outG (Wn rooms rows th ap ss) (lastG order) (restG ss.length order)) with | none => none | some c => gr (Wn rooms rows th ap ss) ss.length k (order ++ [c.1]) (tot + c.2) from rfl, hf]
open PySem.W in
noncomputable def resD (D : Int) : Option Cand → Dat
  | none => .none
  | some c => .tuple [.list (c.1.map Dat.int), frD D c.2]
theorem ResAt.rep {H : Hp} {D : Int} {v : V} {r : Option Cand} (h : ResAt K H D v r) : Rep K H v (resD D r) := by
  cases r with
  | none => cases (show v = .non from h); exact .non
  | some c =>
    obtain ⟨t, l, f, rfl, a, b, g⟩ := h
    exact .tup (SqT.of a) (.cons (.lst (SqL.of b) (Reps.ints _)) (.cons (.tup g (.cons (.int _) (.cons (.int _) .nil))) .nil))
theorem res_dp {D : Int} {r : Option Cand} (h : ∀ c, r = some c → c.1.length ≤ 30) : Dp 8 (resD D r) := by
  cases r with
  | none => trivial
  | some c =>
    have l := h c rfl
    refine ⟨(by show 2 < 1000; decide), fun d hd => ?_⟩
    simp only [List.mem_cons, List.not_mem_nil, or_false] at hd
    rcases hd with rfl | rfl
    · refine ⟨by rw [List.length_map]; omega, fun d hd => ?_⟩
      obtain ⟨i, _, rfl⟩ := List.mem_map.mp hd
      trivial
    · refine ⟨(by show 2 < 1000; decide), fun d hd => ?_⟩
      simp only [List.mem_cons, List.not_mem_nil, or_false] at hd
      rcases hd with rfl | rfl <;> trivial
open PySem.W in
theorem kqd_strs {ss : List Str} (h : ∀ s ∈ ss, Let s) : kqdOk 9 (.list (ss.map Dat.str)) = true := by
  simp only [kqdOk, List.all_eq_true, List.mem_map]
  rintro d ⟨s, hs, rfl⟩
  exact str_ok (h s hs) 8
section
variable {rooms : List Int} {rows : List (Int × Int)} {th : List (Str × Str × Int)} {ap : List (Str × Str)} {ss : List Str}
theorem Mw_at {a b : Nat} (ha : a < ss.length) (hb : b < ss.length) : Mw rooms rows th ap ss (a : Int) (b : Int) = Wn rooms rows th ap ss a b := by
  unfold Mw rowsW Wn
  rw [Int.toNat_natCast, Int.toNat_natCast, List.getElem?_append_left (by rw [List.length_map]; exact ha), List.getElem?_map, List.getElem?_eq_getElem ha, getD_at ha, getD_at hb]
  show ((ss.map (wv rooms rows th ap ss[a]))[b]?).getD none = _
  rw [List.getElem?_map, List.getElem?_eq_getElem hb]
  rfl
theorem Mw_top {x : Int} (hx : x ∈ nums ss.length) : Mw rooms rows th ap ss ss.length x = some 0 := by
  obtain ⟨b, rfl, hb⟩ := nums_mem hx
  unfold Mw rowsW
  rw [Int.toNat_natCast, Int.toNat_natCast, List.getElem?_append_right (by rw [List.length_map]; exact Nat.le_refl _), List.length_map, Nat.sub_self]
  show ((ss.map fun _ => some (0 : Int))[b]?).getD none = _
  rw [List.getElem?_map, List.getElem?_eq_getElem hb]
  rfl
theorem path_Mw : ∀ {x : Int} {o : List Int}, (∀ y ∈ x :: o, y ∈ nums ss.length) → pathC (Mw rooms rows th ap ss) x o = pathC (Wn rooms rows th ap ss) x o
  | _, [], _ => rfl
  | x, y :: r, h => by
    obtain ⟨a, ea, ha⟩ := nums_mem (h x (by simp))
    obtain ⟨b, eb, hb⟩ := nums_mem (h y (by simp))
    have e : Mw rooms rows th ap ss x y = Wn rooms rows th ap ss x y := by rw [ea, eb]; exact Mw_at ha hb
    unfold pathC
    rw [e, path_Mw fun z hz => h z (List.mem_cons_of_mem _ hz)]
theorem way_ok {n : Nat} {W : Int → Int → Option Int} {x : Int} {o : List Int} {q : Int} (pm : (x :: o).Perm (nums n)) (hp : pathC W x o = some q) : Con (nums n) (edg x o) ∧ (∀ e ∈ edg x o, (∃ u, W e.1 e.2 = some u) ∧ e.1 ∈ nums n ∧ e.2 ∈ nums n) ∧ (edg x o).length + 1 = (nums n).length ∧ wsum W (edg x o) = q := by
  obtain ⟨a, b⟩ := pathC_edg hp
  refine ⟨edg_con pm, fun e he => ⟨a e he, pm.mem_iff.mp (edg_mem he).1, pm.mem_iff.mp (edg_mem he).2⟩, ?_, b⟩
  rw [edg_len, ← pm.length_eq]
  rfl
theorem stuck_no {n : Nat} {W : Int → Int → Option Int} (sym : ∀ a b, W a b = W b a) {R rest : List Int} (st : Stuck W n R rest) {x : Int} {o : List Int} {q : Int} (pm : (x :: o).Perm (nums n)) (hp : pathC W x o = some q) : False := by
  obtain ⟨c, h, _, _⟩ := way_ok pm hp
  have nd : (R ++ rest).Nodup := st.all.nodup_iff.mpr (nums_nd n)
  have inR : ∀ {y}, y ∈ nums n → y ∉ R → y ∈ rest := fun {y} hy ny => (List.mem_append.mp (st.all.mem_iff.mpr hy)).elim (fun z => absurd z ny) id
  have cl : ∀ e ∈ edg x o, e.1 ∈ R ↔ e.2 ∈ R := fun e he => by
    obtain ⟨⟨u, hu⟩, m1, m2⟩ := h e he
    constructor
    · intro a
      exact Classical.byContradiction fun b => by rw [st.no _ a _ (inR m2 b)] at hu; cases hu
    · intro a
      exact Classical.byContradiction fun b => by rw [sym, st.no _ a _ (inR m1 b)] at hu; cases hu
  obtain ⟨y, hy⟩ := List.exists_mem_of_ne_nil _ st.ne
  have yV : y ∈ nums n := st.all.mem_iff.mp (List.mem_append_right _ hy)
  have zV : (0 : Int) ∈ nums n := st.all.mem_iff.mp (List.mem_append_left _ st.zero)
  have := c (fun v => v ∈ R) cl 0 zV y yV st.zero
  exact (List.nodup_append.mp nd).2.2 y this y hy rfl
theorem best_ok {q : Int} {o : List Int} (s1 : 1 ≤ ss.length) (pm : (0 :: o).Perm (nums ss.length)) (hp : pathC (Wn rooms rows th ap ss) 0 o = some q) :
    ∃ (c : Cand) (x : Int) (r : List Int), bestM (Mw rooms rows th ap ss) ss.length ss.length (nums ss.length) = some c ∧ c.2 ≤ q ∧ (x :: r).Perm (nums ss.length) ∧ pathC (Wn rooms rows th ap ss) x r = some c.2 := by
  have m0 : (0 : Int) ∈ nums ss.length := mem_nums (by decide) (by omega)
  have hm : ((0 :: o, q) : Cand) ∈ allM (Mw rooms rows th ap ss) ss.length ss.length (nums ss.length) := by
    refine mem_allM (nums_nd _) (nums_len _) pm ?_
    unfold pathC
    rw [Mw_top m0, Option.bind_some, path_Mw (fun y hy => pm.mem_iff.mp hy), hp]
    show some (0 + q) = some q
    congr 1
    omega
  rw [best_all, ← firstG_cand]
  cases hf : firstG (allM (Mw rooms rows th ap ss) ss.length ss.length (nums ss.length)) with
  | none => rw [firstG_none hf] at hm; cases hm
  | some c =>
    have le := firstG_le hf _ hm
    obtain ⟨p1, p2⟩ := allM_mem (nums_nd _) (nums_len _) (firstG_mem hf)
    obtain ⟨c1, c2⟩ := c
    cases c1 with
    | nil => have := p1.length_eq; rw [nums_len] at this; simp at this; omega
    | cons x r =>
      have xV : x ∈ nums ss.length := p1.mem_iff.mp List.mem_cons_self
      unfold pathC at p2
      rw [Mw_top xV, Option.bind_some, path_Mw (fun y hy => p1.mem_iff.mp hy)] at p2
      obtain ⟨q', hq', e⟩ := Option.map_eq_some_iff.mp p2
      refine ⟨_, x, r, rfl, le, p1, ?_⟩
      rw [hq', ← e]
      show some q' = some (0 + q')
      congr 1
      omega
end
inductive spRight_ (K : PySem.W.Frag) (C : Addr) (vs : List V) (H : Hp) (Q : VK) : Prop where
  | mk (f xp lz a0 a1 a2 a3 a4 : Addr) (rooms : List Int) (rows : List (Int × Int)) (th : List (Str × Str × Int)) (ap : List (Str × Str)) (pg : Int × Int) (ss : List Str) : (vs = [.ref f, .ref xp, .ref lz]) → (FiveP K H f a0 a1 a2 a3 a4 rooms rows th ap pg) → (PipeD K H C xp rooms rows th ap) → (DataOk rooms rows th ap) → (SqL K H lz (ss.map V.str)) → ((∀ s ∈ ss, Let s)) → (1 ≤ ss.length) → (ss.length ≤ 20) → (∀ H', Same H H' → Q (.bl true) H') → spRight_ K C vs H Q
noncomputable def spRight (K : PySem.W.Frag) (C : Addr) : Sp := fun vs H Q _ => spRight_ K C vs H Q
theorem ok_l_right (T : Txt K mg t) : FnOk P w K mg base CX0 15 t.f_l_right t.d_l_right ["_law_five_here", "_law_pipe_here", "_law_some_here"] (spRight K t.c_Pipe) := by
  have G_near_order := ok_near_order (P := P) (w := w) (base := base) T
  have G_l_due := ok_l_due (P := P) (w := w) (base := base) T
  have G_l_alike := ok_l_alike (P := P) (w := w) (base := base) T 8
  have G_tree_of := ok_tree_of (P := P) (w := w) (base := base) T
  have G_l_less := ok_l_less (P := P) (w := w) (base := base) T
  have G_least_order := ok_least_order (P := P) (w := w) (base := base) T
  refine T.D_l_right.F.ok sc_l_right (fun vs H Q E h => ?_) (fun cdv A outer s H vs Q E hr h => ?_)
  · obtain ⟨f, xp, lz, a0, a1, a2, a3, a4, rooms, rows, th, ap, pg, ss, rfl, _⟩ := h
    rfl
  obtain ⟨f, xp, lz, a0, a1, a2, a3, a4, rooms, rows, th, ap, pg, ss, rfl, F, PD, Dk, hz, ls, s1, s20, q⟩ := h
  obtain ⟨b1, b2, b3⟩ := half_ok Dk.rw Dk.s0 Dk.s1
  have De : Den (hfD rows rooms.sum) := ⟨b1, Bt.mono (m := 100) (Bt.iff.mpr (Nat.lt_of_le_of_lt (show (hfD rows rooms.sum).natAbs ≤ 100000000 by omega) (by decide))) (by decide)⟩
  have Wb : ∀ i j u, Wn rooms rows th ap ss i j = some u → 0 ≤ u ∧ u ≤ 1600000000000000000 := fun i j u h => wv_b0 Dk h
  have sym : ∀ a b, Wn rooms rows th ap ss a b = Wn rooms rows th ap ss b a := fun a b => Wn_sym a b
  have way : ∀ c, greedy (Wn rooms rows th ap ss) ss.length = some c → ∃ o, c.1 = 0 :: o ∧ (0 :: o).Perm (nums ss.length) ∧ pathC (Wn rooms rows th ap ss) 0 o = some c.2 := fun c hc => by
    have O1 := OrdG.one (n := ss.length) s1
    refine gr_ok (W := Wn rooms rows th ap ss) hc O1 ?_ rfl
    have := O1.len
    rw [List.length_singleton] at this
    omega
  have bnd : ∀ {x : Int} {o : List Int} {p : Int}, (x :: o).Perm (nums ss.length) → pathC (Wn rooms rows th ap ss) x o = some p → Bt 1100 p := fun {x o p} pm hp => by
    obtain ⟨_, _, ln, e⟩ := way_ok pm hp
    have tb := wsum_b Wb (edg x o)
    rw [nums_len] at ln
    rw [e] at tb
    exact bt1100 tb.1 (by omega)
  have clen : ∀ c, greedy (Wn rooms rows th ap ss) ss.length = some c → c.1.length ≤ 30 := fun c hc => by
    obtain ⟨o, e, pm, _⟩ := way c hc
    rw [e, pm.length_eq, nums_len]
    omega
  refine ⟨_, (pss_cons (q_set (i := 3) qv_l_right sc_l_right.nd rfl rfl rfl (q_callTy call_listR qg_l_right 0 rfl rfl T.z_list bo_list (pa_cons (qv qv_l_right 2 rfl rfl rfl) pa_nil)))
      (pss_cons (q_set (i := 4) qv_l_right sc_l_right.nd rfl rfl rfl (q_call G_near_order (hr.mono (by first | decide | omega)) qg_l_right 1 rfl rfl T.D_near_order.m T.D_near_order.F.kp T.D_near_order.b .nil pass0 (pa_cons (qv qv_l_right 1 rfl rfl rfl) (pa_cons (qv qv_l_right 3 rfl rfl rfl) pa_nil))))
      (pss_cons (q_set (i := 5) qv_l_right sc_l_right.nd rfl rfl rfl (q_call G_l_due (hr.mono (by first | decide | omega)) qg_l_right 2 rfl rfl T.D_l_due.m T.D_l_due.F.kp T.D_l_due.b .nil pass0 (pa_cons (qv qv_l_right 0 rfl rfl rfl) (pa_cons (qv qv_l_right 2 rfl rfl rfl) pa_nil))))
      (pss_cons (ps_if (PW.pt (pw_or (pt_not (pt_val (q_call G_l_alike (hr.mono (by first | decide | omega)) qg_l_right 3 rfl rfl T.D_l_alike.m T.D_l_alike.F.kp T.D_l_alike.b .nil pass0 (pa_cons (qv qv_l_right 4 rfl rfl rfl) (pa_cons (qv qv_l_right 5 rfl rfl rfl) pa_nil))))) (pw_or1 (pt_cmpR (op_neD hr.units) (qv qv_l_right 3 rfl rfl rfl) (qv qv_l_right 2 rfl rfl rfl) (nomark _))))) (pss_one (ps_ret pe_bl)) pss_nil)
      (pss_cons (q_set (i := 6) qv_l_right sc_l_right.nd rfl rfl rfl (q_call G_tree_of (hr.mono (by first | decide | omega)) qg_l_right 4 rfl rfl T.D_tree_of.m T.D_tree_of.F.kp T.D_tree_of.b .nil pass0 (pa_cons (qv qv_l_right 1 rfl rfl rfl) (pa_cons (qv qv_l_right 3 rfl rfl rfl) pa_nil))))
      (pss_cons (ps_if (pt_cmp (pc_isN (qv qv_l_right 4 rfl rfl rfl))) (pss_one (ps_ret pe_bl)) pss_nil)
      (pss_cons (ps_if (PW.pt (pw_or (pt_cmp (pc_isN (qv qv_l_right 6 rfl rfl rfl))) (pw_or1 (pt_val (q_call G_l_less (hr.mono (by first | decide | omega)) qg_l_right 5 rfl rfl T.D_l_less.m T.D_l_less.F.kp T.D_l_less.b .nil pass0 (pa_cons (pe_ix ix_tup (qv qv_l_right 4 rfl rfl rfl) pe_int (fun _ _ => rfl)) (pa_cons (pe_ix ix_tup (qv qv_l_right 6 rfl rfl rfl) pe_int (fun _ _ => rfl)) pa_nil))))))) (pss_one (ps_ret pe_bl)) pss_nil)
      (pss_cons (ps_if (pt_cmpR op_gt (q_callB call_lenR qg_l_right 6 rfl rfl T.z_len bo_len (pa_cons (qv qv_l_right 2 rfl rfl rfl) pa_nil)) pe_int (nomark _)) (pss_one (ps_ret pe_bl)) pss_nil)
      (pss_cons (q_set (i := 7) qv_l_right sc_l_right.nd rfl rfl rfl (q_call G_least_order (hr.mono (by first | decide | omega)) qg_l_right 7 rfl rfl T.D_least_order.m T.D_least_order.F.kp T.D_least_order.b .nil pass0 (pa_cons (qv qv_l_right 1 rfl rfl rfl) (pa_cons (qv qv_l_right 3 rfl rfl rfl) pa_nil))))
      (pss_one (ps_ret (pe_and (pe_cmp (pc_notN (qv qv_l_right 7 rfl rfl rfl))) (pe_and (pe_not (q_call G_l_less (hr.mono (by first | decide | omega)) qg_l_right 5 rfl rfl T.D_l_less.m T.D_l_less.F.kp T.D_l_less.b .nil pass0 (pa_cons (pe_ix ix_tup (qv qv_l_right 4 rfl rfl rfl) pe_int (fun _ _ => rfl)) (pa_cons (pe_ix ix_tup (qv qv_l_right 7 rfl rfl rfl) pe_int (fun _ _ => rfl)) pa_nil)))) (pe_one (pe_not (q_call G_l_less (hr.mono (by first | decide | omega)) qg_l_right 5 rfl rfl T.D_l_less.m T.D_l_less.F.kp T.D_l_less.b .nil pass0 (pa_cons (pe_ix ix_tup (qv qv_l_right 7 rfl rfl rfl) pe_int (fun _ _ => rfl)) (pa_cons (pe_ix ix_tup (qv qv_l_right 6 rfl rfl rfl) pe_int (fun _ _ => rfl)) pa_nil)))))))))))))))))), ?_⟩
  walk_at "vc"
  refine vc_listL hz fun lh hlh => ?_
  have Y1 := same_new hlh (.lst (ss.map V.str))
  have gh : upd H lh (.lst (ss.map V.str)) lh = some (.lst (ss.map V.str)) := upd_same
  generalize upd H lh (.lst (ss.map V.str)) = H1 at *
  walk_at "vc"
  refine ⟨xp, lh, rooms, rows, th, ap, ss, rfl, PD.same Y1, Dk, SqL.of gh, ls, s1, by omega, fun fv H2 S2 rf => ?_⟩
  have S2' := Y1.trans S2
  walk_at "vc"
  refine ⟨f, lz, a0, a1, a2, a3, a4, rooms, rows, th, ap, pg, ss, rfl, F.same S2', Dk, S2'.seq hz, ls, s1, by omega, fun dv H3 S3 rd => ?_⟩
  have S3' := S2'.trans S3
  walk_at "vc"
  refine ⟨_, _, resD (hfD rows rooms.sum) (greedy (Wn rooms rows th ap ss) ss.length), rfl, (rf.same S3).rep, rd.rep, res_dp clen, fun H4 S4 => ?_⟩
  have S4' := S3'.trans S4
  have gh4 := S4 _ _ (S3 _ _ (S2 _ _ gh))
  walk_at "vc"
  refine ⟨.list (ss.map PySem.W.Dat.str), .list (ss.map PySem.W.Dat.str), .lst (SqL.of gh4) (reps_strs ss), .lst (S4'.seq hz) (reps_strs ss), kqd_strs ls, kqd_strs ls, ?_⟩
  rw [dec_true rfl]
  have rf4 := (rf.same S3).same S4
  clear rd rf
  walk_at "vc"
  cases hg : greedy (Wn rooms rows th ap ss) ss.length with
  | none =>
    rw [hg] at rf4
    cases (show fv = .non from rf4)
    refine ⟨xp, lh, rooms, rows, th, ap, ss, rfl, PD.same S4', Dk, SqL.of gh4, ls, s1, by omega, fun R rest H5 S5 stk => ?_, fun r l fw R Tr H5 S5 gr TA => ?_⟩
    · walk_at "vc"
      rw [dec_true rfl]
      walk_at "vc"
      exact q _ (S4'.trans S5)
    · walk_at "vc"
      rw [dec_true rfl]
      walk_at "vc"
      exact q _ (S4'.trans S5)
  | some c =>
    rw [hg] at rf4
    obtain ⟨o, eo, pm, pc⟩ := way c hg
    obtain ⟨c1, hP, ln, ew⟩ := way_ok pm pc
    obtain ⟨ft, fl, ff, rfl, k1, k2, k3⟩ := rf4
    have qb := bnd pm pc
    refine ⟨xp, lh, rooms, rows, th, ap, ss, rfl, PD.same S4', Dk, SqL.of gh4, ls, s1, by omega, fun R rest H5 S5 stk => ?_, fun r l fw R Tr H5 S5 gr TA => ?_⟩
    · exact (stuck_no sym stk pm pc).elim
    have least := TA.prim.least TA.all c1 hP ln
    rw [ew] at least
    have tb := wsum_b Wb Tr
    have tl := TA.prim.len
    rw [TA.all.length_eq, nums_len] at tl
    have wb := bt1100 tb.1 (show wsum (Wn rooms rows th ap ss) Tr ≤ _ by omega)
    have k1' : SqT K H5 ft [.ref fl, .ref ff] := SqT.of (S5 _ _ k1)
    have gr' : SqT K H5 r [.ref l, .ref fw] := SqT.of gr
    have S5' := S4'.trans S5
    walk_at "vc"
    rw [dec_false (fun z => by cases z)]
    walk_at "vc"
    rw [dec_false (fun z => by cases z)]
    walk_at "vc"
    refine ⟨hfD rows rooms.sum, ff, fw, c.2, wsum (Wn rooms rows th ap ss) Tr, rfl, De, k3.same S5, TA.wt, qb, wb, ?_⟩
    rw [dec_false (show ¬ c.2 < wsum (Wn rooms rows th ap ss) Tr by omega)]
    walk_at "vc"
    refine vc_lenL (S5'.seq hz) ?_
    walk_at "vc"
    rw [List.length_map]
    refine ite2 (fun z => ?_) (fun z => ?_)
    · walk_at "vc"
      exact q _ S5'
    have n5 : ¬ (5 : Int) < ss.length := fun y => z (decide_eq_true y)
    walk_at "vc"
    refine ⟨xp, lh, rooms, rows, th, ap, ss, [], rfl, fun b hb => (by cases hb), PD.same S5', Dk, S5 _ _ gh4, ls, by omega, fun bv H6 S6 rb => ?_⟩
    obtain ⟨bc, x, br, eb, ble, bpm, bpc⟩ := best_ok s1 pm pc
    obtain ⟨d1, dP, dln, dew⟩ := way_ok bpm bpc
    have least2 := TA.prim.least TA.all d1 dP dln
    rw [dew] at least2
    have bb := bnd bpm bpc
    have enm : ((List.range ss.length).map fun (i : Nat) => (i : Int)) = nums ss.length := rfl
    rw [enm, eb] at rb
    obtain ⟨bt, bl, bf, rfl, j1, j2, j3⟩ := rb.same (hids_same _ _)
    have j1' : SqT K H6 bt [.ref bl, .ref bf] := SqT.of j1
    have k16 := S6.tup k1'
    have gr6 := S6.tup gr'
    walk_at "vc"
    rw [dec_false (fun z => by cases z)]
    walk_at "vc"
    refine ⟨hfD rows rooms.sum, ff, bf, c.2, bc.2, rfl, De, (k3.same S5).same S6, j3, qb, bb, ?_⟩
    rw [dec_false (show ¬ c.2 < bc.2 by omega)]
    walk_at "vc"
    refine ⟨hfD rows rooms.sum, bf, fw, bc.2, wsum (Wn rooms rows th ap ss) Tr, rfl, De, j3, TA.wt.same S6, bb, wb, ?_⟩
    rw [dec_false (show ¬ bc.2 < wsum (Wn rooms rows th ap ss) Tr by omega)]
    walk_at "vc"
    exact q _ (S5'.trans S6)
theorem D50.ok {most : Int} {ws : List Str} {rooms : List Int} {rows : List (Int × Int)} {th : List (Str × Str × Int)} {ap : List (Str × Str)} (W : Wares ws) (m : most ≤ 1000000) (m0 : 1 ≤ most) (d : D50 most ws rooms rows th ap) : DataOk rooms rows th ap := by
  have sb := sum_bounds d.rr
  have r4 := d.r4
  have sb2 : most * (rooms.length : Int) ≤ 1000000 * 4 := Int.mul_le_mul m (by omega) (by omega) (by decide)
  refine ⟨by omega, by omega, ⟨d.wu, fun r hr => ?_⟩, fun p hp => ⟨(d.thd p hp).1, (d.thd p hp).2.1⟩, fun p hp => ?_, fun p hp => ?_⟩
  · have := d.wb r hr
    omega
  · have := (d.thd p hp).2.2
    omega
  · have := d.apd.mem p hp
    exact ⟨(W.ok _ this.1).1, (W.ok _ this.2).1⟩
theorem cut_to (ns : List Int) : ∃ ms : List Int, cutV (ns.map V.int) (some 2) (some 22) = ms.map V.int ∧ ms.length ≤ 20 := by
  unfold cutV
  refine ⟨_, by rw [List.map_take, List.map_drop], ?_⟩
  rw [show (some (22 : Int)) = some ((22 : Nat) : Int) from rfl, HT.sIx_nat, show (some (2 : Int)) = some ((2 : Nat) : Int) from rfl, HT.sIx_nat, List.length_take, List.length_map]
  refine Nat.le_trans (Nat.min_le_left _ _) ?_
  omega
inductive spLaw_ (K : PySem.W.Frag) (vs : List V) (H : Hp) (Q : VK) : Prop where
  | mk (a : Addr) (ns : List Int) : (vs = [.ref a]) → (SqL K H a (ns.map V.int)) → (ns.length ≤ 63) → (∀ H', Q (.bl true) H') → spLaw_ K vs H Q
noncomputable def spLaw (K : PySem.W.Frag) : Sp := fun vs H Q _ => spLaw_ K vs H Q
theorem ok_law (T : Txt K mg t) : FnOk P w K mg base CX0 16 t.f_law t.d_law ["_law_script"] (spLaw K) := by
  have G_l_wares := ok_l_wares (P := P) (w := w) (base := base) T
  have G_l_at := ok_l_at (P := P) (w := w) (base := base) T
  have G_l_pipe := ok_l_pipe (P := P) (w := w) (base := base) T
  have G_l_some := ok_l_some (P := P) (w := w) (base := base) T
  have G_l_mix := ok_l_mix (P := P) (w := w) (base := base) T
  have G_l_of := ok_l_of (P := P) (w := w) (base := base) T
  have G_l_right := ok_l_right (P := P) (w := w) (base := base) T
  refine T.D_law.F.ok sc_law (fun vs H Q E h => ?_) (fun cdv A outer s H vs Q E hr h => ?_)
  · obtain ⟨a, ns, rfl, _⟩ := h
    rfl
  obtain ⟨a, ns, rfl, hS, hlen, q⟩ := h
  refine ⟨_, (pss_cons (q_set (i := 1) qv_law sc_law.nd rfl rfl rfl (q_call G_l_wares (hr.mono (by first | decide | omega)) qg_law 0 rfl rfl T.D_l_wares.m T.D_l_wares.F.kp T.D_l_wares.b .nil pass0 (pa_cons (q_call G_l_at (hr.mono (by first | decide | omega)) qg_law 1 rfl rfl T.D_l_at.m T.D_l_at.F.kp T.D_l_at.b .nil pass0 (pa_cons (qv qv_law 0 rfl rfl rfl) (pa_cons pe_int pa_nil))) pa_nil)))
      (pss_cons (q_set (i := 2) qv_law sc_law.nd rfl rfl rfl (q_call G_l_pipe (hr.mono (by first | decide | omega)) qg_law 2 rfl rfl T.D_l_pipe.m T.D_l_pipe.F.kp T.D_l_pipe.b .nil pass0 (pa_cons (q_call G_l_at (hr.mono (by first | decide | omega)) qg_law 1 rfl rfl T.D_l_at.m T.D_l_at.F.kp T.D_l_at.b .nil pass0 (pa_cons (qv qv_law 0 rfl rfl rfl) (pa_cons pe_int pa_nil))) (pa_cons (qv qv_law 1 rfl rfl rfl) (pa_cons pe_int pa_nil)))))
      (pss_cons (q_set (i := 3) qv_law sc_law.nd rfl rfl rfl (q_call G_l_some (hr.mono (by first | decide | omega)) qg_law 3 rfl rfl T.D_l_some.m T.D_l_some.F.kp T.D_l_some.b .nil pass0 (pa_cons (qv qv_law 1 rfl rfl rfl) (pa_cons (pe_slice sl_list (pe_op op_cat (pe_slice sl_list (qv qv_law 0 rfl rfl rfl) (po_some pe_int) (po_some pe_int)) (pe_lst (pa_cons pe_int pa_nil))) po_none (po_some pe_int)) pa_nil))))
      (pss_cons (ps_setComp (i := 4) ["_law_k", "_law_wares_here", "_law_script"] [none, some 1, some 0] rfl sc_law.nd rfl (VOk.at qv_law (i := 4) rfl).2 (pi_range1 (qgl qg_law 4 rfl rfl) T.z_range (pa_cons (q_callB call_lenR qg_law 5 rfl rfl T.z_len bo_len (pa_cons (qv qv_law 3 rfl rfl rfl) pa_nil)) pa_nil)) (fun _ _ _ _ => (pg_name (i := 0) (show (["_law_k", "_law_wares_here", "_law_script"] : List Str).Nodup by decide +kernel) rfl (Or.inl rfl))) (fun _ _ _ _ => pts_nil) (fun _ _ _ _ => (pe_ix ix_listC (pv 1) (pe_op op_mod (pe_call G_l_mix (hr.mono (by decide)) rfl T.D_l_mix.m T.D_l_mix.F.kp T.D_l_mix.b .nil pass0 (pa_cons (pe_call G_l_at (hr.mono (by decide)) rfl T.D_l_at.m T.D_l_at.F.kp T.D_l_at.b .nil pass0 (pa_cons (pv 2) (pa_cons pe_int pa_nil))) (pa_cons (pe_op op_add pe_int (pv 0)) pa_nil))) pe_int) (fun _ _ => rfl))) rfl rfl)
      (pss_cons (q_set (i := 5) qv_law sc_law.nd rfl rfl rfl (q_call G_l_of (hr.mono (by first | decide | omega)) qg_law 6 rfl rfl T.D_l_of.m T.D_l_of.F.kp T.D_l_of.b .nil pass0 (pa_cons (qv qv_law 2 rfl rfl rfl) pa_nil)))
      (pss_cons (ps_for PassesOwn.never rfl (pi_list (pe_lst (pa_cons (qv qv_law 3 rfl rfl rfl) (pa_cons (qv qv_law 4 rfl rfl rfl) (pa_cons (pe_listRev rfl (qgl qg_law 7 rfl rfl) T.z_list (qgl qg_law 8 rfl rfl) T.z_reversed (pa_cons (qv qv_law 3 rfl rfl rfl) pa_nil)) (pa_cons (qv qv_law 3 rfl rfl rfl) pa_nil)))))) (q_name (i := 6) qv_law sc_law.nd rfl rfl rfl) (pss_one (ps_if (pt_not (pt_val (q_call G_l_right (hr.mono (by first | decide | omega)) qg_law 9 rfl rfl T.D_l_right.m T.D_l_right.F.kp T.D_l_right.b .nil pass0 (pa_cons (qv qv_law 2 rfl rfl rfl) (pa_cons (qv qv_law 5 rfl rfl rfl) (pa_cons (qv qv_law 6 rfl rfl rfl) pa_nil)))))) (pss_one (ps_ret pe_bl)) pss_nil)))
      (pss_one (ps_ret pe_bl)))))))), ?_⟩
  walk_at "vc"
  refine ⟨a, 0, ns, rfl, hS, by decide, hlen, fun c0 => ?_⟩
  walk_at "vc"
  refine ⟨c0, rfl, fun lw ws H1 hlw0 S1 hlw W => ?_⟩
  walk_at "vc"
  have hS1 := S1.seq hS
  refine ⟨a, 1, ns, rfl, hS1, by decide, hlen, fun c1 => ?_⟩
  walk_at "vc"
  refine ⟨c1, 30, lw, ws, rfl, SqL.of hlw, W, by decide, by decide, fun f a0 a1 a2 a3 a4 rooms rows th ap pg H3 S3 hf0 F D => ?_⟩
  have Z3 : Same H H3 := S1.trans S3
  have hw3 := S3 _ _ hlw
  have D3 := D.ok W (by decide) (by decide)
  walk_at "vc"
  refine vc_slL (Z3.seq hS) fun b0 hb0 => ?_
  obtain ⟨ms, ems, ml⟩ := cut_to ns
  rw [ems]
  have Y4 := same_new hb0 (.lst (ms.map V.int))
  have g4 : upd H3 b0 (.lst (ms.map V.int)) b0 = some (.lst (ms.map V.int)) := upd_same
  generalize upd H3 b0 (.lst (ms.map V.int)) = H4 at *
  walk_at "vc"
  refine ⟨(by show 1 ≤ sizeLine; decide), fun b1 hb1 => ?_⟩
  have Y5 := same_new hb1 (.lst [V.int 1])
  have g5 : upd H4 b1 (.lst [V.int 1]) b1 = some (.lst [V.int 1]) := upd_same
  generalize upd H4 b1 (.lst [V.int 1]) = H5 at *
  refine vc_cat (Y5 _ _ g4) g5 (by rw [List.length_map, sizeLine_eq]; show ms.length + 1 ≤ _; omega) fun b2 hb2 => ?_
  rw [show ms.map V.int ++ [V.int 1] = (ms ++ [1]).map V.int by rw [List.map_append]; rfl]
  have Y6 := same_new hb2 (.lst ((ms ++ [1]).map V.int))
  have g6 : upd H5 b2 (.lst ((ms ++ [1]).map V.int)) b2 = some (.lst ((ms ++ [1]).map V.int)) := upd_same
  generalize upd H5 b2 (.lst ((ms ++ [1]).map V.int)) = H6 at *
  walk_at "vc"
  refine vc_slL (SqL.of g6) fun sl hsl => ?_
  have e20 : cutV ((ms ++ [1]).map V.int) none (some 20) = ((ms ++ [1]).take 20).map V.int := by
    rw [List.map_take]
    exact cutV_take _ 20
  rw [e20]
  have Y8 := same_new hsl (.lst (((ms ++ [1]).take 20).map V.int))
  have g8 : upd H6 sl (.lst (((ms ++ [1]).take 20).map V.int)) sl = some (.lst (((ms ++ [1]).take 20).map V.int)) := upd_same
  generalize upd H6 sl (.lst (((ms ++ [1]).take 20).map V.int)) = H8 at *
  have Z38 := Y4.trans (Y5.trans (Y6.trans Y8))
  have tlen : 1 ≤ ((ms ++ [1]).take 20).length ∧ ((ms ++ [1]).take 20).length ≤ 20 := by
    rw [List.length_take, List.length_append, List.length_singleton]
    omega
  walk_at "vc"
  refine ⟨lw, sl, ws, (ms ++ [1]).take 20, rfl, SqL.of (Z38 _ _ hw3), W, SqL.of g8, by omega, fun lz ss H9 S9 nlz glz sl9 sw => ?_⟩
  have ls : ∀ s ∈ ss, Let s := fun s hs => (W.ok _ (sw s hs)).1
  have s1 : 1 ≤ ss.length := by omega
  have s20 : ss.length ≤ 20 := by omega
  have F9 := F.same (Z38.trans S9)
  walk_at "vc"
  refine vc_lenL (SqL.of glz) ?_
  walk_at "vc"
  rw [List.length_map]
  have Z9 := Z3.trans (Z38.trans S9)
  have hw9 : SqL K H9 lw (ws.map V.str) := SqL.of (S9 _ _ (Z38 _ _ hw3))
  refine ⟨_, rfl, by omega, by omega, fun lo hlo => comp_gen (n := ((ss.length : Int)).toNat) (fun i x => x = .int (0 + (i : Int))) hlo (small1000 (by omega)) (hJ_rng _ _ _) (fun i ys _ => ∃ os : List Str, ys = os.map V.str ∧ os.length = i ∧ ∀ s ∈ os, s ∈ ws) (fun σ => ∃ u, σ = [u, some (.ref lw), some (.ref a)]) ⟨[], rfl, rfl, fun _ h => nomatch h⟩ ⟨_, rfl⟩ ?_ ?_⟩
  · rintro i y ys σ G R1 R0 hi rfl ⟨u, rfl⟩ sm hDl ⟨os, rfl, ol, om⟩ k1 k0
    walk_at "vc"
    refine ⟨a, 1, ns, rfl, (Z9.trans sm).seq hS, by decide, hlen, fun c => ?_⟩
    walk_at "vc"
    have i0 := Int.emod_nonneg (mix c (745 + (0 + (i : Int)))) (show (6 : Int) ≠ 0 by decide)
    have i1 := Int.emod_lt_of_pos (mix c (745 + (0 + (i : Int)))) (show (0 : Int) < 6 by decide)
    generalize mix c (745 + (0 + (i : Int))) % 6 = v at *
    obtain ⟨ni, ei⟩ : ∃ ni : Nat, v = 0 + (ni : Int) := ⟨v.toNat, by omega⟩
    obtain ⟨wi, hwi, mi⟩ : ∃ wi, atI (ws.map V.str) v = some (.str wi) ∧ wi ∈ ws := ⟨ws.getD ni (Str.ofString ""), by rw [ei]; exact atW W.len (by omega), getD_mem (by rw [W.len]; omega)⟩
    refine vc_ixL (sm.seq hw9) hwi ?_
    refine k1 _ _ _ (Same.refl _) ⟨_, rfl⟩ ⟨os ++ [wi], by rw [List.map_append]; rfl, by rw [List.length_append, ol]; rfl, fun s hs => ?_⟩
    rcases List.mem_append.mp hs with h | h
    · exact om s h
    · rw [List.mem_singleton.mp h]; exact mi
  rintro ys H10 S10 glo _ ⟨os, rfl, ol, om⟩
  have F10 := F9.same S10
  obtain ⟨r1, x1, y1⟩ := F10.h1
  obtain ⟨r2, x2, y2⟩ := F10.h2
  obtain ⟨r3, x3, y3⟩ := F10.h3
  walk_at "vc"
  refine ⟨f, a0, a1, a2, a3, .ref a4, _, _, _, _, rfl, SqL.of F10.hf, SqL.of F10.h0, SqL.of x1, SqL.of x2, SqL.of x3, fun xp dp l1 l2 l3 l4 H11 nxp nl hlnd hxl S11 p1 p2 p3 p4 gp => ?_⟩
  have PD : PipeD K H11 t.c_Pipe xp rooms rows th ap := ⟨l1, l2, l3, l4, .ref a4, r1, r2, r3, ⟨dp, gp⟩, SqL.of p1, SqL.of p2, y1.same S11, SqL.of p3, y2.same S11, SqL.of p4, y3.same S11⟩
  have gz11 := S11 _ _ (S10 _ _ glz)
  walk_at "vc"
  refine ⟨lz, _, rfl, SqL.of gz11, fun lr hlr => ?_⟩
  rw [← List.map_reverse]
  have Y12 := same_new hlr (.lst (ss.reverse.map V.str))
  have gr12 : upd H11 lr (.lst (ss.reverse.map V.str)) lr = some (.lst (ss.reverse.map V.str)) := upd_same
  generalize upd H11 lr (.lst (ss.reverse.map V.str)) = H12 at *
  walk_at "vc"
  refine ⟨(by show 4 ≤ sizeLine; decide), fun ll hll => ?_⟩
  walk_at "vc"
  have Y13 := same_new hll (.lst [.ref lz, .ref lo, .ref lr, .ref lz])
  have g13 : upd H12 ll (.lst [.ref lz, .ref lo, .ref lr, .ref lz]) ll = some (.lst [.ref lz, .ref lo, .ref lr, .ref lz]) := upd_same
  generalize upd H12 ll (.lst [.ref lz, .ref lo, .ref lr, .ref lz]) = H13 at *
  have S13 := Y12.trans Y13
  have each : ∀ {j : Nat} {y : V}, ([.ref lz, .ref lo, .ref lr, .ref lz] : List V)[j]? = some y → ∃ (b : Addr) (ts : List Str), y = .ref b ∧ SqL K H13 b (ts.map V.str) ∧ (∀ s ∈ ts, Let s) ∧ ts.length = ss.length := fun {j y} h => by
    have k1 : ∃ (b : Addr) (ts : List Str), V.ref lz = .ref b ∧ SqL K H13 b (ts.map V.str) ∧ (∀ s ∈ ts, Let s) ∧ ts.length = ss.length := ⟨lz, ss, rfl, SqL.of (S13 _ _ gz11), ls, rfl⟩
    have k2 : ∃ (b : Addr) (ts : List Str), V.ref lo = .ref b ∧ SqL K H13 b (ts.map V.str) ∧ (∀ s ∈ ts, Let s) ∧ ts.length = ss.length := ⟨lo, os, rfl, SqL.of (S13 _ _ (S11 _ _ glo)), fun s hs => (W.ok _ (om s hs)).1, by rw [ol]; omega⟩
    have k3 : ∃ (b : Addr) (ts : List Str), V.ref lr = .ref b ∧ SqL K H13 b (ts.map V.str) ∧ (∀ s ∈ ts, Let s) ∧ ts.length = ss.length := ⟨lr, ss.reverse, rfl, SqL.of (Y13 _ _ gr12), fun s hs => ls s (List.mem_reverse.mp hs), List.length_reverse⟩
    match j, h with
    | 0, h => cases h; exact k1
    | 1, h => cases h; exact k2
    | 2, h => cases h; exact k3
    | 3, h => cases h; exact k1
    | j + 4, h => simp at h
  refine ⟨ll, rfl, ⟨_, SqL.of g13⟩, for_list (xs := [.ref lz, .ref lo, .ref lr, .ref lz]) (fun j σ G => ∃ (u6 : Option V), σ = [some (.ref a), some (.ref lw), some (.ref f), some (.ref lz), some (.ref lo), some (.ref xp), u6] ∧ Same H13 G)
    ⟨_, rfl, Same.refl _⟩ (fun j σ G _ hh => by obtain ⟨_, _, e⟩ := hh; exact SqL.of (e _ _ g13)) ?_ ?_⟩
  · rintro j y σ G hy ⟨u6, rfl, sG⟩
    obtain ⟨b, ts, rfl, hb, lt, tlen'⟩ := each hy
    have SG := S13.trans sG
    walk_at "vc"
    refine ⟨f, xp, b, a0, a1, a2, a3, a4, rooms, rows, th, ap, pg, ts, rfl, F10.same (S11.trans SG), PD.same SG, D3, sG.seq hb, lt, by omega, by omega, fun G2 S2 => ?_⟩
    walk_at "vc"
    exact ⟨_, rfl, sG.trans S2⟩
  · rintro σ G ⟨u6, rfl, sG⟩
    walk_at "vc"
    exact q _
end
theorem len_s {n : Nat} : ∀ {us : List Value}, us.length = n + 1 → ∃ x xs, us = x :: xs ∧ xs.length = n
  | x :: xs, h => ⟨x, xs, rfl, Nat.succ.inj h⟩
theorem of_len1 {f : FuncData} {ps : List Str} (h : ∀ x0, bindArgs f ⟨[x0], []⟩ = pure (ps.zip [x0])) (us : List Value) (hl : us.length = 1) : bindArgs f ⟨us, []⟩ = pure (ps.zip us) := by
  obtain ⟨x0, u0, rfl, l0⟩ := len_s hl
  cases List.eq_nil_of_length_eq_zero l0
  exact h x0
theorem of_len2 {f : FuncData} {ps : List Str} (h : ∀ x0 x1, bindArgs f ⟨[x0, x1], []⟩ = pure (ps.zip [x0, x1])) (us : List Value) (hl : us.length = 2) : bindArgs f ⟨us, []⟩ = pure (ps.zip us) := by
  obtain ⟨x0, u0, rfl, l0⟩ := len_s hl
  obtain ⟨x1, u1, rfl, l1⟩ := len_s l0
  cases List.eq_nil_of_length_eq_zero l1
  exact h x0 x1
theorem of_len3 {f : FuncData} {ps : List Str} (h : ∀ x0 x1 x2, bindArgs f ⟨[x0, x1, x2], []⟩ = pure (ps.zip [x0, x1, x2])) (us : List Value) (hl : us.length = 3) : bindArgs f ⟨us, []⟩ = pure (ps.zip us) := by
  obtain ⟨x0, u0, rfl, l0⟩ := len_s hl
  obtain ⟨x1, u1, rfl, l1⟩ := len_s l0
  obtain ⟨x2, u2, rfl, l2⟩ := len_s l1
  cases List.eq_nil_of_length_eq_zero l2
  exact h x0 x1 x2
theorem of_len4 {f : FuncData} {ps : List Str} (h : ∀ x0 x1 x2 x3, bindArgs f ⟨[x0, x1, x2, x3], []⟩ = pure (ps.zip [x0, x1, x2, x3])) (us : List Value) (hl : us.length = 4) : bindArgs f ⟨us, []⟩ = pure (ps.zip us) := by
  obtain ⟨x0, u0, rfl, l0⟩ := len_s hl
  obtain ⟨x1, u1, rfl, l1⟩ := len_s l0
  obtain ⟨x2, u2, rfl, l2⟩ := len_s l1
  obtain ⟨x3, u3, rfl, l3⟩ := len_s l2
  cases List.eq_nil_of_length_eq_zero l3
  exact h x0 x1 x2 x3
theorem of_len5 {f : FuncData} {ps : List Str} (h : ∀ x0 x1 x2 x3 x4, bindArgs f ⟨[x0, x1, x2, x3, x4], []⟩ = pure (ps.zip [x0, x1, x2, x3, x4])) (us : List Value) (hl : us.length = 5) : bindArgs f ⟨us, []⟩ = pure (ps.zip us) := by
  obtain ⟨x0, u0, rfl, l0⟩ := len_s hl
  obtain ⟨x1, u1, rfl, l1⟩ := len_s l0
  obtain ⟨x2, u2, rfl, l2⟩ := len_s l1
  obtain ⟨x3, u3, rfl, l3⟩ := len_s l2
  obtain ⟨x4, u4, rfl, l4⟩ := len_s l3
  cases List.eq_nil_of_length_eq_zero l4
  exact h x0 x1 x2 x3 x4
theorem of_len6 {f : FuncData} {ps : List Str} (h : ∀ x0 x1 x2 x3 x4 x5, bindArgs f ⟨[x0, x1, x2, x3, x4, x5], []⟩ = pure (ps.zip [x0, x1, x2, x3, x4, x5])) (us : List Value) (hl : us.length = 6) : bindArgs f ⟨us, []⟩ = pure (ps.zip us) := by
  obtain ⟨x0, u0, rfl, l0⟩ := len_s hl
  obtain ⟨x1, u1, rfl, l1⟩ := len_s l0
  obtain ⟨x2, u2, rfl, l2⟩ := len_s l1
  obtain ⟨x3, u3, rfl, l3⟩ := len_s l2
  obtain ⟨x4, u4, rfl, l4⟩ := len_s l3
  obtain ⟨x5, u5, rfl, l5⟩ := len_s l4
  cases List.eq_nil_of_length_eq_zero l5
  exact h x0 x1 x2 x3 x4 x5
set_option maxHeartbeats 0 in
theorem all_mk {K : PySem.W.Frag} {h : Heap} {mg : Str → Option Value} {fa : Addr} (X : K.In h) (G : h.Ns mainGlobals mg) (hfa : mg "law" = some (.ref fa))
    {c_Pipe f0 f1 f2 f3 f4 f5 f6 f7 f8 f9 f10 f11 f12 f13 f14 f15 f16 f17 f18 f19 f20 f21 f22 f23 f24 f25 f26 f27 f28 f29 f30 f31 f32 f33 f34 f35 f36 f37 f38 f39 : Addr}
    {od0 an0 : Option Addr} {sl0 : Array (Option Value)} {oc0 kV0 dc0 pm0 cd0 ct0 : Value}
    {od1 an1 : Option Addr} {sl1 : Array (Option Value)} {oc1 kV1 dc1 pm1 cd1 ct1 : Value}
    {od2 an2 : Option Addr} {sl2 : Array (Option Value)} {oc2 kV2 dc2 pm2 cd2 ct2 : Value}
    {od3 an3 : Option Addr} {sl3 : Array (Option Value)} {oc3 kV3 dc3 pm3 cd3 ct3 : Value}
    {od4 an4 : Option Addr} {sl4 : Array (Option Value)} {oc4 kV4 dc4 pm4 cd4 ct4 : Value}
    {od5 an5 : Option Addr} {sl5 : Array (Option Value)} {oc5 kV5 dc5 pm5 cd5 ct5 : Value}
    {od6 an6 : Option Addr} {sl6 : Array (Option Value)} {oc6 kV6 dc6 pm6 cd6 ct6 : Value}
    {od7 an7 : Option Addr} {sl7 : Array (Option Value)} {oc7 kV7 dc7 pm7 cd7 ct7 : Value}
    {od8 an8 : Option Addr} {sl8 : Array (Option Value)} {oc8 kV8 dc8 pm8 cd8 ct8 : Value}
    {od9 an9 : Option Addr} {sl9 : Array (Option Value)} {oc9 kV9 dc9 pm9 cd9 ct9 : Value}
    {od10 an10 : Option Addr} {sl10 : Array (Option Value)} {oc10 kV10 dc10 pm10 cd10 ct10 : Value}
    {od11 an11 : Option Addr} {sl11 : Array (Option Value)} {oc11 kV11 dc11 pm11 cd11 ct11 : Value}
    {od12 an12 : Option Addr} {sl12 : Array (Option Value)} {oc12 kV12 dc12 pm12 cd12 ct12 : Value}
    {od13 an13 : Option Addr} {sl13 : Array (Option Value)} {oc13 kV13 dc13 pm13 cd13 ct13 : Value}
    {od14 an14 : Option Addr} {sl14 : Array (Option Value)} {oc14 kV14 dc14 pm14 cd14 ct14 : Value}
    {od15 an15 : Option Addr} {sl15 : Array (Option Value)} {oc15 kV15 dc15 pm15 cd15 ct15 : Value}
    {od16 an16 : Option Addr} {sl16 : Array (Option Value)} {oc16 kV16 dc16 pm16 cd16 ct16 : Value}
    {od17 an17 : Option Addr} {sl17 : Array (Option Value)} {oc17 kV17 dc17 pm17 cd17 ct17 : Value}
    {od18 an18 : Option Addr} {sl18 : Array (Option Value)} {oc18 kV18 dc18 pm18 cd18 ct18 : Value}
    {od19 an19 : Option Addr} {sl19 : Array (Option Value)} {oc19 kV19 dc19 pm19 cd19 ct19 : Value}
    {od20 an20 : Option Addr} {sl20 : Array (Option Value)} {oc20 kV20 dc20 pm20 cd20 ct20 : Value}
    {od21 an21 : Option Addr} {sl21 : Array (Option Value)} {oc21 kV21 dc21 pm21 cd21 ct21 : Value}
    {od22 an22 : Option Addr} {sl22 : Array (Option Value)} {oc22 kV22 dc22 pm22 cd22 ct22 : Value}
    {od23 an23 : Option Addr} {sl23 : Array (Option Value)} {oc23 kV23 dc23 pm23 cd23 ct23 : Value}
    {od24 an24 : Option Addr} {sl24 : Array (Option Value)} {oc24 kV24 dc24 pm24 cd24 ct24 : Value}
    {od25 an25 : Option Addr} {sl25 : Array (Option Value)} {oc25 kV25 dc25 pm25 cd25 ct25 : Value}
    {od26 an26 : Option Addr} {sl26 : Array (Option Value)} {oc26 kV26 dc26 pm26 cd26 ct26 : Value}
    {od27 an27 : Option Addr} {sl27 : Array (Option Value)} {oc27 kV27 dc27 pm27 cd27 ct27 : Value}
    {od28 an28 : Option Addr} {sl28 : Array (Option Value)} {oc28 kV28 dc28 pm28 cd28 ct28 : Value}
    {od29 an29 : Option Addr} {sl29 : Array (Option Value)} {oc29 kV29 dc29 pm29 cd29 ct29 : Value}
    {od30 an30 : Option Addr} {sl30 : Array (Option Value)} {oc30 kV30 dc30 pm30 cd30 ct30 : Value}
    {od31 an31 : Option Addr} {sl31 : Array (Option Value)} {oc31 kV31 dc31 pm31 cd31 ct31 : Value}
    {od32 an32 : Option Addr} {sl32 : Array (Option Value)} {oc32 kV32 dc32 pm32 cd32 ct32 : Value}
    {od33 an33 : Option Addr} {sl33 : Array (Option Value)} {oc33 kV33 dc33 pm33 cd33 ct33 : Value}
    {od34 an34 : Option Addr} {sl34 : Array (Option Value)} {oc34 kV34 dc34 pm34 cd34 ct34 : Value}
    {od35 an35 : Option Addr} {sl35 : Array (Option Value)} {oc35 kV35 dc35 pm35 cd35 ct35 : Value}
    {od36 an36 : Option Addr} {sl36 : Array (Option Value)} {oc36 kV36 dc36 pm36 cd36 ct36 : Value}
    {od37 an37 : Option Addr} {sl37 : Array (Option Value)} {oc37 kV37 dc37 pm37 cd37 ct37 : Value}
    {od38 an38 : Option Addr} {sl38 : Array (Option Value)} {oc38 kV38 dc38 pm38 cd38 ct38 : Value}
    {od39 an39 : Option Addr} {sl39 : Array (Option Value)} {oc39 kV39 dc39 pm39 cd39 ct39 : Value}
    (ac_Pipe : PySem.W.nsIn K mainGlobals "Pipe" = some (some (.ref c_Pipe)))
    (a0 : PySem.W.nsIn K mainGlobals "greatest_divisor" = some (some (.ref f0)))
    (l0 : K.lookup f0 = some ⟨oc0, od0, .func (PySem.W.fnOf "greatest_divisor" "greatest_divisor" (defArgs s_greatest_divisor) (defBody s_greatest_divisor) (defScope s_greatest_divisor) .none kV0 dc0 pm0 an0 cd0 ct0), sl0⟩) (e0 : PySem.W.codeIn K cd0 "greatest_divisor" = true) (k0 : PySem.W.keepIn K (.ref f0) = true)
    (a1 : PySem.W.nsIn K mainGlobals "made" = some (some (.ref f1)))
    (l1 : K.lookup f1 = some ⟨oc1, od1, .func (PySem.W.fnOf "made" "made" (defArgs s_made) (defBody s_made) (defScope s_made) .none kV1 dc1 pm1 an1 cd1 ct1), sl1⟩) (e1 : PySem.W.codeIn K cd1 "made" = true) (k1 : PySem.W.keepIn K (.ref f1) = true)
    (a2 : PySem.W.nsIn K mainGlobals "sum_of" = some (some (.ref f2)))
    (l2 : K.lookup f2 = some ⟨oc2, od2, .func (PySem.W.fnOf "sum_of" "sum_of" (defArgs s_sum_of) (defBody s_sum_of) (defScope s_sum_of) .none kV2 dc2 pm2 an2 cd2 ct2), sl2⟩) (e2 : PySem.W.codeIn K cd2 "sum_of" = true) (k2 : PySem.W.keepIn K (.ref f2) = true)
    (a3 : PySem.W.nsIn K mainGlobals "times" = some (some (.ref f3)))
    (l3 : K.lookup f3 = some ⟨oc3, od3, .func (PySem.W.fnOf "times" "times" (defArgs s_times) (defBody s_times) (defScope s_times) .none kV3 dc3 pm3 an3 cd3 ct3), sl3⟩) (e3 : PySem.W.codeIn K cd3 "times" = true) (k3 : PySem.W.keepIn K (.ref f3) = true)
    (a4 : PySem.W.nsIn K mainGlobals "below" = some (some (.ref f4)))
    (l4 : K.lookup f4 = some ⟨oc4, od4, .func (PySem.W.fnOf "below" "below" (defArgs s_below) (defBody s_below) (defScope s_below) .none kV4 dc4 pm4 an4 cd4 ct4), sl4⟩) (e4 : PySem.W.codeIn K cd4 "below" = true) (k4 : PySem.W.keepIn K (.ref f4) = true)
    (a5 : PySem.W.findIn K (.ref c_Pipe) "__init__" = some (some (.ref f5))) (i5 : PySem.W.isFn K (.ref f5) = true)
    (l5 : K.lookup f5 = some ⟨oc5, od5, .func (PySem.W.fnOf "__init__" "Pipe.__init__" (defArgs s_Pipe___init__) (defBody s_Pipe___init__) (defScope s_Pipe___init__) .none kV5 dc5 pm5 an5 cd5 ct5), sl5⟩) (e5 : PySem.W.codeIn K cd5 "Pipe.__init__" = true) (k5 : PySem.W.keepIn K (.ref f5) = true)
    (a6 : PySem.W.nsIn K mainGlobals "place_of" = some (some (.ref f6)))
    (l6 : K.lookup f6 = some ⟨oc6, od6, .func (PySem.W.fnOf "place_of" "place_of" (defArgs s_place_of) (defBody s_place_of) (defScope s_place_of) .none kV6 dc6 pm6 an6 cd6 ct6), sl6⟩) (e6 : PySem.W.codeIn K cd6 "place_of" = true) (k6 : PySem.W.keepIn K (.ref f6) = true)
    (a7 : PySem.W.nsIn K mainGlobals "end_of" = some (some (.ref f7)))
    (l7 : K.lookup f7 = some ⟨oc7, od7, .func (PySem.W.fnOf "end_of" "end_of" (defArgs s_end_of) (defBody s_end_of) (defScope s_end_of) .none kV7 dc7 pm7 an7 cd7 ct7), sl7⟩) (e7 : PySem.W.codeIn K cd7 "end_of" = true) (k7 : PySem.W.keepIn K (.ref f7) = true)
    (a8 : PySem.W.nsIn K mainGlobals "half_at" = some (some (.ref f8)))
    (l8 : K.lookup f8 = some ⟨oc8, od8, .func (PySem.W.fnOf "half_at" "half_at" (defArgs s_half_at) (defBody s_half_at) (defScope s_half_at) .none kV8 dc8 pm8 an8 cd8 ct8), sl8⟩) (e8 : PySem.W.codeIn K cd8 "half_at" = true) (k8 : PySem.W.keepIn K (.ref f8) = true)
    (a9 : PySem.W.nsIn K mainGlobals "thick_of" = some (some (.ref f9)))
    (l9 : K.lookup f9 = some ⟨oc9, od9, .func (PySem.W.fnOf "thick_of" "thick_of" (defArgs s_thick_of) (defBody s_thick_of) (defScope s_thick_of) .none kV9 dc9 pm9 an9 cd9 ct9), sl9⟩) (e9 : PySem.W.codeIn K cd9 "thick_of" = true) (k9 : PySem.W.keepIn K (.ref f9) = true)
    (a10 : PySem.W.nsIn K mainGlobals "are_apart" = some (some (.ref f10)))
    (l10 : K.lookup f10 = some ⟨oc10, od10, .func (PySem.W.fnOf "are_apart" "are_apart" (defArgs s_are_apart) (defBody s_are_apart) (defScope s_are_apart) .none kV10 dc10 pm10 an10 cd10 ct10), sl10⟩) (e10 : PySem.W.codeIn K cd10 "are_apart" = true) (k10 : PySem.W.keepIn K (.ref f10) = true)
    (a11 : PySem.W.nsIn K mainGlobals "half_between" = some (some (.ref f11)))
    (l11 : K.lookup f11 = some ⟨oc11, od11, .func (PySem.W.fnOf "half_between" "half_between" (defArgs s_half_between) (defBody s_half_between) (defScope s_half_between) .none kV11 dc11 pm11 an11 cd11 ct11), sl11⟩) (e11 : PySem.W.codeIn K cd11 "half_between" = true) (k11 : PySem.W.keepIn K (.ref f11) = true)
    (a12 : PySem.W.nsIn K mainGlobals "waste_between" = some (some (.ref f12)))
    (l12 : K.lookup f12 = some ⟨oc12, od12, .func (PySem.W.fnOf "waste_between" "waste_between" (defArgs s_waste_between) (defBody s_waste_between) (defScope s_waste_between) .none kV12 dc12 pm12 an12 cd12 ct12), sl12⟩) (e12 : PySem.W.codeIn K cd12 "waste_between" = true) (k12 : PySem.W.keepIn K (.ref f12) = true)
    (a13 : PySem.W.nsIn K mainGlobals "wastes_of" = some (some (.ref f13)))
    (l13 : K.lookup f13 = some ⟨oc13, od13, .func (PySem.W.fnOf "wastes_of" "wastes_of" (defArgs s_wastes_of) (defBody s_wastes_of) (defScope s_wastes_of) .none kV13 dc13 pm13 an13 cd13 ct13), sl13⟩) (e13 : PySem.W.codeIn K cd13 "wastes_of" = true) (k13 : PySem.W.keepIn K (.ref f13) = true)
    (a14 : PySem.W.nsIn K mainGlobals "wastes_from" = some (some (.ref f14)))
    (l14 : K.lookup f14 = some ⟨oc14, od14, .func (PySem.W.fnOf "wastes_from" "wastes_from" (defArgs s_wastes_from) (defBody s_wastes_from) (defScope s_wastes_from) .none kV14 dc14 pm14 an14 cd14 ct14), sl14⟩) (e14 : PySem.W.codeIn K cd14 "wastes_from" = true) (k14 : PySem.W.keepIn K (.ref f14) = true)
    (a15 : PySem.W.nsIn K mainGlobals "steps_from" = some (some (.ref f15)))
    (l15 : K.lookup f15 = some ⟨oc15, od15, .func (PySem.W.fnOf "steps_from" "steps_from" (defArgs s_steps_from) (defBody s_steps_from) (defScope s_steps_from) .none kV15 dc15 pm15 an15 cd15 ct15), sl15⟩) (e15 : PySem.W.codeIn K cd15 "steps_from" = true) (k15 : PySem.W.keepIn K (.ref f15) = true)
    (a16 : PySem.W.nsIn K mainGlobals "least_of" = some (some (.ref f16)))
    (l16 : K.lookup f16 = some ⟨oc16, od16, .func (PySem.W.fnOf "least_of" "least_of" (defArgs s_least_of) (defBody s_least_of) (defScope s_least_of) .none kV16 dc16 pm16 an16 cd16 ct16), sl16⟩) (e16 : PySem.W.codeIn K cd16 "least_of" = true) (k16 : PySem.W.keepIn K (.ref f16) = true)
    (a17 : PySem.W.nsIn K mainGlobals "least_order" = some (some (.ref f17)))
    (l17 : K.lookup f17 = some ⟨oc17, od17, .func (PySem.W.fnOf "least_order" "least_order" (defArgs s_least_order) (defBody s_least_order) (defScope s_least_order) .none kV17 dc17 pm17 an17 cd17 ct17), sl17⟩) (e17 : PySem.W.codeIn K cd17 "least_order" = true) (k17 : PySem.W.keepIn K (.ref f17) = true)
    (a18 : PySem.W.nsIn K mainGlobals "least_behind" = some (some (.ref f18)))
    (l18 : K.lookup f18 = some ⟨oc18, od18, .func (PySem.W.fnOf "least_behind" "least_behind" (defArgs s_least_behind) (defBody s_least_behind) (defScope s_least_behind) .none kV18 dc18 pm18 an18 cd18 ct18), sl18⟩) (e18 : PySem.W.codeIn K cd18 "least_behind" = true) (k18 : PySem.W.keepIn K (.ref f18) = true)
    (a19 : PySem.W.nsIn K mainGlobals "tree_of" = some (some (.ref f19)))
    (l19 : K.lookup f19 = some ⟨oc19, od19, .func (PySem.W.fnOf "tree_of" "tree_of" (defArgs s_tree_of) (defBody s_tree_of) (defScope s_tree_of) .none kV19 dc19 pm19 an19 cd19 ct19), sl19⟩) (e19 : PySem.W.codeIn K cd19 "tree_of" = true) (k19 : PySem.W.keepIn K (.ref f19) = true)
    (a20 : PySem.W.nsIn K mainGlobals "steps_between" = some (some (.ref f20)))
    (l20 : K.lookup f20 = some ⟨oc20, od20, .func (PySem.W.fnOf "steps_between" "steps_between" (defArgs s_steps_between) (defBody s_steps_between) (defScope s_steps_between) .none kV20 dc20 pm20 an20 cd20 ct20), sl20⟩) (e20 : PySem.W.codeIn K cd20 "steps_between" = true) (k20 : PySem.W.keepIn K (.ref f20) = true)
    (a21 : PySem.W.nsIn K mainGlobals "near_order" = some (some (.ref f21)))
    (l21 : K.lookup f21 = some ⟨oc21, od21, .func (PySem.W.fnOf "near_order" "near_order" (defArgs s_near_order) (defBody s_near_order) (defScope s_near_order) .none kV21 dc21 pm21 an21 cd21 ct21), sl21⟩) (e21 : PySem.W.codeIn K cd21 "near_order" = true) (k21 : PySem.W.keepIn K (.ref f21) = true)
    (a22 : PySem.W.nsIn K mainGlobals "_law_mix" = some (some (.ref f22)))
    (l22 : K.lookup f22 = some ⟨oc22, od22, .func (PySem.W.fnOf "_law_mix" "_law_mix" (defArgs s_l_mix) (defBody s_l_mix) (defScope s_l_mix) .none kV22 dc22 pm22 an22 cd22 ct22), sl22⟩) (e22 : PySem.W.codeIn K cd22 "_law_mix" = true) (k22 : PySem.W.keepIn K (.ref f22) = true)
    (a23 : PySem.W.nsIn K mainGlobals "_law_at" = some (some (.ref f23)))
    (l23 : K.lookup f23 = some ⟨oc23, od23, .func (PySem.W.fnOf "_law_at" "_law_at" (defArgs s_l_at) (defBody s_l_at) (defScope s_l_at) .none kV23 dc23 pm23 an23 cd23 ct23), sl23⟩) (e23 : PySem.W.codeIn K cd23 "_law_at" = true) (k23 : PySem.W.keepIn K (.ref f23) = true)
    (a24 : PySem.W.nsIn K mainGlobals "_law_wares" = some (some (.ref f24)))
    (l24 : K.lookup f24 = some ⟨oc24, od24, .func (PySem.W.fnOf "_law_wares" "_law_wares" (defArgs s_l_wares) (defBody s_l_wares) (defScope s_l_wares) .none kV24 dc24 pm24 an24 cd24 ct24), sl24⟩) (e24 : PySem.W.codeIn K cd24 "_law_wares" = true) (k24 : PySem.W.keepIn K (.ref f24) = true)
    (a25 : PySem.W.nsIn K mainGlobals "_law_five" = some (some (.ref f25)))
    (l25 : K.lookup f25 = some ⟨oc25, od25, .func (PySem.W.fnOf "_law_five" "_law_five" (defArgs s_l_five) (defBody s_l_five) (defScope s_l_five) .none kV25 dc25 pm25 an25 cd25 ct25), sl25⟩) (e25 : PySem.W.codeIn K cd25 "_law_five" = true) (k25 : PySem.W.keepIn K (.ref f25) = true)
    (a26 : PySem.W.nsIn K mainGlobals "_law_apart" = some (some (.ref f26)))
    (l26 : K.lookup f26 = some ⟨oc26, od26, .func (PySem.W.fnOf "_law_apart" "_law_apart" (defArgs s_l_apart) (defBody s_l_apart) (defScope s_l_apart) .none kV26 dc26 pm26 an26 cd26 ct26), sl26⟩) (e26 : PySem.W.codeIn K cd26 "_law_apart" = true) (k26 : PySem.W.keepIn K (.ref f26) = true)
    (a27 : PySem.W.nsIn K mainGlobals "_law_pipe" = some (some (.ref f27)))
    (l27 : K.lookup f27 = some ⟨oc27, od27, .func (PySem.W.fnOf "_law_pipe" "_law_pipe" (defArgs s_l_pipe) (defBody s_l_pipe) (defScope s_l_pipe) .none kV27 dc27 pm27 an27 cd27 ct27), sl27⟩) (e27 : PySem.W.codeIn K cd27 "_law_pipe" = true) (k27 : PySem.W.keepIn K (.ref f27) = true)
    (a28 : PySem.W.nsIn K mainGlobals "_law_of" = some (some (.ref f28)))
    (l28 : K.lookup f28 = some ⟨oc28, od28, .func (PySem.W.fnOf "_law_of" "_law_of" (defArgs s_l_of) (defBody s_l_of) (defScope s_l_of) .none kV28 dc28 pm28 an28 cd28 ct28), sl28⟩) (e28 : PySem.W.codeIn K cd28 "_law_of" = true) (k28 : PySem.W.keepIn K (.ref f28) = true)
    (a29 : PySem.W.nsIn K mainGlobals "_law_lowest" = some (some (.ref f29)))
    (l29 : K.lookup f29 = some ⟨oc29, od29, .func (PySem.W.fnOf "_law_lowest" "_law_lowest" (defArgs s_l_lowest) (defBody s_l_lowest) (defScope s_l_lowest) .none kV29 dc29 pm29 an29 cd29 ct29), sl29⟩) (e29 : PySem.W.codeIn K cd29 "_law_lowest" = true) (k29 : PySem.W.keepIn K (.ref f29) = true)
    (a30 : PySem.W.nsIn K mainGlobals "_law_half" = some (some (.ref f30)))
    (l30 : K.lookup f30 = some ⟨oc30, od30, .func (PySem.W.fnOf "_law_half" "_law_half" (defArgs s_l_half) (defBody s_l_half) (defScope s_l_half) .none kV30 dc30 pm30 an30 cd30 ct30), sl30⟩) (e30 : PySem.W.codeIn K cd30 "_law_half" = true) (k30 : PySem.W.keepIn K (.ref f30) = true)
    (a31 : PySem.W.nsIn K mainGlobals "_law_thick" = some (some (.ref f31)))
    (l31 : K.lookup f31 = some ⟨oc31, od31, .func (PySem.W.fnOf "_law_thick" "_law_thick" (defArgs s_l_thick) (defBody s_l_thick) (defScope s_l_thick) .none kV31 dc31 pm31 an31 cd31 ct31), sl31⟩) (e31 : PySem.W.codeIn K cd31 "_law_thick" = true) (k31 : PySem.W.keepIn K (.ref f31) = true)
    (a32 : PySem.W.nsIn K mainGlobals "_law_waste" = some (some (.ref f32)))
    (l32 : K.lookup f32 = some ⟨oc32, od32, .func (PySem.W.fnOf "_law_waste" "_law_waste" (defArgs s_l_waste) (defBody s_l_waste) (defScope s_l_waste) .none kV32 dc32 pm32 an32 cd32 ct32), sl32⟩) (e32 : PySem.W.codeIn K cd32 "_law_waste" = true) (k32 : PySem.W.keepIn K (.ref f32) = true)
    (a33 : PySem.W.nsIn K mainGlobals "_law_sum" = some (some (.ref f33)))
    (l33 : K.lookup f33 = some ⟨oc33, od33, .func (PySem.W.fnOf "_law_sum" "_law_sum" (defArgs s_l_sum) (defBody s_l_sum) (defScope s_l_sum) .none kV33 dc33 pm33 an33 cd33 ct33), sl33⟩) (e33 : PySem.W.codeIn K cd33 "_law_sum" = true) (k33 : PySem.W.keepIn K (.ref f33) = true)
    (a34 : PySem.W.nsIn K mainGlobals "_law_less" = some (some (.ref f34)))
    (l34 : K.lookup f34 = some ⟨oc34, od34, .func (PySem.W.fnOf "_law_less" "_law_less" (defArgs s_l_less) (defBody s_l_less) (defScope s_l_less) .none kV34 dc34 pm34 an34 cd34 ct34), sl34⟩) (e34 : PySem.W.codeIn K cd34 "_law_less" = true) (k34 : PySem.W.keepIn K (.ref f34) = true)
    (a35 : PySem.W.nsIn K mainGlobals "_law_some" = some (some (.ref f35)))
    (l35 : K.lookup f35 = some ⟨oc35, od35, .func (PySem.W.fnOf "_law_some" "_law_some" (defArgs s_l_some) (defBody s_l_some) (defScope s_l_some) .none kV35 dc35 pm35 an35 cd35 ct35), sl35⟩) (e35 : PySem.W.codeIn K cd35 "_law_some" = true) (k35 : PySem.W.keepIn K (.ref f35) = true)
    (a36 : PySem.W.nsIn K mainGlobals "_law_alike" = some (some (.ref f36)))
    (l36 : K.lookup f36 = some ⟨oc36, od36, .func (PySem.W.fnOf "_law_alike" "_law_alike" (defArgs s_l_alike) (defBody s_l_alike) (defScope s_l_alike) .none kV36 dc36 pm36 an36 cd36 ct36), sl36⟩) (e36 : PySem.W.codeIn K cd36 "_law_alike" = true) (k36 : PySem.W.keepIn K (.ref f36) = true)
    (a37 : PySem.W.nsIn K mainGlobals "_law_due" = some (some (.ref f37)))
    (l37 : K.lookup f37 = some ⟨oc37, od37, .func (PySem.W.fnOf "_law_due" "_law_due" (defArgs s_l_due) (defBody s_l_due) (defScope s_l_due) .none kV37 dc37 pm37 an37 cd37 ct37), sl37⟩) (e37 : PySem.W.codeIn K cd37 "_law_due" = true) (k37 : PySem.W.keepIn K (.ref f37) = true)
    (a38 : PySem.W.nsIn K mainGlobals "_law_right" = some (some (.ref f38)))
    (l38 : K.lookup f38 = some ⟨oc38, od38, .func (PySem.W.fnOf "_law_right" "_law_right" (defArgs s_l_right) (defBody s_l_right) (defScope s_l_right) .none kV38 dc38 pm38 an38 cd38 ct38), sl38⟩) (e38 : PySem.W.codeIn K cd38 "_law_right" = true) (k38 : PySem.W.keepIn K (.ref f38) = true)
    (a39 : PySem.W.nsIn K mainGlobals "law" = some (some (.ref f39)))
    (l39 : K.lookup f39 = some ⟨oc39, od39, .func (PySem.W.fnOf "law" "law" (defArgs s_law) (defBody s_law) (defScope s_law) .none kV39 dc39 pm39 an39 cd39 ct39), sl39⟩) (e39 : PySem.W.codeIn K cd39 "law" = true) (k39 : PySem.W.keepIn K (.ref f39) = true)
    (pg_Pipe : PySem.W.plainGet K c_Pipe Str.empty = true) (hd_Pipe : PySem.W.hasDictIn K c_Pipe = true) (po_Pipe : PySem.W.plainOver K c_Pipe = true) (sa_Pipe : PySem.W.findIn K (.ref c_Pipe) "__setattr__" = some (some (.builtin "object.__setattr__"))) (mk_Pipe : PySem.W.makesIn K c_Pipe = true) (kc_Pipe : PySem.W.keepIn K (.ref c_Pipe) = true)
    (n_Pipe_rooms : PySem.W.findIn K (.ref c_Pipe) "rooms" = some none)
    (n_Pipe_table : PySem.W.findIn K (.ref c_Pipe) "table" = some none)
    (n_Pipe_thick : PySem.W.findIn K (.ref c_Pipe) "thick" = some none)
    (n_Pipe_apart : PySem.W.findIn K (.ref c_Pipe) "apart" = some none)
    (n_Pipe_pig : PySem.W.findIn K (.ref c_Pipe) "pig" = some none)
    (z_abs : PySem.W.nsIn K mainGlobals "abs" = some none)
    (z_all : PySem.W.nsIn K mainGlobals "all" = some none)
    (z_bool : PySem.W.nsIn K mainGlobals "bool" = some none)
    (z_enumerate : PySem.W.nsIn K mainGlobals "enumerate" = some none)
    (z_int : PySem.W.nsIn K mainGlobals "int" = some none)
    (z_isinstance : PySem.W.nsIn K mainGlobals "isinstance" = some none)
    (z_len : PySem.W.nsIn K mainGlobals "len" = some none)
    (z_list : PySem.W.nsIn K mainGlobals "list" = some none)
    (z_max : PySem.W.nsIn K mainGlobals "max" = some none)
    (z_min : PySem.W.nsIn K mainGlobals "min" = some none)
    (z_range : PySem.W.nsIn K mainGlobals "range" = some none)
    (z_reversed : PySem.W.nsIn K mainGlobals "reversed" = some none)
    (z_sorted : PySem.W.nsIn K mainGlobals "sorted" = some none)
    (z_str : PySem.W.nsIn K mainGlobals "str" = some none)
    (z_sum : PySem.W.nsIn K mainGlobals "sum" = some none)
    (z_tuple : PySem.W.nsIn K mainGlobals "tuple" = some none)
    (z_zip : PySem.W.nsIn K mainGlobals "zip" = some none)
    : ∃ t : Ad, Txt K mg t ∧ fa = t.f_law ∧ (∀ (s : Shared) (v : Value), BindsTo s t.d_law ⟨[v], []⟩ [("_law_script", v)]) := by
  have e : f39 = fa := Value.ref.inj (Option.some.inj ((PySem.W.mg_of X G a39).symm.trans hfa))
  subst e
  have F0 := fun_mk (st := s_greatest_divisor) l0 e0 k0
  have b0 := F0.binds (ps := ["one", "other"]) fun _ _ _ _ _ _ us hl => of_len2 (fun _ _ => rfl) us hl
  have F1 := fun_mk (st := s_made) l1 e1 k1
  have b1 := F1.binds (ps := ["number", "parts"]) fun _ _ _ _ _ _ us hl => of_len2 (fun _ _ => rfl) us hl
  have F2 := fun_mk (st := s_sum_of) l2 e2 k2
  have b2 := F2.binds (ps := ["one", "other"]) fun _ _ _ _ _ _ us hl => of_len2 (fun _ _ => rfl) us hl
  have F3 := fun_mk (st := s_times) l3 e3 k3
  have b3 := F3.binds (ps := ["one", "other"]) fun _ _ _ _ _ _ us hl => of_len2 (fun _ _ => rfl) us hl
  have F4 := fun_mk (st := s_below) l4 e4 k4
  have b4 := F4.binds (ps := ["one", "other"]) fun _ _ _ _ _ _ us hl => of_len2 (fun _ _ => rfl) us hl
  have F5 := fun_mk (st := s_Pipe___init__) l5 e5 k5
  have b5 := F5.binds (ps := ["self", "rooms", "table", "thick", "apart", "pig"]) fun _ _ _ _ _ _ us hl => of_len6 (fun _ _ _ _ _ _ => rfl) us hl
  have F6 := fun_mk (st := s_place_of) l6 e6 k6
  have b6 := F6.binds (ps := ["pipe", "node"]) fun _ _ _ _ _ _ us hl => of_len2 (fun _ _ => rfl) us hl
  have F7 := fun_mk (st := s_end_of) l7 e7 k7
  have b7 := F7.binds (ps := ["pipe"]) fun _ _ _ _ _ _ us hl => of_len1 (fun _ => rfl) us hl
  have F8 := fun_mk (st := s_half_at) l8 e8 k8
  have b8 := F8.binds (ps := ["pipe", "distance"]) fun _ _ _ _ _ _ us hl => of_len2 (fun _ _ => rfl) us hl
  have F9 := fun_mk (st := s_thick_of) l9 e9 k9
  have b9 := F9.binds (ps := ["pipe", "one", "other"]) fun _ _ _ _ _ _ us hl => of_len3 (fun _ _ _ => rfl) us hl
  have F10 := fun_mk (st := s_are_apart) l10 e10 k10
  have b10 := F10.binds (ps := ["pipe", "one", "other"]) fun _ _ _ _ _ _ us hl => of_len3 (fun _ _ _ => rfl) us hl
  have F11 := fun_mk (st := s_half_between) l11 e11 k11
  have b11 := F11.binds (ps := ["pipe", "one", "other", "distance", "with_pig"]) fun _ _ _ _ _ _ us hl => of_len5 (fun _ _ _ _ _ => rfl) us hl
  have F12 := fun_mk (st := s_waste_between) l12 e12 k12
  have b12 := F12.binds (ps := ["pipe", "one", "other"]) fun _ _ _ _ _ _ us hl => of_len3 (fun _ _ _ => rfl) us hl
  have F13 := fun_mk (st := s_wastes_of) l13 e13 k13
  have b13 := F13.binds (ps := ["pipe", "wares"]) fun _ _ _ _ _ _ us hl => of_len2 (fun _ _ => rfl) us hl
  have F14 := fun_mk (st := s_wastes_from) l14 e14 k14
  have b14 := F14.binds (ps := ["pipe", "one", "wares"]) fun _ _ _ _ _ _ us hl => of_len3 (fun _ _ _ => rfl) us hl
  have F15 := fun_mk (st := s_steps_from) l15 e15 k15
  have b15 := F15.binds (ps := ["wastes", "one", "rest"]) fun _ _ _ _ _ _ us hl => of_len3 (fun _ _ _ => rfl) us hl
  have F16 := fun_mk (st := s_least_of) l16 e16 k16
  have b16 := F16.binds (ps := ["choices"]) fun _ _ _ _ _ _ us hl => of_len1 (fun _ => rfl) us hl
  have F17 := fun_mk (st := s_least_order) l17 e17 k17
  have b17 := F17.binds (ps := ["pipe", "wares"]) fun _ _ _ _ _ _ us hl => of_len2 (fun _ _ => rfl) us hl
  have F18 := fun_mk (st := s_least_behind) l18 e18 k18
  have b18 := F18.binds (ps := ["wastes", "last", "rest", "known"]) fun _ _ _ _ _ _ us hl => of_len4 (fun _ _ _ _ => rfl) us hl
  have F19 := fun_mk (st := s_tree_of) l19 e19 k19
  have b19 := F19.binds (ps := ["pipe", "wares"]) fun _ _ _ _ _ _ us hl => of_len2 (fun _ _ => rfl) us hl
  have F20 := fun_mk (st := s_steps_between) l20 e20 k20
  have b20 := F20.binds (ps := ["wastes", "reached", "rest"]) fun _ _ _ _ _ _ us hl => of_len3 (fun _ _ _ => rfl) us hl
  have F21 := fun_mk (st := s_near_order) l21 e21 k21
  have b21 := F21.binds (ps := ["pipe", "wares"]) fun _ _ _ _ _ _ us hl => of_len2 (fun _ _ => rfl) us hl
  have F22 := fun_mk (st := s_l_mix) l22 e22 k22
  have b22 := F22.binds (ps := ["_law_cell", "_law_k"]) fun _ _ _ _ _ _ us hl => of_len2 (fun _ _ => rfl) us hl
  have F23 := fun_mk (st := s_l_at) l23 e23 k23
  have b23 := F23.binds (ps := ["_law_script", "_law_k"]) fun _ _ _ _ _ _ us hl => of_len2 (fun _ _ => rfl) us hl
  have F24 := fun_mk (st := s_l_wares) l24 e24 k24
  have b24 := F24.binds (ps := ["_law_cell"]) fun _ _ _ _ _ _ us hl => of_len1 (fun _ => rfl) us hl
  have F25 := fun_mk (st := s_l_five) l25 e25 k25
  have b25 := F25.binds (ps := ["_law_cell", "_law_wares_here", "_law_most"]) fun _ _ _ _ _ _ us hl => of_len3 (fun _ _ _ => rfl) us hl
  have F26 := fun_mk (st := s_l_apart) l26 e26 k26
  have b26 := F26.binds (ps := ["_law_five_here", "_law_one", "_law_other"]) fun _ _ _ _ _ _ us hl => of_len3 (fun _ _ _ => rfl) us hl
  have F27 := fun_mk (st := s_l_pipe) l27 e27 k27
  have b27 := F27.binds (ps := ["_law_cell", "_law_wares_here", "_law_most"]) fun _ _ _ _ _ _ us hl => of_len3 (fun _ _ _ => rfl) us hl
  have F28 := fun_mk (st := s_l_of) l28 e28 k28
  have b28 := F28.binds (ps := ["_law_five_here"]) fun _ _ _ _ _ _ us hl => of_len1 (fun _ => rfl) us hl
  have F29 := fun_mk (st := s_l_lowest) l29 e29 k29
  have b29 := F29.binds (ps := ["_law_number", "_law_parts"]) fun _ _ _ _ _ _ us hl => of_len2 (fun _ _ => rfl) us hl
  have F30 := fun_mk (st := s_l_half) l30 e30 k30
  have b30 := F30.binds (ps := ["_law_five_here", "_law_distance"]) fun _ _ _ _ _ _ us hl => of_len2 (fun _ _ => rfl) us hl
  have F31 := fun_mk (st := s_l_thick) l31 e31 k31
  have b31 := F31.binds (ps := ["_law_five_here", "_law_one", "_law_other"]) fun _ _ _ _ _ _ us hl => of_len3 (fun _ _ _ => rfl) us hl
  have F32 := fun_mk (st := s_l_waste) l32 e32 k32
  have b32 := F32.binds (ps := ["_law_five_here", "_law_one", "_law_other"]) fun _ _ _ _ _ _ us hl => of_len3 (fun _ _ _ => rfl) us hl
  have F33 := fun_mk (st := s_l_sum) l33 e33 k33
  have b33 := F33.binds (ps := ["_law_one", "_law_other"]) fun _ _ _ _ _ _ us hl => of_len2 (fun _ _ => rfl) us hl
  have F34 := fun_mk (st := s_l_less) l34 e34 k34
  have b34 := F34.binds (ps := ["_law_one", "_law_other"]) fun _ _ _ _ _ _ us hl => of_len2 (fun _ _ => rfl) us hl
  have F35 := fun_mk (st := s_l_some) l35 e35 k35
  have b35 := F35.binds (ps := ["_law_wares_here", "_law_cells"]) fun _ _ _ _ _ _ us hl => of_len2 (fun _ _ => rfl) us hl
  have F36 := fun_mk (st := s_l_alike) l36 e36 k36
  have b36 := F36.binds (ps := ["_law_found", "_law_due_here"]) fun _ _ _ _ _ _ us hl => of_len2 (fun _ _ => rfl) us hl
  have F37 := fun_mk (st := s_l_due) l37 e37 k37
  have b37 := F37.binds (ps := ["_law_five_here", "_law_some_here"]) fun _ _ _ _ _ _ us hl => of_len2 (fun _ _ => rfl) us hl
  have F38 := fun_mk (st := s_l_right) l38 e38 k38
  have b38 := F38.binds (ps := ["_law_five_here", "_law_pipe_here", "_law_some_here"]) fun _ _ _ _ _ _ us hl => of_len3 (fun _ _ _ => rfl) us hl
  have F39 := fun_mk (st := s_law) l39 e39 k39
  have b39 := F39.binds (ps := ["_law_script"]) fun _ _ _ _ _ _ us hl => of_len1 (fun _ => rfl) us hl
  exact ⟨⟨c_Pipe, f0, _, f1, _, f2, _, f3, _, f4, _, f5, _, f6, _, f7, _, f8, _, f9, _, f10, _, f11, _, f12, _, f13, _, f14, _, f15, _, f16, _, f17, _, f18, _, f19, _, f20, _, f21, _, f22, _, f23, _, f24, _, f25, _, f26, _, f27, _, f28, _, f29, _, f30, _, f31, _, f32, _, f33, _, f34, _, f35, _, f36, _, f37, _, f38, _, f39, _⟩, ⟨⟨F0, b0, PySem.W.mg_of X G a0⟩, ⟨F1, b1, PySem.W.mg_of X G a1⟩, ⟨F2, b2, PySem.W.mg_of X G a2⟩, ⟨F3, b3, PySem.W.mg_of X G a3⟩, ⟨F4, b4, PySem.W.mg_of X G a4⟩, F5, b5, ⟨F6, b6, PySem.W.mg_of X G a6⟩, ⟨F7, b7, PySem.W.mg_of X G a7⟩, ⟨F8, b8, PySem.W.mg_of X G a8⟩, ⟨F9, b9, PySem.W.mg_of X G a9⟩, ⟨F10, b10, PySem.W.mg_of X G a10⟩, ⟨F11, b11, PySem.W.mg_of X G a11⟩, ⟨F12, b12, PySem.W.mg_of X G a12⟩, ⟨F13, b13, PySem.W.mg_of X G a13⟩, ⟨F14, b14, PySem.W.mg_of X G a14⟩, ⟨F15, b15, PySem.W.mg_of X G a15⟩, ⟨F16, b16, PySem.W.mg_of X G a16⟩, ⟨F17, b17, PySem.W.mg_of X G a17⟩, ⟨F18, b18, PySem.W.mg_of X G a18⟩, ⟨F19, b19, PySem.W.mg_of X G a19⟩, ⟨F20, b20, PySem.W.mg_of X G a20⟩, ⟨F21, b21, PySem.W.mg_of X G a21⟩, ⟨F22, b22, PySem.W.mg_of X G a22⟩, ⟨F23, b23, PySem.W.mg_of X G a23⟩, ⟨F24, b24, PySem.W.mg_of X G a24⟩, ⟨F25, b25, PySem.W.mg_of X G a25⟩, ⟨F26, b26, PySem.W.mg_of X G a26⟩, ⟨F27, b27, PySem.W.mg_of X G a27⟩, ⟨F28, b28, PySem.W.mg_of X G a28⟩, ⟨F29, b29, PySem.W.mg_of X G a29⟩, ⟨F30, b30, PySem.W.mg_of X G a30⟩, ⟨F31, b31, PySem.W.mg_of X G a31⟩, ⟨F32, b32, PySem.W.mg_of X G a32⟩, ⟨F33, b33, PySem.W.mg_of X G a33⟩, ⟨F34, b34, PySem.W.mg_of X G a34⟩, ⟨F35, b35, PySem.W.mg_of X G a35⟩, ⟨F36, b36, PySem.W.mg_of X G a36⟩, ⟨F37, b37, PySem.W.mg_of X G a37⟩, ⟨F38, b38, PySem.W.mg_of X G a38⟩, ⟨F39, b39, PySem.W.mg_of X G a39⟩, PySem.W.mg_of X G ac_Pipe, ⟨pg_Pipe, hd_Pipe, po_Pipe, sa_Pipe⟩, ⟨mk_Pipe, a5, i5, kc_Pipe⟩, n_Pipe_rooms, n_Pipe_table, n_Pipe_thick, n_Pipe_apart, n_Pipe_pig, PySem.W.mg_none_of X G z_abs, PySem.W.mg_none_of X G z_all, PySem.W.mg_none_of X G z_bool, PySem.W.mg_none_of X G z_enumerate, PySem.W.mg_none_of X G z_int, PySem.W.mg_none_of X G z_isinstance, PySem.W.mg_none_of X G z_len, PySem.W.mg_none_of X G z_list, PySem.W.mg_none_of X G z_max, PySem.W.mg_none_of X G z_min, PySem.W.mg_none_of X G z_range, PySem.W.mg_none_of X G z_reversed, PySem.W.mg_none_of X G z_sorted, PySem.W.mg_none_of X G z_str, PySem.W.mg_none_of X G z_sum, PySem.W.mg_none_of X G z_tuple, PySem.W.mg_none_of X G z_zip⟩, rfl, fun s v => .of_eq rfl⟩
theorem walk {l : PySem.W.OpenLaw} {q : Program} {loose : List Str} {XP : (Str → Option Value) → Heap → Prop} {YP : World → Heap → Prop} {d : DefRec} {K : Params → PySem.W.Frag} (hn : l.most = some 63) (hdf : d.params.defaults = []) (hdn : d.name = "law")
    (hY : ∀ (w : World) (h : Heap), YP w h → (K w.params).In h)
    (F : ∀ (w : World) (mg : Str → Option Value) (fa : Addr) (h : Heap), (K w.params).In h → h.Ns mainGlobals mg → mg "law" = some (.ref fa) →
      ∃ t : Ad, Txt (K w.params) mg t ∧ fa = t.f_law ∧ (∀ (s : Shared) (v : Value), BindsTo s t.d_law ⟨[v], []⟩ [("_law_script", v)])) :
    PySem.W.WalkO q loose XP YP l.row.toRowW d [] (fun f vs => PySem.call f vs) :=
  L2.walk_of (n := 63) (k := 16) (x := "_law_script") (CX := fun _ => CX0) (sp := fun w => spLaw (K w.params)) hn (by decide) hdf ⟨rfl, by decide, by decide⟩ hY
    (fun w mg fa h KX G hmg => by
      rw [hdn] at hmg
      obtain ⟨t, T, e, hb⟩ := F w mg fa h KX G hmg
      subst e
      exact ⟨t.d_law, hb, fun base _ _ => ok_law T⟩)
    (fun _ _ a ns hl _ hS => ⟨a, ns, rfl, hS, hl, fun _ => rfl⟩) fun _ _ _ _ _ z => z
end My
open PySem PySem.W PyProof.Rows
set_option maxRecDepth 100000 in
set_option maxHeartbeats 0 in
theorem PySem.Challenge.cw_batchpipe_k53_the_near_order_holds : PySem.Challenge.rw_batchpipe_k53_the_near_order.Holds := by
  w_on; o_law; k_head; (case hw => w_witness2)
  k_fill
  refine My.walk (l := PySem.Challenge.rw_batchpipe_k53_the_near_order) rfl rfl rfl (fun w h Y => PySem.W.kIn_of Y) ?F
  case F =>
    intro w mg fa h KX G hmg
    refine' My.all_mk KX G hmg ?ac_Pipe ?a0 ?l0 ?e0 ?k0 ?a1 ?l1 ?e1 ?k1 ?a2 ?l2 ?e2 ?k2 ?a3 ?l3 ?e3 ?k3 ?a4 ?l4 ?e4 ?k4 ?a5 ?i5 ?l5 ?e5 ?k5 ?a6 ?l6 ?e6 ?k6 ?a7 ?l7 ?e7 ?k7 ?a8 ?l8 ?e8 ?k8 ?a9 ?l9 ?e9 ?k9 ?a10 ?l10 ?e10 ?k10 ?a11 ?l11 ?e11 ?k11 ?a12 ?l12 ?e12 ?k12 ?a13 ?l13 ?e13 ?k13 ?a14 ?l14 ?e14 ?k14 ?a15 ?l15 ?e15 ?k15 ?a16 ?l16 ?e16 ?k16 ?a17 ?l17 ?e17 ?k17 ?a18 ?l18 ?e18 ?k18 ?a19 ?l19 ?e19 ?k19 ?a20 ?l20 ?e20 ?k20 ?a21 ?l21 ?e21 ?k21 ?a22 ?l22 ?e22 ?k22 ?a23 ?l23 ?e23 ?k23 ?a24 ?l24 ?e24 ?k24 ?a25 ?l25 ?e25 ?k25 ?a26 ?l26 ?e26 ?k26 ?a27 ?l27 ?e27 ?k27 ?a28 ?l28 ?e28 ?k28 ?a29 ?l29 ?e29 ?k29 ?a30 ?l30 ?e30 ?k30 ?a31 ?l31 ?e31 ?k31 ?a32 ?l32 ?e32 ?k32 ?a33 ?l33 ?e33 ?k33 ?a34 ?l34 ?e34 ?k34 ?a35 ?l35 ?e35 ?k35 ?a36 ?l36 ?e36 ?k36 ?a37 ?l37 ?e37 ?k37 ?a38 ?l38 ?e38 ?k38 ?a39 ?l39 ?e39 ?k39 ?pg_Pipe ?hd_Pipe ?po_Pipe ?sa_Pipe ?mk_Pipe ?kc_Pipe ?n_Pipe_rooms ?n_Pipe_table ?n_Pipe_thick ?n_Pipe_apart ?n_Pipe_pig ?z_abs ?z_all ?z_bool ?z_enumerate ?z_int ?z_isinstance ?z_len ?z_list ?z_max ?z_min ?z_range ?z_reversed ?z_sorted ?z_str ?z_sum ?z_tuple ?z_zip
    (case ac_Pipe => k_is)
    (case a0 => k_is)
    (case l0 => k_is)
    (case e0 => k_is)
    (case k0 => k_is)
    (case a1 => k_is)
    (case l1 => k_is)
    (case e1 => k_is)
    (case k1 => k_is)
    (case a2 => k_is)
    (case l2 => k_is)
    (case e2 => k_is)
    (case k2 => k_is)
    (case a3 => k_is)
    (case l3 => k_is)
    (case e3 => k_is)
    (case k3 => k_is)
    (case a4 => k_is)
    (case l4 => k_is)
    (case e4 => k_is)
    (case k4 => k_is)
    (case a5 => k_is)
    (case i5 => k_is)
    (case l5 => k_is)
    (case e5 => k_is)
    (case k5 => k_is)
    (case a6 => k_is)
    (case l6 => k_is)
    (case e6 => k_is)
    (case k6 => k_is)
    (case a7 => k_is)
    (case l7 => k_is)
    (case e7 => k_is)
    (case k7 => k_is)
    (case a8 => k_is)
    (case l8 => k_is)
    (case e8 => k_is)
    (case k8 => k_is)
    (case a9 => k_is)
    (case l9 => k_is)
    (case e9 => k_is)
    (case k9 => k_is)
    (case a10 => k_is)
    (case l10 => k_is)
    (case e10 => k_is)
    (case k10 => k_is)
    (case a11 => k_is)
    (case l11 => k_is)
    (case e11 => k_is)
    (case k11 => k_is)
    (case a12 => k_is)
    (case l12 => k_is)
    (case e12 => k_is)
    (case k12 => k_is)
    (case a13 => k_is)
    (case l13 => k_is)
    (case e13 => k_is)
    (case k13 => k_is)
    (case a14 => k_is)
    (case l14 => k_is)
    (case e14 => k_is)
    (case k14 => k_is)
    (case a15 => k_is)
    (case l15 => k_is)
    (case e15 => k_is)
    (case k15 => k_is)
    (case a16 => k_is)
    (case l16 => k_is)
    (case e16 => k_is)
    (case k16 => k_is)
    (case a17 => k_is)
    (case l17 => k_is)
    (case e17 => k_is)
    (case k17 => k_is)
    (case a18 => k_is)
    (case l18 => k_is)
    (case e18 => k_is)
    (case k18 => k_is)
    (case a19 => k_is)
    (case l19 => k_is)
    (case e19 => k_is)
    (case k19 => k_is)
    (case a20 => k_is)
    (case l20 => k_is)
    (case e20 => k_is)
    (case k20 => k_is)
    (case a21 => k_is)
    (case l21 => k_is)
    (case e21 => k_is)
    (case k21 => k_is)
    (case a22 => k_is)
    (case l22 => k_is)
    (case e22 => k_is)
    (case k22 => k_is)
    (case a23 => k_is)
    (case l23 => k_is)
    (case e23 => k_is)
    (case k23 => k_is)
    (case a24 => k_is)
    (case l24 => k_is)
    (case e24 => k_is)
    (case k24 => k_is)
    (case a25 => k_is)
    (case l25 => k_is)
    (case e25 => k_is)
    (case k25 => k_is)
    (case a26 => k_is)
    (case l26 => k_is)
    (case e26 => k_is)
    (case k26 => k_is)
    (case a27 => k_is)
    (case l27 => k_is)
    (case e27 => k_is)
    (case k27 => k_is)
    (case a28 => k_is)
    (case l28 => k_is)
    (case e28 => k_is)
    (case k28 => k_is)
    (case a29 => k_is)
    (case l29 => k_is)
    (case e29 => k_is)
    (case k29 => k_is)
    (case a30 => k_is)
    (case l30 => k_is)
    (case e30 => k_is)
    (case k30 => k_is)
    (case a31 => k_is)
    (case l31 => k_is)
    (case e31 => k_is)
    (case k31 => k_is)
    (case a32 => k_is)
    (case l32 => k_is)
    (case e32 => k_is)
    (case k32 => k_is)
    (case a33 => k_is)
    (case l33 => k_is)
    (case e33 => k_is)
    (case k33 => k_is)
    (case a34 => k_is)
    (case l34 => k_is)
    (case e34 => k_is)
    (case k34 => k_is)
    (case a35 => k_is)
    (case l35 => k_is)
    (case e35 => k_is)
    (case k35 => k_is)
    (case a36 => k_is)
    (case l36 => k_is)
    (case e36 => k_is)
    (case k36 => k_is)
    (case a37 => k_is)
    (case l37 => k_is)
    (case e37 => k_is)
    (case k37 => k_is)
    (case a38 => k_is)
    (case l38 => k_is)
    (case e38 => k_is)
    (case k38 => k_is)
    (case a39 => k_is)
    (case l39 => k_is)
    (case e39 => k_is)
    (case k39 => k_is)
    (case pg_Pipe => k_is)
    (case hd_Pipe => k_is)
    (case po_Pipe => k_is)
    (case sa_Pipe => k_is)
    (case mk_Pipe => k_is)
    (case kc_Pipe => k_is)
    (case n_Pipe_rooms => k_is)
    (case n_Pipe_table => k_is)
    (case n_Pipe_thick => k_is)
    (case n_Pipe_apart => k_is)
    (case n_Pipe_pig => k_is)
    (case z_abs => k_is)
    (case z_all => k_is)
    (case z_bool => k_is)
    (case z_enumerate => k_is)
    (case z_int => k_is)
    (case z_isinstance => k_is)
    (case z_len => k_is)
    (case z_list => k_is)
    (case z_max => k_is)
    (case z_min => k_is)
    (case z_range => k_is)
    (case z_reversed => k_is)
    (case z_sorted => k_is)
    (case z_str => k_is)
    (case z_sum => k_is)
    (case z_tuple => k_is)
    (case z_zip => k_is)
