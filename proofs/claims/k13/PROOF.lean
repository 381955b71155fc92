import PyProof.Rows.All
import Wide.All
import OpenK.AllK
import Wide.FinOn
import PyProof.EqAt
import PyProof.EqKinds
import PyProof.TupleCall
import Lean
import PySem.Challenge.RW_strongboxes_k13_events_of_weak_boxes_jud
set_option Elab.async false
set_option linter.all false
set_option maxRecDepth 100000
set_option maxHeartbeats 4000000

namespace L2
open PySem PySem.Spec PyProof.Rows
noncomputable abbrev Key := Sum Int Str
noncomputable def keyIs : Key → Value → Bool
  | .inl k, v => Value.isInt k v
  | .inr x, v => Value.isStrOf x v
noncomputable def keyH (w : World) : Key → Int
  | .inl k => hashInt k
  | .inr x => hashStr w x
theorem keyIs_shape : ∀ {k : Key} {v : Value}, keyIs k v = true → (∃ i t, k = Sum.inl i ∧ v = Value.int i t) ∨ (∃ x t, k = Sum.inr x ∧ v = Value.str x t)
  | .inl i, v, h => by
    obtain ⟨t, e⟩ := Value.isInt_shape (k := i) (v := v) h
    exact .inl ⟨i, t, rfl, e⟩
  | .inr x, v, h => by
    obtain ⟨t, e⟩ := Value.isStrOf_shape (x := x) (v := v) h
    exact .inr ⟨x, t, rfl, e⟩
theorem keyIs_int (i : Int) (t : Tok) : keyIs (.inl i) (.int i t) = true := by simp [keyIs, Value.isInt]
theorem keyIs_str (x : Str) (t : Tok) : keyIs (.inr x) (.str x t) = true := by simp [keyIs, Value.isStrOf]
theorem key_ll (a b : Int) : decide ((Sum.inl a : Key) = Sum.inl b) = (a == b) := by
  by_cases e : a = b
  · subst e; simp
  · have h : ¬ (Sum.inl a : Key) = Sum.inl b := fun q => e (Sum.inl.inj q)
    rw [decide_eq_false h]
    exact (beq_eq_false_iff_ne.mpr e).symm
theorem key_rr (a b : Str) : decide ((Sum.inr a : Key) = Sum.inr b) = decide (a = b) := by
  by_cases e : a = b
  · subst e; simp
  · have h : ¬ (Sum.inr a : Key) = Sum.inr b := fun q => e (Sum.inr.inj q)
    rw [decide_eq_false h, decide_eq_false e]
theorem key_lr (a : Int) (b : Str) : decide ((Sum.inl a : Key) = Sum.inr b) = false := decide_eq_false (fun q => nomatch q)
theorem key_rl (a : Str) (b : Int) : decide ((Sum.inr a : Key) = Sum.inl b) = false := decide_eq_false (fun q => nomatch q)
noncomputable def mixKind (prog : Program) (w : World) : PySem.KeyKind prog w Key where
  is := keyIs
  hash := keyH w
  inj := fun v a b ha hb => by
    rcases keyIs_shape ha with ⟨i, t, rfl, rfl⟩ | ⟨x, t, rfl, rfl⟩
    · rcases keyIs_shape hb with ⟨j, u, rfl, e⟩ | ⟨y, u, rfl, e⟩
      · injection e with e1 _; rw [e1]
      · exact nomatch e
    · rcases keyIs_shape hb with ⟨j, u, rfl, e⟩ | ⟨y, u, rfl, e⟩
      · exact nomatch e
      · injection e with e1 _; rw [e1]
  byValue := fun k v h => by
    rcases keyIs_shape h with ⟨i, t, rfl, rfl⟩ | ⟨x, t, rfl, rfl⟩ <;> rfl
  pyHash := fun hv h => by
    rcases keyIs_shape hv with ⟨i, t, rfl, rfl⟩ | ⟨x, t, rfl, rfl⟩
    · exact wpAny_pyHash_int h
    · exact wpAny_pyHash_str h
  eqBool := fun hu hv h => by
    rcases keyIs_shape hu with ⟨i, t, rfl, rfl⟩ | ⟨x, t, rfl, rfl⟩
    · rcases keyIs_shape hv with ⟨j, u, rfl, rfl⟩ | ⟨y, u, rfl, rfl⟩
      · rw [key_ll] at h; exact wpAny_eqBool_int h
      · rw [key_lr] at h; exact SeqAt.EqAt.int_str i t y u _ _ _ _ h
    · rcases keyIs_shape hv with ⟨j, u, rfl, rfl⟩ | ⟨y, u, rfl, rfl⟩
      · rw [key_rl] at h; exact SeqAt.EqAt.str_int x t j u _ _ _ _ h
      · rw [key_rr] at h; exact wpAny_eqBool_str h
  «strs» := fun k x t v h => by
    rcases keyIs_shape h with ⟨i, u, rfl, e⟩ | ⟨y, u, rfl, e⟩
    · exact nomatch e
    · injection e with e1 _
      subst e1
      cases v <;> rfl
theorem mixKind_int (prog : Program) (w : World) (i : Int) (t : Tok) : (mixKind prog w).is (.inl i) (.int i t) = true := keyIs_int i t
theorem mixKind_str (prog : Program) (w : World) (x : Str) (t : Tok) : (mixKind prog w).is (.inr x) (.str x t) = true := keyIs_str x t
end L2
namespace L2
open PySem PySem.Spec PyProof.Rows
inductive V where
  | non | bl (b : Bool) | int (i : Int) | str (x : Str) | byt (b : Array UInt8) | flt (b : UInt64) | ref (a : Addr) | ty (n : String)
  deriving DecidableEq
noncomputable def RelV : V → Value → Prop
  | .non, u => u = Value.none
  | .bl b, u => u = Value.bool b
  | .int i, u => ∃ t, u = Value.int i t
  | .str x, u => ∃ t, u = Value.str x t
  | .byt b, u => ∃ t, u = Value.bytes b t
  | .flt b, u => ∃ t, u = Value.float b t
  | .ref a, u => u = Value.ref a
  | .ty n, u => u = Value.type n
noncomputable abbrev Vals : List V → List Value → Prop := Paired RelV
theorem Vals.length {xs : List V} {us : List Value} (r : Vals xs us) : xs.length = us.length := Paired.length r
theorem Vals.get : ∀ {xs : List V} {us : List Value} {i : Nat} {x : V}, Vals xs us → xs[i]? = some x → ∃ u, us[i]? = some u ∧ RelV x u
  | _, _, _, _, .nil, e => by simp at e
  | _, _, 0, _, .cons r _, e => by simp at e; subst e; exact ⟨_, rfl, r⟩
  | _, _, i + 1, x, .cons _ t, e => by
    obtain ⟨u, h1, h2⟩ := Vals.get (i := i) (x := x) t (by simpa using e)
    exact ⟨u, by simpa using h1, h2⟩
theorem Vals.set {x : V} {u : Value} (r : RelV x u) : ∀ {xs : List V} {us : List Value} (i : Nat), Vals xs us → Vals (xs.set i x) (us.set i u)
  | _, _, _, .nil => .nil
  | _, _, 0, .cons _ t => .cons r t
  | _, _, i + 1, .cons q t => .cons q (Vals.set r i t)
theorem Vals.append : ∀ {xs ys : List V} {us ws : List Value}, Vals xs us → Vals ys ws → Vals (xs ++ ys) (us ++ ws)
  | _, _, _, _, .nil, s => s
  | _, _, _, _, .cons r t, s => .cons r (Vals.append t s)
theorem Vals.take : ∀ {xs : List V} {us : List Value} (n : Nat), Vals xs us → Vals (xs.take n) (us.take n)
  | _, _, 0, _ => .nil
  | _, _, _ + 1, .nil => .nil
  | _, _, n + 1, .cons r t => .cons r (Vals.take n t)
theorem Vals.drop : ∀ {xs : List V} {us : List Value} (n : Nat), Vals xs us → Vals (xs.drop n) (us.drop n)
  | _, _, 0, r => r
  | _, _, _ + 1, .nil => .nil
  | _, _, n + 1, .cons _ t => Vals.drop n t
noncomputable def RelO : Option V → Option Value → Prop
  | some v, some u => RelV v u
  | none, none => True
  | _, _ => False
noncomputable def KV {κ : Type} : List (κ × V) → List (κ × Value) → Prop := Paired fun (p : κ × V) (q : κ × Value) => p.1 = q.1 ∧ RelV p.2 q.2
noncomputable def kV : Key → V
  | .inl i => .int i
  | .inr x => .str x
inductive HO where
  | lst (xs : List V)
  | tup (xs : List V)
  | dK (kvs : List (Key × V)) | dT (kvs : List (List Key × V))
  | set (S : Int → Bool) (n : Nat)
  | ins (C dx : Addr) (fs : List (Str × V))
  | own (x : Addr)
  | xd (fs : List (Str × V))
  | met (f x : Addr)
  | rng (lo hi : Int)
  | frz (o : Obj) (u : HO)
  | tbl (ps : Array Value)
  | ext (φ : Heap → Prop)
noncomputable abbrev Hp := Addr → Option HO
noncomputable def upd (H : Hp) (a : Addr) (o : HO) : Hp := fun b => if b = a then some o else H b
theorem upd_same {H : Hp} {a : Addr} {o : HO} : upd H a o a = some o := by unfold upd; rw [if_pos rfl]
theorem upd_ne {H : Hp} {a b : Addr} {o : HO} (h : b ≠ a) : upd H a o b = H b := by unfold upd; rw [if_neg h]
theorem ne_of {H : Hp} {a b : Addr} {o u : HO} (h : H a = some o) (h' : H b = some u) (d : o ≠ u) : a ≠ b := by
  intro e; subst e; rw [h] at h'; exact d (Option.some.inj h')
theorem ne_of_none {H : Hp} {a b : Addr} {o : HO} (h : H a = some o) (h' : H b = none) : a ≠ b := by
  intro e; subst e; rw [h] at h'; cases h'
section
variable (P : Program) (w : World)
noncomputable def ObjOk (H : Hp) (h : Heap) (a : Addr) : HO → Prop
  | .lst xs => xs.length ≤ sizeLine ∧ ∃ (its : List Value) (n : Nat), Vals xs its ∧ h.get? a = some { cls := .type "list", data := .seq its.toArray n }
  | .tup xs => xs.length ≤ sizeLine ∧ ∃ its : List Value, Vals xs its ∧ IsTup h a its.toArray
  | .dK kvs => kvs.length ≤ sizeLine ∧ (a == sysModules) = false ∧ ∃ vs, KV kvs vs ∧ h.DictOf (mixKind P w) a vs
  | .dT kvs => kvs.length ≤ sizeLine ∧ (a == sysModules) = false ∧ ∃ xs : List (List Key × Addr × Value),
      Paired (fun (p : List Key × V) (q : List Key × Addr × Value) => p.1 = q.1 ∧ H q.2.1 = some (.tup (p.1.map kV)) ∧ RelV p.2 q.2.2) kvs xs ∧
      ∃ o es ep, h.get? a = some o ∧ o.ExactDict ∧ o.data = .dict es ep ∧ es.toList = xs.map (entryOfKey (tupleKind (mixKind P w))) ∧ (xs.map (·.1)).Nodup
  | .set S n => h.SetOf (intKind P w) a S n
  | .ins C dx fs => H dx = some (.own a) ∧ fs.length ≤ 1000 ∧ dx ≠ a ∧ h.get? a = some (PySem.W.instObj C dx) ∧
      ∃ mA, h.Ns1 dx mA ∧ (∀ f, RelO (fs.lookup f) (mA f)) ∧ PySem.Within mA (fs.map (·.1))
  | .own _ => ∃ o, h.get? a = some o
  | .xd fs => ∃ mA, h.Ns1 a mA ∧ ∀ f, RelO (fs.lookup f) (mA f)
  | .rng lo hi => ∃ t u v, h.get? a = some { cls := .type "range", data := .fields #[.int lo t, .int hi u, .int 1 v] }
  | .frz o u => h.get? a = some o ∧ ObjOk H h a u
  | .tbl ps => h.get? a = some { cls := .none, data := .fields ps }
  | .met f x => h.get? a = some (PySem.W.methodObj (.ref f) (.ref x))
  | .ext φ => φ h ∧ (∃ o, h.get? a = some o) ∧ ∀ h1 h2 : Heap, φ h1 → (∀ o, h1.get? a = some o → h2.get? a = some o) → φ h2
noncomputable def HOk (H : Hp) (h : Heap) : Prop := ∀ a o, H a = some o → ObjOk P w H h a o
end
section
variable {P : Program} {w : World} {H H' : Hp} {h h' : Heap} {a : Addr} {o : HO}
theorem ObjOk.lt (x : ObjOk P w H h a o) : a < h.objs.size := by
  cases o with
  | lst xs => obtain ⟨_, _, _, _, e⟩ := x; exact Heap.lt_size e
  | tup xs => obtain ⟨_, _, _, p⟩ := x; exact p.lt
  | dK kvs => obtain ⟨_, _, _, _, o, _, _, e, _⟩ := x; exact Heap.lt_size e
  | dT kvs => obtain ⟨_, _, _, _, o, _, _, e, _⟩ := x; exact Heap.lt_size e
  | set S n => obtain ⟨o, _, _, _, e, _⟩ := x; exact Heap.lt_size e
  | ins C dx fs => obtain ⟨_, _, _, e, _⟩ := x; exact Heap.lt_size e
  | own y => obtain ⟨_, e⟩ := x; exact Heap.lt_size e
  | xd fs => obtain ⟨_, ⟨_, _, _, e, _⟩, _⟩ := x; exact Heap.lt_size e
  | rng lo hi => obtain ⟨_, _, _, e⟩ := x; exact Heap.lt_size e
  | frz ob u => obtain ⟨e, _⟩ := x; exact Heap.lt_size e
  | tbl ps => exact Heap.lt_size (show h.get? a = some _ from x)
  | met f y => exact Heap.lt_size (show h.get? a = some _ from x)
  | ext φ => obtain ⟨_, ⟨_, e⟩, _⟩ := x; exact Heap.lt_size e
theorem Paired.mapP {α β : Type} {F G : α → β → Prop} : ∀ {l₁ : List α} {l₂ : List β}, Paired F l₁ l₂ → (∀ a b, F a b → G a b) → Paired G l₁ l₂
  | _, _, .nil, _ => .nil
  | _, _, .cons r t, f => .cons (f _ _ r) (Paired.mapP t f)
theorem ObjOk.stay (x : ObjOk P w H h a o) (k : ∀ b u, (b = a ∨ H b = some (.own a)) → h.get? b = some u → h'.get? b = some u)
    (ho : ∀ b, H b = some (.own a) → H' b = some (.own a)) (ht : ∀ b xs, H b = some (.tup xs) → H' b = some (.tup xs)) : ObjOk P w H' h' a o := by
  induction o with
  | lst xs => obtain ⟨z, its, n, r, e⟩ := x; exact ⟨z, its, n, r, k _ _ (.inl rfl) e⟩
  | tup xs => obtain ⟨z, its, r, ob, e, c⟩ := x; exact ⟨z, its, r, ob, k _ _ (.inl rfl) e, c⟩
  | dK kvs => obtain ⟨z, y, vs, r, ob, es, ep, e, c⟩ := x; exact ⟨z, y, vs, r, ob, es, ep, k _ _ (.inl rfl) e, c⟩
  | dT kvs =>
    obtain ⟨z, y, xs, r, ob, es, ep, e, c⟩ := x
    exact ⟨z, y, xs, Paired.mapP r fun p q z => ⟨z.1, ht _ _ z.2.1, z.2.2⟩, ob, es, ep, k _ _ (.inl rfl) e, c⟩
  | set S n => obtain ⟨ob, es, ep, t, e, c⟩ := x; exact ⟨ob, es, ep, t, k _ _ (.inl rfl) e, c⟩
  | ins C dx fs =>
    obtain ⟨d, z, ne, e, mA, ⟨od, es, ep, e2, c⟩, r⟩ := x
    exact ⟨ho _ d, z, ne, k _ _ (.inl rfl) e, mA, ⟨od, es, ep, k _ _ (.inr d) e2, c⟩, r⟩
  | own y => obtain ⟨ob, e⟩ := x; exact ⟨ob, k _ _ (.inl rfl) e⟩
  | xd fs => obtain ⟨mA, ⟨od, es, ep, e, c⟩, r⟩ := x; exact ⟨mA, ⟨od, es, ep, k _ _ (.inl rfl) e, c⟩, r⟩
  | rng lo hi => obtain ⟨t, u, v, e⟩ := x; exact ⟨t, u, v, k _ _ (.inl rfl) e⟩
  | frz ob u ih => obtain ⟨e, q⟩ := x; exact ⟨k _ _ (.inl rfl) e, ih q⟩
  | tbl ps =>
    have e : h.get? a = some { cls := .none, data := .fields ps } := x
    show h'.get? a = some { cls := .none, data := .fields ps }
    exact k a _ (.inl rfl) e
  | met f y =>
    have e : h.get? a = some (PySem.W.methodObj (.ref f) (.ref y)) := x
    show h'.get? a = some (PySem.W.methodObj (.ref f) (.ref y))
    exact k a _ (.inl rfl) e
  | ext φ => obtain ⟨p, ⟨o, e⟩, st⟩ := x; exact ⟨st _ _ p fun o q => k _ _ (.inl rfl) q, ⟨o, k _ _ (.inl rfl) e⟩, st⟩
theorem HOk.lt (x : HOk P w H h) (e : H a = some o) : a < h.objs.size := (x a o e).lt
theorem HOk.fresh (x : HOk P w H h) (e : h.objs.size ≤ a) : H a = none := by
  cases q : H a with
  | none => rfl
  | some u => exact absurd (Nat.lt_of_lt_of_le (x.lt q) e) (Nat.lt_irrefl _)
theorem HOk.kept (x : HOk P w H h) (k : ∀ b u, h.get? b = some u → h'.get? b = some u) : HOk P w H h' := fun a o e =>
  (x a o e).stay (fun b u _ q => k b u q) (fun _ q => q) fun _ _ q => q
theorem HOk.laid (x : HOk P w H h) (k : ∀ b u, h.get? b = some u → h'.get? b = some u) (hp : h.objs.size ≤ a) (new : ObjOk P w (upd H a o) h' a o) : HOk P w (upd H a o) h' := fun b u e => by
  have hn := x.fresh hp
  by_cases hb : b = a
  · subst hb; rw [upd_same] at e; cases e; exact new
  · rw [upd_ne hb] at e
    exact (x b u e).stay (fun c v _ q => k c v q) (fun c q => by rw [upd_ne (ne_of_none q hn)]; exact q) fun c xs q => by rw [upd_ne (ne_of_none q hn)]; exact q
end
noncomputable def Rd (H : Hp) (a : Addr) (u : HO) : Prop := H a = some u ∨ ∃ o, H a = some (.frz o u)
theorem Rd.ok {P : Program} {w : World} {H : Hp} {h : Heap} {a : Addr} {u : HO} (r : Rd H a u) (x : HOk P w H h) : ObjOk P w H h a u := by
  rcases r with r | ⟨o, r⟩
  · exact x a u r
  · obtain ⟨_, q⟩ := x a _ r
    exact q
noncomputable def Mut : Option HO → Prop
  | some (.lst _) => True
  | some (.dK _) => True
  | some (.dT _) => True
  | some (.set _ _) => True
  | some (.ins _ _ _) => True
  | some (.ext _) => True
  | _ => False
section
variable {P : Program} {w : World} {H : Hp} {h h' : Heap} {x e : Addr} {o' : HO}
theorem HOk.write (ok : HOk P w H h) (mu : Mut (H x)) (he : e = x ∨ H e = some (.own x)) (k : ∀ b u, b ≠ e → h.get? b = some u → h'.get? b = some u) (heo : ∃ u, h'.get? e = some u)
    (new : ObjOk P w (upd H x o') h' x o') : HOk P w (upd H x o') h' := fun b u q => by
  have nown : ∀ c y, H c = some (.own y) → c ≠ x := fun c y r z => by subst z; rw [r] at mu; exact mu
  have ntup : ∀ c xs, H c = some (.tup xs) → c ≠ x := fun c xs r z => by subst z; rw [r] at mu; exact mu
  by_cases hb : b = x
  · subst hb; rw [upd_same] at q; cases q; exact new
  · rw [upd_ne hb] at q
    by_cases hbe : b = e
    · have q' : H b = some (.own x) := by
        rcases he with z | z
        · exact absurd (hbe.trans z) hb
        · rw [hbe]; exact z
      rw [q] at q'; cases q'
      obtain ⟨v, hv⟩ := heo
      exact ⟨v, by rw [hbe]; exact hv⟩
    · refine (ok b u q).stay (fun c v hc r => k c v ?_ r) (fun c r => by rw [upd_ne (nown c b r)]; exact r) fun c xs r => by rw [upd_ne (ntup c xs r)]; exact r
      rcases hc with rfl | hc
      · exact hbe
      · rintro rfl
        rcases he with z | z
        · exact nown c b hc z
        · rw [hc] at z; cases z; exact hb rfl
end
structure Un (fs ex : List Addr) (H H' : Hp) (h h' : Heap) : Prop where
  keep : ∀ b o, h.get? b = some o → H b = none → b ∉ fs → b ∉ ex → h'.get? b = some o
  slot : ∀ b o, h.get? b = some o → H b = none → b ∈ fs → b ∉ ex → ∃ sl, h'.get? b = some { o with slots := sl }
  free : ∀ b o, h.get? b = some o → H b = none → b ∉ ex → H' b = none
  there : ∀ b o, h.get? b = some o → b ∉ ex → ∃ o', h'.get? b = some o'
  tups : ∀ b xs, H b = some (.tup xs) → H' b = some (.tup xs)
  frzs : ∀ b o u, H b = some (.frz o u) → H' b = some (.frz o u)
  tbls : ∀ b ps, H b = some (.tbl ps) → ∃ more, H' b = some (.tbl (ps ++ more))
section
variable {fs fs' ex ex' : List Addr} {H H1 H2 : Hp} {h h1 h2 h' : Heap} {a x e : Addr} {o : HO}
theorem Un.any (u : Un fs ex H H1 h h1) {b : Addr} {ob : Obj} (q : h.get? b = some ob) (n : H b = none) (hx : b ∉ ex) : ∃ sl, h1.get? b = some { ob with slots := sl } := by
  by_cases hb : b ∈ fs
  · exact u.slot b ob q n hb hx
  · exact ⟨ob.slots, u.keep b ob q n hb hx⟩
theorem Un.kept (k : ∀ b u, h.get? b = some u → h'.get? b = some u) : Un fs ex H H h h' :=
  ⟨fun b ob q _ _ _ => k b ob q, fun b ob q _ _ _ => ⟨ob.slots, k b ob q⟩, fun _ _ _ n _ => n, fun b ob q _ => ⟨ob, k b ob q⟩, fun _ _ q => q, fun _ _ _ q => q, fun _ ps q => ⟨#[], by rw [q]; simp⟩⟩
theorem Un.refl : Un fs ex H H h h := Un.kept fun _ _ q => q
theorem Un.laid (k : ∀ b u, h.get? b = some u → h'.get? b = some u) (hp : h.objs.size ≤ a) (hn : H a = none) : Un fs ex H (upd H a o) h h' where
  keep := fun b u q _ _ _ => k b u q
  slot := fun b u q _ _ _ => ⟨u.slots, k b u q⟩
  free := fun b u q n _ => by rw [upd_ne (Nat.ne_of_lt (Nat.lt_of_lt_of_le (Heap.lt_size q) hp))]; exact n
  there := fun b u q _ => ⟨u, k b u q⟩
  tups := fun b xs q => by rw [upd_ne (ne_of_none q hn)]; exact q
  frzs := fun b u xs q => by rw [upd_ne (ne_of_none q hn)]; exact q
  tbls := fun b ps q => ⟨#[], by rw [upd_ne (ne_of_none q hn), q]; simp⟩
theorem Un.write (mu : Mut (H x)) (he : e = x ∨ H e = some (.own x)) (k : ∀ b u, b ≠ e → h.get? b = some u → h'.get? b = some u) (heo : ∃ u, h'.get? e = some u) : Un fs ex H (upd H x o) h h' := by
  have hx : ∀ b, H b = none → b ≠ x := fun b n z => by subst z; rw [n] at mu; exact mu
  have hb : ∀ b, H b = none → b ≠ e := fun b n z => by
    subst z
    rcases he with r | r
    · exact hx b n r
    · rw [n] at r; cases r
  have hm : ∀ b u, H b = some u → ¬ Mut (some u) → b ≠ x := fun b u q nm z => by subst z; rw [q] at mu; exact nm mu
  refine ⟨fun b u q n _ _ => k b u (hb b n) q, fun b u q n _ _ => ⟨u.slots, k b u (hb b n) q⟩, fun b u q n _ => by rw [upd_ne (hx b n)]; exact n, fun b u q _ => ?_,
    fun b xs q => by rw [upd_ne (hm b _ q fun z => z)]; exact q, fun b u xs q => by rw [upd_ne (hm b _ q fun z => z)]; exact q, fun b ps q => ⟨#[], by rw [upd_ne (hm b _ q fun z => z), q]; simp⟩⟩
  by_cases hbe : b = e
  · subst hbe; exact heo
  · exact ⟨u, k b u hbe q⟩
end
noncomputable def trk (h : Heap) (H : Hp) : List Addr := (List.range h.objs.size).filter fun a => (H a).isSome
noncomputable def hidT (h : Heap) (H : Hp) : Heap := PySem.W.hideAll h (trk h H)
theorem hidT_size (h : Heap) (H : Hp) : (hidT h H).objs.size = h.objs.size := PySem.W.hideAll_size _ _
theorem hidT_get {h : Heap} {H : Hp} {b : Addr} {o : Obj} (e : h.get? b = some o) (n : H b = none) : (hidT h H).get? b = some o :=
  PySem.W.hideAll_get _ e fun hm => by
    have q : (H b).isSome = true := (List.mem_filter.mp hm).2
    rw [n] at q; simp at q
theorem of_hidT {h : Heap} {H : Hp} {b : Addr} {o : Obj} (e : (hidT h H).get? b = some o) : h.get? b = some o ∧ H b = none := by
  have e' : h.get? b = some o := PySem.W.of_hideAll (trk h H) e
  refine ⟨e', ?_⟩
  cases q : H b with
  | none => rfl
  | some x =>
    have hm : b ∈ trk h H := List.mem_filter.mpr ⟨List.mem_range.mpr (Heap.lt_size e'), by simp [q]⟩
    have z : (hidT h H).get? b = none := PySem.W.hideAll_none (trk h H) hm
    rw [z] at e; cases e
noncomputable def allNews (g h : Heap) (L : Addr) : List (Addr × Obj) := (List.range h.objs.size).filterMap fun a => if a = L ∨ (g.get? a).isSome = true then none else (h.get? a).map fun o => (a, o)
noncomputable def rest (g h : Heap) (L d : Addr) : List (Addr × Obj) := (allNews g h L).filter fun p => decide (p.1 ≠ d)
end L2
namespace L2
open PySem PySem.Spec PyProof.Rows
structure Mod (K : PySem.W.Frag) (mg : Str → Option Value) (base : Heap) : Prop where
  kin : K.In base
  glob : base.Ns mainGlobals mg
  blt : ∃ mb, base.Ns builtinsNs mb ∧ ∀ x : Str, x ≠ "__name__" → mb x = bootBuiltins x
  nolimit : base.NoLimit
structure Cx where
  prog : Program
  w : World
  K : PySem.W.Frag
  mg : Str → Option Value
  base : Heap
  A : Around
  N : List Str
  s₀ : Shared
  H₀ : Hp
  env : Env
  outer : List Env
  stack : List Env
  ex : List Addr
  fn : Str → Bool
  calm : Bool
  pn : List (Addr × Obj)
  xe : Value → Shared → Prop
noncomputable def frs (l : List Env) : List Addr := l.filterMap (·.frame)
noncomputable abbrev Cx.fs (X : Cx) : List Addr := frs X.outer
noncomputable def Vis (sc : Scope) (x : Str) : Prop := sc.names.lookup x = some .local ∨ sc.names.lookup x = some .cell ∨ sc.names.lookup x = some .free
noncomputable def Loc (sc : Scope) (x : Str) : Prop := sc.names.lookup x = some .local ∨ sc.names.lookup x = some .cell
noncomputable def Look (env : Env) (h : Heap) (m : Str → Option Value) (x : Str) (u : Value) : Prop :=
  (env.kindOf x = some .local ∧ m x = some u) ∨ ((env.kindOf x = some .cell ∨ env.kindOf x = some .free) ∧ ∃ c, env.cells.lookup x = some c ∧ h.IsCell c (some u))
structure Cx.Ok (X : Cx) : Prop where
  mod : Mod X.K X.mg X.base
  kind : X.env.scope.kind = .function
  glob : X.env.globals = mainGlobals
  blt : X.env.builtins = builtinsNs
  above : X.s₀.heap.objs.size ≤ X.env.locals
  inj : ∀ x y c, X.env.cells.lookup x = some c → X.env.cells.lookup y = some c → x = y
  has : ∀ x, (X.env.kindOf x = some .cell ∨ X.env.kindOf x = some .free) → ∃ c, X.env.cells.lookup x = some c
  cab : ∀ x c, X.fn x = true → X.env.cells.lookup x = some c → X.s₀.heap.objs.size ≤ c
  hd : X.calm = true → X.A.handled = none
  frames : X.A.frames = some X.stack
  stk : X.stack = X.outer ∨ (X.stack = X.env :: X.outer ∧ X.env.frame = some X.env.locals)
  exf : ∀ b ∈ X.ex, b ≠ X.env.locals ∧ ∀ x c, X.env.cells.lookup x = some c → c ≠ b
  bs : ∀ b o, X.base.get? b = some o → X.s₀.heap.get? b = some o ∧ X.H₀ b = none
  bsz : X.base.objs.size ≤ X.s₀.heap.objs.size
  noex : ∀ b o, X.base.get? b = some o → b ∉ X.ex
  exfs : ∀ b ∈ X.ex, b ∉ X.fs
  funs : X.s₀.heap.FunFrames X.base X.outer
  frf : ∀ b ∈ X.fs, X.H₀ b = none
structure Inv (X : Cx) (pins : List (Addr × Obj)) (σ : List (Option V)) (H : Hp) (s : Shared) : Prop where
  ok : X.Ok
  os : s.os = X.s₀.os
  bare : AllBare s.gens
  base : Un X.fs X.ex X.H₀ H X.s₀.heap s.heap
  loc : ∃ m, s.heap.Ns X.env.locals m ∧ ∀ (i : Nat) (x : Str) (v : V), X.N[i]? = some x → σ[i]? = some (some v) → Vis X.env.scope x → ∃ u, RelV v u ∧ Look X.env s.heap m x u
  cell : ∀ x c, X.env.cells.lookup x = some c → ∃ v, s.heap.IsCell c v
  free : H X.env.locals = none
  freeC : ∀ x c, X.env.cells.lookup x = some c → H c = none
  pin : ∀ p ∈ X.pn ++ pins, s.heap.get? p.1 = some p.2 ∧ H p.1 = none ∧ p.1 ≠ X.env.locals ∧ p.1 ∉ X.fs ∧ ∀ v, p.2.data ≠ .cell v
  hok : HOk X.prog X.w H s.heap
  len : σ.length = X.N.length
section
variable {X : Cx} {pins : List (Addr × Obj)} {σ : List (Option V)} {H H' : Hp} {s : Shared} {h' : Heap}
theorem Cx.Ok.nofr (ok : X.Ok) {b : Addr} {o : Obj} (e : X.base.get? b = some o) : b ∉ X.fs := fun hb => by
  have := (ok.funs.mem hb).1
  rw [e] at this; cases this
theorem Inv.bs (I : Inv X pins σ H s) : ∀ b o, X.base.get? b = some o → s.heap.get? b = some o ∧ H b = none := fun b o e =>
  ⟨I.base.keep b o (I.ok.bs b o e).1 (I.ok.bs b o e).2 (I.ok.nofr e) (I.ok.noex b o e), I.base.free b o (I.ok.bs b o e).1 (I.ok.bs b o e).2 (I.ok.noex b o e)⟩
theorem Inv.bk (I : Inv X pins σ H s) : ∀ b o, X.base.get? b = some o → s.heap.get? b = some o := fun b o e => (I.bs b o e).1
theorem Inv.mod (I : Inv X pins σ H s) : Mod X.K X.mg X.base := I.ok.mod
theorem Inv.kIn (I : Inv X pins σ H s) : X.K.In s.heap := I.ok.mod.kin.keeps I.bk
theorem Inv.fr (I : Inv X pins σ H s) : ∃ m, Fr X.base X.env.locals s.heap m :=
  let ⟨m, hn, _⟩ := I.loc
  ⟨m, hn, I.bk, Nat.le_trans I.ok.bsz I.ok.above⟩
theorem Inv.lt (I : Inv X pins σ H s) : X.env.locals < s.heap.objs.size := let ⟨_, hn, _⟩ := I.loc; hn.lt
theorem Inv.sz (I : Inv X pins σ H s) : X.s₀.heap.objs.size ≤ s.heap.objs.size := Nat.le_trans I.ok.above (Nat.le_of_lt I.lt)
theorem Inv.nofs (I : Inv X pins σ H s) {a : Addr} (h : s.heap.objs.size ≤ a) : a ∉ X.fs := fun hb => by
  obtain ⟨_, o, ho, _⟩ := I.ok.funs.mem hb
  exact absurd (Nat.lt_of_lt_of_le (Heap.lt_size ho) (Nat.le_trans I.sz h)) (Nat.lt_irrefl _)
theorem Inv.cne (I : Inv X pins σ H s) : ∀ x c, X.env.cells.lookup x = some c → c ≠ X.env.locals := fun x c e z => by
  obtain ⟨v, o, ho, hd⟩ := I.cell x c e
  obtain ⟨m, ⟨o', es, ep, ho', hd', _⟩, _⟩ := I.loc
  rw [z, ho'] at ho; cases ho; rw [hd'] at hd; cases hd
theorem Inv.funs (I : Inv X pins σ H s) : s.heap.FunFrames X.base X.outer := by
  have all : ∀ (l : List Env), (∀ b ∈ frs l, b ∈ X.fs) → X.s₀.heap.FunFrames X.base l → s.heap.FunFrames X.base l := by
    intro l
    induction l with
    | nil => intro _ _; trivial
    | cons env r ih =>
      intro hs hl
      obtain ⟨hk, ⟨L, o, hf, hn, ho, hd⟩, hr⟩ := hl
      have hL : L ∈ X.fs := hs L (by unfold frs; rw [List.filterMap_cons, hf]; exact List.mem_cons_self)
      obtain ⟨sl, e⟩ := I.base.slot L o ho (I.ok.frf L hL) hL fun z => I.ok.exfs L z hL
      exact ⟨hk, ⟨L, _, hf, hn, e, hd⟩, ih (fun b hb => hs b (by unfold frs; rw [List.filterMap_cons, hf]; exact List.mem_cons_of_mem _ hb)) hr⟩
  exact all X.outer (fun _ hb => hb) I.ok.funs
theorem Inv.stack (I : Inv X pins σ H s) : s.heap.FunFrames X.base X.stack := by
  rcases I.ok.stk with e | ⟨e, hf⟩
  · rw [e]; exact I.funs
  · rw [e]
    obtain ⟨m, hn, _⟩ := I.loc
    refine .cons (by rw [I.ok.kind]; decide) hf hn ?_ I.funs
    exact Heap.get?_none_of_le (Nat.le_trans I.ok.bsz I.ok.above)
theorem Inv.stkSub (I : Inv X pins σ H s) : ∀ b ∈ frs X.stack, b ∈ X.env.locals :: X.fs := fun b hb => by
  rcases I.ok.stk with e | ⟨e, hf⟩
  · rw [e] at hb; exact List.mem_cons_of_mem _ hb
  · rw [e] at hb
    unfold frs at hb
    rw [List.filterMap_cons, hf] at hb
    exact hb
theorem Inv.stkFree (I : Inv X pins σ H s) : ∀ b ∈ frs X.stack, H b = none := fun b hb => by
  rcases List.mem_cons.mp (I.stkSub b hb) with e | hb
  · rw [e]; exact I.free
  · obtain ⟨_, o, ho, _⟩ := I.ok.funs.mem hb
    exact I.base.free b o ho (I.ok.frf b hb) fun z => I.ok.exfs b z hb
theorem Inv.step {g' : Array GenState} {t' : Nat} {d' : Drawn} {ch : List Addr} (I : Inv X pins σ H s)
    (hch : ∀ b ∈ ch, (b ∈ X.ex ∨ X.s₀.heap.objs.size ≤ b) ∧ b ≠ X.env.locals ∧ (∀ x c, X.env.cells.lookup x = some c → c ≠ b) ∧ ∀ p ∈ X.pn ++ pins, p.1 ≠ b)
    (keep : ∀ b o, b ≠ X.env.locals → b ∉ X.fs → b ∉ ch → s.heap.get? b = some o → H b = none → h'.get? b = some o)
    (slot : ∀ b o, b ≠ X.env.locals → b ∈ X.fs → b ∉ ch → s.heap.get? b = some o → H b = none → ∃ sl, h'.get? b = some { o with slots := sl }) (free : ∀ b o, b ∉ ch → s.heap.get? b = some o → H b = none → H' b = none)
    (there : ∀ b o, b ∉ ch → s.heap.get? b = some o → ∃ o', h'.get? b = some o')
    (tups : ∀ b xs, H b = some (.tup xs) → H' b = some (.tup xs)) (frzs : ∀ b o u, H b = some (.frz o u) → H' b = some (.frz o u)) (tbls : ∀ b ps, H b = some (.tbl ps) → ∃ more, H' b = some (.tbl (ps ++ more)))
    (ns : ∀ m, s.heap.Ns X.env.locals m → h'.Ns X.env.locals m) (hok : HOk X.prog X.w H' h') (hg : AllBare g') :
    Inv X pins σ H' { s with heap := h', gens := g', drawn := d', toks := t' } := by
  have neL : ∀ b o, X.s₀.heap.get? b = some o → b ≠ X.env.locals := fun b o e => Nat.ne_of_lt (Nat.lt_of_lt_of_le (Heap.lt_size e) I.ok.above)
  have neC : ∀ b o, X.s₀.heap.get? b = some o → b ∉ X.ex → b ∉ ch := fun b o e hx hb => by
    rcases (hch b hb).1 with z | z
    · exact hx z
    · exact absurd (Nat.lt_of_lt_of_le (Heap.lt_size e) z) (Nat.lt_irrefl _)
  have cellK : ∀ x c, X.env.cells.lookup x = some c → ∀ v, s.heap.IsCell c v → h'.IsCell c v := fun x c e v ⟨o, ho, hd⟩ => by
    have nch : c ∉ ch := fun z => (hch c z).2.2.1 x c e rfl
    by_cases hc : c ∈ X.fs
    · obtain ⟨sl, q⟩ := slot c o (I.cne x c e) hc nch ho (I.freeC x c e)
      exact ⟨_, q, hd⟩
    · exact ⟨o, keep c o (I.cne x c e) hc nch ho (I.freeC x c e), hd⟩
  refine ⟨I.ok, I.os, hg, ⟨fun b o e n hb hx => ?_, fun b o e n hb hx => ?_, fun b o e n hx => ?_, fun b o e hx => ?_, fun b xs e => tups b xs (I.base.tups b xs e), fun b o xs e => frzs b o xs (I.base.frzs b o xs e), fun b ps e => ?_⟩, ?_, fun x c e => ?_, ?_, fun x c e => ?_, fun p hp => ?_, hok, I.len⟩
  · exact keep b o (neL b o e) hb (neC b o e hx) (I.base.keep b o e n hb hx) (I.base.free b o e n hx)
  · obtain ⟨sl, e1⟩ := I.base.slot b o e n hb hx
    obtain ⟨sl', e2⟩ := slot b _ (neL b o e) hb (neC b o e hx) e1 (I.base.free b o e n hx)
    exact ⟨sl', e2⟩
  · obtain ⟨o', e1⟩ := I.base.there b o e hx
    exact free b o' (neC b o e hx) e1 (I.base.free b o e n hx)
  · obtain ⟨o', e1⟩ := I.base.there b o e hx
    exact there b o' (neC b o e hx) e1
  · obtain ⟨m1, e1⟩ := I.base.tbls b ps e
    obtain ⟨m2, e2⟩ := tbls b _ e1
    exact ⟨m1 ++ m2, by rw [e2, Array.append_assoc]⟩
  · obtain ⟨m, hn, hl⟩ := I.loc
    refine ⟨m, ns m hn, fun i x v e1 e2 e3 => ?_⟩
    obtain ⟨u, r, l⟩ := hl i x v e1 e2 e3
    refine ⟨u, r, ?_⟩
    rcases l with l | ⟨k, c, e, z⟩
    · exact .inl l
    · exact .inr ⟨k, c, e, cellK x c e _ z⟩
  · obtain ⟨v, z⟩ := I.cell x c e
    exact ⟨v, cellK x c e v z⟩
  · obtain ⟨m, ⟨o, _, _, ho, _⟩, _⟩ := I.loc
    exact free _ o (fun z => (hch _ z).2.1 rfl) ho I.free
  · obtain ⟨v, o, ho, hd⟩ := I.cell x c e
    exact free c o (fun z => (hch c z).2.2.1 x c e rfl) ho (I.freeC x c e)
  · obtain ⟨e, n, ne, nf, d⟩ := I.pin p hp
    have nch : p.1 ∉ ch := fun z => (hch p.1 z).2.2.2 p hp rfl
    exact ⟨keep p.1 p.2 ne nf nch e n, free p.1 p.2 nch e n, ne, nf, d⟩
theorem Inv.un {t' : Nat} (I : Inv X pins σ H s) (u : Un X.fs [] H H' s.heap h') (hok : HOk X.prog X.w H' h') : Inv X pins σ H' { s with heap := h', toks := t' } := by
  obtain ⟨m, ⟨o, es, ep, ho, r⟩, _⟩ := id I.loc
  obtain ⟨sl, hL⟩ := u.any ho I.free (by simp)
  exact I.step (g' := s.gens) (d' := s.drawn) (ch := []) (fun _ z => nomatch z) (fun b o _ hb _ e n => u.keep b o e n hb (by simp)) (fun b o _ hb _ e n => u.slot b o e n hb (by simp)) (fun b o _ e n => u.free b o e n (by simp)) (fun b o _ e => u.there b o e (by simp)) u.tups u.frzs u.tbls (fun m' hm => by
    obtain ⟨o', es', ep', ho', r'⟩ := hm
    rw [ho] at ho'; cases ho'
    exact ⟨_, es', ep', hL, r'⟩) hok I.bare
theorem Inv.call {g' : Array GenState} {t' : Nat} {d' : Drawn} {ch : List Addr} (I : Inv X pins σ H s) (u : Un (frs X.stack) ch H H' s.heap h') (hok : HOk X.prog X.w H' h') (hg : AllBare g')
    (hch : ∀ b ∈ ch, (b ∈ X.ex ∨ X.s₀.heap.objs.size ≤ b) ∧ b ≠ X.env.locals ∧ (∀ x c, X.env.cells.lookup x = some c → c ≠ b) ∧ ∀ p ∈ X.pn ++ pins, p.1 ≠ b) :
    Inv X pins σ H' { s with heap := h', gens := g', drawn := d', toks := t' } := by
  obtain ⟨m, ⟨o, es, ep, ho, r⟩, _⟩ := id I.loc
  obtain ⟨sl, hL⟩ := u.any ho I.free fun z => (hch _ z).2.1 rfl
  exact I.step (ch := ch) hch (fun b o hL hb hc e n => u.keep b o e n (fun z => (List.mem_cons.mp (I.stkSub b z)).elim hL hb) hc) (fun b o _ _ hc e n => u.any e n hc) (fun b o hc e n => u.free b o e n hc) (fun b o hc e => u.there b o e hc) u.tups u.frzs u.tbls (fun m' hm => by
    obtain ⟨o', es', ep', ho', r'⟩ := hm
    rw [ho] at ho'; cases ho'
    exact ⟨_, es', ep', hL, r'⟩) hok hg
theorem Inv.turned {t' : Nat} {it : Addr} (I : Inv X pins σ H s) (k : ∀ b o, b ≠ it → s.heap.get? b = some o → h'.get? b = some o) (hn : H it = none) (hL : it ≠ X.env.locals)
    (h1 : it ∈ X.ex ∨ X.s₀.heap.objs.size ≤ it) (h2 : ∀ x c, X.env.cells.lookup x = some c → c ≠ it) (h3 : ∀ p ∈ X.pn ++ pins, p.1 ≠ it) : Inv X pins σ H { s with heap := h', toks := t' } := by
  have nit : ∀ b u, H b = some u → b ≠ it := fun b u e z => by rw [z, hn] at e; cases e
  refine I.step (g' := s.gens) (d' := s.drawn) (ch := [it]) (fun b hb => ?_) (fun b o _ _ hc e _ => k b o (fun z => hc (by simp [z])) e) (fun b o _ _ hc e _ => ⟨o.slots, k b o (fun z => hc (by simp [z])) e⟩) (fun _ _ _ _ n => n)
    (fun b o hc e => ⟨o, k b o (fun z => hc (by simp [z])) e⟩) (fun _ _ e => e) (fun _ _ _ e => e) (fun b ps e => ⟨#[], by rw [e]; simp⟩) (fun m hm => ?_) (fun b u e => ?_) I.bare
  · have e : b = it := by simpa using hb
    subst e
    exact ⟨h1, hL, h2, h3⟩
  · obtain ⟨o, es, ep, ho, r⟩ := hm
    exact ⟨o, es, ep, k _ o (Ne.symm hL) ho, r⟩
  · refine (I.hok b u e).stay (fun c v hc q => k c v ?_ q) (fun _ q => q) fun _ _ q => q
    rcases hc with z | z
    · rw [z]; exact nit b u e
    · exact nit c _ z
theorem Inv.tok (I : Inv X pins σ H s) (t : Nat) : Inv X pins σ H { s with toks := t } := I.un (h' := s.heap) (t' := t) Un.refl I.hok
theorem Inv.kept {t' : Nat} (I : Inv X pins σ H s) (k : ∀ b u, s.heap.get? b = some u → h'.get? b = some u) : Inv X pins σ H { s with heap := h', toks := t' } := I.un (Un.kept k) (I.hok.kept k)
theorem Inv.laid {a : Addr} {o : HO} {t' : Nat} (I : Inv X pins σ H s) (k : ∀ b u, s.heap.get? b = some u → h'.get? b = some u) (hp : s.heap.objs.size ≤ a) (new : ObjOk X.prog X.w (upd H a o) h' a o) :
    Inv X pins σ (upd H a o) { s with heap := h', toks := t' } := I.un (Un.laid k hp (I.hok.fresh hp)) (I.hok.laid k hp new)
theorem Inv.write {x e : Addr} {o : HO} {t' : Nat} (I : Inv X pins σ H s) (mu : Mut (H x)) (he : e = x ∨ H e = some (.own x)) (k : ∀ b u, b ≠ e → s.heap.get? b = some u → h'.get? b = some u) (heo : ∃ u, h'.get? e = some u)
    (new : ObjOk X.prog X.w (upd H x o) h' x o) : Inv X pins σ (upd H x o) { s with heap := h', toks := t' } := I.un (Un.write mu he k heo) (I.hok.write mu he k heo new)
theorem Inv.weak {σ' : List (Option V)} (I : Inv X pins σ H s) (hl : σ'.length = σ.length) (w : ∀ (i : Nat) v, σ'[i]? = some (some v) → σ[i]? = some (some v)) : Inv X pins σ' H s :=
  ⟨I.ok, I.os, I.bare, I.base, let ⟨m, hn, hl'⟩ := I.loc; ⟨m, hn, fun i x v e1 e2 e3 => hl' i x v e1 (w i v e2) e3⟩, I.cell, I.free, I.freeC, I.pin, I.hok, hl.trans I.len⟩
theorem Inv.pins_of {pins' : List (Addr × Obj)} (I : Inv X pins σ H s) (h : ∀ p ∈ pins', s.heap.get? p.1 = some p.2 ∧ H p.1 = none ∧ p.1 ≠ X.env.locals ∧ p.1 ∉ X.fs ∧ ∀ v, p.2.data ≠ .cell v) : Inv X pins' σ H s :=
  ⟨I.ok, I.os, I.bare, I.base, I.loc, I.cell, I.free, I.freeC, fun p hp => (List.mem_append.mp hp).elim (fun z => I.pin p (List.mem_append_left _ z)) (h p), I.hok, I.len⟩
theorem nodup_ix {N : List Str} (hN : N.Nodup) {i j : Nat} {x : Str} (a : N[i]? = some x) (b : N[j]? = some x) : i = j := by
  obtain ⟨h1, e1⟩ := List.getElem?_eq_some_iff.mp a
  obtain ⟨h2, e2⟩ := List.getElem?_eq_some_iff.mp b
  exact (List.getElem_inj hN).mp (e1.trans e2.symm)
theorem store_ok2 {M : Model} {A : Around} {E : Value → Shared → Prop} {i : Nat} {x : Str} {v : V} {u : Value} {Q : Unit → Shared → Prop} (I : Inv X pins σ H s) (hN : X.N.Nodup) (hi : X.N[i]? = some x) (hx : Loc X.env.scope x) (r : RelV v u)
    (h : ∀ s', Inv X pins (σ.set i (some v)) H s' → (∃ a, Heap.SameBut a s.heap s'.heap ∧ (a = X.env.locals ∨ X.env.cells.lookup x = some a)) → Q () s') (hf : X.fn x = true ∨ X.env.scope.names.lookup x = some .local := by first | exact .inl rfl | exact .inr rfl | assumption) : wpAny M A (storeName X.env x u) Q E s := by
  obtain ⟨m, hn, hl⟩ := id I.loc
  have hcls : (X.env.scope.kind == .class || (X.env.scope.kind == .module && X.env.locals != X.env.globals)) = false := by rw [I.ok.kind]; rfl
  have hiσ : i < σ.length := by rw [I.len]; exact (List.getElem?_eq_some_iff.mp hi).1
  have cne := I.cne
  have tracked : ∀ {a : Addr} {h' : Heap}, (∃ o, s.heap.get? a = some o ∧ H a = none) → Heap.SameBut a s.heap h' → HOk X.prog X.w H h' := fun {a h'} ha hs b ob e => by
    obtain ⟨_, _, hfree⟩ := ha
    refine (I.hok b ob e).stay (fun c w' hc q => (hs.2 c ?_).trans q) (fun _ q => q) fun _ _ q => q
    rintro rfl
    rcases hc with rfl | hc
    · rw [hfree] at e; cases e
    · rw [hfree] at hc; cases hc
  rcases hx with hk | hk
  · refine wpAny_storeName_local hk hn (fun h' hn' hs => ?_) hcls
    obtain ⟨oL, _, _, hoL, _⟩ := id hn
    refine h _ ⟨I.ok, I.os, I.bare, ⟨fun b o e n hb hx => ?_, fun b o e n hb hx => ?_, I.base.free, fun b o e hx => ?_, I.base.tups, I.base.frzs, I.base.tbls⟩, ⟨_, hn', fun j y v' e1 e2 e3 => ?_⟩, fun y c e => ?_, I.free, I.freeC, fun p hp => ?_, tracked ⟨oL, hoL, I.free⟩ hs, by simpa using I.len⟩ ⟨_, hs, .inl rfl⟩
    · exact (hs.2 b (Nat.ne_of_lt (Nat.lt_of_lt_of_le (Heap.lt_size e) I.ok.above))).trans (I.base.keep b o e n hb hx)
    · obtain ⟨sl, e1⟩ := I.base.slot b o e n hb hx
      exact ⟨sl, (hs.2 b (Nat.ne_of_lt (Nat.lt_of_lt_of_le (Heap.lt_size e) I.ok.above))).trans e1⟩
    · obtain ⟨o', e1⟩ := I.base.there b o e hx
      exact ⟨o', (hs.2 b (Nat.ne_of_lt (Nat.lt_of_lt_of_le (Heap.lt_size e) I.ok.above))).trans e1⟩
    · by_cases hj : j = i
      · subst hj
        rw [hi] at e1; cases e1
        rw [List.getElem?_set_self hiσ] at e2
        cases e2
        exact ⟨u, r, .inl ⟨hk, by simp⟩⟩
      · rw [List.getElem?_set_ne (Ne.symm hj)] at e2
        obtain ⟨u', r', q⟩ := hl j y v' e1 e2 e3
        refine ⟨u', r', ?_⟩
        rcases q with ⟨k, e⟩ | ⟨k, c, e, z⟩
        · refine .inl ⟨k, ?_⟩
          have : y ≠ x := fun e => hj (nodup_ix hN e1 (e ▸ hi))
          simp [this, e]
        · exact .inr ⟨k, c, e, z.sameBut hs (cne y c e)⟩
    · obtain ⟨w', z⟩ := I.cell y c e
      exact ⟨w', z.sameBut hs (cne y c e)⟩
    · obtain ⟨e, n, ne, nf, d⟩ := I.pin p hp
      exact ⟨(hs.2 p.1 ne).trans e, n, ne, nf, d⟩
  · have hfn : X.fn x = true := by
      rcases hf with z | z
      · exact z
      · rw [z] at hk; cases hk
    obtain ⟨c, hc⟩ := I.ok.has x (.inl hk)
    obtain ⟨w', z⟩ := I.cell x c hc
    refine wpAny_storeName_cell I.ok.kind hk hc z (fun h' hc' hs => ?_)
    obtain ⟨oc, hoc, hocd⟩ := id z
    refine h { s with heap := h' } ⟨I.ok, I.os, I.bare, ⟨fun b o e n hb hx => ?_, fun b o e n hb hx => ?_, I.base.free, fun b o e hx => ?_, I.base.tups, I.base.frzs, I.base.tbls⟩, ⟨m, hn.sameBut hs (Ne.symm (cne x c hc)), fun j y v' e1 e2 e3 => ?_⟩, fun y c' e => ?_, I.free, I.freeC, fun p hp => ?_, tracked ⟨oc, hoc, I.freeC x c hc⟩ hs, by simpa using I.len⟩ ⟨c, hs, .inr hc⟩
    · exact (hs.2 b (Nat.ne_of_lt (Nat.lt_of_lt_of_le (Heap.lt_size e) (I.ok.cab x c hfn hc)))).trans (I.base.keep b o e n hb hx)
    · obtain ⟨sl, e1⟩ := I.base.slot b o e n hb hx
      exact ⟨sl, (hs.2 b (Nat.ne_of_lt (Nat.lt_of_lt_of_le (Heap.lt_size e) (I.ok.cab x c hfn hc)))).trans e1⟩
    · obtain ⟨o', e1⟩ := I.base.there b o e hx
      exact ⟨o', (hs.2 b (Nat.ne_of_lt (Nat.lt_of_lt_of_le (Heap.lt_size e) (I.ok.cab x c hfn hc)))).trans e1⟩
    · by_cases hj : j = i
      · subst hj
        rw [hi] at e1; cases e1
        rw [List.getElem?_set_self hiσ] at e2
        cases e2
        exact ⟨u, r, .inr ⟨.inl hk, c, hc, hc'⟩⟩
      · rw [List.getElem?_set_ne (Ne.symm hj)] at e2
        obtain ⟨u', r', q⟩ := hl j y v' e1 e2 e3
        refine ⟨u', r', ?_⟩
        rcases q with q | ⟨k, c', e, z'⟩
        · exact .inl q
        · refine .inr ⟨k, c', e, z'.sameBut hs ?_⟩
          rintro rfl
          exact hj (nodup_ix hN e1 (I.ok.inj _ _ _ e hc ▸ hi))
    · by_cases hcc : c' = c
      · subst hcc; exact ⟨_, hc'⟩
      · obtain ⟨w2, z2⟩ := I.cell y c' e
        exact ⟨w2, z2.sameBut hs hcc⟩
    · obtain ⟨e, n, ne, nf, d⟩ := I.pin p hp
      refine ⟨(hs.2 p.1 ?_).trans e, n, ne, nf, d⟩
      intro q
      rw [q, hoc] at e
      have q' : oc = p.2 := Option.some.inj e
      exact d w' (by rw [← q']; exact hocd)
theorem store_ok {M : Model} {A : Around} {E : Value → Shared → Prop} {i : Nat} {x : Str} {v : V} {u : Value} {Q : Unit → Shared → Prop} (I : Inv X pins σ H s) (hN : X.N.Nodup) (hi : X.N[i]? = some x) (hx : Loc X.env.scope x) (r : RelV v u)
    (h : ∀ s', Inv X pins (σ.set i (some v)) H s' → Q () s') (hf : X.fn x = true ∨ X.env.scope.names.lookup x = some .local := by first | exact .inl rfl | exact .inr rfl | assumption) : wpAny M A (storeName X.env x u) Q E s :=
  store_ok2 I hN hi hx r (fun s' I' _ => h s' I') hf
theorem Inv.call' {s' : Shared} {ch : List Addr} (I : Inv X pins σ H s) (ho : s'.os = s.os) (u : Un (frs X.stack) ch H H' s.heap s'.heap) (hok : HOk X.prog X.w H' s'.heap) (hg : AllBare s'.gens)
    (hch : ∀ b ∈ ch, (b ∈ X.ex ∨ X.s₀.heap.objs.size ≤ b) ∧ b ≠ X.env.locals ∧ (∀ x c, X.env.cells.lookup x = some c → c ≠ b) ∧ ∀ p ∈ X.pn ++ pins, p.1 ≠ b) : Inv X pins σ H' s' := by
  obtain ⟨h', g', d', t', o'⟩ := s'
  have e : o' = s.os := ho
  subst e
  exact I.call (g' := g') (t' := t') (d' := d') u hok hg hch
end
noncomputable abbrev XK := Value → Option Addr → Hp → Prop
noncomputable abbrev St := List (Option V)
noncomputable abbrev VK := V → Hp → Prop
noncomputable abbrev TE := St → Hp → VK → Prop
noncomputable abbrev TT := St → Hp → (Bool → Hp → Prop) → Prop
noncomputable abbrev TA := St → Hp → (List V → Hp → Prop) → Prop
structure Ends where
  nx : St → Hp → Prop
  rt : VK
  bk : St → Hp → Prop := fun _ _ => False
  ct : St → Hp → Prop := fun _ _ => False
noncomputable abbrev TS := Ends → St → Hp → Prop
noncomputable def EP (X : Cx) (pins : List (Addr × Obj)) (σ : St) (Q : VK) (u : Value) (s' : Shared) : Prop := ∃ v H', Inv X pins σ H' s' ∧ RelV v u ∧ Q v H'
noncomputable def TP (X : Cx) (pins : List (Addr × Obj)) (σ : St) (Q : Bool → Hp → Prop) (b : Bool) (s' : Shared) : Prop := ∃ H', Inv X pins σ H' s' ∧ Q b H'
noncomputable def AP (X : Cx) (pins : List (Addr × Obj)) (σ : St) (Q : List V → Hp → Prop) (us : List Value) (s' : Shared) : Prop := ∃ vs H', Inv X pins σ H' s' ∧ Vals vs us ∧ Q vs H'
noncomputable def SP (X : Cx) (pins : List (Addr × Obj)) (D : Ends) (f : Flow) (s' : Shared) : Prop :=
  match f with
  | .next => ∃ σ' H', Inv X pins σ' H' s' ∧ D.nx σ' H'
  | .brk => ∃ σ' H', Inv X pins σ' H' s' ∧ D.bk σ' H'
  | .cont => ∃ σ' H', Inv X pins σ' H' s' ∧ D.ct σ' H'
  | .ret u => ∃ v σ' H', Inv X pins σ' H' s' ∧ RelV v u ∧ D.rt v H'
noncomputable def PE (X : Cx) (e : Expr) (t : TE) : Prop :=
  ∀ (pins : List (Addr × Obj)) (s : Shared) (σ : St) (H : Hp) (Q : VK), Inv X pins σ H s → t σ H Q → wpAny (model X.prog X.w) X.A (eval e X.env) (EP X pins σ Q) X.xe s
noncomputable def PT (X : Cx) (e : Expr) (t : TT) : Prop :=
  ∀ (pins : List (Addr × Obj)) (s : Shared) (σ : St) (H : Hp) (Q : Bool → Hp → Prop), Inv X pins σ H s → t σ H Q → wpAny (model X.prog X.w) X.A (isTrue e X.env (eval e X.env)) (TP X pins σ Q) X.xe s
noncomputable def PW (X : Cx) (e : Expr) (t : TT) : Prop :=
  ∀ (whole : Sem Value) (pins : List (Addr × Obj)) (s : Shared) (σ : St) (H : Hp) (Q : Bool → Hp → Prop), Inv X pins σ H s → t σ H Q → wpAny (model X.prog X.w) X.A (isTrue e X.env whole) (TP X pins σ Q) X.xe s
theorem PW.pt {X : Cx} {e : Expr} {t : TT} (h : PW X e t) : PT X e t := h _
noncomputable def PA (X : Cx) (es : List Expr) (t : TA) : Prop :=
  ∀ (pos : Pos) (pins : List (Addr × Obj)) (s : Shared) (σ : St) (H : Hp) (Q : List V → Hp → Prop), Inv X pins σ H s → t σ H Q → wpAny (model X.prog X.w) X.A (spliced (backTo pos (starEach es X.env))) (AP X pins σ Q) X.xe s
noncomputable def PS (X : Cx) (st : Stmt) (t : TS) : Prop :=
  ∀ (pins : List (Addr × Obj)) (s : Shared) (σ : St) (H : Hp) (D : Ends), Inv X pins σ H s → t D σ H → wpAny (model X.prog X.w) X.A (exec st X.env) (SP X pins D) X.xe s
noncomputable def PSs (X : Cx) (st : List Stmt) (t : TS) : Prop :=
  ∀ (pins : List (Addr × Obj)) (s : Shared) (σ : St) (H : Hp) (D : Ends), Inv X pins σ H s → t D σ H → wpAny (model X.prog X.w) X.A (execs st X.env) (SP X pins D) X.xe s
theorem thn {α : Type} {t : Sem α} {Q Q' : α → Shared → Prop} {M : Model} {A : Around} {E : Value → Shared → Prop} {s : Shared} (h : wpAny M A t Q E s) (hQ : ∀ a s, Q a s → Q' a s) : wpAny M A t Q' E s := wpAny_mono h hQ fun _ _ x => x
end L2
namespace L2
open PySem PySem.Spec PyProof.Rows
section
variable {X : Cx}
noncomputable def tVar (i : Nat) : TE := fun σ H Q => ∃ v, σ[i]? = some (some v) ∧ Q v H
noncomputable def tC (v : V) : TE := fun _ H Q => Q v H
theorem pe_var {i : Nat} {x : Str} {pos : Pos} (hN : X.N[i]? = some x) (hv : Vis X.env.scope x) (hd : (x == ("__debug__" : Str)) = false := by decide) (hcd : (x == ("__classdict__" : Str)) = false := by decide) : PE X (.Name x pos) (tVar i) := by
  intro pins s σ H Q I h
  obtain ⟨v, e, h⟩ := h
  obtain ⟨m, hn, hl⟩ := I.loc
  obtain ⟨u, r, l⟩ := hl i x v hN e hv
  have fin : EP X pins σ Q u s := ⟨v, H, I, r, h⟩
  rcases l with ⟨hk, hm⟩ | ⟨hk, c, hc, hcell⟩
  · exact wpAny_Name (wpAny_loadName_local I.ok.kind hk hn hm fin) hd
  · rcases hk with hk | hk
    · exact wpAny_Name (wpAny_loadName_cell I.ok.kind hk hc hcell fin) hd
    · exact wpAny_Name (wpAny_loadName_free I.ok.kind hk hc hcell fin hcd) hd
theorem pe_int {i j pos} : PE X (.Constant (.int i) j pos) (tC (.int i)) := fun _ _ _ H _ I h => wpAny_Constant_int ⟨.int i, H, I.tok _, ⟨_, rfl⟩, h⟩
theorem pe_bl {b j pos} : PE X (.Constant (.bool b) j pos) (tC (.bl b)) := fun _ _ _ H _ I h => Constant_bool ⟨.bl b, H, I, rfl, h⟩
theorem pe_non {j pos} : PE X (.Constant .none j pos) (tC .non) := fun _ _ _ H _ I h => Constant_none ⟨.non, H, I, rfl, h⟩
theorem pe_str {x j pos} : PE X (.Constant (.str x) j pos) (tC (.str x)) := fun _ _ _ H _ I h => Calls.Constant_str ⟨.str x, H, I.tok _, ⟨_, rfl⟩, h⟩
noncomputable def Gl (X : Cx) (x : Str) : Prop := X.env.kindOf x = some .globalImplicit
theorem ld_glob {E : Value → Shared → Prop} {pins : List (Addr × Obj)} {s : Shared} {σ : St} {H : Hp} {x : Str} {u : Value} {pos : Pos} {Q : Value → Shared → Prop} (I : Inv X pins σ H s) (hg : Gl X x) (hm : X.mg x = some u) (h : Q u s)
    (hd : (x == ("__debug__" : Str)) = false := by decide) : wpAny (model X.prog X.w) X.A (eval (.Name x pos) X.env) Q E s :=
  Calls.Name_function_global I.ok.kind hg (Calls.loadGlobal_global (by rw [I.ok.glob]; exact I.mod.glob.keeps I.bk) hm h) hd
theorem ld_blt {E : Value → Shared → Prop} {pins : List (Addr × Obj)} {s : Shared} {σ : St} {H : Hp} {x : Str} {u : Value} {pos : Pos} {Q : Value → Shared → Prop} (I : Inv X pins σ H s) (hg : Gl X x) (hm : X.mg x = none) (hv : bootBuiltins x = some u) (h : Q u s)
    (hn : x ≠ "__name__" := by decide) (hd : (x == ("__debug__" : Str)) = false := by decide) : wpAny (model X.prog X.w) X.A (eval (.Name x pos) X.env) Q E s := by
  obtain ⟨mb, h1, h2⟩ := I.mod.blt
  exact Calls.Name_function_global I.ok.kind hg (Calls.loadGlobal_builtin (by rw [I.ok.glob]; exact I.mod.glob.keeps I.bk) hm (by rw [I.ok.blt]; exact h1.keeps I.bk) ((h2 x hn).trans hv) h) hd
theorem pe_glob {x : Str} {v : V} {u : Value} {pos : Pos} (hg : Gl X x) (hm : X.mg x = some u) (r : RelV v u) (hd : (x == ("__debug__" : Str)) = false := by decide) : PE X (.Name x pos) (tC v) :=
  fun _ _ _ H _ I h => ld_glob I hg hm ⟨v, H, I, r, h⟩ hd
theorem pe_bltn {x : Str} {v : V} {u : Value} {pos : Pos} (hg : Gl X x) (hm : X.mg x = none) (hv : bootBuiltins x = some u) (r : RelV v u) (hn : x ≠ "__name__" := by decide) (hd : (x == ("__debug__" : Str)) = false := by decide) : PE X (.Name x pos) (tC v) :=
  fun _ _ _ H _ I h => ld_blt I hg hm hv ⟨v, H, I, r, h⟩ hn hd
variable {a b : Expr} {ta tb : TE} {pos : Pos}
noncomputable def PC (X : Cx) (op : CmpOp) (a b : Expr) (t : TE) : Prop :=
  ∀ (pins : List (Addr × Obj)) (s : Shared) (σ : St) (H : Hp) (Q : VK), Inv X pins σ H s → t σ H Q →
    wpAny (model X.prog X.w) X.A (eval a X.env) (fun v s₁ => wpAny (model X.prog X.w) X.A (eval b X.env) (fun u s₂ => wpAny (model X.prog X.w) X.A (compareOp op v u) (EP X pins σ Q) X.xe s₂) X.xe s₁) X.xe s
noncomputable def tB (t : TE) : TT := fun σ H Q => t σ H fun x H1 => ∃ c, x = .bl c ∧ Q c H1
theorem pe_cmp {op : CmpOp} {t : TE} (h : PC X op a b t) (h1 : behindInMarks op b = false := by first | exact nobehind _ (by decide) (by decide) | rfl) : PE X (.Compare a [op] [b] pos) t := fun pins s σ H Q I hw => wpAny_Compare1 (h pins s σ H Q I hw) h1
theorem pt_val {e : Expr} {t : TE} (h : PE X e t) (he : ∀ whole, isTrue e X.env whole = (do let v ← whole; standAt e.pos; holding [v] (truthy v)) := by intro _; rfl) : PT X e (tB t) := by
  intro pins s σ H Q I hw
  refine isTrue_plain (thn (h pins s σ H _ I hw) fun v s1 ⟨x, H1, I1, r1, q1⟩ => ?_) (he _)
  obtain ⟨d, rfl, q⟩ := q1
  cases r1
  exact wpAny_truthy_bool ⟨H1, I1, q⟩
variable {tA tB' : TT} {rest : List Expr}
noncomputable def tAnd (t u : TT) : TT := fun σ H Q => t σ H fun c H1 => if c = true then u σ H1 Q else Q false H1
noncomputable def tOr (t u : TT) : TT := fun σ H Q => t σ H fun c H1 => if c = true then Q true H1 else u σ H1 Q
noncomputable def tNot (t : TT) : TT := fun σ H Q => t σ H fun c H1 => Q (!c) H1
theorem pw_and1 (ha : PT X a tA) : PW X (.BoolOp .And [a] pos) tA := by
  intro wh pins s σ H Q I h
  refine isTrue_and (thn (ha pins s σ H Q I h) fun c s1 e => ?_)
  cases c with
  | true => exact isTrue_and_nil e
  | false => exact e
theorem pw_or1 (ha : PT X a tA) : PW X (.BoolOp .Or [a] pos) tA := by
  intro wh pins s σ H Q I h
  refine isTrue_or (thn (ha pins s σ H Q I h) fun c s1 e => ?_)
  cases c with
  | false => exact isTrue_or_nil e
  | true => exact e
theorem pw_and (ha : PT X a tA) (hb : PW X (.BoolOp .And (b :: rest) pos) tB') : PW X (.BoolOp .And (a :: b :: rest) pos) (tAnd tA tB') := by
  intro wh pins s σ H Q I h
  refine isTrue_and (thn (ha pins s σ H _ I h) fun c s1 ⟨H1, I1, q1⟩ => ?_)
  cases c with
  | true => exact hb wh pins s1 σ H1 Q I1 q1
  | false => exact ⟨H1, I1, q1⟩
theorem pw_or (ha : PT X a tA) (hb : PW X (.BoolOp .Or (b :: rest) pos) tB') : PW X (.BoolOp .Or (a :: b :: rest) pos) (tOr tA tB') := by
  intro wh pins s σ H Q I h
  refine isTrue_or (thn (ha pins s σ H _ I h) fun c s1 ⟨H1, I1, q1⟩ => ?_)
  cases c with
  | true => exact ⟨H1, I1, q1⟩
  | false => exact hb wh pins s1 σ H1 Q I1 q1
theorem pt_not (ha : PT X a tA) : PT X (.UnaryOp .Not a pos) (tNot tA) := by
  intro pins s σ H Q I h
  exact isTrue_not (ha pins s σ H (fun c H1 => Q (!c) H1) I h)
noncomputable def tAndV (ta tb : TE) : TE := fun σ H Q => ta σ H fun x H1 => ∃ c, x = .bl c ∧ if c = true then tb σ H1 Q else Q (.bl false) H1
noncomputable def tNotV (ta : TE) : TE := fun σ H Q => ta σ H fun x H1 => ∃ c, x = .bl c ∧ Q (.bl (!c)) H1
theorem pe_one {op} {t : TE} (h : PE X a t) : PE X (.BoolOp op [a] pos) t := fun pins s σ H Q I hw => BoolOp_one (h pins s σ H Q I hw)
theorem pe_and (ha : PE X a ta) (hb : PE X (.BoolOp .And (b :: rest) pos) tb) : PE X (.BoolOp .And (a :: b :: rest) pos) (tAndV ta tb) := by
  intro pins s σ H Q I h
  refine BoolOp_and (thn (ha pins s σ H _ I h) fun v s1 ⟨x, H1, I1, r1, q1⟩ => ?_)
  obtain ⟨c, rfl, q1⟩ := q1
  cases r1
  refine wpAny_truthy_bool ?_
  cases c with
  | true => exact hb pins s1 σ H1 Q I1 q1
  | false => exact ⟨.bl false, H1, I1, rfl, q1⟩
theorem pe_not (ha : PE X a ta) : PE X (.UnaryOp .Not a pos) (tNotV ta) := by
  intro pins s σ H Q I h
  refine UnaryOp_ (thn (ha pins s σ H _ I h) fun v s1 ⟨x, H1, I1, r1, q1⟩ => ?_)
  obtain ⟨c, rfl, q1⟩ := q1
  cases r1
  exact not_of (wpAny_truthy_bool ⟨.bl (!c), H1, I1, rfl, q1⟩)
noncomputable def tIf (t : TT) (ta tb : TE) : TE := fun σ H Q => t σ H fun c H1 => if c = true then ta σ H1 Q else tb σ H1 Q
theorem pe_ifExp {c : Expr} (hc : PT X c tA) (ha : PE X a ta) (hb : PE X b tb) : PE X (.IfExp c a b pos) (tIf tA ta tb) := by
  intro pins s σ H Q I h
  refine wpAny_IfExp (thn (hc pins s σ H _ I h) fun d s1 ⟨H1, I1, q1⟩ => ?_)
  cases d with
  | true => exact ha pins s1 σ H1 Q I1 q1
  | false => exact hb pins s1 σ H1 Q I1 q1
end
end L2
namespace L2
open PySem PySem.Spec PyProof.Rows
noncomputable def SqL (K : PySem.W.Frag) (H : Hp) (a : Addr) (xs : List V) : Prop :=
  Rd H a (.lst xs) ∨
    ∃ (o : Obj) (its : Array Value) (n : Nat), K.lookup a = some o ∧ o.cls = .type "list" ∧ o.dict = none ∧ o.data = .seq its n ∧ its.size ≤ sizeLine ∧ Vals xs its.toList
noncomputable def SqT (K : PySem.W.Frag) (H : Hp) (a : Addr) (xs : List V) : Prop :=
  Rd H a (.tup xs) ∨
    ∃ (o : Obj) (its : Array Value) (n : Nat), K.lookup a = some o ∧ o.cls = .type "tuple" ∧ o.data = .seq its n ∧ its.size ≤ sizeLine ∧ Vals xs its.toList
noncomputable def absV : Value → Option V
  | .none => some .non
  | .bool b => some (.bl b)
  | .int i _ => some (.int i)
  | .str x _ => some (.str x)
  | .bytes b _ => some (.byt b)
  | .float b _ => some (.flt b)
  | .ref a => some (.ref a)
  | .type n => some (.ty n)
  | _ => none
theorem RelV.abs {x : V} {u : Value} (r : RelV x u) : absV u = some x := by
  cases x with
  | non => cases r; rfl
  | bl _ => cases r; rfl
  | int _ => obtain ⟨t, rfl⟩ := r; rfl
  | str _ => obtain ⟨t, rfl⟩ := r; rfl
  | byt _ => obtain ⟨t, rfl⟩ := r; rfl
  | flt _ => obtain ⟨t, rfl⟩ := r; rfl
  | ref _ => cases r; rfl
  | ty _ => cases r; rfl
theorem RelV.inj {x y : V} {u : Value} (r : RelV x u) (q : RelV y u) : x = y := Option.some.inj (r.abs.symm.trans q.abs)
theorem Vals.inj : ∀ {xs ys : List V} {us : List Value}, Vals xs us → Vals ys us → xs = ys
  | _, _, _, .nil, .nil => rfl
  | _, _, _, .cons r t, .cons r' t' => by rw [r.inj r', Vals.inj t t']
section
variable {X : Cx} {pins : List (Addr × Obj)} {σ : St} {H : Hp} {s : Shared} {a : Addr} {xs ys : List V}
theorem SqL.of {K : PySem.W.Frag} (h : H a = some (.lst xs)) : SqL K H a xs := .inl (.inl h)
theorem SqT.of {K : PySem.W.Frag} (h : H a = some (.tup xs)) : SqT K H a xs := .inl (.inl h)
theorem Inv.list (I : Inv X pins σ H s) (h : SqL X.K H a xs) : ∃ its : List Value, Vals xs its ∧ PlainL s.heap a its.toArray ∧ xs.length ≤ sizeLine := by
  rcases h with h | ⟨o, its, n, hk, hc, hd, hs, hz, r⟩
  · obtain ⟨z, its, n, r, e⟩ := h.ok I.hok
    exact ⟨its, r, ⟨_, n, e, rfl, rfl, rfl⟩, z⟩
  · refine ⟨its.toList, r, ⟨o, n, I.kIn a o hk, hc, hd, by simpa using hs⟩, ?_⟩
    have e := r.length
    simp only [Array.length_toList] at e
    omega
theorem Inv.tuple (I : Inv X pins σ H s) (h : SqT X.K H a xs) : ∃ its : List Value, Vals xs its ∧ IsTup s.heap a its.toArray ∧ xs.length ≤ sizeLine := by
  rcases h with h | ⟨o, its, n, hk, hc, hs, hz, r⟩
  · obtain ⟨z, its, r, p⟩ := h.ok I.hok
    exact ⟨its, r, p, z⟩
  · refine ⟨its.toList, r, ⟨o, I.kIn a o hk, hc, n, by simpa using hs⟩, ?_⟩
    have e := r.length
    simp only [Array.length_toList] at e
    omega
theorem Inv.list_inj (I : Inv X pins σ H s) (h : SqL X.K H a xs) (h' : SqL X.K H a ys) : xs = ys := by
  obtain ⟨its, r, ⟨o, n, e, _, _, d⟩, _⟩ := I.list h
  obtain ⟨its', r', ⟨o', n', e', _, _, d'⟩, _⟩ := I.list h'
  rw [e] at e'; cases e'
  rw [d] at d'
  injection d' with d1 _
  have : its = its' := by simpa using congrArg Array.toList d1
  subst this
  exact r.inj r'
theorem Inv.tuple_inj (I : Inv X pins σ H s) (h : SqT X.K H a xs) (h' : SqT X.K H a ys) : xs = ys := by
  obtain ⟨its, r, ⟨o, e, _, n, d⟩, _⟩ := I.tuple h
  obtain ⟨its', r', ⟨o', e', _, n', d'⟩, _⟩ := I.tuple h'
  rw [e] at e'; cases e'
  rw [d] at d'
  injection d' with d1 _
  have : its = its' := by simpa using congrArg Array.toList d1
  subst this
  exact r.inj r'
end
noncomputable abbrev Cx.wish (X : Cx) (E : Value → Shared → Prop) : Cx := { X with xe := E }
noncomputable abbrev Cx.nox (X : Cx) : Cx := X.wish fun _ _ => False
theorem Cx.Ok.wish {X : Cx} (ok : X.Ok) (E : Value → Shared → Prop) : (X.wish E).Ok :=
  ⟨ok.mod, ok.kind, ok.glob, ok.blt, ok.above, ok.inj, ok.has, ok.cab, ok.hd, ok.frames, ok.stk, ok.exf, ok.bs, ok.bsz, ok.noex, ok.exfs, ok.funs, ok.frf⟩
theorem Cx.Ok.unwish {X : Cx} {E : Value → Shared → Prop} (ok : (X.wish E).Ok) : X.Ok :=
  ⟨ok.mod, ok.kind, ok.glob, ok.blt, ok.above, ok.inj, ok.has, ok.cab, ok.hd, ok.frames, ok.stk, ok.exf, ok.bs, ok.bsz, ok.noex, ok.exfs, ok.funs, ok.frf⟩
section
variable {X : Cx} {pins : List (Addr × Obj)} {σ : St} {H : Hp} {s : Shared} {E : Value → Shared → Prop}
theorem Inv.wish (I : Inv X pins σ H s) (E : Value → Shared → Prop) : Inv (X.wish E) pins σ H s := ⟨I.ok.wish E, I.os, I.bare, I.base, I.loc, I.cell, I.free, I.freeC, I.pin, I.hok, I.len⟩
theorem Inv.unwish (I : Inv (X.wish E) pins σ H s) : Inv X pins σ H s := ⟨I.ok.unwish, I.os, I.bare, I.base, I.loc, I.cell, I.free, I.freeC, I.pin, I.hok, I.len⟩
theorem SP.unwish {D : Ends} {f : Flow} {s' : Shared} (h : SP (X.wish E) pins D f s') : SP X pins D f s' := by
  cases f with
  | next => obtain ⟨σ', H', I, q⟩ := h; exact ⟨σ', H', I.unwish, q⟩
  | brk => obtain ⟨σ', H', I, q⟩ := h; exact ⟨σ', H', I.unwish, q⟩
  | cont => obtain ⟨σ', H', I, q⟩ := h; exact ⟨σ', H', I.unwish, q⟩
  | ret u => obtain ⟨v, σ', H', I, r, q⟩ := h; exact ⟨v, σ', H', I.unwish, r, q⟩
theorem PSs.nox {st : List Stmt} {t : TS} (h : PSs X.nox st t) : PSs X st t := fun pins s σ H D I hw =>
  wpAny_mono (h pins s σ H D (I.wish _) hw) (fun _ _ q => q.unwish) fun _ _ z => False.elim z
end
section
variable {X : Cx} {st : Stmt} {rest : List Stmt} {t u : TS} {e : Expr} {te : TE} {pos : Pos}
noncomputable def tNext : TS := fun D σ H => D.nx σ H
noncomputable def tSeq (t u : TS) : TS := fun D σ H => t { D with nx := u D } σ H
theorem pss_nil : PSs X [] tNext := fun _ _ σ H _ I h => wpAny_execs_nil ⟨σ, H, I, h⟩
theorem pss_cons (h1 : PS X st t) (h2 : PSs X rest u) : PSs X (st :: rest) (tSeq t u) := by
  intro pins s σ H D I h
  refine wpAny_execs_cons (thn (h1 pins s σ H { D with nx := u D } I h) fun f s1 q => ?_)
  cases f with
  | next =>
    obtain ⟨σ', H', I', q⟩ := q
    exact h2 pins s1 σ' H' D I' q
  | ret v => exact q
  | brk => exact q
  | cont => exact q
theorem pss_one (h1 : PS X st t) : PSs X [st] t := by
  intro pins s σ H D I h
  refine wpAny_execs_cons (thn (h1 pins s σ H D I h) fun f s1 q => ?_)
  cases f with
  | next => exact wpAny_execs_nil q
  | ret v => exact q
  | brk => exact q
  | cont => exact q
theorem Inv.quiet {pins : List (Addr × Obj)} {σ : St} {H : Hp} {s : Shared} (I : Inv X pins σ H s) : interactive X.env = false := by simp [interactive, I.ok.kind]
noncomputable def tDrop (te : TE) : TS := fun D σ H => te σ H fun _ H1 => D.nx σ H1
theorem ps_expr (he : PE X e te) (hs : swapsWith e none pos.line X.env = pure false := by rfl) : PS X (.Expr e pos) (tDrop te) := by
  intro pins s σ H D I h
  exact wpAny_Expr_any (thn (he pins s σ H _ I h) fun v s1 ⟨x, H1, I1, r1, q1⟩ => ⟨σ, H1, I1, q1⟩) I.quiet hs
noncomputable def tRet (te : TE) : TS := fun D σ H => te σ H D.rt
theorem ps_ret (he : PE X e te) : PS X (.Return (some e) pos) (tRet te) := by
  intro pins s σ H D I h
  exact wpAny_Return_some (thn (he pins s σ H _ I h) fun v s1 ⟨x, H1, I1, r1, q1⟩ => ⟨x, σ, H1, I1, r1, q1⟩)
noncomputable def tIfS (c : TT) (t u : TS) : TS := fun D σ H => c σ H fun b H1 => if b = true then t D σ H1 else u D σ H1
theorem ps_if {c : Expr} {a b : List Stmt} {tc : TT} (hc : PT X c tc) (ha : PSs X a t) (hb : PSs X b u) : PS X (.If c a b pos) (tIfS tc t u) := by
  intro pins s σ H D I h
  refine wpAny_If (thn (hc pins s σ H _ I h) fun d s1 ⟨H1, I1, q1⟩ => ?_)
  cases d with
  | true => exact ha pins s1 σ H1 D I1 q1
  | false => exact hb pins s1 σ H1 D I1 q1
noncomputable def tNever : TS := fun _ _ _ => False
theorem ps_never : PS X st tNever := fun _ _ _ _ _ _ h => h.elim
end
noncomputable abbrev TG := V → St → Hp → (St → Hp → Prop) → Prop
noncomputable abbrev TGs := List V → St → Hp → (St → Hp → Prop) → Prop
noncomputable def PG (X : Cx) (target : Expr) (t : TG) : Prop :=
  ∀ (pins : List (Addr × Obj)) (s : Shared) (σ : St) (H : Hp) (v : V) (u : Value) (Q : St → Hp → Prop), Inv X pins σ H s → RelV v u → t v σ H Q →
    wpAny (model X.prog X.w) X.A (assign target X.env u) (fun _ s' => ∃ σ' H', Inv X pins σ' H' s' ∧ Q σ' H') X.xe s
noncomputable def PGs (X : Cx) (ts : List Expr) (t : TGs) : Prop :=
  ∀ (pins : List (Addr × Obj)) (s : Shared) (σ : St) (H : Hp) (vs : List V) (us : List Value) (Q : St → Hp → Prop), Inv X pins σ H s → Vals vs us → t vs σ H Q →
    wpAny (model X.prog X.w) X.A (assignInOrder ((assignEach ts X.env).map (·.2)) us) (fun _ s' => ∃ σ' H', Inv X pins σ' H' s' ∧ Q σ' H') X.xe s
noncomputable abbrev TIp := V → V → Hp → VK → Prop
noncomputable def PIp (X : Cx) (op : Operator) (t : TIp) : Prop :=
  ∀ (pins : List (Addr × Obj)) (s : Shared) (σ : St) (H : Hp) (x y : V) (v u : Value) (Q : VK), Inv X pins σ H s → RelV x v → RelV y u → t x y H Q →
    wpAny (model X.prog X.w) X.A (inplaceOp op v u) (EP X pins σ Q) X.xe s
section
variable {X : Cx} {pos : Pos}
noncomputable def gName (i : Nat) : TG := fun v σ H Q => Q (σ.set i (some v)) H
theorem pg_name {i : Nat} {x : Str} (hN : X.N.Nodup) (hi : X.N[i]? = some x) (hx : Loc X.env.scope x) (hf : X.fn x = true ∨ X.env.scope.names.lookup x = some .local := by first | exact .inl rfl | exact .inr rfl | assumption) : PG X (.Name x pos) (gName i) := by
  intro pins s σ H v u Q I r h
  exact wpAny_assign_Name (store_ok I hN hi hx r (fun s' I' => ⟨_, H, I', h⟩) hf)
noncomputable def gNil : TGs := fun vs σ H Q => vs = [] ∧ Q σ H
noncomputable def gCons (t : TG) (u : TGs) : TGs := fun vs σ H Q => ∃ v r, vs = v :: r ∧ t v σ H fun σ' H' => u r σ' H' Q
theorem pgs_nil : PGs X [] gNil := by
  intro pins s σ H vs us Q I r h
  obtain ⟨e, h⟩ := h
  subst e
  cases r
  exact assignInOrder_nil ⟨σ, H, I, h⟩
theorem pgs_cons {e : Expr} {es : List Expr} {t : TG} {u : TGs} (h1 : PG X e t) (h2 : PGs X es u)
    (hs : (assignEach (e :: es) X.env).map (·.2) = assign e X.env :: (assignEach es X.env).map (·.2) := by rfl) : PGs X (e :: es) (gCons t u) := by
  intro pins s σ H vs us Q I r h
  obtain ⟨v, vr, e1, h⟩ := h
  subst e1
  cases r with
  | cons r rr =>
    rw [hs]
    refine assignInOrder_cons (thn (h1 pins s σ H _ _ _ I r h) fun _ s1 ⟨σ1, H1, I1, q1⟩ => ?_)
    exact h2 pins s1 σ1 H1 _ _ Q I1 rr q1
noncomputable def gTup (K : PySem.W.Frag) (n : Nat) (t : TGs) : TG := fun v σ H Q => ∃ a xs, v = .ref a ∧ SqT K H a xs ∧ xs.length = n ∧ t xs σ H Q
theorem pg_tup {es : List Expr} {k : Nat} {t : TGs} {n : Nat} (hc : X.calm = true) (h : PGs X es t)
    (hn : (assignEach es X.env).length = n := by rfl) (hst : (assignEach es X.env).findIdx? (·.1) = none := by rfl) : PG X (.Tuple es k pos) (gTup X.K n t) := by
  intro pins s σ H v u Q I r hw
  obtain ⟨a, xs, e1, hq, hl, hw⟩ := hw
  subst e1
  cases r
  obtain ⟨its, rv, ht, hz⟩ := I.tuple hq
  refine assign_Tuple_tuple (I.ok.hd hc) ht (by simp [hn, ← hl, rv.length]) hst fun h' hx => ?_
  have I1 : Inv X pins σ H { s with heap := h' } := I.kept (t' := s.toks) fun b o e => hx b o (Nat.ne_of_lt (Heap.lt_size e)) e
  exact h pins _ σ H xs _ Q I1 (by simpa using rv) hw
noncomputable def tAsg (te : TE) (g : TG) : TS := fun D σ H => te σ H fun x H1 => g x σ H1 D.nx
theorem ps_set {i : Nat} {x : Str} {e : Expr} {te : TE} {pos' : Pos} (hN : X.N.Nodup) (hi : X.N[i]? = some x) (hx : Loc X.env.scope x) (he : PE X e te) (hs : swapsWith e (some (.Name x pos')) pos.line X.env = pure false := by rfl) (hf : X.fn x = true ∨ X.env.scope.names.lookup x = some .local := by first | exact .inl rfl | exact .inr rfl | assumption) :
    PS X (.Assign [.Name x pos'] e pos) (tAsg te (gName i)) := by
  intro pins s σ H D I h
  refine wpAny_Assign_Name (thn (he pins s σ H _ I h) fun v s1 ⟨y, H1, I1, r1, q1⟩ => ?_) hs
  exact store_ok I1 hN hi hx r1 (fun s2 I2 => ⟨_, H1, I2, q1⟩) hf
noncomputable def tAug (i : Nat) (te : TE) (ti : TIp) : TS := fun D σ H => ∃ x, σ[i]? = some (some x) ∧ te σ H fun y H1 => ti x y H1 fun z H2 => D.nx (σ.set i (some z)) H2
theorem ps_aug {i : Nat} {x : Str} {e : Expr} {te : TE} {op : Operator} {ti : TIp} {pos' : Pos} (hN : X.N.Nodup) (hi : X.N[i]? = some x) (hx : Loc X.env.scope x) (he : PE X e te) (ho : PIp X op ti) (hf : X.fn x = true ∨ X.env.scope.names.lookup x = some .local := by first | exact .inl rfl | exact .inr rfl | assumption) :
    PS X (.AugAssign (.Name x pos') op e pos) (tAug i te ti) := by
  intro pins s σ H D I h
  obtain ⟨v, e1, h⟩ := h
  obtain ⟨m, hn, hl⟩ := I.loc
  have vis : Vis X.env.scope x := by rcases hx with k | k; exact .inl k; exact .inr (.inl k)
  obtain ⟨u, r, l⟩ := hl i x v hi e1 vis
  refine wpAny_AugAssign_Name ?_
  have go : wpAny (model X.prog X.w) X.A (eval e X.env) (fun w s₂ => wpAny (model X.prog X.w) X.A (inplaceOp op u w) (fun r s₃ => wpAny (model X.prog X.w) X.A (storeName X.env x r) (fun _ => SP X pins D .next) X.xe s₃) X.xe s₂) X.xe s := by
    refine thn (he pins s σ H _ I h) fun w s1 ⟨y, H1, I1, r1, q1⟩ => ?_
    refine thn (ho pins s1 σ H1 v y u w _ I1 r r1 q1) fun z s2 ⟨zv, H2, I2, r2, q2⟩ => ?_
    exact store_ok I2 hN hi hx r2 (fun s3 I3 => ⟨_, H2, I3, q2⟩) hf
  rcases l with ⟨hk, hm⟩ | ⟨hk, c, hc, hcell⟩
  · exact wpAny_loadName_local I.ok.kind hk hn hm go
  · rcases hk with hk | hk
    · exact wpAny_loadName_cell I.ok.kind hk hc hcell go
    · rcases hx with k | k
      · have : X.env.scope.names.lookup x = some .free := hk
        rw [k] at this; cases this
      · have : X.env.scope.names.lookup x = some .free := hk
        rw [k] at this; cases this
noncomputable def ipI (f : Int → Int → Int) : TIp := fun x y H Q => ∃ i j, x = .int i ∧ y = .int j ∧ Q (.int (f i j)) H
theorem ip_add : PIp X .Add (ipI fun i j => i + j) := by
  intro pins s σ H x y v u Q I r1 r2 h
  obtain ⟨i, j, e1, e2, q⟩ := h
  subst e1; subst e2
  obtain ⟨t, rfl⟩ := r1
  obtain ⟨t', rfl⟩ := r2
  exact iadd_int ⟨.int _, H, I.tok _, ⟨_, rfl⟩, q⟩
end
section
variable {X : Cx} {pos : Pos}
noncomputable def tWhile (c : TT) (tb : TS) : TS := fun D σ H => ∃ W : Nat → St → Hp → Prop, (∃ m, W m σ H) ∧ ∀ m σ H, W m σ H →
  c σ H fun b H1 => if b = true then ∃ N : St → Hp → Prop, (∀ σ' H', N σ' H' → ∃ m', m' < m ∧ W m' σ' H') ∧ tb { D with nx := N, ct := N, bk := D.nx } σ H1 else D.nx σ H1
theorem ps_while {c : Expr} {body : List Stmt} {tc : TT} {tb : TS} (hp : PassesOwn (model X.prog X.w) X.A X.env X.xe) (hc : PT X c tc) (hb : PSs X body tb) : PS X (.While c body [] pos) (tWhile tc tb) := by
  intro pins s σ H D I h
  obtain ⟨W, ⟨m0, w0⟩, turn⟩ := h
  refine wpAny_While (codeAny_whileLoop (fun n s' => ∃ σ' H', Inv X pins σ' H' s' ∧ W n σ' H') ?_ m0 ⟨σ, H, I, w0⟩)
  rintro n s1 ⟨σ1, H1, I1, w1⟩
  refine wpAny_passesOwn hp (thn (hc pins s1 σ1 H1 _ I1 (turn n σ1 H1 w1)) fun b s2 ⟨H2, I2, q2⟩ => ?_)
  cases b with
  | true =>
    obtain ⟨N, hN, q2⟩ := q2
    rw [if_pos rfl]
    refine wpAny_passesOwn hp (thn (hb pins s2 σ1 H2 _ I2 q2) fun f s3 q3 => ?_)
    cases f with
    | next =>
      obtain ⟨σ3, H3, I3, n3⟩ := q3
      obtain ⟨m', hm, w3⟩ := hN σ3 H3 n3
      exact ⟨m', hm, σ3, H3, I3, w3⟩
    | cont =>
      obtain ⟨σ3, H3, I3, n3⟩ := q3
      obtain ⟨m', hm, w3⟩ := hN σ3 H3 n3
      exact ⟨m', hm, σ3, H3, I3, w3⟩
    | brk => exact q3
    | ret v => exact q3
  | false =>
    rw [if_neg Bool.false_ne_true]
    exact wpAny_execs_nil ⟨σ1, H2, I2, q2⟩
end
structure It where
  go : Nat → Hp → Prop
  yld : Nat → Hp → V → Hp → Prop
  stop : Nat → Hp → Prop
noncomputable def FpOk (X : Cx) (pins : List (Addr × Obj)) (H : Hp) (b : Addr) : Prop :=
  H b = none ∧ b ≠ X.env.locals ∧ b ∉ X.fs ∧ (b ∈ X.ex ∨ X.s₀.heap.objs.size ≤ b) ∧ (∀ x c, X.env.cells.lookup x = some c → c ≠ b) ∧ ∀ p ∈ X.pn ++ pins, p.1 ≠ b
theorem Inv.fpOk {X : Cx} {pins : List (Addr × Obj)} {σ : St} {H H' : Hp} {s : Shared} {b : Addr} (I : Inv X pins σ H s) (hb : s.heap.objs.size ≤ b) (hn : H' b = none) : FpOk X pins H' b := by
  refine ⟨hn, Nat.ne_of_gt (Nat.lt_of_lt_of_le I.lt hb), I.nofs hb, .inr (Nat.le_trans I.sz hb), fun x c e z => ?_, fun p hp z => ?_⟩
  · obtain ⟨v, q⟩ := I.cell x c e
    exact absurd (Nat.lt_of_lt_of_le q.lt (by rw [z]; exact hb)) (Nat.lt_irrefl _)
  · exact absurd (Nat.lt_of_lt_of_le (Heap.lt_size (I.pin p hp).1) (by rw [z]; exact hb)) (Nat.lt_irrefl _)
structure Turn (P : Program) (w : World) (K : PySem.W.Frag) (tg : Expr) (J : It) (fp : List Addr) (it : Addr) (tn : Nat → Heap → Prop) : Prop where
  mem : it ∈ fp
  obj : ∀ i h, tn i h → ∀ b ∈ fp, ∃ o, h.get? b = some o ∧ ∀ v, o.data ≠ .cell v
  keep : ∀ i h h', tn i h → (∀ b ∈ fp, ∀ o, h.get? b = some o → h'.get? b = some o) → tn i h'
  item : ∀ (X : Cx), X.prog = P → X.w = w → X.K = K → X.calm = true → ∀ (i : Nat) (pins : List (Addr × Obj)) (s : Shared) (σ : St) (H : Hp) (E : Value → Shared → Prop), Inv X pins σ H s → (∀ b ∈ fp, FpOk X pins H b) → tn i s.heap → J.go i H →
    wpAny (model P w) X.A (pyNext (.ref it)) (fun r s1 => ∃ u, r = some u ∧
      wpAny (model P w) X.A (letOwnedTupleGo tg (.ref it) u) (fun _ s2 => ∃ x H', Inv X pins σ H' s2 ∧ RelV x u ∧ J.yld i H x H' ∧ tn (i + 1) s2.heap ∧ ∀ b ∈ fp, H' b = none) E s1) E s
  done : ∀ (X : Cx), X.prog = P → X.w = w → X.K = K → X.calm = true → ∀ (i : Nat) (pins : List (Addr × Obj)) (s : Shared) (σ : St) (H : Hp) (E : Value → Shared → Prop), Inv X pins σ H s → (∀ b ∈ fp, FpOk X pins H b) → tn i s.heap → J.stop i H →
    wpAny (model P w) X.A (pyNext (.ref it)) (fun r s1 => r = none ∧ Inv X pins σ H s1) E s
  self : ∀ (A : Around) (i : Nat) (s : Shared) (Q : Value → Shared → Prop) (E : Value → Shared → Prop), tn i s.heap → Q (.ref it) s → wpAny (model P w) A (pyIter (.ref it)) Q E s
noncomputable abbrev TI := St → Hp → (It → Hp → Prop) → Prop
noncomputable def PIE (X : Cx) (pins : List (Addr × Obj)) (σ : St) (tg : Expr) (R : It → Hp → Prop) (itv : Value) (s2 : Shared) : Prop :=
  ∃ (it : Addr) (fp : List Addr) (tn : Nat → Heap → Prop) (J : It) (H' : Hp), itv = .ref it ∧ Inv X pins σ H' s2 ∧ Turn X.prog X.w X.K tg J fp it tn ∧ tn 0 s2.heap ∧ (∀ b ∈ fp, FpOk X pins H' b) ∧ R J H'
noncomputable def PI (X : Cx) (tg iter : Expr) (wi : TI) : Prop :=
  ∀ (pins : List (Addr × Obj)) (s : Shared) (σ : St) (H : Hp) (R : It → Hp → Prop), Inv X pins σ H s → wi σ H R →
    wpAny (model X.prog X.w) X.A (eval iter X.env) (fun v s1 => wpAny (model X.prog X.w) X.A (pyIter v) (PIE X pins σ tg R) X.xe s1) X.xe s
theorem go_of {M : Model} {A : Around} {E : Value → Shared → Prop} {s : Shared} {tg : Expr} {it : Addr} {u : Value} {o : Obj} {n : String} {vs : Array Value} {Q : Unit → Shared → Prop} (ho : s.heap.get? it = some o) (hc : o.cls = .type n) (hd : o.data = .fields vs)
    (hn : ["enumerate", "zip", "dict_itemiterator", "dict_reverseitemiterator", "odict_iterator", "itertools.zip_longest", "itertools.pairwise"].contains n = false) (hQ : Q () s) : wpAny M A (letOwnedTupleGo tg (.ref it) u) Q E s := by
  unfold letOwnedTupleGo
  cases tg <;> first
    | exact wpAny_pure hQ
    | (cases u <;> first
        | exact wpAny_pure hQ
        | (refine wpAny_bind (wpAny_load ho ?_)
           rw [hc, hd]
           show wpAny M A (if (["enumerate", "zip", "dict_itemiterator", "dict_reverseitemiterator", "odict_iterator", "itertools.zip_longest", "itertools.pairwise"].contains n && vs[0]? == some (rawInt _)) = true then _ else _) Q E s
           rw [if_neg (by intro h; rw [hn, Bool.false_and] at h; cases h)]
           exact wpAny_pure hQ))
noncomputable def Itl (K : PySem.W.Frag) (a : Addr) : It :=
  ⟨fun i H => ∃ xs x, SqL K H a xs ∧ xs[i]? = some x, fun i H x H' => H' = H ∧ ∀ xs, SqL K H a xs → xs[i]? = some x, fun i H => ∃ xs, SqL K H a xs ∧ xs.length ≤ i⟩
noncomputable def Itt (K : PySem.W.Frag) (a : Addr) : It :=
  ⟨fun i H => ∃ xs x, SqT K H a xs ∧ xs[i]? = some x, fun i H x H' => H' = H ∧ ∀ xs, SqT K H a xs → xs[i]? = some x, fun i H => ∃ xs, SqT K H a xs ∧ xs.length ≤ i⟩
noncomputable def Itr (lo : Int) (n : Nat) : It := ⟨fun i _ => i < n, fun i H x H' => H' = H ∧ x = .int (lo + i), fun i _ => n ≤ i⟩
theorem turn_list {P : Program} {w : World} {K : PySem.W.Frag} {tg : Expr} (a it : Addr) : Turn P w K tg (Itl K a) [it] it (fun i h => h.IsListIter it a i) where
  mem := by simp
  obj := fun i h st b hb => by
    have e : b = it := by simpa using hb
    subst e
    obtain ⟨o, e, c, d⟩ := st
    exact ⟨o, e, fun v z => by rw [d] at z; cases z⟩
  keep := fun i h h' st k => st.at fun o e => k it (by simp) o e
  item := by
    intro X hP hw hK hc i pins s σ H E I hf st hg
    subst hP hw hK
    obtain ⟨xs, x, hq, hx⟩ := hg
    obtain ⟨its, rv, p, hz⟩ := I.list hq
    obtain ⟨u, hu, ru⟩ := rv.get hx
    obtain ⟨f0, f1, f2, f3, f4, f5⟩ := hf it (by simp)
    refine wpAny_pyNext_list_item st p.isList (x := u) (by simpa using hu) fun h' st' sb => ?_
    have I1 : Inv X pins σ H { s with heap := h' } := I.turned (t' := s.toks) (fun b o hb e => (sb.2 b hb).trans e) f0 f1 f3 f4 f5
    obtain ⟨o, e, c, d⟩ := id st'
    exact ⟨u, rfl, go_of (s := { s with heap := h' }) e c d (by decide) ⟨x, H, I1, ru, ⟨rfl, fun ys hy => by rw [I.list_inj hy hq]; exact hx⟩, st', fun b hb => (hf b hb).1⟩⟩
  done := by
    intro X hP hw hK hc i pins s σ H E I hf st hg
    subst hP hw hK
    obtain ⟨xs, hq, hx⟩ := hg
    obtain ⟨its, rv, p, hz⟩ := I.list hq
    obtain ⟨f0, f1, f2, f3, f4, f5⟩ := hf it (by simp)
    have hl := rv.length
    exact wpAny_pyNext_list_end (I.ok.hd hc) st p.isList (by simp; omega) fun h' eb => ⟨rfl, I.turned (t' := s.toks) (fun b o hb e => eb b o hb e) f0 f1 f3 f4 f5⟩
  self := fun _ _ _ _ _ st h => wpAny_pyIter_listiter st h
theorem turn_tuple {P : Program} {w : World} {K : PySem.W.Frag} {tg : Expr} (a it : Addr) : Turn P w K tg (Itt K a) [it] it (fun i h => h.IsTupleIter it a i) where
  mem := by simp
  obj := fun i h st b hb => by
    have e : b = it := by simpa using hb
    subst e
    obtain ⟨o, e, c, d⟩ := st
    exact ⟨o, e, fun v z => by rw [d] at z; cases z⟩
  keep := fun i h h' st k => st.at fun o e => k it (by simp) o e
  item := by
    intro X hP hw hK hc i pins s σ H E I hf st hg
    subst hP hw hK
    obtain ⟨xs, x, hq, hx⟩ := hg
    obtain ⟨its, rv, p, hz⟩ := I.tuple hq
    obtain ⟨u, hu, ru⟩ := rv.get hx
    obtain ⟨f0, f1, f2, f3, f4, f5⟩ := hf it (by simp)
    refine wpAny_pyNext_tuple_item st (show s.heap.IsTuple a its.toArray from p) (x := u) (by simpa using hu) fun h' st' sb => ?_
    have I1 : Inv X pins σ H { s with heap := h' } := I.turned (t' := s.toks) (fun b o hb e => (sb.2 b hb).trans e) f0 f1 f3 f4 f5
    obtain ⟨o, e, c, d⟩ := id st'
    exact ⟨u, rfl, go_of (s := { s with heap := h' }) e c d (by decide) ⟨x, H, I1, ru, ⟨rfl, fun ys hy => by rw [I.tuple_inj hy hq]; exact hx⟩, st', fun b hb => (hf b hb).1⟩⟩
  done := by
    intro X hP hw hK hc i pins s σ H E I hf st hg
    subst hP hw hK
    obtain ⟨xs, hq, hx⟩ := hg
    obtain ⟨its, rv, p, hz⟩ := I.tuple hq
    obtain ⟨f0, f1, f2, f3, f4, f5⟩ := hf it (by simp)
    have hl := rv.length
    exact wpAny_pyNext_tuple_end (I.ok.hd hc) st (show s.heap.IsTuple a its.toArray from p) (by simp; omega) fun h' eb => ⟨rfl, I.turned (t' := s.toks) (fun b o hb e => eb b o hb e) f0 f1 f3 f4 f5⟩
  self := fun _ _ _ _ _ st h => wpAny_pyIter_tupleiter st h
theorem turn_range {P : Program} {w : World} {K : PySem.W.Frag} {tg : Expr} (it : Addr) (lo : Int) (n : Nat) : Turn P w K tg (Itr lo n) [it] it (fun i h => IsRangeIter h it (lo + (i : Nat) * 1) ((n : Int) - (i : Nat)) 1) where
  mem := by simp
  obj := fun i h st b hb => by
    have e : b = it := by simpa using hb
    subst e
    exact ⟨_, st, fun v z => by
      have z' : Data.fields _ = Data.cell v := z
      cases z'⟩
  keep := fun i h h' st k => k it (by simp) _ st
  item := by
    intro X hP hw hK hc i pins s σ H E I hf st hg
    subst hP hw hK
    obtain ⟨f0, f1, f2, f3, f4, f5⟩ := hf it (by simp)
    have W := Walks.range (prog := X.prog) (w := X.w) (I.ok.hd hc) it lo 1 n
    refine W.item i s _ _ hg st fun v h' tk hv st' kk => ?_
    obtain ⟨t, rfl⟩ := hv
    have I1 : Inv X pins σ H { s with heap := h', toks := tk } := I.turned (fun b o hb e => kk b o (by simpa using hb) e) f0 f1 f3 f4 f5
    refine ⟨_, rfl, go_of (s := { s with heap := h', toks := tk }) (n := "range_iterator") st' rfl rfl (by decide) ⟨.int (lo + i), H, I1, ⟨t, ?_⟩, ⟨rfl, rfl⟩, st', fun b hb => (hf b hb).1⟩⟩
    rw [Int.mul_one]
  done := by
    intro X hP hw hK hc i pins s σ H E I hf st hg
    subst hP hw hK
    obtain ⟨f0, f1, f2, f3, f4, f5⟩ := hf it (by simp)
    exact wpAny_pyNext_range_end (I.ok.hd hc) st (by have : n ≤ i := hg; omega) fun h' eb => ⟨rfl, I.turned (t' := s.toks) (fun b o hb e => eb b o hb e) f0 f1 f3 f4 f5⟩
  self := fun _ _ _ _ _ st h => wpAny_pyIter_rangeiter st h
end L2
namespace L2
open PySem PySem.Spec PyProof.Rows
section
variable {X : Cx} {tg : Expr}
noncomputable def iList (K : PySem.W.Frag) (tl : TE) : TI := fun σ H R => tl σ H fun x H1 => ∃ a, x = .ref a ∧ (∃ xs, SqL K H1 a xs) ∧ R (Itl K a) H1
noncomputable def iTup (K : PySem.W.Frag) (tl : TE) : TI := fun σ H R => tl σ H fun x H1 => ∃ a, x = .ref a ∧ (∃ xs, SqT K H1 a xs) ∧ R (Itt K a) H1
theorem pi_list {l : Expr} {tl : TE} (hl : PE X l tl) : PI X tg l (iList X.K tl) := by
  intro pins s σ H R I h
  refine thn (hl pins s σ H _ I h) fun v s1 ⟨x, H1, I1, r1, q1⟩ => ?_
  obtain ⟨a, e, ⟨xs, hq⟩, q⟩ := q1
  subst e
  cases r1
  obtain ⟨its, rv, p, hz⟩ := I1.list hq
  refine wpAny_pyIter_list p.isList ?_
  refine ⟨s1.heap.objs.size, [s1.heap.objs.size], _, _, H1, rfl, I1.kept (t' := s1.toks) fun b o e => Heap.get?_push_of_some _ e, turn_list a _, ⟨_, Heap.get?_push_size _ rfl, rfl, rfl⟩, fun b hb => ?_, q⟩
  have e : b = s1.heap.objs.size := by simpa using hb
  subst e
  exact I1.fpOk (Nat.le_refl _) (I1.hok.fresh (Nat.le_refl _))
theorem pi_tup {l : Expr} {tl : TE} (hl : PE X l tl) : PI X tg l (iTup X.K tl) := by
  intro pins s σ H R I h
  refine thn (hl pins s σ H _ I h) fun v s1 ⟨x, H1, I1, r1, q1⟩ => ?_
  obtain ⟨a, e, ⟨xs, hq⟩, q⟩ := q1
  subst e
  cases r1
  obtain ⟨its, rv, p, hz⟩ := I1.tuple hq
  refine wpAny_pyIter_tuple (show s1.heap.IsTuple a its.toArray from p) ?_
  refine ⟨s1.heap.objs.size, [s1.heap.objs.size], _, _, H1, rfl, I1.kept (t' := s1.toks) fun b o e => Heap.get?_push_of_some _ e, turn_tuple a _, ⟨_, Heap.get?_push_size _ rfl, rfl, rfl⟩, fun b hb => ?_, q⟩
  have e : b = s1.heap.objs.size := by simpa using hb
  subst e
  exact I1.fpOk (Nat.le_refl _) (I1.hok.fresh (Nat.le_refl _))
theorem range_it {pins : List (Addr × Obj)} {σ : St} {H : Hp} {s : Shared} {R : It → Hp → Prop} {E : Value → Shared → Prop} {lo hi : Int} {t u v : Tok} {tk : Nat} (I : Inv X pins σ H s) (h1 : -(2 ^ 62) ≤ lo) (h2 : lo < 2 ^ 62) (h3 : -(2 ^ 62) ≤ hi) (h4 : hi < 2 ^ 62)
    (q : R (Itr lo (hi - lo).toNat) H) : wpAny (model X.prog X.w) X.A (pyIter (.ref s.heap.objs.size)) (PIE X pins σ tg R) E { s with heap := s.heap.push { cls := .type "range", data := .fields #[.int lo t, .int hi u, .int 1 v] }, toks := tk } := by
  refine wpAny_pyIter_range (IsRange.new ..) (small_one h1 h2 h3 h4) ?_
  have I1 : Inv X pins σ H { s with heap := s.heap.push { cls := .type "range", data := .fields #[.int lo t, .int hi u, .int 1 v] }, toks := tk } := I.kept fun b o e => Heap.get?_push_of_some _ e
  refine ⟨(s.heap.push { cls := .type "range", data := .fields #[.int lo t, .int hi u, .int 1 v] }).objs.size, [(s.heap.push { cls := .type "range", data := .fields #[.int lo t, .int hi u, .int 1 v] }).objs.size], _, _, H, rfl,
    I1.kept (t' := tk) fun b o e => Heap.get?_push_of_some _ e, turn_range _ lo (hi - lo).toNat, ?_, fun b hb => ?_, q⟩
  · have e1 : lo + ((0 : Nat) : Int) * 1 = lo := by simp
    have e2 : (((hi - lo).toNat : Nat) : Int) - ((0 : Nat) : Int) = Builtin.Range.rangeSize lo hi 1 := by rw [rangeSize_one]; split <;> omega
    show IsRangeIter _ _ (lo + ((0 : Nat) : Int) * 1) ((((hi - lo).toNat : Nat) : Int) - ((0 : Nat) : Int)) 1
    rw [e1, e2]
    exact Heap.get?_push_size _ rfl
  · have e : b = (s.heap.push { cls := .type "range", data := .fields #[.int lo t, .int hi u, .int 1 v] }).objs.size := by simpa using hb
    subst e
    exact I1.fpOk (Nat.le_refl _) (I1.hok.fresh (Nat.le_refl _))
noncomputable def iRng1 (ta : TA) : TI := fun σ H R => ta σ H fun vs H1 => ∃ j : Int, vs = [.int j] ∧ -(2 ^ 62) ≤ j ∧ j < 2 ^ 62 ∧ R (Itr 0 j.toNat) H1
noncomputable def iRng2 (ta : TA) : TI := fun σ H R => ta σ H fun vs H1 => ∃ i j : Int, vs = [.int i, .int j] ∧ (-(2 ^ 62) ≤ i ∧ i < 2 ^ 62 ∧ -(2 ^ 62) ≤ j ∧ j < 2 ^ 62) ∧ R (Itr i (j - i).toNat) H1
theorem pi_range1 {a : Expr} {ta : TA} {p pos : Pos} (hg : Gl X "range") (hm : X.mg "range" = none) (ha : PA X [a] ta) (hs : starEach [a] X.env = [(false, eval a X.env)] := by rfl) : PI X tg (.Call (.Name "range" p) [a] [] pos) (iRng1 ta) := by
  intro pins s σ H R I h
  refine Call_ (ld_blt I hg hm boot_range (PyProof.Rows.callWith_type1 (thn (ha pos pins s σ H _ I h) fun us s1 ⟨vs, H1, I1, r1, q1⟩ => ?_) hs rfl))
  obtain ⟨j, e, q1, q2, q⟩ := q1
  subst e
  cases r1 with
  | cons r rr =>
    cases rr
    obtain ⟨t, rfl⟩ := r
    exact call_range_1 (range_it I1 (by omega) (by omega) q1 q2 (by simpa using q))
theorem pi_range2 {a b : Expr} {ta : TA} {p pos : Pos} (hg : Gl X "range") (hm : X.mg "range" = none) (ha : PA X [a, b] ta) (hs : starEach [a, b] X.env = [(false, eval a X.env), (false, eval b X.env)] := by rfl) (hs2 : starEach [b] X.env = [(false, eval b X.env)] := by rfl) :
    PI X tg (.Call (.Name "range" p) [a, b] [] pos) (iRng2 ta) := by
  intro pins s σ H R I h
  refine Call_ (ld_blt I hg hm boot_range (PyProof.Rows.callWith_type1 (thn (ha pos pins s σ H _ I h) fun us s1 ⟨vs, H1, I1, r1, q1⟩ => ?_) (by rw [hs, hs2]) (by rw [hs2]; rfl)))
  obtain ⟨i, j, e, ⟨q1, q2, q3, q4⟩, q⟩ := q1
  subst e
  cases r1 with
  | cons r rr =>
    cases rr with
    | cons r' rr =>
      cases rr
      obtain ⟨t, rfl⟩ := r
      obtain ⟨t', rfl⟩ := r'
      exact call_range_2 (range_it I1 q1 q2 q3 q4 q)
noncomputable def tFor (wi : TI) (g : TG) (tb : TS) : TS := fun D σ H => wi σ H fun J H1 => ∃ W : Nat → Nat → St → Hp → Prop, (∃ m, W 0 m σ H1) ∧ ∀ i m σ H, W i m σ H →
  (J.stop i H ∧ D.nx σ H) ∨ (J.go i H ∧ ∃ N : St → Hp → Prop, (∀ σ' H', N σ' H' → ∃ m', m' < m ∧ W (i + 1) m' σ' H') ∧ ∀ x H', J.yld i H x H' → g x σ H' fun σ2 H2 => tb { D with nx := N, ct := N, bk := D.nx } σ2 H2)
noncomputable def pinsAt (fp : List Addr) (h : Heap) : List (Addr × Obj) := fp.filterMap fun b => (h.get? b).map fun o => (b, o)
theorem mem_pinsAt {fp : List Addr} {h : Heap} {b : Addr} {o : Obj} (hb : b ∈ fp) (e : h.get? b = some o) : (b, o) ∈ pinsAt fp h := List.mem_filterMap.mpr ⟨b, hb, by rw [e]; rfl⟩
theorem of_pinsAt {fp : List Addr} {h : Heap} {p : Addr × Obj} (hp : p ∈ pinsAt fp h) : p.1 ∈ fp ∧ h.get? p.1 = some p.2 := by
  obtain ⟨b, hb, e⟩ := List.mem_filterMap.mp hp
  cases q : h.get? b with
  | none => rw [q] at e; cases e
  | some o =>
    rw [q] at e
    have e' : (b, o) = p := Option.some.inj e
    subst e'
    exact ⟨hb, q⟩
theorem Inv.pinned {pins : List (Addr × Obj)} {σ : St} {H : Hp} {s : Shared} {fp : List Addr} (I : Inv X pins σ H s) (hf : ∀ b ∈ fp, FpOk X pins H b) (ho : ∀ b ∈ fp, ∃ o, s.heap.get? b = some o ∧ ∀ v, o.data ≠ .cell v) : Inv X (pins ++ pinsAt fp s.heap) σ H s :=
  I.pins_of fun p hp => (List.mem_append.mp hp).elim (fun z => I.pin p (List.mem_append_right _ z)) fun z => by
    obtain ⟨hb, e⟩ := of_pinsAt z
    obtain ⟨f0, f1, f2, _⟩ := hf p.1 hb
    obtain ⟨o, e', d⟩ := ho p.1 hb
    rw [e] at e'; cases e'
    exact ⟨e, f0, f1, f2, d⟩
theorem Inv.unpinned {pins pl : List (Addr × Obj)} {σ : St} {H : Hp} {s : Shared} (I : Inv X (pins ++ pl) σ H s) : Inv X pins σ H s := I.pins_of fun p hp => I.pin p (List.mem_append_right _ (List.mem_append_left _ hp))
theorem ps_for {iter : Expr} {body : List Stmt} {wi : TI} {g : TG} {tb : TS} {pos : Pos} (hp : PassesOwn (model X.prog X.w) X.A X.env X.xe) (hc : X.calm = true) (hi : PI X tg iter wi) (hg : PG X tg g) (hb : PSs X body tb)
    (hs : ∀ x, foldedSetIterable iter X.env x = pure x := by intro _; rfl) : PS X (.For tg iter body [] pos) (tFor wi g tb) := by
  intro pins s σ H D I h
  refine wpAny_For (thn (hi pins s σ H _ I h) fun v s1 h1 => thn h1 fun itv s2 h2 => ?_) hs
  obtain ⟨it, fp, tn, J, H2, e, I2, T, st2, f2, W, ⟨m0, w0⟩, turn⟩ := h2
  subst e
  have stat : ∀ {H' : Hp}, (∀ b ∈ fp, H' b = none) → ∀ b ∈ fp, FpOk X pins H' b := fun hn b hb => ⟨hn b hb, (f2 b hb).2⟩
  refine codeAny_forLoop_any (fun n s' => ∃ i σ' H', Inv X pins σ' H' s' ∧ tn i s'.heap ∧ (∀ b ∈ fp, H' b = none) ∧ W i n σ' H') ?_ m0 ⟨0, σ, H2, I2, st2, fun b hb => (f2 b hb).1, w0⟩
  rintro n s3 ⟨i, σ3, H3, I3, st3, fr3, w3⟩
  rcases turn i n σ3 H3 w3 with ⟨stop, qn⟩ | ⟨go, N, hN, step⟩
  · refine wpAny_passesOwn hp (thn (T.done X rfl rfl rfl hc i pins s3 σ3 H3 X.xe I3 (stat fr3) st3 stop) fun r s4 ⟨hr, I4⟩ => ?_)
    subst hr
    exact wpAny_execs_nil ⟨σ3, H3, I4, qn⟩
  · refine wpAny_passesOwn hp (thn (T.item X rfl rfl rfl hc i pins s3 σ3 H3 X.xe I3 (stat fr3) st3 go) fun r s4 ⟨u, hr, h4⟩ => ?_)
    subst hr
    refine wpAny_passesOwn hp (thn h4 fun _ s5 ⟨x, H5, I5, r5, y5, st5, fr5⟩ => ?_)
    have I5' := I5.pinned (stat fr5) (T.obj _ _ st5)
    refine wpAny_passesOwn hp (thn (hg _ s5 σ3 H5 x u _ I5' r5 (step x H5 y5)) fun _ s6 ⟨σ6, H6, I6, q6⟩ => ?_)
    refine wpAny_passesOwn hp (thn (hb _ s6 σ6 H6 _ I6 q6) fun f s7 q7 => ?_)
    have again : ∀ {σ7 : St} {H7 : Hp}, Inv X (pins ++ pinsAt fp s5.heap) σ7 H7 s7 → N σ7 H7 → ∃ m, m < n ∧ ∃ i σ' H', Inv X pins σ' H' s7 ∧ tn i s7.heap ∧ (∀ b ∈ fp, H' b = none) ∧ W i m σ' H' := fun {σ7 H7} I7 n7 => by
      obtain ⟨m', hm, w7⟩ := hN σ7 H7 n7
      refine ⟨m', hm, i + 1, σ7, H7, I7.unpinned, T.keep _ _ _ st5 fun b hb o e => (I7.pin (b, o) (List.mem_append_right _ (List.mem_append_right _ (mem_pinsAt hb e)))).1, fun b hb => ?_, w7⟩
      obtain ⟨o, e, d⟩ := T.obj _ _ st5 b hb
      exact (I7.pin (b, o) (List.mem_append_right _ (List.mem_append_right _ (mem_pinsAt hb e)))).2.1
    cases f with
    | next => obtain ⟨σ7, H7, I7, n7⟩ := q7; exact again I7 n7
    | cont => obtain ⟨σ7, H7, I7, n7⟩ := q7; exact again I7 n7
    | brk => obtain ⟨σ7, H7, I7, q7⟩ := q7; exact ⟨σ7, H7, I7.unpinned, q7⟩
    | ret v => obtain ⟨x7, σ7, H7, I7, r7, q7⟩ := q7; exact ⟨x7, σ7, H7, I7.unpinned, r7, q7⟩
end
end L2
namespace L2
open PySem PySem.Spec PyProof.Rows
noncomputable abbrev R2 := V → V → Hp → VK → Prop
noncomputable def OpR (X : Cx) (f : Value → Value → Sem Value) (r : R2) : Prop :=
  ∀ (pins : List (Addr × Obj)) (s : Shared) (σ : St) (H : Hp) (x y : V) (v u : Value) (Q : VK), Inv X pins σ H s → RelV x v → RelV y u → r x y H Q →
    wpAny (model X.prog X.w) X.A (f v u) (EP X pins σ Q) X.xe s
noncomputable def UnR (X : Cx) (f : Value → Sem Value) (r : V → Hp → VK → Prop) : Prop :=
  ∀ (pins : List (Addr × Obj)) (s : Shared) (σ : St) (H : Hp) (x : V) (v : Value) (Q : VK), Inv X pins σ H s → RelV x v → r x H Q →
    wpAny (model X.prog X.w) X.A (f v) (EP X pins σ Q) X.xe s
noncomputable def CallR (X : Cx) (f : Value) (r : List V → Hp → VK → Prop) : Prop :=
  ∀ (pins : List (Addr × Obj)) (s : Shared) (σ : St) (H : Hp) (xs : List V) (us : List Value) (Q : VK), Inv X pins σ H s → Vals xs us → r xs H Q →
    wpAny (model X.prog X.w) X.A (call f us) (EP X pins σ Q) X.xe s
noncomputable def tOp (r : R2) (ta tb : TE) : TE := fun σ H Q => ta σ H fun x H1 => tb σ H1 fun y H2 => r x y H2 Q
noncomputable def tUn (r : V → Hp → VK → Prop) (ta : TE) : TE := fun σ H Q => ta σ H fun x H1 => r x H1 Q
noncomputable def rI (C : Int → Int → Prop) (g : Int → Int → V) : R2 := fun x y H Q => ∃ i j, x = .int i ∧ y = .int j ∧ C i j ∧ Q (g i j) H
noncomputable def rI0 (g : Int → Int → V) : R2 := fun x y H Q => ∃ i j, x = .int i ∧ y = .int j ∧ Q (g i j) H
noncomputable def rU (g : Int → V) : V → Hp → VK → Prop := fun x H Q => ∃ i, x = .int i ∧ Q (g i) H
section
variable {X : Cx} {a b c : Expr} {ta tb tc : TE} {pos : Pos}
theorem binT (ha : PE X a ta) (hb : PE X b tb) {pins : List (Addr × Obj)} {s : Shared} {σ : St} {H : Hp} {R : V → V → Hp → Prop} (I : Inv X pins σ H s)
    (h : ta σ H fun x H1 => tb σ H1 fun y H2 => R x y H2) {Q : Value → Shared → Prop} {f : Value → Value → Sem Value}
    (hf : ∀ v u s2 x y H2, Inv X pins σ H2 s2 → RelV x v → RelV y u → R x y H2 → wpAny (model X.prog X.w) X.A (f v u) Q X.xe s2) :
    wpAny (model X.prog X.w) X.A (eval a X.env) (fun v s₁ => wpAny (model X.prog X.w) X.A (eval b X.env) (fun u s₂ => wpAny (model X.prog X.w) X.A (f v u) Q X.xe s₂) X.xe s₁) X.xe s := by
  refine thn (ha pins s σ H _ I h) fun v s1 ⟨x, H1, I1, r1, q1⟩ => ?_
  refine thn (hb pins s1 σ H1 _ I1 q1) fun u s2 ⟨y, H2, I2, r2, q2⟩ => ?_
  exact hf v u s2 x y H2 I2 r1 r2 q2
theorem pe_op {op : Operator} {r : R2} (ho : OpR X (binaryOp op) r) (ha : PE X a ta) (hb : PE X b tb) : PE X (.BinOp a op b pos) (tOp r ta tb) := by
  intro pins s σ H Q I h
  exact wpAny_BinOp (binT ha hb I h fun v u s2 x y H2 I2 rx ry q => ho pins s2 σ H2 x y v u Q I2 rx ry q)
theorem pe_un {op : UnaryOp} {r : V → Hp → VK → Prop} (ho : UnR X (unaryOp op) r) (ha : PE X a ta) : PE X (.UnaryOp op a pos) (tUn r ta) := by
  intro pins s σ H Q I h
  exact UnaryOp_ (thn (ha pins s σ H _ I h) fun v s1 ⟨x, H1, I1, r1, q1⟩ => ho pins s1 σ H1 x v Q I1 r1 q1)
theorem opI {f : Value → Value → Sem Value} {C : Int → Int → Prop} {g : Int → Int → Int}
    (rule : ∀ (i j : Int) (t u : Tok) (s : Shared) (Q : Value → Shared → Prop) (E : Value → Shared → Prop), C i j → Q (.int (g i j) s.toks) { s with toks := s.toks + 1 } → wpAny (model X.prog X.w) X.A (f (.int i t) (.int j u)) Q E s) :
    OpR X f (rI C fun i j => .int (g i j)) := by
  intro pins s σ H x y v u Q I rx ry h
  obtain ⟨i, j, rfl, rfl, hc, q⟩ := h
  obtain ⟨t, rfl⟩ := rx
  obtain ⟨t', rfl⟩ := ry
  exact rule i j t t' s _ _ hc ⟨.int (g i j), H, I.tok _, ⟨_, rfl⟩, q⟩
theorem opI0 {f : Value → Value → Sem Value} {g : Int → Int → Int}
    (rule : ∀ (i j : Int) (t u : Tok) (s : Shared) (Q : Value → Shared → Prop) (E : Value → Shared → Prop), Q (.int (g i j) s.toks) { s with toks := s.toks + 1 } → wpAny (model X.prog X.w) X.A (f (.int i t) (.int j u)) Q E s) :
    OpR X f (rI0 fun i j => .int (g i j)) := by
  intro pins s σ H x y v u Q I rx ry h
  obtain ⟨i, j, rfl, rfl, q⟩ := h
  obtain ⟨t, rfl⟩ := rx
  obtain ⟨t', rfl⟩ := ry
  exact rule i j t t' s _ _ ⟨.int (g i j), H, I.tok _, ⟨_, rfl⟩, q⟩
theorem opB0 {f : Value → Value → Sem Value} {g : Int → Int → Bool}
    (rule : ∀ (i j : Int) (t u : Tok) (s : Shared) (Q : Value → Shared → Prop) (E : Value → Shared → Prop), Q (.bool (g i j)) s → wpAny (model X.prog X.w) X.A (f (.int i t) (.int j u)) Q E s) :
    OpR X f (rI0 fun i j => .bl (g i j)) := by
  intro pins s σ H x y v u Q I rx ry h
  obtain ⟨i, j, rfl, rfl, q⟩ := h
  obtain ⟨t, rfl⟩ := rx
  obtain ⟨t', rfl⟩ := ry
  exact rule i j t t' s _ _ ⟨.bl (g i j), H, I, rfl, q⟩
noncomputable def CDiv (i j : Int) : Prop := 0 < j ∧ j < 1073741824
noncomputable def CPow (i j : Int) : Prop := 0 ≤ j ∧ j ≤ 1000000 ∧ i.natAbs < 2 ^ 64
noncomputable def CMul (i j : Int) : Prop := (-(2 ^ 64) < i ∧ i < 2 ^ 64) ∨ (-(2 ^ 64) < j ∧ j < 2 ^ 64)
theorem CMul.ok {i j : Int} (h : CMul i j) : IntMulOk i j := by
  rcases h with ⟨h1, h2⟩ | ⟨h1, h2⟩
  · exact .of_left (intBits_le_64 h1 h2)
  · exact .of_right (intBits_le_64 h1 h2)
theorem op_add : OpR X (binaryOp .Add) (rI0 fun i j => .int (i + j)) := opI0 fun _ _ _ _ _ _ _ q => add_int q
theorem op_sub : OpR X (binaryOp .Sub) (rI0 fun i j => .int (i - j)) := opI0 fun _ _ _ _ _ _ _ q => sub_int q
theorem op_mul : OpR X (binaryOp .Mult) (rI CMul fun i j => .int (i * j)) := opI fun _ _ _ _ _ _ _ hc q => mul_int q hc.ok
theorem op_fdiv : OpR X (binaryOp .FloorDiv) (rI CDiv fun i j => .int (i / j)) := opI fun i j _ _ _ _ _ hc q => by
  have h1 : (0 : Int) < j := hc.1
  have h2 : j < 1073741824 := hc.2
  exact floordiv_int (by omega) (by rw [Int.fdiv_eq_ediv_of_nonneg i (by omega)]; exact q) (.inl (PyProof.noPylong_small (by omega)))
theorem op_mod : OpR X (binaryOp .Mod) (rI (fun _ j => 0 < j) fun i j => .int (i % j)) := opI fun i j _ _ _ _ _ hc q => by
  have h1 : (0 : Int) < j := hc
  exact mod_int' (by omega) (by rw [Int.fmod_eq_emod_of_nonneg i (by omega)]; exact q)
theorem op_pow : OpR X (binaryOp .Pow) (rI CPow fun i j => .int (i ^ j.toNat)) := opI fun _ _ _ _ _ _ _ hc q => pow_int_small hc.1 hc.2.1 hc.2.2 q
theorem unI {f : Value → Sem Value} {g : Int → Int}
    (rule : ∀ (i : Int) (t : Tok) (s : Shared) (Q : Value → Shared → Prop) (E : Value → Shared → Prop), Q (.int (g i) s.toks) { s with toks := s.toks + 1 } → wpAny (model X.prog X.w) X.A (f (.int i t)) Q E s) :
    UnR X f (rU fun i => .int (g i)) := by
  intro pins s σ H x v Q I rx h
  obtain ⟨i, rfl, q⟩ := h
  obtain ⟨t, rfl⟩ := rx
  exact rule i t s _ _ ⟨.int (g i), H, I.tok _, ⟨_, rfl⟩, q⟩
theorem un_neg : UnR X (unaryOp .USub) (rU fun i => .int (-i)) := unI fun _ _ _ _ _ q => neg_int q
end
section
variable {X : Cx} {a b c : Expr} {ta tb tc : TE} {pos : Pos}
theorem fin_bl {pins : List (Addr × Obj)} {σ : St} {H : Hp} {s : Shared} {Q : VK} {k k' : Bool} (I : Inv X pins σ H s) (q : Q (.bl k) H) (e : k = k') : EP X pins σ Q (.bool k') s := by
  subst e
  exact ⟨.bl k, H, I, rfl, q⟩
theorem op_lt : OpR X (compareOp .Lt) (rI0 fun i j => .bl (decide (i < j))) := opB0 fun _ _ _ _ _ _ _ q => lt_int q
theorem op_le : OpR X (compareOp .LtE) (rI0 fun i j => .bl (decide (i ≤ j))) := opB0 fun _ _ _ _ _ _ _ q => le_int q
theorem op_gt : OpR X (compareOp .Gt) (rI0 fun i j => .bl (decide (j < i))) := opB0 fun _ _ _ _ _ _ _ q => gt_int q
theorem op_in_str : OpR X (compareOp .In) (fun x y H Q => ∃ i j, x = .str i ∧ y = .str j ∧ Q (.bl (!(Builtin.Str.occurrences j i 0 j.length 1).isEmpty)) H) := by
  intro pins s σ H x y v u Q I rx ry h
  obtain ⟨i, j, rfl, rfl, q⟩ := h
  obtain ⟨t, rfl⟩ := rx
  obtain ⟨t', rfl⟩ := ry
  exact in_str (fin_bl I q rfl)
theorem op_isN : OpR X (compareOp .Is) (fun x y H Q => y = .non ∧ Q (.bl (decide (x = .non))) H) := by
  intro pins s σ H x y v u Q I rx ry h
  obtain ⟨rfl, q⟩ := h
  cases ry
  refine is_none_gen (fin_bl I q ?_)
  cases x <;> first
    | (cases rx; rfl)
    | (obtain ⟨t, rfl⟩ := rx; rfl)
theorem op_notin_str : OpR X (compareOp .NotIn) (fun x y H Q => ∃ i j, x = .str i ∧ y = .str j ∧ Q (.bl (!(!(Builtin.Str.occurrences j i 0 j.length 1).isEmpty))) H) := by
  intro pins s σ H x y v u Q I rx ry h
  obtain ⟨i, j, rfl, rfl, q⟩ := h
  obtain ⟨t, rfl⟩ := rx
  obtain ⟨t', rfl⟩ := ry
  exact notIn_str (fin_bl I q rfl)
theorem nomark (b : Expr) {op : CmpOp} (h : op ≠ .In := by decide) (h2 : op ≠ .NotIn := by decide) : behindInMarks op b = false := by
  have e1 : (op == CmpOp.In) = false := by cases op <;> first | rfl | exact absurd rfl h
  have e2 : (op == CmpOp.NotIn) = false := by cases op <;> first | rfl | exact absurd rfl h2
  cases b <;> simp [behindInMarks, e1, e2]
theorem pe_cmpR {op : CmpOp} {r : R2} (ho : OpR X (compareOp op) r) (ha : PE X a ta) (hb : PE X b tb) (hm : behindInMarks op b = false) : PE X (.Compare a [op] [b] pos) (tOp r ta tb) := by
  intro pins s σ H Q I h
  exact wpAny_Compare1 (binT ha hb I h fun v u s2 x y H2 I2 rx ry q => ho pins s2 σ H2 x y v u Q I2 rx ry q) hm
noncomputable def tTest (t : TE) : TT := fun σ H Q => t σ H fun x H' => ∃ k, x = .bl k ∧ Q k H'
theorem pt_cmpR {op : CmpOp} {r : R2} (ho : OpR X (compareOp op) r) (ha : PE X a ta) (hb : PE X b tb) (hm : behindInMarks op b = false) : PT X (.Compare a [op] [b] pos) (tTest (tOp r ta tb)) := by
  intro pins s σ H Q I h
  refine wpAny_isTrue_Compare1 (thn (ha pins s σ H _ I h) fun v s1 ⟨x, H1, I1, r1, q1⟩ => thn (hb pins s1 σ H1 _ I1 q1) fun u s2 ⟨y, H2, I2, r2, q2⟩ =>
    thn (ho pins s2 σ H2 x y v u _ I2 r1 r2 q2) fun c s3 ⟨z, H3, I3, r3, k, e, q3⟩ => ?_) hm
  subst e
  cases r3
  exact wpAny_truthy_bool ⟨H3, I3, q3⟩
noncomputable def tChain (r r' : R2) (ta tb tc : TE) : TE := fun σ H Q => ta σ H fun x H1 => tb σ H1 fun y H2 => r x y H2 fun z H3 => ∃ k, z = .bl k ∧
  (if k = true then tc σ H3 fun w' H4 => r' y w' H4 Q else Q (.bl false) H3)
theorem pe_chain {op op' : CmpOp} {r r' : R2} (ho : OpR X (compareOp op) r) (ho' : OpR X (compareOp op') r') (ha : PE X a ta) (hb : PE X b tb) (hc : PE X c tc)
    (hm : lastMarks [op, op'] [b, c] = false := by with_unfolding_all rfl) : PE X (.Compare a [op, op'] [b, c] pos) (tChain r r' ta tb tc) := by
  intro pins s σ H Q I h
  refine Compare_chain (thn (ha pins s σ H _ I h) fun v s1 ⟨x, H1, I1, r1, q1⟩ => chain_link (thn (hb pins s1 σ H1 _ I1 q1) fun u s2 ⟨y, H2, I2, r2, q2⟩ =>
    thn (ho pins s2 σ H2 x y v u _ I2 r1 r2 q2) fun d s3 ⟨z, H3, I3, r3, k, e, q3⟩ => ?_)) hm
  subst e
  cases r3
  refine wpAny_truthy_bool ?_
  cases k with
  | false => exact ite_ff ⟨.bl false, H3, I3, rfl, q3⟩
  | true => exact ite_tt (chain_last (thn (hc pins s3 σ H3 _ I3 q3) fun w' s4 ⟨z', H4, I4, r4, q4⟩ => ho' pins s4 σ H4 y z' u w' Q I4 r2 r4 q4))
theorem line63 : (sizeLine : Nat) < 2 ^ 63 := by rw [sizeLine_eq]; decide
theorem op_add_str : OpR X (binaryOp .Add) (fun x y H Q => ∃ i j, x = .str i ∧ y = .str j ∧ i.length + j.length ≤ sizeLine ∧ Q (.str (i ++ j)) H) := by
  intro pins s σ H x y v u Q I rx ry h
  obtain ⟨i, j, rfl, rfl, hz, q⟩ := h
  obtain ⟨t, rfl⟩ := rx
  obtain ⟨t', rfl⟩ := ry
  exact add_str (fun t' tk => ⟨.str (i ++ j), H, I.tok _, ⟨_, rfl⟩, q⟩) hz
theorem vals1 {x : V} {us : List Value} (r : Vals [x] us) : ∃ u, us = [u] ∧ RelV x u := by
  cases r with
  | cons r1 r2 => cases r2; exact ⟨_, rfl, r1⟩
theorem vals2 {x y : V} {us : List Value} (r : Vals [x, y] us) : ∃ u w', us = [u, w'] ∧ RelV x u ∧ RelV y w' := by
  cases r with
  | cons r1 r2 =>
    cases r2 with
    | cons r3 r4 => cases r4; exact ⟨_, _, rfl, r1, r3⟩
theorem call_int1 : CallR X (.type "int") (fun xs H Q => (∃ i, xs = [.int i] ∧ Q (.int i) H) ∨ ∃ k, xs = [.bl k] ∧ Q (.int (if k then 1 else 0)) H) := by
  intro pins s σ H xs us Q I r h
  rcases h with ⟨i, rfl, q⟩ | ⟨k, rfl, q⟩
  · obtain ⟨u, rfl, t, rfl⟩ := vals1 r
    exact call_int_int ⟨.int i, H, I, ⟨_, rfl⟩, q⟩
  · obtain ⟨u, rfl, r1⟩ := vals1 r
    cases r1
    exact call_int_bool ⟨.int (if k then 1 else 0), H, I.tok _, ⟨_, rfl⟩, q⟩
noncomputable def LenV (K : PySem.W.Frag) (x : V) (H : Hp) (n : Nat) : Prop :=
  match x with
  | .str y => y.length ≤ sizeLine ∧ n = y.length
  | .byt y => y.size ≤ sizeLine ∧ n = y.size
  | .ref p => (∃ xs, SqL K H p xs ∧ n = xs.length) ∨ ∃ xs, SqT K H p xs ∧ n = xs.length
  | _ => False
theorem call_len : CallR X (.builtin "len") (fun xs H Q => ∃ x n, xs = [x] ∧ LenV X.K x H n ∧ Q (.int n) H) := by
  intro pins s σ H xs us Q I r h
  obtain ⟨x, n, rfl, e, q⟩ := h
  obtain ⟨u, rfl, rx⟩ := vals1 r
  have hl := line63
  have hs : sizeLine = 16777216 := sizeLine_eq
  cases x with
  | str y =>
    obtain ⟨t, rfl⟩ := rx
    obtain ⟨hy, e'⟩ : y.length ≤ sizeLine ∧ n = y.length := e
    subst e'
    exact len_str (by omega) ⟨.int _, H, I.tok _, ⟨_, rfl⟩, q⟩
  | byt y =>
    obtain ⟨t, rfl⟩ := rx
    obtain ⟨hy, e'⟩ : y.size ≤ sizeLine ∧ n = y.size := e
    subst e'
    exact PySem.W.len_bytes (by omega) ⟨.int _, H, I.tok _, ⟨_, rfl⟩, q⟩
  | ref p =>
    cases rx
    have e' : (∃ xs, SqL X.K H p xs ∧ n = xs.length) ∨ ∃ xs, SqT X.K H p xs ∧ n = xs.length := e
    rcases e' with ⟨xs, hx, e'⟩ | ⟨xs, hx, e'⟩
    · subst e'
      obtain ⟨its, r', pl, hz⟩ := I.list hx
      have hlen := r'.length
      exact Calls.call_len_list pl.isList (by simp only [List.size_toArray]; omega) ⟨.int xs.length, H, I.tok _, ⟨_, by simp only [List.size_toArray]; rw [hlen]⟩, q⟩
    · subst e'
      obtain ⟨its, r', pl, hz⟩ := I.tuple hx
      have hlen := r'.length
      exact len_tuple pl (by simp only [List.size_toArray]; omega) ⟨.int xs.length, H, I.tok _, ⟨_, by simp only [List.size_toArray]; rw [hlen]⟩, q⟩
  | _ => exact (show False from e).elim
end
end L2
namespace L2
open PySem PySem.Spec PyProof.Rows
structure ObjM (h : Heap) (x dx C : Addr) (mA : Str → Option Value) : Prop where
  obj : h.get? x = some (PySem.W.instObj C dx)
  ns : h.Ns1 dx mA
  ne : dx ≠ x
theorem lookIn_ns {h : Heap} {dx : Addr} {mA : Str → Option Value} (n : h.Ns1 dx mA) : ∃ od, h.get? dx = some od ∧ ∀ name, PySem.W.lookIn name od = some (mA name) := by
  obtain ⟨o, es, ep, ho, hd, hk, _, hm⟩ := n
  refine ⟨o, ho, fun name => ?_⟩
  have e := hm name
  unfold nsFind findBy at e
  rw [← Array.find?_toList] at e
  unfold PySem.W.lookIn
  rw [hd]
  dsimp only
  split
  · rename_i y q
    rw [q] at e
    exact congrArg some e
  · rename_i q
    rw [q] at e
    have a : es.toList.any (·.refKey) = false := by
      rw [List.any_eq_false]
      intro y hy
      obtain ⟨z, t, hkey⟩ := hk y (Array.mem_toList_iff.mp hy)
      simp [DictEntry.refKey, hkey]
    have a' : ¬ es.toList.any (·.refKey) = true := by rw [a]; exact Bool.false_ne_true
    rw [if_neg a']
    exact congrArg some e
theorem ObjM.look {h : Heap} {x dx C : Addr} {mA : Str → Option Value} (I : ObjM h x dx C mA) : ∃ od, PySem.W.InstAt h x (PySem.W.instObj C dx) C (some od) ∧ ∀ name, PySem.W.lookIn name od = some (mA name) :=
  let ⟨od, ho, hl⟩ := lookIn_ns I.ns
  ⟨od, ⟨I.obj, rfl, rfl, ho⟩, hl⟩
section
variable {prog : Program} {w : World} {A : Around} {E : Value → Shared → Prop} {s : Shared} {K : PySem.W.Frag} {x dx C f : Addr} {mA : Str → Option Value} {name : Str} {v : Value}
end
theorem RelO.some_of {v : V} {o : Option Value} (r : RelO (some v) o) : ∃ u, o = some u ∧ RelV v u := by
  cases o with
  | none => exact (show False from r).elim
  | some u => exact ⟨u, rfl, r⟩
section
variable {P : Program} {w : World} {H H' : Hp} {h h' : Heap} {a C dx : Addr} {fs fs' : List (Str × V)}
theorem ins_get (hok : HOk P w H h) (e : H a = some (.ins C dx fs)) : ∃ mA, ObjM h a dx C mA ∧ (∀ f, RelO (fs.lookup f) (mA f)) ∧ PySem.Within mA (fs.map (·.1)) ∧ fs.length ≤ 1000 ∧ H dx = some (.own a) := by
  obtain ⟨d, z, ne, ob, mA, n, r, q⟩ := (show ObjOk P w H h a (.ins C dx fs) from hok a _ e)
  exact ⟨mA, ⟨ob, n, ne⟩, r, q, z, d⟩
end
structure Cls (K : PySem.W.Frag) (C : Addr) : Prop where
  pg : PySem.W.plainGet K C Str.empty = true
  hd : PySem.W.hasDictIn K C = true
  po : PySem.W.plainOver K C = true
  sa : PySem.W.findIn K (.ref C) "__setattr__" = some (some (.builtin "object.__setattr__"))
theorem Cls.get {K : PySem.W.Frag} {C : Addr} (c : Cls K C) (f : Str) : PySem.W.plainGet K C f = true := c.pg
structure Con (K : PySem.W.Frag) (C : Addr) (f : Str) (v : V) (u : Value) : Prop where
  at_ : PySem.W.findIn K (.ref C) f = some (some u)
  rel : RelV v u
  get : PySem.W.specialIn K u "__get__" = some none
  cp : PySem.W.copiedNames.contains f = false
structure Meth (K : PySem.W.Frag) (C : Addr) (m : Str) (f : Addr) : Prop where
  at_ : PySem.W.findIn K (.ref C) m = some (some (.ref f))
  fn : PySem.W.isFn K (.ref f) = true
  kp : PySem.W.keepIn K (.ref f) = true
section
variable {X : Cx} {pins : List (Addr × Obj)} {σ : St} {H : Hp} {s : Shared} {a C dx : Addr} {fs : List (Str × V)} {f : Str} {v : V} {A : Around} {E : Value → Shared → Prop}
end
section
variable {X : Cx} {o e value : Expr} {f : Str} {pos pos' tpos : Pos} {ta tv : TE}
end
section
variable {X : Cx} {pins : List (Addr × Obj)} {σ : St} {H : Hp} {s : Shared} {A : Around} {E : Value → Shared → Prop} {Q : Value → Shared → Prop} {c : Value} {b : Bool}
inductive TyOf (K : PySem.W.Frag) (H : Hp) : V → Value → Prop where
  | non : TyOf K H .non (.type "NoneType")
  | bl (x : Bool) : TyOf K H (.bl x) (.type "bool")
  | int (i : Int) : TyOf K H (.int i) (.type "int")
  | str (x : Str) : TyOf K H (.str x) (.type "str")
  | flt (x : UInt64) : TyOf K H (.flt x) (.type "float")
  | lst {a : Addr} {xs : List V} (e : H a = some (.lst xs)) : TyOf K H (.ref a) (.type "list")
  | frz {a : Addr} {o : Obj} {xs : List V} (e : H a = some (.frz o (.lst xs))) : TyOf K H (.ref a) (.type "list")
  | tup {a : Addr} {xs : List V} (e : H a = some (.tup xs)) : TyOf K H (.ref a) (.type "tuple")
  | dK {a : Addr} {kvs : List (Key × V)} (e : H a = some (.dK kvs)) : TyOf K H (.ref a) (.type "dict")
  | dT {a : Addr} {kvs : List (List Key × V)} (e : H a = some (.dT kvs)) : TyOf K H (.ref a) (.type "dict")
  | ins {a C dx : Addr} {fs : List (Str × V)} (e : H a = some (.ins C dx fs)) (cl : Cls K C) (ha : PySem.W.findIn K (.ref C) "__class__" = some (some (.builtin "object.__class__")))
      (hn : PySem.W.specialIn K (.builtin "object.__class__") "__get__" = some (some (.builtin "getset_descriptor.__get__"))) (htk : PySem.W.takesIn K (.builtin "object.__class__") = some true)
      (hm : PySem.W.mroIn K C (.type "object") = some true) : TyOf K H (.ref a) (.ref C)
theorem isinst_ok {x : V} {u t : Value} (I : Inv X pins σ H s) (rx : RelV x u) (ty : TyOf X.K H x t) (e : PySem.W.kitOne X.K t c = some b) (h : ∀ tk, Q (.bool b) { s with toks := tk }) :
    wpAny (model X.prog X.w) A (call (.builtin "isinstance") [u, c]) Q E s := by
  cases ty with
  | non => cases (show u = Value.none from rx); exact PySem.W.kia_one PySem.W.kitx_none I.kIn True.intro e (fun z => nomatch z) h
  | bl y => cases (show u = Value.bool y from rx); exact PySem.W.kia_one PySem.W.kitx_bool I.kIn True.intro e (fun z => nomatch z) h
  | int i => obtain ⟨t, q⟩ := (show ∃ t, u = Value.int i t from rx); cases q; exact PySem.W.kia_one PySem.W.kitx_int I.kIn True.intro e (fun z => nomatch z) h
  | str y => obtain ⟨t, q⟩ := (show ∃ t, u = Value.str y t from rx); cases q; exact PySem.W.kia_one PySem.W.kitx_str I.kIn True.intro e (fun z => nomatch z) h
  | flt y => obtain ⟨t, q⟩ := (show ∃ t, u = Value.float y t from rx); cases q; exact PySem.W.kia_one PySem.W.kitx_float I.kIn True.intro e (fun z => nomatch z) h
  | @lst a xs ea =>
    cases (show u = Value.ref a from rx)
    obtain ⟨_, _, n, _, h1⟩ := (show ObjOk X.prog X.w H s.heap a (.lst xs) from I.hok a _ ea)
    exact PySem.W.kia_one PySem.W.kitx_list I.kIn ⟨_, h1, rfl⟩ e (fun z => nomatch z) h
  | @frz a ob xs ea =>
    cases (show u = Value.ref a from rx)
    obtain ⟨_, _, _, n, _, h1⟩ := (show ObjOk X.prog X.w H s.heap a (.frz ob (.lst xs)) from I.hok a _ ea)
    exact PySem.W.kia_one PySem.W.kitx_list I.kIn ⟨_, h1, rfl⟩ e (fun z => nomatch z) h
  | @tup a xs ea =>
    cases (show u = Value.ref a from rx)
    obtain ⟨_, _, _, p⟩ := (show ObjOk X.prog X.w H s.heap a (.tup xs) from I.hok a _ ea)
    obtain ⟨o, h1, h2, _⟩ := p
    exact PySem.W.kia_one PySem.W.kitx_tuple I.kIn ⟨o, h1, h2⟩ e (fun z => nomatch z) h
  | @dK a kvs ea =>
    cases (show u = Value.ref a from rx)
    obtain ⟨_, _, vs, _, p⟩ := (show ObjOk X.prog X.w H s.heap a (.dK kvs) from I.hok a _ ea)
    obtain ⟨o, es, ep, h1, h2, _⟩ := p
    exact PySem.W.kia_one PySem.W.kitx_dict I.kIn ⟨o, h1, h2.1⟩ e (fun z => nomatch z) h
  | @dT a kvs ea =>
    cases (show u = Value.ref a from rx)
    obtain ⟨_, _, xs, _, o, es, ep, h1, h2, _⟩ := (show ObjOk X.prog X.w H s.heap a (.dT kvs) from I.hok a _ ea)
    exact PySem.W.kia_one PySem.W.kitx_dict I.kIn ⟨o, h1, h2.1⟩ e (fun z => nomatch z) h
  | @ins a C dx fs ea cl ha hn htk hm =>
    cases (show u = Value.ref a from rx)
    obtain ⟨mA, O, _⟩ := ins_get I.hok ea
    obtain ⟨od, J, _⟩ := O.look
    exact PySem.W.kia_one (PySem.W.kitx_own (cl.get _) cl.hd ha hn htk hm) I.kIn J e (fun z => nomatch z) h
end
end L2
namespace L2
open PySem PySem.Spec PyProof.Rows
structure Room (k : Nat) (A : Around) : Prop where
  hd : A.handled = none
  dp : A.depth + 3 * k + 5 < recursionLimit
  un : A.units + 16 * k + 200 < cLine
theorem Room.mono {j k : Nat} {A : Around} (r : Room k A) (h : j ≤ k) : Room j A := ⟨r.hd, by have := r.dp; omega, by have := r.un; omega⟩
theorem Room.deeper {k : Nat} {A : Around} (r : Room (k + 1) A) (env : Env) : Room k (A.deeper env) :=
  ⟨r.hd, by have := r.dp; show A.depth + 1 + 3 * k + 5 < _; omega, by have := r.un; show A.units + 3 + 16 * k + 200 < _; omega⟩
theorem Room.depth {k : Nat} {A : Around} (r : Room k A) : A.depth < recursionLimit := by have := r.dp; omega
theorem Room.units {k : Nat} {A : Around} (r : Room k A) : A.units + 64 < cLine := by have := r.un; omega
noncomputable def tNil : TA := fun _ H Q => Q [] H
noncomputable def tCons (ta : TE) (tr : TA) : TA := fun σ H Q => ta σ H fun x H1 => tr σ H1 fun xs H2 => Q (x :: xs) H2
section
variable {X : Cx} {e : Expr} {es : List Expr} {te : TE} {t : TA} {pos : Pos}
theorem pa_nil : PA X [] tNil := fun _ _ _ _ H Q I h => Calls.spliced_nil ⟨[], H, I, .nil, h⟩
theorem pa_cons (ha : PE X e te) (hr : PA X es t) (hs : starEach (e :: es) X.env = (false, eval e X.env) :: starEach es X.env := by rfl) : PA X (e :: es) (tCons te t) := by
  intro pos pins s σ H Q I h
  rw [hs]
  show wpAny _ _ (spliced ((false, eval e X.env) :: backTo pos (starEach es X.env))) _ _ s
  refine Calls.spliced_cons (thn (ha pins s σ H _ I h) fun u s1 ⟨x, H1, I1, r1, q1⟩ => ?_)
  exact thn (hr pos pins s1 σ H1 _ I1 q1) fun us s2 ⟨xs, H2, I2, r2, q2⟩ => ⟨x :: xs, H2, I2, .cons r1 r2, q2⟩
noncomputable def tTup (t : TA) : TE := fun σ H Q => t σ H fun xs H1 => xs.length ≤ sizeLine ∧ ∀ p, H1 p = none → Q (.ref p) (upd H1 p (.tup xs))
noncomputable def tLst (t : TA) : TE := fun σ H Q => t σ H fun xs H1 => xs.length ≤ sizeLine ∧ ∀ p, H1 p = none → Q (.ref p) (upd H1 p (.lst xs))
theorem pe_tup {x1} (h : PA X es t) : PE X (.Tuple es x1 pos) (tTup t) := by
  intro pins s σ H Q I hq
  refine wpAny_Tuple_spliced (thn (h pos pins s σ H _ I hq) fun us s1 ⟨xs, H1, I1, r, z, q⟩ => ⟨by rw [← r.length]; exact z, ?_⟩)
  have hf : H1 s1.heap.objs.size = none := I1.hok.fresh (Nat.le_refl _)
  refine ⟨.ref s1.heap.objs.size, upd H1 s1.heap.objs.size (.tup xs), I1.laid (t' := s1.toks) (fun b u e => Heap.get?_push_of_some _ e) (Nat.le_refl _) ?_, rfl, q _ hf⟩
  exact ⟨z, us, r, ⟨_, Heap.get?_push_size _ rfl, rfl, _, rfl⟩⟩
theorem pe_lst (h : PA X es t) : PE X (.List es pos) (tLst t) := by
  intro pins s σ H Q I hq
  refine wpAny_List_spliced (thn (h pos pins s σ H _ I hq) fun us s1 ⟨xs, H1, I1, r, z, q⟩ => ⟨by rw [← r.length]; exact z, ?_⟩)
  have hf : H1 s1.heap.objs.size = none := I1.hok.fresh (Nat.le_refl _)
  refine ⟨.ref s1.heap.objs.size, upd H1 s1.heap.objs.size (.lst xs), I1.laid (t' := s1.toks) (fun b u e => Heap.get?_push_of_some _ e) (Nat.le_refl _) ?_, rfl, q _ hf⟩
  exact ⟨z, us, 0, r, Heap.get?_push_size _ rfl⟩
end
noncomputable abbrev Sp := List V → Hp → VK → XK → Prop
noncomputable abbrev CXT := List Env → Hp → Shared → XK → Value → Shared → Prop
structure Env0 (P : Program) (w : World) (K : PySem.W.Frag) (mg : Str → Option Value) (base : Heap) (A : Around) (outer : List Env) (s : Shared) (H : Hp) : Prop where
  frames : A.frames = some outer
  mod : Mod K mg base
  bs : ∀ b o, base.get? b = some o → s.heap.get? b = some o ∧ H b = none
  bsz : base.objs.size ≤ s.heap.objs.size
  funs : s.heap.FunFrames base outer
  frf : ∀ b ∈ frs outer, H b = none
  hok : HOk P w H s.heap
  bare : AllBare s.gens
noncomputable def CE (outer : List Env) (P : Program) (w : World) (H : Hp) (s : Shared) (Q : VK) (u : Value) (s' : Shared) : Prop :=
  ∃ v H', s'.os = s.os ∧ AllBare s'.gens ∧ Un (frs outer) [] H H' s.heap s'.heap ∧ HOk P w H' s'.heap ∧ RelV v u ∧ Q v H'
noncomputable def CR (CX : CXT) (outer : List Env) (P : Program) (w : World) (H : Hp) (s : Shared) (Q : VK) (E : XK) (r : Result) (s' : Shared) : Prop :=
  match r with
  | .ok (.ret u) => CE outer P w H s Q u s'
  | .ok _ => False
  | .error e => CX outer H s E e s'
structure FnOk (P : Program) (w : World) (K : PySem.W.Frag) (mg : Str → Option Value) (base : Heap) (CX : CXT) (k : Nat) (f : Addr) (fd : FuncData) (ps : List Str) (sp : Sp) : Prop where
  len : ∀ vs H Q E, sp vs H Q E → vs.length = ps.length
  run : ∀ (A : Around) (outer : List Env) (s : Shared) (H : Hp) (args : Args) (us : List Value) (vs : List V) (Q : VK) (E : XK), Room k A → Env0 P w K mg base A outer s H → BindsTo s fd args (ps.zip us) → Vals vs us → sp vs H Q E →
    codeAny (model P w) A (.call (.ref f) args) (CR CX outer P w H s Q E) s
theorem FnOk.imp {P : Program} {w : World} {K : PySem.W.Frag} {mg : Str → Option Value} {base : Heap} {CX : CXT} {k : Nat} {f : Addr} {fd : FuncData} {ps : List Str} {sp sp' : Sp} (F : FnOk P w K mg base CX k f fd ps sp)
    (h : ∀ vs H Q E, sp' vs H Q E → sp vs H Q E) : FnOk P w K mg base CX k f fd ps sp' :=
  ⟨fun vs H Q E q => F.len vs H Q E (h _ _ _ _ q), fun A outer s H args us vs Q E hr he hb hv hs => F.run A outer s H args us vs Q E hr he hb hv (h _ _ _ _ hs)⟩
section
variable {X : Cx} {pins : List (Addr × Obj)} {σ : St} {H : Hp} {s s' : Shared}
theorem Inv.env0 (I : Inv X pins σ H s) : Env0 X.prog X.w X.K X.mg X.base X.A X.stack s H :=
  ⟨I.ok.frames, I.ok.mod, I.bs, Nat.le_trans I.ok.bsz I.sz, I.stack, I.stkFree, I.hok, I.bare⟩
theorem Inv.after {Q : VK} {u : Value} (I : Inv X pins σ H s) (h : CE X.stack X.prog X.w H s Q u s') : EP X pins σ Q u s' := by
  obtain ⟨v, H', os, bare, un, hok, r, q⟩ := h
  obtain ⟨hh, g, d, t, os'⟩ := s'
  obtain rfl : os' = s.os := os
  exact ⟨v, H', I.call (h' := hh) (g' := g) (d' := d) (t' := t) (ch := []) un hok bare (fun b z => absurd z (by simp)), r, q⟩
end
noncomputable def tCall (sp : Sp) (dvs : List V) (E : XK) (t : TA) : TE := fun σ H Q => t σ H fun vs H1 => sp (vs ++ dvs) H1 Q E
noncomputable def Binds (K : PySem.W.Frag) (fd : FuncData) (ps : List Str) (ds : List Value) : Prop :=
  ∀ (s : Shared) (us : List Value), K.In s.heap → (us ++ ds).length = ps.length → BindsTo s fd ⟨us, []⟩ (ps.zip (us ++ ds))
theorem Binds.all {K : PySem.W.Frag} {fd : FuncData} {ps : List Str} (h : ∀ us : List Value, us.length = ps.length → bindArgs fd ⟨us, []⟩ = pure (ps.zip us)) : Binds K fd ps [] := fun s us _ hl => by
  rw [List.append_nil] at hl ⊢
  exact .of_eq (h us hl)
noncomputable def Passes (CX : CXT) (X : Cx) (E : XK) : Prop := ∀ (pins : List (Addr × Obj)) (σ : St) (H : Hp) (s : Shared) (e : Value) (s' : Shared), Inv X pins σ H s → CX X.stack H s E e s' → X.xe e s'
section
variable {X : Cx} {CX : CXT} {k : Nat} {f C : Addr} {fd : FuncData} {ps : List Str} {sp : Sp} {dvs : List V} {ds : List Value} {E : XK} {x m : Str} {p pos apos : Pos} {e o : Expr} {es : List Expr} {ta : TE} {t : TA}
theorem run_fn {pins : List (Addr × Obj)} {σ : St} {H : Hp} {s : Shared} {Q : VK} {us : List Value} {vs : List V} (F : FnOk X.prog X.w X.K X.mg X.base CX k f fd ps sp) (hr : Room k X.A) (hb : Binds X.K fd ps ds) (hd : Vals dvs ds) (hx : Passes CX X E)
    (I : Inv X pins σ H s) (r : Vals vs us) (h : sp (vs ++ dvs) H Q E) : wpAny (model X.prog X.w) X.A (call (.ref f) us) (EP X pins σ Q) X.xe s := by
  have r2 : Vals (vs ++ dvs) (us ++ ds) := r.append hd
  have hl : (us ++ ds).length = ps.length := by rw [← r2.length]; exact F.len _ _ _ _ h
  refine wpAny_call (codeAny_mono (F.run X.A X.stack s H ⟨us, []⟩ (us ++ ds) (vs ++ dvs) Q E hr I.env0 (hb s us I.kIn hl) r2 h) fun r s' hq => ?_)
  cases r with
  | error e => exact hx pins σ H s e s' I hq
  | ok fl =>
    cases fl with
    | ret u => exact I.after hq
    | next => exact False.elim hq
    | brk => exact False.elim hq
    | cont => exact False.elim hq
theorem pe_call (F : FnOk X.prog X.w X.K X.mg X.base CX k f fd ps sp) (hr : Room k X.A) (hg : Gl X x) (hm : X.mg x = some (.ref f)) (hk : PySem.W.keepIn X.K (.ref f) = true) (hb : Binds X.K fd ps ds) (hd : Vals dvs ds) (hx : Passes CX X E)
    (ha : PA X (e :: es) t) (hdb : (x == ("__debug__" : Str)) = false := by decide) (he : starEach (e :: es) X.env = (false, eval e X.env) :: starEach es X.env := by rfl) (hpl : (backTo pos (starEach es X.env)).any (·.1) = false := by rfl) :
    PE X (.Call (.Name x p) (e :: es) [] pos) (tCall sp dvs E t) := by
  intro pins s σ H Q I h
  refine wpAny_Call_Name_kw (ld_glob I hg hm ?_ hdb)
  refine PySem.W.callWith_K (h₀ := X.base) I.ok.mod.kin hk (thn (ha pos pins s σ H _ I h) fun us s1 ⟨vs, H1, I1, r, q⟩ => ⟨I1.kIn, ?_⟩) he hpl
  exact run_fn F hr hb hd hx I1 r q
structure Mk (K : PySem.W.Frag) (C f : Addr) : Prop where
  makes : PySem.W.makesIn K C = true
  init : PySem.W.findIn K (.ref C) "__init__" = some (some (.ref f))
  fn : PySem.W.isFn K (.ref f) = true
  kp : PySem.W.keepIn K (.ref C) = true
end
section
variable {X : Cx} {CX : CXT} {k : Nat} {f C : Addr} {fd : FuncData} {ps ks : List Str} {sp : Sp} {E : XK} {x m : Str} {p pos apos kpos : Pos} {e o : Expr} {es : List Expr} {kws : List Keyword} {te ta : TE} {t tk : TA} {nm : Option Str}
structure KBinds (K : PySem.W.Frag) (fd : FuncData) (ps ks : List Str) (g : List Value → List Value → List Value) (gV : List V → List V → List V) : Prop where
  to : ∀ (s : Shared) (us ws : List Value), K.In s.heap → (g us ws).length = ps.length → BindsTo s fd ⟨us, ks.zip ws⟩ (ps.zip (g us ws))
  rel : ∀ {vs : List V} {us : List Value} {zs : List V} {ws : List Value}, Vals vs us → Vals zs ws → Vals (gV vs zs) (g us ws)
variable {g : List Value → List Value → List Value} {gV : List V → List V → List V}
end
structure FnScope (N P : List Str) (sc : Scope) : Prop where
  kind : sc.kind = .function
  co : sc.isCoroutine = false
  gen : sc.isGenerator = false
  nd : N.Nodup
  pre : N.take P.length = P
  par : ∀ x ∈ P, sc.names.lookup x = some .local ∨ sc.names.lookup x = some .cell
  nofree : ∀ y ∈ sc.names, y.2 ≠ .free
theorem bindL_out {kindOf : Str → Option NameKind} {x : Str} : ∀ {binds : List (Str × Value)} {m : Str → Option Value}, (∀ v, (x, v) ∉ binds) → bindL kindOf binds m x = m x
  | [], _, _ => rfl
  | (n, v) :: r, m, h => by
    unfold bindL
    rw [bindL_out fun w hw => h w (List.mem_cons_of_mem _ hw)]
    split
    · have : x ≠ n := by rintro rfl; exact h v List.mem_cons_self
      simp [this]
    · rfl
theorem bindC_out {kindOf : Str → Option NameKind} {x : Str} : ∀ {binds : List (Str × Value)} {m : Str → Option Value}, (∀ v, (x, v) ∉ binds) → bindC kindOf binds m x = m x
  | [], _, _ => rfl
  | (n, v) :: r, m, h => by
    unfold bindC
    rw [bindC_out fun w hw => h w (List.mem_cons_of_mem _ hw)]
    split
    · rfl
    · have : x ≠ n := by rintro rfl; exact h v List.mem_cons_self
      simp [this]
theorem bindL_get {kindOf : Str → Option NameKind} {x : Str} {v : Value} : ∀ {P : List Str} {vs : List Value} {i : Nat} {m : Str → Option Value}, P.Nodup → P[i]? = some x → vs[i]? = some v → kindOf x = some .local →
    bindL kindOf (P.zip vs) m x = some v
  | [], _, _, _, _, h, _, _ => by simp at h
  | _ :: _, [], _, _, _, _, h, _ => by simp at h
  | p :: P, w :: vs, 0, m, nd, h1, h2, hk => by
    simp at h1 h2; subst h1; subst h2
    show bindL kindOf ((p, w) :: P.zip vs) m p = _
    unfold bindL
    rw [bindL_out fun v hv => (List.nodup_cons.mp nd).1 (List.of_mem_zip hv).1, if_pos hk]
    simp
  | p :: P, w :: vs, i + 1, m, nd, h1, h2, hk => by
    show bindL kindOf ((p, w) :: P.zip vs) m x = _
    unfold bindL
    exact bindL_get (i := i) (List.nodup_cons.mp nd).2 (by simpa using h1) (by simpa using h2) hk
theorem bindC_get {kindOf : Str → Option NameKind} {x : Str} {v : Value} : ∀ {P : List Str} {vs : List Value} {i : Nat} {m : Str → Option Value}, P.Nodup → P[i]? = some x → vs[i]? = some v → kindOf x ≠ some .local →
    bindC kindOf (P.zip vs) m x = some v
  | [], _, _, _, _, h, _, _ => by simp at h
  | _ :: _, [], _, _, _, _, h, _ => by simp at h
  | p :: P, w :: vs, 0, m, nd, h1, h2, hk => by
    simp at h1 h2; subst h1; subst h2
    show bindC kindOf ((p, w) :: P.zip vs) m p = _
    unfold bindC
    rw [bindC_out fun v hv => (List.nodup_cons.mp nd).1 (List.of_mem_zip hv).1, if_neg hk]
    simp
  | p :: P, w :: vs, i + 1, m, nd, h1, h2, hk => by
    show bindC kindOf ((p, w) :: P.zip vs) m x = _
    unfold bindC
    exact bindC_get (i := i) (List.nodup_cons.mp nd).2 (by simpa using h1) (by simpa using h2) hk
noncomputable def start (N : List Str) (vs : List V) : St := vs.map some ++ List.replicate (N.length - vs.length) none
noncomputable def cxOf (CX : CXT) (P : Program) (w : World) (K : PySem.W.Frag) (mg : Str → Option Value) (base : Heap) (N : List Str) (qual : Str) (scope : Scope) (f : Addr) (cd : Value) (A : Around) (outer : List Env) (s : Shared) (H : Hp) (E : XK) : Cx where
  prog := P
  w := w
  K := K
  mg := mg
  base := base
  A := A.deeper (envOfC qual scope s.heap.objs.size f cd)
  N := N
  s₀ := s
  H₀ := H
  env := envOfC qual scope s.heap.objs.size f cd
  outer := outer
  stack := envOfC qual scope s.heap.objs.size f cd :: outer
  ex := []
  calm := true
  fn := fun _ => true
  pn := []
  xe := fun e s' => wpAny (model P w) (A.deeper (envOfC qual scope s.heap.objs.size f cd)) (leaving (envOfC qual scope s.heap.objs.size f cd) e) (fun _ s'' => CX outer H s E e s'') (fun e' s'' => CX outer H s E e' s'') s'
theorem cell_has {sc : Scope} {n : Nat} {x : Str} (h : sc.names.lookup x = some .cell) : ∃ c, (cellsFrom n sc.names []).lookup x = some c := by
  have q := PySem.W.cellsFrom_some sc.names n [] (.inl h)
  exact Option.isSome_iff_exists.mp q
theorem inv_start {CX : CXT} {P : Program} {w : World} {K : PySem.W.Frag} {mg : Str → Option Value} {base : Heap} {N ps : List Str} {qual : Str} {scope : Scope} {f : Addr} {cd : Value} {A : Around} {outer : List Env} {s s1 : Shared} {H : Hp} {E : XK} {us : List Value} {vs : List V}
    (S : FnScope N ps scope) (hd : A.handled = none) (e0 : Env0 P w K mg base A outer s H) (hl : vs.length = ps.length) (r : Vals vs us)
    (x : InCallC s s.heap.objs.size (bindL (envOfC qual scope s.heap.objs.size f cd).kindOf (ps.zip us) fun _ => none) (cellsFrom (s.heap.objs.size + 1) scope.names []) (bindC (envOfC qual scope s.heap.objs.size f cd).kindOf (ps.zip us) fun _ => none) s1) :
    Inv (cxOf CX P w K mg base N qual scope f cd A outer s H E) [] (start N vs) H s1 := by
  have hpl : ps.length ≤ N.length := by have := congrArg List.length S.pre; rw [List.length_take] at this; omega
  obtain ⟨h1, tk, rfl, hk⟩ := x.done
  have noA : ∀ b : Addr, b ∉ (cxOf CX P w K mg base N qual scope f cd A outer s H E).ex := fun b z => absurd (show b ∈ ([] : List Addr) from z) (by simp)
  refine ⟨⟨e0.mod, S.kind, rfl, rfl, Nat.le_refl _, fun y z c h1 h2 => ?_, fun y hy => ?_, fun y c _ h => ?_, fun _ => hd, Around.frames_deeper e0.frames, .inr ⟨rfl, rfl⟩, fun b z => absurd z (noA b), e0.bs, e0.bsz, fun b _ _ => noA b, fun b z => absurd z (noA b), e0.funs, e0.frf⟩,
    rfl, e0.bare, Un.kept hk, ⟨_, x.toInCall.ns, fun i y v h1 h2 h3 => ?_⟩, fun y c h => ⟨_, x.cell y c h⟩, e0.hok.fresh (Nat.le_refl _), fun y c h => ?_, fun p hp => absurd (show p ∈ ([] : List (Addr × Obj)) from hp) (by simp), e0.hok.kept hk, ?_⟩
  · exact name_of_addr x.apart (PySem.mem_of_lookup h1) (PySem.mem_of_lookup h2)
  · have hy : scope.names.lookup y = some .cell ∨ scope.names.lookup y = some .free := hy
    rcases hy with hy | hy
    · exact cell_has hy
    · exact absurd rfl (S.nofree _ (PySem.mem_of_lookup hy))
  · exact Nat.le_of_lt (x.above y c (PySem.mem_of_lookup h))
  · have hi : i < vs.length := by
      unfold start at h2
      by_cases hi : i < vs.length
      · exact hi
      · rw [List.getElem?_append_right (by simpa using hi)] at h2
        rw [List.getElem?_replicate] at h2
        split at h2 <;> cases h2
    have ha : vs[i]? = some v := by
      unfold start at h2
      rw [List.getElem?_append_left (by simpa using hi), List.getElem?_map] at h2
      cases e : vs[i]? with
      | none => rw [e] at h2; cases h2
      | some a => rw [e] at h2; cases h2; rfl
    obtain ⟨u, hu, rv⟩ := r.get ha
    have hp : ps[i]? = some y := by
      rw [← S.pre, List.getElem?_take_of_lt (by omega)]; exact h1
    have ndP : ps.Nodup := by rw [← S.pre]; exact S.nd.sublist (List.take_sublist _ _)
    refine ⟨u, rv, ?_⟩
    rcases S.par y (List.mem_of_getElem? hp) with k | k
    · exact .inl ⟨k, bindL_get ndP hp hu k⟩
    · obtain ⟨c, e⟩ := cell_has (n := s.heap.objs.size + 1) k
      refine .inr ⟨.inl k, c, e, ?_⟩
      have q := x.cell y c e
      rw [bindC_get ndP hp hu (by show scope.names.lookup y ≠ _; rw [k]; decide)] at q
      exact q
  · exact e0.hok.fresh (Nat.le_of_lt (x.above y c (PySem.mem_of_lookup h)))
  · unfold start
    show _ = N.length
    rw [List.length_append, List.length_map, List.length_replicate]
    omega
theorem fn_of {CX : CXT} {P : Program} {w : World} {K : PySem.W.Frag} {mg : Str → Option Value} {base : Heap} {k : Nat} {f : Addr} {name qual : Str} {params : Arguments} {body : List Stmt} {scope : Scope} {dV kV doc pm cdv ct oc : Value} {an od : Option Addr}
    {osl : Array (Option Value)} {N ps : List Str} {sp : Sp} (lk : K.lookup f = some ⟨oc, od, .func (PySem.W.fnOf name qual params body scope dV kV doc pm an cdv ct), osl⟩) (hcd : PySem.W.codeIn K cdv qual = true) (S : FnScope N ps scope)
    (len : ∀ vs H Q E, sp vs H Q E → vs.length = ps.length)
    (hbody : ∀ (A : Around) (outer : List Env) (s : Shared) (H : Hp) (vs : List V) (Q : VK) (E : XK), Room k (A.deeper (envOfC qual scope s.heap.objs.size f cdv)) → sp vs H Q E →
      ∃ t, PSs (cxOf CX P w K mg base N qual scope f cdv A outer s H E) body t ∧ t { nx := fun _ H' => Q .non H', rt := Q } (start N vs) H) :
    FnOk P w K mg base CX (k + 1) f (PySem.W.fnOf name qual params body scope dV kV doc pm an cdv ct) ps sp := by
  refine ⟨len, fun A outer s H args us vs Q E hr e0 hb r hsp => ?_⟩
  have hl := len _ _ _ _ hsp
  have KX : K.In s.heap := e0.mod.kin.keeps fun b o e => (e0.bs b o e).1
  have lim : s.heap.NoLimit := e0.mod.nolimit.keeps fun b o e => (e0.bs b o e).1
  have hkind : ∀ y ∈ ps.zip us, scope.names.lookup y.1 = some .local ∨ (scope.names.lookup y.1 = some .cell ∧ ((cellsFrom (s.heap.objs.size + 1) scope.names []).lookup y.1).isSome = true) := fun ⟨n, v⟩ hy => by
    rcases S.par n (List.of_mem_zip hy).1 with q | q
    · exact .inl q
    · exact .inr ⟨q, PySem.W.cellsFrom_some _ _ _ (.inl q)⟩
  refine codeAny_call_function hr.depth (KX _ _ lk) rfl S.co S.gen rfl (PySem.W.codeRec_of KX hcd) (hb _ _ _ _ ?_)
  refine wpAny_newFunctionEnv_cells S.kind hkind fun env he s1 x => ?_
  subst he
  refine ⟨lim.keeps x.toInCall.keep, codeAny_func ?_⟩
  obtain ⟨t, ht, hq⟩ := hbody A outer s H vs Q E (hr.deeper _) hsp
  have I : Inv (cxOf CX P w K mg base N qual scope f cdv A outer s H E) [] (start N vs) H s1 := inv_start S hr.hd e0 hl r x
  refine wpAny_mono (ht [] s1 (start N vs) H _ I hq) (fun fl s' hs => ?_) fun e s' hs => hs
  have fin : ∀ {σ' : St} {H' : Hp} {v : V} {u : Value}, Inv (cxOf CX P w K mg base N qual scope f cdv A outer s H E) [] σ' H' s' → RelV v u → Q v H' → CE outer P w H s Q u s' :=
    fun {σ' H' v u} J rv q => ⟨v, H', J.os, J.bare, J.base, J.hok, rv, q⟩
  cases fl with
  | ret u =>
    obtain ⟨v, σ', H', J, rv, q⟩ := hs
    exact fin J rv q
  | next =>
    obtain ⟨σ', H', J, q⟩ := hs
    exact fin (v := V.non) (u := Value.none) J rfl q
  | brk =>
    obtain ⟨_, _, _, q⟩ := hs
    exact False.elim q
  | cont =>
    obtain ⟨_, _, _, q⟩ := hs
    exact False.elim q
end L2
namespace L2
open PySem PySem.Spec PyProof.Rows
section
variable {X : Cx} {x : Str} {p pos : Pos} {e : Expr} {es : List Expr} {t : TA} {id T : String} {r : List V → Hp → VK → Prop}
noncomputable def tCB (r : List V → Hp → VK → Prop) (t : TA) : TE := fun σ H Q => t σ H fun vs H1 => r vs H1 Q
theorem pe_callB (hc : CallR X (.builtin id) r) (hg : Gl X x) (hm : X.mg x = none) (hv : bootBuiltins x = some (.builtin id)) (ha : PA X (e :: es) t) (hn : x ≠ "__name__" := by decide) (hdb : (x == ("__debug__" : Str)) = false := by decide)
    (he : starEach (e :: es) X.env = (false, eval e X.env) :: starEach es X.env := by rfl) (hpl : (backTo pos (starEach es X.env)).any (·.1) = false := by rfl) : PE X (.Call (.Name x p) (e :: es) [] pos) (tCB r t) := by
  intro pins s σ H Q I h
  refine wpAny_Call_Name_kw (ld_blt I hg hm hv ?_ hn hdb)
  exact PyProof.Rows.callWith_builtin1 (thn (ha pos pins s σ H _ I h) fun us s1 ⟨vs, H1, I1, r1, q1⟩ => hc pins s1 σ H1 vs us Q I1 r1 q1) he hpl
theorem pe_callTy (hc : CallR X (.type T) r) (hg : Gl X x) (hm : X.mg x = none) (hv : bootBuiltins x = some (.type T)) (ha : PA X (e :: es) t) (hn : x ≠ "__name__" := by decide) (hdb : (x == ("__debug__" : Str)) = false := by decide)
    (he : starEach (e :: es) X.env = (false, eval e X.env) :: starEach es X.env := by rfl) (hpl : (backTo pos (starEach es X.env)).any (·.1) = false := by rfl) : PE X (.Call (.Name x p) (e :: es) [] pos) (tCB r t) := by
  intro pins s σ H Q I h
  refine wpAny_Call_Name_kw (ld_blt I hg hm hv ?_ hn hdb)
  exact PyProof.Rows.callWith_type1 (thn (ha pos pins s σ H _ I h) fun us s1 ⟨vs, H1, I1, r1, q1⟩ => hc pins s1 σ H1 vs us Q I1 r1 q1) he hpl
end
end L2
namespace HT
open PySem PyProof.Rows
section
open PySem.SeqAt
open PySem.AutoSeq1 (wpAny_loadPart')
open PySem.MeetsSeq PySem.MeetsSeq2 PySem.MeetsSeq3
end
section
variable {prog : Program} {w : World} {A : Around} {E : Value → Shared → Prop} {s : Shared}
theorem cat_tup {t b : Addr} {vs ws : List Value} {Q : Value → Shared → Prop} (ht : IsTup s.heap t vs.toArray) (hb : IsTup s.heap b ws.toArray) (hv : vs ≠ [])
    (h1 : ws = [] → Q (.ref t) s) (h2 : ws ≠ [] → Q (.ref s.heap.objs.size) { s with heap := s.heap.push { cls := .type "tuple", data := .seq (vs ++ ws).toArray } })
    (hsz : vs.length + ws.length ≤ sizeLine) : wpAny (model prog w) A (binaryOp .Add (.ref t) (.ref b)) Q E s := by
  obtain ⟨⟨cls, dd, data, sl⟩, ho, hc, n, hd⟩ := id ht
  obtain ⟨⟨cls2, dd2, data2, sl2⟩, ho2, hc2, n2, hd2⟩ := id hb
  simp only at hc hd hc2 hd2
  subst hc hd hc2 hd2
  have e : vs.toArray ++ ws.toArray = (vs ++ ws).toArray := by simp
  by_cases hw : ws = []
  · exact concat_meets ⟨_, ho, rfl⟩ ⟨_, ho2, rfl⟩ noFill_tuple_add seq_tuple_add PySem.F.slot_tuple_add PySem.F.entry_tuple_add (PySem.F.args_tuple_add_2 _ _)
      (tuple_addW1 t b vs.toArray ws.toArray n n2 dd dd2 sl sl2 (by simpa using hv) (by simp [hw])) ⟨ho, ho2, h1 hw⟩
  · refine concat_meets ⟨_, ho, rfl⟩ ⟨_, ho2, rfl⟩ noFill_tuple_add seq_tuple_add PySem.F.slot_tuple_add PySem.F.entry_tuple_add (PySem.F.args_tuple_add_2 _ _)
      (tuple_addW2 t b vs.toArray ws.toArray n n2 dd dd2 sl sl2 (by simpa using hv) (by simpa using hw) (by rw [List.size_toArray, List.size_toArray]; exact hsz)) ⟨ho, ho2, ?_⟩
    rw [e]
    exact h2 hw
noncomputable def sIx (n d : Nat) : Option Int → Nat
  | none => d
  | some v => if v < 0 then (v + (n : Int)).toNat else min v.toNat n
theorem sIx_none (n d : Nat) : sIx n d none = d := rfl
theorem sIx_nat (n d k : Nat) : sIx n d (some (k : Int)) = min k n := by
  show (if (k : Int) < 0 then ((k : Int) + (n : Int)).toNat else min (k : Int).toNat n) = min k n
  rw [if_neg (by omega), Int.toNat_natCast]
theorem sIx_le (n d : Nat) (hd : d ≤ n) (o : Option Int) : sIx n d o ≤ n := by
  cases o with
  | none => exact hd
  | some v =>
    show (if v < 0 then (v + (n : Int)).toNat else min v.toNat n) ≤ n
    by_cases hv : v < 0
    · rw [if_pos hv]; omega
    · rw [if_neg hv]; exact Nat.min_le_right _ _
theorem clip_eq (v : Int) (n d : Nat) : (if v < 0 then max (v + (n : Int)) 0 else min v (n : Int)) = ((sIx n d (some v) : Nat) : Int) := by
  show (if v < 0 then max (v + (n : Int)) 0 else min v (n : Int)) = (((if v < 0 then (v + (n : Int)).toNat else min v.toNat n) : Nat) : Int)
  by_cases hv : v < 0
  · simp only [if_pos hv]; omega
  · simp only [if_neg hv]; omega
theorem adjust_gen (lo hi : Option Int) (n : Nat) : Builtin.Slice.sliceAdjust lo hi 1 (n : Int) = (((sIx n 0 lo : Nat) : Int), ((sIx n n hi : Nat) : Int)) := by
  have h1 : ¬ ((1 : Int) < 0) := by omega
  unfold Builtin.Slice.sliceAdjust
  simp only [h1, if_false]
  refine Prod.ext ?_ ?_
  · cases lo with
    | none => rfl
    | some v => exact clip_eq v n 0
  · cases hi with
    | none => rfl
    | some v => exact clip_eq v n n
theorem places_gen (i j : Nat) : Builtin.Slice.slicePlaces (i : Int) (j : Int) 1 = j - i := by
  unfold Builtin.Slice.slicePlaces
  have h1 : (1 : Int) > 0 := by omega
  simp only [h1, if_true, Int.ediv_one]
  split <;> omega
theorem slicePart_ {v : Value} {o : Option Int} {Q : Option Int → Shared → Prop} (p : IsPart v o) (h : Q o s) : wpAny (model prog w) A (Builtin.Slice.slicePartIndex v) Q E s := by
  cases p with
  | none => exact slicePart_none h
  | int i t => exact slicePart_int h
theorem sliceApplied_gen {sl : Addr} {vl vu : Value} {lo hi : Option Int} {n : Nat} {Q : Int × Int × Nat → Shared → Prop} (hs : s.heap.IsSliceOf sl vl vu .none) (pl : IsPart vl lo) (pu : IsPart vu hi)
    (h : Q (((sIx n 0 lo : Nat) : Int), 1, sIx n n hi - sIx n 0 lo) s) : wpAny (model prog w) A (Builtin.Slice.sliceApplied (.ref sl) (pure (n : Int))) Q E s := by
  obtain ⟨os, hos, hcs, hds⟩ := id hs
  unfold Builtin.Slice.sliceApplied Builtin.Slice.sliceFields
  refine wpAny_bind (wpAny_bind (wpAny_field hos hds (x := vl) rfl (wpAny_bind (wpAny_field hos hds (x := vu) rfl (wpAny_bind (wpAny_field hos hds (x := .none) rfl (wpAny_pure ?_)))))))
  refine wpAny_bind (slicePart_none ?_)
  show wpAny _ _ (if ((1 : Int) == 0) = true then _ else _) _ _ s
  rw [if_neg (by decide)]
  refine wpAny_bind (slicePart_ pl (wpAny_bind (slicePart_ pu (wpAny_bind (wpAny_pure ?_)))))
  show wpAny _ _ (match Builtin.Slice.sliceAdjust lo hi 1 (n : Int) with | (lo, hi) => pure (lo, (1 : Int), Builtin.Slice.slicePlaces lo hi 1)) _ _ s
  rw [adjust_gen lo hi n]
  show wpAny _ _ (pure (((sIx n 0 lo : Nat) : Int), (1 : Int), Builtin.Slice.slicePlaces ((sIx n 0 lo : Nat) : Int) ((sIx n n hi : Nat) : Int) 1)) _ _ s
  rw [places_gen]
  exact wpAny_pure h
theorem pick_gen (xs : Array Value) (i k : Nat) : ((List.range k).filterMap fun (m : Nat) => xs[((i : Int) + (m : Int) * 1).toNat]?).toArray = ((xs.toList.drop i).take k).toArray := by
  have e : (fun (m : Nat) => xs[((i : Int) + (m : Int) * 1).toNat]?) = fun m => xs[i + m]? := by
    funext m
    have : ((i : Int) + (m : Int) * 1).toNat = i + m := by omega
    rw [this]
  rw [e]
  have := pick_run xs i k
  rw [List.filterMap_map] at this
  have e2 : ((fun x => xs[x]?) ∘ fun x => i + x) = fun m => xs[i + m]? := rfl
  rw [e2] at this
  rw [this]
theorem getItem_tuple_cut {t sl : Addr} {items : Array Value} {vl vu : Value} {lo hi : Option Int} {Q : Value → Shared → Prop} (ht : IsTup s.heap t items) (hs : s.heap.IsSliceOf sl vl vu .none) (pl : IsPart vl lo) (pu : IsPart vu hi)
    (hw : ¬ (sIx items.size 0 lo = 0 ∧ sIx items.size items.size hi = items.size))
    (h : Q (.ref s.heap.objs.size) { s with heap := s.heap.push { cls := .type "tuple", data := .seq ((items.toList.drop (sIx items.size 0 lo)).take (sIx items.size items.size hi - sIx items.size 0 lo)).toArray } })
    (hsz : items.size ≤ sizeLine) : wpAny (model prog w) A (getItem (.ref t) (.ref sl)) Q E s := by
  have htake : sizeOk (.seq ((items.toList.drop (sIx items.size 0 lo)).take (sIx items.size items.size hi - sIx items.size 0 lo)).toArray) := by
    show ((items.toList.drop (sIx items.size 0 lo)).take (sIx items.size items.size hi - sIx items.size 0 lo)).toArray.size ≤ sizeLine
    rw [List.size_toArray, List.length_take, List.length_drop, Array.length_toList]
    omega
  have hj : sIx items.size items.size hi ≤ items.size := sIx_le _ _ (Nat.le_refl _) hi
  obtain ⟨os, hos, hcs, hds⟩ := id hs
  have hTs : s.TypeIs (.ref sl) "slice" := ⟨os, hos, hcs⟩
  unfold getItem
  try with_reducible refine wpAny_holding ?_
  first | refine wpAny_bind (wpAny_pure ?_) | skip
  refine wpAny_bind (wpAny_sequenceKey ht.typeIs (by decide) ?_)
  refine wpAny_bind (wpAny_callSpecial?_slot (name := Str.ofString "__getitem__") ht.typeIs PyProof.Rows.slot_tuple_getitem
    (wpAny_call_entry PyProof.Rows.slot_tuple_getitem ht.typeIs entry_tuple_getitem ?_ (args_tuple_getitem _ _)))
  show wpAny _ _ (Builtin.Tuple.tupleItemsOf (.ref t) >>= _) _ _ s
  refine wpAny_bind (tupleItemsOf_ ht ?_)
  refine wpAny_bind (wpAny_typeOf hTs ?_)
  rw [if_pos (by decide)]
  refine wpAny_bind (sliceApplied_gen hs pl pu ?_)
  have hno : ¬ ((((sIx items.size 0 lo : Nat) : Int) == 0 && (1 : Int) == 1 && (sIx items.size items.size hi - sIx items.size 0 lo) == items.size) = true) := by
    intro q
    rw [Bool.and_eq_true, Bool.and_eq_true] at q
    have q1 : ((sIx items.size 0 lo : Nat) : Int) = 0 := eq_of_beq q.1.1
    have q2 : sIx items.size items.size hi - sIx items.size 0 lo = items.size := eq_of_beq q.2
    exact hw ⟨by omega, by omega⟩
  show wpAny _ _ (if (((sIx items.size 0 lo : Nat) : Int) == 0 && (1 : Int) == 1 && (sIx items.size items.size hi - sIx items.size 0 lo) == items.size) = true then _ else _) _ _ s
  rw [if_neg hno, pick_gen]
  first
    | exact wpAny_bind (m := Builtin.Tuple.tupleExact _) (wpAny_newObj_type (wpAny_pure ⟨_, rfl, wpAny_pure h⟩) htake)
    | exact wpAny_bind (m := Builtin.Tuple.tupleExact _) (wpAny_newObj_type (wpAny_bind (wpAny_pure (wpAny_pure ⟨_, rfl, wpAny_pure h⟩))) htake)
    | exact wpAny_bind (wpAny_bind (m := Builtin.Tuple.tupleExact _) (wpAny_newObj_type (wpAny_pure (wpAny_pure ⟨_, rfl, wpAny_pure h⟩)) htake))
    | exact wpAny_bind (wpAny_bind (m := Builtin.Tuple.tupleExact _) (wpAny_newObj_type (wpAny_pure ⟨_, rfl, wpAny_pure h⟩) htake))
end
end HT
namespace L2
open PySem PySem.Spec PyProof.Rows
noncomputable abbrev TO := St → Hp → (Option Int → Hp → Prop) → Prop
noncomputable def PO (X : Cx) (e : Option Expr) (t : TO) : Prop :=
  ∀ (pins : List (Addr × Obj)) (s : Shared) (σ : St) (H : Hp) (Q : Option Int → Hp → Prop), Inv X pins σ H s → t σ H Q →
    wpAny (model X.prog X.w) X.A (evalPart e X.env) (fun u s' => ∃ o H', Inv X pins σ H' s' ∧ IsPart u o ∧ Q o H') X.xe s
noncomputable def tNoPart : TO := fun _ H Q => Q none H
noncomputable def tPart (t : TE) : TO := fun σ H Q => t σ H fun x H1 => ∃ i, x = .int i ∧ Q (some i) H1
theorem intsAre_of {ns : List Int} : ∀ {us : List Value}, Vals (ns.map V.int) us → IntsAre us ns := by
  induction ns with
  | nil => intro us r; rw [List.map_nil] at r; cases r; exact .nil
  | cons n ns ih =>
    intro us r
    rw [List.map_cons] at r
    cases r with
    | cons r1 r2 =>
      obtain ⟨t, e⟩ := r1
      subst e
      exact .cons n t (ih r2)
section
variable {X : Cx} {e : Expr} {te : TE} {lo hi : Option Expr} {tl th : TO} {pos p2 : Pos}
theorem po_none : PO X none tNoPart := by
  intro pins s σ H Q I h
  rw [evalPart_none]
  exact wpAny_pure ⟨none, H, I, .none, h⟩
theorem po_some (h : PE X e te) : PO X (some e) (tPart te) := by
  intro pins s σ H Q I hw
  rw [evalPart_some]
  refine thn (h pins s σ H _ I hw) fun u s1 ⟨x, H1, I1, r1, q1⟩ => ?_
  obtain ⟨i, rfl, q⟩ := q1
  obtain ⟨t, rfl⟩ := r1
  exact ⟨some i, H1, I1, .int i t, q⟩
noncomputable def SlR (X : Cx) (r : V → Option Int → Option Int → Hp → VK → Prop) : Prop :=
  ∀ (pins : List (Addr × Obj)) (s : Shared) (σ : St) (H : Hp) (x : V) (v vl vu : Value) (lo hi : Option Int) (sl : Addr) (Q : VK), Inv X pins σ H s → RelV x v → s.heap.IsSliceOf sl vl vu .none → IsPart vl lo → IsPart vu hi → r x lo hi H Q →
    ∃ T id, typeLookup (.type T) "__getitem__" = pure (some (.builtin id)) ∧ s.TypeIs v T ∧ wpAny (model X.prog X.w) X.A (getItem v (.ref sl)) (EP X pins σ Q) X.xe s
theorem SlR.or {r r' : V → Option Int → Option Int → Hp → VK → Prop} (h : SlR X r) (h' : SlR X r') : SlR X (fun x lo hi H Q => r x lo hi H Q ∨ r' x lo hi H Q) := by
  intro pins s σ H x v vl vu lo hi sl Q I rx hs pl pu q
  rcases q with q | q
  · exact h pins s σ H x v vl vu lo hi sl Q I rx hs pl pu q
  · exact h' pins s σ H x v vl vu lo hi sl Q I rx hs pl pu q
noncomputable def tSl (r : V → Option Int → Option Int → Hp → VK → Prop) (te : TE) (tl th : TO) : TE := fun σ H Q => te σ H fun x H1 => tl σ H1 fun l H2 => th σ H2 fun u H3 => r x l u H3 Q
theorem pe_slice {r : V → Option Int → Option Int → Hp → VK → Prop} (hr : SlR X r) (he : PE X e te) (hl : PO X lo tl) (hu : PO X hi th) : PE X (.Subscript e (.Slice lo hi none p2) pos) (tSl r te tl th) := by
  intro pins s σ H Q I h
  refine Subscript_ (thn (he pins s σ H _ I h) fun v s1 ⟨x, H1, I1, r1, q1⟩ => ?_)
  refine wpAny_Slice (thn (hl pins s1 σ H1 _ I1 q1) fun vl s2 ⟨l, H2, I2, pl, q2⟩ => thn (hu pins s2 σ H2 _ I2 q2) fun vu s3 ⟨u, H3, I3, pu, q3⟩ => ?_)
  rw [evalPart_none]
  refine wpAny_pure ?_
  have I4 : Inv X pins σ H3 { s3 with heap := s3.heap.push { cls := .type "slice", data := .fields #[vl, vu, .none] } } := I3.kept (t' := s3.toks) fun b ob q => Heap.get?_push_of_some _ q
  obtain ⟨T, id, hT, ht, hg⟩ := hr pins { s3 with heap := s3.heap.push { cls := .type "slice", data := .fields #[vl, vu, .none] } } σ H3 x v vl vu l u s3.heap.objs.size Q I4 r1 (Heap.IsSliceOf.new ..) pl pu q3
  show wpAny (model X.prog X.w) X.A (subscriptTail e (.Slice lo hi none p2) v (.ref s3.heap.objs.size)) (EP X pins σ Q) X.xe { s3 with heap := s3.heap.push { cls := .type "slice", data := .fields #[vl, vu, .none] } }
  exact tail_any (ops := [.ref s3.heap.objs.size, v]) ht hT hg (by with_unfolding_all rfl)
noncomputable def cutV (xs : List V) (lo hi : Option Int) : List V := (xs.drop (HT.sIx xs.length 0 lo)).take (HT.sIx xs.length xs.length hi - HT.sIx xs.length 0 lo)
theorem cutV_length (xs : List V) (lo hi : Option Int) : (cutV xs lo hi).length ≤ xs.length := by
  unfold cutV
  rw [List.length_take, List.length_drop]
  omega
noncomputable def rSlT (K : PySem.W.Frag) : V → Option Int → Option Int → Hp → VK → Prop := fun x lo hi H Q => ∃ a xs, x = .ref a ∧ SqT K H a xs ∧
  ¬ (HT.sIx xs.length 0 lo = 0 ∧ HT.sIx xs.length xs.length hi = xs.length) ∧ ∀ p, H p = none → Q (.ref p) (upd H p (.tup (cutV xs lo hi)))
theorem sl_tup : SlR X (rSlT X.K) := by
  intro pins s σ H x v vl vu lo hi sl Q I rx hs pl pu h
  obtain ⟨a, xs, rfl, hx, hw, q⟩ := h
  cases rx
  obtain ⟨its, r, ht, hz⟩ := I.tuple hx
  have hlen : its.toArray.size = xs.length := by rw [List.size_toArray]; exact r.length.symm
  refine ⟨"tuple", _, PyProof.Rows.slot_tuple_getitem.lookup, ht.typeIs, ?_⟩
  refine HT.getItem_tuple_cut ht hs pl pu (by rw [hlen]; exact hw) ?_ (by rw [hlen]; exact hz)
  rw [hlen]
  refine ⟨.ref s.heap.objs.size, _, I.laid (t' := s.toks) (o := .tup (cutV xs lo hi)) (fun b ob q => Heap.get?_push_of_some _ q) (Nat.le_refl _) ?_, rfl, q _ (I.hok.fresh (Nat.le_refl _))⟩
  exact ⟨Nat.le_trans (cutV_length xs lo hi) hz, _, (r.drop (HT.sIx xs.length 0 lo)).take (HT.sIx xs.length xs.length hi - HT.sIx xs.length 0 lo), IsTup.new _ _⟩
noncomputable def rCatT (K : PySem.W.Frag) : R2 := fun x y H Q => ∃ a b xs ys, x = .ref a ∧ y = .ref b ∧ SqT K H a xs ∧ SqT K H b ys ∧ xs ≠ [] ∧ xs.length + ys.length ≤ sizeLine ∧
  (ys = [] → Q (.ref a) H) ∧ (ys ≠ [] → ∀ p, H p = none → Q (.ref p) (upd H p (.tup (xs ++ ys))))
theorem Vals.nil_iff {xs : List V} {us : List Value} (r : Vals xs us) : us = [] ↔ xs = [] := by
  cases r with
  | nil => simp
  | cons _ _ => simp
theorem op_catT : OpR X (binaryOp .Add) (rCatT X.K) := by
  intro pins s σ H x y v u Q I rx ry h
  obtain ⟨a, b, xs, ys, rfl, rfl, ha, hb, hx, hz, q1, q2⟩ := h
  cases rx
  cases ry
  obtain ⟨its, r1, p1, _⟩ := I.tuple ha
  obtain ⟨its2, r2, p2, _⟩ := I.tuple hb
  refine HT.cat_tup p1 p2 (fun z => hx (r1.nil_iff.mp z)) (fun z => ⟨.ref a, H, I, rfl, q1 (r2.nil_iff.mp z)⟩) (fun z => ?_) (by rw [← r1.length, ← r2.length]; exact hz)
  refine ⟨.ref s.heap.objs.size, _, I.laid (t' := s.toks) (o := .tup (xs ++ ys)) (fun b ob q => Heap.get?_push_of_some _ q) (Nat.le_refl _) ?_, rfl, q2 (fun w => z (r2.nil_iff.mpr w)) _ (I.hok.fresh (Nat.le_refl _))⟩
  exact ⟨by rw [List.length_append]; exact hz, _, r1.append r2, IsTup.new _ _⟩
theorem call_tupleT : CallR X (.type "tuple") (fun xs H Q => ∃ a ys, xs = [.ref a] ∧ SqT X.K H a ys ∧ Q (.ref a) H) := by
  intro pins s σ H xs us Q I r h
  obtain ⟨a, ys, rfl, ha, q⟩ := h
  obtain ⟨u, rfl, ru⟩ := vals1 r
  cases ru
  obtain ⟨its, _, p1, _⟩ := I.tuple ha
  exact call_tuple_same (items := its.toArray) p1 ⟨.ref a, H, I, rfl, q⟩
end
end L2
namespace L2
open PySem PySem.Spec PyProof.Rows
noncomputable def ixN (n : Nat) (i : Int) : Option Nat := if 0 ≤ i then (if i < n then some i.toNat else none) else if -(n : Int) ≤ i then some (i + n).toNat else none
noncomputable def atI {α : Type} (xs : List α) (i : Int) : Option α := (ixN xs.length i).bind fun j => xs[j]?
theorem ixN_seq {n : Nat} {i : Int} {j : Nat} (h : ixN n i = some j) : seqIndex? i n = some j ∧ j < n ∧ -(n : Int) ≤ i ∧ i < n := by
  unfold ixN at h
  by_cases h0 : 0 ≤ i
  · rw [if_pos h0] at h
    by_cases h1 : i < n
    · rw [if_pos h1] at h
      have e : i.toNat = j := Option.some.inj h
      exact ⟨by rw [seqIndex_of h0 h1, e], by omega, by omega, h1⟩
    · rw [if_neg h1] at h; cases h
  · rw [if_neg h0] at h
    by_cases h1 : -(n : Int) ≤ i
    · rw [if_pos h1] at h
      have e : (i + n).toNat = j := Option.some.inj h
      exact ⟨by rw [seqIndex_neg (by omega) h1, e], by omega, h1, by omega⟩
    · rw [if_neg h1] at h; cases h
theorem atI_get {α : Type} {xs : List α} {i : Int} {v : α} (h : atI xs i = some v) : ∃ j, seqIndex? i xs.length = some j ∧ xs[j]? = some v ∧ j < xs.length ∧ -(xs.length : Int) ≤ i ∧ i < xs.length := by
  unfold atI at h
  cases e : ixN xs.length i with
  | none => rw [e] at h; cases h
  | some j =>
    rw [e] at h
    obtain ⟨h1, h2, h3, h4⟩ := ixN_seq e
    exact ⟨j, h1, h, h2, h3, h4⟩
noncomputable def PlainIx (b : Expr) : Prop := ∀ o i, subscripted b false o i = operate [o, i] (getItem o i)
noncomputable def IxR (X : Cx) (r : R2) : Prop :=
  ∀ (value slice : Expr) (pins : List (Addr × Obj)) (s : Shared) (σ : St) (H : Hp) (x y : V) (v u : Value) (Q : VK), Inv X pins σ H s → RelV x v → RelV y u → r x y H Q →
    subscripted slice false v u = operate [v, u] (getItem v u) → wpAny (model X.prog X.w) X.A (subscriptTail value slice v u) (EP X pins σ Q) X.xe s
noncomputable def MtR (X : Cx) (id : String) (r : V → List V → Hp → VK → Prop) : Prop :=
  ∀ (pins : List (Addr × Obj)) (s : Shared) (σ : St) (H : Hp) (x : V) (xs : List V) (v : Value) (us : List Value) (Q : VK), Inv X pins σ H s → RelV x v → Vals xs us → r x xs H Q →
    wpAny (model X.prog X.w) X.A (call (.builtin id) (v :: us)) (EP X pins σ Q) X.xe s
section
variable {X : Cx} {a b : Expr} {ta tb : TE} {pos : Pos}
theorem IxR.or {r r' : R2} (h : IxR X r) (h' : IxR X r') : IxR X (fun x y H Q => r x y H Q ∨ r' x y H Q) := by
  intro value slice pins s σ H x y v u Q I rx ry q hs
  rcases q with q | q
  · exact h value slice pins s σ H x y v u Q I rx ry q hs
  · exact h' value slice pins s σ H x y v u Q I rx ry q hs
theorem pe_ix {r : R2} (hr : IxR X r) (ha : PE X a ta) (hb : PE X b tb) (hs : PlainIx b) : PE X (.Subscript a b pos) (tOp r ta tb) := by
  intro pins s σ H Q I h
  exact Subscript_ (binT ha hb I h fun v u s2 x y H2 I2 rx ry q => hr a b pins s2 σ H2 x y v u Q I2 rx ry q (hs _ _))
noncomputable def rIxL (K : PySem.W.Frag) : R2 := fun x y H Q => ∃ p xs i v, x = .ref p ∧ y = .int i ∧ SqL K H p xs ∧ atI xs i = some v ∧ Q v H
noncomputable def rIxT (K : PySem.W.Frag) : R2 := fun x y H Q => ∃ p xs i v, x = .ref p ∧ y = .int i ∧ SqT K H p xs ∧ atI xs i = some v ∧ Q v H
noncomputable def rIxS : R2 := fun x y H Q => ∃ z i c, x = .str z ∧ y = .int i ∧ z.length ≤ sizeLine ∧ atI z.cps.toList i = some c ∧ Q (.str ⟨#[c]⟩) H
theorem ix_list : IxR X (rIxL X.K) := by
  intro value slice pins s σ H x y v u Q I rx ry h hs
  obtain ⟨p, xs, i, z, rfl, rfl, hq, he, q⟩ := h
  cases rx
  obtain ⟨t, rfl⟩ := ry
  obtain ⟨its, r, pl, hz⟩ := I.list hq
  obtain ⟨j, h1, h2, h3, h4, h5⟩ := atI_get he
  obtain ⟨w, ew, rw'⟩ := r.get h2
  have hl := r.length
  have hn := line63
  have fin : EP X pins σ Q w s := ⟨z, H, I, rw', q⟩
  by_cases h0 : 0 ≤ i
  · have hj : i.toNat = j := by
      rw [seqIndex_of h0 h5] at h1
      exact Option.some.inj h1
    exact item_listR pl.isList h0 (by omega) (by rw [hj]; simpa using ew) fin hs
  · have hj : (i + (its.toArray.size : Int)).toNat = j := by
      rw [seqIndex_neg (by omega) h4] at h1
      rw [List.size_toArray, ← hl]
      exact Option.some.inj h1
    exact subscriptTail_builtinR (x := w) pl.isList.typeIs slot_list_getitem.lookup
      (wpAny_getItem_list_neg (Q := fun r s' => r = w ∧ EP X pins σ Q r s') pl.isList (by omega) (by rw [List.size_toArray] <;> omega) (by omega) (by rw [hj]; simpa using ew) ⟨rfl, fin⟩) hs
theorem ix_tup : IxR X (rIxT X.K) := by
  intro value slice pins s σ H x y v u Q I rx ry h hs
  obtain ⟨p, xs, i, z, rfl, rfl, hq, he, q⟩ := h
  cases rx
  obtain ⟨t, rfl⟩ := ry
  obtain ⟨its, r, pl, hz⟩ := I.tuple hq
  obtain ⟨j, h1, h2, h3, h4, h5⟩ := atI_get he
  obtain ⟨w, ew, rw'⟩ := r.get h2
  have hl := r.length
  have hn := line63
  have fin : EP X pins σ Q w s := ⟨z, H, I, rw', q⟩
  exact subscriptTail_builtinR (x := w) pl.typeIs slot_tuple_getitem.lookup
    (getItem_tuple (j := j) (Q := fun r s' => r = w ∧ EP X pins σ Q r s') pl (by omega) (by omega) (by rw [List.size_toArray, ← hl]; exact h1) (by simpa using ew) ⟨rfl, fin⟩) hs
theorem ix_str : IxR X rIxS := by
  intro value slice pins s σ H x y v u Q I rx ry h hs
  obtain ⟨z, i, c, rfl, rfl, hz, he, q⟩ := h
  obtain ⟨t, rfl⟩ := rx
  obtain ⟨t', rfl⟩ := ry
  obtain ⟨j, h1, h2, h3, h4, h5⟩ := atI_get he
  have hl : z.cps.toList.length = z.length := by simp [Str.length]
  rw [hl] at h1 h4 h5
  have hn := line63
  exact tail_any (typeIs_str s z t) slot_str_getitem.lookup (getItem_str (c := c) (by
    have e1 : decide (i < -(2 ^ 63 : Int)) = false := decide_eq_false (by omega)
    have e2 : decide (i ≥ 2 ^ 63) = false := decide_eq_false (by omega)
    rw [e1, e2, Bool.or_false]) (by rw [h1]; simpa using h2) ⟨.str ⟨#[c]⟩, H, I.tok _, ⟨_, rfl⟩, q⟩) hs
noncomputable def rIx (K : PySem.W.Frag) : R2 := fun x y H Q => rIxL K x y H Q ∨ rIxT K x y H Q ∨ rIxS x y H Q
theorem ix_seq : IxR X (rIx X.K) := ix_list.or (ix_tup.or ix_str)
theorem slice_bounds (lo hi : Option Int) (n : Nat) : (sliceBounds lo hi none n).1 = ((HT.sIx n 0 lo : Nat) : Int) ∧ (sliceBounds lo hi none n).2.1 = ((HT.sIx n n hi : Nat) : Int) ∧ (sliceBounds lo hi none n).2.2 = 1 := by
  refine ⟨?_, ?_, rfl⟩
  · cases lo with
    | none => simp [sliceBounds, HT.sIx]
    | some i =>
      simp only [sliceBounds, HT.sIx, Option.getD_none, show (1 : Int) > 0 by decide, if_true]
      by_cases h : i < 0
      · simp only [h, if_true] <;> omega
      · simp only [h, if_false] <;> omega
  · cases hi with
    | none => simp [sliceBounds, HT.sIx]
    | some i =>
      simp only [sliceBounds, HT.sIx, Option.getD_none, show (1 : Int) > 0 by decide, if_true]
      by_cases h : i < 0
      · simp only [h, if_true] <;> omega
      · simp only [h, if_false] <;> omega
theorem slicePick_cut (its : List Value) (lo hi : Option Int) : slicePick its.toArray lo hi none = ((its.drop (HT.sIx its.length 0 lo)).take (HT.sIx its.length its.length hi - HT.sIx its.length 0 lo)).toArray := by
  obtain ⟨h1, h2, h3⟩ := slice_bounds lo hi its.toArray.size
  unfold slicePick
  rw [h1, h2, h3]
  simp only [sliceRange_one, pick_run, List.size_toArray] <;> rfl
noncomputable def rSlL (K : PySem.W.Frag) : V → Option Int → Option Int → Hp → VK → Prop := fun x lo hi H Q => ∃ a xs, x = .ref a ∧ SqL K H a xs ∧ ∀ p, H p = none → Q (.ref p) (upd H p (.lst (cutV xs lo hi)))
theorem sl_list : SlR X (rSlL X.K) := by
  intro pins s σ H x v vl vu lo hi sl Q I rx hs pl pu h
  obtain ⟨a, xs, rfl, hx, q⟩ := h
  cases rx
  obtain ⟨its, r, ht, hz⟩ := I.list hx
  have hlen := r.length
  refine ⟨"list", _, slot_list_getitem.lookup, ht.isList.typeIs, ?_⟩
  refine wpAny_getItem_list_slice ht.isList hs pl pu .none (by simp) ?_ (by rw [List.size_toArray] <;> omega)
  rw [slicePick_cut, ← hlen]
  refine ⟨.ref s.heap.objs.size, _, I.laid (t' := s.toks) (o := .lst (cutV xs lo hi)) (fun b ob q => Heap.get?_push_of_some _ q) (Nat.le_refl _) ?_, rfl, q _ (I.hok.fresh (Nat.le_refl _))⟩
  exact ⟨Nat.le_trans (cutV_length xs lo hi) hz, _, 0, (r.drop (HT.sIx xs.length 0 lo)).take (HT.sIx xs.length xs.length hi - HT.sIx xs.length 0 lo), Heap.get?_push_size _ rfl⟩
noncomputable def flatV : V → Bool
  | .non => true
  | .bl _ => true
  | .int _ => true
  | .str _ => true
  | _ => false
noncomputable def eqV : V → V → Bool
  | .non, .non => true
  | .bl a, .bl b => a == b
  | .bl a, .int b => (if a then 1 else 0) == b
  | .int a, .bl b => a == (if b then 1 else 0)
  | .int a, .int b => a == b
  | .str a, .str b => a == b
  | _, _ => false
theorem eqAt_V {A : Around} {s : Shared} {y x : V} {u v : Value} (ry : RelV y u) (rx : RelV x v) (fy : flatV y = true) (fx : flatV x = true) : SeqAt.EqAt A s u v (eqV y x) := by
  cases y with
  | non =>
    cases ry
    cases x with
    | non => cases rx; exact SeqAt.EqAt.same _
    | bl b => cases rx; exact SeqAt.EqAt.none_bool b
    | int b => obtain ⟨t, rfl⟩ := rx; exact SeqAt.EqAt.none_int b t
    | str b => obtain ⟨t, rfl⟩ := rx; exact SeqAt.EqAt.none_str b t
    | _ => exact absurd (show false = true from fx) Bool.false_ne_true
  | bl a =>
    cases ry
    cases x with
    | non => cases rx; exact SeqAt.EqAt.bool_none a
    | bl b => cases rx; exact SeqAt.EqAt.bool_bool a b
    | int b => obtain ⟨t, rfl⟩ := rx; exact SeqAt.EqAt.bool_int a b t
    | str b => obtain ⟨t, rfl⟩ := rx; exact SeqAt.EqAt.bool_str a b t
    | _ => exact absurd (show false = true from fx) Bool.false_ne_true
  | int a =>
    obtain ⟨t', rfl⟩ := ry
    cases x with
    | non => cases rx; exact SeqAt.EqAt.int_none a t'
    | bl b => cases rx; exact SeqAt.EqAt.int_bool a t' b
    | int b => obtain ⟨t, rfl⟩ := rx; exact SeqAt.EqAt.int_int a t' b t
    | str b => obtain ⟨t, rfl⟩ := rx; exact SeqAt.EqAt.int_str a t' b t
    | _ => exact absurd (show false = true from fx) Bool.false_ne_true
  | str a =>
    obtain ⟨t', rfl⟩ := ry
    cases x with
    | non => cases rx; exact SeqAt.EqAt.str_none a t'
    | bl b => cases rx; exact SeqAt.EqAt.str_bool a t' b
    | int b => obtain ⟨t, rfl⟩ := rx; exact SeqAt.EqAt.str_int a t' b t
    | str b => obtain ⟨t, rfl⟩ := rx; exact SeqAt.EqAt.str_str a t' b t
    | _ => exact absurd (show false = true from fx) Bool.false_ne_true
  | _ => exact absurd (show false = true from fy) Bool.false_ne_true
noncomputable def eqU (x : V) (u : Value) : Bool := match u with
  | .none => eqV .non x
  | .bool b => eqV (.bl b) x
  | .int i _ => eqV (.int i) x
  | .str z _ => eqV (.str z) x
  | _ => false
theorem eqU_of {x y : V} {u : Value} (r : RelV y u) (f : flatV y = true) : eqU x u = eqV y x := by
  cases y with
  | non => cases r; rfl
  | bl b => cases r; rfl
  | int i => obtain ⟨t, rfl⟩ := r; rfl
  | str z => obtain ⟨t, rfl⟩ := r; rfl
  | _ => exact absurd (show false = true from f) Bool.false_ne_true
theorem any_eqU {x : V} : ∀ {xs : List V} {us : List Value}, Vals xs us → xs.all flatV = true → us.any (eqU x) = xs.any fun y => eqV y x
  | _, _, .nil, _ => rfl
  | y :: xs, u :: us, .cons r t, f => by
    rw [List.all_cons, Bool.and_eq_true] at f
    rw [List.any_cons, List.any_cons, eqU_of r f.1, any_eqU t f.2]
theorem mem_eqAt {A : Around} {s : Shared} {x : V} {v : Value} (rx : RelV x v) (fx : flatV x = true) : ∀ {xs : List V} {us : List Value}, Vals xs us → xs.all flatV = true → ∀ u ∈ us, SeqAt.EqAt A s u v (eqU x u)
  | _, _, .nil, _ => fun u hu => by cases hu
  | y :: xs, u :: us, .cons r t, f => fun u' hu => by
    rw [List.all_cons, Bool.and_eq_true] at f
    rcases List.mem_cons.mp hu with rfl | hu
    · rw [eqU_of r f.1]; exact eqAt_V r rx f.1 fx
    · exact mem_eqAt rx fx t f.2 u' hu
noncomputable def inV (x : V) (xs : List V) : Bool := xs.any fun y => eqV y x
noncomputable def rIn (K : PySem.W.Frag) (neg : Bool) : R2 := fun x y H Q => ∃ p xs, y = .ref p ∧ (SqL K H p xs ∨ SqT K H p xs) ∧ flatV x = true ∧ xs.all flatV = true ∧ Q (.bl (if neg then !inV x xs else inV x xs)) H
theorem op_in_seq : OpR X (compareOp .In) (rIn X.K false) := by
  intro pins s σ H x y v u Q I rx ry h
  obtain ⟨p, xs, rfl, hq, fx, fs, q⟩ := h
  cases ry
  rcases hq with hq | hq
  · obtain ⟨its, r, pl, hz⟩ := I.list hq
    refine SeqAt.in_listAt (eqU x) pl.isList (fun w hw => mem_eqAt rx fx r fs w (by simpa using hw)) ⟨.bl _, H, I, rfl, ?_⟩
    rw [show its.toArray.any (eqU x) = its.any (eqU x) by simp, any_eqU r fs]
    exact q
  · obtain ⟨its, r, pl, hz⟩ := I.tuple hq
    refine SeqAt.in_tupleAt (eqU x) pl (fun w hw => mem_eqAt rx fx r fs w (by simpa using hw)) ⟨.bl _, H, I, rfl, ?_⟩
    rw [show its.toArray.any (eqU x) = its.any (eqU x) by simp, any_eqU r fs]
    exact q
theorem op_notIn_seq : OpR X (compareOp .NotIn) (rIn X.K true) := by
  intro pins s σ H x y v u Q I rx ry h
  obtain ⟨p, xs, rfl, hq, fx, fs, q⟩ := h
  cases ry
  rcases hq with hq | hq
  · obtain ⟨its, r, pl, hz⟩ := I.list hq
    refine SeqAt.notIn_listAt (eqU x) pl.isList (fun w hw => mem_eqAt rx fx r fs w (by simpa using hw)) ⟨.bl _, H, I, rfl, ?_⟩
    rw [show its.toArray.any (eqU x) = its.any (eqU x) by simp, any_eqU r fs]
    exact q
  · obtain ⟨its, r, pl, hz⟩ := I.tuple hq
    refine SeqAt.notIn_tupleAt (eqU x) pl (fun w hw => mem_eqAt rx fx r fs w (by simpa using hw)) ⟨.bl _, H, I, rfl, ?_⟩
    rw [show its.toArray.any (eqU x) = its.any (eqU x) by simp, any_eqU r fs]
    exact q
theorem call_list_of : CallR X (.type "list") (fun xs H Q => ∃ p ys, xs = [.ref p] ∧ (SqL X.K H p ys ∨ SqT X.K H p ys) ∧ ∀ l, H l = none → Q (.ref l) (upd H l (.lst ys))) := by
  intro pins s σ H xs us Q I r h
  obtain ⟨p, ys, rfl, hq, q⟩ := h
  obtain ⟨u, rfl, rx⟩ := vals1 r
  cases rx
  have fin : ∀ (its : List Value), Vals ys its → ys.length ≤ sizeLine → ∀ (h' : Heap) (c' : Nat), (∀ b o', s.heap.get? b = some o' → h'.get? b = some o') →
      h'.get? s.heap.objs.size = some { cls := .type "list", dict := none, data := .seq its.toArray c', slots := #[] } → EP X pins σ Q (.ref s.heap.objs.size) { s with heap := h' } := fun its r' hz h' c' kp e =>
    ⟨.ref s.heap.objs.size, _, I.laid (t' := s.toks) kp (Nat.le_refl _) (show ObjOk X.prog X.w _ h' _ (.lst ys) from ⟨hz, its, c', r', e⟩), rfl, q _ (I.hok.fresh (Nat.le_refl _))⟩
  rcases hq with hq | hq
  · obtain ⟨its, r', pl, hz⟩ := I.list hq
    have hlen := r'.length
    obtain ⟨o, ho, hc, n, hd⟩ := pl.isList
    exact call_list_seq p (.inl rfl) ho hc hd (fun h' c' kp e => fin its r' hz h' c' kp e) (by simp only [List.size_toArray] <;> omega)
  · obtain ⟨its, r', pl, hz⟩ := I.tuple hq
    have hlen := r'.length
    obtain ⟨o, ho, hc, n, hd⟩ := pl
    exact call_list_seq p (.inr rfl) ho hc hd (fun h' c' kp e => fin its r' hz h' c' kp e) (by simp only [List.size_toArray] <;> omega)
noncomputable def tyV (K : PySem.W.Frag) (T : String) (x : V) (H : Hp) : Prop := match x with
  | .str _ => T = "str"
  | .int _ => T = "int"
  | .ref p => (T = "list" ∧ ∃ xs, SqL K H p xs) ∨ (T = "tuple" ∧ ∃ o, K.lookup p = some o ∧ o.cls = .type "tuple" ∧ o.dict = none) ∨
      (T = "dict" ∧ ((∃ kvs, H p = some (.dK kvs)) ∨ ∃ kvs, H p = some (.dT kvs))) ∨ (T = "set" ∧ ∃ S n, H p = some (.set S n))
  | _ => False
theorem tyV_is {pins : List (Addr × Obj)} {σ : St} {H : Hp} {s : Shared} {T : String} {x : V} {v : Value} (I : Inv X pins σ H s) (r : RelV x v) (ty : tyV X.K T x H) :
    s.TypeIs v T ∧ ∀ a, v = .ref a → ∃ ob, s.heap.get? a = some ob ∧ ob.dict = none := by
  cases x with
  | str z =>
    obtain ⟨t, rfl⟩ := r
    cases (show T = "str" from ty)
    exact ⟨typeIs_str s z t, fun _ e => nomatch e⟩
  | int i =>
    obtain ⟨t, rfl⟩ := r
    cases (show T = "int" from ty)
    exact ⟨typeIs_int s i t, fun _ e => nomatch e⟩
  | ref p =>
    cases r
    rcases ty with ⟨rfl, xs, hq⟩ | ⟨rfl, o, hk, hc, hd⟩ | ⟨rfl, hk⟩ | ⟨rfl, S, n, hk⟩
    · obtain ⟨its, _, pl, _⟩ := I.list hq
      refine ⟨pl.isList.typeIs, fun a e => ?_⟩
      cases e
      obtain ⟨o, n, e, c, hd, _⟩ := pl
      exact ⟨o, e, hd⟩
    · refine ⟨⟨o, I.kIn p o hk, hc⟩, fun a e => ?_⟩
      cases e
      exact ⟨o, I.kIn _ o hk, hd⟩
    · have z : ∃ o, s.heap.get? p = some o ∧ o.ExactDict := by
        rcases hk with ⟨kvs, hk⟩ | ⟨kvs, hk⟩
        · obtain ⟨_, _, _, _, o, _, _, e, ex, _⟩ := I.hok p _ hk
          exact ⟨o, e, ex⟩
        · obtain ⟨_, _, _, _, o, _, _, e, ex, _⟩ := I.hok p _ hk
          exact ⟨o, e, ex⟩
      obtain ⟨o, e, ex⟩ := z
      refine ⟨⟨o, e, ex.1⟩, fun a e2 => ?_⟩
      cases e2
      exact ⟨o, e, ex.2.1⟩
    · obtain ⟨o, _, _, _, e, ex, _⟩ := I.hok p _ hk
      refine ⟨⟨o, e, ex.1⟩, fun a e2 => ?_⟩
      cases e2
      exact ⟨o, e, ex.2.1⟩
  | _ => exact False.elim ty
noncomputable def tBM (K : PySem.W.Frag) (T : String) (r : V → List V → Hp → VK → Prop) (to : TE) (t : TA) : TE := fun σ H Q => to σ H fun x H1 => tyV K T x H1 ∧ t σ H1 fun xs H2 => r x xs H2 Q
variable {o e : Expr} {es : List Expr} {to : TE} {t : TA} {name : Str} {apos cpos : Pos} {T id : String} {r : V → List V → Hp → VK → Prop}
theorem pe_bm (pa : PlainAttrs T) (slot : Slot T name id) (hty : typeOf (.builtin id) = pure (.type "method_descriptor")) (hm : MtR X id r) (ho : PE X o to) (ha : PA X (e :: es) t)
    (hbase : attributeBase o name X.env (eval o X.env) = eval o X.env := by rfl)
    (hfew : ((backTo cpos (starEach (e :: es) X.env)).all (fun x => !x.1) && (backToKw cpos (keywordEach [] X.env)).all (fun x => x.1.isSome)
      && decide ((e :: es).length + ([] : List Keyword).length + (if ([] : List Keyword).isEmpty then 0 else 1) < 30)) = true := by rfl)
    (hline : (apos.endLine == cpos.line) = true := by rfl) (hs : starEach (e :: es) X.env = (false, eval e X.env) :: starEach es X.env := by rfl) (hplain : (backTo cpos (starEach es X.env)).any (·.1) = false := by rfl) :
    PE X (.Call (.Attribute o name apos) (e :: es) [] cpos) (tBM X.K T r to t) := by
  intro pins s σ H Q I h
  refine wpAny_Call_method_late hbase hfew hline rfl (thn (ho pins s σ H _ I h) fun v s1 ⟨x, H1, I1, r1, ty, q1⟩ => ?_)
  obtain ⟨h1, h2⟩ := tyV_is I1 r1 ty
  refine ⟨T, id, pa, slot, hty, h1, h2, ?_⟩
  have hA := ha cpos pins s1 σ H1 _ I1 q1
  rw [hs] at hA ⊢
  refine Calls.callWith_builtin (by show (false || (backTo cpos (starEach es X.env)).any (·.1)) = false; rw [hplain] <;> rfl) (Calls.evalArgs_plain ?_)
  exact thn hA fun us s2 ⟨vs, H2, I2, r2, q2⟩ => hm pins s2 σ H2 x vs v us Q I2 r1 r2 q2
end
end L2
namespace L2
open PySem PySem.Spec PyProof.Rows
noncomputable def MtM (X : Cx) (id : String) (r : V → List V → Hp → VK → Prop) : Prop :=
  ∀ (pins : List (Addr × Obj)) (s : Shared) (σ : St) (H : Hp) (x : V) (xs : List V) (v : Value) (us : List Value) (Q : VK), Inv X pins σ H s → RelV x v → Vals xs us → r x xs H Q →
    wpAny (model X.prog X.w) X.A (call (.builtin id) (v :: us)) (EP X pins σ Q) X.xe s
theorem Vals.one : ∀ {x : V} {us : List Value}, Vals [x] us → ∃ u, us = [u] ∧ RelV x u
  | _, _, .cons r .nil => ⟨_, rfl, r⟩
theorem Vals.two : ∀ {x y : V} {us : List Value}, Vals [x, y] us → ∃ u v, us = [u, v] ∧ RelV x u ∧ RelV y v
  | _, _, _, .cons r (.cons q .nil) => ⟨_, _, rfl, r, q⟩
theorem Vals.eraseIdx : ∀ {xs : List V} {us : List Value} (i : Nat), Vals xs us → Vals (xs.eraseIdx i) (us.eraseIdx i)
  | _, _, _, .nil => .nil
  | _, _, 0, .cons _ t => t
  | _, _, i + 1, .cons r t => .cons r (Vals.eraseIdx i t)
theorem Vals.rep {xs : List V} {us : List Value} (h : Vals xs us) : ∀ k : Nat, Vals (List.replicate k xs).flatten (List.replicate k us).flatten
  | 0 => .nil
  | k + 1 => by
    rw [List.replicate_succ, List.replicate_succ, List.flatten_cons, List.flatten_cons]
    exact Vals.append h (Vals.rep h k)
theorem len_erase {α : Type} : ∀ (l : List α) (i : Nat), (l.eraseIdx i).length ≤ l.length
  | [], _ => Nat.le_refl _
  | _ :: _, 0 => Nat.le_succ _
  | _ :: r, i + 1 => Nat.succ_le_succ (len_erase r i)
theorem foldl_rep (its : List Value) : ∀ (k : Nat) (acc : List Value),
    List.foldl (fun x1 x2 => x1 ++ x2) acc.toArray (List.replicate k its.toArray) = (acc ++ (List.replicate k its).flatten).toArray
  | 0, acc => by simp
  | k + 1, acc => by
    have e : acc.toArray ++ its.toArray = (acc ++ its).toArray := by simp
    have e2 : (acc ++ its) ++ (List.replicate k its).flatten = acc ++ (List.replicate (k + 1) its).flatten := by
      rw [List.replicate_succ, List.flatten_cons, List.append_assoc]
    rw [← e2, ← foldl_rep its k (acc ++ its), ← e, List.replicate_succ, List.foldl_cons]
section
variable {X : Cx} {pins : List (Addr × Obj)} {σ : St} {H : Hp} {s : Shared} {l b : Addr} {xs ys zs : List V}
theorem Inv.lset {its its' : List Value} {n : Nat} {f : Array Value → Array Value} {t' : Nat} (I : Inv X pins σ H s) (hH : H l = some (.lst xs))
    (e : s.heap.get? l = some { cls := .type "list", data := .seq its.toArray n }) (hf : f its.toArray = its'.toArray) (hv : Vals ys its') (hz : ys.length ≤ sizeLine) :
    Inv X pins σ (upd H l (.lst ys)) { s with heap := s.heap.update l (Obj.mapSeq f), toks := t' } := by
  have q := PySem.IsL.update e f
  rw [hf] at q
  refine I.write (x := l) (e := l) (by rw [hH]; exact trivial) (.inl rfl) (fun b' u hb hu => (Heap.get?_update_other s.heap (Obj.mapSeq f) (Ne.symm hb)).trans hu) ⟨_, q⟩ ?_
  exact ⟨hz, its', _, hv, q⟩
theorem Inv.lnew {its : List Value} {t' : Nat} (I : Inv X pins σ H s) (hv : Vals ys its) (hz : ys.length ≤ sizeLine) :
    Inv X pins σ (upd H s.heap.objs.size (.lst ys)) { s with heap := s.heap.push { cls := .type "list", data := .seq its.toArray }, toks := t' } :=
  I.laid (fun _ _ q => Heap.get?_push_of_some _ q) (Nat.le_refl _) ⟨hz, its, 0, hv, Heap.get?_push_size _ rfl⟩
theorem Inv.fresh (I : Inv X pins σ H s) : H s.heap.objs.size = none := I.hok.fresh (Nat.le_refl _)
theorem Inv.lstM (I : Inv X pins σ H s) (hH : H l = some (.lst xs)) : xs.length ≤ sizeLine ∧ ∃ (its : List Value) (n : Nat), Vals xs its ∧ xs.length = its.length ∧ s.heap.get? l = some { cls := .type "list", data := .seq its.toArray n } := by
  obtain ⟨z, its, n, r, e⟩ := I.hok l _ hH
  exact ⟨z, its, n, r, r.length, e⟩
theorem notLongL {n : Nat} (h : n ≤ sizeLine) : Builtin.List.listTooLong n = false := by
  unfold Builtin.List.listTooLong
  exact decide_eq_false (by omega)
end
section
variable {X : Cx}
noncomputable def rAppend : V → List V → Hp → VK → Prop := fun x vs H Q => ∃ l xs y, x = .ref l ∧ vs = [y] ∧ H l = some (.lst xs) ∧ xs.length < sizeLine ∧ Q .non (upd H l (.lst (xs ++ [y])))
theorem mt_append : MtM X "list.append" rAppend := by
  intro pins s σ H x vs v us Q I rx rv h
  obtain ⟨l, xs, y, rfl, rfl, hH, hz, q⟩ := h
  cases rx
  obtain ⟨u, rfl, ru⟩ := rv.one
  obtain ⟨z, its, n, r, hl, e⟩ := I.lstM hH
  refine call_meets F.slot_list_append ⟨_, e, rfl⟩ F.entry_list_append (F.args_list_append_2 _ _) (PySem.list_append l its.toArray n u (by rw [List.size_toArray]; omega)) ⟨e, ?_⟩
  refine ⟨.non, _, I.lset (its' := its ++ [u]) hH e (by simp) (r.append (.cons ru .nil)) ?_, rfl, q⟩
  rw [List.length_append, List.length_singleton]
  omega
noncomputable def rCat : R2 := fun x y H Q => ∃ l b xs zs, x = .ref l ∧ y = .ref b ∧ H l = some (.lst xs) ∧ H b = some (.lst zs) ∧ xs.length + zs.length ≤ sizeLine ∧ ∀ p, H p = none → Q (.ref p) (upd H p (.lst (xs ++ zs)))
theorem op_cat : OpR X (binaryOp .Add) rCat := by
  intro pins s σ H x y v u Q I rx ry h
  obtain ⟨l, b, xs, zs, rfl, rfl, hH, hB, hz, q⟩ := h
  cases rx
  cases ry
  obtain ⟨z, its, n, r, hl, e⟩ := I.lstM hH
  obtain ⟨z2, its2, n2, r2, hl2, e2⟩ := I.lstM hB
  refine PySem.P.add_list e e2 ?_ (by rw [List.size_toArray, List.size_toArray]; omega)
  have ea : its.toArray ++ its2.toArray = (its ++ its2).toArray := by simp
  rw [ea]
  exact ⟨.ref _, _, I.lnew (t' := s.toks) (r.append r2) (by rw [List.length_append]; omega), rfl, q _ I.fresh⟩
noncomputable def rRep : R2 := fun x y H Q => ∃ l k xs, x = .ref l ∧ y = .int k ∧ H l = some (.lst xs) ∧ -(2 ^ 63) ≤ k ∧ k < 2 ^ 63 ∧ xs.length * k.toNat ≤ sizeLine ∧
  ∀ p, H p = none → Q (.ref p) (upd H p (.lst (List.replicate k.toNat xs).flatten))
theorem len_rep {α : Type} (xs : List α) (k : Nat) : (List.replicate k xs).flatten.length = k * xs.length := by
  induction k with
  | zero => simp
  | succ k ih => rw [List.replicate_succ, List.flatten_cons, List.length_append, ih, Nat.succ_mul, Nat.add_comm]
theorem op_rep : OpR X (binaryOp .Mult) rRep := by
  intro pins s σ H x y v u Q I rx ry h
  obtain ⟨l, k, xs, rfl, rfl, hH, h1, h2, hz, q⟩ := h
  cases rx
  obtain ⟨t, rfl⟩ := ry
  obtain ⟨z, its, n, r, hl, e⟩ := I.lstM hH
  have hlen : its.toArray.size * k.toNat ≤ sizeLine := by rw [List.size_toArray, ← hl]; exact hz
  have hcap : ¬ its.toArray.size * k.toNat > (2 ^ 63 - 1) / 8 := by
    have : (sizeLine : Nat) ≤ (2 ^ 63 - 1) / 8 := by decide
    omega
  have hfit : ¬ (!Builtin.List.listFitsIndex k) = true := by
    rw [fitsIndex_both h1 h2]
    exact Bool.false_ne_true
  have hlong : ¬ Builtin.List.listTooLong (its.toArray.size * k.toNat) = true := by
    rw [notLongL hlen]
    exact Bool.false_ne_true
  have hnew : List.foldl (fun x1 x2 => x1 ++ x2) #[] (List.replicate (if its.toArray.isEmpty = true then 0 else k.toNat) its.toArray) = (List.replicate k.toNat its).flatten.toArray := by
    have f0 : ∀ m : Nat, List.foldl (fun x1 x2 => x1 ++ x2) #[] (List.replicate m its.toArray) = (List.replicate m its).flatten.toArray := fun m => by
      have := foldl_rep its m []
      rw [List.nil_append] at this
      exact this
    rw [f0]
    cases its with
    | nil => simp
    | cons a r' => rw [if_neg (by simp)]
  refine wpAny_binaryOp_repeat_ref (T := "list") (U := "int") (by decide) ⟨_, e, rfl⟩ (fun s' => typeIs_int s' k t) noFill_list_mul F.fills_int_mul F.slot_int_rmul repeat_list F.slot_int_index.lookup
    (call_meets F.slot_int_rmul (typeIs_int s k t) F.entry_int_rmul (F.args_int_rmul_2 _ _) (int___rmul___int_list k t l its.toArray n)
      ⟨e, rfl, ⟨_, e, rfl⟩, call_meets F.slot_list_mul ⟨_, e, rfl⟩ F.entry_list_mul (F.args_list_mul_2 _ _) (AutoListH.list___mul___list_int_3 l its.toArray n k t hfit hcap hlong) ⟨e, ?_⟩⟩)
  rw [hnew]
  exact ⟨.ref _, _, I.lnew (t' := s.toks) (r.rep k.toNat) (by rw [len_rep, Nat.mul_comm]; exact hz), rfl, q _ I.fresh⟩
end
section
variable {prog : Program} {w : World} {A : Around} {E : Value → Shared → Prop} {s : Shared}
end
section
variable {X : Cx}
end
end L2
namespace L2
open PySem PySem.Spec PyProof.Rows
section
variable {κ : Type} [DecidableEq κ]
noncomputable def valV (kvs : List (κ × V)) (k : κ) : Option V := (kvs.find? fun kv => decide (kv.1 = k)).map (·.2)
noncomputable def putK (kvs : List (κ × V)) (k : κ) (v : V) : List (κ × V) :=
  if (kvs.any fun kv => decide (kv.1 = k)) = true then kvs.map (fun kv => if kv.1 = k then (kv.1, v) else kv) else kvs ++ [(k, v)]
noncomputable def dropK (kvs : List (κ × V)) (k : κ) : List (κ × V) := kvs.filter fun kv => decide (kv.1 ≠ k)
theorem valV_pos {p : κ × V} {r : List (κ × V)} {k : κ} (e : p.1 = k) : valV (p :: r) k = some p.2 := by simp [valV, List.find?_cons, e]
theorem valV_neg {p : κ × V} {r : List (κ × V)} {k : κ} (e : ¬ p.1 = k) : valV (p :: r) k = valV r k := by simp [valV, List.find?_cons, e]
theorem valV_any (k : κ) : ∀ kvs : List (κ × V), (kvs.any fun kv => decide (kv.1 = k)) = (valV kvs k).isSome
  | [] => rfl
  | p :: r => by
    rw [List.any_cons]
    by_cases e : p.1 = k
    · simp only [valV_pos e, decide_eq_true e, Bool.true_or, Option.isSome_some]
    · rw [valV_neg e, decide_eq_false e, Bool.false_or]; exact valV_any k r
theorem length_putK (kvs : List (κ × V)) (k : κ) (v : V) : (putK kvs k v).length ≤ kvs.length + 1 := by
  unfold putK
  split
  · rw [List.length_map]; omega
  · rw [List.length_append, List.length_cons, List.length_nil]; omega
theorem RelO.isSome_eq {o : Option V} {u : Option Value} (r : RelO o u) : o.isSome = u.isSome := by
  cases o with
  | none => cases u with
    | none => rfl
    | some _ => exact (show False from r).elim
  | some _ => cases u with
    | none => exact (show False from r).elim
    | some _ => rfl
theorem KV.val {kvs : List (κ × V)} {vs : List (κ × Value)} (r : KV kvs vs) (k : κ) : RelO (valV kvs k) (valueAt vs k) := by
  unfold KV at r
  induction r with
  | nil => exact True.intro
  | @cons p q ps qs h t ih =>
    obtain ⟨h1, h2⟩ := h
    by_cases e : p.1 = k
    · have e' : q.1 = k := h1.symm.trans e
      have b : valueAt (q :: qs) k = some q.2 := by simp [valueAt, List.find?_cons, e']
      rw [valV_pos e, b]; exact h2
    · have e' : ¬ q.1 = k := fun z => e (h1.trans z)
      have b : valueAt (q :: qs) k = valueAt qs k := by simp [valueAt, List.find?_cons, e']
      rw [valV_neg e, b]; exact ih
theorem KV.any {kvs : List (κ × V)} {vs : List (κ × Value)} (r : KV kvs vs) (k : κ) : (kvs.any fun kv => decide (kv.1 = k)) = vs.any fun kv => decide (kv.1 = k) := by
  unfold KV at r
  induction r with
  | nil => rfl
  | cons h t ih => rw [List.any_cons, List.any_cons, ih, h.1]
theorem KV.repl {kvs : List (κ × V)} {vs : List (κ × Value)} (r : KV kvs vs) (k : κ) {y : V} {u : Value} (ry : RelV y u) :
    KV (kvs.map fun kv => if kv.1 = k then (kv.1, y) else kv) (vs.map fun kv => if kv.1 = k then (kv.1, u) else kv) := by
  unfold KV at r ⊢
  induction r with
  | nil => exact .nil
  | @cons p q ps qs h t ih =>
    rw [List.map_cons, List.map_cons]
    refine .cons ?_ ih
    obtain ⟨h1, h2⟩ := h
    by_cases e : p.1 = k
    · rw [if_pos e, if_pos (h1.symm.trans e)]; exact ⟨h1, ry⟩
    · rw [if_neg e, if_neg (fun z => e (h1.trans z))]; exact ⟨h1, h2⟩
theorem KV.put {kvs : List (κ × V)} {vs : List (κ × Value)} (r : KV kvs vs) (k : κ) {y : V} {u : Value} (ry : RelV y u) : KV (putK kvs k y) (stored vs k u) := by
  unfold putK stored
  rw [r.any k]
  by_cases e : (vs.any fun kv => decide (kv.1 = k)) = true
  · rw [if_pos e, if_pos e]; exact r.repl k ry
  · rw [if_neg e, if_neg e]; exact Paired.snoc r ⟨rfl, ry⟩
theorem KV.drop {kvs : List (κ × V)} {vs : List (κ × Value)} (r : KV kvs vs) (k : κ) : KV (dropK kvs k) (without vs k) := by
  unfold KV at r ⊢
  unfold dropK without
  induction r with
  | nil => exact .nil
  | @cons p q ps qs h t ih =>
    obtain ⟨h1, h2⟩ := h
    rw [List.filter_cons, List.filter_cons]
    by_cases e : p.1 = k
    · have a : ¬ decide (p.1 ≠ k) = true := by simp [e]
      have b : ¬ decide (q.1 ≠ k) = true := by simp [h1.symm.trans e]
      rw [if_neg a, if_neg b]; exact ih
    · have e' : ¬ q.1 = k := fun z => e (h1.trans z)
      have a : decide (p.1 ≠ k) = true := by simp [e]
      have b : decide (q.1 ≠ k) = true := by simp [e']
      rw [if_pos a, if_pos b]; exact .cons ⟨h1, h2⟩ ih
theorem KV.length {kvs : List (κ × V)} {vs : List (κ × Value)} (r : KV kvs vs) : kvs.length = vs.length := Paired.length r
theorem dropK_le (kvs : List (κ × V)) (k : κ) : (dropK kvs k).length ≤ kvs.length := List.length_filter_le _ _
end
theorem kV_is {P : Program} {w : World} {k : Key} {u : Value} (r : RelV (kV k) u) : (mixKind P w).is k u = true := by
  cases k with
  | inl i => obtain ⟨t, e⟩ := (show ∃ t, u = Value.int i t from r); subst e; exact mixKind_int P w i t
  | inr x => obtain ⟨t, e⟩ := (show ∃ t, u = Value.str x t from r); subst e; exact mixKind_str P w x t
theorem items_are {P : Program} {w : World} : ∀ {ks : List Key} {us : List Value}, Vals (ks.map kV) us → ItemsAre (mixKind P w) ks us
  | [], _, r => by rw [List.map_nil] at r; cases r; exact .nil
  | k :: ks, _, r => by
    rw [List.map_cons] at r
    cases r with
    | cons h t => exact .cons (kV_is h) (items_are t)
noncomputable abbrev KT (H : Hp) : List (List Key × V) → List (List Key × Addr × Value) → Prop := Paired fun p q => p.1 = q.1 ∧ H q.2.1 = some (.tup (p.1.map kV)) ∧ RelV p.2 q.2.2
theorem KT.val {H : Hp} {kvs : List (List Key × V)} {xs : List (List Key × Addr × Value)} (r : KT H kvs xs) (k : List Key) : RelO (valV kvs k) ((atKey xs k).map (·.2)) := by
  induction r with
  | nil => exact True.intro
  | @cons p q ps qs h t ih =>
    obtain ⟨h1, _, h2⟩ := h
    by_cases e : p.1 = k
    · have e' : q.1 = k := h1.symm.trans e
      have b : atKey (q :: qs) k = some q.2 := by simp [atKey, List.find?_cons, e']
      rw [valV_pos e, b]; exact h2
    · have e' : ¬ q.1 = k := fun z => e (h1.trans z)
      have b : atKey (q :: qs) k = atKey qs k := by simp [atKey, List.find?_cons, e']
      rw [valV_neg e, b]; exact ih
theorem KT.repl {H : Hp} {kvs : List (List Key × V)} {xs : List (List Key × Addr × Value)} (r : KT H kvs xs) (k : List Key) {y : V} {u : Value} (ry : RelV y u) :
    KT H (kvs.map fun kv => if kv.1 = k then (kv.1, y) else kv) (xs.map (putAt k u)) := by
  induction r with
  | nil => exact .nil
  | @cons p q ps qs h t ih =>
    rw [List.map_cons, List.map_cons]
    refine .cons ?_ ih
    obtain ⟨h1, h2, h3⟩ := h
    unfold putAt
    by_cases e : p.1 = k
    · rw [if_pos e, if_pos (h1.symm.trans e)]; exact ⟨h1, h2, ry⟩
    · rw [if_neg e, if_neg (fun z => e (h1.trans z))]; exact ⟨h1, h2, h3⟩
theorem KT.put {H : Hp} {kvs : List (List Key × V)} {xs : List (List Key × Addr × Value)} (r : KT H kvs xs) (k : List Key) {b : Addr} {y : V} {u : Value} (hb : H b = some (.tup (k.map kV))) (ry : RelV y u) :
    KT H (putK kvs k y) (storedH xs k b u) := by
  have e : (kvs.any fun kv => decide (kv.1 = k)) = (atKey xs k).isSome := by
    rw [valV_any, (r.val k).isSome_eq, Option.isSome_map]
  unfold putK storedH
  rw [e]
  by_cases q : (atKey xs k).isSome = true
  · rw [if_pos q, if_pos q]; exact r.repl k ry
  · rw [if_neg q, if_neg q]; exact Paired.snoc r ⟨rfl, hb, ry⟩
theorem KT.keeps {H H' : Hp} {kvs : List (List Key × V)} {xs : List (List Key × Addr × Value)} (r : KT H kvs xs) (ht : ∀ b ys, H b = some (.tup ys) → H' b = some (.tup ys)) : KT H' kvs xs :=
  Paired.mapP r fun _ _ z => ⟨z.1, ht _ _ z.2.1, z.2.2⟩
section
variable {P : Program} {w : World} {H : Hp} {h : Heap} {a : Addr}
theorem rd_of {u : HO} (ok : HOk P w H h) (e : Rd H a u) : ObjOk P w H h a u := e.ok ok
theorem dk_rd {kvs : List (Key × V)} (ok : HOk P w H h) (e : Rd H a (.dK kvs)) : kvs.length ≤ sizeLine ∧ (a == sysModules) = false ∧ ∃ vs, KV kvs vs ∧ h.DictOf (mixKind P w) a vs :=
  show ObjOk P w H h a (.dK kvs) from rd_of ok e
theorem dk_of {kvs : List (Key × V)} (ok : HOk P w H h) (e : H a = some (.dK kvs)) : kvs.length ≤ sizeLine ∧ (a == sysModules) = false ∧ ∃ vs, KV kvs vs ∧ h.DictOf (mixKind P w) a vs := dk_rd ok (.inl e)
theorem key_of {ks : List Key} (ok : HOk P w H h) (e : H a = some (.tup (ks.map kV))) : (tupleKind (mixKind P w)).is h ks a := by
  obtain ⟨_, its, r, o, h1, h2, n, h3⟩ := (show ObjOk P w H h a (.tup (ks.map kV)) from ok a _ e)
  exact ⟨o, its.toArray, n, h1, h2, h3, by simpa using items_are r⟩
theorem dt_rd {kvs : List (List Key × V)} (ok : HOk P w H h) (e : Rd H a (.dT kvs)) : kvs.length ≤ sizeLine ∧ (a == sysModules) = false ∧
    ∃ xs, KT H kvs xs ∧ h.DictOfH (tupleKind (mixKind P w)) a xs := by
  obtain ⟨z, y, xs, r, o, es, ep, h1, h2, h3, h4, h5⟩ := (show ObjOk P w H h a (.dT kvs) from rd_of ok e)
  refine ⟨z, y, xs, r, o, es, ep, h1, h2, h3, h4, fun x hx => ?_, h5⟩
  have all : ∀ {l : List (List Key × V)} {m : List (List Key × Addr × Value)}, KT H l m → ∀ x ∈ m, (tupleKind (mixKind P w)).is h x.1 x.2.1 := by
    intro l m q
    induction q with
    | nil => intro x hx; exact nomatch hx
    | @cons p q ps qs hq t ih =>
      intro x hx
      rcases List.mem_cons.mp hx with e | hx
      · subst e
        exact key_of ok (by rw [← hq.1]; exact hq.2.1)
      · exact ih x hx
  exact all r x hx
theorem dt_of {kvs : List (List Key × V)} (ok : HOk P w H h) (e : H a = some (.dT kvs)) : kvs.length ≤ sizeLine ∧ (a == sysModules) = false ∧
    ∃ xs, KT H kvs xs ∧ h.DictOfH (tupleKind (mixKind P w)) a xs := dt_rd ok (.inl e)
end
noncomputable def DGet (H : Hp) (a : Addr) (y : V) (r : Option V) : Prop :=
  (∃ kvs k, Rd H a (.dK kvs) ∧ y = kV k ∧ r = valV kvs k) ∨ ∃ kvs k b, Rd H a (.dT kvs) ∧ y = .ref b ∧ H b = some (.tup (k.map kV)) ∧ r = valV kvs k
noncomputable def DPut (H : Hp) (a : Addr) (y v : V) (H' : Hp) : Prop :=
  (∃ kvs k, H a = some (.dK kvs) ∧ y = kV k ∧ kvs.length < sizeLine ∧ H' = upd H a (.dK (putK kvs k v))) ∨
  ∃ kvs k b, H a = some (.dT kvs) ∧ y = .ref b ∧ H b = some (.tup (k.map kV)) ∧ kvs.length < sizeLine ∧ H' = upd H a (.dT (putK kvs k v))
theorem DGet.k {H : Hp} {a : Addr} {kvs : List (Key × V)} {k : Key} (e : H a = some (.dK kvs)) : DGet H a (kV k) (valV kvs k) := .inl ⟨kvs, k, .inl e, rfl, rfl⟩
theorem DPut.k {H : Hp} {a : Addr} {kvs : List (Key × V)} {k : Key} {v : V} (e : H a = some (.dK kvs)) (hl : kvs.length < sizeLine) : DPut H a (kV k) v (upd H a (.dK (putK kvs k v))) := .inl ⟨kvs, k, e, rfl, hl, rfl⟩
section
variable {X : Cx} {pins : List (Addr × Obj)} {σ : St} {H : Hp} {s : Shared} {a : Addr} {y v : V} {u r : Value} {o : Option V} {A : Around} {E : Value → Shared → Prop}
theorem Inv.big (I : Inv X pins σ H s) : sysModules < s.heap.objs.size := by
  have h : mainGlobals < s.heap.objs.size := (I.mod.glob.keeps I.bk).lt
  exact Nat.lt_trans (by decide) h
theorem d_getItem {Q : Value → Shared → Prop} (hu : A.units + 1 < cLine) (I : Inv X pins σ H s) (g : DGet H a y (some v)) (ry : RelV y u) (h : ∀ w' s', Inv X pins σ H s' → RelV v w' → Q w' s') :
    wpAny (model X.prog X.w) A (getItem (.ref a) u) Q E s := by
  rcases g with ⟨kvs, k, e, ey, l⟩ | ⟨kvs, k, b, e, ey, eb, l⟩
  · subst ey
    obtain ⟨z, hd, vs, rel, dd⟩ := dk_rd I.hok e
    obtain ⟨w', hw, rw'⟩ := RelO.some_of (v := v) (o := valueAt vs k) (by rw [l]; exact rel.val k)
    exact wpAny_getItem_of (kV_is ry) dd.mapOf hw (h w' _ (I.tok _) rw')
  · subst ey
    cases (show u = Value.ref b from ry)
    obtain ⟨z, hd, xs, rel, dd⟩ := dt_rd I.hok e
    obtain ⟨w', hw, rw'⟩ := RelO.some_of (v := v) (o := (atKey xs k).map (·.2)) (by rw [l]; exact rel.val k)
    obtain ⟨p, hp, hp2⟩ := Option.map_eq_some_iff.mp hw
    refine wpAny_getItem_heap (tupleKind_room_in1 hu) (key_of I.hok eb) dd hp ?_
    rw [hp2]
    exact h w' _ (I.tok _) rw'
theorem d_in {Q : Value → Shared → Prop} (hu : A.units + 1 < cLine) (I : Inv X pins σ H s) (g : DGet H a y o) (ry : RelV y u) (h : ∀ s', Inv X pins σ H s' → Q (.bool o.isSome) s') :
    wpAny (model X.prog X.w) A (compareOp .In u (.ref a)) Q E s := by
  rcases g with ⟨kvs, k, e, ey, l⟩ | ⟨kvs, k, b, e, ey, eb, l⟩
  · subst ey
    obtain ⟨z, hd, vs, rel, dd⟩ := dk_rd I.hok e
    refine wpAny_in_of (kV_is ry) hd dd.mapOf ?_
    rw [← (rel.val k).isSome_eq, ← l]
    exact h _ (I.tok _)
  · subst ey
    cases (show u = Value.ref b from ry)
    obtain ⟨z, hd, xs, rel, dd⟩ := dt_rd I.hok e
    refine wpAny_in_heap (tupleKind_room_in1 hu) (key_of I.hok eb) hd dd ?_
    have q := (rel.val k).isSome_eq
    rw [Option.isSome_map] at q
    rw [← q, ← l]
    exact h _ (I.tok _)
theorem d_write {h' : Heap} {t' : Nat} {ob : HO} (I : Inv X pins σ H s) (mu : Mut (H a)) (hs : Heap.SameBut a s.heap h') (he : ∃ q, h'.get? a = some q) (new : ObjOk X.prog X.w (upd H a ob) h' a ob) :
    Inv X pins σ (upd H a ob) { s with heap := h', toks := t' } :=
  I.write (x := a) (e := a) mu (.inl rfl) (fun b q hb z => (hs.2 b hb).trans z) he new
theorem dk_new {P : Program} {w : World} {H' : Hp} {h' : Heap} {kvs : List (Key × V)} {vs : List (Key × Value)} (z : kvs.length ≤ sizeLine) (hd : (a == sysModules) = false) (rel : KV kvs vs) (dd : h'.DictOf (mixKind P w) a vs) :
    ObjOk P w H' h' a (.dK kvs) := ⟨z, hd, vs, rel, dd⟩
theorem d_setItem {H' : Hp} {Q : Unit → Shared → Prop} (hu : A.units + 1 < cLine) (I : Inv X pins σ H s) (g : DPut H a y v H') (ry : RelV y u) (rv : RelV v r) (h : ∀ s', Inv X pins σ H' s' → Q () s') :
    wpAny (model X.prog X.w) A (setItem (.ref a) u r) Q E s := by
  rcases g with ⟨kvs, k, e, ey, l, eH⟩ | ⟨kvs, k, b, e, ey, eb, l, eH⟩
  · subst ey eH
    obtain ⟨z, hd, vs, rel, dd⟩ := dk_of I.hok e
    have hz : vs.length ≤ sizeLine := by rw [← rel.length]; exact z
    have hl : (putK kvs k v).length ≤ sizeLine := by have := length_putK kvs k v; omega
    refine wpAny_setItem_pairs (hsz := hz) (kV_is ry) dd fun h' dd' hs => h _ ?_
    have he : ∃ q, h'.get? a = some q := let ⟨q, _, _, hq, _⟩ := dd'; ⟨q, hq⟩
    exact d_write I (by rw [e]; exact True.intro) hs he (dk_new hl hd (rel.put k rv) dd')
  · subst ey eH
    cases (show u = Value.ref b from ry)
    obtain ⟨z, hd, xs, rel, dd⟩ := dt_of I.hok e
    have hz : xs.length ≤ sizeLine := by rw [← Paired.length rel]; exact z
    have hl : (putK kvs k v).length ≤ sizeLine := by have := length_putK kvs k v; omega
    refine wpAny_setItem_heap (hsz := hz) (tupleKind_room_in1 hu) (key_of I.hok eb) dd fun h' dd' hs => h _ ?_
    obtain ⟨q, es, ep, hq, h2, h3, h4, _, h5⟩ := dd'
    refine d_write I (by rw [e]; exact True.intro) hs ⟨q, hq⟩ ⟨hl, hd, _, (rel.put k eb rv).keeps fun c ys ec => ?_, q, es, ep, hq, h2, h3, h4, h5⟩
    rw [upd_ne (ne_of ec e (fun z => nomatch z))]
    exact ec
end
section
variable {X : Cx} {pins : List (Addr × Obj)} {σ : St} {H : Hp} {s : Shared} {a : Addr} {kvs : List (Key × V)} {k : Key} {u : Value} {A : Around} {E : Value → Shared → Prop}
theorem d_pop {v : V} {more : List Value} {Q : Value → Shared → Prop} (I : Inv X pins σ H s) (e : H a = some (.dK kvs)) (ry : RelV (kV k) u) (l : valV kvs k = some v) (hm : more = [] ∨ ∃ x, more = [x])
    (h : ∀ w' s', Inv X pins σ (upd H a (.dK (dropK kvs k))) s' → RelV v w' → Q w' s') : wpAny (model X.prog X.w) A (call (.builtin "dict.pop") (.ref a :: u :: more)) Q E s := by
  obtain ⟨z, hd, vs, rel, dd⟩ := dk_of I.hok e
  obtain ⟨w', hw, rw'⟩ := RelO.some_of (v := v) (o := valueAt vs k) (by rw [← l]; exact rel.val k)
  have hp : (keyPart u).isSome = true := by
    cases k with
    | inl i => obtain ⟨t, q⟩ := (show ∃ t, u = Value.int i t from ry); subst q; rfl
    | inr x => obtain ⟨t, q⟩ := (show ∃ t, u = Value.str x t from ry); subst q; rfl
  have ha : argsOk "dict.pop" ⟨.ref a :: u :: more, []⟩ := by
    rcases hm with q | ⟨x, q⟩
    · subst q; exact PySem.F.args_dict_pop_2 _ _
    · subst q; exact PySem.F.args_dict_pop_3 _ _ _
  refine call_meetsIn PySem.F.slot_dict_pop dd.typeIs PySem.F.entry_dict_pop ha (meets_dict_pop_there (mixKind X.prog X.w) a (kV_is ry) more hm hp)
    ⟨vs, w', dd, by rw [← rel.length]; exact z, hw, fun h' dd' hs => h w' _ ?_ rw'⟩
  have he : ∃ q, h'.get? a = some q := let ⟨q, _, _, hq, _⟩ := dd'; ⟨q, hq⟩
  exact d_write I (by rw [e]; exact True.intro) hs he (dk_new (Nat.le_trans (dropK_le kvs k) z) hd (rel.drop k) dd')
end
noncomputable def NoSl (i : Expr) : Prop := ∀ ov iv, subscripted i false ov iv = operate [ov, iv] (getItem ov iv)
theorem subD_of {prog : Program} {w : World} {A : Around} {E : Value → Shared → Prop} {s : Shared} {env : Env} {value slice : Expr} {pos : Pos} {T id : String} {Q : Value → Shared → Prop}
    (hl : typeLookup (.type T) "__getitem__" = pure (some (.builtin id))) (hs : NoSl slice)
    (h : wpAny (model prog w) A (eval value env) (fun o s₁ => wpAny (model prog w) A (eval slice env) (fun i s₂ => s₂.TypeIs o T ∧ wpAny (model prog w) A (getItem o i) Q E s₂) E s₁) E s) :
    wpAny (model prog w) A (eval (.Subscript value slice pos) env) Q E s := by
  refine Subscript_ (wpAny_mono h (fun o s₁ h₁ => wpAny_mono h₁ (fun i s₂ h₂ => ?_) fun _ _ x => x) fun _ _ x => x)
  obtain ⟨hT, h₂⟩ := h₂
  unfold subscriptTail
  refine wpAny_bind ?_
  rw [getitemInPython_of_ne hT.not_modules]
  refine wpAny_bind (wpAny_specialOf hT hl ?_)
  have fin : wpAny (model prog w) A (subscripted slice false o i) (fun r s₃ => wpAny (model prog w) A (letTemporaryGo value o r >>= fun _ => pure r) Q E s₃) E s₂ := by
    rw [hs o i]
    exact wpAny_operating (wpAny_mono h₂ (fun r s₃ h₃ => wpAny_bind (wpAny_letTemporaryGo (wpAny_pure h₃))) fun _ _ x => x)
  first
    | exact wpAny_pure (wpAny_bind fin)
    | exact wpAny_bind (wpAny_pure (wpAny_bind fin))
    | exact wpAny_bind fin
theorem dict_typeIs {X : Cx} {pins : List (Addr × Obj)} {σ : St} {H : Hp} {s : Shared} {a : Addr} {y : V} {o : Option V} (I : Inv X pins σ H s) (g : DGet H a y o) : s.TypeIs (.ref a) "dict" := by
  rcases g with ⟨kvs, k, e, _, _⟩ | ⟨kvs, k, b, e, _, _, _⟩
  · obtain ⟨_, _, vs, _, dd⟩ := dk_rd I.hok e
    exact dd.typeIs
  · obtain ⟨_, _, xs, _, dd⟩ := dt_rd I.hok e
    exact dd.typeIs
noncomputable def tDGet (td ty : TE) : TE := fun σ H Q => td σ H fun x H1 => ty σ H1 fun y H2 => ∃ a v, x = .ref a ∧ DGet H2 a y (some v) ∧ Q v H2
noncomputable def tDIn (ty td : TE) : TE := fun σ H Q => ty σ H fun y H1 => td σ H1 fun x H2 => ∃ a o, x = .ref a ∧ DGet H2 a y o ∧ Q (.bl o.isSome) H2
noncomputable def sDPut (td ty tv : TE) : TS := fun D σ H => tv σ H fun v H1 => td σ H1 fun x H2 => ty σ H2 fun y H3 => ∃ a H4, x = .ref a ∧ DPut H3 a y v H4 ∧ D.nx σ H4
section
variable {X : Cx} {o i e value : Expr} {pos pos' tpos : Pos} {td ty tv : TE}
theorem pe_dget (hu : X.A.units + 1 < cLine) (ho : PE X o td) (hi : PE X i ty) (hs : NoSl i) : PE X (.Subscript o i pos) (tDGet td ty) := by
  intro pins s σ H Q I h
  refine subD_of PySem.F.slot_dict_getitem.lookup hs (thn (ho pins s σ H _ I h) fun u s1 ⟨x, H1, I1, rx, q1⟩ => thn (hi pins s1 σ H1 _ I1 q1) fun iv s2 ⟨y, H2, I2, ry, a, v, ex, g, q2⟩ => ?_)
  subst ex
  obtain rfl : u = Value.ref a := rx
  exact ⟨dict_typeIs I2 g, d_getItem hu I2 g ry fun w' s3 I3 rw' => ⟨v, H2, I3, rw', q2⟩⟩
theorem pc_din (hu : X.A.units + 1 < cLine) (hi : PE X i ty) (ho : PE X o td) : PC X .In i o (tDIn ty td) := by
  intro pins s σ H Q I h
  refine thn (hi pins s σ H _ I h) fun iv s1 ⟨y, H1, I1, ry, q1⟩ => thn (ho pins s1 σ H1 _ I1 q1) fun u s2 ⟨x, H2, I2, rx, a, ov, ex, g, q2⟩ => ?_
  subst ex
  obtain rfl : u = Value.ref a := rx
  exact d_in hu I2 g ry fun s3 I3 => ⟨.bl ov.isSome, H2, I3, rfl, q2⟩
theorem ps_dput (hu : X.A.units + 1 < cLine) (ho : PE X o td) (hi : PE X i ty) (hv : PE X value tv) (hs : swapsWith value (some (.Subscript o i pos')) pos.line X.env = pure false) :
    PS X (.Assign [.Subscript o i pos'] value pos) (sDPut td ty tv) := by
  intro pins s σ H D I h
  refine wpAny_Assign_Subscript (thn (hv pins s σ H _ I h) fun r s1 ⟨v, H1, I1, rv, q1⟩ => thn (ho pins s1 σ H1 _ I1 q1) fun u s2 ⟨x, H2, I2, rx, q2⟩ => thn (hi pins s2 σ H2 _ I2 q2) fun iv s3 ⟨y, H3, I3, ry, a, H4, ex, g, q3⟩ => ?_) hs
  subst ex
  obtain rfl : u = Value.ref a := rx
  exact d_setItem hu I3 g ry rv fun s4 I4 => ⟨σ, H4, I4, q3⟩
end
theorem dk_empty {P : Program} {w : World} {H : Hp} (h : Heap) (hb : sysModules < h.objs.size) : ObjOk P w H (h.push { cls := .type "dict", data := .dict #[] }) h.objs.size (.dK []) :=
  ⟨Nat.zero_le _, beq_eq_false_iff_ne.mpr (Ne.symm (Nat.ne_of_lt hb)), [], .nil, Heap.DictOf.new h⟩
noncomputable def tDNewK : TE := fun _ H Q => ∀ p, H p = none → Q (.ref p) (upd H p (.dK []))
section
variable {X : Cx} {pos : Pos}
theorem pe_dnewK : PE X (.Dict [] [] pos) tDNewK := fun pins s σ H Q I h =>
  wpAny_Dict_empty ⟨.ref s.heap.objs.size, _, I.laid (a := s.heap.objs.size) (o := .dK []) (t' := s.toks) (fun _ _ q => Heap.get?_push_of_some _ q) (Nat.le_refl _) (dk_empty s.heap I.big), rfl, h _ (I.hok.fresh (Nat.le_refl _))⟩
end
structure M1 (X : Cx) (o : Expr) (m : Str) (apos : Pos) (e : Expr) (cpos : Pos) : Prop where
  base : attributeBase o m X.env (eval o X.env) = eval o X.env
  few : ((backTo cpos (starEach [e] X.env)).all (fun x => !x.1) && (backToKw cpos (keywordEach [] X.env)).all (fun x => x.1.isSome)
    && decide (([e] : List Expr).length + ([] : List Keyword).length + (if ([] : List Keyword).isEmpty then 0 else 1) < 30)) = true
  line : (apos.endLine == cpos.line) = true
  trees : backTo cpos (starEach [e] X.env) = [(false, eval e X.env)]
structure M2 (X : Cx) (o : Expr) (m : Str) (apos : Pos) (e f : Expr) (cpos : Pos) : Prop where
  base : attributeBase o m X.env (eval o X.env) = eval o X.env
  few : ((backTo cpos (starEach [e, f] X.env)).all (fun x => !x.1) && (backToKw cpos (keywordEach [] X.env)).all (fun x => x.1.isSome)
    && decide (([e, f] : List Expr).length + ([] : List Keyword).length + (if ([] : List Keyword).isEmpty then 0 else 1) < 30)) = true
  line : (apos.endLine == cpos.line) = true
  trees : backTo cpos (starEach [e, f] X.env) = [(false, eval e X.env), (false, eval f X.env)]
noncomputable def IsD (H : Hp) (a : Addr) : Prop := (∃ kvs, Rd H a (.dK kvs)) ∨ ∃ kvs, Rd H a (.dT kvs)
theorem isD_at {X : Cx} {pins : List (Addr × Obj)} {σ : St} {H : Hp} {s : Shared} {a : Addr} (I : Inv X pins σ H s) (d : IsD H a) :
    s.TypeIs (.ref a) "dict" ∧ (∀ b, Value.ref a = .ref b → ∃ ob, s.heap.get? b = some ob ∧ ob.dict = none) ∧ (a == sysModules) = false := by
  rcases d with ⟨kvs, e⟩ | ⟨kvs, e⟩
  · obtain ⟨_, hd, vs, _, dd⟩ := dk_rd I.hok e
    refine ⟨dd.typeIs, fun b q => ?_, hd⟩
    cases q
    obtain ⟨ob, _, _, h1, h2, _⟩ := dd
    exact ⟨ob, h1, h2.2.1⟩
  · obtain ⟨_, hd, xs, _, dd⟩ := dt_rd I.hok e
    refine ⟨dd.typeIs, fun b q => ?_, hd⟩
    cases q
    obtain ⟨ob, _, _, h1, h2, _⟩ := dd
    exact ⟨ob, h1, h2.2.1⟩
section
variable {X : Cx} {pins : List (Addr × Obj)} {σ : St} {H : Hp} {s : Shared} {a : Addr} {y d : V} {u r : Value} {o : Option V} {A : Around} {E : Value → Shared → Prop}
end
noncomputable def tDPop1 (td ty : TE) : TE := fun σ H Q => td σ H fun x H1 => ∃ a, x = .ref a ∧ IsD H1 a ∧ ty σ H1 fun y H2 => ∃ kvs k v, H2 a = some (.dK kvs) ∧ y = kV k ∧ valV kvs k = some v ∧ Q v (upd H2 a (.dK (dropK kvs k)))
section
variable {X : Cx} {o e f : Expr} {apos cpos : Pos} {td ty tx : TE}
theorem pe_dpop1 (ho : PE X o td) (he : PE X e ty) (m : M1 X o "pop" apos e cpos) : PE X (.Call (.Attribute o "pop" apos) [e] [] cpos) (tDPop1 td ty) := by
  intro pins s σ H Q I h
  refine wpAny_Call_method m.base m.few m.line PySem.F.plainAttrs_dict PySem.F.slot_dict_pop PySem.F.type_dict_pop (thn (ho pins s σ H _ I h) fun u s1 ⟨x, H1, I1, rx, a, ex, d, q1⟩ => ?_)
  subst ex
  obtain rfl : u = Value.ref a := rx
  obtain ⟨t1, t2, _⟩ := isD_at I1 d
  refine ⟨t1, t2, ?_⟩
  rw [m.trees]
  refine Calls.callWith_builtin rfl (Calls.evalArgs_plain (Calls.spliced_cons (thn (he pins s1 σ H1 _ I1 q1) fun iv s2 ⟨y, H2, I2, ry, kvs, k, v, ea, ey, l, q2⟩ => Calls.spliced_nil ?_)))
  subst ey
  exact d_pop I2 ea ry l (.inl rfl) fun w' s3 I3 rw' => ⟨v, _, I3, rw', q2⟩
end
section
variable {X : Cx} {pins : List (Addr × Obj)} {σ : St} {H : Hp} {s : Shared} {a : Addr} {kvs : List (Key × V)} {A : Around} {E : Value → Shared → Prop}
end
section
variable {X : Cx} {pins : List (Addr × Obj)} {σ : St} {H : Hp} {s : Shared} {a : Addr} {y : V} {u : Value} {A : Around} {E : Value → Shared → Prop}
end
end L2
namespace Att
open PySem PySem.W PySem.Calls PyProof.Rows
theorem ints_of_wellAll {P : Params} {h : Heap} : ∀ (ns : List Int) (vs : List Value), WellAll P h vs (ns.map WData.int) → IntsAre vs ns := by
  intro ns
  induction ns with
  | nil =>
    intro vs w
    rw [List.map_nil] at w
    cases w
    exact .nil
  | cons n ns ih =>
    intro vs w
    rw [List.map_cons] at w
    cases w with
    | cons a b =>
      cases a
      exact .cons _ _ (ih _ b)
theorem script_of {l : OpenLaw} {n : Nat} (hn : l.most = some n) {P : Params} {h : Heap} {args : List WData} {vals : List Value}
    (hpre : l.row.toRowW.claim.pre args = true) (hwl : WellAll P h vals args) :
    ∃ a vs ns, vals = [Value.ref a] ∧ args = [WData.list (ns.map WData.int)] ∧ h.get? a = some { cls := .type "list", data := .seq vs.toArray } ∧ IntsAre vs ns ∧ ns.length ≤ n := by
  have hsh : WShape.hasAll [] args [.list .int] = true := (pre_splitW hpre).1
  have hc : l.pre.holds [] { args := args } = true := (pre_splitW hpre).2
  obtain ⟨d, r, rfl, h1, h2⟩ := hasAllW_cons hsh
  obtain rfl := hasAllW_nil h2
  obtain ⟨xs, rfl, h3⟩ := hasW_list h1
  obtain ⟨ns, rfl⟩ := items_int h3
  have hlen : ns.length ≤ n := by
    unfold OpenLaw.pre at hc
    have h4 : (WTm.not (.lt (.lit (.int (n : Int))) (.len (.arg 0)))).holds [] { args := [.list (ns.map .int)] } = true := by
      have h4 := (holds_andW hc).1
      rw [hn] at h4
      exact h4
    have h5 := condW_of h4 (w_not (w_lt w_lit (w_len_list (w_arg rfl))))
    rw [List.length_map] at h5
    refine Nat.le_of_not_lt fun q => ?_
    have q' : (n : Int) < ((ns.length : Nat) : Int) := by omega
    first
      | (rw [decide_eq_true q'] at h5; exact absurd h5 (by decide))
      | (simp at h5; omega)
  cases hwl with
  | cons w1 w2 =>
    cases w2
    cases w1 with
    | list ho hall => exact ⟨_, _, ns, rfl, rfl, ho, ints_of_wellAll ns _ hall, hlen⟩
theorem post_true (l : OpenLaw) (args : List WData) : l.row.toRowW.claim.post args (.bool true) args = true :=
  postW_of (r := l.row.toRowW) (X := (true == true))
    (show WShape.has [] (.bool true) .bool = true by first | rfl | decide | simp [WShape.has, WShape.arms, WShape.armsAll])
    (show (WTm.eq .res (.lit (.bool true))).value [] { args := args, res := some (.bool true), after := args } = some (.bool (true == true)) from w_eq_bool (w_res rfl) w_lit) rfl
theorem attach_call {l : OpenLaw} {n : Nat} {q : Program} {loose : List Str} {XP : (Str → Option Value) → Heap → Prop} {YP : World → Heap → Prop} {d : DefRec}
    (hn : l.most = some n) (hdf : d.params.defaults = [])
    (call : ∀ (w : World) (s₀ s₁ : Shared) (mg mb : Str → Option Value) (fa : Addr) (o : Obj) (pm cd doc : Value) (a : Addr) (vs : List Value) (ns : List Int),
      Ground q loose [] XP w s₀ mg mb s₁.heap → YP w s₁.heap →
      s₁.heap.get? fa = some o → o.data = .func (docDef d.name d.params d.body d.scope pm cd doc) → s₁.heap.CodeRec cd d.name → mg d.name = some (.ref fa) →
      s₁.heap.get? a = some { cls := .type "list", data := .seq vs.toArray } → IntsAre vs ns → ns.length ≤ n → s₁.gens = #[] →
      codeAny (model l.prog w) callerA (.call (.ref fa) ⟨[.ref a], []⟩) (fun r s' => r = .ok (.ret (.bool true)) ∧ OldK s₁.heap s'.heap ∧ s'.os = s₁.os ∧ AllBare s'.gens) s₁) :
    WalkO q loose XP YP l.row.toRowW d [] (fun f vs => PySem.call f vs) := by
  intro w s₀ s₁ mg mb G Y fa o pm cd doc dV kV ho hd hcd hD hmg hg args vals as hpre hlay hrd hwl hlo
  obtain rfl : dV = .none := Dflts.none hD hdf
  obtain rfl : kV = .none := Dflts.noKw hD
  obtain ⟨a, vs, ns, rfl, rfl, hobj, hints, hlen⟩ := script_of hn hpre hwl
  refine enter_call (codeAny_mono (call w s₀ s₁ mg mb fa o pm cd doc a vs ns G Y ho (fd_plain hd) hcd hmg hobj hints hlen hg) fun r s' hq => ?_)
  obtain ⟨rfl, h2, h3, h4⟩ := hq
  exact ⟨.inl ⟨.bool true, .bool true, [], rfl, fun _ => rfl, .bool true, post_true l _, fun _ => ⟨List.Pairwise.nil, fun _ hm => (nomatch hm)⟩⟩, h2, h3, h4⟩
section
variable {prog : Program} {w : World} {A : Around} {E : Value → Shared → Prop} {s : Shared} {K : Frag}
end
end Att
namespace L2
open PySem PySem.Spec PyProof.Rows
theorem vals_ints : ∀ {vs : List Value} {ns : List Int}, IntsAre vs ns → Vals (ns.map V.int) vs
  | _, _, .nil => .nil
  | _, _, .cons n t h => .cons ⟨t, rfl⟩ (vals_ints h)
noncomputable def Only (H : Hp) : Prop := ∀ b, H b = none ∨ ∃ o xs, H b = some (.frz o (.lst xs))
theorem law_call {P : Program} {w : World} {K : PySem.W.Frag} {mg mb : Str → Option Value} {CX : CXT} {k : Nat} {fa a : Addr} {fd : FuncData} {x : Str} {sp : Sp} {s₁ : Shared} {vs : List Value} {ns : List Int}
    (KX : K.In s₁.heap) (hns : s₁.heap.Ns mainGlobals mg) (hb : s₁.heap.Ns builtinsNs mb) (hbb : ∀ x : Str, x ≠ "__name__" → mb x = bootBuiltins x) (hlim : s₁.heap.NoLimit) (hg : s₁.gens = #[])
    (ha : s₁.heap.get? a = some { cls := .type "list", data := .seq vs.toArray }) (hi : IntsAre vs ns) (hl : ns.length ≤ sizeLine) (hr : Room k callerA)
    (F : ∀ base : Heap, K.In base → base.Ns mainGlobals mg → FnOk P w K mg base CX k fa fd [x] sp) (hbind : ∀ (s : Shared) (u : Value), BindsTo s fd ⟨[u], []⟩ [(x, u)])
    (hsp : ∀ H : Hp, Only H → SqL K H a (ns.map V.int) → sp [.ref a] H (fun v _ => v = .bl true) fun _ _ _ => False)
    (hCX : ∀ H e s', CX [] H s₁ (fun _ _ _ => False) e s' → False) :
    codeAny (model P w) callerA (.call (.ref fa) ⟨[.ref a], []⟩) (fun r s' => r = .ok (.ret (.bool true)) ∧ OldK s₁.heap s'.heap ∧ s'.os = s₁.os ∧ AllBare s'.gens) s₁ := by
  have rv := vals_ints hi
  have lenV := hi.length
  have core : ∀ H : Hp, Only H → SqL K H a (ns.map V.int) → HOk P w H s₁.heap → (∀ b, H b ≠ none → b = a) → (H a ≠ none → K.lookup a = none) →
      codeAny (model P w) callerA (.call (.ref fa) ⟨[.ref a], []⟩) (fun r s' => r = .ok (.ret (.bool true)) ∧ OldK s₁.heap s'.heap ∧ s'.os = s₁.os ∧ AllBare s'.gens) s₁ := by
    intro H hO hS hok hA hK
    have base_of : ∀ {b : Addr} {o : Obj}, s₁.heap.get? b = some o → H b = none → (hidT s₁.heap H).get? b = some o := fun e n => hidT_get e n
    have noA : ∀ {b : Addr} {o : Obj} {es : Array DictEntry} {ep : Nat}, s₁.heap.get? b = some o → o.data = .dict es ep → H b = none := fun {b o es ep} e d => by
      cases q : H b with
      | none => rfl
      | some u =>
        have e' : b = a := hA b (by rw [q]; simp)
        subst e'
        rw [ha] at e; cases e
        have d' : Data.seq vs.toArray _ = Data.dict es ep := d
        cases d'
    have nsK : ∀ {b : Addr} {m : Str → Option Value}, s₁.heap.Ns b m → (hidT s₁.heap H).Ns b m := fun {b m} ⟨o, es, ep, e, d, r⟩ => ⟨o, es, ep, base_of e (noA e d), d, r⟩
    have hKb : K.In (hidT s₁.heap H) := fun b o e => base_of (KX b o e) (by
      cases q : H b with
      | none => rfl
      | some u =>
        have e' : b = a := hA b (by rw [q]; simp)
        subst e'
        rw [hK (by rw [q]; simp)] at e; cases e)
    have hM : Mod K mg (hidT s₁.heap H) := ⟨hKb, nsK hns, ⟨mb, nsK hb, hbb⟩, let ⟨mc, h1, h2⟩ := hlim; ⟨mc, nsK h1, h2⟩⟩
    have e0 : Env0 P w K mg (hidT s₁.heap H) callerA [] s₁ H := ⟨rfl, hM, fun b o e => of_hidT e, Nat.le_of_eq (hidT_size _ _), trivial, fun b hb => absurd (show b ∈ ([] : List Addr) from hb) (by simp), hok, .of_eq hg⟩
    refine codeAny_mono ((F _ hKb (nsK hns)).run callerA [] s₁ H ⟨[.ref a], []⟩ [.ref a] [.ref a] _ _ hr e0 (hbind s₁ (.ref a)) (.cons rfl .nil) (hsp H hO hS)) fun r s' h => ?_
    cases r with
    | error e => exact (hCX H e s' h).elim
    | ok fl =>
      cases fl with
      | next => exact False.elim h
      | brk => exact False.elim h
      | cont => exact False.elim h
      | ret u =>
        obtain ⟨v, H', os, bare, un, hok', r', q⟩ := h
        have q' : v = .bl true := q
        subst q'
        obtain rfl : u = Value.bool true := r'
        refine ⟨rfl, OldK.of_keep fun b o e => ?_, os, bare⟩
        cases q : H b with
        | none => exact un.keep b o e q (by intro z; exact absurd (show b ∈ ([] : List Addr) from z) (by simp)) (by simp)
        | some u =>
          rcases hO b with z | ⟨ob, xs, z⟩
          · rw [q] at z; cases z
          · have z2 := un.frzs b ob _ z
            obtain ⟨e1, _⟩ := hok b _ z
            obtain ⟨e2, _⟩ := hok' b _ z2
            rw [e] at e1; cases e1
            exact e2
  cases hk : K.lookup a with
  | some o =>
    have e := KX a o hk
    rw [ha] at e
    cases e
    refine core (fun _ => none) (fun _ => .inl rfl) (.inr ⟨_, vs.toArray, _, hk, rfl, rfl, rfl, by rw [List.size_toArray, lenV]; exact hl, by simpa using rv⟩) (fun b u z => by have z' : (none : Option HO) = some u := z; cases z') (fun b z => absurd rfl z) fun z => absurd rfl z
  | none =>
    refine core (fun b => if b = a then some (.frz { cls := .type "list", data := .seq vs.toArray } (.lst (ns.map V.int))) else none) (fun b => ?_) (.inl (.inr ⟨{ cls := .type "list", data := .seq vs.toArray }, if_pos rfl⟩)) (fun b u z => ?_) (fun b z => ?_) fun _ => hk
    · by_cases hb : b = a
      · exact .inr ⟨_, _, if_pos hb⟩
      · exact .inl (if_neg hb)
    · by_cases hb : b = a
      · have z' := (if_pos hb).symm.trans z
        cases z'
        subst hb
        exact ⟨ha, by rw [List.length_map]; exact hl, vs, _, rv, ha⟩
      · have z' := (if_neg hb).symm.trans z
        cases z'
    · by_cases hb : b = a
      · exact hb
      · exact absurd (if_neg hb) z
end L2
namespace L2
open PySem PySem.Spec PyProof.Rows
theorem walk_of {l : PySem.W.OpenLaw} {n k : Nat} {q : Program} {loose : List Str} {XP : (Str → Option Value) → Heap → Prop} {YP : World → Heap → Prop} {d : DefRec} {K : Params → PySem.W.Frag} {CX : World → CXT} {sp : World → Sp} {x : Str}
    (hn : l.most = some n) (hn2 : n ≤ sizeLine) (hdf : d.params.defaults = []) (hr : Room k callerA)
    (hY : ∀ (w : World) (h : Heap), YP w h → (K w.params).In h)
    (F : ∀ (w : World) (mg : Str → Option Value) (fa : Addr) (h : Heap), (K w.params).In h → h.Ns mainGlobals mg → mg d.name = some (.ref fa) →
      ∃ fd : FuncData, (∀ (s : Shared) (u : Value), BindsTo s fd ⟨[u], []⟩ [(x, u)]) ∧
        ∀ base : Heap, (K w.params).In base → base.Ns mainGlobals mg → FnOk l.prog w (K w.params) mg base (CX w) k fa fd [x] (sp w))
    (hsp : ∀ (w : World) (H : Hp) (a : Addr) (ns : List Int), ns.length ≤ n → Only H → SqL (K w.params) H a (ns.map V.int) → sp w [.ref a] H (fun v _ => v = .bl true) fun _ _ _ => False)
    (hCX : ∀ (w : World) (H : Hp) (s : Shared) (e : Value) (s' : Shared), CX w [] H s (fun _ _ _ => False) e s' → False) :
    PySem.W.WalkO q loose XP YP l.row.toRowW d [] (fun f vs => PySem.call f vs) := by
  refine Att.attach_call hn hdf fun w s₀ s₁ mg mb fa o pm cd doc a vs ns G Y ho hd hcd hmg hobj hints hlen hg => ?_
  have KX := hY w _ Y
  obtain ⟨fd, hb, hF⟩ := F w mg fa _ KX G.T.g hmg
  exact law_call KX G.T.g G.T.b G.T.builtins G.T.nolimit hg hobj hints (Nat.le_trans hlen hn2) hr hF hb (fun H hO hS => hsp w H a ns hlen hO hS) fun H e s' => hCX w H s₁ e s'
end L2
namespace L2
open PySem PySem.Spec PyProof.Rows
noncomputable def defArgs (s : Stmt) : Arguments := match s with
  | .FunctionDef _ a _ _ _ _ _ _ _ _ => a
  | _ => { posonlyargs := [], args := [], vararg := none, kwonlyargs := [], kw_defaults := [], kwarg := none, defaults := [] }
noncomputable def defBody (s : Stmt) : List Stmt := match s with
  | .FunctionDef _ _ b _ _ _ _ _ _ _ => b
  | _ => []
noncomputable def defScope (s : Stmt) : Scope := match s with
  | .FunctionDef _ _ _ _ _ _ sc _ _ _ => sc
  | _ => { kind := .function, names := [], isGenerator := false, isCoroutine := false }
noncomputable abbrev CX0 : CXT := fun _ _ _ _ _ _ => False
noncomputable abbrev E0 : XK := fun _ _ _ => False
theorem pass0 {X : Cx} : Passes CX0 X E0 := fun _ _ _ _ _ _ _ h => h.elim
structure Fun (K : PySem.W.Frag) (x qual : Str) (st : Stmt) (f : Addr) (fd : FuncData) : Prop where
  ex : ∃ (oc : Value) (od : Option Addr) (kV doc pm : Value) (an : Option Addr) (cdv ct : Value) (osl : Array (Option Value)),
    fd = PySem.W.fnOf x qual (defArgs st) (defBody st) (defScope st) .none kV doc pm an cdv ct ∧ K.lookup f = some ⟨oc, od, .func fd, osl⟩ ∧ PySem.W.codeIn K cdv qual = true
  kp : PySem.W.keepIn K (.ref f) = true
section
variable {P : Program} {w : World} {K : PySem.W.Frag} {mg : Str → Option Value} {base : Heap}
theorem Fun.ok {x qual : Str} {st : Stmt} {f : Addr} {fd : FuncData} {N ps : List Str} {k : Nat} {sp : Sp} (F : Fun K x qual st f fd) (S : FnScope N ps (defScope st)) (len : ∀ vs H Q E, sp vs H Q E → vs.length = ps.length)
    (hbody : ∀ (cdv : Value) (A : Around) (outer : List Env) (s : Shared) (H : Hp) (vs : List V) (Q : VK) (E : XK), Room k (A.deeper (envOfC qual (defScope st) s.heap.objs.size f cdv)) → sp vs H Q E →
      ∃ t, PSs (cxOf CX0 P w K mg base N qual (defScope st) f cdv A outer s H E).nox (defBody st) t ∧ t { nx := fun _ H' => Q .non H', rt := Q } (start N vs) H) : FnOk P w K mg base CX0 (k + 1) f fd ps sp := by
  obtain ⟨oc, od, kV, doc, pm, an, cdv, ct, osl, rfl, lk, hcd⟩ := F.ex
  refine fn_of lk hcd S len fun A outer s H vs Q E hr hsp => ?_
  obtain ⟨t, h, q⟩ := hbody cdv A outer s H vs Q E hr hsp
  exact ⟨t, h.nox, q⟩
theorem Fun.binds {x qual : Str} {st : Stmt} {f : Addr} {fd : FuncData} {ps : List Str} (F : Fun K x qual st f fd)
    (h : ∀ (kV doc pm : Value) (an : Option Addr) (cdv ct : Value) (us : List Value), us.length = ps.length → bindArgs (PySem.W.fnOf x qual (defArgs st) (defBody st) (defScope st) .none kV doc pm an cdv ct) ⟨us, []⟩ = pure (ps.zip us)) : Binds K fd ps [] := by
  obtain ⟨oc, od, kV, doc, pm, an, cdv, ct, osl, rfl, lk, hcd⟩ := F.ex
  exact .all (h kV doc pm an cdv ct)
theorem fun_mk {x qual : Str} {st : Stmt} {f : Addr} {oc : Value} {od an : Option Addr} {osl : Array (Option Value)} {kV doc pm cdv ct : Value} (l : K.lookup f = some ⟨oc, od, .func (PySem.W.fnOf x qual (defArgs st) (defBody st) (defScope st) .none kV doc pm an cdv ct), osl⟩)
    (c : PySem.W.codeIn K cdv qual = true) (k : PySem.W.keepIn K (.ref f) = true) : Fun K x qual st f (PySem.W.fnOf x qual (defArgs st) (defBody st) (defScope st) .none kV doc pm an cdv ct) := ⟨⟨oc, od, kV, doc, pm, an, cdv, ct, osl, rfl, l, c⟩, k⟩
end
theorem hu_of {A : Around} {k : Nat} (hr : Room k A) : A.units + 1 < cLine := Nat.lt_of_le_of_lt (Nat.add_le_add_left (by decide : 1 ≤ 64) _) hr.units
section
variable {X : Cx}
end
noncomputable def Same (H H' : Hp) : Prop := ∀ b o, H b = some o → H' b = some o
section
variable {κ : Type} [DecidableEq κ]
end
end L2
namespace L2
open PySem PySem.Spec PyProof.Rows
noncomputable def clOf (env : Env) : List (Str × NameKind) → List (Str × Addr) → List (Str × Addr)
  | [], cs => cs
  | (n, k) :: r, cs => clOf env r (if k == .free then (match env.cells.lookup n with | some c => (n, c) :: cs | none => cs) else cs)
theorem closureFor_fold {env : Env} : ∀ (l : List (Str × NameKind)) (cs : List (Str × Addr)), (∀ x ∈ l, x.2 = .free → ∃ c, env.cells.lookup x.1 = some c) →
    (forIn l cs fun (x : Str × NameKind) (r : List (Str × Addr)) => (if (x.2 == NameKind.free) = true then (do let a ← cellOf env x.1; pure (ForInStep.yield ((x.1, a) :: r))) else pure (ForInStep.yield r) : Sem (ForInStep (List (Str × Addr))))) = pure (clOf env l cs)
  | [], cs, _ => by rw [List.forIn_nil]; rfl
  | (n, k) :: r, cs, h => by
    have hr : ∀ x ∈ r, x.2 = .free → ∃ c, env.cells.lookup x.1 = some c := fun x hx => h x (List.mem_cons_of_mem _ hx)
    rw [List.forIn_cons]
    by_cases hk : k = .free
    · subst hk
      obtain ⟨c, hc⟩ := h (n, .free) List.mem_cons_self rfl
      have e : cellOf env n = pure c := by unfold cellOf; rw [hc]
      dsimp only
      rw [if_pos (by decide), e, pure_bind, pure_bind]
      dsimp only
      rw [closureFor_fold r _ hr]
      show _ = pure (clOf env r (if (NameKind.free == NameKind.free) = true then (match env.cells.lookup n with | some c => (n, c) :: cs | none => cs) else cs))
      rw [if_pos (by decide), hc]
    · have hb : ¬ (k == NameKind.free) = true := by simpa using hk
      dsimp only
      rw [if_neg hb, pure_bind]
      dsimp only
      rw [closureFor_fold r _ hr]
      show _ = pure (clOf env r (if (k == NameKind.free) = true then (match env.cells.lookup n with | some c => (n, c) :: cs | none => cs) else cs))
      rw [if_neg hb]
theorem closureFor_cells {scope : Scope} {env : Env} (h : ∀ x ∈ scope.names, x.2 = .free → ∃ c, env.cells.lookup x.1 = some c) : closureFor scope env = pure (clOf env scope.names []) := by
  have e := closureFor_fold (env := env) scope.names [] h
  unfold closureFor
  dsimp only
  rw [← bind_pure (pure (clOf env scope.names [])), ← e]
theorem clOf_sub {env : Env} : ∀ (l : List (Str × NameKind)) (cs : List (Str × Addr)), (∀ x c, cs.lookup x = some c → env.cells.lookup x = some c) → ∀ x c, (clOf env l cs).lookup x = some c → env.cells.lookup x = some c
  | [], cs, h => h
  | (n, k) :: r, cs, h => by
    refine clOf_sub r _ ?_
    intro x c
    by_cases hk : (k == NameKind.free) = true
    · rw [if_pos hk]
      cases hl : env.cells.lookup n with
      | none => exact h x c
      | some d =>
        intro q
        by_cases hx : x = n
        · subst hx
          rw [List.lookup_cons_self] at q
          rw [hl]; exact q
        · have hb : (x == n) = false := beq_eq_false_iff_ne.mpr hx
          simp only [List.lookup_cons, hb] at q
          exact h x c q
    · rw [if_neg hk]; exact h x c
theorem clOf_keeps {env : Env} : ∀ (l : List (Str × NameKind)) (cs : List (Str × Addr)) (x : Str), (cs.lookup x).isSome = true → ((clOf env l cs).lookup x).isSome = true
  | [], cs, x, h => h
  | (n, k) :: r, cs, x, h => by
    refine clOf_keeps r _ x ?_
    by_cases hk : (k == NameKind.free) = true
    · rw [if_pos hk]
      cases hl : env.cells.lookup n with
      | none => exact h
      | some d =>
        by_cases hx : (x == n) = true
        · simp only [List.lookup_cons, hx, Option.isSome_some]
        · have hb : (x == n) = false := by simpa using hx
          simp only [List.lookup_cons, hb]; exact h
    · rw [if_neg hk]; exact h
theorem clOf_has {env : Env} : ∀ (l : List (Str × NameKind)) (cs : List (Str × Addr)) (x : Str) (c : Addr), (x, NameKind.free) ∈ l → env.cells.lookup x = some c → ((clOf env l cs).lookup x).isSome = true
  | [], cs, x, c, h, _ => by simp at h
  | (n, k) :: r, cs, x, c, h, hc => by
    rcases List.mem_cons.mp h with e | e
    · obtain ⟨rfl, rfl⟩ := Prod.mk.inj e
      refine clOf_keeps r _ _ ?_
      rw [if_pos (by decide), hc]
      simp only [List.lookup_cons_self, Option.isSome_some]
    · exact clOf_has r _ x c e hc
theorem clOf_look {env : Env} {l : List (Str × NameKind)} {x : Str} {c : Addr} (h : (x, NameKind.free) ∈ l) (hc : env.cells.lookup x = some c) : (clOf env l []).lookup x = some c := by
  obtain ⟨d, hd⟩ := Option.isSome_iff_exists.mp (clOf_has l [] x c h hc)
  have := clOf_sub l [] (fun _ _ z => by simp at z) x d hd
  rw [hc] at this; cases this
  exact hd
noncomputable def freesL : List (Str × NameKind) → List Str
  | [] => []
  | (n, .free) :: r => n :: freesL r
  | _ :: r => freesL r
theorem mem_freesL {x : Str} : ∀ {l : List (Str × NameKind)}, x ∈ freesL l → (x, NameKind.free) ∈ l
  | [], h => by simp [freesL] at h
  | (n, k) :: r, h => by
    cases k <;> first
      | (rcases List.mem_cons.mp (show x ∈ n :: freesL r from h) with e | e
         · subst e; exact List.mem_cons_self
         · exact List.mem_cons_of_mem _ (mem_freesL e))
      | exact List.mem_cons_of_mem _ (mem_freesL (show x ∈ freesL r from h))
theorem freesL_of {x : Str} : ∀ {l : List (Str × NameKind)}, (x, NameKind.free) ∈ l → x ∈ freesL l
  | [], h => by simp at h
  | (n, k) :: r, h => by
    rcases List.mem_cons.mp h with e | e
    · cases e; exact List.mem_cons_self
    · have ih := freesL_of e
      cases k <;> first
        | exact List.mem_cons_of_mem _ ih
        | exact ih
theorem lookup_changed {x : Str} (f : Str × NameKind → Str × NameKind) (hf : ∀ p, f p = p ∨ p.2 = .free ∧ f p = (p.1, .cell)) : ∀ (l : List (Str × NameKind)) (k : NameKind), (l.map f).lookup x = some k → l.lookup x = some k ∨ l.lookup x = some .free ∧ k = .cell
  | [], _, h => nomatch h
  | (y, j) :: l, k, h => by
    have rest := lookup_changed (x := x) f hf l k
    rw [List.map_cons] at h
    rcases hf (y, j) with e | ⟨ej, e⟩ <;> rw [e] at h <;> cases he : x == y <;> simp only [List.lookup_cons, he] at h ⊢
    · exact rest h
    · exact .inl h
    · exact rest h
    · cases h
      cases (show j = NameKind.free from ej)
      exact .inr ⟨rfl, rfl⟩
theorem relabel_lookup {scope : Scope} {env : Env} {x : Str} {k : NameKind} (h : (relabel scope env).names.lookup x = some k) : scope.names.lookup x = some k ∨ scope.names.lookup x = some .free ∧ k = .cell := by
  unfold relabel at h
  refine lookup_changed _ (fun p => ?_) _ _ h
  obtain ⟨n, j⟩ := p
  dsimp only
  split
  · rename_i hc
    refine .inr ⟨?_, rfl⟩
    simp only [Bool.and_eq_true, beq_iff_eq] at hc
    exact hc.1.1
  · exact .inl rfl
noncomputable def pickS (ix : List Nat) (σ : St) : St := ix.map fun j => (σ[j]?).getD none
noncomputable def cxB (X : Cx) (scope : Scope) (tgs : List Str) (fp : List Addr) (C : Addr) (s : Shared) (H : Hp) : Cx :=
  { X with N := tgs ++ freesL scope.names, s₀ := s, H₀ := H, env := compEnvC scope (clOf X.env scope.names []) C X.env, outer := X.stack, ex := fp, fn := fun _ => false, pn := [], xe := fun _ _ => False }
noncomputable def AllL {α : Type} (P : α → Prop) : List α → Prop
  | [] => True
  | x :: r => P x ∧ AllL P r
theorem allL_mem {α : Type} {P : α → Prop} : ∀ {l : List α}, AllL P l → ∀ x ∈ l, P x
  | [], _, _, h => by simp at h
  | _ :: _, h, x, hx => by
    rcases List.mem_cons.mp hx with e | e
    · subst e; exact h.1
    · exact allL_mem h.2 x e
structure BScope (X : Cx) (scope : Scope) (tgs : List Str) (ix : List Nat) : Prop where
  kind : scope.kind = .function
  nocell : ∀ y ∈ scope.names, y.2 ≠ .cell
  loc : ∀ y ∈ scope.names, y.2 = .local → scope.names.lookup y.1 = some .local
  fre : AllL (fun x => X.env.kindOf x = some .cell ∨ X.env.kindOf x = some .free) (freesL scope.names)
  ixs : (freesL scope.names).map some = ix.map fun j => X.N[j]?
  ndl : ∀ x ∈ freesL scope.names, scope.names.lookup x = some .free
section
variable {X : Cx} {scope : Scope} {tgs : List Str} {ix : List Nat}
theorem BScope.cells (S : BScope X scope tgs ix) (ok : X.Ok) : ∀ x ∈ scope.names, x.2 = .free → ∃ c, X.env.cells.lookup x.1 = some c := fun x hx hk => by
  obtain ⟨n, k⟩ := x
  subst hk
  exact ok.has n (allL_mem S.fre n (freesL_of hx))
theorem Inv.cellLt {pins : List (Addr × Obj)} {σ : St} {H : Hp} {s : Shared} (I : Inv X pins σ H s) {x : Str} {c : Addr} (e : X.env.cells.lookup x = some c) : c < s.heap.objs.size := by
  obtain ⟨v, q⟩ := I.cell x c e
  exact q.lt
theorem Inv.track {pins : List (Addr × Obj)} {σ : St} {H : Hp} {s : Shared} {D : Addr} {o : HO} (I : Inv X pins σ H s) (f : FpOk X pins H D) (new : ObjOk X.prog X.w (upd H D o) s.heap D o) : Inv X pins σ (upd H D o) s := by
  obtain ⟨f0, f1, f2, f3, f4, f5⟩ := f
  have nD : ∀ b u, H b = some u → b ≠ D := fun b u e z => by rw [z, f0] at e; cases e
  have := I.step (h' := s.heap) (H' := upd H D o) (g' := s.gens) (t' := s.toks) (d' := s.drawn) (ch := [D]) (fun b hb => ?_) (fun b u _ _ _ e _ => e) (fun b u _ _ _ e _ => ⟨u.slots, e⟩) (fun b u hb e n => ?_) (fun b u _ e => ⟨u, e⟩)
    (fun b xs e => ?_) (fun b u v e => ?_) (fun b ps e => ?_) (fun m hm => hm) (fun b u e => ?_) I.bare
  · exact this
  · have e : b = D := by simpa using hb
    subst e
    exact ⟨f3, f1, f4, f5⟩
  · rw [upd_ne (fun z => hb (by simp [z]))]; exact n
  · rw [upd_ne (nD b _ e)]; exact e
  · rw [upd_ne (nD b _ e)]; exact e
  · exact ⟨#[], by rw [upd_ne (nD b _ e), e]; simp⟩
  · by_cases hb : b = D
    · subst hb; rw [upd_same] at e; cases e; exact new
    · rw [upd_ne hb] at e
      exact (I.hok b u e).stay (fun _ _ _ q => q) (fun c q => by rw [upd_ne (nD c _ q)]; exact q) fun c xs q => by rw [upd_ne (nD c _ q)]; exact q
theorem cxB_ok {pins : List (Addr × Obj)} {σ : St} {H : Hp} {s : Shared} {fp : List Addr} {C : Addr} (S : BScope X scope tgs ix) (I : Inv X pins σ H s) (hf : ∀ b ∈ fp, FpOk X pins H b) (hfo : ∀ b ∈ fp, b < s.heap.objs.size) (hC : s.heap.objs.size ≤ C) :
    (cxB X scope tgs fp C s H).Ok := by
  have sub : ∀ x c, (clOf X.env scope.names []).lookup x = some c → X.env.cells.lookup x = some c := clOf_sub scope.names [] (fun _ _ z => by simp at z)
  refine ⟨I.ok.mod, S.kind, I.ok.glob, I.ok.blt, hC, fun x y c h1 h2 => I.ok.inj x y c (sub x c h1) (sub y c h2), fun x hx => ?_, fun x c h => absurd h (by simp [cxB]), I.ok.hd, I.ok.frames, .inl rfl, fun b hb => ⟨?_, fun x c e => ?_⟩, fun b o e => I.bs b o e,
    Nat.le_trans I.ok.bsz I.sz, fun b o e hb => ?_, fun b hb hz => ?_, I.stack, I.stkFree⟩
  · have hx' : (relabel scope X.env).names.lookup x = some .cell ∨ (relabel scope X.env).names.lookup x = some .free := hx
    have hm : (x, NameKind.free) ∈ scope.names := by
      rcases hx' with h | h
      · rcases relabel_lookup h with q | q
        · exact absurd rfl (S.nocell _ (PySem.mem_of_lookup q))
        · exact PySem.mem_of_lookup q.1
      · rcases relabel_lookup h with q | q
        · exact PySem.mem_of_lookup q
        · exact absurd q.2 (by decide)
    obtain ⟨c, hc⟩ := S.cells I.ok _ hm rfl
    exact ⟨c, clOf_look hm hc⟩
  · exact fun z => absurd (hfo b hb) (by rw [z]; exact Nat.not_lt.mpr hC)
  · exact (hf b hb).2.2.2.2.1 x c (sub x c e)
  · obtain ⟨f0, f1, f2, f3, f4, f5⟩ := hf b hb
    rcases f3 with z | z
    · exact I.ok.noex b o e z
    · exact absurd (Heap.lt_size (I.ok.bs b o e).1) (Nat.not_lt.mpr z)
  · obtain ⟨f0, f1, f2, f3, f4, f5⟩ := hf b hb
    rcases List.mem_cons.mp (I.stkSub b hz) with z | z
    · exact f1 z
    · exact f2 z
end
end L2
namespace L2
open PySem PySem.Spec PyProof.Rows
section
variable {X : Cx} {scope : Scope} {tgs : List Str} {ix : List Nat}
noncomputable abbrev startB (tgs : List Str) (ix : List Nat) (σ : St) : St := List.replicate tgs.length none ++ pickS ix σ
theorem startB_get {σ : St} {k : Nat} {v : V} (h : (startB tgs ix σ)[k]? = some (some v)) : tgs.length ≤ k ∧ ∃ j, ix[k - tgs.length]? = some j ∧ σ[j]? = some (some v) := by
  have hk : tgs.length ≤ k := by
    rcases Nat.lt_or_ge k tgs.length with z | z
    · rw [List.getElem?_append_left (by simpa using z), List.getElem?_replicate, if_pos z] at h
      cases h
    · exact z
  refine ⟨hk, ?_⟩
  rw [List.getElem?_append_right (by simpa using hk), List.length_replicate] at h
  unfold pickS at h
  rw [List.getElem?_map] at h
  cases e : ix[k - tgs.length]? with
  | none => rw [e] at h; cases h
  | some j =>
    rw [e] at h
    refine ⟨j, rfl, ?_⟩
    have h' : (σ[j]?).getD none = some v := Option.some.inj h
    cases q : σ[j]? with
    | none => rw [q] at h'; cases h'
    | some o =>
      rw [q] at h'
      have h'' : o = some v := h'
      rw [h'']
theorem invB_start {pins : List (Addr × Obj)} {σ : St} {H : Hp} {s s4 : Shared} {fp : List Addr} {C D : Addr} {o : Obj} (S : BScope X scope tgs ix) (I : Inv X pins σ H s) (hf : ∀ b ∈ fp, FpOk X pins H b) (hfo : ∀ b ∈ fp, b < s.heap.objs.size)
    (hC : s.heap.objs.size ≤ C) (hD : s.heap.objs.size ≤ D) (hDC : D ≠ C) {m : Str → Option Value} (hn : s4.heap.Ns C m) (hk : ∀ b u, s.heap.get? b = some u → s4.heap.get? b = some u) (hos : s4.os = s.os) (hg : s4.gens = s.gens)
    (hDo : s4.heap.get? D = some o) (hcell : ∀ v, o.data ≠ .cell v) : Inv (cxB X scope tgs fp C s H) [(D, o)] (startB tgs ix σ) H s4 := by
  have ok := cxB_ok (tgs := tgs) (ix := ix) (C := C) S I hf hfo hC
  have sub : ∀ x c, (clOf X.env scope.names []).lookup x = some c → X.env.cells.lookup x = some c := clOf_sub scope.names [] (fun _ _ z => by simp at z)
  refine ⟨ok, hos, by rw [hg]; exact I.bare, Un.kept hk, ⟨m, hn, fun k x v h1 h2 h3 => ?_⟩, fun x c e => ?_, I.hok.fresh hC, fun x c e => I.freeC x c (sub x c e), fun p hp => ?_, I.hok.kept hk, ?_⟩
  · obtain ⟨hkl, j, hj, hσ⟩ := startB_get h2
    have h1' : (freesL scope.names)[k - tgs.length]? = some x := by
      have : (tgs ++ freesL scope.names)[k]? = some x := h1
      rwa [List.getElem?_append_right hkl] at this
    have hx : x ∈ freesL scope.names := List.mem_of_getElem? h1'
    have hXN : X.N[j]? = some x := by
      have e := congrArg (fun l => l[k - tgs.length]?) S.ixs
      simp only [List.getElem?_map, h1', hj, Option.map_some] at e
      exact (Option.some.inj e).symm
    have kx := allL_mem S.fre x hx
    obtain ⟨m0, hn0, hl⟩ := I.loc
    obtain ⟨u, r, l⟩ := hl j x v hXN hσ (by rcases kx with z | z; exact .inr (.inl z); exact .inr (.inr z))
    refine ⟨u, r, ?_⟩
    rcases l with ⟨z, _⟩ | ⟨_, c, hc, q⟩
    · rcases kx with y | y <;> rw [z] at y <;> cases y
    · refine .inr ⟨?_, c, clOf_look (mem_freesL hx) hc, ?_⟩
      · have h3' : (relabel scope X.env).names.lookup x = some .local ∨ (relabel scope X.env).names.lookup x = some .cell ∨ (relabel scope X.env).names.lookup x = some .free := h3
        rcases h3' with z | z | z
        · exfalso
          rcases relabel_lookup z with w | w
          · have lk : scope.names.lookup x = some .local := w
            have := S.ndl x hx
            rw [lk] at this; cases this
          · exact absurd w.2 (by decide)
        · exact .inl z
        · exact .inr z
      · obtain ⟨oc, hoc, hd⟩ := q
        exact ⟨oc, hk c oc hoc, hd⟩
  · obtain ⟨v, oc, hoc, hd⟩ := I.cell x c (sub x c e)
    exact ⟨v, oc, hk c oc hoc, hd⟩
  · have e : p = (D, o) := by simpa [cxB] using hp
    subst e
    refine ⟨hDo, I.hok.fresh hD, hDC, fun hz => ?_, hcell⟩
    have hz' : D ∈ frs X.stack := hz
    rcases List.mem_cons.mp (I.stkSub D hz') with z | z
    · exact absurd I.lt (by rw [← z]; exact Nat.not_lt.mpr hD)
    · exact I.nofs hD z
  · show (List.replicate tgs.length none ++ pickS ix σ).length = (tgs ++ freesL scope.names).length
    have e := congrArg List.length S.ixs
    simp only [List.length_map] at e
    rw [List.length_append, List.length_append, List.length_replicate, e]
    unfold pickS
    rw [List.length_map]
noncomputable def PIfs (X : Cx) (ifs : List Expr) (tc : TT) : Prop :=
  ∀ (pins : List (Addr × Obj)) (s : Shared) (σ : St) (H : Hp) (Q : Bool → Hp → Prop), Inv X pins σ H s → tc σ H Q →
    wpAny (model X.prog X.w) X.A (forIn ifs true fun c r => if r = true then do let ok ← isTrue c X.env (eval c X.env); pure (ForInStep.yield ok) else pure (ForInStep.yield r)) (TP X pins σ Q) X.xe s
noncomputable def tTrue : TT := fun _ H Q => Q true H
theorem pifs_nil : PIfs X [] tTrue := fun pins s σ H Q I h => wpAny_tests_nil ⟨H, I, h⟩
theorem pifs_one {c : Expr} {tc : TT} (h : PT X c tc) : PIfs X [c] tc := fun pins s σ H Q I hw => wpAny_tests_one (h pins s σ H Q I hw)
noncomputable def GK (n : Nat) (g : TG) : Prop := ∀ x σ H Q, g x σ H Q → g x σ H fun σ2 H2 => Q σ2 H2 ∧ σ2.length = σ.length ∧ σ2.drop n = σ.drop n
theorem gk_name {n i : Nat} (h : i < n) : GK n (gName i) := fun x σ H Q q => ⟨q, by simp, by rw [List.drop_set_of_lt h]⟩
noncomputable def CompB (tgs : List Str) (ix : List Nat) (g : TG) (tc : TT) (te : TE) (σ : St) (Q : VK) (J : It) (H1 : Hp) : Prop := ∃ W : Nat → Nat → List V → Hp → Prop, (∃ m, W 0 m [] H1) ∧ ∀ i m ys H, W i m ys H →
  (J.stop i H ∧ ys.length ≤ sizeLine ∧ ∀ p, H p = none → Q (.ref p) (upd H p (.lst ys))) ∨
  (J.go i H ∧ ys.length < sizeLine ∧ ∃ N : List V → Hp → Prop, (∀ ys' H', N ys' H' → ∃ m', m' < m ∧ W (i + 1) m' ys' H') ∧ ∀ x H', J.yld i H x H' → g x (startB tgs ix σ) H' fun σ2 H2 => tc σ2 H2 fun b H3 =>
    if b = true then te σ2 H3 fun v H4 => N (ys ++ [v]) H4 else N ys H3)
noncomputable def tComp (tgs : List Str) (ix : List Nat) (wi : TI) (g : TG) (tc : TT) (te : TE) : TE := fun σ H Q => wi σ H fun J H1 => CompB tgs ix g tc te σ Q J H1
theorem calmly {α : Type} {t : Sem α} {Q Q' : α → Shared → Prop} {M : Model} {A : Around} {E : Value → Shared → Prop} {s : Shared} (h : wpAny M A t Q (fun _ _ => False) s) (hQ : ∀ a s, Q a s → Q' a s) : wpAny M A t Q' E s := wpAny_mono h hQ fun _ _ x => x.elim
theorem past_pure {α : Type} {u : Sem Unit} {t : Sem α} {P : Unit → Shared → Prop} {Q : α → Shared → Prop} {M : Model} {A : Around} {E : Value → Shared → Prop} {s : Shared} (hu : u = pure ()) (h : wpAny M A u P E s) (k : ∀ s', P () s' → wpAny M A t Q E s') : wpAny M A t Q E s := by
  subst hu
  have z : wpAny M A ((pure () : Sem Unit) >>= fun _ => t) Q E s := wpAny_bind (wpAny_mono h (fun _ s' p => k s' p) fun _ _ x => x)
  exact z
end
end L2
namespace L2
open PySem PySem.Spec PyProof.Rows
section
variable {X : Cx} {scope : Scope} {tgs : List Str} {ix : List Nat}
noncomputable abbrev lobj (its : List Value) (k : Nat) : Obj := { cls := .type "list", data := .seq its.toArray k }
theorem weakB {fp : List Addr} {C : Addr} {s0 : Shared} {H0 : Hp} {pins : List (Addr × Obj)} {σ σ6 : St} {H : Hp} {s : Shared} (I : Inv (cxB X scope tgs fp C s0 H0) pins σ6 H s) (l6 : σ6.length = (startB tgs ix σ).length)
    (d6 : σ6.drop tgs.length = (startB tgs ix σ).drop tgs.length) : Inv (cxB X scope tgs fp C s0 H0) pins (startB tgs ix σ) H s := by
  refine I.weak l6.symm fun k v e => ?_
  obtain ⟨hk, _⟩ := startB_get e
  have e1 : σ6[k]? = (σ6.drop tgs.length)[k - tgs.length]? := by rw [List.getElem?_drop]; congr 1; omega
  have e2 : (startB tgs ix σ)[k]? = ((startB tgs ix σ).drop tgs.length)[k - tgs.length]? := by rw [List.getElem?_drop]; congr 1; omega
  rw [e1, d6, ← e2]
  exact e
theorem comp_block {elt tg iter : Expr} {ifs : List Expr} {pos : Pos} {g : TG} {tc : TT} {te : TE} {pins : List (Addr × Obj)} {σ : St} {H2 : Hp} {s2 : Shared} {it : Addr} {fp : List Addr} {tn : Nat → Heap → Prop} {J : It} {Q : VK}
    (S : BScope X scope tgs ix) (ht : ∀ o v, letOwnedTupleGo tg o v = pure ()) (hc : X.calm = true) (hg : ∀ fp C s H, PG (cxB X scope tgs fp C s H) tg g) (hgk : GK tgs.length g) (hi : ∀ fp C s H, PIfs (cxB X scope tgs fp C s H) ifs tc) (he : ∀ fp C s H, PE (cxB X scope tgs fp C s H) elt te)
    (I2 : Inv X pins σ H2 s2) (T : Turn X.prog X.w X.K tg J fp it tn) (t0 : tn 0 s2.heap) (hf : ∀ b ∈ fp, FpOk X pins H2 b)
    (W : Nat → Nat → List V → Hp → Prop) (w0 : ∃ m, W 0 m [] H2)
    (turn : ∀ i m ys H, W i m ys H → (J.stop i H ∧ ys.length ≤ sizeLine ∧ ∀ p, H p = none → Q (.ref p) (upd H p (.lst ys))) ∨
      (J.go i H ∧ ys.length < sizeLine ∧ ∃ N : List V → Hp → Prop, (∀ ys' H', N ys' H' → ∃ m', m' < m ∧ W (i + 1) m' ys' H') ∧ ∀ x H', J.yld i H x H' → g x (startB tgs ix σ) H' fun σ2 H2 => tc σ2 H2 fun b H3 =>
        if b = true then te σ2 H3 fun v H4 => N (ys ++ [v]) H4 else N ys H3))
    {RR : Value → Addr → Result → Shared → Prop}
    (fin : ∀ (D C : Addr) (s' : Shared) (H' : Hp) (m : Str → Option Value), Inv X pins σ H' s' → Q (.ref D) H' → s'.heap.Ns C m → FpOk X pins H' C → RR (.ref D) C (.ok .next) s') :
    wpAny (model X.prog X.w) X.A (newList []) (fun acc s₃ => wpAny (model X.prog X.w) X.A (newFunctionEnv scope X.env.globals (clOf X.env scope.names []) [] X.env.qual none .none (some X.env)) (fun cenv s₄ =>
      codeAny (model X.prog X.w) X.A (.compStart (.ListComp elt [⟨tg, iter, ifs, 0⟩] scope pos) 0 (.ref it) acc { cenv with scope := relabel scope X.env }) (RR acc cenv.locals) s₄) X.xe s₃) X.xe s2 := by
  refine wpAny_newObj_type (wpAny_newFunctionEnv S.nocell (by intro y hy; simp at hy) (fun h₁ hns₁ hsb₁ => ?_) S.kind)
  dsimp only at hns₁ hsb₁ ⊢
  generalize hH2 : s2.heap.push { cls := .type "list", dict := none, data := .seq ([] : List Value).toArray } = G2 at hns₁ hsb₁ ⊢
  have hC : G2.objs.size = s2.heap.objs.size + 1 := by rw [← hH2, Heap.size_push]
  have hCle : s2.heap.objs.size ≤ G2.objs.size := by rw [hC]; exact Nat.le_succ _
  have hDC : s2.heap.objs.size ≠ G2.objs.size := by rw [hC]; exact Nat.ne_of_lt (Nat.lt_succ_self _)
  have below : ∀ b, b < s2.heap.objs.size → b ≠ G2.objs.size ∧ b ≠ s2.heap.objs.size := fun b hb => ⟨by rw [hC]; exact Nat.ne_of_lt (Nat.lt_succ_of_lt hb), Nat.ne_of_lt hb⟩
  have old : ∀ b o, s2.heap.get? b = some o → h₁.get? b = some o := fun b o e => hsb₁.extBut b o (below b (Heap.lt_size e)).1 (Heap.get?_push_of_some _ (hH2 ▸ Heap.get?_push_of_some _ e))
  have hacc : h₁.get? s2.heap.objs.size = some (lobj [] 0) := hsb₁.extBut _ _ hDC (Heap.get?_push_of_some _ (hH2 ▸ Heap.get?_push_size _ rfl))
  have hfo : ∀ b ∈ fp, b < s2.heap.objs.size := fun b hb => let ⟨o, e, _⟩ := T.obj 0 _ t0 b hb; Heap.lt_size e
  have ok := cxB_ok (tgs := tgs) (ix := ix) (C := G2.objs.size) S I2 hf hfo hCle
  have sub : ∀ x c, (clOf X.env scope.names []).lookup x = some c → X.env.cells.lookup x = some c := clOf_sub scope.names [] (fun _ _ z => by simp at z)
  have nDfs : s2.heap.objs.size ∉ frs X.stack := fun hz => by
    rcases List.mem_cons.mp (I2.stkSub _ hz) with z | z
    · exact absurd I2.lt (by rw [← z]; exact Nat.lt_irrefl _)
    · exact I2.nofs (Nat.le_refl _) z
  have nDcell : ∀ x c, (clOf X.env scope.names []).lookup x = some c → c ≠ s2.heap.objs.size := fun x c e => Nat.ne_of_lt (I2.cellLt (sub x c e))
  have ncell : ∀ (its : List Value) (k : Nat) (v : Option Value), (lobj its k).data ≠ .cell v := fun its k v z => by cases z
  have stat : ∀ {Hx : Hp} {o : Obj}, (∀ b ∈ fp, Hx b = none) → ∀ b ∈ fp, FpOk (cxB X scope tgs fp G2.objs.size s2 H2) [(s2.heap.objs.size, o)] Hx b := fun {Hx o} hn b hb =>
    ⟨hn b hb, (ok.exf b hb).1, ok.exfs b hb, .inl hb, (ok.exf b hb).2, fun p hp z => by
      have e : p = (s2.heap.objs.size, o) := by simpa [cxB] using hp
      subst e
      exact absurd (hfo b hb) (by rw [← z]; exact Nat.lt_irrefl _)⟩
  have loop : ∀ s₃ : Shared, s₃ = { s2 with heap := h₁, toks := s2.toks + ([] : List (Str × Value)).length } →
      codeAny (model X.prog X.w) X.A (.compLoop (.ListComp elt [⟨tg, iter, ifs, 0⟩] scope pos) 0 (.ref it) (.ref s2.heap.objs.size) (compEnvC scope (clOf X.env scope.names []) G2.objs.size X.env)) (RR (.ref s2.heap.objs.size) G2.objs.size) s₃ := by
    rintro s₃ rfl
    obtain ⟨m0, w0⟩ := w0
    refine codeAny_compLoop_tests (fun n s => ∃ i ys its k H, Inv (cxB X scope tgs fp G2.objs.size s2 H2) [(s2.heap.objs.size, lobj its k)] (startB tgs ix σ) H s ∧ tn i s.heap ∧ (∀ b ∈ fp, H b = none) ∧ Vals ys its ∧ W i n ys H) ?_ m0
      ⟨0, [], [], 0, H2, invB_start S I2 hf hfo hCle (Nat.le_refl _) hDC hns₁ old rfl rfl hacc (ncell _ _), T.keep 0 _ _ t0 fun b _ o e => old b o e, fun b hb => (hf b hb).1, .nil, w0⟩ (ht _)
    rintro n s ⟨i, ys, its, k, H, I, st, fr, rv, w⟩
    rcases turn i n ys H w with ⟨stop, hz, q⟩ | ⟨go, hz8, N, hN, step⟩
    · refine thn (T.done (cxB X scope tgs fp G2.objs.size s2 H2) rfl rfl rfl hc i _ s _ H _ I (stat fr) st stop) fun r s1 ⟨hr, I1⟩ => ?_
      subst hr
      obtain ⟨pe, pn, _⟩ := I1.pin (s2.heap.objs.size, lobj its k) (List.mem_append_right _ (by simp))
      have J0 : Inv X pins σ H s1 := I2.call' I1.os I1.base I1.hok I1.bare fun b hb => ⟨(hf b hb).2.2.2.1, (hf b hb).2.1, (hf b hb).2.2.2.2.1, (hf b hb).2.2.2.2.2⟩
      have J1 : Inv X pins σ (upd H s2.heap.objs.size (.lst ys)) s1 := J0.track (I2.fpOk (Nat.le_refl _) pn) ⟨hz, its, k, rv, pe⟩
      obtain ⟨m, hn, _⟩ := I1.loc
      exact fin _ _ s1 _ m J1 (q _ pn) hn (I2.fpOk hCle (by rw [upd_ne (Ne.symm hDC)]; exact I1.free))
    · refine thn (T.item (cxB X scope tgs fp G2.objs.size s2 H2) rfl rfl rfl hc i _ s _ H _ I (stat fr) st go) fun r s1 ⟨u, hr, h1⟩ => ?_
      subst hr
      refine past_pure (ht _ _) h1 fun s5 ⟨x, H5, I5, r5, y5, st5, fr5⟩ => ?_
      have I5' := I5.pinned (stat fr5) (T.obj _ _ st5)
      refine calmly (hg fp G2.objs.size s2 H2 _ s5 _ H5 x u _ I5' r5 (hgk _ _ _ _ (step x H5 y5))) fun _ s6 ⟨σ6, H6, I6, q6, l6, d6⟩ => ?_
      refine calmly (hi fp G2.objs.size s2 H2 _ s6 σ6 H6 _ I6 q6) fun okb s7 ⟨H7, I7, q7⟩ => ?_
      cases okb with
      | false =>
        rw [if_neg Bool.false_ne_true] at q7 ⊢
        obtain ⟨m', hm, w7⟩ := hN _ _ q7
        refine ⟨m', hm, i + 1, ys, its, k, H7, weakB I7.unpinned l6 d6, T.keep _ _ _ st5 fun b hb o e => (I7.pin (b, o) (List.mem_append_right _ (List.mem_append_right _ (mem_pinsAt hb e)))).1, fun b hb => ?_, rv, w7⟩
        obtain ⟨o, e, _⟩ := T.obj _ _ st5 b hb
        exact (I7.pin (b, o) (List.mem_append_right _ (List.mem_append_right _ (mem_pinsAt hb e)))).2.1
      | true =>
        rw [if_pos rfl] at q7 ⊢
        refine calmly (he fp G2.objs.size s2 H2 _ s7 σ6 H7 _ I7 q7) fun xv s8 ⟨v, H8, I8, rv8, q8⟩ => ?_
        obtain ⟨m', hm, w8⟩ := hN _ _ q8
        obtain ⟨pe, pn, _⟩ := I8.pin (s2.heap.objs.size, lobj its k) (List.mem_append_right _ (List.mem_append_left _ (by simp)))
        have hlen := rv.length
        refine call_meets PySem.F.slot_list_append ⟨_, pe, rfl⟩ PySem.F.entry_list_append (PySem.F.args_list_append_2 _ _) (PySem.list_append s2.heap.objs.size its.toArray k xv (by rw [List.size_toArray]; omega)) ⟨pe, ?_⟩
        have hp : its.toArray.push xv = (its ++ [xv]).toArray := by simp
        have q' : ∃ k', (s8.heap.update s2.heap.objs.size (Obj.mapSeq (fun a => a.push xv))).get? s2.heap.objs.size = some (lobj (its ++ [xv]) k') := ⟨_, by
          unfold lobj
          rw [← hp]
          exact PySem.IsL.update pe (fun a => a.push xv)⟩
        obtain ⟨k', q'⟩ := q'
        have I9 : Inv (cxB X scope tgs fp G2.objs.size s2 H2) [] σ6 H8 { s8 with heap := s8.heap.update s2.heap.objs.size (Obj.mapSeq (fun a => a.push xv)) } :=
          (I8.pins_of (pins' := []) (fun p hp => absurd hp (by simp))).turned (t' := s8.toks) (fun b o hb e => (Heap.get?_update_other s8.heap (Obj.mapSeq (fun a => a.push xv)) (Ne.symm hb)).trans e) pn hDC (.inr (Nat.le_refl _)) nDcell (fun p hp => absurd hp (by simp [cxB]))
        have I10 : Inv (cxB X scope tgs fp G2.objs.size s2 H2) [(s2.heap.objs.size, lobj (its ++ [xv]) k')] σ6 H8 { s8 with heap := s8.heap.update s2.heap.objs.size (Obj.mapSeq (fun a => a.push xv)) } :=
          I9.pins_of fun p hp => by
            have e : p = (s2.heap.objs.size, lobj (its ++ [xv]) k') := by simpa using hp
            subst e
            exact ⟨q', pn, hDC, nDfs, ncell _ _⟩
        refine ⟨m', hm, i + 1, ys ++ [v], its ++ [xv], k', H8, weakB I10 l6 d6, T.keep _ _ _ st5 fun b hb o e => ?_, fun b hb => ?_, rv.append (.cons rv8 .nil), w8⟩
        · exact (Heap.get?_update_other s8.heap (Obj.mapSeq (fun a => a.push xv)) (Ne.symm (below b (hfo b hb)).2)).trans (I8.pin (b, o) (List.mem_append_right _ (List.mem_append_right _ (mem_pinsAt hb e)))).1
        · obtain ⟨o, e, _⟩ := T.obj _ _ st5 b hb
          exact (I8.pin (b, o) (List.mem_append_right _ (List.mem_append_right _ (mem_pinsAt hb e)))).2.1
  exact codeAny_compStart_list (loop _ rfl) (T.self _ 0 _ _ _ (T.keep 0 _ _ t0 fun b _ o e => old b o e) (loop _ rfl))
theorem pe_comp {elt tg iter : Expr} {ifs : List Expr} {pos : Pos} {wi : TI} {g : TG} {tc : TT} {te : TE} (S : BScope X scope tgs ix) (hc : X.calm = true) (hi : PI X tg iter wi) (hg : ∀ fp C s H, PG (cxB X scope tgs fp C s H) tg g) (hgk : GK tgs.length g)
    (hif : ∀ fp C s H, PIfs (cxB X scope tgs fp C s H) ifs tc) (he : ∀ fp C s H, PE (cxB X scope tgs fp C s H) elt te) (hs : ∀ x, foldedSetIterable iter X.env x = pure x := by intro _; rfl) (ht : ∀ o v, letOwnedTupleGo tg o v = pure () := by intro _ _; rfl) :
    PE X (.ListComp elt [⟨tg, iter, ifs, 0⟩] scope pos) (tComp tgs ix wi g tc te) := by
  intro pins s σ H Q I h
  rw [eval_ListComp]
  refine wpAny_comprehension_free (use := none) rfl hs (closureFor_cells (S.cells I.ok)) S.kind S.loc ?_
  show wpAny _ _ (eval iter X.env) _ _ s
  refine thn (hi pins s σ H _ I h) fun v s1 h1 => thn h1 fun itv s2 h2 => ?_
  obtain ⟨it, fp, tn, J, H2, e, I2, T, t0, f2, W, w0, turn⟩ := h2
  subst e
  refine comp_block (RR := fun acc C => compPost (model X.prog X.w) X.A X.xe none (EP X pins σ Q) acc C) S ht hc hg hgk hif he I2 T t0 f2 W w0 turn ?_
  intro D C s' H' m J1 q hn fC
  obtain ⟨f0, f1, f2, f3, f4, f5⟩ := fC
  exact ⟨m, hn, fun h' sb => ⟨.ref D, H', J1.turned (t' := s'.toks) (fun b o hb e => (sb.2 b hb).trans e) f0 f1 f3 f4 f5, rfl, q⟩⟩
theorem ps_setComp {i : Nat} {y : Str} {py : Pos} {elt tg iter : Expr} {ifs : List Expr} {pos spos : Pos} {wi : TI} {g : TG} {tc : TT} {te : TE} (hN : X.N.Nodup) (hiN : X.N[i]? = some y) (hy : X.env.scope.names.lookup y = some .local)
    (S : BScope X scope tgs ix) (hc : X.calm = true) (hi : PI X tg iter wi) (hg : ∀ fp C s H, PG (cxB X scope tgs fp C s H) tg g) (hgk : GK tgs.length g)
    (hif : ∀ fp C s H, PIfs (cxB X scope tgs fp C s H) ifs tc) (he : ∀ fp C s H, PE (cxB X scope tgs fp C s H) elt te)
    (hsw : swapsWith (.ListComp elt [⟨tg, iter, ifs, 0⟩] scope pos) (some (.Name y py)) spos.line X.env = pure true := by rfl) (hs : ∀ x, foldedSetIterable iter X.env x = pure x := by intro _; rfl) (ht : ∀ o v, letOwnedTupleGo tg o v = pure () := by intro _ _; rfl) :
    PS X (.Assign [.Name y py] (.ListComp elt [⟨tg, iter, ifs, 0⟩] scope pos) spos) (tAsg (tComp tgs ix wi g tc te) (gName i)) := by
  intro pins s σ H D0 I h
  rw [exec_Assign_Name_used _ _ _ _ hsw]
  refine wpAny_bind (wpAny_standAt (wpAny_bind ?_))
  show wpAny _ X.A (do let _ ← comprehension (.ListComp elt [⟨tg, iter, ifs, 0⟩] scope pos) scope X.env _ (newList []) false (eval iter X.env) (some (assign (.Name y py) X.env))) _ _ s
  refine wpAny_bind (wpAny_mono (wpAny_comprehension_free (use := some (assign (.Name y py) X.env)) (Q := fun _ s' => SP X pins D0 .next s') rfl hs (closureFor_cells (S.cells I.ok)) S.kind S.loc ?_) (fun _ s' hq => wpAny_pure (wpAny_pure hq)) fun _ _ e => e)
  refine thn (hi pins s σ H _ I h) fun v s1 h1 => thn h1 fun itv s2 h2 => ?_
  obtain ⟨it, fp, tn, J, H2, e, I2, T, t0, f2, W, w0, turn⟩ := h2
  subst e
  refine comp_block (Q := fun x H1 => gName i x σ H1 D0.nx) (RR := fun acc C => compPost (model X.prog X.w) X.A X.xe (some (assign (.Name y py) X.env)) (fun _ s' => SP X pins D0 .next s') acc C) S ht hc hg hgk hif he I2 T t0 f2 W w0 turn ?_
  intro D C s' H' m J1 q hn fC
  obtain ⟨f0, f1, f2, f3, f4, f5⟩ := fC
  show wpAny _ X.A (assign (.Name y py) X.env (.ref D)) _ _ _
  refine wpAny_assign_Name (store_ok2 (v := .ref D) J1 hN hiN (.inl hy) rfl (fun s'' I'' hsb => ?_) (.inr hy))
  obtain ⟨a, sb, ha⟩ := hsb
  have hCa : C ≠ a := by
    rcases ha with z | z
    · rw [z]; exact f1
    · exact Ne.symm (f4 y a z)
  exact ⟨m, hn.sameBut sb hCa, fun h' sb' => ⟨_, H', I''.turned (t' := s''.toks) (fun b o hb e => (sb'.2 b hb).trans e) f0 f1 f3 f4 f5, q⟩⟩
end
end L2
namespace L2
open PySem PySem.Spec PyProof.Rows
section
variable {X : Cx}
theorem call_isinst : CallR X (.builtin "isinstance") (fun xs H Q => ∃ x T t b, xs = [x, .ty T] ∧ TyOf X.K H x t ∧ PySem.W.kitOne X.K t (.type T) = some b ∧ Q (.bl b) H) := by
  intro pins s σ H xs us Q I r h
  obtain ⟨x, T, t, b, rfl, ty, e, q⟩ := h
  obtain ⟨u, w', rfl, rx, ry⟩ := vals2 r
  cases ry
  exact isinst_ok I rx ty e fun tk => ⟨.bl b, H, I.tok tk, rfl, q⟩
end
section
variable {prog : Program} {w : World} {A : Around} {E : Value → Shared → Prop} {s : Shared}
end
end L2
namespace L2
open PySem PySem.Spec PyProof.Rows
section
variable {prog : Program} {w : World} {A : Around} {R : Result → Shared → Prop}
end
section
variable {X : Cx}
end
end L2
namespace L2
open PySem PySem.Spec PyProof.Rows
section
variable {X : Cx}
end
mutual
inductive DatV (K : PySem.W.Frag) (H : Hp) : V → PyData → Prop
  | non : DatV K H .non .none
  | bl (b : Bool) : DatV K H (.bl b) (.bool b)
  | int (i : Int) : DatV K H (.int i) (.int i)
  | str (x : Str) : DatV K H (.str x) (.str x)
  | tup {a : Addr} {xs : List V} {ds : List PyData} : SqT K H a xs → DatVs K H xs ds → DatV K H (.ref a) (.tuple ds)
  | lst {a : Addr} {xs : List V} {ds : List PyData} : SqL K H a xs → DatVs K H xs ds → DatV K H (.ref a) (.list ds)
inductive DatVs (K : PySem.W.Frag) (H : Hp) : List V → List PyData → Prop
  | nil : DatVs K H [] []
  | cons {v : V} {d : PyData} {vs : List V} {ds : List PyData} : DatV K H v d → DatVs K H vs ds → DatVs K H (v :: vs) (d :: ds)
end
section
variable {X : Cx} {pins : List (Addr × Obj)} {σ : St} {H : Hp} {s : Shared}
mutual
theorem DatV.reads (I : Inv X pins σ H s) : ∀ {v : V} {d : PyData}, DatV X.K H v d → ∀ {u : Value}, RelV v u → ∃ as, Reads s.heap u d as
  | _, _, .non, _, r => by cases r; exact ⟨[], .none⟩
  | _, _, .bl b, _, r => by cases r; exact ⟨[], .bool b⟩
  | _, _, .int i, _, r => by obtain ⟨t, rfl⟩ := r; exact ⟨[], .int i t⟩
  | _, _, .str x, _, r => by obtain ⟨t, rfl⟩ := r; exact ⟨[], .str x t⟩
  | _, _, .tup hq hs, _, r => by
    cases r
    obtain ⟨its, rv, ⟨o, e, c, n, d⟩, _⟩ := I.tuple hq
    obtain ⟨as, ra⟩ := DatVs.reads I hs rv
    exact ⟨_, .tuple e c d (by simpa using ra)⟩
  | _, _, .lst hq hs, _, r => by
    cases r
    obtain ⟨its, rv, ⟨o, n, e, c, _, d⟩, _⟩ := I.list hq
    obtain ⟨as, ra⟩ := DatVs.reads I hs rv
    exact ⟨_, .list e c d (by simpa using ra)⟩
theorem DatVs.reads (I : Inv X pins σ H s) : ∀ {vs : List V} {ds : List PyData}, DatVs X.K H vs ds → ∀ {us : List Value}, Vals vs us → ∃ as, ReadsAll s.heap us ds as
  | _, _, .nil, _, .nil => ⟨[], .nil⟩
  | _, _, .cons h t, _, .cons r rr => by
    obtain ⟨a, ra⟩ := DatV.reads I h r
    obtain ⟨b, rb⟩ := DatVs.reads I t rr
    exact ⟨_, .cons ra rb⟩
end
end
section
variable {X : Cx}
theorem op_eqP (hu : X.A.units + 64 < cLine) : OpR X (compareOp .Eq) (fun x y H Q => ∃ d d', DatV X.K H x d ∧ DatV X.K H y d' ∧ SeqAt.shaped d = true ∧ SeqAt.shaped d' = true ∧ Q (.bl (PyData.eqv d d')) H) := by
  intro pins s σ H x y v u Q I rx ry h
  obtain ⟨d, d', h1, h2, s1, s2, q⟩ := h
  obtain ⟨as, ra⟩ := h1.reads I rx
  obtain ⟨bs, rb⟩ := h2.reads I ry
  exact SeqAt.compareEq_shaped ra rb s1 s2 hu ⟨.bl _, H, I, rfl, q⟩
theorem op_neP (hu : X.A.units + 64 < cLine) : OpR X (compareOp .NotEq) (fun x y H Q => ∃ d d', DatV X.K H x d ∧ DatV X.K H y d' ∧ SeqAt.shaped d = true ∧ SeqAt.shaped d' = true ∧ Q (.bl (!PyData.eqv d d')) H) := by
  intro pins s σ H x y v u Q I rx ry h
  obtain ⟨d, d', h1, h2, s1, s2, q⟩ := h
  obtain ⟨as, ra⟩ := h1.reads I rx
  obtain ⟨bs, rb⟩ := h2.reads I ry
  exact SeqAt.compareNe_shaped ra rb s1 s2 hu ⟨.bl _, H, I, rfl, q⟩
theorem room64 {A : Around} {k : Nat} (hr : Room k A) : A.units + 64 < cLine := hr.units
end
end L2
namespace L2
open PySem PySem.Spec PyProof.Rows
theorem Inv.turnedL {X : Cx} {pins : List (Addr × Obj)} {σ : St} {H : Hp} {s : Shared} {h' : Heap} {t' : Nat} {ch : List Addr} (I : Inv X pins σ H s) (k : ∀ b o, b ∉ ch → s.heap.get? b = some o → h'.get? b = some o) (hf : ∀ b ∈ ch, FpOk X pins H b) : Inv X pins σ H { s with heap := h', toks := t' } := by
  have nit : ∀ b u, H b = some u → b ∉ ch := fun b u e z => by rw [(hf b z).1] at e; cases e
  refine I.step (g' := s.gens) (d' := s.drawn) (ch := ch) (fun b hb => ⟨(hf b hb).2.2.2.1, (hf b hb).2.1, (hf b hb).2.2.2.2.1, (hf b hb).2.2.2.2.2⟩) (fun b o _ _ hc e _ => k b o hc e) (fun b o _ _ hc e _ => ⟨o.slots, k b o hc e⟩) (fun _ _ _ _ n => n)
    (fun b o hc e => ⟨o, k b o hc e⟩) (fun _ _ e => e) (fun _ _ _ e => e) (fun b ps e => ⟨#[], by rw [e]; simp⟩) (fun m hm => ?_) (fun b u e => ?_) I.bare
  · obtain ⟨o, es, ep, ho, r⟩ := hm
    exact ⟨o, es, ep, k _ o (fun z => (hf _ z).2.1 rfl) ho, r⟩
  · refine (I.hok b u e).stay (fun c v hc q => k c v ?_ q) (fun _ q => q) fun _ _ q => q
    rcases hc with z | z
    · rw [z]; exact nit b u e
    · exact nit c _ z
noncomputable def ItP (K : PySem.W.Frag) (n : Nat) (src : Nat → List V) (Cond : PySem.W.Frag → Hp → Prop) : It :=
  ⟨fun i H => i < n ∧ Cond K H, fun i H v H' => ∃ T, H T = none ∧ v = .ref T ∧ H' = upd H T (.tup (src i)), fun i H => i = n ∧ Cond K H⟩
theorem turn_pairs {P : Program} {w : World} {K : PySem.W.Frag} {es : List Expr} {k0 : Nat} {pos : Pos} {I0 : Addr} {ι : Type} {fp wr : List Addr} {n : Nat} {src : Nat → List V} {good : ι → Prop} {Pt : ι → Nat → Array Value → Prop} {Sw : ι → Nat → Heap → Prop} {Mid : ι → Nat → Addr → Heap → Prop} {tn : Nat → Heap → Prop} {Cond : PySem.W.Frag → Hp → Prop}
    (W : ∀ A : Around, A.handled = none → ∀ z, good z → WalksT P w A I0 fp wr n (Pt z) (Sw z) (Mid z)) (hmem : I0 ∈ wr) (hPt : ∀ z i vals, good z → Pt z i vals → Vals (src i) vals.toList) (hlen : ∀ i, (src i).length ≤ sizeLine)
    (obj : ∀ i h, tn i h → ∀ b ∈ wr, ∃ o, h.get? b = some o ∧ ∀ v, o.data ≠ .cell v)
    (keep : ∀ i h h', tn i h → (∀ b ∈ wr, ∀ o, h.get? b = some o → h'.get? b = some o) → tn i h')
    (into : ∀ (X : Cx) (pins : List (Addr × Obj)) (σ : St) (H : Hp) (s : Shared) (i : Nat), X.prog = P → X.w = w → X.K = K → Inv X pins σ H s → Cond K H → tn i s.heap → ∃ z, good z ∧ Sw z i s.heap) (out : ∀ z i h, Sw z i h → tn i h)
    (self : ∀ (A : Around) (i : Nat) (s : Shared) (Q : Value → Shared → Prop) (E : Value → Shared → Prop), tn i s.heap → Q (.ref I0) s → wpAny (model P w) A (pyIter (.ref I0)) Q E s) :
    Turn P w K (.Tuple es k0 pos) (ItP K n src Cond) wr I0 tn where
  mem := hmem
  obj := obj
  keep := keep
  item := by
    intro X hP hw hK hc i pins s σ H E I hf st hg
    obtain ⟨hi, hcond⟩ := hg
    obtain ⟨z, gz, sz⟩ := into X pins σ H s i hP hw hK I hcond st
    have W' := W X.A (I.ok.hd hc) z gz
    refine W'.item i s _ _ hi sz fun T vals h' tk hp hT ht hm kk => ⟨_, rfl, ?_⟩
    have I1 : Inv X pins σ H { s with heap := h', toks := tk } := I.turnedL kk hf
    refine W'.go es k0 pos i T _ _ _ hm fun h2 st2 kk2 => ?_
    have I2 : Inv X pins σ H { s with heap := h2, toks := tk } := I1.turnedL (t' := tk) kk2 hf
    have hn : H T = none := I.hok.fresh hT
    have ht2 : IsTup h2 T vals := by
      obtain ⟨o, e, r⟩ := ht
      exact ⟨o, kk2 T o (W'.apart i T _ hm) e, r⟩
    refine ⟨.ref T, upd H T (.tup (src i)), I2.track (I.fpOk hT hn) ⟨hlen i, vals.toList, hPt z i vals gz hp, by simpa using ht2⟩, rfl, ⟨T, hn, rfl, rfl⟩, out z _ _ st2, fun b hb => ?_⟩
    have hbT : b ≠ T := fun z => W'.apart i T _ hm (by rw [← z]; exact hb)
    rw [upd_ne hbT]
    exact (hf b hb).1
  done := by
    intro X hP hw hK hc i pins s σ H E I hf st hg
    obtain ⟨hi, hcond⟩ := hg
    subst hi
    obtain ⟨z, gz, sz⟩ := into X pins σ H s i hP hw hK I hcond st
    exact (W X.A (I.ok.hd hc) z gz).done s _ _ sz fun h' tk kk => ⟨rfl, I.turnedL kk hf⟩
  self := self
noncomputable def enSrc (xs : List V) (i : Nat) : List V := [.int i, xs.getD i .non]
theorem enSrc_vals {xs : List V} {its : List Value} (r : Vals xs its) {i : Nat} {vals : Array Value} (h : ∃ t x, its.toArray[i]? = some x ∧ vals = #[.int i t, x]) : Vals (enSrc xs i) vals.toList := by
  obtain ⟨t, x, hx, rfl⟩ := h
  have hx' : its[i]? = some x := by simpa using hx
  have hlt : i < its.length := (List.getElem?_eq_some_iff.mp hx').1
  have hl := r.length
  have hv : xs[i]? = some (xs.getD i .non) := by
    rw [List.getElem?_eq_getElem (by omega)]
    simp [List.getD, show i < xs.length by omega]
  obtain ⟨u, hu, ru⟩ := r.get hv
  rw [hx'] at hu; cases hu
  exact .cons ⟨t, rfl⟩ (.cons ru .nil)
theorem en_self {P : Program} {w : World} {e it : Addr} {f : Nat → Heap → Prop} (A : Around) (i : Nat) (s : Shared) (Q : Value → Shared → Prop) (E : Value → Shared → Prop) (st : (∃ old, IsEnum s.heap e it i old) ∧ f i s.heap) (h : Q (.ref e) s) : wpAny (model P w) A (pyIter (.ref e)) Q E s := by
  obtain ⟨⟨old, he⟩, _⟩ := st
  exact wpAny_pyIter_enum he h
theorem en_obj {e it : Addr} {h : Heap} {i : Nat} {o : Obj} (he : ∃ old, IsEnum h e it i old) (ho : h.get? it = some o) (hd : ∃ vs, o.data = .fields vs) : ∀ b ∈ [e, it], ∃ o, h.get? b = some o ∧ ∀ v, o.data ≠ .cell v := fun b hb => by
  rcases List.mem_cons.mp hb with z | z
  · subst z
    obtain ⟨old, he⟩ := he
    exact ⟨_, he, fun v q => by cases q⟩
  · rw [List.mem_singleton.mp z]
    obtain ⟨vs, hd⟩ := hd
    exact ⟨o, ho, fun v q => by rw [hd] at q; cases q⟩
theorem turn_enumL {P : Program} {w : World} {K : PySem.W.Frag} {es : List Expr} {k0 : Nat} {pos : Pos} (a e it : Addr) (xs : List V) (hei : e ≠ it) (hea : e ≠ a) (hai : a ≠ it) :
    Turn P w K (.Tuple es k0 pos) (ItP K xs.length (enSrc xs) fun K H => SqL K H a xs) [e, it] e (fun i h => (∃ old, IsEnum h e it i old) ∧ h.IsListIter it a i) :=
  turn_pairs (ι := List Value) (good := fun its => Vals xs its) (Pt := fun its i vals => ∃ t x, its.toArray[i]? = some x ∧ vals = #[.int i t, x]) (Sw := fun its i h => (∃ old, IsEnum h e it i old) ∧ h.IsListIter it a i ∧ h.IsList a its.toArray)
    (fun A hA its r => by
      have hl : xs.length = its.toArray.size := by rw [List.size_toArray]; exact r.length
      rw [hl]
      exact WalksT.enumerateD (Draws.list (show A.in1.handled = none from hA) it a hai its.toArray) e hei (by simp [hei, hea]) (by simp))
    (by simp) (fun its i vals r h => enSrc_vals r h) (fun i => (by show 2 ≤ sizeLine; decide))
    (fun i h st => by obtain ⟨o, ho, _, hd⟩ := st.2; exact en_obj st.1 ho ⟨_, hd⟩)
    (fun i h h' st k => ⟨by obtain ⟨old, q⟩ := st.1; exact ⟨old, k e (by simp) _ q⟩, st.2.at fun o q => k it (by simp) o q⟩)
    (fun X pins σ H s i hP hw hK I hc st => by
      subst hK
      obtain ⟨its, r, p, _⟩ := I.list hc
      exact ⟨its, r, st.1, st.2, p.isList⟩)
    (fun z i h st => ⟨st.1, st.2.1⟩) (fun A i s Q E st h => en_self (f := fun i h => h.IsListIter it a i) A i s Q E st h)
end L2
namespace L2
open PySem PySem.Spec PyProof.Rows
open AutoSeq1 (wpAny_loadPart')
section
variable {X : Cx} {es : List Expr} {k0 : Nat} {tpos : Pos}
noncomputable def iEnumL (K : PySem.W.Frag) (ta : TA) : TI := fun σ H R => ta σ H fun vs H1 => ∃ a xs, vs = [.ref a] ∧ SqL K H1 a xs ∧ R (ItP K xs.length (enSrc xs) fun K H => SqL K H a xs) H1
theorem boot_enum : bootBuiltins "enumerate" = some (.type "enumerate") := by decide +kernel
theorem two_fp {pins : List (Addr × Obj)} {σ : St} {H : Hp} {s : Shared} (I : Inv X pins σ H s) : ∀ b ∈ [s.heap.objs.size + 1, s.heap.objs.size], FpOk X pins H b := fun b hb => by
  have hb' : b = s.heap.objs.size + 1 ∨ b = s.heap.objs.size := by simpa using hb
  rcases hb' with e | e <;> subst e
  · exact I.fpOk (Nat.le_succ _) (I.hok.fresh (Nat.le_succ _))
  · exact I.fpOk (Nat.le_refl _) (I.hok.fresh (Nat.le_refl _))
theorem pi_enumL {a : Expr} {ta : TA} {p pos : Pos} (hg : Gl X "enumerate") (hm : X.mg "enumerate" = none) (ha : PA X [a] ta) (hs : starEach [a] X.env = [(false, eval a X.env)] := by rfl) : PI X (.Tuple es k0 tpos) (.Call (.Name "enumerate" p) [a] [] pos) (iEnumL X.K ta) := by
  intro pins s σ H R I h
  refine Call_ (ld_blt I hg hm boot_enum (PyProof.Rows.callWith_type1 (thn (ha pos pins s σ H _ I h) fun us s1 ⟨vs, H1, I1, r1, q1⟩ => ?_) hs rfl))
  obtain ⟨l, xs, e, hq, q⟩ := q1
  subst e
  obtain ⟨u, rfl, ru⟩ := vals1 r1
  cases ru
  obtain ⟨its, rv, pl, hz⟩ := I1.list hq
  have hlt : l < s1.heap.objs.size := by obtain ⟨o, n, e, _⟩ := pl; exact Heap.lt_size e
  refine call_enumerate_list pl.isList fun h' he hit hsz kk => wpAny_pyIter_enum he ?_
  exact ⟨s1.heap.objs.size + 1, [s1.heap.objs.size + 1, s1.heap.objs.size], _, _, H1, rfl, I1.kept (t' := s1.toks) kk, turn_enumL l _ _ xs (Nat.succ_ne_self _) (Nat.ne_of_gt (Nat.lt_succ_of_lt hlt)) (Nat.ne_of_lt hlt), ⟨⟨_, he⟩, hit⟩, two_fp I1, q⟩
end
end L2
namespace L2
open PySem PySem.Spec PyProof.Rows
noncomputable def KGet (P : Params) (K : PySem.W.Frag) (a : Addr) (y : V) (r : Option V) : Prop :=
  ∃ x es n r', y = .str x ∧ K.lookup a = some ⟨.type "dict", none, .dict es n, #[]⟩ ∧ PySem.W.KeysLit P es.toList ∧ PySem.W.nsIn K a x = some r' ∧ RelO r r' ∧ (a == sysModules) = false
section
variable {X : Cx} {pins : List (Addr × Obj)} {σ : St} {H : Hp} {s : Shared} {a : Addr} {y v : V} {u r : Value} {o : Option V} {A : Around} {E : Value → Shared → Prop}
end
section
variable {X : Cx} {o i e value : Expr} {pos pos' tpos : Pos} {td ty tv : TE}
end
end L2
namespace L2
open PySem PySem.Spec PyProof.Rows
noncomputable def tJoin : List TE → Str → TE
  | [], out => fun _ H Q => out.length ≤ sizeLine ∧ Q (.str out) H
  | t :: r, out => fun σ H Q => t σ H fun v H1 => ∃ y, v = .str y ∧ (out ++ y).length ≤ sizeLine ∧ tJoin r (out ++ y) σ H1 Q
noncomputable def PJ (X : Cx) (es : List Expr) (ts : List TE) : Prop :=
  ∀ (out : Str) (pins : List (Addr × Obj)) (s : Shared) (σ : St) (H : Hp) (Q : VK), Inv X pins σ H s → tJoin ts out σ H Q → wpAny (model X.prog X.w) X.A (joinParts out (evalEach es X.env)) (EP X pins σ Q) X.xe s
section
variable {X : Cx} {value e e2 : Expr} {es : List Expr} {pos : Pos} {tv t t2 : TE} {ts : List TE}
end
end L2
namespace Mi
open PySem L2
inductive D where
  | non | bl (b : Bool) | int (i : Int) | str (x : Str) | ty (n : String) | scr (ns : List Int) | tup (xs : List D) | lst (xs : List D) | ref (n : Nat)
inductive MO where
  | lst (xs : List D) | dK (kvs : List (Key × D))
noncomputable abbrev Mh := List MO
noncomputable abbrev M (α : Type) := Mh → Option (α × Mh)
noncomputable abbrev Sl := List (Option D)
noncomputable def ret {α : Type} (a : α) : M α := fun μ => some (a, μ)
noncomputable def bnd {α β : Type} (m : M α) (f : α → M β) : M β := fun μ => match m μ with
  | some (a, μ1) => f a μ1
  | none => none
noncomputable def fail {α : Type} : M α := fun _ => none
theorem bnd_some {α β : Type} {m : M α} {f : α → M β} {μ : Mh} {r : β × Mh} (h : bnd m f μ = some r) : ∃ a μ1, m μ = some (a, μ1) ∧ f a μ1 = some r := by
  unfold bnd at h
  cases e : m μ with
  | none => rw [e] at h; cases h
  | some p => obtain ⟨a, μ1⟩ := p; rw [e] at h; exact ⟨a, μ1, rfl, h⟩
@[simp] theorem bnd_ret {α β : Type} (a : α) (f : α → M β) : bnd (ret a) f = f a := rfl
theorem bnd_of {α β : Type} {m : M α} {f : α → M β} {μ μ1 : Mh} {a : α} (h : m μ = some (a, μ1)) : bnd m f μ = f a μ1 := by unfold bnd; rw [h]
noncomputable def ScrAt (K : PySem.W.Frag) (H : Hp) (a : Addr) (xs : List V) : Prop :=
  (∃ o, H a = some (.frz o (.lst xs))) ∨ ∃ (o : Obj) (its : Array Value) (n : Nat), K.lookup a = some o ∧ o.cls = .type "list" ∧ o.dict = none ∧ o.data = .seq its n ∧ its.size ≤ sizeLine ∧ Vals xs its.toList
theorem ScrAt.sq {K : PySem.W.Frag} {H : Hp} {a : Addr} {xs : List V} (h : ScrAt K H a xs) : SqL K H a xs := h.elim (fun z => .inl (.inr z)) .inr
mutual
noncomputable def Is (K : PySem.W.Frag) (ι : Nat → Addr) (k : Nat) (H : Hp) : D → V → Prop
  | .non, v => v = .non
  | .bl b, v => v = .bl b
  | .int i, v => v = .int i
  | .str x, v => v = .str x
  | .ty n, v => v = .ty n
  | .scr ns, v => ∃ p, v = .ref p ∧ ScrAt K H p (ns.map V.int)
  | .tup ds, v => ∃ p vs, v = .ref p ∧ SqT K H p vs ∧ IsL K ι k H ds vs
  | .lst ds, v => ∃ p vs, v = .ref p ∧ H p = some (.lst vs) ∧ (∀ n, n < k → ι n ≠ p) ∧ IsL K ι k H ds vs
  | .ref n, v => n < k ∧ v = .ref (ι n)
noncomputable def IsL (K : PySem.W.Frag) (ι : Nat → Addr) (k : Nat) (H : Hp) : List D → List V → Prop
  | [], vs => vs = []
  | d :: ds, vs => ∃ v vs', vs = v :: vs' ∧ Is K ι k H d v ∧ IsL K ι k H ds vs'
end
section
variable {K : PySem.W.Frag} {ι ι' ι2 : Nat → Addr} {k k' k2 : Nat} {H H' H2 : Hp}
theorem IsL.length : ∀ {ds : List D} {vs : List V}, IsL K ι k H ds vs → vs.length = ds.length
  | [], _, h => by unfold IsL at h; subst h; rfl
  | _ :: _, _, h => by
    unfold IsL at h
    obtain ⟨v, vs', rfl, _, h⟩ := h
    simp only [List.length_cons, IsL.length h]
theorem IsL.get : ∀ {ds : List D} {vs : List V} {i : Nat} {d : D}, IsL K ι k H ds vs → ds[i]? = some d → ∃ v, vs[i]? = some v ∧ Is K ι k H d v
  | [], _, _, _, _, e => by simp at e
  | _ :: _, _, 0, _, h, e => by
    unfold IsL at h
    obtain ⟨v, vs', rfl, h1, _⟩ := h
    simp at e; subst e
    exact ⟨v, rfl, h1⟩
  | _ :: _, _, i + 1, d, h, e => by
    unfold IsL at h
    obtain ⟨v, vs', rfl, _, h⟩ := h
    obtain ⟨u, e1, e2⟩ := IsL.get (i := i) (d := d) h (by simpa using e)
    exact ⟨u, by simpa using e1, e2⟩
theorem IsL.append : ∀ {ds es : List D} {vs us : List V}, IsL K ι k H ds vs → IsL K ι k H es us → IsL K ι k H (ds ++ es) (vs ++ us)
  | [], _, _, _, h, q => by unfold IsL at h; subst h; exact q
  | _ :: _, _, _, _, h, q => by
    unfold IsL at h
    obtain ⟨v, vs', rfl, h1, h⟩ := h
    show IsL K ι k H (_ :: (_ ++ _)) _
    unfold IsL
    exact ⟨v, _, rfl, h1, IsL.append h q⟩
theorem IsL.take : ∀ (n : Nat) {ds : List D} {vs : List V}, IsL K ι k H ds vs → IsL K ι k H (ds.take n) (vs.take n)
  | 0, ds, vs, _ => by rw [List.take_zero, List.take_zero]; unfold IsL; rfl
  | n + 1, [], _, h => by unfold IsL at h; subst h; simp only [List.take_nil]; unfold IsL; rfl
  | n + 1, _ :: _, _, h => by
    unfold IsL at h
    obtain ⟨v, vs', rfl, h1, h⟩ := h
    simp only [List.take_succ_cons]
    unfold IsL
    exact ⟨v, _, rfl, h1, IsL.take n h⟩
theorem IsL.drop : ∀ (n : Nat) {ds : List D} {vs : List V}, IsL K ι k H ds vs → IsL K ι k H (ds.drop n) (vs.drop n)
  | 0, _, _, h => h
  | n + 1, [], _, h => by unfold IsL at h; subst h; simp only [List.drop_nil]; unfold IsL; rfl
  | n + 1, _ :: _, _, h => by
    unfold IsL at h
    obtain ⟨v, vs', rfl, h1, h⟩ := h
    simp only [List.drop_succ_cons]
    exact IsL.drop n h
theorem IsL.cons {d : D} {ds : List D} {v : V} {vs : List V} (h : Is K ι k H d v) (t : IsL K ι k H ds vs) : IsL K ι k H (d :: ds) (v :: vs) := by
  unfold IsL
  exact ⟨v, vs, rfl, h, t⟩
theorem IsL.nil : IsL K ι k H [] [] := by unfold IsL; rfl
theorem IsL.one {d : D} {v : V} (h : Is K ι k H d v) : IsL K ι k H [d] [v] := .cons h .nil
theorem IsL.ofInts : ∀ (ns : List Int), IsL K ι k H (ns.map D.int) (ns.map V.int)
  | [] => .nil
  | n :: r => .cons (by unfold Is; rfl) (IsL.ofInts r)
noncomputable def isMut : HO → Bool
  | .lst _ => true
  | .dK _ => true
  | _ => false
noncomputable def Muts (ι : Nat → Addr) (k : Nat) (H : Hp) : Prop := ∀ n, n < k → ∃ o, H (ι n) = some o ∧ isMut o = true
structure Ext (ι : Nat → Addr) (k : Nat) (H : Hp) (ι' : Nat → Addr) (k' : Nat) (H' : Hp) : Prop where
  le : k ≤ k'
  agree : ∀ n, n < k → ι' n = ι n
  fresh : ∀ n, k ≤ n → n < k' → H (ι' n) = none
  keep : ∀ p o, H p = some o → (∀ n, n < k → ι n ≠ p) → H' p = some o
  was : Muts ι k H
  there : Muts ι k H'
theorem Ext.refl (h : Muts ι k H) : Ext ι k H ι k H := ⟨Nat.le_refl _, fun _ _ => rfl, fun n h1 h2 => absurd h1 (by omega), fun _ _ e _ => e, h, h⟩
theorem Ext.trans (a : Ext ι k H ι' k' H') (b : Ext ι' k' H' ι2 k2 H2) : Ext ι k H ι2 k2 H2 where
  le := Nat.le_trans a.le b.le
  agree := fun n h => (b.agree n (Nat.lt_of_lt_of_le h a.le)).trans (a.agree n h)
  fresh := fun n h1 h2 => by
    rcases Nat.lt_or_ge n k' with z | z
    · rw [b.agree n z]; exact a.fresh n h1 z
    · have q := b.fresh n z h2
      cases e : H (ι2 n) with
      | none => rfl
      | some o =>
        by_cases hx : ∃ m, m < k ∧ ι m = ι2 n
        · obtain ⟨m, hm, e2⟩ := hx
          obtain ⟨o', q', _⟩ := a.there m hm
          rw [e2, q] at q'; cases q'
        · have := a.keep _ o e (fun m hm e2 => hx ⟨m, hm, e2⟩)
          rw [q] at this; cases this
  keep := fun p o e hn => b.keep p o (a.keep p o e hn) (fun n hlt e2 => by
    rcases Nat.lt_or_ge n k with z | z
    · rw [a.agree n z] at e2; exact hn n z e2
    · have := a.fresh n z hlt
      rw [e2, e] at this; cases this)
  was := a.was
  there := fun n h => by
    have := b.there n (Nat.lt_of_lt_of_le h a.le)
    rw [a.agree n h] at this; exact this
theorem Ext.out (a : Ext ι k H ι' k' H') {p : Addr} {o : HO} (e : H p = some o) (hn : ∀ n, n < k → ι n ≠ p) : ∀ n, n < k' → ι' n ≠ p := fun n h e2 => by
  rcases Nat.lt_or_ge n k with z | z
  · rw [a.agree n z] at e2; exact hn n z e2
  · have := a.fresh n z h
    rw [e2, e] at this; cases this
theorem Muts.ne (a : Muts ι k H) {p : Addr} {o : HO} (e : H p = some o) (hm : isMut o = false) : ∀ n, n < k → ι n ≠ p := fun n hn e2 => by
  obtain ⟨o', q, h⟩ := a n hn
  rw [e2, e] at q; cases q
  rw [hm] at h; cases h
theorem sqT_ext {p : Addr} {vs : List V} (a : Ext ι k H ι' k' H') (h : SqT K H p vs) : SqT K H' p vs := by
  rcases h with h | h
  · rcases h with h | ⟨o, h⟩
    · exact .inl (.inl (a.keep p _ h (a.was.ne h rfl)))
    · exact .inl (.inr ⟨o, a.keep p _ h (a.was.ne h rfl)⟩)
  · exact .inr h
theorem scr_ext {p : Addr} {vs : List V} (a : Ext ι k H ι' k' H') (h : ScrAt K H p vs) : ScrAt K H' p vs := by
  rcases h with ⟨o, h⟩ | h
  · exact .inl ⟨o, a.keep p _ h (a.was.ne h rfl)⟩
  · exact .inr h
mutual
theorem Is.ext (a : Ext ι k H ι' k' H') : ∀ {d : D} {v : V}, Is K ι k H d v → Is K ι' k' H' d v
  | .non, _, h => by unfold Is at h ⊢; exact h
  | .bl _, _, h => by unfold Is at h ⊢; exact h
  | .int _, _, h => by unfold Is at h ⊢; exact h
  | .str _, _, h => by unfold Is at h ⊢; exact h
  | .ty _, _, h => by unfold Is at h ⊢; exact h
  | .scr ns, _, h => by
    unfold Is at h ⊢
    obtain ⟨p, rfl, h⟩ := h
    exact ⟨p, rfl, scr_ext a h⟩
  | .tup ds, _, h => by
    unfold Is at h ⊢
    obtain ⟨p, vs, rfl, h1, h2⟩ := h
    exact ⟨p, vs, rfl, sqT_ext a h1, IsL.ext a h2⟩
  | .lst ds, _, h => by
    unfold Is at h ⊢
    obtain ⟨p, vs, rfl, h1, hn, h2⟩ := h
    exact ⟨p, vs, rfl, a.keep p _ h1 hn, a.out h1 hn, IsL.ext a h2⟩
  | .ref n, _, h => by
    unfold Is at h ⊢
    obtain ⟨h, rfl⟩ := h
    exact ⟨Nat.lt_of_lt_of_le h a.le, by rw [a.agree n h]⟩
theorem IsL.ext (a : Ext ι k H ι' k' H') : ∀ {ds : List D} {vs : List V}, IsL K ι k H ds vs → IsL K ι' k' H' ds vs
  | [], _, h => by unfold IsL at h ⊢; exact h
  | _ :: _, _, h => by
    unfold IsL at h ⊢
    obtain ⟨v, vs', rfl, h1, h2⟩ := h
    exact ⟨v, vs', rfl, Is.ext a h1, IsL.ext a h2⟩
end
noncomputable def KVs (K : PySem.W.Frag) (ι : Nat → Addr) (k : Nat) (H : Hp) : List (Key × D) → List (Key × V) → Prop
  | [], r => r = []
  | (y, d) :: l, r => ∃ v r', r = (y, v) :: r' ∧ Is K ι k H d v ∧ KVs K ι k H l r'
theorem KVs.ext (a : Ext ι k H ι' k' H') : ∀ {l : List (Key × D)} {r : List (Key × V)}, KVs K ι k H l r → KVs K ι' k' H' l r
  | [], _, h => h
  | (_, _) :: _, _, h => by
    obtain ⟨v, r', rfl, h1, h2⟩ := h
    exact ⟨v, r', rfl, h1.ext a, h2.ext a⟩
noncomputable def ObjIs (K : PySem.W.Frag) (ι : Nat → Addr) (k : Nat) (H : Hp) : MO → HO → Prop
  | .lst ds, o => ∃ vs, o = .lst vs ∧ IsL K ι k H ds vs
  | .dK l, o => ∃ r, o = .dK r ∧ KVs K ι k H l r
structure RelH (K : PySem.W.Frag) (ι : Nat → Addr) (μ : Mh) (H : Hp) : Prop where
  inj : ∀ i j, i < μ.length → j < μ.length → ι i = ι j → i = j
  obj : ∀ n o, μ[n]? = some o → ∃ u, H (ι n) = some u ∧ ObjIs K ι μ.length H o u
theorem ObjIs.mut {o : MO} {u : HO} (h : ObjIs K ι k H o u) : isMut u = true := by
  cases o with
  | lst ds => obtain ⟨vs, rfl, _⟩ := h; rfl
  | dK l => obtain ⟨r, rfl, _⟩ := h; rfl
theorem ObjIs.ext (a : Ext ι k H ι' k' H') {o : MO} {u : HO} (h : ObjIs K ι k H o u) : ObjIs K ι' k' H' o u := by
  cases o with
  | lst ds => obtain ⟨vs, rfl, h⟩ := h; exact ⟨vs, rfl, h.ext a⟩
  | dK l => obtain ⟨r, rfl, h⟩ := h; exact ⟨r, rfl, h.ext a⟩
theorem RelH.muts {μ : Mh} (r : RelH K ι μ H) : Muts ι μ.length H := fun n hn => by
  obtain ⟨u, e, h⟩ := r.obj n μ[n] (by simp [hn])
  exact ⟨u, e, h.mut⟩
theorem RelH.ext0 {μ : Mh} (r : RelH K ι μ H) : Ext ι μ.length H ι μ.length H := Ext.refl r.muts
theorem RelH.laid {μ : Mh} (r : RelH K ι μ H) {p : Addr} (o : HO) (hp : H p = none) : Ext ι μ.length H ι μ.length (upd H p o) ∧ RelH K ι μ (upd H p o) := by
  have kp : ∀ q u, H q = some u → upd H p o q = some u := fun q u e => by rw [upd_ne (ne_of_none e hp)]; exact e
  have a : Ext ι μ.length H ι μ.length (upd H p o) := ⟨Nat.le_refl _, fun _ _ => rfl, fun n h1 h2 => absurd h1 (by omega), fun q u e _ => kp q u e, r.muts, fun n hn => by
    obtain ⟨u, e, h⟩ := r.muts n hn
    exact ⟨u, kp _ _ e, h⟩⟩
  refine ⟨a, r.inj, fun n o' e => ?_⟩
  obtain ⟨u, e1, h⟩ := r.obj n o' e
  exact ⟨u, kp _ _ e1, h.ext a⟩
theorem RelH.grown {μ : Mh} (r : RelH K ι μ H) {p : Addr} {o : HO} {m : MO} (hp : H p = none) (h : ObjIs K ι μ.length H m o) :
    ∃ ι', Ext ι μ.length H ι' (μ ++ [m]).length (upd H p o) ∧ RelH K ι' (μ ++ [m]) (upd H p o) ∧ ι' μ.length = p := by
  have kp : ∀ q u, H q = some u → upd H p o q = some u := fun q u e => by rw [upd_ne (ne_of_none e hp)]; exact e
  let ι' : Nat → Addr := fun n => if n = μ.length then p else ι n
  have e0 : ι' μ.length = p := if_pos rfl
  have e1 : ∀ n, n < μ.length → ι' n = ι n := fun n hn => if_neg (by omega)
  have a : Ext ι μ.length H ι' (μ ++ [m]).length (upd H p o) := ⟨by simp, e1, fun n h1 h2 => by
      have : n = μ.length := by simp at h2; omega
      rw [this, e0]; exact hp, fun q u e _ => kp q u e, r.muts, fun n hn => by
    obtain ⟨u, e, h⟩ := r.muts n hn
    exact ⟨u, kp _ _ e, h⟩⟩
  refine ⟨ι', a, ⟨fun i j hi hj e => ?_, fun n o' e => ?_⟩, e0⟩
  · simp at hi hj
    have old : ∀ i, i < μ.length → ι' i ≠ p := fun i hi e => by
      obtain ⟨u, q, _⟩ := r.muts i hi
      rw [← e1 i hi, e, hp] at q; cases q
    rcases Nat.lt_or_ge i μ.length with zi | zi <;> rcases Nat.lt_or_ge j μ.length with zj | zj
    · rw [e1 i zi, e1 j zj] at e; exact r.inj i j zi zj e
    · have : j = μ.length := by omega
      subst this; rw [e0] at e; exact absurd e (old i zi)
    · have : i = μ.length := by omega
      subst this; rw [e0] at e; exact absurd e.symm (old j zj)
    · omega
  · rcases Nat.lt_or_ge n μ.length with z | z
    · rw [List.getElem?_append_left z] at e
      obtain ⟨u, q, hq⟩ := r.obj n o' e
      exact ⟨u, by rw [e1 n z]; exact kp _ _ q, hq.ext a⟩
    · have hn : n = μ.length := by
        have := (List.getElem?_eq_some_iff.mp e).1
        simp at this; omega
      subst hn
      rw [List.getElem?_append_right (Nat.le_refl _), Nat.sub_self] at e
      simp at e; subst e
      exact ⟨o, by rw [e0, upd_same], h.ext a⟩
theorem RelH.changed {μ : Mh} (r : RelH K ι μ H) {n : Nat} {o : HO} {m : MO} (hn : n < μ.length) (h : ObjIs K ι μ.length H m o) :
    Ext ι μ.length H ι (μ.set n m).length (upd H (ι n) o) ∧ RelH K ι (μ.set n m) (upd H (ι n) o) := by
  have ne : ∀ i, i < μ.length → i ≠ n → ι i ≠ ι n := fun i hi hne e => hne (r.inj i n hi hn e)
  have a : Ext ι μ.length H ι (μ.set n m).length (upd H (ι n) o) := ⟨by simp, fun _ _ => rfl, fun i h1 h2 => by simp at h2; omega, fun q u e hq => by rw [upd_ne (fun z => hq n hn z.symm)]; exact e, r.muts, fun i hi => by
    by_cases z : i = n
    · subst z; exact ⟨o, upd_same, h.mut⟩
    · obtain ⟨u, e, hu⟩ := r.muts i hi
      exact ⟨u, by rw [upd_ne (ne i hi z)]; exact e, hu⟩⟩
  refine ⟨a, fun i j hi hj => r.inj i j (by simpa using hi) (by simpa using hj), fun i o' e => ?_⟩
  by_cases z : i = n
  · subst z
    rw [List.getElem?_set_self hn] at e
    cases e
    exact ⟨o, upd_same, h.ext a⟩
  · rw [List.getElem?_set_ne (Ne.symm z)] at e
    have hi : i < μ.length := (List.getElem?_eq_some_iff.mp e).1
    obtain ⟨u, q, hq⟩ := r.obj i o' e
    exact ⟨u, by rw [upd_ne (ne i hi z)]; exact q, hq.ext a⟩
structure RelS (K : PySem.W.Frag) (ι : Nat → Addr) (k : Nat) (H : Hp) (τ : Sl) (σ : St) : Prop where
  len : σ.length = τ.length
  get : ∀ (i : Nat) (d : D), τ[i]? = some (some d) → ∃ v, σ[i]? = some (some v) ∧ Is K ι k H d v
theorem RelS.ext {τ : Sl} {σ : St} (a : Ext ι k H ι' k' H') (r : RelS K ι k H τ σ) : RelS K ι' k' H' τ σ := ⟨r.len, fun i d e => by
  obtain ⟨v, e1, h⟩ := r.get i d e
  exact ⟨v, e1, h.ext a⟩⟩
theorem RelS.set {τ : Sl} {σ : St} (r : RelS K ι k H τ σ) {d : D} {v : V} (i : Nat) (h : Is K ι k H d v) : RelS K ι k H (τ.set i (some d)) (σ.set i (some v)) := ⟨by simp [r.len], fun j e q => by
  by_cases z : i = j
  · subst z
    have hi : i < τ.length := by
      have := (List.getElem?_eq_some_iff.mp q).1
      simpa using this
    rw [List.getElem?_set_self hi] at q
    cases q
    exact ⟨v, List.getElem?_set_self (by rw [r.len]; exact hi), h⟩
  · rw [List.getElem?_set_ne z] at q
    obtain ⟨u, e1, hu⟩ := r.get j e q
    exact ⟨u, by rw [List.getElem?_set_ne z]; exact e1, hu⟩⟩
end
end Mi
namespace Mi
open PySem L2
inductive Fl where
  | next | brk | cont | rt (d : D)
noncomputable abbrev Aft (K : PySem.W.Frag) (ι : Nat → Addr) (μ : Mh) (H : Hp) (μ' : Mh) (φ : (Nat → Addr) → Hp → Prop) : Prop :=
  ∀ ι' H', Ext ι μ.length H ι' μ'.length H' → RelH K ι' μ' H' → φ ι' H'
noncomputable def tE (K : PySem.W.Frag) (m : Sl → M D) : TE := fun σ H Q => ∃ ι μ τ d μ', RelH K ι μ H ∧ RelS K ι μ.length H τ σ ∧ m τ μ = some (d, μ') ∧
  Aft K ι μ H μ' fun ι' H' => ∀ v, Is K ι' μ'.length H' d v → Q v H'
noncomputable def tT (K : PySem.W.Frag) (m : Sl → M Bool) : TT := fun σ H Q => ∃ ι μ τ b μ', RelH K ι μ H ∧ RelS K ι μ.length H τ σ ∧ m τ μ = some (b, μ') ∧
  Aft K ι μ H μ' fun _ H' => Q b H'
noncomputable def tL (K : PySem.W.Frag) (m : Sl → M (List D)) : TA := fun σ H Q => ∃ ι μ τ ds μ', RelH K ι μ H ∧ RelS K ι μ.length H τ σ ∧ m τ μ = some (ds, μ') ∧
  Aft K ι μ H μ' fun ι' H' => ∀ vs, IsL K ι' μ'.length H' ds vs → Q vs H'
noncomputable def FlP (K : PySem.W.Frag) (Dn : Ends) (ι' : Nat → Addr) (k : Nat) (H' : Hp) (τ' : Sl) (σ' : St) : Fl → Prop
  | .next => Dn.nx σ' H'
  | .brk => Dn.bk σ' H'
  | .cont => Dn.ct σ' H'
  | .rt d => ∀ v, Is K ι' k H' d v → Dn.rt v H'
noncomputable def tSt (K : PySem.W.Frag) (m : Sl → M (Fl × Sl)) : TS := fun Dn σ H => ∃ ι μ τ f τ' μ', RelH K ι μ H ∧ RelS K ι μ.length H τ σ ∧ m τ μ = some ((f, τ'), μ') ∧
  Aft K ι μ H μ' fun ι' H' => ∀ σ', RelS K ι' μ'.length H' τ' σ' → FlP K Dn ι' μ'.length H' τ' σ' f
structure RE (X : Cx) (e : Expr) (m : Sl → M D) : Prop where
  pe : PE X e (tE X.K m)
structure RT (X : Cx) (e : Expr) (m : Sl → M Bool) : Prop where
  pe : PT X e (tT X.K m)
structure RW (X : Cx) (e : Expr) (m : Sl → M Bool) : Prop where
  pe : PW X e (tT X.K m)
structure RA (X : Cx) (es : List Expr) (m : Sl → M (List D)) : Prop where
  pe : PA X es (tL X.K m)
structure RS (X : Cx) (st : Stmt) (m : Sl → M (Fl × Sl)) : Prop where
  pe : PS X st (tSt X.K m)
structure RSs (X : Cx) (st : List Stmt) (m : Sl → M (Fl × Sl)) : Prop where
  pe : PSs X st (tSt X.K m)
section
variable {X : Cx} {e a b c : Expr} {es : List Expr} {pos : Pos}
theorem PE.wk {t t' : TE} (h : PE X e t) (w : ∀ σ H Q, t' σ H Q → t σ H Q) : PE X e t' := fun pins s σ H Q I q => h pins s σ H Q I (w σ H Q q)
theorem RE.wk {m : Sl → M D} {t : TE} (h : PE X e t) (w : ∀ σ H Q, tE X.K m σ H Q → t σ H Q) : RE X e m := ⟨PE.wk h w⟩
theorem PT.wk {t t' : TT} (h : PT X e t) (w : ∀ σ H Q, t' σ H Q → t σ H Q) : PT X e t' := fun pins s σ H Q I q => h pins s σ H Q I (w σ H Q q)
theorem RT.wk {m : Sl → M Bool} {t : TT} (h : PT X e t) (w : ∀ σ H Q, tT X.K m σ H Q → t σ H Q) : RT X e m := ⟨PT.wk h w⟩
theorem PW.wk {t t' : TT} (h : PW X e t) (w : ∀ σ H Q, t' σ H Q → t σ H Q) : PW X e t' := fun wh pins s σ H Q I q => h wh pins s σ H Q I (w σ H Q q)
theorem RW.wk {m : Sl → M Bool} {t : TT} (h : PW X e t) (w : ∀ σ H Q, tT X.K m σ H Q → t σ H Q) : RW X e m := ⟨PW.wk h w⟩
theorem PA.wk {t t' : TA} (h : PA X es t) (w : ∀ σ H Q, t' σ H Q → t σ H Q) : PA X es t' := fun p pins s σ H Q I q => h p pins s σ H Q I (w σ H Q q)
theorem RA.wk {m : Sl → M (List D)} {t : TA} (h : PA X es t) (w : ∀ σ H Q, tL X.K m σ H Q → t σ H Q) : RA X es m := ⟨PA.wk h w⟩
theorem PS.wk {st : Stmt} {t t' : TS} (h : PS X st t) (w : ∀ D σ H, t' D σ H → t D σ H) : PS X st t' := fun pins s σ H D I q => h pins s σ H D I (w D σ H q)
theorem RS.wk {m : Sl → M (Fl × Sl)} {st : Stmt} {t : TS} (h : PS X st t) (w : ∀ D σ H, tSt X.K m D σ H → t D σ H) : RS X st m := ⟨PS.wk h w⟩
theorem PSs.wk {st : List Stmt} {t t' : TS} (h : PSs X st t) (w : ∀ D σ H, t' D σ H → t D σ H) : PSs X st t' := fun pins s σ H D I q => h pins s σ H D I (w D σ H q)
theorem RSs.wk {m : Sl → M (Fl × Sl)} {st : List Stmt} {t : TS} (h : PSs X st t) (w : ∀ D σ H, tSt X.K m D σ H → t D σ H) : RSs X st m := ⟨PSs.wk h w⟩
theorem OpR.wk {f : Value → Value → Sem Value} {r r' : R2} (h : OpR X f r) (w : ∀ x y H Q, r' x y H Q → r x y H Q) : OpR X f r' := fun pins s σ H x y v u Q I rx ry q => h pins s σ H x y v u Q I rx ry (w x y H Q q)
noncomputable def isStar : Expr → Bool
  | .Starred _ _ => true
  | _ => false
theorem star_cons {e : Expr} {es : List Expr} {env : Env} (h : isStar e = false) : starEach (e :: es) env = (false, eval e env) :: starEach es env := by
  cases e <;> first | rfl | cases h
theorem star_plain {pos : Pos} {env : Env} : ∀ {es : List Expr}, (es.all fun e => !isStar e) = true → (backTo pos (starEach es env)).any (·.1) = false
  | [], _ => rfl
  | e :: es, h => by
    rw [List.all_cons, Bool.and_eq_true] at h
    have h1 : isStar e = false := by simpa using h.1
    have ih := star_plain (pos := pos) (env := env) h.2
    rw [star_cons h1]
    unfold backTo at ih ⊢
    simpa using ih
noncomputable def mSlot (i : Nat) : Sl → M D := fun τ μ => match τ[i]? with
  | some (some d) => some (d, μ)
  | _ => none
noncomputable def mC (d : D) : Sl → M D := fun _ => ret d
theorem re_slot (i : Nat) {x : Str} (hN : X.N[i]? = some x := by rfl) (hv : Vis X.env.scope x := by first | exact Or.inl rfl | exact Or.inr (Or.inl rfl) | exact Or.inr (Or.inr rfl)) (hd : (x == ("__debug__" : Str)) = false := by decide)
    (hcd : (x == ("__classdict__" : Str)) = false := by decide) : RE X (.Name x pos) (mSlot i) := RE.wk (pe_var hN hv hd hcd) fun σ H Q h => by
  obtain ⟨ι, μ, τ, d, μ', R, S, e, q⟩ := h
  unfold mSlot at e
  split at e
  · rename_i d' ed
    cases e
    obtain ⟨v, e1, h1⟩ := S.get i _ ed
    exact ⟨v, e1, q ι H R.ext0 R v h1⟩
  · cases e
theorem re_c {t : TE} {d : D} {v : V} (h : PE X e (tC v)) (hd : ∀ ι k H, Is X.K ι k H d v) : RE X e (mC d) := RE.wk h fun σ H Q h => by
  obtain ⟨ι, μ, τ, d, μ', R, S, e, q⟩ := h
  cases e
  exact q ι H R.ext0 R v (hd _ _ _)
theorem re_int {i j} : RE X (.Constant (.int i) j pos) (mC (.int i)) := re_c (t := fun _ _ _ => True) pe_int fun _ _ _ => by unfold Is; rfl
theorem re_bl {i j} : RE X (.Constant (.bool i) j pos) (mC (.bl i)) := re_c (t := fun _ _ _ => True) pe_bl fun _ _ _ => by unfold Is; rfl
theorem re_non {j} : RE X (.Constant .none j pos) (mC .non) := re_c (t := fun _ _ _ => True) pe_non fun _ _ _ => by unfold Is; rfl
theorem re_str {i j} : RE X (.Constant (.str i) j pos) (mC (.str i)) := re_c (t := fun _ _ _ => True) pe_str fun _ _ _ => by unfold Is; rfl
theorem re_glob {x : Str} {v : V} {u : Value} {d : D} (hm : X.mg x = some u) (r : RelV v u) (hd : ∀ ι k H, Is X.K ι k H d v) (hg : Gl X x := by rfl) (hdb : (x == ("__debug__" : Str)) = false := by decide) : RE X (.Name x pos) (mC d) :=
  re_c (t := fun _ _ _ => True) (pe_glob hg hm r hdb) hd
noncomputable def mOp (g : D → D → M D) (ma mb : Sl → M D) : Sl → M D := fun τ => bnd (ma τ) fun x => bnd (mb τ) fun y => g x y
noncomputable def mUn (g : D → M D) (ma : Sl → M D) : Sl → M D := fun τ => bnd (ma τ) g
noncomputable def rM (K : PySem.W.Frag) (g : D → D → M D) : R2 := fun x y H Q => ∃ ι μ a b d μ', RelH K ι μ H ∧ Is K ι μ.length H a x ∧ Is K ι μ.length H b y ∧ g a b μ = some (d, μ') ∧
  Aft K ι μ H μ' fun ι' H' => ∀ v, Is K ι' μ'.length H' d v → Q v H'
noncomputable def rM1 (K : PySem.W.Frag) (g : D → M D) : V → Hp → VK → Prop := fun x H Q => ∃ ι μ a d μ', RelH K ι μ H ∧ Is K ι μ.length H a x ∧ g a μ = some (d, μ') ∧
  Aft K ι μ H μ' fun ι' H' => ∀ v, Is K ι' μ'.length H' d v → Q v H'
noncomputable def rMA (K : PySem.W.Frag) (g : List D → M D) : List V → Hp → VK → Prop := fun xs H Q => ∃ ι μ as d μ', RelH K ι μ H ∧ IsL K ι μ.length H as xs ∧ g as μ = some (d, μ') ∧
  Aft K ι μ H μ' fun ι' H' => ∀ v, Is K ι' μ'.length H' d v → Q v H'
theorem tE_op {K : PySem.W.Frag} {g : D → D → M D} {ma mb : Sl → M D} {σ : St} {H : Hp} {Q : VK} (h : tE K (mOp g ma mb) σ H Q) : tOp (rM K g) (tE K ma) (tE K mb) σ H Q := by
  obtain ⟨ι, μ, τ, d, μ', R, S, e, q⟩ := h
  obtain ⟨x, μ1, e1, e⟩ := bnd_some e
  obtain ⟨y, μ2, e2, e3⟩ := bnd_some e
  refine ⟨ι, μ, τ, x, μ1, R, S, e1, fun ι1 H1 E1 R1 v1 i1 => ?_⟩
  refine ⟨ι1, μ1, τ, y, μ2, R1, S.ext E1, e2, fun ι2 H2 E2 R2 v2 i2 => ?_⟩
  exact ⟨ι2, μ2, x, y, d, μ', R2, i1.ext E2, i2, e3, fun ι3 H3 E3 R3 v3 i3 => q ι3 H3 ((E1.trans E2).trans E3) R3 v3 i3⟩
theorem tE_un {K : PySem.W.Frag} {g : D → M D} {ma : Sl → M D} {σ : St} {H : Hp} {Q : VK} (h : tE K (mUn g ma) σ H Q) : tUn (rM1 K g) (tE K ma) σ H Q := by
  obtain ⟨ι, μ, τ, d, μ', R, S, e, q⟩ := h
  obtain ⟨x, μ1, e1, e⟩ := bnd_some e
  refine ⟨ι, μ, τ, x, μ1, R, S, e1, fun ι1 H1 E1 R1 v1 i1 => ?_⟩
  exact ⟨ι1, μ1, x, d, μ', R1, i1, e, fun ι3 H3 E3 R3 v3 i3 => q ι3 H3 (E1.trans E3) R3 v3 i3⟩
theorem re_op {op : Operator} {g : D → D → M D} {ma mb : Sl → M D} (ho : OpR X (binaryOp op) (rM X.K g)) (ha : RE X a ma) (hb : RE X b mb) : RE X (.BinOp a op b pos) (mOp g ma mb) := RE.wk (pe_op ho ha.pe hb.pe) fun _ _ _ h => tE_op h
theorem re_un {op : UnaryOp} {g : D → M D} {ma : Sl → M D} (ho : UnR X (unaryOp op) (rM1 X.K g)) (ha : RE X a ma) : RE X (.UnaryOp op a pos) (mUn g ma) := RE.wk (pe_un ho ha.pe) fun _ _ _ h => tE_un h
theorem re_cmp {op : CmpOp} {g : D → D → M D} {ma mb : Sl → M D} (ho : OpR X (compareOp op) (rM X.K g)) (ha : RE X a ma) (hb : RE X b mb) (hm : behindInMarks op b = false := by first | exact nomark _ | rfl) : RE X (.Compare a [op] [b] pos) (mOp g ma mb) :=
  RE.wk (pe_cmpR ho ha.pe hb.pe hm) fun _ _ _ h => tE_op h
theorem re_ix {g : D → D → M D} {ma mb : Sl → M D} (ho : IxR X (rM X.K g)) (ha : RE X a ma) (hb : RE X b mb) (hs : PlainIx b := by exact fun _ _ => rfl) : RE X (.Subscript a b pos) (mOp g ma mb) := RE.wk (pe_ix ho ha.pe hb.pe hs) fun _ _ _ h => tE_op h
noncomputable def asB : D → M Bool
  | .bl b => ret b
  | _ => fail
noncomputable def mTest (m : Sl → M D) : Sl → M Bool := fun τ => bnd (m τ) asB
theorem tT_test {K : PySem.W.Frag} {m : Sl → M D} {σ : St} {H : Hp} {Q : Bool → Hp → Prop} (h : tT K (mTest m) σ H Q) : tE K m σ H fun x H' => ∃ k, x = .bl k ∧ Q k H' := by
  obtain ⟨ι, μ, τ, b, μ', R, S, e, q⟩ := h
  obtain ⟨x, μ1, e1, e⟩ := bnd_some e
  refine ⟨ι, μ, τ, x, μ1, R, S, e1, fun ι1 H1 E1 R1 v1 i1 => ?_⟩
  cases x with
  | bl k =>
    cases e
    unfold Is at i1
    exact ⟨b, i1, q ι1 H1 E1 R1⟩
  | _ => cases e
theorem rt_cmp {op : CmpOp} {g : D → D → M D} {ma mb : Sl → M D} (ho : OpR X (compareOp op) (rM X.K g)) (ha : RE X a ma) (hb : RE X b mb) (hm : behindInMarks op b = false := by first | exact nomark _ | rfl) : RT X (.Compare a [op] [b] pos) (mTest (mOp g ma mb)) :=
  RT.wk (pt_cmpR ho ha.pe hb.pe hm) fun σ H Q h => tE_op (Q := fun x H' => ∃ k, x = .bl k ∧ Q k H') (tT_test h)
theorem rt_val {m : Sl → M D} (h : RE X e m) (he : ∀ whole, isTrue e X.env whole = (do let v ← whole; standAt e.pos; holding [v] (truthy v)) := by intro _; rfl) : RT X e (mTest m) :=
  RT.wk (pt_val h.pe he) fun _ _ _ q => tT_test q
noncomputable def mAnd (ma mb : Sl → M Bool) : Sl → M Bool := fun τ => bnd (ma τ) fun x => if x = true then mb τ else ret false
noncomputable def mOr (ma mb : Sl → M Bool) : Sl → M Bool := fun τ => bnd (ma τ) fun x => if x = true then ret true else mb τ
noncomputable def mNot (ma : Sl → M Bool) : Sl → M Bool := fun τ => bnd (ma τ) fun x => ret (!x)
theorem rt_not {ma : Sl → M Bool} (ha : RT X a ma) : RT X (.UnaryOp .Not a pos) (mNot ma) := RT.wk (pt_not ha.pe) fun σ H Q h => by
  obtain ⟨ι, μ, τ, b, μ', R, S, e, q⟩ := h
  obtain ⟨x, μ1, e1, e⟩ := bnd_some e
  cases e
  exact ⟨ι, μ, τ, x, _, R, S, e1, q⟩
theorem rw_and1 {ma : Sl → M Bool} (ha : RT X a ma) : RW X (.BoolOp .And [a] pos) ma := ⟨pw_and1 ha.pe⟩
theorem rw_or1 {ma : Sl → M Bool} (ha : RT X a ma) : RW X (.BoolOp .Or [a] pos) ma := ⟨pw_or1 ha.pe⟩
theorem rw_and {rest : List Expr} {ma mb : Sl → M Bool} (ha : RT X a ma) (hb : RW X (.BoolOp .And (b :: rest) pos) mb) : RW X (.BoolOp .And (a :: b :: rest) pos) (mAnd ma mb) := RW.wk (pw_and ha.pe hb.pe) fun σ H Q h => by
  obtain ⟨ι, μ, τ, z, μ', R, S, e, q⟩ := h
  obtain ⟨x, μ1, e1, e⟩ := bnd_some e
  refine ⟨ι, μ, τ, x, μ1, R, S, e1, fun ι1 H1 E1 R1 => ?_⟩
  cases x with
  | true => exact ⟨ι1, μ1, τ, z, μ', R1, S.ext E1, e, fun ι2 H2 E2 R2 => q ι2 H2 (E1.trans E2) R2⟩
  | false => cases e; exact q ι1 H1 E1 R1
theorem rw_or {rest : List Expr} {ma mb : Sl → M Bool} (ha : RT X a ma) (hb : RW X (.BoolOp .Or (b :: rest) pos) mb) : RW X (.BoolOp .Or (a :: b :: rest) pos) (mOr ma mb) := RW.wk (pw_or ha.pe hb.pe) fun σ H Q h => by
  obtain ⟨ι, μ, τ, z, μ', R, S, e, q⟩ := h
  obtain ⟨x, μ1, e1, e⟩ := bnd_some e
  refine ⟨ι, μ, τ, x, μ1, R, S, e1, fun ι1 H1 E1 R1 => ?_⟩
  cases x with
  | true => cases e; exact q ι1 H1 E1 R1
  | false => exact ⟨ι1, μ1, τ, z, μ', R1, S.ext E1, e, fun ι2 H2 E2 R2 => q ι2 H2 (E1.trans E2) R2⟩
theorem RW.rt {m : Sl → M Bool} (h : RW X e m) : RT X e m := ⟨h.pe.pt⟩
noncomputable def mIf (mc : Sl → M Bool) (ma mb : Sl → M D) : Sl → M D := fun τ => bnd (mc τ) fun x => if x = true then ma τ else mb τ
theorem re_if {mc : Sl → M Bool} {ma mb : Sl → M D} (hc : RT X c mc) (ha : RE X a ma) (hb : RE X b mb) : RE X (.IfExp c a b pos) (mIf mc ma mb) := RE.wk (pe_ifExp hc.pe ha.pe hb.pe) fun σ H Q h => by
  obtain ⟨ι, μ, τ, z, μ', R, S, e, q⟩ := h
  obtain ⟨x, μ1, e1, e⟩ := bnd_some e
  refine ⟨ι, μ, τ, x, μ1, R, S, e1, fun ι1 H1 E1 R1 => ?_⟩
  cases x with
  | true => exact ⟨ι1, μ1, τ, z, μ', R1, S.ext E1, e, fun ι2 H2 E2 R2 => q ι2 H2 (E1.trans E2) R2⟩
  | false => exact ⟨ι1, μ1, τ, z, μ', R1, S.ext E1, e, fun ι2 H2 E2 R2 => q ι2 H2 (E1.trans E2) R2⟩
noncomputable def mAndV (ma mb : Sl → M D) : Sl → M D := fun τ => bnd (ma τ) fun x => bnd (asB x) fun c => if c = true then mb τ else ret (.bl false)
noncomputable def mOrV (ma mb : Sl → M D) : Sl → M D := fun τ => bnd (ma τ) fun x => bnd (asB x) fun c => if c = true then ret (.bl true) else mb τ
noncomputable def mNotV (ma : Sl → M D) : Sl → M D := fun τ => bnd (ma τ) fun x => bnd (asB x) fun c => ret (.bl (!c))
theorem asB_some {x : D} {μ μ1 : Mh} {c : Bool} (h : asB x μ = some (c, μ1)) : x = .bl c ∧ μ1 = μ := by
  cases x with
  | bl k => cases h; exact ⟨rfl, rfl⟩
  | _ => cases h
theorem re_one {op} {m : Sl → M D} (h : RE X a m) : RE X (.BoolOp op [a] pos) m := ⟨pe_one h.pe⟩
theorem re_and {rest : List Expr} {ma mb : Sl → M D} (ha : RE X a ma) (hb : RE X (.BoolOp .And (b :: rest) pos) mb) : RE X (.BoolOp .And (a :: b :: rest) pos) (mAndV ma mb) := RE.wk (pe_and ha.pe hb.pe) fun σ H Q h => by
  obtain ⟨ι, μ, τ, z, μ', R, S, e, q⟩ := h
  obtain ⟨x, μ1, e1, e⟩ := bnd_some e
  obtain ⟨c, μ2, e2, e⟩ := bnd_some e
  obtain ⟨rfl, rfl⟩ := asB_some e2
  refine ⟨ι, μ, τ, _, μ2, R, S, e1, fun ι1 H1 E1 R1 v1 i1 => ⟨c, by unfold Is at i1; exact i1, ?_⟩⟩
  cases c with
  | true => exact ⟨ι1, μ2, τ, z, μ', R1, S.ext E1, e, fun ι2 H2 E2 R2 => q ι2 H2 (E1.trans E2) R2⟩
  | false => cases e; exact q ι1 H1 E1 R1 _ (by unfold Is; rfl)
theorem re_not {ma : Sl → M D} (ha : RE X a ma) : RE X (.UnaryOp .Not a pos) (mNotV ma) := RE.wk (pe_not ha.pe) fun σ H Q h => by
  obtain ⟨ι, μ, τ, z, μ', R, S, e, q⟩ := h
  obtain ⟨x, μ1, e1, e⟩ := bnd_some e
  obtain ⟨c, μ2, e2, e⟩ := bnd_some e
  obtain ⟨rfl, rfl⟩ := asB_some e2
  cases e
  exact ⟨ι, μ, τ, _, _, R, S, e1, fun ι1 H1 E1 R1 v1 i1 => ⟨c, by unfold Is at i1; exact i1, q ι1 H1 E1 R1 _ (by unfold Is; rfl)⟩⟩
noncomputable def mChain (g g' : D → D → M D) (ma mb mc : Sl → M D) : Sl → M D := fun τ => bnd (ma τ) fun x => bnd (mb τ) fun y => bnd (g x y) fun z => bnd (asB z) fun k => if k = true then bnd (mc τ) fun w => g' y w else ret (.bl false)
noncomputable def aNil : Sl → M (List D) := fun _ => ret []
noncomputable def aCons (m : Sl → M D) (r : Sl → M (List D)) : Sl → M (List D) := fun τ => bnd (m τ) fun x => bnd (r τ) fun xs => ret (x :: xs)
theorem ra_nil : RA X [] aNil := RA.wk pa_nil fun σ H Q h => by
  obtain ⟨ι, μ, τ, z, μ', R, S, e, q⟩ := h
  cases e
  exact q ι H R.ext0 R [] .nil
theorem ra_cons {m : Sl → M D} {r : Sl → M (List D)} (h : RE X e m) (hr : RA X es r) (hs : starEach (e :: es) X.env = (false, eval e X.env) :: starEach es X.env := by exact star_cons rfl) : RA X (e :: es) (aCons m r) := RA.wk (pa_cons h.pe hr.pe hs) fun σ H Q h => by
  obtain ⟨ι, μ, τ, z, μ', R, S, e, q⟩ := h
  obtain ⟨x, μ1, e1, e⟩ := bnd_some e
  obtain ⟨xs, μ2, e2, e⟩ := bnd_some e
  cases e
  exact ⟨ι, μ, τ, x, μ1, R, S, e1, fun ι1 H1 E1 R1 v1 i1 => ⟨ι1, μ1, τ, xs, _, R1, S.ext E1, e2, fun ι2 H2 E2 R2 vs i2 => q ι2 H2 (E1.trans E2) R2 _ (.cons (i1.ext E2) i2)⟩⟩
noncomputable def lim (n : Nat) : M Unit := fun μ => if n ≤ sizeLine then some ((), μ) else none
theorem lim_some {n : Nat} {μ μ1 : Mh} {u : Unit} (h : lim n μ = some (u, μ1)) : n ≤ sizeLine ∧ μ1 = μ := by
  unfold lim at h
  split at h
  · rename_i hn; cases h; exact ⟨hn, rfl⟩
  · cases h
noncomputable def newT (ds : List D) : M D := bnd (lim ds.length) fun _ => ret (.tup ds)
noncomputable def newL (ds : List D) : M D := bnd (lim ds.length) fun _ => ret (.lst ds)
noncomputable def newB (ds : List D) : M D := bnd (lim ds.length) fun _ => fun μ => some (.ref μ.length, μ ++ [.lst ds])
noncomputable def mDisp (f : List D → M D) (m : Sl → M (List D)) : Sl → M D := fun τ => bnd (m τ) f
theorem newT_ok {K : PySem.W.Frag} {ι : Nat → Addr} {μ μ' : Mh} {H : Hp} {ds : List D} {vs : List V} {d : D} {Q : VK} (R : RelH K ι μ H) (i : IsL K ι μ.length H ds vs) (e : newT ds μ = some (d, μ')) (q : Aft K ι μ H μ' fun ι' H' => ∀ v, Is K ι' μ'.length H' d v → Q v H') :
    vs.length ≤ sizeLine ∧ ∀ p, H p = none → Q (.ref p) (upd H p (.tup vs)) := by
  obtain ⟨u, μ1, e1, e2⟩ := bnd_some e
  clear e
  obtain ⟨hl, e3⟩ := lim_some e1
  cases e2
  cases e3
  refine ⟨by rw [i.length]; exact hl, fun p hp => ?_⟩
  obtain ⟨E1, R1⟩ := R.laid (.tup vs) hp
  exact q ι _ E1 R1 _ (by unfold Is; exact ⟨p, vs, rfl, SqT.of upd_same, i.ext E1⟩)
theorem newL_ok {K : PySem.W.Frag} {ι : Nat → Addr} {μ μ' : Mh} {H : Hp} {ds : List D} {vs : List V} {d : D} {Q : VK} (R : RelH K ι μ H) (i : IsL K ι μ.length H ds vs) (e : newL ds μ = some (d, μ')) (q : Aft K ι μ H μ' fun ι' H' => ∀ v, Is K ι' μ'.length H' d v → Q v H') :
    vs.length ≤ sizeLine ∧ ∀ p, H p = none → Q (.ref p) (upd H p (.lst vs)) := by
  obtain ⟨u, μ1, e1, e2⟩ := bnd_some e
  clear e
  obtain ⟨hl, e3⟩ := lim_some e1
  cases e2
  cases e3
  refine ⟨by rw [i.length]; exact hl, fun p hp => ?_⟩
  obtain ⟨E1, R1⟩ := R.laid (.lst vs) hp
  have ho : ∀ n, n < μ.length → ι n ≠ p := fun n hn z => by
    obtain ⟨o, e, _⟩ := R.muts n hn
    rw [z, hp] at e; cases e
  exact q ι _ E1 R1 _ (by unfold Is; exact ⟨p, vs, rfl, upd_same, ho, i.ext E1⟩)
theorem newB_ok {K : PySem.W.Frag} {ι : Nat → Addr} {μ μ' : Mh} {H : Hp} {ds : List D} {vs : List V} {d : D} {Q : VK} (R : RelH K ι μ H) (i : IsL K ι μ.length H ds vs) (e : newB ds μ = some (d, μ')) (q : Aft K ι μ H μ' fun ι' H' => ∀ v, Is K ι' μ'.length H' d v → Q v H') :
    vs.length ≤ sizeLine ∧ ∀ p, H p = none → Q (.ref p) (upd H p (.lst vs)) := by
  obtain ⟨u, μ1, e1, e2⟩ := bnd_some e
  clear e
  obtain ⟨hl, e3⟩ := lim_some e1
  cases e2
  cases e3
  refine ⟨by rw [i.length]; exact hl, fun p hp => ?_⟩
  obtain ⟨ι', E1, R1, e0⟩ := R.grown (m := .lst ds) hp ⟨vs, rfl, i⟩
  exact q ι' _ E1 R1 _ (by unfold Is; exact ⟨by simp, by rw [e0]⟩)
theorem tE_disp {K : PySem.W.Frag} {f : List D → M D} {m : Sl → M (List D)} {σ : St} {H : Hp} {Q : VK} {R : List V → Hp → Prop} (h : tE K (mDisp f m) σ H Q)
    (hf : ∀ ι μ μ' H ds vs d, RelH K ι μ H → IsL K ι μ.length H ds vs → f ds μ = some (d, μ') → (Aft K ι μ H μ' fun ι' H' => ∀ v, Is K ι' μ'.length H' d v → Q v H') → R vs H) : tL K m σ H R := by
  obtain ⟨ι, μ, τ, z, μ', S1, S, e, q⟩ := h
  obtain ⟨ds, μ1, e1, e⟩ := bnd_some e
  exact ⟨ι, μ, τ, ds, μ1, S1, S, e1, fun ι1 H1 E1 R1 vs iv => hf ι1 μ1 μ' H1 ds vs z R1 iv e fun ι2 H2 E2 R2 => q ι2 H2 (E1.trans E2) R2⟩
theorem re_tup {x1} {m : Sl → M (List D)} (h : RA X es m) : RE X (.Tuple es x1 pos) (mDisp newT m) := RE.wk (pe_tup h.pe) fun _ _ _ q => tE_disp q fun _ _ _ _ _ _ _ R i e q => newT_ok R i e q
theorem re_lst {m : Sl → M (List D)} (h : RA X es m) : RE X (.List es pos) (mDisp newL m) := RE.wk (pe_lst h.pe) fun _ _ _ q => tE_disp q fun _ _ _ _ _ _ _ R i e q => newL_ok R i e q
theorem re_lstB {m : Sl → M (List D)} (h : RA X es m) : RE X (.List es pos) (mDisp newB m) := RE.wk (pe_lst h.pe) fun _ _ _ q => tE_disp q fun _ _ _ _ _ _ _ R i e q => newB_ok R i e q
theorem re_callB {id : String} {x : Str} {g : List D → M D} {m : Sl → M (List D)} {p : Pos} (hc : CallR X (.builtin id) (rMA X.K g)) (hm : X.mg x = none) (hv : bootBuiltins x = some (.builtin id)) (ha : RA X (e :: es) m) (hg : Gl X x := by rfl) (hn : x ≠ "__name__" := by decide) (hdb : (x == ("__debug__" : Str)) = false := by decide)
    (he : starEach (e :: es) X.env = (false, eval e X.env) :: starEach es X.env := by exact star_cons rfl) (hpl : (backTo pos (starEach es X.env)).any (·.1) = false := by exact star_plain rfl) : RE X (.Call (.Name x p) (e :: es) [] pos) (mDisp g m) :=
  RE.wk (pe_callB hc hg hm hv ha.pe hn hdb he hpl) fun _ _ _ q => tE_disp q fun ι μ μ' H ds vs d R i e q => ⟨ι, μ, ds, d, μ', R, i, e, q⟩
theorem re_callTy {T : String} {x : Str} {g : List D → M D} {m : Sl → M (List D)} {p : Pos} (hc : CallR X (.type T) (rMA X.K g)) (hm : X.mg x = none) (hv : bootBuiltins x = some (.type T)) (ha : RA X (e :: es) m) (hg : Gl X x := by rfl) (hn : x ≠ "__name__" := by decide) (hdb : (x == ("__debug__" : Str)) = false := by decide)
    (he : starEach (e :: es) X.env = (false, eval e X.env) :: starEach es X.env := by exact star_cons rfl) (hpl : (backTo pos (starEach es X.env)).any (·.1) = false := by exact star_plain rfl) : RE X (.Call (.Name x p) (e :: es) [] pos) (mDisp g m) :=
  RE.wk (pe_callTy hc hg hm hv ha.pe hn hdb he hpl) fun _ _ _ q => tE_disp q fun ι μ μ' H ds vs d R i e q => ⟨ι, μ, ds, d, μ', R, i, e, q⟩
noncomputable def spM (K : PySem.W.Frag) (n : Nat) (φ : List D → M D) : Sp := fun vs H Q _ => vs.length = n ∧ rMA K φ vs H Q
theorem re_call {n k : Nat} {φ : List D → M D} {f : Addr} {fd : FuncData} {ps : List Str} {x : Str} {m : Sl → M (List D)} {p : Pos} (F : FnOk X.prog X.w X.K X.mg X.base CX0 k f fd ps (spM X.K n φ)) (hr : Room k X.A) (hm : X.mg x = some (.ref f)) (hk : PySem.W.keepIn X.K (.ref f) = true) (hb : Binds X.K fd ps [])
    (hφ : ∀ ds μ r, φ ds μ = some r → ds.length = n) (ha : RA X (e :: es) m) (hg : Gl X x := by rfl) (hdb : (x == ("__debug__" : Str)) = false := by decide) (he : starEach (e :: es) X.env = (false, eval e X.env) :: starEach es X.env := by exact star_cons rfl) (hpl : (backTo pos (starEach es X.env)).any (·.1) = false := by exact star_plain rfl) :
    RE X (.Call (.Name x p) (e :: es) [] pos) (mDisp φ m) :=
  RE.wk (pe_call F hr hg hm hk hb .nil pass0 ha.pe hdb he hpl) fun _ _ _ q => tE_disp q fun ι μ μ' H ds vs d R i e q => by
    rw [List.append_nil]
    exact ⟨by rw [i.length]; exact hφ ds μ _ e, ι, μ, ds, d, μ', R, i, e, q⟩
end
end Mi
namespace Mi
open PySem L2
section
variable {X : Cx} {e a b c tg iter : Expr} {es : List Expr} {pos : Pos} {st : Stmt} {rest body : List Stmt}
noncomputable def sNil : Sl → M (Fl × Sl) := fun τ => ret (.next, τ)
noncomputable def sSeq (m1 m2 : Sl → M (Fl × Sl)) : Sl → M (Fl × Sl) := fun τ => bnd (m1 τ) fun r => match r.1 with
  | .next => m2 r.2
  | f => ret (f, r.2)
theorem rss_nil : RSs X [] sNil := RSs.wk pss_nil fun Dn σ H h => by
  obtain ⟨ι, μ, τ, f, τ', μ', R, S, e, q⟩ := h
  cases e
  exact q ι H R.ext0 R σ S
theorem rss_cons {m1 m2 : Sl → M (Fl × Sl)} (h1 : RS X st m1) (h2 : RSs X rest m2) : RSs X (st :: rest) (sSeq m1 m2) := RSs.wk (pss_cons h1.pe h2.pe) fun Dn σ H h => by
  obtain ⟨ι, μ, τ, f, τ', μ', R, S, e, q⟩ := h
  obtain ⟨⟨f1, τ1⟩, μ1, e1, e⟩ := bnd_some e
  refine ⟨ι, μ, τ, f1, τ1, μ1, R, S, e1, fun ι1 H1 E1 R1 σ1 S1 => ?_⟩
  cases f1 with
  | next => exact ⟨ι1, μ1, τ1, f, τ', μ', R1, S1, e, fun ι2 H2 E2 R2 => q ι2 H2 (E1.trans E2) R2⟩
  | brk => cases e; exact q ι1 H1 E1 R1 σ1 S1
  | cont => cases e; exact q ι1 H1 E1 R1 σ1 S1
  | rt d => cases e; exact q ι1 H1 E1 R1 σ1 S1
theorem rss_one {m : Sl → M (Fl × Sl)} (h : RS X st m) : RSs X [st] m := ⟨pss_one h.pe⟩
noncomputable def sExpr (m : Sl → M D) : Sl → M (Fl × Sl) := fun τ => bnd (m τ) fun _ => ret (.next, τ)
theorem rs_expr {m : Sl → M D} (h : RE X e m) (hs : swapsWith e none pos.line X.env = pure false := by rfl) : RS X (.Expr e pos) (sExpr m) := RS.wk (ps_expr h.pe hs) fun Dn σ H h => by
  obtain ⟨ι, μ, τ, f, τ', μ', R, S, e, q⟩ := h
  obtain ⟨x, μ1, e1, e⟩ := bnd_some e
  cases e
  exact ⟨ι, μ, _, x, _, R, S, e1, fun ι1 H1 E1 R1 v i1 => q ι1 H1 E1 R1 σ (S.ext E1)⟩
noncomputable def sRet (m : Sl → M D) : Sl → M (Fl × Sl) := fun τ => bnd (m τ) fun d => ret (.rt d, τ)
theorem rs_ret {m : Sl → M D} (h : RE X e m) : RS X (.Return (some e) pos) (sRet m) := RS.wk (ps_ret h.pe) fun Dn σ H h => by
  obtain ⟨ι, μ, τ, f, τ', μ', R, S, e, q⟩ := h
  obtain ⟨x, μ1, e1, e⟩ := bnd_some e
  cases e
  exact ⟨ι, μ, _, x, _, R, S, e1, fun ι1 H1 E1 R1 v i1 => q ι1 H1 E1 R1 σ (S.ext E1) v i1⟩
noncomputable def sRetN : Sl → M (Fl × Sl) := fun τ => ret (.rt .non, τ)
noncomputable def sIf (mc : Sl → M Bool) (m1 m2 : Sl → M (Fl × Sl)) : Sl → M (Fl × Sl) := fun τ => bnd (mc τ) fun x => if x = true then m1 τ else m2 τ
theorem rs_if {mc : Sl → M Bool} {m1 m2 : Sl → M (Fl × Sl)} (hc : RT X c mc) (h1 : RSs X body m1) (h2 : RSs X rest m2) : RS X (.If c body rest pos) (sIf mc m1 m2) := RS.wk (ps_if hc.pe h1.pe h2.pe) fun Dn σ H h => by
  obtain ⟨ι, μ, τ, f, τ', μ', R, S, e, q⟩ := h
  obtain ⟨x, μ1, e1, e⟩ := bnd_some e
  refine ⟨ι, μ, τ, x, μ1, R, S, e1, fun ι1 H1 E1 R1 => ?_⟩
  cases x with
  | true => exact ⟨ι1, μ1, τ, f, τ', μ', R1, S.ext E1, e, fun ι2 H2 E2 R2 => q ι2 H2 (E1.trans E2) R2⟩
  | false => exact ⟨ι1, μ1, τ, f, τ', μ', R1, S.ext E1, e, fun ι2 H2 E2 R2 => q ι2 H2 (E1.trans E2) R2⟩
noncomputable def sNever : Sl → M (Fl × Sl) := fun _ => fail
theorem rs_never : RS X st sNever := RS.wk ps_never fun Dn σ H h => by
  obtain ⟨ι, μ, τ, f, τ', μ', R, S, e, q⟩ := h
  cases e
noncomputable def tG (K : PySem.W.Frag) (bf : D → Sl → M Sl) : TG := fun v σ H Q => ∃ ι μ τ d τ' μ', RelH K ι μ H ∧ RelS K ι μ.length H τ σ ∧ Is K ι μ.length H d v ∧ bf d τ μ = some (τ', μ') ∧
  Aft K ι μ H μ' fun ι' H' => ∀ σ', RelS K ι' μ'.length H' τ' σ' → Q σ' H'
structure RG (X : Cx) (tg : Expr) (bf : D → Sl → M Sl) : Prop where
  pe : PG X tg (tG X.K bf)
theorem PG.wk {t t' : TG} (h : PG X tg t) (w : ∀ v σ H Q, t' v σ H Q → t v σ H Q) : PG X tg t' := fun pins s σ H v u Q I r q => h pins s σ H v u Q I r (w v σ H Q q)
theorem RG.wk {bf : D → Sl → M Sl} {t : TG} (h : PG X tg t) (w : ∀ v σ H Q, tG X.K bf v σ H Q → t v σ H Q) : RG X tg bf := ⟨PG.wk h w⟩
noncomputable def bName (i : Nat) : D → Sl → M Sl := fun d τ => ret (τ.set i (some d))
theorem tG_name {K : PySem.W.Frag} {i : Nat} {v : V} {σ : St} {H : Hp} {Q : St → Hp → Prop} (h : tG K (bName i) v σ H Q) : gName i v σ H Q := by
  obtain ⟨ι, μ, τ, d, τ', μ', R, S, i1, e, q⟩ := h
  cases e
  exact q ι H R.ext0 R _ (S.set i i1)
theorem rg_name (i : Nat) {x : Str} (hN : X.N.Nodup) (hi : X.N[i]? = some x := by rfl) (hx : Loc X.env.scope x := by first | exact Or.inl rfl | exact Or.inr rfl) (hf : X.fn x = true ∨ X.env.scope.names.lookup x = some .local := by first | exact .inl rfl | exact .inr rfl | assumption) : RG X (.Name x pos) (bName i) :=
  RG.wk (pg_name hN hi hx hf) fun _ _ _ _ h => tG_name h
noncomputable def bNames : List Nat → List D → Sl → M Sl
  | [], [], τ => ret τ
  | i :: is, d :: ds, τ => bnd (bName i d τ) fun τ1 => bNames is ds τ1
  | _, _, _ => fail
noncomputable def bTup (is : List Nat) : D → Sl → M Sl
  | .tup ds, τ => if ds.length = is.length then bNames is ds τ else fail
  | _, _ => fail
noncomputable def gNames : List Nat → TGs
  | [] => gNil
  | i :: is => gCons (gName i) (gNames is)
theorem gNames_of {K : PySem.W.Frag} : ∀ {is : List Nat} {ds : List D} {vs : List V} {τ τ' : Sl} {σ : St} {ι : Nat → Addr} {μ μ' : Mh} {H : Hp} {Q : St → Hp → Prop}, RelH K ι μ H → RelS K ι μ.length H τ σ → IsL K ι μ.length H ds vs → bNames is ds τ μ = some (τ', μ') →
    (μ' = μ → ∀ σ', RelS K ι μ.length H τ' σ' → Q σ' H) → gNames is vs σ H Q
  | [], [], _, _, _, _, _, _, _, _, _, R, S, i, e, q => by
    cases e
    unfold IsL at i; subst i
    exact ⟨rfl, q rfl _ S⟩
  | _ :: is, _ :: ds, _, τ, τ', σ, ι, μ, μ', H, Q, R, S, i, e, q => by
    unfold IsL at i
    obtain ⟨v, vs', rfl, i1, i2⟩ := i
    exact ⟨v, vs', rfl, gNames_of (is := is) (ds := ds) R (S.set _ i1) i2 e q⟩
  | [], _ :: _, _, _, _, _, _, _, _, _, _, _, _, _, e, _ => by cases e
  | _ :: _, [], _, _, _, _, _, _, _, _, _, _, _, _, e, _ => by cases e
theorem rg_tup {is : List Nat} {k : Nat} (hc : X.calm = true) (h : PGs X es (gNames is)) (hn : (assignEach es X.env).length = is.length := by rfl) (hst : (assignEach es X.env).findIdx? (·.1) = none := by rfl) : RG X (.Tuple es k pos) (bTup is) :=
  RG.wk (pg_tup hc h hn hst) fun v σ H Q h => by
    obtain ⟨ι, μ, τ, d, τ', μ', R, S, i1, e, q⟩ := h
    cases d with
    | tup ds =>
      unfold Is at i1
      obtain ⟨p, vs, rfl, h1, h2⟩ := i1
      have e' : (if ds.length = is.length then bNames is ds τ else fail) μ = some (τ', μ') := e
      by_cases hl : ds.length = is.length
      · rw [if_pos hl] at e'
        have e := e'
        refine ⟨p, vs, rfl, h1, by rw [h2.length, hl], gNames_of R S h2 e fun z σ' S' => ?_⟩
        subst z
        exact q ι H R.ext0 R σ' S'
      · rw [if_neg hl] at e'; cases e'
    | _ => cases e
noncomputable def sAsg (m : Sl → M D) (bf : D → Sl → M Sl) : Sl → M (Fl × Sl) := fun τ => bnd (m τ) fun d => bnd (bf d τ) fun τ' => ret (.next, τ')
theorem tSt_asg {K : PySem.W.Frag} {m : Sl → M D} {bf : D → Sl → M Sl} {g : TG} {Dn : Ends} {σ : St} {H : Hp} (hg : ∀ v H Q, tG K bf v σ H Q → g v σ H Q) (h : tSt K (sAsg m bf) Dn σ H) : tAsg (tE K m) g Dn σ H := by
  obtain ⟨ι, μ, τ, f, τ', μ', R, S, e, q⟩ := h
  obtain ⟨x, μ1, e1, e⟩ := bnd_some e
  obtain ⟨τ1, μ2, e2, e⟩ := bnd_some e
  cases e
  exact ⟨ι, μ, τ, x, μ1, R, S, e1, fun ι1 H1 E1 R1 v i1 => hg _ _ _ ⟨ι1, μ1, τ, x, _, _, R1, S.ext E1, i1, e2, fun ι2 H2 E2 R2 σ' S' => q ι2 H2 (E1.trans E2) R2 σ' S'⟩⟩
theorem rs_set (i : Nat) {x : Str} {m : Sl → M D} {pos' : Pos} (hN : X.N.Nodup) (he : RE X e m) (hi : X.N[i]? = some x := by rfl) (hx : Loc X.env.scope x := by first | exact Or.inl rfl | exact Or.inr rfl) (hs : swapsWith e (some (.Name x pos')) pos.line X.env = pure false := by rfl) (hf : X.fn x = true ∨ X.env.scope.names.lookup x = some .local := by first | exact .inl rfl | exact .inr rfl | assumption) :
    RS X (.Assign [.Name x pos'] e pos) (sAsg m (bName i)) := RS.wk (ps_set hN hi hx he.pe hs hf) fun _ _ _ h => tSt_asg (fun _ _ _ q => tG_name q) h
noncomputable def whGo (mc : Sl → M Bool) (mb : Sl → M (Fl × Sl)) : Nat → Sl → M (Fl × Sl)
  | 0, _ => fail
  | n + 1, τ => bnd (mc τ) fun x => if x = true then bnd (mb τ) fun r => match r.1 with
      | .next => whGo mc mb n r.2
      | .cont => whGo mc mb n r.2
      | .brk => ret (.next, r.2)
      | .rt d => ret (.rt d, r.2)
    else ret (.next, τ)
noncomputable def sWhile (n : Nat) (mc : Sl → M Bool) (mb : Sl → M (Fl × Sl)) : Sl → M (Fl × Sl) := whGo mc mb n
theorem rs_while (n : Nat) {mc : Sl → M Bool} {mb : Sl → M (Fl × Sl)} (hp : PassesOwn (model X.prog X.w) X.A X.env X.xe) (hc : RT X c mc) (hb : RSs X body mb) : RS X (.While c body [] pos) (sWhile n mc mb) := RS.wk (ps_while hp hc.pe hb.pe) fun Dn σ H h => by
  refine ⟨fun n σ H => tSt X.K (whGo mc mb n) Dn σ H, ⟨n, h⟩, ?_⟩
  intro n σ H h
  obtain ⟨ι, μ, τ, f, τ', μ', R, S, e, q⟩ := h
  cases n with
  | zero => cases e
  | succ n =>
    obtain ⟨x, μ1, e1, e⟩ := bnd_some e
    refine ⟨ι, μ, τ, x, μ1, R, S, e1, fun ι1 H1 E1 R1 => ?_⟩
    cases x with
    | false => cases e; exact q ι1 H1 E1 R1 σ (S.ext E1)
    | true =>
      obtain ⟨⟨f2, τ2⟩, μ2, e2, e⟩ := bnd_some e
      refine ⟨fun σ' H' => tSt X.K (whGo mc mb n) Dn σ' H', fun σ' H' z => ⟨n, Nat.lt_succ_self n, z⟩, ?_⟩
      refine ⟨ι1, μ1, τ, f2, τ2, μ2, R1, S.ext E1, e2, fun ι2 H2 E2 R2 σ2 S2 => ?_⟩
      have E12 := E1.trans E2
      cases f2 with
      | next => exact ⟨ι2, μ2, τ2, f, τ', μ', R2, S2, e, fun ι3 H3 E3 R3 => q ι3 H3 (E12.trans E3) R3⟩
      | cont => exact ⟨ι2, μ2, τ2, f, τ', μ', R2, S2, e, fun ι3 H3 E3 R3 => q ι3 H3 (E12.trans E3) R3⟩
      | brk => cases e; exact q ι2 H2 E12 R2 σ2 S2
      | rt d => cases e; exact q ι2 H2 E12 R2 σ2 S2
noncomputable def ItM (K : PySem.W.Frag) (J : It) (ds : List D) (ι : Nat → Addr) (μ : Mh) (H : Hp) : Prop := ∀ ι' (μ' : Mh) H', Ext ι μ.length H ι' μ'.length H' → RelH K ι' μ' H' →
  (∀ i, i < ds.length → J.go i H') ∧ J.stop ds.length H' ∧ ∀ (i : Nat) x H2 d, ds[i]? = some d → J.yld i H' x H2 → Ext ι' μ'.length H' ι' μ'.length H2 ∧ RelH K ι' μ' H2 ∧ Is K ι' μ'.length H2 d x
theorem ItM.ext {K : PySem.W.Frag} {J : It} {ds : List D} {ι ι' : Nat → Addr} {μ μ' : Mh} {H H' : Hp} (h : ItM K J ds ι μ H) (E : Ext ι μ.length H ι' μ'.length H') : ItM K J ds ι' μ' H' := fun ι2 μ2 H2 E2 R2 => h ι2 μ2 H2 (E.trans E2) R2
noncomputable def tI (K : PySem.W.Frag) (m : Sl → M (List D)) : TI := fun σ H R => ∃ ι μ τ ds μ', RelH K ι μ H ∧ RelS K ι μ.length H τ σ ∧ m τ μ = some (ds, μ') ∧
  Aft K ι μ H μ' fun ι' H' => ∀ J, ItM K J ds ι' μ' H' → R J H'
structure RI (X : Cx) (tg iter : Expr) (m : Sl → M (List D)) : Prop where
  pe : PI X tg iter (tI X.K m)
theorem PI.wk {t t' : TI} (h : PI X tg iter t) (w : ∀ σ H R, t' σ H R → t σ H R) : PI X tg iter t' := fun pins s σ H R I q => h pins s σ H R I (w σ H R q)
theorem RI.wk {m : Sl → M (List D)} {t : TI} (h : PI X tg iter t) (w : ∀ σ H R, tI X.K m σ H R → t σ H R) : RI X tg iter m := ⟨PI.wk h w⟩
theorem PI.or {t t' : TI} (h : PI X tg iter t) (h' : PI X tg iter t') : PI X tg iter (fun σ H R => t σ H R ∨ t' σ H R) := fun pins s σ H R I q => q.elim (h pins s σ H R I) (h' pins s σ H R I)
noncomputable def asSeq : D → M (List D)
  | .lst ds => ret ds
  | .tup ds => ret ds
  | .scr ns => ret (ns.map D.int)
  | _ => fail
noncomputable def mSrc (m : Sl → M D) : Sl → M (List D) := fun τ => bnd (m τ) asSeq
theorem itm_list {K : PySem.W.Frag} {ι : Nat → Addr} {μ : Mh} {H : Hp} {p : Addr} {vs : List V} {ds : List D} (st : ∀ ι' (μ' : Mh) H', Ext ι μ.length H ι' μ'.length H' → RelH K ι' μ' H' → SqL K H' p vs) (i : IsL K ι μ.length H ds vs) : ItM K (Itl K p) ds ι μ H := by
  intro ι' μ' H' E R
  have h := st ι' μ' H' E R
  have hl := i.length
  refine ⟨fun j hj => ⟨vs, vs[j], h, by simp⟩, ⟨vs, h, by omega⟩, fun j x H2 d hd y => ?_⟩
  obtain ⟨e, y⟩ := y
  subst e
  obtain ⟨v, ev, iv⟩ := (i.ext E).get hd
  have := y vs h
  rw [ev] at this; cases this
  exact ⟨R.ext0, R, iv⟩
theorem itm_tup {K : PySem.W.Frag} {ι : Nat → Addr} {μ : Mh} {H : Hp} {p : Addr} {vs : List V} {ds : List D} (h : SqT K H p vs) (i : IsL K ι μ.length H ds vs) : ItM K (Itt K p) ds ι μ H := by
  intro ι' μ' H' E R
  have h := sqT_ext E h
  have hl := i.length
  refine ⟨fun j hj => ⟨vs, vs[j], h, by simp⟩, ⟨vs, h, by omega⟩, fun j x H2 d hd y => ?_⟩
  obtain ⟨e, y⟩ := y
  subst e
  obtain ⟨v, ev, iv⟩ := (i.ext E).get hd
  have := y vs h
  rw [ev] at this; cases this
  exact ⟨R.ext0, R, iv⟩
theorem ri_seqT {m : Sl → M D} {σ : St} {H : Hp} {R : It → Hp → Prop} {K : PySem.W.Frag} (q : tI K (mSrc m) σ H R) : iList K (tE K m) σ H R ∨ iTup K (tE K m) σ H R := by
  obtain ⟨ι, μ, τ, ds, μ', R0, S, e, q⟩ := q
  obtain ⟨x, μ1, e1, e⟩ := bnd_some e
  cases x with
  | lst es =>
    cases e
    refine .inl ⟨ι, μ, τ, _, _, R0, S, e1, fun ι1 H1 E1 R1 v i1 => ?_⟩
    unfold Is at i1
    obtain ⟨p, vs, rfl, h1, hn, h2⟩ := i1
    exact ⟨p, rfl, ⟨vs, SqL.of h1⟩, q ι1 H1 E1 R1 _ (itm_list (fun ι' μ' H' E _ => SqL.of (E.keep p _ h1 hn)) h2)⟩
  | tup es =>
    cases e
    refine .inr ⟨ι, μ, τ, _, _, R0, S, e1, fun ι1 H1 E1 R1 v i1 => ?_⟩
    unfold Is at i1
    obtain ⟨p, vs, rfl, h1, h2⟩ := i1
    exact ⟨p, rfl, ⟨vs, h1⟩, q ι1 H1 E1 R1 _ (itm_tup h1 h2)⟩
  | scr ns =>
    cases e
    refine .inl ⟨ι, μ, τ, _, _, R0, S, e1, fun ι1 H1 E1 R1 v i1 => ?_⟩
    unfold Is at i1
    obtain ⟨p, rfl, h1⟩ := i1
    exact ⟨p, rfl, ⟨_, h1.sq⟩, q ι1 H1 E1 R1 _ (itm_list (fun ι' μ' H' E _ => (scr_ext E h1).sq) (IsL.ofInts ns))⟩
  | non => cases e
  | bl _ => cases e
  | int _ => cases e
  | str _ => cases e
  | ty _ => cases e
  | ref _ => cases e
theorem ri_seq {m : Sl → M D} (h : RE X e m) : RI X tg e (mSrc m) := RI.wk (PI.or (pi_list h.pe) (pi_tup h.pe)) fun _ _ _ q => ri_seqT q
noncomputable def rngD (lo hi : Int) : List D := (List.range (hi - lo).toNat).map fun (j : Nat) => D.int (lo + (j : Int))
noncomputable def rng1F : List D → M (List D)
  | [.int j] => fun μ => if -(2 ^ 62) ≤ j ∧ j < 2 ^ 62 then some (rngD 0 j, μ) else none
  | _ => fail
noncomputable def rng2F : List D → M (List D)
  | [.int i, .int j] => fun μ => if -(2 ^ 62) ≤ i ∧ i < 2 ^ 62 ∧ -(2 ^ 62) ≤ j ∧ j < 2 ^ 62 then some (rngD i j, μ) else none
  | _ => fail
noncomputable def mRng1 (m : Sl → M (List D)) : Sl → M (List D) := fun τ => bnd (m τ) rng1F
noncomputable def mRng2 (m : Sl → M (List D)) : Sl → M (List D) := fun τ => bnd (m τ) rng2F
theorem itm_rng {K : PySem.W.Frag} {ι : Nat → Addr} {μ : Mh} {H : Hp} {lo hi : Int} : ItM K (Itr lo (hi - lo).toNat) (rngD lo hi) ι μ H := by
  intro ι' μ' H' E R
  have hl : (rngD lo hi).length = (hi - lo).toNat := by simp [rngD]
  rw [hl]
  refine ⟨fun j hj => hj, Nat.le_refl _, fun j x H2 d hd y => ?_⟩
  obtain ⟨e, y⟩ := y
  subst e
  unfold rngD at hd
  rw [List.getElem?_map] at hd
  cases q : (List.range (hi - lo).toNat)[j]? with
  | none => rw [q] at hd; cases hd
  | some z =>
    rw [q] at hd
    have hz : z = j := by
      have := (List.getElem?_eq_some_iff.mp q).2
      simpa using this.symm
    subst hz
    cases hd
    exact ⟨R.ext0, R, by unfold Is; exact y⟩
theorem ri_range1 {a : Expr} {m : Sl → M (List D)} {p : Pos} (hm : X.mg "range" = none) (ha : RA X [a] m) (hg : Gl X "range" := by rfl) (hs : starEach [a] X.env = [(false, eval a X.env)] := by rfl) : RI X tg (.Call (.Name "range" p) [a] [] pos) (mRng1 m) :=
  RI.wk (pi_range1 hg hm ha.pe hs) fun σ H R q => by
    obtain ⟨ι, μ, τ, ds, μ', R0, S, e, q⟩ := q
    obtain ⟨xs, μ1, e1, e⟩ := bnd_some e
    refine ⟨ι, μ, τ, xs, μ1, R0, S, e1, fun ι1 H1 E1 R1 vs i1 => ?_⟩
    unfold rng1F at e
    split at e
    · rename_i j
      split at e
      · rename_i hb
        cases e
        unfold IsL Is at i1
        obtain ⟨v, vs', rfl, rfl, i2⟩ := i1
        unfold IsL at i2
        subst i2
        refine ⟨j, rfl, hb.1, hb.2, q ι1 H1 E1 R1 _ ?_⟩
        have := itm_rng (K := X.K) (ι := ι1) (μ := μ') (H := H1) (lo := 0) (hi := j)
        rw [Int.sub_zero] at this
        exact this
      · cases e
    · cases e
theorem ri_range2 {a b : Expr} {m : Sl → M (List D)} {p : Pos} (hm : X.mg "range" = none) (ha : RA X [a, b] m) (hg : Gl X "range" := by rfl) (hs : starEach [a, b] X.env = [(false, eval a X.env), (false, eval b X.env)] := by rfl) (hs2 : starEach [b] X.env = [(false, eval b X.env)] := by rfl) : RI X tg (.Call (.Name "range" p) [a, b] [] pos) (mRng2 m) :=
  RI.wk (pi_range2 hg hm ha.pe hs hs2) fun σ H R q => by
    obtain ⟨ι, μ, τ, ds, μ', R0, S, e, q⟩ := q
    obtain ⟨xs, μ1, e1, e⟩ := bnd_some e
    refine ⟨ι, μ, τ, xs, μ1, R0, S, e1, fun ι1 H1 E1 R1 vs i1 => ?_⟩
    unfold rng2F at e
    split at e
    · rename_i i j
      split at e
      · rename_i hb
        cases e
        unfold IsL Is at i1
        obtain ⟨v, vs', rfl, rfl, i2⟩ := i1
        unfold IsL Is at i2
        obtain ⟨v, vs', rfl, rfl, i2⟩ := i2
        unfold IsL at i2
        subst i2
        exact ⟨i, j, rfl, hb, q ι1 H1 E1 R1 _ itm_rng⟩
      · cases e
    · cases e
noncomputable def forGo (bf : D → Sl → M Sl) (mb : Sl → M (Fl × Sl)) : List D → Sl → M (Fl × Sl)
  | [], τ => ret (.next, τ)
  | x :: xs, τ => bnd (bf x τ) fun τ1 => bnd (mb τ1) fun r => match r.1 with
    | .next => forGo bf mb xs r.2
    | .cont => forGo bf mb xs r.2
    | .brk => ret (.next, r.2)
    | .rt d => ret (.rt d, r.2)
noncomputable def sFor (src : Sl → M (List D)) (bf : D → Sl → M Sl) (mb : Sl → M (Fl × Sl)) : Sl → M (Fl × Sl) := fun τ => bnd (src τ) fun ds => forGo bf mb ds τ
theorem rs_for {src : Sl → M (List D)} {bf : D → Sl → M Sl} {mb : Sl → M (Fl × Sl)} (hp : PassesOwn (model X.prog X.w) X.A X.env X.xe) (hc : X.calm = true) (hi : RI X tg iter src) (hg : RG X tg bf) (hb : RSs X body mb)
    (hs : ∀ x, foldedSetIterable iter X.env x = pure x := by intro _; rfl) : RS X (.For tg iter body [] pos) (sFor src bf mb) := RS.wk (ps_for hp hc hi.pe hg.pe hb.pe hs) fun Dn σ H h => by
  obtain ⟨ι, μ, τ, f, τ', μ', R, S, e, q⟩ := h
  obtain ⟨ds, μ1, e1, e⟩ := bnd_some e
  refine ⟨ι, μ, τ, ds, μ1, R, S, e1, fun ι1 H1 E1 R1 J it => ?_⟩
  let W : Nat → Nat → St → Hp → Prop := fun i m σ H => m = ds.length - i ∧ i ≤ ds.length ∧ ∃ ι μ τ f τ' μ', RelH X.K ι μ H ∧ RelS X.K ι μ.length H τ σ ∧ ItM X.K J ds ι μ H ∧ forGo bf mb (ds.drop i) τ μ = some ((f, τ'), μ') ∧
    Aft X.K ι μ H μ' fun ι' H' => ∀ σ', RelS X.K ι' μ'.length H' τ' σ' → FlP X.K Dn ι' μ'.length H' τ' σ' f
  refine ⟨W, ⟨ds.length, by simp, Nat.zero_le _, ι1, μ1, τ, f, τ', μ', R1, S.ext E1, it, e, fun ι2 H2 E2 R2 => q ι2 H2 (E1.trans E2) R2⟩, ?_⟩
  rintro i m σ H ⟨hm, hil, ι, μ, τ, f, τ', μ', R, S, it, e, q⟩
  obtain ⟨go, stop, yl⟩ := it ι μ H R.ext0 R
  by_cases hlt : i < ds.length
  · refine .inr ⟨go i hlt, fun σ' H' => W (i + 1) (ds.length - (i + 1)) σ' H', fun σ' H' z => ⟨_, by omega, z⟩, fun x H2 y => ?_⟩
    have hd : ds[i]? = some ds[i] := by simp [hlt]
    obtain ⟨E2, R2, ix⟩ := yl i x H2 _ hd y
    rw [List.drop_eq_getElem_cons hlt] at e
    obtain ⟨τ1, μ1, e1, e⟩ := bnd_some e
    obtain ⟨⟨f2, τ2⟩, μ2, e2, e⟩ := bnd_some e
    refine ⟨ι, μ, τ, _, τ1, μ1, R2, S.ext E2, ix, e1, fun ι3 H3 E3 R3 σ3 S3 => ?_⟩
    refine ⟨ι3, μ1, τ1, f2, τ2, μ2, R3, S3, e2, fun ι4 H4 E4 R4 σ4 S4 => ?_⟩
    have E14 := (E2.trans E3).trans E4
    cases f2 with
    | next => exact ⟨rfl, hlt, ι4, μ2, τ2, f, τ', μ', R4, S4, it.ext E14, e, fun ι5 H5 E5 R5 => q ι5 H5 (E14.trans E5) R5⟩
    | cont => exact ⟨rfl, hlt, ι4, μ2, τ2, f, τ', μ', R4, S4, it.ext E14, e, fun ι5 H5 E5 R5 => q ι5 H5 (E14.trans E5) R5⟩
    | brk => cases e; exact q ι4 H4 E14 R4 σ4 S4
    | rt d => cases e; exact q ι4 H4 E14 R4 σ4 S4
  · have hi' : i = ds.length := by omega
    subst hi'
    rw [List.drop_length] at e
    cases e
    exact .inl ⟨stop, q ι H R.ext0 R σ S⟩
end
end Mi
namespace Mi
open PySem L2
section
variable {X : Cx} {scope : Scope} {tgs : List Str} {ix : List Nat} {elt tg iter : Expr} {pos : Pos}
noncomputable def pickL (ix : List Nat) (τ : Sl) : Sl := ix.map fun j => (τ[j]?).getD none
noncomputable def startBl (n : Nat) (ix : List Nat) (τ : Sl) : Sl := List.replicate n none ++ pickL ix τ
noncomputable def compGo (bf : D → Sl → M Sl) (mc : Sl → M Bool) (me : Sl → M D) (τ0 : Sl) : List D → List D → M (List D)
  | [], ys => ret ys
  | x :: xs, ys => bnd (bf x τ0) fun τ1 => bnd (mc τ1) fun c => if c = true then bnd (me τ1) fun y => compGo bf mc me τ0 xs (ys ++ [y]) else compGo bf mc me τ0 xs ys
noncomputable def mComp (n : Nat) (ix : List Nat) (src : Sl → M (List D)) (bf : D → Sl → M Sl) (mc : Sl → M Bool) (me : Sl → M D) (fin : List D → M D) : Sl → M D := fun τ => bnd (src τ) fun ds => bnd (lim ds.length) fun _ => bnd (compGo bf mc me (startBl n ix τ) ds []) fin
noncomputable def mTrue : Sl → M Bool := fun _ => ret true
theorem RelS.block {K : PySem.W.Frag} {ι : Nat → Addr} {k : Nat} {H : Hp} {τ : Sl} {σ : St} (S : RelS K ι k H τ σ) : RelS K ι k H (startBl tgs.length ix τ) (startB tgs ix σ) := by
  refine ⟨by simp [startBl, startB, pickL, pickS], fun i d e => ?_⟩
  unfold startBl at e
  have hk : tgs.length ≤ i := by
    rcases Nat.lt_or_ge i tgs.length with z | z
    · rw [List.getElem?_append_left (by simpa using z), List.getElem?_replicate, if_pos z] at e
      cases e
    · exact z
  rw [List.getElem?_append_right (by simpa using hk), List.length_replicate] at e
  unfold pickL at e
  rw [List.getElem?_map] at e
  cases q : ix[i - tgs.length]? with
  | none => rw [q] at e; cases e
  | some j =>
    rw [q] at e
    have e' : (τ[j]?).getD none = some d := Option.some.inj e
    cases q2 : τ[j]? with
    | none => rw [q2] at e'; cases e'
    | some o =>
      rw [q2] at e'
      have e'' : o = some d := e'
      subst e''
      obtain ⟨v, ev, iv⟩ := S.get j d q2
      refine ⟨v, ?_, iv⟩
      unfold startB
      rw [List.getElem?_append_right (by simpa using hk), List.length_replicate]
      unfold pickS
      rw [List.getElem?_map, q, Option.map_some, ev]
      rfl
theorem tE_comp {K : PySem.W.Frag} {n : Nat} {src : Sl → M (List D)} {i : Nat} {mc : Sl → M Bool} {me : Sl → M D} {fin : List D → M D} {σ : St} {H : Hp} {Q : VK} (hn : tgs.length = n) (hf : ∀ ι μ μ' H ds vs d (Q : VK), RelH K ι μ H → IsL K ι μ.length H ds vs → fin ds μ = some (d, μ') → (Aft K ι μ H μ' fun ι' H' => ∀ v, Is K ι' μ'.length H' d v → Q v H') →
      vs.length ≤ sizeLine ∧ ∀ p, H p = none → Q (.ref p) (upd H p (.lst vs)))
    (h : tE K (mComp n ix src (bName i) mc me fin) σ H Q) : tComp tgs ix (tI K src) (gName i) (tT K mc) (tE K me) σ H Q := by
  subst hn
  obtain ⟨ι, μ, τ, d, μ', R, S, e, q⟩ := h
  obtain ⟨ds, μ1, e1, e5⟩ := bnd_some e
  obtain ⟨u, μ2, e2, e6⟩ := bnd_some e5
  obtain ⟨zs, μ3, e3, e7⟩ := bnd_some e6
  obtain ⟨hl, e4⟩ := lim_some e2
  clear e e5 e6
  subst e4
  refine ⟨ι, μ, τ, ds, _, R, S, e1, fun ι1 H1 E1 R1 J it => ?_⟩
  refine ⟨fun i' m ys H => m = ds.length - i' ∧ i' ≤ ds.length ∧ ys.length ≤ i' ∧ ∃ (ι : Nat → Addr) (μ : Mh) (as : List D), RelH K ι μ H ∧ RelS K ι μ.length H τ σ ∧ ItM K J ds ι μ H ∧ IsL K ι μ.length H as ys ∧ compGo (bName i) mc me (startBl tgs.length ix τ) (ds.drop i') as μ = some (zs, μ3) ∧
    Aft K ι μ H μ' fun ι' H' => ∀ v, Is K ι' μ'.length H' d v → Q v H', ⟨ds.length, by simp, Nat.zero_le _, Nat.le_refl _, ι1, _, [], R1, S.ext E1, it, .nil, e3, fun ι2 H2 E2 R2 => q ι2 H2 (E1.trans E2) R2⟩, ?_⟩
  rintro i' m ys H ⟨hm, hil, hyl, ι, μ, as, R, S, it, ia, e3, q⟩
  obtain ⟨go, stop, yl⟩ := it ι μ H R.ext0 R
  by_cases hlt : i' < ds.length
  · refine .inr ⟨go i' hlt, by omega, fun ys' H' => ys'.length ≤ i' + 1 ∧ ∃ (ι : Nat → Addr) (μ : Mh) (as : List D), RelH K ι μ H' ∧ RelS K ι μ.length H' τ σ ∧ ItM K J ds ι μ H' ∧ IsL K ι μ.length H' as ys' ∧ compGo (bName i) mc me (startBl tgs.length ix τ) (ds.drop (i' + 1)) as μ = some (zs, μ3) ∧
      Aft K ι μ H' μ' fun ι' H' => ∀ v, Is K ι' μ'.length H' d v → Q v H', fun ys' H' z => ⟨_, (by omega : ds.length - (i' + 1) < m), rfl, hlt, z⟩, fun x H2 y => ?_⟩
    have hd : ds[i']? = some ds[i'] := by simp [hlt]
    obtain ⟨E2, R2, ix2⟩ := yl i' x H2 _ hd y
    rw [List.drop_eq_getElem_cons hlt] at e3
    obtain ⟨τ1, μ1, e1, e3⟩ := bnd_some e3
    cases e1
    obtain ⟨cc, μ2, e2, e3⟩ := bnd_some e3
    have S2 := (S.ext E2).block (tgs := tgs) (ix := ix)
    show tT K mc _ H2 _
    refine ⟨ι, _, _, cc, μ2, R2, S2.set i ix2, e2, fun ι3 H3 E3 R3 => ?_⟩
    have E13 := E2.trans E3
    cases cc with
    | false =>
      exact ⟨by omega, ι3, μ2, as, R3, S.ext E13, it.ext E13, ia.ext E13, e3, fun ι5 H5 E5 R5 => q ι5 H5 (E13.trans E5) R5⟩
    | true =>
      obtain ⟨y', μ4, e4, e3⟩ := bnd_some e3
      refine ⟨ι3, μ2, _, y', μ4, R3, (S2.set i ix2).ext E3, e4, fun ι4 H4 E4 R4 v iv => ?_⟩
      have E14 := E13.trans E4
      exact ⟨by simp; omega, ι4, μ4, as ++ [y'], R4, S.ext E14, it.ext E14, (ia.ext E14).append (.one iv), e3, fun ι5 H5 E5 R5 => q ι5 H5 (E14.trans E5) R5⟩
  · have hi' : i' = ds.length := by omega
    subst hi'
    rw [List.drop_length] at e3
    cases e3
    obtain ⟨z1, z2⟩ := hf ι _ μ' H _ ys d Q R ia e7 q
    exact .inl ⟨stop, z1, z2⟩
theorem re_comp {n : Nat} {ifs : List Expr} {src : Sl → M (List D)} {i : Nat} {mc : Sl → M Bool} {me : Sl → M D} (S : BScope X scope tgs ix) (hc : X.calm = true) (hi : RI X tg iter src) (hg : ∀ fp C s H, PG (cxB X scope tgs fp C s H) tg (gName i)) (hif : ∀ fp C s H, PIfs (cxB X scope tgs fp C s H) ifs (tT X.K mc)) (he : ∀ fp C s H, RE (cxB X scope tgs fp C s H) elt me)
    (hin : i < tgs.length := by decide) (hn : tgs.length = n := by rfl) (hs : ∀ x, foldedSetIterable iter X.env x = pure x := by intro _; rfl) (ht : ∀ o v, letOwnedTupleGo tg o v = pure () := by intro _ _; rfl) : RE X (.ListComp elt [⟨tg, iter, ifs, 0⟩] scope pos) (mComp n ix src (bName i) mc me newL) :=
  RE.wk (pe_comp (te := tE X.K me) S hc hi.pe hg (gk_name hin) hif (fun fp C s H => (he fp C s H).pe) hs ht) fun _ _ _ h => tE_comp hn (fun _ _ _ _ _ _ _ _ R i e q => newL_ok R i e q) h
theorem rifs_nil {K : PySem.W.Frag} : PIfs X [] (tT K mTrue) := fun pins s σ H Q I h => by
  obtain ⟨ι, μ, τ, b, μ', R, S, e, q⟩ := h
  cases e
  exact pifs_nil pins s σ H Q I (q ι H R.ext0 R)
theorem rifs_one {c : Expr} {mc : Sl → M Bool} (h : RT X c mc) : PIfs X [c] (tT X.K mc) := pifs_one h.pe
theorem rs_setComp (k : Nat) {n : Nat} {y : Str} {py spos : Pos} {ifs : List Expr} {src : Sl → M (List D)} {i : Nat} {mc : Sl → M Bool} {me : Sl → M D} {fin : List D → M D} (hN : X.N.Nodup) (S : BScope X scope tgs ix) (hc : X.calm = true) (hi : RI X tg iter src) (hg : ∀ fp C s H, PG (cxB X scope tgs fp C s H) tg (gName i)) (hif : ∀ fp C s H, PIfs (cxB X scope tgs fp C s H) ifs (tT X.K mc)) (he : ∀ fp C s H, RE (cxB X scope tgs fp C s H) elt me)
    (hfin : ∀ ι μ μ' H ds vs d (Q : VK), RelH X.K ι μ H → IsL X.K ι μ.length H ds vs → fin ds μ = some (d, μ') → (Aft X.K ι μ H μ' fun ι' H' => ∀ v, Is X.K ι' μ'.length H' d v → Q v H') → vs.length ≤ sizeLine ∧ ∀ p, H p = none → Q (.ref p) (upd H p (.lst vs)))
    (hiN : X.N[k]? = some y := by rfl) (hy : X.env.scope.names.lookup y = some .local := by rfl) (hin : i < tgs.length := by decide) (hn : tgs.length = n := by rfl)
    (hsw : swapsWith (.ListComp elt [⟨tg, iter, ifs, 0⟩] scope pos) (some (.Name y py)) spos.line X.env = pure true := by rfl) (hs : ∀ x, foldedSetIterable iter X.env x = pure x := by intro _; rfl) (ht : ∀ o v, letOwnedTupleGo tg o v = pure () := by intro _ _; rfl) :
    RS X (.Assign [.Name y py] (.ListComp elt [⟨tg, iter, ifs, 0⟩] scope pos) spos) (sAsg (mComp n ix src (bName i) mc me fin) (bName k)) :=
  RS.wk (ps_setComp (te := tE X.K me) hN hiN hy S hc hi.pe hg (gk_name hin) hif (fun fp C s H => (he fp C s H).pe) hsw hs ht) fun Dn σ H h => by
    obtain ⟨ι, μ, τ, f, τ', μ', R, S, e, q⟩ := h
    obtain ⟨x, μ1, e1, e⟩ := bnd_some e
    obtain ⟨τ1, μ2, e2, e⟩ := bnd_some e
    cases e2
    cases e
    refine tE_comp hn hfin ⟨ι, μ, τ, x, _, R, S, e1, fun ι1 H1 E1 R1 v i1 => ?_⟩
    exact q ι1 H1 E1 R1 _ ((S.ext E1).set k i1)
mutual
noncomputable def Cl (k : Nat) : D → Prop
  | .tup ds => ClL k ds
  | .lst ds => ClL k ds
  | .ref n => n < k
  | _ => True
noncomputable def ClL (k : Nat) : List D → Prop
  | [] => True
  | d :: ds => Cl k d ∧ ClL k ds
end
noncomputable def ClO (k : Nat) : MO → Prop
  | .lst ds => ClL k ds
  | .dK l => ClL k (l.map (·.2))
section
variable {K : PySem.W.Frag} {ι : Nat → Addr} {k k' : Nat} {H : Hp}
mutual
theorem Is.down (hk : k ≤ k') : ∀ {d : D} {v : V}, Cl k d → Is K ι k' H d v → Is K ι k H d v
  | .non, _, _, h => by unfold Is at h ⊢; exact h
  | .bl _, _, _, h => by unfold Is at h ⊢; exact h
  | .int _, _, _, h => by unfold Is at h ⊢; exact h
  | .str _, _, _, h => by unfold Is at h ⊢; exact h
  | .ty _, _, _, h => by unfold Is at h ⊢; exact h
  | .scr _, _, _, h => by unfold Is at h ⊢; exact h
  | .tup ds, _, c, h => by
    unfold Is at h ⊢
    obtain ⟨p, vs, e, h1, h2⟩ := h
    exact ⟨p, vs, e, h1, IsL.down hk (by unfold Cl at c; exact c) h2⟩
  | .lst ds, _, c, h => by
    unfold Is at h ⊢
    obtain ⟨p, vs, e, h1, hn, h2⟩ := h
    exact ⟨p, vs, e, h1, fun n z => hn n (Nat.lt_of_lt_of_le z hk), IsL.down hk (by unfold Cl at c; exact c) h2⟩
  | .ref n, _, c, h => by
    unfold Is at h ⊢
    exact ⟨by unfold Cl at c; exact c, h.2⟩
theorem IsL.down (hk : k ≤ k') : ∀ {ds : List D} {vs : List V}, ClL k ds → IsL K ι k' H ds vs → IsL K ι k H ds vs
  | [], _, _, h => by unfold IsL at h ⊢; exact h
  | _ :: _, _, c, h => by
    unfold IsL at h ⊢
    unfold ClL at c
    obtain ⟨v, vs', e, h1, h2⟩ := h
    exact ⟨v, vs', e, Is.down hk c.1 h1, IsL.down hk c.2 h2⟩
end
mutual
theorem Is.cl : ∀ {d : D} {v : V}, Is K ι k H d v → Cl k d
  | .non, _, _ => by unfold Cl; trivial
  | .bl _, _, _ => by unfold Cl; trivial
  | .int _, _, _ => by unfold Cl; trivial
  | .str _, _, _ => by unfold Cl; trivial
  | .ty _, _, _ => by unfold Cl; trivial
  | .scr _, _, _ => by unfold Cl; trivial
  | .tup ds, _, h => by
    unfold Is at h; unfold Cl
    obtain ⟨p, vs, e, h1, h2⟩ := h
    exact IsL.cl h2
  | .lst ds, _, h => by
    unfold Is at h; unfold Cl
    obtain ⟨p, vs, e, h1, hn, h2⟩ := h
    exact IsL.cl h2
  | .ref n, _, h => by
    unfold Is at h; unfold Cl
    exact h.1
theorem IsL.cl : ∀ {ds : List D} {vs : List V}, IsL K ι k H ds vs → ClL k ds
  | [], _, _ => by unfold ClL; trivial
  | _ :: _, _, h => by
    unfold IsL at h; unfold ClL
    obtain ⟨v, vs', e, h1, h2⟩ := h
    exact ⟨Is.cl h1, IsL.cl h2⟩
end
theorem KVs.cl : ∀ {l : List (Key × D)} {r : List (Key × V)}, KVs K ι k H l r → ClL k (l.map (·.2))
  | [], _, _ => by unfold List.map ClL; trivial
  | (_, _) :: _, _, h => by
    obtain ⟨v, r', e, h1, h2⟩ := h
    rw [List.map_cons]
    unfold ClL
    exact ⟨h1.cl, KVs.cl h2⟩
theorem KVs.down (hk : k ≤ k') : ∀ {l : List (Key × D)} {r : List (Key × V)}, ClL k (l.map (·.2)) → KVs K ι k' H l r → KVs K ι k H l r
  | [], _, _, h => h
  | (_, _) :: _, _, c, h => by
    rw [List.map_cons] at c
    unfold ClL at c
    obtain ⟨v, r', e, h1, h2⟩ := h
    exact ⟨v, r', e, h1.down hk c.1, KVs.down hk c.2 h2⟩
theorem ObjIs.cl {o : MO} {u : HO} (h : ObjIs K ι k H o u) : ClO k o := by
  cases o with
  | lst ds => obtain ⟨vs, _, h⟩ := h; exact h.cl
  | dK l => obtain ⟨r, _, h⟩ := h; exact h.cl
theorem ObjIs.down (hk : k ≤ k') {o : MO} {u : HO} (c : ClO k o) (h : ObjIs K ι k' H o u) : ObjIs K ι k H o u := by
  cases o with
  | lst ds => obtain ⟨vs, e, h⟩ := h; exact ⟨vs, e, h.down hk c⟩
  | dK l => obtain ⟨r, e, h⟩ := h; exact ⟨r, e, h.down hk c⟩
end
noncomputable def Conv (μ2 μ' : Mh) (d' d : D) : Prop := (d' = d ∧ Cl μ'.length d) ∨ ∃ n ds, d' = .ref n ∧ μ2[n]? = some (.lst ds) ∧ μ'.length ≤ n ∧ d = .lst ds ∧ ClL μ'.length ds
structure Tells (μ μ2 μ' : Mh) (d' d : D) : Prop where
  grow : ∃ g, μ2 = μ' ++ g
  le : μ.length ≤ μ'.length
  old : ∀ (n : Nat) (o : MO), μ'[n]? = some o → μ[n]? = some o ∨ ClO μ'.length o
  conv : Conv μ2 μ' d' d
noncomputable def resD : Fl → D
  | .rt d => d
  | _ => .non
theorem tells_of {K : PySem.W.Frag} {ι ι2 : Nat → Addr} {μ μ2 μ' : Mh} {H H2 : Hp} {d' d : D} (R : RelH K ι μ H) (E : Ext ι μ.length H ι2 μ2.length H2) (R2 : RelH K ι2 μ2 H2) (t : Tells μ μ2 μ' d' d) :
    Ext ι μ.length H ι2 μ'.length H2 ∧ RelH K ι2 μ' H2 ∧ ∀ v, Is K ι2 μ2.length H2 d' v → Is K ι2 μ'.length H2 d v := by
  obtain ⟨⟨g, hg⟩, le, old, conv⟩ := t
  have hle : μ'.length ≤ μ2.length := by rw [hg]; simp
  have hget : ∀ (n : Nat) (o : MO), μ'[n]? = some o → μ2[n]? = some o := fun n o e => by
    rw [hg, List.getElem?_append_left (List.getElem?_eq_some_iff.mp e).1]; exact e
  refine ⟨⟨le, E.agree, fun n h1 h2 => E.fresh n h1 (Nat.lt_of_lt_of_le h2 hle), E.keep, E.was, E.there⟩, ⟨fun i j hi hj => R2.inj i j (Nat.lt_of_lt_of_le hi hle) (Nat.lt_of_lt_of_le hj hle), fun n o e => ?_⟩, fun v iv => ?_⟩
  · obtain ⟨u, q, hq⟩ := R2.obj n o (hget n o e)
    refine ⟨u, q, hq.down hle ?_⟩
    rcases old n o e with z | z
    · obtain ⟨u0, _, h0⟩ := R.obj n o z
      have c := h0.cl
      cases o with
      | lst ds => exact clL_mono le c
      | dK l => exact clL_mono le c
    · exact z
  · rcases conv with ⟨rfl, c⟩ | ⟨n, ds, rfl, hn, hle2, rfl, c⟩
    · exact iv.down hle c
    · obtain ⟨u, q, vs, rfl, il⟩ := R2.obj n _ hn
      have hn2 : n < μ2.length := (List.getElem?_eq_some_iff.mp hn).1
      unfold Is at iv ⊢
      refine ⟨ι2 n, vs, iv.2, q, fun m hm z => ?_, il.down hle c⟩
      have := R2.inj m n (Nat.lt_of_lt_of_le hm hle) hn2 z
      omega
where
  cl_mono {k k' : Nat} (h : k ≤ k') : ∀ {d : D}, Cl k d → Cl k' d
    | .non, _ => by unfold Cl; trivial
    | .bl _, _ => by unfold Cl; trivial
    | .int _, _ => by unfold Cl; trivial
    | .str _, _ => by unfold Cl; trivial
    | .ty _, _ => by unfold Cl; trivial
    | .scr _, _ => by unfold Cl; trivial
    | .tup ds, c => by unfold Cl at c ⊢; exact clL_mono h c
    | .lst ds, c => by unfold Cl at c ⊢; exact clL_mono h c
    | .ref n, c => by unfold Cl at c ⊢; exact Nat.lt_of_lt_of_le c h
  clL_mono {k k' : Nat} (h : k ≤ k') : ∀ {ds : List D}, ClL k ds → ClL k' ds
    | [], _ => by unfold ClL; trivial
    | _ :: _, c => by unfold ClL at c ⊢; exact ⟨cl_mono h c.1, clL_mono h c.2⟩
noncomputable def startD (n : Nat) (ds : List D) : Sl := ds.map some ++ List.replicate (n - ds.length) none
theorem RelS.start {K : PySem.W.Frag} {ι : Nat → Addr} {k : Nat} {H : Hp} {N : List Str} {ds : List D} {vs : List V} (i : IsL K ι k H ds vs) : RelS K ι k H (startD N.length ds) (L2.start N vs) := by
  have hl := i.length
  refine ⟨by simp [startD, L2.start, hl], fun j d e => ?_⟩
  unfold startD at e
  unfold L2.start
  rcases Nat.lt_or_ge j ds.length with z | z
  · rw [List.getElem?_append_left (by simpa using z), List.getElem?_map] at e
    rw [List.getElem?_append_left (by simpa [hl] using z), List.getElem?_map]
    cases q : ds[j]? with
    | none => rw [q] at e; cases e
    | some d0 =>
      rw [q] at e
      cases e
      obtain ⟨v, ev, iv⟩ := i.get q
      exact ⟨v, by rw [ev]; rfl, iv⟩
  · rw [List.getElem?_append_right (by simpa using z), List.getElem?_replicate] at e
    split at e <;> cases e
theorem fn_mirror {P : Program} {w : World} {K : PySem.W.Frag} {mg : Str → Option Value} {base : Heap} {x qual : Str} {st : Stmt} {f : Addr} {fd : FuncData} {N ps : List Str} {k n : Nat} {φ : List D → M D} {mb : Sl → M (Fl × Sl)} (F : Fun K x qual st f fd) (S : FnScope N ps (defScope st)) (hn : ps.length = n := by rfl)
    (body : ∀ (cdv : Value) (A : Around) (outer : List Env) (s : Shared) (H : Hp) (E : XK), Room k (A.deeper (PyProof.Rows.envOfC qual (defScope st) s.heap.objs.size f cdv)) → RSs (cxOf CX0 P w K mg base N qual (defScope st) f cdv A outer s H E).nox (defBody st) mb)
    (run : ∀ ds μ d μ', φ ds μ = some (d, μ') → ∃ fl τ2 μ2, mb (startD N.length ds) μ = some ((fl, τ2), μ2) ∧ (fl = .next ∨ ∃ d, fl = .rt d) ∧ Tells μ μ2 μ' (resD fl) d) : FnOk P w K mg base CX0 (k + 1) f fd ps (spM K n φ) := by
  refine F.ok S (fun vs H Q E h => by rw [hn]; exact h.1) (fun cdv A outer s H vs Q E hr h => ⟨_, (body cdv A outer s H E hr).pe, ?_⟩)
  obtain ⟨hl, ι, μ, ds, d, μ', R, i, e, q⟩ := h
  obtain ⟨fl, τ2, μ2, e2, hfl, t⟩ := run ds μ d μ' e
  refine ⟨ι, μ, _, fl, τ2, μ2, R, RelS.start i, e2, fun ι2 H2 E2 R2 σ2 S2 => ?_⟩
  obtain ⟨E3, R3, c⟩ := tells_of R E2 R2 t
  rcases hfl with rfl | ⟨d0, rfl⟩
  · exact q ι2 H2 E3 R3 _ (c _ (by unfold resD Is; rfl))
  · exact fun v iv => q ι2 H2 E3 R3 v (c v iv)
end
end Mi
namespace Mi
open PySem L2
noncomputable def asList : D → M (List D)
  | .lst ds => ret ds
  | .scr ns => ret (ns.map D.int)
  | .ref n => fun μ => match μ[n]? with
    | some (.lst ds) => some (ds, μ)
    | _ => none
  | _ => fail
section
variable {K : PySem.W.Frag} {ι : Nat → Addr} {μ μ' : Mh} {H : Hp} {d a b : D} {v x y : V} {ds : List D}
theorem asList_sq (R : RelH K ι μ H) (i : Is K ι μ.length H d v) (e : asList d μ = some (ds, μ')) : μ' = μ ∧ ∃ p vs, v = .ref p ∧ SqL K H p vs ∧ IsL K ι μ.length H ds vs := by
  cases d with
  | lst es =>
    cases e
    unfold Is at i
    obtain ⟨p, vs, rfl, h1, hn, h2⟩ := i
    exact ⟨rfl, p, vs, rfl, SqL.of h1, h2⟩
  | scr ns =>
    cases e
    unfold Is at i
    obtain ⟨p, rfl, h1⟩ := i
    exact ⟨rfl, p, _, rfl, h1.sq, IsL.ofInts ns⟩
  | ref n =>
    unfold Is at i
    obtain ⟨hn, rfl⟩ := i
    have e' : (match μ[n]? with | some (.lst ds) => some (ds, μ) | _ => none) = some (ds, μ') := e
    split at e'
    · rename_i es hq
      cases e'
      obtain ⟨u, h1, vs, rfl, h2⟩ := R.obj n _ hq
      exact ⟨rfl, _, vs, rfl, SqL.of h1, h2⟩
    · cases e'
  | _ => cases e
theorem is_int {i : Int} (h : Is K ι μ.length H (.int i) v) : v = .int i := by unfold Is at h; exact h
theorem is_str {i : Str} (h : Is K ι μ.length H (.str i) v) : v = .str i := by unfold Is at h; exact h
theorem is_bl {i : Bool} (h : Is K ι μ.length H (.bl i) v) : v = .bl i := by unfold Is at h; exact h
theorem is_non (h : Is K ι μ.length H .non v) : v = .non := by unfold Is at h; exact h
theorem is_ty {n : String} (h : Is K ι μ.length H (.ty n) v) : v = .ty n := by unfold Is at h; exact h
theorem ofI {k : Nat} (i : Int) : Is K ι k H (.int i) (.int i) := by unfold Is; rfl
theorem ofS {k : Nat} (i : Str) : Is K ι k H (.str i) (.str i) := by unfold Is; rfl
theorem ofB {k : Nat} (i : Bool) : Is K ι k H (.bl i) (.bl i) := by unfold Is; rfl
theorem ofN {k : Nat} : Is K ι k H .non .non := by unfold Is; rfl
theorem isL1 {d : D} {vs : List V} {k : Nat} (h : IsL K ι k H [d] vs) : ∃ v, vs = [v] ∧ Is K ι k H d v := by
  unfold IsL at h
  obtain ⟨v, vs', rfl, h1, h2⟩ := h
  unfold IsL at h2
  subst h2
  exact ⟨v, rfl, h1⟩
theorem isL2 {d d' : D} {vs : List V} {k : Nat} (h : IsL K ι k H [d, d'] vs) : ∃ v v', vs = [v, v'] ∧ Is K ι k H d v ∧ Is K ι k H d' v' := by
  unfold IsL at h
  obtain ⟨v, vs', rfl, h1, h2⟩ := h
  obtain ⟨v', rfl, h3⟩ := isL1 h2
  exact ⟨v, v', rfl, h1, h3⟩
theorem atI_is {i : Int} {vs : List V} {k : Nat} (h : IsL K ι k H ds vs) (e : atI ds i = some d) : ∃ v, atI vs i = some v ∧ Is K ι k H d v := by
  unfold atI at e ⊢
  rw [h.length]
  cases q : ixN ds.length i with
  | none => rw [q] at e; cases e
  | some j =>
    rw [q] at e
    exact h.get e
theorem cut_is {vs : List V} {k : Nat} {lo hi : Option Int} (h : IsL K ι k H ds vs) : IsL K ι k H ((ds.drop (HT.sIx ds.length 0 lo)).take (HT.sIx ds.length ds.length hi - HT.sIx ds.length 0 lo)) (cutV vs lo hi) := by
  unfold cutV
  rw [h.length]
  exact (h.drop _).take _
end
noncomputable def int2 (C : Int → Int → Prop) [∀ i j, Decidable (C i j)] (g : Int → Int → D) : D → D → M D
  | .int i, .int j => fun μ => if C i j then some (g i j, μ) else none
  | _, _ => fail
noncomputable def pySub : D → D → M D := int2 (fun _ _ => True) fun i j => .int (i - j)
noncomputable def pyFdiv : D → D → M D := int2 (fun _ j => 0 < j ∧ j < 1073741824) fun i j => .int (i / j)
noncomputable def pyMod : D → D → M D := int2 (fun _ j => 0 < j) fun i j => .int (i % j)
noncomputable def pyPow : D → D → M D := int2 (fun i j => 0 ≤ j ∧ j ≤ 1000000 ∧ i.natAbs < 2 ^ 64) fun i j => .int (i ^ j.toNat)
noncomputable def pyLt : D → D → M D := int2 (fun _ _ => True) fun i j => .bl (decide (i < j))
noncomputable def pyLe : D → D → M D := int2 (fun _ _ => True) fun i j => .bl (decide (i ≤ j))
noncomputable def pyGt : D → D → M D := int2 (fun _ _ => True) fun i j => .bl (decide (j < i))
section
variable {X : Cx}
theorem o_int2 {f : Value → Value → Sem Value} {C : Int → Int → Prop} [∀ i j, Decidable (C i j)] {g : Int → Int → D} {gv : Int → Int → V} (hg : ∀ i j ι k H, Is X.K ι k H (g i j) (gv i j)) (ho : OpR X f (rI C gv)) : OpR X f (rM X.K (int2 C g)) := OpR.wk ho fun x y H Q h => by
  obtain ⟨ι, μ, a, b, d, μ', R, ia, ib, e, q⟩ := h
  cases a with
  | int i =>
    cases b with
    | int j =>
      have e' : (if C i j then some (g i j, μ) else none) = some (d, μ') := e
      split at e'
      · rename_i hc
        cases e'
        exact ⟨i, j, is_int ia, is_int ib, hc, q ι H R.ext0 R _ (hg i j _ _ _)⟩
      · cases e'
    | _ => cases e
  | _ => cases e
theorem OpR.ofI0 {f : Value → Value → Sem Value} {gv : Int → Int → V} (ho : OpR X f (rI0 gv)) : OpR X f (rI (fun _ _ => True) gv) := OpR.wk ho fun x y H Q h => by
  obtain ⟨i, j, h1, h2, _, q⟩ := h
  exact ⟨i, j, h1, h2, q⟩
theorem o_sub : OpR X (binaryOp .Sub) (rM X.K pySub) := o_int2 (fun _ _ _ _ _ => ofI _) (OpR.ofI0 op_sub)
theorem o_fdiv : OpR X (binaryOp .FloorDiv) (rM X.K pyFdiv) := o_int2 (fun _ _ _ _ _ => ofI _) op_fdiv
theorem o_mod : OpR X (binaryOp .Mod) (rM X.K pyMod) := o_int2 (fun _ _ _ _ _ => ofI _) op_mod
theorem o_pow : OpR X (binaryOp .Pow) (rM X.K pyPow) := o_int2 (fun _ _ _ _ _ => ofI _) op_pow
theorem o_lt : OpR X (compareOp .Lt) (rM X.K pyLt) := o_int2 (fun _ _ _ _ _ => ofB _) (OpR.ofI0 op_lt)
theorem o_le : OpR X (compareOp .LtE) (rM X.K pyLe) := o_int2 (fun _ _ _ _ _ => ofB _) (OpR.ofI0 op_le)
theorem o_gt : OpR X (compareOp .Gt) (rM X.K pyGt) := o_int2 (fun _ _ _ _ _ => ofB _) (OpR.ofI0 op_gt)
noncomputable def pyNeg : D → M D
  | .int i => ret (.int (-i))
  | _ => fail
theorem o_neg : UnR X (unaryOp .USub) (rM1 X.K pyNeg) := fun pins s σ H x v Q I r h => by
  obtain ⟨ι, μ, a, d, μ', R, ia, e, q⟩ := h
  cases a with
  | int i =>
    cases e
    have z := is_int ia
    subst z
    exact un_neg pins s σ H _ v Q I r ⟨i, rfl, q ι H R.ext0 R _ (ofI _)⟩
  | _ => cases e
noncomputable def pyAdd : D → D → M D
  | .int i, .int j => ret (.int (i + j))
  | .str i, .str j => bnd (lim (i.length + j.length)) fun _ => ret (.str (i ++ j))
  | .lst a, .lst b => newL (a ++ b)
  | .tup [], .tup b => fail
  | .tup (a :: as), .tup b => newT (a :: as ++ b)
  | _, _ => fail
theorem o_add : OpR X (binaryOp .Add) (rM X.K pyAdd) := fun pins s σ H x y v u Q I rx ry h => by
  obtain ⟨ι, μ, a, b, d, μ', R, ia, ib, e, q⟩ := h
  unfold pyAdd at e
  split at e
  · cases e
    cases is_int ia
    cases is_int ib
    exact op_add pins s σ H _ _ v u Q I rx ry ⟨_, _, rfl, rfl, q ι H R.ext0 R _ (ofI _)⟩
  · obtain ⟨_, μ1, e1, e2⟩ := bnd_some e
    obtain ⟨hl, rfl⟩ := lim_some e1
    cases e2
    cases is_str ia
    cases is_str ib
    exact op_add_str pins s σ H _ _ v u Q I rx ry ⟨_, _, rfl, rfl, hl, q ι H R.ext0 R _ (ofS _)⟩
  · unfold Is at ia ib
    obtain ⟨p, vs, rfl, h1, hn, h2⟩ := ia
    obtain ⟨p', vs', rfl, h1', hn', h2'⟩ := ib
    obtain ⟨hl, w⟩ := newL_ok R (h2.append h2') e q
    exact op_cat pins s σ H _ _ v u Q I rx ry ⟨p, p', vs, vs', rfl, rfl, h1, h1', by rw [← List.length_append]; exact hl, w⟩
  · cases e
  · rename_i a as bs
    unfold Is at ia ib
    obtain ⟨p, vs, rfl, h1, h2⟩ := ia
    obtain ⟨p', vs', rfl, h1', h2'⟩ := ib
    obtain ⟨hl, w⟩ := newT_ok R (h2.append h2') e q
    refine op_catT pins s σ H _ _ v u Q I rx ry ⟨p, p', vs, vs', rfl, rfl, h1, h1', fun z => ?_, by rw [← List.length_append]; exact hl, fun z => ?_, fun _ => w⟩
    · have := h2.length
      rw [z] at this; cases this
    · subst z
      have hb : bs = [] := by
        have := h2'.length
        cases bs with
        | nil => rfl
        | cons _ _ => cases this
      subst hb
      obtain ⟨_, μ1, e1, e2⟩ := bnd_some e
      obtain ⟨hl, rfl⟩ := lim_some e1
      cases e2
      exact q ι H R.ext0 R _ (by unfold Is; exact ⟨p, vs, rfl, h1, by rw [List.append_nil]; exact h2⟩)
  · cases e
noncomputable def pyMul : D → D → M D
  | .int i, .int j => fun μ => if (-(2 ^ 64) < i ∧ i < 2 ^ 64) ∨ (-(2 ^ 64) < j ∧ j < 2 ^ 64) then some (.int (i * j), μ) else none
  | .lst a, .int j => fun μ => if -(2 ^ 63) ≤ j ∧ j < 2 ^ 63 ∧ a.length * j.toNat ≤ sizeLine then newL (List.replicate j.toNat a).flatten μ else none
  | _, _ => fail
theorem IsL.rep {K : PySem.W.Frag} {ι : Nat → Addr} {k : Nat} {H : Hp} {ds : List D} {vs : List V} (h : IsL K ι k H ds vs) : ∀ n : Nat, IsL K ι k H (List.replicate n ds).flatten (List.replicate n vs).flatten
  | 0 => .nil
  | n + 1 => by
    rw [List.replicate_succ, List.replicate_succ, List.flatten_cons, List.flatten_cons]
    exact h.append (IsL.rep h n)
theorem o_mul : OpR X (binaryOp .Mult) (rM X.K pyMul) := fun pins s σ H x y v u Q I rx ry h => by
  obtain ⟨ι, μ, a, b, d, μ', R, ia, ib, e, q⟩ := h
  unfold pyMul at e
  split at e
  · split at e
    · rename_i hc
      cases e
      cases is_int ia
      cases is_int ib
      exact op_mul pins s σ H _ _ v u Q I rx ry ⟨_, _, rfl, rfl, hc, q ι H R.ext0 R _ (ofI _)⟩
    · cases e
  · split at e
    · rename_i hc
      cases is_int ib
      unfold Is at ia
      obtain ⟨p, vs, rfl, h1, hn, h2⟩ := ia
      obtain ⟨hl, w⟩ := newL_ok R (h2.rep _) e q
      exact op_rep pins s σ H _ _ v u Q I rx ry ⟨p, _, vs, rfl, rfl, h1, hc.1, hc.2.1, by rw [h2.length]; exact hc.2.2, w⟩
    · cases e
  · cases e
mutual
noncomputable def toP (μ : Mh) : D → Option PyData
  | .non => some .none
  | .bl b => some (.bool b)
  | .int i => some (.int i)
  | .str x => some (.str x)
  | .ty _ => none
  | .scr ns => some (.list (ns.map PyData.int))
  | .tup ds => (toPs μ ds).map PyData.tuple
  | .lst ds => (toPs μ ds).map PyData.list
  | .ref _ => none
noncomputable def toPs (μ : Mh) : List D → Option (List PyData)
  | [] => some []
  | d :: ds => (toP μ d).bind fun p => (toPs μ ds).map (p :: ·)
end
noncomputable def toP1 (μ : Mh) : D → Option PyData
  | .ref n => match μ[n]? with
    | some (.lst ds) => (toPs μ ds).map PyData.list
    | _ => none
  | d => toP μ d
section
variable {K : PySem.W.Frag} {ι : Nat → Addr} {μ : Mh} {H : Hp} {k : Nat}
theorem datInts : ∀ (ns : List Int), DatVs K H (ns.map V.int) (ns.map PyData.int)
  | [] => .nil
  | n :: r => .cons (.int n) (datInts r)
mutual
theorem Is.dat : ∀ {d : D} {v : V} {p : PyData}, Is K ι k H d v → toP μ d = some p → DatV K H v p
  | .non, _, _, h, e => by unfold Is at h; unfold toP at e; cases e; subst h; exact .non
  | .bl b, _, _, h, e => by unfold Is at h; unfold toP at e; cases e; subst h; exact .bl b
  | .int b, _, _, h, e => by unfold Is at h; unfold toP at e; cases e; subst h; exact .int b
  | .str b, _, _, h, e => by unfold Is at h; unfold toP at e; cases e; subst h; exact .str b
  | .ty b, _, _, h, e => by unfold toP at e; cases e
  | .scr ns, _, _, h, e => by
    unfold Is at h; unfold toP at e; cases e
    obtain ⟨p, rfl, h⟩ := h
    exact .lst h.sq (datInts ns)
  | .tup ds, _, _, h, e => by
    unfold Is at h; unfold toP at e
    obtain ⟨p, vs, rfl, h1, h2⟩ := h
    cases q : toPs μ ds with
    | none => rw [q] at e; cases e
    | some ps => rw [q] at e; cases e; exact .tup h1 (IsL.dat h2 q)
  | .lst ds, _, _, h, e => by
    unfold Is at h; unfold toP at e
    obtain ⟨p, vs, rfl, h1, _, h2⟩ := h
    cases q : toPs μ ds with
    | none => rw [q] at e; cases e
    | some ps => rw [q] at e; cases e; exact .lst (SqL.of h1) (IsL.dat h2 q)
  | .ref n, _, _, h, e => by unfold toP at e; cases e
theorem IsL.dat : ∀ {ds : List D} {vs : List V} {ps : List PyData}, IsL K ι k H ds vs → toPs μ ds = some ps → DatVs K H vs ps
  | [], _, _, h, e => by unfold IsL at h; unfold toPs at e; cases e; subst h; exact .nil
  | d :: ds, _, _, h, e => by
    unfold IsL at h; unfold toPs at e
    obtain ⟨v, vs', rfl, h1, h2⟩ := h
    cases q : toP μ d with
    | none => rw [q] at e; cases e
    | some p =>
      rw [q] at e
      cases q2 : toPs μ ds with
      | none => rw [q2] at e; cases e
      | some ps => rw [q2] at e; cases e; exact .cons (Is.dat h1 q) (IsL.dat h2 q2)
end
theorem dat1 (R : RelH K ι μ H) {d : D} {v : V} {p : PyData} (h : Is K ι μ.length H d v) (e : toP1 μ d = some p) : DatV K H v p := by
  cases d with
  | ref n =>
    unfold Is at h
    obtain ⟨_, rfl⟩ := h
    have e' : (match μ[n]? with | some (.lst ds) => (toPs μ ds).map PyData.list | _ => none) = some p := e
    split at e'
    · rename_i ds hq
      obtain ⟨u, h1, vs, rfl, h2⟩ := R.obj n _ hq
      cases q : toPs μ ds with
      | none => rw [q] at e'; cases e'
      | some ps => rw [q] at e'; cases e'; exact .lst (SqL.of h1) (IsL.dat h2 q)
    · cases e'
  | _ => exact Is.dat (μ := μ) h e
end
noncomputable def pyEqB (neg : Bool) (a b : D) : M D := fun μ => match toP1 μ a, toP1 μ b with
  | some p, some q => if SeqAt.shaped p = true ∧ SeqAt.shaped q = true then some (.bl (if neg then !PyData.eqv p q else PyData.eqv p q), μ) else none
  | _, _ => none
noncomputable def pyEq : D → D → M D := pyEqB false
noncomputable def pyNe : D → D → M D := pyEqB true
theorem pyEqB_some {neg : Bool} {a b d : D} {μ μ' : Mh} (e : pyEqB neg a b μ = some (d, μ')) : ∃ p q, toP1 μ a = some p ∧ toP1 μ b = some q ∧ SeqAt.shaped p = true ∧ SeqAt.shaped q = true ∧ d = .bl (if neg then !PyData.eqv p q else PyData.eqv p q) ∧ μ' = μ := by
  unfold pyEqB at e
  split at e
  · rename_i p q e1 e2
    split at e
    · rename_i h
      cases e
      exact ⟨p, q, e1, e2, h.1, h.2, rfl, rfl⟩
    · cases e
  · cases e
theorem o_eq {k : Nat} (hr : Room k X.A) : OpR X (compareOp .Eq) (rM X.K pyEq) := OpR.wk (op_eqP (room64 hr)) fun x y H Q h => by
  obtain ⟨ι, μ, a, b, d, μ', R, ia, ib, e, q⟩ := h
  obtain ⟨p, p', e1, e2, s1, s2, rfl, rfl⟩ := pyEqB_some e
  exact ⟨p, p', dat1 R ia e1, dat1 R ib e2, s1, s2, q ι H R.ext0 R _ (ofB _)⟩
theorem o_ne {k : Nat} (hr : Room k X.A) : OpR X (compareOp .NotEq) (rM X.K pyNe) := OpR.wk (op_neP (room64 hr)) fun x y H Q h => by
  obtain ⟨ι, μ, a, b, d, μ', R, ia, ib, e, q⟩ := h
  obtain ⟨p, p', e1, e2, s1, s2, rfl, rfl⟩ := pyEqB_some e
  exact ⟨p, p', dat1 R ia e1, dat1 R ib e2, s1, s2, q ι H R.ext0 R _ (ofB _)⟩
noncomputable def isN : D → Bool
  | .non => true
  | _ => false
noncomputable def pyIs (neg : Bool) : D → D → M D
  | a, .non => ret (.bl (if neg then !isN a else isN a))
  | _, _ => fail
theorem isN_dec {K : PySem.W.Frag} {ι : Nat → Addr} {k : Nat} {H : Hp} {a : D} {x : V} (h : Is K ι k H a x) : decide (x = V.non) = isN a := by
  cases a with
  | non => unfold Is at h; subst h; rfl
  | bl b => unfold Is at h; subst h; rfl
  | int b => unfold Is at h; subst h; rfl
  | str b => unfold Is at h; subst h; rfl
  | ty b => unfold Is at h; subst h; rfl
  | scr ns => unfold Is at h; obtain ⟨p, rfl, _⟩ := h; rfl
  | tup ns => unfold Is at h; obtain ⟨p, o, rfl, _⟩ := h; rfl
  | lst ns => unfold Is at h; obtain ⟨p, o, rfl, _⟩ := h; rfl
  | ref ns => unfold Is at h; obtain ⟨_, rfl⟩ := h; rfl
theorem o_is : OpR X (compareOp .Is) (rM X.K (pyIs false)) := OpR.wk op_isN fun x y H Q h => by
  obtain ⟨ι, μ, a, b, d, μ', R, ia, ib, e, q⟩ := h
  cases b with
  | non => cases e; exact ⟨is_non ib, by rw [isN_dec ia]; exact q ι H R.ext0 R _ (ofB _)⟩
  | _ => cases e
noncomputable def flatD : D → Option V
  | .non => some .non
  | .bl b => some (.bl b)
  | .int i => some (.int i)
  | .str x => some (.str x)
  | _ => none
noncomputable def flatDs : List D → Option (List V)
  | [] => some []
  | d :: ds => (flatD d).bind fun v => (flatDs ds).map (v :: ·)
section
variable {K : PySem.W.Frag} {ι : Nat → Addr} {H : Hp} {k : Nat}
theorem flatD_is {d : D} {v x : V} (h : Is K ι k H d x) (e : flatD d = some v) : x = v ∧ flatV v = true := by
  cases d with
  | non => cases e; unfold Is at h; exact ⟨h, rfl⟩
  | bl b => cases e; unfold Is at h; exact ⟨h, rfl⟩
  | int b => cases e; unfold Is at h; exact ⟨h, rfl⟩
  | str b => cases e; unfold Is at h; exact ⟨h, rfl⟩
  | _ => cases e
theorem flatDs_is : ∀ {ds : List D} {vs xs : List V}, IsL K ι k H ds xs → flatDs ds = some vs → xs = vs ∧ vs.all flatV = true
  | [], _, _, h, e => by cases e; unfold IsL at h; exact ⟨h, rfl⟩
  | d :: ds, _, _, h, e => by
    unfold IsL at h
    obtain ⟨v, vs', rfl, h1, h2⟩ := h
    unfold flatDs at e
    cases q : flatD d with
    | none => rw [q] at e; cases e
    | some w =>
      rw [q] at e
      cases q2 : flatDs ds with
      | none => rw [q2] at e; cases e
      | some ws =>
        rw [q2] at e; cases e
        obtain ⟨rfl, f1⟩ := flatD_is h1 q
        obtain ⟨rfl, f2⟩ := flatDs_is h2 q2
        exact ⟨rfl, by rw [List.all_cons, f1, f2]; rfl⟩
end
noncomputable def asSeq1 : D → M (List D)
  | .tup ds => ret ds
  | d => asList d
theorem asSeq1_sq {K : PySem.W.Frag} {ι : Nat → Addr} {μ μ' : Mh} {H : Hp} {d : D} {v : V} {ds : List D} (R : RelH K ι μ H) (i : Is K ι μ.length H d v) (e : asSeq1 d μ = some (ds, μ')) : μ' = μ ∧ ∃ p vs, v = .ref p ∧ (SqL K H p vs ∨ SqT K H p vs) ∧ IsL K ι μ.length H ds vs := by
  cases d with
  | tup es =>
    cases e
    unfold Is at i
    obtain ⟨p, vs, rfl, h1, h2⟩ := i
    exact ⟨rfl, p, vs, rfl, .inr h1, h2⟩
  | lst es => obtain ⟨h, p, vs, a, b, c⟩ := asList_sq R i e; exact ⟨h, p, vs, a, .inl b, c⟩
  | scr es => obtain ⟨h, p, vs, a, b, c⟩ := asList_sq R i e; exact ⟨h, p, vs, a, .inl b, c⟩
  | ref es => obtain ⟨h, p, vs, a, b, c⟩ := asList_sq R i e; exact ⟨h, p, vs, a, .inl b, c⟩
  | _ => cases e
noncomputable def inSeq (neg : Bool) (a b : D) : M D := bnd (asSeq1 b) fun ds => fun μ => match flatD a, flatDs ds with
  | some x, some xs => some (.bl (if neg then !inV x xs else inV x xs), μ)
  | _, _ => none
noncomputable def pyIn (neg : Bool) : D → D → M D
  | .str i, .str j => ret (.bl (if neg then !(!(Builtin.Str.occurrences j i 0 j.length 1).isEmpty) else !(Builtin.Str.occurrences j i 0 j.length 1).isEmpty))
  | a, b => inSeq neg a b
theorem rIn_of {K : PySem.W.Frag} {neg : Bool} {x y : V} {H : Hp} {Q : VK} {ι : Nat → Addr} {μ μ' : Mh} {a b d : D} (R : RelH K ι μ H) (ia : Is K ι μ.length H a x) (ib : Is K ι μ.length H b y) (e : inSeq neg a b μ = some (d, μ')) (q : Aft K ι μ H μ' fun ι' H' => ∀ v, Is K ι' μ'.length H' d v → Q v H') : rIn K neg x y H Q := by
  obtain ⟨ds, μ1, e1, e2⟩ := bnd_some e
  obtain ⟨hm, p, vs, rfl, h1, h2⟩ := asSeq1_sq R ib e1
  subst hm
  split at e2
  · rename_i w ws q1 q2
    cases e2
    obtain ⟨rfl, f1⟩ := flatD_is ia q1
    obtain ⟨rfl, f2⟩ := flatDs_is h2 q2
    exact ⟨p, _, rfl, h1, f1, f2, q ι H R.ext0 R _ (ofB _)⟩
  · cases e2
theorem o_in : OpR X (compareOp .In) (rM X.K (pyIn false)) := fun pins s σ H x y v u Q I rx ry h => by
  obtain ⟨ι, μ, a, b, d, μ', R, ia, ib, e, q⟩ := h
  unfold pyIn at e
  split at e
  · cases e
    cases is_str ia
    cases is_str ib
    exact op_in_str pins s σ H _ _ v u Q I rx ry ⟨_, _, rfl, rfl, q ι H R.ext0 R _ (ofB _)⟩
  · exact op_in_seq pins s σ H _ _ v u Q I rx ry (rIn_of R ia ib e q)
theorem o_notin : OpR X (compareOp .NotIn) (rM X.K (pyIn true)) := fun pins s σ H x y v u Q I rx ry h => by
  obtain ⟨ι, μ, a, b, d, μ', R, ia, ib, e, q⟩ := h
  unfold pyIn at e
  split at e
  · cases e
    cases is_str ia
    cases is_str ib
    exact op_notin_str pins s σ H _ _ v u Q I rx ry ⟨_, _, rfl, rfl, q ι H R.ext0 R _ (ofB _)⟩
  · exact op_notIn_seq pins s σ H _ _ v u Q I rx ry (rIn_of R ia ib e q)
noncomputable def ixD (ds : List D) (i : Int) : M D := fun μ => (atI ds i).map fun d => (d, μ)
noncomputable def pyIx : D → D → M D
  | .str z, .int i => fun μ => if z.length ≤ sizeLine then (atI z.cps.toList i).map fun c => (.str ⟨#[c]⟩, μ) else none
  | a, .int i => bnd (asSeq1 a) fun ds => ixD ds i
  | _, _ => fail
theorem o_ix : IxR X (rM X.K pyIx) := fun va sl pins s σ H x y v u Q I rx ry h hsl => by
  obtain ⟨ι, μ, a, b, d, μ', R, ia, ib, e, q⟩ := h
  unfold pyIx at e
  split at e
  · split at e
    · rename_i z i hl
      cases is_str ia
      cases is_int ib
      cases qq : atI z.cps.toList i with
      | none => rw [qq] at e; cases e
      | some c =>
        rw [qq] at e; cases e
        exact ix_seq va sl pins s σ H _ _ v u Q I rx ry (.inr (.inr ⟨z, i, c, rfl, rfl, hl, qq, q ι H R.ext0 R _ (ofS _)⟩)) hsl
    · cases e
  · cases is_int ib
    obtain ⟨ds, μ1, e1, e2⟩ := bnd_some e
    obtain ⟨hm, p, vs, rfl, h1, h2⟩ := asSeq1_sq R ia e1
    subst hm
    rename_i i _
    unfold ixD at e2
    cases qq : atI ds i with
    | none => rw [qq] at e2; cases e2
    | some c =>
      rw [qq] at e2; cases e2
      obtain ⟨w, ew, iw⟩ := atI_is h2 qq
      rcases h1 with h1 | h1
      · exact ix_seq va sl pins s σ H _ _ v u Q I rx ry (.inl ⟨p, vs, i, w, rfl, rfl, h1, ew, q ι H R.ext0 R _ iw⟩) hsl
      · exact ix_seq va sl pins s σ H _ _ v u Q I rx ry (.inr (.inl ⟨p, vs, i, w, rfl, rfl, h1, ew, q ι H R.ext0 R _ iw⟩)) hsl
  · cases e
noncomputable def lenF : List D → M D
  | [.str z] => fun μ => if z.length ≤ sizeLine then some (.int z.length, μ) else none
  | [.ref n] => fun μ => match μ[n]? with
    | some (.lst ds) => some (.int ds.length, μ)
    | _ => none
  | [d] => bnd (asSeq1 d) fun ds => ret (.int ds.length)
  | _ => fail
theorem c_len : CallR X (.builtin "len") (rMA X.K lenF) := fun pins s σ H xs us Q I r h => by
  obtain ⟨ι, μ, as, d, μ', R, ia, e, q⟩ := h
  refine call_len pins s σ H xs us Q I r ?_
  unfold lenF at e
  split at e
  · rename_i z
    obtain ⟨v, rfl, i1⟩ := isL1 ia
    split at e
    · rename_i hl
      cases e
      cases is_str i1
      exact ⟨_, _, rfl, ⟨hl, rfl⟩, q ι H R.ext0 R _ (ofI _)⟩
    · cases e
  · rename_i n
    obtain ⟨v, rfl, i1⟩ := isL1 ia
    unfold Is at i1
    obtain ⟨_, rfl⟩ := i1
    split at e
    · rename_i ds hq
      cases e
      obtain ⟨u, h1, vs, rfl, h2⟩ := R.obj n _ hq
      exact ⟨_, _, rfl, .inl ⟨vs, SqL.of h1, rfl⟩, by rw [h2.length]; exact q ι H R.ext0 R _ (ofI _)⟩
    · cases e
  · obtain ⟨v, rfl, i1⟩ := isL1 ia
    obtain ⟨ds, μ1, e1, e2⟩ := bnd_some e
    obtain ⟨hm, p, vs, rfl, h1, h2⟩ := asSeq1_sq R i1 e1
    subst hm
    cases e2
    rw [← h2.length] at q
    rcases h1 with h1 | h1
    · exact ⟨_, _, rfl, .inl ⟨vs, h1, rfl⟩, q ι H R.ext0 R _ (ofI _)⟩
    · exact ⟨_, _, rfl, .inr ⟨vs, h1, rfl⟩, q ι H R.ext0 R _ (ofI _)⟩
  · cases e
noncomputable def cutD (ds : List D) (lo hi : Option Int) : List D := (ds.drop (HT.sIx ds.length 0 lo)).take (HT.sIx ds.length ds.length hi - HT.sIx ds.length 0 lo)
noncomputable def pySl (lo hi : Option Int) : D → M D
  | .tup ds => if HT.sIx ds.length 0 lo = 0 ∧ HT.sIx ds.length ds.length hi = ds.length then fail else ret (.tup (cutD ds lo hi))
  | d => bnd (asList d) fun ds => ret (.lst (cutD ds lo hi))
noncomputable def rMS (K : PySem.W.Frag) : V → Option Int → Option Int → Hp → VK → Prop := fun x lo hi H Q => ∃ ι μ a d μ', RelH K ι μ H ∧ Is K ι μ.length H a x ∧ pySl lo hi a μ = some (d, μ') ∧
  Aft K ι μ H μ' fun ι' H' => ∀ v, Is K ι' μ'.length H' d v → Q v H'
theorem laidL {K : PySem.W.Frag} {ι : Nat → Addr} {μ : Mh} {H : Hp} {ds : List D} {vs : List V} {Q : VK} (R : RelH K ι μ H) (i : IsL K ι μ.length H ds vs) (q : Aft K ι μ H μ fun ι' H' => ∀ v, Is K ι' μ.length H' (.lst ds) v → Q v H') (p : Addr) (hp : H p = none) : Q (.ref p) (upd H p (.lst vs)) := by
  obtain ⟨E1, R1⟩ := R.laid (.lst vs) hp
  have ho : ∀ n, n < μ.length → ι n ≠ p := fun n hn z => by
    obtain ⟨o, e, _⟩ := R.muts n hn
    rw [z, hp] at e; cases e
  exact q ι _ E1 R1 _ (by unfold Is; exact ⟨p, vs, rfl, upd_same, ho, i.ext E1⟩)
theorem laidT {K : PySem.W.Frag} {ι : Nat → Addr} {μ : Mh} {H : Hp} {ds : List D} {vs : List V} {Q : VK} (R : RelH K ι μ H) (i : IsL K ι μ.length H ds vs) (q : Aft K ι μ H μ fun ι' H' => ∀ v, Is K ι' μ.length H' (.tup ds) v → Q v H') (p : Addr) (hp : H p = none) : Q (.ref p) (upd H p (.tup vs)) := by
  obtain ⟨E1, R1⟩ := R.laid (.tup vs) hp
  exact q ι _ E1 R1 _ (by unfold Is; exact ⟨p, vs, rfl, SqT.of upd_same, i.ext E1⟩)
theorem o_sl : SlR X (rMS X.K) := fun pins s σ H x v vl vu lo hi sl Q I rx hs pl pu h => by
  obtain ⟨ι, μ, a, d, μ', R, ia, e, q⟩ := h
  refine (SlR.or sl_list sl_tup) pins s σ H x v vl vu lo hi sl Q I rx hs pl pu ?_
  unfold pySl at e
  split at e
  · rename_i ds
    unfold Is at ia
    obtain ⟨p, vs, rfl, h1, h2⟩ := ia
    split at e
    · cases e
    · rename_i hc
      cases e
      exact .inr ⟨p, vs, rfl, h1, by rw [h2.length]; exact hc, fun p hp => laidT R (cut_is h2) q p hp⟩
  · obtain ⟨ds, μ1, e1, e2⟩ := bnd_some e
    obtain ⟨hm, p, vs, rfl, h1, h2⟩ := asList_sq R ia e1
    subst hm
    cases e2
    exact .inl ⟨p, vs, rfl, h1, fun p hp => laidL R (cut_is h2) q p hp⟩
noncomputable def mSl (me : Sl → M D) (ml mh : Sl → M (Option Int)) : Sl → M D := fun τ => bnd (me τ) fun x => bnd (ml τ) fun l => bnd (mh τ) fun h => pySl l h x
noncomputable def noPart : Sl → M (Option Int) := fun _ => ret none
noncomputable def asI : D → M (Option Int)
  | .int i => ret (some i)
  | _ => fail
noncomputable def mPart (m : Sl → M D) : Sl → M (Option Int) := fun τ => bnd (m τ) asI
noncomputable def tPt (K : PySem.W.Frag) (m : Sl → M (Option Int)) : TO := fun σ H Q => ∃ ι μ τ b μ', RelH K ι μ H ∧ RelS K ι μ.length H τ σ ∧ m τ μ = some (b, μ') ∧ Aft K ι μ H μ' fun _ H' => Q b H'
structure RO (X : Cx) (e : Option Expr) (m : Sl → M (Option Int)) : Prop where
  pe : PO X e (tPt X.K m)
theorem PO.wk {e : Option Expr} {t t' : TO} (h : PO X e t) (w : ∀ σ H Q, t' σ H Q → t σ H Q) : PO X e t' := fun pins s σ H Q I q => h pins s σ H Q I (w σ H Q q)
theorem RO.wk {e : Option Expr} {m : Sl → M (Option Int)} {t : TO} (h : PO X e t) (w : ∀ σ H Q, tPt X.K m σ H Q → t σ H Q) : RO X e m := ⟨PO.wk h w⟩
theorem ro_none : RO X none noPart := RO.wk po_none fun σ H Q h => by
  obtain ⟨ι, μ, τ, b, μ', R, S, e, q⟩ := h
  cases e
  exact q ι H R.ext0 R
theorem ro_some {e : Expr} {m : Sl → M D} (h : RE X e m) : RO X (some e) (mPart m) := RO.wk (po_some h.pe) fun σ H Q h => by
  obtain ⟨ι, μ, τ, b, μ', R, S, e, q⟩ := h
  obtain ⟨x, μ1, e1, e⟩ := bnd_some e
  refine ⟨ι, μ, τ, x, μ1, R, S, e1, fun ι1 H1 E1 R1 v i1 => ?_⟩
  cases x with
  | int i => cases e; exact ⟨i, is_int i1, q ι1 H1 E1 R1⟩
  | _ => cases e
noncomputable def tyD (μ : Mh) : D → Option String
  | .non => some "NoneType"
  | .bl _ => some "bool"
  | .int _ => some "int"
  | .str _ => some "str"
  | .tup _ => some "tuple"
  | .lst _ => some "list"
  | .scr _ => none
  | .ref n => match μ[n]? with
    | some (.lst _) => some "list"
    | some (.dK _) => some "dict"
    | none => none
  | .ty _ => none
noncomputable def isSub (t T : String) : Option Bool :=
  if t ∈ ["NoneType", "bool", "int", "str", "tuple", "list", "dict"] ∧ T ∈ ["bool", "int", "str", "tuple", "list", "dict"] then some (t == T || (t == "bool" && T == "int")) else none
theorem kit_all {K : PySem.W.Frag} {t T : String} {b : Bool} (h : isSub t T = some b) : PySem.W.kitOne K (.type t) (.type T) = some b := by
  unfold isSub at h
  split at h
  · rename_i hm
    obtain ⟨h1, h2⟩ := hm
    simp only [List.mem_cons, List.not_mem_nil, or_false] at h1 h2
    rcases h1 with rfl | rfl | rfl | rfl | rfl | rfl | rfl <;> rcases h2 with rfl | rfl | rfl | rfl | rfl | rfl <;> (cases h; kernel_rfl)
  · cases h
noncomputable def instF : List D → M D
  | [a, .ty T] => fun μ => match tyD μ a with
    | some t => (isSub t T).map fun b => (.bl b, μ)
    | none => none
  | _ => fail
theorem c_inst : CallR X (.builtin "isinstance") (rMA X.K instF) := fun pins s σ H xs us Q I r h => by
  obtain ⟨ι, μ, as, d, μ', R, ia, e, q⟩ := h
  unfold instF at e
  split at e
  · rename_i a T
    obtain ⟨v, v', rfl, i1, i2⟩ := isL2 ia
    cases is_ty i2
    split at e
    · rename_i t ht
      cases hk : isSub t T with
      | none => rw [hk] at e; cases e
      | some b =>
        rw [hk] at e; cases e
        have kit := kit_all (K := X.K) hk
        have fin := q ι H R.ext0 R _ (ofB b)
        have byTy : TyOf X.K H v (.type t) → wpAny (model X.prog X.w) X.A (call (.builtin "isinstance") us) (EP X pins σ Q) X.xe s := fun ty =>
          call_isinst pins s σ H _ us Q I r ⟨v, T, _, b, rfl, ty, kit, fin⟩
        cases a with
        | non => cases ht; cases is_non i1; exact byTy .non
        | bl x => cases ht; cases is_bl i1; exact byTy (.bl x)
        | int x => cases ht; cases is_int i1; exact byTy (.int x)
        | str x => cases ht; cases is_str i1; exact byTy (.str x)
        | ty n => cases ht
        | lst ds => cases ht; unfold Is at i1; obtain ⟨p, vs, rfl, h1, _⟩ := i1; exact byTy (.lst h1)
        | scr ns => cases ht
        | ref n =>
          unfold Is at i1
          obtain ⟨_, rfl⟩ := i1
          have ht : (match μ[n]? with | some (.lst _) => some "list" | some (.dK _) => some "dict" | none => none) = some t := ht
          split at ht
          · rename_i ds hq; cases ht; obtain ⟨u, h1, vs, rfl, h2⟩ := R.obj n _ hq; exact byTy (.lst h1)
          · rename_i ds hq; cases ht; obtain ⟨u, h1, vs, rfl, h2⟩ := R.obj n _ hq; exact byTy (.dK h1)
          · cases ht
        | tup ds =>
          cases ht
          unfold Is at i1
          obtain ⟨p, vs, rfl, h1, h2⟩ := i1
          obtain ⟨its, _, ⟨o, g1, g2, _⟩, _⟩ := I.tuple h1
          obtain ⟨u1, u2, rfl, r1, r2⟩ := Vals.two r
          cases r1
          cases r2
          exact PySem.W.kia_one PySem.W.kitx_tuple I.kIn ⟨o, g1, g2⟩ kit (fun z => nomatch z) fun tk => ⟨.bl b, H, I.tok _, rfl, fin⟩
    · cases e
  · cases e
noncomputable def intF : List D → M D
  | [.int i] => ret (.int i)
  | [.bl b] => ret (.int (if b then 1 else 0))
  | _ => fail
theorem c_int : CallR X (.type "int") (rMA X.K intF) := fun pins s σ H xs us Q I r h => by
  obtain ⟨ι, μ, as, d, μ', R, ia, e, q⟩ := h
  refine call_int1 pins s σ H xs us Q I r ?_
  unfold intF at e
  split at e
  · obtain ⟨v, rfl, i1⟩ := isL1 ia; cases e; cases is_int i1; exact .inl ⟨_, rfl, q ι H R.ext0 R _ (ofI _)⟩
  · obtain ⟨v, rfl, i1⟩ := isL1 ia; cases e; cases is_bl i1; exact .inr ⟨_, rfl, q ι H R.ext0 R _ (ofI _)⟩
  · cases e
noncomputable def tupleF : List D → M D
  | [.tup ds] => ret (.tup ds)
  | [d] => bnd (asList d) fun ds => ret (.tup ds)
  | _ => fail
theorem c_tuple : CallR X (.type "tuple") (rMA X.K tupleF) := fun pins s σ H xs us Q I r h => by
  obtain ⟨ι, μ, as, d, μ', R, ia, e, q⟩ := h
  unfold tupleF at e
  split at e
  · obtain ⟨v, rfl, i1⟩ := isL1 ia
    cases e
    have i2 := i1
    unfold Is at i1
    obtain ⟨p, vs, rfl, h1, h2⟩ := i1
    exact call_tupleT pins s σ H _ us Q I r ⟨p, vs, rfl, h1, q ι H R.ext0 R _ i2⟩
  · obtain ⟨v, rfl, i1⟩ := isL1 ia
    obtain ⟨ds, μ1, e1, e2⟩ := bnd_some e
    obtain ⟨hm, p, vs, rfl, h1, h2⟩ := asList_sq R i1 e1
    subst hm
    cases e2
    obtain ⟨u, rfl, ru⟩ := Vals.one r
    cases ru
    obtain ⟨its, rv, pl, hz⟩ := I.list h1
    refine PySem.call_tuple_list pl.isList (fun h' hk => ?_) (by rw [List.size_toArray, ← rv.length]; exact hz)
    have I1 : Inv X pins σ H { s with heap := h' } := I.kept (t' := s.toks) hk
    have I2 : Inv X pins σ (upd H h'.objs.size (.tup vs)) { s with heap := h'.push { cls := .type "tuple", data := .seq its.toArray } } := I1.laid (t' := s.toks) (o := .tup vs) (fun b ob q => Heap.get?_push_of_some _ q) (Nat.le_refl _) ⟨hz, its, rv, PyProof.Rows.IsTup.new _ _⟩
    exact ⟨.ref h'.objs.size, _, I2, rfl, laidT R h2 q _ (I1.hok.fresh (Nat.le_refl _))⟩
  · cases e
end
end Mi
namespace Mi
open PySem L2
section
variable {X : Cx} {e a b c o i f tg : Expr} {es : List Expr} {pos apos cpos : Pos}
theorem tE_chain {K : PySem.W.Frag} {g g' : D → D → M D} {ma mb mc : Sl → M D} {σ : St} {H : Hp} {Q : VK} (h : tE K (mChain g g' ma mb mc) σ H Q) : tChain (rM K g) (rM K g') (tE K ma) (tE K mb) (tE K mc) σ H Q := by
  obtain ⟨ι, μ, τ, d, μ', R, S, e, q⟩ := h
  obtain ⟨x, μ1, e1, ee1⟩ := bnd_some e
  obtain ⟨y, μ2, e2, ee2⟩ := bnd_some ee1
  obtain ⟨z, μ3, e3, ee3⟩ := bnd_some ee2
  obtain ⟨k, μ4, e4, ee4⟩ := bnd_some ee3
  obtain ⟨hz, hm⟩ := asB_some e4
  subst hm
  subst hz
  refine ⟨ι, μ, τ, x, μ1, R, S, e1, fun ι1 H1 E1 R1 v1 i1 => ⟨ι1, μ1, τ, y, μ2, R1, S.ext E1, e2, fun ι2 H2 E2 R2 v2 i2 => ?_⟩⟩
  refine ⟨ι2, μ2, x, y, _, _, R2, i1.ext E2, i2, e3, fun ι3 H3 E3 R3 v3 i3 => ⟨k, is_bl i3, ?_⟩⟩
  have E13 := (E1.trans E2).trans E3
  cases k with
  | false => cases ee4; exact q ι3 H3 E13 R3 _ (ofB _)
  | true =>
    obtain ⟨w, μ5, e5, ee5⟩ := bnd_some ee4
    exact ⟨ι3, _, τ, w, μ5, R3, S.ext E13, e5, fun ι4 H4 E4 R4 v4 i4 => ⟨ι4, μ5, y, w, d, μ', R4, i2.ext (E3.trans E4), i4, ee5, fun ι5 H5 E5 R5 => q ι5 H5 ((E13.trans E4).trans E5) R5⟩⟩
theorem re_chain {op op' : CmpOp} {g g' : D → D → M D} {ma mb mc : Sl → M D} (ho : OpR X (compareOp op) (rM X.K g)) (ho' : OpR X (compareOp op') (rM X.K g')) (ha : RE X a ma) (hb : RE X b mb) (hc : RE X c mc) (hm : lastMarks [op, op'] [b, c] = false := by with_unfolding_all rfl) :
    RE X (.Compare a [op, op'] [b, c] pos) (mChain g g' ma mb mc) := RE.wk (pe_chain ho ho' ha.pe hb.pe hc.pe hm) fun _ _ _ h => tE_chain h
theorem re_bltn {x : Str} {n : String} (hm : X.mg x = none) (hv : bootBuiltins x = some (.type n)) (hg : Gl X x := by rfl) (hn : x ≠ "__name__" := by decide) (hdb : (x == ("__debug__" : Str)) = false := by decide) : RE X (.Name x pos) (mC (.ty n)) :=
  re_c (t := fun _ _ _ => True) (pe_bltn (v := .ty n) hg hm hv rfl hn hdb) fun _ _ _ => by unfold Is; rfl
noncomputable def guardL (d : D) : M Unit := bnd (asList d) fun _ => ret ()
noncomputable def mMethL (g : D → List D → M D) (mo : Sl → M D) (ma : Sl → M (List D)) : Sl → M D := fun τ => bnd (mo τ) fun x => bnd (guardL x) fun _ => bnd (ma τ) fun xs => g x xs
noncomputable def rMM (K : PySem.W.Frag) (g : D → List D → M D) : V → List V → Hp → VK → Prop := fun x xs H Q => ∃ ι μ a as d μ', RelH K ι μ H ∧ Is K ι μ.length H a x ∧ IsL K ι μ.length H as xs ∧ g a as μ = some (d, μ') ∧
  Aft K ι μ H μ' fun ι' H' => ∀ v, Is K ι' μ'.length H' d v → Q v H'
theorem guardL_some {K : PySem.W.Frag} {ι : Nat → Addr} {μ μ' : Mh} {H : Hp} {d : D} {v : V} {u : Unit} (R : RelH K ι μ H) (i : Is K ι μ.length H d v) (e : guardL d μ = some (u, μ')) : μ' = μ ∧ tyV K "list" v H := by
  obtain ⟨ds, μ1, e1, ee1⟩ := bnd_some e
  cases ee1
  obtain ⟨hm, p, vs, rfl, h1, h2⟩ := asList_sq R i e1
  exact ⟨hm, .inl ⟨rfl, vs, h1⟩⟩
theorem guardL_mu {μ μ' : Mh} {d : D} {u : Unit} (e : guardL d μ = some (u, μ')) : μ' = μ := by
  obtain ⟨ds, μ1, e1, ee1⟩ := bnd_some e
  cases ee1
  cases d with
  | lst _ => cases e1; rfl
  | scr _ => cases e1; rfl
  | ref n =>
    have e1 : (match μ[n]? with | some (.lst ds) => some (ds, μ) | _ => none) = some (ds, μ') := e1
    split at e1
    · cases e1; rfl
    · cases e1
  | _ => cases e1
theorem tE_methL {K : PySem.W.Frag} {g : D → List D → M D} {mo : Sl → M D} {ma : Sl → M (List D)} {σ : St} {H : Hp} {Q : VK} (h : tE K (mMethL g mo ma) σ H Q) : tBM K "list" (rMM K g) (tE K mo) (tL K ma) σ H Q := by
  obtain ⟨ι, μ, τ, d, μ', R, S, e, q⟩ := h
  obtain ⟨x, μ1, e1, ee1⟩ := bnd_some e
  obtain ⟨u, μ2, e2, ee2⟩ := bnd_some ee1
  obtain ⟨as, μ3, e3, ee3⟩ := bnd_some ee2
  have hm := guardL_mu e2
  subst hm
  refine ⟨ι, μ, τ, x, _, R, S, e1, fun ι1 H1 E1 R1 v1 i1 => ⟨(guardL_some R1 i1 e2).2, ?_⟩⟩
  refine ⟨ι1, _, τ, as, μ3, R1, S.ext E1, e3, fun ι2 H2 E2 R2 vs i2 => ?_⟩
  exact ⟨ι2, μ3, x, as, d, μ', R2, i1.ext E2, i2, ee3, fun ι3 H3 E3 R3 => q ι3 H3 ((E1.trans E2).trans E3) R3⟩
theorem re_methL {name : Str} {id : String} {g : D → List D → M D} {mo : Sl → M D} {ma : Sl → M (List D)} (slot : Slot "list" name id) (hty : typeOf (.builtin id) = pure (.type "method_descriptor")) (hm : MtR X id (rMM X.K g)) (ho : RE X o mo) (ha : RA X (e :: es) ma)
    (hbase : attributeBase o name X.env (eval o X.env) = eval o X.env := by rfl)
    (hfew : ((backTo cpos (starEach (e :: es) X.env)).all (fun x => !x.1) && (backToKw cpos (keywordEach [] X.env)).all (fun x => x.1.isSome)
      && decide ((e :: es).length + ([] : List Keyword).length + (if ([] : List Keyword).isEmpty then 0 else 1) < 30)) = true := by rfl)
    (hline : (apos.endLine == cpos.line) = true := by rfl) (hs : starEach (e :: es) X.env = (false, eval e X.env) :: starEach es X.env := by exact star_cons rfl) (hplain : (backTo cpos (starEach es X.env)).any (·.1) = false := by exact star_plain rfl) :
    RE X (.Call (.Attribute o name apos) (e :: es) [] cpos) (mMethL g mo ma) := RE.wk (pe_bm PySem.F.plainAttrs_list slot hty hm ho.pe ha.pe hbase hfew hline hs hplain) fun _ _ _ h => tE_methL h
noncomputable def updL (n : Nat) (k : List D → Option (D × List D)) : M D := fun μ => match μ[n]? with
  | some (.lst ds) => (k ds).map fun r => (r.1, μ.set n (.lst r.2))
  | _ => none
theorem updL_some {n : Nat} {k : List D → Option (D × List D)} {μ μ' : Mh} {d : D} (e : updL n k μ = some (d, μ')) : ∃ ds es, μ[n]? = some (.lst ds) ∧ k ds = some (d, es) ∧ μ' = μ.set n (.lst es) := by
  unfold updL at e
  split at e
  · rename_i ds hq
    cases hk : k ds with
    | none => rw [hk] at e; cases e
    | some r => rw [hk] at e; cases e; exact ⟨ds, r.2, hq, hk, rfl⟩
  · cases e
theorem upd_end {K : PySem.W.Frag} {ι : Nat → Addr} {μ : Mh} {H : Hp} {n : Nat} {d : D} {es : List D} {ws : List V} {v : V} {Q : VK} {ds : List D} (R : RelH K ι μ H) (hn : μ[n]? = some (.lst ds)) (iw : IsL K ι μ.length H es ws) (iv : Is K ι μ.length H d v)
    (q : Aft K ι μ H (μ.set n (.lst es)) fun ι' H' => ∀ v, Is K ι' (μ.set n (.lst es)).length H' d v → Q v H') : Q v (upd H (ι n) (.lst ws)) := by
  have hlt : n < μ.length := (List.getElem?_eq_some_iff.mp hn).1
  obtain ⟨E1, R1⟩ := R.changed (m := .lst es) (o := .lst ws) hlt ⟨ws, rfl, iw⟩
  exact q ι _ E1 R1 v (iv.ext E1)
noncomputable def appF : D → List D → M D
  | .ref n, [d] => updL n fun ds => if ds.length < sizeLine then some (.non, ds ++ [d]) else none
  | _, _ => fail
theorem m_append : MtR X "list.append" (rMM X.K appF) := fun pins s σ H x xs v us Q I rx rs h => by
  obtain ⟨ι, μ, a, as, d, μ', R, ia, ib, e, q⟩ := h
  unfold appF at e
  split at e
  · rename_i n y
    obtain ⟨ds, es, h1, h2, rfl⟩ := updL_some e
    split at h2
    · rename_i hl
      cases h2
      obtain ⟨w, rfl, iw⟩ := isL1 ib
      unfold Is at ia
      obtain ⟨_, rfl⟩ := ia
      obtain ⟨u, g1, vs, rfl, g2⟩ := R.obj n _ h1
      exact mt_append pins s σ H _ _ v us Q I rx rs ⟨_, vs, w, rfl, rfl, g1, by rw [g2.length]; exact hl, upd_end R h1 (g2.append (.one iw)) ofN q⟩
    · cases h2
  · cases e
noncomputable def setF : D → D → D → M Unit
  | .ref n, .int k, d => fun μ => match μ[n]? with
    | some (.lst ds) => (ixN ds.length k).map fun j => ((), μ.set n (.lst (ds.set j d)))
    | _ => none
  | _, _, _ => fail
noncomputable def bSub (mo mi : Sl → M D) : D → Sl → M Sl := fun d τ => bnd (mo τ) fun x => bnd (mi τ) fun y => bnd (setF x y d) fun _ => ret τ
noncomputable def keyD : D → Option Key
  | .int i => some (.inl i)
  | .str x => some (.inr x)
  | _ => none
noncomputable def asDict : D → M (Nat × List (Key × D))
  | .ref n => fun μ => match μ[n]? with
    | some (.dK l) => some ((n, l), μ)
    | _ => none
  | _ => fail
noncomputable def valD (l : List (Key × D)) (k : Key) : Option D := (l.find? fun kv => decide (kv.1 = k)).map (·.2)
noncomputable def putD (l : List (Key × D)) (k : Key) (d : D) : List (Key × D) :=
  if (l.any fun kv => decide (kv.1 = k)) = true then l.map (fun kv => if kv.1 = k then (kv.1, d) else kv) else l ++ [(k, d)]
noncomputable def newD : Sl → M D := fun _ μ => some (.ref μ.length, μ ++ [.dK []])
theorem re_dnew : RE X (.Dict [] [] pos) newD := RE.wk pe_dnewK fun σ H Q h => by
  obtain ⟨ι, μ, τ, d, μ', R, S, e, q⟩ := h
  cases e
  intro p hp
  obtain ⟨ι', E1, R1, e0⟩ := R.grown (m := .dK []) (o := .dK []) hp ⟨[], rfl, rfl⟩
  exact q ι' _ E1 R1 _ (by unfold Is; exact ⟨by simp, by rw [e0]⟩)
section
variable {K : PySem.W.Frag} {ι : Nat → Addr} {k : Nat} {H : Hp}
theorem KVs.val : ∀ {l : List (Key × D)} {r : List (Key × V)} (y : Key), KVs K ι k H l r → (valD l y = none ∧ valV r y = none) ∨ ∃ d v, valD l y = some d ∧ valV r y = some v ∧ Is K ι k H d v
  | [], _, y, h => by cases h; exact .inl ⟨rfl, rfl⟩
  | (z, d) :: l, _, y, h => by
    obtain ⟨v, r', rfl, h1, h2⟩ := h
    by_cases hz : z = y
    · subst hz
      exact .inr ⟨d, v, by simp [valD], by simp [valV], h1⟩
    · have := KVs.val y h2
      simpa [valD, valV, List.find?_cons, hz] using this
theorem KVs.any : ∀ {l : List (Key × D)} {r : List (Key × V)} (y : Key), KVs K ι k H l r → (l.any fun kv => decide (kv.1 = y)) = (r.any fun kv => decide (kv.1 = y))
  | [], _, y, h => by cases h; rfl
  | (z, d) :: l, _, y, h => by
    obtain ⟨v, r', rfl, h1, h2⟩ := h
    rw [List.any_cons, List.any_cons, KVs.any y h2]
theorem KVs.length : ∀ {l : List (Key × D)} {r : List (Key × V)}, KVs K ι k H l r → r.length = l.length
  | [], _, h => by cases h; rfl
  | (z, d) :: l, _, h => by
    obtain ⟨v, r', rfl, h1, h2⟩ := h
    rw [List.length_cons, List.length_cons, KVs.length h2]
theorem KVs.app : ∀ {l : List (Key × D)} {r : List (Key × V)} {y : Key} {d : D} {v : V}, KVs K ι k H l r → Is K ι k H d v → KVs K ι k H (l ++ [(y, d)]) (r ++ [(y, v)])
  | [], _, y, d, v, h, h1 => by cases h; exact ⟨v, [], rfl, h1, rfl⟩
  | (z, e) :: l, _, y, d, v, h, h1 => by
    obtain ⟨w, r', rfl, h2, h3⟩ := h
    exact ⟨w, _, rfl, h2, KVs.app h3 h1⟩
theorem KVs.mapPut : ∀ {l : List (Key × D)} {r : List (Key × V)} {y : Key} {d : D} {v : V}, KVs K ι k H l r → Is K ι k H d v → KVs K ι k H (l.map fun kv => if kv.1 = y then (kv.1, d) else kv) (r.map fun kv => if kv.1 = y then (kv.1, v) else kv)
  | [], _, y, d, v, h, h1 => by cases h; rfl
  | (z, e) :: l, _, y, d, v, h, h1 => by
    obtain ⟨w, r', rfl, h2, h3⟩ := h
    rw [List.map_cons, List.map_cons]
    by_cases hz : z = y
    · subst hz
      simp only [if_true]
      exact ⟨v, _, rfl, h1, KVs.mapPut h3 h1⟩
    · simp only [hz, if_false]
      exact ⟨w, _, rfl, h2, KVs.mapPut h3 h1⟩
theorem KVs.put {l : List (Key × D)} {r : List (Key × V)} {y : Key} {d : D} {v : V} (h : KVs K ι k H l r) (h1 : Is K ι k H d v) : KVs K ι k H (putD l y d) (putK r y v) := by
  unfold putD putK
  rw [h.any y]
  split
  · exact h.mapPut h1
  · exact h.app h1
theorem keyD_is {d : D} {y : Key} {v : V} (h : Is K ι k H d v) (e : keyD d = some y) : v = kV y := by
  cases d with
  | int i => cases e; unfold Is at h; exact h
  | str i => cases e; unfold Is at h; exact h
  | _ => cases e
theorem asDict_some {μ μ' : Mh} {d : D} {v : V} {r : Nat × List (Key × D)} (R : RelH K ι μ H) (i : Is K ι μ.length H d v) (e : asDict d μ = some (r, μ')) : μ' = μ ∧ d = .ref r.1 ∧ μ[r.1]? = some (.dK r.2) ∧ v = .ref (ι r.1) ∧ ∃ kvs, H (ι r.1) = some (.dK kvs) ∧ KVs K ι μ.length H r.2 kvs := by
  cases d with
  | ref n =>
    have e : (match μ[n]? with | some (.dK l) => some ((n, l), μ) | _ => none) = some (r, μ') := e
    split at e
    · rename_i l hq
      cases e
      unfold Is at i
      obtain ⟨u, h1, kvs, rfl, h2⟩ := R.obj n _ hq
      exact ⟨rfl, rfl, hq, i.2, kvs, h1, h2⟩
    · cases e
  | _ => cases e
end
noncomputable def dgetF (d y : D) : M D := bnd (asDict d) fun r => fun μ => ((keyD y).bind (valD r.2)).map fun v => (v, μ)
theorem re_dget {mo mi : Sl → M D} {k : Nat} (hr : Room k X.A) (ho : RE X o mo) (hi : RE X i mi) (hs : NoSl i := by exact fun _ _ => rfl) : RE X (.Subscript o i pos) (mOp dgetF mo mi) := RE.wk (pe_dget (hu_of hr) ho.pe hi.pe hs) fun σ H Q h => by
  obtain ⟨ι, μ, τ, d, μ', R, S, e, q⟩ := h
  obtain ⟨x, μ1, e1, ee1⟩ := bnd_some e
  obtain ⟨y, μ2, e2, ee2⟩ := bnd_some ee1
  obtain ⟨r, μ3, e3, ee3⟩ := bnd_some ee2
  refine ⟨ι, μ, τ, x, μ1, R, S, e1, fun ι1 H1 E1 R1 v1 i1 => ⟨ι1, μ1, τ, y, μ2, R1, S.ext E1, e2, fun ι2 H2 E2 R2 v2 i2 => ?_⟩⟩
  obtain ⟨hm, _, g1, rfl, kvs, g2, g3⟩ := asDict_some R2 (i1.ext E2) e3
  subst hm
  cases hk : keyD y with
  | none => rw [hk] at ee3; cases ee3
  | some ky =>
    rw [hk] at ee3
    cases keyD_is i2 hk
    rcases g3.val ky with ⟨z1, _⟩ | ⟨dd, vv, z1, z2, z3⟩
    · rw [Option.bind_some, z1] at ee3; cases ee3
    · rw [Option.bind_some, z1] at ee3; cases ee3
      exact ⟨_, vv, rfl, by rw [← z2]; exact DGet.k g2, q ι2 H2 (E1.trans E2) R2 vv z3⟩
noncomputable def guardD (d : D) : M Unit := bnd (asDict d) fun _ => ret ()
theorem guardD_mu {μ μ' : Mh} {d : D} {u : Unit} (e : guardD d μ = some (u, μ')) : μ' = μ ∧ ∃ r, asDict d μ = some (r, μ) := by
  obtain ⟨r, μ1, e1, ee1⟩ := bnd_some e
  cases ee1
  cases d with
  | ref n =>
    have e2 : (match μ[n]? with | some (.dK l) => some ((n, l), μ) | _ => none) = some (r, μ') := e1
    split at e2
    · cases e2; exact ⟨rfl, _, e1⟩
    · cases e2
  | _ => cases e1
noncomputable def dinF (neg : Bool) (y d : D) : M D := bnd (asDict d) fun r => fun μ => (keyD y).map fun k => (.bl (if neg then !(valD r.2 k).isSome else (valD r.2 k).isSome), μ)
theorem tE_din {K : PySem.W.Frag} {mi mo : Sl → M D} {σ : St} {H : Hp} {Q : VK} (h : tE K (mOp (dinF false) mi mo) σ H Q) : tDIn (tE K mi) (tE K mo) σ H Q := by
  obtain ⟨ι, μ, τ, d, μ', R, S, e, q⟩ := h
  obtain ⟨y, μ1, e1, ee1⟩ := bnd_some e
  obtain ⟨x, μ2, e2, ee2⟩ := bnd_some ee1
  obtain ⟨r, μ3, e3, ee3⟩ := bnd_some ee2
  refine ⟨ι, μ, τ, y, μ1, R, S, e1, fun ι1 H1 E1 R1 v1 i1 => ⟨ι1, μ1, τ, x, μ2, R1, S.ext E1, e2, fun ι2 H2 E2 R2 v2 i2 => ?_⟩⟩
  obtain ⟨hm, _, g1, rfl, kvs, g2, g3⟩ := asDict_some R2 i2 e3
  subst hm
  cases hk : keyD y with
  | none => rw [hk] at ee3; cases ee3
  | some ky =>
    rw [hk] at ee3
    cases ee3
    cases keyD_is (i1.ext E2) hk
    refine ⟨_, valV kvs ky, rfl, DGet.k g2, ?_⟩
    rcases g3.val ky with ⟨z1, z2⟩ | ⟨dd, vv, z1, z2, z3⟩
    · rw [z2]; rw [z1] at q; exact q ι2 H2 (E1.trans E2) R2 _ (ofB _)
    · rw [z2]; rw [z1] at q; exact q ι2 H2 (E1.trans E2) R2 _ (ofB _)
theorem re_din {mo mi : Sl → M D} {k : Nat} (hr : Room k X.A) (hi : RE X i mi) (ho : RE X o mo) (h1 : behindInMarks .In o = false := by first | exact nobehind _ (by decide) (by decide) | rfl) : RE X (.Compare i [.In] [o] pos) (mOp (dinF false) mi mo) := RE.wk (pe_cmp (pc_din (hu_of hr) hi.pe ho.pe) h1) fun _ _ _ h => tE_din h
noncomputable def sDput (mo mi mv : Sl → M D) : Sl → M (Fl × Sl) := fun τ => bnd (mv τ) fun v => bnd (mo τ) fun x => bnd (mi τ) fun y => bnd (asDict x) fun r => fun μ => match keyD y with
  | some k => if r.2.length < sizeLine then some ((.next, τ), μ.set r.1 (.dK (putD r.2 k v))) else none
  | none => none
theorem rs_dput {value : Expr} {pos' : Pos} {mo mi mv : Sl → M D} {k : Nat} (hr : Room k X.A) (ho : RE X o mo) (hi : RE X i mi) (hv : RE X value mv) (hs : swapsWith value (some (.Subscript o i pos')) pos.line X.env = pure false := by rfl) : RS X (.Assign [.Subscript o i pos'] value pos) (sDput mo mi mv) := RS.wk (ps_dput (hu_of hr) ho.pe hi.pe hv.pe hs) fun Dn σ H h => by
  obtain ⟨ι, μ, τ, f, τ', μ', R, S, e, q⟩ := h
  obtain ⟨v, μ1, e1, ee1⟩ := bnd_some e
  obtain ⟨x, μ2, e2, ee2⟩ := bnd_some ee1
  obtain ⟨y, μ3, e3, ee3⟩ := bnd_some ee2
  obtain ⟨r, μ4, e4, ee4⟩ := bnd_some ee3
  refine ⟨ι, μ, τ, v, μ1, R, S, e1, fun ι1 H1 E1 R1 v1 i1 => ⟨ι1, μ1, τ, x, μ2, R1, S.ext E1, e2, fun ι2 H2 E2 R2 v2 i2 => ⟨ι2, μ2, τ, y, μ3, R2, S.ext (E1.trans E2), e3, fun ι3 H3 E3 R3 v3 i3 => ?_⟩⟩⟩
  obtain ⟨hm, hx, g1, hv2, kvs, g2, g3⟩ := asDict_some R3 (i2.ext E3) e4
  subst hm
  have E13 := (E1.trans E2).trans E3
  cases hk : keyD y with
  | none => rw [hk] at ee4; cases ee4
  | some ky =>
    rw [hk] at ee4
    have ee4 : (if r.2.length < sizeLine then some ((Fl.next, τ), List.set μ4 r.1 (MO.dK (putD r.2 ky v))) else none) = some ((f, τ'), μ') := ee4
    split at ee4
    · rename_i hl
      cases ee4
      cases keyD_is i3 hk
      have hlt : r.1 < List.length μ4 := (List.getElem?_eq_some_iff.mp g1).1
      obtain ⟨E4, R4⟩ := R3.changed (m := .dK (putD r.2 ky v)) (o := .dK (putK kvs ky v1)) hlt ⟨_, rfl, g3.put (i1.ext (E2.trans E3))⟩
      exact ⟨_, _, hv2, DPut.k g2 (by rw [g3.length]; exact hl), q ι3 _ (E13.trans E4) R4 σ (S.ext (E13.trans E4))⟩
    · cases ee4
noncomputable def enumD : Nat → List D → List D
  | _, [] => []
  | k, d :: ds => .tup [.int k, d] :: enumD (k + 1) ds
theorem enumD_len : ∀ (k : Nat) (ds : List D), (enumD k ds).length = ds.length
  | _, [] => rfl
  | k, _ :: ds => by unfold enumD; simp [enumD_len (k + 1) ds]
theorem enumD_get : ∀ (k : Nat) (ds : List D) (j : Nat), (enumD k ds)[j]? = (ds[j]?).map fun d => .tup [.int ((k + j : Nat) : Int), d]
  | _, [], j => by simp [enumD]
  | k, d :: ds, 0 => by simp [enumD]
  | k, d :: ds, j + 1 => by
    unfold enumD
    rw [List.getElem?_cons_succ, List.getElem?_cons_succ, enumD_get (k + 1) ds j]
    have : k + 1 + j = k + (j + 1) := by omega
    rw [this]
noncomputable def frozenL : List D → M (List D)
  | [.lst ds] => ret ds
  | [.scr ns] => ret (ns.map D.int)
  | _ => fail
noncomputable def mEnum (m : Sl → M (List D)) : Sl → M (List D) := fun τ => bnd (m τ) fun as => bnd (frozenL as) fun ds => ret (enumD 0 ds)
theorem itm_enum {K : PySem.W.Frag} {ι : Nat → Addr} {μ : Mh} {H : Hp} {vs : List V} {ds : List D} {Cond : PySem.W.Frag → Hp → Prop} (st : ∀ ι' (μ' : Mh) H', Ext ι μ.length H ι' μ'.length H' → RelH K ι' μ' H' → Cond K H') (i : IsL K ι μ.length H ds vs) :
    ItM K (ItP K vs.length (enSrc vs) Cond) (enumD 0 ds) ι μ H := by
  intro ι' μ' H' E R
  have h := st ι' μ' H' E R
  rw [enumD_len, ← i.length]
  refine ⟨fun j hj => ⟨hj, h⟩, ⟨rfl, h⟩, fun j x H2 d hd y => ?_⟩
  obtain ⟨T, hT, rfl, rfl⟩ := y
  obtain ⟨E2, R2⟩ := R.laid (.tup (enSrc vs j)) hT
  refine ⟨E2, R2, ?_⟩
  rw [enumD_get] at hd
  cases q : ds[j]? with
  | none => rw [q] at hd; cases hd
  | some d0 =>
    rw [q] at hd
    cases hd
    obtain ⟨w, ew, iw⟩ := (i.ext E).get q
    have e0 : vs.getD j V.non = w := by simp [List.getD, ew]
    have es : enSrc vs j = [.int j, w] := by unfold enSrc; rw [e0]
    have key : IsL K ι' (List.length μ') (upd H' T (.tup (enSrc vs j))) [.int ((0 + j : Nat) : Int), d0] [.int j, w] := .cons (by unfold Is; simp) (.one (iw.ext E2))
    unfold Is
    exact ⟨T, _, rfl, SqT.of upd_same, (congrArg (IsL K ι' (List.length μ') (upd H' T (.tup (enSrc vs j))) [.int ((0 + j : Nat) : Int), d0]) es).mpr key⟩
theorem ri_enumL {p tpos : Pos} {k0 : Nat} {m : Sl → M (List D)} (hm : X.mg "enumerate" = none) (ha : RA X [a] m) (hg : Gl X "enumerate" := by rfl) (hs : starEach [a] X.env = [(false, eval a X.env)] := by rfl) : RI X (.Tuple es k0 tpos) (.Call (.Name "enumerate" p) [a] [] pos) (mEnum m) :=
  RI.wk (pi_enumL hg hm ha.pe hs) fun σ H R q => by
    obtain ⟨ι, μ, τ, ds, μ', R0, S, e, q⟩ := q
    obtain ⟨xs, μ1, e1, ee1⟩ := bnd_some e
    obtain ⟨zs, μ2, e2, ee2⟩ := bnd_some ee1
    cases ee2
    refine ⟨ι, μ, τ, xs, μ1, R0, S, e1, fun ι1 H1 E1 R1 vs i1 => ?_⟩
    unfold frozenL at e2
    split at e2
    · cases e2
      obtain ⟨v, rfl, i2⟩ := isL1 i1
      unfold Is at i2
      obtain ⟨p, ws, rfl, h1, hn, h2⟩ := i2
      exact ⟨p, ws, rfl, SqL.of h1, q ι1 H1 E1 R1 _ (itm_enum (fun ι' μ' H' E _ => SqL.of (E.keep p _ h1 hn)) h2)⟩
    · cases e2
      obtain ⟨v, rfl, i2⟩ := isL1 i1
      unfold Is at i2
      obtain ⟨p, rfl, h1⟩ := i2
      exact ⟨p, _, rfl, h1.sq, q ι1 H1 E1 R1 _ (itm_enum (fun ι' μ' H' E _ => (scr_ext E h1).sq) (IsL.ofInts _))⟩
    · cases e2
end
end Mi
namespace Mi
open PySem L2
theorem boot_len : bootBuiltins "len" = some (.builtin "len") := by decide +kernel
theorem boot_isinstance : bootBuiltins "isinstance" = some (.builtin "isinstance") := by decide +kernel
theorem boot_max : bootBuiltins "max" = some (.builtin "max") := by decide +kernel
theorem boot_int : bootBuiltins "int" = some (.type "int") := by decide +kernel
theorem boot_bool : bootBuiltins "bool" = some (.type "bool") := by decide +kernel
theorem boot_tuple : bootBuiltins "tuple" = some (.type "tuple") := by decide +kernel
theorem boot_list : bootBuiltins "list" = some (.type "list") := by decide +kernel
theorem boot_set : bootBuiltins "set" = some (.type "set") := by decide +kernel
noncomputable def fuel : Nat := 1048576
structure Fn (P : Program) (w : World) (K : PySem.W.Frag) (mg : Str → Option Value) (base : Heap) (x : Str) (ps : List Str) (k : Nat) (φ : List D → M D) : Prop where
  len : ∀ ds μ r, φ ds μ = some r → ds.length = ps.length
  ex : ∃ f fd, FnOk P w K mg base CX0 k f fd ps (spM K ps.length φ) ∧ mg x = some (.ref f) ∧ PySem.W.keepIn K (.ref f) = true ∧ Binds K fd ps []
noncomputable def Glo (K : PySem.W.Frag) (mg : Str → Option Value) (x : Str) (d : D) : Prop := ∃ u v, mg x = some u ∧ RelV v u ∧ ∀ ι k H, Is K ι k H d v
section
variable {X : Cx} {e : Expr} {es : List Expr} {pos p : Pos}
theorem re_fn {x : Str} {ps : List Str} {k j : Nat} {φ : List D → M D} {m : Sl → M (List D)} (F : Fn X.prog X.w X.K X.mg X.base x ps k φ) (hr : Room j X.A) (ha : RA X (e :: es) m) (hkj : k ≤ j := by decide) (hg : Gl X x := by rfl) (hdb : (x == ("__debug__" : Str)) = false := by decide)
    (he : starEach (e :: es) X.env = (false, eval e X.env) :: starEach es X.env := by exact star_cons rfl) (hpl : (backTo pos (starEach es X.env)).any (·.1) = false := by exact star_plain rfl) : RE X (.Call (.Name x p) (e :: es) [] pos) (mDisp φ m) := by
  obtain ⟨len, f, fd, F, hm, hk, hb⟩ := F
  exact re_call F (hr.mono hkj) hm hk hb len ha hg hdb he hpl
theorem re_gl {x : Str} {d : D} (h : Glo X.K X.mg x d) (hg : Gl X x := by rfl) (hdb : (x == ("__debug__" : Str)) = false := by decide) : RE X (.Name x pos) (mC d) := by
  obtain ⟨u, v, hm, r, hd⟩ := h
  exact re_glob hm r hd hg hdb
end
theorem fn_of' {P : Program} {w : World} {K : PySem.W.Frag} {mg : Str → Option Value} {base : Heap} {x qual : Str} {st : Stmt} {f : Addr} {fd : FuncData} {N ps : List Str} {k : Nat} {φ : List D → M D} {mb : Sl → M (Fl × Sl)} (F : Fun K x qual st f fd) (S : FnScope N ps (defScope st)) (hm : mg x = some (.ref f)) (hb : Binds K fd ps [])
    (body : ∀ (cdv : Value) (A : Around) (outer : List Env) (s : Shared) (H : Hp) (E : XK), Room k (A.deeper (PyProof.Rows.envOfC qual (defScope st) s.heap.objs.size f cdv)) → RSs (cxOf CX0 P w K mg base N qual (defScope st) f cdv A outer s H E).nox (defBody st) mb)
    (len : ∀ ds μ r, φ ds μ = some r → ds.length = ps.length)
    (run : ∀ ds μ d μ', φ ds μ = some (d, μ') → ∃ fl τ2 μ2, mb (startD N.length ds) μ = some ((fl, τ2), μ2) ∧ (fl = .next ∨ ∃ d, fl = .rt d) ∧ Tells μ μ2 μ' (resD fl) d) : Fn P w K mg base x ps (k + 1) φ :=
  ⟨len, f, fd, fn_mirror F S rfl body run, hm, F.kp, hb⟩
theorem tells_drop {μ g : Mh} {d : D} (h : Cl μ.length d) : Tells μ (μ ++ g) μ d d := ⟨⟨g, rfl⟩, Nat.le_refl _, fun _ _ e => .inl e, .inl ⟨rfl, h⟩⟩
end Mi
namespace Mi
open PySem L2
section
variable {X : Cx} {e a b c o i : Expr} {es : List Expr} {pos p apos cpos : Pos}
structure KTab (w : World) (K : PySem.W.Frag) (mg : Str → Option Value) (x : Str) (t : Str → Option D) : Prop where
  ex : ∃ ad, mg x = some (.ref ad) ∧ ∀ y : Str, ∃ r, KGet w.params K ad (.str y) r ∧ ((t y = none ∧ r = none) ∨ ∃ d v, t y = some d ∧ r = some v ∧ ∀ ι k H, Is K ι k H d v)
structure RJ (X : Cx) (es : List Expr) (ms : List (Sl → M D)) : Prop where
  pe : PJ X es (ms.map (tE X.K))
end
end Mi
namespace L2
open PySem PySem.Spec PyProof.Rows Sem
section
variable {prog : Program} {w : World} {A : Around} {E : Value → Shared → Prop} {s : Shared}
end
end L2
namespace L2
open PySem PySem.Spec PyProof.Rows
section
variable {X : Cx} {es : List Expr} {k0 : Nat} {tpos : Pos}
end
end L2
namespace Mi
open PySem L2
section
variable {X : Cx} {a : Expr} {es : List Expr} {pos : Pos}
end
end Mi
namespace L2
open PySem PySem.Spec PyProof.Rows Sem
noncomputable def TwoAt (h : Heap) (T : Addr) (a b : Value) : Prop := ∃ n, h.get? T = some { cls := .type "tuple", data := .seq #[a, b] n }
section
variable {prog : Program} {w : World} {A : Around} {E : Value → Shared → Prop} {s : Shared}
structure ZApart (z TI TO i1 i2 : Addr) (f1 f2 : List Addr) : Prop where
  zTI : z ≠ TI
  zTO : z ≠ TO
  io : TI ≠ TO
  z1 : z ∉ f1
  z2 : z ∉ f2
  o1 : TO ∉ f1
  o2 : TO ∉ f2
  n1 : TI ≠ i1
  n2 : TI ≠ i2
  m1 : i1 ∈ f1
  m2 : i2 ∈ f2
  x12 : i1 ∉ f2
  x21 : i2 ∉ f1
end
end L2
namespace L2
open PySem PySem.Spec PyProof.Rows
section
variable {X : Cx} {es : List Expr} {k0 : Nat} {tpos : Pos}
end
end L2
namespace L2
open PySem PySem.Spec PyProof.Rows
section
variable {X : Cx} {es : List Expr} {k0 : Nat} {tpos : Pos}
end
end L2
namespace Mi
open PySem L2
section
variable {X : Cx} {a b : Expr} {es : List Expr} {pos : Pos}
end
end Mi
namespace L2
open PySem PySem.Spec PyProof.Rows Sem
section
variable {prog : Program} {w : World} {A : Around} {E : Value → Shared → Prop} {s : Shared}
end
end L2
namespace L2
open PySem PySem.Spec PyProof.Rows Sem
section
variable {prog : Program} {w : World} {A : Around} {E : Value → Shared → Prop} {s : Shared}
set_option maxHeartbeats 2000000 in
theorem made_by {T nid iid : String} {args : List Value} {Q Q₁ : Value → Shared → Prop} (ft : TypeCalled T nid iid) (ok : checkTypeCall T ⟨args, []⟩ = pure ())
    (new : codeAny (model prog w) A.in1 (.call (.builtin nid) ⟨.type T :: args, []⟩) (wants Q₁ E) s)
    (init : ∀ x s₁, Q₁ x s₁ → s₁.TypeIs x T ∧ codeAny (model prog w) A.in1 (.call (.builtin iid) ⟨x :: args, []⟩) (wants (fun r s₂ => r = .none ∧ Q x s₂) E) s₁) :
    wpAny (model prog w) A (call (.type T) args) Q E s := by
  have a1 := ft.notType
  have a2 := ft.canCreate
  have a3 := ft.made
  have a4 := ft.sub
  obtain ⟨c, tl, a5⟩ := ft.mro
  have step : codeAny (model prog w) A (.builtin "type.__call__" ⟨.type T :: args, []⟩) (wants Q E) s := by
    refine codeAny_builtin F.entry_type_call ?_
    rw [Around.under_plain (weight_type_call_type T args []) rfl]
    unfold Builtin.«type.__call__»
    iterate 3 (any_goals (first | assumption | wp_step))
    first | refine wpAny_of_eq ok ?_ | refine wpAny_bind (wpAny_of_eq ok ?_)
    repeat (any_goals (first | assumption | wp_step))
    refine codeAny_mono new fun r s₁ hr => ?_
    match r, hr with
    | .error e, hr => exact hr
    | .ok (.ret x), hr =>
      obtain ⟨ty, run⟩ := init x s₁ hr
      have b1 := ft.init.lookup
      have b2 := ft.init.bind x
      repeat (any_goals (first | assumption | wp_step))
      refine codeAny_mono run fun r₂ s₂ hr₂ => ?_
      match r₂, hr₂ with
      | .error e, hr₂ => exact hr₂
      | .ok (.ret y), hr₂ =>
        obtain ⟨ey, hq⟩ := hr₂
        subst ey
        repeat (any_goals (first | assumption | wp_step))
  exact wpAny_call (codeAny_of_tree (wpAny_pure ⟨Code.quiet_builtin _ (by decide +kernel), step⟩))
noncomputable abbrev freshSet (led : Bool) : Obj := { cls := .type "set", data := .set #[] 0 (.fresh 0 0 led) }
end
section
variable {X : Cx}
end
end L2
namespace Mi
open PySem L2
section
variable {X : Cx} {e : Expr} {pos p p2 pos2 : Pos}
end
end Mi
namespace Mi
open PySem L2
inductive How where
  | all | drop | frz
noncomputable def outD (μ2 : Mh) : How → D → D
  | .frz, .ref n => match μ2[n]? with
    | some (.lst ds) => .lst ds
    | _ => .ref n
  | _, d => d
noncomputable def outM (μ μ2 : Mh) : How → Mh
  | .all => μ2
  | _ => μ2.take μ.length
open Classical in
noncomputable def callF (hw : How) (n ps : Nat) (mb : Sl → M (Fl × Sl)) : List D → M D := fun ds μ => match mb (startD n ds) μ with
  | some ((fl, _), μ2) => if ds.length = ps ∧ (fl = .next ∨ ∃ d, fl = .rt d) ∧ Tells μ μ2 (outM μ μ2 hw) (resD fl) (outD μ2 hw (resD fl)) then some (outD μ2 hw (resD fl), outM μ μ2 hw) else none
  | none => none
theorem callF_some {hw : How} {n ps : Nat} {mb : Sl → M (Fl × Sl)} {ds : List D} {μ μ' : Mh} {d : D} (h : callF hw n ps mb ds μ = some (d, μ')) :
    ds.length = ps ∧ ∃ fl τ2 μ2, mb (startD n ds) μ = some ((fl, τ2), μ2) ∧ (fl = .next ∨ ∃ d, fl = .rt d) ∧ Tells μ μ2 μ' (resD fl) d := by
  unfold callF at h
  split at h
  · rename_i fl τ2 μ2 e
    split at h
    · rename_i c
      cases h
      exact ⟨c.1, fl, τ2, μ2, e, c.2.1, c.2.2⟩
    · cases h
  · cases h
theorem callF_eq {hw : How} {n ps : Nat} {mb : Sl → M (Fl × Sl)} {ds : List D} {μ μ2 : Mh} {fl : Fl} {τ2 : Sl} (e : mb (startD n ds) μ = some ((fl, τ2), μ2)) (hl : ds.length = ps) (hf : fl = .next ∨ ∃ d, fl = .rt d) (t : Tells μ μ2 (outM μ μ2 hw) (resD fl) (outD μ2 hw (resD fl))) :
    callF hw n ps mb ds μ = some (outD μ2 hw (resD fl), outM μ μ2 hw) := by
  unfold callF
  rw [e]
  exact if_pos ⟨hl, hf, t⟩
theorem callF_pure {n ps : Nat} {mb : Sl → M (Fl × Sl)} {ds : List D} {μ g : Mh} {d : D} {τ2 : Sl} (e : mb (startD n ds) μ = some ((.rt d, τ2), μ ++ g)) (hl : ds.length = ps) (c : Cl μ.length d) : callF .drop n ps mb ds μ = some (d, μ) := by
  have t : outM μ (μ ++ g) .drop = μ := by show (μ ++ g).take μ.length = μ; rw [List.take_left]
  have h := callF_eq (hw := .drop) e hl (.inr ⟨d, rfl⟩) (by rw [t]; exact tells_drop c)
  rw [t] at h
  exact h
theorem callF_frz {n ps : Nat} {mb : Sl → M (Fl × Sl)} {ds es : List D} {μ g : Mh} {k : Nat} {τ2 : Sl} (e : mb (startD n ds) μ = some ((.rt (.ref k), τ2), μ ++ g)) (hl : ds.length = ps) (hk : μ.length ≤ k) (hg : (μ ++ g)[k]? = some (.lst es)) (c : ClL μ.length es) : callF .frz n ps mb ds μ = some (.lst es, μ) := by
  have t : outM μ (μ ++ g) .frz = μ := by show (μ ++ g).take μ.length = μ; rw [List.take_left]
  have o : outD (μ ++ g) .frz (resD (.rt (.ref k))) = .lst es := by
    show (match (μ ++ g)[k]? with | some (.lst ds) => D.lst ds | _ => .ref k) = _
    rw [hg]
  have h := callF_eq (hw := .frz) e hl (.inr ⟨_, rfl⟩) (by rw [t, o]; exact ⟨⟨g, rfl⟩, Nat.le_refl _, fun _ _ z => .inl z, .inr ⟨k, es, rfl, hg, hk, rfl, c⟩⟩)
  rw [t, o] at h
  exact h
theorem fn_self (hw : How) {P : Program} {w : World} {K : PySem.W.Frag} {mg : Str → Option Value} {base : Heap} {x qual : Str} {st : Stmt} {f : Addr} {fd : FuncData} {N ps : List Str} {k : Nat} {mb : Sl → M (Fl × Sl)} (F : Fun K x qual st f fd) (S : FnScope N ps (defScope st)) (hm : mg x = some (.ref f)) (hb : Binds K fd ps [])
    (body : ∀ (cdv : Value) (A : Around) (outer : List Env) (s : Shared) (H : Hp) (E : XK), Room k (A.deeper (PyProof.Rows.envOfC qual (defScope st) s.heap.objs.size f cdv)) → RSs (cxOf CX0 P w K mg base N qual (defScope st) f cdv A outer s H E).nox (defBody st) mb) :
    Fn P w K mg base x ps (k + 1) (callF hw N.length ps.length mb) :=
  fn_of' F S hm hb body (fun ds μ r h => (callF_some (d := r.1) (μ' := r.2) h).1) (fun ds μ d μ' h => (callF_some h).2)
theorem fn_never {P : Program} {w : World} {K : PySem.W.Frag} {mg : Str → Option Value} {base : Heap} {x qual : Str} {st : Stmt} {f : Addr} {fd : FuncData} {ps : List Str} {k : Nat} (F : Fun K x qual st f fd) (hm : mg x = some (.ref f)) (hb : Binds K fd ps []) : Fn P w K mg base x ps k (fun _ => fail) := by
  refine ⟨(fun ds μ r h => absurd (show (none : Option (D × Mh)) = some r from h) (by simp)), ⟨f, fd, ⟨fun vs H Q E h => ?_, fun A outer s H args us vs Q E _ _ _ _ h => ?_⟩, hm, F.kp, hb⟩⟩
  · obtain ⟨_, ι, μ, as, d, μ', _, _, e, _⟩ := h
    cases e
  · obtain ⟨_, ι, μ, as, d, μ', _, _, e, _⟩ := h
    cases e
end Mi
namespace Mi
open PySem L2
section
variable {P : Program} {w : World} {K : PySem.W.Frag} {mg : Str → Option Value} {base h : Heap} {x : Str}
noncomputable def strsOf : List Value → Option (List Str)
  | [] => some []
  | .str s _ :: r => (strsOf r).map (s :: ·)
  | _ :: _ => none
noncomputable def TupLit (K : PySem.W.Frag) (p : Addr) (xs : List Str) : Prop := ∃ od its n sl, K.lookup p = some ⟨.type "tuple", od, .seq its n, sl⟩ ∧ strsOf its.toList = some xs
theorem glo_int {i : Int} {t : Tok} (X : K.In h) (G : h.Ns mainGlobals mg) (a : PySem.W.nsIn K mainGlobals x = some (some (.int i t))) : Glo K mg x (.int i) :=
  ⟨_, .int i, PySem.W.mg_of X G a, ⟨t, rfl⟩, fun _ _ _ => by unfold Is; rfl⟩
structure Df (K : PySem.W.Frag) (x : Str) (st : Stmt) (f : Addr) (fd : FuncData) : Prop where
  a : PySem.W.nsIn K mainGlobals x = some (some (.ref f))
  F : Fun K x x st f fd
theorem df_mk {st : Stmt} {f : Addr} {oc : Value} {od an : Option Addr} {osl : Array (Option Value)} {kV doc pm cdv ct : Value} (a : PySem.W.nsIn K mainGlobals x = some (some (.ref f))) (l : K.lookup f = some ⟨oc, od, .func (PySem.W.fnOf x x (defArgs st) (defBody st) (defScope st) .none kV doc pm an cdv ct), osl⟩)
    (c : PySem.W.codeIn K cdv x = true) (k : PySem.W.keepIn K (.ref f) = true) : ∃ f fd, Df K x st f fd := ⟨f, _, a, fun_mk l c k⟩
theorem fok_self (hw : How) {qual : Str} {st : Stmt} {f : Addr} {fd : FuncData} {N ps : List Str} {k : Nat} {mb : Sl → M (Fl × Sl)} (F : Fun K x qual st f fd) (S : FnScope N ps (defScope st))
    (body : ∀ (cdv : Value) (A : Around) (outer : List Env) (s : Shared) (H : Hp) (E : XK), Room k (A.deeper (PyProof.Rows.envOfC qual (defScope st) s.heap.objs.size f cdv)) → RSs (cxOf CX0 P w K mg base N qual (defScope st) f cdv A outer s H E).nox (defBody st) mb) :
    FnOk P w K mg base CX0 (k + 1) f fd ps (spM K ps.length (callF hw N.length ps.length mb)) :=
  fn_mirror F S rfl body (fun ds μ d μ' h => (callF_some h).2)
noncomputable def spTop (K : PySem.W.Frag) : Sp := fun vs H Q _ => ∃ (a : Addr) (ns : List Int), vs = [.ref a] ∧ ScrAt K H a (ns.map V.int) ∧ ns.length ≤ 63 ∧ ∀ H', Q (.bl true) H'
theorem top_of {k : Nat} {f : Addr} {fd : FuncData} {φ : List D → M D} (F : FnOk P w K mg base CX0 k f fd ["_law_script"] (spM K 1 φ)) (hφ : ∀ ns : List Int, ns.length ≤ 63 → ∃ μ', φ [.scr ns] [] = some (.bl true, μ')) : FnOk P w K mg base CX0 k f fd ["_law_script"] (spTop K) :=
  F.imp fun vs H Q E q => by
    obtain ⟨a, ns, rfl, s, hl, q⟩ := q
    obtain ⟨μ', e⟩ := hφ ns hl
    refine ⟨rfl, fun _ => a, [], [.scr ns], .bl true, μ', ⟨fun i j h => absurd h (Nat.not_lt_zero _), fun n o e => by simp at e⟩, .one (by unfold Is; exact ⟨a, rfl, s⟩), e, fun ι2 H2 E2 R2 v i => ?_⟩
    unfold Is at i
    rw [i]
    exact q H2
theorem scr_of_only {H : Hp} {a : Addr} {xs : List V} (o : Only H) (s : SqL K H a xs) : ScrAt K H a xs := by
  rcases s with z | z
  · rcases z with z | ⟨p, z⟩
    · rcases o a with q | ⟨p, ys, q⟩
      · rw [q] at z; cases z
      · rw [q] at z; cases z
    · exact .inl ⟨p, z⟩
  · exact .inr z
end
theorem walkM {l : PySem.W.OpenLaw} {q : Program} {loose : List Str} {XP : (Str → Option Value) → Heap → Prop} {YP : World → Heap → Prop} {d : DefRec} {K : Params → PySem.W.Frag} {k : Nat} (hn : l.most = some 63) (hdf : d.params.defaults = []) (hk : k ≤ 60)
    (hY : ∀ (w : World) (h : Heap), YP w h → (K w.params).In h)
    (F : ∀ (w : World) (mg : Str → Option Value) (fa : Addr) (h : Heap), (K w.params).In h → h.Ns mainGlobals mg → mg d.name = some (.ref fa) →
      ∃ fd : FuncData, (∀ (s : Shared) (u : Value), BindsTo s fd ⟨[u], []⟩ [("_law_script", u)]) ∧ ∀ base : Heap, (K w.params).In base → base.Ns mainGlobals mg → FnOk l.prog w (K w.params) mg base CX0 k fa fd ["_law_script"] (spTop (K w.params))) :
    PySem.W.WalkO q loose XP YP l.row.toRowW d [] (fun f vs => PySem.call f vs) :=
  L2.walk_of (n := 63) (k := k) (x := "_law_script") (CX := fun _ => CX0) (sp := fun w => spTop (K w.params)) hn (by decide) hdf (Room.mono (j := k) (k := 60) ⟨rfl, by decide, by decide⟩ hk) hY F (fun _ _ a ns hl o hS => ⟨a, ns, rfl, scr_of_only o hS, hl, fun _ => rfl⟩) fun _ _ _ _ _ z => z
end Mi
namespace Mi
open PySem L2
noncomputable def Pu {α : Type} (m : Sl → M α) : Prop := ∀ τ μ a μ', m τ μ = some (a, μ') → μ' = μ
noncomputable def Pu2 (g : D → D → M D) : Prop := ∀ x y μ a μ', g x y μ = some (a, μ') → μ' = μ
section
variable {X : Cx} {scope : Scope} {tgs : List Str} {ix : List Nat} {e elt tg iter : Expr} {pos : Pos}
noncomputable def ItP (K : PySem.W.Frag) (J : It) (ds : List D) (ι : Nat → Addr) (μ : Mh) (H : Hp) : Prop := ∀ ι' H', Ext ι μ.length H ι' μ.length H' → RelH K ι' μ H' →
  (∀ i, i < ds.length → J.go i H') ∧ J.stop ds.length H' ∧ ∀ (i : Nat) x H2 d, ds[i]? = some d → J.yld i H' x H2 → Ext ι' μ.length H' ι' μ.length H2 ∧ RelH K ι' μ H2 ∧ Is K ι' μ.length H2 d x
noncomputable def tIP (K : PySem.W.Frag) (m : Sl → M (List D)) : TI := fun σ H R => ∃ ι μ τ ds μ', RelH K ι μ H ∧ RelS K ι μ.length H τ σ ∧ m τ μ = some (ds, μ') ∧
  Aft K ι μ H μ' fun ι' H' => ∀ J, ItP K J ds ι' μ' H' → R J H'
structure RIP (X : Cx) (tg iter : Expr) (m : Sl → M (List D)) : Prop where
  pe : PI X tg iter (tIP X.K m)
end
end Mi
namespace Mi
open PySem L2 PyProof.Rows
section
variable {X : Cx} {e a b c o : Expr} {es : List Expr} {pos apos cpos : Pos}
theorem op_catT0 : OpR X (binaryOp .Add) (fun x y H Q => ∃ a b ys, x = .ref a ∧ y = .ref b ∧ SqT X.K H a [] ∧ SqT X.K H b ys ∧ Q (.ref b) H) := by
  intro pins s σ H x y v u Q I rx ry h
  obtain ⟨a, b, ys, rfl, rfl, ha, hb, q⟩ := h
  cases rx
  cases ry
  obtain ⟨its, r1, p1, _⟩ := I.tuple ha
  obtain ⟨its2, r2, p2, _⟩ := I.tuple hb
  cases r1
  obtain ⟨⟨cls, dd, data, sl⟩, ho, hc, n, hd⟩ := p1
  obtain ⟨⟨cls2, dd2, data2, sl2⟩, ho2, hc2, n2, hd2⟩ := p2
  simp only at hc hd hc2 hd2
  subst hc hd hc2 hd2
  exact concat_meets ⟨_, ho, rfl⟩ ⟨_, ho2, rfl⟩ noFill_tuple_add seq_tuple_add PySem.F.slot_tuple_add PySem.F.entry_tuple_add (PySem.F.args_tuple_add_2 _ _) (tuple_addW0 a b _ _ n n2 dd dd2 sl sl2 rfl) ⟨ho, ho2, ⟨.ref b, H, I, rfl, q⟩⟩
noncomputable def pyAdd2 (a b : D) : M D := match a, b with
  | .tup [], .tup ds => ret (.tup ds)
  | a, b => pyAdd a b
theorem o_add2 : OpR X (binaryOp .Add) (rM X.K pyAdd2) := fun pins s σ H x y v u Q I rx ry h => by
  obtain ⟨ι, μ, a, b, d, μ', R, ia, ib, e, q⟩ := h
  unfold pyAdd2 at e
  split at e
  · rename_i ds
    cases e
    unfold Is at ia
    obtain ⟨p, vs, rfl, h1, h2⟩ := ia
    unfold IsL at h2
    subst h2
    have ib2 := ib
    unfold Is at ib
    obtain ⟨p', vs', rfl, h1', h2'⟩ := ib
    exact op_catT0 pins s σ H _ _ v u Q I rx ry ⟨p, p', vs', rfl, rfl, h1, h1', q ι H R.ext0 R _ ib2⟩
  · exact o_add pins s σ H x y v u Q I rx ry ⟨ι, μ, _, _, d, μ', R, ia, ib, e, q⟩
theorem getItem_whole {prog : Program} {w : World} {A : Around} {E : Value → Shared → Prop} {s : Shared} {t sl : Addr} {items : Array Value} {vl vu : Value} {lo hi : Option Int} {Q : Value → Shared → Prop} (ht : IsTup s.heap t items) (hs : s.heap.IsSliceOf sl vl vu .none) (pl : IsPart vl lo) (pu : IsPart vu hi)
    (h1 : HT.sIx items.size 0 lo = 0) (h2 : HT.sIx items.size items.size hi = items.size) (h : Q (.ref t) s) : wpAny (model prog w) A (getItem (.ref t) (.ref sl)) Q E s := by
  obtain ⟨os, hos, hcs, hds⟩ := id hs
  have hTs : s.TypeIs (.ref sl) "slice" := ⟨os, hos, hcs⟩
  unfold getItem
  try with_reducible refine wpAny_holding ?_
  first | refine wpAny_bind (wpAny_pure ?_) | skip
  refine wpAny_bind (wpAny_sequenceKey ht.typeIs (by decide) ?_)
  refine wpAny_bind (wpAny_callSpecial?_slot (name := Str.ofString "__getitem__") ht.typeIs PyProof.Rows.slot_tuple_getitem
    (wpAny_call_entry PyProof.Rows.slot_tuple_getitem ht.typeIs entry_tuple_getitem ?_ (args_tuple_getitem _ _)))
  show wpAny _ _ (Builtin.Tuple.tupleItemsOf (.ref t) >>= _) _ _ s
  refine wpAny_bind (tupleItemsOf_ ht ?_)
  refine wpAny_bind (wpAny_typeOf hTs ?_)
  rw [if_pos (by decide)]
  refine wpAny_bind (HT.sliceApplied_gen hs pl pu ?_)
  have hyes : ((((HT.sIx items.size 0 lo : Nat) : Int) == 0 && (1 : Int) == 1 && (HT.sIx items.size items.size hi - HT.sIx items.size 0 lo) == items.size) = true) := by rw [h1, h2]; simp
  show wpAny _ _ (if (((HT.sIx items.size 0 lo : Nat) : Int) == 0 && (1 : Int) == 1 && (HT.sIx items.size items.size hi - HT.sIx items.size 0 lo) == items.size) = true then _ else _) _ _ s
  rw [if_pos hyes]
  refine wpAny_bind (m := Builtin.Tuple.tupleIsExact (.ref t)) ?_
  unfold Builtin.Tuple.tupleIsExact
  refine wpAny_bind (wpAny_typeOf ht.typeIs (wpAny_pure ?_))
  rw [if_pos (by decide)]
  refine wpAny_bind (wpAny_rule ?_)
  exact wpAny_pure ⟨_, rfl, wpAny_pure h⟩
theorem sl_tupA : SlR X (fun x lo hi H Q => ∃ a xs, x = .ref a ∧ SqT X.K H a xs ∧ HT.sIx xs.length 0 lo = 0 ∧ HT.sIx xs.length xs.length hi = xs.length ∧ Q (.ref a) H) := by
  intro pins s σ H x v vl vu lo hi sl Q I rx hs pl pu h
  obtain ⟨a, xs, rfl, hx, h1, h2, q⟩ := h
  cases rx
  obtain ⟨its, r, ht, hz⟩ := I.tuple hx
  have hlen : its.toArray.size = xs.length := by rw [List.size_toArray]; exact r.length.symm
  refine ⟨"tuple", _, PyProof.Rows.slot_tuple_getitem.lookup, ht.typeIs, ?_⟩
  exact getItem_whole ht hs pl pu (by rw [hlen]; exact h1) (by rw [hlen]; exact h2) ⟨.ref a, H, I, rfl, q⟩
theorem cutD_all {ds : List D} {lo hi : Option Int} (h1 : HT.sIx ds.length 0 lo = 0) (h2 : HT.sIx ds.length ds.length hi = ds.length) : cutD ds lo hi = ds := by
  unfold cutD
  rw [h1, h2]; simp
noncomputable def pySl2 (lo hi : Option Int) : D → M D
  | .tup ds => ret (.tup (cutD ds lo hi))
  | d => bnd (asList d) fun ds => ret (.lst (cutD ds lo hi))
noncomputable def rMS2 (K : PySem.W.Frag) : V → Option Int → Option Int → Hp → VK → Prop := fun x lo hi H Q => ∃ ι μ a d μ', RelH K ι μ H ∧ Is K ι μ.length H a x ∧ pySl2 lo hi a μ = some (d, μ') ∧
  Aft K ι μ H μ' fun ι' H' => ∀ v, Is K ι' μ'.length H' d v → Q v H'
theorem o_sl2 : SlR X (rMS2 X.K) := fun pins s σ H x v vl vu lo hi sl Q I rx hs pl pu h => by
  obtain ⟨ι, μ, a, d, μ', R, ia, e, q⟩ := h
  by_cases c : ∃ ds, a = .tup ds ∧ HT.sIx ds.length 0 lo = 0 ∧ HT.sIx ds.length ds.length hi = ds.length
  · obtain ⟨ds, rfl, h1, h2⟩ := c
    have e : some (D.tup (cutD ds lo hi), μ) = some (d, μ') := e
    rw [cutD_all h1 h2] at e
    cases e
    have ia2 := ia
    unfold Is at ia
    obtain ⟨p, vs, rfl, g1, g2⟩ := ia
    exact sl_tupA pins s σ H _ v vl vu lo hi sl Q I rx hs pl pu ⟨p, vs, rfl, g1, by rw [g2.length]; exact h1, by rw [g2.length]; exact h2, q ι H R.ext0 R _ ia2⟩
  · refine o_sl pins s σ H x v vl vu lo hi sl Q I rx hs pl pu ⟨ι, μ, a, d, μ', R, ia, ?_, q⟩
    cases a with
    | tup ds =>
      show (if HT.sIx ds.length 0 lo = 0 ∧ HT.sIx ds.length ds.length hi = ds.length then (fail : M D) else ret (D.tup (cutD ds lo hi))) μ = _
      rw [if_neg (fun z => c ⟨ds, rfl, z.1, z.2⟩)]; exact e
    | _ => exact e
noncomputable def mSl2 (me : Sl → M D) (ml mh : Sl → M (Option Int)) : Sl → M D := fun τ => bnd (me τ) fun x => bnd (ml τ) fun l => bnd (mh τ) fun h => pySl2 l h x
theorem re_sl2 {e : Expr} {lo hi : Option Expr} {me : Sl → M D} {ml mh : Sl → M (Option Int)} {pos p2 : Pos} (he : RE X e me) (hl : RO X lo ml) (hh : RO X hi mh) : RE X (.Subscript e (.Slice lo hi none p2) pos) (mSl2 me ml mh) := RE.wk (pe_slice o_sl2 he.pe hl.pe hh.pe) fun σ H Q h => by
  obtain ⟨ι, μ, τ, z, μ', R, S, e, q⟩ := h
  obtain ⟨x, μ1, e1, e⟩ := bnd_some e
  obtain ⟨l, μ2, e2, e⟩ := bnd_some e
  obtain ⟨u, μ3, e3, e⟩ := bnd_some e
  refine ⟨ι, μ, τ, x, μ1, R, S, e1, fun ι1 H1 E1 R1 v i1 => ⟨ι1, μ1, τ, l, μ2, R1, S.ext E1, e2, fun ι2 H2 E2 R2 => ⟨ι2, μ2, τ, u, μ3, R2, S.ext (E1.trans E2), e3, fun ι3 H3 E3 R3 => ?_⟩⟩⟩
  have E23 := E2.trans E3
  exact ⟨ι3, μ3, x, z, μ', R3, i1.ext E23, e, fun ι4 H4 E4 R4 => q ι4 H4 ((E1.trans E23).trans E4) R4⟩
end
end Mi
namespace Mi
open PySem L2
open PyProof.Rows hiding St
section
variable {X : Cx} {e a b c o tg iter elt : Expr} {es : List Expr} {pos apos cpos : Pos} {scope : Scope} {tgs : List Str} {ix : List Nat}
end
end Mi
namespace Mi
open PySem L2
open PyProof.Rows hiding St
section
variable {X : Cx} {e a b c o : Expr} {es : List Expr} {pos apos cpos : Pos}
noncomputable def maxI : List Int → Int
  | [] => 0
  | i :: r => r.foldl max i
theorem foldl_max : ∀ (r : List Int) (i : Int), i ≤ r.foldl max i ∧ (∀ a ∈ r, a ≤ r.foldl max i) ∧ (r.foldl max i = i ∨ r.foldl max i ∈ r)
  | [], i => ⟨Int.le_refl _, by simp, .inl rfl⟩
  | j :: r, i => by
    obtain ⟨h1, h2, h3⟩ := foldl_max r (max i j)
    refine ⟨Int.le_trans (Int.le_max_left i j) h1, fun a ha => ?_, ?_⟩
    · rcases List.mem_cons.mp ha with z | z
      · subst z; exact Int.le_trans (Int.le_max_right i a) h1
      · exact h2 a z
    · rcases h3 with z | z
      · show List.foldl max (max i j) r = i ∨ List.foldl max (max i j) r ∈ j :: r
        rw [z]
        rcases Int.le_total i j with q | q
        · right; rw [Int.max_eq_right q]; simp
        · left; exact Int.max_eq_left q
      · right; exact List.mem_cons_of_mem _ z
theorem maxI_mem {ns : List Int} (h : ns ≠ []) : maxI ns ∈ ns := by
  cases ns with
  | nil => exact absurd rfl h
  | cons i r =>
    rcases (foldl_max r i).2.2 with z | z
    · show r.foldl max i ∈ i :: r
      rw [z]; simp
    · exact List.mem_cons_of_mem _ z
theorem maxI_ge {ns : List Int} {a : Int} (ha : a ∈ ns) : a ≤ maxI ns := by
  cases ns with
  | nil => cases ha
  | cons i r =>
    rcases List.mem_cons.mp ha with z | z
    · subst z; exact (foldl_max r a).1
    · exact (foldl_max r i).2.1 a z
theorem maxI_eq {ns : List Int} {m : Int} (h : m ∈ ns) (h2 : ∀ a ∈ ns, a ≤ m) : maxI ns = m := by
  have h1 := maxI_ge h
  have h3 := h2 _ (maxI_mem (ns := ns) (by intro z; rw [z] at h; cases h))
  omega
theorem call_maxL (hc : X.calm = true) : CallR X (.builtin "max") (fun xs H Q => ∃ a ns, xs = [.ref a] ∧ SqL X.K H a (ns.map V.int) ∧ ns ≠ [] ∧ Q (.int (maxI ns)) H) := by
  intro pins s σ H xs us Q I r h
  obtain ⟨a, ns, rfl, ha, hne, q⟩ := h
  obtain ⟨u, rfl, ru⟩ := vals1 r
  cases ru
  obtain ⟨its, rv, p, hz⟩ := I.list ha
  have hl := rv.length
  rw [List.length_map] at hl
  have hpos : 0 < ns.length := List.length_pos_iff.mpr hne
  refine call_max_walk (wpAny_pyIter_list p.isList ?_)
  have hlt : a < s.heap.objs.size := by
    obtain ⟨o, n, e, _⟩ := p
    exact Heap.lt_size e
  have I1 : Inv X pins σ H { s with heap := s.heap.push { cls := .type "list_iterator", data := .fields #[.ref a, .int 0 0] } } := I.kept (t' := s.toks) fun b o e => Heap.get?_push_of_some _ e
  obtain ⟨f0, f1, f2, f3, f4, f5⟩ := I.fpOk (H' := H) (Nat.le_refl _) (I.hok.fresh (Nat.le_refl _))
  have hat : ∀ (i : Nat) (v : Value), its.toArray[i]? = some v → ∃ t, v = Value.int (ns.getD i 0) t := fun i v e => by
    have hi : its[i]? = some v := by simpa using e
    have hlt2 : i < its.length := (List.getElem?_eq_some_iff.mp hi).1
    have hb : (ns.map V.int)[i]? = some (V.int (ns.getD i 0)) := by
      rw [List.getElem?_map, List.getElem?_eq_getElem (show i < ns.length by omega)]
      simp [List.getD, show i < ns.length by omega]
    obtain ⟨u, hu, ru⟩ := rv.get hb
    rw [hi] at hu; cases hu
    exact ru
  refine ⟨s.heap.objs.size, _, _, _, _, _, _, rfl, Walks.list (prog := X.prog) (w := X.w) (A := X.A.in1) (show X.A.handled = none from I.ok.hd hc) s.heap.objs.size a (Nat.ne_of_lt hlt) its.toArray, ⟨⟨_, Heap.get?_push_size _ rfl, rfl, rfl⟩, p.isList.push _⟩, fun b hb => ?_, by rw [List.size_toArray]; omega, CmpOf.ints_gt (fun i => ns.getD i 0) hat, fun v h' tk hP kk => ?_⟩
  · show b < (s.heap.push _).objs.size
    rw [Heap.size_push]
    simp at hb
    rcases hb with hb | hb
    · rw [hb]; exact Nat.lt_succ_self _
    · rw [hb]; exact Nat.lt_succ_of_lt hlt
  · obtain ⟨t, rfl⟩ := hat _ v hP
    obtain ⟨g1, g2⟩ := argBest_gt (fun i => ns.getD i 0) (its.toArray.size - 1)
    rw [List.size_toArray] at g1 g2
    have hM : maxI ns = ns.getD (argBest (fun i j => decide (ns.getD i 0 > ns.getD j 0)) (its.length - 1)) 0 := by
      apply maxI_eq
      · have hx : argBest (fun i j => decide (ns.getD i 0 > ns.getD j 0)) (its.length - 1) < ns.length := by omega
        rw [List.getD, List.getElem?_eq_getElem hx]
        exact List.getElem_mem hx
      · intro m hm
        obtain ⟨j, hj⟩ := List.mem_iff_getElem?.mp hm
        have hj2 := (List.getElem?_eq_some_iff.mp hj).1
        have := g2 j (by omega)
        simp only [List.getD, hj] at this
        simpa [List.getD] using this
    refine ⟨.int (maxI ns), H, I1.turned (t' := tk) (fun b o hb e => kk b o (by simpa using hb) e) f0 f1 f3 f4 f5, ⟨t, ?_⟩, q⟩
    rw [hM, List.size_toArray]
noncomputable def intsD : List D → Option (List Int)
  | [] => some []
  | .int i :: ds => (intsD ds).map (i :: ·)
  | _ => none
theorem intsD_is {K : PySem.W.Frag} {ι : Nat → Addr} {k : Nat} {H : Hp} : ∀ {ds : List D} {vs : List V} {ns : List Int}, IsL K ι k H ds vs → intsD ds = some ns → vs = ns.map V.int
  | [], _, _, h, e => by cases e; unfold IsL at h; exact h
  | .int b :: ds, _, _, h, e => by
    unfold IsL at h
    obtain ⟨v, vs', rfl, h1, h2⟩ := h
    unfold intsD at e
    cases q : intsD ds with
    | none => rw [q] at e; cases e
    | some bs =>
      rw [q] at e; cases e
      unfold Is at h1
      rw [h1, intsD_is h2 q]; rfl
  | .non :: _, _, _, _, e => by cases e
  | .bl _ :: _, _, _, _, e => by cases e
  | .str _ :: _, _, _, _, e => by cases e
  | .ty _ :: _, _, _, _, e => by cases e
  | .scr _ :: _, _, _, _, e => by cases e
  | .tup _ :: _, _, _, _, e => by cases e
  | .lst _ :: _, _, _, _, e => by cases e
  | .ref _ :: _, _, _, _, e => by cases e
theorem intsD_map : ∀ ns : List Int, intsD (ns.map D.int) = some ns
  | [] => rfl
  | n :: r => by show (intsD (r.map D.int)).map (n :: ·) = _; rw [intsD_map r]; rfl
noncomputable def max1F : List D → M D
  | [d] => bnd (asList d) fun ds => fun μ => match intsD ds with
    | some (i :: r) => some (.int (maxI (i :: r)), μ)
    | _ => none
  | _ => fail
theorem c_max1 (hc : X.calm = true) : CallR X (.builtin "max") (rMA X.K max1F) := fun pins s σ H xs us Q I r h => by
  obtain ⟨ι, μ, as, d, μ', R, ia, e, q⟩ := h
  refine call_maxL hc pins s σ H xs us Q I r ?_
  unfold max1F at e
  split at e
  · rename_i y
    obtain ⟨ds, μ1, e1, e2⟩ := bnd_some e
    obtain ⟨v, rfl, i1⟩ := isL1 ia
    obtain ⟨hm, p, vs, rfl, h1, h2⟩ := asList_sq R i1 e1
    subst hm
    split at e2
    · rename_i i r0 hi
      cases e2
      exact ⟨p, i :: r0, rfl, by rw [← intsD_is h2 hi]; exact h1, by simp, q ι H R.ext0 R _ (ofI _)⟩
    · cases e2
  · cases e
theorem find_eqU {y : V} : ∀ {ys : List V} {us : List Value} {j : Nat}, Vals ys us → ys.all flatV = true → ys.findIdx? (fun z => eqV z y) = some j → ∃ hj : j < us.length, eqU y us[j] = true ∧ ∀ m (hm : m < us.length), m < j → eqU y us[m] = false
  | _, _, j, .nil, _, e => by simp at e
  | z :: ys, u :: us, j, .cons r t, f, e => by
    rw [List.all_cons, Bool.and_eq_true] at f
    rw [List.findIdx?_cons] at e
    cases hz : eqV z y with
    | true =>
      rw [hz] at e
      simp at e
      subst e
      exact ⟨by simp, by show eqU y u = true; rw [eqU_of r f.1, hz], fun m hm h => by omega⟩
    | false =>
      rw [hz] at e
      cases q : ys.findIdx? (fun z => eqV z y) with
      | none => rw [q] at e; simp at e
      | some k =>
        rw [q] at e
        simp at e
        subst e
        obtain ⟨hk, h1, h2⟩ := find_eqU t f.2 q
        refine ⟨by simp; omega, by simpa using h1, fun m hm h => ?_⟩
        cases m with
        | zero => show eqU y u = false; rw [eqU_of r f.1, hz]
        | succ m => simpa using h2 m (by simpa using hm) (by omega)
noncomputable abbrev rIdx (Sq : Hp → Addr → List V → Prop) : V → List V → Hp → VK → Prop := fun x xs H Q => ∃ p ys y j, x = .ref p ∧ xs = [y] ∧ Sq H p ys ∧ flatV y = true ∧ ys.all flatV = true ∧ ys.findIdx? (fun z => eqV z y) = some j ∧ Q (.int j) H
theorem list_index_ok : MtR X "list.index" (rIdx fun H p ys => SqL X.K H p ys) := by
  intro pins s σ H x xs v us Q I rx rs h
  obtain ⟨p, ys, y, j, rfl, rfl, hp, fy, fys, hj, q⟩ := h
  cases rx
  obtain ⟨u, rfl, ru⟩ := vals1 rs
  obtain ⟨its, rv, pl, hz⟩ := I.list hp
  have hl := rv.length
  obtain ⟨⟨cls, dd, data, sl⟩, ho, hc, n, hd⟩ := pl.isList
  simp only at hc hd
  subst hc hd
  obtain ⟨hj2, e1, e2⟩ := find_eqU rv fys hj
  have hn := line63
  refine call_meets PySem.F.slot_list_index ⟨_, ho, rfl⟩ PySem.F.entry_list_index (PySem.F.args_list_index_2 _ _) (SeqAt.list_indexAt _ its.toArray n dd sl u (eqU y) j (by rw [List.size_toArray]; exact hj2) (by omega) (by simpa using e1) (fun m hm h => by simpa using e2 m (by simpa using hm) h)) ⟨ho, fun w hw => mem_eqAt ru fy rv fys w (by simpa using hw), ?_⟩
  exact ⟨.int j, H, I.tok _, ⟨_, rfl⟩, q⟩
noncomputable def idxF : D → List D → M D
  | d, [y] => bnd (asSeq1 d) fun ds => fun μ => match flatD y, flatDs ds with
    | some y, some xs => (xs.findIdx? fun z => eqV z y).map fun (j : Nat) => (D.int (j : Int), μ)
    | _, _ => none
  | _, _ => fail
theorem idxF_some {d r : D} {μ μ' : Mh} {K : PySem.W.Frag} {ι : Nat → Addr} {H : Hp} {x : V} {xs : List V} {as : List D} (R : RelH K ι μ H) (ia : Is K ι μ.length H d x) (ib : IsL K ι μ.length H as xs) (e : idxF d as μ = some (r, μ')) :
    ∃ p ys y j, x = .ref p ∧ xs = [y] ∧ (SqL K H p ys ∨ SqT K H p ys) ∧ flatV y = true ∧ ys.all flatV = true ∧ ys.findIdx? (fun z => eqV z y) = some j ∧ r = .int j ∧ μ' = μ := by
  unfold idxF at e
  split at e
  · rename_i y0
    obtain ⟨ds, μ1, e1, e2⟩ := bnd_some e
    obtain ⟨hm, p, vs, rfl, h1, h2⟩ := asSeq1_sq R ia e1
    subst hm
    obtain ⟨v, rfl, i1⟩ := isL1 ib
    split at e2
    · rename_i w ws q1 q2
      obtain ⟨rfl, f1⟩ := flatD_is i1 q1
      obtain ⟨rfl, f2⟩ := flatDs_is h2 q2
      cases hj : vs.findIdx? (fun z => eqV z v) with
      | none => rw [hj] at e2; cases e2
      | some j => rw [hj] at e2; cases e2; exact ⟨p, vs, v, j, rfl, rfl, h1, f1, f2, hj, rfl, rfl⟩
    · cases e2
  · cases e
noncomputable def idxLF (d : D) (as : List D) : M D := bnd (guardL d) fun _ => idxF d as
theorem m_indexL : MtR X "list.index" (rMM X.K idxLF) := fun pins s σ H x xs v us Q I rx rs h => by
  obtain ⟨ι, μ, a, as, d, μ', R, ia, ib, e, q⟩ := h
  obtain ⟨u, μ1, e1, e2⟩ := bnd_some e
  have hm := guardL_mu e1
  subst hm
  obtain ⟨ds, μ2, g1, g2⟩ := bnd_some e1
  obtain ⟨_, p0, vs0, hx, hq, _⟩ := asList_sq R ia g1
  obtain ⟨p, ys, y, j, rfl, rfl, h1, f1, f2, hj, rfl, rfl⟩ := idxF_some R ia ib e2
  cases hx
  have hs : SqL X.K H p0 ys := by
    rcases h1 with z | z
    · exact z
    · obtain ⟨its, _, pl, _⟩ := I.list hq
      obtain ⟨its2, _, pt, _⟩ := I.tuple z
      obtain ⟨o, e1, c1, _⟩ := pl.isList
      obtain ⟨o2, e2, c2, _⟩ := pt
      rw [e1] at e2; cases e2
      rw [c1] at c2; exact absurd c2 (by decide)
  exact list_index_ok pins s σ H _ _ v us Q I rx rs ⟨p0, ys, y, j, rfl, rfl, hs, f1, f2, hj, q ι H R.ext0 R _ (ofI _)⟩
end
end Mi
namespace Mi
open PySem L2
open PyProof.Rows hiding St
section
variable {X : Cx} {e a b c o : Expr} {es : List Expr} {pos apos cpos : Pos}
structure GTup (K : PySem.W.Frag) (mg : Str → Option Value) (x : Str) (xs : List Str) : Prop where
  ex : ∃ p its n sl, mg x = some (.ref p) ∧ K.lookup p = some ⟨.type "tuple", none, .seq its n, sl⟩ ∧ strsOf its.toList = some xs ∧ xs.length ≤ 1000
end
end Mi
namespace Mi
open PySem L2
noncomputable def Pu1 (g : List D → M D) : Prop := ∀ ds μ a μ', g ds μ = some (a, μ') → μ' = μ
end Mi
local macro_rules | `(tactic| wtm_at "own qpu") => `(tactic| repeat first | exact Mi.pu_slot | exact Mi.pu_c | exact Mi.pu_true | exact Mi.pu_ix | exact Mi.pu_eqB | exact Mi.pu_nil | exact Mi.pu_inst | exact Mi.pu_len | apply Mi.pu_test | apply Mi.pu_op | apply Mi.pu_cons | apply Mi.pu_disp | apply Mi.pu_or | apply Mi.pu_and | apply Mi.pu_not)
namespace Ht
open PySem PySem.SetTable
noncomputable abbrev Ris (l : List Nat) : Prop := l.Pairwise (· < ·)
theorem ris_lt {xs : Array Nat} (r : Ris xs.toList) {i k : Nat} (hk : k < xs.size) (h : i < k) : xs[i]'(Nat.lt_trans h hk) < xs[k] := by
  have := List.pairwise_iff_getElem.mp r i k (by simpa using Nat.lt_trans h hk) (by simpa using hk) h
  simpa using this
theorem ris_le {xs : Array Nat} (r : Ris xs.toList) {i k : Nat} (hk : k < xs.size) (h : i ≤ k) : xs[i]'(Nat.lt_of_le_of_lt h hk) ≤ xs[k] := by
  rcases Nat.lt_or_eq_of_le h with z | z
  · exact Nat.le_of_lt (ris_lt r hk z)
  · subst z; exact Nat.le_refl _
structure Bel (xs : Array Nat) (j b : Nat) : Prop where
  le : b ≤ xs.size
  lo : ∀ i (h : i < xs.size), i < b → xs[i] < j
  hi : ∀ i (h : i < xs.size), b ≤ i → j ≤ xs[i]
theorem below_go {xs : Array Nat} {j : Nat} (r : Ris xs.toList) : ∀ fuel lo hi, lo ≤ hi → hi ≤ xs.size → hi - lo ≤ fuel → (∀ i (h : i < xs.size), i < lo → xs[i] < j) → (∀ i (h : i < xs.size), hi ≤ i → j ≤ xs[i]) → Bel xs j (below.go xs j fuel lo hi)
  | 0, lo, hi, h1, h2, h3, h4, h5 => by
    have : lo = hi := by omega
    subst this
    exact ⟨h2, h4, h5⟩
  | fuel + 1, lo, hi, h1, h2, h3, h4, h5 => by
    unfold below.go
    by_cases z : lo < hi
    · rw [if_pos z]
      have hm : (lo + hi) / 2 < hi := by omega
      have hm2 : lo ≤ (lo + hi) / 2 := by omega
      have hs : (lo + hi) / 2 < xs.size := by omega
      have e : xs.getD ((lo + hi) / 2) j = xs[(lo + hi) / 2] := by simp [Array.getD, hs]
      dsimp only
      rw [e]
      by_cases q : xs[(lo + hi) / 2] < j
      · rw [if_pos q]
        exact below_go r fuel _ hi (by omega) h2 (by omega) (fun i h hi' => Nat.lt_of_le_of_lt (ris_le r hs (by omega)) q) h5
      · rw [if_neg q]
        exact below_go r fuel lo _ hm2 (by omega) (by omega) h4 (fun i h hi' => Nat.le_trans (Nat.le_of_not_lt q) (ris_le r h hi'))
    · rw [if_neg z]
      have : lo = hi := by omega
      subst this
      exact ⟨h2, h4, h5⟩
theorem below_spec {xs : Array Nat} (r : Ris xs.toList) (j : Nat) : Bel xs j (below xs j) :=
  below_go r _ 0 _ (Nat.zero_le _) (Nat.le_refl _) (by omega) (fun i _ h => absurd h (by omega)) (fun i h h2 => absurd h2 (by omega))
theorem below_at {xs : Array Nat} (r : Ris xs.toList) {k : Nat} (hk : k < xs.size) : below xs xs[k] = k := by
  have b := below_spec r xs[k]
  rcases Nat.lt_trichotomy (below xs xs[k]) k with z | z | z
  · have h1 := b.hi _ (Nat.lt_trans z hk) (Nat.le_refl _)
    have h2 := ris_lt r hk z
    omega
  · exact z
  · have := b.lo k hk z
    omega
theorem below_next {xs : Array Nat} (r : Ris xs.toList) {k : Nat} (hk : k < xs.size) : below xs (xs[k] + 1) = k + 1 := by
  have b := below_spec r (xs[k] + 1)
  rcases Nat.lt_trichotomy (below xs (xs[k] + 1)) (k + 1) with z | z | z
  · have h1 := b.hi k hk (by omega)
    omega
  · exact z
  · have h1 := b.lo (k + 1) (by have := b.le; omega) z
    have h2 := ris_lt r (k := k + 1) (i := k) (by have := b.le; omega) (by omega)
    omega
theorem below_zero {xs : Array Nat} (r : Ris xs.toList) : below xs 0 = 0 := by
  have b := below_spec r 0
  rcases Nat.eq_zero_or_pos (below xs 0) with z | z
  · exact z
  · have := b.lo 0 (by have := b.le; omega) z
    omega
theorem slot_mem {t : SetTable} (r : Ris t.place.toList) {j : Nat} (h : j ∈ t.place.toList) : ∃ i, t.slot j = .live i := by
  obtain ⟨k, hk, e⟩ := List.getElem_of_mem h
  have hk' : k < t.place.size := by simpa using hk
  have e' : t.place[k] = j := by simpa using e
  refine ⟨k, ?_⟩
  unfold slot
  have b : below t.place j = k := by rw [← e']; exact below_at r hk'
  dsimp only
  rw [b, if_pos (by simp [hk', e'])]
theorem slot_nodum {t : SetTable} (d : t.dummies = #[]) (j : Nat) : t.slot j ≠ .dummy := by
  unfold slot
  dsimp only
  split
  · exact fun h => by cases h
  · rw [d]
    have : has (#[] : Array Nat) j = false := by unfold has; simp
    rw [this]
    exact fun h => by cases h
theorem slot_live {t : SetTable} {i j : Nat} (h : t.slot j = .live i) : j ∈ t.place.toList := by
  unfold slot at h
  dsimp only at h
  split at h
  · rename_i e
    have e' : t.place[below t.place j]? = some j := by simpa using e
    obtain ⟨hk, e2⟩ := Array.getElem?_eq_some_iff.mp e'
    rw [← e2]
    simp
  · split at h <;> cases h
theorem ris_put {xs : Array Nat} (r : Ris xs.toList) {j : Nat} (h : j ∉ xs.toList) : Ris (insertAt xs (below xs j) j).toList := by
  have b := below_spec r j
  rw [toList_insertAt]
  refine List.pairwise_append.mpr ⟨List.Pairwise.sublist (List.take_sublist _ _) r, List.pairwise_cons.mpr ⟨fun y hy => ?_, List.Pairwise.sublist (List.drop_sublist _ _) r⟩, fun x hx y hy => ?_⟩
  · obtain ⟨i, hi, e⟩ := List.getElem_of_mem hy
    rw [List.getElem_drop] at e
    have hs : below xs j + i < xs.size := by simp at hi; omega
    have := b.hi _ hs (Nat.le_add_right _ _)
    have e2 : xs[below xs j + i] = y := by simpa using e
    have hne : y ≠ j := fun z => h (by rw [← z]; exact List.mem_of_mem_drop hy)
    omega
  · have hxj : x < j := by
      obtain ⟨i, hi, e⟩ := List.getElem_of_mem hx
      rw [List.getElem_take] at e
      have hi2 : i < below xs j ∧ i < xs.size := by
        have : i < min (below xs j) xs.size := by simpa using hi
        omega
      have e2 : xs[i]'hi2.2 = x := by simpa using e
      have := b.lo _ hi2.2 hi2.1
      omega
    rcases List.mem_cons.mp hy with z | z
    · rw [z]; exact hxj
    · obtain ⟨i, hi, e⟩ := List.getElem_of_mem z
      rw [List.getElem_drop] at e
      have hs : below xs j + i < xs.size := by simp at hi; omega
      have := b.hi _ hs (Nat.le_add_right _ _)
      have e2 : xs[below xs j + i] = y := by simpa using e
      omega
noncomputable def lp (mask : Nat) : Nat → Nat × Nat → Nat × Nat
  | 0, x => x
  | n + 1, x => lp mask n (leap mask x.1 x.2)
theorem lp_add (mask : Nat) : ∀ (a b : Nat) (x : Nat × Nat), lp mask (a + b) x = lp mask b (lp mask a x)
  | 0, b, x => by rw [Nat.zero_add]; rfl
  | a + 1, b, x => by
    rw [show a + 1 + b = (a + b) + 1 from by omega]
    exact lp_add mask a b _
theorem lp_snd (mask : Nat) : ∀ (n : Nat) (x : Nat × Nat), (lp mask n x).2 = x.2 / 32 ^ n
  | 0, x => by simp [lp]
  | n + 1, x => by
    show (lp mask n (leap mask x.1 x.2)).2 = _
    rw [lp_snd mask n]
    show x.2 / 32 / 32 ^ n = _
    rw [Nat.div_div_eq_div_mul, Nat.pow_succ, Nat.mul_comm]
theorem lp_lt (mask : Nat) : ∀ (n : Nat) (x : Nat × Nat), x.1 < mask + 1 → (lp mask n x).1 < mask + 1
  | 0, x, h => h
  | n + 1, x, h => lp_lt mask n _ (Nat.mod_lt _ (by omega))
theorem round7 : ∀ i, i < 8 → ∀ j, j < 8 → ∃ n, n < 8 ∧ (lp 7 n (i, 0)).1 = j := by decide +kernel
theorem round15 : ∀ i, i < 16 → ∀ j, j < 16 → ∃ n, n < 16 ∧ (lp 15 n (i, 0)).1 = j := by decide +kernel
theorem round31 : ∀ i, i < 32 → ∀ j, j < 32 → ∃ n, n < 32 ∧ (lp 31 n (i, 0)).1 = j := by decide +kernel
noncomputable abbrev Sm (mask : Nat) : Prop := mask = 7 ∨ mask = 15 ∨ mask = 31
theorem comes {mask : Nat} (hm : Sm mask) {i p : Nat} (hi : i < mask + 1) (hp : p < 2 ^ 64) {j : Nat} (hj : j < mask + 1) : ∃ n, n < turns mask ∧ (lp mask n (i, p)).1 = j := by
  have h0 : (lp mask 13 (i, p)).2 = 0 := by
    rw [lp_snd]
    exact Nat.div_eq_of_lt (Nat.lt_trans hp (by decide))
  have h1 := lp_lt mask 13 (i, p) hi
  have e : lp mask 13 (i, p) = ((lp mask 13 (i, p)).1, 0) := by rw [← h0]
  have : ∃ n, n < mask + 1 ∧ (lp mask n ((lp mask 13 (i, p)).1, 0)).1 = j := by
    rcases hm with z | z | z <;> subst z
    · exact round7 _ h1 j hj
    · exact round15 _ h1 j hj
    · exact round31 _ h1 j hj
  obtain ⟨n, h2, h3⟩ := this
  refine ⟨13 + n, by unfold turns; omega, ?_⟩
  rw [lp_add, e]
  exact h3
theorem bits_lt (h : Int) : bits h < 2 ^ 64 := by
  unfold bits
  have h1 := Int.emod_nonneg h (show (2 ^ 64 : Int) ≠ 0 by decide)
  have h2 := Int.emod_lt_of_pos h (show (0 : Int) < 2 ^ 64 by decide)
  omega
noncomputable abbrev start (t : SetTable) (i pt : Nat) : Probe := { j := i, more := runEnd t.mask i - i, i := i, perturb := pt, dummy := none }
theorem probe_got {t : SetTable} (d : t.dummies = #[]) {f : Nat → Int} {h : Int} (hf : ∀ i, f i ≠ h) : ∀ (fuel : Nat) (p : Probe) (m : Met), p.dummy = none → probe.go t f h fuel p = some m → ∃ j, m = .empty j none ∧ t.slot j = .empty
  | 0, p, m, hp, e => by cases e
  | fuel + 1, p, m, hp, e => by
    unfold probe.go at e
    have hadv : (t.advance p).dummy = none := by
      unfold advance
      split
      · exact hp
      · exact hp
    split at e
    · rename_i q
      cases e
      exact ⟨p.j, by rw [hp], q⟩
    · rename_i q
      exact absurd q (slot_nodum d _)
    · rename_i i q
      rw [if_neg (by simpa using hf i)] at e
      exact probe_got d hf fuel _ m hadv e
theorem run_none {t : SetTable} (d : t.dummies = #[]) {f : Nat → Int} {h : Int} (hf : ∀ i, f i ≠ h) : ∀ (more fuel j i pt : Nat), probe.go t f h (fuel + more + 1) { j := j, more := more, i := i, perturb := pt, dummy := none } = none →
    t.slot j ≠ .empty ∧ probe.go t f h fuel (start t (leap t.mask i pt).1 (leap t.mask i pt).2) = none
  | 0, fuel, j, i, pt, e => by
    unfold probe.go at e
    split at e
    · cases e
    · rename_i q
      exact absurd q (slot_nodum d _)
    · rename_i k q
      rw [if_neg (by simpa using hf k)] at e
      have q' : t.slot j = .live k := q
      refine ⟨by rw [q']; exact fun z => (by cases z), ?_⟩
      have : t.advance { j := j, more := 0, i := i, perturb := pt, dummy := none } = start t (leap t.mask i pt).1 (leap t.mask i pt).2 := rfl
      rw [this] at e
      exact e
  | more + 1, fuel, j, i, pt, e => by
    rw [show fuel + (more + 1) + 1 = (fuel + more + 1) + 1 from by omega] at e
    unfold probe.go at e
    split at e
    · cases e
    · rename_i q
      exact absurd q (slot_nodum d _)
    · rename_i k q
      rw [if_neg (by simpa using hf k)] at e
      have q' : t.slot j = .live k := q
      refine ⟨by rw [q']; exact fun z => (by cases z), ?_⟩
      have : t.advance { j := j, more := more + 1, i := i, perturb := pt, dummy := none } = { j := j + 1, more := more, i := i, perturb := pt, dummy := none } := by
        unfold advance
        rw [if_pos (by simp)]
        rfl
      rw [this] at e
      exact (run_none d hf more fuel (j + 1) i pt e).2
theorem runs_none {t : SetTable} (d : t.dummies = #[]) {f : Nat → Int} {h : Int} (hf : ∀ i, f i ≠ h) : ∀ (m fuel i pt : Nat), 10 * m ≤ fuel → probe.go t f h fuel (start t i pt) = none → ∀ n, n < m → t.slot (lp t.mask n (i, pt)).1 ≠ .empty
  | 0, _, _, _, _, _, n, hn => absurd hn (by omega)
  | m + 1, fuel, i, pt, hl, e, n, hn => by
    have hr : runEnd t.mask i - i ≤ 9 := by unfold runEnd; split <;> omega
    have ef : fuel = (fuel - (runEnd t.mask i - i) - 1) + (runEnd t.mask i - i) + 1 := by omega
    rw [ef] at e
    obtain ⟨h1, h2⟩ := run_none d hf _ _ _ _ _ e
    cases n with
    | zero => exact h1
    | succ n => exact runs_none d hf m _ _ _ (by omega) h2 n (by omega)
theorem nodup_le {α : Type} [DecidableEq α] : ∀ {l r : List α}, l.Nodup → (∀ x ∈ l, x ∈ r) → l.length ≤ r.length
  | [], _, _, _ => Nat.zero_le _
  | a :: l, r, hn, hs => by
    obtain ⟨h1, h2⟩ := List.nodup_cons.mp hn
    have ha := hs a (List.mem_cons_self ..)
    have := nodup_le (r := r.erase a) h2 fun x hx => (List.mem_erase_of_ne (fun z => h1 (by rw [← z]; exact hx))).mpr (hs x (List.mem_cons_of_mem _ hx))
    rw [List.length_erase_of_mem ha] at this
    have hp := List.length_pos_of_mem ha
    simp only [List.length_cons]
    omega
theorem free_ok {t : SetTable} (d : t.dummies = #[]) (hm : Sm t.mask) (r : Ris t.place.toList) (hs : t.place.size ≤ t.mask) (h : Int) : ∃ j, t.freeSlot h = some (j, false) ∧ t.slot j = .empty := by
  have hf : ∀ i : Nat, (fun _ : Nat => h + 1) i ≠ h := fun i => by show h + 1 ≠ h; omega
  unfold freeSlot
  cases e : t.probe (fun _ => h + 1) h (t.probeStart h) with
  | some m =>
    obtain ⟨j, rfl, q⟩ := probe_got d hf _ _ m rfl e
    exact ⟨j, rfl, q⟩
  | none =>
    exfalso
    have e' : probe.go t (fun _ => h + 1) h (10 * turns t.mask) (start t (bits h % (t.mask + 1)) (bits h)) = none := e
    have hv := runs_none d hf (turns t.mask) _ _ _ (Nat.le_refl _) e'
    have all : ∀ j ∈ List.range (t.mask + 1), j ∈ t.place.toList := fun j hj => by
      obtain ⟨n, h1, h2⟩ := comes hm (i := bits h % (t.mask + 1)) (p := bits h) (Nat.mod_lt _ (by omega)) (bits_lt h) (List.mem_range.mp hj)
      have h3 := hv n h1
      rw [h2] at h3
      cases q : t.slot j with
      | empty => exact absurd q h3
      | dummy => exact absurd q (slot_nodum d _)
      | live i => exact slot_live q
    have := nodup_le List.nodup_range all
    simp at this
    omega
end Ht
namespace Ht
open PySem PySem.SetTable
theorem fm_congr {α β : Type} {f g : α → Option β} : ∀ {l : List α}, (∀ x ∈ l, f x = g x) → l.filterMap f = l.filterMap g
  | [], _ => rfl
  | a :: l, h => by
    have h1 := h a (List.mem_cons_self ..)
    have h2 := fm_congr (l := l) fun x hx => h x (List.mem_cons_of_mem _ hx)
    cases q : g a with
    | none => rw [List.filterMap_cons_none (h1.trans q), List.filterMap_cons_none q, h2]
    | some b => rw [List.filterMap_cons_some (h1.trans q), List.filterMap_cons_some q, h2]
theorem fm_set {β : Type} {f g : Nat → Option β} {j : Nat} {b : β} (hj : f j = none) (hg : g j = some b) (ho : ∀ i, i ≠ j → g i = f i) : ∀ {l : List Nat}, l.Nodup → j ∈ l → (l.filterMap g).Perm (b :: l.filterMap f)
  | [], _, h => by cases h
  | a :: l, hn, h => by
    obtain ⟨h1, h2⟩ := List.nodup_cons.mp hn
    by_cases e : a = j
    · subst e
      have same : l.filterMap g = l.filterMap f := fm_congr fun i hi => ho i fun z => h1 (by rw [← z]; exact hi)
      rw [List.filterMap_cons_some hg, List.filterMap_cons_none hj, same]
    · have hl : j ∈ l := (List.mem_cons.mp h).resolve_left fun z => e z.symm
      have ih := fm_set hj hg ho h2 hl
      cases q : f a with
      | none => rw [List.filterMap_cons_none ((ho a e).trans q), List.filterMap_cons_none q]; exact ih
      | some c =>
        rw [List.filterMap_cons_some ((ho a e).trans q), List.filterMap_cons_some q]
        exact (ih.cons c).trans (List.Perm.swap b c _)
theorem free_got {mask : Nat} {owner : Array (Option Nat)} : ∀ (fuel i pt j : Nat), layClean.free mask owner fuel i pt = some j → owner.getD j (some 0) = none
  | 0, _, _, _, e => by cases e
  | fuel + 1, i, pt, j, e => by
    unfold layClean.free at e
    split at e
    · rename_i k q
      cases e
      have := List.find?_some q
      simpa using this
    · exact free_got fuel _ _ j e
theorem free_none {mask : Nat} {owner : Array (Option Nat)} : ∀ (m i pt : Nat), layClean.free mask owner m i pt = none → ∀ n, n < m → owner.getD (lp mask n (i, pt)).1 (some 0) ≠ none
  | 0, _, _, _, n, hn => absurd hn (by omega)
  | m + 1, i, pt, e, n, hn => by
    unfold layClean.free at e
    split at e
    · cases e
    · rename_i q
      cases n with
      | zero =>
        have hr : i ≤ runEnd mask i := by unfold runEnd; split <;> omega
        have := List.find?_eq_none.mp q 0 (List.mem_range.mpr (by omega))
        intro z
        apply this
        show (owner.getD (i + 0) (some 0)).isNone = true
        rw [Nat.add_zero]
        have z' : owner.getD i (some 0) = none := z
        rw [z']; rfl
      | succ n => exact free_none m _ _ e n (by omega)
noncomputable abbrev own (mask : Nat) (owner : Array (Option Nat)) : List Nat := (List.range (mask + 1)).filterMap fun j => owner.getD j none
theorem getD_some {owner : Array (Option Nat)} {j : Nat} (h : owner.getD j (some 0) = none) : j < owner.size ∧ owner.getD j none = none := by
  unfold Array.getD at h ⊢
  split at h
  · rename_i q
    exact ⟨q, by rw [dif_pos q]; exact h⟩
  · cases h
theorem getD_back {owner : Array (Option Nat)} {j : Nat} (hj : j < owner.size) (h : owner.getD j (some 0) ≠ none) : ∃ k, owner.getD j none = some k := by
  unfold Array.getD at h ⊢
  rw [dif_pos hj] at h ⊢
  cases e : owner[j] with
  | none => exact absurd e h
  | some k => exact ⟨k, e⟩
theorem free_is {mask : Nat} (hm : Sm mask) {owner : Array (Option Nat)} (hs : owner.size = mask + 1) {k : Nat} (hp : (own mask owner).Perm (List.range k)) (hk : k ≤ mask) (h : Int) :
    ∃ j, layClean.free mask owner (turns mask) (bits h % (mask + 1)) (bits h) = some j := by
  cases e : layClean.free mask owner (turns mask) (bits h % (mask + 1)) (bits h) with
  | some j => exact ⟨j, rfl⟩
  | none =>
    exfalso
    have hv := free_none _ _ _ e
    have len : ∀ l : List Nat, (∀ j ∈ l, j < mask + 1) → (l.filterMap fun j => owner.getD j none).length = l.length := by
      intro l
      induction l with
      | nil => intro _; rfl
      | cons a l ih =>
        intro ha
        obtain ⟨n, h1, h2⟩ := comes hm (i := bits h % (mask + 1)) (p := bits h) (Nat.mod_lt _ (by omega)) (bits_lt h) (ha a (List.mem_cons_self ..))
        have h3 := hv n h1
        rw [h2] at h3
        obtain ⟨c, hc⟩ := getD_back (by rw [hs]; exact ha a (List.mem_cons_self ..)) h3
        rw [List.filterMap_cons_some (f := fun j => owner.getD j none) hc, List.length_cons, ih fun j hj => ha j (List.mem_cons_of_mem _ hj), List.length_cons]
    have h1 := len (List.range (mask + 1)) fun j hj => List.mem_range.mp hj
    have h2 := hp.length_eq
    simp only [List.length_range] at h1 h2
    have h3 : (own mask owner).length = mask + 1 := h1
    omega
noncomputable def cStep (mask : Nat) (acc : Option (Array (Option Nat) × Nat)) (h : Int) : Option (Array (Option Nat) × Nat) := do
  let (owner, k) ← acc
  let j ← layClean.free mask owner (turns mask) (bits h % (mask + 1)) (bits h)
  pure (owner.setIfInBounds j (some k), k + 1)
theorem clean_go {mask : Nat} (hm : Sm mask) : ∀ (l : List Int) (owner : Array (Option Nat)) (k : Nat), owner.size = mask + 1 → (own mask owner).Perm (List.range k) → k + l.length ≤ mask →
    ∃ owner', l.foldl (cStep mask) (some (owner, k)) = some (owner', k + l.length) ∧ owner'.size = mask + 1 ∧ (own mask owner').Perm (List.range (k + l.length))
  | [], owner, k, hs, hp, _ => ⟨owner, rfl, hs, hp⟩
  | h :: l, owner, k, hs, hp, hk => by
    obtain ⟨j, e⟩ := free_is hm hs hp (by omega) h
    obtain ⟨hj, hn⟩ := getD_some (free_got _ _ _ _ e)
    have st : cStep mask (some (owner, k)) h = some (owner.setIfInBounds j (some k), k + 1) := by
      show ((layClean.free mask owner (turns mask) (bits h % (mask + 1)) (bits h)).bind fun j => some (owner.setIfInBounds j (some k), k + 1)) = _
      rw [e]; rfl
    have hp' : (own mask (owner.setIfInBounds j (some k))).Perm (List.range (k + 1)) := by
      have := fm_set (f := fun j => owner.getD j none) (g := fun i => (owner.setIfInBounds j (some k)).getD i none) (b := k) hn (by simp [Array.getD, hj]) (fun i hi => by
        simp only [Array.getD, Array.size_setIfInBounds]
        split
        · rename_i hi2
          show (owner.setIfInBounds j (some k))[i]'(by rw [Array.size_setIfInBounds]; exact hi2) = owner[i]
          rw [Array.getElem_setIfInBounds_ne]; exact hi.symm
        · rfl) (List.nodup_range (n := mask + 1)) (List.mem_range.mpr (by omega))
      refine this.trans ((hp.cons k).trans ?_)
      rw [List.range_succ]
      exact (List.perm_append_singleton k (List.range k)).symm
    obtain ⟨owner', e1, e2, e3⟩ := clean_go hm l (owner.setIfInBounds j (some k)) (k + 1) (by rw [Array.size_setIfInBounds]; exact hs) hp' (by simp at hk; omega)
    refine ⟨owner', ?_, e2, ?_⟩
    · rw [List.foldl_cons, st, e1]
      simp only [List.length_cons]
      rw [show k + 1 + l.length = k + (l.length + 1) from by omega]
    · rw [show k + (h :: l).length = k + 1 + l.length from by simp only [List.length_cons]; omega]
      exact e3
theorem clean_ok {mask : Nat} (hm : Sm mask) (hashes : Array Int) (hk : hashes.size ≤ mask) : ∃ owner, layClean mask hashes = some owner ∧ owner.size = mask + 1 ∧ (own mask owner).Perm (List.range hashes.size) := by
  have h0 : (own mask (Array.replicate (mask + 1) none)).Perm (List.range 0) := by
    have : own mask (Array.replicate (mask + 1) none) = [] := by
      unfold own
      rw [List.filterMap_eq_nil_iff]
      intro j hj
      have := List.mem_range.mp hj
      simp [Array.getD, this]
    rw [this]
    exact List.Perm.refl _
  obtain ⟨owner, e1, e2, e3⟩ := clean_go hm hashes.toList (Array.replicate (mask + 1) none) 0 (by simp) h0 (by simpa using hk)
  simp only [Nat.zero_add, Array.length_toList] at e1 e3
  refine ⟨owner, ?_, e2, e3⟩
  have : layClean mask hashes = (hashes.foldl (cStep mask) (some (Array.replicate (mask + 1) none, 0))).map (·.1) := rfl
  rw [this, ← Array.foldl_toList, e1]
  rfl
theorem laid_ok {mask : Nat} (hm : Sm mask) (hashes : Array Int) (hk : hashes.size ≤ mask) (finger moves : Nat) (led plain : Bool) :
    ∃ place order, laid mask finger moves led plain hashes = some ({ mask, place, dummies := #[], finger, led, moves, plain }, order) ∧ Ris place.toList ∧ place.size = hashes.size ∧ order.toList.Perm (List.range hashes.size) := by
  obtain ⟨owner, e1, e2, e3⟩ := clean_ok hm hashes hk
  unfold laid
  rw [e1]
  refine ⟨_, _, rfl, ?_, ?_, ?_⟩
  · simp only []
    rw [List.map_filterMap]
    have : (List.range (mask + 1)).filterMap (fun x => Option.map (fun x => x.1) (Option.map (fun x_1 => (x, x_1)) (owner.getD x none))) = (List.range (mask + 1)).filter fun x => (owner.getD x none).isSome := by
      induction List.range (mask + 1) with
      | nil => rfl
      | cons a l ih =>
        cases q : owner.getD a none with
        | none => rw [List.filterMap_cons_none (by rw [q]; rfl), List.filter_cons_of_neg (by rw [q]; simp), ih]
        | some c => rw [List.filterMap_cons_some (b := a) (by rw [q]; rfl), List.filter_cons_of_pos (by rw [q]; rfl), ih]
    rw [this]
    exact List.Pairwise.sublist List.filter_sublist List.pairwise_lt_range
  · have := e3.length_eq
    rw [List.length_range] at this
    rw [← this]
    simp only [List.size_toArray, List.length_map]
    unfold own
    induction List.range (mask + 1) with
    | nil => rfl
    | cons a l ih =>
      cases q : owner.getD a none with
      | none => rw [List.filterMap_cons_none (by rw [q]; rfl), List.filterMap_cons_none (f := fun j => owner.getD j none) q, ih]
      | some c => rw [List.filterMap_cons_some (b := (a, c)) (by rw [q]; rfl), List.filterMap_cons_some (f := fun j => owner.getD j none) q, List.length_cons, List.length_cons, ih]
  · simp only []
    rw [List.map_filterMap]
    have : (List.range (mask + 1)).filterMap (fun x => Option.map (fun x => x.2) (Option.map (fun x_1 => (x, x_1)) (owner.getD x none))) = own mask owner := by
      unfold own
      refine fm_congr fun i _ => ?_
      cases owner.getD i none <;> rfl
    rw [this]
    exact e3
structure Tab (t : SetTable) (n : Nat) : Prop where
  ris : Ris t.place.toList
  sz : t.place.size = n
  dm : t.dummies = #[]
  mks : (t.mask = 7 ∧ n ≤ 4) ∨ (t.mask = 31 ∧ n ≤ 18)
  pl : t.plain = true
theorem Tab.sm {t : SetTable} {n : Nat} (h : Tab t n) : Sm t.mask := h.mks.elim (fun z => .inl z.1) fun z => .inr (.inr z.1)
theorem tab_fresh (led : Bool) : Tab (.fresh 0 0 led) 0 := ⟨List.Pairwise.nil, rfl, rfl, .inl ⟨rfl, by omega⟩, rfl⟩
theorem Tab.fits {t : SetTable} {n : Nat} (h : Tab t n) : t.fits n = true := by
  unfold SetTable.fits fill
  rw [h.sz, h.dm]
  rcases h.mks with ⟨a, b⟩ | ⟨a, b⟩ <;> simp [a] <;> omega
theorem lay_ok {t : SetTable} {es : Array (Int × Value)} (T : Tab t es.size) (hn : es.size + 1 ≤ 18) (h : Int) (x : Value) :
    ∃ t1 es1, layNew t es h x = (es1, t1, false, false) ∧ Ris t1.place.toList ∧ t1.place.size = es.size + 1 ∧ t1.dummies = #[] ∧ t1.mask = t.mask ∧ t1.plain = true ∧ t1.led = t.led ∧ t1.moves = t.moves ∧ t1.finger = t.finger ∧ es1.toList.Perm (es.toList ++ [(h, x)]) := by
  have hsz := T.sz
  obtain ⟨j, e, q⟩ := free_ok T.dm T.sm T.ris (by rcases T.mks with ⟨a, b⟩ | ⟨a, b⟩ <;> omega) h
  have hj : j ∉ t.place.toList := fun z => by
    obtain ⟨i, hi⟩ := slot_mem T.ris z
    rw [q] at hi; cases hi
  have hperm := layNew_perm t es h x
  have hz : (insertAt t.place (below t.place j) j).size = es.size + 1 := by
    have := (insertAt_perm t.place (below t.place j) j).length_eq
    simp at this
    omega
  have hd : (if has t.dummies j = true then eraseAt t.dummies (below t.dummies j) else t.dummies) = #[] := by
    rw [T.dm]
    have : has (#[] : Array Nat) j = false := by unfold has; simp
    rw [this]; rfl
  have hes : (insertAt es (below t.place j) (h, x)).size = es.size + 1 := by
    have := (insertAt_perm es (below t.place j) (h, x)).length_eq
    simpa using this
  have hfit : (t.put j).1.fits (es.size + 1) = true := by
    unfold SetTable.fits fill put
    simp only [hd, hz]
    rcases T.mks with ⟨a, b⟩ | ⟨a, b⟩ <;> simp [a] <;> omega
  have hl : layNew t es h x = (insertAt es (below t.place j) (h, x), (t.put j).1, false, false) := by
    unfold layNew
    rw [e]
    show (insertAt es (below t.place j) (h, x), (t.put j).1.orStandIn (insertAt es (below t.place j) (h, x)).size, false, !(t.put j).1.fits (insertAt es (below t.place j) (h, x)).size) = _
    rw [hes, hfit]
    unfold orStandIn
    rw [hfit]
    rfl
  rw [hl] at hperm
  refine ⟨_, _, hl, ris_put T.ris hj, hz, hd, rfl, T.pl, rfl, rfl, rfl, ?_⟩
  rw [Array.toList_push] at hperm
  exact hperm
theorem relay_ok {t : SetTable} {es : Array (Int × Value)} {wanted : Nat} (hw : sizeAbove wanted = 32) (hn : es.size ≤ 18) (hp : t.plain = true) :
    ∃ t1 es1, relayAll t es wanted = (es1, t1, false) ∧ Tab t1 es1.size ∧ t1.led = t.led ∧ es1.toList.Perm es.toList := by
  have hperm := relayAll_perm t es wanted
  obtain ⟨place, order, e, r, hs, ho⟩ := laid_ok (mask := 31) (.inr (.inr rfl)) (es.map (·.1)) (by simp; omega) t.finger (t.movedTo 31) t.led t.plain
  simp only [Array.size_map] at hs ho
  have hsz : (order.filterMap (es[·]?)).size = es.size := by
    have h1 : ((order.filterMap (es[·]?)).toList).Perm es.toList := by
      rw [Array.toList_filterMap]
      exact (ho.filterMap _).trans (by rw [filterMap_getElem?_range])
    have := h1.length_eq
    rwa [Array.length_toList, Array.length_toList] at this
  have hl : relayAll t es wanted = (order.filterMap (es[·]?), { mask := 31, place, dummies := #[], finger := t.finger, led := t.led, moves := t.movedTo 31, plain := t.plain }, false) := by
    unfold relayAll relaid
    rw [hw]
    simp only []
    rw [e]
    simp only []
    have c1 : coversAll order es.size = true := by
      unfold coversAll
      exact List.isPerm_iff.mpr ho
    have c2 : SetTable.fits { mask := 31, place, dummies := #[], finger := t.finger, led := t.led, moves := t.movedTo 31, plain := t.plain } (order.filterMap (es[·]?)).size = true := by
      unfold SetTable.fits fill
      rw [hsz]
      simp [hs]
      omega
    rw [c1, c2]
    rfl
  rw [hl] at hperm
  exact ⟨_, _, hl, ⟨r, by rw [hsz]; exact hs, rfl, .inr ⟨rfl, by rw [hsz]; exact hn⟩, hp⟩, rfl, hperm⟩
end Ht
namespace Ht
open PySem PySem.SetTable
noncomputable def nubI (xs : List Int) : List Int := xs.foldl (fun ys x => if x ∈ ys then ys else ys ++ [x]) []
theorem nubI_snoc (xs : List Int) (x : Int) : nubI (xs ++ [x]) = if x ∈ nubI xs then nubI xs else nubI xs ++ [x] := by
  unfold nubI
  rw [List.foldl_append]
  rfl
theorem nubI_go : ∀ (xs ys : List Int), ∃ zs, xs.foldl (fun ys x => if x ∈ ys then ys else ys ++ [x]) ys = ys ++ zs
  | [], ys => ⟨[], by simp⟩
  | x :: xs, ys => by
    rw [List.foldl_cons]
    obtain ⟨zs, e⟩ := nubI_go xs (if x ∈ ys then ys else ys ++ [x])
    rw [e]
    split
    · exact ⟨zs, rfl⟩
    · exact ⟨x :: zs, by simp⟩
theorem nubI_app (xs ys : List Int) : ∃ zs, nubI (xs ++ ys) = nubI xs ++ zs := by
  unfold nubI
  rw [List.foldl_append]
  exact nubI_go _ _
theorem nubI_take (xs : List Int) (i : Nat) : (nubI (xs.take i)).length ≤ (nubI xs).length := by
  obtain ⟨zs, e⟩ := nubI_app (xs.take i) (xs.drop i)
  rw [List.take_append_drop] at e
  rw [e, List.length_append]
  omega
theorem snoc_ind {p : List Int → Prop} (h0 : p []) (h1 : ∀ xs x, p xs → p (xs ++ [x])) (xs : List Int) : p xs := by
  rw [← List.reverse_reverse xs]
  induction xs.reverse with
  | nil => exact h0
  | cons a l ih => rw [List.reverse_cons]; exact h1 _ _ ih
theorem nubI_mem (xs : List Int) (k : Int) : k ∈ nubI xs ↔ k ∈ xs := by
  refine snoc_ind (p := fun xs => k ∈ nubI xs ↔ k ∈ xs) (by simp [nubI]) (fun xs x ih => ?_) xs
  rw [nubI_snoc]
  split
  · rename_i h
    simp only [List.mem_append, List.mem_singleton, ← ih]
    exact ⟨.inl, fun z => z.elim id fun e => e ▸ h⟩
  · simp only [List.mem_append, List.mem_singleton, ih]
theorem nubI_nodup (xs : List Int) : (nubI xs).Nodup := by
  refine snoc_ind (p := fun xs => (nubI xs).Nodup) (by simp [nubI]) (fun xs x ih => ?_) xs
  rw [nubI_snoc]
  split
  · exact ih
  · rename_i h
    rw [List.nodup_append]
    refine ⟨ih, by simp, fun a ha b hb => ?_⟩
    simp at hb
    subst hb
    exact fun e => h (e ▸ ha)
open PyProof.Rows
noncomputable abbrev EN (l : List (Int × Value)) (ks : List Int) : Prop := IntsAre (l.map (·.2)) ks
theorem ints_perm : ∀ {vs ws : List Value} (_ : vs.Perm ws) {ks : List Int}, IntsAre ws ks → ∃ ms, IntsAre vs ms ∧ ms.Perm ks := by
  intro vs ws p
  induction p with
  | nil => intro ks h; cases h; exact ⟨[], .nil, .refl _⟩
  | cons x _ ih =>
    intro ks h
    cases h with
    | cons n t h =>
      obtain ⟨ms, h1, h2⟩ := ih h
      exact ⟨n :: ms, .cons n t h1, h2.cons n⟩
  | swap x y l =>
    intro ks h
    cases h with
    | cons n t h =>
      cases h with
      | cons m u h => exact ⟨m :: n :: _, .cons m u (.cons n t h), .swap n m _⟩
  | trans _ _ ih1 ih2 =>
    intro ks h
    obtain ⟨ms, h1, h2⟩ := ih2 h
    obtain ⟨ls, h3, h4⟩ := ih1 h1
    exact ⟨ls, h3, h4.trans h2⟩
theorem en_mem : ∀ {l : List (Int × Value)} {ks : List Int}, EN l ks → ∀ (k : Int), (∃ e ∈ l, Value.isInt k e.2 = true) ↔ k ∈ ks
  | [], _, h, k => by
    have h : IntsAre [] _ := h
    cases h
    simp
  | e :: l, _, h, k => by
    obtain ⟨a, v⟩ := e
    have h : IntsAre (v :: l.map (·.2)) _ := h
    cases h with
    | cons n t h1 =>
      have ih := en_mem (l := l) h1 k
      constructor
      · rintro ⟨e, he, q⟩
        rcases List.mem_cons.mp he with rfl | he
        · have : Value.isInt k (.int n t) = true := q
          simp [Value.isInt] at this
          subst this
          exact List.mem_cons_self ..
        · exact List.mem_cons_of_mem _ (ih.mp ⟨e, he, q⟩)
      · intro hk
        rcases List.mem_cons.mp hk with rfl | hk
        · exact ⟨_, List.mem_cons_self .., by simp [Value.isInt]⟩
        · obtain ⟨e, he, q⟩ := ih.mpr hk
          exact ⟨e, List.mem_cons_of_mem _ he, q⟩
noncomputable def SetI (prog : Program) (w : World) (h : Heap) (a : Addr) (ks : List Int) : Prop :=
  ∃ o es ep t, h.get? a = some o ∧ o.ExactSet ∧ o.data = .set es ep t ∧ ElemsOf (intKind prog w) es.toList ∧ (∃ ns, EN es.toList ns ∧ ns.Perm ks) ∧ Tab t es.size ∧ t.led = !(w.params.followText "set-order")
theorem SetI.at {prog : Program} {w : World} {h h' : Heap} {a : Addr} {ks : List Int} (z : SetI prog w h a ks) (k : ∀ o, h.get? a = some o → h'.get? a = some o) : SetI prog w h' a ks := by
  obtain ⟨o, es, ep, t, e, rest⟩ := z
  exact ⟨o, es, ep, t, k o e, rest⟩
theorem en_size {l : Array (Int × Value)} {ns ks : List Int} (h : EN l.toList ns) (p : ns.Perm ks) : l.size = ks.length := by
  have h1 := congrArg List.length h.nums
  rw [List.length_map, List.length_map, Array.length_toList] at h1
  rw [h1, p.length_eq]
section
variable {prog : Program} {w : World} {A : Around} {E : Value → Shared → Prop} {s : Shared}
theorem get_put {h : Heap} {a : Addr} {o : Obj} {es : Array (Int × Value)} {ep : Nat} {t : SetTable} (ho : h.get? a = some o) (hd : o.data = .set es ep t) (es' : Array (Int × Value)) (t' : SetTable) :
    (h.update a (Obj.putSet es' t')).get? a = some { o with data := .set es' (ep + 1) t' } := by
  have := Heap.get?_update_self (Obj.putSet es' t') ho (by rw [putSet_of es' t' hd]; rfl)
  rw [putSet_of es' t' hd] at this
  exact this
theorem set_addI {a : Addr} {ks : List Int} {n : Int} {tk : Tok} {Q : Bool → Shared → Prop} (hS : SetI prog w s.heap a ks) (room : (if n ∈ ks then ks else ks ++ [n]).length ≤ 18)
    (q : ∀ b h' tk, Heap.SameBut a s.heap h' → SetI prog w h' a (if n ∈ ks then ks else ks ++ [n]) → Q b { s with heap := h', toks := tk }) :
    wpAny (model prog w) A (setAdd a (.int n tk)) Q E s := by
  obtain ⟨o, es, ep, t, ho, hex, hd, hel, ⟨ns, hen, hp⟩, T, hled⟩ := hS
  have hsz := en_size hen hp
  have hb : es.size < scanBound := by rcases T.mks with ⟨_, b⟩ | ⟨_, b⟩ <;> (unfold scanBound; omega)
  unfold setAdd
  refine wpAny_holding (wpAny_bind ((intKind prog w).pyHash (intKind_is prog w n tk) ?_))
  unfold setAddHashed setAddHashedIn
  refine wpAny_holding (wpAny_bind (wpAny_setState_of (s := { s with toks := s.toks + 1 }) ho hd T.fits ?_))
  dsimp only
  rw [byScan_of (knd := intKind prog w) rfl hb hel]
  simp only [↓reduceIte]
  unfold setAddByScan
  refine wpAny_bind ?_
  refine wpAny_bind (wpAny_rule ?_)
  refine wpAny_bind (wpAny_setScan_of (knd := intKind prog w) (s := { s with toks := s.toks + 1 }) (intKind_is prog w n tk) ho hd T.fits hel ?_)
  have mem := en_mem hen n
  rw [hp.mem_iff] at mem
  cases hr : List.findIdx? (fun e => (intKind prog w).is n e.2) es.toList with
  | some j =>
    dsimp only
    obtain ⟨hj, hpj, _⟩ := List.findIdx?_eq_some_iff_getElem.mp hr
    have hm : n ∈ ks := mem.mp ⟨es.toList[j], List.getElem_mem hj, hpj⟩
    refine wpAny_pure (wpAny_pure ?_)
    rw [if_pos hm] at q
    exact q _ s.heap _ (Heap.SameBut.refl a s.heap) ⟨o, es, ep, t, ho, hex, hd, hel, ⟨ns, hen, hp⟩, T, hled⟩
  | none =>
    dsimp only
    have hm : n ∉ ks := fun z => by
      obtain ⟨e, he, hq⟩ := mem.mpr z
      have := List.findIdx?_eq_none_iff.mp hr e he
      have hq' : (intKind prog w).is n e.2 = true := hq
      rw [hq'] at this
      exact Bool.noConfusion this
    rw [if_neg hm, List.length_append, List.length_singleton] at room
    rw [if_neg hm] at q
    obtain ⟨t1, es1, e1, r1, z1, d1, m1, p1, l1, _, _, q1⟩ := lay_ok T (by omega) ((intKind prog w).hash n) (.int n tk)
    rw [e1]
    dsimp only
    have s1 : es1.size = es.size + 1 := by
      have := q1.length_eq
      simpa using this
    have hel1 : ElemsOf (intKind prog w) es1.toList := (hel.push (intKind_is prog w n tk) rfl).perm q1
    have hen0 : EN (es.toList ++ [((intKind prog w).hash n, Value.int n tk)]) (ns ++ [n]) := by
      unfold EN
      rw [List.map_append]
      exact IntsAre.append hen (.cons n tk .nil)
    obtain ⟨ms, hen1, hp1⟩ := ints_perm (q1.map (·.2)) hen0
    have hp2 : ms.Perm (ks ++ [n]) := hp1.trans (hp.append_right [n])
    refine wpAny_bind (wpAny_pure ?_)
    rw [p1]
    simp only [↓reduceIte]
    refine wpAny_bind ?_
    rw [hashByValue_scannable 8 (x := .int n tk) rfl]
    refine wpAny_pure ?_
    simp only [plainKind, ↓reduceIte]
    refine wpAny_bind (wpAny_storeSet_of (s := { s with toks := s.toks + 1 }) ho hd ?_ (by rw [sizeLine_eq]; omega))
    have ho1 := get_put ho hd es1 t1
    have sb1 := Heap.SameBut.update s.heap a (Obj.putSet es1 t1)
    simp only [Bool.not_false, Bool.true_and]
    by_cases hf : t1.tooFull = true
    · rw [if_pos hf]
      have small : es1.size = 5 := by
        unfold SetTable.tooFull SetTable.fill at hf
        rw [z1, d1, m1] at hf
        simp at hf
        rcases T.mks with ⟨a, b⟩ | ⟨a, b⟩ <;> rw [a] at hf <;> omega
      obtain ⟨t2, es2, e2, T2, l2, q2⟩ := relay_ok (t := t1) (es := es1) (wanted := grown es1.size) (by rw [small]; decide +kernel) (by omega) p1
      rw [e2]
      dsimp only
      refine wpAny_bind (wpAny_pure ?_)
      have s2 : es2.size = es1.size := by
        have := q2.length_eq
        simpa using this
      refine wpAny_bind (wpAny_storeSet_of (s := { s with heap := s.heap.update a (Obj.putSet es1 t1), toks := s.toks + 1 }) ho1 rfl ?_ (by rw [sizeLine_eq]; omega))
      obtain ⟨ls, hen2, hp3⟩ := ints_perm (q2.map (·.2)) hen1
      refine wpAny_pure (wpAny_pure (q _ _ _ (sb1.trans (Heap.SameBut.update _ a _)) ?_))
      exact ⟨_, es2, _, t2, get_put ho1 rfl es2 t2, hex, rfl, hel1.perm q2, ⟨ls, hen2, hp3.trans hp2⟩, T2, by rw [l2, l1]; exact hled⟩
    · rw [if_neg hf]
      refine wpAny_pure (wpAny_pure (q _ _ _ sb1 ⟨_, es1, _, t1, ho1, hex, rfl, hel1, ⟨ms, hen1, hp2⟩, ⟨r1, by omega, d1, ?_, p1⟩, by rw [l1]; exact hled⟩))
      rw [m1]
      unfold SetTable.tooFull SetTable.fill at hf
      rw [z1, d1, m1] at hf
      simp at hf
      rcases T.mks with ⟨a, b⟩ | ⟨a, b⟩
      · rw [a] at hf
        exact .inl ⟨a, by omega⟩
      · exact .inr ⟨a, by omega⟩
end
end Ht
namespace Ht
open PySem PySem.Spec PyProof.Rows Sem L2
section
variable {prog : Program} {w : World} {A : Around} {E : Value → Shared → Prop} {s : Shared}
theorem setI_loop {I S : Addr} {ns : List Int} {fp : List Addr} {P : Nat → Value → Prop} {St : Nat → Heap → Prop} (W : Walks prog w A.in1 I fp [I] ns.length P St) (hP : ∀ i v, P i v → ∃ t, v = .int (ns.getD i 0) t)
    (hSI : S ≠ I) (hSf : S ∉ fp) (room : (nubI ns).length ≤ 18) {R : Result → Shared → Prop} :
    ∀ (m i : Nat) (s : Shared), ns.length - i = m → i ≤ ns.length → St i s.heap → SetI prog w s.heap S (nubI (ns.take i)) →
      (∀ h' tk, (∀ c o, c ≠ S → c ≠ I → s.heap.get? c = some o → h'.get? c = some o) → SetI prog w h' S (nubI ns) → R (.ok (.ret .none)) { s with heap := h', toks := tk }) →
      codeAny (model prog w) A (.builtin "set.update.loop" ⟨[.ref S, .ref I], []⟩) R s := by
  intro m
  induction m with
  | zero =>
    intro i s hm hi hst hS q
    have ei : i = ns.length := by omega
    subst ei
    refine codeAny_builtin PyProof.Rows.F.entry_set_update_loop ?_
    rw [Around.under_plainId PyProof.Rows.F.plain_set_update_loop _]
    refine wpAny_bind (m := pyNext (.ref I)) (W.done s _ _ hst fun h' tk kp => wpAny_pure ?_)
    rw [List.take_length] at hS
    exact q h' tk (fun c o _ c2 e => kp c o (by simpa using c2) e) (hS.at fun o e => kp S o (by simpa using hSI) e)
  | succ m ih =>
    intro i s hm hi hst hS q
    have lt : i < ns.length := by omega
    refine codeAny_builtin PyProof.Rows.F.entry_set_update_loop ?_
    rw [Around.under_plainId PyProof.Rows.F.plain_set_update_loop _]
    refine wpAny_bind (m := pyNext (.ref I)) (W.item i s _ _ lt hst fun v h' tk hv st kp => ?_)
    obtain ⟨t, rfl⟩ := hP i v hv
    have eg : ns.getD i 0 = ns[i] := by simp [lt]
    rw [eg]
    have tk1 : ns.take i ++ [ns[i]] = ns.take (i + 1) := by rw [List.take_succ, List.getElem?_eq_getElem lt]; rfl
    have nb : (if ns[i] ∈ nubI (ns.take i) then nubI (ns.take i) else nubI (ns.take i) ++ [ns[i]]) = nubI (ns.take (i + 1)) := by rw [← tk1, nubI_snoc]
    have hS1 : SetI prog w h' S (nubI (ns.take i)) := hS.at fun o e => kp S o (by simpa using hSI) e
    refine wpAny_bind (wpAny_holding (set_addI (s := { s with heap := h', toks := tk }) hS1 (by rw [nb]; exact Nat.le_trans (nubI_take _ _) room) fun b h2 t2 sb hS2 => ?_))
    rw [nb] at hS2
    have k2 : ∀ c o, c ≠ S → h'.get? c = some o → h2.get? c = some o := fun c o hc e => (sb.2 c hc).trans e
    refine wpAny_pure ⟨plainId_quiet PyProof.Rows.F.plain_set_update_loop _, ih (i + 1) _ (by omega) lt (W.frame _ _ _ st fun b hb o e => k2 b o (fun z => hSf (z ▸ hb)) e) hS2 fun h3 t3 kp3 hS3 => ?_⟩
    exact q h3 t3 (fun c o c1 c2 e => kp3 c o c1 c2 (k2 c o c1 (kp c o (by simpa using c2) e))) hS3
theorem set_new (a : Value) {Q : Value → Shared → Prop} (h : Q (.ref s.heap.objs.size) { s with heap := s.heap.push (freshSet !(w.params.followText "set-order")) }) :
    codeAny (model prog w) A (.call (.builtin "set.__new__") ⟨[.type "set", a], []⟩) (wants Q E) s := by
  refine codeAny_call_builtin (b := Builtin.«set.__new__») PySem.F.plain_set_new PySem.F.entry_set_new (wpAny_of_eq (PySem.F.newCall_set_1 a) ?_)
  unfold Builtin.«set.__new__» Builtin.Frozenset.newClass
  have z := sub_set_self
  wp_walk
  refine wpAny_askSetting (wpAny_pure ?_)
  have e : ∀ {Q : Value → Shared → Prop} {E : Value → Shared → Prop} (t : SetTable), Q (.ref s.heap.objs.size) { s with heap := s.heap.push { cls := .type "set", data := .set #[] 0 t } } → wpAny (model prog w) A.in1 (newObj (.type "set") (.set #[] 0 t)) Q E s := fun t z => by
    unfold newObj
    wp_walk
    first | exact z | exact wpAny_bind (wpAny_alloc (wpAny_pure z)) | trace_state
  exact e _ (wpAny_pure h)
set_option maxHeartbeats 2000000 in
theorem call_setI {T : String} {l : Addr} {ns : List Int} {Q : Value → Shared → Prop} {fp : Addr → List Addr} {P : Nat → Value → Prop} {St : Addr → Nat → Heap → Prop} {itO : Obj}
    (c1 : isSubtype (.type T) (.type "set") = Pure.pure false) (c2 : isSubtype (.type T) (.type "frozenset") = Pure.pure false) (c3 : (Value.type T == Value.type "dict") = false)
    (tyl : ∀ {s' : Shared}, (∀ o, s.heap.get? l = some o → s'.heap.get? l = some o) → s'.TypeIs (.ref l) T)
    (walk : ∀ {s' : Shared} {A' : Around} {E' Q' : Value → Shared → Prop}, (∀ o, s.heap.get? l = some o → s'.heap.get? l = some o) → Q' (.ref s'.heap.objs.size) { s' with heap := s'.heap.push itO } → wpAny (model prog w) A' (pyIter (.ref l)) Q' E' s')
    (W : ∀ I, l ≠ I → Walks prog w A.in1.in1.in1 I (fp I) [I] ns.length P (St I)) (hP : ∀ i v, P i v → ∃ t, v = .int (ns.getD i 0) t) (hfp : ∀ I, ∀ b ∈ fp I, b = I ∨ b = l) (hl : ∃ o, s.heap.get? l = some o)
    (hfr : itO.isFreed = false) (st0 : ∀ {h : Heap} (I : Addr), h.get? I = some itO → (∀ o, s.heap.get? l = some o → h.get? l = some o) → St I 0 h) (room : (nubI ns).length ≤ 18)
    (q : ∀ h' tk, (∀ c o, s.heap.get? c = some o → h'.get? c = some o) → SetI prog w h' s.heap.objs.size (nubI ns) → Q (.ref s.heap.objs.size) { s with heap := h', toks := tk }) :
    wpAny (model prog w) A (call (.type "set") [.ref l]) Q E s := by
  refine made_by PySem.F.called_set (PySem.F.typeCall_set_1 _) (set_new (.ref l) (Q := fun x s₁ => x = .ref s.heap.objs.size ∧ s₁ = { s with heap := s.heap.push (freshSet !(w.params.followText "set-order")) }) ⟨rfl, rfl⟩) ?_
  rintro x s₁ ⟨rfl, rfl⟩
  generalize hled : (!(w.params.followText "set-order")) = led
  have at_S : (s.heap.push (freshSet led)).get? s.heap.objs.size = some (freshSet led) := Heap.get?_push_size _ rfl
  have ty : Shared.TypeIs { s with heap := s.heap.push (freshSet led) } (.ref s.heap.objs.size) "set" := ⟨_, at_S, rfl⟩
  have lt : l < s.heap.objs.size := by obtain ⟨o, e⟩ := hl; exact Heap.lt_size e
  have kl : ∀ o, s.heap.get? l = some o → (s.heap.push (freshSet led)).get? l = some o := fun o e => Heap.get?_push_of_some _ e
  have tyl := tyl (s' := { s with heap := s.heap.push (freshSet led) }) kl
  refine ⟨ty, codeAny_call_builtin PySem.F.called_set.init.plain PySem.F.entry_set_init (check_set_init_1 ty ?_)⟩
  unfold Builtin.«set.__init__» noKeywords Builtin.Frozenset.updateFrom
  have walk' : ∀ (A : Around) (E : Value → Shared → Prop) (Q : Value → Shared → Prop), Q (.ref (s.heap.push (freshSet led)).objs.size) { s with heap := (s.heap.push (freshSet led)).push itO } → wpAny (model prog w) A (pyIter (.ref l)) Q E { s with heap := s.heap.push (freshSet led) } := fun A E Q z => walk (s' := { s with heap := s.heap.push (freshSet led) }) kl z
  wp_walk using walk'
  have sz : (s.heap.push (freshSet led)).objs.size = s.heap.objs.size + 1 := Heap.size_push ..
  have ne1 : l ≠ (s.heap.push (freshSet led)).objs.size := by rw [sz]; exact Nat.ne_of_lt (Nat.lt_succ_of_lt lt)
  have ne2 : s.heap.objs.size ≠ (s.heap.push (freshSet led)).objs.size := by rw [sz]; exact Nat.ne_of_lt (Nat.lt_succ_self _)
  have hSf : s.heap.objs.size ∉ fp (s.heap.push (freshSet led)).objs.size := fun z => (hfp _ _ z).elim ne2 (Nat.ne_of_gt lt)
  refine setI_loop (A := A.in1.in1) (W _ ne1) hP ne2 hSf room ns.length 0 _ (Nat.sub_zero _) (Nat.zero_le _) (st0 _ (Heap.get?_push_size _ hfr) fun o e => Heap.get?_push_of_some _ (kl o e)) ?start fun h' tk kp hS => ?fin
  case start =>
    refine ⟨_, #[], 0, _, Heap.get?_push_of_some _ at_S, ⟨rfl, rfl, rfl⟩, rfl, ?_, ⟨[], .nil, .refl _⟩, tab_fresh led, hled.symm⟩
    intro e he
    cases he
  case fin =>
    have ltS : ∀ {c : Addr} {o : Obj}, s.heap.get? c = some o → c < s.heap.objs.size := fun e => Heap.lt_size e
    exact wpAny_pure (wpAny_pure ⟨rfl, q h' tk (fun c o e => kp c o (Nat.ne_of_lt (ltS e)) (by rw [sz]; exact Nat.ne_of_lt (Nat.lt_succ_of_lt (ltS e))) (Heap.get?_push_of_some _ (Heap.get?_push_of_some _ e))) hS⟩)
theorem sub_tup_set : isSubtype (.type "tuple") (.type "set") = Pure.pure false := by rw [isSubtype_type]; kernel_rfl
theorem sub_tup_frz : isSubtype (.type "tuple") (.type "frozenset") = Pure.pure false := by rw [isSubtype_type]; kernel_rfl
theorem set_ofList {l : Addr} {its : List Value} {ns : List Int} {Q : Value → Shared → Prop} (hh : A.handled = none) (hl : s.heap.IsList l its.toArray) (rv : IntsAre its ns) (room : (nubI ns).length ≤ 18)
    (q : ∀ h' tk, (∀ c o, s.heap.get? c = some o → h'.get? c = some o) → SetI prog w h' s.heap.objs.size (nubI ns) → Q (.ref s.heap.objs.size) { s with heap := h', toks := tk }) :
    wpAny (model prog w) A (call (.type "set") [.ref l]) Q E s := by
  have len : its.toArray.size = ns.length := by have := congrArg List.length rv.nums; rw [List.length_map] at this; simpa using this
  refine call_setI (T := "list") (l := l) (ns := ns) (fp := fun I => [I, l]) (P := fun i v => its.toArray[i]? = some v) (St := fun I i h => h.IsListIter I l i ∧ h.IsList l its.toArray) (itO := { cls := .type "list_iterator", data := .fields #[.ref l, .int 0 0] }) PySem.F.sub_list_set PySem.F.sub_list_frozenset (by decide +kernel) (fun k => (hl.at k).typeIs) (fun k z => wpAny_pyIter_list (hl.at k) z) (fun I hI => len ▸ Walks.list (by simp [hh]) I l hI its.toArray) (fun i v e => ?_) (fun I b hb => by simpa using hb) (by obtain ⟨o, e, _⟩ := hl; exact ⟨o, e⟩) rfl (fun I e k => ⟨⟨_, e, rfl, rfl⟩, hl.at k⟩) room q
  have e' : its[i]? = some v := by simpa using e
  exact rv.int_at i v e'
theorem set_ofTup {l : Addr} {its : List Value} {ns : List Int} {Q : Value → Shared → Prop} (hh : A.handled = none) (hl : s.heap.IsTuple l its.toArray) (rv : IntsAre its ns) (room : (nubI ns).length ≤ 18)
    (q : ∀ h' tk, (∀ c o, s.heap.get? c = some o → h'.get? c = some o) → SetI prog w h' s.heap.objs.size (nubI ns) → Q (.ref s.heap.objs.size) { s with heap := h', toks := tk }) :
    wpAny (model prog w) A (call (.type "set") [.ref l]) Q E s := by
  have len : its.toArray.size = ns.length := by have := congrArg List.length rv.nums; rw [List.length_map] at this; simpa using this
  refine call_setI (T := "tuple") (l := l) (ns := ns) (fp := fun I => [I, l]) (P := fun i v => its.toArray[i]? = some v) (St := fun I i h => h.IsTupleIter I l i ∧ h.IsTuple l its.toArray) (itO := { cls := .type "tuple_iterator", data := .fields #[.ref l, .int 0 0] }) sub_tup_set sub_tup_frz (by decide +kernel) (fun k => (hl.at k).typeIs) (fun k z => wpAny_pyIter_tuple (hl.at k) z) (fun I hI => len ▸ Walks.tuple (by simp [hh]) I l hI its.toArray) (fun i v e => ?_) (fun I b hb => by simpa using hb) (by obtain ⟨o, e, _⟩ := hl; exact ⟨o, e⟩) rfl (fun I e k => ⟨⟨_, e, rfl, rfl⟩, hl.at k⟩) room q
  have e' : its[i]? = some v := by simpa using e
  exact rv.int_at i v e'
end
end Ht
namespace Ht
open PySem PySem.Spec PyProof.Rows Sem L2 PySem.SetTable
theorem erase_perm {α : Type} : ∀ (l : List α) (i : Nat) (x : α), l[i]? = some x → (x :: l.eraseIdx i).Perm l
  | [], _, _, e => by cases e
  | a :: l, 0, x, e => by
    simp at e
    subst e
    exact .refl _
  | a :: l, i + 1, x, e => by
    have e' : l[i]? = some x := by simpa using e
    exact (List.Perm.swap a x _).trans ((erase_perm l i x e').cons a)
theorem pick_go {α : Type} (f : Nat → Nat) : ∀ (fuel k : Nat) (left : List α) (out : Array α), left.length ≤ fuel → (pickOrder.go f fuel k left out).toList.Perm (out.toList ++ left)
  | 0, k, left, out, h => by
    have : left = [] := List.length_eq_zero_iff.mp (by omega)
    subst this
    unfold pickOrder.go
    rw [List.append_nil]
  | fuel + 1, k, left, out, h => by
    unfold pickOrder.go
    cases e : left[f k % left.length]? with
    | none =>
      simp only []
      have : left = [] := by
        cases left with
        | nil => rfl
        | cons a l =>
          exfalso
          have := List.getElem?_eq_none_iff.mp e
          have := Nat.mod_lt (f k) (show 0 < (a :: l).length by simp)
          omega
      rw [this, List.append_nil]
    | some x =>
      simp only []
      have hp := erase_perm left _ x e
      have hl := hp.length_eq
      rw [List.length_cons] at hl
      refine (pick_go f fuel (k + 1) _ (out.push x) (by omega)).trans ?_
      rw [Array.toList_push, List.append_assoc]
      exact hp.append_left _
theorem pick_perm {α : Type} (f : Nat → Nat) (xs : Array α) : (pickOrder f xs).toList.Perm xs.toList := by
  have := pick_go f xs.size 0 xs.toList #[] (by simp)
  simpa [pickOrder] using this
noncomputable def wv (w : World) (S : Addr) (ep : Nat) (es : Array (Int × Value)) : Array (Int × Value) := if w.params.followText "set-order" = true then pickOrder (w.params.setOrder S ep) es else es
theorem wv_perm (w : World) (S : Addr) (ep : Nat) (es : Array (Int × Value)) : (wv w S ep es).toList.Perm es.toList := by
  unfold wv
  split
  · exact pick_perm _ _
  · exact .refl _
theorem wv_size (w : World) (S : Addr) (ep : Nat) (es : Array (Int × Value)) : (wv w S ep es).size = es.size := by
  have := (wv_perm w S ep es).length_eq
  simpa using this
section
variable {prog : Program} {w : World} {A : Around} {E : Value → Shared → Prop} {s : Shared}
theorem set_next {S : Addr} {sl i ep : Nat} {es : Array (Int × Value)} {t : SetTable} {o : Obj} {Q : Option (Value × Nat) → Shared → Prop} (ho : s.heap.get? S = some o) (hd : o.data = .set es ep t) (T : Tab t es.size) (hled : t.led = !(w.params.followText "set-order"))
    (hsl : w.params.followText "set-order" = false → below t.place sl = i)
    (h1 : ∀ e sl', (wv w S ep es)[i]? = some e → (w.params.followText "set-order" = false → below t.place sl' = i + 1) → Q (some (e.2, sl')) s)
    (h2 : (wv w S ep es)[i]? = none → Q none s) : wpAny (model prog w) A (setNext S sl i ep) Q E s := by
  unfold setNext
  refine wpAny_bind (wpAny_setState_of ho hd T.fits ?_)
  dsimp only
  unfold setsByText
  refine wpAny_bind (wpAny_bind (wpAny_askSetting (wpAny_pure ?_)))
  dsimp only [model]
  by_cases hb : w.params.followText "set-order" = true
  · rw [if_pos hb]
    have e0 : (ep != ep) = false := by simp
    rw [e0, if_neg Bool.false_ne_true]
    unfold setWalk setsByText
    refine wpAny_bind (wpAny_bind (wpAny_setState_of ho hd T.fits ?_))
    dsimp only
    refine wpAny_bind (wpAny_bind (wpAny_askSetting (wpAny_pure ?_)))
    dsimp only [model]
    rw [if_pos hb]
    refine wpAny_bind (wpAny_askSetting (wpAny_pure (wpAny_pure ?_)))
    dsimp only
    have ew : wv w S ep es = pickOrder (w.params.setOrder S ep) es := by unfold wv; rw [if_pos hb]
    rw [ew] at h1 h2
    cases q : (pickOrder (w.params.setOrder S ep) es)[i]? with
    | none => exact h2 q
    | some e => exact h1 e sl q fun z => by rw [hb] at z; cases z
  · have hb' : w.params.followText "set-order" = false := by simpa using hb
    rw [if_neg hb]
    have hl : t.led = true := by rw [hled, hb']; rfl
    have ew : wv w S ep es = es := by unfold wv; rw [if_neg hb]
    rw [ew] at h1 h2
    have hs := hsl hb'
    split
    · rename_i z
      have z' : (!t.plain && decide (es.size > 1)) = true := z
      rw [T.pl] at z'
      cases z'
    · refine wpAny_bind ?_
      show wpAny _ _ (if (!t.led && !es.isEmpty) = true then PySem.unsupported "set:maker-not-led" else Pure.pure ()) _ _ _
      rw [hl]
      rw [if_neg (by simp)]
      refine wpAny_pure ?_
      refine wpAny_pure ?_
      rw [hs]
      have hsz := T.sz
      by_cases hi : i < es.size
      · have e1 : es[i]? = some es[i] := by simp [hi]
        have e2 : t.place[i]? = some (t.place[i]'(by omega)) := by simp [hsz, hi]
        rw [e1, e2]
        exact h1 es[i] _ e1 fun _ => below_next T.ris (by omega)
      · have e1 : es[i]? = none := by simp; omega
        rw [e1]
        exact h2 e1
end
end Ht
namespace Ht
open PySem PySem.Spec PyProof.Rows Sem L2 PySem.SetTable
theorem si_next : Slot "set_iterator" "__next__" "set_iterator.__next__" :=
  Slot.of (owner := "set_iterator") (n := "__next__") (by rw [typeLookup_type, builtinLookup_eq_fast]; kernel_rfl) (by decide +kernel) (by decide +kernel) (by decide +kernel) (.inl (by decide +kernel)) (by rw [isSubtype_type]; kernel_rfl)
theorem si_iter : Slot "set_iterator" "__iter__" "set_iterator.__iter__" :=
  Slot.of (owner := "set_iterator") (n := "__iter__") (by rw [typeLookup_type, builtinLookup_eq_fast]; kernel_rfl) (by decide +kernel) (by decide +kernel) (by decide +kernel) (.inl (by decide +kernel)) (by rw [isSubtype_type]; kernel_rfl)
theorem ent_next : entryFor table "set_iterator.__next__" = some Builtin.«set_iterator.__next__» := entryFor_of_tree (by kernel_rfl)
theorem ent_self : entryFor table "set_iterator.__iter__" = some Builtin.«dict_keyiterator.__iter__» := entryFor_alias (id' := "dict_keyiterator.__iter__") (by kernel_rfl) rfl (by decide +kernel) (by kernel_rfl)
theorem ent_iter : entryFor table "set.__iter__" = some Builtin.«frozenset.__iter__» := entryFor_alias (id' := "frozenset.__iter__") (by kernel_rfl) rfl (by decide +kernel) (by kernel_rfl)
theorem arg_next (a : Value) : argsOk "set_iterator.__next__" ⟨[a], []⟩ := by unfold argsOk; kernel_rfl
theorem arg_self (a : Value) : argsOk "set_iterator.__iter__" ⟨[a], []⟩ := by unfold argsOk; kernel_rfl
noncomputable def itO (S : Addr) (sl i n ep : Nat) : Obj := { cls := .type "set_iterator", data := .fields #[.int sl 0, .int i 0, .ref S, .int n 0, .int ep 0] }
section
variable {prog : Program} {w : World} {A : Around} {E : Value → Shared → Prop} {s : Shared}
theorem raise_stop {α : Type} {Q : α → Shared → Prop} (hh : A.handled = none) (h : ∀ a h', (∀ b o, s.heap.get? b = some o → h'.get? b = some o) → Shared.TypeIs { s with heap := h' } (.ref a) "StopIteration" → E (.ref a) { s with heap := h' }) :
    wpAny (model prog w) A (newExc (.type "StopIteration") [] >>= fun e => (raiseNew e : Sem α)) Q E s := by
  unfold newExc newTuple
  refine wpAny_bind (wpAny_bind (wpAny_newObj_type ?_ (by size_fits)))
  refine wpAny_bind (m := firstArgMember _ _) (wpAny_of_eq (a := Value.none) (by kernel_rfl) ?_)
  refine wpAny_newObj_type ?_ (by size_fits)
  unfold raiseNew
  refine wpAny_bind (wpAny_handled ?_)
  rw [hh]
  refine wpAny_bind (wpAny_pure (wpAny_throw (h _ _ (fun b o e => Heap.get?_push_of_some _ (Heap.get?_push_of_some _ e)) ⟨_, Heap.get?_push_size _ rfl, rfl⟩)))
theorem it_item {I S : Addr} {sl i ep : Nat} {es : Array (Int × Value)} {t : SetTable} {o : Obj} {Q : Option Value → Shared → Prop} {x : Int × Value} (hne : S ≠ I) (hI : s.heap.get? I = some (itO S sl i es.size ep)) (ho : s.heap.get? S = some o) (hd : o.data = .set es ep t) (T : Tab t es.size) (hled : t.led = !(w.params.followText "set-order"))
    (hsl : w.params.followText "set-order" = false → below t.place sl = i) (hx : (wv w S ep es)[i]? = some x)
    (q : ∀ h' sl', h'.get? I = some (itO S sl' (i + 1) es.size ep) → (w.params.followText "set-order" = false → below t.place sl' = i + 1) → Heap.SameBut I s.heap h' → Q (some x.2) { s with heap := h' }) :
    wpAny (model prog w) A (pyNext (.ref I)) Q E s := by
  have hT : s.TypeIs (.ref I) "set_iterator" := ⟨_, hI, rfl⟩
  unfold pyNext
  refine wpAny_bind (wpAny_attempt (wpAny_callSpecial?_slot (name := Str.ofString "__next__") hT si_next (wpAny_call_entry si_next hT ent_next ?_ (arg_next _))))
  unfold Builtin.«set_iterator.__next__»
  refine wpAny_bind (wpAny_of_eq (a := (Value.ref I, [])) rfl ?_)
  refine wpAny_bind (wpAny_fieldsOf hI rfl ?_)
  dsimp only
  unfold setEntries
  refine wpAny_bind (wpAny_bind (wpAny_setState_of ho hd T.fits (wpAny_pure ?_)))
  dsimp only
  have e0 : ((es.size : Int) != (es.size : Int)) = false := by simp
  rw [e0, if_neg Bool.false_ne_true]
  simp only [Int.toNat_natCast]
  refine wpAny_bind (set_next ho hd T hled hsl (fun e sl' h1 h2 => ?_) fun z => by rw [hx] at z; cases z)
  rw [hx] at h1
  cases h1
  dsimp only
  refine wpAny_bind (wpAny_setField_rec hI (by simp) fun h1 g1 s1 => ?_)
  refine wpAny_bind (wpAny_setField_rec g1 (by simp) fun h2' g2 s2 => ?_)
  refine wpAny_pure ⟨_, rfl, wpAny_pure (q h2' sl' ?_ h2 (s1.trans s2))⟩
  rw [g2]
  simp [itO, rawInt]
theorem it_end {I S : Addr} {sl i ep : Nat} {es : Array (Int × Value)} {t : SetTable} {o : Obj} {Q : Option Value → Shared → Prop} (hh : A.handled = none) (hI : s.heap.get? I = some (itO S sl i es.size ep)) (ho : s.heap.get? S = some o) (hd : o.data = .set es ep t) (T : Tab t es.size) (hled : t.led = !(w.params.followText "set-order"))
    (hsl : w.params.followText "set-order" = false → below t.place sl = i) (hx : (wv w S ep es)[i]? = none)
    (q : ∀ h', (∀ b o, b ≠ I → s.heap.get? b = some o → h'.get? b = some o) → Q none { s with heap := h' }) :
    wpAny (model prog w) A (pyNext (.ref I)) Q E s := by
  have hT : s.TypeIs (.ref I) "set_iterator" := ⟨_, hI, rfl⟩
  unfold pyNext
  refine wpAny_bind (wpAny_attempt (wpAny_callSpecial?_slot (name := Str.ofString "__next__") hT si_next (wpAny_call_entry si_next hT ent_next ?_ (arg_next _))))
  unfold Builtin.«set_iterator.__next__»
  refine wpAny_bind (wpAny_of_eq (a := (Value.ref I, [])) rfl ?_)
  refine wpAny_bind (wpAny_fieldsOf hI rfl ?_)
  dsimp only
  unfold setEntries
  refine wpAny_bind (wpAny_bind (wpAny_setState_of ho hd T.fits (wpAny_pure ?_)))
  dsimp only
  have e0 : ((es.size : Int) != (es.size : Int)) = false := by simp
  rw [e0, if_neg Bool.false_ne_true]
  simp only [Int.toNat_natCast]
  refine wpAny_bind (set_next ho hd T hled hsl (fun e sl' h1 h2 => by rw [hx] at h1; cases h1) fun _ => ?_)
  dsimp only
  refine wpAny_bind (wpAny_setField_rec hI (by simp) fun h1 g1 s1 => ?_)
  refine raise_stop (A := A.in1) (s := { s with heap := h1 }) hh fun a h' k ty => ?_
  refine wpAny_bind (wpAny_isInstance (T := "StopIteration") (b := true) ty isSubtype_stop ?_)
  exact wpAny_pure (q h' fun b o hb e => k b o (s1.extBut b o hb e))
theorem it_self {I S : Addr} {sl i n ep : Nat} {Q : Value → Shared → Prop} (hI : s.heap.get? I = some (itO S sl i n ep)) (h : Q (.ref I) s) : wpAny (model prog w) A (pyIter (.ref I)) Q E s := by
  have hT : s.TypeIs (.ref I) "set_iterator" := ⟨_, hI, rfl⟩
  refine wpAny_pyIter_slot hT si_iter (wpAny_call_entry si_iter hT ent_self ?_ (arg_self _))
  exact wpAny_pure ⟨_, rfl, "set_iterator", _, hT, si_next.lookup, h⟩
theorem it_new {S : Addr} {ep : Nat} {es : Array (Int × Value)} {t : SetTable} {o : Obj} {Q : Value → Shared → Prop} (ho : s.heap.get? S = some o) (hex : o.ExactSet) (hd : o.data = .set es ep t) (T : Tab t es.size)
    (h : Q (.ref s.heap.objs.size) { s with heap := s.heap.push (itO S 0 0 es.size ep) }) : wpAny (model prog w) A (pyIter (.ref S)) Q E s := by
  have hT : s.TypeIs (.ref S) "set" := ⟨_, ho, hex.1⟩
  refine wpAny_pyIter_slot hT PySem.F.slot_set_iter (wpAny_call_entry PySem.F.slot_set_iter hT ent_iter ?_ (PySem.F.args_set_iter_1 _))
  unfold Builtin.«frozenset.__iter__» Builtin.Frozenset.slot0 Builtin.Frozenset.sizeOf setEntries setDrawn setsByText
  refine wpAny_bind (wpAny_bind (wpAny_of_eq (a := (Value.ref S, [])) rfl (wpAny_pure ?_)))
  refine wpAny_bind (wpAny_bind (wpAny_bind (wpAny_setState_of ho hd T.fits (wpAny_pure (wpAny_pure ?_)))))
  refine wpAny_bind (wpAny_bind (wpAny_setState_of ho hd T.fits ?_))
  dsimp only
  refine wpAny_bind (wpAny_bind (wpAny_askSetting (wpAny_pure (wpAny_pure ?_))))
  dsimp only
  have e0 : ∀ b : Bool, (!b && (!t.plain && decide (es.size > 1))) = false := fun b => by rw [T.pl]; simp
  split
  · rename_i z
    have z' := (e0 _).symm.trans z
    cases z'
  · refine wpAny_bind (wpAny_pure ?_)
    refine wpAny_bind (wpAny_setEpoch_of ho hd T.fits ?_)
    unfold newFields
    exact wpAny_bind (wpAny_newObj_type (wpAny_pure ⟨_, rfl, "set_iterator", _, ⟨_, Heap.get?_push_size _ rfl, rfl⟩, si_next.lookup, h⟩))
end
end Ht
namespace Ht
open PySem PySem.Spec PyProof.Rows Sem L2 PySem.SetTable
section
variable {prog : Program} {w : World} {A : Around} {E : Value → Shared → Prop} {s : Shared}
theorem sp_len : splitId "set.__len__" = some ("set", "__len__") := by decide +kernel
theorem set_hint {S : Addr} {Q : Bool → Shared → Prop} (hT : s.TypeIs (.ref S) "set") (h : Q false s) : wpAny (model prog w) A (Builtin.List.listLengthHint (.ref S)) Q E s := by
  obtain ⟨id, hid⟩ : ∃ id, id = "set.__len__" := ⟨_, rfl⟩
  have l := PySem.F.slot_set_len.lookup
  have z := sub_set_self
  have sp := sp_len
  rw [← hid] at l sp
  unfold Builtin.List.listLengthHint
  wp_walk
  rw [sp]
  wp_walk
  split
  · wp_walk
    exact h
  · rename_i no
    exact absurd (by rw [hid]; decide +kernel) no
theorem walks_set {I S : Addr} {ep : Nat} {es : Array (Int × Value)} {t : SetTable} {o : Obj} (hh : A.handled = none) (hne : S ≠ I) (hd : o.data = .set es ep t) (T : Tab t es.size) (hled : t.led = !(w.params.followText "set-order")) :
    Walks prog w A I [I, S] [I] es.size (fun i v => ∃ e, (wv w S ep es)[i]? = some e ∧ v = e.2)
      (fun i h => (∃ sl : Nat, h.get? I = some (itO S sl i es.size ep) ∧ (w.params.followText "set-order" = false → below t.place sl = i)) ∧ h.get? S = some o) where
  sub := fun b hb => by simp at hb; simp [hb]
  frame := fun i h h' st k => by
    obtain ⟨⟨sl, h1, h2⟩, h3⟩ := st
    exact ⟨⟨sl, k I (by simp) _ h1, h2⟩, k S (by simp) _ h3⟩
  item := fun i s Q E hi st q => by
    obtain ⟨⟨sl, h1, h2⟩, h3⟩ := st
    obtain ⟨x, hx⟩ : ∃ x, (wv w S ep es)[i]? = some x := ⟨(wv w S ep es)[i]'(by rw [wv_size]; exact hi), by simp [wv_size, hi]⟩
    refine it_item hne h1 h3 hd T hled h2 hx fun h' sl' g1 g2 sb => ?_
    exact q x.2 h' s.toks ⟨x, hx, rfl⟩ ⟨⟨sl', g1, g2⟩, (sb.2 S hne).trans h3⟩ fun b o hb e => (sb.2 b (by simpa using hb)).trans e
  done := fun s Q E st q => by
    obtain ⟨⟨sl, h1, h2⟩, h3⟩ := st
    refine it_end hh h1 h3 hd T hled h2 (by simp [wv_size]) fun h' k => ?_
    exact q h' s.toks fun b o hb e => k b o (by simpa using hb) e
  self := fun i s Q E st h => by
    obtain ⟨⟨sl, h1, h2⟩, h3⟩ := st
    exact it_self h1 h
theorem src_set {S : Addr} {ep : Nat} {es : Array (Int × Value)} {t : SetTable} {o : Obj} (hex : o.ExactSet) (hd : o.data = .set es ep t) (T : Tab t es.size) (hled : t.led = !(w.params.followText "set-order")) :
    PySem.W.KdlSrc prog w "set" S S es.size (fun i v => ∃ e, (wv w S ep es)[i]? = some e ∧ v = e.2) (fun h => h.get? S = some o) where
  type := fun s h => ⟨_, h, hex.1⟩
  there := fun h e => ⟨Heap.lt_size e, Heap.lt_size e⟩
  keep := fun h h' e k => k S (.inl rfl) _ e
  notList := by decide
  notTuple := by decide
  hint := fun A E s Q e h => set_hint ⟨_, e, hex.1⟩ h
  iter := fun A s hh e => ⟨itO S 0 0 es.size ep, _, fun E Q h => it_new e hex hd T h, walks_set hh (Nat.ne_of_lt (Heap.lt_size e)) hd T hled, ⟨0, Heap.get?_push_size _ rfl, fun _ => below_zero T.ris⟩, Heap.get?_push_of_some _ e⟩
theorem sorted_setI {S : Addr} {ks : List Int} {Q : Value → Shared → Prop} (hh : A.handled = none) (hS : SetI prog w s.heap S ks)
    (q : ∀ (h1 h' : Heap) tk c (out : Array Value) ms, (∀ b o, s.heap.get? b = some o → h1.get? b = some o) → (∀ b o, h1.get? b = some o → h'.get? b = some o) → h'.get? h1.objs.size = some (seqObj "list" out c) → IntsAre out.toList ms → ms.Perm ks → ms.Pairwise (· ≤ ·) → Q (.ref h1.objs.size) { s with heap := h', toks := tk }) :
    wpAny (model prog w) A (call (.builtin "sorted") [.ref S]) Q E s := by
  obtain ⟨o, es, ep, t, ho, hex, hd, hel, ⟨ns, hen, hp⟩, T, hled⟩ := hS
  have small : es.size ≤ 18 := by rcases T.mks with ⟨_, b⟩ | ⟨_, b⟩ <;> omega
  refine Calls.call_function_entry kind_sorted plain_sorted entry_sorted (args_sorted1 _) ?_
  unfold Builtin.«sorted»
  refine wpAny_bind (wpAny_of_eq (a := ()) rfl ?_)
  refine wpAny_bind (PySem.W.kdu_collect (A := A.in1) (src_set (S := S) hex hd T hled) hh ho (by rw [sizeLine_eq]; omega) fun h1 t1 acc k1 it => ?_)
  have hacc : acc.toList = (wv w S ep es).toList.map (·.2) := by
    refine List.ext_getElem? fun i => ?_
    by_cases hi : i < acc.size
    · obtain ⟨e, h1, h2⟩ := it.2 i acc[i] (by simp [hi])
      have : acc.toList[i]? = some acc[i] := by simp [hi]
      rw [this, h2, List.getElem?_map, Array.getElem?_toList, h1]
      rfl
    · have h1 := it.1
      have h2 := wv_size w S ep es
      rw [List.getElem?_eq_none (by simp; omega), List.getElem?_eq_none (by simp; omega)]
  obtain ⟨ls, hls, hpl⟩ := ints_perm ((wv_perm w S ep es).map (·.2)) hen
  rw [← hacc] at hls
  have hlen : acc.toList.length = es.size := by rw [Array.length_toList]; exact it.1
  refine wpAny_bind (wpAny_newList ?_ (by rw [sizeLine_eq]; omega))
  have hL : (h1.push (seqObj "list" acc.toList.toArray 0)).get? h1.objs.size = some (seqObj "list" acc.toList.toArray 0) := Heap.get?_push_size _ rfl
  have kL : ∀ b o, h1.get? b = some o → (h1.push (seqObj "list" acc.toList.toArray 0)).get? b = some o := fun b o e => Heap.get?_push_of_some _ e
  refine wpAny_bind (wpAny_holding (wpAny_call_entry slot_list_sort ⟨_, hL, rfl⟩ entry_list_sort (list_sort_tree hL hls (by omega) fun out ms a1 a2 a3 => ⟨_, rfl, ?_⟩) (args_list_sort _)))
  obtain ⟨c, hc⟩ := sortedHeap_at (out := out) hL
  exact wpAny_pure ⟨_, rfl, q h1 _ _ c out ms k1 (fun b o e => by rw [sortedHeap_old (Nat.ne_of_lt (Heap.lt_size e)) (Heap.lt_size (kL b o e))]; exact kL b o e) hc a1 ((a2.trans hpl).trans hp) a3⟩
end
end Ht
namespace Ht
noncomputable def insI (x : Int) : List Int → List Int
  | [] => [x]
  | y :: ys => if x < y then x :: y :: ys else if x = y then y :: ys else y :: insI x ys
noncomputable def srt (xs : List Int) : List Int := xs.foldr insI []
theorem insI_mem (x k : Int) : ∀ ys : List Int, k ∈ insI x ys ↔ k = x ∨ k ∈ ys
  | [] => by simp [insI]
  | y :: ys => by
    unfold insI
    split
    · simp
    · split
      · rename_i e
        subst e
        simp
      · rw [List.mem_cons, insI_mem x k ys, List.mem_cons]
        constructor <;> (intro z; rcases z with z | z | z <;> simp [z])
theorem insI_rise (x : Int) : ∀ {ys : List Int}, ys.Pairwise (· < ·) → (insI x ys).Pairwise (· < ·)
  | [], _ => by simp [insI]
  | y :: ys, h => by
    obtain ⟨h1, h2⟩ := List.pairwise_cons.mp h
    unfold insI
    split
    · rename_i hx
      exact List.pairwise_cons.mpr ⟨fun z hz => (List.mem_cons.mp hz).elim (fun e => e ▸ hx) fun m => Int.lt_trans hx (h1 z m), h⟩
    · split
      · exact h
      · refine List.pairwise_cons.mpr ⟨fun z hz => ?_, insI_rise x h2⟩
        rcases (insI_mem x z ys).mp hz with rfl | m
        · omega
        · exact h1 z m
theorem srt_mem (xs : List Int) (k : Int) : k ∈ srt xs ↔ k ∈ xs := by
  unfold srt
  induction xs with
  | nil => simp
  | cons x xs ih => rw [List.foldr_cons, insI_mem, ih, List.mem_cons]
theorem srt_rise (xs : List Int) : (srt xs).Pairwise (· < ·) := by
  unfold srt
  induction xs with
  | nil => exact .nil
  | cons x xs ih => exact insI_rise x ih
theorem rise_eq : ∀ {xs ys : List Int}, xs.Pairwise (· < ·) → ys.Pairwise (· < ·) → (∀ k, k ∈ xs ↔ k ∈ ys) → xs = ys
  | [], [], _, _, _ => rfl
  | [], y :: ys, _, _, h => by have := (h y).mpr (List.mem_cons_self ..); cases this
  | x :: xs, [], _, _, h => by have := (h x).mp (List.mem_cons_self ..); cases this
  | x :: xs, y :: ys, a, b, h => by
    obtain ⟨a1, a2⟩ := List.pairwise_cons.mp a
    obtain ⟨b1, b2⟩ := List.pairwise_cons.mp b
    have e : x = y := by
      rcases List.mem_cons.mp ((h x).mp (List.mem_cons_self ..)) with z | z
      · exact z
      · rcases List.mem_cons.mp ((h y).mpr (List.mem_cons_self ..)) with z2 | z2
        · exact z2.symm
        · have := a1 y z2
          have := b1 x z
          omega
    subst e
    rw [rise_eq a2 b2 fun k => ?_]
    constructor
    · intro hk
      rcases List.mem_cons.mp ((h k).mp (List.mem_cons_of_mem _ hk)) with z | z
      · have := a1 k hk; omega
      · exact z
    · intro hk
      rcases List.mem_cons.mp ((h k).mpr (List.mem_cons_of_mem _ hk)) with z | z
      · have := b1 k hk; omega
      · exact z
theorem srt_is {ms ns : List Int} (p : ms.Perm (nubI ns)) (h : ms.Pairwise (· ≤ ·)) : ms = srt ns := by
  have nd : ms.Nodup := p.nodup_iff.mpr (nubI_nodup ns)
  have lt : ms.Pairwise (· < ·) := (List.pairwise_and_iff.mpr ⟨h, nd⟩).imp fun z => by
    have := z.1
    have := z.2
    omega
  exact rise_eq lt (srt_rise ns) fun k => by rw [p.mem_iff, nubI_mem, srt_mem]
end Ht
namespace L2
open PySem PySem.Spec PyProof.Rows Sem Ht
noncomputable def setN (P : Program) (w : World) (p : Addr) (ks : List Int) : HO := .ext fun h => SetI P w h p ks
section
variable {X : Cx}
theorem call_setN (hc : X.calm = true) : CallR X (.type "set") (fun xs H Q => ∃ a ns, xs = [.ref a] ∧ (SqL X.K H a (ns.map V.int) ∨ SqT X.K H a (ns.map V.int)) ∧ (nubI ns).length ≤ 18 ∧ ∀ p, H p = none → Q (.ref p) (upd H p (setN X.prog X.w p (nubI ns)))) := by
  intro pins s σ H xs us Q I r h
  obtain ⟨a, ns, rfl, ha, room, q⟩ := h
  obtain ⟨u, rfl, ru⟩ := Vals.one r
  cases ru
  have fin : ∀ h' tk, (∀ c o, s.heap.get? c = some o → h'.get? c = some o) → SetI X.prog X.w h' s.heap.objs.size (nubI ns) → EP X pins σ Q (.ref s.heap.objs.size) { s with heap := h', toks := tk } := fun h' tk kp hS => by
    refine ⟨.ref s.heap.objs.size, _, I.laid (o := setN X.prog X.w s.heap.objs.size (nubI ns)) kp (Nat.le_refl _) ?_, rfl, q _ (I.hok.fresh (Nat.le_refl _))⟩
    obtain ⟨o, es, ep, t, e, rest⟩ := id hS
    exact ⟨hS, ⟨o, e⟩, fun h1 h2 z k => z.at k⟩
  rcases ha with ha | ha
  · obtain ⟨its, rv, pl, hz⟩ := I.list ha
    exact set_ofList (I.ok.hd hc) pl.isList (intsAre_of rv) room fin
  · obtain ⟨its, rv, pl, hz⟩ := I.tuple ha
    exact set_ofTup (I.ok.hd hc) pl (intsAre_of rv) room fin
theorem call_sortN (hc : X.calm = true) : CallR X (.builtin "sorted") (fun xs H Q => ∃ p ns, xs = [.ref p] ∧ H p = some (setN X.prog X.w p (nubI ns)) ∧ ∀ l, H l = none → Q (.ref l) (upd H l (.lst ((srt ns).map V.int)))) := by
  intro pins s σ H xs us Q I r h
  obtain ⟨p, ns, rfl, hp, q⟩ := h
  obtain ⟨u, rfl, ru⟩ := Vals.one r
  cases ru
  obtain ⟨hS, _⟩ := I.hok p _ hp
  refine sorted_setI (I.ok.hd hc) hS fun h1 h' tk c out ms k1 k2 e1 im pm sm => ?_
  have em := srt_is pm sm
  subst em
  have I1 := I.kept (t' := tk) k1
  have rv := vals_ints im
  refine ⟨.ref h1.objs.size, _, I1.laid (t' := tk) (o := .lst ((srt ns).map V.int)) k2 (Nat.le_refl _) ⟨?_, out.toList, c, rv, e1⟩, rfl, q _ (I1.hok.fresh (Nat.le_refl _))⟩
  obtain ⟨o, es, ep, t, _, _, _, _, ⟨ns', hen, hp'⟩, T, _⟩ := hS
  have hsz := en_size hen (hp'.trans pm.symm)
  rw [List.length_map, sizeLine_eq]
  rcases T.mks with ⟨_, b⟩ | ⟨_, b⟩ <;> omega
end
end L2
namespace Mi
open PySem L2 Ht
noncomputable def sortsetF (d : D) : M D := bnd (asSeq1 d) fun ds => fun μ => match intsD ds with
  | some ns => if (nubI ns).length ≤ 18 then some (.lst ((srt ns).map D.int), μ) else none
  | none => none
theorem isL_ints {K : PySem.W.Frag} {ι : Nat → Addr} {k : Nat} {H : Hp} : ∀ ns : List Int, IsL K ι k H (ns.map D.int) (ns.map V.int)
  | [] => IsL.nil
  | n :: r => by
    rw [List.map_cons, List.map_cons]
    unfold IsL
    exact ⟨_, _, rfl, ofI _, isL_ints r⟩
section
variable {X : Cx} {e : Expr} {pos p p2 pos2 : Pos}
theorem re_sortset {m : Sl → M D} (yl : X.mg "sorted" = none) (ys : X.mg "set" = none) (he : RE X e m) (hc : X.calm = true := by rfl) (hgl : Gl X "sorted" := by rfl) (hgs : Gl X "set" := by rfl) (hst : isStar e = false := by rfl) :
    RE X (.Call (.Name "sorted" p) [.Call (.Name "set" p2) [e] [] pos2] [] pos) (mUn sortsetF m) := by
  have hs : PE X (.Call (.Name "set" p2) [e] [] pos2) _ := pe_callTy (call_setN hc) hgs ys Mi.boot_set (pa_cons he.pe pa_nil (star_cons hst)) (by decide) (by decide) (star_cons hst) rfl
  refine RE.wk (pe_callB (call_sortN hc) hgl yl PyProof.Rows.boot_sorted (pa_cons hs pa_nil (star_cons rfl)) (by decide) (by decide) (star_cons rfl) rfl) fun σ H Q h => ?_
  obtain ⟨ι, μ, τ, d, μ', R, S, ev, q⟩ := h
  obtain ⟨x, μ1, e1, e2⟩ := bnd_some ev
  obtain ⟨ds, μ2, e3, e4⟩ := bnd_some e2
  refine ⟨ι, μ, τ, x, μ1, R, S, e1, fun ι1 H1 E1 R1 v1 i1 => ?_⟩
  obtain ⟨hm, a, vs, rfl, h1, h2⟩ := asSeq1_sq R1 i1 e3
  subst hm
  cases hx : intsD ds with
  | none => rw [hx] at e4; cases e4
  | some ns =>
    rw [hx] at e4
    have e5 : (if (nubI ns).length ≤ 18 then some (D.lst ((srt ns).map D.int), μ2) else none) = some (d, μ') := e4
    split at e5
    · rename_i room
      cases e5
      have ev := intsD_is h2 hx
      subst ev
      refine ⟨a, ns, rfl, h1, room, fun p hp => ?_⟩
      obtain ⟨E2, R2⟩ := R1.laid (setN X.prog X.w p (nubI ns)) hp
      exact ⟨p, ns, rfl, upd_same, fun l hl => laidL R2 (isL_ints _) (fun ι' H' E' R' => q ι' H' ((E1.trans E2).trans E') R') l hl⟩
    · cases e5
end
end Mi
namespace L2
open PySem PySem.Spec PyProof.Rows Sem Ht
section
variable {prog : Program} {w : World} {A : Around} {E : Value → Shared → Prop} {s : Shared}
theorem size_one {n : Nat} : Builtin.Range.rangeSize 0 n 1 = (n : Int) := by rw [rangeSize_one]; split <;> omega
theorem small_nat {n : Nat} (h : n ≤ 1000) : Builtin.Range.small 0 n 1 = true := small_one (by omega) (by omega) (by omega) (by omega)
theorem collect_rng {r : Addr} {n : Nat} {t u v : Tok} {Q : List Value → Shared → Prop} (hh : A.handled = none) (hr : IsRange s.heap r 0 n 1 t u v) (hn : n ≤ 1000)
    (q : ∀ h' tk (acc : List Value), (∀ b o, s.heap.get? b = some o → h'.get? b = some o) → IntsAre acc ((List.range n).map Int.ofNat) → Q acc { s with heap := h', toks := tk }) :
    wpAny (model prog w) A (collect (.ref r)) Q E s := by
  unfold collect
  refine wpAny_bind (wpAny_runValue (codeAny_builtin entry_proto_collect' ?_))
  rw [Around.under_plainId PySem.F.plain_proto_collect _]
  unfold Builtin.«proto.collect»
  refine wpAny_bind (wpAny_newList ?_)
  refine wpAny_pure ⟨plainId_quiet PySem.F.plain_list_iadd _, codeAny_builtin entry_list_iadd' ?_⟩
  rw [Around.under_plainId PySem.F.plain_list_iadd _]
  have got : ∀ (acc : Array Value) (c : Nat) (h' : Heap) (tk : Nat), (∀ b o, s.heap.get? b = some o → h'.get? b = some o) → h'.get? s.heap.objs.size = some { cls := .type "list", dict := none, data := .seq acc c, slots := #[] } → ItemsOf (fun i v => ∃ t, v = .int (0 + (i : Int) * 1) t) acc n →
      wpAny (model prog w) A (load s.heap.objs.size >>= fun o => match o.data with | .seq xs _ => Pure.pure xs.toList | _ => PySem.unsupported "internal:collect") Q E { s with heap := h', toks := tk } := fun acc c h' tk k e it => by
    refine wpAny_bind (wpAny_load e (wpAny_pure (q h' tk acc.toList k ?_)))
    have im := intsAre_map acc.toList fun v hv => by
      obtain ⟨i, hi, rfl⟩ := List.getElem_of_mem hv
      obtain ⟨t, e⟩ := it.2 i _ (Array.getElem?_eq_getElem (by simpa using hi))
      exact ⟨_, t, by simpa using e⟩
    have en : acc.toList.map numOf = (List.range n).map Int.ofNat := by
      refine List.ext_getElem? fun i => ?_
      rw [List.getElem?_map, List.getElem?_map]
      by_cases hi : i < n
      · have hi' : i < acc.size := by rw [it.1]; exact hi
        obtain ⟨t, e⟩ := it.2 i _ (Array.getElem?_eq_getElem hi')
        rw [Array.getElem?_toList, Array.getElem?_eq_getElem hi', e, List.getElem?_range hi]
        simp [numOf]
      · rw [List.getElem?_eq_none (by rw [Array.length_toList, it.1]; omega), List.getElem?_eq_none (by simp; omega)]
        rfl
    rwa [en] at im
  have key := wpAny_extend_range (prog := prog) (w := w) (A := A) (s := { s with heap := s.heap.push { cls := .type "list", data := .seq ([] : List Value).toArray } })
    (R := fun (z : Result) (s' : Shared) => ∃ (h' : Heap) (tk : Nat) (acc : Array Value) (c : Nat), z = .ok (.ret (.ref s.heap.objs.size)) ∧ s' = { s with heap := h', toks := tk } ∧
      (∀ b o, s.heap.get? b = some o → h'.get? b = some o) ∧ h'.get? s.heap.objs.size = some { cls := .type "list", dict := none, data := .seq acc c, slots := #[] } ∧ ItemsOf (fun i v => ∃ t, v = .int (0 + (i : Int) * 1) t) acc n)
    (n := n) hh (Heap.get?_push_of_some _ hr) (small_nat hn) size_one (by omega) s.heap.objs.size (.ref s.heap.objs.size) 0 (Heap.get?_push_size _ rfl)
    (fun h' tk acc c k e it => ⟨h', tk, acc, c, rfl, rfl, fun b o z => k b o (Nat.ne_of_lt (Heap.lt_size z)) (Heap.get?_push_of_some _ z), e, it⟩)
  refine wpAny_mono key (fun fin s' z => ?_) fun e s' z => by obtain ⟨_, _, _, _, y, _⟩ := z; cases y
  cases fin with
  | done f =>
    obtain ⟨h', tk, acc, c, y, rfl, k, e, it⟩ := z
    cases y
    exact got acc c h' tk k e it
  | again c =>
    refine ⟨z.1, codeAny_mono z.2 fun f s2 y => ?_⟩
    obtain ⟨h', tk, acc, c, rfl, rfl, k, e, it⟩ := y
    exact got acc c h' tk k e it
end
section
variable {X : Cx}
theorem call_rng1 : CallR X (.type "range") (fun xs H Q => ∃ n : Nat, xs = [.int n] ∧ ∀ p, H p = none → Q (.ref p) (upd H p (.rng 0 n))) := by
  intro pins s σ H xs us Q I r h
  obtain ⟨n, rfl, q⟩ := h
  obtain ⟨u, rfl, t, rfl⟩ := Vals.one r
  refine call_range_1 ⟨.ref s.heap.objs.size, _, I.laid (o := .rng 0 n) (fun b o e => Heap.get?_push_of_some _ e) (Nat.le_refl _) ⟨_, _, _, Heap.get?_push_size _ rfl⟩, rfl, q _ (I.hok.fresh (Nat.le_refl _))⟩
noncomputable abbrev natsV (n : Nat) : List V := ((List.range n).map Int.ofNat).map V.int
theorem natsV_len (n : Nat) : (natsV n).length = n := by simp
theorem call_listRng (hc : X.calm = true) : CallR X (.type "list") (fun xs H Q => ∃ p n, xs = [.ref p] ∧ H p = some (.rng 0 (n : Nat)) ∧ n ≤ 1000 ∧ ∀ l, H l = none → Q (.ref l) (upd H l (.lst (natsV n)))) := by
  intro pins s σ H xs us Q I r h
  obtain ⟨p, n, rfl, hp, hn, q⟩ := h
  obtain ⟨u, rfl, ru⟩ := Vals.one r
  cases ru
  obtain ⟨t, u, v, e⟩ := I.hok p _ hp
  refine call_list_range (I.ok.hd hc) e (small_nat hn) size_one (by omega) fun h' tk acc c k e it => ?_
  have im := intsAre_map acc.toList fun v hv => by
    obtain ⟨i, hi, rfl⟩ := List.getElem_of_mem hv
    obtain ⟨t, e⟩ := it.2 i _ (Array.getElem?_eq_getElem (by simpa using hi))
    exact ⟨_, t, by simpa using e⟩
  have en : acc.toList.map numOf = (List.range n).map Int.ofNat := by
    refine List.ext_getElem? fun i => ?_
    rw [List.getElem?_map, List.getElem?_map]
    by_cases hi : i < n
    · have hi' : i < acc.size := by rw [it.1]; exact hi
      obtain ⟨t, e⟩ := it.2 i _ (Array.getElem?_eq_getElem hi')
      rw [Array.getElem?_toList, Array.getElem?_eq_getElem hi', e, List.getElem?_range hi]
      simp [numOf]
    · rw [List.getElem?_eq_none (by rw [Array.length_toList, it.1]; omega), List.getElem?_eq_none (by simp; omega)]
      rfl
  rw [en] at im
  exact ⟨.ref s.heap.objs.size, _, I.laid (t' := tk) (o := .lst (natsV n)) k (Nat.le_refl _) ⟨by rw [natsV_len, sizeLine_eq]; omega, acc.toList, c, vals_ints im, e⟩, rfl, q _ (I.hok.fresh (Nat.le_refl _))⟩
theorem call_tupRng (hc : X.calm = true) : CallR X (.type "tuple") (fun xs H Q => ∃ p n, xs = [.ref p] ∧ H p = some (.rng 0 (n : Nat)) ∧ n ≤ 1000 ∧ ∀ l, H l = none → Q (.ref l) (upd H l (.tup (natsV n)))) := by
  intro pins s σ H xs us Q I r h
  obtain ⟨p, n, rfl, hp, hn, q⟩ := h
  obtain ⟨u, rfl, ru⟩ := Vals.one r
  cases ru
  obtain ⟨t, u, v, e⟩ := I.hok p _ hp
  refine callType_codes PySem.F.called_tuple (PySem.F.typeCall_tuple_1 (.ref p)) PySem.F.entry_object_init (Q₁ := fun x s₁ => s₁.TypeIs x "tuple" ∧ EP X pins σ Q x s₁) ?_ (fun x s₁ z => And.intro z.1 (And.intro (PySem.F.args_object_init_2 x (.ref p)) ?_))
  · refine codeAny_call_builtin PySem.F.plain_tuple_new PySem.F.entry_tuple_new (wpAny_of_eq (PySem.F.newCall_tuple_1 _) ?_)
    have a1 := sub_tuple_self
    have a2 := init_tuple_lookup
    have a3 := madeHere_tuple
    have a4 : s.TypeIs (.ref p) "range" := ⟨_, e, rfl⟩
    unfold Builtin.«tuple.__new__»
    have go : ∀ (A : Around) (Q : List Value → Shared → Prop) (E : Value → Shared → Prop), A.handled = none → (∀ h' tk (acc : List Value), (∀ b o, s.heap.get? b = some o → h'.get? b = some o) → IntsAre acc ((List.range n).map Int.ofNat) → Q acc { s with heap := h', toks := tk }) → wpAny (model X.prog X.w) A (collect (.ref p)) Q E s := fun A Q E hh z => collect_rng hh e hn z
    wp_walk using go
    · exact I.ok.hd hc
    · intro h' tk acc k im
      have hl : acc.length = n := by
        have := congrArg List.length im.nums
        simpa using this
      refine wpAny_bind (wpAny_pure ?_)
      unfold Builtin.Tuple.tupleExact
      refine wpAny_bind (wpAny_newObj_type ?_ (by show acc.toArray.size ≤ sizeLine; rw [sizeLine_eq]; simp; omega))
      have I1 := I.kept (t' := tk) k
      refine wpAny_pure ⟨⟨_, Heap.get?_push_size _ rfl, rfl⟩, .ref h'.objs.size, _, I1.laid (t' := tk) (o := .tup (natsV n)) (fun b o z => Heap.get?_push_of_some _ z) (Nat.le_refl _) ⟨by rw [natsV_len, sizeLine_eq]; omega, acc, vals_ints im, IsTup.new _ _⟩, rfl, q _ (I1.hok.fresh (Nat.le_refl _))⟩
  · exact object_init_meets PySem.F.called_tuple.init.lookup PySem.F.called_tuple.made (by decide) X.prog X.w X.A.in1 (wants (fun r s₂ => r = .none ∧ EP X pins σ Q x s₂) X.xe) s₁ (And.intro z.1 (And.intro rfl z.2))
end
end L2
namespace Mi
open PySem L2 Ht
noncomputable def natsD (n : Nat) : List D := ((List.range n).map Int.ofNat).map D.int
noncomputable def rngsF (how : List D → D) (d : D) : M D := match d with
  | .int j => fun μ => if 0 ≤ j ∧ j ≤ 1000 then some (how (natsD j.toNat), μ) else none
  | _ => fail
section
variable {X : Cx} {e : Expr} {pos p p2 pos2 : Pos}
theorem re_rngs {T : String} {f : List D → D} {how : List V → HO} {m : Sl → M D} (call : X.calm = true → CallR X (.type T) (fun xs H Q => ∃ p n, xs = [.ref p] ∧ H p = some (.rng 0 (n : Nat)) ∧ n ≤ 1000 ∧ ∀ l, H l = none → Q (.ref l) (upd H l (how (natsV n)))))
    (fin : ∀ {ι : Nat → Addr} {μ : Mh} {H : Hp} {Q : VK} {ds : List D} {vs : List V}, RelH X.K ι μ H → IsL X.K ι μ.length H ds vs → (Aft X.K ι μ H μ fun ι' H' => ∀ v, Is X.K ι' μ.length H' (f ds) v → Q v H') → ∀ l, H l = none → Q (.ref l) (upd H l (how vs)))
    (yl : X.mg T = none) (ys : X.mg "range" = none) (bt : bootBuiltins T = some (.type T)) (he : RE X e m) (hc : X.calm = true := by rfl) (hgl : Gl X T := by rfl) (hgs : Gl X "range" := by rfl) (hst : isStar e = false := by rfl) (n1 : (T : Str) ≠ "__name__" := by decide) (n2 : ((T : Str) == ("__debug__" : Str)) = false := by decide) :
    RE X (.Call (.Name T p) [.Call (.Name "range" p2) [e] [] pos2] [] pos) (mUn (rngsF f) m) := by
  have hs : PE X (.Call (.Name "range" p2) [e] [] pos2) _ := pe_callTy call_rng1 hgs ys PyProof.Rows.boot_range (pa_cons he.pe pa_nil (star_cons hst)) (by decide) (by decide) (star_cons hst) rfl
  refine RE.wk (pe_callTy (call hc) hgl yl bt (pa_cons hs pa_nil (star_cons rfl)) n1 n2 (star_cons rfl) rfl) fun σ H Q h => ?_
  obtain ⟨ι, μ, τ, d, μ', R, S, ev, q⟩ := h
  obtain ⟨x, μ1, e1, e2⟩ := bnd_some ev
  refine ⟨ι, μ, τ, x, μ1, R, S, e1, fun ι1 H1 E1 R1 v1 i1 => ?_⟩
  cases x with
  | int j =>
    have e3 : (if 0 ≤ j ∧ j ≤ 1000 then some (f (natsD j.toNat), μ1) else none) = some (d, μ') := e2
    split at e3
    · rename_i hj
      cases e3
      have z := is_int i1
      subst z
      have ej : j = ((j.toNat : Nat) : Int) := by omega
      refine ⟨j.toNat, by rw [← ej], fun p hp => ?_⟩
      obtain ⟨E2, R2⟩ := R1.laid (.rng 0 (j.toNat : Nat)) hp
      exact ⟨p, j.toNat, rfl, upd_same, by omega, fun l hl => fin R2 (isL_ints _) (fun ι' H' E' R' => q ι' H' ((E1.trans E2).trans E') R') l hl⟩
    · cases e3
  | _ => cases e2
theorem re_tuprng {m : Sl → M D} (yl : X.mg "tuple" = none) (ys : X.mg "range" = none) (he : RE X e m) (hc : X.calm = true := by rfl) (hgl : Gl X "tuple" := by rfl) (hgs : Gl X "range" := by rfl) (hst : isStar e = false := by rfl) :
    RE X (.Call (.Name "tuple" p) [.Call (.Name "range" p2) [e] [] pos2] [] pos) (mUn (rngsF D.tup) m) := re_rngs (T := "tuple") (how := HO.tup) call_tupRng laidT yl ys Mi.boot_tuple he hc hgl hgs hst
theorem re_listrng {m : Sl → M D} (yl : X.mg "list" = none) (ys : X.mg "range" = none) (he : RE X e m) (hc : X.calm = true := by rfl) (hgl : Gl X "list" := by rfl) (hgs : Gl X "range" := by rfl) (hst : isStar e = false := by rfl) :
    RE X (.Call (.Name "list" p) [.Call (.Name "range" p2) [e] [] pos2] [] pos) (mUn (rngsF D.lst) m) := re_rngs (T := "list") (how := HO.lst) call_listRng laidL yl ys Mi.boot_list he hc hgl hgs hst
noncomputable def listLF : List D → M D
  | [d] => bnd (asSeq1 d) fun ds => ret (.lst ds)
  | _ => fail
theorem c_listL : CallR X (.type "list") (rMA X.K listLF) := fun pins s σ H xs us Q I r h => by
  obtain ⟨ι, μ, as, d, μ', R, ia, e, q⟩ := h
  unfold listLF at e
  split at e
  · rename_i y
    obtain ⟨ds, μ1, e1, e2⟩ := bnd_some e
    obtain ⟨v, rfl, i1⟩ := isL1 ia
    obtain ⟨hm, p, vs, rfl, h1, h2⟩ := asSeq1_sq R i1 e1
    subst hm
    cases e2
    exact call_list_of pins s σ H _ us Q I r ⟨p, vs, rfl, h1, laidL R h2 q⟩
  · cases e
noncomputable def dropD (l : List (Key × D)) (k : Key) : List (Key × D) := l.filter fun kv => decide (kv.1 ≠ k)
theorem KVs.drop {K : PySem.W.Frag} {ι : Nat → Addr} {k : Nat} {H : Hp} : ∀ {l : List (Key × D)} {r : List (Key × V)} (y : Key), KVs K ι k H l r → KVs K ι k H (dropD l y) (dropK r y)
  | [], _, y, h => by cases h; rfl
  | (z, d) :: l, _, y, h => by
    obtain ⟨v, r', rfl, h1, h2⟩ := h
    have ih := KVs.drop y h2
    unfold dropD dropK at ih ⊢
    by_cases hz : z = y
    · rw [List.filter_cons_of_neg (by simp [hz]), List.filter_cons_of_neg (by simp [hz])]
      exact ih
    · rw [List.filter_cons_of_pos (by simp [hz]), List.filter_cons_of_pos (by simp [hz])]
      exact ⟨v, _, rfl, h1, ih⟩
noncomputable def dpopF (d y : D) : M D := bnd (asDict d) fun r => fun μ => (keyD y).bind fun k => (valD r.2 k).map fun v => (v, μ.set r.1 (.dK (dropD r.2 k)))
noncomputable def mDpop (mo mi : Sl → M D) : Sl → M D := fun τ => bnd (mo τ) fun x => bnd (guardD x) fun _ => bnd (mi τ) fun y => dpopF x y
theorem re_dpop {o : Expr} {apos cpos : Pos} {mo mi : Sl → M D} (ho : RE X o mo) (hi : RE X e mi) (m : M1 X o "pop" apos e cpos := by exact ⟨rfl, rfl, rfl, rfl⟩) : RE X (.Call (.Attribute o "pop" apos) [e] [] cpos) (mDpop mo mi) := RE.wk (pe_dpop1 ho.pe hi.pe m) fun σ H Q h => by
  obtain ⟨ι, μ, τ, d, μ', R, S, e, q⟩ := h
  obtain ⟨x, μ1, e1, ee1⟩ := bnd_some e
  obtain ⟨u, μ4, e4, ee2⟩ := bnd_some ee1
  obtain ⟨y, μ2, e2, ee3⟩ := bnd_some ee2
  obtain ⟨r, μ3, e3, ee4⟩ := bnd_some ee3
  obtain ⟨hm, r0, e5⟩ := guardD_mu e4
  subst hm
  refine ⟨ι, μ, τ, x, _, R, S, e1, fun ι1 H1 E1 R1 v1 i1 => ?_⟩
  obtain ⟨_, _, _, rfl, kvs0, g0, _⟩ := asDict_some R1 i1 e5
  refine ⟨_, rfl, .inl ⟨kvs0, .inl g0⟩, ι1, _, τ, y, μ2, R1, S.ext E1, e2, fun ι2 H2 E2 R2 v2 i2 => ?_⟩
  obtain ⟨hm, hx, g1, hv, kvs, g2, g3⟩ := asDict_some R2 (i1.ext E2) e3
  subst hm
  cases hk : keyD y with
  | none => rw [hk] at ee4; cases ee4
  | some ky =>
    rw [hk] at ee4
    cases keyD_is i2 hk
    have hv' : ι1 r0.1 = ι2 r.1 := V.ref.inj hv
    rw [hv']
    rcases g3.val ky with ⟨z1, z2⟩ | ⟨dd, vv, z1, z2, z3⟩
    · have ee5 : (valD r.2 ky).map (fun v => (v, μ3.set r.1 (MO.dK (dropD r.2 ky)))) = some (d, μ') := ee4
      rw [z1] at ee5
      cases ee5
    · have ee5 : (valD r.2 ky).map (fun v => (v, μ3.set r.1 (MO.dK (dropD r.2 ky)))) = some (d, μ') := ee4
      rw [z1] at ee5
      cases ee5
      have hlt : r.1 < List.length μ3 := (List.getElem?_eq_some_iff.mp g1).1
      obtain ⟨E4, R4⟩ := R2.changed (m := .dK (dropD r.2 ky)) (o := .dK (dropK kvs ky)) hlt ⟨_, rfl, g3.drop ky⟩
      exact ⟨kvs, ky, vv, g2, rfl, z2, q ι2 _ ((E1.trans E2).trans E4) R4 vv (z3.ext E4)⟩
theorem list_remove_ok : MtR X "list.remove" (fun x xs H Q => ∃ p ys y j, x = .ref p ∧ xs = [y] ∧ H p = some (.lst ys) ∧ flatV y = true ∧ ys.all flatV = true ∧ ys.findIdx? (fun z => eqV z y) = some j ∧ Q .non (upd H p (.lst (ys.eraseIdx j)))) := by
  intro pins s σ H x xs v us Q I rx rs h
  obtain ⟨p, ys, y, j, rfl, rfl, hp, fy, fys, hj, q⟩ := h
  cases rx
  obtain ⟨u, rfl, ru⟩ := vals1 rs
  obtain ⟨z, its, n, r, hl, e⟩ := I.lstM hp
  obtain ⟨hj2, e1, e2⟩ := find_eqU r fys hj
  refine call_meets PySem.F.slot_list_remove ⟨_, e, rfl⟩ PySem.F.entry_list_remove (PySem.F.args_list_remove_2 _ _) (MeetsSeq.list_remove p its.toArray n u (eqU y) (fun w hw prog w' A E s Q hq => mem_eqAt (A := A) (s := s) ru fy r fys w (by simpa using hw) prog w' E Q hq) j (by rw [List.size_toArray]; exact hj2) (by simpa using e1) (fun m hm h => by simpa using e2 m (by simpa using hm) h) (by rw [List.size_toArray]; omega)) ⟨e, ?_⟩
  refine ⟨.non, _, I.lset (its' := its.eraseIdx j) (ys := ys.eraseIdx j) hp e ?_ (r.eraseIdx j) ?_, rfl, q⟩
  · show its.toArray.eraseIdxIfInBounds j = (its.eraseIdx j).toArray
    rw [List.eraseIdxIfInBounds_toArray]
  · have := len_erase ys j
    omega
theorem IsL.erase {K : PySem.W.Frag} {ι : Nat → Addr} {k : Nat} {H : Hp} : ∀ {ds : List D} {vs : List V} (j : Nat), IsL K ι k H ds vs → IsL K ι k H (ds.eraseIdx j) (vs.eraseIdx j)
  | [], _, j, h => by unfold IsL at h; subst h; simpa using IsL.nil
  | d :: ds, _, j, h => by
    unfold IsL at h
    obtain ⟨v, vs', rfl, h1, h2⟩ := h
    cases j with
    | zero => exact h2
    | succ j =>
      rw [List.eraseIdx_cons_succ, List.eraseIdx_cons_succ]
      unfold IsL
      exact ⟨v, _, rfl, h1, IsL.erase j h2⟩
noncomputable def remF : D → List D → M D
  | .ref n, [y] => updL n fun ds => match flatD y, flatDs ds with
    | some y, some xs => (xs.findIdx? fun z => eqV z y).map fun j => (.non, ds.eraseIdx j)
    | _, _ => none
  | _, _ => fail
theorem m_remove : MtR X "list.remove" (rMM X.K remF) := fun pins s σ H x xs v us Q I rx rs h => by
  obtain ⟨ι, μ, a, as, d, μ', R, ia, ib, e, q⟩ := h
  unfold remF at e
  split at e
  · rename_i n y
    obtain ⟨ds, es, h1, h2, rfl⟩ := updL_some e
    obtain ⟨w, rfl, iw⟩ := isL1 ib
    unfold Is at ia
    obtain ⟨_, rfl⟩ := ia
    obtain ⟨u, g1, vs, rfl, g2⟩ := R.obj n _ h1
    split at h2
    · rename_i y' xs' q1 q2
      obtain ⟨rfl, f1⟩ := flatD_is iw q1
      obtain ⟨rfl, f2⟩ := flatDs_is g2 q2
      cases hj : vs.findIdx? (fun z => eqV z w) with
      | none => rw [hj] at h2; cases h2
      | some j =>
        rw [hj] at h2
        cases h2
        exact list_remove_ok pins s σ H _ _ v us Q I rx rs ⟨_, vs, w, j, rfl, rfl, g1, f1, f2, hj, upd_end R h1 (g2.erase j) ofN q⟩
    · cases h2
  · cases e
end
end Mi
namespace L2
open PySem PySem.Spec PyProof.Rows Sem Ht
theorem tm_fill : fillsNumberSlot (.type "tuple") "mul" = Pure.pure false := PySem.fillsNumberSlot_seq (id := "tuple.__mul__") (r := some (.builtin "tuple.__rmul__")) PySem.F.slot_tuple_mul.lookup (by decide +kernel) PySem.F.slot_tuple_rmul.lookup (by decide +kernel)
theorem tm_rep : seqRepeat? (.type "tuple") = Pure.pure (some (.builtin "tuple.__mul__")) := by
  unfold seqRepeat?
  rw [PySem.seqSlot_of (T := "tuple") (name := "__mul__") PySem.F.slot_tuple_mul.lookup (by decide +kernel), PySem.seqSlot_of (T := "tuple") (name := "__rmul__") PySem.F.slot_tuple_rmul.lookup (by decide +kernel)]
  rfl
section
variable {prog : Program} {w : World} {A : Around} {E : Value → Shared → Prop} {s : Shared}
theorem tm_int (a : Int) (t : Tok) (l : Addr) (items : Array Value) : Meets (Builtin.«int.__rmul__» ⟨[.int a t, .ref l], []⟩) (fun _ R s => IsTup s.heap l items ∧ R (.ok (.ret Value.notImplemented)) s) :=
  .of_wp fun prog w A R s h => by
    obtain ⟨⟨o, ho, hc, n, hd⟩, h⟩ := h
    have hT : s.TypeIs (.ref l) "tuple" := ⟨o, ho, hc⟩
    have z := PySem.F.sub_tuple_int
    wp_walk
    rw [hd]
    wp_walk
    exact ⟨_, rfl, h⟩
theorem tm_mul (l : Addr) (items : Array Value) (k : Int) (t : Tok) (h0 : items.isEmpty = false) (h1 : 1 ≤ k) (h2 : k ≤ 1000) (h3 : items.size ≤ 1000) :
    Meets (Builtin.«tuple.__mul__» ⟨[.ref l, .int k t], []⟩) (fun _ R s => IsTup s.heap l items ∧ (k = 1 → R (.ok (.ret (.ref l))) s) ∧ (k ≠ 1 → R (.ok (.ret (.ref s.heap.objs.size))) { s with heap := s.heap.push { cls := .type "tuple", data := .seq ((List.replicate k.toNat items).foldl (· ++ ·) #[]) } })) :=
  .of_wp fun prog w A R s h => by
    obtain ⟨⟨o, ho, hc, n, hd⟩, q1, q2⟩ := h
    have hT : s.TypeIs (.ref l) "tuple" := ⟨o, ho, hc⟩
    have b1 : (items.size : Int) * k ≤ 1000000 := by
      have := Int.mul_le_mul (show (items.size : Int) ≤ 1000 by omega) h2 (by omega) (by omega)
      omega
    have c1 : (decide (k < -2 ^ 63) || decide (k ≥ 2 ^ 63)) = false := by simp; omega
    have c3 : (decide (k ≤ 0) || items.isEmpty) = false := by rw [h0]; simp; omega
    have c5 : Builtin.Tuple.tupleTooMany ((items.size : Int) * k) = false := by
      unfold Builtin.Tuple.tupleTooMany
      simp [sizeLine_eq]
      omega
    unfold Builtin.«tuple.__mul__»
    wp_walk
    rw [c1, if_neg Bool.false_ne_true]
    refine wpAny_bind ?_
    unfold Builtin.Tuple.tupleItemsOf
    refine wpAny_bind (wpAny_seqItems ho hd (wpAny_pure ?_))
    rw [h0]
    by_cases hk : k = 1
    · have c2 : (false || k == 1) = true := by simp [hk]
      rw [c2]
      simp only [↓reduceIte]
      wp_walk
      exact ⟨_, rfl, q1 hk⟩
    · have c2 : (false || k == 1) = false := by simp [hk]
      rw [c2]
      simp only [Bool.false_eq_true, ↓reduceIte]
      rw [Bool.or_false, decide_eq_false (show ¬ k ≤ 0 by omega)]
      simp only [Bool.false_eq_true, ↓reduceIte]
      rw [if_neg (show ¬ (items.size : Int) * k > (2 ^ 63 - 1) / 8 by omega), c5]
      simp only [Bool.false_eq_true, ↓reduceIte]
      unfold Builtin.Tuple.tupleExact
      refine wpAny_bind (wpAny_newObj_type (wpAny_pure ⟨_, rfl, q2 hk⟩) ?_)
      show ((List.replicate k.toNat items).foldl (· ++ ·) #[]).size ≤ sizeLine
      have sz : ∀ (m : Nat) (z : Array Value), ((List.replicate m items).foldl (· ++ ·) z).size = z.size + m * items.size := by
        intro m
        induction m with
        | zero => intro z; simp
        | succ m ih => intro z; rw [List.replicate_succ, List.foldl_cons, ih, Array.size_append, Nat.succ_mul]; omega
      rw [sz, sizeLine_eq]
      have : ((k.toNat * items.size : Nat) : Int) = (items.size : Int) * k := by
        rw [Int.natCast_mul, Int.toNat_of_nonneg (by omega), Int.mul_comm]
      simp
      omega
end
theorem foldl_flat (its : List Value) : ∀ (m : Nat) (z : List Value), (List.replicate m its.toArray).foldl (· ++ ·) z.toArray = (z ++ (List.replicate m its).flatten).toArray
  | 0, z => by simp
  | m + 1, z => by
    rw [List.replicate_succ, List.foldl_cons, List.append_toArray, foldl_flat its m, List.replicate_succ, List.flatten_cons, List.append_assoc]
theorem Vals.reps {vs : List V} {us : List Value} (r : Vals vs us) : ∀ m : Nat, Vals (List.replicate m vs).flatten (List.replicate m us).flatten
  | 0 => .nil
  | m + 1 => by
    rw [List.replicate_succ, List.flatten_cons, List.replicate_succ, List.flatten_cons]
    exact r.append (Vals.reps r m)
section
variable {X : Cx}
theorem op_repT : OpR X (binaryOp .Mult) (fun x y H Q => ∃ l k xs, x = .ref l ∧ y = .int k ∧ SqT X.K H l xs ∧ xs ≠ [] ∧ xs.length ≤ 1000 ∧ 1 ≤ k ∧ k ≤ 1000 ∧ (k = 1 → Q (.ref l) H) ∧ (k ≠ 1 → ∀ p, H p = none → Q (.ref p) (upd H p (.tup (List.replicate k.toNat xs).flatten)))) := by
  intro pins s σ H x y v u Q I rx ry h
  obtain ⟨l, k, xs, rfl, rfl, ha, hx, hz, k1, k2, q1, q2⟩ := h
  cases rx
  obtain ⟨t, rfl⟩ := ry
  obtain ⟨its, r, p, _⟩ := I.tuple ha
  have hlen := r.length
  have hT : s.TypeIs (.ref l) "tuple" := by obtain ⟨o, e, c, _⟩ := p; exact ⟨o, e, c⟩
  have he : its.toArray.isEmpty = false := by
    cases its with
    | nil => exact absurd (List.length_eq_zero_iff.mp (by simpa using hlen)) hx
    | cons a b => rfl
  refine wpAny_binaryOp_repeat_ref (T := "tuple") (U := "int") (by decide) hT (fun s' => typeIs_int s' k t) tm_fill PySem.F.fills_int_mul PySem.F.slot_int_rmul tm_rep PySem.F.slot_int_index.lookup ?_
  refine call_meets PySem.F.slot_int_rmul (typeIs_int s k t) PySem.F.entry_int_rmul (PySem.F.args_int_rmul_2 _ _) (tm_int k t l its.toArray) ⟨p, rfl, hT, ?_⟩
  refine call_meets PySem.F.slot_tuple_mul hT PySem.F.entry_tuple_mul (PySem.F.args_tuple_mul_2 _ _) (tm_mul l its.toArray k t he k1 k2 (by rw [List.size_toArray]; omega)) ⟨p, fun z => ⟨.ref l, H, I, rfl, q1 z⟩, fun z => ?_⟩
  have ef := foldl_flat its k.toNat []
  rw [List.nil_append] at ef
  rw [ef]
  refine ⟨.ref s.heap.objs.size, _, I.laid (t' := s.toks) (o := .tup (List.replicate k.toNat xs).flatten) (fun b ob q => Heap.get?_push_of_some _ q) (Nat.le_refl _) ⟨?_, _, r.reps _, IsTup.new _ _⟩, rfl, q2 z _ (I.hok.fresh (Nat.le_refl _))⟩
  rw [len_rep, sizeLine_eq]
  have : k.toNat * xs.length ≤ 1000 * 1000 := Nat.mul_le_mul (by omega) hz
  omega
end
end L2
namespace Mi
open PySem L2 Ht
noncomputable def pyMul2 (a b : D) : M D := match a, b with
  | .tup ds, .int k => fun μ => if ds ≠ [] ∧ ds.length ≤ 1000 ∧ 1 ≤ k ∧ k ≤ 1000 then some (.tup (List.replicate k.toNat ds).flatten, μ) else none
  | a, b => pyMul a b
section
variable {X : Cx}
theorem o_mul2 : OpR X (binaryOp .Mult) (rM X.K pyMul2) := fun pins s σ H x y v u Q I rx ry h => by
  obtain ⟨ι, μ, a, b, d, μ', R, ia, ib, e, q⟩ := h
  unfold pyMul2 at e
  split at e
  · rename_i ds k
    split at e
    · rename_i hc
      obtain ⟨c1, c2, c3, c4⟩ := hc
      cases e
      have zb := is_int ib
      subst zb
      unfold Is at ia
      obtain ⟨p, vs, rfl, h1, h2⟩ := ia
      have hl := h2.length
      refine op_repT pins s σ H _ _ v u Q I rx ry ⟨p, k, vs, rfl, rfl, h1, fun z => c1 (List.length_eq_zero_iff.mp (by rw [← hl, z]; rfl)), by omega, c3, c4, fun z => ?_, fun z => ?_⟩
      · subst z
        refine q ι H R.ext0 R _ ?_
        unfold Is
        exact ⟨p, vs, rfl, h1, by simpa using h2⟩
      · exact laidT R (h2.rep _) q
    · cases e
  · exact o_mul pins s σ H _ _ v u Q I rx ry ⟨ι, μ, a, b, d, μ', R, ia, ib, e, q⟩
end
end Mi
namespace Mi
open PySem L2 Ht
noncomputable def pyAddI : D → D → M D
  | .int i, .int j => ret (.int (i + j))
  | _, _ => fail
section
variable {X : Cx} {e : Expr} {pos pos' : Pos}
theorem rs_aug (i : Nat) {x : Str} {m : Sl → M D} (hN : X.N.Nodup) (he : RE X e m) (hi : X.N[i]? = some x := by rfl) (hx : Loc X.env.scope x := by first | exact Or.inl rfl | exact Or.inr rfl) (hf : X.fn x = true ∨ X.env.scope.names.lookup x = some .local := by first | exact .inl rfl | exact .inr rfl | assumption) :
    RS X (.AugAssign (.Name x pos') .Add e pos) (sAsg (mOp pyAddI (mSlot i) m) (bName i)) := RS.wk (ps_aug hN hi hx he.pe ip_add hf) fun Dn σ H h => by
  obtain ⟨ι, μ, τ, f, τ', μ', R, S, ev, q⟩ := h
  obtain ⟨d, μ1, e1, ev⟩ := bnd_some ev
  obtain ⟨τ1, μ2, e2, ev⟩ := bnd_some ev
  cases ev
  cases e2
  obtain ⟨a, μ3, e3, ev⟩ := bnd_some e1
  obtain ⟨b, μ4, e4, e5⟩ := bnd_some ev
  unfold mSlot at e3
  split at e3
  · rename_i d' ed
    cases e3
    obtain ⟨v, s1, h1⟩ := S.get i _ ed
    refine ⟨v, s1, ι, μ, τ, b, μ4, R, S, e4, fun ι1 H1 E1 R1 v1 i1 => ?_⟩
    cases a with
    | int k =>
      cases b with
      | int j =>
        cases e5
        have z1 := is_int h1
        have z2 := is_int i1
        subst z1 z2
        exact ⟨k, j, rfl, rfl, q ι1 H1 E1 R1 _ ((S.ext E1).set i (ofI _))⟩
      | _ => cases e5
    | _ => cases e5
  · cases e3
noncomputable def catRef (as : List D) (n : Nat) : M D := fun μ => match μ[n]? with
  | some (.lst b) => newL (as ++ b) μ
  | _ => none
noncomputable def pyAddR (a b : D) : M D := match a, b with
  | .lst as, .ref n => catRef as n
  | a, b => pyAdd2 a b
theorem o_addR : OpR X (binaryOp .Add) (rM X.K pyAddR) := fun pins s σ H x y v u Q I rx ry h => by
  obtain ⟨ι, μ, a, b, d, μ', R, ia, ib, e, q⟩ := h
  unfold pyAddR at e
  split at e
  · rename_i as n
    unfold catRef at e
    split at e
    · rename_i bs hn
      obtain ⟨w, hu, o⟩ := R.obj n _ hn
      obtain ⟨vs, rfl, iv⟩ := o
      unfold Is at ia ib
      obtain ⟨hk, rfl⟩ := ib
      obtain ⟨p', vs', rfl, h1', hn', h2'⟩ := ia
      obtain ⟨hl, w⟩ := newL_ok R (h2'.append iv) e q
      exact op_cat pins s σ H _ _ v u Q I rx ry ⟨p', _, vs', vs, rfl, rfl, h1', hu, by rw [← List.length_append]; exact hl, w⟩
    · cases e
  · exact o_add2 pins s σ H _ _ v u Q I rx ry ⟨ι, μ, a, b, d, μ', R, ia, ib, e, q⟩
end
end Mi
namespace Mi
open PySem L2
section
variable {τ τ1 τ2 : Sl} {μ μ1 μ2 μ3 μ4 : Mh} {d x y z : D} {ds : List D} {ma mb mc me : Sl → M D} {tc tb : Sl → M Bool} {b : Bool} {m1 m2 : Sl → M (Fl × Sl)} {g g' : D → D → M D} {r : Fl × Sl}
theorem ev_slot {i : Nat} (h : τ[i]? = some (some d)) : mSlot i τ μ = some (d, μ) := by unfold mSlot; rw [h]
theorem ev_op (h1 : ma τ μ = some (x, μ1)) (h2 : mb τ μ1 = some (y, μ2)) (h3 : g x y μ2 = some (d, μ3)) : mOp g ma mb τ μ = some (d, μ3) := by unfold mOp; rw [bnd_of h1, bnd_of h2, h3]
theorem ev_un {u : D → M D} (h1 : ma τ μ = some (x, μ1)) (h3 : u x μ1 = some (d, μ3)) : mUn u ma τ μ = some (d, μ3) := by unfold mUn; rw [bnd_of h1, h3]
theorem ev_consA {as : Sl → M (List D)} (h1 : ma τ μ = some (x, μ1)) (h2 : as τ μ1 = some (ds, μ2)) : aCons ma as τ μ = some (x :: ds, μ2) := by unfold aCons; rw [bnd_of h1, bnd_of h2]; rfl
theorem ev_disp {f : List D → M D} {as : Sl → M (List D)} (h1 : as τ μ = some (ds, μ1)) (h2 : f ds μ1 = some (d, μ2)) : mDisp f as τ μ = some (d, μ2) := by unfold mDisp; rw [bnd_of h1, h2]
theorem ev_meth {f : D → List D → M D} {as : Sl → M (List D)} {u : Unit} (h1 : ma τ μ = some (x, μ1)) (h0 : guardL x μ1 = some (u, μ2)) (h2 : as τ μ2 = some (ds, μ3)) (h3 : f x ds μ3 = some (d, μ4)) : mMethL f ma as τ μ = some (d, μ4) := by unfold mMethL; rw [bnd_of h1, bnd_of h0, bnd_of h2, h3]
theorem ev_test (h : ma τ μ = some (.bl b, μ1)) : mTest ma τ μ = some (b, μ1) := by unfold mTest; rw [bnd_of h]; rfl
theorem ev_not (h : tc τ μ = some (b, μ1)) : mNot tc τ μ = some (!b, μ1) := by unfold mNot; rw [bnd_of h]; rfl
theorem ev_andT (h1 : tc τ μ = some (true, μ1)) (h2 : tb τ μ1 = some (b, μ2)) : mAnd tc tb τ μ = some (b, μ2) := by unfold mAnd; rw [bnd_of h1, if_pos rfl, h2]
theorem ev_andF (h1 : tc τ μ = some (false, μ1)) : mAnd tc tb τ μ = some (false, μ1) := by unfold mAnd; rw [bnd_of h1]; rfl
theorem ev_orF (h1 : tc τ μ = some (false, μ1)) (h2 : tb τ μ1 = some (b, μ2)) : mOr tc tb τ μ = some (b, μ2) := by unfold mOr; rw [bnd_of h1, if_neg (by decide), h2]
theorem ev_andVT (h1 : ma τ μ = some (.bl true, μ1)) (h2 : mb τ μ1 = some (d, μ2)) : mAndV ma mb τ μ = some (d, μ2) := by
  unfold mAndV; rw [bnd_of h1, bnd_of (show asB (.bl true) μ1 = some (true, μ1) from rfl), if_pos rfl, h2]
theorem ev_notV (h : ma τ μ = some (.bl b, μ1)) : mNotV ma τ μ = some (.bl (!b), μ1) := by
  unfold mNotV; rw [bnd_of h, bnd_of (show asB (.bl b) μ1 = some (b, μ1) from rfl)]; rfl
theorem ev_chainT (h1 : ma τ μ = some (x, μ1)) (h2 : mb τ μ1 = some (y, μ2)) (h3 : g x y μ2 = some (.bl true, μ3)) (h4 : mc τ μ3 = some (z, μ4)) (h5 : g' y z μ4 = some (d, μ4)) : mChain g g' ma mb mc τ μ = some (d, μ4) := by
  unfold mChain; rw [bnd_of h1, bnd_of h2, bnd_of h3, bnd_of (show asB (.bl true) μ3 = some (true, μ3) from rfl), if_pos rfl, bnd_of h4, h5]
theorem ev_part {i : Int} (h : ma τ μ = some (.int i, μ1)) : mPart ma τ μ = some (some i, μ1) := by unfold mPart; rw [bnd_of h]; rfl
theorem ev_seq (h1 : m1 τ μ = some ((.next, τ1), μ1)) (h2 : m2 τ1 μ1 = some (r, μ2)) : sSeq m1 m2 τ μ = some (r, μ2) := by unfold sSeq; rw [bnd_of h1]; exact h2
theorem ev_seqR (h1 : m1 τ μ = some ((.rt d, τ1), μ1)) : sSeq m1 m2 τ μ = some ((.rt d, τ1), μ1) := by unfold sSeq; rw [bnd_of h1]; rfl
theorem ev_expr (h1 : ma τ μ = some (d, μ1)) : sExpr ma τ μ = some ((.next, τ), μ1) := by unfold sExpr; rw [bnd_of h1]; rfl
theorem ev_ret (h1 : ma τ μ = some (d, μ1)) : sRet ma τ μ = some ((.rt d, τ), μ1) := by unfold sRet; rw [bnd_of h1]; rfl
theorem ev_ifT (h1 : tc τ μ = some (true, μ1)) (h2 : m1 τ μ1 = some (r, μ2)) : sIf tc m1 m2 τ μ = some (r, μ2) := by unfold sIf; rw [bnd_of h1, if_pos rfl, h2]
theorem ev_ifF (h1 : tc τ μ = some (false, μ1)) (h2 : m2 τ μ1 = some (r, μ2)) : sIf tc m1 m2 τ μ = some (r, μ2) := by unfold sIf; rw [bnd_of h1, if_neg (by decide), h2]
theorem ev_asg {bf : D → Sl → M Sl} (h1 : ma τ μ = some (d, μ1)) (h2 : bf d τ μ1 = some (τ1, μ2)) : sAsg ma bf τ μ = some ((.next, τ1), μ2) := by unfold sAsg; rw [bnd_of h1, bnd_of h2]; rfl
theorem ev_for {src : Sl → M (List D)} {bf : D → Sl → M Sl} (h1 : src τ μ = some (ds, μ1)) (h2 : forGo bf m1 ds τ μ1 = some (r, μ2)) : sFor src bf m1 τ μ = some (r, μ2) := by unfold sFor; rw [bnd_of h1, h2]
theorem l_le {i j : Int} (h : i ≤ j) : pyLe (.int i) (.int j) μ = some (.bl true, μ) := by show some (D.bl (decide (i ≤ j)), μ) = _; rw [decide_eq_true h]
theorem l_mod {i j : Int} (h : 0 < j) : pyMod (.int i) (.int j) μ = some (.int (i % j), μ) := by show (if 0 < j then some (D.int (i % j), μ) else none) = _; rw [if_pos h]
theorem l_fdiv {i j : Int} (h : 0 < j) (h2 : j < 1073741824) : pyFdiv (.int i) (.int j) μ = some (.int (i / j), μ) := by show (if 0 < j ∧ j < 1073741824 then some (D.int (i / j), μ) else none) = _; rw [if_pos ⟨h, h2⟩]
theorem l_mul {i j : Int} (h : (-(2 ^ 64) < i ∧ i < 2 ^ 64) ∨ (-(2 ^ 64) < j ∧ j < 2 ^ 64)) : pyMul (.int i) (.int j) μ = some (.int (i * j), μ) := by show (if (-(2 ^ 64) < i ∧ i < 2 ^ 64) ∨ (-(2 ^ 64) < j ∧ j < 2 ^ 64) then some (D.int (i * j), μ) else none) = _; rw [if_pos h]
theorem l_inst_ii {i : Int} : instF [.int i, .ty "int"] μ = some (.bl true, μ) := by
  show (isSub "int" "int").map (fun b => (D.bl b, μ)) = _; rw [show isSub "int" "int" = some true from by decide]; rfl
theorem l_inst_ib {i : Int} : instF [.int i, .ty "bool"] μ = some (.bl false, μ) := by
  show (isSub "int" "bool").map (fun b => (D.bl b, μ)) = _; rw [show isSub "int" "bool" = some false from by decide]; rfl
theorem l_inst_tt {ds : List D} : instF [.tup ds, .ty "tuple"] μ = some (.bl true, μ) := by
  show (isSub "tuple" "tuple").map (fun b => (D.bl b, μ)) = _; rw [show isSub "tuple" "tuple" = some true from by decide]; rfl
theorem l_ixT {ds : List D} {i : Int} (h2 : atI ds i = some d) : pyIx (.tup ds) (.int i) μ = some (d, μ) := by
  show bnd (asSeq1 (.tup ds)) (fun ds => ixD ds i) μ = _
  rw [bnd_of (show asSeq1 (.tup ds) μ = some (ds, μ) from rfl)]
  unfold ixD; rw [h2]; rfl
theorem l_ixL {ds : List D} {i : Int} (h2 : atI ds i = some d) : pyIx (.lst ds) (.int i) μ = some (d, μ) := by
  show bnd (asSeq1 (.lst ds)) (fun ds => ixD ds i) μ = _
  rw [bnd_of (show asSeq1 (.lst ds) μ = some (ds, μ) from rfl)]
  unfold ixD; rw [h2]; rfl
end
end Mi
local macro_rules | `(tactic| wtm_at "own qleaf") => `(tactic| first | rfl | assumption)
local macro_rules | `(tactic| wtm_at "own qev") => `(tactic| first
  | (with_reducible apply Mi.ev_nil) | (with_reducible apply Mi.ev_nilA) | (with_reducible apply Mi.ev_c) | (with_reducible apply Mi.ev_noPart) | (with_reducible apply Mi.ev_retN)
  | ((with_reducible apply Mi.ev_slot); first | rfl | assumption)
  | ((with_reducible apply Mi.ev_seqR); wtm_at "own qev")
  | ((with_reducible apply Mi.ev_seq); (wtm_at "own qev"); (wtm_at "own qev"))
  | ((with_reducible apply Mi.ev_asg); (wtm_at "own qev"); (wtm_at "own qev"))
  | ((with_reducible apply Mi.ev_name); rfl)
  | ((with_reducible apply Mi.ev_sub); (wtm_at "own qev"); (wtm_at "own qev"); (wtm_at "own qev"))
  | ((with_reducible apply Mi.ev_expr); wtm_at "own qev")
  | ((with_reducible apply Mi.ev_ret); wtm_at "own qev")
  | ((with_reducible apply Mi.ev_ifT); (wtm_at "own qev"); (wtm_at "own qev"))
  | ((with_reducible apply Mi.ev_ifF); (wtm_at "own qev"); (wtm_at "own qev"))
  | ((with_reducible apply Mi.ev_op); (wtm_at "own qev"); (wtm_at "own qev"); (wtm_at "own qev"))
  | ((with_reducible apply Mi.ev_un); (wtm_at "own qev"); (wtm_at "own qev"))
  | ((with_reducible apply Mi.ev_disp); (wtm_at "own qev"); (wtm_at "own qev"))
  | ((with_reducible apply Mi.ev_consA); (wtm_at "own qev"); (wtm_at "own qev"))
  | ((with_reducible apply Mi.ev_meth); (wtm_at "own qev"); (wtm_at "own qev"); (wtm_at "own qev"); (wtm_at "own qev"))
  | ((with_reducible apply Mi.ev_test); wtm_at "own qev")
  | ((with_reducible apply Mi.ev_notT); wtm_at "own qev")
  | ((with_reducible apply Mi.ev_notF); wtm_at "own qev")
  | ((with_reducible apply Mi.ev_andT); (wtm_at "own qev"); (wtm_at "own qev"))
  | ((with_reducible apply Mi.ev_andF); wtm_at "own qev")
  | ((with_reducible apply Mi.ev_orF); (wtm_at "own qev"); (wtm_at "own qev"))
  | ((with_reducible apply Mi.ev_orT); wtm_at "own qev")
  | ((with_reducible apply Mi.ev_andVT); (wtm_at "own qev"); (wtm_at "own qev"))
  | ((with_reducible apply Mi.ev_andVF); wtm_at "own qev")
  | ((with_reducible apply Mi.ev_orVF); (wtm_at "own qev"); (wtm_at "own qev"))
  | ((with_reducible apply Mi.ev_orVT); wtm_at "own qev")
  | ((with_reducible apply Mi.ev_notVT); wtm_at "own qev")
  | ((with_reducible apply Mi.ev_notVF); wtm_at "own qev")
  | ((with_reducible apply Mi.ev_chainT); (wtm_at "own qev"); (wtm_at "own qev"); (wtm_at "own qev"); (wtm_at "own qev"); (wtm_at "own qev"))
  | ((with_reducible apply Mi.ev_chainF); (wtm_at "own qev"); (wtm_at "own qev"); (wtm_at "own qev"))
  | ((with_reducible apply Mi.ev_part); wtm_at "own qev")
  | ((with_reducible apply Mi.ev_sl); (wtm_at "own qev"); (wtm_at "own qev"); (wtm_at "own qev"); (wtm_at "own qev"))
  | wtm_at "own qleaf")
local macro_rules | `(tactic| wtm_at "own qnums") => `(tactic| first | assumption | decide | omega)
local macro_rules | `(tactic| wtm_at "own qleaf") => `(tactic| first
  | ((with_reducible apply Mi.l_le); wtm_at "own qnums") | ((with_reducible apply Mi.l_leF); wtm_at "own qnums") | ((with_reducible apply Mi.l_lt); wtm_at "own qnums") | ((with_reducible apply Mi.l_ltF); wtm_at "own qnums") | ((with_reducible apply Mi.l_gt); wtm_at "own qnums") | ((with_reducible apply Mi.l_gtF); wtm_at "own qnums")
  | (with_reducible apply Mi.l_inst_ii) | (with_reducible apply Mi.l_inst_ib) | (with_reducible apply Mi.l_inst_ss) | (with_reducible apply Mi.l_inst_tt) | (with_reducible apply Mi.l_add) | (with_reducible apply Mi.l_sub) | ((with_reducible apply Mi.l_mod); wtm_at "own qnums") | ((with_reducible apply Mi.l_fdiv); (wtm_at "own qnums"); (wtm_at "own qnums")) | ((with_reducible apply Mi.l_mul); first | (left; omega) | (right; omega))
  | ((with_reducible apply Mi.l_ixT); rfl) | ((with_reducible apply Mi.l_ixL); rfl) | ((with_reducible apply Mi.l_ixRef); (first | assumption | rfl); (rfl)) | ((with_reducible apply Mi.l_set); (first | assumption | rfl); (rfl)))
namespace K13
open PySem L2 Mi
noncomputable def d_NONE : D := .int (-1)
noncomputable def d_NO_WORTH : D := .int (-1)
noncomputable def m_claim_begun  : Sl → M (Fl × Sl) :=
    (sSeq (sAsg (mOp pySub (mDisp lenF (aCons (mOp pyIx (mSlot 0) (mC (.int 4))) aNil)) (mC (.int 1))) (bName 1))
    (sSeq (sIf (mTest (mOp pyEq (mOp pyIx (mSlot 0) (mC (.int 0))) (mC (.str "whole")))) (sRet (mDisp newT (aCons (mDisp newT (aCons (mOp pyIx (mSlot 0) (mC (.int 2))) (aCons (mC d_NONE) (aCons (mOp pyMul2 (mDisp newT (aCons (mC d_NONE) aNil)) (mSlot 1)) aNil)))) aNil))) sNil)
    (sRet (mDisp newT (aCons (mOp pyIx (mSlot 0) (mC (.int 2))) (aCons (mC d_NONE) (aCons (mOp pyMul2 (mDisp newT (aCons (mC .non) aNil)) (mSlot 1)) aNil)))))))
noncomputable def m_claim_writes (φ_case_begun : List D → M D) (φ_closed : List D → M D) (φ_beside : List D → M D) : Sl → M (Fl × Sl) :=
    (sSeq (sIf (mTest (mOp pyEq (mOp pyIx (mSlot 0) (mC (.int 0))) (mC (.str "whole")))) (sRet (mDisp φ_closed (aCons (mComp 1 [2] (mSrc (mSlot 1)) (bName 0) mTrue (mDisp φ_case_begun (aCons (mSlot 0) (aCons (mC (.int 0)) (aCons (mSlot 1) aNil)))) newL) aNil))) sNil)
    (sSeq (sAsg (mComp 1 [0, 2] (mSrc (mOp pyIx (mSlot 1) (mC (.int 2)))) (bName 0) mTrue (mIf (mTest (mOp (pyIs false) (mSlot 0) (mC .non))) (mSlot 0) (mDisp φ_beside (aCons (mOp pyIx (mSlot 1) (mC (.int 0))) (aCons (mOp pyIx (mSlot 1) (mC (.int 1))) (aCons (mSlot 0) (aCons (mSlot 2) aNil)))))) newL) (bName 3))
    (sRet (mDisp newT (aCons (mOp pyIx (mSlot 1) (mC (.int 0))) (aCons (mSlot 2) (aCons (mDisp tupleF (aCons (mSlot 3) aNil)) aNil)))))))
noncomputable def m_claim_written (φ_cases_ended : List D → M D) (φ_closed : List D → M D) : Sl → M (Fl × Sl) :=
    (sSeq (sIf (mTest (mOp pyEq (mOp pyIx (mSlot 0) (mC (.int 0))) (mC (.str "whole")))) (sRet (mDisp φ_closed (aCons (mDisp φ_cases_ended (aCons (mSlot 1) (aCons (mC (.int 0)) (aCons (mC d_NONE) aNil)))) aNil))) sNil)
    (sRet (mDisp newT (aCons (mOp pyIx (mSlot 1) (mC (.int 1))) (aCons (mC d_NONE) (aCons (mOp pyIx (mSlot 1) (mC (.int 2))) aNil))))))
noncomputable def m_claim_reads (φ_case_begun : List D → M D) (φ_closed : List D → M D) (φ_beside : List D → M D) (φ_with_thing : List D → M D) : Sl → M (Fl × Sl) :=
    (sSeq (sIf (mTest (mOp pyEq (mOp pyIx (mSlot 0) (mC (.int 0))) (mC (.str "whole")))) (sRet (mDisp φ_closed (aCons (mComp 1 [2] (mSrc (mSlot 1)) (bName 0) mTrue (mDisp φ_case_begun (aCons (mSlot 0) (aCons (mOp pyAdd2 (mSlot 1) (mC (.int 1))) (aCons (mC d_NONE) aNil)))) newL) aNil))) sNil)
    (sSeq (sAsg (mDisp newT (aCons (mOp pyIx (mSlot 1) (mC (.int 0))) aNil)) (bName 3))
    (sSeq (sIf (mTest (mOp pyNe (mOp pyIx (mSlot 1) (mC (.int 1))) (mC d_NONE))) (sAsg (mDisp φ_beside (aCons (mOp pyIx (mSlot 0) (mC (.int 0))) (aCons (mOp pyIx (mSlot 0) (mC (.int 1))) (aCons (mSlot 3) (aCons (mOp pyIx (mSlot 1) (mC (.int 1))) aNil))))) (bName 3)) sNil)
    (sRet (mDisp newT (aCons (mOp pyIx (mSlot 1) (mC (.int 0))) (aCons (mOp pyIx (mSlot 1) (mC (.int 1))) (aCons (mDisp φ_with_thing (aCons (mOp pyIx (mSlot 1) (mC (.int 2))) (aCons (mSlot 2) (aCons (mSlot 3) aNil)))) aNil))))))))
noncomputable def m_claim_told (φ_cases_ended : List D → M D) (φ_closed : List D → M D) (φ_with_thing : List D → M D) : Sl → M (Fl × Sl) :=
    (sSeq (sIf (mTest (mOp pyEq (mOp pyIx (mSlot 0) (mC (.int 0))) (mC (.str "whole")))) (sSeq (sAsg (mDisp φ_cases_ended (aCons (mSlot 1) (aCons (mOp pyAdd2 (mSlot 2) (mC (.int 1))) (aCons (mSlot 3) aNil)))) (bName 4))
    (sRet (mIf (mTest (mSlot 4)) (mDisp φ_closed (aCons (mSlot 4) aNil)) (mC .non)))) sNil)
    (sSeq (sIf (mTest (mOp (pyIn true) (mSlot 3) (mOp pyIx (mOp pyIx (mSlot 1) (mC (.int 2))) (mSlot 2)))) (sRet (mC .non)) sNil)
    (sRet (mDisp newT (aCons (mOp pyIx (mSlot 1) (mC (.int 0))) (aCons (mOp pyIx (mSlot 1) (mC (.int 1))) (aCons (mDisp φ_with_thing (aCons (mOp pyIx (mSlot 1) (mC (.int 2))) (aCons (mSlot 2) (aCons (mC .non) aNil)))) aNil)))))))
noncomputable def m_beside  : Sl → M (Fl × Sl) :=
    (sSeq (sIf (mTest (mOp pyEq (mSlot 0) (mC (.str "safe")))) (sRet (mUn (rngsF D.tup) (mSlot 1))) sNil)
    (sRet (mDisp tupleF (aCons (mUn sortsetF (mOp pyAdd2 (mSlot 2) (mDisp newT (aCons (mSlot 3) aNil)))) aNil))))
noncomputable def m_with_thing  : Sl → M (Fl × Sl) :=
    (sRet (mOp pyAdd2 (mOp pyAdd2 (mSl2 (mSlot 0) noPart (mPart (mSlot 1))) (mDisp newT (aCons (mSlot 2) aNil))) (mSl2 (mSlot 0) (mPart (mOp pyAdd2 (mSlot 1) (mC (.int 1)))) noPart)))
noncomputable def m_is_whole  : Sl → M (Fl × Sl) :=
    (sRet (mAndV (mDisp instF (aCons (mSlot 0) (aCons (mC (.ty "int")) aNil))) (mAndV (mNotV (mDisp instF (aCons (mSlot 0) (aCons (mC (.ty "bool")) aNil)))) (mChain pyLe pyLe (mSlot 1) (mSlot 0) (mSlot 2)))))
noncomputable def m_is_tuple  : Sl → M (Fl × Sl) :=
    (sRet (mAndV (mDisp instF (aCons (mSlot 0) (aCons (mC (.ty "tuple")) aNil))) (mChain pyLe pyLe (mSlot 1) (mDisp lenF (aCons (mSlot 0) aNil)) (mSlot 2))))
noncomputable def m_judged (φ_claim_begun : List D → M D) (φ_acts_of : List D → M D) (φ_claim_behind : List D → M D) : Sl → M (Fl × Sl) :=
    (sSeq (sAsg (mDisp φ_claim_begun (aCons (mSlot 0) aNil)) (bName 2))
    (sSeq (sFor (mSrc (mDisp φ_acts_of (aCons (mSlot 0) (aCons (mSlot 1) aNil)))) (bName 3) (sSeq (sAsg (mDisp φ_claim_behind (aCons (mSlot 0) (aCons (mSlot 2) (aCons (mSlot 3) aNil)))) (bName 2))
    (sIf (mTest (mOp (pyIs false) (mSlot 2) (mC .non))) (sRet (mC (.bl false))) sNil)))
    (sRet (mC (.bl true)))))
noncomputable def m_claim_behind (φ_claim_writes : List D → M D) (φ_claim_written : List D → M D) (φ_claim_reads : List D → M D) (φ_claim_told : List D → M D) : Sl → M (Fl × Sl) :=
    (sSeq (sAsg (mOp pyEq (mOp pyIx (mSlot 2) (mC (.int 0))) (mC (.str "begin"))) (bName 3))
    (sSeq (sIf (mTest (mOp pyEq (mOp pyIx (mSlot 2) (mC (.int 1))) (mC (.int 0)))) (sRet (mIf (mTest (mSlot 3)) (mDisp φ_claim_writes (aCons (mSlot 0) (aCons (mSlot 1) (aCons (mOp pyIx (mSlot 2) (mC (.int 2))) aNil)))) (mDisp φ_claim_written (aCons (mSlot 0) (aCons (mSlot 1) aNil))))) sNil)
    (sSeq (sAsg (mOp pySub (mOp pyIx (mSlot 2) (mC (.int 1))) (mC (.int 1))) (bName 4))
    (sRet (mIf (mTest (mSlot 3)) (mDisp φ_claim_reads (aCons (mSlot 0) (aCons (mSlot 1) (aCons (mSlot 4) aNil)))) (mDisp φ_claim_told (aCons (mSlot 0) (aCons (mSlot 1) (aCons (mSlot 4) (aCons (mOp pyIx (mSlot 2) (mC (.int 2))) aNil))))))))))
noncomputable def m_acts_of (φ_is_event : List D → M D) : Sl → M (Fl × Sl) :=
    (sSeq (sIf (mNot (mTest (mDisp instF (aCons (mSlot 1) (aCons (mC (.ty "list")) aNil))))) sNever sNil)
    (sSeq (sAsg (mComp 1 [] (mSrc (mOp pyIx (mSlot 0) (mC (.int 4)))) (bName 0) mTrue (mOp pyIx (mSlot 0) (mC (.int 0))) newL) (bName 2))
    (sSeq (sAsg newD (bName 3))
    (sSeq (sAsg (mDisp newB aNil) (bName 4))
    (sSeq (sAsg (mC (.int 0)) (bName 5))
    (sSeq (sFor (mEnum (aCons (mSlot 1) aNil)) (bTup [6, 7]) (sSeq (sIf (mNot (mTest (mDisp φ_is_event (aCons (mSlot 7) (aCons (mSlot 2) (aCons (mOp pyIx (mSlot 0) (mC (.int 1))) aNil)))))) sNever sNil)
    (sSeq (sAsg (mMethL idxLF (mSlot 2) (aCons (mOp pyIx (mSlot 7) (mC (.int 1))) aNil)) (bName 8))
    (sSeq (sIf (mTest (mOp pyEq (mOp pyEq (mOp pyIx (mSlot 7) (mC (.int 0))) (mC (.str "begin"))) (mOp (dinF false) (mSlot 8) (mSlot 3)))) sNever sNil)
    (sSeq (sIf (mTest (mOp pyEq (mOp pyIx (mSlot 7) (mC (.int 0))) (mC (.str "begin")))) (sSeq (sDput (mSlot 3) (mSlot 8) (mSlot 5))
    (sAsg (mOp pyAddI (mSlot 5) (mC (.int 1))) (bName 5))) sNil)
    (sSeq (sExpr (mMethL appF (mSlot 4) (aCons (mDisp newT (aCons (mOp pyIx (mSlot 7) (mC (.int 0))) (aCons (mSlot 8) (aCons (mIf (mTest (mOp pyEq (mDisp lenF (aCons (mSlot 7) aNil)) (mC (.int 3)))) (mOp pyIx (mSlot 7) (mC (.int 2))) (mC d_NO_WORTH)) (aCons (mOp dgetF (mSlot 3) (mSlot 8)) aNil))))) aNil)))
    (sIf (mTest (mOp pyEq (mOp pyIx (mSlot 7) (mC (.int 0))) (mC (.str "end")))) (sExpr (mDpop (mSlot 3) (mSlot 8))) sNil)))))))
    (sRet (mSlot 4))))))))
noncomputable def m_is_event (φ_is_tuple : List D → M D) (φ_is_whole : List D → M D) : Sl → M (Fl × Sl) :=
    (sSeq (sIf (mOr (mNot (mTest (mDisp φ_is_tuple (aCons (mSlot 0) (aCons (mC (.int 2)) (aCons (mC (.int 3)) aNil)))))) (mOr (mTest (mOp (pyIn true) (mOp pyIx (mSlot 0) (mC (.int 0))) (mDisp newT (aCons (mC (.str "begin")) (aCons (mC (.str "end")) aNil))))) (mTest (mOp (pyIn true) (mOp pyIx (mSlot 0) (mC (.int 1))) (mSlot 1))))) (sRet (mC (.bl false))) sNil)
    (sSeq (sIf (mTest (mOp pyEq (mOp pyEq (mOp pyIx (mSlot 0) (mC (.int 0))) (mC (.str "begin"))) (mOp pyEq (mOp pyIx (mSlot 0) (mC (.int 1))) (mOp pyIx (mSlot 1) (mC (.int 0)))))) (sRet (mAndV (mOp pyEq (mDisp lenF (aCons (mSlot 0) aNil)) (mC (.int 3))) (mDisp φ_is_whole (aCons (mOp pyIx (mSlot 0) (mC (.int 2))) (aCons (mC (.int 0)) (aCons (mOp pySub (mSlot 2) (mC (.int 1))) aNil)))))) sNil)
    (sRet (mOp pyEq (mDisp lenF (aCons (mSlot 0) aNil)) (mC (.int 2))))))
noncomputable def m__law_cell_at  : Sl → M (Fl × Sl) :=
    (sSeq (sIf (mTest (mOp pyLt (mSlot 1) (mDisp lenF (aCons (mSlot 0) aNil)))) (sRet (mOp pyIx (mSlot 0) (mSlot 1))) sNil)
    (sRet (mC (.int 0))))
noncomputable def m__law_stream  : Sl → M (Fl × Sl) :=
    (sSeq (sAsg (mDisp newB aNil) (bName 2))
    (sSeq (sAsg (mOp pyFdiv (mSlot 0) (mC (.int 2))) (bName 3))
    (sSeq (sWhile fuel (mAnd (mTest (mOp pyEq (mOp pyMod (mSlot 0) (mC (.int 2))) (mC (.int 0)))) (mAnd (mTest (mOp pyGt (mSlot 3) (mC (.int 0)))) (mTest (mOp pyLt (mDisp lenF (aCons (mSlot 2) aNil)) (mSlot 1))))) (sSeq (sExpr (mMethL appF (mSlot 2) (aCons (mOp pyMod (mSlot 3) (mOp pyPow (mC (.int 10)) (mC (.int 9)))) aNil)))
    (sAsg (mOp pyFdiv (mSlot 3) (mOp pyPow (mC (.int 10)) (mC (.int 9)))) (bName 3))))
    (sSeq (sAsg (mOp pyMod (mOp pyMul (mOp pyAdd2 (mOp pyFdiv (mSlot 0) (mC (.int 2))) (mC (.int 7919))) (mC (.int 48271))) (mC (.int 2147483647))) (bName 3))
    (sSeq (sFor (mRng1 (aCons (mSlot 1) aNil)) (bName 4) (sSeq (sAsg (mOp pyMod (mOp pyMul (mSlot 3) (mOp pyAdd2 (mOp pyAdd2 (mOp pyFdiv (mSlot 3) (mC (.int 1009))) (mC (.int 69621))) (mSlot 4))) (mC (.int 2147483647))) (bName 3))
    (sSeq (sExpr (mMethL appF (mSlot 2) (aCons (mOp pyMod (mOp pyMul (mSlot 3) (mOp pyAdd2 (mOp pyFdiv (mSlot 3) (mC (.int 127))) (mC (.int 40009)))) (mC (.int 2147483629))) aNil)))
    (sAsg (mOp pyAdd2 (mSlot 3) (mC (.int 1))) (bName 3)))))
    (sRet (mSl2 (mSlot 2) noPart (mPart (mSlot 1)))))))))
noncomputable def m__law_making  : Sl → M (Fl × Sl) :=
    (sSeq (sAsg (mOp pyAdd2 (mC (.int 2)) (mOp pyMod (mOp pyFdiv (mSlot 0) (mC (.int 4))) (mC (.int 9)))) (bName 2))
    (sSeq (sAsg (mOp pyIx (mDisp newL (aCons (mDisp newL (aCons (mC (.str "w")) (aCons (mC (.str "r")) (aCons (mC (.str "s")) (aCons (mC (.str "t")) aNil))))) (aCons (mDisp newL (aCons (mC (.str "writer")) (aCons (mC (.str "a")) (aCons (mC (.str "ab")) (aCons (mC (.str "b")) aNil))))) (aCons (mDisp newL (aCons (mC (.str "z")) (aCons (mC (.str "zz")) (aCons (mC (.str "zzzzzzzz")) (aCons (mC (.str "begin")) aNil))))) aNil)))) (mOp pyMod (mOp pyFdiv (mSlot 0) (mC (.int 36))) (mC (.int 3)))) (bName 3))
    (sSeq (sAsg (mOp pyAdd2 (mC (.int 1)) (mOp pyMod (mOp pyFdiv (mSlot 0) (mC (.int 108))) (mC (.int 3)))) (bName 4))
    (sSeq (sAsg (mComp 1 [] (mSrc (mSl2 (mSlot 3) noPart (mPart (mOp pyAdd2 (mC (.int 1)) (mSlot 4))))) (bName 0) mTrue (mDisp newT (aCons (mSlot 0) (aCons (mC (.int 0)) (aCons (mDisp newT aNil) aNil)))) newL) (bName 5))
    (sRet (mDisp newT (aCons (mSlot 1) (aCons (mSlot 2) (aCons (mOp pyMod (mOp pyFdiv (mSlot 0) (mC (.int 324))) (mSlot 2)) (aCons (mDisp newT aNil) (aCons (mDisp tupleF (aCons (mSlot 5) aNil)) aNil)))))))))))
noncomputable def m__law_worth  : Sl → M (Fl × Sl) :=
    (sSeq (sAsg (mOp pyAdd2 (mSl2 (mSlot 1) (mPart (mUn pyNeg (mC (.int 3)))) noPart) (mDisp newL (aCons (mOp pyMod (mOp pyFdiv (mSlot 2) (mC (.int 5))) (mOp pyIx (mSlot 0) (mC (.int 1)))) (aCons (mOp pyIx (mSlot 0) (mC (.int 2))) aNil)))) (bName 3))
    (sRet (mOp pyIx (mSlot 3) (mOp pyMod (mSlot 2) (mDisp lenF (aCons (mSlot 3) aNil))))))
noncomputable def m__law_events (φ__law_stream : List D → M D) (φ__law_worth : List D → M D) : Sl → M (Fl × Sl) :=
    (sSeq (sAsg (mDisp newB aNil) (bName 2))
    (sSeq (sAsg (mDisp newB aNil) (bName 3))
    (sSeq (sAsg (mDisp newB (aCons (mOp pyIx (mSlot 0) (mC (.int 2))) aNil)) (bName 4))
    (sSeq (sAsg (mComp 1 [] (mSrc (mOp pyIx (mSlot 0) (mC (.int 4)))) (bName 0) mTrue (mOp pyIx (mSlot 0) (mC (.int 0))) newL) (bName 5))
    (sSeq (sFor (mSrc (mSlot 1)) (bName 6) (sSeq (sAsg (mOp pyIx (mDisp φ__law_stream (aCons (mSlot 6) (aCons (mC (.int 1)) aNil))) (mC (.int 0))) (bName 7))
    (sSeq (sAsg (mOp pyIx (mSlot 5) (mOp pyMod (mSlot 7) (mDisp lenF (aCons (mSlot 5) aNil)))) (bName 8))
    (sSeq (sIf (mTest (mOp pyEq (mOp pyMod (mOp pyFdiv (mSlot 7) (mC (.int 4))) (mC (.int 3))) (mC (.int 0)))) (sAsg (mOp pyIx (mSlot 5) (mC (.int 0))) (bName 8)) sNil)
    (sSeq (sAsg (mOp pyMod (mOp pyFdiv (mSlot 7) (mC (.int 60))) (mOp pyIx (mSlot 0) (mC (.int 1)))) (bName 9))
    (sSeq (sAsg (mDisp newT (aCons (mOp pyIx (mDisp newL (aCons (mC (.str "begin")) (aCons (mC (.str "end")) aNil))) (mDisp intF (aCons (mOp (pyIn false) (mSlot 8) (mSlot 2)) aNil))) (aCons (mSlot 8) aNil))) (bName 10))
    (sSeq (sIf (mAnd (mTest (mOp pyEq (mSlot 8) (mOp pyIx (mSlot 5) (mC (.int 0))))) (mTest (mOp pyEq (mOp pyIx (mSlot 10) (mC (.int 0))) (mC (.str "begin"))))) (sSeq (sAsg (mOp pyAdd2 (mSlot 10) (mDisp newT (aCons (mSlot 9) aNil))) (bName 10))
    (sExpr (mMethL appF (mSlot 4) (aCons (mSlot 9) aNil)))) sNil)
    (sSeq (sIf (mAnd (mTest (mOp pyNe (mSlot 8) (mOp pyIx (mSlot 5) (mC (.int 0))))) (mTest (mOp pyEq (mOp pyIx (mSlot 10) (mC (.int 0))) (mC (.str "end"))))) (sAsg (mOp pyAdd2 (mSlot 10) (mDisp newT (aCons (mDisp φ__law_worth (aCons (mSlot 0) (aCons (mSlot 4) (aCons (mOp pyFdiv (mSlot 7) (mC (.int 60))) aNil)))) aNil))) (bName 10)) sNil)
    (sSeq (sExpr (mMethL appF (mSlot 3) (aCons (mSlot 10) aNil)))
    (sIf (mTest (mOp (pyIn false) (mSlot 8) (mSlot 2))) (sExpr (mMethL remF (mSlot 2) (aCons (mSlot 8) aNil))) (sExpr (mMethL appF (mSlot 2) (aCons (mSlot 8) aNil)))))))))))))
    (sRet (mSlot 3)))))))
noncomputable def m__law_told  : Sl → M (Fl × Sl) :=
    (sSeq (sAsg (mOp pyIx (mOp pyIx (mSlot 1) (mSlot 2)) (mC (.int 1))) (bName 3))
    (sSeq (sAsg (mDisp max1F (aCons (mComp 1 [1, 3] (mRng1 (aCons (mSlot 2) aNil)) (bName 0) (mTest (mOp pyEq (mSl2 (mOp pyIx (mSlot 1) (mSlot 0)) noPart (mPart (mC (.int 2)))) (mDisp newT (aCons (mC (.str "begin")) (aCons (mSlot 2) aNil))))) (mSlot 0) newL) aNil)) (bName 4))
    (sSeq (sAsg (mOp pyIx (mOp pyIx (mOp pyIx (mSlot 0) (mC (.int 4))) (mC (.int 0))) (mC (.int 0))) (bName 5))
    (sSeq (sAsg (mOp pyIx (mSlot 0) (mC (.int 2))) (bName 6))
    (sSeq (sAsg (mDisp newB aNil) (bName 7))
    (sSeq (sFor (mEnum (aCons (mSl2 (mSlot 1) noPart (mPart (mSlot 2))) aNil)) (bTup [8, 9]) (sIf (mTest (mOp pyEq (mSl2 (mSlot 9) noPart (mPart (mC (.int 2)))) (mDisp newT (aCons (mC (.str "begin")) (aCons (mSlot 5) aNil))))) (sSeq (sAsg (mComp 1 [1, 5] (mRng2 (aCons (mSlot 8) (aCons (mDisp lenF (aCons (mSlot 1) aNil)) aNil))) (bName 0) (mTest (mOp pyEq (mOp pyIx (mSlot 1) (mSlot 0)) (mDisp newT (aCons (mC (.str "end")) (aCons (mSlot 2) aNil))))) (mSlot 0) newL) (bName 10))
    (sIf (mAnd (mTest (mOp pyNe (mSlot 10) (mDisp newL aNil))) (mTest (mOp pyLt (mOp pyIx (mSlot 10) (mC (.int 0))) (mSlot 4)))) (sAsg (mOp pyIx (mSlot 9) (mC (.int 2))) (bName 6)) (sExpr (mMethL appF (mSlot 7) (aCons (mOp pyIx (mSlot 9) (mC (.int 2))) aNil))))) sNil))
    (sSeq (sIf (mAnd (mTest (mOp pyEq (mOp pyIx (mSlot 0) (mC (.int 0))) (mC (.str "safe")))) (mTest (mOp pyNe (mSlot 7) (mDisp newL aNil)))) (sRet (mUn (rngsF D.lst) (mOp pyIx (mSlot 0) (mC (.int 1))))) sNil)
    (sRet (mUn sortsetF (mOp pyAddR (mDisp newL (aCons (mSlot 6) aNil)) (mSlot 7)))))))))))
noncomputable def m__law_kept (φ__law_told : List D → M D) : Sl → M (Fl × Sl) :=
    (sSeq (sFor (mEnum (aCons (mSlot 1) aNil)) (bTup [2, 3]) (sIf (mAnd (mTest (mOp pyEq (mOp pyIx (mSlot 3) (mC (.int 0))) (mC (.str "end")))) (mAnd (mTest (mOp pyEq (mDisp lenF (aCons (mSlot 3) aNil)) (mC (.int 3)))) (mTest (mOp (pyIn true) (mOp pyIx (mSlot 3) (mC (.int 2))) (mDisp φ__law_told (aCons (mSlot 0) (aCons (mSlot 1) (aCons (mSlot 2) aNil)))))))) (sRet (mC (.bl false))) sNil))
    (sRet (mC (.bl true))))
noncomputable def m_law (φ__law_cell_at : List D → M D) (φ__law_making : List D → M D) (φ__law_events : List D → M D) (φ_judged : List D → M D) (φ__law_kept : List D → M D) : Sl → M (Fl × Sl) :=
    (sSeq (sAsg (mDisp φ__law_cell_at (aCons (mSlot 0) (aCons (mC (.int 0)) aNil))) (bName 1))
    (sSeq (sAsg (mDisp φ__law_making (aCons (mOp pyFdiv (mSlot 1) (mC (.int 2))) (aCons (mOp pyIx (mDisp newL (aCons (mC (.str "safe")) (aCons (mC (.str "steady")) aNil))) (mOp pyMod (mSlot 1) (mC (.int 2)))) aNil))) (bName 2))
    (sSeq (sAsg (mDisp φ__law_events (aCons (mSlot 2) (aCons (mSl2 (mSlot 0) (mPart (mC (.int 1))) (mPart (mC (.int 31)))) aNil))) (bName 3))
    (sSeq (sFor (mRng1 (aCons (mOp pyAdd2 (mDisp lenF (aCons (mSlot 3) aNil)) (mC (.int 1))) aNil)) (bName 4) (sSeq (sAsg (mDisp listLF (aCons (mSl2 (mSlot 3) noPart (mPart (mSlot 4))) aNil)) (bName 5))
    (sSeq (sAsg (mDisp φ_judged (aCons (mSlot 2) (aCons (mSlot 5) aNil))) (bName 6))
    (sIf (mOr (mNot (mTest (mDisp instF (aCons (mSlot 6) (aCons (mC (.ty "bool")) aNil))))) (mOr (mTest (mOp pyNe (mSlot 6) (mDisp φ__law_kept (aCons (mSlot 2) (aCons (mSl2 (mSlot 3) noPart (mPart (mSlot 4))) aNil))))) (mTest (mOp pyNe (mSlot 5) (mSl2 (mSlot 3) noPart (mPart (mSlot 4))))))) (sRet (mC (.bl false))) sNil))))
    (sRet (mC (.bl true)))))))
end K13
namespace K13
open PySem L2 Mi
noncomputable def f__law_cell_at : List D → M D := callF .drop 2 2 (m__law_cell_at)
noncomputable def f__law_making : List D → M D := callF .drop 6 2 (m__law_making)
noncomputable def f__law_stream : List D → M D := callF .drop 5 2 (m__law_stream)
noncomputable def f__law_worth : List D → M D := callF .drop 4 3 (m__law_worth)
noncomputable def f__law_events : List D → M D := callF .frz 11 2 (m__law_events f__law_stream f__law_worth)
noncomputable def f_claim_begun : List D → M D := callF .drop 2 1 (m_claim_begun)
noncomputable def f_is_tuple : List D → M D := callF .drop 3 3 (m_is_tuple)
noncomputable def f_is_whole : List D → M D := callF .drop 3 3 (m_is_whole)
noncomputable def f_is_event : List D → M D := callF .drop 3 3 (m_is_event f_is_tuple f_is_whole)
noncomputable def f_acts_of : List D → M D := callF .frz 9 2 (m_acts_of f_is_event)
noncomputable def f_case_begun : List D → M D := fun _ => fail
noncomputable def f_closed : List D → M D := fun _ => fail
noncomputable def f_beside : List D → M D := callF .drop 4 4 (m_beside)
noncomputable def f_claim_writes : List D → M D := callF .drop 4 3 (m_claim_writes f_case_begun f_closed f_beside)
noncomputable def f_cases_ended : List D → M D := fun _ => fail
noncomputable def f_claim_written : List D → M D := callF .drop 2 2 (m_claim_written f_cases_ended f_closed)
noncomputable def f_with_thing : List D → M D := callF .drop 3 3 (m_with_thing)
noncomputable def f_claim_reads : List D → M D := callF .drop 4 3 (m_claim_reads f_case_begun f_closed f_beside f_with_thing)
noncomputable def f_claim_told : List D → M D := callF .drop 5 4 (m_claim_told f_cases_ended f_closed f_with_thing)
noncomputable def f_claim_behind : List D → M D := callF .drop 5 3 (m_claim_behind f_claim_writes f_claim_written f_claim_reads f_claim_told)
noncomputable def f_judged : List D → M D := callF .drop 4 2 (m_judged f_claim_begun f_acts_of f_claim_behind)
noncomputable def f__law_told : List D → M D := callF .drop 11 3 (m__law_told)
noncomputable def f__law_kept : List D → M D := callF .drop 4 2 (m__law_kept f__law_told)
noncomputable def f_law : List D → M D := callF .drop 7 1 (m_law f__law_cell_at f__law_making f__law_events f_judged f__law_kept)
end K13
set_option maxHeartbeats 4000000
namespace K13
open PySem L2 Mi Ht
noncomputable def kdS : Bool → Str
  | true => "safe"
  | false => "steady"
noncomputable def hdD (n : Str) : D := .tup [.str n, .int 0, .tup []]
noncomputable def mkD (sf : Bool) (sz bg : Int) (ns : List Str) : D := .tup [.str (kdS sf), .int sz, .int bg, .tup [], .tup (ns.map hdD)]
noncomputable def tD : Option (List Int) → D
  | none => .non
  | some l => .tup (l.map D.int)
noncomputable def clD (w c : Int) (ts : List (Option (List Int))) : D := .tup [.int w, .int c, .tup (ts.map tD)]
noncomputable def nats (n : Nat) : List Int := (List.range n).map Int.ofNat
noncomputable def bsd (sf : Bool) (sz : Int) (l : List Int) (v : Int) : List Int := if sf then nats sz.toNat else srt (l ++ [v])
theorem clL_map {α : Type} {f : α → D} {k : Nat} (h : ∀ a, Cl k (f a)) : ∀ xs : List α, ClL k (xs.map f)
  | [] => by unfold ClL; trivial
  | x :: xs => by
    rw [List.map_cons]
    unfold ClL
    exact ⟨h x, clL_map h xs⟩
theorem cl_int (k : Nat) (i : Int) : Cl k (.int i) := by unfold Cl; trivial
theorem cl_tD (k : Nat) : ∀ t, Cl k (tD t)
  | none => by unfold tD Cl; trivial
  | some l => by unfold tD Cl; exact clL_map (cl_int k) l
theorem cl_clD (k : Nat) (w c : Int) (ts : List (Option (List Int))) : Cl k (clD w c ts) := by
  unfold clD Cl ClL
  refine ⟨cl_int _ _, ?_⟩
  unfold ClL
  refine ⟨cl_int _ _, ?_⟩
  unfold ClL
  refine ⟨by unfold Cl; exact clL_map (cl_tD k) ts, by unfold ClL; trivial⟩
section
variable {μ μ1 μ2 μ3 μ4 μ' : Mh} {τ τ1 : Sl} {x0 d : D} {ds es : List D} {n : Nat}
theorem newT_eq (h : ds.length ≤ sizeLine) : newT ds μ = some (.tup ds, μ) := by
  unfold newT; rw [bnd_of (show lim ds.length μ = some ((), μ) from by unfold lim; rw [if_pos h])]; rfl
theorem newL_eq (h : ds.length ≤ sizeLine) : newL ds μ = some (.lst ds, μ) := by
  unfold newL; rw [bnd_of (show lim ds.length μ = some ((), μ) from by unfold lim; rw [if_pos h])]; rfl
theorem ev_sl2 {ma : Sl → M D} {l h : Sl → M (Option Int)} {a b : Option Int} (h1 : ma τ μ = some (x0, μ1)) (h2 : l τ μ1 = some (a, μ2)) (h3 : h τ μ2 = some (b, μ3)) (h4 : pySl2 a b x0 μ3 = some (d, μ4)) : mSl2 ma l h τ μ = some (d, μ4) := by unfold mSl2; rw [bnd_of h1, bnd_of h2, bnd_of h3, h4]
theorem l_add2T (h : ds.length + es.length ≤ sizeLine) : pyAdd2 (.tup ds) (.tup es) μ = some (.tup (ds ++ es), μ) := by
  cases ds with
  | nil => rfl
  | cons a as => exact newT_eq (by simp at h ⊢; omega)
theorem l_add2L (h : ds.length + es.length ≤ sizeLine) : pyAdd2 (.lst ds) (.lst es) μ = some (.lst (ds ++ es), μ) := newL_eq (by simpa using h)
theorem shaped_str {x : Str} (h : PyData.strOk x = true) : SeqAt.shaped (.str x) = true := by
  show (PyData.strOk x && decide ((PyData.str x).depth ≤ 64)) = true
  rw [h]; rfl
theorem l_eqS {x y : Str} (h1 : PyData.strOk x = true) (h2 : PyData.strOk y = true) : pyEq (.str x) (.str y) μ = some (.bl (x == y), μ) := by
  show (if SeqAt.shaped (.str x) = true ∧ SeqAt.shaped (.str y) = true then some (D.bl (x == y), μ) else none) = _
  rw [if_pos ⟨shaped_str h1, shaped_str h2⟩]
theorem kd_ok : ∀ sf, PyData.strOk (kdS sf) = true := by decide +kernel
theorem kd_whole : ∀ sf, (kdS sf == ("whole" : Str)) = false := by decide +kernel
theorem kd_safe : ∀ sf, (kdS sf == ("safe" : Str)) = sf := by decide +kernel
theorem l_whole {sf : Bool} : pyEq (.str (kdS sf)) (.str "whole") μ = some (.bl false, μ) := by rw [l_eqS (kd_ok sf) (by decide +kernel), kd_whole]
theorem l_safe {sf : Bool} : pyEq (.str (kdS sf)) (.str "safe") μ = some (.bl sf, μ) := by rw [l_eqS (kd_ok sf) (by decide +kernel), kd_safe]
theorem sz24 : sizeLine = 16777216 := by decide
theorem l_sortT {l : List Int} (h : (nubI l).length ≤ 18) : sortsetF (.tup (l.map D.int)) μ = some (.lst ((srt l).map D.int), μ) := by
  unfold sortsetF
  rw [bnd_of (show asSeq1 (.tup (l.map D.int)) μ = some (l.map D.int, μ) from rfl)]
  simp only [intsD_map]
  rw [if_pos h]
theorem l_sortL {l : List Int} (h : (nubI l).length ≤ 18) : sortsetF (.lst (l.map D.int)) μ = some (.lst ((srt l).map D.int), μ) := by
  unfold sortsetF
  rw [bnd_of (show asSeq1 (.lst (l.map D.int)) μ = some (l.map D.int, μ) from rfl)]
  simp only [intsD_map]
  rw [if_pos h]
theorem v_beside {sf : Bool} {sz v : Int} {l : List Int} (h0 : 0 ≤ sz) (h1 : sz ≤ 1000) (hl : l.length ≤ 1000) (hr : (nubI (l ++ [v])).length ≤ 18) :
    f_beside [.str (kdS sf), .int sz, .tup (l.map D.int), .int v] μ = some (.tup ((bsd sf sz l v).map D.int), μ) := by
  have hz := sz24
  refine callF_pure (g := []) (τ2 := startD 4 [.str (kdS sf), .int sz, .tup (l.map D.int), .int v]) ?_ rfl (by unfold Cl; exact clL_map (cl_int _) _)
  rw [List.append_nil]
  cases sf with
  | true =>
    refine ev_seqR (ev_ifT (ev_test (ev_op (x := .str (kdS true)) (y := .str "safe") rfl rfl l_safe)) (ev_ret (ev_un (x := .int sz) rfl ?_)))
    show (if 0 ≤ sz ∧ sz ≤ 1000 then some (D.tup (natsD sz.toNat), μ) else none) = _
    rw [if_pos ⟨h0, h1⟩]
    rfl
  | false =>
    refine ev_seq (ev_ifF (ev_test (ev_op (x := .str (kdS false)) (y := .str "safe") rfl rfl l_safe)) rfl) (ev_ret (ev_disp (ds := [.lst ((srt (l ++ [v])).map D.int)]) (ev_consA (ds := []) (ev_un (x := .tup ((l ++ [v]).map D.int)) (ev_op (x := .tup (l.map D.int)) (y := .tup [.int v]) rfl rfl ?_) (l_sortT hr)) rfl) rfl))
    rw [l_add2T (by simp; omega), List.map_append]
    rfl
section
variable {ma mb mc : Sl → M D} {x y : D} {g : D → D → M D} {as : Sl → M (List D)} {tc tb : Sl → M Bool} {b : Bool} {m1 m2 : Sl → M (Fl × Sl)} {r : Fl × Sl}
theorem po (h1 : ma τ μ = some (x, μ)) (h2 : mb τ μ = some (y, μ)) (h3 : g x y μ = some (d, μ)) : mOp g ma mb τ μ = some (d, μ) := ev_op h1 h2 h3
theorem pn {u : D → M D} (h1 : ma τ μ = some (x, μ)) (h3 : u x μ = some (d, μ)) : mUn u ma τ μ = some (d, μ) := ev_un h1 h3
theorem pc (h1 : ma τ μ = some (x, μ)) (h2 : as τ μ = some (ds, μ)) : aCons ma as τ μ = some (x :: ds, μ) := ev_consA h1 h2
theorem pd {f : List D → M D} (h1 : as τ μ = some (ds, μ)) (h2 : f ds μ = some (d, μ)) : mDisp f as τ μ = some (d, μ) := ev_disp h1 h2
theorem p2 {l h : Sl → M (Option Int)} {a b : Option Int} (h1 : ma τ μ = some (x, μ)) (h2 : l τ μ = some (a, μ)) (h3 : h τ μ = some (b, μ)) (h4 : pySl2 a b x μ = some (d, μ)) : mSl2 ma l h τ μ = some (d, μ) := ev_sl2 h1 h2 h3 h4
theorem pq (h1 : m1 τ μ = some ((.next, τ1), μ)) (h2 : m2 τ1 μ = some (r, μ)) : sSeq m1 m2 τ μ = some (r, μ) := ev_seq h1 h2
theorem pa {bf : D → Sl → M Sl} (h1 : ma τ μ = some (d, μ)) (h2 : bf d τ μ = some (τ1, μ)) : sAsg ma bf τ μ = some ((.next, τ1), μ) := ev_asg h1 h2
theorem piT (h1 : tc τ μ = some (true, μ)) (h2 : m1 τ μ = some (r, μ)) : sIf tc m1 m2 τ μ = some (r, μ) := ev_ifT h1 h2
theorem piF (h1 : tc τ μ = some (false, μ)) (h2 : m2 τ μ = some (r, μ)) : sIf tc m1 m2 τ μ = some (r, μ) := ev_ifF h1 h2
theorem pr (h1 : ma τ μ = some (d, μ)) : sRet ma τ μ = some ((.rt d, τ), μ) := ev_ret h1
theorem peT (h1 : tc τ μ = some (true, μ)) (h2 : ma τ μ = some (d, μ)) : mIf tc ma mb τ μ = some (d, μ) := by unfold mIf; rw [bnd_of h1, if_pos rfl, h2]
theorem peF (h1 : tc τ μ = some (false, μ)) (h2 : mb τ μ = some (d, μ)) : mIf tc ma mb τ μ = some (d, μ) := by unfold mIf; rw [bnd_of h1, if_neg (by decide), h2]
end
theorem cut_to {α : D} {j : Nat} (h : j ≤ ds.length) : cutD ds none (some (j : Int)) = ds.take j := by
  unfold cutD
  rw [HT.sIx_none, HT.sIx_nat, Nat.min_eq_left h]
  simp
theorem cut_from {j : Nat} (h : j ≤ ds.length) : cutD ds (some (j : Int)) none = ds.drop j := by
  unfold cutD
  rw [HT.sIx_none, HT.sIx_nat, Nat.min_eq_left h]
  exact List.take_of_length_le (by simp)
theorem v_with {j : Nat} {x : D} (hj : j < ds.length) (hl : ds.length ≤ 1000) (hc : ∀ k, ClL k ds) (hx : ∀ k, Cl k x) : f_with_thing [.tup ds, .int j, x] μ = some (.tup (ds.set j x), μ) := by
  have hz := sz24
  have hcs : ∀ (k j : Nat) (ds : List D), ClL k ds → ClL k (ds.set j x) := by
    intro k j ds
    induction ds generalizing j with
    | nil => intro h; exact h
    | cons a as ih =>
      intro h
      unfold ClL at h
      cases j with
      | zero => show ClL k (x :: as); unfold ClL; exact ⟨hx k, h.2⟩
      | succ j => show ClL k (a :: as.set j x); unfold ClL; exact ⟨h.1, ih j h.2⟩
  refine callF_pure (g := []) (τ2 := startD 3 [.tup ds, .int j, x]) ?_ rfl (by unfold Cl; exact hcs _ _ _ (hc _))
  rw [List.append_nil]
  refine pr (po (x := .tup (ds.take j ++ [x])) (y := .tup (ds.drop (j + 1))) (po (x := .tup (ds.take j)) (y := .tup [x]) (p2 (x := .tup ds) (a := none) (b := some (j : Int)) rfl rfl rfl ?_) rfl (l_add2T (by simp; omega))) (p2 (x := .tup ds) (a := some ((j : Int) + 1)) (b := none) rfl rfl rfl ?_) ?_)
  · show some (D.tup (cutD ds none (some (j : Int))), μ) = _
    rw [cut_to (α := x) (by omega)]
  · show some (D.tup (cutD ds (some ((j : Int) + 1)) none), μ) = _
    rw [show ((j : Int) + 1) = ((j + 1 : Nat) : Int) by omega, cut_from (by omega)]
  · rw [l_add2T (by simp; omega), List.append_assoc]
    rw [List.set_eq_take_append_cons_drop, if_pos hj]
    rfl
end
end K13
set_option maxHeartbeats 4000000
namespace K13
open PySem L2 Mi Ht
section
variable {μ μ1 μ2 μ3 μ4 μ' : Mh} {τ τ1 : Sl} {x0 d : D} {ds es : List D} {n : Nat}
theorem comp_f {α : Type} {me : Sl → M D} {mc : Sl → M Bool} {τ0 : Sl} {f F : α → D} {p : α → Bool} : ∀ {xs : List α} {ys : List D}, (∀ a ∈ xs, mc (τ0.set 0 (some (f a))) μ = some (p a, μ)) → (∀ a ∈ xs, p a = true → me (τ0.set 0 (some (f a))) μ = some (F a, μ)) → compGo (bName 0) mc me τ0 (xs.map f) ys μ = some (ys ++ (xs.filter p).map F, μ)
  | [], ys, _, _ => by show some (ys, μ) = _; simp
  | z :: xs, ys, hc, h => by
    show bnd (bName 0 (f z) τ0) _ μ = _
    rw [bnd_of (show bName 0 (f z) τ0 μ = some (τ0.set 0 (some (f z)), μ) from rfl), bnd_of (hc z (by simp))]
    cases q : p z with
    | true =>
      rw [if_pos rfl, bnd_of (h z (by simp) q), comp_f (fun w hw => hc w (by simp [hw])) (fun w hw => h w (by simp [hw]))]
      simp [q]
    | false =>
      rw [if_neg (by decide), comp_f (fun w hw => hc w (by simp [hw])) (fun w hw => h w (by simp [hw]))]
      simp [q]
theorem ev_comp {N : Nat} {ix : List Nat} {src : Sl → M (List D)} {bf : D → Sl → M Sl} {mc : Sl → M Bool} {me : Sl → M D} {fin : List D → M D} (h1 : src τ μ = some (ds, μ)) (hl : ds.length ≤ sizeLine) (h2 : compGo bf mc me (startBl N ix τ) ds [] μ = some (es, μ)) (h3 : fin es μ = some (d, μ')) : mComp N ix src bf mc me fin τ μ = some (d, μ') := by
  unfold mComp
  rw [bnd_of h1, bnd_of (show lim ds.length μ = some ((), μ) from by unfold lim; rw [if_pos hl]), bnd_of h2, h3]
theorem all_true {α : Type} (xs : List α) : xs.filter (fun _ => true) = xs := by simp
theorem src_tup {ma : Sl → M D} (h : ma τ μ = some (.tup ds, μ)) : mSrc ma τ μ = some (ds, μ) := by unfold mSrc; rw [bnd_of h]; rfl
theorem src_lst {ma : Sl → M D} (h : ma τ μ = some (.lst ds, μ)) : mSrc ma τ μ = some (ds, μ) := by unfold mSrc; rw [bnd_of h]; rfl
theorem no_whole {sf : Bool} {sz bg : Int} {ns : List Str} {m1 : Sl → M (Fl × Sl)} (h : τ[0]? = some (some (mkD sf sz bg ns))) : sIf (mTest (mOp pyEq (mOp pyIx (mSlot 0) (mC (.int 0))) (mC (.str "whole")))) m1 sNil τ μ = some ((.next, τ), μ) :=
  piF (ev_test (po (x := .str (kdS sf)) (y := .str "whole") (po (x := mkD sf sz bg ns) (y := .int 0) (ev_slot h) rfl rfl) rfl l_whole)) rfl
theorem flat_rep {α : Type} (a : α) : ∀ k : Nat, (List.replicate k [a]).flatten = List.replicate k a
  | 0 => rfl
  | k + 1 => by rw [List.replicate_succ, List.flatten_cons, flat_rep a k]; rfl
variable {sf : Bool} {sz bg : Int} {ns : List Str}
theorem v_begun (h : ns.length ≤ 1000) (h2 : 2 ≤ ns.length) : f_claim_begun [mkD sf sz bg ns] μ = some (clD bg (-1) (List.replicate (ns.length - 1) none), μ) := by
  have hz := sz24
  refine callF_pure (g := []) (τ2 := [some (mkD sf sz bg ns), some (.int ((ns.length : Int) - 1))]) ?_ rfl (cl_clD _ _ _ _)
  rw [List.append_nil]
  refine pq (pa (d := .int ((ns.length : Int) - 1)) (po (x := .int ns.length) (y := .int 1) (pd (ds := [.tup (ns.map hdD)]) rfl ?_) rfl rfl) rfl) (pq (no_whole rfl) (pr (pd (ds := [.int bg, .int (-1), .tup ((List.replicate (ns.length - 1) none).map tD)]) (pc (x := .int bg) rfl (pc (x := .int (-1)) rfl (pc (po (x := .tup [.non]) (y := .int ((ns.length : Int) - 1)) rfl rfl ?_) rfl))) (newT_eq (by simp; omega)))))
  · show some (D.int (((ns.map hdD).length : Nat) : Int), μ) = _
    rw [List.length_map]
  · show (if [D.non] ≠ [] ∧ [D.non].length ≤ 1000 ∧ 1 ≤ ((ns.length : Int) - 1) ∧ ((ns.length : Int) - 1) ≤ 1000 then some (D.tup (List.replicate ((ns.length : Int) - 1).toNat [D.non]).flatten, μ) else none) = _
    rw [if_pos ⟨by simp, by simp, by omega, by omega⟩, flat_rep, List.map_replicate, show ((ns.length : Int) - 1).toNat = ns.length - 1 by omega]
    rfl
theorem v_written {w c : Int} {ts : List (Option (List Int))} : f_claim_written [mkD sf sz bg ns, clD w c ts] μ = some (clD c (-1) ts, μ) := by
  have hz := sz24
  refine callF_pure (g := []) (τ2 := [some (mkD sf sz bg ns), some (clD w c ts)]) ?_ rfl (cl_clD _ _ _ _)
  rw [List.append_nil]
  exact pq (no_whole rfl) (pr (pd (ds := [.int c, .int (-1), .tup (ts.map tD)]) rfl (newT_eq (by simp; omega))))
noncomputable def Small (l : List Int) : Prop := l.length ≤ 100 ∧ ∀ x ∈ l, 0 ≤ x ∧ x < 10
theorem small_room {l : List Int} (h : ∀ x ∈ l, 0 ≤ x ∧ x < 10) : (nubI l).length ≤ 18 := by
  have h1 := nodup_le (r := (List.range 10).map Int.ofNat) (nubI_nodup l) fun x hx => by
    obtain ⟨a, b⟩ := h x ((nubI_mem l x).mp hx)
    exact List.mem_map.mpr ⟨x.toNat, List.mem_range.mpr (by omega), by show ((x.toNat : Nat) : Int) = x; omega⟩
  simp at h1
  omega
theorem v_writes {w c v : Int} {ts : List (Option (List Int))} (h0 : 0 ≤ sz) (h1 : sz ≤ 10) (hv : 0 ≤ v ∧ v < 10) (hl : ts.length ≤ 1000) (hs : ∀ l, some l ∈ ts → Small l) :
    f_claim_writes [mkD sf sz bg ns, clD w c ts, .int v] μ = some (clD w v (ts.map (Option.map fun l => bsd sf sz l v)), μ) := by
  have hz := sz24
  refine callF_pure (g := []) (τ2 := [some (mkD sf sz bg ns), some (clD w c ts), some (.int v), some (.lst ((ts.map (Option.map fun l => bsd sf sz l v)).map tD))]) ?_ rfl (cl_clD _ _ _ _)
  rw [List.append_nil]
  refine pq (no_whole rfl) (pq (pa (d := .lst ((ts.map (Option.map fun l => bsd sf sz l v)).map tD)) (ev_comp (ds := ts.map tD) (es := (ts.map (Option.map fun l => bsd sf sz l v)).map tD) (src_tup rfl) (by rw [List.length_map]; omega) ?_ (newL_eq (by rw [List.length_map, List.length_map]; omega))) rfl) (pr (pd (ds := [.int w, .int v, .tup ((ts.map (Option.map fun l => bsd sf sz l v)).map tD)]) rfl (newT_eq (by simp; omega)))))
  have := comp_f (μ := μ) (mc := mTrue) (me := (mIf (mTest (mOp (pyIs false) (mSlot 0) (mC .non))) (mSlot 0) (mDisp f_beside (aCons (mOp pyIx (mSlot 1) (mC (.int 0))) (aCons (mOp pyIx (mSlot 1) (mC (.int 1))) (aCons (mSlot 0) (aCons (mSlot 2) aNil))))))) (τ0 := [none, some (mkD sf sz bg ns), some (.int v)]) (f := tD) (F := fun t => tD (Option.map (fun l => bsd sf sz l v) t)) (p := fun _ => true) (xs := ts) (ys := []) (fun _ _ => rfl) (fun t ht _ => ?_)
  · rw [all_true, List.nil_append] at this
    rw [List.map_map]
    exact this
  · cases t with
    | none => exact peT (ev_test (po (x := .non) (y := .non) rfl rfl rfl)) rfl
    | some l =>
      obtain ⟨s1, s2⟩ := hs l ht
      refine peF (ev_test (po (x := .tup (l.map D.int)) (y := .non) rfl rfl rfl)) (pd (ds := [.str (kdS sf), .int sz, .tup (l.map D.int), .int v]) rfl (v_beside h0 (by omega) (by omega) (small_room fun x hx => ?_)))
      rcases List.mem_append.mp hx with z | z
      · exact s2 x z
      · rw [List.mem_singleton] at z; subst z; exact hv
noncomputable def begT (sf : Bool) (sz w c : Int) : List Int := if c = -1 then [w] else bsd sf sz [w] c
theorem ts_set {ts : List (Option (List Int))} {r : Nat} {t : Option (List Int)} : (ts.map tD).set r (tD t) = (ts.set r t).map tD := by rw [List.map_set]
theorem l_neI {i j : Int} : pyNe (.int i) (.int j) μ = some (.bl (!(i == j)), μ) := rfl
theorem v_reads {w c : Int} {r : Nat} {ts : List (Option (List Int))} (h0 : 0 ≤ sz) (h1 : sz ≤ 10) (hw : 0 ≤ w ∧ w < 10) (hc : c ≠ -1 → 0 ≤ c ∧ c < 10) (hl : ts.length ≤ 1000) (hr : r < ts.length) :
    f_claim_reads [mkD sf sz bg ns, clD w c ts, .int r] μ = some (clD w c (ts.set r (some (begT sf sz w c))), μ) := by
  have hz := sz24
  refine callF_pure (g := []) (τ2 := [some (mkD sf sz bg ns), some (clD w c ts), some (.int r), some (tD (some (begT sf sz w c)))]) ?_ rfl (cl_clD _ _ _ _)
  rw [List.append_nil]
  have fin : sRet (mDisp newT (aCons (mOp pyIx (mSlot 1) (mC (.int 0))) (aCons (mOp pyIx (mSlot 1) (mC (.int 1))) (aCons (mDisp f_with_thing (aCons (mOp pyIx (mSlot 1) (mC (.int 2))) (aCons (mSlot 2) (aCons (mSlot 3) aNil)))) aNil)))) [some (mkD sf sz bg ns), some (clD w c ts), some (.int r), some (tD (some (begT sf sz w c)))] μ = some ((.rt (clD w c (ts.set r (some (begT sf sz w c)))), [some (mkD sf sz bg ns), some (clD w c ts), some (.int r), some (tD (some (begT sf sz w c)))]), μ) := by
    refine pr (pd (ds := [.int w, .int c, .tup ((ts.set r (some (begT sf sz w c))).map tD)]) (pc (x := .int w) rfl (pc (x := .int c) rfl (pc (pd (ds := [.tup (ts.map tD), .int r, tD (some (begT sf sz w c))]) rfl ?_) rfl))) (newT_eq (by simp; omega)))
    rw [v_with (by rw [List.length_map]; exact hr) (by rw [List.length_map]; exact hl) (fun k => clL_map (cl_tD k) ts) (fun k => cl_tD k _), ts_set]
  refine pq (no_whole rfl) (pq (τ1 := [some (mkD sf sz bg ns), some (clD w c ts), some (.int r), some (tD (some [w]))]) (pa (d := tD (some [w])) (pd (ds := [.int w]) rfl (newT_eq (by simp; omega))) rfl) (pq (τ1 := [some (mkD sf sz bg ns), some (clD w c ts), some (.int r), some (tD (some (begT sf sz w c)))]) ?_ fin))
  have ht : mTest (mOp pyNe (mOp pyIx (mSlot 1) (mC (.int 1))) (mC d_NONE)) [some (mkD sf sz bg ns), some (clD w c ts), some (.int r), some (tD (some [w]))] μ = some (!(c == -1), μ) := ev_test (po (x := .int c) (y := .int (-1)) rfl rfl l_neI)
  by_cases e : c = -1
  · have eb : begT sf sz w c = [w] := if_pos e
    rw [eb]
    refine piF (by rw [ht, e]; rfl) rfl
  · have eb : begT sf sz w c = bsd sf sz [w] c := if_neg e
    rw [eb]
    refine piT (by rw [ht, beq_eq_false_iff_ne.mpr e]; rfl) (pa (d := tD (some (bsd sf sz [w] c))) (pd (ds := [.str (kdS sf), .int sz, .tup ([w].map D.int), .int c]) rfl (v_beside h0 (by omega) (by simp) (small_room fun x hx => ?_))) rfl)
    simp at hx
    rcases hx with z | z
    · subst z; exact hw
    · subst z; exact hc e
theorem flat_ints : ∀ xs : List Int, flatDs (xs.map D.int) = some (xs.map V.int)
  | [] => rfl
  | x :: r => by show (flatD (.int x)).bind _ = _; rw [flat_ints r]; rfl
theorem inV_ints {x : Int} : ∀ xs : List Int, inV (.int x) (xs.map V.int) = decide (x ∈ xs)
  | [] => rfl
  | y :: r => by
    have h := inV_ints (x := x) r
    unfold inV at h ⊢
    rw [List.map_cons, List.any_cons, h]
    show ((y == x) || decide (x ∈ r)) = _
    by_cases e : x = y
    · subst e; simp
    · have : (y == x) = false := beq_eq_false_iff_ne.mpr fun z => e z.symm
      rw [this, Bool.false_or]; simp [e]
theorem l_inI {neg : Bool} {c : D} {x : Int} {xs : List Int} (h : asSeq1 c μ = some (xs.map D.int, μ)) : pyIn neg (.int x) c μ = some (.bl (if neg then !decide (x ∈ xs) else decide (x ∈ xs)), μ) := by
  show inSeq neg (.int x) c μ = _
  unfold inSeq
  rw [bnd_of h]
  simp only [flat_ints]
  show some (D.bl (if neg then !inV (.int x) (xs.map V.int) else inV (.int x) (xs.map V.int)), μ) = _
  rw [inV_ints]
theorem at_nat {ds : List D} {r : Nat} {x : D} (h : ds[r]? = some x) : atI ds (r : Int) = some x := by
  have hr : r < ds.length := (List.getElem?_eq_some_iff.mp h).1
  unfold atI ixN
  rw [if_pos (by omega), if_pos (by omega)]
  simpa using h
theorem v_told {w c v : Int} {r : Nat} {ts : List (Option (List Int))} {l : List Int} (hl : ts.length ≤ 1000) (hr : ts[r]? = some (some l)) :
    f_claim_told [mkD sf sz bg ns, clD w c ts, .int r, .int v] μ = some (if v ∈ l then clD w c (ts.set r none) else .non, μ) := by
  have hz := sz24
  have hrl : r < ts.length := (List.getElem?_eq_some_iff.mp hr).1
  refine callF_pure (g := []) (τ2 := [some (mkD sf sz bg ns), some (clD w c ts), some (.int r), some (.int v), none]) ?_ rfl (by split; exact cl_clD _ _ _ _; unfold Cl; trivial)
  rw [List.append_nil]
  have ht : mTest (mOp (pyIn true) (mSlot 3) (mOp pyIx (mOp pyIx (mSlot 1) (mC (.int 2))) (mSlot 2))) [some (mkD sf sz bg ns), some (clD w c ts), some (.int r), some (.int v), none] μ = some (!decide (v ∈ l), μ) :=
    ev_test (po (x := .int v) (y := .tup (l.map D.int)) rfl (po (x := .tup (ts.map tD)) (y := .int r) rfl rfl (l_ixT (at_nat (by rw [List.getElem?_map, hr]; rfl)))) (l_inI rfl))
  refine pq (τ1 := [some (mkD sf sz bg ns), some (clD w c ts), some (.int r), some (.int v), none]) (no_whole rfl) ?_
  by_cases e : v ∈ l
  · rw [if_pos e]
    refine pq (piF (by rw [ht, decide_eq_true e]; rfl) rfl) (pr (pd (ds := [.int w, .int c, .tup ((ts.set r none).map tD)]) (pc (x := .int w) rfl (pc (x := .int c) rfl (pc (pd (ds := [.tup (ts.map tD), .int r, tD none]) rfl ?_) rfl))) (newT_eq (by simp; omega))))
    rw [v_with (by rw [List.length_map]; exact hrl) (by rw [List.length_map]; exact hl) (fun k => clL_map (cl_tD k) ts) (fun k => cl_tD k _), ts_set]
  · rw [if_neg e]
    exact ev_seqR (piT (by rw [ht, decide_eq_false e]; rfl) (pr rfl))
end
end K13
set_option maxHeartbeats 4000000
namespace K13
open PySem L2 Mi Ht
inductive Ev where
  | wb (v : Int) | we | rb (r : Nat) | re (r : Nat) (v : Int)
deriving DecidableEq
noncomputable def Ev.beg : Ev → Bool
  | .wb _ => true
  | .we => false
  | .rb _ => true
  | .re _ _ => false
noncomputable def Ev.hand : Ev → Nat
  | .wb _ => 0
  | .we => 0
  | .rb r => r + 1
  | .re r _ => r + 1
noncomputable def Ev.val : Ev → Option Int
  | .wb v => some v
  | .re _ v => some v
  | _ => none
noncomputable abbrev nm (ns : List Str) (h : Nat) : Str := ns.getD h "w"
noncomputable def bS : Bool → Str
  | true => "begin"
  | false => "end"
noncomputable def evD (ns : List Str) (e : Ev) : D := .tup (D.str (bS e.beg) :: .str (nm ns e.hand) :: (match e.val with | some v => [.int v] | none => []))
noncomputable def actD (e : Ev) (g : Int) : D := .tup [.str (bS e.beg), .int e.hand, .int (e.val.getD (-1)), .int g]
structure Ns (ns : List Str) : Prop where
  ok : ∀ n ∈ ns, PyData.strOk n = true
  nd : ns.Nodup
  lo : 2 ≤ ns.length
  hi : ns.length ≤ 4
structure Ev.Ok (ns : List Str) (sz : Int) (e : Ev) : Prop where
  h : e.hand < ns.length
  v : ∀ v, e.val = some v → 0 ≤ v ∧ v < sz
theorem Ns.nok {ns : List Str} (N : Ns ns) {h : Nat} (hh : h < ns.length) : PyData.strOk (nm ns h) = true := N.ok _ (by simp [nm, hh])
theorem Ns.mem {ns : List Str} {h : Nat} (hh : h < ns.length) : nm ns h ∈ ns := by simp [nm, hh]
theorem Ns.inj {ns : List Str} (N : Ns ns) {h k : Nat} (hh : h < ns.length) (hk : k < ns.length) (e : nm ns h = nm ns k) : h = k := by
  have e' : ns[h] = ns[k] := by simpa [nm, hh, hk] using e
  exact (List.getElem_inj N.nd).mp e'
section
variable {μ μ1 μ2 μ3 μ4 μ' : Mh} {τ τ1 : Sl} {x0 d : D} {ds es : List D} {n : Nat}
variable {sf : Bool} {sz bg : Int} {ns : List Str}
theorem bS_ok : ∀ b, PyData.strOk (bS b) = true := by decide +kernel
theorem bS_beg : ∀ b, (bS b == ("begin" : Str)) = b := by decide +kernel
theorem bS_end : ∀ b, (bS b == ("end" : Str)) = !b := by decide +kernel
theorem l_beg {b : Bool} : pyEq (.str (bS b)) (.str "begin") μ = some (.bl b, μ) := by rw [l_eqS (bS_ok b) (by decide +kernel), bS_beg]
theorem l_end {b : Bool} : pyEq (.str (bS b)) (.str "end") μ = some (.bl (!b), μ) := by rw [l_eqS (bS_ok b) (by decide +kernel), bS_end]
theorem l_eqB {a b : Bool} : pyEq (.bl a) (.bl b) μ = some (.bl (a == b), μ) := by cases a <;> cases b <;> rfl
theorem l_eqI {i j : Int} : pyEq (.int i) (.int j) μ = some (.bl (i == j), μ) := rfl
theorem l_name (N : Ns ns) {h k : Nat} (hh : h < ns.length) (hk : k < ns.length) : pyEq (.str (nm ns h)) (.str (nm ns k)) μ = some (.bl (h == k), μ) := by
  rw [l_eqS (N.nok hh) (N.nok hk)]
  by_cases e : h = k
  · subst e; simp
  · rw [beq_eq_false_iff_ne.mpr e, beq_eq_false_iff_ne.mpr fun z => e (N.inj hh hk z)]
theorem flat_strs : ∀ xs : List Str, flatDs (xs.map D.str) = some (xs.map V.str)
  | [] => rfl
  | x :: r => by show (flatD (.str x)).bind _ = _; rw [flat_strs r]; rfl
theorem inV_strs {x : Str} : ∀ xs : List Str, inV (.str x) (xs.map V.str) = decide (x ∈ xs)
  | [] => rfl
  | y :: r => by
    have h := inV_strs (x := x) r
    unfold inV at h ⊢
    rw [List.map_cons, List.any_cons, h]
    show ((y == x) || decide (x ∈ r)) = _
    by_cases e : x = y
    · subst e; simp
    · have : (y == x) = false := beq_eq_false_iff_ne.mpr fun z => e z.symm
      rw [this, Bool.false_or]; simp [e]
theorem l_inS {neg : Bool} {c : D} {x : Str} {xs : List Str} (h : asSeq1 c μ = some (xs.map D.str, μ)) : inSeq neg (.str x) c μ = some (.bl (if neg then !decide (x ∈ xs) else decide (x ∈ xs)), μ) := by
  unfold inSeq
  rw [bnd_of h]
  simp only [flat_strs]
  show some (D.bl (if neg then !inV (.str x) (xs.map V.str) else inV (.str x) (xs.map V.str)), μ) = _
  rw [inV_strs]
theorem v_whole {v lo hi : Int} (h0 : lo ≤ v) (h1 : v ≤ hi) : f_is_whole [.int v, .int lo, .int hi] μ = some (.bl true, μ) := by
  refine callF_pure (g := []) (τ2 := [some (.int v), some (.int lo), some (.int hi)]) ?_ rfl (by unfold Cl; trivial)
  rw [List.append_nil]
  exact pr (ev_andVT (μ1 := μ) (pd (ds := [.int v, .ty "int"]) rfl l_inst_ii) (ev_andVT (μ1 := μ) (ev_notV (b := false) (pd (ds := [.int v, .ty "bool"]) rfl l_inst_ib)) (ev_chainT (μ1 := μ) (μ2 := μ) (μ3 := μ) (x := .int lo) (y := .int v) (z := .int hi) rfl rfl (l_le h0) rfl (l_le h1))))
theorem v_tuple {lo hi : Int} (h0 : lo ≤ ds.length) (h1 : ds.length ≤ hi) : f_is_tuple [.tup ds, .int lo, .int hi] μ = some (.bl true, μ) := by
  refine callF_pure (g := []) (τ2 := [some (.tup ds), some (.int lo), some (.int hi)]) ?_ rfl (by unfold Cl; trivial)
  rw [List.append_nil]
  exact pr (ev_andVT (μ1 := μ) (pd (ds := [.tup ds, .ty "tuple"]) rfl l_inst_tt) (ev_chainT (μ1 := μ) (μ2 := μ) (μ3 := μ) (x := .int lo) (y := .int ds.length) (z := .int hi) rfl (pd (ds := [.tup ds]) rfl rfl) (l_le h0) rfl (l_le h1)))
noncomputable def evL (ns : List Str) (e : Ev) : List D := D.str (bS e.beg) :: .str (nm ns e.hand) :: (match e.val with | some v => [.int v] | none => [])
theorem evD_eq {e : Ev} : evD ns e = .tup (evL ns e) := rfl
theorem evL_len {e : Ev} : (evL ns e).length = if e.val.isSome then 3 else 2 := by cases e <;> rfl
theorem v_event (N : Ns ns) {e : Ev} (h : e.Ok ns sz) : f_is_event [evD ns e, .lst (ns.map D.str), .int sz] μ = some (.bl true, μ) := by
  have hz := sz24
  have hlo := N.lo
  refine callF_pure (g := []) (τ2 := [some (evD ns e), some (.lst (ns.map D.str)), some (.int sz)]) ?_ rfl (by unfold Cl; trivial)
  rw [List.append_nil]
  have len := evL_len (ns := ns) (e := e)
  have i0 : mOp pyIx (mSlot 0) (mC (.int 0)) [some (evD ns e), some (.lst (ns.map D.str)), some (.int sz)] μ = some (.str (bS e.beg), μ) := by cases e <;> rfl
  have i1 : mOp pyIx (mSlot 0) (mC (.int 1)) [some (evD ns e), some (.lst (ns.map D.str)), some (.int sz)] μ = some (.str (nm ns e.hand), μ) := by cases e <;> rfl
  have t1 : mNot (mTest (mDisp f_is_tuple (aCons (mSlot 0) (aCons (mC (.int 2)) (aCons (mC (.int 3)) aNil))))) [some (evD ns e), some (.lst (ns.map D.str)), some (.int sz)] μ = some (false, μ) :=
    ev_not (b := true) (ev_test (pd (ds := [evD ns e, .int 2, .int 3]) rfl (by rw [evD_eq]; exact v_tuple (by rw [len]; split <;> decide) (by rw [len]; split <;> decide))))
  have t2 : mTest (mOp (pyIn true) (mOp pyIx (mSlot 0) (mC (.int 0))) (mDisp newT (aCons (mC (.str "begin")) (aCons (mC (.str "end")) aNil)))) [some (evD ns e), some (.lst (ns.map D.str)), some (.int sz)] μ = some (false, μ) := by
    refine ev_test (po (x := .str (bS e.beg)) (y := .tup [.str "begin", .str "end"]) i0 (pd (ds := [.str "begin", .str "end"]) rfl (newT_eq (by simp; omega))) ?_)
    show inSeq true (.str (bS e.beg)) (.tup ((["begin", "end"] : List Str).map D.str)) μ = _
    rw [l_inS rfl]
    cases e.beg <;> rfl
  have t3 : mTest (mOp (pyIn true) (mOp pyIx (mSlot 0) (mC (.int 1))) (mSlot 1)) [some (evD ns e), some (.lst (ns.map D.str)), some (.int sz)] μ = some (false, μ) := by
    refine ev_test (po (x := .str (nm ns e.hand)) (y := .lst (ns.map D.str)) i1 rfl ?_)
    show inSeq true (.str (nm ns e.hand)) (.lst (ns.map D.str)) μ = _
    rw [l_inS rfl, decide_eq_true (Ns.mem h.h)]
    rfl
  have t4 : mTest (mOp pyEq (mOp pyEq (mOp pyIx (mSlot 0) (mC (.int 0))) (mC (.str "begin"))) (mOp pyEq (mOp pyIx (mSlot 0) (mC (.int 1))) (mOp pyIx (mSlot 1) (mC (.int 0))))) [some (evD ns e), some (.lst (ns.map D.str)), some (.int sz)] μ = some (e.val.isSome, μ) := by
    refine ev_test ?_
    have n0 : (ns.map D.str)[0]? = some (D.str (nm ns 0)) := by
      rw [List.getElem?_map, List.getElem?_eq_getElem (by omega)]
      simp [nm, show 0 < ns.length by omega]
    refine po (x := .bl e.beg) (y := .bl (e.hand == 0)) (po (x := .str (bS e.beg)) (y := .str "begin") i0 rfl l_beg) (po (x := .str (nm ns e.hand)) (y := .str (nm ns 0)) i1 (po (x := .lst (ns.map D.str)) (y := .int 0) rfl rfl (l_ixL (at_nat (r := 0) n0))) (l_name N h.h (by omega))) ?_
    rw [l_eqB]
    cases e <;> rfl
  refine pq (piF (ev_orF t1 (ev_orF t2 t3)) rfl) ?_
  cases hv : e.val with
  | none =>
    rw [hv] at t4 len
    refine pq (piF t4 rfl) (pr (po (x := .int 2) (y := .int 2) (pd (ds := [.tup (evL ns e)]) rfl ?_) rfl rfl))
    show some (D.int (((evL ns e).length : Nat) : Int), μ) = _
    rw [len]; rfl
  | some v =>
    rw [hv] at t4 len
    obtain ⟨v0, v1⟩ := h.v v hv
    have i2 : mOp pyIx (mSlot 0) (mC (.int 2)) [some (evD ns e), some (.lst (ns.map D.str)), some (.int sz)] μ = some (.int v, μ) := by cases e <;> cases hv <;> rfl
    refine ev_seqR (piT t4 (pr (ev_andVT (μ1 := μ) (po (x := .int 3) (y := .int 3) (pd (ds := [.tup (evL ns e)]) rfl ?_) rfl rfl) (pd (ds := [.int v, .int 0, .int (sz - 1)]) (pc i2 rfl) (v_whole v0 (by omega))))))
    show some (D.int (((evL ns e).length : Nat) : Int), μ) = _
    rw [len]; rfl
structure C3 where
  w : Int
  c : Int
  ts : List (Option (List Int))
noncomputable def C3.toD (k : C3) : D := clD k.w k.c k.ts
noncomputable def C3.step (sf : Bool) (sz : Int) (k : C3) : Ev → Option C3
  | .wb v => some ⟨k.w, v, k.ts.map (Option.map fun l => bsd sf sz l v)⟩
  | .we => some ⟨k.c, -1, k.ts⟩
  | .rb r => some ⟨k.w, k.c, k.ts.set r (some (begT sf sz k.w k.c))⟩
  | .re r v => match k.ts[r]? with
    | some (some l) => if v ∈ l then some ⟨k.w, k.c, k.ts.set r none⟩ else none
    | _ => none
noncomputable def oD : Option C3 → D
  | some k => k.toD
  | none => .non
structure C3.Ok (k : C3) (rs : Nat) : Prop where
  w : 0 ≤ k.w ∧ k.w < 10
  c : k.c ≠ -1 → 0 ≤ k.c ∧ k.c < 10
  ts : ∀ l, some l ∈ k.ts → Small l
  n : k.ts.length = rs
  m : rs ≤ 3
noncomputable def C3.fits (k : C3) : Ev → Prop
  | .wb v => 0 ≤ v ∧ v < 10
  | .we => k.c ≠ -1
  | .rb r => r < k.ts.length
  | .re r _ => ∃ l, k.ts[r]? = some (some l)
theorem v_behind {k : C3} {m : Nat} {e : Ev} {g : Int} (h0 : 0 ≤ sz) (h1 : sz ≤ 10) (K : k.Ok m) (f : k.fits e) : f_claim_behind [mkD sf sz bg ns, k.toD, actD e g] μ = some (oD (k.step sf sz e), μ) := by
  have hn := K.n
  have hm := K.m
  have cl : Cl μ.length (oD (k.step sf sz e)) := by
    cases k.step sf sz e with
    | none => unfold oD Cl; trivial
    | some k' => exact cl_clD _ _ _ _
  have a0 : ∀ o3 o4 : Option D, mOp pyEq (mOp pyIx (mSlot 2) (mC (.int 0))) (mC (.str "begin")) [some (mkD sf sz bg ns), some k.toD, some (actD e g), o3, o4] μ = some (.bl e.beg, μ) := fun _ _ => po (x := .str (bS e.beg)) (y := .str "begin") rfl rfl l_beg
  have a1 : ∀ o3 o4 : Option D, mTest (mOp pyEq (mOp pyIx (mSlot 2) (mC (.int 1))) (mC (.int 0))) [some (mkD sf sz bg ns), some k.toD, some (actD e g), o3, o4] μ = some ((e.hand : Int) == 0, μ) := fun _ _ => ev_test (po (x := .int e.hand) (y := .int 0) rfl rfl l_eqI)
  cases e with
  | wb v =>
    refine callF_pure (g := []) (τ2 := [some (mkD sf sz bg ns), some k.toD, some (actD (.wb v) g), some (.bl true), none]) ?_ rfl cl
    rw [List.append_nil]
    exact pq (pa (a0 _ _) rfl) (ev_seqR (piT (a1 _ _) (pr (peT (ev_test rfl) (pd (ds := [mkD sf sz bg ns, k.toD, .int v]) rfl (v_writes h0 h1 f (by omega) K.ts))))))
  | we =>
    refine callF_pure (g := []) (τ2 := [some (mkD sf sz bg ns), some k.toD, some (actD .we g), some (.bl false), none]) ?_ rfl cl
    rw [List.append_nil]
    exact pq (pa (a0 _ _) rfl) (ev_seqR (piT (a1 _ _) (pr (peF (ev_test rfl) (pd (ds := [mkD sf sz bg ns, k.toD]) rfl v_written)))))
  | rb r =>
    refine callF_pure (g := []) (τ2 := [some (mkD sf sz bg ns), some k.toD, some (actD (.rb r) g), some (.bl true), some (.int (((r + 1 : Nat) : Int) - 1))]) ?_ rfl cl
    rw [List.append_nil]
    have er : (((r + 1 : Nat) : Int) - 1) = (r : Int) := by omega
    refine pq (pa (a0 _ _) rfl) (pq (piF ((a1 _ _).trans (by show some ((((r + 1 : Nat) : Int) == 0), μ) = _; rw [beq_eq_false_iff_ne.mpr (by omega)])) rfl) (pq (pa (d := .int (((r + 1 : Nat) : Int) - 1)) (po (x := .int ((r + 1 : Nat) : Int)) (y := .int 1) rfl rfl rfl) rfl) (pr (peT (ev_test rfl) (pd (ds := [mkD sf sz bg ns, k.toD, .int (((r + 1 : Nat) : Int) - 1)]) rfl ?_)))))
    rw [er]
    exact v_reads h0 h1 K.w K.c (by omega) f
  | re r v =>
    refine callF_pure (g := []) (τ2 := [some (mkD sf sz bg ns), some k.toD, some (actD (.re r v) g), some (.bl false), some (.int (((r + 1 : Nat) : Int) - 1))]) ?_ rfl cl
    rw [List.append_nil]
    obtain ⟨l, hl⟩ := f
    have er : (((r + 1 : Nat) : Int) - 1) = (r : Int) := by omega
    refine pq (pa (a0 _ _) rfl) (pq (piF ((a1 _ _).trans (by show some ((((r + 1 : Nat) : Int) == 0), μ) = _; rw [beq_eq_false_iff_ne.mpr (by omega)])) rfl) (pq (pa (d := .int (((r + 1 : Nat) : Int) - 1)) (po (x := .int ((r + 1 : Nat) : Int)) (y := .int 1) rfl rfl rfl) rfl) (pr (peF (ev_test rfl) (pd (ds := [mkD sf sz bg ns, k.toD, .int (((r + 1 : Nat) : Int) - 1), .int v]) rfl ?_)))))
    rw [er]
    show f_claim_told [mkD sf sz bg ns, clD k.w k.c k.ts, .int (r : Int), .int v] μ = _
    rw [v_told (by omega) hl]
    unfold C3.step
    simp only [hl]
    split <;> rfl
end
end K13
set_option maxHeartbeats 4000000
namespace K13
open PySem L2 Mi Ht
noncomputable def wfG : (Nat → Bool) → List Ev → Prop
  | _, [] => True
  | G, e :: es => G e.hand = !e.beg ∧ wfG (fun h => if h = e.hand then e.beg else G h) es
noncomputable def DG (L : List (Key × D)) (G : Nat → Bool) : Prop := ∀ h : Nat, (valD L (.inl (h : Int)) = none ∧ G h = false) ∨ ∃ g : Int, valD L (.inl (h : Int)) = some (.int g) ∧ G h = true
theorem val_put (L : List (Key × D)) (k k' : Key) (d : D) : valD (putD L k d) k' = if k' = k then some d else valD L k' := by
  unfold putD
  split
  · rename_i h
    induction L with
    | nil => simp at h
    | cons a L ih =>
      unfold valD at ih ⊢
      rw [List.map_cons, List.find?_cons, List.find?_cons]
      by_cases ha : a.1 = k
      · rw [if_pos ha]
        by_cases hk : k' = k
        · subst hk; simp [ha]
        · have : ¬ a.1 = k' := fun z => hk (z.symm.trans ha)
          simp only [this, decide_false, hk, if_false]
          by_cases hany : (L.any fun kv => decide (kv.1 = k)) = true
          · have := ih hany
            simpa [hk] using this
          · have hm : L.map (fun kv => if kv.1 = k then (kv.1, d) else kv) = L := by
              conv => rhs; rw [← List.map_id L]
              refine List.map_congr_left fun b hb => ?_
              rw [if_neg fun z => hany (List.any_eq_true.mpr ⟨b, hb, by simpa using z⟩)]
              rfl
            rw [hm]
      · rw [if_neg ha]
        have hany : (L.any fun kv => decide (kv.1 = k)) = true := by simpa [ha] using h
        have := ih hany
        by_cases hk : a.1 = k'
        · have hne : ¬ k' = k := fun z => ha (hk.trans z)
          simp [hk, hne]
        · simp only [hk, decide_false]
          exact this
  · rename_i h
    unfold valD
    rw [List.find?_append]
    by_cases hk : k' = k
    · subst hk
      have : L.find? (fun kv => decide (kv.1 = k')) = none := by
        rw [List.find?_eq_none]
        intro b hb z
        exact h (List.any_eq_true.mpr ⟨b, hb, z⟩)
      rw [this]
      simp
    · rw [if_neg hk]
      have : ¬ k = k' := fun z => hk z.symm
      cases L.find? (fun kv => decide (kv.1 = k')) <;> simp [this]
theorem val_drop (L : List (Key × D)) (k k' : Key) : valD (dropD L k) k' = if k' = k then none else valD L k' := by
  unfold dropD valD
  induction L with
  | nil => simp
  | cons a L ih =>
    by_cases ha : a.1 = k
    · rw [List.filter_cons_of_neg (by simp [ha]), ih]
      by_cases hk : k' = k
      · simp [hk]
      · have : ¬ a.1 = k' := fun z => hk (z.symm.trans ha)
        simp [hk, List.find?_cons, this]
    · rw [List.filter_cons_of_pos (by simp [ha]), List.find?_cons, List.find?_cons]
      by_cases hk : a.1 = k'
      · have : ¬ k' = k := fun z => ha (hk.trans z)
        simp [hk, this]
      · simp only [hk, decide_false]
        exact ih
theorem put_len (L : List (Key × D)) (k : Key) (d : D) : (putD L k d).length ≤ L.length + 1 := by unfold putD; split <;> simp
theorem drop_len (L : List (Key × D)) (k : Key) : (dropD L k).length ≤ L.length := List.length_filter_le _ _
theorem DG.put {L : List (Key × D)} {G : Nat → Bool} (h : DG L G) (k : Nat) (g : Int) : DG (putD L (.inl (k : Int)) (.int g)) (fun h => if h = k then true else G h) := fun j => by
  rw [val_put]
  by_cases e : j = k
  · subst e; exact .inr ⟨g, by simp, by simp⟩
  · have : ¬ (Sum.inl (j : Int) : Key) = .inl (k : Int) := fun z => e (by have := Sum.inl.inj z; omega)
    simp only [this, if_false, e]
    exact h j
theorem DG.drop {L : List (Key × D)} {G : Nat → Bool} (h : DG L G) (k : Nat) : DG (dropD L (.inl (k : Int))) (fun h => if h = k then false else G h) := fun j => by
  rw [val_drop]
  by_cases e : j = k
  · subst e; exact .inl ⟨by simp, by simp⟩
  · have : ¬ (Sum.inl (j : Int) : Key) = .inl (k : Int) := fun z => e (by have := Sum.inl.inj z; omega)
    simp only [this, if_false, e]
    exact h j
section
variable {μ μ1 μ2 μ3 μ4 μ' : Mh} {τ τ1 : Sl} {x0 d : D} {ds es : List D} {n : Nat}
variable {sf : Bool} {sz bg : Int} {ns : List Str}
theorem g2a {a b : MO} : (μ ++ [a, b])[μ.length]? = some a := by rw [List.getElem?_append_right (Nat.le_refl _)]; simp
theorem g2b {a b : MO} : (μ ++ [a, b])[μ.length + 1]? = some b := by rw [List.getElem?_append_right (by omega)]; simp
theorem s2a {a b c : MO} : (μ ++ [a, b]).set μ.length c = μ ++ [c, b] := by rw [List.set_append_right _ _ (Nat.le_refl _)]; simp
theorem s2b {a b c : MO} : (μ ++ [a, b]).set (μ.length + 1) c = μ ++ [a, c] := by rw [List.set_append_right _ _ (by omega)]; simp
theorem as_dict {L : List (Key × D)} (h : μ[n]? = some (.dK L)) : asDict (.ref n) μ = some ((n, L), μ) := by unfold asDict; dsimp only; rw [h]
theorem l_dinI {L : List (Key × D)} {k : Int} (h : μ[n]? = some (.dK L)) : dinF false (.int k) (.ref n) μ = some (.bl (valD L (.inl k)).isSome, μ) := by
  unfold dinF
  rw [bnd_of (as_dict h)]
  rfl
theorem l_dgetI {L : List (Key × D)} {k : Int} (h : μ[n]? = some (.dK L)) (hv : valD L (.inl k) = some d) : dgetF (.ref n) (.int k) μ = some (d, μ) := by
  unfold dgetF
  rw [bnd_of (as_dict h)]
  show (valD L (.inl k)).map (fun v => (v, μ)) = _
  rw [hv]; rfl
theorem ev_dputI {mo mi mv : Sl → M D} {v : D} {k : Int} {L : List (Key × D)} (h1 : mv τ μ = some (v, μ)) (h2 : mo τ μ = some (.ref n, μ)) (h3 : mi τ μ = some (.int k, μ)) (h : μ[n]? = some (.dK L)) (hl : L.length < sizeLine) : sDput mo mi mv τ μ = some ((.next, τ), μ.set n (.dK (putD L (.inl k) v))) := by
  unfold sDput
  rw [bnd_of h1, bnd_of h2, bnd_of h3, bnd_of (as_dict h)]
  show (if L.length < sizeLine then some ((Fl.next, τ), μ.set n (.dK (putD L (.inl k) v))) else none) = _
  rw [if_pos hl]
theorem ev_dpop {mo mi : Sl → M D} {k : Int} {L : List (Key × D)} (h2 : mo τ μ = some (.ref n, μ)) (h3 : mi τ μ = some (.int k, μ)) (h : μ[n]? = some (.dK L)) (hv : valD L (.inl k) = some d) : mDpop mo mi τ μ = some (d, μ.set n (.dK (dropD L (.inl k)))) := by
  unfold mDpop
  rw [bnd_of h2, bnd_of (show guardD (.ref n) μ = some ((), μ) from by unfold guardD; rw [bnd_of (as_dict h)]; rfl), bnd_of h3]
  unfold dpopF
  rw [bnd_of (as_dict h)]
  show (valD L (.inl k)).map (fun v => (v, μ.set n (MO.dK (dropD L (.inl k))))) = _
  rw [hv]; rfl
theorem l_guardAt (h : μ[n]? = some (.lst ds)) : guardL (.ref n) μ = some ((), μ) := by
  unfold guardL
  rw [bnd_of (show asList (.ref n) μ = some (ds, μ) from by unfold asList; dsimp only; rw [h])]
  rfl
theorem l_appAt (h : μ[n]? = some (.lst ds)) (hl : ds.length < sizeLine) : appF (.ref n) [d] μ = some (.non, μ.set n (.lst (ds ++ [d]))) := by
  show updL n _ μ = _
  unfold updL
  rw [h]
  show Option.map _ (if ds.length < sizeLine then some (D.non, ds ++ [d]) else none) = _
  rw [if_pos hl]
  rfl
theorem find_nm : ∀ {ns : List Str} {h : Nat}, ns.Nodup → h < ns.length → (ns.map V.str).findIdx? (fun z => eqV z (V.str (nm ns h))) = some h
  | [], h, _, hh => absurd hh (by simp)
  | n :: ns, 0, _, _ => by
    rw [List.map_cons, List.findIdx?_cons]
    show (if (n == n) = true then some 0 else _) = _
    simp
  | n :: ns, h + 1, nd, hh => by
    obtain ⟨h1, h2⟩ := List.nodup_cons.mp nd
    have hh' : h < ns.length := by simpa using hh
    have e : nm (n :: ns) (h + 1) = nm ns h := by simp [nm]
    rw [List.map_cons, List.findIdx?_cons, e]
    have : eqV (V.str n) (V.str (nm ns h)) = false := by
      show (n == nm ns h) = false
      exact beq_eq_false_iff_ne.mpr fun z => h1 (z ▸ Ns.mem hh')
    rw [this, find_nm h2 hh']
    rfl
theorem l_idx (N : Ns ns) {h : Nat} (hh : h < ns.length) : idxLF (.lst (ns.map D.str)) [.str (nm ns h)] μ = some (.int h, μ) := by
  unfold idxLF
  rw [bnd_of (show guardL (.lst (ns.map D.str)) μ = some ((), μ) from rfl)]
  show bnd (asSeq1 (.lst (ns.map D.str))) (fun ds => fun μ => match flatD (.str (nm ns h)), flatDs ds with
    | some y, some xs => (xs.findIdx? fun z => eqV z y).map fun (j : Nat) => (D.int (j : Int), μ)
    | _, _ => none) μ = _
  rw [bnd_of (show asSeq1 (.lst (ns.map D.str)) μ = some (ns.map D.str, μ) from rfl)]
  simp only [flat_strs]
  show Option.map _ ((ns.map V.str).findIdx? fun z => eqV z (V.str (nm ns h))) = _
  rw [find_nm N.nd hh]
  rfl
noncomputable abbrev actB : Sl → M (Fl × Sl) := (sSeq (sIf (mNot (mTest (mDisp f_is_event (aCons (mSlot 7) (aCons (mSlot 2) (aCons (mOp pyIx (mSlot 0) (mC (.int 1))) aNil)))))) sNever sNil)
    (sSeq (sAsg (mMethL idxLF (mSlot 2) (aCons (mOp pyIx (mSlot 7) (mC (.int 1))) aNil)) (bName 8))
    (sSeq (sIf (mTest (mOp pyEq (mOp pyEq (mOp pyIx (mSlot 7) (mC (.int 0))) (mC (.str "begin"))) (mOp (dinF false) (mSlot 8) (mSlot 3)))) sNever sNil)
    (sSeq (sIf (mTest (mOp pyEq (mOp pyIx (mSlot 7) (mC (.int 0))) (mC (.str "begin")))) (sSeq (sDput (mSlot 3) (mSlot 8) (mSlot 5))
    (sAsg (mOp pyAddI (mSlot 5) (mC (.int 1))) (bName 5))) sNil)
    (sSeq (sExpr (mMethL appF (mSlot 4) (aCons (mDisp newT (aCons (mOp pyIx (mSlot 7) (mC (.int 0))) (aCons (mSlot 8) (aCons (mIf (mTest (mOp pyEq (mDisp lenF (aCons (mSlot 7) aNil)) (mC (.int 3)))) (mOp pyIx (mSlot 7) (mC (.int 2))) (mC d_NO_WORTH)) (aCons (mOp dgetF (mSlot 3) (mSlot 8)) aNil))))) aNil)))
    (sIf (mTest (mOp pyEq (mOp pyIx (mSlot 7) (mC (.int 0))) (mC (.str "end")))) (sExpr (mDpop (mSlot 3) (mSlot 8))) sNil))))))
theorem ev_forCons {bf : D → Sl → M Sl} {m1 : Sl → M (Fl × Sl)} {x : D} {τ2 : Sl} {r : Fl × Sl} (h1 : bf x τ μ = some (τ1, μ1)) (h2 : m1 τ1 μ1 = some ((.next, τ2), μ2)) (h3 : forGo bf m1 ds τ2 μ2 = some (r, μ3)) : forGo bf m1 (x :: ds) τ μ = some (r, μ3) := by
  show bnd (bf x τ) _ μ = _
  rw [bnd_of h1, bnd_of h2]
  exact h3
theorem act_in {e : Ev} {S : Sl} {M : Mh} {o : D} {g : Int} (he : e.Ok ns sz) (h7 : S[7]? = some (some (evD ns e))) (h8 : S[8]? = some (some (.int e.hand))) (h3 : S[3]? = some (some o)) (hg : dgetF o (.int e.hand) M = some (.int g, M)) :
    mDisp newT (aCons (mOp pyIx (mSlot 7) (mC (.int 0))) (aCons (mSlot 8) (aCons (mIf (mTest (mOp pyEq (mDisp lenF (aCons (mSlot 7) aNil)) (mC (.int 3)))) (mOp pyIx (mSlot 7) (mC (.int 2))) (mC d_NO_WORTH)) (aCons (mOp dgetF (mSlot 3) (mSlot 8)) aNil)))) S M = some (actD e g, M) := by
  have hz := sz24
  have s7 := ev_slot (μ := M) h7
  have len := evL_len (ns := ns) (e := e)
  have tl : mTest (mOp pyEq (mDisp lenF (aCons (mSlot 7) aNil)) (mC (.int 3))) S M = some (e.val.isSome, M) := by
    refine ev_test (po (x := .int ((evL ns e).length : Nat)) (y := .int 3) (pd (ds := [.tup (evL ns e)]) (pc s7 rfl) rfl) rfl ?_)
    rw [l_eqI, len]
    cases e <;> rfl
  have iv : mIf (mTest (mOp pyEq (mDisp lenF (aCons (mSlot 7) aNil)) (mC (.int 3)))) (mOp pyIx (mSlot 7) (mC (.int 2))) (mC d_NO_WORTH) S M = some (.int (e.val.getD (-1)), M) := by
    cases hv : e.val with
    | none => rw [hv] at tl; exact peF tl rfl
    | some v =>
      rw [hv] at tl
      refine peT tl (po (x := evD ns e) (y := .int 2) s7 rfl ?_)
      cases e <;> cases hv <;> rfl
  exact pd (ds := [.str (bS e.beg), .int e.hand, .int (e.val.getD (-1)), .int g]) (pc (po (x := evD ns e) (y := .int 0) s7 rfl (by cases e <;> rfl)) (pc (ev_slot h8) (pc iv (pc (po (x := o) (y := .int e.hand) (ev_slot h3) (ev_slot h8) hg) rfl)))) (newT_eq (by simp; omega))
theorem acts_go (N : Ns ns) {ev : List D} : ∀ (es : List Ev) (k : Nat) (L : List (Key × D)) (G : Nat → Bool) (as : List D) (b : Int) (o6 o7 o8 : Option D), (∀ e ∈ es, e.Ok ns sz) → wfG G es → DG L G → L.length + es.length ≤ 1000 → as.length + es.length ≤ 1000 →
    ∃ (gs : List Int) (L' : List (Key × D)) (b' : Int) (o6' o7' o8' : Option D), gs.length = es.length ∧
      forGo (bTup [6, 7]) actB (enumD k (es.map (evD ns))) [some (mkD sf sz bg ns), some (.lst ev), some (.lst (ns.map D.str)), some (.ref μ.length), some (.ref (μ.length + 1)), some (.int b), o6, o7, o8] (μ ++ [.dK L, .lst as]) =
        some ((.next, [some (mkD sf sz bg ns), some (.lst ev), some (.lst (ns.map D.str)), some (.ref μ.length), some (.ref (μ.length + 1)), some (.int b'), o6', o7', o8']), μ ++ [.dK L', .lst (as ++ (es.zip gs).map fun p => actD p.1 p.2)])
  | [], k, L, G, as, b, o6, o7, o8, _, _, _, _, _ => ⟨[], L, b, o6, o7, o8, rfl, by simp [enumD]; rfl⟩
  | e :: es, k, L, G, as, b, o6, o7, o8, ok, wf, dg, hL, hA => by
    have hz := sz24
    have eo := ok e (by simp)
    obtain ⟨w1, w2⟩ := wf
    rw [List.length_cons] at hL hA
    have t1 : ∀ (S : Sl) (M : Mh), S[7]? = some (some (evD ns e)) → S[2]? = some (some (.lst (ns.map D.str))) → S[0]? = some (some (mkD sf sz bg ns)) → sIf (mNot (mTest (mDisp f_is_event (aCons (mSlot 7) (aCons (mSlot 2) (aCons (mOp pyIx (mSlot 0) (mC (.int 1))) aNil)))))) sNever sNil S M = some ((.next, S), M) := fun S M h7 h2 h0 =>
      piF (ev_not (b := true) (ev_test (pd (ds := [evD ns e, .lst (ns.map D.str), .int sz]) (pc (ev_slot h7) (pc (ev_slot h2) (pc (po (x := mkD sf sz bg ns) (y := .int 1) (ev_slot h0) rfl rfl) rfl))) (v_event N eo)))) rfl
    have t2 : ∀ (S : Sl) (M : Mh), S[7]? = some (some (evD ns e)) → S[2]? = some (some (.lst (ns.map D.str))) → sAsg (mMethL idxLF (mSlot 2) (aCons (mOp pyIx (mSlot 7) (mC (.int 1))) aNil)) (bName 8) S M = some ((.next, S.set 8 (some (.int e.hand))), M) := fun S M h7 h2 =>
      pa (ev_meth (x := .lst (ns.map D.str)) (μ1 := M) (μ2 := M) (μ3 := M) (ds := [.str (nm ns e.hand)]) (ev_slot h2) rfl (pc (po (x := evD ns e) (y := .int 1) (ev_slot h7) rfl (by cases e <;> rfl)) rfl) (l_idx N eo.h)) rfl
    have tb : ∀ (S : Sl) (M : Mh), S[7]? = some (some (evD ns e)) → mOp pyEq (mOp pyIx (mSlot 7) (mC (.int 0))) (mC (.str "begin")) S M = some (.bl e.beg, M) := fun S M h7 => po (x := .str (bS e.beg)) (y := .str "begin") (po (x := evD ns e) (y := .int 0) (ev_slot h7) rfl (by cases e <;> rfl)) rfl l_beg
    have te : ∀ (S : Sl) (M : Mh), S[7]? = some (some (evD ns e)) → mTest (mOp pyEq (mOp pyIx (mSlot 7) (mC (.int 0))) (mC (.str "end"))) S M = some (!e.beg, M) := fun S M h7 => ev_test (po (x := .str (bS e.beg)) (y := .str "end") (po (x := evD ns e) (y := .int 0) (ev_slot h7) rfl (by cases e <;> rfl)) rfl l_end)
    have t3 : ∀ (S : Sl) (M : Mh) (L : List (Key × D)), S[7]? = some (some (evD ns e)) → S[8]? = some (some (.int e.hand)) → S[3]? = some (some (.ref μ.length)) → M[μ.length]? = some (.dK L) → DG L G → sIf (mTest (mOp pyEq (mOp pyEq (mOp pyIx (mSlot 7) (mC (.int 0))) (mC (.str "begin"))) (mOp (dinF false) (mSlot 8) (mSlot 3)))) sNever sNil S M = some ((.next, S), M) := fun S M L h7 h8 h3 hM dg => by
      have hv : (valD L (.inl (e.hand : Int))).isSome = !e.beg := by
        rcases dg e.hand with ⟨z1, z2⟩ | ⟨g, z1, z2⟩
        · rw [z1, ← w1, z2]; rfl
        · rw [z1, ← w1, z2]; rfl
      refine piF (ev_test (po (x := .bl e.beg) (y := .bl (!e.beg)) (tb S M h7) (po (x := .int e.hand) (y := .ref μ.length) (ev_slot h8) (ev_slot h3) (by rw [l_dinI hM, hv])) ?_)) rfl
      rw [l_eqB]
      cases e.beg <;> rfl
    cases hb : e.beg with
    | true =>
      have dg1 := dg.put e.hand b
      rw [hb] at w2
      obtain ⟨gs, L', b', o6', o7', o8', hl, go⟩ := acts_go N (ev := ev) es (k + 1) (putD L (.inl (e.hand : Int)) (.int b)) (fun h => if h = e.hand then true else G h) (as ++ [actD e b]) (b + 1) (some (.int k)) (some (evD ns e)) (some (.int e.hand)) (fun x hx => ok x (by simp [hx])) w2 dg1 (by have := put_len L (.inl (e.hand : Int)) (.int b); omega) (by simp; omega)
      refine ⟨b :: gs, L', b', o6', o7', o8', by simp [hl], ?_⟩
      have ez : as ++ List.map (fun p : Ev × Int => actD p.1 p.2) ((e, b) :: es.zip gs) = as ++ [actD e b] ++ (es.zip gs).map (fun p => actD p.1 p.2) := by simp
      rw [List.zip_cons_cons, ez]
      refine ev_forCons (x := .tup [.int k, evD ns e]) (τ1 := [some (mkD sf sz bg ns), some (.lst ev), some (.lst (ns.map D.str)), some (.ref μ.length), some (.ref (μ.length + 1)), some (.int b), some (.int k), some (evD ns e), o8]) (μ1 := μ ++ [.dK L, .lst as]) rfl ?_ go
      refine ev_seq (t1 _ _ rfl rfl rfl) (ev_seq (t2 _ _ rfl rfl) (ev_seq (t3 _ _ L rfl rfl rfl g2a dg) (ev_seq (τ1 := [some (mkD sf sz bg ns), some (.lst ev), some (.lst (ns.map D.str)), some (.ref μ.length), some (.ref (μ.length + 1)), some (.int (b + 1)), some (.int k), some (evD ns e), some (.int e.hand)]) (μ1 := μ ++ [.dK (putD L (.inl (e.hand : Int)) (.int b)), .lst as]) (ev_ifT (μ1 := μ ++ [.dK L, .lst as]) (ev_test ((tb _ _ rfl).trans (by rw [hb]))) (ev_seq (τ1 := [some (mkD sf sz bg ns), some (.lst ev), some (.lst (ns.map D.str)), some (.ref μ.length), some (.ref (μ.length + 1)), some (.int b), some (.int k), some (evD ns e), some (.int e.hand)]) (μ1 := μ ++ [.dK (putD L (.inl (e.hand : Int)) (.int b)), .lst as]) ?_ (pa (po (x := .int b) (y := .int 1) rfl rfl rfl) rfl))) (ev_seq (μ1 := μ ++ [.dK (putD L (.inl (e.hand : Int)) (.int b)), .lst (as ++ [actD e b])]) (ev_expr (d := .non) (ev_meth (x := .ref (μ.length + 1)) (ds := [actD e b]) (μ1 := μ ++ [.dK (putD L (.inl (e.hand : Int)) (.int b)), .lst as]) (μ2 := μ ++ [.dK (putD L (.inl (e.hand : Int)) (.int b)), .lst as]) (μ3 := μ ++ [.dK (putD L (.inl (e.hand : Int)) (.int b)), .lst as]) rfl (l_guardAt g2b) (pc (act_in eo rfl rfl rfl (l_dgetI g2a (by rw [val_put, if_pos rfl]))) rfl) ?_)) (ev_ifF (μ1 := μ ++ [.dK (putD L (.inl (e.hand : Int)) (.int b)), .lst (as ++ [actD e b])]) ((te _ _ rfl).trans (by rw [hb]; rfl)) rfl)))))
      · have := ev_dputI (τ := [some (mkD sf sz bg ns), some (.lst ev), some (.lst (ns.map D.str)), some (.ref μ.length), some (.ref (μ.length + 1)), some (.int b), some (.int k), some (evD ns e), some (.int e.hand)]) (μ := μ ++ [.dK L, .lst as]) (n := μ.length) (mo := mSlot 3) (mi := mSlot 8) (mv := mSlot 5) (v := .int b) (k := (e.hand : Int)) rfl rfl rfl g2a (by omega)
        rw [s2a] at this
        exact this
      · rw [l_appAt g2b (by omega), s2b]
    | false =>
      have dg1 := dg.drop e.hand
      rw [hb] at w1 w2
      obtain ⟨g, hg⟩ : ∃ g : Int, valD L (.inl (e.hand : Int)) = some (.int g) := by
        rcases dg e.hand with ⟨z1, z2⟩ | ⟨g, z1, z2⟩
        · rw [w1] at z2; cases z2
        · exact ⟨g, z1⟩
      obtain ⟨gs, L', b', o6', o7', o8', hl, go⟩ := acts_go N (ev := ev) es (k + 1) (dropD L (.inl (e.hand : Int))) (fun h => if h = e.hand then false else G h) (as ++ [actD e g]) b (some (.int k)) (some (evD ns e)) (some (.int e.hand)) (fun x hx => ok x (by simp [hx])) w2 dg1 (by have := drop_len L (.inl (e.hand : Int)); omega) (by simp; omega)
      refine ⟨g :: gs, L', b', o6', o7', o8', by simp [hl], ?_⟩
      have ez : as ++ List.map (fun p : Ev × Int => actD p.1 p.2) ((e, g) :: es.zip gs) = as ++ [actD e g] ++ (es.zip gs).map (fun p => actD p.1 p.2) := by simp
      rw [List.zip_cons_cons, ez]
      refine ev_forCons (x := .tup [.int k, evD ns e]) (τ1 := [some (mkD sf sz bg ns), some (.lst ev), some (.lst (ns.map D.str)), some (.ref μ.length), some (.ref (μ.length + 1)), some (.int b), some (.int k), some (evD ns e), o8]) (μ1 := μ ++ [.dK L, .lst as]) rfl ?_ go
      refine ev_seq (t1 _ _ rfl rfl rfl) (ev_seq (t2 _ _ rfl rfl) (ev_seq (t3 _ _ L rfl rfl rfl g2a dg) (ev_seq (τ1 := [some (mkD sf sz bg ns), some (.lst ev), some (.lst (ns.map D.str)), some (.ref μ.length), some (.ref (μ.length + 1)), some (.int b), some (.int k), some (evD ns e), some (.int e.hand)]) (μ1 := μ ++ [.dK L, .lst as]) (ev_ifF (μ1 := μ ++ [.dK L, .lst as]) (ev_test ((tb _ _ rfl).trans (by rw [hb]))) rfl) (ev_seq (μ1 := μ ++ [.dK L, .lst (as ++ [actD e g])]) (ev_expr (d := .non) (ev_meth (x := .ref (μ.length + 1)) (ds := [actD e g]) (μ1 := μ ++ [.dK L, .lst as]) (μ2 := μ ++ [.dK L, .lst as]) (μ3 := μ ++ [.dK L, .lst as]) rfl (l_guardAt g2b) (pc (act_in eo rfl rfl rfl (l_dgetI g2a hg)) rfl) ?_)) (ev_ifT (μ1 := μ ++ [.dK L, .lst (as ++ [actD e g])]) ((te _ _ rfl).trans (by rw [hb]; rfl)) (ev_expr (d := .int g) ?_))))))
      · rw [l_appAt g2b (by omega), s2b]
      · have := ev_dpop (τ := [some (mkD sf sz bg ns), some (.lst ev), some (.lst (ns.map D.str)), some (.ref μ.length), some (.ref (μ.length + 1)), some (.int b), some (.int k), some (evD ns e), some (.int e.hand)]) (μ := μ ++ [.dK L, .lst (as ++ [actD e g])]) (n := μ.length) (mo := mSlot 3) (mi := mSlot 8) (k := (e.hand : Int)) rfl rfl g2a hg
        rw [s2a] at this
        exact this
end
end K13
set_option maxHeartbeats 4000000
namespace K13
open PySem L2 Mi Ht
noncomputable def judgeP (sf : Bool) (sz : Int) : C3 → List Ev → Bool
  | _, [] => true
  | k, e :: es => match k.step sf sz e with
    | none => false
    | some k' => judgeP sf sz k' es
noncomputable def fitsAll (sf : Bool) (sz : Int) (m : Nat) : C3 → List Ev → Prop
  | _, [] => True
  | k, e :: es => k.fits e ∧ ∀ k', k.step sf sz e = some k' → k'.Ok m ∧ fitsAll sf sz m k' es
section
variable {μ μ1 μ2 μ3 μ4 μ' : Mh} {τ τ1 : Sl} {x0 d : D} {ds : List D} {n : Nat}
variable {sf : Bool} {sz bg : Int} {ns : List Str}
theorem cl_act {k : Nat} (p : Ev × Int) : Cl k (actD p.1 p.2) := by simp [actD, Cl, ClL]
theorem names_comp {S : Sl} (h : S[0]? = some (some (mkD sf sz bg ns))) (hl : ns.length ≤ 1000) : mComp 1 [] (mSrc (mOp pyIx (mSlot 0) (mC (.int 4)))) (bName 0) mTrue (mOp pyIx (mSlot 0) (mC (.int 0))) newL S μ = some (.lst (ns.map D.str), μ) := by
  have hz := sz24
  refine ev_comp (ds := ns.map hdD) (es := ns.map D.str) (src_tup (po (x := mkD sf sz bg ns) (y := .int 4) (ev_slot h) rfl rfl)) (by rw [List.length_map]; omega) ?_ (newL_eq (by rw [List.length_map]; omega))
  have := comp_f (μ := μ) (mc := mTrue) (me := mOp pyIx (mSlot 0) (mC (.int 0))) (τ0 := [none]) (f := hdD) (F := D.str) (p := fun _ => true) (xs := ns) (ys := []) (fun _ _ => rfl) (fun t _ _ => po (x := hdD t) (y := .int 0) rfl rfl rfl)
  rw [all_true, List.nil_append] at this
  exact this
theorem v_acts (N : Ns ns) {es : List Ev} (ok : ∀ e ∈ es, e.Ok ns sz) (wf : wfG (fun _ => false) es) (hl : es.length ≤ 100) : ∃ gs : List Int, gs.length = es.length ∧ f_acts_of [mkD sf sz bg ns, .lst (es.map (evD ns))] μ = some (.lst ((es.zip gs).map fun p => actD p.1 p.2), μ) := by
  have hz := sz24
  have hhi := N.hi
  obtain ⟨gs, L', b', o6, o7, o8, hgs, go⟩ := acts_go (μ := μ) (sf := sf) (sz := sz) (bg := bg) N (ev := es.map (evD ns)) es 0 [] (fun _ => false) [] 0 none none none ok wf (fun h => .inl ⟨rfl, rfl⟩) (by simp; omega) (by simp; omega)
  refine ⟨gs, hgs, callF_frz (k := μ.length + 1) (τ2 := [some (mkD sf sz bg ns), some (.lst (es.map (evD ns))), some (.lst (ns.map D.str)), some (.ref μ.length), some (.ref (μ.length + 1)), some (.int b'), o6, o7, o8]) (g := [.dK L', .lst ((es.zip gs).map fun p => actD p.1 p.2)]) ?_ rfl (by omega) g2b (clL_map (fun p => cl_act p) _)⟩
  rw [List.nil_append] at go
  refine ev_seq (piF (ev_not (b := true) (ev_test (pd (ds := [.lst (es.map (evD ns)), .ty "list"]) rfl ?_))) rfl) (ev_seq (τ1 := [some (mkD sf sz bg ns), some (.lst (es.map (evD ns))), some (.lst (ns.map D.str)), none, none, none, none, none, none]) (pa (names_comp rfl (by omega)) rfl) (ev_seq (τ1 := [some (mkD sf sz bg ns), some (.lst (es.map (evD ns))), some (.lst (ns.map D.str)), some (.ref μ.length), none, none, none, none, none]) (μ1 := μ ++ [.dK []]) rfl (ev_seq (τ1 := [some (mkD sf sz bg ns), some (.lst (es.map (evD ns))), some (.lst (ns.map D.str)), some (.ref μ.length), some (.ref (μ.length + 1)), none, none, none, none]) (μ1 := μ ++ [.dK [], .lst []]) ?_ (ev_seq (τ1 := [some (mkD sf sz bg ns), some (.lst (es.map (evD ns))), some (.lst (ns.map D.str)), some (.ref μ.length), some (.ref (μ.length + 1)), some (.int 0), none, none, none]) (μ1 := μ ++ [.dK [], .lst []]) rfl (ev_seq (ev_for (ds := enumD 0 (es.map (evD ns))) (μ1 := μ ++ [.dK [], .lst []]) rfl go) (ev_ret (μ1 := μ ++ [.dK L', .lst ((es.zip gs).map fun p => actD p.1 p.2)]) rfl))))))
  · show (isSub "list" "list").map (fun b => (D.bl b, μ)) = _
    rw [show isSub "list" "list" = some true from by decide]
    rfl
  · refine ev_asg (d := .ref (μ.length + 1)) (μ1 := μ ++ [.dK [], .lst []]) (ev_disp (ds := []) (μ1 := μ ++ [.dK []]) rfl ?_) rfl
    show newB [] (μ ++ [.dK []]) = _
    unfold newB
    rw [bnd_of (show lim ([] : List D).length (μ ++ [.dK []]) = some ((), μ ++ [.dK []]) from by unfold lim; rw [if_pos (by simp)])]
    simp
theorem ev_forRet {bf : D → Sl → M Sl} {m1 : Sl → M (Fl × Sl)} {x : D} {τ2 : Sl} (h1 : bf x τ μ = some (τ1, μ1)) (h2 : m1 τ1 μ1 = some ((.rt d, τ2), μ2)) : forGo bf m1 (x :: ds) τ μ = some ((.rt d, τ2), μ2) := by
  show bnd (bf x τ) _ μ = _
  rw [bnd_of h1, bnd_of h2]
  rfl
noncomputable abbrev judB : Sl → M (Fl × Sl) := (sSeq (sAsg (mDisp f_claim_behind (aCons (mSlot 0) (aCons (mSlot 2) (aCons (mSlot 3) aNil)))) (bName 2))
    (sIf (mTest (mOp (pyIs false) (mSlot 2) (mC .non))) (sRet (mC (.bl false))) sNil))
theorem jud_go {ev : D} {m : Nat} (h0 : 0 ≤ sz) (h1 : sz ≤ 10) : ∀ (ps : List (Ev × Int)) (k : C3) (o3 : Option D), k.Ok m → fitsAll sf sz m k (ps.map (·.1)) → ∃ (o2' o3' : Option D),
    forGo (bName 3) judB (ps.map fun p => actD p.1 p.2) [some (mkD sf sz bg ns), some ev, some k.toD, o3] μ = some ((if judgeP sf sz k (ps.map (·.1)) then .next else .rt (.bl false), [some (mkD sf sz bg ns), some ev, o2', o3']), μ)
  | [], k, o3, _, _ => ⟨some k.toD, o3, rfl⟩
  | p :: ps, k, o3, K, F => by
    obtain ⟨f1, f2⟩ := F
    have vb := v_behind (μ := μ) (sf := sf) (bg := bg) (ns := ns) (g := p.2) h0 h1 K f1
    have a1 : sAsg (mDisp f_claim_behind (aCons (mSlot 0) (aCons (mSlot 2) (aCons (mSlot 3) aNil)))) (bName 2) [some (mkD sf sz bg ns), some ev, some k.toD, some (actD p.1 p.2)] μ = some ((.next, [some (mkD sf sz bg ns), some ev, some (oD (k.step sf sz p.1)), some (actD p.1 p.2)]), μ) := pa (pd (ds := [mkD sf sz bg ns, k.toD, actD p.1 p.2]) rfl vb) rfl
    cases hs : k.step sf sz p.1 with
    | none =>
      rw [hs] at a1
      refine ⟨some .non, some (actD p.1 p.2), ?_⟩
      have ej : judgeP sf sz k ((p :: ps).map (·.1)) = false := by
        show (match k.step sf sz p.1 with | none => false | some k' => judgeP sf sz k' (ps.map (·.1))) = false
        rw [hs]
      rw [ej]
      exact ev_forRet (τ1 := [some (mkD sf sz bg ns), some ev, some k.toD, some (actD p.1 p.2)]) (μ1 := μ) rfl (pq a1 (piT (ev_test (po (x := .non) (y := .non) rfl rfl rfl)) (pr rfl)))
    | some k' =>
      rw [hs] at a1
      obtain ⟨K', F'⟩ := f2 k' hs
      obtain ⟨o2', o3', go⟩ := jud_go h0 h1 ps k' (some (actD p.1 p.2)) K' F'
      refine ⟨o2', o3', ?_⟩
      have ej : judgeP sf sz k ((p :: ps).map (·.1)) = judgeP sf sz k' (ps.map (·.1)) := by
        show (match k.step sf sz p.1 with | none => false | some k' => judgeP sf sz k' (ps.map (·.1))) = judgeP sf sz k' (ps.map (·.1))
        rw [hs]
      rw [ej]
      exact ev_forCons (τ1 := [some (mkD sf sz bg ns), some ev, some k.toD, some (actD p.1 p.2)]) (μ1 := μ) rfl (pq a1 (piF (ev_test (po (x := k'.toD) (y := .non) rfl rfl rfl)) rfl)) go
noncomputable def C3.start (bg : Int) (n : Nat) : C3 := ⟨bg, -1, List.replicate n none⟩
theorem start_ok {n : Nat} (hn : n ≤ 3) (h0 : 0 ≤ bg) (h1 : bg < 10) : (C3.start bg n).Ok n := ⟨⟨h0, h1⟩, fun z => absurd rfl z, fun l hl => (by
    have hl : some l ∈ List.replicate n (none : Option (List Int)) := hl
    have := List.eq_of_mem_replicate hl
    cases this), (by simp [C3.start]), hn⟩
theorem zip_fst : ∀ {es : List Ev} {gs : List Int}, gs.length = es.length → (es.zip gs).map (·.1) = es
  | [], [], _ => rfl
  | e :: es, g :: gs, h => by rw [List.zip_cons_cons, List.map_cons, zip_fst (by simpa using h)]
  | [], _ :: _, h => by simp at h
  | _ :: _, [], h => by simp at h
theorem v_judged (N : Ns ns) {es : List Ev} (h0 : 0 ≤ sz) (h1 : sz ≤ 10) (b0 : 0 ≤ bg) (b1 : bg < 10) (ok : ∀ e ∈ es, e.Ok ns sz) (wf : wfG (fun _ => false) es) (hl : es.length ≤ 100) (F : fitsAll sf sz (ns.length - 1) (C3.start bg (ns.length - 1)) es) :
    f_judged [mkD sf sz bg ns, .lst (es.map (evD ns))] μ = some (.bl (judgeP sf sz (C3.start bg (ns.length - 1)) es), μ) := by
  have hhi := N.hi
  have hlo := N.lo
  obtain ⟨gs, hg, ea⟩ := v_acts (μ := μ) (sf := sf) (bg := bg) N ok wf hl
  obtain ⟨o2, o3, go⟩ := jud_go (μ := μ) (sf := sf) (bg := bg) (ns := ns) (ev := .lst (es.map (evD ns))) h0 h1 (es.zip gs) (C3.start bg (ns.length - 1)) none (start_ok (by omega) b0 b1) (by rw [zip_fst hg]; exact F)
  rw [zip_fst hg] at go
  refine callF_pure (g := []) (τ2 := [some (mkD sf sz bg ns), some (.lst (es.map (evD ns))), o2, o3]) ?_ rfl (by unfold Cl; trivial)
  rw [List.append_nil]
  refine pq (pa (d := (C3.start bg (ns.length - 1)).toD) (pd (ds := [mkD sf sz bg ns]) rfl (v_begun (by omega) hlo)) rfl) ?_
  have fo : sFor (mSrc (mDisp f_acts_of (aCons (mSlot 0) (aCons (mSlot 1) aNil)))) (bName 3) judB [some (mkD sf sz bg ns), some (.lst (es.map (evD ns))), some (C3.start bg (ns.length - 1)).toD, none] μ = _ := ev_for (src_lst (pd (ds := [mkD sf sz bg ns, .lst (es.map (evD ns))]) rfl ea)) go
  cases hj : judgeP sf sz (C3.start bg (ns.length - 1)) es with
  | true => rw [hj] at fo; exact pq fo (pr rfl)
  | false => rw [hj] at fo; exact ev_seqR fo
end
end K13
set_option maxHeartbeats 4000000
namespace K13
open PySem L2 Mi Ht
noncomputable def endL (es : List Ev) (k : Nat) : List Nat := ((List.range (es.length - k)).filter fun j => decide (es[k + j]? = some .we)).map (k + ·)
noncomputable def condE (es : List Ev) (b k : Nat) : Bool := match endL es k with
  | [] => false
  | j :: _ => decide (j < b)
noncomputable def scanS (c : Nat → Bool) (k : Nat) (e : Ev) (p : Int × List Int) : Int × List Int := match e with
  | .wb v => if c k = true then (v, p.2) else (p.1, p.2 ++ [v])
  | _ => p
noncomputable def scanG (c : Nat → Bool) : Nat → List Ev → Int × List Int → Int × List Int
  | _, [], p => p
  | k, e :: es, p => scanG c (k + 1) es (scanS c k e p)
noncomputable def toldP (sf : Bool) (sz : Int) (p : Int × List Int) : List Int := if (sf && !p.2.isEmpty) = true then nats sz.toNat else srt (p.1 :: p.2)
noncomputable def isB (es : List Ev) (h j : Nat) : Bool := match es[j]? with
  | some e => e.beg && e.hand == h
  | none => false
structure First (es : List Ev) (at_ r b : Nat) : Prop where
  lt : b < at_
  is : es[b]? = some (.rb r)
  mx : ∀ j, b < j → j < at_ → es[j]? ≠ some (.rb r)
section
variable {μ μ1 μ2 μ3 μ4 μ' : Mh} {τ τ1 : Sl} {x0 d a c : D} {ds : List D} {n : Nat}
variable {sf : Bool} {sz bg : Int} {ns : List Str}
theorem l_eqP {neg : Bool} {p q : PyData} (e1 : toP1 μ a = some p) (e2 : toP1 μ c = some q) (s1 : SeqAt.shaped p = true) (s2 : SeqAt.shaped q = true) : pyEqB neg a c μ = some (.bl (if neg then !PyData.eqv p q else PyData.eqv p q), μ) := by
  unfold pyEqB
  rw [e1, e2]
  exact if_pos ⟨s1, s2⟩
theorem sh2 {x y : Str} (h1 : PyData.strOk x = true) (h2 : PyData.strOk y = true) : SeqAt.shaped (.tuple [.str x, .str y]) = true := by
  show ((PyData.strOk x && (PyData.strOk y && true)) && decide (max 0 (max 0 0) + 1 ≤ 64)) = true
  rw [h1, h2]; rfl
theorem sh3 {x y : Str} {i : Int} (h1 : PyData.strOk x = true) (h2 : PyData.strOk y = true) : SeqAt.shaped (.tuple [.str x, .str y, .int i]) = true := by
  show ((PyData.strOk x && (PyData.strOk y && (true && true))) && decide (max 0 (max 0 (max 0 0)) + 1 ≤ 64)) = true
  rw [h1, h2]; rfl
theorem l_eq2 {x y x' y' : Str} (h1 : PyData.strOk x = true) (h2 : PyData.strOk y = true) (h3 : PyData.strOk x' = true) (h4 : PyData.strOk y' = true) : pyEq (.tup [.str x, .str y]) (.tup [.str x', .str y']) μ = some (.bl (x == x' && y == y'), μ) := by
  have := l_eqP (μ := μ) (neg := false) (a := .tup [.str x, .str y]) (c := .tup [.str x', .str y']) rfl rfl (sh2 h1 h2) (sh2 h3 h4)
  show pyEqB false _ _ μ = _
  rw [this]
  show some (D.bl ((x == x') && ((y == y') && true)), μ) = _
  rw [Bool.and_true]
theorem nm_beq (N : Ns ns) {h k : Nat} (hh : h < ns.length) (hk : k < ns.length) : (nm ns h == nm ns k) = (h == k) := by
  by_cases e : h = k
  · subst e; simp
  · rw [beq_eq_false_iff_ne.mpr e, beq_eq_false_iff_ne.mpr fun z => e (N.inj hh hk z)]
theorem l_head (N : Ns ns) {e : Ev} {h : Nat} (he : e.hand < ns.length) (hh : h < ns.length) : pyEq (.tup [.str (bS e.beg), .str (nm ns e.hand)]) (.tup [.str "begin", .str (nm ns h)]) μ = some (.bl (e.beg && e.hand == h), μ) := by
  rw [l_eq2 (bS_ok _) (N.nok he) (by decide +kernel) (N.nok hh), bS_beg, nm_beq N he hh]
theorem l_cut2 {e : Ev} : pySl2 none (some 2) (evD ns e) μ = some (.tup [.str (bS e.beg), .str (nm ns e.hand)], μ) := by cases e <;> rfl
theorem l_isEnd (N : Ns ns) {e : Ev} (he : e.hand < ns.length) : pyEq (evD ns e) (.tup [.str "end", .str (nm ns 0)]) μ = some (.bl (decide (e = .we)), μ) := by
  have h0 : 0 < ns.length := by have := N.lo; omega
  have hs : SeqAt.shaped (.tuple [.str "end", .str (nm ns 0)]) = true := sh2 (by decide +kernel) (N.nok h0)
  cases e with
  | wb v =>
    have := l_eqP (μ := μ) (neg := false) (a := evD ns (.wb v)) (c := .tup [.str "end", .str (nm ns 0)]) rfl rfl (sh3 (i := v) (bS_ok true) (N.nok he)) hs
    show pyEqB false _ _ μ = _
    rw [this]
    show some (D.bl (((bS true) == ("end" : Str)) && ((nm ns 0 == nm ns 0) && false)), μ) = _
    simp
  | we =>
    show pyEq (.tup [.str (bS false), .str (nm ns 0)]) (.tup [.str "end", .str (nm ns 0)]) μ = _
    rw [l_eq2 (bS_ok _) (N.nok h0) (by decide +kernel) (N.nok h0), bS_end]
    simp
  | rb r =>
    have he' : r + 1 < ns.length := he
    show pyEq (.tup [.str (bS true), .str (nm ns (r + 1))]) (.tup [.str "end", .str (nm ns 0)]) μ = _
    rw [l_eq2 (bS_ok _) (N.nok he') (by decide +kernel) (N.nok h0), bS_end]
    simp
  | re r v =>
    have := l_eqP (μ := μ) (neg := false) (a := evD ns (.re r v)) (c := .tup [.str "end", .str (nm ns 0)]) rfl rfl (sh3 (i := v) (bS_ok false) (N.nok he)) hs
    show pyEqB false _ _ μ = _
    rw [this]
    show some (D.bl (((bS false) == ("end" : Str)) && ((nm ns (r + 1) == nm ns 0) && false)), μ) = _
    simp
theorem toPs_ints : ∀ xs : List Int, toPs μ (xs.map D.int) = some (xs.map PyData.int)
  | [] => by unfold toPs; rfl
  | x :: r => by
    rw [List.map_cons]
    unfold toPs
    rw [toPs_ints r]
    rfl
theorem lay_ints : ∀ xs : List Int, PyData.canLayAll0 (xs.map PyData.int) = true ∧ PyData.depthAll (xs.map PyData.int) = 0
  | [] => ⟨rfl, rfl⟩
  | x :: r => by
    obtain ⟨h1, h2⟩ := lay_ints r
    refine ⟨?_, ?_⟩
    · show (true && PyData.canLayAll0 (r.map PyData.int)) = true
      rw [h1]; rfl
    · show max 0 (PyData.depthAll (r.map PyData.int)) = 0
      rw [h2]; rfl
theorem sh_ints (xs : List Int) : SeqAt.shaped (.list (xs.map PyData.int)) = true := by
  obtain ⟨h1, h2⟩ := lay_ints xs
  show (PyData.canLayAll0 (xs.map PyData.int) && decide (PyData.depthAll (xs.map PyData.int) + 1 ≤ 64)) = true
  rw [h1, h2]; rfl
theorem l_neNil {xs : List Int} (h : toP1 μ a = some (.list (xs.map PyData.int))) : pyNe a (.lst []) μ = some (.bl (!xs.isEmpty), μ) := by
  have h2 : toP1 μ (.lst []) = some (.list (([] : List Int).map PyData.int)) := by
    show toP μ (.lst []) = _
    unfold toP toPs; rfl
  have := l_eqP (μ := μ) (neg := true) h h2 (sh_ints xs) (sh_ints [])
  show pyEqB true _ _ μ = _
  rw [this]
  cases xs <;> rfl
theorem toP1_lst (xs : List Int) : toP1 μ (.lst (xs.map D.int)) = some (.list (xs.map PyData.int)) := by
  show toP μ (.lst _) = _
  unfold toP
  rw [toPs_ints]; rfl
theorem toP1_ref {xs : List Int} (h : μ[n]? = some (.lst (xs.map D.int))) : toP1 μ (.ref n) = some (.list (xs.map PyData.int)) := by
  show (match μ[n]? with | some (.lst ds) => (toPs μ ds).map PyData.list | _ => none) = _
  rw [h]
  show (toPs μ (xs.map D.int)).map PyData.list = _
  rw [toPs_ints]; rfl
theorem rng0 (k : Nat) : rngD 0 (k : Int) = (List.range k).map fun j : Nat => D.int j := by
  unfold rngD
  simp
theorem rngK (k m : Nat) (h : k ≤ m) : rngD (k : Int) (m : Int) = (List.range (m - k)).map fun j : Nat => D.int ((k + j : Nat) : Int) := by
  unfold rngD
  rw [show ((m : Int) - (k : Int)).toNat = m - k by omega]
  refine List.map_congr_left fun j _ => ?_
  simp
theorem at_ev {es : List Ev} {j : Nat} {e : Ev} (h : es[j]? = some e) : pyIx (.lst (es.map (evD ns))) (.int (j : Int)) μ = some (evD ns e, μ) := l_ixL (at_nat (by rw [List.getElem?_map, h]; rfl))
noncomputable abbrev endE : Sl → M D := (mComp 1 [1, 5] (mRng2 (aCons (mSlot 8) (aCons (mDisp lenF (aCons (mSlot 1) aNil)) aNil))) (bName 0) (mTest (mOp pyEq (mOp pyIx (mSlot 1) (mSlot 0)) (mDisp newT (aCons (mC (.str "end")) (aCons (mSlot 2) aNil))))) (mSlot 0) newL)
theorem v_ends (N : Ns ns) {es : List Ev} {S : Sl} {k : Nat} (ok : ∀ e ∈ es, e.hand < ns.length) (hl : es.length ≤ 1000) (hk : k ≤ es.length) (h1 : S[1]? = some (some (.lst (es.map (evD ns))))) (h5 : S[5]? = some (some (.str (nm ns 0)))) (h8 : S[8]? = some (some (.int k))) :
    endE S μ = some (.lst ((endL es k).map fun j : Nat => D.int j), μ) := by
  have hz := sz24
  have src : mRng2 (aCons (mSlot 8) (aCons (mDisp lenF (aCons (mSlot 1) aNil)) aNil)) S μ = some (((List.range (es.length - k)).map fun j : Nat => D.int ((k + j : Nat) : Int)), μ) := by
    unfold mRng2
    have : aCons (mSlot 8) (aCons (mDisp lenF (aCons (mSlot 1) aNil)) aNil) S μ = some ([.int k, .int es.length], μ) := pc (ev_slot h8) (pc (pd (ds := [.lst (es.map (evD ns))]) (pc (ev_slot h1) rfl) (by show some (D.int (((es.map (evD ns)).length : Nat) : Int), μ) = _; rw [List.length_map])) rfl)
    rw [bnd_of this]
    unfold rng2F
    dsimp only
    rw [if_pos (by omega), rngK k es.length hk]
  refine ev_comp (ds := (List.range (es.length - k)).map fun j : Nat => D.int ((k + j : Nat) : Int)) (es := (endL es k).map fun j : Nat => D.int j) src (by simp; omega) ?_ (newL_eq (by unfold endL; simp; exact Nat.le_trans (List.length_filter_le _ _) (by simp; omega)))
  have st : startBl 1 [1, 5] S = [none, some (.lst (es.map (evD ns))), some (.str (nm ns 0))] := by
    unfold startBl pickL
    simp [h1, h5]
  rw [st]
  have := comp_f (μ := μ) (mc := (mTest (mOp pyEq (mOp pyIx (mSlot 1) (mSlot 0)) (mDisp newT (aCons (mC (.str "end")) (aCons (mSlot 2) aNil)))))) (me := mSlot 0) (τ0 := [none, some (.lst (es.map (evD ns))), some (.str (nm ns 0))]) (f := fun j : Nat => D.int ((k + j : Nat) : Int)) (F := fun j : Nat => D.int ((k + j : Nat) : Int)) (p := fun j => decide (es[k + j]? = some .we)) (xs := List.range (es.length - k)) (ys := []) (fun j hj => ?_) (fun j _ _ => rfl)
  · rw [List.nil_append] at this
    have e2 : ((List.range (es.length - k)).filter fun j => decide (es[k + j]? = some .we)).map (fun j : Nat => D.int ((k + j : Nat) : Int)) = (endL es k).map fun j : Nat => D.int j := by
      unfold endL
      rw [List.map_map]
      rfl
    rw [e2] at this
    exact this
  · have hj' := List.mem_range.mp hj
    obtain ⟨e, he⟩ : ∃ e, es[k + j]? = some e := ⟨es[k + j]'(by omega), by simp⟩
    have eo := ok e (List.mem_of_getElem? he)
    refine ev_test (po (x := evD ns e) (y := .tup [.str "end", .str (nm ns 0)]) (po (x := .lst (es.map (evD ns))) (y := .int ((k + j : Nat) : Int)) rfl rfl (at_ev he)) (pd (ds := [.str "end", .str (nm ns 0)]) rfl (newT_eq (by simp; omega))) ?_)
    rw [l_isEnd N eo, he]
    simp
noncomputable abbrev tolB : Sl → M (Fl × Sl) := (sIf (mTest (mOp pyEq (mSl2 (mSlot 9) noPart (mPart (mC (.int 2)))) (mDisp newT (aCons (mC (.str "begin")) (aCons (mSlot 5) aNil))))) (sSeq (sAsg endE (bName 10))
    (sIf (mAnd (mTest (mOp pyNe (mSlot 10) (mDisp newL aNil))) (mTest (mOp pyLt (mOp pyIx (mSlot 10) (mC (.int 0))) (mSlot 4)))) (sAsg (mOp pyIx (mSlot 9) (mC (.int 2))) (bName 6)) (sExpr (mMethL appF (mSlot 7) (aCons (mOp pyIx (mSlot 9) (mC (.int 2))) aNil))))) sNil)
theorem g1 {b : MO} : (μ ++ [b])[μ.length]? = some b := by rw [List.getElem?_append_right (Nat.le_refl _)]; simp
theorem s1 {b c : MO} : (μ ++ [b]).set μ.length c = μ ++ [c] := by rw [List.set_append_right _ _ (Nat.le_refl _)]; simp
theorem tol_go (N : Ns ns) {all : List Ev} {b : Nat} {q at_ : D} (ok : ∀ e ∈ all, e.hand < ns.length) (hl : all.length ≤ 1000) : ∀ (es : List Ev) (k : Nat) (p : Int × List Int) (o8 o9 o10 : Option D), k + es.length ≤ all.length → (∀ e ∈ es, e.hand < ns.length) → p.2.length + es.length ≤ 1000 → ∃ (o8' o9' o10' : Option D),
    forGo (bTup [8, 9]) tolB (enumD k (es.map (evD ns))) [some (mkD sf sz bg ns), some (.lst (all.map (evD ns))), some at_, some q, some (.int b), some (.str (nm ns 0)), some (.int p.1), some (.ref μ.length), o8, o9, o10] (μ ++ [.lst (p.2.map D.int)]) =
      some ((.next, [some (mkD sf sz bg ns), some (.lst (all.map (evD ns))), some at_, some q, some (.int b), some (.str (nm ns 0)), some (.int (scanG (condE all b) k es p).1), some (.ref μ.length), o8', o9', o10']), μ ++ [.lst ((scanG (condE all b) k es p).2.map D.int)])
  | [], k, p, o8, o9, o10, _, _, _ => ⟨o8, o9, o10, rfl⟩
  | e :: es, k, p, o8, o9, o10, hk, oe, hp => by
    have hz := sz24
    have h0 : 0 < ns.length := by have := N.lo; omega
    have eo := oe e (by simp)
    rw [List.length_cons] at hk hp
    have t1 : ∀ M : Mh, mTest (mOp pyEq (mSl2 (mSlot 9) noPart (mPart (mC (.int 2)))) (mDisp newT (aCons (mC (.str "begin")) (aCons (mSlot 5) aNil)))) [some (mkD sf sz bg ns), some (.lst (all.map (evD ns))), some at_, some q, some (.int b), some (.str (nm ns 0)), some (.int p.1), some (.ref μ.length), some (.int k), some (evD ns e), o10] M = some (e.beg && e.hand == 0, M) := fun M =>
      ev_test (po (x := .tup [.str (bS e.beg), .str (nm ns e.hand)]) (y := .tup [.str "begin", .str (nm ns 0)]) (p2 (x := evD ns e) (a := none) (b := some 2) rfl rfl rfl l_cut2) (pd (ds := [.str "begin", .str (nm ns 0)]) rfl (newT_eq (by simp; omega))) (l_head N eo h0))
    have plain : (e.beg && e.hand == 0) = false → scanS (condE all b) k e p = p → ∃ (o8' o9' o10' : Option D), forGo (bTup [8, 9]) tolB (enumD k ((e :: es).map (evD ns))) [some (mkD sf sz bg ns), some (.lst (all.map (evD ns))), some at_, some q, some (.int b), some (.str (nm ns 0)), some (.int p.1), some (.ref μ.length), o8, o9, o10] (μ ++ [.lst (p.2.map D.int)]) =
      some ((.next, [some (mkD sf sz bg ns), some (.lst (all.map (evD ns))), some at_, some q, some (.int b), some (.str (nm ns 0)), some (.int (scanG (condE all b) k (e :: es) p).1), some (.ref μ.length), o8', o9', o10']), μ ++ [.lst ((scanG (condE all b) k (e :: es) p).2.map D.int)]) := fun hn hs => by
      obtain ⟨o8', o9', o10', go⟩ := tol_go N (b := b) (q := q) (at_ := at_) ok hl es (k + 1) p (some (.int k)) (some (evD ns e)) o10 (by omega) (fun x hx => oe x (by simp [hx])) (by omega)
      refine ⟨o8', o9', o10', ?_⟩
      have hsc : scanG (condE all b) k (e :: es) p = scanG (condE all b) (k + 1) es (scanS (condE all b) k e p) := rfl
      rw [hsc, hs]
      exact ev_forCons (x := .tup [.int k, evD ns e]) rfl (ev_ifF ((t1 _).trans (by rw [hn])) rfl) go
    cases e with
    | we => exact plain rfl rfl
    | rb r => exact plain rfl rfl
    | re r v => exact plain rfl rfl
    | wb v =>
      have ve := v_ends (μ := μ ++ [.lst (p.2.map D.int)]) N (k := k) (S := [some (mkD sf sz bg ns), some (.lst (all.map (evD ns))), some at_, some q, some (.int b), some (.str (nm ns 0)), some (.int p.1), some (.ref μ.length), some (.int k), some (evD ns (.wb v)), o10]) ok hl (by omega) rfl rfl rfl
      have t2 : mAnd (mTest (mOp pyNe (mSlot 10) (mDisp newL aNil))) (mTest (mOp pyLt (mOp pyIx (mSlot 10) (mC (.int 0))) (mSlot 4))) [some (mkD sf sz bg ns), some (.lst (all.map (evD ns))), some at_, some q, some (.int b), some (.str (nm ns 0)), some (.int p.1), some (.ref μ.length), some (.int k), some (evD ns (.wb v)), some (.lst ((endL all k).map fun j : Nat => D.int j))] (μ ++ [.lst (p.2.map D.int)]) = some (condE all b k, μ ++ [.lst (p.2.map D.int)]) := by
        have el : (endL all k).map (fun j : Nat => D.int j) = ((endL all k).map fun j : Nat => (j : Int)).map D.int := by rw [List.map_map]; rfl
        have tn : mTest (mOp pyNe (mSlot 10) (mDisp newL aNil)) [some (mkD sf sz bg ns), some (.lst (all.map (evD ns))), some at_, some q, some (.int b), some (.str (nm ns 0)), some (.int p.1), some (.ref μ.length), some (.int k), some (evD ns (.wb v)), some (.lst ((endL all k).map fun j : Nat => D.int j))] (μ ++ [.lst (p.2.map D.int)]) = some (!((endL all k).map fun j : Nat => (j : Int)).isEmpty, μ ++ [.lst (p.2.map D.int)]) :=
          ev_test (po (x := .lst ((endL all k).map fun j : Nat => D.int j)) (y := .lst []) rfl (pd (ds := []) rfl (newL_eq (by simp))) (l_neNil (by rw [el]; exact toP1_lst _)))
        unfold condE
        cases hq : endL all k with
        | nil => rw [hq] at tn; exact ev_andF tn
        | cons j js =>
          rw [hq] at tn
          refine ev_andT tn (ev_test (po (x := .int j) (y := .int b) (po (x := .lst ((j :: js).map fun j : Nat => D.int j)) (y := .int 0) rfl rfl (l_ixL (at_nat (r := 0) rfl))) rfl ?_))
          show some (D.bl (decide ((j : Int) < (b : Int))), _) = _
          simp
      cases hc : condE all b k with
      | true =>
        rw [hc] at t2
        have es0 : scanS (condE all b) k (.wb v) p = (v, p.2) := by unfold scanS; simp only []; rw [if_pos hc]
        obtain ⟨o8', o9', o10', go⟩ := tol_go N (b := b) (q := q) (at_ := at_) ok hl es (k + 1) (v, p.2) (some (.int k)) (some (evD ns (.wb v))) (some (.lst ((endL all k).map fun j : Nat => D.int j))) (by omega) (fun x hx => oe x (by simp [hx])) (by show p.2.length + es.length ≤ 1000; omega)
        refine ⟨o8', o9', o10', ?_⟩
        have hsc : scanG (condE all b) k (.wb v :: es) p = scanG (condE all b) (k + 1) es (scanS (condE all b) k (.wb v) p) := rfl
        rw [hsc, es0]
        exact ev_forCons (x := .tup [.int k, evD ns (.wb v)]) rfl (ev_ifT (t1 _) (ev_seq (pa ve rfl) (ev_ifT t2 (pa (d := .int v) (po (x := evD ns (.wb v)) (y := .int 2) rfl rfl rfl) rfl)))) go
      | false =>
        rw [hc] at t2
        have es0 : scanS (condE all b) k (.wb v) p = (p.1, p.2 ++ [v]) := by unfold scanS; simp only []; rw [if_neg (by rw [hc]; decide)]
        obtain ⟨o8', o9', o10', go⟩ := tol_go N (b := b) (q := q) (at_ := at_) ok hl es (k + 1) (p.1, p.2 ++ [v]) (some (.int k)) (some (evD ns (.wb v))) (some (.lst ((endL all k).map fun j : Nat => D.int j))) (by omega) (fun x hx => oe x (by simp [hx])) (by show (p.2 ++ [v]).length + es.length ≤ 1000; simp; omega)
        refine ⟨o8', o9', o10', ?_⟩
        have hsc : scanG (condE all b) k (.wb v :: es) p = scanG (condE all b) (k + 1) es (scanS (condE all b) k (.wb v) p) := rfl
        rw [hsc, es0]
        refine ev_forCons (x := .tup [.int k, evD ns (.wb v)]) rfl (ev_ifT (t1 _) (ev_seq (pa ve rfl) (ev_ifF t2 (ev_expr (d := .non) (ev_meth (x := .ref μ.length) (ds := [.int v]) (μ1 := μ ++ [.lst (p.2.map D.int)]) (μ2 := μ ++ [.lst (p.2.map D.int)]) (μ3 := μ ++ [.lst (p.2.map D.int)]) rfl (l_guardAt g1) (pc (po (x := evD ns (.wb v)) (y := .int 2) rfl rfl rfl) rfl) ?_))))) go
        rw [l_appAt g1 (by rw [List.length_map]; omega), s1]
        simp
end
end K13
set_option maxHeartbeats 4000000
namespace K13
open PySem L2 Mi Ht
noncomputable def lastBeg (all : List Ev) (r : Nat) : Nat → Nat
  | 0 => 0
  | n + 1 => if all[n]? = some (.rb r) then n else lastBeg all r n
theorem First.last {all : List Ev} {r b : Nat} : ∀ {n : Nat}, First all n r b → lastBeg all r n = b
  | 0, h => absurd h.lt (by omega)
  | n + 1, h => by
    unfold lastBeg
    have hl := h.lt
    split
    · rename_i e
      rcases Nat.lt_or_ge b n with z | z
      · exact absurd e (h.mx n z (by omega))
      · omega
    · rename_i e
      have hb : b ≠ n := fun z => e (z ▸ h.is)
      exact First.last ⟨by omega, h.is, fun j h1 h2 => h.mx j h1 (by omega)⟩
noncomputable def toldAt (sf : Bool) (sz bg : Int) (all : List Ev) (i r : Nat) : List Int := toldP sf sz (scanG (condE all (lastBeg all r i)) 0 (all.take i) (bg, []))
noncomputable def okAt (sf : Bool) (sz bg : Int) (all : List Ev) (i : Nat) (e : Ev) : Bool := match e with
  | .re r v => decide (v ∈ toldAt sf sz bg all i r)
  | _ => true
noncomputable def keptG (sf : Bool) (sz bg : Int) (all : List Ev) : Nat → List Ev → Bool
  | _, [] => true
  | k, e :: es => okAt sf sz bg all k e && keptG sf sz bg all (k + 1) es
theorem scan_in {c : Nat → Bool} {lo hi : Int} : ∀ (es : List Ev) (k : Nat) (p : Int × List Int), (∀ v, Ev.wb v ∈ es → lo ≤ v ∧ v < hi) → (lo ≤ p.1 ∧ p.1 < hi) → (∀ x ∈ p.2, lo ≤ x ∧ x < hi) → (lo ≤ (scanG c k es p).1 ∧ (scanG c k es p).1 < hi) ∧ ∀ x ∈ (scanG c k es p).2, lo ≤ x ∧ x < hi
  | [], _, _, _, h1, h2 => ⟨h1, h2⟩
  | e :: es, k, p, h, h1, h2 => by
    refine scan_in es (k + 1) (scanS c k e p) (fun v hv => h v (by simp [hv])) ?_ ?_
    · cases e with
      | wb v =>
        unfold scanS
        dsimp only
        split
        · exact h v (by simp)
        · exact h1
      | _ => exact h1
    · cases e with
      | wb v =>
        unfold scanS
        dsimp only
        split
        · exact h2
        · intro x hx
          rcases List.mem_append.mp hx with z | z
          · exact h2 x z
          · rw [List.mem_singleton] at z; subst z; exact h x (by simp)
      | _ => exact h2
theorem scan_len {c : Nat → Bool} : ∀ (es : List Ev) (k : Nat) (p : Int × List Int), (scanG c k es p).2.length ≤ p.2.length + es.length
  | [], _, _ => Nat.le_refl _
  | e :: es, k, p => by
    have := scan_len (c := c) es (k + 1) (scanS c k e p)
    have h2 : (scanS c k e p).2.length ≤ p.2.length + 1 := by
      cases e with
      | wb v => unfold scanS; dsimp only; split <;> simp
      | _ => show p.2.length ≤ _; omega
    show (scanG c (k + 1) es (scanS c k e p)).2.length ≤ _
    rw [List.length_cons]
    omega
section
variable {μ μ1 μ2 μ3 μ4 μ' : Mh} {τ τ1 : Sl} {x0 d a c : D} {ds : List D} {n : Nat}
variable {sf : Bool} {sz bg : Int} {ns : List Str}
theorem isB_rb (es : List Ev) (r j : Nat) : isB es (r + 1) j = decide (es[j]? = some (.rb r)) := by
  unfold isB
  cases h : es[j]? with
  | none => simp
  | some e =>
    cases e with
    | wb v => simp [Ev.beg, Ev.hand]
    | we => simp [Ev.beg]
    | rb r' =>
      simp only [Ev.beg, Ev.hand, Bool.true_and]
      by_cases e : r' = r
      · subst e; simp
      · have h1 : ¬ r' + 1 = r + 1 := by omega
        rw [beq_eq_false_iff_ne.mpr h1]
        simp [e]
    | re r' v => simp [Ev.beg]
theorem l_max1 {x : Int} {xs : List Int} : max1F [.lst ((x :: xs).map D.int)] μ = some (.int (maxI (x :: xs)), μ) := by
  show (match intsD ((x :: xs).map D.int) with | some (i :: r) => some (D.int (maxI (i :: r)), μ) | _ => none) = _
  rw [intsD_map]
noncomputable abbrev firE : Sl → M D := mDisp max1F (aCons (mComp 1 [1, 3] (mRng1 (aCons (mSlot 2) aNil)) (bName 0) (mTest (mOp pyEq (mSl2 (mOp pyIx (mSlot 1) (mSlot 0)) noPart (mPart (mC (.int 2)))) (mDisp newT (aCons (mC (.str "begin")) (aCons (mSlot 2) aNil))))) (mSlot 0) newL) aNil)
theorem v_first (N : Ns ns) {all : List Ev} {S : Sl} {i r b : Nat} (ok : ∀ e ∈ all, e.hand < ns.length) (hl : all.length ≤ 1000) (hi : i ≤ all.length) (hr : r + 1 < ns.length) (F : First all i r b) (h1 : S[1]? = some (some (.lst (all.map (evD ns))))) (h2 : S[2]? = some (some (.int i))) (h3 : S[3]? = some (some (.str (nm ns (r + 1))))) : firE S μ = some (.int b, μ) := by
  have hz := sz24
  have src : mRng1 (aCons (mSlot 2) aNil) S μ = some ((List.range i).map fun j : Nat => D.int j, μ) := by
    unfold mRng1
    rw [bnd_of (show aCons (mSlot 2) aNil S μ = some ([.int i], μ) from pc (ev_slot h2) rfl)]
    unfold rng1F
    dsimp only
    rw [if_pos (by omega), rng0]
  have st : startBl 1 [1, 3] S = [none, some (.lst (all.map (evD ns))), some (.str (nm ns (r + 1)))] := by
    unfold startBl pickL
    simp [h1, h3]
  have cg := comp_f (μ := μ) (mc := (mTest (mOp pyEq (mSl2 (mOp pyIx (mSlot 1) (mSlot 0)) noPart (mPart (mC (.int 2)))) (mDisp newT (aCons (mC (.str "begin")) (aCons (mSlot 2) aNil)))))) (me := mSlot 0) (τ0 := [none, some (.lst (all.map (evD ns))), some (.str (nm ns (r + 1)))]) (f := fun j : Nat => D.int j) (F := fun j : Nat => D.int j) (p := isB all (r + 1)) (xs := List.range i) (ys := []) (fun j hj => by
    have hj' := List.mem_range.mp hj
    obtain ⟨e, he⟩ : ∃ e, all[j]? = some e := ⟨all[j]'(by omega), by simp⟩
    have eo := ok e (List.mem_of_getElem? he)
    refine ev_test (po (x := .tup [.str (bS e.beg), .str (nm ns e.hand)]) (y := .tup [.str "begin", .str (nm ns (r + 1))]) (p2 (x := evD ns e) (a := none) (b := some 2) (po (x := .lst (all.map (evD ns))) (y := .int j) rfl rfl (at_ev he)) rfl rfl l_cut2) (pd (ds := [.str "begin", .str (nm ns (r + 1))]) rfl (newT_eq (by simp; omega))) ?_)
    rw [l_head N eo hr]
    unfold isB
    rw [he]) (fun j _ _ => rfl)
  rw [List.nil_append] at cg
  have el : ((List.range i).filter (isB all (r + 1))).map (fun j : Nat => D.int j) = (((List.range i).filter (isB all (r + 1))).map fun j : Nat => (j : Int)).map D.int := by rw [List.map_map]; rfl
  rw [el] at cg
  have hb : b ∈ (List.range i).filter (isB all (r + 1)) := List.mem_filter.mpr ⟨List.mem_range.mpr F.lt, by rw [isB_rb, F.is]; simp⟩
  have hm : maxI (((List.range i).filter (isB all (r + 1))).map fun j : Nat => (j : Int)) = b := by
    refine maxI_eq (List.mem_map.mpr ⟨b, hb, rfl⟩) fun a ha => ?_
    obtain ⟨j, hj, rfl⟩ := List.mem_map.mp ha
    obtain ⟨z1, z2⟩ := List.mem_filter.mp hj
    rw [isB_rb] at z2
    rcases Nat.lt_or_ge b j with z | z
    · exact absurd (of_decide_eq_true z2) (F.mx j z (List.mem_range.mp z1))
    · omega
  refine pd (ds := [.lst ((((List.range i).filter (isB all (r + 1))).map fun j : Nat => (j : Int)).map D.int)]) (pc (ev_comp (ds := (List.range i).map fun j : Nat => D.int j) src (by simp; omega) (by rw [st]; exact cg) (newL_eq (by simp; exact Nat.le_trans (List.length_filter_le _ _) (by simp; omega)))) rfl) ?_
  cases hq : ((List.range i).filter (isB all (r + 1))).map fun j : Nat => (j : Int) with
  | nil =>
    have : ((b : Nat) : Int) ∈ ((List.range i).filter (isB all (r + 1))).map fun j : Nat => (j : Int) := List.mem_map.mpr ⟨b, hb, rfl⟩
    rw [hq] at this
    cases this
  | cons x xs =>
    rw [hq] at hm
    rw [l_max1, hm]
theorem v_toldL (N : Ns ns) {all : List Ev} {i r b : Nat} {v : Int} (h0 : 0 ≤ sz) (h1 : sz ≤ 10) (b0 : 0 ≤ bg) (b1 : bg < sz) (ok : ∀ e ∈ all, e.Ok ns sz) (hl : all.length ≤ 100) (hi : all[i]? = some (.re r v)) (F : First all i r b) :
    f__law_told [mkD sf sz bg ns, .lst (all.map (evD ns)), .int i] μ = some (.lst ((toldAt sf sz bg all i r).map D.int), μ) := by
  have hz := sz24
  have hlo := N.lo
  have okh : ∀ e ∈ all, e.hand < ns.length := fun e he => (ok e he).h
  have hil : i < all.length := (List.getElem?_eq_some_iff.mp hi).1
  have hr : r + 1 < ns.length := okh _ (List.mem_of_getElem? hi)
  obtain ⟨o8, o9, o10, go⟩ := tol_go (μ := μ) (sf := sf) (sz := sz) (bg := bg) N (all := all) (b := b) (q := .str (nm ns (r + 1))) (at_ := .int i) okh (by omega) (all.take i) 0 (bg, []) none none none (by simp; omega) (fun e he => okh e (List.mem_of_mem_take he)) (by simp; omega)
  have ht : toldAt sf sz bg all i r = toldP sf sz (scanG (condE all b) 0 (all.take i) (bg, [])) := by unfold toldAt; rw [F.last]
  have sin := scan_in (c := condE all b) (lo := 0) (hi := 10) (all.take i) 0 (bg, []) (fun v hv => by
    have := (ok _ (List.mem_of_mem_take hv)).v v rfl
    omega) ⟨b0, by show bg < 10; omega⟩ (by simp)
  have slen := scan_len (c := condE all b) (all.take i) 0 (bg, [])
  generalize scanG (condE all b) 0 (all.take i) (bg, []) = p at go ht sin slen
  have plen : p.2.length ≤ 100 := by simp at slen; omega
  rw [ht]
  refine callF_pure (g := [.lst (p.2.map D.int)]) (τ2 := [some (mkD sf sz bg ns), some (.lst (all.map (evD ns))), some (.int i), some (.str (nm ns (r + 1))), some (.int b), some (.str (nm ns 0)), some (.int p.1), some (.ref μ.length), o8, o9, o10]) ?_ rfl (by unfold Cl; exact clL_map (cl_int _) _)
  have cut : mEnum (aCons (mSl2 (mSlot 1) noPart (mPart (mSlot 2))) aNil) [some (mkD sf sz bg ns), some (.lst (all.map (evD ns))), some (.int i), some (.str (nm ns (r + 1))), some (.int b), some (.str (nm ns 0)), some (.int bg), some (.ref μ.length), none, none, none] (μ ++ [.lst []]) = some (enumD 0 ((all.take i).map (evD ns)), μ ++ [.lst []]) := by
    unfold mEnum
    have : aCons (mSl2 (mSlot 1) noPart (mPart (mSlot 2))) aNil [some (mkD sf sz bg ns), some (.lst (all.map (evD ns))), some (.int i), some (.str (nm ns (r + 1))), some (.int b), some (.str (nm ns 0)), some (.int bg), some (.ref μ.length), none, none, none] (μ ++ [.lst []]) = some ([.lst ((all.take i).map (evD ns))], μ ++ [.lst []]) := by
      refine pc (p2 (x := .lst (all.map (evD ns))) (a := none) (b := some (i : Int)) rfl rfl rfl ?_) rfl
      show some (D.lst (cutD (all.map (evD ns)) none (some (i : Int))), _) = _
      rw [cut_to (α := .non) (by simp; omega), List.map_take]
    rw [bnd_of this]
    rfl
  refine ev_seq (μ1 := μ) (τ1 := [some (mkD sf sz bg ns), some (.lst (all.map (evD ns))), some (.int i), some (.str (nm ns (r + 1))), none, none, none, none, none, none, none]) (pa (d := .str (nm ns (r + 1))) (po (x := evD ns (.re r v)) (y := .int 1) (po (x := .lst (all.map (evD ns))) (y := .int i) rfl rfl (at_ev hi)) rfl rfl) rfl) ?_
  refine ev_seq (μ1 := μ) (τ1 := [some (mkD sf sz bg ns), some (.lst (all.map (evD ns))), some (.int i), some (.str (nm ns (r + 1))), some (.int b), none, none, none, none, none, none]) (pa (v_first N okh (by omega) (by omega) hr F rfl rfl rfl) rfl) ?_
  refine ev_seq (μ1 := μ) (τ1 := [some (mkD sf sz bg ns), some (.lst (all.map (evD ns))), some (.int i), some (.str (nm ns (r + 1))), some (.int b), some (.str (nm ns 0)), none, none, none, none, none]) (pa (d := .str (nm ns 0)) (po (x := hdD (nm ns 0)) (y := .int 0) (po (x := .tup (ns.map hdD)) (y := .int 0) (po (x := mkD sf sz bg ns) (y := .int 4) rfl rfl rfl) rfl (l_ixT (at_nat (r := 0) ?_))) rfl rfl) rfl) ?_
  · rw [List.getElem?_map, List.getElem?_eq_getElem (by omega)]
    simp [nm, show 0 < ns.length by omega]
  refine ev_seq (μ1 := μ) (τ1 := [some (mkD sf sz bg ns), some (.lst (all.map (evD ns))), some (.int i), some (.str (nm ns (r + 1))), some (.int b), some (.str (nm ns 0)), some (.int bg), none, none, none, none]) rfl ?_
  refine ev_seq (μ1 := μ ++ [.lst []]) (τ1 := [some (mkD sf sz bg ns), some (.lst (all.map (evD ns))), some (.int i), some (.str (nm ns (r + 1))), some (.int b), some (.str (nm ns 0)), some (.int bg), some (.ref μ.length), none, none, none]) (ev_asg (d := .ref μ.length) (μ1 := μ ++ [.lst []]) (ev_disp (ds := []) (μ1 := μ) rfl ?_) rfl) ?_
  · unfold newB
    rw [bnd_of (show lim ([] : List D).length μ = some ((), μ) from by unfold lim; rw [if_pos (by simp)])]
  refine ev_seq (ev_for cut go) ?_
  have tn : mTest (mOp pyNe (mSlot 7) (mDisp newL aNil)) [some (mkD sf sz bg ns), some (.lst (all.map (evD ns))), some (.int i), some (.str (nm ns (r + 1))), some (.int b), some (.str (nm ns 0)), some (.int p.1), some (.ref μ.length), o8, o9, o10] (μ ++ [.lst (p.2.map D.int)]) = some (!p.2.isEmpty, μ ++ [.lst (p.2.map D.int)]) :=
    ev_test (po (x := .ref μ.length) (y := .lst []) rfl (pd (ds := []) rfl (newL_eq (by simp))) (l_neNil (toP1_ref g1)))
  have ts : mTest (mOp pyEq (mOp pyIx (mSlot 0) (mC (.int 0))) (mC (.str "safe"))) [some (mkD sf sz bg ns), some (.lst (all.map (evD ns))), some (.int i), some (.str (nm ns (r + 1))), some (.int b), some (.str (nm ns 0)), some (.int p.1), some (.ref μ.length), o8, o9, o10] (μ ++ [.lst (p.2.map D.int)]) = some (sf, μ ++ [.lst (p.2.map D.int)]) :=
    ev_test (po (x := .str (kdS sf)) (y := .str "safe") (po (x := mkD sf sz bg ns) (y := .int 0) rfl rfl rfl) rfl l_safe)
  have ta : mAnd (mTest (mOp pyEq (mOp pyIx (mSlot 0) (mC (.int 0))) (mC (.str "safe")))) (mTest (mOp pyNe (mSlot 7) (mDisp newL aNil))) [some (mkD sf sz bg ns), some (.lst (all.map (evD ns))), some (.int i), some (.str (nm ns (r + 1))), some (.int b), some (.str (nm ns 0)), some (.int p.1), some (.ref μ.length), o8, o9, o10] (μ ++ [.lst (p.2.map D.int)]) = some (sf && !p.2.isEmpty, μ ++ [.lst (p.2.map D.int)]) := by
    cases sf with
    | true => exact ev_andT ts tn
    | false => exact ev_andF ts
  unfold toldP
  by_cases hc : (sf && !p.2.isEmpty) = true
  · rw [if_pos hc]
    refine ev_seqR (ev_ifT (ta.trans (by rw [hc])) (pr (pn (x := .int sz) (po (x := mkD sf sz bg ns) (y := .int 1) rfl rfl rfl) ?_)))
    show (if 0 ≤ sz ∧ sz ≤ 1000 then some (D.lst (natsD sz.toNat), _) else none) = _
    rw [if_pos (by omega)]
    rfl
  · rw [if_neg hc]
    have hc' : (sf && !p.2.isEmpty) = false := by simpa using hc
    refine ev_seq (ev_ifF (ta.trans (by rw [hc'])) rfl) (pr (pn (x := .lst ((p.1 :: p.2).map D.int)) (po (x := .lst [.int p.1]) (y := .ref μ.length) (pd (ds := [.int p.1]) rfl (newL_eq (by simp; omega))) rfl ?_) (l_sortL (small_room fun x hx => ?_))))
    · show catRef [.int p.1] μ.length (μ ++ [.lst (p.2.map D.int)]) = _
      unfold catRef
      rw [g1]
      exact newL_eq (by simp; omega)
    · rcases List.mem_cons.mp hx with z | z
      · subst z; exact sin.1
      · exact sin.2 x z
noncomputable abbrev kepB : Sl → M (Fl × Sl) := (sIf (mAnd (mTest (mOp pyEq (mOp pyIx (mSlot 3) (mC (.int 0))) (mC (.str "end")))) (mAnd (mTest (mOp pyEq (mDisp lenF (aCons (mSlot 3) aNil)) (mC (.int 3)))) (mTest (mOp (pyIn true) (mOp pyIx (mSlot 3) (mC (.int 2))) (mDisp f__law_told (aCons (mSlot 0) (aCons (mSlot 1) (aCons (mSlot 2) aNil)))))))) (sRet (mC (.bl false))) sNil)
theorem kep_go (N : Ns ns) {all : List Ev} (h0 : 0 ≤ sz) (h1 : sz ≤ 10) (b0 : 0 ≤ bg) (b1 : bg < sz) (ok : ∀ e ∈ all, e.Ok ns sz) (hl : all.length ≤ 100) (hF : ∀ i r v, all[i]? = some (.re r v) → ∃ b, First all i r b) : ∀ (es : List Ev) (k : Nat) (o2 o3 : Option D), (∀ j e, es[j]? = some e → all[k + j]? = some e) → ∃ (o2' o3' : Option D),
    forGo (bTup [2, 3]) kepB (enumD k (es.map (evD ns))) [some (mkD sf sz bg ns), some (.lst (all.map (evD ns))), o2, o3] μ = some ((if keptG sf sz bg all k es then .next else .rt (.bl false), [some (mkD sf sz bg ns), some (.lst (all.map (evD ns))), o2', o3']), μ)
  | [], k, o2, o3, _ => ⟨o2, o3, rfl⟩
  | e :: es, k, o2, o3, hk => by
    have hz := sz24
    have hke := hk 0 e rfl
    rw [Nat.add_zero] at hke
    obtain ⟨o2', o3', go⟩ := kep_go N h0 h1 b0 b1 ok hl hF es (k + 1) (some (.int k)) (some (evD ns e)) (fun j e' he' => by rw [show k + 1 + j = k + (j + 1) by omega]; exact hk (j + 1) e' he')
    have te : mTest (mOp pyEq (mOp pyIx (mSlot 3) (mC (.int 0))) (mC (.str "end"))) [some (mkD sf sz bg ns), some (.lst (all.map (evD ns))), some (.int k), some (evD ns e)] μ = some (!e.beg, μ) := ev_test (po (x := .str (bS e.beg)) (y := .str "end") (po (x := evD ns e) (y := .int 0) rfl rfl (by cases e <;> rfl)) rfl l_end)
    have tl : mTest (mOp pyEq (mDisp lenF (aCons (mSlot 3) aNil)) (mC (.int 3))) [some (mkD sf sz bg ns), some (.lst (all.map (evD ns))), some (.int k), some (evD ns e)] μ = some (e.val.isSome, μ) := by
      refine ev_test (po (x := .int ((evL ns e).length : Nat)) (y := .int 3) (pd (ds := [.tup (evL ns e)]) rfl rfl) rfl ?_)
      rw [l_eqI, evL_len]
      cases e <;> rfl
    have pass : okAt sf sz bg all k e = true → mAnd (mTest (mOp pyEq (mOp pyIx (mSlot 3) (mC (.int 0))) (mC (.str "end")))) (mAnd (mTest (mOp pyEq (mDisp lenF (aCons (mSlot 3) aNil)) (mC (.int 3)))) (mTest (mOp (pyIn true) (mOp pyIx (mSlot 3) (mC (.int 2))) (mDisp f__law_told (aCons (mSlot 0) (aCons (mSlot 1) (aCons (mSlot 2) aNil))))))) [some (mkD sf sz bg ns), some (.lst (all.map (evD ns))), some (.int k), some (evD ns e)] μ = some (false, μ) → ∃ (o2' o3' : Option D), forGo (bTup [2, 3]) kepB (enumD k ((e :: es).map (evD ns))) [some (mkD sf sz bg ns), some (.lst (all.map (evD ns))), o2, o3] μ = some ((if keptG sf sz bg all k (e :: es) then .next else .rt (.bl false), [some (mkD sf sz bg ns), some (.lst (all.map (evD ns))), o2', o3']), μ) := fun hok ht => by
      refine ⟨o2', o3', ?_⟩
      have ek : keptG sf sz bg all k (e :: es) = keptG sf sz bg all (k + 1) es := by
        show (okAt sf sz bg all k e && keptG sf sz bg all (k + 1) es) = keptG sf sz bg all (k + 1) es
        rw [hok, Bool.true_and]
      rw [ek]
      exact ev_forCons (x := .tup [.int k, evD ns e]) (τ1 := [some (mkD sf sz bg ns), some (.lst (all.map (evD ns))), some (.int k), some (evD ns e)]) (μ1 := μ) rfl (piF ht rfl) go
    cases e with
    | wb v => exact pass rfl (ev_andF te)
    | rb r => exact pass rfl (ev_andF te)
    | we => exact pass rfl (ev_andT te (ev_andF tl))
    | re r v =>
      obtain ⟨b, F⟩ := hF k r v hke
      have vt := v_toldL (μ := μ) (sf := sf) (bg := bg) N h0 h1 b0 b1 ok hl hke F
      have tt : mTest (mOp (pyIn true) (mOp pyIx (mSlot 3) (mC (.int 2))) (mDisp f__law_told (aCons (mSlot 0) (aCons (mSlot 1) (aCons (mSlot 2) aNil))))) [some (mkD sf sz bg ns), some (.lst (all.map (evD ns))), some (.int k), some (evD ns (.re r v))] μ = some (!decide (v ∈ toldAt sf sz bg all k r), μ) :=
        ev_test (po (x := .int v) (y := .lst ((toldAt sf sz bg all k r).map D.int)) (po (x := evD ns (.re r v)) (y := .int 2) rfl rfl rfl) (pd (ds := [mkD sf sz bg ns, .lst (all.map (evD ns)), .int k]) rfl vt) (l_inI rfl))
      by_cases hv : v ∈ toldAt sf sz bg all k r
      · refine pass (decide_eq_true hv) (ev_andT te (ev_andT tl (tt.trans (by rw [decide_eq_true hv]; rfl))))
      · refine ⟨some (.int k), some (evD ns (.re r v)), ?_⟩
        have ek : keptG sf sz bg all k (.re r v :: es) = false := by
          show (decide (v ∈ toldAt sf sz bg all k r) && keptG sf sz bg all (k + 1) es) = false
          rw [decide_eq_false hv, Bool.false_and]
        rw [ek]
        exact ev_forRet (x := .tup [.int k, evD ns (.re r v)]) (τ1 := [some (mkD sf sz bg ns), some (.lst (all.map (evD ns))), some (.int k), some (evD ns (.re r v))]) (μ1 := μ) rfl (piT (ev_andT te (ev_andT tl (tt.trans (by rw [decide_eq_false hv]; rfl)))) (pr rfl))
theorem v_kept (N : Ns ns) {all : List Ev} (h0 : 0 ≤ sz) (h1 : sz ≤ 10) (b0 : 0 ≤ bg) (b1 : bg < sz) (ok : ∀ e ∈ all, e.Ok ns sz) (hl : all.length ≤ 100) (hF : ∀ i r v, all[i]? = some (.re r v) → ∃ b, First all i r b) :
    f__law_kept [mkD sf sz bg ns, .lst (all.map (evD ns))] μ = some (.bl (keptG sf sz bg all 0 all), μ) := by
  obtain ⟨o2, o3, go⟩ := kep_go (μ := μ) (sf := sf) N h0 h1 b0 b1 ok hl hF all 0 none none (fun j e h => by rw [Nat.zero_add]; exact h)
  refine callF_pure (g := []) (τ2 := [some (mkD sf sz bg ns), some (.lst (all.map (evD ns))), o2, o3]) ?_ rfl (by unfold Cl; trivial)
  rw [List.append_nil]
  have fo : sFor (mEnum (aCons (mSlot 1) aNil)) (bTup [2, 3]) kepB [some (mkD sf sz bg ns), some (.lst (all.map (evD ns))), none, none] μ = _ := ev_for (ds := enumD 0 (all.map (evD ns))) (μ1 := μ) rfl go
  cases hj : keptG sf sz bg all 0 all with
  | true => rw [hj] at fo; exact pq fo (pr rfl)
  | false => rw [hj] at fo; exact ev_seqR fo
end
end K13
set_option maxHeartbeats 4000000
namespace K13
open PySem L2 Mi Ht
noncomputable def gS (G : Nat → Bool) (e : Ev) : Nat → Bool := fun h => if h = e.hand then e.beg else G h
noncomputable def gA (G : Nat → Bool) (es : List Ev) : Nat → Bool := es.foldl gS G
theorem wf_app : ∀ {G : Nat → Bool} {es fs : List Ev}, wfG G (es ++ fs) ↔ wfG G es ∧ wfG (gA G es) fs
  | G, [], fs => by simp [wfG, gA]
  | G, e :: es, fs => by
    show (G e.hand = !e.beg ∧ wfG (gS G e) (es ++ fs)) ↔ ((G e.hand = !e.beg ∧ wfG (gS G e) es) ∧ wfG (gA (gS G e) es) fs)
    rw [wf_app, and_assoc]
theorem gA_snoc {G : Nat → Bool} {es : List Ev} {e : Ev} : gA G (es ++ [e]) = gS (gA G es) e := by unfold gA; rw [List.foldl_append]; rfl
noncomputable abbrev G0 : Nat → Bool := fun _ => false
theorem ev_ind {p : List Ev → Prop} (h0 : p []) (h1 : ∀ xs x, p xs → p (xs ++ [x])) (xs : List Ev) : p xs := by
  rw [← List.reverse_reverse xs]
  induction xs.reverse with
  | nil => exact h0
  | cons a l ih => rw [List.reverse_cons]; exact h1 _ _ ih
theorem get_snoc {es : List Ev} {e : Ev} {j : Nat} (h : j < es.length) : (es ++ [e])[j]? = es[j]? := List.getElem?_append_left h
theorem get_end {es : List Ev} {e : Ev} : (es ++ [e])[es.length]? = some e := by simp
theorem First.more {es : List Ev} {e : Ev} {r b : Nat} (F : First es es.length r b) (h : e ≠ .rb r) : First (es ++ [e]) (es ++ [e]).length r b := by
  have hl := F.lt
  refine ⟨by simp; omega, by rw [get_snoc hl]; exact F.is, fun j h1 h2 => ?_⟩
  rcases Nat.lt_or_ge j es.length with z | z
  · rw [get_snoc z]; exact F.mx j h1 z
  · have : j = es.length := by simp at h2; omega
    subst this
    rw [get_end]
    exact fun z => h (Option.some.inj z)
theorem First.new {es : List Ev} {r : Nat} : First (es ++ [Ev.rb r]) (es ++ [Ev.rb r]).length r es.length := ⟨by simp, get_end, fun j h1 h2 => by simp at h2; omega⟩
theorem first_at : ∀ (es : List Ev), wfG G0 es → ∀ r, gA G0 es (r + 1) = true → ∃ b, First es es.length r b := by
  refine ev_ind (fun _ r h => by cases h) fun es e ih wf r h => ?_
  obtain ⟨w1, w2, _⟩ := wf_app.mp wf
  rw [gA_snoc] at h
  unfold gS at h
  by_cases e0 : r + 1 = e.hand
  · rw [if_pos e0] at h
    cases e with
    | wb v => cases e0
    | we => cases e0
    | rb r' =>
      have : r = r' := by simpa [Ev.hand] using e0
      subst this
      exact ⟨_, First.new⟩
    | re r' v => cases h
  · rw [if_neg e0] at h
    obtain ⟨b, F⟩ := ih w1 r h
    refine ⟨b, F.more fun z => e0 ?_⟩
    subst z
    rfl
theorem first_all {es : List Ev} (wf : wfG G0 es) {i r : Nat} {v : Int} (h : es[i]? = some (.re r v)) : ∃ b, First es i r b := by
  have hi : i < es.length := (List.getElem?_eq_some_iff.mp h).1
  have hs : es = es.take i ++ (.re r v :: es.drop (i + 1)) := by
    have h2 : es[i] = .re r v := by rw [List.getElem?_eq_getElem hi] at h; exact Option.some.inj h
    rw [← h2, ← List.drop_eq_getElem_cons hi, List.take_append_drop]
  rw [hs] at wf
  obtain ⟨w1, w2, _⟩ := wf_app.mp wf
  obtain ⟨b, F⟩ := first_at _ w1 r w2
  have hl : (es.take i).length = i := by simp; omega
  rw [hl] at F
  refine ⟨b, F.lt, ?_, fun j h1 h2 => ?_⟩
  · rw [← F.is, List.getElem?_take_of_lt F.lt]
  · rw [← List.getElem?_take_of_lt h2]
    exact F.mx j h1 h2
theorem scan_snoc {c : Nat → Bool} : ∀ (es : List Ev) (k : Nat) (e : Ev) (p : Int × List Int), scanG c k (es ++ [e]) p = scanS c (k + es.length) e (scanG c k es p)
  | [], k, e, p => rfl
  | x :: es, k, e, p => by
    show scanG c (k + 1) (es ++ [e]) (scanS c k x p) = _
    rw [scan_snoc es (k + 1) e]
    rw [show k + 1 + es.length = k + (x :: es).length by simp; omega]
    rfl
theorem scanS_congr {c c' : Nat → Bool} {k : Nat} {e : Ev} {p : Int × List Int} (h : c k = c' k) : scanS c k e p = scanS c' k e p := by
  cases e with
  | wb v => unfold scanS; dsimp only; rw [h]
  | _ => rfl
theorem scan_congr {c c' : Nat → Bool} : ∀ (es : List Ev) (k : Nat) (p : Int × List Int), (∀ j, k ≤ j → j < k + es.length → c j = c' j) → scanG c k es p = scanG c' k es p
  | [], _, _, _ => rfl
  | e :: es, k, p, h => by
    show scanG c (k + 1) es (scanS c k e p) = scanG c' (k + 1) es (scanS c' k e p)
    rw [scanS_congr (h k (Nat.le_refl _) (by simp)), scan_congr es (k + 1) _ fun j h1 h2 => h j (by omega) (by simp; omega)]
theorem scan_true : ∀ (es : List Ev) (k : Nat) (p : Int × List Int), (scanG (fun _ => true) k es p).2 = p.2
  | [], _, _ => rfl
  | e :: es, k, p => by
    show (scanG (fun _ => true) (k + 1) es (scanS (fun _ => true) k e p)).2 = _
    rw [scan_true es]
    cases e <;> rfl
theorem endL_rise (es : List Ev) (k : Nat) : (endL es k).Pairwise (· < ·) := by
  unfold endL
  rw [List.pairwise_map]
  exact (List.Pairwise.sublist List.filter_sublist List.pairwise_lt_range).imp fun h => by omega
theorem endL_mem {es : List Ev} {k j : Nat} : j ∈ endL es k ↔ k ≤ j ∧ es[j]? = some .we := by
  unfold endL
  constructor
  · intro h
    obtain ⟨i, hi, rfl⟩ := List.mem_map.mp h
    obtain ⟨_, h2⟩ := List.mem_filter.mp hi
    exact ⟨by omega, of_decide_eq_true h2⟩
  · rintro ⟨h1, h2⟩
    have hl : j < es.length := (List.getElem?_eq_some_iff.mp h2).1
    have ej : k + (j - k) = j := by omega
    exact List.mem_map.mpr ⟨j - k, List.mem_filter.mpr ⟨List.mem_range.mpr (by omega), by rw [ej]; exact decide_eq_true h2⟩, ej⟩
theorem cond_iff {es : List Ev} {b k : Nat} : condE es b k = true ↔ ∃ j, k ≤ j ∧ j < b ∧ es[j]? = some .we := by
  unfold condE
  have hr := endL_rise es k
  constructor
  · intro h
    cases hq : endL es k with
    | nil => rw [hq] at h; cases h
    | cons j js =>
      rw [hq] at h
      have hj : j ∈ endL es k := by rw [hq]; simp
      obtain ⟨h1, h2⟩ := endL_mem.mp hj
      exact ⟨j, h1, of_decide_eq_true h, h2⟩
  · rintro ⟨j, h1, h2, h3⟩
    have hj : j ∈ endL es k := endL_mem.mpr ⟨h1, h3⟩
    cases hq : endL es k with
    | nil => rw [hq] at hj; cases hj
    | cons i is =>
      rw [hq] at hj hr
      refine decide_eq_true ?_
      rcases List.mem_cons.mp hj with z | z
      · omega
      · have := (List.pairwise_cons.mp hr).1 j z
        omega
theorem cond_eq {es fs : List Ev} {b c k : Nat} (h : (∃ j, k ≤ j ∧ j < b ∧ es[j]? = some .we) ↔ ∃ j, k ≤ j ∧ j < c ∧ fs[j]? = some .we) : condE es b k = condE fs c k := by
  have h1 := cond_iff (es := es) (b := b) (k := k)
  have h2 := cond_iff (es := fs) (b := c) (k := k)
  cases q1 : condE es b k <;> cases q2 : condE fs c k
  · rfl
  · rw [q1] at h1; rw [q2] at h2; exact absurd (h1.mpr (h.mpr (h2.mp rfl))) (by decide)
  · rw [q1] at h1; rw [q2] at h2; exact absurd (h2.mpr (h.mp (h1.mp rfl))) (by decide)
  · rfl
theorem cond_old {es : List Ev} {e : Ev} {b k : Nat} (hb : b ≤ es.length) : condE (es ++ [e]) b k = condE es b k := cond_eq ⟨fun ⟨j, h1, h2, h3⟩ => ⟨j, h1, h2, by rw [← h3, get_snoc (by omega)]⟩, fun ⟨j, h1, h2, h3⟩ => ⟨j, h1, h2, by rw [← h3, get_snoc (by omega)]⟩⟩
theorem cond_next {es : List Ev} {e : Ev} {k : Nat} (he : e ≠ .we) : condE (es ++ [e]) (es.length + 1) k = condE es es.length k := cond_eq ⟨fun ⟨j, h1, h2, h3⟩ => by
    rcases Nat.lt_or_ge j es.length with z | z
    · exact ⟨j, h1, z, by rw [← h3, get_snoc z]⟩
    · have : j = es.length := by omega
      subst this
      rw [get_end] at h3
      exact absurd (Option.some.inj h3) he, fun ⟨j, h1, h2, h3⟩ => ⟨j, h1, by omega, by rw [← h3, get_snoc h2]⟩⟩
theorem cond_we {es : List Ev} {k : Nat} (hk : k ≤ es.length) : condE (es ++ [.we]) (es.length + 1) k = true := cond_iff.mpr ⟨es.length, hk, by omega, get_end⟩
theorem cond_self {es : List Ev} {b k : Nat} (h : b ≤ k) : condE es b k = false := by
  cases q : condE es b k with
  | false => rfl
  | true => obtain ⟨j, h1, h2, _⟩ := cond_iff.mp q; omega
structure Inv (sf : Bool) (sz bg : Int) (m : Nat) (es : List Ev) (k : C3) : Prop where
  ok : k.Ok m
  now : scanG (condE es es.length) 0 es (bg, []) = (k.w, if k.c = -1 then [] else [k.c])
  com : k.c ≠ -1 → scanG (fun _ => true) 0 es (bg, []) = (k.c, [])
  g0 : gA G0 es 0 = decide (k.c ≠ -1)
  no : ∀ r : Nat, k.ts[r]? = some none → gA G0 es (r + 1) = false
  yes : ∀ (r : Nat) l, k.ts[r]? = some (some l) → gA G0 es (r + 1) = true ∧ ∃ b, First es es.length r b ∧ l = toldP sf sz (scanG (condE es b) 0 es (bg, []))
theorem small_nats {sz : Int} (h : sz ≤ 10) : Small (nats sz.toNat) := by
  refine ⟨by unfold nats; simp; omega, fun x hx => ?_⟩
  obtain ⟨i, hi, rfl⟩ := List.mem_map.mp hx
  have := List.mem_range.mp hi
  show 0 ≤ ((i : Nat) : Int) ∧ ((i : Nat) : Int) < 10
  omega
theorem small_srt {l : List Int} (h : ∀ x ∈ l, 0 ≤ x ∧ x < 10) : Small (srt l) := by
  have hm : ∀ x ∈ srt l, 0 ≤ x ∧ x < 10 := fun x hx => h x ((srt_mem l x).mp hx)
  refine ⟨?_, hm⟩
  have nd : (srt l).Nodup := (srt_rise l).imp fun h => by omega
  have := nodup_le (r := (List.range 10).map Int.ofNat) nd fun x hx => by
    obtain ⟨a, b⟩ := hm x hx
    exact List.mem_map.mpr ⟨x.toNat, List.mem_range.mpr (by omega), by show ((x.toNat : Nat) : Int) = x; omega⟩
  simp at this
  omega
theorem small_bsd {sf : Bool} {sz v : Int} {l : List Int} (h : sz ≤ 10) (hl : Small l) (hv : 0 ≤ v ∧ v < 10) : Small (bsd sf sz l v) := by
  unfold bsd
  cases sf with
  | true => exact small_nats h
  | false =>
    refine small_srt fun x hx => ?_
    rcases List.mem_append.mp hx with z | z
    · exact hl.2 x z
    · rw [List.mem_singleton] at z; subst z; exact hv
theorem bsd_told {sf : Bool} {sz v : Int} {p : Int × List Int} : bsd sf sz (toldP sf sz p) v = toldP sf sz (p.1, p.2 ++ [v]) := by
  unfold bsd toldP
  cases sf with
  | true => simp
  | false =>
    simp only [Bool.false_and, Bool.false_eq_true, if_false]
    refine rise_eq (srt_rise _) (srt_rise _) fun x => ?_
    simp only [srt_mem, List.mem_append, List.mem_cons, List.mem_singleton, List.not_mem_nil, or_false]
    constructor
    · rintro ((z | z) | z) <;> simp [z]
    · rintro (z | z | z) <;> simp [z]
theorem beg_told {sf : Bool} {sz w c : Int} : begT sf sz w c = toldP sf sz (w, if c = -1 then [] else [c]) := by
  unfold begT toldP
  by_cases h : c = -1
  · simp only [h, if_true]
    simp
    rfl
  · simp only [h, if_false]
    unfold bsd
    cases sf <;> simp
theorem inv_start {sf : Bool} {sz bg : Int} {m : Nat} (hm : m ≤ 3) (b0 : 0 ≤ bg) (b1 : bg < 10) : Inv sf sz bg m [] (C3.start bg m) where
  ok := start_ok hm b0 b1
  now := rfl
  com := fun h => absurd rfl h
  g0 := by show false = decide ((-1 : Int) ≠ -1); simp
  no := fun _ _ => rfl
  yes := fun r l h => by
    have h : (List.replicate m (none : Option (List Int)))[r]? = some (some l) := h
    rw [List.getElem?_replicate] at h
    split at h <;> cases h
theorem inv_step {sf : Bool} {sz bg : Int} {m : Nat} {es : List Ev} {k k' : C3} {e : Ev} (h1 : sz ≤ 10) (I : Inv sf sz bg m es k) (wf : gA G0 es e.hand = !e.beg) (hv : ∀ v, e.val = some v → 0 ≤ v ∧ v < sz) (hh : e.hand ≤ m) (hs : k.step sf sz e = some k') : Inv sf sz bg m (es ++ [e]) k' := by
  have len : (es ++ [e]).length = es.length + 1 := by simp
  have old : ∀ b, b ≤ es.length → scanG (condE (es ++ [e]) b) 0 (es ++ [e]) (bg, []) = scanS (condE (es ++ [e]) b) es.length e (scanG (condE es b) 0 es (bg, [])) := fun b hb => by
    rw [scan_snoc, Nat.zero_add, scan_congr es 0 (bg, []) fun j _ _ => cond_old (k := j) hb]
  have kept : ∀ (r : Nat) b, First es es.length r b → gA G0 es (r + 1) = true → First (es ++ [e]) (es ++ [e]).length r b := fun r b F hg => F.more fun z => by
    subst z
    have wf : gA G0 es (r + 1) = !true := wf
    rw [hg] at wf
    cases wf
  cases e with
  | wb v =>
    obtain ⟨v0, v1⟩ := hv v rfl
    cases hs
    have c1 : k.c = -1 := by
      have := I.g0
      have wf : gA G0 es 0 = !true := wf
      rw [wf] at this
      simpa using this.symm
    have nx : scanG (condE (es ++ [.wb v]) (es.length + 1)) 0 es (bg, []) = scanG (condE es es.length) 0 es (bg, []) := scan_congr es 0 _ fun j _ _ => cond_next (by simp)
    refine ⟨⟨I.ok.w, fun _ => ⟨v0, by show v < 10; omega⟩, fun l hl => ?_, by show (k.ts.map _).length = m; rw [List.length_map]; exact I.ok.n, I.ok.m⟩, ?_, fun _ => ?_, ?_, fun r hr => ?_, fun r l hr => ?_⟩
    · obtain ⟨t, ht, e⟩ := List.mem_map.mp hl
      cases t with
      | none => cases e
      | some l0 => cases e; exact small_bsd h1 (I.ok.ts l0 ht) ⟨v0, by omega⟩
    · rw [len, scan_snoc, nx, I.now, if_pos c1, Nat.zero_add]
      unfold scanS
      dsimp only
      have : condE (es ++ [.wb v]) (es.length + 1) es.length = false := by rw [cond_next (by simp)]; exact cond_self (Nat.le_refl _)
      rw [this, if_neg (by decide), if_neg (by omega)]
      rfl
    · rw [scan_snoc]
      have h2 := scan_true es 0 (bg, [])
      unfold scanS
      dsimp only
      rw [if_pos rfl, h2]
    · rw [gA_snoc]
      show gS _ _ 0 = decide (v ≠ -1)
      unfold gS
      rw [if_pos (show 0 = (Ev.wb v).hand from rfl), decide_eq_true (by omega)]
      rfl
    · rw [gA_snoc]
      show gS _ _ (r + 1) = false
      unfold gS
      rw [if_neg (by simp [Ev.hand])]
      refine I.no r ?_
      have hr : (k.ts.map (Option.map fun l => bsd sf sz l v))[r]? = some none := hr
      rw [List.getElem?_map] at hr
      cases q : k.ts[r]? with
      | none => rw [q] at hr; cases hr
      | some t =>
        rw [q] at hr
        cases t with
        | none => rfl
        | some l => cases hr
    · have hr : (k.ts.map (Option.map fun l => bsd sf sz l v))[r]? = some (some l) := hr
      rw [List.getElem?_map] at hr
      cases q : k.ts[r]? with
      | none => rw [q] at hr; cases hr
      | some t =>
        rw [q] at hr
        cases t with
        | none => cases hr
        | some l0 =>
          cases hr
          obtain ⟨hg, b, F, hl⟩ := I.yes r l0 q
          have hb := F.lt
          refine ⟨?_, b, kept r b F hg, ?_⟩
          · rw [gA_snoc]
            unfold gS
            rw [if_neg (by simp [Ev.hand])]
            exact hg
          · show bsd sf sz l0 v = _
            rw [hl, bsd_told, old b (by omega)]
            unfold scanS
            dsimp only
            rw [cond_self (by omega), if_neg (by decide)]
  | we =>
    cases hs
    have c1 : k.c ≠ -1 := by
      have := I.g0
      have wf : gA G0 es 0 = !false := wf
      rw [wf] at this
      simpa using this.symm
    have nx : scanG (condE (es ++ [.we]) (es.length + 1)) 0 es (bg, []) = scanG (fun _ => true) 0 es (bg, []) := scan_congr es 0 _ fun j _ hj => cond_we (by omega)
    refine ⟨⟨I.ok.c c1, fun z => absurd rfl z, I.ok.ts, I.ok.n, I.ok.m⟩, ?_, fun z => absurd rfl z, ?_, fun r hr => ?_, fun r l hr => ?_⟩
    · rw [len, scan_snoc, nx, I.com c1]
      rfl
    · rw [gA_snoc]
      show gS _ _ 0 = decide ((-1 : Int) ≠ -1)
      unfold gS
      rw [if_pos (show 0 = Ev.we.hand from rfl)]
      rfl
    · rw [gA_snoc]
      unfold gS
      rw [if_neg (by simp [Ev.hand])]
      exact I.no r hr
    · obtain ⟨hg, b, F, hl⟩ := I.yes r l hr
      have hb := F.lt
      refine ⟨?_, b, kept r b F hg, by rw [hl, old b (by omega)]; rfl⟩
      rw [gA_snoc]
      unfold gS
      rw [if_neg (by simp [Ev.hand])]
      exact hg
  | rb r0 =>
    cases hs
    have hr0 : r0 < k.ts.length := by rw [I.ok.n]; have : r0 + 1 ≤ m := hh; omega
    have nx : scanG (condE (es ++ [.rb r0]) (es.length + 1)) 0 es (bg, []) = scanG (condE es es.length) 0 es (bg, []) := scan_congr es 0 _ fun j _ _ => cond_next (by simp)
    have sb : Small (begT sf sz k.w k.c) := by
      unfold begT
      split
      · exact ⟨by simp, fun x hx => by rw [List.mem_singleton] at hx; subst hx; exact I.ok.w⟩
      · rename_i hc
        exact small_bsd h1 ⟨by simp, fun x hx => by rw [List.mem_singleton] at hx; subst hx; exact I.ok.w⟩ (I.ok.c hc)
    refine ⟨⟨I.ok.w, I.ok.c, fun l hl => ?_, by show (k.ts.set r0 _).length = m; rw [List.length_set]; exact I.ok.n, I.ok.m⟩, ?_, fun z => ?_, ?_, fun r hr => ?_, fun r l hr => ?_⟩
    · rcases List.mem_or_eq_of_mem_set hl with z | z
      · exact I.ok.ts l z
      · cases z; exact sb
    · rw [len, scan_snoc, nx, I.now]
      rfl
    · rw [scan_snoc, I.com z]; rfl
    · rw [gA_snoc]
      unfold gS
      rw [if_neg (by simp [Ev.hand])]
      exact I.g0
    · have hr : (k.ts.set r0 (some (begT sf sz k.w k.c)))[r]? = some none := hr
      by_cases e0 : r0 = r
      · subst e0
        rw [List.getElem?_set_self hr0] at hr
        cases hr
      · rw [List.getElem?_set_ne e0] at hr
        rw [gA_snoc]
        unfold gS
        rw [if_neg (by show ¬ r + 1 = r0 + 1; omega)]
        exact I.no r hr
    · have hr : (k.ts.set r0 (some (begT sf sz k.w k.c)))[r]? = some (some l) := hr
      by_cases e0 : r0 = r
      · subst e0
        rw [List.getElem?_set_self hr0] at hr
        cases hr
        refine ⟨?_, es.length, First.new, ?_⟩
        · rw [gA_snoc]
          unfold gS
          rw [if_pos (show r0 + 1 = (Ev.rb r0).hand from rfl)]
          rfl
        · rw [old es.length (Nat.le_refl _), I.now, beg_told]
          rfl
      · rw [List.getElem?_set_ne e0] at hr
        obtain ⟨hg, b, F, hl⟩ := I.yes r l hr
        have hb := F.lt
        refine ⟨?_, b, kept r b F hg, by rw [hl, old b (by omega)]; rfl⟩
        rw [gA_snoc]
        unfold gS
        rw [if_neg (by show ¬ r + 1 = r0 + 1; omega)]
        exact hg
  | re r0 v =>
    have nx : scanG (condE (es ++ [.re r0 v]) (es.length + 1)) 0 es (bg, []) = scanG (condE es es.length) 0 es (bg, []) := scan_congr es 0 _ fun j _ _ => cond_next (by simp)
    have hk : k' = ⟨k.w, k.c, k.ts.set r0 none⟩ := by
      unfold C3.step at hs
      dsimp only at hs
      split at hs
      · split at hs
        · exact (Option.some.inj hs).symm
        · cases hs
      · cases hs
    subst hk
    have hr0 : r0 < k.ts.length := by rw [I.ok.n]; have : r0 + 1 ≤ m := hh; omega
    refine ⟨⟨I.ok.w, I.ok.c, fun l hl => ?_, by show (k.ts.set r0 _).length = m; rw [List.length_set]; exact I.ok.n, I.ok.m⟩, ?_, fun z => ?_, ?_, fun r hr => ?_, fun r l hr => ?_⟩
    · rcases List.mem_or_eq_of_mem_set hl with z | z
      · exact I.ok.ts l z
      · cases z
    · rw [len, scan_snoc, nx, I.now]
      rfl
    · rw [scan_snoc, I.com z]; rfl
    · rw [gA_snoc]
      unfold gS
      rw [if_neg (by simp [Ev.hand])]
      exact I.g0
    · have hr : (k.ts.set r0 none)[r]? = some none := hr
      rw [gA_snoc]
      unfold gS
      by_cases e0 : r0 = r
      · subst e0
        rw [if_pos (show r0 + 1 = (Ev.re r0 v).hand from rfl)]
        rfl
      · rw [List.getElem?_set_ne e0] at hr
        rw [if_neg (by show ¬ r + 1 = r0 + 1; omega)]
        exact I.no r hr
    · have hr : (k.ts.set r0 none)[r]? = some (some l) := hr
      by_cases e0 : r0 = r
      · subst e0
        rw [List.getElem?_set_self hr0] at hr
        cases hr
      · rw [List.getElem?_set_ne e0] at hr
        obtain ⟨hg, b, F, hl⟩ := I.yes r l hr
        have hb := F.lt
        refine ⟨?_, b, kept r b F hg, by rw [hl, old b (by omega)]; rfl⟩
        rw [gA_snoc]
        unfold gS
        rw [if_neg (by show ¬ r + 1 = r0 + 1; omega)]
        exact hg
end K13
set_option maxHeartbeats 4000000
namespace K13
open PySem L2 Mi Ht
noncomputable def runC (sf : Bool) (sz : Int) (o : Option C3) (es : List Ev) : Option C3 := es.foldl (fun o e => o.bind fun k => k.step sf sz e) o
theorem run_none {sf : Bool} {sz : Int} : ∀ es, runC sf sz none es = none
  | [] => rfl
  | e :: es => run_none es
theorem run_judge {sf : Bool} {sz : Int} : ∀ (es : List Ev) (k : C3), judgeP sf sz k es = (runC sf sz (some k) es).isSome
  | [], k => rfl
  | e :: es, k => by
    show (match k.step sf sz e with | none => false | some k' => judgeP sf sz k' es) = (runC sf sz (k.step sf sz e) es).isSome
    cases h : k.step sf sz e with
    | none => rw [run_none]; rfl
    | some k' => exact run_judge es k'
theorem run_snoc {sf : Bool} {sz : Int} {o : Option C3} {es : List Ev} {e : Ev} : runC sf sz o (es ++ [e]) = (runC sf sz o es).bind fun k => k.step sf sz e := by unfold runC; rw [List.foldl_append]; rfl
theorem kept_snoc {sf : Bool} {sz bg : Int} {all : List Ev} : ∀ (es : List Ev) (k : Nat) (e : Ev), keptG sf sz bg all k (es ++ [e]) = (keptG sf sz bg all k es && okAt sf sz bg all (k + es.length) e)
  | [], k, e => by show (okAt sf sz bg all k e && true) = (true && okAt sf sz bg all (k + 0) e); rw [Bool.and_true, Bool.true_and]; rfl
  | x :: es, k, e => by
    show (okAt sf sz bg all k x && keptG sf sz bg all (k + 1) (es ++ [e])) = ((okAt sf sz bg all k x && keptG sf sz bg all (k + 1) es) && okAt sf sz bg all (k + (x :: es).length) e)
    rw [kept_snoc es (k + 1) e, Bool.and_assoc, show k + 1 + es.length = k + (x :: es).length by simp; omega]
theorem last_le (all : List Ev) (r : Nat) : ∀ n, lastBeg all r n ≤ n
  | 0 => Nat.le_refl _
  | n + 1 => by
    unfold lastBeg
    split
    · omega
    · have := last_le all r n; omega
theorem last_old {es : List Ev} {e : Ev} {r : Nat} : ∀ n, n ≤ es.length → lastBeg (es ++ [e]) r n = lastBeg es r n
  | 0, _ => rfl
  | n + 1, h => by
    unfold lastBeg
    rw [get_snoc (by omega), last_old n (by omega)]
theorem told_old {sf : Bool} {sz bg : Int} {es : List Ev} {e : Ev} {i r : Nat} (h : i ≤ es.length) : toldAt sf sz bg (es ++ [e]) i r = toldAt sf sz bg es i r := by
  unfold toldAt
  rw [last_old i h, List.take_append_of_le_length h]
  have := last_le es r i
  rw [scan_congr (es.take i) 0 (bg, []) fun j _ _ => cond_old (es := es) (e := e) (k := j) (b := lastBeg es r i) (by omega)]
theorem kept_old {sf : Bool} {sz bg : Int} {es : List Ev} {e : Ev} : ∀ (fs : List Ev) (k : Nat), k + fs.length ≤ es.length → keptG sf sz bg (es ++ [e]) k fs = keptG sf sz bg es k fs
  | [], _, _ => rfl
  | x :: fs, k, h => by
    rw [List.length_cons] at h
    show (okAt sf sz bg (es ++ [e]) k x && keptG sf sz bg (es ++ [e]) (k + 1) fs) = (okAt sf sz bg es k x && keptG sf sz bg es (k + 1) fs)
    rw [kept_old fs (k + 1) (by omega)]
    have : okAt sf sz bg (es ++ [e]) k x = okAt sf sz bg es k x := by
      cases x with
      | re r v => unfold okAt; dsimp only; rw [told_old (by omega)]
      | _ => rfl
    rw [this]
structure Ev.In (m : Nat) (sz : Int) (e : Ev) : Prop where
  h : e.hand ≤ m
  v : ∀ v, e.val = some v → 0 ≤ v ∧ v < sz
theorem inv_fits {sf : Bool} {sz bg : Int} {m : Nat} {es : List Ev} {k : C3} {e : Ev} (h1 : sz ≤ 10) (I : Inv sf sz bg m es k) (wf : gA G0 es e.hand = !e.beg) (ei : e.In m sz) : k.fits e := by
  cases e with
  | wb v => have := ei.v v rfl; show 0 ≤ v ∧ v < 10; omega
  | we =>
    have h2 := I.g0
    have wf : gA G0 es 0 = !false := wf
    rw [wf] at h2
    show k.c ≠ -1
    simpa using h2.symm
  | rb r => have := ei.h; show r < k.ts.length; rw [I.ok.n]; have : r + 1 ≤ m := this; omega
  | re r v =>
    have hr : r < k.ts.length := by rw [I.ok.n]; have : r + 1 ≤ m := ei.h; omega
    have wf : gA G0 es (r + 1) = !false := wf
    cases q : k.ts[r] with
    | none =>
      have := I.no r (by rw [List.getElem?_eq_getElem hr, q])
      rw [wf] at this
      cases this
    | some l => exact ⟨l, by rw [List.getElem?_eq_getElem hr, q]⟩
theorem fits_all {sf : Bool} {sz bg : Int} {m : Nat} (h1 : sz ≤ 10) : ∀ (es pre : List Ev) (k : C3), wfG G0 (pre ++ es) → (∀ e ∈ es, e.In m sz) → Inv sf sz bg m pre k → fitsAll sf sz m k es
  | [], _, _, _, _, _ => trivial
  | e :: es, pre, k, wf, ei, I => by
    obtain ⟨w1, w2, _⟩ := wf_app.mp wf
    have e0 := ei e (by simp)
    refine ⟨inv_fits h1 I w2 e0, fun k' hs => ?_⟩
    have I' := inv_step h1 I w2 e0.v e0.h hs
    exact ⟨I'.ok, fits_all h1 es (pre ++ [e]) k' (by simpa using wf) (fun x hx => ei x (by simp [hx])) I'⟩
theorem both {sf : Bool} {sz bg : Int} {m : Nat} (h1 : sz ≤ 10) (hm : m ≤ 3) (b0 : 0 ≤ bg) (b1 : bg < 10) : ∀ (es : List Ev), wfG G0 es → (∀ e ∈ es, e.In m sz) → keptG sf sz bg es 0 es = (runC sf sz (some (C3.start bg m)) es).isSome ∧ ∀ k, runC sf sz (some (C3.start bg m)) es = some k → Inv sf sz bg m es k := by
  refine ev_ind (fun _ _ => ⟨rfl, fun k h => by cases h; exact inv_start hm b0 b1⟩) fun es e ih wf ei => ?_
  obtain ⟨w1, w2, _⟩ := wf_app.mp wf
  obtain ⟨a1, a2⟩ := ih w1 fun x hx => ei x (by simp [hx])
  have e0 := ei e (by simp)
  rw [kept_snoc, kept_old es 0 (by omega), a1, run_snoc, Nat.zero_add]
  cases hr : runC sf sz (some (C3.start bg m)) es with
  | none => exact ⟨rfl, fun k h => by cases h⟩
  | some k =>
    have I := a2 k hr
    refine ⟨?_, fun k' h => inv_step h1 I w2 e0.v e0.h h⟩
    show (true && okAt sf sz bg (es ++ [e]) es.length e) = (k.step sf sz e).isSome
    rw [Bool.true_and]
    cases e with
    | wb v => rfl
    | we => rfl
    | rb r => rfl
    | re r v =>
      obtain ⟨l, hl⟩ := inv_fits h1 I w2 e0
      obtain ⟨hg, b, F, el⟩ := I.yes r l hl
      have et : toldAt sf sz bg (es ++ [.re r v]) es.length r = l := by
        rw [told_old (Nat.le_refl _), el]
        unfold toldAt
        rw [F.last, List.take_length]
      unfold okAt C3.step
      dsimp only
      rw [et, hl]
      dsimp only
      by_cases hv : v ∈ l
      · rw [if_pos hv, decide_eq_true hv]; rfl
      · rw [if_neg hv, decide_eq_false hv]; rfl
theorem judged_kept {sf : Bool} {sz bg : Int} {m : Nat} (h1 : sz ≤ 10) (hm : m ≤ 3) (b0 : 0 ≤ bg) (b1 : bg < 10) {es : List Ev} (wf : wfG G0 es) (ei : ∀ e ∈ es, e.In m sz) : judgeP sf sz (C3.start bg m) es = keptG sf sz bg es 0 es := by
  rw [run_judge, (both h1 hm b0 b1 es wf ei).1]
end K13
set_option maxHeartbeats 4000000
namespace K13
open PySem L2 Mi Ht
section
variable {μ μ1 μ2 μ3 μ4 μ' : Mh} {τ τ1 : Sl} {x0 d : D} {ds es : List D} {n : Nat}
theorem l_pow : pyPow (.int 10) (.int 9) μ = some (.int 1000000000, μ) := by
  show (if (0 : Int) ≤ 9 ∧ (9 : Int) ≤ 1000000 ∧ (10 : Int).natAbs < 2 ^ 64 then some (D.int ((10 : Int) ^ (9 : Int).toNat), μ) else none) = _
  rw [if_pos (by decide)]; rfl
theorem l_lenR (h : μ[n]? = some (.lst ds)) : lenF [.ref n] μ = some (.int ds.length, μ) := by
  unfold lenF
  simp only [h]
theorem ev_whT {mc : Sl → M Bool} {mb : Sl → M (Fl × Sl)} {r : Fl × Sl} {τ2 : Sl} {k : Nat} (h1 : mc τ μ = some (true, μ)) (h2 : mb τ μ = some ((.next, τ2), μ2)) (h3 : whGo mc mb k τ2 μ2 = some (r, μ3)) : whGo mc mb (k + 1) τ μ = some (r, μ3) := by
  unfold whGo
  rw [bnd_of h1, if_pos rfl, bnd_of h2]
  exact h3
theorem ev_whF {mc : Sl → M Bool} {mb : Sl → M (Fl × Sl)} {k : Nat} (h1 : mc τ μ = some (false, μ)) : whGo mc mb (k + 1) τ μ = some ((.next, τ), μ) := by
  unfold whGo
  rw [bnd_of h1]
  rfl
noncomputable abbrev strC : Sl → M Bool := (mAnd (mTest (mOp pyEq (mOp pyMod (mSlot 0) (mC (.int 2))) (mC (.int 0)))) (mAnd (mTest (mOp pyGt (mSlot 3) (mC (.int 0)))) (mTest (mOp pyLt (mDisp lenF (aCons (mSlot 2) aNil)) (mSlot 1)))))
noncomputable abbrev strB : Sl → M (Fl × Sl) := (sSeq (sExpr (mMethL appF (mSlot 2) (aCons (mOp pyMod (mSlot 3) (mOp pyPow (mC (.int 10)) (mC (.int 9)))) aNil)))
    (sAsg (mOp pyFdiv (mSlot 3) (mOp pyPow (mC (.int 10)) (mC (.int 9)))) (bName 3)))
theorem app1 {x : D} {S : Sl} {k : Nat} {me : Sl → M D} (h : S[k]? = some (some (.ref μ.length))) (hl : ds.length ≤ 1000) (he : me S (μ ++ [.lst ds]) = some (x, μ ++ [.lst ds])) : sExpr (mMethL appF (mSlot k) (aCons me aNil)) S (μ ++ [.lst ds]) = some ((.next, S), μ ++ [.lst (ds ++ [x])]) := by
  have hz := sz24
  refine ev_expr (d := .non) (ev_meth (x := .ref μ.length) (ds := [x]) (μ1 := μ ++ [.lst ds]) (μ2 := μ ++ [.lst ds]) (μ3 := μ ++ [.lst ds]) (ev_slot h) (l_guardAt g1) (pc he rfl) ?_)
  rw [l_appAt g1 (by omega), s1]
theorem str_while {c : Int} : ∃ (m : Int) (fs : List Int), fs.length ≤ 1 ∧ (∀ x ∈ fs, 0 ≤ x) ∧ sWhile fuel strC strB [some (.int c), some (.int 1), some (.ref μ.length), some (.int (c / 2)), none] (μ ++ [.lst []]) = some ((.next, [some (.int c), some (.int 1), some (.ref μ.length), some (.int m), none]), μ ++ [.lst (fs.map D.int)]) := by
  have hf : fuel = 1048574 + 1 + 1 := rfl
  have ta : ∀ (m : Int) (M : Mh), mTest (mOp pyEq (mOp pyMod (mSlot 0) (mC (.int 2))) (mC (.int 0))) [some (.int c), some (.int 1), some (.ref μ.length), some (.int m), none] M = some (c % 2 == 0, M) := fun m M => ev_test (po (x := .int (c % 2)) (y := .int 0) (po (x := .int c) (y := .int 2) rfl rfl (l_mod (by decide))) rfl l_eqI)
  have tb : ∀ (m : Int) (M : Mh), mTest (mOp pyGt (mSlot 3) (mC (.int 0))) [some (.int c), some (.int 1), some (.ref μ.length), some (.int m), none] M = some (decide (0 < m), M) := fun m M => ev_test (po (x := .int m) (y := .int 0) rfl rfl rfl)
  have tc : ∀ (m : Int) (fs : List D), mTest (mOp pyLt (mDisp lenF (aCons (mSlot 2) aNil)) (mSlot 1)) [some (.int c), some (.int 1), some (.ref μ.length), some (.int m), none] (μ ++ [.lst fs]) = some (decide ((fs.length : Int) < 1), μ ++ [.lst fs]) := fun m fs => ev_test (po (x := .int fs.length) (y := .int 1) (pd (ds := [.ref μ.length]) rfl (l_lenR g1)) rfl rfl)
  show ∃ m fs, _ ∧ _ ∧ whGo strC strB fuel _ _ = _
  rw [hf]
  by_cases h2 : c % 2 = 0
  · have ta' : ∀ (m : Int) (M : Mh), mTest (mOp pyEq (mOp pyMod (mSlot 0) (mC (.int 2))) (mC (.int 0))) [some (.int c), some (.int 1), some (.ref μ.length), some (.int m), none] M = some (true, M) := fun m M => (ta m M).trans (by rw [h2]; rfl)
    by_cases h3 : 0 < c / 2
    · refine ⟨c / 2 / 1000000000, [c / 2 % 1000000000], by simp, fun x hx => by rw [List.mem_singleton] at hx; subst hx; exact Int.emod_nonneg _ (by decide), ?_⟩
      refine ev_whT (μ2 := μ ++ [.lst [.int (c / 2 % 1000000000)]]) (τ2 := [some (.int c), some (.int 1), some (.ref μ.length), some (.int (c / 2 / 1000000000)), none]) (ev_andT (ta' _ _) (ev_andT ((tb _ _).trans (by rw [decide_eq_true h3])) (tc _ _))) (ev_seq (app1 (ds := []) (x := .int (c / 2 % 1000000000)) rfl (by simp) (po (x := .int (c / 2)) (y := .int 1000000000) rfl (po (x := .int 10) (y := .int 9) rfl rfl l_pow) (l_mod (by decide)))) (pa (po (x := .int (c / 2)) (y := .int 1000000000) rfl (po (x := .int 10) (y := .int 9) rfl rfl l_pow) (l_fdiv (by decide) (by decide))) rfl)) ?_
      by_cases h4 : 0 < c / 2 / 1000000000
      · exact ev_whF (ev_andT (ta' _ _) (ev_andT ((tb _ _).trans (by rw [decide_eq_true h4])) (tc _ _)))
      · exact ev_whF (ev_andT (ta' _ _) (ev_andF ((tb _ _).trans (by rw [decide_eq_false h4]))))
    · exact ⟨c / 2, [], by simp, by simp, ev_whF (ev_andT (ta' _ _) (ev_andF ((tb _ _).trans (by rw [decide_eq_false h3]))))⟩
  · exact ⟨c / 2, [], by simp, by simp, ev_whF (ev_andF ((ta _ _).trans (by rw [beq_eq_false_iff_ne.mpr h2])))⟩
theorem v_stream {c : Int} : ∃ x : Int, 0 ≤ x ∧ f__law_stream [.int c, .int 1] μ = some (.lst [.int x], μ) := by
  have hz := sz24
  obtain ⟨m, fs, h1, h2, wh⟩ := str_while (μ := μ) (c := c)
  let s0 : Int := (c / 2 + 7919) * 48271 % 2147483647
  have q0 : s0 = (c / 2 + 7919) * 48271 % 2147483647 := rfl
  have p0 : 0 ≤ s0 := Int.emod_nonneg _ (by decide)
  have p1 : s0 < 2147483647 := Int.emod_lt_of_pos _ (by decide)
  generalize s0 = s0 at q0 p0 p1
  let s1' : Int := s0 * (s0 / 1009 + 69621 + 0) % 2147483647
  have q1 : s1' = s0 * (s0 / 1009 + 69621 + 0) % 2147483647 := rfl
  have r0 : 0 ≤ s1' := Int.emod_nonneg _ (by decide)
  have r1 : s1' < 2147483647 := Int.emod_lt_of_pos _ (by decide)
  generalize s1' = s1' at q1 r0 r1
  let x1 : Int := s1' * (s1' / 127 + 40009) % 2147483629
  have q2 : x1 = s1' * (s1' / 127 + 40009) % 2147483629 := rfl
  have x0 : 0 ≤ x1 := Int.emod_nonneg _ (by decide)
  generalize x1 = x1 at q2 x0
  have hx : ∃ x : Int, 0 ≤ x ∧ cutD ((fs ++ [x1]).map D.int) none (some 1) = [.int x] := by
    cases fs with
    | nil => exact ⟨x1, x0, rfl⟩
    | cons y ys =>
      have hl : ys.length = 0 := by rw [List.length_cons] at h1; omega
      have : ys = [] := List.length_eq_zero_iff.mp hl
      subst this
      exact ⟨y, h2 y (by simp), rfl⟩
  obtain ⟨x, hx0, hcut⟩ := hx
  refine ⟨x, hx0, callF_pure (g := [.lst ((fs ++ [x1]).map D.int)]) (τ2 := [some (.int c), some (.int 1), some (.ref μ.length), some (.int (s1' + 1)), some (.int 0)]) ?_ rfl (by simp [Cl, ClL])⟩
  refine ev_seq (μ1 := μ ++ [.lst []]) (τ1 := [some (.int c), some (.int 1), some (.ref μ.length), none, none]) (ev_asg (d := .ref μ.length) (μ1 := μ ++ [.lst []]) (ev_disp (ds := []) (μ1 := μ) rfl ?_) rfl) ?_
  · unfold newB
    rw [bnd_of (show lim ([] : List D).length μ = some ((), μ) from by unfold lim; rw [if_pos (by simp)])]
  refine ev_seq (τ1 := [some (.int c), some (.int 1), some (.ref μ.length), some (.int (c / 2)), none]) (pa (po (x := .int c) (y := .int 2) rfl rfl (l_fdiv (by decide) (by decide))) rfl) (ev_seq wh ?_)
  refine ev_seq (τ1 := [some (.int c), some (.int 1), some (.ref μ.length), some (.int s0), none]) (pa (d := .int s0) (po (x := .int ((c / 2 + 7919) * 48271)) (y := .int 2147483647) (po (x := .int (c / 2 + 7919)) (y := .int 48271) (po (x := .int (c / 2)) (y := .int 7919) (po (x := .int c) (y := .int 2) rfl rfl (l_fdiv (by decide) (by decide))) rfl rfl) rfl (l_mul (.inr (by decide)))) rfl ?_) rfl) ?_
  · rw [l_mod (by decide), q0]
  have fr : mRng1 (aCons (mSlot 1) aNil) [some (.int c), some (.int 1), some (.ref μ.length), some (.int s0), none] (μ ++ [.lst (fs.map D.int)]) = some ([.int 0], μ ++ [.lst (fs.map D.int)]) := by
    unfold mRng1
    rw [bnd_of (show aCons (mSlot 1) aNil [some (.int c), some (.int 1), some (.ref μ.length), some (.int s0), none] (μ ++ [.lst (fs.map D.int)]) = some ([.int 1], μ ++ [.lst (fs.map D.int)]) from rfl)]
    unfold rng1F
    dsimp only
    rw [if_pos (by decide)]
    rfl
  refine ev_seq (μ1 := μ ++ [.lst ((fs ++ [x1]).map D.int)]) (τ1 := [some (.int c), some (.int 1), some (.ref μ.length), some (.int (s1' + 1)), some (.int 0)]) (ev_for fr (ev_forCons (τ1 := [some (.int c), some (.int 1), some (.ref μ.length), some (.int s0), some (.int 0)]) (μ1 := μ ++ [.lst (fs.map D.int)]) rfl ?_ rfl)) ?_
  · refine ev_seq (μ1 := μ ++ [.lst (fs.map D.int)]) (τ1 := [some (.int c), some (.int 1), some (.ref μ.length), some (.int s1'), some (.int 0)]) (pa (d := .int s1') (po (x := .int (s0 * (s0 / 1009 + 69621 + 0))) (y := .int 2147483647) (po (x := .int s0) (y := .int (s0 / 1009 + 69621 + 0)) rfl (po (x := .int (s0 / 1009 + 69621)) (y := .int 0) (po (x := .int (s0 / 1009)) (y := .int 69621) (po (x := .int s0) (y := .int 1009) rfl rfl (l_fdiv (by decide) (by decide))) rfl rfl) rfl rfl) (l_mul (.inl ⟨by omega, by omega⟩))) rfl ?_) rfl) (ev_seq (μ1 := μ ++ [.lst ((fs ++ [x1]).map D.int)]) (τ1 := [some (.int c), some (.int 1), some (.ref μ.length), some (.int s1'), some (.int 0)]) ?_ (pa (po (x := .int s1') (y := .int 1) rfl rfl rfl) rfl))
    · rw [l_mod (by decide), q1]
    · rw [List.map_append]
      refine app1 (ds := fs.map D.int) (x := .int x1) rfl (by rw [List.length_map]; omega) (po (x := .int (s1' * (s1' / 127 + 40009))) (y := .int 2147483629) (po (x := .int s1') (y := .int (s1' / 127 + 40009)) rfl (po (x := .int (s1' / 127)) (y := .int 40009) (po (x := .int s1') (y := .int 127) rfl rfl (l_fdiv (by decide) (by decide))) rfl rfl) (l_mul (.inl ⟨by omega, by omega⟩))) rfl ?_)
      rw [l_mod (by decide), q2]
  · refine ev_ret (ev_sl2 (x0 := .ref μ.length) (a := none) (b := some 1) (μ1 := μ ++ [.lst ((fs ++ [x1]).map D.int)]) (μ2 := μ ++ [.lst ((fs ++ [x1]).map D.int)]) (μ3 := μ ++ [.lst ((fs ++ [x1]).map D.int)]) rfl rfl rfl ?_)
    show bnd (asList (.ref μ.length)) (fun ds => Mi.ret (D.lst (cutD ds none (some 1)))) (μ ++ [MO.lst ((fs ++ [x1]).map D.int)]) = _
    rw [bnd_of (show asList (.ref μ.length) (μ ++ [.lst ((fs ++ [x1]).map D.int)]) = some ((fs ++ [x1]).map D.int, μ ++ [.lst ((fs ++ [x1]).map D.int)]) from by unfold asList; dsimp only; rw [g1])]
    show some (D.lst (cutD ((fs ++ [x1]).map D.int) none (some 1)), _) = _
    rw [hcut]
end
end K13
set_option maxHeartbeats 4000000
namespace K13
open PySem L2 Mi Ht
section
variable {μ μ1 μ2 μ3 μ4 μ' : Mh} {τ τ1 : Sl} {x0 d : D} {ds es : List D} {n : Nat}
variable {sf : Bool} {sz bg : Int} {ns : List Str}
noncomputable abbrev nL0 : List Str := ["w", "r", "s", "t"]
noncomputable abbrev nL1 : List Str := ["writer", "a", "ab", "b"]
noncomputable abbrev nL2 : List Str := ["z", "zz", "zzzzzzzz", "begin"]
theorem ns_take {L : List Str} (h1 : ∀ n ∈ L, PyData.strOk n = true) (h2 : L.Nodup) (h3 : L.length = 4) {j : Nat} (a : 2 ≤ j) (b : j ≤ 4) : Ns (L.take j) :=
  ⟨fun n hn => h1 n (List.mem_of_mem_take hn), h2.sublist (List.take_sublist _ _), by rw [List.length_take]; omega, by rw [List.length_take]; omega⟩
theorem three {x : Int} : ∃ L : List Str, L.length = 4 ∧ (∀ n ∈ L, PyData.strOk n = true) ∧ L.Nodup ∧ ∀ M : Mh, pyIx (.lst [.lst (nL0.map D.str), .lst (nL1.map D.str), .lst (nL2.map D.str)]) (.int (x % 3)) M = some (.lst (L.map D.str), M) := by
  have h0 : 0 ≤ x % 3 := Int.emod_nonneg _ (by decide)
  have h1 : x % 3 < 3 := Int.emod_lt_of_pos _ (by decide)
  rcases (show x % 3 = 0 ∨ x % 3 = 1 ∨ x % 3 = 2 by omega) with h | h | h <;> rw [h]
  · exact ⟨nL0, rfl, by decide +kernel, by decide +kernel, fun M => rfl⟩
  · exact ⟨nL1, rfl, by decide +kernel, by decide +kernel, fun M => rfl⟩
  · exact ⟨nL2, rfl, by decide +kernel, by decide +kernel, fun M => rfl⟩
theorem cl_mk {k : Nat} : Cl k (mkD sf sz bg ns) := by
  have := clL_map (k := k) (f := hdD) (fun n => by simp [hdD, Cl, ClL]) ns
  simp [mkD, Cl, ClL, this]
theorem v_making {x : Int} : ∃ (sz bg : Int) (ns : List Str), 2 ≤ sz ∧ sz ≤ 10 ∧ 0 ≤ bg ∧ bg < sz ∧ Ns ns ∧ f__law_making [.int x, .str (kdS sf)] μ = some (mkD sf sz bg ns, μ) := by
  have hz := sz24
  let s : Int := 2 + x / 4 % 9
  have qs : s = 2 + x / 4 % 9 := rfl
  have s0 : 2 ≤ s := by have := Int.emod_nonneg (x / 4) (show (9 : Int) ≠ 0 by decide); omega
  have s1 : s ≤ 10 := by have := Int.emod_lt_of_pos (x / 4) (show (0 : Int) < 9 by decide); omega
  generalize s = s at qs s0 s1
  have b0 : 0 ≤ x / 324 % s := Int.emod_nonneg _ (by omega)
  have b1 : x / 324 % s < s := Int.emod_lt_of_pos _ (by omega)
  obtain ⟨L, l4, lok, lnd, lix⟩ := three (x := x / 36)
  have t0 : 0 ≤ x / 108 % 3 := Int.emod_nonneg _ (by decide)
  have t1 : x / 108 % 3 < 3 := Int.emod_lt_of_pos _ (by decide)
  let j : Nat := (1 + (1 + x / 108 % 3)).toNat
  have qj : (j : Int) = 1 + (1 + x / 108 % 3) := by show (((1 + (1 + x / 108 % 3)).toNat : Nat) : Int) = _; omega
  generalize j = j at qj
  refine ⟨s, x / 324 % s, L.take j, s0, s1, b0, b1, ns_take lok lnd l4 (by omega) (by omega), ?_⟩
  refine callF_pure (g := []) (τ2 := [some (.int x), some (.str (kdS sf)), some (.int s), some (.lst (L.map D.str)), some (.int (1 + x / 108 % 3)), some (.lst ((L.take j).map hdD))]) ?_ rfl cl_mk
  rw [List.append_nil]
  refine pq (τ1 := [some (.int x), some (.str (kdS sf)), some (.int s), none, none, none]) (pa (d := .int s) (po (x := .int 2) (y := .int (x / 4 % 9)) rfl (po (x := .int (x / 4)) (y := .int 9) (po (x := .int x) (y := .int 4) rfl rfl (l_fdiv (by decide) (by decide))) rfl (l_mod (by decide))) (by rw [qs]; rfl)) rfl) ?_
  refine pq (τ1 := [some (.int x), some (.str (kdS sf)), some (.int s), some (.lst (L.map D.str)), none, none]) (pa (po (x := .lst [.lst (nL0.map D.str), .lst (nL1.map D.str), .lst (nL2.map D.str)]) (y := .int (x / 36 % 3)) ?_ (po (x := .int (x / 36)) (y := .int 3) (po (x := .int x) (y := .int 36) rfl rfl (l_fdiv (by decide) (by decide))) rfl (l_mod (by decide))) (lix μ)) rfl) ?_
  · exact pd (ds := [.lst (nL0.map D.str), .lst (nL1.map D.str), .lst (nL2.map D.str)]) (pc (pd (ds := nL0.map D.str) rfl (newL_eq (by simp; omega))) (pc (pd (ds := nL1.map D.str) rfl (newL_eq (by simp; omega))) (pc (pd (ds := nL2.map D.str) rfl (newL_eq (by simp; omega))) rfl))) (newL_eq (by simp; omega))
  refine pq (τ1 := [some (.int x), some (.str (kdS sf)), some (.int s), some (.lst (L.map D.str)), some (.int (1 + x / 108 % 3)), none]) (pa (po (x := .int 1) (y := .int (x / 108 % 3)) rfl (po (x := .int (x / 108)) (y := .int 3) (po (x := .int x) (y := .int 108) rfl rfl (l_fdiv (by decide) (by decide))) rfl (l_mod (by decide))) rfl) rfl) ?_
  refine pq (τ1 := [some (.int x), some (.str (kdS sf)), some (.int s), some (.lst (L.map D.str)), some (.int (1 + x / 108 % 3)), some (.lst ((L.take j).map hdD))]) (pa (ev_comp (ds := (L.take j).map D.str) (es := (L.take j).map hdD) (src_lst (p2 (x := .lst (L.map D.str)) (a := none) (b := some (1 + (1 + x / 108 % 3))) rfl rfl rfl ?_)) (by simp; omega) ?_ (newL_eq (by simp; omega))) rfl) ?_
  · show some (D.lst (cutD (L.map D.str) none (some (1 + (1 + x / 108 % 3)))), μ) = _
    rw [← qj, cut_to (α := .non) (by rw [List.length_map]; omega), List.map_take]
  · have := comp_f (μ := μ) (mc := mTrue) (me := (mDisp newT (aCons (mSlot 0) (aCons (mC (.int 0)) (aCons (mDisp newT aNil) aNil))))) (τ0 := [none]) (f := D.str) (F := hdD) (p := fun _ => true) (xs := L.take j) (ys := []) (fun _ _ => rfl) (fun t _ _ => pd (ds := [.str t, .int 0, .tup []]) (pc rfl (pc rfl (pc (pd (ds := []) rfl (newT_eq (by simp))) rfl))) (newT_eq (by simp; omega)))
    rw [all_true, List.nil_append] at this
    exact this
  · exact pr (pd (ds := [.str (kdS sf), .int s, .int (x / 324 % s), .tup [], .tup ((L.take j).map hdD)]) (pc rfl (pc rfl (pc (po (x := .int (x / 324)) (y := .int s) (po (x := .int x) (y := .int 324) rfl rfl (l_fdiv (by decide) (by decide))) rfl (l_mod (by omega))) (pc (pd (ds := []) rfl (newT_eq (by simp))) (pc rfl rfl))))) (newT_eq (by simp; omega)))
theorem v_worth {w : Nat} {ws : List Int} {y : Int} (hw : μ[w]? = some (.lst (ws.map D.int))) (hl : ws.length ≤ 1000) (h0 : 0 < sz) (b0 : 0 ≤ bg) (b1 : bg < sz) (hin : ∀ x ∈ ws, 0 ≤ x ∧ x < sz) : ∃ v : Int, 0 ≤ v ∧ v < sz ∧ f__law_worth [mkD sf sz bg ns, .ref w, .int y] μ = some (.int v, μ) := by
  have hz := sz24
  obtain ⟨zs, hzs, hmem, hlen⟩ : ∃ zs : List Int, cutD (ws.map D.int) (some (-3)) none = zs.map D.int ∧ (∀ x ∈ zs, x ∈ ws) ∧ zs.length ≤ ws.length := by
    unfold cutD
    refine ⟨(ws.drop (HT.sIx (ws.map D.int).length 0 (some (-3)))).take (HT.sIx (ws.map D.int).length (ws.map D.int).length none - HT.sIx (ws.map D.int).length 0 (some (-3))), by rw [List.map_take, List.map_drop], fun x hx => List.mem_of_mem_drop (List.mem_of_mem_take hx), ?_⟩
    rw [List.length_take, List.length_drop]
    omega
  have y0 : 0 ≤ y / 5 % sz := Int.emod_nonneg _ (by omega)
  have y1 : y / 5 % sz < sz := Int.emod_lt_of_pos _ h0
  have all : ∀ x ∈ zs ++ [y / 5 % sz, bg], 0 ≤ x ∧ x < sz := fun x hx => by
    rcases List.mem_append.mp hx with z | z
    · exact hin x (hmem x z)
    · simp at z
      rcases z with z | z
      · rw [z]; exact ⟨y0, y1⟩
      · rw [z]; exact ⟨b0, b1⟩
  have hne : 0 < (zs ++ [y / 5 % sz, bg]).length := by simp
  generalize hal : zs ++ [y / 5 % sz, bg] = al at all hne
  have i0 : 0 ≤ y % (al.length : Int) := Int.emod_nonneg _ (by omega)
  have i1 : y % (al.length : Int) < al.length := Int.emod_lt_of_pos _ (by omega)
  have hall : al.length ≤ 1002 := by rw [← hal]; simp; omega
  obtain ⟨i, hi⟩ : ∃ i : Nat, y % (al.length : Int) = i := ⟨(y % (al.length : Int)).toNat, by omega⟩
  have hi' : i < al.length := by omega
  refine ⟨al[i], (all _ (List.getElem_mem hi')).1, (all _ (List.getElem_mem hi')).2, ?_⟩
  refine callF_pure (g := []) (τ2 := [some (mkD sf sz bg ns), some (.ref w), some (.int y), some (.lst (al.map D.int))]) ?_ rfl (cl_int _ _)
  rw [List.append_nil]
  refine pq (τ1 := [some (mkD sf sz bg ns), some (.ref w), some (.int y), some (.lst (al.map D.int))]) (pa (d := .lst (al.map D.int)) (po (x := .lst (zs.map D.int)) (y := .lst [.int (y / 5 % sz), .int bg]) (p2 (x := .ref w) (a := some (-3)) (b := none) rfl (by exact ev_part (pn (x := .int 3) rfl rfl)) rfl ?_) (pd (ds := [.int (y / 5 % sz), .int bg]) (pc (po (x := .int (y / 5)) (y := .int sz) (po (x := .int y) (y := .int 5) rfl rfl (l_fdiv (by decide) (by decide))) (po (x := mkD sf sz bg ns) (y := .int 1) rfl rfl rfl) (l_mod h0)) rfl) (newL_eq (by simp; omega))) ?_) rfl) (pr (po (x := .lst (al.map D.int)) (y := .int (y % (al.length : Int))) rfl (po (x := .int y) (y := .int al.length) rfl (pd (ds := [.lst (al.map D.int)]) rfl ?_) (l_mod (by omega))) ?_))
  · show bnd (asList (.ref w)) (fun ds => Mi.ret (D.lst (cutD ds (some (-3)) none))) μ = _
    rw [bnd_of (show asList (.ref w) μ = some (ws.map D.int, μ) from by unfold asList; dsimp only; rw [hw])]
    show some (D.lst (cutD (ws.map D.int) (some (-3)) none), μ) = _
    rw [hzs]
  · rw [l_add2L (by simp; omega), ← hal, List.map_append]
    rfl
  · show some (D.int (((al.map D.int).length : Nat) : Int), μ) = _
    rw [List.length_map]
  · rw [hi]
    exact l_ixL (at_nat (by rw [List.getElem?_map, List.getElem?_eq_getElem hi']; rfl))
end
end K13
set_option maxHeartbeats 4000000
namespace K13
open PySem L2 Mi Ht
section
variable {μ μ1 μ2 μ3 μ4 μ' : Mh} {τ τ1 : Sl} {x0 d : D} {ds es : List D} {n : Nat}
variable {sf : Bool} {sz bg : Int} {ns : List Str}
theorem t3a {a b c : MO} : (μ ++ [a, b, c])[μ.length]? = some a := by rw [List.getElem?_append_right (Nat.le_refl _)]; simp
theorem t3b {a b c : MO} : (μ ++ [a, b, c])[μ.length + 1]? = some b := by rw [List.getElem?_append_right (by omega)]; simp
theorem t3c {a b c : MO} : (μ ++ [a, b, c])[μ.length + 2]? = some c := by rw [List.getElem?_append_right (by omega)]; simp
theorem u3a {a b c x : MO} : (μ ++ [a, b, c]).set μ.length x = μ ++ [x, b, c] := by rw [List.set_append_right _ _ (Nat.le_refl _)]; simp
theorem u3b {a b c x : MO} : (μ ++ [a, b, c]).set (μ.length + 1) x = μ ++ [a, x, c] := by rw [List.set_append_right _ _ (by omega)]; simp
theorem u3c {a b c x : MO} : (μ ++ [a, b, c]).set (μ.length + 2) x = μ ++ [a, b, x] := by rw [List.set_append_right _ _ (by omega)]; simp
theorem l_neS {x y : Str} (h1 : PyData.strOk x = true) (h2 : PyData.strOk y = true) : pyNe (.str x) (.str y) μ = some (.bl (!(x == y)), μ) := by
  show (if SeqAt.shaped (.str x) = true ∧ SeqAt.shaped (.str y) = true then some (D.bl (!(x == y)), μ) else none) = _
  rw [if_pos ⟨shaped_str h1, shaped_str h2⟩]
noncomputable abbrev bD (ns : List Str) (bs : List Nat) : List D := (bs.map (nm ns)).map D.str
theorem mem_nm (N : Ns ns) {bs : List Nat} (hb : ∀ h ∈ bs, h < ns.length) {h : Nat} (hh : h < ns.length) : nm ns h ∈ bs.map (nm ns) ↔ h ∈ bs := by
  constructor
  · intro z
    obtain ⟨k, hk, e⟩ := List.mem_map.mp z
    exact N.inj (hb k hk) hh e ▸ hk
  · exact fun z => List.mem_map.mpr ⟨h, z, rfl⟩
theorem l_busy (N : Ns ns) {bs : List Nat} (hb : ∀ h ∈ bs, h < ns.length) {h : Nat} (hh : h < ns.length) (hn : μ[n]? = some (.lst (bD ns bs))) : pyIn false (.str (nm ns h)) (.ref n) μ = some (.bl (decide (h ∈ bs)), μ) := by
  show inSeq false (.str (nm ns h)) (.ref n) μ = _
  rw [l_inS (xs := bs.map (nm ns)) (show asSeq1 (.ref n) μ = some (bD ns bs, μ) from by show (match μ[n]? with | some (.lst ds) => some (ds, μ) | _ => none) = _; rw [hn])]
  have : decide (nm ns h ∈ bs.map (nm ns)) = decide (h ∈ bs) := by
    by_cases z : h ∈ bs
    · rw [decide_eq_true z, decide_eq_true ((mem_nm N hb hh).mpr z)]
    · rw [decide_eq_false z, decide_eq_false fun y => z ((mem_nm N hb hh).mp y)]
  rw [this]
  rfl
theorem find_busy (N : Ns ns) : ∀ {bs : List Nat} {h : Nat}, (∀ k ∈ bs, k < ns.length) → h < ns.length → h ∈ bs → ∃ j, ((bs.map (nm ns)).map V.str).findIdx? (fun z => eqV z (V.str (nm ns h))) = some j ∧ bs.eraseIdx j = bs.erase h
  | [], h, _, _, hm => by cases hm
  | k :: bs, h, hb, hh, hm => by
    rw [List.map_cons, List.map_cons, List.findIdx?_cons]
    have ev : eqV (V.str (nm ns k)) (V.str (nm ns h)) = (k == h) := by
      show (nm ns k == nm ns h) = _
      exact nm_beq N (hb k (by simp)) hh
    rw [ev]
    by_cases e : k = h
    · subst e
      exact ⟨0, by simp, by simp⟩
    · have hm' : h ∈ bs := (List.mem_cons.mp hm).resolve_left fun z => e z.symm
      obtain ⟨j, h1, h2⟩ := find_busy N (fun x hx => hb x (by simp [hx])) hh hm'
      refine ⟨j + 1, ?_, ?_⟩
      · rw [beq_eq_false_iff_ne.mpr e, h1]; rfl
      · rw [List.eraseIdx_cons_succ, h2, List.erase_cons_tail (by simpa using e)]
theorem l_rem (N : Ns ns) {bs : List Nat} (hb : ∀ h ∈ bs, h < ns.length) {h : Nat} (hh : h < ns.length) (hm : h ∈ bs) (hn : μ[n]? = some (.lst (bD ns bs))) : remF (.ref n) [.str (nm ns h)] μ = some (.non, μ.set n (.lst (bD ns (bs.erase h)))) := by
  obtain ⟨j, h1, h2⟩ := find_busy N hb hh hm
  show updL n _ μ = _
  unfold updL
  rw [hn]
  have e1 : flatDs (bD ns bs) = some ((bs.map (nm ns)).map V.str) := flat_strs _
  show Option.map _ (match flatD (.str (nm ns h)), flatDs (bD ns bs) with
    | some y, some xs => (xs.findIdx? fun z => eqV z y).map fun j => (D.non, (bD ns bs).eraseIdx j)
    | _, _ => none) = _
  rw [e1]
  show Option.map _ ((((bs.map (nm ns)).map V.str).findIdx? fun z => eqV z (V.str (nm ns h))).map fun j => (D.non, (bD ns bs).eraseIdx j)) = _
  rw [h1]
  show some (D.non, μ.set n (.lst ((bD ns bs).eraseIdx j))) = _
  have e2 : (bD ns bs).eraseIdx j = bD ns (bs.erase h) := by
    rw [← h2]
    have em : ∀ {α β : Type} (f : α → β) (l : List α) (j : Nat), (l.map f).eraseIdx j = (l.eraseIdx j).map f := by
      intro α β f l
      induction l with
      | nil => intro j; simp
      | cons a l ih =>
        intro j
        cases j with
        | zero => rfl
        | succ j => rw [List.map_cons, List.eraseIdx_cons_succ, List.eraseIdx_cons_succ, List.map_cons, ih]
    show ((bs.map (nm ns)).map D.str).eraseIdx j = _
    rw [em, em]
  rw [e2]
noncomputable abbrev evB : Sl → M (Fl × Sl) := (sSeq (sAsg (mOp pyIx (mDisp f__law_stream (aCons (mSlot 6) (aCons (mC (.int 1)) aNil))) (mC (.int 0))) (bName 7))
    (sSeq (sAsg (mOp pyIx (mSlot 5) (mOp pyMod (mSlot 7) (mDisp lenF (aCons (mSlot 5) aNil)))) (bName 8))
    (sSeq (sIf (mTest (mOp pyEq (mOp pyMod (mOp pyFdiv (mSlot 7) (mC (.int 4))) (mC (.int 3))) (mC (.int 0)))) (sAsg (mOp pyIx (mSlot 5) (mC (.int 0))) (bName 8)) sNil)
    (sSeq (sAsg (mOp pyMod (mOp pyFdiv (mSlot 7) (mC (.int 60))) (mOp pyIx (mSlot 0) (mC (.int 1)))) (bName 9))
    (sSeq (sAsg (mDisp newT (aCons (mOp pyIx (mDisp newL (aCons (mC (.str "begin")) (aCons (mC (.str "end")) aNil))) (mDisp intF (aCons (mOp (pyIn false) (mSlot 8) (mSlot 2)) aNil))) (aCons (mSlot 8) aNil))) (bName 10))
    (sSeq (sIf (mAnd (mTest (mOp pyEq (mSlot 8) (mOp pyIx (mSlot 5) (mC (.int 0))))) (mTest (mOp pyEq (mOp pyIx (mSlot 10) (mC (.int 0))) (mC (.str "begin"))))) (sSeq (sAsg (mOp pyAdd2 (mSlot 10) (mDisp newT (aCons (mSlot 9) aNil))) (bName 10))
    (sExpr (mMethL appF (mSlot 4) (aCons (mSlot 9) aNil)))) sNil)
    (sSeq (sIf (mAnd (mTest (mOp pyNe (mSlot 8) (mOp pyIx (mSlot 5) (mC (.int 0))))) (mTest (mOp pyEq (mOp pyIx (mSlot 10) (mC (.int 0))) (mC (.str "end"))))) (sAsg (mOp pyAdd2 (mSlot 10) (mDisp newT (aCons (mDisp f__law_worth (aCons (mSlot 0) (aCons (mSlot 4) (aCons (mOp pyFdiv (mSlot 7) (mC (.int 60))) aNil)))) aNil))) (bName 10)) sNil)
    (sSeq (sExpr (mMethL appF (mSlot 3) (aCons (mSlot 10) aNil)))
    (sIf (mTest (mOp (pyIn false) (mSlot 8) (mSlot 2))) (sExpr (mMethL remF (mSlot 2) (aCons (mSlot 8) aNil))) (sExpr (mMethL appF (mSlot 2) (aCons (mSlot 8) aNil))))))))))))
structure Bsy (ns : List Str) (sz : Int) (es : List Ev) (bs : List Nat) (ws : List Int) : Prop where
  wf : wfG G0 es
  ok : ∀ e ∈ es, e.Ok ns sz
  lt : ∀ h ∈ bs, h < ns.length
  nd : bs.Nodup
  mem : ∀ h, decide (h ∈ bs) = gA G0 es h
  ws : ∀ x ∈ ws, 0 ≤ x ∧ x < sz
noncomputable abbrev sl6 (mk names : D) (cells : D) (L : Nat) (o6 o7 o8 o9 o10 : Option D) : Sl := [some mk, some cells, some (.ref L), some (.ref (L + 1)), some (.ref (L + 2)), some names, o6, o7, o8, o9, o10]
theorem ev_step (N : Ns ns) {c : Int} {cells : D} {es : List Ev} {bs : List Nat} {ws : List Int} {o7 o8 o9 o10 : Option D} (h0 : 2 ≤ sz) (h1 : sz ≤ 10) (b0 : 0 ≤ bg) (b1 : bg < sz) (B : Bsy ns sz es bs ws) (he : es.length ≤ 100) (hw : ws.length ≤ 100) (hb : bs.length ≤ 100) :
    ∃ (e : Ev) (bs' : List Nat) (ws' : List Int) (o7' o8' o9' o10' : Option D), Bsy ns sz (es ++ [e]) bs' ws' ∧ ws'.length ≤ ws.length + 1 ∧ bs'.length ≤ bs.length + 1 ∧
      evB (sl6 (mkD sf sz bg ns) (.lst (ns.map D.str)) cells μ.length (some (.int c)) o7 o8 o9 o10) (μ ++ [.lst (bD ns bs), .lst (es.map (evD ns)), .lst (ws.map D.int)]) =
        some ((.next, sl6 (mkD sf sz bg ns) (.lst (ns.map D.str)) cells μ.length (some (.int c)) o7' o8' o9' o10'), μ ++ [.lst (bD ns bs'), .lst ((es ++ [e]).map (evD ns)), .lst (ws'.map D.int)]) := by
  have hz := sz24
  have hlo := N.lo
  have hhi := N.hi
  obtain ⟨x, hx, ex⟩ := v_stream (μ := μ ++ [.lst (bD ns bs), .lst (es.map (evD ns)), .lst (ws.map D.int)]) (c := c)
  obtain ⟨h, hh, eh⟩ : ∃ h : Nat, h < ns.length ∧ ∀ (o8 o9 o10 : Option D) (M : Mh), sSeq (sAsg (mOp pyIx (mSlot 5) (mOp pyMod (mSlot 7) (mDisp lenF (aCons (mSlot 5) aNil)))) (bName 8)) (sIf (mTest (mOp pyEq (mOp pyMod (mOp pyFdiv (mSlot 7) (mC (.int 4))) (mC (.int 3))) (mC (.int 0)))) (sAsg (mOp pyIx (mSlot 5) (mC (.int 0))) (bName 8)) sNil) (sl6 (mkD sf sz bg ns) (.lst (ns.map D.str)) cells μ.length (some (.int c)) (some (.int x)) o8 o9 o10) M = some ((.next, sl6 (mkD sf sz bg ns) (.lst (ns.map D.str)) cells μ.length (some (.int c)) (some (.int x)) (some (.str (nm ns h))) o9 o10), M) := by
    have i0 : 0 ≤ x % (ns.length : Int) := Int.emod_nonneg _ (by omega)
    have i1 : x % (ns.length : Int) < ns.length := Int.emod_lt_of_pos _ (by omega)
    obtain ⟨i, hi⟩ : ∃ i : Nat, x % (ns.length : Int) = i := ⟨(x % (ns.length : Int)).toNat, by omega⟩
    have hi' : i < ns.length := by omega
    have gn : ∀ k, k < ns.length → (ns.map D.str)[k]? = some (D.str (nm ns k)) := fun k hk => by
      rw [List.getElem?_map, List.getElem?_eq_getElem hk]
      simp [nm, hk]
    have a1 : ∀ (o8 o9 o10 : Option D) (M : Mh), sAsg (mOp pyIx (mSlot 5) (mOp pyMod (mSlot 7) (mDisp lenF (aCons (mSlot 5) aNil)))) (bName 8) (sl6 (mkD sf sz bg ns) (.lst (ns.map D.str)) cells μ.length (some (.int c)) (some (.int x)) o8 o9 o10) M = some ((.next, sl6 (mkD sf sz bg ns) (.lst (ns.map D.str)) cells μ.length (some (.int c)) (some (.int x)) (some (.str (nm ns i))) o9 o10), M) := fun o8 o9 o10 M =>
      pa (po (x := .lst (ns.map D.str)) (y := .int (x % (ns.length : Int))) rfl (po (x := .int x) (y := .int ns.length) rfl (pd (ds := [.lst (ns.map D.str)]) rfl (by show some (D.int (((ns.map D.str).length : Nat) : Int), M) = _; rw [List.length_map])) (l_mod (by omega))) (by rw [hi]; exact l_ixL (at_nat (gn i hi')))) rfl
    have a2 : ∀ (o8 o9 o10 : Option D) (M : Mh), mTest (mOp pyEq (mOp pyMod (mOp pyFdiv (mSlot 7) (mC (.int 4))) (mC (.int 3))) (mC (.int 0))) (sl6 (mkD sf sz bg ns) (.lst (ns.map D.str)) cells μ.length (some (.int c)) (some (.int x)) o8 o9 o10) M = some (x / 4 % 3 == 0, M) := fun o8 o9 o10 M => ev_test (po (x := .int (x / 4 % 3)) (y := .int 0) (po (x := .int (x / 4)) (y := .int 3) (po (x := .int x) (y := .int 4) rfl rfl (l_fdiv (by decide) (by decide))) rfl (l_mod (by decide))) rfl l_eqI)
    by_cases q : x / 4 % 3 = 0
    · refine ⟨0, by omega, fun o8 o9 o10 M => pq (a1 _ _ _ _) (piT ((a2 _ _ _ _).trans (by rw [q]; rfl)) (pa (po (x := .lst (ns.map D.str)) (y := .int 0) rfl rfl (l_ixL (at_nat (r := 0) (gn 0 (by omega))))) rfl))⟩
    · exact ⟨i, hi', fun o8 o9 o10 M => pq (a1 _ _ _ _) (piF ((a2 _ _ _ _).trans (by rw [beq_eq_false_iff_ne.mpr q])) rfl)⟩
  have w0 : 0 ≤ x / 60 % sz := Int.emod_nonneg _ (by omega)
  have w1 : x / 60 % sz < sz := Int.emod_lt_of_pos _ (by omega)
  have g0 : (ns.map D.str)[0]? = some (D.str (nm ns 0)) := by
    rw [List.getElem?_map, List.getElem?_eq_getElem (by omega)]
    simp [nm, show 0 < ns.length by omega]
  generalize hg : decide (h ∈ bs) = g
  have hga : gA G0 es h = g := by rw [← B.mem, hg]
  have T1 : ∀ (o9 : Option D) (M : Mh), mAnd (mTest (mOp pyEq (mSlot 8) (mOp pyIx (mSlot 5) (mC (.int 0))))) (mTest (mOp pyEq (mOp pyIx (mSlot 10) (mC (.int 0))) (mC (.str "begin")))) (sl6 (mkD sf sz bg ns) (.lst (ns.map D.str)) cells μ.length (some (.int c)) (some (.int x)) (some (.str (nm ns h))) o9 (some (.tup [.str (bS (!g)), .str (nm ns h)]))) M = some ((h == 0) && !g, M) := fun o9 M => by
    have a : mTest (mOp pyEq (mSlot 8) (mOp pyIx (mSlot 5) (mC (.int 0)))) (sl6 (mkD sf sz bg ns) (.lst (ns.map D.str)) cells μ.length (some (.int c)) (some (.int x)) (some (.str (nm ns h))) o9 (some (.tup [.str (bS (!g)), .str (nm ns h)]))) M = some (h == 0, M) := ev_test (po (x := .str (nm ns h)) (y := .str (nm ns 0)) rfl (po (x := .lst (ns.map D.str)) (y := .int 0) rfl rfl (l_ixL (at_nat (r := 0) g0))) (l_name N hh (by omega)))
    have b : mTest (mOp pyEq (mOp pyIx (mSlot 10) (mC (.int 0))) (mC (.str "begin"))) (sl6 (mkD sf sz bg ns) (.lst (ns.map D.str)) cells μ.length (some (.int c)) (some (.int x)) (some (.str (nm ns h))) o9 (some (.tup [.str (bS (!g)), .str (nm ns h)]))) M = some (!g, M) := ev_test (po (x := .str (bS (!g))) (y := .str "begin") rfl rfl l_beg)
    cases hq : (h == 0) with
    | true => rw [hq] at a; exact ev_andT a b
    | false => rw [hq] at a; exact ev_andF a
  have T2 : ∀ (o9 : Option D) (t : List D) (M : Mh), mAnd (mTest (mOp pyNe (mSlot 8) (mOp pyIx (mSlot 5) (mC (.int 0))))) (mTest (mOp pyEq (mOp pyIx (mSlot 10) (mC (.int 0))) (mC (.str "end")))) (sl6 (mkD sf sz bg ns) (.lst (ns.map D.str)) cells μ.length (some (.int c)) (some (.int x)) (some (.str (nm ns h))) o9 (some (.tup (.str (bS (!g)) :: t)))) M = some (!(h == 0) && g, M) := fun o9 t M => by
    have a : mTest (mOp pyNe (mSlot 8) (mOp pyIx (mSlot 5) (mC (.int 0)))) (sl6 (mkD sf sz bg ns) (.lst (ns.map D.str)) cells μ.length (some (.int c)) (some (.int x)) (some (.str (nm ns h))) o9 (some (.tup (.str (bS (!g)) :: t)))) M = some (!(h == 0), M) := ev_test (po (x := .str (nm ns h)) (y := .str (nm ns 0)) rfl (po (x := .lst (ns.map D.str)) (y := .int 0) rfl rfl (l_ixL (at_nat (r := 0) g0))) (by rw [l_neS (N.nok hh) (N.nok (by omega)), nm_beq N hh (by omega)]))
    have b : mTest (mOp pyEq (mOp pyIx (mSlot 10) (mC (.int 0))) (mC (.str "end"))) (sl6 (mkD sf sz bg ns) (.lst (ns.map D.str)) cells μ.length (some (.int c)) (some (.int x)) (some (.str (nm ns h))) o9 (some (.tup (.str (bS (!g)) :: t)))) M = some (g, M) := ev_test (po (x := .str (bS (!g))) (y := .str "end") (po (x := .tup (.str (bS (!g)) :: t)) (y := .int 0) rfl rfl (l_ixT (at_nat (r := 0) rfl))) rfl (by rw [l_end, Bool.not_not]))
    cases hq : (h == 0) with
    | true => rw [hq] at a; exact ev_andF a
    | false => rw [hq] at a; exact ev_andT a b
  have fin : ∀ (e : Ev) (ws' : List Int) (o9 : Option D), e.hand = h → e.beg = !g → e.Ok ns sz → ws'.length ≤ ws.length + 1 → (∀ x ∈ ws', 0 ≤ x ∧ x < sz) → ∃ bs' : List Nat, Bsy ns sz (es ++ [e]) bs' ws' ∧ bs'.length ≤ bs.length + 1 ∧
      (sSeq (sExpr (mMethL appF (mSlot 3) (aCons (mSlot 10) aNil))) (sIf (mTest (mOp (pyIn false) (mSlot 8) (mSlot 2))) (sExpr (mMethL remF (mSlot 2) (aCons (mSlot 8) aNil))) (sExpr (mMethL appF (mSlot 2) (aCons (mSlot 8) aNil))))) (sl6 (mkD sf sz bg ns) (.lst (ns.map D.str)) cells μ.length (some (.int c)) (some (.int x)) (some (.str (nm ns h))) o9 (some (evD ns e))) (μ ++ [.lst (bD ns bs), .lst (es.map (evD ns)), .lst (ws'.map D.int)]) =
        some ((.next, sl6 (mkD sf sz bg ns) (.lst (ns.map D.str)) cells μ.length (some (.int c)) (some (.int x)) (some (.str (nm ns h))) o9 (some (evD ns e))), μ ++ [.lst (bD ns bs'), .lst ((es ++ [e]).map (evD ns)), .lst (ws'.map D.int)]) := fun e ws' o9 he1 he2 heo hwl hwi => by
    have wf' : wfG G0 (es ++ [e]) := wf_app.mpr ⟨B.wf, by rw [he1, hga, he2, Bool.not_not], trivial⟩
    have ok' : ∀ e' ∈ es ++ [e], e'.Ok ns sz := fun e' h' => (List.mem_append.mp h').elim (B.ok e') fun z => by rw [List.mem_singleton] at z; subst z; exact heo
    have ap : sExpr (mMethL appF (mSlot 3) (aCons (mSlot 10) aNil)) (sl6 (mkD sf sz bg ns) (.lst (ns.map D.str)) cells μ.length (some (.int c)) (some (.int x)) (some (.str (nm ns h))) o9 (some (evD ns e))) (μ ++ [.lst (bD ns bs), .lst (es.map (evD ns)), .lst (ws'.map D.int)]) = some ((.next, sl6 (mkD sf sz bg ns) (.lst (ns.map D.str)) cells μ.length (some (.int c)) (some (.int x)) (some (.str (nm ns h))) o9 (some (evD ns e))), μ ++ [.lst (bD ns bs), .lst ((es ++ [e]).map (evD ns)), .lst (ws'.map D.int)]) := by
      refine ev_expr (d := .non) (ev_meth (x := .ref (μ.length + 1)) (ds := [evD ns e]) (μ1 := μ ++ [.lst (bD ns bs), .lst (es.map (evD ns)), .lst (ws'.map D.int)]) (μ2 := μ ++ [.lst (bD ns bs), .lst (es.map (evD ns)), .lst (ws'.map D.int)]) (μ3 := μ ++ [.lst (bD ns bs), .lst (es.map (evD ns)), .lst (ws'.map D.int)]) rfl (l_guardAt t3b) rfl ?_)
      rw [l_appAt t3b (by rw [List.length_map]; omega), u3b, List.map_append]
      rfl
    have ti : mTest (mOp (pyIn false) (mSlot 8) (mSlot 2)) (sl6 (mkD sf sz bg ns) (.lst (ns.map D.str)) cells μ.length (some (.int c)) (some (.int x)) (some (.str (nm ns h))) o9 (some (evD ns e))) (μ ++ [.lst (bD ns bs), .lst ((es ++ [e]).map (evD ns)), .lst (ws'.map D.int)]) = some (g, μ ++ [.lst (bD ns bs), .lst ((es ++ [e]).map (evD ns)), .lst (ws'.map D.int)]) :=
      ev_test (po (x := .str (nm ns h)) (y := .ref μ.length) rfl rfl (by rw [l_busy N B.lt hh t3a, hg]))
    cases g with
    | true =>
      have hm : h ∈ bs := of_decide_eq_true hg
      refine ⟨bs.erase h, ⟨wf', ok', fun k hk => B.lt k (List.mem_of_mem_erase hk), B.nd.erase h, fun k => ?_, hwi⟩, Nat.le_succ_of_le (List.length_erase_le ..), ev_seq ap (ev_ifT ti (ev_expr (d := .non) (ev_meth (x := .ref μ.length) (ds := [.str (nm ns h)]) (μ1 := μ ++ [.lst (bD ns bs), .lst ((es ++ [e]).map (evD ns)), .lst (ws'.map D.int)]) (μ2 := μ ++ [.lst (bD ns bs), .lst ((es ++ [e]).map (evD ns)), .lst (ws'.map D.int)]) (μ3 := μ ++ [.lst (bD ns bs), .lst ((es ++ [e]).map (evD ns)), .lst (ws'.map D.int)]) rfl (l_guardAt t3a) rfl (by rw [l_rem N B.lt hh hm t3a, u3a]))))⟩
      rw [gA_snoc]
      unfold gS
      rw [he1, he2]
      by_cases e0 : k = h
      · subst e0
        rw [if_pos rfl, decide_eq_false (B.nd.not_mem_erase)]
        rfl
      · rw [if_neg e0, ← B.mem]
        have := List.mem_erase_of_ne (l := bs) e0
        by_cases z : k ∈ bs
        · rw [decide_eq_true z, decide_eq_true (this.mpr z)]
        · rw [decide_eq_false z, decide_eq_false fun y => z (this.mp y)]
    | false =>
      have hm : h ∉ bs := of_decide_eq_false hg
      refine ⟨bs ++ [h], ⟨wf', ok', fun k hk => (List.mem_append.mp hk).elim (B.lt k) fun z => by rw [List.mem_singleton] at z; subst z; exact hh, ?_, fun k => ?_, hwi⟩, by simp, ev_seq ap (ev_ifF ti (ev_expr (d := .non) (ev_meth (x := .ref μ.length) (ds := [.str (nm ns h)]) (μ1 := μ ++ [.lst (bD ns bs), .lst ((es ++ [e]).map (evD ns)), .lst (ws'.map D.int)]) (μ2 := μ ++ [.lst (bD ns bs), .lst ((es ++ [e]).map (evD ns)), .lst (ws'.map D.int)]) (μ3 := μ ++ [.lst (bD ns bs), .lst ((es ++ [e]).map (evD ns)), .lst (ws'.map D.int)]) rfl (l_guardAt t3a) rfl (by rw [l_appAt t3a (by simp; omega), u3a]; simp))))⟩
      · rw [List.nodup_append]
        refine ⟨B.nd, by simp, fun a ha b hb' => ?_⟩
        rw [List.mem_singleton] at hb'
        subst hb'
        exact fun z => hm (z ▸ ha)
      · rw [gA_snoc]
        unfold gS
        rw [he1, he2]
        by_cases e0 : k = h
        · subst e0
          rw [if_pos rfl]
          simp
        · rw [if_neg e0, ← B.mem]
          simp [e0]
  have first : ∀ {r : Fl × Sl} {M2 : Mh}, (sSeq (sIf (mAnd (mTest (mOp pyEq (mSlot 8) (mOp pyIx (mSlot 5) (mC (.int 0))))) (mTest (mOp pyEq (mOp pyIx (mSlot 10) (mC (.int 0))) (mC (.str "begin"))))) (sSeq (sAsg (mOp pyAdd2 (mSlot 10) (mDisp newT (aCons (mSlot 9) aNil))) (bName 10))
    (sExpr (mMethL appF (mSlot 4) (aCons (mSlot 9) aNil)))) sNil)
    (sSeq (sIf (mAnd (mTest (mOp pyNe (mSlot 8) (mOp pyIx (mSlot 5) (mC (.int 0))))) (mTest (mOp pyEq (mOp pyIx (mSlot 10) (mC (.int 0))) (mC (.str "end"))))) (sAsg (mOp pyAdd2 (mSlot 10) (mDisp newT (aCons (mDisp f__law_worth (aCons (mSlot 0) (aCons (mSlot 4) (aCons (mOp pyFdiv (mSlot 7) (mC (.int 60))) aNil)))) aNil))) (bName 10)) sNil)
    (sSeq (sExpr (mMethL appF (mSlot 3) (aCons (mSlot 10) aNil)))
    (sIf (mTest (mOp (pyIn false) (mSlot 8) (mSlot 2))) (sExpr (mMethL remF (mSlot 2) (aCons (mSlot 8) aNil))) (sExpr (mMethL appF (mSlot 2) (aCons (mSlot 8) aNil))))))) (sl6 (mkD sf sz bg ns) (.lst (ns.map D.str)) cells μ.length (some (.int c)) (some (.int x)) (some (.str (nm ns h))) (some (.int (x / 60 % sz))) (some (.tup [.str (bS (!g)), .str (nm ns h)]))) (μ ++ [.lst (bD ns bs), .lst (es.map (evD ns)), .lst (ws.map D.int)]) = some (r, M2) →
      evB (sl6 (mkD sf sz bg ns) (.lst (ns.map D.str)) cells μ.length (some (.int c)) o7 o8 o9 o10) (μ ++ [.lst (bD ns bs), .lst (es.map (evD ns)), .lst (ws.map D.int)]) = some (r, M2) := fun {r M2} rest => by
    have e8 := eh o8 o9 o10 (μ ++ [.lst (bD ns bs), .lst (es.map (evD ns)), .lst (ws.map D.int)])
    refine ev_seq (pa (d := .int x) (po (x := .lst [.int x]) (y := .int 0) (pd (ds := [.int c, .int 1]) rfl ex) rfl rfl) rfl) ?_
    have split2 : ∀ {A B C : Sl → M (Fl × Sl)} {S S2 : Sl} {M : Mh} {r : Fl × Sl} {M2 : Mh}, sSeq A B S M = some ((.next, S2), M) → C S2 M = some (r, M2) → sSeq A (sSeq B C) S M = some (r, M2) := fun {A B C S S2 M r M2} p q => by
      unfold sSeq at p ⊢
      cases hA : A S M with
      | none =>
        have : bnd (A S) (fun r => match r.1 with | .next => B r.2 | f => Mi.ret (f, r.2)) M = none := by unfold bnd; rw [hA]
        rw [show (bnd (A S) (fun r => match r.1 with | .next => B r.2 | f => Mi.ret (f, r.2)) M) = some ((.next, S2), M) from p] at this
        cases this
      | some w =>
        obtain ⟨⟨f, S1⟩, M1⟩ := w
        rw [bnd_of hA] at p ⊢
        cases f with
        | next =>
          have p : B S1 M1 = some ((.next, S2), M) := p
          show bnd (B S1) _ M1 = _
          rw [bnd_of p]
          exact q
        | cont => cases p
        | brk => cases p
        | rt d => cases p
    refine split2 e8 (ev_seq (τ1 := sl6 (mkD sf sz bg ns) (.lst (ns.map D.str)) cells μ.length (some (.int c)) (some (.int x)) (some (.str (nm ns h))) (some (.int (x / 60 % sz))) o10) (pa (d := .int (x / 60 % sz)) (po (x := .int (x / 60)) (y := .int sz) (po (x := .int x) (y := .int 60) rfl rfl (l_fdiv (by decide) (by decide))) (po (x := mkD sf sz bg ns) (y := .int 1) rfl rfl rfl) (l_mod (by omega))) rfl) (ev_seq (τ1 := sl6 (mkD sf sz bg ns) (.lst (ns.map D.str)) cells μ.length (some (.int c)) (some (.int x)) (some (.str (nm ns h))) (some (.int (x / 60 % sz))) (some (.tup [.str (bS (!g)), .str (nm ns h)]))) (pa (pd (ds := [.str (bS (!g)), .str (nm ns h)]) (pc (po (x := .lst [.str "begin", .str "end"]) (y := .int (if g then 1 else 0)) (pd (ds := [.str "begin", .str "end"]) rfl (newL_eq (by simp; omega))) (pd (ds := [.bl g]) (pc (po (x := .str (nm ns h)) (y := .ref μ.length) rfl rfl (by rw [l_busy N B.lt hh t3a, hg])) rfl) rfl) ?_) rfl) (newT_eq (by simp; omega))) rfl) rest))
    cases g <;> rfl
  cases h with
  | zero =>
    cases g with
    | false =>
      obtain ⟨bs', B', hbl, ef⟩ := fin (.wb (x / 60 % sz)) (ws ++ [x / 60 % sz]) (some (.int (x / 60 % sz))) rfl rfl ⟨hh, fun v hv => by cases hv; exact ⟨w0, w1⟩⟩ (by simp) (fun y hy => (List.mem_append.mp hy).elim (B.ws y) fun z => by rw [List.mem_singleton] at z; subst z; exact ⟨w0, w1⟩)
      refine ⟨.wb (x / 60 % sz), bs', ws ++ [x / 60 % sz], _, _, _, _, B', by simp, hbl, first (ev_seq (μ1 := μ ++ [.lst (bD ns bs), .lst (es.map (evD ns)), .lst ((ws ++ [x / 60 % sz]).map D.int)]) (τ1 := sl6 (mkD sf sz bg ns) (.lst (ns.map D.str)) cells μ.length (some (.int c)) (some (.int x)) (some (.str (nm ns 0))) (some (.int (x / 60 % sz))) (some (evD ns (.wb (x / 60 % sz))))) (ev_ifT (T1 _ _) (ev_seq (μ1 := μ ++ [.lst (bD ns bs), .lst (es.map (evD ns)), .lst (ws.map D.int)]) (τ1 := sl6 (mkD sf sz bg ns) (.lst (ns.map D.str)) cells μ.length (some (.int c)) (some (.int x)) (some (.str (nm ns 0))) (some (.int (x / 60 % sz))) (some (evD ns (.wb (x / 60 % sz))))) (pa (d := evD ns (.wb (x / 60 % sz))) (po (x := .tup [.str (bS true), .str (nm ns 0)]) (y := .tup [.int (x / 60 % sz)]) rfl (pd (ds := [.int (x / 60 % sz)]) rfl (newT_eq (by simp; omega))) (l_add2T (by simp; omega))) rfl) (ev_expr (d := .non) (ev_meth (x := .ref (μ.length + 2)) (ds := [.int (x / 60 % sz)]) (μ1 := μ ++ [.lst (bD ns bs), .lst (es.map (evD ns)), .lst (ws.map D.int)]) (μ2 := μ ++ [.lst (bD ns bs), .lst (es.map (evD ns)), .lst (ws.map D.int)]) (μ3 := μ ++ [.lst (bD ns bs), .lst (es.map (evD ns)), .lst (ws.map D.int)]) rfl (l_guardAt t3c) rfl ?_)))) (ev_seq (ev_ifF (T2 _ _ _) rfl) ef))⟩
      rw [l_appAt t3c (by rw [List.length_map]; omega), u3c, List.map_append]
      rfl
    | true =>
      obtain ⟨bs', B', hbl, ef⟩ := fin .we ws (some (.int (x / 60 % sz))) rfl rfl ⟨hh, fun v hv => by cases hv⟩ (by omega) B.ws
      exact ⟨.we, bs', ws, _, _, _, _, B', by omega, hbl, first (ev_seq (ev_ifF (T1 _ _) rfl) (ev_seq (ev_ifF (T2 _ _ _) rfl) ef))⟩
  | succ r =>
    cases g with
    | false =>
      obtain ⟨bs', B', hbl, ef⟩ := fin (.rb r) ws (some (.int (x / 60 % sz))) rfl rfl ⟨hh, fun v hv => by cases hv⟩ (by omega) B.ws
      exact ⟨.rb r, bs', ws, _, _, _, _, B', by omega, hbl, first (ev_seq (ev_ifF (T1 _ _) rfl) (ev_seq (ev_ifF (T2 _ _ _) rfl) ef))⟩
    | true =>
      obtain ⟨v, v0, v1, ev⟩ := v_worth (μ := μ ++ [.lst (bD ns bs), .lst (es.map (evD ns)), .lst (ws.map D.int)]) (sf := sf) (sz := sz) (bg := bg) (ns := ns) (w := μ.length + 2) (ws := ws) (y := x / 60) t3c (by omega) (by omega) b0 b1 B.ws
      obtain ⟨bs', B', hbl, ef⟩ := fin (.re r v) ws (some (.int (x / 60 % sz))) rfl rfl ⟨hh, fun v' hv => by cases hv; exact ⟨v0, v1⟩⟩ (by omega) B.ws
      refine ⟨.re r v, bs', ws, _, _, _, _, B', by omega, hbl, first (ev_seq (ev_ifF (T1 _ _) rfl) (ev_seq (μ1 := μ ++ [.lst (bD ns bs), .lst (es.map (evD ns)), .lst (ws.map D.int)]) (τ1 := sl6 (mkD sf sz bg ns) (.lst (ns.map D.str)) cells μ.length (some (.int c)) (some (.int x)) (some (.str (nm ns (r + 1)))) (some (.int (x / 60 % sz))) (some (evD ns (.re r v)))) (ev_ifT (T2 _ _ _) (pa (d := evD ns (.re r v)) (po (x := .tup [.str (bS false), .str (nm ns (r + 1))]) (y := .tup [.int v]) rfl (pd (ds := [.int v]) (pc (pd (ds := [mkD sf sz bg ns, .ref (μ.length + 2), .int (x / 60)]) (pc rfl (pc rfl (pc (po (x := .int x) (y := .int 60) rfl rfl (l_fdiv (by decide) (by decide))) rfl))) ev) rfl) (newT_eq (by simp; omega))) (l_add2T (by simp; omega))) rfl)) ef))⟩
end
end K13
set_option maxHeartbeats 4000000
namespace K13
open PySem L2 Mi Ht
section
variable {μ μ1 μ2 μ3 μ4 μ' : Mh} {τ τ1 : Sl} {x0 d : D} {ds : List D} {n : Nat}
variable {sf : Bool} {sz bg : Int} {ns : List Str}
theorem evs_go (N : Ns ns) {cells : D} (h0 : 2 ≤ sz) (h1 : sz ≤ 10) (b0 : 0 ≤ bg) (b1 : bg < sz) : ∀ (cs : List Int) (es : List Ev) (bs : List Nat) (ws : List Int) (o6 o7 o8 o9 o10 : Option D), Bsy ns sz es bs ws → es.length + cs.length ≤ 60 → ws.length + cs.length ≤ 90 → bs.length + cs.length ≤ 90 →
    ∃ (es' : List Ev) (bs' : List Nat) (ws' : List Int) (o6' o7' o8' o9' o10' : Option D), Bsy ns sz es' bs' ws' ∧ es'.length = es.length + cs.length ∧
      forGo (bName 6) evB (cs.map D.int) (sl6 (mkD sf sz bg ns) (.lst (ns.map D.str)) cells μ.length o6 o7 o8 o9 o10) (μ ++ [.lst (bD ns bs), .lst (es.map (evD ns)), .lst (ws.map D.int)]) =
        some ((.next, sl6 (mkD sf sz bg ns) (.lst (ns.map D.str)) cells μ.length o6' o7' o8' o9' o10'), μ ++ [.lst (bD ns bs'), .lst (es'.map (evD ns)), .lst (ws'.map D.int)])
  | [], es, bs, ws, o6, o7, o8, o9, o10, B, _, _, _ => ⟨es, bs, ws, o6, o7, o8, o9, o10, B, rfl, rfl⟩
  | c :: cs, es, bs, ws, o6, o7, o8, o9, o10, B, l1, l2, l3 => by
    rw [List.length_cons] at l1 l2 l3
    obtain ⟨e, bs1, ws1, p7, p8, p9, p10, B1, m1, m2, st⟩ := ev_step (μ := μ) (sf := sf) N (c := c) (cells := cells) (o7 := o7) (o8 := o8) (o9 := o9) (o10 := o10) h0 h1 b0 b1 B (by omega) (by omega) (by omega)
    obtain ⟨es', bs', ws', q6, q7, q8, q9, q10, B', hl, go⟩ := evs_go N (cells := cells) h0 h1 b0 b1 cs (es ++ [e]) bs1 ws1 (some (.int c)) p7 p8 p9 p10 B1 (by simp; omega) (by omega) (by omega)
    refine ⟨es', bs', ws', q6, q7, q8, q9, q10, B', by rw [hl]; simp; omega, ?_⟩
    exact ev_forCons (x := .int c) rfl st go
theorem cl_ev {k : Nat} (e : Ev) : Cl k (evD ns e) := by cases e <;> simp [evD, Ev.val, Cl, ClL]
theorem v_events (N : Ns ns) {cs : List Int} (h0 : 2 ≤ sz) (h1 : sz ≤ 10) (b0 : 0 ≤ bg) (b1 : bg < sz) (hc : cs.length ≤ 30) : ∃ es : List Ev, wfG G0 es ∧ (∀ e ∈ es, e.Ok ns sz) ∧ es.length ≤ 30 ∧ f__law_events [mkD sf sz bg ns, .lst (cs.map D.int)] μ = some (.lst (es.map (evD ns)), μ) := by
  have hz := sz24
  have hhi := N.hi
  have B0 : Bsy ns sz [] [] [bg] := ⟨trivial, by simp, by simp, by simp, fun h => by simp [gA], fun x hx => by rw [List.mem_singleton] at hx; subst hx; exact ⟨b0, b1⟩⟩
  obtain ⟨es, bs, ws, q6, q7, q8, q9, q10, B, hl, go⟩ := evs_go (μ := μ) (sf := sf) N (cells := .lst (cs.map D.int)) h0 h1 b0 b1 cs [] [] [bg] none none none none none B0 (by simp; omega) (by simp; omega) (by simp; omega)
  refine ⟨es, B.wf, B.ok, by rw [hl]; simp; omega, callF_frz (k := μ.length + 1) (τ2 := sl6 (mkD sf sz bg ns) (.lst (ns.map D.str)) (.lst (cs.map D.int)) μ.length q6 q7 q8 q9 q10) (g := [.lst (bD ns bs), .lst (es.map (evD ns)), .lst (ws.map D.int)]) ?_ rfl (by omega) t3b (clL_map (fun e => cl_ev e) _)⟩
  have nb : ∀ (M : Mh) (l : List D), l.length ≤ 10 → newB l M = some (.ref M.length, M ++ [.lst l]) := fun M l h => by
    unfold newB
    rw [bnd_of (show lim l.length M = some ((), M) from by unfold lim; rw [if_pos (by omega)])]
  refine ev_seq (μ1 := μ ++ [.lst []]) (τ1 := [some (mkD sf sz bg ns), some (.lst (cs.map D.int)), some (.ref μ.length), none, none, none, none, none, none, none, none]) (ev_asg (d := .ref μ.length) (ev_disp (ds := []) rfl (nb _ _ (by simp))) rfl) ?_
  refine ev_seq (μ1 := μ ++ [.lst [], .lst []]) (τ1 := [some (mkD sf sz bg ns), some (.lst (cs.map D.int)), some (.ref μ.length), some (.ref (μ.length + 1)), none, none, none, none, none, none, none]) (ev_asg (d := .ref (μ.length + 1)) (ev_disp (ds := []) rfl (by rw [nb _ _ (by simp)]; simp)) rfl) ?_
  refine ev_seq (μ1 := μ ++ [.lst [], .lst [], .lst [.int bg]]) (τ1 := [some (mkD sf sz bg ns), some (.lst (cs.map D.int)), some (.ref μ.length), some (.ref (μ.length + 1)), some (.ref (μ.length + 2)), none, none, none, none, none, none]) (ev_asg (d := .ref (μ.length + 2)) (ev_disp (ds := [.int bg]) (μ1 := μ ++ [.lst [], .lst []]) (pc (po (x := mkD sf sz bg ns) (y := .int 2) rfl rfl rfl) rfl) (by rw [nb _ _ (by simp)]; simp)) rfl) ?_
  refine ev_seq (τ1 := sl6 (mkD sf sz bg ns) (.lst (ns.map D.str)) (.lst (cs.map D.int)) μ.length none none none none none) (pa (names_comp rfl (by omega)) rfl) ?_
  exact ev_seq (ev_for (src_lst (ds := cs.map D.int) rfl) go) (ev_ret (μ1 := μ ++ [.lst (bD ns bs), .lst (es.map (evD ns)), .lst (ws.map D.int)]) rfl)
noncomputable def evP (ns : List Str) (e : Ev) : PyData := .tuple (PyData.str (bS e.beg) :: .str (nm ns e.hand) :: (match e.val with | some v => [.int v] | none => []))
theorem plain_evs (N : Ns ns) : ∀ {es : List Ev}, (∀ e ∈ es, e.hand < ns.length) → toPs μ (es.map (evD ns)) = some (es.map (evP ns)) ∧ PyData.canLayAll0 (es.map (evP ns)) = true ∧ PyData.depthAll (es.map (evP ns)) ≤ 1 ∧ PyData.eqvAll (es.map (evP ns)) (es.map (evP ns)) = true
  | [], _ => ⟨by unfold toPs; rfl, rfl, Nat.zero_le _, rfl⟩
  | e :: es, h => by
    obtain ⟨a1, a2, a3, a4⟩ := plain_evs N (es := es) fun x hx => h x (by simp [hx])
    have hb := bS_ok e.beg
    have hn := N.nok (h e (by simp))
    have e1 : toP μ (evD ns e) = some (evP ns e) := by cases e <;> rfl
    have e2 : PyData.canLay0 (evP ns e) = true := by
      cases e with
      | wb v => show (PyData.strOk (bS true) && (PyData.strOk (nm ns 0) && (true && true))) = true; rw [show PyData.strOk (bS true) = true from bS_ok _, show PyData.strOk (nm ns 0) = true from hn]; rfl
      | we => show (PyData.strOk (bS false) && (PyData.strOk (nm ns 0) && true)) = true; rw [show PyData.strOk (bS false) = true from bS_ok _, show PyData.strOk (nm ns 0) = true from hn]; rfl
      | rb r => show (PyData.strOk (bS true) && (PyData.strOk (nm ns (r + 1)) && true)) = true; rw [show PyData.strOk (bS true) = true from bS_ok _, show PyData.strOk (nm ns (r + 1)) = true from hn]; rfl
      | re r v => show (PyData.strOk (bS false) && (PyData.strOk (nm ns (r + 1)) && (true && true))) = true; rw [show PyData.strOk (bS false) = true from bS_ok _, show PyData.strOk (nm ns (r + 1)) = true from hn]; rfl
    have e3 : PyData.depth (evP ns e) = 1 := by cases e <;> rfl
    have e4 : PyData.eqv (evP ns e) (evP ns e) = true := by
      cases e with
      | wb v => show ((bS true == bS true) && ((nm ns 0 == nm ns 0) && ((v == v) && true))) = true; simp
      | we => show ((bS false == bS false) && ((nm ns 0 == nm ns 0) && true)) = true; simp
      | rb r => show ((bS true == bS true) && ((nm ns (r + 1) == nm ns (r + 1)) && true)) = true; simp
      | re r v => show ((bS false == bS false) && ((nm ns (r + 1) == nm ns (r + 1)) && ((v == v) && true))) = true; simp
    refine ⟨?_, ?_, ?_, ?_⟩
    · rw [List.map_cons]; unfold toPs; rw [e1, a1]; rfl
    · show (PyData.canLay0 (evP ns e) && PyData.canLayAll0 (es.map (evP ns))) = true
      rw [e2, a2]; rfl
    · show max (PyData.depth (evP ns e)) (PyData.depthAll (es.map (evP ns))) ≤ 1
      omega
    · show (PyData.eqv (evP ns e) (evP ns e) && PyData.eqvAll (es.map (evP ns)) (es.map (evP ns))) = true
      rw [e4, a4]; rfl
theorem l_neEvs (N : Ns ns) {es : List Ev} (h : ∀ e ∈ es, e.hand < ns.length) : pyNe (.lst (es.map (evD ns))) (.lst (es.map (evD ns))) μ = some (.bl false, μ) := by
  obtain ⟨a1, a2, a3, a4⟩ := plain_evs (μ := μ) N h
  have e1 : toP1 μ (.lst (es.map (evD ns))) = some (.list (es.map (evP ns))) := by
    show toP μ (.lst _) = _
    unfold toP; rw [a1]; rfl
  have s1 : SeqAt.shaped (.list (es.map (evP ns))) = true := by
    show (PyData.canLayAll0 (es.map (evP ns)) && decide (PyData.depthAll (es.map (evP ns)) + 1 ≤ 64)) = true
    rw [a2, decide_eq_true (by omega)]; rfl
  show pyEqB true _ _ μ = _
  rw [l_eqP e1 e1 s1 s1]
  show some (D.bl (!PyData.eqvAll (es.map (evP ns)) (es.map (evP ns))), μ) = _
  rw [a4]; rfl
theorem l_neB {a : Bool} : pyNe (.bl a) (.bl a) μ = some (.bl false, μ) := by cases a <;> rfl
theorem v_cell {cs : List Int} (h : cs.length ≤ 63) : ∃ c : Int, f__law_cell_at [.scr cs, .int 0] μ = some (.int c, μ) := by
  have tl : ∀ S : Sl, S = [some (.scr cs), some (.int 0)] → mTest (mOp pyLt (mSlot 1) (mDisp lenF (aCons (mSlot 0) aNil))) S μ = some (decide ((0 : Int) < cs.length), μ) := fun S hS => by
    subst hS
    refine ev_test (po (x := .int 0) (y := .int cs.length) rfl (pd (ds := [.scr cs]) rfl ?_) rfl)
    show some (D.int (((cs.map D.int).length : Nat) : Int), μ) = _
    rw [List.length_map]
  cases cs with
  | nil =>
    refine ⟨0, callF_pure (g := []) (τ2 := [some (.scr []), some (.int 0)]) ?_ rfl (cl_int _ _)⟩
    rw [List.append_nil]
    exact pq (piF (tl _ rfl) rfl) (pr rfl)
  | cons c cs =>
    refine ⟨c, callF_pure (g := []) (τ2 := [some (.scr (c :: cs)), some (.int 0)]) ?_ rfl (cl_int _ _)⟩
    rw [List.append_nil]
    refine ev_seqR (piT ((tl _ rfl).trans ?_) (pr (po (x := .scr (c :: cs)) (y := .int 0) rfl rfl ?_)))
    · rw [decide_eq_true (by simp)]
    · show bnd (asSeq1 (.scr (c :: cs))) (fun ds => ixD ds 0) μ = _
      rw [bnd_of (show asSeq1 (.scr (c :: cs)) μ = some ((c :: cs).map D.int, μ) from rfl)]
      unfold ixD
      rw [show atI ((c :: cs).map D.int) 0 = some (.int c) from at_nat (r := 0) rfl]
      rfl
noncomputable abbrev lawB : Sl → M (Fl × Sl) := (sSeq (sAsg (mDisp listLF (aCons (mSl2 (mSlot 3) noPart (mPart (mSlot 4))) aNil)) (bName 5))
    (sSeq (sAsg (mDisp f_judged (aCons (mSlot 2) (aCons (mSlot 5) aNil))) (bName 6))
    (sIf (mOr (mNot (mTest (mDisp instF (aCons (mSlot 6) (aCons (mC (.ty "bool")) aNil))))) (mOr (mTest (mOp pyNe (mSlot 6) (mDisp f__law_kept (aCons (mSlot 2) (aCons (mSl2 (mSlot 3) noPart (mPart (mSlot 4))) aNil))))) (mTest (mOp pyNe (mSlot 5) (mSl2 (mSlot 3) noPart (mPart (mSlot 4))))))) (sRet (mC (.bl false))) sNil)))
theorem law_step (N : Ns ns) {all : List Ev} {o0 o1 o5 o6 : Option D} {i : Nat} (h0 : 2 ≤ sz) (h1 : sz ≤ 10) (b0 : 0 ≤ bg) (b1 : bg < sz) (wf : wfG G0 all) (ok : ∀ e ∈ all, e.Ok ns sz) (hl : all.length ≤ 30) (hi : i ≤ all.length) : ∃ o5' o6' : Option D,
    lawB [o0, o1, some (mkD sf sz bg ns), some (.lst (all.map (evD ns))), some (.int i), o5, o6] μ = some ((.next, [o0, o1, some (mkD sf sz bg ns), some (.lst (all.map (evD ns))), some (.int i), o5', o6']), μ) := by
  have hhi := N.hi
  have hlo := N.lo
  have wf' : wfG G0 (all.take i) := by
    have := wf
    rw [← List.take_append_drop i all] at this
    exact (wf_app.mp this).1
  have ok' : ∀ e ∈ all.take i, e.Ok ns sz := fun e he => ok e (List.mem_of_mem_take he)
  have len' : (all.take i).length ≤ 100 := by rw [List.length_take]; omega
  have ei : ∀ e ∈ all.take i, e.In (ns.length - 1) sz := fun e he => ⟨by have := (ok' e he).h; omega, (ok' e he).v⟩
  have F := fits_all (sf := sf) (bg := bg) (m := ns.length - 1) h1 (all.take i) [] (C3.start bg (ns.length - 1)) wf' ei (inv_start (by omega) b0 (by omega))
  have jd := v_judged (μ := μ) (sf := sf) (bg := bg) N (by omega) h1 b0 (by omega) ok' wf' len' F
  have kp := v_kept (μ := μ) (sf := sf) (bg := bg) N (by omega) h1 b0 b1 ok' len' (fun i r v h => first_all wf' h)
  rw [judged_kept h1 (by omega) b0 (by omega) wf' ei] at jd
  have sl : ∀ (o5 o6 : Option D), mSl2 (mSlot 3) noPart (mPart (mSlot 4)) [o0, o1, some (mkD sf sz bg ns), some (.lst (all.map (evD ns))), some (.int i), o5, o6] μ = some (.lst ((all.take i).map (evD ns)), μ) := fun o5 o6 => by
    refine p2 (x := .lst (all.map (evD ns))) (a := none) (b := some (i : Int)) rfl rfl rfl ?_
    show some (D.lst (cutD (all.map (evD ns)) none (some (i : Int))), μ) = _
    rw [cut_to (α := .non) (by rw [List.length_map]; omega), List.map_take]
  refine ⟨some (.lst ((all.take i).map (evD ns))), some (.bl (keptG sf sz bg (all.take i) 0 (all.take i))), ?_⟩
  refine pq (pa (d := .lst ((all.take i).map (evD ns))) (pd (ds := [.lst ((all.take i).map (evD ns))]) (pc (sl _ _) rfl) rfl) rfl) (pq (pa (pd (ds := [mkD sf sz bg ns, .lst ((all.take i).map (evD ns))]) rfl jd) rfl) (piF (ev_orF (μ1 := μ) (ev_not (b := true) (ev_test (pd (ds := [.bl (keptG sf sz bg (all.take i) 0 (all.take i)), .ty "bool"]) rfl ?_))) (ev_orF (μ1 := μ) (ev_test (po (x := .bl (keptG sf sz bg (all.take i) 0 (all.take i))) (y := .bl (keptG sf sz bg (all.take i) 0 (all.take i))) rfl (pd (ds := [mkD sf sz bg ns, .lst ((all.take i).map (evD ns))]) (pc rfl (pc (sl _ _) rfl)) kp) l_neB)) (ev_test (po (x := .lst ((all.take i).map (evD ns))) (y := .lst ((all.take i).map (evD ns))) rfl (sl _ _) (l_neEvs N fun e he => (ok' e he).h))))) rfl))
  show (isSub "bool" "bool").map (fun b => (D.bl b, μ)) = _
  rw [show isSub "bool" "bool" = some true from by decide]
  rfl
theorem law_go (N : Ns ns) {all : List Ev} {o0 o1 : Option D} (h0 : 2 ≤ sz) (h1 : sz ≤ 10) (b0 : 0 ≤ bg) (b1 : bg < sz) (wf : wfG G0 all) (ok : ∀ e ∈ all, e.Ok ns sz) (hl : all.length ≤ 30) : ∀ (is : List Nat) (o4 o5 o6 : Option D), (∀ i ∈ is, i ≤ all.length) → ∃ o4' o5' o6' : Option D,
    forGo (bName 4) lawB (is.map fun i : Nat => D.int i) [o0, o1, some (mkD sf sz bg ns), some (.lst (all.map (evD ns))), o4, o5, o6] μ = some ((.next, [o0, o1, some (mkD sf sz bg ns), some (.lst (all.map (evD ns))), o4', o5', o6']), μ)
  | [], o4, o5, o6, _ => ⟨o4, o5, o6, rfl⟩
  | i :: is, o4, o5, o6, hi => by
    obtain ⟨p5, p6, st⟩ := law_step (μ := μ) (sf := sf) N (o0 := o0) (o1 := o1) (o5 := o5) (o6 := o6) h0 h1 b0 b1 wf ok hl (hi i (by simp))
    obtain ⟨q4, q5, q6, go⟩ := law_go N (o0 := o0) (o1 := o1) h0 h1 b0 b1 wf ok hl is (some (.int i)) p5 p6 fun j hj => hi j (by simp [hj])
    exact ⟨q4, q5, q6, ev_forCons (x := .int i) rfl st go⟩
theorem kd_at {c : Int} : ∃ sf : Bool, ∀ M : Mh, pyIx (.lst [.str "safe", .str "steady"]) (.int (c % 2)) M = some (.str (kdS sf), M) := by
  have h0 : 0 ≤ c % 2 := Int.emod_nonneg _ (by decide)
  have h1 : c % 2 < 2 := Int.emod_lt_of_pos _ (by decide)
  rcases (show c % 2 = 0 ∨ c % 2 = 1 by omega) with h | h <;> rw [h]
  · exact ⟨true, fun M => rfl⟩
  · exact ⟨false, fun M => rfl⟩
theorem math : ∀ cs : List Int, cs.length ≤ 63 → ∃ μ', f_law [.scr cs] [] = some (.bl true, μ') := by
  intro cs hc
  have hz := sz24
  obtain ⟨c, ec⟩ := v_cell (μ := []) hc
  obtain ⟨sf, ek⟩ := kd_at (c := c)
  obtain ⟨sz, bg, ns, h0, h1, b0, b1, N, em⟩ := v_making (μ := []) (sf := sf) (x := c / 2)
  obtain ⟨ds, hds, hdl⟩ : ∃ ds : List Int, cutD (cs.map D.int) (some 1) (some 31) = ds.map D.int ∧ ds.length ≤ 30 := by
    unfold cutD
    refine ⟨(cs.drop (HT.sIx (cs.map D.int).length 0 (some 1))).take (HT.sIx (cs.map D.int).length (cs.map D.int).length (some 31) - HT.sIx (cs.map D.int).length 0 (some 1)), by rw [List.map_take, List.map_drop], ?_⟩
    rw [show (31 : Int) = ((31 : Nat) : Int) from rfl, show (1 : Int) = ((1 : Nat) : Int) from rfl, HT.sIx_nat, HT.sIx_nat, List.length_take, List.length_drop, List.length_map]
    omega
  obtain ⟨es, wf, ok, el, ee⟩ := v_events (μ := []) (sf := sf) N h0 h1 b0 b1 hdl
  obtain ⟨q4, q5, q6, go⟩ := law_go (μ := []) (sf := sf) N (o0 := some (.scr cs)) (o1 := some (.int c)) h0 h1 b0 b1 wf ok el (List.range (es.length + 1)) none none none fun i hi => by have := List.mem_range.mp hi; omega
  refine ⟨[], callF_pure (g := []) (τ2 := [some (.scr cs), some (.int c), some (mkD sf sz bg ns), some (.lst (es.map (evD ns))), q4, q5, q6]) ?_ rfl (by unfold Cl; trivial)⟩
  rw [List.append_nil]
  refine pq (τ1 := [some (.scr cs), some (.int c), none, none, none, none, none]) (pa (pd (ds := [.scr cs, .int 0]) rfl ec) rfl) ?_
  refine pq (τ1 := [some (.scr cs), some (.int c), some (mkD sf sz bg ns), none, none, none, none]) (pa (pd (ds := [.int (c / 2), .str (kdS sf)]) (pc (po (x := .int c) (y := .int 2) rfl rfl (l_fdiv (by decide) (by decide))) (pc (po (x := .lst [.str "safe", .str "steady"]) (y := .int (c % 2)) (pd (ds := [.str "safe", .str "steady"]) rfl (newL_eq (by simp; omega))) (po (x := .int c) (y := .int 2) rfl rfl (l_mod (by decide))) (ek _)) rfl)) em) rfl) ?_
  refine pq (τ1 := [some (.scr cs), some (.int c), some (mkD sf sz bg ns), some (.lst (es.map (evD ns))), none, none, none]) (pa (pd (ds := [mkD sf sz bg ns, .lst (ds.map D.int)]) (pc rfl (pc (p2 (x := .scr cs) (a := some 1) (b := some 31) rfl rfl rfl ?_) rfl)) ee) rfl) ?_
  · show some (D.lst (cutD (cs.map D.int) (some 1) (some 31)), ([] : Mh)) = _
    rw [hds]
  have fr : mRng1 (aCons (mOp pyAdd2 (mDisp lenF (aCons (mSlot 3) aNil)) (mC (.int 1))) aNil) [some (.scr cs), some (.int c), some (mkD sf sz bg ns), some (.lst (es.map (evD ns))), none, none, none] [] = some ((List.range (es.length + 1)).map fun i : Nat => D.int i, []) := by
    unfold mRng1
    rw [bnd_of (show aCons (mOp pyAdd2 (mDisp lenF (aCons (mSlot 3) aNil)) (mC (.int 1))) aNil [some (.scr cs), some (.int c), some (mkD sf sz bg ns), some (.lst (es.map (evD ns))), none, none, none] [] = some ([.int ((es.length + 1 : Nat) : Int)], []) from pc (po (x := .int es.length) (y := .int 1) (pd (ds := [.lst (es.map (evD ns))]) rfl (by show some (D.int (((es.map (evD ns)).length : Nat) : Int), ([] : Mh)) = _; rw [List.length_map])) rfl (by show some (D.int ((es.length : Int) + 1), ([] : Mh)) = _; rw [Int.natCast_add]; rfl)) rfl)]
    unfold rng1F
    dsimp only
    rw [if_pos (by omega), rng0]
  exact pq (ev_for fr go) (pr rfl)
end
end K13
namespace K13
open PySem L2 Mi
noncomputable def top (i : Nat) : Stmt := PySem.Challenge.pw_strongboxes_k13_events_of_weak_boxes_jud.main.body.getD i (.Pass ⟨0, 0, 0, 0⟩)
section
variable {P : Program} {w : World} {K : PySem.W.Frag} {mg : Str → Option Value} {base : Heap}
noncomputable abbrev s_closed : Stmt := top 14
noncomputable abbrev s_case_begun : Stmt := top 11
noncomputable abbrev s_cases_ended : Stmt := top 13
noncomputable abbrev s_claim_begun : Stmt := top 4
theorem sc_claim_begun : FnScope ["making", "readers"] ["making"] (defScope s_claim_begun) := ⟨rfl, rfl, rfl, by decide +kernel, rfl, by decide +kernel, by decide +kernel⟩
set_option maxHeartbeats 4000000 in
theorem r_claim_begun  {k : Nat} {f : Addr} (y_len : mg "len" = none) (g_NONE : Glo K mg "NONE" d_NONE) (cdv : Value) (A : Around) (outer : List Env) (s : Shared) (H : Hp) (E : XK) (hr : Room k (A.deeper (PyProof.Rows.envOfC "claim_begun" (defScope s_claim_begun) s.heap.objs.size f cdv))) :
    RSs (cxOf CX0 P w K mg base ["making", "readers"] "claim_begun" (defScope s_claim_begun) f cdv A outer s H E).nox (defBody s_claim_begun) (m_claim_begun) := by
  have nd := sc_claim_begun.nd
  exact (rss_cons (rs_set 1 nd (re_op o_sub (re_callB c_len y_len Mi.boot_len (ra_cons (re_ix o_ix (re_slot 0) re_int) ra_nil)) re_int))
      (rss_cons (rs_if (rt_cmp (o_eq hr) (re_ix o_ix (re_slot 0) re_int) re_str) (rss_one (rs_ret (re_tup (ra_cons (re_tup (ra_cons (re_ix o_ix (re_slot 0) re_int) (ra_cons (re_gl g_NONE) (ra_cons (re_op o_mul2 (re_tup (ra_cons (re_gl g_NONE) ra_nil)) (re_slot 1)) ra_nil)))) ra_nil)))) rss_nil)
      (rss_one (rs_ret (re_tup (ra_cons (re_ix o_ix (re_slot 0) re_int) (ra_cons (re_gl g_NONE) (ra_cons (re_op o_mul2 (re_tup (ra_cons re_non ra_nil)) (re_slot 1)) ra_nil))))))))
noncomputable abbrev s_claim_writes : Stmt := top 5
theorem sc_claim_writes : FnScope ["making", "claim", "worth", "tells"] ["making", "claim", "worth"] (defScope s_claim_writes) := ⟨rfl, rfl, rfl, by decide +kernel, rfl, by decide +kernel, by decide +kernel⟩
set_option maxHeartbeats 4000000 in
theorem r_claim_writes {φ_case_begun : List D → M D} {k_case_begun : Nat} {φ_closed : List D → M D} {k_closed : Nat} {φ_beside : List D → M D} {k_beside : Nat} {k : Nat} {f : Addr} (F_case_begun : Fn P w K mg base "case_begun" ["case", "hand", "worth"] k_case_begun φ_case_begun) (hk_case_begun : k_case_begun ≤ k) (F_closed : Fn P w K mg base "closed" ["cases"] k_closed φ_closed) (hk_closed : k_closed ≤ k) (F_beside : Fn P w K mg base "beside" ["kind", "size", "worths", "coming"] k_beside φ_beside) (hk_beside : k_beside ≤ k) (y_tuple : mg "tuple" = none) (cdv : Value) (A : Around) (outer : List Env) (s : Shared) (H : Hp) (E : XK) (hr : Room k (A.deeper (PyProof.Rows.envOfC "claim_writes" (defScope s_claim_writes) s.heap.objs.size f cdv))) :
    RSs (cxOf CX0 P w K mg base ["making", "claim", "worth", "tells"] "claim_writes" (defScope s_claim_writes) f cdv A outer s H E).nox (defBody s_claim_writes) (m_claim_writes φ_case_begun φ_closed φ_beside) := by
  have nd := sc_claim_writes.nd
  exact (rss_cons (rs_if (rt_cmp (o_eq hr) (re_ix o_ix (re_slot 0) re_int) re_str) (rss_one (rs_ret (re_fn (hkj := hk_closed) F_closed hr (ra_cons (re_comp (tgs := ["case"]) (ix := [2]) (i := 0) (n := 1) ⟨rfl, by decide +kernel, by decide +kernel, ⟨Or.inl rfl, trivial⟩, rfl, by decide +kernel⟩ rfl (ri_seq (re_slot 1)) (fun _ _ _ _ => pg_name (i := 0) (show List.Nodup (["case", "worth"] : List Str) from by decide +kernel) rfl (Or.inl rfl)) (fun _ _ _ _ => rifs_nil) (fun _ _ _ _ => (re_fn (hkj := hk_case_begun) F_case_begun hr (ra_cons (re_slot 0) (ra_cons re_int (ra_cons (re_slot 1) ra_nil)))))) ra_nil)))) rss_nil)
      (rss_cons (rs_setComp 3 (tgs := ["told"]) (ix := [0, 2]) (i := 0) (n := 1) nd ⟨rfl, by decide +kernel, by decide +kernel, ⟨Or.inl rfl, Or.inl rfl, trivial⟩, rfl, by decide +kernel⟩ rfl (ri_seq (re_ix o_ix (re_slot 1) re_int)) (fun _ _ _ _ => pg_name (i := 0) (show List.Nodup (["told", "making", "worth"] : List Str) from by decide +kernel) rfl (Or.inl rfl)) (fun _ _ _ _ => rifs_nil) (fun _ _ _ _ => (re_if (rt_cmp o_is (re_slot 0) re_non) (re_slot 0) (re_fn (hkj := hk_beside) F_beside hr (ra_cons (re_ix o_ix (re_slot 1) re_int) (ra_cons (re_ix o_ix (re_slot 1) re_int) (ra_cons (re_slot 0) (ra_cons (re_slot 2) ra_nil))))))) (fun _ _ _ _ _ _ _ _ R i e q => newL_ok R i e q))
      (rss_one (rs_ret (re_tup (ra_cons (re_ix o_ix (re_slot 1) re_int) (ra_cons (re_slot 2) (ra_cons (re_callTy c_tuple y_tuple Mi.boot_tuple (ra_cons (re_slot 3) ra_nil)) ra_nil))))))))
noncomputable abbrev s_claim_written : Stmt := top 6
theorem sc_claim_written : FnScope ["making", "claim"] ["making", "claim"] (defScope s_claim_written) := ⟨rfl, rfl, rfl, by decide +kernel, rfl, by decide +kernel, by decide +kernel⟩
set_option maxHeartbeats 4000000 in
theorem r_claim_written {φ_cases_ended : List D → M D} {k_cases_ended : Nat} {φ_closed : List D → M D} {k_closed : Nat} {k : Nat} {f : Addr} (F_cases_ended : Fn P w K mg base "cases_ended" ["cases", "hand", "worth"] k_cases_ended φ_cases_ended) (hk_cases_ended : k_cases_ended ≤ k) (F_closed : Fn P w K mg base "closed" ["cases"] k_closed φ_closed) (hk_closed : k_closed ≤ k) (g_NONE : Glo K mg "NONE" d_NONE) (cdv : Value) (A : Around) (outer : List Env) (s : Shared) (H : Hp) (E : XK) (hr : Room k (A.deeper (PyProof.Rows.envOfC "claim_written" (defScope s_claim_written) s.heap.objs.size f cdv))) :
    RSs (cxOf CX0 P w K mg base ["making", "claim"] "claim_written" (defScope s_claim_written) f cdv A outer s H E).nox (defBody s_claim_written) (m_claim_written φ_cases_ended φ_closed) := by
  have nd := sc_claim_written.nd
  exact (rss_cons (rs_if (rt_cmp (o_eq hr) (re_ix o_ix (re_slot 0) re_int) re_str) (rss_one (rs_ret (re_fn (hkj := hk_closed) F_closed hr (ra_cons (re_fn (hkj := hk_cases_ended) F_cases_ended hr (ra_cons (re_slot 1) (ra_cons re_int (ra_cons (re_gl g_NONE) ra_nil)))) ra_nil)))) rss_nil)
      (rss_one (rs_ret (re_tup (ra_cons (re_ix o_ix (re_slot 1) re_int) (ra_cons (re_gl g_NONE) (ra_cons (re_ix o_ix (re_slot 1) re_int) ra_nil)))))))
noncomputable abbrev s_claim_reads : Stmt := top 7
theorem sc_claim_reads : FnScope ["making", "claim", "reader", "told"] ["making", "claim", "reader"] (defScope s_claim_reads) := ⟨rfl, rfl, rfl, by decide +kernel, rfl, by decide +kernel, by decide +kernel⟩
set_option maxHeartbeats 4000000 in
theorem r_claim_reads {φ_case_begun : List D → M D} {k_case_begun : Nat} {φ_closed : List D → M D} {k_closed : Nat} {φ_beside : List D → M D} {k_beside : Nat} {φ_with_thing : List D → M D} {k_with_thing : Nat} {k : Nat} {f : Addr} (F_case_begun : Fn P w K mg base "case_begun" ["case", "hand", "worth"] k_case_begun φ_case_begun) (hk_case_begun : k_case_begun ≤ k) (F_closed : Fn P w K mg base "closed" ["cases"] k_closed φ_closed) (hk_closed : k_closed ≤ k) (F_beside : Fn P w K mg base "beside" ["kind", "size", "worths", "coming"] k_beside φ_beside) (hk_beside : k_beside ≤ k) (F_with_thing : Fn P w K mg base "with_thing" ["things", "place", "thing"] k_with_thing φ_with_thing) (hk_with_thing : k_with_thing ≤ k) (g_NONE : Glo K mg "NONE" d_NONE) (cdv : Value) (A : Around) (outer : List Env) (s : Shared) (H : Hp) (E : XK) (hr : Room k (A.deeper (PyProof.Rows.envOfC "claim_reads" (defScope s_claim_reads) s.heap.objs.size f cdv))) :
    RSs (cxOf CX0 P w K mg base ["making", "claim", "reader", "told"] "claim_reads" (defScope s_claim_reads) f cdv A outer s H E).nox (defBody s_claim_reads) (m_claim_reads φ_case_begun φ_closed φ_beside φ_with_thing) := by
  have nd := sc_claim_reads.nd
  exact (rss_cons (rs_if (rt_cmp (o_eq hr) (re_ix o_ix (re_slot 0) re_int) re_str) (rss_one (rs_ret (re_fn (hkj := hk_closed) F_closed hr (ra_cons (re_comp (tgs := ["case"]) (ix := [2]) (i := 0) (n := 1) ⟨rfl, by decide +kernel, by decide +kernel, ⟨Or.inl rfl, trivial⟩, rfl, by decide +kernel⟩ rfl (ri_seq (re_slot 1)) (fun _ _ _ _ => pg_name (i := 0) (show List.Nodup (["case", "reader"] : List Str) from by decide +kernel) rfl (Or.inl rfl)) (fun _ _ _ _ => rifs_nil) (fun _ _ _ _ => (re_fn (hkj := hk_case_begun) F_case_begun hr (ra_cons (re_slot 0) (ra_cons (re_op o_add2 (re_slot 1) re_int) (ra_cons (re_gl g_NONE) ra_nil)))))) ra_nil)))) rss_nil)
      (rss_cons (rs_set 3 nd (re_tup (ra_cons (re_ix o_ix (re_slot 1) re_int) ra_nil)))
      (rss_cons (rs_if (rt_cmp (o_ne hr) (re_ix o_ix (re_slot 1) re_int) (re_gl g_NONE)) (rss_one (rs_set 3 nd (re_fn (hkj := hk_beside) F_beside hr (ra_cons (re_ix o_ix (re_slot 0) re_int) (ra_cons (re_ix o_ix (re_slot 0) re_int) (ra_cons (re_slot 3) (ra_cons (re_ix o_ix (re_slot 1) re_int) ra_nil))))))) rss_nil)
      (rss_one (rs_ret (re_tup (ra_cons (re_ix o_ix (re_slot 1) re_int) (ra_cons (re_ix o_ix (re_slot 1) re_int) (ra_cons (re_fn (hkj := hk_with_thing) F_with_thing hr (ra_cons (re_ix o_ix (re_slot 1) re_int) (ra_cons (re_slot 2) (ra_cons (re_slot 3) ra_nil)))) ra_nil)))))))))
noncomputable abbrev s_claim_told : Stmt := top 8
theorem sc_claim_told : FnScope ["making", "claim", "reader", "worth", "left"] ["making", "claim", "reader", "worth"] (defScope s_claim_told) := ⟨rfl, rfl, rfl, by decide +kernel, rfl, by decide +kernel, by decide +kernel⟩
set_option maxHeartbeats 4000000 in
theorem r_claim_told {φ_cases_ended : List D → M D} {k_cases_ended : Nat} {φ_closed : List D → M D} {k_closed : Nat} {φ_with_thing : List D → M D} {k_with_thing : Nat} {k : Nat} {f : Addr} (F_cases_ended : Fn P w K mg base "cases_ended" ["cases", "hand", "worth"] k_cases_ended φ_cases_ended) (hk_cases_ended : k_cases_ended ≤ k) (F_closed : Fn P w K mg base "closed" ["cases"] k_closed φ_closed) (hk_closed : k_closed ≤ k) (F_with_thing : Fn P w K mg base "with_thing" ["things", "place", "thing"] k_with_thing φ_with_thing) (hk_with_thing : k_with_thing ≤ k) (cdv : Value) (A : Around) (outer : List Env) (s : Shared) (H : Hp) (E : XK) (hr : Room k (A.deeper (PyProof.Rows.envOfC "claim_told" (defScope s_claim_told) s.heap.objs.size f cdv))) :
    RSs (cxOf CX0 P w K mg base ["making", "claim", "reader", "worth", "left"] "claim_told" (defScope s_claim_told) f cdv A outer s H E).nox (defBody s_claim_told) (m_claim_told φ_cases_ended φ_closed φ_with_thing) := by
  have nd := sc_claim_told.nd
  exact (rss_cons (rs_if (rt_cmp (o_eq hr) (re_ix o_ix (re_slot 0) re_int) re_str) (rss_cons (rs_set 4 nd (re_fn (hkj := hk_cases_ended) F_cases_ended hr (ra_cons (re_slot 1) (ra_cons (re_op o_add2 (re_slot 2) re_int) (ra_cons (re_slot 3) ra_nil)))))
      (rss_one (rs_ret (re_if (rt_val (re_slot 4)) (re_fn (hkj := hk_closed) F_closed hr (ra_cons (re_slot 4) ra_nil)) re_non)))) rss_nil)
      (rss_cons (rs_if (rt_cmp o_notin (re_slot 3) (re_ix o_ix (re_ix o_ix (re_slot 1) re_int) (re_slot 2))) (rss_one (rs_ret re_non)) rss_nil)
      (rss_one (rs_ret (re_tup (ra_cons (re_ix o_ix (re_slot 1) re_int) (ra_cons (re_ix o_ix (re_slot 1) re_int) (ra_cons (re_fn (hkj := hk_with_thing) F_with_thing hr (ra_cons (re_ix o_ix (re_slot 1) re_int) (ra_cons (re_slot 2) (ra_cons re_non ra_nil)))) ra_nil))))))))
noncomputable abbrev s_beside : Stmt := top 9
theorem sc_beside : FnScope ["kind", "size", "worths", "coming"] ["kind", "size", "worths", "coming"] (defScope s_beside) := ⟨rfl, rfl, rfl, by decide +kernel, rfl, by decide +kernel, by decide +kernel⟩
set_option maxHeartbeats 4000000 in
theorem r_beside  {k : Nat} {f : Addr} (y_tuple : mg "tuple" = none) (y_range : mg "range" = none) (y_sorted : mg "sorted" = none) (y_set : mg "set" = none) (cdv : Value) (A : Around) (outer : List Env) (s : Shared) (H : Hp) (E : XK) (hr : Room k (A.deeper (PyProof.Rows.envOfC "beside" (defScope s_beside) s.heap.objs.size f cdv))) :
    RSs (cxOf CX0 P w K mg base ["kind", "size", "worths", "coming"] "beside" (defScope s_beside) f cdv A outer s H E).nox (defBody s_beside) (m_beside) := by
  have nd := sc_beside.nd
  exact (rss_cons (rs_if (rt_cmp (o_eq hr) (re_slot 0) re_str) (rss_one (rs_ret (re_tuprng y_tuple y_range (re_slot 1)))) rss_nil)
      (rss_one (rs_ret (re_callTy c_tuple y_tuple Mi.boot_tuple (ra_cons (re_sortset y_sorted y_set (re_op o_add2 (re_slot 2) (re_tup (ra_cons (re_slot 3) ra_nil)))) ra_nil)))))
noncomputable abbrev s_with_thing : Stmt := top 10
theorem sc_with_thing : FnScope ["things", "place", "thing"] ["things", "place", "thing"] (defScope s_with_thing) := ⟨rfl, rfl, rfl, by decide +kernel, rfl, by decide +kernel, by decide +kernel⟩
set_option maxHeartbeats 4000000 in
theorem r_with_thing  {k : Nat} {f : Addr}  (cdv : Value) (A : Around) (outer : List Env) (s : Shared) (H : Hp) (E : XK) (hr : Room k (A.deeper (PyProof.Rows.envOfC "with_thing" (defScope s_with_thing) s.heap.objs.size f cdv))) :
    RSs (cxOf CX0 P w K mg base ["things", "place", "thing"] "with_thing" (defScope s_with_thing) f cdv A outer s H E).nox (defBody s_with_thing) (m_with_thing) := by
  have nd := sc_with_thing.nd
  exact (rss_one (rs_ret (re_op o_add2 (re_op o_add2 (re_sl2 (re_slot 0) ro_none (ro_some (re_slot 1))) (re_tup (ra_cons (re_slot 2) ra_nil))) (re_sl2 (re_slot 0) (ro_some (re_op o_add2 (re_slot 1) re_int)) ro_none))))
noncomputable abbrev s_is_whole : Stmt := top 21
theorem sc_is_whole : FnScope ["thing", "least", "most"] ["thing", "least", "most"] (defScope s_is_whole) := ⟨rfl, rfl, rfl, by decide +kernel, rfl, by decide +kernel, by decide +kernel⟩
set_option maxHeartbeats 4000000 in
theorem r_is_whole  {k : Nat} {f : Addr} (y_int : mg "int" = none) (y_isinstance : mg "isinstance" = none) (y_bool : mg "bool" = none) (cdv : Value) (A : Around) (outer : List Env) (s : Shared) (H : Hp) (E : XK) (hr : Room k (A.deeper (PyProof.Rows.envOfC "is_whole" (defScope s_is_whole) s.heap.objs.size f cdv))) :
    RSs (cxOf CX0 P w K mg base ["thing", "least", "most"] "is_whole" (defScope s_is_whole) f cdv A outer s H E).nox (defBody s_is_whole) (m_is_whole) := by
  have nd := sc_is_whole.nd
  exact (rss_one (rs_ret (re_and (re_callB c_inst y_isinstance Mi.boot_isinstance (ra_cons (re_slot 0) (ra_cons (re_bltn y_int Mi.boot_int) ra_nil))) (re_and (re_not (re_callB c_inst y_isinstance Mi.boot_isinstance (ra_cons (re_slot 0) (ra_cons (re_bltn y_bool Mi.boot_bool) ra_nil)))) (re_one (re_chain o_le o_le (re_slot 1) (re_slot 0) (re_slot 2)))))))
noncomputable abbrev s_is_tuple : Stmt := top 23
theorem sc_is_tuple : FnScope ["thing", "least", "most"] ["thing", "least", "most"] (defScope s_is_tuple) := ⟨rfl, rfl, rfl, by decide +kernel, rfl, by decide +kernel, by decide +kernel⟩
set_option maxHeartbeats 4000000 in
theorem r_is_tuple  {k : Nat} {f : Addr} (y_tuple : mg "tuple" = none) (y_isinstance : mg "isinstance" = none) (y_len : mg "len" = none) (cdv : Value) (A : Around) (outer : List Env) (s : Shared) (H : Hp) (E : XK) (hr : Room k (A.deeper (PyProof.Rows.envOfC "is_tuple" (defScope s_is_tuple) s.heap.objs.size f cdv))) :
    RSs (cxOf CX0 P w K mg base ["thing", "least", "most"] "is_tuple" (defScope s_is_tuple) f cdv A outer s H E).nox (defBody s_is_tuple) (m_is_tuple) := by
  have nd := sc_is_tuple.nd
  exact (rss_one (rs_ret (re_and (re_callB c_inst y_isinstance Mi.boot_isinstance (ra_cons (re_slot 0) (ra_cons (re_bltn y_tuple Mi.boot_tuple) ra_nil))) (re_one (re_chain o_le o_le (re_slot 1) (re_callB c_len y_len Mi.boot_len (ra_cons (re_slot 0) ra_nil)) (re_slot 2))))))
noncomputable abbrev s_judged : Stmt := top 26
theorem sc_judged : FnScope ["making", "events", "claim", "act"] ["making", "events"] (defScope s_judged) := ⟨rfl, rfl, rfl, by decide +kernel, rfl, by decide +kernel, by decide +kernel⟩
set_option maxHeartbeats 4000000 in
theorem r_judged {φ_claim_begun : List D → M D} {k_claim_begun : Nat} {φ_acts_of : List D → M D} {k_acts_of : Nat} {φ_claim_behind : List D → M D} {k_claim_behind : Nat} {k : Nat} {f : Addr} (F_claim_begun : Fn P w K mg base "claim_begun" ["making"] k_claim_begun φ_claim_begun) (hk_claim_begun : k_claim_begun ≤ k) (F_acts_of : Fn P w K mg base "acts_of" ["making", "events"] k_acts_of φ_acts_of) (hk_acts_of : k_acts_of ≤ k) (F_claim_behind : Fn P w K mg base "claim_behind" ["making", "claim", "act"] k_claim_behind φ_claim_behind) (hk_claim_behind : k_claim_behind ≤ k) (cdv : Value) (A : Around) (outer : List Env) (s : Shared) (H : Hp) (E : XK) (hr : Room k (A.deeper (PyProof.Rows.envOfC "judged" (defScope s_judged) s.heap.objs.size f cdv))) :
    RSs (cxOf CX0 P w K mg base ["making", "events", "claim", "act"] "judged" (defScope s_judged) f cdv A outer s H E).nox (defBody s_judged) (m_judged φ_claim_begun φ_acts_of φ_claim_behind) := by
  have nd := sc_judged.nd
  exact (rss_cons (rs_set 2 nd (re_fn (hkj := hk_claim_begun) F_claim_begun hr (ra_cons (re_slot 0) ra_nil)))
      (rss_cons (rs_for PassesOwn.never rfl (ri_seq (re_fn (hkj := hk_acts_of) F_acts_of hr (ra_cons (re_slot 0) (ra_cons (re_slot 1) ra_nil)))) (rg_name 3 nd) (rss_cons (rs_set 2 nd (re_fn (hkj := hk_claim_behind) F_claim_behind hr (ra_cons (re_slot 0) (ra_cons (re_slot 2) (ra_cons (re_slot 3) ra_nil)))))
      (rss_one (rs_if (rt_cmp o_is (re_slot 2) re_non) (rss_one (rs_ret re_bl)) rss_nil))))
      (rss_one (rs_ret re_bl))))
noncomputable abbrev s_claim_behind : Stmt := top 27
theorem sc_claim_behind : FnScope ["making", "claim", "act", "begins", "reader"] ["making", "claim", "act"] (defScope s_claim_behind) := ⟨rfl, rfl, rfl, by decide +kernel, rfl, by decide +kernel, by decide +kernel⟩
set_option maxHeartbeats 4000000 in
theorem r_claim_behind {φ_claim_writes : List D → M D} {k_claim_writes : Nat} {φ_claim_written : List D → M D} {k_claim_written : Nat} {φ_claim_reads : List D → M D} {k_claim_reads : Nat} {φ_claim_told : List D → M D} {k_claim_told : Nat} {k : Nat} {f : Addr} (F_claim_writes : Fn P w K mg base "claim_writes" ["making", "claim", "worth"] k_claim_writes φ_claim_writes) (hk_claim_writes : k_claim_writes ≤ k) (F_claim_written : Fn P w K mg base "claim_written" ["making", "claim"] k_claim_written φ_claim_written) (hk_claim_written : k_claim_written ≤ k) (F_claim_reads : Fn P w K mg base "claim_reads" ["making", "claim", "reader"] k_claim_reads φ_claim_reads) (hk_claim_reads : k_claim_reads ≤ k) (F_claim_told : Fn P w K mg base "claim_told" ["making", "claim", "reader", "worth"] k_claim_told φ_claim_told) (hk_claim_told : k_claim_told ≤ k) (cdv : Value) (A : Around) (outer : List Env) (s : Shared) (H : Hp) (E : XK) (hr : Room k (A.deeper (PyProof.Rows.envOfC "claim_behind" (defScope s_claim_behind) s.heap.objs.size f cdv))) :
    RSs (cxOf CX0 P w K mg base ["making", "claim", "act", "begins", "reader"] "claim_behind" (defScope s_claim_behind) f cdv A outer s H E).nox (defBody s_claim_behind) (m_claim_behind φ_claim_writes φ_claim_written φ_claim_reads φ_claim_told) := by
  have nd := sc_claim_behind.nd
  exact (rss_cons (rs_set 3 nd (re_cmp (o_eq hr) (re_ix o_ix (re_slot 2) re_int) re_str))
      (rss_cons (rs_if (rt_cmp (o_eq hr) (re_ix o_ix (re_slot 2) re_int) re_int) (rss_one (rs_ret (re_if (rt_val (re_slot 3)) (re_fn (hkj := hk_claim_writes) F_claim_writes hr (ra_cons (re_slot 0) (ra_cons (re_slot 1) (ra_cons (re_ix o_ix (re_slot 2) re_int) ra_nil)))) (re_fn (hkj := hk_claim_written) F_claim_written hr (ra_cons (re_slot 0) (ra_cons (re_slot 1) ra_nil)))))) rss_nil)
      (rss_cons (rs_set 4 nd (re_op o_sub (re_ix o_ix (re_slot 2) re_int) re_int))
      (rss_one (rs_ret (re_if (rt_val (re_slot 3)) (re_fn (hkj := hk_claim_reads) F_claim_reads hr (ra_cons (re_slot 0) (ra_cons (re_slot 1) (ra_cons (re_slot 4) ra_nil)))) (re_fn (hkj := hk_claim_told) F_claim_told hr (ra_cons (re_slot 0) (ra_cons (re_slot 1) (ra_cons (re_slot 4) (ra_cons (re_ix o_ix (re_slot 2) re_int) ra_nil)))))))))))
noncomputable abbrev s_acts_of : Stmt := top 28
theorem sc_acts_of : FnScope ["making", "events", "names", "going", "acts", "begun", "number", "event", "hand"] ["making", "events"] (defScope s_acts_of) := ⟨rfl, rfl, rfl, by decide +kernel, rfl, by decide +kernel, by decide +kernel⟩
set_option maxHeartbeats 4000000 in
theorem r_acts_of {φ_is_event : List D → M D} {k_is_event : Nat} {k : Nat} {f : Addr} (F_is_event : Fn P w K mg base "is_event" ["thing", "names", "size"] k_is_event φ_is_event) (hk_is_event : k_is_event ≤ k) (y_list : mg "list" = none) (y_isinstance : mg "isinstance" = none) (y_enumerate : mg "enumerate" = none) (y_len : mg "len" = none) (g_NO_WORTH : Glo K mg "NO_WORTH" d_NO_WORTH) (cdv : Value) (A : Around) (outer : List Env) (s : Shared) (H : Hp) (E : XK) (hr : Room k (A.deeper (PyProof.Rows.envOfC "acts_of" (defScope s_acts_of) s.heap.objs.size f cdv))) :
    RSs (cxOf CX0 P w K mg base ["making", "events", "names", "going", "acts", "begun", "number", "event", "hand"] "acts_of" (defScope s_acts_of) f cdv A outer s H E).nox (defBody s_acts_of) (m_acts_of φ_is_event) := by
  have nd := sc_acts_of.nd
  exact (rss_cons (rs_if (rt_not (rt_val (re_callB c_inst y_isinstance Mi.boot_isinstance (ra_cons (re_slot 1) (ra_cons (re_bltn y_list Mi.boot_list) ra_nil))))) (rss_one rs_never) rss_nil)
      (rss_cons (rs_setComp 2 (tgs := ["hand"]) (ix := []) (i := 0) (n := 1) nd ⟨rfl, by decide +kernel, by decide +kernel, trivial, rfl, by decide +kernel⟩ rfl (ri_seq (re_ix o_ix (re_slot 0) re_int)) (fun _ _ _ _ => pg_name (i := 0) (show List.Nodup (["hand"] : List Str) from by decide +kernel) rfl (Or.inl rfl)) (fun _ _ _ _ => rifs_nil) (fun _ _ _ _ => (re_ix o_ix (re_slot 0) re_int)) (fun _ _ _ _ _ _ _ _ R i e q => newL_ok R i e q))
      (rss_cons (rs_set 3 nd re_dnew)
      (rss_cons (rs_set 4 nd (re_lstB ra_nil))
      (rss_cons (rs_set 5 nd re_int)
      (rss_cons (rs_for PassesOwn.never rfl (ri_enumL y_enumerate (ra_cons (re_slot 1) ra_nil)) (rg_tup (is := [6, 7]) rfl (pgs_cons (pg_name (i := 6) nd rfl (by first | exact Or.inl rfl | exact Or.inr rfl)) (pgs_cons (pg_name (i := 7) nd rfl (by first | exact Or.inl rfl | exact Or.inr rfl)) pgs_nil))) (rss_cons (rs_if (rt_not (rt_val (re_fn (hkj := hk_is_event) F_is_event hr (ra_cons (re_slot 7) (ra_cons (re_slot 2) (ra_cons (re_ix o_ix (re_slot 0) re_int) ra_nil)))))) (rss_one rs_never) rss_nil)
      (rss_cons (rs_set 8 nd (re_methL PySem.F.slot_list_index PySem.F.type_list_index m_indexL (re_slot 2) (ra_cons (re_ix o_ix (re_slot 7) re_int) ra_nil)))
      (rss_cons (rs_if (rt_cmp (o_eq hr) (re_cmp (o_eq hr) (re_ix o_ix (re_slot 7) re_int) re_str) (re_din hr (re_slot 8) (re_slot 3))) (rss_one rs_never) rss_nil)
      (rss_cons (rs_if (rt_cmp (o_eq hr) (re_ix o_ix (re_slot 7) re_int) re_str) (rss_cons (rs_dput hr (re_slot 3) (re_slot 8) (re_slot 5))
      (rss_one (rs_aug 5 nd re_int))) rss_nil)
      (rss_cons (rs_expr (re_methL PySem.F.slot_list_append PySem.F.type_list_append m_append (re_slot 4) (ra_cons (re_tup (ra_cons (re_ix o_ix (re_slot 7) re_int) (ra_cons (re_slot 8) (ra_cons (re_if (rt_cmp (o_eq hr) (re_callB c_len y_len Mi.boot_len (ra_cons (re_slot 7) ra_nil)) re_int) (re_ix o_ix (re_slot 7) re_int) (re_gl g_NO_WORTH)) (ra_cons (re_dget hr (re_slot 3) (re_slot 8)) ra_nil))))) ra_nil)))
      (rss_one (rs_if (rt_cmp (o_eq hr) (re_ix o_ix (re_slot 7) re_int) re_str) (rss_one (rs_expr (re_dpop (re_slot 3) (re_slot 8)))) rss_nil))))))))
      (rss_one (rs_ret (re_slot 4)))))))))
noncomputable abbrev s_is_event : Stmt := top 29
theorem sc_is_event : FnScope ["thing", "names", "size"] ["thing", "names", "size"] (defScope s_is_event) := ⟨rfl, rfl, rfl, by decide +kernel, rfl, by decide +kernel, by decide +kernel⟩
set_option maxHeartbeats 4000000 in
theorem r_is_event {φ_is_tuple : List D → M D} {k_is_tuple : Nat} {φ_is_whole : List D → M D} {k_is_whole : Nat} {k : Nat} {f : Addr} (F_is_tuple : Fn P w K mg base "is_tuple" ["thing", "least", "most"] k_is_tuple φ_is_tuple) (hk_is_tuple : k_is_tuple ≤ k) (F_is_whole : Fn P w K mg base "is_whole" ["thing", "least", "most"] k_is_whole φ_is_whole) (hk_is_whole : k_is_whole ≤ k) (y_len : mg "len" = none) (cdv : Value) (A : Around) (outer : List Env) (s : Shared) (H : Hp) (E : XK) (hr : Room k (A.deeper (PyProof.Rows.envOfC "is_event" (defScope s_is_event) s.heap.objs.size f cdv))) :
    RSs (cxOf CX0 P w K mg base ["thing", "names", "size"] "is_event" (defScope s_is_event) f cdv A outer s H E).nox (defBody s_is_event) (m_is_event φ_is_tuple φ_is_whole) := by
  have nd := sc_is_event.nd
  exact (rss_cons (rs_if (RW.rt (rw_or (rt_not (rt_val (re_fn (hkj := hk_is_tuple) F_is_tuple hr (ra_cons (re_slot 0) (ra_cons re_int (ra_cons re_int ra_nil)))))) (rw_or (rt_cmp o_notin (re_ix o_ix (re_slot 0) re_int) (re_tup (ra_cons re_str (ra_cons re_str ra_nil)))) (rw_or1 (rt_cmp o_notin (re_ix o_ix (re_slot 0) re_int) (re_slot 1)))))) (rss_one (rs_ret re_bl)) rss_nil)
      (rss_cons (rs_if (rt_cmp (o_eq hr) (re_cmp (o_eq hr) (re_ix o_ix (re_slot 0) re_int) re_str) (re_cmp (o_eq hr) (re_ix o_ix (re_slot 0) re_int) (re_ix o_ix (re_slot 1) re_int))) (rss_one (rs_ret (re_and (re_cmp (o_eq hr) (re_callB c_len y_len Mi.boot_len (ra_cons (re_slot 0) ra_nil)) re_int) (re_one (re_fn (hkj := hk_is_whole) F_is_whole hr (ra_cons (re_ix o_ix (re_slot 0) re_int) (ra_cons re_int (ra_cons (re_op o_sub (re_slot 2) re_int) ra_nil)))))))) rss_nil)
      (rss_one (rs_ret (re_cmp (o_eq hr) (re_callB c_len y_len Mi.boot_len (ra_cons (re_slot 0) ra_nil)) re_int)))))
noncomputable abbrev s__law_cell_at : Stmt := top 31
theorem sc__law_cell_at : FnScope ["_law_script", "_law_k"] ["_law_script", "_law_k"] (defScope s__law_cell_at) := ⟨rfl, rfl, rfl, by decide +kernel, rfl, by decide +kernel, by decide +kernel⟩
set_option maxHeartbeats 4000000 in
theorem r__law_cell_at  {k : Nat} {f : Addr} (y_len : mg "len" = none) (cdv : Value) (A : Around) (outer : List Env) (s : Shared) (H : Hp) (E : XK) (hr : Room k (A.deeper (PyProof.Rows.envOfC "_law_cell_at" (defScope s__law_cell_at) s.heap.objs.size f cdv))) :
    RSs (cxOf CX0 P w K mg base ["_law_script", "_law_k"] "_law_cell_at" (defScope s__law_cell_at) f cdv A outer s H E).nox (defBody s__law_cell_at) (m__law_cell_at) := by
  have nd := sc__law_cell_at.nd
  exact (rss_cons (rs_if (rt_cmp o_lt (re_slot 1) (re_callB c_len y_len Mi.boot_len (ra_cons (re_slot 0) ra_nil))) (rss_one (rs_ret (re_ix o_ix (re_slot 0) (re_slot 1)))) rss_nil)
      (rss_one (rs_ret re_int)))
noncomputable abbrev s__law_stream : Stmt := top 32
theorem sc__law_stream : FnScope ["_law_cell", "_law_many", "_law_found", "_law_number", "_law_k"] ["_law_cell", "_law_many"] (defScope s__law_stream) := ⟨rfl, rfl, rfl, by decide +kernel, rfl, by decide +kernel, by decide +kernel⟩
set_option maxHeartbeats 4000000 in
theorem r__law_stream  {k : Nat} {f : Addr} (y_len : mg "len" = none) (y_range : mg "range" = none) (cdv : Value) (A : Around) (outer : List Env) (s : Shared) (H : Hp) (E : XK) (hr : Room k (A.deeper (PyProof.Rows.envOfC "_law_stream" (defScope s__law_stream) s.heap.objs.size f cdv))) :
    RSs (cxOf CX0 P w K mg base ["_law_cell", "_law_many", "_law_found", "_law_number", "_law_k"] "_law_stream" (defScope s__law_stream) f cdv A outer s H E).nox (defBody s__law_stream) (m__law_stream) := by
  have nd := sc__law_stream.nd
  exact (rss_cons (rs_set 2 nd (re_lstB ra_nil))
      (rss_cons (rs_set 3 nd (re_op o_fdiv (re_slot 0) re_int))
      (rss_cons (rs_while fuel PassesOwn.never (RW.rt (rw_and (rt_cmp (o_eq hr) (re_op o_mod (re_slot 0) re_int) re_int) (rw_and (rt_cmp o_gt (re_slot 3) re_int) (rw_and1 (rt_cmp o_lt (re_callB c_len y_len Mi.boot_len (ra_cons (re_slot 2) ra_nil)) (re_slot 1)))))) (rss_cons (rs_expr (re_methL PySem.F.slot_list_append PySem.F.type_list_append m_append (re_slot 2) (ra_cons (re_op o_mod (re_slot 3) (re_op o_pow re_int re_int)) ra_nil)))
      (rss_one (rs_set 3 nd (re_op o_fdiv (re_slot 3) (re_op o_pow re_int re_int))))))
      (rss_cons (rs_set 3 nd (re_op o_mod (re_op o_mul (re_op o_add2 (re_op o_fdiv (re_slot 0) re_int) re_int) re_int) re_int))
      (rss_cons (rs_for PassesOwn.never rfl (ri_range1 y_range (ra_cons (re_slot 1) ra_nil)) (rg_name 4 nd) (rss_cons (rs_set 3 nd (re_op o_mod (re_op o_mul (re_slot 3) (re_op o_add2 (re_op o_add2 (re_op o_fdiv (re_slot 3) re_int) re_int) (re_slot 4))) re_int))
      (rss_cons (rs_expr (re_methL PySem.F.slot_list_append PySem.F.type_list_append m_append (re_slot 2) (ra_cons (re_op o_mod (re_op o_mul (re_slot 3) (re_op o_add2 (re_op o_fdiv (re_slot 3) re_int) re_int)) re_int) ra_nil)))
      (rss_one (rs_set 3 nd (re_op o_add2 (re_slot 3) re_int))))))
      (rss_one (rs_ret (re_sl2 (re_slot 2) ro_none (ro_some (re_slot 1))))))))))
noncomputable abbrev s__law_making : Stmt := top 33
theorem sc__law_making : FnScope ["_law_x", "_law_kind", "_law_size", "_law_names", "_law_readers", "_law_hands"] ["_law_x", "_law_kind"] (defScope s__law_making) := ⟨rfl, rfl, rfl, by decide +kernel, rfl, by decide +kernel, by decide +kernel⟩
set_option maxHeartbeats 4000000 in
theorem r__law_making  {k : Nat} {f : Addr} (y_tuple : mg "tuple" = none) (cdv : Value) (A : Around) (outer : List Env) (s : Shared) (H : Hp) (E : XK) (hr : Room k (A.deeper (PyProof.Rows.envOfC "_law_making" (defScope s__law_making) s.heap.objs.size f cdv))) :
    RSs (cxOf CX0 P w K mg base ["_law_x", "_law_kind", "_law_size", "_law_names", "_law_readers", "_law_hands"] "_law_making" (defScope s__law_making) f cdv A outer s H E).nox (defBody s__law_making) (m__law_making) := by
  have nd := sc__law_making.nd
  exact (rss_cons (rs_set 2 nd (re_op o_add2 re_int (re_op o_mod (re_op o_fdiv (re_slot 0) re_int) re_int)))
      (rss_cons (rs_set 3 nd (re_ix o_ix (re_lst (ra_cons (re_lst (ra_cons re_str (ra_cons re_str (ra_cons re_str (ra_cons re_str ra_nil))))) (ra_cons (re_lst (ra_cons re_str (ra_cons re_str (ra_cons re_str (ra_cons re_str ra_nil))))) (ra_cons (re_lst (ra_cons re_str (ra_cons re_str (ra_cons re_str (ra_cons re_str ra_nil))))) ra_nil)))) (re_op o_mod (re_op o_fdiv (re_slot 0) re_int) re_int)))
      (rss_cons (rs_set 4 nd (re_op o_add2 re_int (re_op o_mod (re_op o_fdiv (re_slot 0) re_int) re_int)))
      (rss_cons (rs_setComp 5 (tgs := ["_law_name"]) (ix := []) (i := 0) (n := 1) nd ⟨rfl, by decide +kernel, by decide +kernel, trivial, rfl, by decide +kernel⟩ rfl (ri_seq (re_sl2 (re_slot 3) ro_none (ro_some (re_op o_add2 re_int (re_slot 4))))) (fun _ _ _ _ => pg_name (i := 0) (show List.Nodup (["_law_name"] : List Str) from by decide +kernel) rfl (Or.inl rfl)) (fun _ _ _ _ => rifs_nil) (fun _ _ _ _ => (re_tup (ra_cons (re_slot 0) (ra_cons re_int (ra_cons (re_tup ra_nil) ra_nil))))) (fun _ _ _ _ _ _ _ _ R i e q => newL_ok R i e q))
      (rss_one (rs_ret (re_tup (ra_cons (re_slot 1) (ra_cons (re_slot 2) (ra_cons (re_op o_mod (re_op o_fdiv (re_slot 0) re_int) (re_slot 2)) (ra_cons (re_tup ra_nil) (ra_cons (re_callTy c_tuple y_tuple Mi.boot_tuple (ra_cons (re_slot 5) ra_nil)) ra_nil))))))))))))
noncomputable abbrev s__law_worth : Stmt := top 34
theorem sc__law_worth : FnScope ["_law_making_here", "_law_written", "_law_x", "_law_some"] ["_law_making_here", "_law_written", "_law_x"] (defScope s__law_worth) := ⟨rfl, rfl, rfl, by decide +kernel, rfl, by decide +kernel, by decide +kernel⟩
set_option maxHeartbeats 4000000 in
theorem r__law_worth  {k : Nat} {f : Addr} (y_len : mg "len" = none) (cdv : Value) (A : Around) (outer : List Env) (s : Shared) (H : Hp) (E : XK) (hr : Room k (A.deeper (PyProof.Rows.envOfC "_law_worth" (defScope s__law_worth) s.heap.objs.size f cdv))) :
    RSs (cxOf CX0 P w K mg base ["_law_making_here", "_law_written", "_law_x", "_law_some"] "_law_worth" (defScope s__law_worth) f cdv A outer s H E).nox (defBody s__law_worth) (m__law_worth) := by
  have nd := sc__law_worth.nd
  exact (rss_cons (rs_set 3 nd (re_op o_add2 (re_sl2 (re_slot 1) (ro_some (re_un o_neg re_int)) ro_none) (re_lst (ra_cons (re_op o_mod (re_op o_fdiv (re_slot 2) re_int) (re_ix o_ix (re_slot 0) re_int)) (ra_cons (re_ix o_ix (re_slot 0) re_int) ra_nil)))))
      (rss_one (rs_ret (re_ix o_ix (re_slot 3) (re_op o_mod (re_slot 2) (re_callB c_len y_len Mi.boot_len (ra_cons (re_slot 3) ra_nil)))))))
noncomputable abbrev s__law_events : Stmt := top 35
theorem sc__law_events : FnScope ["_law_making_here", "_law_cells", "_law_busy", "_law_events_here", "_law_written", "_law_names", "_law_cell", "_law_x", "_law_name", "_law_worth_here", "_law_event"] ["_law_making_here", "_law_cells"] (defScope s__law_events) := ⟨rfl, rfl, rfl, by decide +kernel, rfl, by decide +kernel, by decide +kernel⟩
set_option maxHeartbeats 4000000 in
theorem r__law_events {φ__law_stream : List D → M D} {k__law_stream : Nat} {φ__law_worth : List D → M D} {k__law_worth : Nat} {k : Nat} {f : Addr} (F__law_stream : Fn P w K mg base "_law_stream" ["_law_cell", "_law_many"] k__law_stream φ__law_stream) (hk__law_stream : k__law_stream ≤ k) (F__law_worth : Fn P w K mg base "_law_worth" ["_law_making_here", "_law_written", "_law_x"] k__law_worth φ__law_worth) (hk__law_worth : k__law_worth ≤ k) (y_len : mg "len" = none) (y_int : mg "int" = none) (cdv : Value) (A : Around) (outer : List Env) (s : Shared) (H : Hp) (E : XK) (hr : Room k (A.deeper (PyProof.Rows.envOfC "_law_events" (defScope s__law_events) s.heap.objs.size f cdv))) :
    RSs (cxOf CX0 P w K mg base ["_law_making_here", "_law_cells", "_law_busy", "_law_events_here", "_law_written", "_law_names", "_law_cell", "_law_x", "_law_name", "_law_worth_here", "_law_event"] "_law_events" (defScope s__law_events) f cdv A outer s H E).nox (defBody s__law_events) (m__law_events φ__law_stream φ__law_worth) := by
  have nd := sc__law_events.nd
  exact (rss_cons (rs_set 2 nd (re_lstB ra_nil))
      (rss_cons (rs_set 3 nd (re_lstB ra_nil))
      (rss_cons (rs_set 4 nd (re_lstB (ra_cons (re_ix o_ix (re_slot 0) re_int) ra_nil)))
      (rss_cons (rs_setComp 5 (tgs := ["_law_hand"]) (ix := []) (i := 0) (n := 1) nd ⟨rfl, by decide +kernel, by decide +kernel, trivial, rfl, by decide +kernel⟩ rfl (ri_seq (re_ix o_ix (re_slot 0) re_int)) (fun _ _ _ _ => pg_name (i := 0) (show List.Nodup (["_law_hand"] : List Str) from by decide +kernel) rfl (Or.inl rfl)) (fun _ _ _ _ => rifs_nil) (fun _ _ _ _ => (re_ix o_ix (re_slot 0) re_int)) (fun _ _ _ _ _ _ _ _ R i e q => newL_ok R i e q))
      (rss_cons (rs_for PassesOwn.never rfl (ri_seq (re_slot 1)) (rg_name 6 nd) (rss_cons (rs_set 7 nd (re_ix o_ix (re_fn (hkj := hk__law_stream) F__law_stream hr (ra_cons (re_slot 6) (ra_cons re_int ra_nil))) re_int))
      (rss_cons (rs_set 8 nd (re_ix o_ix (re_slot 5) (re_op o_mod (re_slot 7) (re_callB c_len y_len Mi.boot_len (ra_cons (re_slot 5) ra_nil)))))
      (rss_cons (rs_if (rt_cmp (o_eq hr) (re_op o_mod (re_op o_fdiv (re_slot 7) re_int) re_int) re_int) (rss_one (rs_set 8 nd (re_ix o_ix (re_slot 5) re_int))) rss_nil)
      (rss_cons (rs_set 9 nd (re_op o_mod (re_op o_fdiv (re_slot 7) re_int) (re_ix o_ix (re_slot 0) re_int)))
      (rss_cons (rs_set 10 nd (re_tup (ra_cons (re_ix o_ix (re_lst (ra_cons re_str (ra_cons re_str ra_nil))) (re_callTy c_int y_int Mi.boot_int (ra_cons (re_cmp o_in (re_slot 8) (re_slot 2)) ra_nil))) (ra_cons (re_slot 8) ra_nil))))
      (rss_cons (rs_if (RW.rt (rw_and (rt_cmp (o_eq hr) (re_slot 8) (re_ix o_ix (re_slot 5) re_int)) (rw_and1 (rt_cmp (o_eq hr) (re_ix o_ix (re_slot 10) re_int) re_str)))) (rss_cons (rs_set 10 nd (re_op o_add2 (re_slot 10) (re_tup (ra_cons (re_slot 9) ra_nil))))
      (rss_one (rs_expr (re_methL PySem.F.slot_list_append PySem.F.type_list_append m_append (re_slot 4) (ra_cons (re_slot 9) ra_nil))))) rss_nil)
      (rss_cons (rs_if (RW.rt (rw_and (rt_cmp (o_ne hr) (re_slot 8) (re_ix o_ix (re_slot 5) re_int)) (rw_and1 (rt_cmp (o_eq hr) (re_ix o_ix (re_slot 10) re_int) re_str)))) (rss_one (rs_set 10 nd (re_op o_add2 (re_slot 10) (re_tup (ra_cons (re_fn (hkj := hk__law_worth) F__law_worth hr (ra_cons (re_slot 0) (ra_cons (re_slot 4) (ra_cons (re_op o_fdiv (re_slot 7) re_int) ra_nil)))) ra_nil))))) rss_nil)
      (rss_cons (rs_expr (re_methL PySem.F.slot_list_append PySem.F.type_list_append m_append (re_slot 3) (ra_cons (re_slot 10) ra_nil)))
      (rss_one (rs_if (rt_cmp o_in (re_slot 8) (re_slot 2)) (rss_one (rs_expr (re_methL PySem.F.slot_list_remove PySem.F.type_list_remove m_remove (re_slot 2) (ra_cons (re_slot 8) ra_nil)))) (rss_one (rs_expr (re_methL PySem.F.slot_list_append PySem.F.type_list_append m_append (re_slot 2) (ra_cons (re_slot 8) ra_nil)))))))))))))))
      (rss_one (rs_ret (re_slot 3))))))))
noncomputable abbrev s__law_told : Stmt := top 36
theorem sc__law_told : FnScope ["_law_making_here", "_law_events_here", "_law_at", "_law_name", "_law_first", "_law_writer", "_law_last", "_law_found", "_law_k", "_law_event", "_law_ends"] ["_law_making_here", "_law_events_here", "_law_at"] (defScope s__law_told) := ⟨rfl, rfl, rfl, by decide +kernel, rfl, by decide +kernel, by decide +kernel⟩
set_option maxHeartbeats 4000000 in
theorem r__law_told  {k : Nat} {f : Addr} (y_range : mg "range" = none) (y_max : mg "max" = none) (y_enumerate : mg "enumerate" = none) (y_len : mg "len" = none) (y_list : mg "list" = none) (y_sorted : mg "sorted" = none) (y_set : mg "set" = none) (cdv : Value) (A : Around) (outer : List Env) (s : Shared) (H : Hp) (E : XK) (hr : Room k (A.deeper (PyProof.Rows.envOfC "_law_told" (defScope s__law_told) s.heap.objs.size f cdv))) :
    RSs (cxOf CX0 P w K mg base ["_law_making_here", "_law_events_here", "_law_at", "_law_name", "_law_first", "_law_writer", "_law_last", "_law_found", "_law_k", "_law_event", "_law_ends"] "_law_told" (defScope s__law_told) f cdv A outer s H E).nox (defBody s__law_told) (m__law_told) := by
  have nd := sc__law_told.nd
  exact (rss_cons (rs_set 3 nd (re_ix o_ix (re_ix o_ix (re_slot 1) (re_slot 2)) re_int))
      (rss_cons (rs_set 4 nd (re_callB (c_max1 rfl) y_max Mi.boot_max (ra_cons (re_comp (tgs := ["_law_k"]) (ix := [1, 3]) (i := 0) (n := 1) ⟨rfl, by decide +kernel, by decide +kernel, ⟨Or.inl rfl, Or.inl rfl, trivial⟩, rfl, by decide +kernel⟩ rfl (ri_range1 y_range (ra_cons (re_slot 2) ra_nil)) (fun _ _ _ _ => pg_name (i := 0) (show List.Nodup (["_law_k", "_law_events_here", "_law_name"] : List Str) from by decide +kernel) rfl (Or.inl rfl)) (fun _ _ _ _ => rifs_one (rt_cmp (o_eq hr) (re_sl2 (re_ix o_ix (re_slot 1) (re_slot 0)) ro_none (ro_some re_int)) (re_tup (ra_cons re_str (ra_cons (re_slot 2) ra_nil))))) (fun _ _ _ _ => (re_slot 0))) ra_nil)))
      (rss_cons (rs_set 5 nd (re_ix o_ix (re_ix o_ix (re_ix o_ix (re_slot 0) re_int) re_int) re_int))
      (rss_cons (rs_set 6 nd (re_ix o_ix (re_slot 0) re_int))
      (rss_cons (rs_set 7 nd (re_lstB ra_nil))
      (rss_cons (rs_for PassesOwn.never rfl (ri_enumL y_enumerate (ra_cons (re_sl2 (re_slot 1) ro_none (ro_some (re_slot 2))) ra_nil)) (rg_tup (is := [8, 9]) rfl (pgs_cons (pg_name (i := 8) nd rfl (by first | exact Or.inl rfl | exact Or.inr rfl)) (pgs_cons (pg_name (i := 9) nd rfl (by first | exact Or.inl rfl | exact Or.inr rfl)) pgs_nil))) (rss_one (rs_if (rt_cmp (o_eq hr) (re_sl2 (re_slot 9) ro_none (ro_some re_int)) (re_tup (ra_cons re_str (ra_cons (re_slot 5) ra_nil)))) (rss_cons (rs_setComp 10 (tgs := ["_law_j"]) (ix := [1, 5]) (i := 0) (n := 1) nd ⟨rfl, by decide +kernel, by decide +kernel, ⟨Or.inl rfl, Or.inl rfl, trivial⟩, rfl, by decide +kernel⟩ rfl (ri_range2 y_range (ra_cons (re_slot 8) (ra_cons (re_callB c_len y_len Mi.boot_len (ra_cons (re_slot 1) ra_nil)) ra_nil))) (fun _ _ _ _ => pg_name (i := 0) (show List.Nodup (["_law_j", "_law_events_here", "_law_writer"] : List Str) from by decide +kernel) rfl (Or.inl rfl)) (fun _ _ _ _ => rifs_one (rt_cmp (o_eq hr) (re_ix o_ix (re_slot 1) (re_slot 0)) (re_tup (ra_cons re_str (ra_cons (re_slot 2) ra_nil))))) (fun _ _ _ _ => (re_slot 0)) (fun _ _ _ _ _ _ _ _ R i e q => newL_ok R i e q))
      (rss_one (rs_if (RW.rt (rw_and (rt_cmp (o_ne hr) (re_slot 10) (re_lst ra_nil)) (rw_and1 (rt_cmp o_lt (re_ix o_ix (re_slot 10) re_int) (re_slot 4))))) (rss_one (rs_set 6 nd (re_ix o_ix (re_slot 9) re_int))) (rss_one (rs_expr (re_methL PySem.F.slot_list_append PySem.F.type_list_append m_append (re_slot 7) (ra_cons (re_ix o_ix (re_slot 9) re_int) ra_nil))))))) rss_nil)))
      (rss_cons (rs_if (RW.rt (rw_and (rt_cmp (o_eq hr) (re_ix o_ix (re_slot 0) re_int) re_str) (rw_and1 (rt_cmp (o_ne hr) (re_slot 7) (re_lst ra_nil))))) (rss_one (rs_ret (re_listrng y_list y_range (re_ix o_ix (re_slot 0) re_int)))) rss_nil)
      (rss_one (rs_ret (re_sortset y_sorted y_set (re_op o_addR (re_lst (ra_cons (re_slot 6) ra_nil)) (re_slot 7))))))))))))
noncomputable abbrev s__law_kept : Stmt := top 37
theorem sc__law_kept : FnScope ["_law_making_here", "_law_events_here", "_law_at", "_law_event"] ["_law_making_here", "_law_events_here"] (defScope s__law_kept) := ⟨rfl, rfl, rfl, by decide +kernel, rfl, by decide +kernel, by decide +kernel⟩
set_option maxHeartbeats 4000000 in
theorem r__law_kept {φ__law_told : List D → M D} {k__law_told : Nat} {k : Nat} {f : Addr} (F__law_told : Fn P w K mg base "_law_told" ["_law_making_here", "_law_events_here", "_law_at"] k__law_told φ__law_told) (hk__law_told : k__law_told ≤ k) (y_enumerate : mg "enumerate" = none) (y_len : mg "len" = none) (cdv : Value) (A : Around) (outer : List Env) (s : Shared) (H : Hp) (E : XK) (hr : Room k (A.deeper (PyProof.Rows.envOfC "_law_kept" (defScope s__law_kept) s.heap.objs.size f cdv))) :
    RSs (cxOf CX0 P w K mg base ["_law_making_here", "_law_events_here", "_law_at", "_law_event"] "_law_kept" (defScope s__law_kept) f cdv A outer s H E).nox (defBody s__law_kept) (m__law_kept φ__law_told) := by
  have nd := sc__law_kept.nd
  exact (rss_cons (rs_for PassesOwn.never rfl (ri_enumL y_enumerate (ra_cons (re_slot 1) ra_nil)) (rg_tup (is := [2, 3]) rfl (pgs_cons (pg_name (i := 2) nd rfl (by first | exact Or.inl rfl | exact Or.inr rfl)) (pgs_cons (pg_name (i := 3) nd rfl (by first | exact Or.inl rfl | exact Or.inr rfl)) pgs_nil))) (rss_one (rs_if (RW.rt (rw_and (rt_cmp (o_eq hr) (re_ix o_ix (re_slot 3) re_int) re_str) (rw_and (rt_cmp (o_eq hr) (re_callB c_len y_len Mi.boot_len (ra_cons (re_slot 3) ra_nil)) re_int) (rw_and1 (rt_cmp o_notin (re_ix o_ix (re_slot 3) re_int) (re_fn (hkj := hk__law_told) F__law_told hr (ra_cons (re_slot 0) (ra_cons (re_slot 1) (ra_cons (re_slot 2) ra_nil))))))))) (rss_one (rs_ret re_bl)) rss_nil)))
      (rss_one (rs_ret re_bl)))
noncomputable abbrev s_law : Stmt := top 38
theorem sc_law : FnScope ["_law_script", "_law_first", "_law_making_here", "_law_events_here", "_law_many", "_law_handed", "_law_found"] ["_law_script"] (defScope s_law) := ⟨rfl, rfl, rfl, by decide +kernel, rfl, by decide +kernel, by decide +kernel⟩
set_option maxHeartbeats 4000000 in
theorem r_law {φ__law_cell_at : List D → M D} {k__law_cell_at : Nat} {φ__law_making : List D → M D} {k__law_making : Nat} {φ__law_events : List D → M D} {k__law_events : Nat} {φ_judged : List D → M D} {k_judged : Nat} {φ__law_kept : List D → M D} {k__law_kept : Nat} {k : Nat} {f : Addr} (F__law_cell_at : Fn P w K mg base "_law_cell_at" ["_law_script", "_law_k"] k__law_cell_at φ__law_cell_at) (hk__law_cell_at : k__law_cell_at ≤ k) (F__law_making : Fn P w K mg base "_law_making" ["_law_x", "_law_kind"] k__law_making φ__law_making) (hk__law_making : k__law_making ≤ k) (F__law_events : Fn P w K mg base "_law_events" ["_law_making_here", "_law_cells"] k__law_events φ__law_events) (hk__law_events : k__law_events ≤ k) (F_judged : Fn P w K mg base "judged" ["making", "events"] k_judged φ_judged) (hk_judged : k_judged ≤ k) (F__law_kept : Fn P w K mg base "_law_kept" ["_law_making_here", "_law_events_here"] k__law_kept φ__law_kept) (hk__law_kept : k__law_kept ≤ k) (y_range : mg "range" = none) (y_len : mg "len" = none) (y_list : mg "list" = none) (y_bool : mg "bool" = none) (y_isinstance : mg "isinstance" = none) (cdv : Value) (A : Around) (outer : List Env) (s : Shared) (H : Hp) (E : XK) (hr : Room k (A.deeper (PyProof.Rows.envOfC "law" (defScope s_law) s.heap.objs.size f cdv))) :
    RSs (cxOf CX0 P w K mg base ["_law_script", "_law_first", "_law_making_here", "_law_events_here", "_law_many", "_law_handed", "_law_found"] "law" (defScope s_law) f cdv A outer s H E).nox (defBody s_law) (m_law φ__law_cell_at φ__law_making φ__law_events φ_judged φ__law_kept) := by
  have nd := sc_law.nd
  exact (rss_cons (rs_set 1 nd (re_fn (hkj := hk__law_cell_at) F__law_cell_at hr (ra_cons (re_slot 0) (ra_cons re_int ra_nil))))
      (rss_cons (rs_set 2 nd (re_fn (hkj := hk__law_making) F__law_making hr (ra_cons (re_op o_fdiv (re_slot 1) re_int) (ra_cons (re_ix o_ix (re_lst (ra_cons re_str (ra_cons re_str ra_nil))) (re_op o_mod (re_slot 1) re_int)) ra_nil))))
      (rss_cons (rs_set 3 nd (re_fn (hkj := hk__law_events) F__law_events hr (ra_cons (re_slot 2) (ra_cons (re_sl2 (re_slot 0) (ro_some re_int) (ro_some re_int)) ra_nil))))
      (rss_cons (rs_for PassesOwn.never rfl (ri_range1 y_range (ra_cons (re_op o_add2 (re_callB c_len y_len Mi.boot_len (ra_cons (re_slot 3) ra_nil)) re_int) ra_nil)) (rg_name 4 nd) (rss_cons (rs_set 5 nd (re_callTy c_listL y_list Mi.boot_list (ra_cons (re_sl2 (re_slot 3) ro_none (ro_some (re_slot 4))) ra_nil)))
      (rss_cons (rs_set 6 nd (re_fn (hkj := hk_judged) F_judged hr (ra_cons (re_slot 2) (ra_cons (re_slot 5) ra_nil))))
      (rss_one (rs_if (RW.rt (rw_or (rt_not (rt_val (re_callB c_inst y_isinstance Mi.boot_isinstance (ra_cons (re_slot 6) (ra_cons (re_bltn y_bool Mi.boot_bool) ra_nil))))) (rw_or (rt_cmp (o_ne hr) (re_slot 6) (re_fn (hkj := hk__law_kept) F__law_kept hr (ra_cons (re_slot 2) (ra_cons (re_sl2 (re_slot 3) ro_none (ro_some (re_slot 4))) ra_nil)))) (rw_or1 (rt_cmp (o_ne hr) (re_slot 5) (re_sl2 (re_slot 3) ro_none (ro_some (re_slot 4)))))))) (rss_one (rs_ret re_bl)) rss_nil)))))
      (rss_one (rs_ret re_bl))))))
end
end K13
namespace K13
open PySem L2 Mi
set_option maxHeartbeats 4000000 in
theorem all_mk {l : PySem.W.OpenLaw} {w : World} {K : PySem.W.Frag} {h : Heap} {mg : Str → Option Value} {fa : Addr} (hφ : ∀ ns : List Int, ns.length ≤ 63 → ∃ μ', f_law [.scr ns] [] = some (.bl true, μ')) (X : K.In h) (G : h.Ns mainGlobals mg) (hfa : mg "law" = some (.ref fa))
    (e__law_cell_at : ∃ f fd, Df K "_law_cell_at" s__law_cell_at f fd)
    (e__law_making : ∃ f fd, Df K "_law_making" s__law_making f fd)
    (e__law_stream : ∃ f fd, Df K "_law_stream" s__law_stream f fd)
    (e__law_worth : ∃ f fd, Df K "_law_worth" s__law_worth f fd)
    (e__law_events : ∃ f fd, Df K "_law_events" s__law_events f fd)
    (e_claim_begun : ∃ f fd, Df K "claim_begun" s_claim_begun f fd)
    (e_is_tuple : ∃ f fd, Df K "is_tuple" s_is_tuple f fd)
    (e_is_whole : ∃ f fd, Df K "is_whole" s_is_whole f fd)
    (e_is_event : ∃ f fd, Df K "is_event" s_is_event f fd)
    (e_acts_of : ∃ f fd, Df K "acts_of" s_acts_of f fd)
    (e_case_begun : ∃ f fd, Df K "case_begun" s_case_begun f fd)
    (e_closed : ∃ f fd, Df K "closed" s_closed f fd)
    (e_beside : ∃ f fd, Df K "beside" s_beside f fd)
    (e_claim_writes : ∃ f fd, Df K "claim_writes" s_claim_writes f fd)
    (e_cases_ended : ∃ f fd, Df K "cases_ended" s_cases_ended f fd)
    (e_claim_written : ∃ f fd, Df K "claim_written" s_claim_written f fd)
    (e_with_thing : ∃ f fd, Df K "with_thing" s_with_thing f fd)
    (e_claim_reads : ∃ f fd, Df K "claim_reads" s_claim_reads f fd)
    (e_claim_told : ∃ f fd, Df K "claim_told" s_claim_told f fd)
    (e_claim_behind : ∃ f fd, Df K "claim_behind" s_claim_behind f fd)
    (e_judged : ∃ f fd, Df K "judged" s_judged f fd)
    (e__law_told : ∃ f fd, Df K "_law_told" s__law_told f fd)
    (e__law_kept : ∃ f fd, Df K "_law_kept" s__law_kept f fd)
    (e_law : ∃ f fd, Df K "law" s_law f fd)
    (z_bool : PySem.W.nsIn K mainGlobals "bool" = some none)
    (z_enumerate : PySem.W.nsIn K mainGlobals "enumerate" = some none)
    (z_int : PySem.W.nsIn K mainGlobals "int" = some none)
    (z_isinstance : PySem.W.nsIn K mainGlobals "isinstance" = some none)
    (z_len : PySem.W.nsIn K mainGlobals "len" = some none)
    (z_list : PySem.W.nsIn K mainGlobals "list" = some none)
    (z_max : PySem.W.nsIn K mainGlobals "max" = some none)
    (z_range : PySem.W.nsIn K mainGlobals "range" = some none)
    (z_set : PySem.W.nsIn K mainGlobals "set" = some none)
    (z_sorted : PySem.W.nsIn K mainGlobals "sorted" = some none)
    (z_tuple : PySem.W.nsIn K mainGlobals "tuple" = some none)
    (g_NONE : Glo K mg "NONE" d_NONE)
    (g_NO_WORTH : Glo K mg "NO_WORTH" d_NO_WORTH) :
    ∃ fd : FuncData, (∀ (s : Shared) (v : Value), BindsTo s fd ⟨[v], []⟩ [("_law_script", v)]) ∧ ∀ base : Heap, K.In base → base.Ns mainGlobals mg → FnOk l.prog w K mg base CX0 5 fa fd ["_law_script"] (spTop K) := by
  have y_bool := PySem.W.mg_none_of X G z_bool
  have y_enumerate := PySem.W.mg_none_of X G z_enumerate
  have y_int := PySem.W.mg_none_of X G z_int
  have y_isinstance := PySem.W.mg_none_of X G z_isinstance
  have y_len := PySem.W.mg_none_of X G z_len
  have y_list := PySem.W.mg_none_of X G z_list
  have y_max := PySem.W.mg_none_of X G z_max
  have y_range := PySem.W.mg_none_of X G z_range
  have y_set := PySem.W.mg_none_of X G z_set
  have y_sorted := PySem.W.mg_none_of X G z_sorted
  have y_tuple := PySem.W.mg_none_of X G z_tuple
  obtain ⟨fa__law_cell_at, fd__law_cell_at, d__law_cell_at⟩ := e__law_cell_at
  have m__law_cell_at := PySem.W.mg_of X G d__law_cell_at.a
  have b__law_cell_at := d__law_cell_at.F.binds (ps := ["_law_script", "_law_k"]) fun _ _ _ _ _ _ us hl => match us, hl with | [_, _], _ => rfl
  obtain ⟨fa__law_making, fd__law_making, d__law_making⟩ := e__law_making
  have m__law_making := PySem.W.mg_of X G d__law_making.a
  have b__law_making := d__law_making.F.binds (ps := ["_law_x", "_law_kind"]) fun _ _ _ _ _ _ us hl => match us, hl with | [_, _], _ => rfl
  obtain ⟨fa__law_stream, fd__law_stream, d__law_stream⟩ := e__law_stream
  have m__law_stream := PySem.W.mg_of X G d__law_stream.a
  have b__law_stream := d__law_stream.F.binds (ps := ["_law_cell", "_law_many"]) fun _ _ _ _ _ _ us hl => match us, hl with | [_, _], _ => rfl
  obtain ⟨fa__law_worth, fd__law_worth, d__law_worth⟩ := e__law_worth
  have m__law_worth := PySem.W.mg_of X G d__law_worth.a
  have b__law_worth := d__law_worth.F.binds (ps := ["_law_making_here", "_law_written", "_law_x"]) fun _ _ _ _ _ _ us hl => match us, hl with | [_, _, _], _ => rfl
  obtain ⟨fa__law_events, fd__law_events, d__law_events⟩ := e__law_events
  have m__law_events := PySem.W.mg_of X G d__law_events.a
  have b__law_events := d__law_events.F.binds (ps := ["_law_making_here", "_law_cells"]) fun _ _ _ _ _ _ us hl => match us, hl with | [_, _], _ => rfl
  obtain ⟨fa_claim_begun, fd_claim_begun, d_claim_begun⟩ := e_claim_begun
  have m_claim_begun := PySem.W.mg_of X G d_claim_begun.a
  have b_claim_begun := d_claim_begun.F.binds (ps := ["making"]) fun _ _ _ _ _ _ us hl => match us, hl with | [_], _ => rfl
  obtain ⟨fa_is_tuple, fd_is_tuple, d_is_tuple⟩ := e_is_tuple
  have m_is_tuple := PySem.W.mg_of X G d_is_tuple.a
  have b_is_tuple := d_is_tuple.F.binds (ps := ["thing", "least", "most"]) fun _ _ _ _ _ _ us hl => match us, hl with | [_, _, _], _ => rfl
  obtain ⟨fa_is_whole, fd_is_whole, d_is_whole⟩ := e_is_whole
  have m_is_whole := PySem.W.mg_of X G d_is_whole.a
  have b_is_whole := d_is_whole.F.binds (ps := ["thing", "least", "most"]) fun _ _ _ _ _ _ us hl => match us, hl with | [_, _, _], _ => rfl
  obtain ⟨fa_is_event, fd_is_event, d_is_event⟩ := e_is_event
  have m_is_event := PySem.W.mg_of X G d_is_event.a
  have b_is_event := d_is_event.F.binds (ps := ["thing", "names", "size"]) fun _ _ _ _ _ _ us hl => match us, hl with | [_, _, _], _ => rfl
  obtain ⟨fa_acts_of, fd_acts_of, d_acts_of⟩ := e_acts_of
  have m_acts_of := PySem.W.mg_of X G d_acts_of.a
  have b_acts_of := d_acts_of.F.binds (ps := ["making", "events"]) fun _ _ _ _ _ _ us hl => match us, hl with | [_, _], _ => rfl
  obtain ⟨fa_case_begun, fd_case_begun, d_case_begun⟩ := e_case_begun
  have m_case_begun := PySem.W.mg_of X G d_case_begun.a
  have b_case_begun := d_case_begun.F.binds (ps := ["case", "hand", "worth"]) fun _ _ _ _ _ _ us hl => match us, hl with | [_, _, _], _ => rfl
  obtain ⟨fa_closed, fd_closed, d_closed⟩ := e_closed
  have m_closed := PySem.W.mg_of X G d_closed.a
  have b_closed := d_closed.F.binds (ps := ["cases"]) fun _ _ _ _ _ _ us hl => match us, hl with | [_], _ => rfl
  obtain ⟨fa_beside, fd_beside, d_beside⟩ := e_beside
  have m_beside := PySem.W.mg_of X G d_beside.a
  have b_beside := d_beside.F.binds (ps := ["kind", "size", "worths", "coming"]) fun _ _ _ _ _ _ us hl => match us, hl with | [_, _, _, _], _ => rfl
  obtain ⟨fa_claim_writes, fd_claim_writes, d_claim_writes⟩ := e_claim_writes
  have m_claim_writes := PySem.W.mg_of X G d_claim_writes.a
  have b_claim_writes := d_claim_writes.F.binds (ps := ["making", "claim", "worth"]) fun _ _ _ _ _ _ us hl => match us, hl with | [_, _, _], _ => rfl
  obtain ⟨fa_cases_ended, fd_cases_ended, d_cases_ended⟩ := e_cases_ended
  have m_cases_ended := PySem.W.mg_of X G d_cases_ended.a
  have b_cases_ended := d_cases_ended.F.binds (ps := ["cases", "hand", "worth"]) fun _ _ _ _ _ _ us hl => match us, hl with | [_, _, _], _ => rfl
  obtain ⟨fa_claim_written, fd_claim_written, d_claim_written⟩ := e_claim_written
  have m_claim_written := PySem.W.mg_of X G d_claim_written.a
  have b_claim_written := d_claim_written.F.binds (ps := ["making", "claim"]) fun _ _ _ _ _ _ us hl => match us, hl with | [_, _], _ => rfl
  obtain ⟨fa_with_thing, fd_with_thing, d_with_thing⟩ := e_with_thing
  have m_with_thing := PySem.W.mg_of X G d_with_thing.a
  have b_with_thing := d_with_thing.F.binds (ps := ["things", "place", "thing"]) fun _ _ _ _ _ _ us hl => match us, hl with | [_, _, _], _ => rfl
  obtain ⟨fa_claim_reads, fd_claim_reads, d_claim_reads⟩ := e_claim_reads
  have m_claim_reads := PySem.W.mg_of X G d_claim_reads.a
  have b_claim_reads := d_claim_reads.F.binds (ps := ["making", "claim", "reader"]) fun _ _ _ _ _ _ us hl => match us, hl with | [_, _, _], _ => rfl
  obtain ⟨fa_claim_told, fd_claim_told, d_claim_told⟩ := e_claim_told
  have m_claim_told := PySem.W.mg_of X G d_claim_told.a
  have b_claim_told := d_claim_told.F.binds (ps := ["making", "claim", "reader", "worth"]) fun _ _ _ _ _ _ us hl => match us, hl with | [_, _, _, _], _ => rfl
  obtain ⟨fa_claim_behind, fd_claim_behind, d_claim_behind⟩ := e_claim_behind
  have m_claim_behind := PySem.W.mg_of X G d_claim_behind.a
  have b_claim_behind := d_claim_behind.F.binds (ps := ["making", "claim", "act"]) fun _ _ _ _ _ _ us hl => match us, hl with | [_, _, _], _ => rfl
  obtain ⟨fa_judged, fd_judged, d_judged⟩ := e_judged
  have m_judged := PySem.W.mg_of X G d_judged.a
  have b_judged := d_judged.F.binds (ps := ["making", "events"]) fun _ _ _ _ _ _ us hl => match us, hl with | [_, _], _ => rfl
  obtain ⟨fa__law_told, fd__law_told, d__law_told⟩ := e__law_told
  have m__law_told := PySem.W.mg_of X G d__law_told.a
  have b__law_told := d__law_told.F.binds (ps := ["_law_making_here", "_law_events_here", "_law_at"]) fun _ _ _ _ _ _ us hl => match us, hl with | [_, _, _], _ => rfl
  obtain ⟨fa__law_kept, fd__law_kept, d__law_kept⟩ := e__law_kept
  have m__law_kept := PySem.W.mg_of X G d__law_kept.a
  have b__law_kept := d__law_kept.F.binds (ps := ["_law_making_here", "_law_events_here"]) fun _ _ _ _ _ _ us hl => match us, hl with | [_, _], _ => rfl
  obtain ⟨fa_law, fd_law, d_law⟩ := e_law
  have m_law := PySem.W.mg_of X G d_law.a
  have b_law := d_law.F.binds (ps := ["_law_script"]) fun _ _ _ _ _ _ us hl => match us, hl with | [_], _ => rfl
  have e := hfa.symm.trans m_law
  cases e
  refine ⟨fd_law, fun s v => ?_, fun base _ _ => ?_⟩
  · obtain ⟨oc, od, kV, doc, pm, an, cdv, ct, osl, rfl, lk, hcd⟩ := d_law.F.ex
    exact .of_eq rfl
  have F__law_cell_at : Fn l.prog w K mg base "_law_cell_at" ["_law_script", "_law_k"] 1 f__law_cell_at := fn_self (k := 0) .drop d__law_cell_at.F sc__law_cell_at m__law_cell_at b__law_cell_at (r__law_cell_at y_len)
  have F__law_making : Fn l.prog w K mg base "_law_making" ["_law_x", "_law_kind"] 1 f__law_making := fn_self (k := 0) .drop d__law_making.F sc__law_making m__law_making b__law_making (r__law_making y_tuple)
  have F__law_stream : Fn l.prog w K mg base "_law_stream" ["_law_cell", "_law_many"] 1 f__law_stream := fn_self (k := 0) .drop d__law_stream.F sc__law_stream m__law_stream b__law_stream (r__law_stream y_len y_range)
  have F__law_worth : Fn l.prog w K mg base "_law_worth" ["_law_making_here", "_law_written", "_law_x"] 1 f__law_worth := fn_self (k := 0) .drop d__law_worth.F sc__law_worth m__law_worth b__law_worth (r__law_worth y_len)
  have F__law_events : Fn l.prog w K mg base "_law_events" ["_law_making_here", "_law_cells"] 2 f__law_events := fn_self (k := 1) .frz d__law_events.F sc__law_events m__law_events b__law_events (r__law_events F__law_stream (by decide) F__law_worth (by decide) y_len y_int)
  have F_claim_begun : Fn l.prog w K mg base "claim_begun" ["making"] 1 f_claim_begun := fn_self (k := 0) .drop d_claim_begun.F sc_claim_begun m_claim_begun b_claim_begun (r_claim_begun y_len g_NONE)
  have F_is_tuple : Fn l.prog w K mg base "is_tuple" ["thing", "least", "most"] 1 f_is_tuple := fn_self (k := 0) .drop d_is_tuple.F sc_is_tuple m_is_tuple b_is_tuple (r_is_tuple y_tuple y_isinstance y_len)
  have F_is_whole : Fn l.prog w K mg base "is_whole" ["thing", "least", "most"] 1 f_is_whole := fn_self (k := 0) .drop d_is_whole.F sc_is_whole m_is_whole b_is_whole (r_is_whole y_int y_isinstance y_bool)
  have F_is_event : Fn l.prog w K mg base "is_event" ["thing", "names", "size"] 2 f_is_event := fn_self (k := 1) .drop d_is_event.F sc_is_event m_is_event b_is_event (r_is_event F_is_tuple (by decide) F_is_whole (by decide) y_len)
  have F_acts_of : Fn l.prog w K mg base "acts_of" ["making", "events"] 3 f_acts_of := fn_self (k := 2) .frz d_acts_of.F sc_acts_of m_acts_of b_acts_of (r_acts_of F_is_event (by decide) y_list y_isinstance y_enumerate y_len g_NO_WORTH)
  have F_case_begun : Fn l.prog w K mg base "case_begun" ["case", "hand", "worth"] 1 f_case_begun := fn_never d_case_begun.F m_case_begun b_case_begun
  have F_closed : Fn l.prog w K mg base "closed" ["cases"] 1 f_closed := fn_never d_closed.F m_closed b_closed
  have F_beside : Fn l.prog w K mg base "beside" ["kind", "size", "worths", "coming"] 1 f_beside := fn_self (k := 0) .drop d_beside.F sc_beside m_beside b_beside (r_beside y_tuple y_range y_sorted y_set)
  have F_claim_writes : Fn l.prog w K mg base "claim_writes" ["making", "claim", "worth"] 2 f_claim_writes := fn_self (k := 1) .drop d_claim_writes.F sc_claim_writes m_claim_writes b_claim_writes (r_claim_writes F_case_begun (by decide) F_closed (by decide) F_beside (by decide) y_tuple)
  have F_cases_ended : Fn l.prog w K mg base "cases_ended" ["cases", "hand", "worth"] 1 f_cases_ended := fn_never d_cases_ended.F m_cases_ended b_cases_ended
  have F_claim_written : Fn l.prog w K mg base "claim_written" ["making", "claim"] 2 f_claim_written := fn_self (k := 1) .drop d_claim_written.F sc_claim_written m_claim_written b_claim_written (r_claim_written F_cases_ended (by decide) F_closed (by decide) g_NONE)
  have F_with_thing : Fn l.prog w K mg base "with_thing" ["things", "place", "thing"] 1 f_with_thing := fn_self (k := 0) .drop d_with_thing.F sc_with_thing m_with_thing b_with_thing r_with_thing
  have F_claim_reads : Fn l.prog w K mg base "claim_reads" ["making", "claim", "reader"] 2 f_claim_reads := fn_self (k := 1) .drop d_claim_reads.F sc_claim_reads m_claim_reads b_claim_reads (r_claim_reads F_case_begun (by decide) F_closed (by decide) F_beside (by decide) F_with_thing (by decide) g_NONE)
  have F_claim_told : Fn l.prog w K mg base "claim_told" ["making", "claim", "reader", "worth"] 2 f_claim_told := fn_self (k := 1) .drop d_claim_told.F sc_claim_told m_claim_told b_claim_told (r_claim_told F_cases_ended (by decide) F_closed (by decide) F_with_thing (by decide))
  have F_claim_behind : Fn l.prog w K mg base "claim_behind" ["making", "claim", "act"] 3 f_claim_behind := fn_self (k := 2) .drop d_claim_behind.F sc_claim_behind m_claim_behind b_claim_behind (r_claim_behind F_claim_writes (by decide) F_claim_written (by decide) F_claim_reads (by decide) F_claim_told (by decide))
  have F_judged : Fn l.prog w K mg base "judged" ["making", "events"] 4 f_judged := fn_self (k := 3) .drop d_judged.F sc_judged m_judged b_judged (r_judged F_claim_begun (by decide) F_acts_of (by decide) F_claim_behind (by decide))
  have F__law_told : Fn l.prog w K mg base "_law_told" ["_law_making_here", "_law_events_here", "_law_at"] 1 f__law_told := fn_self (k := 0) .drop d__law_told.F sc__law_told m__law_told b__law_told (r__law_told y_range y_max y_enumerate y_len y_list y_sorted y_set)
  have F__law_kept : Fn l.prog w K mg base "_law_kept" ["_law_making_here", "_law_events_here"] 2 f__law_kept := fn_self (k := 1) .drop d__law_kept.F sc__law_kept m__law_kept b__law_kept (r__law_kept F__law_told (by decide) y_enumerate y_len)
  exact top_of (φ := f_law) (fok_self (k := 4) .drop d_law.F sc_law (r_law F__law_cell_at (by decide) F__law_making (by decide) F__law_events (by decide) F_judged (by decide) F__law_kept (by decide) y_range y_len y_list y_bool y_isinstance)) hφ
end K13
open PySem PySem.W PyProof.Rows
local macro_rules | `(tactic| wtm_at "own qdf") => `(tactic| (refine' Mi.df_mk ?qa ?ql ?qc ?qk; (case qa => k_is); (case ql => k_is); (case qc => k_is); (case qk => k_is)))
local macro_rules | `(tactic| wtm_at "own qtl") => `(tactic| (refine' Mi.tl_mk ?pl ?pe; (case pl => k_is); (case pe => rfl)))
set_option maxRecDepth 100000 in
set_option maxHeartbeats 0 in
theorem PySem.Challenge.cw_strongboxes_k13_events_of_weak_boxes_jud_holds : PySem.Challenge.rw_strongboxes_k13_events_of_weak_boxes_jud.Holds := by
  w_on; o_law; k_head; (case hw => w_witness2)
  k_fill
  refine Mi.walkM (k := 5) (l := PySem.Challenge.rw_strongboxes_k13_events_of_weak_boxes_jud) rfl rfl (by decide) (fun w h Y => PySem.W.kIn_of Y) ?F
  case F =>
    intro w mg fa h KX G hmg
    refine' K13.all_mk K13.math KX G hmg ?e__law_cell_at ?e__law_making ?e__law_stream ?e__law_worth ?e__law_events ?e_claim_begun ?e_is_tuple ?e_is_whole ?e_is_event ?e_acts_of ?e_case_begun ?e_closed ?e_beside ?e_claim_writes ?e_cases_ended ?e_claim_written ?e_with_thing ?e_claim_reads ?e_claim_told ?e_claim_behind ?e_judged ?e__law_told ?e__law_kept ?e_law ?z_bool ?z_enumerate ?z_int ?z_isinstance ?z_len ?z_list ?z_max ?z_range ?z_set ?z_sorted ?z_tuple ?g_NONE ?g_NO_WORTH
    (case e__law_cell_at => wtm_at "own qdf")
    (case e__law_making => wtm_at "own qdf")
    (case e__law_stream => wtm_at "own qdf")
    (case e__law_worth => wtm_at "own qdf")
    (case e__law_events => wtm_at "own qdf")
    (case e_claim_begun => wtm_at "own qdf")
    (case e_is_tuple => wtm_at "own qdf")
    (case e_is_whole => wtm_at "own qdf")
    (case e_is_event => wtm_at "own qdf")
    (case e_acts_of => wtm_at "own qdf")
    (case e_case_begun => wtm_at "own qdf")
    (case e_closed => wtm_at "own qdf")
    (case e_beside => wtm_at "own qdf")
    (case e_claim_writes => wtm_at "own qdf")
    (case e_cases_ended => wtm_at "own qdf")
    (case e_claim_written => wtm_at "own qdf")
    (case e_with_thing => wtm_at "own qdf")
    (case e_claim_reads => wtm_at "own qdf")
    (case e_claim_told => wtm_at "own qdf")
    (case e_claim_behind => wtm_at "own qdf")
    (case e_judged => wtm_at "own qdf")
    (case e__law_told => wtm_at "own qdf")
    (case e__law_kept => wtm_at "own qdf")
    (case e_law => wtm_at "own qdf")
    (case z_bool => k_is)
    (case z_enumerate => k_is)
    (case z_int => k_is)
    (case z_isinstance => k_is)
    (case z_len => k_is)
    (case z_list => k_is)
    (case z_max => k_is)
    (case z_range => k_is)
    (case z_set => k_is)
    (case z_sorted => k_is)
    (case z_tuple => k_is)
    (case g_NONE => refine' Mi.glo_int KX G ?qa; (case qa => k_is))
    (case g_NO_WORTH => refine' Mi.glo_int KX G ?qa; (case qa => k_is))
